import Derived.Test.YtaokcbfenabbgaaDoorHF1
import Derived.Test.YtaokcbfenabbgaaDoorHS13Xa
import Derived.Lib.ItoaLen
set_option linter.all false
section
set_option maxRecDepth 100000
namespace Go.Ab.S13
open Go Go.Ab Go.Proofs
open Go.Ab.TV (hole cell comp isSl isSc isTup cellsL tup agg)
open Go.Ab.Prg (tv tvs rws nat chk call jmp ret)
def f16_M (x0:TV):Prg TV :=
 tv (pbin Kd.str .eql x0 (TV.lit (Value.string (ByteArray.mk (Array.mk [(99:UInt8),(111:UInt8),(110:UInt8),(115:UInt8),(116:UInt8)]))))) fun v0 =>
 Prg.ite (asBool v0) (
 ret (I 1)) (
 tv (pbin Kd.str .eql x0 (TV.lit (Value.string (ByteArray.mk (Array.mk [(99:UInt8),(111:UInt8),(112:UInt8),(121:UInt8)]))))) fun v1 =>
 Prg.ite (asBool v1) (
 ret (I 2)) (
 tv (pbin Kd.str .eql x0 (TV.lit (Value.string (ByteArray.mk (Array.mk [(97:UInt8),(100:UInt8),(100:UInt8)]))))) fun v2 =>
 Prg.ite (asBool v2) (
 ret (I 3)) (
 tv (pbin Kd.str .eql x0 (TV.lit (Value.string (ByteArray.mk (Array.mk [(115:UInt8),(117:UInt8),(98:UInt8)]))))) fun v3 =>
 Prg.ite (asBool v3) (
 ret (I 4)) (
 tv (pbin Kd.str .eql x0 (TV.lit (Value.string (ByteArray.mk (Array.mk [(109:UInt8),(117:UInt8),(108:UInt8)]))))) fun v4 =>
 Prg.ite (asBool v4) (
 ret (I 5)) (
 tv (pbin Kd.str .eql x0 (TV.lit (Value.string (ByteArray.mk (Array.mk [(100:UInt8),(105:UInt8),(118:UInt8)]))))) fun v5 =>
 Prg.ite (asBool v5) (
 ret (I 6)) (
 tv (pbin Kd.str .eql x0 (TV.lit (Value.string (ByteArray.mk (Array.mk [(101:UInt8),(113:UInt8)]))))) fun v6 =>
 Prg.ite (asBool v6) (
 ret (I 7)) (
 tv (pbin Kd.str .eql x0 (TV.lit (Value.string (ByteArray.mk (Array.mk [(108:UInt8),(116:UInt8)]))))) fun v7 =>
 Prg.ite (asBool v7) (
 ret (I 8)) (
 tv (pbin Kd.str .eql x0 (TV.lit (Value.string (ByteArray.mk (Array.mk [(108:UInt8),(111:UInt8),(97:UInt8),(100:UInt8)]))))) fun v8 =>
 Prg.ite (asBool v8) (
 ret (I 9)) (
 tv (pbin Kd.str .eql x0 (TV.lit (Value.string (ByteArray.mk (Array.mk [(115:UInt8),(116:UInt8),(111:UInt8),(114:UInt8),(101:UInt8)]))))) fun v9 =>
 Prg.ite (asBool v9) (
 ret (I 10)) (
 tv (pbin Kd.str .eql x0 (TV.lit (Value.string (ByteArray.mk (Array.mk [(99:UInt8),(97:UInt8),(108:UInt8),(108:UInt8)]))))) fun v10 =>
 Prg.ite (asBool v10) (
 ret (I 11)) (
 tv (pbin Kd.str .eql x0 (TV.lit (Value.string (ByteArray.mk (Array.mk [(111:UInt8),(117:UInt8),(116:UInt8)]))))) fun v11 =>
 Prg.ite (asBool v11) (
 ret (I 12)) (
 tv (pbin Kd.str .eql x0 (TV.lit (Value.string (ByteArray.mk (Array.mk [(105:UInt8),(110:UInt8)]))))) fun v12 =>
 Prg.ite (asBool v12) (
 ret (I 13)) (
 ret (I 0))))))))))))))
theorem f16_MR (x0:TV):bO prog 16 [x0]=f16_M x0:=by kernel_rfl
def f17_0_S  (x0 x1 x2 y3 y4 y5 y6 y7 y8 y9 y10:TV):ASt:=⟨[Jk,AV.tv x0,Jk,Jk,Pt 0,Pt 1,Jk,Jk,AV.tv x1,AV.tv x2] ++ Rj 31,[some (BC.cells [CA.junk,CA.junk,CA.junk,CA.junk,CA.junk,CA.junk,CA.junk,CA.junk]),some (BC.cells [CA.t y3,CA.t y4,CA.t y5,CA.t y6,CA.t y7,CA.t y8,CA.t y9,CA.t y10])] ++ Rz 63,[]⟩
def f17_1_S  (x0 x1 x2 w3 y4 y5 y6 y7 y8 y9 y10 y11:TV):ASt:=⟨[Jk,AV.one (CA.psl 0 1),Jk,Jk,Jk,Sr 1,Jk,Jk,AV.tv x0,AV.tv x1,AV.tv x2] ++ Rj 22,[some (BC.cells [CA.ptr 3 1]),Tr w3,some (BC.cells [CA.junk,CA.junk,CA.junk,CA.junk,CA.junk,CA.junk,CA.junk,CA.junk]),some (BC.cells [CA.t y4,CA.t y5,CA.t y6,CA.t y7,CA.t y8,CA.t y9,CA.t y10,CA.t y11])] ++ Rz 94,(Rj 4 ++ [Pt 2,Pt 3] ++ Rj 35)⟩
def f17_2_S  (x0 x1 x2 w3 y4 y5 y6 y7 y8 y9 y10 y11:TV):ASt:=⟨[Jk,AV.one (CA.psl 0 1),Jk,Jk,Jk,Sr 1,Jk,Jk,AV.tv x0,AV.tv x1,AV.tv x2] ++ Rj 22,[some (BC.cells [CA.ptr 3 5]),Tr w3,some (BC.cells [CA.junk,CA.junk,CA.junk,CA.junk,CA.junk,CA.junk,CA.junk,CA.junk]),some (BC.cells [CA.t y4,CA.t y5,CA.t y6,CA.t y7,CA.t y8,CA.t y9,CA.t y10,CA.t y11])] ++ Rz 94,(Rj 4 ++ [Pt 2,Pt 3] ++ Rj 35)⟩
def f17_3_S  (x0 x1 x2 w3 y4 y5 y6 y7 y8 y9 y10 y11:TV):ASt:=⟨[Jk,AV.one (CA.psl 0 3),Jk,Jk,Jk,Sr 1,Jk,Jk,AV.tv x0,AV.tv x1,AV.tv x2] ++ Rj 22,[some (BC.cells [CA.ptr 3 1,CA.ptr 3 5,CA.ptr 3 6]),Tr w3,some (BC.cells [CA.junk,CA.junk,CA.junk,CA.junk,CA.junk,CA.junk,CA.junk,CA.junk]),some (BC.cells [CA.t y4,CA.t y5,CA.t y6,CA.t y7,CA.t y8,CA.t y9,CA.t y10,CA.t y11])] ++ Rz 94,(Rj 4 ++ [Pt 2,Pt 3] ++ Rj 35)⟩
def f17_4_S  (x0 x1 x2 w3 y4 y5 y6 y7 y8 y9 y10 y11:TV):ASt:=⟨[Jk,AV.one (CA.psl 0 4),Jk,Jk,Jk,Sr 1,Jk,Jk,AV.tv x0,AV.tv x1,AV.tv x2] ++ Rj 22,[some (BC.cells [CA.ptr 3 2,CA.ptr 3 3,CA.ptr 3 5,CA.ptr 3 7]),Tr w3,some (BC.cells [CA.junk,CA.junk,CA.junk,CA.junk,CA.junk,CA.junk,CA.junk,CA.junk]),some (BC.cells [CA.t y4,CA.t y5,CA.t y6,CA.t y7,CA.t y8,CA.t y9,CA.t y10,CA.t y11])] ++ Rz 94,(Rj 4 ++ [Pt 2,Pt 3] ++ Rj 35)⟩
def f17_M (x0 x1:TV):Prg TV :=
 chk (TV.gL x0) (
 tv (pbin (.int .i64) .eql x0 (I 1)) fun v0 =>
 Prg.ite (asBool v0) (
 jmp [1,0,1,0,1,1] (f17_0_S x1 x0 v0 x0 (I 0) (I 0) (I 0) (TV.lit aj) (I 0) (I 0) (I 0))) (
 tv (pbin (.int .i64) .eql x0 (I 5)) fun v1 =>
 jmp [1,0,1,0,1,1] (f17_0_S x1 x0 v1 x0 (I 0) (I 0) (I 0) (TV.lit aj) (I 0) (I 0) (I 0))))
def f17_0  (x0 x1 x2 y3 y4 y5 y6 y7 y8 y9 y10:TV):Prg TV :=
 Prg.ite (asBool x2) (
 tv (plen (.slice 9) x0) fun v2 =>
 chk true (
 jmp [0,0,1,0,1,1,8,0,1,0,1,0,1,1] (f17_1_S x0 v2 (I 0) (TV.lit aj) y3 y4 y5 y6 y7 y8 y9 y10))) (
 tv (pbin (.int .i64) .eql x1 (I 2)) fun v3 =>
 Prg.ite (asBool v3) (
 tv (plen (.slice 9) x0) fun v4 =>
 chk true (
 jmp [0,0,1,0,1,1,8,0,1,1,1,0,1,0,1,1] (f17_2_S x0 v4 (I 0) (TV.lit aj) y3 y4 y5 y6 y7 y8 y9 y10))) (
 tv (pbin (.int .i64) .eql x1 (I 3)) fun v5 =>
 Prg.ite (asBool v5) (
 tv (plen (.slice 9) x0) fun v6 =>
 chk true (
 jmp [0,0,1,0,1,1,12,0,1,1,1,1,1,0,1,0,1,1] (f17_3_S x0 v6 (I 0) (TV.lit aj) y3 y4 y5 y6 y7 y8 y9 y10))) (
 tv (pbin (.int .i64) .eql x1 (I 4)) fun v7 =>
 Prg.ite (asBool v7) (
 tv (plen (.slice 9) x0) fun v8 =>
 chk true (
 jmp [0,0,1,0,1,1,14,0,1,1,1,1,1,1,1,0,1,0,1,1] (f17_4_S x0 v8 (I 0) (TV.lit aj) y3 y4 y5 y6 y7 y8 y9 y10))) (
 chk (aB (agg [y3,y4,y5,y6,y7,y8,y9,y10])) (
 ret (agg [y3,y4,y5,y6,y7,y8,y9,y10]))))))
def f17_1  (x0 x1 x2 w3 y4 y5 y6 y7 y8 y9 y10 y11:TV):Prg TV :=
 tv (pbin (.int .i64) .lss x2 x1) fun v9 =>
 Prg.ite (asBool v9) (
 tvs (pidx 1 x0 x2) fun e10 =>
 chk (Nat.blt 0 (List.length e10)) (
 tv (pbin (.int .i64) .lss x2 (I 1)) fun v11 =>
 Prg.ite (asBool v11) (
 nat (bh x2) fun n12 =>
 Prg.ite (some (Nat.beq n12 0)) (
 call 30 [nth hole e10 0] fun v13 =>
 chk (ab cw [v13] 0) (
 tv (pbin (.int .i64) .add x2 (I 1)) fun v14 =>
 jmp [0,0,1,0,1,1,8,0,1,0,1,0,1,1] (f17_1_S x0 x1 v14 w3 y4 v13 y6 y7 y8 y9 y10 y11))) (
 Prg.fail)) (
 call 30 [nth hole e10 0] fun v15 =>
 chk (ab cw [v15] 0) (
 rws (pelems 1 (TV.sl true 1 (chunks 1 1 [v15]))) fun r16 =>
 tv (papp 1 w3 (j7 r16)) fun v17 =>
 tv (pbin (.int .i64) .add x2 (I 1)) fun v18 =>
 jmp [0,0,1,0,1,1,8,0,1,0,1,0,1,1] (f17_1_S x0 x1 v18 v17 y4 y5 y6 y7 y8 y9 y10 y11))))) (
 chk (aB (agg [y4,y5,y6,y7,y8,y9,y10,y11])) (
 ret (agg [y4,y5,y6,y7,y8,y9,y10,y11])))
def f17_2  (x0 x1 x2 w3 y4 y5 y6 y7 y8 y9 y10 y11:TV):Prg TV :=
 tv (pbin (.int .i64) .lss x2 x1) fun v19 =>
 Prg.ite (asBool v19) (
 tvs (pidx 1 x0 x2) fun e20 =>
 chk (Nat.blt 0 (List.length e20)) (
 tv (pbin (.int .i64) .lss x2 (I 1)) fun v21 =>
 Prg.ite (asBool v21) (
 nat (bh x2) fun n22 =>
 Prg.ite (some (Nat.beq n22 0)) (
 call 30 [nth hole e20 0] fun v23 =>
 chk (ab cw [v23] 0) (
 tv (pbin (.int .i64) .add x2 (I 1)) fun v24 =>
 jmp [0,0,1,0,1,1,8,0,1,1,1,0,1,0,1,1] (f17_2_S x0 x1 v24 w3 y4 y5 y6 y7 y8 v23 y10 y11))) (
 Prg.fail)) (
 call 30 [nth hole e20 0] fun v25 =>
 chk (ab cw [v25] 0) (
 rws (pelems 1 (TV.sl true 1 (chunks 1 1 [v25]))) fun r26 =>
 tv (papp 1 w3 (j7 r26)) fun v27 =>
 tv (pbin (.int .i64) .add x2 (I 1)) fun v28 =>
 jmp [0,0,1,0,1,1,8,0,1,1,1,0,1,0,1,1] (f17_2_S x0 x1 v28 v27 y4 y5 y6 y7 y8 y9 y10 y11))))) (
 chk (aB (agg [y4,y5,y6,y7,y8,y9,y10,y11])) (
 ret (agg [y4,y5,y6,y7,y8,y9,y10,y11])))
def f17_3  (x0 x1 x2 w3 y4 y5 y6 y7 y8 y9 y10 y11:TV):Prg TV :=
 tv (pbin (.int .i64) .lss x2 x1) fun v29 =>
 Prg.ite (asBool v29) (
 tvs (pidx 1 x0 x2) fun e30 =>
 chk (Nat.blt 0 (List.length e30)) (
 tv (pbin (.int .i64) .lss x2 (I 3)) fun v31 =>
 Prg.ite (asBool v31) (
 nat (bh x2) fun n32 =>
 Prg.ite (some (Nat.beq n32 2)) (
 call 30 [nth hole e30 0] fun v33 =>
 chk (ab cw [v33] 0) (
 tv (pbin (.int .i64) .add x2 (I 1)) fun v34 =>
 jmp [0,0,1,0,1,1,12,0,1,1,1,1,1,0,1,0,1,1] (f17_3_S x0 x1 v34 w3 y4 y5 y6 y7 y8 y9 v33 y11))) (
 Prg.ite (some (Nat.beq n32 1)) (
 call 30 [nth hole e30 0] fun v35 =>
 chk (ab cw [v35] 0) (
 tv (pbin (.int .i64) .add x2 (I 1)) fun v36 =>
 jmp [0,0,1,0,1,1,12,0,1,1,1,1,1,0,1,0,1,1] (f17_3_S x0 x1 v36 w3 y4 y5 y6 y7 y8 v35 y10 y11))) (
 Prg.ite (some (Nat.beq n32 0)) (
 call 30 [nth hole e30 0] fun v37 =>
 chk (ab cw [v37] 0) (
 tv (pbin (.int .i64) .add x2 (I 1)) fun v38 =>
 jmp [0,0,1,0,1,1,12,0,1,1,1,1,1,0,1,0,1,1] (f17_3_S x0 x1 v38 w3 y4 v37 y6 y7 y8 y9 y10 y11))) (
 Prg.fail)))) (
 call 30 [nth hole e30 0] fun v39 =>
 chk (ab cw [v39] 0) (
 rws (pelems 1 (TV.sl true 1 (chunks 1 1 [v39]))) fun r40 =>
 tv (papp 1 w3 (j7 r40)) fun v41 =>
 tv (pbin (.int .i64) .add x2 (I 1)) fun v42 =>
 jmp [0,0,1,0,1,1,12,0,1,1,1,1,1,0,1,0,1,1] (f17_3_S x0 x1 v42 v41 y4 y5 y6 y7 y8 y9 y10 y11))))) (
 chk (aB (agg [y4,y5,y6,y7,y8,y9,y10,y11])) (
 ret (agg [y4,y5,y6,y7,y8,y9,y10,y11])))
def f17_4  (x0 x1 x2 w3 y4 y5 y6 y7 y8 y9 y10 y11:TV):Prg TV :=
 tv (pbin (.int .i64) .lss x2 x1) fun v43 =>
 Prg.ite (asBool v43) (
 tvs (pidx 1 x0 x2) fun e44 =>
 chk (Nat.blt 0 (List.length e44)) (
 tv (pbin (.int .i64) .lss x2 (I 4)) fun v45 =>
 Prg.ite (asBool v45) (
 nat (bh x2) fun n46 =>
 Prg.ite (some (Nat.beq n46 3)) (
 call 30 [nth hole e44 0] fun v47 =>
 chk (ab cw [v47] 0) (
 tv (pbin (.int .i64) .add x2 (I 1)) fun v48 =>
 jmp [0,0,1,0,1,1,14,0,1,1,1,1,1,1,1,0,1,0,1,1] (f17_4_S x0 x1 v48 w3 y4 y5 y6 y7 y8 y9 y10 v47))) (
 Prg.ite (some (Nat.beq n46 2)) (
 call 30 [nth hole e44 0] fun v49 =>
 chk (ab cw [v49] 0) (
 tv (pbin (.int .i64) .add x2 (I 1)) fun v50 =>
 jmp [0,0,1,0,1,1,14,0,1,1,1,1,1,1,1,0,1,0,1,1] (f17_4_S x0 x1 v50 w3 y4 y5 y6 y7 y8 v49 y10 y11))) (
 Prg.ite (some (Nat.beq n46 1)) (
 call 30 [nth hole e44 0] fun v51 =>
 chk (ab cw [v51] 0) (
 tv (pbin (.int .i64) .add x2 (I 1)) fun v52 =>
 jmp [0,0,1,0,1,1,14,0,1,1,1,1,1,1,1,0,1,0,1,1] (f17_4_S x0 x1 v52 w3 y4 y5 y6 v51 y8 y9 y10 y11))) (
 Prg.ite (some (Nat.beq n46 0)) (
 call 30 [nth hole e44 0] fun v53 =>
 chk (ab cw [v53] 0) (
 tv (pbin (.int .i64) .add x2 (I 1)) fun v54 =>
 jmp [0,0,1,0,1,1,14,0,1,1,1,1,1,1,1,0,1,0,1,1] (f17_4_S x0 x1 v54 w3 y4 y5 v53 y7 y8 y9 y10 y11))) (
 Prg.fail))))) (
 call 30 [nth hole e44 0] fun v55 =>
 chk (ab cw [v55] 0) (
 rws (pelems 1 (TV.sl true 1 (chunks 1 1 [v55]))) fun r56 =>
 tv (papp 1 w3 (j7 r56)) fun v57 =>
 tv (pbin (.int .i64) .add x2 (I 1)) fun v58 =>
 jmp [0,0,1,0,1,1,14,0,1,1,1,1,1,1,1,0,1,0,1,1] (f17_4_S x0 x1 v58 v57 y4 y5 y6 y7 y8 y9 y10 y11))))) (
 chk (aB (agg [y4,y5,y6,y7,w3,y9,y10,y11])) (
 ret (agg [y4,y5,y6,y7,w3,y9,y10,y11])))
theorem f17_MR (x0 x1:TV):bO prog 17 [x0,x1]=f17_M x0 x1:=by kernel_rfl
theorem f17_0_J  {x0 x1 x2 y3 y4 y5 y6 y7 y8 y9 y10:TV} {r:TV} (h:aa prog 17 (f17_0 x0 x1 x2 y3 y4 y5 y6 y7 y8 y9 y10) r):aa prog 17 (.jmp [1,0,1,0,1,1] (f17_0_S x0 x1 x2 y3 y4 y5 y6 y7 y8 y9 y10)) r:=aa.jmp (by kernel_rfl) h
theorem f17_1_J  {x0 x1 x2 w3 y4 y5 y6 y7 y8 y9 y10 y11:TV} {r:TV} (h:aa prog 17 (f17_1 x0 x1 x2 w3 y4 y5 y6 y7 y8 y9 y10 y11) r):aa prog 17 (.jmp [0,0,1,0,1,1,8,0,1,0,1,0,1,1] (f17_1_S x0 x1 x2 w3 y4 y5 y6 y7 y8 y9 y10 y11)) r:=aa.jmp (by kernel_rfl) h
theorem f17_2_J  {x0 x1 x2 w3 y4 y5 y6 y7 y8 y9 y10 y11:TV} {r:TV} (h:aa prog 17 (f17_2 x0 x1 x2 w3 y4 y5 y6 y7 y8 y9 y10 y11) r):aa prog 17 (.jmp [0,0,1,0,1,1,8,0,1,1,1,0,1,0,1,1] (f17_2_S x0 x1 x2 w3 y4 y5 y6 y7 y8 y9 y10 y11)) r:=aa.jmp (by kernel_rfl) h
theorem f17_3_J  {x0 x1 x2 w3 y4 y5 y6 y7 y8 y9 y10 y11:TV} {r:TV} (h:aa prog 17 (f17_3 x0 x1 x2 w3 y4 y5 y6 y7 y8 y9 y10 y11) r):aa prog 17 (.jmp [0,0,1,0,1,1,12,0,1,1,1,1,1,0,1,0,1,1] (f17_3_S x0 x1 x2 w3 y4 y5 y6 y7 y8 y9 y10 y11)) r:=aa.jmp (by kernel_rfl) h
theorem f17_4_J  {x0 x1 x2 w3 y4 y5 y6 y7 y8 y9 y10 y11:TV} {r:TV} (h:aa prog 17 (f17_4 x0 x1 x2 w3 y4 y5 y6 y7 y8 y9 y10 y11) r):aa prog 17 (.jmp [0,0,1,0,1,1,14,0,1,1,1,1,1,1,1,0,1,0,1,1] (f17_4_S x0 x1 x2 w3 y4 y5 y6 y7 y8 y9 y10 y11)) r:=aa.jmp (by kernel_rfl) h
def f18_M (x0:TV):Prg TV :=
 tv (pbin Kd.str .eql x0 (TV.lit (Value.string (ByteArray.mk (Array.mk [(114:UInt8),(101:UInt8),(116:UInt8)]))))) fun v0 =>
 Prg.ite (asBool v0) (
 ret (I 1)) (
 tv (pbin Kd.str .eql x0 (TV.lit (Value.string (ByteArray.mk (Array.mk [(106:UInt8),(117:UInt8),(109:UInt8),(112:UInt8)]))))) fun v1 =>
 Prg.ite (asBool v1) (
 ret (I 2)) (
 tv (pbin Kd.str .eql x0 (TV.lit (Value.string (ByteArray.mk (Array.mk [(98:UInt8),(114:UInt8),(97:UInt8),(110:UInt8),(99:UInt8),(104:UInt8)]))))) fun v2 =>
 Prg.ite (asBool v2) (
 ret (I 3)) (
 tv (pbin Kd.str .eql x0 (TV.lit (Value.string (ByteArray.mk (Array.mk [(105:UInt8),(110:UInt8),(118:UInt8),(111:UInt8),(107:UInt8),(101:UInt8)]))))) fun v3 =>
 Prg.ite (asBool v3) (
 ret (I 4)) (
 tv (pbin Kd.str .eql x0 (TV.lit (Value.string (ByteArray.mk (Array.mk [(116:UInt8),(104:UInt8),(114:UInt8),(111:UInt8),(119:UInt8)]))))) fun v4 =>
 Prg.ite (asBool v4) (
 ret (I 5)) (
 tv (pbin Kd.str .eql x0 (TV.lit (Value.string (ByteArray.mk (Array.mk [(114:UInt8),(101:UInt8),(115:UInt8),(117:UInt8),(109:UInt8),(101:UInt8)]))))) fun v5 =>
 Prg.ite (asBool v5) (
 ret (I 6)) (
 ret (I 0)))))))
theorem f18_MR (x0:TV):bO prog 18 [x0]=f18_M x0:=by kernel_rfl
def f19_0_S  (x0 x1 x2 y3 y4 y5 w6:TV):ASt:=⟨[Jk,Jk,Pt 0,Pt 1,Jk,Jk,AV.tv x0,AV.tv x1,AV.tv x2] ++ Rj 31,[some (BC.cells [CA.junk,CA.junk,CA.junk,CA.junk]),some (BC.cells [CA.t y3,CA.sref 2 0 [],CA.t y4,CA.t y5]),Tr w6] ++ Rz 61,[]⟩
def f19_M (x0:TV):Prg TV :=
 tv (plen (.slice 9) x0) fun v0 =>
 chk true (
 jmp [0,0,1,0,1,1] (f19_0_S x0 v0 (I 0) (I 0) (B false) (B false) (TV.lit aj)))
def f19_0  (x0 x1 x2 y3 y4 y5 w6:TV):Prg TV :=
 tv (pbin (.int .i64) .lss x2 x1) fun v1 =>
 Prg.ite (asBool v1) (
 tvs (pidx 1 x0 x2) fun e2 =>
 chk (Nat.blt 0 (List.length e2)) (
 tv (pbin (.int .i64) .eql x2 (I 0)) fun v3 =>
 Prg.ite (asBool v3) (
 call 30 [nth hole e2 0] fun v4 =>
 chk (ab cw [v4] 0) (
 tv (pbin (.int .i64) .add x2 (I 1)) fun v5 =>
 jmp [0,0,1,0,1,1] (f19_0_S x0 x1 v5 v4 y4 y5 w6))) (
 tv (pbin Kd.str .eql (nth hole e2 0) (TV.lit (Value.string (ByteArray.mk (Array.mk [(99:UInt8),(97:UInt8),(116:UInt8),(99:UInt8),(104:UInt8)]))))) fun v6 =>
 Prg.ite (asBool v6) (
 tv (pbin (.int .i64) .add x2 (I 1)) fun v7 =>
 jmp [0,0,1,0,1,1] (f19_0_S x0 x1 v7 y3 y4 y5 w6)) (
 tv (pbin Kd.str .eql (nth hole e2 0) (TV.lit (Value.string (ByteArray.mk (Array.mk [(97:UInt8),(108:UInt8),(108:UInt8)]))))) fun v8 =>
 Prg.ite (asBool v8) (
 tv (pbin (.int .i64) .add x2 (I 1)) fun v9 =>
 jmp [0,0,1,0,1,1] (f19_0_S x0 x1 v9 y3 (B true) y5 w6)) (
 tv (pbin Kd.str .eql (nth hole e2 0) (TV.lit (Value.string (ByteArray.mk (Array.mk [(99:UInt8),(108:UInt8),(101:UInt8),(97:UInt8),(110:UInt8),(117:UInt8),(112:UInt8)]))))) fun v10 =>
 Prg.ite (asBool v10) (
 tv (pbin (.int .i64) .add x2 (I 1)) fun v11 =>
 jmp [0,0,1,0,1,1] (f19_0_S x0 x1 v11 y3 y4 (B true) w6)) (
 call 30 [nth hole e2 0] fun v12 =>
 chk (ab cw [v12] 0) (
 tv (pconv (.int .u16) v12) fun v13 =>
 rws (pelems 1 (TV.sl true 1 (chunks 1 1 [v13]))) fun r14 =>
 tv (papp 1 w6 (j7 r14)) fun v15 =>
 tv (pbin (.int .i64) .add x2 (I 1)) fun v16 =>
 jmp [0,0,1,0,1,1] (f19_0_S x0 x1 v16 y3 y4 y5 v15)))))))) (
 chk (aB (agg [y3,w6,y4,y5])) (
 ret (agg [y3,w6,y4,y5])))
theorem f19_MR (x0:TV):bO prog 19 [x0]=f19_M x0:=by kernel_rfl
theorem f19_0_J  {x0 x1 x2 y3 y4 y5 w6:TV} {r:TV} (h:aa prog 19 (f19_0 x0 x1 x2 y3 y4 y5 w6) r):aa prog 19 (.jmp [0,0,1,0,1,1] (f19_0_S x0 x1 x2 y3 y4 y5 w6)) r:=aa.jmp (by kernel_rfl) h
def f20_0_S  (x0 x1 x2 w3 w4:TV):ASt:=⟨Rj 5 ++ [Pt 0] ++ Rj 4 ++ [AV.tv x0,AV.tv x1,AV.tv x2] ++ Rj 9,[some (BC.cells [CA.may 0 79,CA.sref 1 1 []]),some (BC.tree [w3,w4])] ++ Rz 44,[]⟩
def f20_M (x0 x1:TV):Prg TV :=
 chk true (
 call 31 [tup [tup [],TV.buf (ByteArray.mk (Array.mk [])) 5],x0] fun v0 =>
 chk (Bool.and (Bool.and (isTup v0 2) (isTup (comp v0 1) 2)) (Bool.and (TV.bq (comp (comp v0 1) 0)) (Bool.and (TV.jJ (comp (comp v0 1) 1) 5) true))) (
 chk (isTup (comp v0 0) 2) (
 chk (ab cw [comp (comp v0 0) 0] 0) (
 chk (ab z20 [comp (comp v0 0) 1] 0) (
 tv (plen (.slice 3) x1) fun v1 =>
 jmp [0,0,1,0,1,1,1] (f20_0_S x1 v1 (I 0) hole (comp (comp v0 1) 1)))))))
def f20_0  (x0 x1 x2 w3 w4:TV):Prg TV :=
 tv (pbin (.int .i64) .lss x2 x1) fun v2 =>
 Prg.ite (asBool v2) (
 tvs (pidx 1 x0 x2) fun e3 =>
 chk (Nat.blt 0 (List.length e3)) (
 chk (Bool.and true (Bool.and (TV.jJ (oq 5 w4) 5) true)) (
 call 32 [tup [tup [],oq 5 w4],TV.lit (Value.int IntKind.u8 (32:Int))] fun v4 =>
 chk (Bool.and (Bool.and (isTup v4 2) (isTup (comp v4 1) 2)) (Bool.and (TV.bq (comp (comp v4 1) 0)) (Bool.and (TV.jJ (comp (comp v4 1) 1) 5) true))) (
 chk (ab z20 [comp v4 0] 0) (
 call 33 [nth hole e3 0] fun v5 =>
 chk (ab cN [v5] 0) (
 chk (Bool.and true (Bool.and (TV.jJ (oq 5 (comp (comp v4 1) 1)) 5) true)) (
 call 31 [tup [tup [],oq 5 (comp (comp v4 1) 1)],v5] fun v6 =>
 chk (Bool.and (Bool.and (isTup v6 2) (isTup (comp v6 1) 2)) (Bool.and (TV.bq (comp (comp v6 1) 0)) (Bool.and (TV.jJ (comp (comp v6 1) 1) 5) true))) (
 chk (isTup (comp v6 0) 2) (
 chk (ab cw [comp (comp v6 0) 0] 0) (
 chk (ab z20 [comp (comp v6 0) 1] 0) (
 tv (pbin (.int .i64) .add x2 (I 1)) fun v7 =>
 jmp [0,0,1,0,1,1,1] (f20_0_S x0 x1 v7 hole (comp (comp v6 1) 1))))))))))))) (
 chk (Bool.and true (Bool.and (TV.jJ (oq 5 w4) 5) true)) (
 call 34 [tup [tup [],oq 5 w4]] fun v8 =>
 chk (Bool.and (Bool.and (isTup v8 2) (isTup (comp v8 1) 2)) (Bool.and (TV.bq (comp (comp v8 1) 0)) (Bool.and (TV.jJ (comp (comp v8 1) 1) 5) true))) (
 chk (ab cN [comp v8 0] 0) (
 ret (comp v8 0)))))
theorem f20_MR (x0 x1:TV):bO prog 20 [x0,x1]=f20_M x0 x1:=by kernel_rfl
theorem f20_0_J  {x0 x1 x2 w3 w4:TV} {r:TV} (h:aa prog 20 (f20_0 x0 x1 x2 w3 w4) r):aa prog 20 (.jmp [0,0,1,0,1,1,1] (f20_0_S x0 x1 x2 w3 w4)) r:=aa.jmp (by kernel_rfl) h
def f21_M (x0 x1:TV):Prg TV :=
 tv (plen (.slice 3) x1) fun v0 =>
 tv (plen (.slice 3) x0) fun v1 =>
 tv (pbin (.int .i64) .add v0 v1) fun v2 =>
 nat (bh (I 0)) fun n3 =>
 nat (bh v2) fun n4 =>
 chk (Bool.and (Nat.ble n3 n4) (Nat.ble n4 4294967296)) (
 rws (pelems 1 x1) fun r5 =>
 tv (papp 1 (TV.sl true 1 (List.replicate n3 [I 0])) r5) fun v6 =>
 rws (pelems 1 x0) fun r7 =>
 tv (papp 1 v6 r7) fun v8 =>
 chk (aB v8) (
 ret v8))
theorem f21_MR (x0 x1:TV):bO prog 21 [x0,x1]=f21_M x0 x1:=by kernel_rfl
def f22_0_S  (x0 x1 x2 w3:TV):ASt:=⟨[Jk,Jk,Jk,Sr 0] ++ Rj 5 ++ [AV.tv x0,AV.tv x1,AV.tv x2] ++ Rj 11,[Tr w3] ++ Rz 46,[]⟩
def f22_M (x0:TV):Prg TV :=
 tv (plen (.slice 22) x0) fun v0 =>
 nat (bh v0) fun n1 =>
 nat (bh v0) fun n2 =>
 chk (Bool.and (Nat.ble n1 n2) (Nat.ble n2 4294967296)) (
 tv (plen (.slice 22) x0) fun v3 =>
 jmp [0,0,1,0,1,1] (f22_0_S x0 v3 (I 0) (TV.sl true 1 (List.replicate n1 [I 0]))))
def f22_0  (x0 x1 x2 w3:TV):Prg TV :=
 tv (pbin (.int .i64) .lss x2 x1) fun v4 =>
 Prg.ite (asBool v4) (
 tvs (pidx 1 x0 x2) fun e5 =>
 chk (Nat.blt 0 (List.length e5)) (
 tv (pconv (.int .i64) (nth hole e5 0)) fun v6 =>
 nat (slLen w3) fun n7 =>
 nat (bh x2) fun n8 =>
 chk (Bool.and (slSize w3 1) (Nat.blt n8 n7)) (
 tvs (pel w3 n8) fun e9 =>
 chk (ab cw e9 0) (
 tv (xn [] w3 n8 0 [v6]) fun v10 =>
 tv (pbin (.int .i64) .add x2 (I 1)) fun v11 =>
 jmp [0,0,1,0,1,1] (f22_0_S x0 x1 v11 v10))))) (
 chk (aB w3) (
 ret w3))
theorem f22_MR (x0:TV):bO prog 22 [x0]=f22_M x0:=by kernel_rfl
theorem f22_0_J  {x0 x1 x2 w3:TV} {r:TV} (h:aa prog 22 (f22_0 x0 x1 x2 w3) r):aa prog 22 (.jmp [0,0,1,0,1,1] (f22_0_S x0 x1 x2 w3)) r:=aa.jmp (by kernel_rfl) h
def f23_0_S  (x0 x1 x2:TV):ASt:=⟨[AV.tv x0,AV.tv x1,Jk,Jk,Jk,AV.tv x2] ++ Rj 20,Rz 50,[]⟩
def f23_M (x0 x1:TV):Prg TV :=
 tv (plen (.slice 3) x0) fun v0 =>
 tv (plen (.slice 3) x1) fun v1 =>
 tv (pbin (.int .i64) .neq v0 v1) fun v2 =>
 Prg.ite (asBool v2) (
 ret (B false)) (
 jmp [0,0,1,0,1,1] (f23_0_S x0 x1 (I 0)))
def f23_0  (x0 x1 x2:TV):Prg TV :=
 tv (plen (.slice 3) x0) fun v3 =>
 tv (pbin (.int .i64) .lss x2 v3) fun v4 =>
 Prg.ite (asBool v4) (
 tvs (pidx 1 x0 x2) fun e5 =>
 chk (Nat.blt 0 (List.length e5)) (
 tvs (pidx 1 x1 x2) fun e6 =>
 chk (Nat.blt 0 (List.length e6)) (
 tv (pbin (.int .i64) .neq (nth hole e5 0) (nth hole e6 0)) fun v7 =>
 Prg.ite (asBool v7) (
 ret (B false)) (
 tv (pbin (.int .i64) .add x2 (I 1)) fun v8 =>
 jmp [0,0,1,0,1,1] (f23_0_S x0 x1 v8))))) (
 ret (B true))
theorem f23_MR (x0 x1:TV):bO prog 23 [x0,x1]=f23_M x0 x1:=by kernel_rfl
theorem f23_0_J  {x0 x1 x2:TV} {r:TV} (h:aa prog 23 (f23_0 x0 x1 x2) r):aa prog 23 (.jmp [0,0,1,0,1,1] (f23_0_S x0 x1 x2)) r:=aa.jmp (by kernel_rfl) h
end Go.Ab.S13
end
section
set_option maxRecDepth 10000
namespace Go.Ab.S13
open Go Go.Ab Go.Proofs
theorem Bg {a b:DIns}:a=b ↔ a.op=b.op/\a.dst=b.dst/\a.a=b.a/\a.b=b.b/\a.k=b.k/\a.f=b.f/\a.args=b.args:=by
 cases a; cases b; simp
theorem AB {a b:DEnd}:a=b ↔ a.kind=b.kind/\a.a=b.a/\a.dst=b.dst/\a.f=b.f/\a.args=b.args/\a.to=b.to/\a.els=b.els/\a.pad=b.pad:=by
 cases a; cases b; simp
theorem r14 {q q':Option Bool} {x y:TV} {l m:List Int} (hx:RInts q x l) (hy:RInts q' y m):aC prog 23 [x,y] (B (tt (l=m))):=by
 refine aC.of (f23_MR _ _) ?_
 unfold f23_M
 repeat' (first
  | refine aa.chk rfl ?_
  | refine aa.tv rfl ?_
  | refine aa.tv (RL.len (by assumption)) ?_
  | refine aa.nat rfl ?_
  | refine aa.ite rfl (fun _=>?_) (fun _=>?_)
  | refine aa.call (by assumption) ?_
  | refine aa.tvs (by assumption) ?_)
 ·rename_i h
  have h:¬ l=m:=by rintro rfl; simp at h
  exact wG h
 ·rename_i h
  have hlen:l.length=m.length:=by simp at h; omega
  refine f23_0_J ?_
  rw [me (tW hlen)]
  refine Ay (g:=fun k=>f23_0 x y (I k)) ?_ ?_
  ·unfold f23_0
   refine aa.tv hx.len (aa.tv rfl (aa.ite cA nofun fun _=>aa.ret))
  ·intro k hk r h1 h2
   have hk':k < m.length:=by omega
   have ha:l[k]? = some l[k]:=Du hk
   have hb:m[k]? = some m[k]:=Du hk'
   obtain ⟨e,he,rfl,_⟩:=hx.idx (k:=.i64) ha
   obtain ⟨e',he',rfl,_⟩:=hy.idx (k:=.i64) hb
   unfold f23_0
   refine aa.tv hx.len (aa.tv rfl (aa.ite (bg hk) (fun _=>?_) nofun))
   refine aa.tvs he (aa.chk rfl (aa.tvs he' (aa.chk rfl (aa.tv rfl (aa.ite rfl (fun h=>?_) fun h=>?_)))))
   ·rw [h1 (by rw [ha,hb]; simpa using h)]; exact aa.ret
   ·refine aa.tv (inc hk hx.bnd) (f23_0_J (h2 ?_))
    rw [ha,hb]; simpa using h
theorem r46 {q q':Option Bool} {e e':List TV} {a b:DIns} (ha:RIns q e a) (hb:RIns q' e' b):aC prog 11 [.agg e,.agg e'] (B (tt (a=b))):=by
 obtain ⟨g,rfl,hg,_⟩:=ha
 obtain ⟨g',rfl,hg',_⟩:=hb
 have h14:=r14 hg hg'
 refine aC.of (f11_MR _ _) ?_
 unfold f11_M
 repeat' (first
  | refine aa.chk rfl ?_
  | refine aa.tv rfl ?_
  | refine aa.tv (RL.len (by assumption)) ?_
  | refine aa.nat rfl ?_
  | refine aa.ite rfl (fun _=>?_) (fun _=>?_)
  | refine aa.call (by assumption) ?_
  | refine aa.tvs (by assumption) ?_)
 ·apply xf; rw [Bg]; simp_all [tt]
 all_goals (apply wG; rw [Bg]; simp_all [tt])
theorem r45 {q q':Option Bool} {e e':List TV} {a b:DEnd} (ha:REnd q e a) (hb:REnd q' e' b):aC prog 12 [.agg e,.agg e'] (B (tt (a=b))):=by
 obtain ⟨g,rfl,hg,_⟩:=ha
 obtain ⟨g',rfl,hg',_⟩:=hb
 have h14:=r14 hg hg'
 refine aC.of (f12_MR _ _) ?_
 unfold f12_M
 repeat' (first
  | refine aa.chk rfl ?_
  | refine aa.tv rfl ?_
  | refine aa.tv (RL.len (by assumption)) ?_
  | refine aa.nat rfl ?_
  | refine aa.ite rfl (fun _=>?_) (fun _=>?_)
  | refine aa.call (by assumption) ?_
  | refine aa.tvs (by assumption) ?_)
 ·apply xf; rw [AB]; simp_all [tt]
 all_goals (apply wG; rw [AB]; simp_all [tt])
end Go.Ab.S13
end
section
set_option maxRecDepth 10000
namespace Go.Ab
section
variable {α:Type} {s:Nat} {R S:Nat->List TV->α->Prop} {x:TV} {l:List α}
theorem qT {β:Type}:∀ (l:List β) (n:Nat) (b:β),(aq l n b).length=l.length
 | [],_,_=>rfl
 | _ :: _,0,_=>rfl
 | a :: l,n + 1,b=>by simp [aq,qT l n b]
end
theorem oo:∀ (xs:List (List TV)),(∀ e ∈ xs,bY e=true)->kE xs=true
 | [],_=>rfl
 | e :: xs,h=>by
  simp only [kE,Dw]
  exact ⟨h e DA,oo xs fun e he=>h e (DB _ he)⟩
theorem F2.memL {α β:Type} {R:α->β->Prop} {xs:List α} {l:List β} (h:F2 R xs l) {e:α} (he:e ∈ xs):∃ a,a ∈ l/\R e a:=by
 obtain ⟨i,hi,rfl⟩:=List.mem_iff_getElem.1 he
 obtain ⟨a,ha,hr⟩:=h.getL (Du hi)
 exact ⟨a,DC ha,hr⟩
theorem RL.own {α:Type} {s:Nat} {R:List TV->α->Prop} {x:TV} {l:List α} (h:RL (some true) s R x l) (hm:∀ e a,R e a->bY e=true):aB x=true:=by
 rcases h with ⟨rfl,rfl⟩ | ⟨o,xs,rfl,hq,h,hb⟩
 ·rfl
 ·rw [hq true rfl]
  simp only [aB,Bool.true_and]
  refine oo _ fun e he=>?_
  obtain ⟨a,_,hr⟩:=h.memL he
  exact hm _ _ hr
end Go.Ab
namespace Go.Ab.S13
open Go Go.Ab Go.Proofs
end Go.Ab.S13
end
section
set_option maxRecDepth 10000
namespace Go.Ab
abbrev S (l:List UInt8):TV:=.lit (.string ⟨⟨l⟩⟩)
abbrev wd (l:List UInt8):TV:=.buf ⟨⟨l⟩⟩ 5
def nC (n:Int):List UInt8:=32 :: Lib.itoa n
def bL (w:List UInt8) (ns:List Int):List UInt8:=w ++ ns.flatMap nC
def pe (x:DIns):List UInt8 :=
 if x.op=1 then bL [99,111,110,115,116] [x.dst,x.k] else if x.op=2 then bL [99,111,112,121] [x.dst,x.a] else if x.op=3 then bL [97,100,100] [x.dst,x.a,x.b]
 else if x.op=4 then bL [115,117,98] [x.dst,x.a,x.b] else if x.op=5 then bL [109,117,108] [x.dst,x.a,x.b] else if x.op=6 then bL [100,105,118] [x.dst,x.a,x.b]
 else if x.op=7 then bL [101,113] [x.dst,x.a,x.b] else if x.op=8 then bL [108,116] [x.dst,x.a,x.b] else if x.op=9 then bL [108,111,97,100] [x.dst,x.a]
 else if x.op=10 then bL [115,116,111,114,101] [x.a,x.b] else if x.op=11 then bL [99,97,108,108] ([x.dst,x.f] ++ x.args) else if x.op=12 then bL [111,117,116] [x.a]
 else if x.op=13 then bL [105,110] [x.dst] else []
def pd (x:DEnd):List UInt8 :=
 if x.kind=1 then bL [114,101,116] [x.a] else if x.kind=2 then bL [106,117,109,112] [x.to] else if x.kind=3 then bL [98,114,97,110,99,104] [x.a,x.to,x.els]
 else if x.kind=4 then bL [105,110,118,111,107,101] ([x.dst,x.f,x.to,x.pad] ++ x.args) else if x.kind=5 then bL [116,104,114,111,119] [x.a]
 else if x.kind=6 then bL [114,101,115,117,109,101] [] else []
def um (p:DPad):List UInt8 :=
 bL [112,97,100] [p.dst] ++ (if 0 < p.catches.length then 32 :: bL [99,97,116,99,104] p.catches else []) ++ (bif p.all then [32,97,108,108] else []) ++ (bif p.cleanup then [32,99,108,101,97,110,117,112] else [])
theorem xP (a b:List UInt8):(⟨⟨a⟩⟩:ByteArray) ++ ⟨⟨b⟩⟩=⟨⟨a ++ b⟩⟩:=by
 apply ByteArray.ext
 simp [ByteArray.data_append]
theorem mG (a:List UInt8):(⟨⟨a⟩⟩:ByteArray).size=a.length:=rfl
theorem AP (a:List UInt8) (c:UInt8):(⟨⟨a⟩⟩:ByteArray).push c=⟨⟨a ++ [c]⟩⟩:=by
 apply ByteArray.ext
 simp [ByteArray.data_push]
theorem rints {l:List Int} (h:∀ n,n ∈ l->inI n) (hl:l.length<=100):RInts (some false) (.sl false 1 (l.map fun n=>[I n])) l:=by
 refine .sl (by simp) ?_ (by simp; omega)
 clear hl
 induction l with
 | nil=>exact .nil
 | cons a l ih=>exact .cons ⟨rfl,h a (by simp)⟩ (ih fun n hn=>h n (by simp [hn]))
theorem RL.setAt' {α:Type} {s:Nat} {R:List TV->α->Prop} {y:TV} {l:List α} (hy:RL (some true) s R y l) {i:Nat} {e:List TV} (he:Go.Ab.pel y i=some e) {d:Nat} {ys:List TV} {a:α} (hR:R (bA e d ys) a):∃ y',xn [] y i d ys=some y'/\RL (some true) s R y' (l.set i a):=by
 rcases hy with ⟨rfl,rfl⟩ | ⟨o,xs,rfl,hq,hf,hb⟩
 ·simp [Go.Ab.pel] at he
 ·have:o=true:=hq true rfl
  subst this
  have hk:xs[i]? = some e:=he
  refine ⟨.sl true s (aq xs i (bA e d ys)),by simp only [xn,dw,yy,hk,kU],.sl (by simp) (hf.set hR) (by rw [qT]; exact hb)⟩
theorem yp {a:Int} (ha:inW a):pconv (.int .i64) (W a)=some (I a):=by
 simp only [pconv]
 rw [IntWalk.i64_in _ (by obtain ⟨_,_⟩:=ha; constructor <;> omega)]
theorem Aq {n:Int} (h:inI n):(nC n).length<=22:=by
 have:=Lib.itoa_length_le n h.1 h.2
 simp [nC]; omega
theorem mw {α:Type} {g:α->List UInt8} {c:Nat}:∀ {l:List α},(∀ x,x ∈ l->(g x).length<=c)->(l.flatMap g).length<=c * l.length
 | [],_=>by simp
 | a :: l,h=>by
  have h1:=h a (by simp)
  have h2:=mw (g:=g) (c:=c) (l:=l) fun x hx=>h x (by simp [hx])
  simp only [List.flatMap_cons,List.length_append,List.length_cons,Nat.mul_succ]
  omega
theorem iB {w:List UInt8} {ns:List Int} (h:∀ n,n ∈ ns->inI n):(bL w ns).length<=w.length + 22 * ns.length:=by
 have:=mw (g:=nC) (c:=22) (l:=ns) fun n hn=>Aq (h n hn)
 simp only [bL,List.length_append]; omega
theorem F2.memR {α:Type} {R:List TV->α->Prop} {xs:List (List TV)} {l:List α} (h:F2 R xs l):∀ a,a ∈ l->∃ e,R e a:=by
 intro a ha
 obtain ⟨i,hi⟩:=List.mem_iff_getElem?.1 ha
 obtain ⟨e,_,he⟩:=h.get hi
 exact ⟨e,he⟩
theorem RL.memR {α:Type} {q:Option Bool} {s:Nat} {R:List TV->α->Prop} {x:TV} {l:List α} (h:RL q s R x l):∀ a,a ∈ l->∃ e,R e a:=by
 rcases h with ⟨rfl,rfl⟩ | ⟨o,xs,rfl,hq,h,_⟩
 ·simp
 ·exact h.memR
theorem RInts.inI {q:Option Bool} {x:TV} {l:List Int} (h:RInts q x l):∀ n,n ∈ l->inI n:=fun n hn=>by
 obtain ⟨e,_,h⟩:=RL.memR h n hn
 exact h
end Go.Ab
namespace Go.Ab.S13
open Go Go.Ab Go.Proofs
theorem e_ws {s t:List UInt8} (h:s.length + t.length<=jF):aC prog 31 [.tup [.tup [],wd s],S t] (.tup [.tup [I t.length,.lit .nilIface],.tup [.tup [],wd (s ++ t)]]):=by
 refine aC.ext (g:=ek 5) rfl ?_
 have h1:Nat.ble (s.length + t.length) jF=true:=by rw [Nat.ble_eq]; exact h
 simp [ek,TV.bq,mq,mG,xP,h1]
theorem e_wb {s:List UInt8} (c:Int) (hc:0<=c/\c < 256) (h:s.length + 1<=jF):aC prog 32 [.tup [.tup [],wd s],.lit (.int .u8 c)] (.tup [.lit .nilIface,.tup [.tup [],wd (s ++ [c.toNat.toUInt8])]]):=by
 refine aC.ext (g:=gr 5) rfl ?_
 have h1:Nat.ble (s.length + 1) jF=true:=by rw [Nat.ble_eq]; exact h
 simp [gr,TV.bq,mq,mG,AP,h1,hc]
theorem e_str {s:List UInt8} (h:s≠[]):aC prog 34 [.tup [.tup [],wd s]] (.tup [S s,.tup [.tup [],wd s]]):=by
 refine aC.ext (g:=mf 5) rfl ?_
 have h1:s.length≠0:=fun h'=>h (List.length_eq_zero_iff.1 h')
 simp [mf,TV.bq,mq,mG]
 cases s <;> simp_all [Nat.beq]
theorem e_itoa {n:Int} (h:inI n):aC prog 33 [I n] (S (Lib.itoa n)):=by
 refine aC.ext (g:=vm) rfl ?_
 have:=h.1; have:=h.2
 simp [vm, *]
theorem zf {q:Option Bool} {x:TV} {ns:List Int} (hx:RInts q x ns):∀ d k (y:TV) (acc:List UInt8),k + d=ns.length->acc≠[]->(acc ++ (ns.drop k).flatMap nC).length<=jF ->
  aa prog 20 (f20_0 x (I ns.length) (I k) y (wd acc)) (S (acc ++ (ns.drop k).flatMap nC)):=by
 intro d
 induction d with
 | zero =>
  intro k y acc hk hne hb
  have hk:k=ns.length:=by omega
  subst hk
  unfold f20_0
  refine aa.tv rfl (aa.ite cA nofun fun _=>?_)
  simp only [List.drop_length,List.flatMap_nil,List.append_nil]
  exact aa.chk rfl (aa.call (e_str hne) (aa.chk rfl (aa.chk rfl aa.ret)))
 | succ d ih =>
  intro k y acc hk hne hb
  have hkl:k < ns.length:=by omega
  have ha:ns[k]? = some ns[k]:=Du hkl
  rw [List.drop_eq_getElem_cons hkl,List.flatMap_cons] at hb ⊢
  obtain ⟨e,he,hr⟩:=hx.idx (k:=.i64) ha
  generalize ns[k]=n at *
  obtain ⟨rfl,hn⟩:=hr
  have hb2:acc.length + (1 + (Lib.itoa n).length)<=jF:=by simp [nC] at hb; omega
  unfold f20_0
  refine aa.tv rfl (aa.ite (bg hkl) (fun _=>?_) nofun)
  refine aa.tvs he (aa.chk rfl (aa.chk rfl (aa.call (e_wb 32 (by omega) (by omega)) (aa.chk rfl (aa.chk rfl (aa.call (e_itoa hn) (aa.chk rfl (aa.chk rfl (aa.call (e_ws (by simp; omega)) (aa.chk rfl (aa.chk rfl (aa.chk rfl (aa.chk rfl (aa.tv (inc hkl hx.bnd) ?_))))))))))))))
  have:=ih (k + 1) .hole (acc ++ nC n) (by omega) (by simp [hne]) (by simpa using hb)
  rw [<- List.append_assoc]
  refine f20_0_J ?_
  have e:acc ++ [(32:Int).toNat.toUInt8] ++ Lib.itoa n=acc ++ nC n:=by simp [nC]
  show aa prog _ (f20_0 x (I ns.length) (I ((k + 1:Nat):Int)) .hole (wd (acc ++ [(32:Int).toNat.toUInt8] ++ Lib.itoa n))) _
  rw [e]; exact this
theorem kD {q:Option Bool} {x:TV} {ns:List Int} (w:List UInt8) (hx:RInts q x ns) (hw:w≠[]) (hb:w.length + 22 * ns.length<=1000):aC prog 20 [S w,x] (S (bL w ns)):=by
 have hlen:=iB (w:=w) hx.inI
 refine aC.of (f20_MR _ _) ?_
 unfold f20_M
 refine aa.chk rfl (aa.call (e_ws (s:=[]) (by simp [jF]; omega)) (aa.chk rfl (aa.chk rfl (aa.chk rfl (aa.chk rfl (aa.tv hx.len ?_))))))
 exact f20_0_J (zf hx ns.length 0 _ w (by omega) hw (by simp [bL] at hlen ⊢; simp [jF]; omega))
theorem kX {l:List Int} (w:List UInt8) (h:∀ n,n ∈ l->inI n) (hw:w≠[]) (hb:w.length + 22 * l.length<=1000):aC prog 20 [S w,.sl false 1 (l.map fun n=>[I n])] (S (bL w l)) :=
 kD w (rints h (by omega)) hw hb
theorem line0 (w:List UInt8) (hw:w≠[]) (hb:w.length<=100):aC prog 20 [S w,.lit (.slice none 0 0)] (S (bL w [])) :=
 kD w (q:=none) (.nil) hw (by simp; omega)
theorem vf {q q':Option Bool} {x y:TV} {l m:List Int} (hx:RInts q x l) (hy:RInts q' y m) (hl:l.length + m.length<=1000):∃ v,aC prog 21 [x,y] v/\RInts (some true) v (m ++ l):=by
 obtain ⟨xs,hxs,hfx⟩:=hx.elems
 obtain ⟨ys,hys,hfy⟩:=hy.elems
 have h1:=hfx.length
 have h2:=hfy.length
 refine ⟨.sl true 1 (ys ++ xs),aC.of (f21_MR _ _) ?_,.sl (by simp) (hfy.append hfx) (by simp; omega)⟩
 unfold f21_M
 refine aa.tv hy.len (aa.tv hx.len (aa.tv (padd (by constructor <;> omega)) (aa.nat rfl (aa.nat (v:=m.length + l.length) (by simp [bh]; omega) (aa.chk ?_ ?_)))))
 ·simp only [Dw,Nat.ble_eq]; omega
 ·refine aa.rws hys (aa.tv (v:=.sl true 1 ys) (by simp [papp,room]; omega) (aa.rws hxs (aa.tv (v:=.sl true 1 (ys ++ xs)) (by simp [papp,room]; omega) (aa.chk ?_ aa.ret))))
  exact (RL.sl (q:=some true) (by simp) (hfy.append hfx) (by simp; omega):RInts (some true) _ (m ++ l)).own fun _ _ h=>by obtain ⟨rfl,_⟩:=h; rfl
theorem zK {q:Option Bool} {x:TV} {l:List Int} (hx:RWords q x l) (hl:l.length<=1000):∃ v,aC prog 22 [x] v/\RInts (some true) v l:=by
 have loop:∀ d k (m:List Int) (v:TV),k + d=l.length->m.length=l.length->m.take k=l.take k->RInts (some true) v m->∃ v',aa prog 22 (f22_0 x (I l.length) (I k) v) v'/\RInts (some true) v' l:=by
  intro d
  induction d with
  | zero =>
   intro k m v hk hm ht hv
   have hk:k=l.length:=by omega
   subst hk
   have:m=l:=by rw [List.take_of_length_le (by omega),List.take_of_length_le (by omega)] at ht; exact ht
   subst this
   refine ⟨v,?_,hv⟩
   unfold f22_0
   refine aa.tv rfl (aa.ite cA nofun fun _=>?_)
   exact aa.chk (hv.own fun _ _ h=>by obtain ⟨rfl,_⟩:=h; rfl) aa.ret
  | succ d ih =>
   intro k m v hk hm ht hv
   have hkl:k < l.length:=by omega
   have ha:l[k]? = some l[k]:=Du hkl
   obtain ⟨e,he,hr⟩:=hx.idx (k:=.i64) ha
   have hmk:m[k]? = some m[k]:=Du (by omega)
   obtain ⟨e',he',hr'⟩:=hv.pel hmk
   obtain ⟨rfl,hn⟩:=hr
   obtain ⟨rfl,_⟩:=hr'
   obtain ⟨v',hv',hv2⟩:=hv.setAt' he' (d:=0) (ys:=[I l[k]]) (a:=l[k]) ⟨rfl,by obtain ⟨_,_⟩:=hn; constructor <;> omega⟩
   obtain ⟨z,hz,hz2⟩:=ih (k + 1) (m.set k l[k]) v' (by omega) (by simpa using hm) (by
    rw [List.take_add_one,List.take_add_one,List.take_set_of_le (by omega),ht,List.getElem?_set_self (by omega),ha]) hv2
   refine ⟨z,?_,hz2⟩
   unfold f22_0
   refine aa.tv rfl (aa.ite (bg hkl) (fun _=>?_) nofun)
   refine aa.tvs he (aa.chk rfl (aa.tv (yp hn) (aa.nat hv.slLen (aa.nat (v:=k) (by simp [bh]; omega) (aa.chk ?_ (aa.tvs he' (aa.chk rfl (aa.tv hv' (aa.tv (inc hkl hx.bnd) (f22_0_J hz))))))))))
   rw [hv.slSize]
   simp only [Bool.true_and,Nat.blt_eq]
   omega
 obtain ⟨v,h1,h2⟩:=loop l.length 0 (List.replicate l.length 0) (.sl true 1 (List.replicate l.length [I 0])) (by omega) (by simp) (by simp) (.sl (by simp) (by
  generalize l.length=n
  induction n with
  | zero=>exact .nil
  | succ n ih=>exact .cons ⟨rfl,by constructor <;> omega⟩ ih) (by simp; omega))
 refine ⟨v,aC.of (f22_MR _) ?_,h2⟩
 unfold f22_M
 refine aa.tv hx.len (aa.nat (v:=l.length) (by simp [bh]; omega) (aa.nat (v:=l.length) (by simp [bh]; omega) (aa.chk ?_ (aa.tv hx.len (f22_0_J h1)))))
 simp only [Dw,Nat.ble_eq]; omega
end Go.Ab.S13
end
section
set_option maxRecDepth 10000
namespace Go.Ab.S13
open Go Go.Ab Go.Proofs
theorem beh {q:Option Bool} {y:TV} {m:List Int} (l:List Int) (w:List UInt8) (hm:RInts q y m) (hl:∀ n,n ∈ l->inI n) (h4:l.length<=4) (h20:m.length<=20) (hw:w≠[]) (h10:w.length<=10) :
  ∃ v,aC prog 21 [y,.sl false 1 (l.map fun n=>[I n])] v/\v.isSl=true/\aC prog 20 [S w,frz v] (S (bL w (l ++ m))):=by
 obtain ⟨v,h1,h2⟩:=vf hm (rints hl (by omega)) (by omega)
 exact ⟨v,h1,h2.isSl,kD w (h2.frz fun _ _ h=>h.frz) hw (by simp; omega)⟩
theorem qk {q:Option Bool} {e:List TV} {x:DIns} (h:RIns q e x) (hl:x.args.length<=20):aC prog 8 [.agg e] (S (pe x)):=by
 obtain ⟨g,rfl,hg,ho,hd,ha,hb,hk,hf⟩:=h
 obtain ⟨v,hv,hsl,hv2⟩:=beh [x.dst,x.f] [99,97,108,108] hg (by simp [hd,hf]) (by simp) hl (by simp) (by simp)
 have hkI:inI x.k:=by obtain ⟨_,_⟩:=hk; constructor <;> omega
 refine aC.of (f8_MR _) ?_
 unfold f8_M
 refine aa.chk rfl (aa.tv rfl (aa.ite rfl (fun _=>aa.tv (v:=I x.k) (yp hk) ?_) fun _=>?_))
 repeat' (first
  | refine aa.chk rfl ?_
  | refine aa.tv rfl ?_
  | refine aa.ite rfl (fun _=>?_) (fun _=>?_)
  | refine aa.call hv ?_
  | refine aa.chk (by simp [ab,zSl,aF,hsl]) ?_
  | refine aa.call hv2 ?_
  | refine aa.call (kX (l:=[x.dst,x.k]) _ (by simp [*]) (by simp) (by simp)) ?_
  | refine aa.call (kX (l:=[x.dst,x.a]) _ (by simp [*]) (by simp) (by simp)) ?_
  | refine aa.call (kX (l:=[x.a,x.b]) _ (by simp [*]) (by simp) (by simp)) ?_
  | refine aa.call (kX (l:=[x.dst,x.a,x.b]) _ (by simp [*]) (by simp) (by simp)) ?_
  | refine aa.call (kX (l:=[x.a]) _ (by simp [*]) (by simp) (by simp)) ?_
  | refine aa.call (kX (l:=[x.dst]) _ (by simp [*]) (by simp) (by simp)) ?_)
 all_goals (refine rV.2 ?_; simp_all [pe])
theorem rQ {q:Option Bool} {e:List TV} {x:DEnd} (h:REnd q e x) (hl:x.args.length<=20):aC prog 9 [.agg e] (S (pd x)):=by
 obtain ⟨g,rfl,hg,hk,ha,hd,hf,ht,he,hp⟩:=h
 obtain ⟨v,hv,hsl,hv2⟩:=beh [x.dst,x.f,x.to,x.pad] [105,110,118,111,107,101] hg (by simp [hd,hf,ht,hp]) (by simp) hl (by simp) (by simp)
 refine aC.of (f9_MR _) ?_
 unfold f9_M
 repeat' (first
  | refine aa.chk rfl ?_
  | refine aa.tv rfl ?_
  | refine aa.ite rfl (fun _=>?_) (fun _=>?_)
  | refine aa.call hv ?_
  | refine aa.chk (by simp [ab,zSl,aF,hsl]) ?_
  | refine aa.call hv2 ?_
  | refine aa.call (line0 _ (by simp) (by simp)) ?_
  | refine aa.call (kX (l:=[x.a,x.to,x.els]) _ (by simp [*]) (by simp) (by simp)) ?_
  | refine aa.call (kX (l:=[x.a]) _ (by simp [*]) (by simp) (by simp)) ?_
  | refine aa.call (kX (l:=[x.to]) _ (by simp [*]) (by simp) (by simp)) ?_)
 all_goals (refine rV.2 ?_; simp_all [pd])
theorem BP (a b:List UInt8) (h:a.length + b.length<=10000):pbin .str .add (S a) (S b)=some (S (a ++ b)):=by
 simp [pbin,kf,xP,mG]; omega
theorem wk {q:Option Bool} {e:List TV} {x:DPad} (h:RPad q e x) (hl:x.catches.length<=20):aC prog 10 [.agg e] (S (um x)):=by
 obtain ⟨g,rfl,hg,hd⟩:=h
 obtain ⟨v,hv,hv2⟩:=zK hg (by omega)
 have hsl:=hv2.isSl
 have hv3:=kD [99,97,116,99,104] (hv2.frz fun _ _ h=>h.frz) (by simp) (by simp; omega)
 have hA:=iB (w:=[112,97,100]) (ns:=[x.dst]) (by simp [hd])
 have hC:=iB (w:=[99,97,116,99,104]) hv2.inI
 simp only [List.length_cons,List.length_nil] at hA hC
 refine aC.of (f10_MR _) ?_
 unfold f10_M
 repeat' (first
  | refine aa.chk rfl ?_
  | refine aa.tv hg.len ?_
  | refine aa.tv (BP _ _ (by simp only [List.length_append,List.length_cons,List.length_nil]; omega)) ?_
  | refine aa.tv rfl ?_
  | refine aa.ite rfl (fun _=>?_) (fun _=>?_)
  | refine aa.call hv ?_
  | refine aa.chk (by simp [ab,zSl,aF,hsl]) ?_
  | refine aa.call hv3 ?_
  | refine aa.call (kX (l:=[x.dst]) _ (by simp [*]) (by simp) (by simp)) ?_)
 all_goals (refine rV.2 ?_; simp_all [um])
end Go.Ab.S13
end
section
set_option maxRecDepth 10000
namespace Go.Ab
theorem Dg {c:Prop} [Decidable c] {a b:List UInt8} {P:List UInt8->Prop} (ha:P a) (hb:P b):P (if c then a else b):=by
 by_cases h:c
 ·rw [if_pos h]; exact ha
 ·rw [if_neg h]; exact hb
theorem lz:∀ (u:Nat),∀ c ∈ Lib.decDigits u,48<=c.toNat/\c.toNat<=57:=by
 intro u
 induction u using Nat.strongRecOn with
 | _ u ih =>
  intro c hc
  by_cases h:u < 10
  ·rw [Lib.decDigits_one h] at hc
   simp only [List.mem_singleton] at hc
   subst hc
   simp [UInt8.toNat_ofNat']
   omega
  ·rw [Lib.decDigits,dif_neg h,List.mem_append] at hc
   rcases hc with hc | hc
   ·exact ih (u / 10) (by omega) c hc
   ·simp only [List.mem_singleton] at hc
    subst hc
    simp [UInt8.toNat_ofNat']
    omega
theorem yX (n:Int):∀ c ∈ Lib.itoa n,c.toNat=45\/48<=c.toNat/\c.toNat<=57:=by
 intro c hc
 unfold Lib.itoa at hc
 split at hc
 ·rcases List.mem_cons.1 hc with rfl | hc
  ·exact .inl rfl
  ·exact .inr (lz _ c hc)
 ·exact .inr (lz _ c hc)
theorem BQ {q:Option Bool} {e:List TV} {x:DIns} (h:RIns q e x) (hl:x.args.length<=20):(pe x).length<=500:=by
 obtain ⟨g,rfl,hg,ho,hd,ha,hb,hk,hf⟩:=h
 have hkI:inI x.k:=by obtain ⟨_,_⟩:=hk; constructor <;> omega
 have hgI:=hg.inI
 have key:∀ (w:List UInt8) (ns:List Int),w.length<=10->ns.length<=22->(∀ n,n ∈ ns->inI n)->(bL w ns).length<=500:=fun w ns h1 h2 h3=>by have:=iB (w:=w) h3; omega
 have hc:∀ n,n ∈ [x.dst,x.f] ++ x.args->inI n:=fun n hn=>by
  rcases List.mem_append.1 hn with h | h
  ·simp at h; rcases h with rfl | rfl <;> assumption
  ·exact hgI n h
 unfold pe
 repeat' (refine Dg (P:=fun l=>l.length<=500) ?_ ?_)
 all_goals first
  | exact key _ ([x.dst,x.f] ++ x.args) (by simp) (by simp; omega) hc
  | exact key _ _ (by simp) (by simp) (by simp [*])
  | simp
theorem AJ {x:DEnd} (ho:x.ok) (hgI:∀ n,n ∈ x.args->inI n) (hl:x.args.length<=20):(pd x).length<=600:=by
 obtain ⟨hk,ha,hd,hf,ht,he,hp⟩:=ho
 have key:∀ (w:List UInt8) (ns:List Int),w.length<=10->ns.length<=24->(∀ n,n ∈ ns->inI n)->(bL w ns).length<=600:=fun w ns h1 h2 h3=>by have:=iB (w:=w) h3; omega
 have hc:∀ n,n ∈ [x.dst,x.f,x.to,x.pad] ++ x.args->inI n:=fun n hn=>by
  rcases List.mem_append.1 hn with h | h
  ·simp at h; rcases h with rfl | rfl | rfl | rfl <;> assumption
  ·exact hgI n h
 unfold pd
 repeat' (refine Dg (P:=fun l=>l.length<=600) ?_ ?_)
 all_goals first
  | exact key _ ([x.dst,x.f,x.to,x.pad] ++ x.args) (by simp) (by simp; omega) hc
  | exact key _ _ (by simp) (by simp) (by simp [*])
  | simp
end Go.Ab
end
section
set_option maxRecDepth 20000
namespace Go.Ab
theorem kP {α:Type} {p:α->Bool}:∀ {r s:List α},(∀ a,a ∈ r->p a=false)->(s=[]\/∃ a l,s=a :: l/\p a=true)->(r ++ s).takeWhile (fun a=>!p a)=r/\(r ++ s).dropWhile (fun a=>!p a)=s
 | [],s,_,h=>by
  rcases h with rfl | ⟨a,l,rfl,ha⟩
  ·simp
  ·simp [ha]
 | a :: r,s,hr,h=>by
  have ha:p a=false:=hr a (by simp)
  obtain ⟨h1,h2⟩:=kP (p:=p) (r:=r) (s:=s) (fun b hb=>hr b (by simp [hb])) h
  simp [ha,h1,h2]
theorem vd {α:Type} {p:α->Bool} {r s r' s':List α} (hr:∀ a,a ∈ r->p a=false) (hs:s=[]\/∃ a l,s=a :: l/\p a=true) (hr':∀ a,a ∈ r'->p a=false) (hs':s'=[]\/∃ a l,s'=a :: l/\p a=true) (h:r ++ s=r' ++ s'):r=r'/\s=s':=by
 obtain ⟨h1,h2⟩:=kP hr hs
 obtain ⟨h3,h4⟩:=kP hr' hs'
 rw [h] at h1 h2
 exact ⟨h1.symm.trans h3,h2.symm.trans h4⟩
def Marked {α β:Type} (p:α->Bool) (g:β->List α) (x:β):Prop:=∃ s r,g x=s :: r/\p s=true/\∀ a,a ∈ r->p a=false
theorem ga {α β:Type} {p:α->Bool} {g:β->List α}:∀ {xs:List β},(∀ x,x ∈ xs->Marked p g x)->xs.flatMap g=[]\/∃ a l,xs.flatMap g=a :: l/\p a=true
 | [],_=>.inl rfl
 | x :: xs,h=>by
  obtain ⟨s,r,hg,hp,_⟩:=h x (by simp)
  exact .inr ⟨s,r ++ xs.flatMap g,by rw [List.flatMap_cons,hg]; rfl,hp⟩
theorem tB {α β γ:Type} {p:α->Bool} {g:β->List α} {g':γ->List α}:∀ {xs:List β} {ys:List γ},(∀ x,x ∈ xs->Marked p g x)->(∀ y,y ∈ ys->Marked p g' y)->xs.flatMap g=ys.flatMap g'->xs.map g=ys.map g'
 | [],[],_,_,_=>rfl
 | [],y :: ys,_,hy,h=>by
  obtain ⟨s,r,hg,_⟩:=hy y (by simp)
  rw [List.flatMap_cons,hg] at h
  cases h
 | x :: xs,[],hx,_,h=>by
  obtain ⟨s,r,hg,_⟩:=hx x (by simp)
  rw [List.flatMap_cons,hg] at h
  cases h
 | x :: xs,y :: ys,hx,hy,h=>by
  have hx2:∀ z,z ∈ xs->Marked p g z:=fun z hz=>hx z (by simp [hz])
  have hy2:∀ z,z ∈ ys->Marked p g' z:=fun z hz=>hy z (by simp [hz])
  obtain ⟨s,r,hg,hs,hr⟩:=hx x (by simp)
  obtain ⟨s',r',hg',hs',hr'⟩:=hy y (by simp)
  rw [List.flatMap_cons,List.flatMap_cons,hg,hg',List.cons_append,List.cons_append] at h
  injection h with h1 h2
  obtain ⟨h3,h4⟩:=vd hr (ga hx2) hr' (ga hy2) h2
  rw [List.map_cons,List.map_cons,hg,hg',h1,h3,tB hx2 hy2 h4]
def dT (w:List UInt8) (ts:List (List UInt8)):List UInt8:=w ++ ts.flatMap fun t=>32 :: t
def plain (w:List UInt8):Prop:=∀ c,c ∈ w->(c == 32)=false
theorem tok_eq {w w':List UInt8} {ts ts':List (List UInt8)} (hw:plain w) (hw':plain w') (ht:∀ t,t ∈ ts->plain t) (ht':∀ t,t ∈ ts'->plain t) (h:dT w ts=dT w' ts'):w=w'/\ts=ts':=by
 have mk:∀ {l:List UInt8},plain l->Marked (fun c=>c == 32) (fun l:List UInt8=>32 :: l) l:=fun {l} h=>⟨32,l,rfl,by simp,h⟩
 obtain ⟨h1,h2⟩:=vd (p:=fun c=>c == 32) hw (ga fun t h=>mk (ht t h)) hw' (ga fun t h=>mk (ht' t h)) h
 refine ⟨h1,?_⟩
 have h3:=tB (fun l h=>mk (ht l h)) (fun l h=>mk (ht' l h)) h2
 have inj:∀ {ls ms:List (List UInt8)},ls.map (fun l=>32 :: l)=ms.map (fun l=>32 :: l)->ls=ms:=by
  intro ls
  induction ls with
  | nil=>intro ms h; cases ms with | nil=>rfl | cons m ms=>simp at h
  | cons l ls ih =>
   intro ms h
   cases ms with
   | nil=>simp at h
   | cons m ms =>
    simp only [List.map_cons,List.cons.injEq,true_and] at h
    rw [h.1,ih h.2]
 exact inj h3
theorem lq (n:Int):plain (Lib.itoa n):=fun c hc=>by
 have:=yX n c hc
 simp only [beq_eq_false_iff_ne]
 rintro rfl
 simp at this
theorem tL (w:List UInt8) (ns:List Int):bL w ns=dT w (ns.map Lib.itoa):=by
 unfold bL dT
 congr 1
 induction ns with
 | nil=>rfl
 | cons n l ih=>rw [List.flatMap_cons,List.map_cons,List.flatMap_cons,ih]; rfl
def jK (l:List UInt8):Nat:=l.foldl (fun n c=>10 * n + (c.toNat - 48)) 0
theorem vH:∀ u:Nat,jK (Lib.decDigits u)=u:=by
 intro u
 induction u using Nat.strongRecOn with
 | _ u ih =>
  by_cases h:u < 10
  ·rw [Lib.decDigits_one h]
   simp [jK,UInt8.toNat_ofNat']
   omega
  ·rw [Lib.decDigits,dif_neg h,jK,List.foldl_append]
   have:=ih (u / 10) (by omega)
   unfold jK at this
   rw [this]
   simp [UInt8.toNat_ofNat']
   omega
end Go.Ab
end
section
set_option maxRecDepth 20000
namespace Go.Ab
def wOf (op:Int):List UInt8 :=
 if op=1 then [99,111,110,115,116] else if op=2 then [99,111,112,121] else if op=3 then [97,100,100] else if op=4 then [115,117,98] else if op=5 then [109,117,108] else if op=6 then [100,105,118] else if op=7 then [101,113] else if op=8 then [108,116] else if op=9 then [108,111,97,100] else if op=10 then [115,116,111,114,101] else if op=11 then [99,97,108,108] else if op=12 then [111,117,116] else if op=13 then [105,110] else []
def opN (w:List UInt8):Int :=
 if w=[99,111,110,115,116] then 1 else if w=[99,111,112,121] then 2 else if w=[97,100,100] then 3 else if w=[115,117,98] then 4 else if w=[109,117,108] then 5 else if w=[100,105,118] then 6 else if w=[101,113] then 7 else if w=[108,116] then 8 else if w=[108,111,97,100] then 9 else if w=[115,116,111,114,101] then 10 else if w=[99,97,108,108] then 11 else if w=[111,117,116] then 12 else if w=[105,110] then 13 else 0
def kOf (op:Int):List UInt8 :=
 if op=1 then [114,101,116] else if op=2 then [106,117,109,112] else if op=3 then [98,114,97,110,99,104] else if op=4 then [105,110,118,111,107,101] else if op=5 then [116,104,114,111,119] else if op=6 then [114,101,115,117,109,101] else []
def kN (w:List UInt8):Int :=
 if w=[114,101,116] then 1 else if w=[106,117,109,112] then 2 else if w=[98,114,97,110,99,104] then 3 else if w=[105,110,118,111,107,101] then 4 else if w=[116,104,114,111,119] then 5 else if w=[114,101,115,117,109,101] then 6 else 0
def nsI (x:DIns):List Int :=
 if x.op=1 then [x.dst,x.k] else if x.op=2 then [x.dst,x.a] else if x.op=3 then [x.dst,x.a,x.b] else if x.op=4 then [x.dst,x.a,x.b] else if x.op=5 then [x.dst,x.a,x.b] else if x.op=6 then [x.dst,x.a,x.b] else if x.op=7 then [x.dst,x.a,x.b] else if x.op=8 then [x.dst,x.a,x.b] else if x.op=9 then [x.dst,x.a] else if x.op=10 then [x.a,x.b] else if x.op=11 then [x.dst,x.f] ++ x.args else if x.op=12 then [x.a] else if x.op=13 then [x.dst] else []
def nsE (x:DEnd):List Int :=
 if x.kind=1 then [x.a] else if x.kind=2 then [x.to] else if x.kind=3 then [x.a,x.to,x.els] else if x.kind=4 then [x.dst,x.f,x.to,x.pad] ++ x.args else if x.kind=5 then [x.a] else if x.kind=6 then [] else []
end Go.Ab
namespace Go.Ab.S13
open Go Go.Ab Go.Proofs
def wO (p:DPad):List (List UInt8):=Lib.itoa p.dst :: ((if 0 < p.catches.length then [99,97,116,99,104] :: p.catches.map Lib.itoa else []) ++ ((bif p.all then [[97,108,108]] else []) ++ (bif p.cleanup then [[99,108,101,97,110,117,112]] else [])))
theorem uK (p:DPad):um p=dT [112,97,100] (wO p):=by
 have h1:∀ l:List Int,(l.map Lib.itoa).flatMap (fun t=>32 :: t)=l.flatMap nC:=fun l=>by
  induction l with
  | nil=>rfl
  | cons n l ih=>rw [List.flatMap_cons,List.map_cons,List.flatMap_cons,ih]; rfl
 unfold um dT wO bL
 by_cases h:0 < p.catches.length
 ·simp only [if_pos h]
  cases p.all <;> cases p.cleanup <;> simp [h1,nC]
 ·simp only [if_neg h]
  cases p.all <;> cases p.cleanup <;> simp [nC]
theorem qF (p:DPad):∀ t,t ∈ wO p->plain t:=by
 intro t ht
 unfold wO at ht
 have w1:plain [99,97,116,99,104]:=by unfold plain; decide
 have w2:plain [97,108,108]:=by unfold plain; decide
 have w3:plain [99,108,101,97,110,117,112]:=by unfold plain; decide
 rcases List.mem_cons.1 ht with rfl | ht
 ·exact lq _
 rcases List.mem_append.1 ht with ht | ht
 ·split at ht
  ·rcases List.mem_cons.1 ht with rfl | ht
   ·exact w1
   ·obtain ⟨n,_,rfl⟩:=List.mem_map.1 ht
    exact lq n
  ·cases ht
 rcases List.mem_append.1 ht with ht | ht
 ·cases hp:p.all <;> simp [hp] at ht
  rw [ht]; exact w2
 ·cases hp:p.cleanup <;> simp [hp] at ht
  rw [ht]; exact w3
end Go.Ab.S13
end

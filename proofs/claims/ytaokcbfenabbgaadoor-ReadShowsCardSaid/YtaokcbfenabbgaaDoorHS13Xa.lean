import Derived.Test.YtaokcbfenabbgaaDoorHF1
set_option linter.all false
set_option maxRecDepth 100000
namespace Go.Ab.S13
open Go Go.Ab Go.Proofs
open Go.Ab.TV (hole cell comp isSl isSc isTup cellsL tup agg)
open Go.Ab.Prg (tv tvs rws nat chk call jmp ret)
def f3_0_S  (x0 x1 x2 x3:TV):ASt:=⟨[Jk,AV.tv x0,AV.tv x1,AV.tv x2,AV.tv x3] ++ Rj 118,Rz 147,[]⟩
def f3_M (x0 x1 x2 x3 x4:TV):Prg TV :=
 call 4 [] fun v0 =>
 chk (ab kV [v0] 0) (
 tv (pun .not v0) fun v1 =>
 Prg.ite (asBool v1) (
 ret (B false)) (
 tv (plen Kd.str x0) fun v2 =>
 tv (pmin false v2 (I 300)) fun v3 =>
 nat (bh v3) fun n4 =>
 tv (pslice Kd.str 0 x0 none (some n4)) fun v5 =>
 call 5 [v5] fun v6 =>
 chk (isTup v6 2) (
 chk (Bool.and (TV.isAgg (comp v6 0) 7) (ab ug (cellsL true (comp v6 0)) 0)) (
 chk (ab kV [comp v6 1] 0) (
 call 6 [v5] fun v7 =>
 chk (isTup v7 2) (
 chk (Bool.and (TV.isAgg (comp v7 0) 8) (ab t9 (cellsL true (comp v7 0)) 0)) (
 chk (ab kV [comp v7 1] 0) (
 call 7 [v5] fun v8 =>
 chk (isTup v8 2) (
 chk (Bool.and (TV.isAgg (comp v8 0) 4) (ab zH (cellsL true (comp v8 0)) 0)) (
 chk (ab kV [comp v8 1] 0) (
 Prg.ite (asBool (comp v6 1)) (
 Prg.ite (asBool (comp v7 1)) (
 ret (B false)) (
 Prg.ite (asBool (comp v8 1)) (
 ret (B false)) (
 call 8 [agg [cell (comp v6 0) 0,cell (comp v6 0) 1,cell (comp v6 0) 2,cell (comp v6 0) 3,cell (comp v6 0) 4,cell (comp v6 0) 5,frz (cell (comp v6 0) 6)]] fun v9 =>
 chk (ab cN [v9] 0) (
 tv (pbin Kd.str .neq v9 v5) fun v10 =>
 Prg.ite (asBool v10) (
 ret (B false)) (
 Prg.ite (asBool (comp v7 1)) (
 Prg.ite (asBool (comp v8 1)) (
 ret (B false)) (
 call 9 [agg [cell (comp v7 0) 0,cell (comp v7 0) 1,cell (comp v7 0) 2,cell (comp v7 0) 3,frz (cell (comp v7 0) 4),cell (comp v7 0) 5,cell (comp v7 0) 6,cell (comp v7 0) 7]] fun v11 =>
 chk (ab cN [v11] 0) (
 tv (pbin Kd.str .neq v11 v5) fun v12 =>
 Prg.ite (asBool v12) (
 ret (B false)) (
 Prg.ite (asBool (comp v8 1)) (
 call 10 [agg [cell (comp v8 0) 0,frz (cell (comp v8 0) 1),cell (comp v8 0) 2,cell (comp v8 0) 3]] fun v13 =>
 chk (ab cN [v13] 0) (
 tv (pbin Kd.str .neq v13 v5) fun v14 =>
 Prg.ite (asBool v14) (
 ret (B false)) (
 jmp [1,1,1,1,1,1,1] (f3_0_S x1 x2 x3 x4)))) (
 jmp [1,1,1,1,1,1,1] (f3_0_S x1 x2 x3 x4)))))) (
 Prg.ite (asBool (comp v8 1)) (
 call 10 [agg [cell (comp v8 0) 0,frz (cell (comp v8 0) 1),cell (comp v8 0) 2,cell (comp v8 0) 3]] fun v15 =>
 chk (ab cN [v15] 0) (
 tv (pbin Kd.str .neq v15 v5) fun v16 =>
 Prg.ite (asBool v16) (
 ret (B false)) (
 jmp [1,1,1,1,1,1,1] (f3_0_S x1 x2 x3 x4)))) (
 jmp [1,1,1,1,1,1,1] (f3_0_S x1 x2 x3 x4)))))))) (
 Prg.ite (asBool (comp v7 1)) (
 Prg.ite (asBool (comp v8 1)) (
 ret (B false)) (
 call 9 [agg [cell (comp v7 0) 0,cell (comp v7 0) 1,cell (comp v7 0) 2,cell (comp v7 0) 3,frz (cell (comp v7 0) 4),cell (comp v7 0) 5,cell (comp v7 0) 6,cell (comp v7 0) 7]] fun v17 =>
 chk (ab cN [v17] 0) (
 tv (pbin Kd.str .neq v17 v5) fun v18 =>
 Prg.ite (asBool v18) (
 ret (B false)) (
 Prg.ite (asBool (comp v8 1)) (
 call 10 [agg [cell (comp v8 0) 0,frz (cell (comp v8 0) 1),cell (comp v8 0) 2,cell (comp v8 0) 3]] fun v19 =>
 chk (ab cN [v19] 0) (
 tv (pbin Kd.str .neq v19 v5) fun v20 =>
 Prg.ite (asBool v20) (
 ret (B false)) (
 jmp [1,1,1,1,1,1,1] (f3_0_S x1 x2 x3 x4)))) (
 jmp [1,1,1,1,1,1,1] (f3_0_S x1 x2 x3 x4)))))) (
 Prg.ite (asBool (comp v8 1)) (
 call 10 [agg [cell (comp v8 0) 0,frz (cell (comp v8 0) 1),cell (comp v8 0) 2,cell (comp v8 0) 3]] fun v21 =>
 chk (ab cN [v21] 0) (
 tv (pbin Kd.str .neq v21 v5) fun v22 =>
 Prg.ite (asBool v22) (
 ret (B false)) (
 jmp [1,1,1,1,1,1,1] (f3_0_S x1 x2 x3 x4)))) (
 jmp [1,1,1,1,1,1,1] (f3_0_S x1 x2 x3 x4)))))))))))))))
def f3_0  (x0 x1 x2 x3:TV):Prg TV :=
 tv (pbin (.int .u8) .rem x3 (TV.lit (Value.int IntKind.u8 (6:Int)))) fun v23 =>
 tv (pconv (.int .i64) v23) fun v24 =>
 tv (pbin (.int .i64) .add (I 3) v24) fun v25 =>
 tv (pconv (.int .i64) x0) fun v26 =>
 tv (pconv (.int .i64) x1) fun v27 =>
 tv (pconv (.int .i64) x2) fun v28 =>
 call 8 [agg [v25,v26,v27,v28,W 0,I 0,TV.lit aj]] fun v29 =>
 chk (ab cN [v29] 0) (
 call 5 [v29] fun v30 =>
 chk (isTup v30 2) (
 chk (Bool.and (TV.isAgg (comp v30 0) 7) (ab ug (cellsL true (comp v30 0)) 0)) (
 chk (ab kV [comp v30 1] 0) (
 tv (pconv (.int .i64) x0) fun v31 =>
 tv (pconv (.int .i64) x1) fun v32 =>
 tv (pconv (.int .i64) x2) fun v33 =>
 call 9 [agg [I 3,v31,I 0,I 0,TV.lit aj,v32,v33,I 0]] fun v34 =>
 chk (ab cN [v34] 0) (
 call 6 [v34] fun v35 =>
 chk (isTup v35 2) (
 chk (Bool.and (TV.isAgg (comp v35 0) 8) (ab t9 (cellsL true (comp v35 0)) 0)) (
 chk (ab kV [comp v35 1] 0) (
 Prg.ite (asBool (comp v30 1)) (
 call 11 [agg [cell (comp v30 0) 0,cell (comp v30 0) 1,cell (comp v30 0) 2,cell (comp v30 0) 3,cell (comp v30 0) 4,cell (comp v30 0) 5,frz (cell (comp v30 0) 6)],agg [v25,v26,v27,v28,W 0,I 0,TV.lit aj]] fun v36 =>
 chk (ab kV [v36] 0) (
 Prg.ite (asBool v36) (
 Prg.ite (asBool (comp v35 1)) (
 call 12 [agg [cell (comp v35 0) 0,cell (comp v35 0) 1,cell (comp v35 0) 2,cell (comp v35 0) 3,frz (cell (comp v35 0) 4),cell (comp v35 0) 5,cell (comp v35 0) 6,cell (comp v35 0) 7],agg [I 3,v31,I 0,I 0,TV.lit aj,v32,v33,I 0]] fun v37 =>
 chk (ab kV [v37] 0) (
 ret v37)) (
 ret (B false))) (
 ret (B false)))) (
 ret (B false))))))))))
theorem f3_MR (x0 x1 x2 x3 x4:TV):bO prog 3 [x0,x1,x2,x3,x4]=f3_M x0 x1 x2 x3 x4:=by kernel_rfl
theorem f3_0_J  {x0 x1 x2 x3:TV} {r:TV} (h:aa prog 3 (f3_0 x0 x1 x2 x3) r):aa prog 3 (.jmp [1,1,1,1,1,1,1] (f3_0_S x0 x1 x2 x3)) r:=aa.jmp (by kernel_rfl) h
def f5_M (x0:TV):Prg TV :=
 call 14 [x0] fun v0 =>
 chk (ab zSl [v0] 0) (
 nat (slLen v0) fun n1 =>
 nat (bh (I 0)) fun n2 =>
 chk (Bool.and (slSize v0 1) (Nat.blt n2 n1)) (
 tvs (pel v0 n2) fun e3 =>
 chk (ab cN e3 0) (
 call 16 [nth hole e3 0] fun v4 =>
 chk (ab cw [v4] 0) (
 nat (slLen v0) fun n5 =>
 nat (bh (I 1)) fun n6 =>
 chk (Bool.and (Bool.and (slSize v0 1) (Nat.ble (Option.getD (some n6) 0) (Option.getD none n5))) (Nat.ble (Option.getD none n5) n5)) (
 tv (gC (Option.getD (some n6) 0) ((Option.getD none n5) - (Option.getD (some n6) 0)) v0) fun v7 =>
 call 15 [v4,frz v7] fun v8 =>
 chk (Bool.and (TV.isAgg v8 7) (ab ug (cellsL true v8) 0)) (
 tv (pbin (.int .i64) .eql (cell v8 0) (I 0)) fun v9 =>
 Prg.ite (asBool v9) (
 ret (tup [agg [I 0,I 0,I 0,I 0,W 0,I 0,TV.lit aj],B false])) (
 tv (plen (.slice 3) (cell v8 6)) fun v10 =>
 tv (pbin (.int .i64) .gtr v10 (I 8)) fun v11 =>
 Prg.ite (asBool v11) (
 ret (tup [agg [I 0,I 0,I 0,I 0,W 0,I 0,TV.lit aj],B false])) (
 call 8 [agg [cell v8 0,cell v8 1,cell v8 2,cell v8 3,cell v8 4,cell v8 5,frz (cell v8 6)]] fun v12 =>
 chk (ab cN [v12] 0) (
 tv (pbin Kd.str .neq v12 x0) fun v13 =>
 Prg.ite (asBool v13) (
 ret (tup [agg [I 0,I 0,I 0,I 0,W 0,I 0,TV.lit aj],B false])) (
 ret (tup [agg [cell v8 0,cell v8 1,cell v8 2,cell v8 3,cell v8 4,cell v8 5,cell v8 6],B true])))))))))))
theorem f5_MR (x0:TV):bO prog 5 [x0]=f5_M x0:=by kernel_rfl
def f6_M (x0:TV):Prg TV :=
 call 14 [x0] fun v0 =>
 chk (ab zSl [v0] 0) (
 nat (slLen v0) fun n1 =>
 nat (bh (I 0)) fun n2 =>
 chk (Bool.and (slSize v0 1) (Nat.blt n2 n1)) (
 tvs (pel v0 n2) fun e3 =>
 chk (ab cN e3 0) (
 call 18 [nth hole e3 0] fun v4 =>
 chk (ab cw [v4] 0) (
 nat (slLen v0) fun n5 =>
 nat (bh (I 1)) fun n6 =>
 chk (Bool.and (Bool.and (slSize v0 1) (Nat.ble (Option.getD (some n6) 0) (Option.getD none n5))) (Nat.ble (Option.getD none n5) n5)) (
 tv (gC (Option.getD (some n6) 0) ((Option.getD none n5) - (Option.getD (some n6) 0)) v0) fun v7 =>
 call 17 [v4,frz v7] fun v8 =>
 chk (Bool.and (TV.isAgg v8 8) (ab t9 (cellsL true v8) 0)) (
 tv (pbin (.int .i64) .eql (cell v8 0) (I 0)) fun v9 =>
 Prg.ite (asBool v9) (
 ret (tup [agg [I 0,I 0,I 0,I 0,TV.lit aj,I 0,I 0,I 0],B false])) (
 tv (plen (.slice 3) (cell v8 4)) fun v10 =>
 tv (pbin (.int .i64) .gtr v10 (I 8)) fun v11 =>
 Prg.ite (asBool v11) (
 ret (tup [agg [I 0,I 0,I 0,I 0,TV.lit aj,I 0,I 0,I 0],B false])) (
 call 9 [agg [cell v8 0,cell v8 1,cell v8 2,cell v8 3,frz (cell v8 4),cell v8 5,cell v8 6,cell v8 7]] fun v12 =>
 chk (ab cN [v12] 0) (
 tv (pbin Kd.str .neq v12 x0) fun v13 =>
 Prg.ite (asBool v13) (
 ret (tup [agg [I 0,I 0,I 0,I 0,TV.lit aj,I 0,I 0,I 0],B false])) (
 ret (tup [agg [cell v8 0,cell v8 1,cell v8 2,cell v8 3,cell v8 4,cell v8 5,cell v8 6,cell v8 7],B true])))))))))))
theorem f6_MR (x0:TV):bO prog 6 [x0]=f6_M x0:=by kernel_rfl
def f7_M (x0:TV):Prg TV :=
 call 14 [x0] fun v0 =>
 chk (ab zSl [v0] 0) (
 nat (slLen v0) fun n1 =>
 nat (bh (I 1)) fun n2 =>
 chk (Bool.and (Bool.and (slSize v0 1) (Nat.ble (Option.getD (some n2) 0) (Option.getD none n1))) (Nat.ble (Option.getD none n1) n1)) (
 tv (gC (Option.getD (some n2) 0) ((Option.getD none n1) - (Option.getD (some n2) 0)) v0) fun v3 =>
 call 19 [frz v3] fun v4 =>
 chk (Bool.and (TV.isAgg v4 4) (ab zH (cellsL true v4) 0)) (
 tv (plen (.slice 22) (cell v4 1)) fun v5 =>
 tv (pbin (.int .i64) .gtr v5 (I 8)) fun v6 =>
 Prg.ite (asBool v6) (
 ret (tup [agg [I 0,TV.lit aj,B false,B false],B false])) (
 call 10 [agg [cell v4 0,frz (cell v4 1),cell v4 2,cell v4 3]] fun v7 =>
 chk (ab cN [v7] 0) (
 tv (pbin Kd.str .neq v7 x0) fun v8 =>
 Prg.ite (asBool v8) (
 ret (tup [agg [I 0,TV.lit aj,B false,B false],B false])) (
 ret (tup [agg [cell v4 0,cell v4 1,cell v4 2,cell v4 3],B true])))))))
theorem f7_MR (x0:TV):bO prog 7 [x0]=f7_M x0:=by kernel_rfl
def f8_M (x0:TV):Prg TV :=
 chk (TV.isAgg x0 7) (
 tv (pbin (.int .i64) .eql (cell x0 0) (I 1)) fun v0 =>
 Prg.ite (asBool v0) (
 tv (pconv (.int .i64) (cell x0 4)) fun v1 =>
 call 20 [TV.lit (Value.string (ByteArray.mk (Array.mk [(99:UInt8),(111:UInt8),(110:UInt8),(115:UInt8),(116:UInt8)]))),frz (TV.sl true 1 (chunks 1 2 [cell x0 1,v1]))] fun v2 =>
 chk (ab cN [v2] 0) (
 ret v2)) (
 tv (pbin (.int .i64) .eql (cell x0 0) (I 2)) fun v3 =>
 Prg.ite (asBool v3) (
 call 20 [TV.lit (Value.string (ByteArray.mk (Array.mk [(99:UInt8),(111:UInt8),(112:UInt8),(121:UInt8)]))),frz (TV.sl true 1 (chunks 1 2 [cell x0 1,cell x0 2]))] fun v4 =>
 chk (ab cN [v4] 0) (
 ret v4)) (
 tv (pbin (.int .i64) .eql (cell x0 0) (I 3)) fun v5 =>
 Prg.ite (asBool v5) (
 call 20 [TV.lit (Value.string (ByteArray.mk (Array.mk [(97:UInt8),(100:UInt8),(100:UInt8)]))),frz (TV.sl true 1 (chunks 1 3 [cell x0 1,cell x0 2,cell x0 3]))] fun v6 =>
 chk (ab cN [v6] 0) (
 ret v6)) (
 tv (pbin (.int .i64) .eql (cell x0 0) (I 4)) fun v7 =>
 Prg.ite (asBool v7) (
 call 20 [TV.lit (Value.string (ByteArray.mk (Array.mk [(115:UInt8),(117:UInt8),(98:UInt8)]))),frz (TV.sl true 1 (chunks 1 3 [cell x0 1,cell x0 2,cell x0 3]))] fun v8 =>
 chk (ab cN [v8] 0) (
 ret v8)) (
 tv (pbin (.int .i64) .eql (cell x0 0) (I 5)) fun v9 =>
 Prg.ite (asBool v9) (
 call 20 [TV.lit (Value.string (ByteArray.mk (Array.mk [(109:UInt8),(117:UInt8),(108:UInt8)]))),frz (TV.sl true 1 (chunks 1 3 [cell x0 1,cell x0 2,cell x0 3]))] fun v10 =>
 chk (ab cN [v10] 0) (
 ret v10)) (
 tv (pbin (.int .i64) .eql (cell x0 0) (I 6)) fun v11 =>
 Prg.ite (asBool v11) (
 call 20 [TV.lit (Value.string (ByteArray.mk (Array.mk [(100:UInt8),(105:UInt8),(118:UInt8)]))),frz (TV.sl true 1 (chunks 1 3 [cell x0 1,cell x0 2,cell x0 3]))] fun v12 =>
 chk (ab cN [v12] 0) (
 ret v12)) (
 tv (pbin (.int .i64) .eql (cell x0 0) (I 7)) fun v13 =>
 Prg.ite (asBool v13) (
 call 20 [TV.lit (Value.string (ByteArray.mk (Array.mk [(101:UInt8),(113:UInt8)]))),frz (TV.sl true 1 (chunks 1 3 [cell x0 1,cell x0 2,cell x0 3]))] fun v14 =>
 chk (ab cN [v14] 0) (
 ret v14)) (
 tv (pbin (.int .i64) .eql (cell x0 0) (I 8)) fun v15 =>
 Prg.ite (asBool v15) (
 call 20 [TV.lit (Value.string (ByteArray.mk (Array.mk [(108:UInt8),(116:UInt8)]))),frz (TV.sl true 1 (chunks 1 3 [cell x0 1,cell x0 2,cell x0 3]))] fun v16 =>
 chk (ab cN [v16] 0) (
 ret v16)) (
 tv (pbin (.int .i64) .eql (cell x0 0) (I 9)) fun v17 =>
 Prg.ite (asBool v17) (
 call 20 [TV.lit (Value.string (ByteArray.mk (Array.mk [(108:UInt8),(111:UInt8),(97:UInt8),(100:UInt8)]))),frz (TV.sl true 1 (chunks 1 2 [cell x0 1,cell x0 2]))] fun v18 =>
 chk (ab cN [v18] 0) (
 ret v18)) (
 tv (pbin (.int .i64) .eql (cell x0 0) (I 10)) fun v19 =>
 Prg.ite (asBool v19) (
 call 20 [TV.lit (Value.string (ByteArray.mk (Array.mk [(115:UInt8),(116:UInt8),(111:UInt8),(114:UInt8),(101:UInt8)]))),frz (TV.sl true 1 (chunks 1 2 [cell x0 2,cell x0 3]))] fun v20 =>
 chk (ab cN [v20] 0) (
 ret v20)) (
 tv (pbin (.int .i64) .eql (cell x0 0) (I 11)) fun v21 =>
 Prg.ite (asBool v21) (
 call 21 [cell x0 6,frz (TV.sl true 1 (chunks 1 2 [cell x0 1,cell x0 5]))] fun v22 =>
 chk (ab zSl [v22] 0) (
 call 20 [TV.lit (Value.string (ByteArray.mk (Array.mk [(99:UInt8),(97:UInt8),(108:UInt8),(108:UInt8)]))),frz v22] fun v23 =>
 chk (ab cN [v23] 0) (
 ret v23))) (
 tv (pbin (.int .i64) .eql (cell x0 0) (I 12)) fun v24 =>
 Prg.ite (asBool v24) (
 call 20 [TV.lit (Value.string (ByteArray.mk (Array.mk [(111:UInt8),(117:UInt8),(116:UInt8)]))),frz (TV.sl true 1 (chunks 1 1 [cell x0 2]))] fun v25 =>
 chk (ab cN [v25] 0) (
 ret v25)) (
 tv (pbin (.int .i64) .eql (cell x0 0) (I 13)) fun v26 =>
 Prg.ite (asBool v26) (
 call 20 [TV.lit (Value.string (ByteArray.mk (Array.mk [(105:UInt8),(110:UInt8)]))),frz (TV.sl true 1 (chunks 1 1 [cell x0 1]))] fun v27 =>
 chk (ab cN [v27] 0) (
 ret v27)) (
 ret (TV.lit (Value.string (ByteArray.mk (Array.mk []))))))))))))))))))
theorem f8_MR (x0:TV):bO prog 8 [x0]=f8_M x0:=by kernel_rfl
def f9_M (x0:TV):Prg TV :=
 chk (TV.isAgg x0 8) (
 tv (pbin (.int .i64) .eql (cell x0 0) (I 1)) fun v0 =>
 Prg.ite (asBool v0) (
 call 20 [TV.lit (Value.string (ByteArray.mk (Array.mk [(114:UInt8),(101:UInt8),(116:UInt8)]))),frz (TV.sl true 1 (chunks 1 1 [cell x0 1]))] fun v1 =>
 chk (ab cN [v1] 0) (
 ret v1)) (
 tv (pbin (.int .i64) .eql (cell x0 0) (I 2)) fun v2 =>
 Prg.ite (asBool v2) (
 call 20 [TV.lit (Value.string (ByteArray.mk (Array.mk [(106:UInt8),(117:UInt8),(109:UInt8),(112:UInt8)]))),frz (TV.sl true 1 (chunks 1 1 [cell x0 5]))] fun v3 =>
 chk (ab cN [v3] 0) (
 ret v3)) (
 tv (pbin (.int .i64) .eql (cell x0 0) (I 3)) fun v4 =>
 Prg.ite (asBool v4) (
 call 20 [TV.lit (Value.string (ByteArray.mk (Array.mk [(98:UInt8),(114:UInt8),(97:UInt8),(110:UInt8),(99:UInt8),(104:UInt8)]))),frz (TV.sl true 1 (chunks 1 3 [cell x0 1,cell x0 5,cell x0 6]))] fun v5 =>
 chk (ab cN [v5] 0) (
 ret v5)) (
 tv (pbin (.int .i64) .eql (cell x0 0) (I 4)) fun v6 =>
 Prg.ite (asBool v6) (
 call 21 [cell x0 4,frz (TV.sl true 1 (chunks 1 4 [cell x0 2,cell x0 3,cell x0 5,cell x0 7]))] fun v7 =>
 chk (ab zSl [v7] 0) (
 call 20 [TV.lit (Value.string (ByteArray.mk (Array.mk [(105:UInt8),(110:UInt8),(118:UInt8),(111:UInt8),(107:UInt8),(101:UInt8)]))),frz v7] fun v8 =>
 chk (ab cN [v8] 0) (
 ret v8))) (
 tv (pbin (.int .i64) .eql (cell x0 0) (I 5)) fun v9 =>
 Prg.ite (asBool v9) (
 call 20 [TV.lit (Value.string (ByteArray.mk (Array.mk [(116:UInt8),(104:UInt8),(114:UInt8),(111:UInt8),(119:UInt8)]))),frz (TV.sl true 1 (chunks 1 1 [cell x0 1]))] fun v10 =>
 chk (ab cN [v10] 0) (
 ret v10)) (
 tv (pbin (.int .i64) .eql (cell x0 0) (I 6)) fun v11 =>
 Prg.ite (asBool v11) (
 call 20 [TV.lit (Value.string (ByteArray.mk (Array.mk [(114:UInt8),(101:UInt8),(115:UInt8),(117:UInt8),(109:UInt8),(101:UInt8)]))),TV.lit aj] fun v12 =>
 chk (ab cN [v12] 0) (
 ret v12)) (
 ret (TV.lit (Value.string (ByteArray.mk (Array.mk [])))))))))))
theorem f9_MR (x0:TV):bO prog 9 [x0]=f9_M x0:=by kernel_rfl
def f10_M (x0:TV):Prg TV :=
 chk (TV.isAgg x0 4) (
 call 20 [TV.lit (Value.string (ByteArray.mk (Array.mk [(112:UInt8),(97:UInt8),(100:UInt8)]))),frz (TV.sl true 1 (chunks 1 1 [cell x0 0]))] fun v0 =>
 chk (ab cN [v0] 0) (
 tv (plen (.slice 22) (cell x0 1)) fun v1 =>
 tv (pbin (.int .i64) .gtr v1 (I 0)) fun v2 =>
 Prg.ite (asBool v2) (
 call 22 [cell x0 1] fun v3 =>
 chk (ab zSl [v3] 0) (
 call 20 [TV.lit (Value.string (ByteArray.mk (Array.mk [(99:UInt8),(97:UInt8),(116:UInt8),(99:UInt8),(104:UInt8)]))),frz v3] fun v4 =>
 chk (ab cN [v4] 0) (
 tv (pbin Kd.str .add (TV.lit (Value.string (ByteArray.mk (Array.mk [(32:UInt8)])))) v4) fun v5 =>
 tv (pbin Kd.str .add v0 v5) fun v6 =>
 Prg.ite (asBool (cell x0 2)) (
 tv (pbin Kd.str .add v6 (TV.lit (Value.string (ByteArray.mk (Array.mk [(32:UInt8),(97:UInt8),(108:UInt8),(108:UInt8)]))))) fun v7 =>
 Prg.ite (asBool (cell x0 3)) (
 tv (pbin Kd.str .add v7 (TV.lit (Value.string (ByteArray.mk (Array.mk [(32:UInt8),(99:UInt8),(108:UInt8),(101:UInt8),(97:UInt8),(110:UInt8),(117:UInt8),(112:UInt8)]))))) fun v8 =>
 ret v8) (
 ret v7)) (
 Prg.ite (asBool (cell x0 3)) (
 tv (pbin Kd.str .add v6 (TV.lit (Value.string (ByteArray.mk (Array.mk [(32:UInt8),(99:UInt8),(108:UInt8),(101:UInt8),(97:UInt8),(110:UInt8),(117:UInt8),(112:UInt8)]))))) fun v9 =>
 ret v9) (
 ret v6))))) (
 Prg.ite (asBool (cell x0 2)) (
 tv (pbin Kd.str .add v0 (TV.lit (Value.string (ByteArray.mk (Array.mk [(32:UInt8),(97:UInt8),(108:UInt8),(108:UInt8)]))))) fun v10 =>
 Prg.ite (asBool (cell x0 3)) (
 tv (pbin Kd.str .add v10 (TV.lit (Value.string (ByteArray.mk (Array.mk [(32:UInt8),(99:UInt8),(108:UInt8),(101:UInt8),(97:UInt8),(110:UInt8),(117:UInt8),(112:UInt8)]))))) fun v11 =>
 ret v11) (
 ret v10)) (
 Prg.ite (asBool (cell x0 3)) (
 tv (pbin Kd.str .add v0 (TV.lit (Value.string (ByteArray.mk (Array.mk [(32:UInt8),(99:UInt8),(108:UInt8),(101:UInt8),(97:UInt8),(110:UInt8),(117:UInt8),(112:UInt8)]))))) fun v12 =>
 ret v12) (
 ret v0)))))
theorem f10_MR (x0:TV):bO prog 10 [x0]=f10_M x0:=by kernel_rfl
def f11_M (x0 x1:TV):Prg TV :=
 chk (TV.isAgg x0 7) (
 chk (TV.isAgg x1 7) (
 tv (pbin (.int .i64) .eql (cell x0 0) (cell x1 0)) fun v0 =>
 Prg.ite (asBool v0) (
 tv (pbin (.int .i64) .eql (cell x0 1) (cell x1 1)) fun v1 =>
 Prg.ite (asBool v1) (
 tv (pbin (.int .i64) .eql (cell x0 2) (cell x1 2)) fun v2 =>
 Prg.ite (asBool v2) (
 tv (pbin (.int .i64) .eql (cell x0 3) (cell x1 3)) fun v3 =>
 Prg.ite (asBool v3) (
 tv (pbin (.int .u16) .eql (cell x0 4) (cell x1 4)) fun v4 =>
 Prg.ite (asBool v4) (
 tv (pbin (.int .i64) .eql (cell x0 5) (cell x1 5)) fun v5 =>
 Prg.ite (asBool v5) (
 call 23 [cell x0 6,cell x1 6] fun v6 =>
 chk (ab kV [v6] 0) (
 ret v6)) (
 ret (B false))) (
 ret (B false))) (
 ret (B false))) (
 ret (B false))) (
 ret (B false))) (
 ret (B false))))
theorem f11_MR (x0 x1:TV):bO prog 11 [x0,x1]=f11_M x0 x1:=by kernel_rfl
def f12_M (x0 x1:TV):Prg TV :=
 chk (TV.isAgg x0 8) (
 chk (TV.isAgg x1 8) (
 tv (pbin (.int .i64) .eql (cell x0 0) (cell x1 0)) fun v0 =>
 Prg.ite (asBool v0) (
 tv (pbin (.int .i64) .eql (cell x0 1) (cell x1 1)) fun v1 =>
 Prg.ite (asBool v1) (
 tv (pbin (.int .i64) .eql (cell x0 2) (cell x1 2)) fun v2 =>
 Prg.ite (asBool v2) (
 tv (pbin (.int .i64) .eql (cell x0 3) (cell x1 3)) fun v3 =>
 Prg.ite (asBool v3) (
 call 23 [cell x0 4,cell x1 4] fun v4 =>
 chk (ab kV [v4] 0) (
 Prg.ite (asBool v4) (
 tv (pbin (.int .i64) .eql (cell x0 5) (cell x1 5)) fun v5 =>
 Prg.ite (asBool v5) (
 tv (pbin (.int .i64) .eql (cell x0 6) (cell x1 6)) fun v6 =>
 Prg.ite (asBool v6) (
 tv (pbin (.int .i64) .eql (cell x0 7) (cell x1 7)) fun v7 =>
 ret v7) (
 ret (B false))) (
 ret (B false))) (
 ret (B false)))) (
 ret (B false))) (
 ret (B false))) (
 ret (B false))) (
 ret (B false))))
theorem f12_MR (x0 x1:TV):bO prog 12 [x0,x1]=f12_M x0 x1:=by kernel_rfl
def f14_M (x0:TV):Prg TV :=
 call 28 [x0,TV.lit (Value.string (ByteArray.mk (Array.mk [(32:UInt8)]))),I 14] fun v0 =>
 chk (ab zSl [v0] 0) (
 ret v0)
theorem f14_MR (x0:TV):bO prog 14 [x0]=f14_M x0:=by kernel_rfl
def f15_0_S  (x0 x1 x2 w3 y4 y5 y6 y7 y8 y9 y10 y11 y12 y13 y14 y15 y16 y17 y18:TV):ASt:=⟨[Jk,AV.one (CA.psl 0 2),Jk,Jk,Jk,Sr 1,Jk,Jk,AV.tv x0,AV.tv x1,AV.tv x2] ++ Rj 22,[some (BC.cells [CA.ptr 3 1,CA.ptr 4 0]),Tr w3,some (BC.cells [CA.t y4,CA.t y5,CA.t y6,CA.t y7,CA.t y8,CA.t y9,CA.t y10]),some (BC.cells [CA.t y11,CA.t y12,CA.t y13,CA.t y14,CA.t y15,CA.t y16,CA.t y17]),Ct y18] ++ Rz 120,(Rj 4 ++ [Pt 2,Pt 3,Pt 4] ++ Rj 61)⟩
def f15_1_S  (x0 x1 x2 y3 y4 y5 y6 y7 y8 y9:TV):ASt:=⟨[Jk,AV.tv x0,Jk,Jk,Pt 0,Pt 1,Jk,Jk,Jk,AV.tv x1] ++ Rj 9 ++ [AV.tv x2] ++ Rj 48,[some (BC.cells [CA.junk,CA.junk,CA.junk,CA.junk,CA.junk,CA.junk,CA.junk]),some (BC.cells [CA.t y3,CA.t y4,CA.t y5,CA.t y6,CA.t y7,CA.t y8,CA.t y9])] ++ Rz 90,[]⟩
def f15_2_S  (x0 x1 x2 w3 y4 y5 y6 y7 y8 y9 y10:TV):ASt:=⟨[Jk,AV.one (CA.psl 0 2),Jk,Jk,Jk,Sr 1,Jk,Jk,AV.tv x0,AV.tv x1,AV.tv x2] ++ Rj 22,[some (BC.cells [CA.ptr 3 1,CA.ptr 3 2]),Tr w3,some (BC.cells [CA.junk,CA.junk,CA.junk,CA.junk,CA.junk,CA.junk,CA.junk]),some (BC.cells [CA.t y4,CA.t y5,CA.t y6,CA.t y7,CA.t y8,CA.t y9,CA.t y10])] ++ Rz 121,(Rj 4 ++ [Pt 2,Pt 3] ++ Rj 62)⟩
def f15_3_S  (x0 x1 x2 y3 y4 y5 y6 y7 y8 y9:TV):ASt:=⟨[Jk,AV.tv x0,Jk,Jk,Pt 0,Pt 1,Jk,Jk,Jk,AV.tv x1] ++ Rj 17 ++ [AV.tv x2] ++ Rj 40,[some (BC.cells [CA.junk,CA.junk,CA.junk,CA.junk,CA.junk,CA.junk,CA.junk]),some (BC.cells [CA.t y3,CA.t y4,CA.t y5,CA.t y6,CA.t y7,CA.t y8,CA.t y9])] ++ Rz 90,[]⟩
def f15_4_S  (x0 x1 x2 w3 y4 y5 y6 y7 y8 y9 y10:TV):ASt:=⟨[Jk,AV.one (CA.psl 0 3),Jk,Jk,Jk,Sr 1,Jk,Jk,AV.tv x0,AV.tv x1,AV.tv x2] ++ Rj 22,[some (BC.cells [CA.ptr 3 1,CA.ptr 3 2,CA.ptr 3 3]),Tr w3,some (BC.cells [CA.junk,CA.junk,CA.junk,CA.junk,CA.junk,CA.junk,CA.junk]),some (BC.cells [CA.t y4,CA.t y5,CA.t y6,CA.t y7,CA.t y8,CA.t y9,CA.t y10])] ++ Rz 121,(Rj 4 ++ [Pt 2,Pt 3] ++ Rj 62)⟩
def f15_5_S  (x0 x1 x2 w3 y4 y5 y6 y7 y8 y9 y10:TV):ASt:=⟨[Jk,AV.one (CA.psl 0 2),Jk,Jk,Jk,Sr 1,Jk,Jk,AV.tv x0,AV.tv x1,AV.tv x2] ++ Rj 22,[some (BC.cells [CA.ptr 3 2,CA.ptr 3 3]),Tr w3,some (BC.cells [CA.junk,CA.junk,CA.junk,CA.junk,CA.junk,CA.junk,CA.junk]),some (BC.cells [CA.t y4,CA.t y5,CA.t y6,CA.t y7,CA.t y8,CA.t y9,CA.t y10])] ++ Rz 121,(Rj 4 ++ [Pt 2,Pt 3] ++ Rj 62)⟩
def f15_6_S  (x0 x1 x2 w3 y4 y5 y6 y7 y8 y9 y10:TV):ASt:=⟨[Jk,AV.one (CA.psl 0 2),Jk,Jk,Jk,Sr 1,Jk,Jk,AV.tv x0,AV.tv x1,AV.tv x2] ++ Rj 22,[some (BC.cells [CA.ptr 3 1,CA.ptr 3 5]),Tr w3,some (BC.cells [CA.junk,CA.junk,CA.junk,CA.junk,CA.junk,CA.junk,CA.junk]),some (BC.cells [CA.t y4,CA.t y5,CA.t y6,CA.t y7,CA.t y8,CA.t y9,CA.t y10])] ++ Rz 121,(Rj 4 ++ [Pt 2,Pt 3] ++ Rj 62)⟩
def f15_7_S  (x0 x1 x2 w3 y4 y5 y6 y7 y8 y9 y10:TV):ASt:=⟨[Jk,AV.one (CA.psl 0 1),Jk,Jk,Jk,Sr 1,Jk,Jk,AV.tv x0,AV.tv x1,AV.tv x2] ++ Rj 22,[some (BC.cells [CA.ptr 3 2]),Tr w3,some (BC.cells [CA.junk,CA.junk,CA.junk,CA.junk,CA.junk,CA.junk,CA.junk]),some (BC.cells [CA.t y4,CA.t y5,CA.t y6,CA.t y7,CA.t y8,CA.t y9,CA.t y10])] ++ Rz 121,(Rj 4 ++ [Pt 2,Pt 3] ++ Rj 62)⟩
def f15_8_S  (x0 x1 x2 w3 y4 y5 y6 y7 y8 y9 y10:TV):ASt:=⟨[Jk,AV.one (CA.psl 0 1),Jk,Jk,Jk,Sr 1,Jk,Jk,AV.tv x0,AV.tv x1,AV.tv x2] ++ Rj 22,[some (BC.cells [CA.ptr 3 1]),Tr w3,some (BC.cells [CA.junk,CA.junk,CA.junk,CA.junk,CA.junk,CA.junk,CA.junk]),some (BC.cells [CA.t y4,CA.t y5,CA.t y6,CA.t y7,CA.t y8,CA.t y9,CA.t y10])] ++ Rz 121,(Rj 4 ++ [Pt 2,Pt 3] ++ Rj 62)⟩
def f15_M (x0 x1:TV):Prg TV :=
 chk (TV.gL x0) (
 tv (pbin (.int .i64) .eql x0 (I 1)) fun v0 =>
 Prg.ite (asBool v0) (
 tv (plen (.slice 9) x1) fun v1 =>
 chk true (
 jmp [0,0,1,0,1,1,8,0,1,0,1,0,1,0,1,1] (f15_0_S x1 v1 (I 0) (TV.lit aj) (I 0) (I 0) (I 0) (I 0) (W 0) (I 0) (TV.lit aj) x0 (I 0) (I 0) (I 0) (W 0) (I 0) (TV.lit aj) (I 0)))) (
 tv (pbin (.int .i64) .eql x0 (I 2)) fun v2 =>
 Prg.ite (asBool v2) (
 jmp [1,1,1,0,1,0,1,1] (f15_1_S x1 x0 v2 x0 (I 0) (I 0) (I 0) (W 0) (I 0) (TV.lit aj))) (
 tv (pbin (.int .i64) .eql x0 (I 9)) fun v3 =>
 jmp [1,1,1,0,1,0,1,1] (f15_1_S x1 x0 v3 x0 (I 0) (I 0) (I 0) (W 0) (I 0) (TV.lit aj)))))
def f15_0  (x0 x1 x2 w3 y4 y5 y6 y7 y8 y9 y10 y11 y12 y13 y14 y15 y16 y17 y18:TV):Prg TV :=
 tv (pbin (.int .i64) .lss x2 x1) fun v4 =>
 Prg.ite (asBool v4) (
 tvs (pidx 1 x0 x2) fun e5 =>
 chk (Nat.blt 0 (List.length e5)) (
 tv (pbin (.int .i64) .lss x2 (I 2)) fun v6 =>
 Prg.ite (asBool v6) (
 nat (bh x2) fun n7 =>
 Prg.ite (some (Nat.beq n7 1)) (
 call 30 [nth hole e5 0] fun v8 =>
 chk (ab cw [v8] 0) (
 tv (pbin (.int .i64) .add x2 (I 1)) fun v9 =>
 jmp [0,0,1,0,1,1,8,0,1,0,1,0,1,0,1,1] (f15_0_S x0 x1 v9 w3 y4 y5 y6 y7 y8 y9 y10 y11 y12 y13 y14 y15 y16 y17 v8))) (
 Prg.ite (some (Nat.beq n7 0)) (
 call 30 [nth hole e5 0] fun v10 =>
 chk (ab cw [v10] 0) (
 tv (pbin (.int .i64) .add x2 (I 1)) fun v11 =>
 jmp [0,0,1,0,1,1,8,0,1,0,1,0,1,0,1,1] (f15_0_S x0 x1 v11 w3 y4 y5 y6 y7 y8 y9 y10 y11 v10 y13 y14 y15 y16 y17 y18))) (
 Prg.fail))) (
 call 30 [nth hole e5 0] fun v12 =>
 chk (ab cw [v12] 0) (
 rws (pelems 1 (TV.sl true 1 (chunks 1 1 [v12]))) fun r13 =>
 tv (papp 1 w3 (j7 r13)) fun v14 =>
 tv (pbin (.int .i64) .add x2 (I 1)) fun v15 =>
 jmp [0,0,1,0,1,1,8,0,1,0,1,0,1,0,1,1] (f15_0_S x0 x1 v15 v14 y4 y5 y6 y7 y8 y9 y10 y11 y12 y13 y14 y15 y16 y17 y18))))) (
 tv (pconv (.int .u16) y18) fun v16 =>
 chk (aB (agg [y11,y12,y13,y14,v16,y16,y17])) (
 ret (agg [y11,y12,y13,y14,v16,y16,y17])))
def f15_1  (x0 x1 x2 y3 y4 y5 y6 y7 y8 y9:TV):Prg TV :=
 Prg.ite (asBool x2) (
 tv (plen (.slice 9) x0) fun v17 =>
 chk true (
 jmp [0,0,1,0,1,1,10,0,1,1,1,0,1,0,1,1] (f15_2_S x0 v17 (I 0) (TV.lit aj) y3 y4 y5 y6 y7 y8 y9))) (
 tv (pbin (.int .i64) .eql x1 (I 3)) fun v18 =>
 Prg.ite (asBool v18) (
 jmp [1,1,1,1,1,0,1,0,1,1] (f15_3_S x0 x1 v18 y3 y4 y5 y6 y7 y8 y9)) (
 tv (pbin (.int .i64) .eql x1 (I 4)) fun v19 =>
 Prg.ite (asBool v19) (
 jmp [1,1,1,1,1,0,1,0,1,1] (f15_3_S x0 x1 v19 y3 y4 y5 y6 y7 y8 y9)) (
 tv (pbin (.int .i64) .eql x1 (I 5)) fun v20 =>
 Prg.ite (asBool v20) (
 jmp [1,1,1,1,1,0,1,0,1,1] (f15_3_S x0 x1 v20 y3 y4 y5 y6 y7 y8 y9)) (
 tv (pbin (.int .i64) .eql x1 (I 6)) fun v21 =>
 Prg.ite (asBool v21) (
 jmp [1,1,1,1,1,0,1,0,1,1] (f15_3_S x0 x1 v21 y3 y4 y5 y6 y7 y8 y9)) (
 tv (pbin (.int .i64) .eql x1 (I 7)) fun v22 =>
 Prg.ite (asBool v22) (
 jmp [1,1,1,1,1,0,1,0,1,1] (f15_3_S x0 x1 v22 y3 y4 y5 y6 y7 y8 y9)) (
 tv (pbin (.int .i64) .eql x1 (I 8)) fun v23 =>
 jmp [1,1,1,1,1,0,1,0,1,1] (f15_3_S x0 x1 v23 y3 y4 y5 y6 y7 y8 y9)))))))
def f15_2  (x0 x1 x2 w3 y4 y5 y6 y7 y8 y9 y10:TV):Prg TV :=
 tv (pbin (.int .i64) .lss x2 x1) fun v24 =>
 Prg.ite (asBool v24) (
 tvs (pidx 1 x0 x2) fun e25 =>
 chk (Nat.blt 0 (List.length e25)) (
 tv (pbin (.int .i64) .lss x2 (I 2)) fun v26 =>
 Prg.ite (asBool v26) (
 nat (bh x2) fun n27 =>
 Prg.ite (some (Nat.beq n27 1)) (
 call 30 [nth hole e25 0] fun v28 =>
 chk (ab cw [v28] 0) (
 tv (pbin (.int .i64) .add x2 (I 1)) fun v29 =>
 jmp [0,0,1,0,1,1,10,0,1,1,1,0,1,0,1,1] (f15_2_S x0 x1 v29 w3 y4 y5 v28 y7 y8 y9 y10))) (
 Prg.ite (some (Nat.beq n27 0)) (
 call 30 [nth hole e25 0] fun v30 =>
 chk (ab cw [v30] 0) (
 tv (pbin (.int .i64) .add x2 (I 1)) fun v31 =>
 jmp [0,0,1,0,1,1,10,0,1,1,1,0,1,0,1,1] (f15_2_S x0 x1 v31 w3 y4 v30 y6 y7 y8 y9 y10))) (
 Prg.fail))) (
 call 30 [nth hole e25 0] fun v32 =>
 chk (ab cw [v32] 0) (
 rws (pelems 1 (TV.sl true 1 (chunks 1 1 [v32]))) fun r33 =>
 tv (papp 1 w3 (j7 r33)) fun v34 =>
 tv (pbin (.int .i64) .add x2 (I 1)) fun v35 =>
 jmp [0,0,1,0,1,1,10,0,1,1,1,0,1,0,1,1] (f15_2_S x0 x1 v35 v34 y4 y5 y6 y7 y8 y9 y10))))) (
 chk (aB (agg [y4,y5,y6,y7,y8,y9,y10])) (
 ret (agg [y4,y5,y6,y7,y8,y9,y10])))
def f15_3  (x0 x1 x2 y3 y4 y5 y6 y7 y8 y9:TV):Prg TV :=
 Prg.ite (asBool x2) (
 tv (plen (.slice 9) x0) fun v36 =>
 chk true (
 jmp [0,0,1,0,1,1,12,0,1,1,1,1,1,0,1,0,1,1] (f15_4_S x0 v36 (I 0) (TV.lit aj) y3 y4 y5 y6 y7 y8 y9))) (
 tv (pbin (.int .i64) .eql x1 (I 10)) fun v37 =>
 Prg.ite (asBool v37) (
 tv (plen (.slice 9) x0) fun v38 =>
 chk true (
 jmp [0,0,1,0,1,1,10,0,1,1,1,1,1,1,1,0,1,0,1,1] (f15_5_S x0 v38 (I 0) (TV.lit aj) y3 y4 y5 y6 y7 y8 y9))) (
 tv (pbin (.int .i64) .eql x1 (I 11)) fun v39 =>
 Prg.ite (asBool v39) (
 tv (plen (.slice 9) x0) fun v40 =>
 chk true (
 jmp [0,0,1,0,1,1,10,0,1,1,1,1,1,1,1,1,1,0,1,0,1,1] (f15_6_S x0 v40 (I 0) (TV.lit aj) y3 y4 y5 y6 y7 y8 y9))) (
 tv (pbin (.int .i64) .eql x1 (I 12)) fun v41 =>
 Prg.ite (asBool v41) (
 tv (plen (.slice 9) x0) fun v42 =>
 chk true (
 jmp [0,0,1,0,1,1,8,0,1,1,1,1,1,1,1,1,1,1,1,0,1,0,1,1] (f15_7_S x0 v42 (I 0) (TV.lit aj) y3 y4 y5 y6 y7 y8 y9))) (
 tv (pbin (.int .i64) .eql x1 (I 13)) fun v43 =>
 Prg.ite (asBool v43) (
 tv (plen (.slice 9) x0) fun v44 =>
 chk true (
 jmp [0,0,1,0,1,1,8,0,1,1,1,1,1,1,1,1,1,1,1,1,1,0,1,0,1,1] (f15_8_S x0 v44 (I 0) (TV.lit aj) y3 y4 y5 y6 y7 y8 y9))) (
 chk (aB (agg [y3,y4,y5,y6,y7,y8,y9])) (
 ret (agg [y3,y4,y5,y6,y7,y8,y9])))))))
def f15_4  (x0 x1 x2 w3 y4 y5 y6 y7 y8 y9 y10:TV):Prg TV :=
 tv (pbin (.int .i64) .lss x2 x1) fun v45 =>
 Prg.ite (asBool v45) (
 tvs (pidx 1 x0 x2) fun e46 =>
 chk (Nat.blt 0 (List.length e46)) (
 tv (pbin (.int .i64) .lss x2 (I 3)) fun v47 =>
 Prg.ite (asBool v47) (
 nat (bh x2) fun n48 =>
 Prg.ite (some (Nat.beq n48 2)) (
 call 30 [nth hole e46 0] fun v49 =>
 chk (ab cw [v49] 0) (
 tv (pbin (.int .i64) .add x2 (I 1)) fun v50 =>
 jmp [0,0,1,0,1,1,12,0,1,1,1,1,1,0,1,0,1,1] (f15_4_S x0 x1 v50 w3 y4 y5 y6 v49 y8 y9 y10))) (
 Prg.ite (some (Nat.beq n48 1)) (
 call 30 [nth hole e46 0] fun v51 =>
 chk (ab cw [v51] 0) (
 tv (pbin (.int .i64) .add x2 (I 1)) fun v52 =>
 jmp [0,0,1,0,1,1,12,0,1,1,1,1,1,0,1,0,1,1] (f15_4_S x0 x1 v52 w3 y4 y5 v51 y7 y8 y9 y10))) (
 Prg.ite (some (Nat.beq n48 0)) (
 call 30 [nth hole e46 0] fun v53 =>
 chk (ab cw [v53] 0) (
 tv (pbin (.int .i64) .add x2 (I 1)) fun v54 =>
 jmp [0,0,1,0,1,1,12,0,1,1,1,1,1,0,1,0,1,1] (f15_4_S x0 x1 v54 w3 y4 v53 y6 y7 y8 y9 y10))) (
 Prg.fail)))) (
 call 30 [nth hole e46 0] fun v55 =>
 chk (ab cw [v55] 0) (
 rws (pelems 1 (TV.sl true 1 (chunks 1 1 [v55]))) fun r56 =>
 tv (papp 1 w3 (j7 r56)) fun v57 =>
 tv (pbin (.int .i64) .add x2 (I 1)) fun v58 =>
 jmp [0,0,1,0,1,1,12,0,1,1,1,1,1,0,1,0,1,1] (f15_4_S x0 x1 v58 v57 y4 y5 y6 y7 y8 y9 y10))))) (
 chk (aB (agg [y4,y5,y6,y7,y8,y9,y10])) (
 ret (agg [y4,y5,y6,y7,y8,y9,y10])))
def f15_5  (x0 x1 x2 w3 y4 y5 y6 y7 y8 y9 y10:TV):Prg TV :=
 tv (pbin (.int .i64) .lss x2 x1) fun v59 =>
 Prg.ite (asBool v59) (
 tvs (pidx 1 x0 x2) fun e60 =>
 chk (Nat.blt 0 (List.length e60)) (
 tv (pbin (.int .i64) .lss x2 (I 2)) fun v61 =>
 Prg.ite (asBool v61) (
 nat (bh x2) fun n62 =>
 Prg.ite (some (Nat.beq n62 1)) (
 call 30 [nth hole e60 0] fun v63 =>
 chk (ab cw [v63] 0) (
 tv (pbin (.int .i64) .add x2 (I 1)) fun v64 =>
 jmp [0,0,1,0,1,1,10,0,1,1,1,1,1,1,1,0,1,0,1,1] (f15_5_S x0 x1 v64 w3 y4 y5 y6 v63 y8 y9 y10))) (
 Prg.ite (some (Nat.beq n62 0)) (
 call 30 [nth hole e60 0] fun v65 =>
 chk (ab cw [v65] 0) (
 tv (pbin (.int .i64) .add x2 (I 1)) fun v66 =>
 jmp [0,0,1,0,1,1,10,0,1,1,1,1,1,1,1,0,1,0,1,1] (f15_5_S x0 x1 v66 w3 y4 y5 v65 y7 y8 y9 y10))) (
 Prg.fail))) (
 call 30 [nth hole e60 0] fun v67 =>
 chk (ab cw [v67] 0) (
 rws (pelems 1 (TV.sl true 1 (chunks 1 1 [v67]))) fun r68 =>
 tv (papp 1 w3 (j7 r68)) fun v69 =>
 tv (pbin (.int .i64) .add x2 (I 1)) fun v70 =>
 jmp [0,0,1,0,1,1,10,0,1,1,1,1,1,1,1,0,1,0,1,1] (f15_5_S x0 x1 v70 v69 y4 y5 y6 y7 y8 y9 y10))))) (
 chk (aB (agg [y4,y5,y6,y7,y8,y9,y10])) (
 ret (agg [y4,y5,y6,y7,y8,y9,y10])))
def f15_6  (x0 x1 x2 w3 y4 y5 y6 y7 y8 y9 y10:TV):Prg TV :=
 tv (pbin (.int .i64) .lss x2 x1) fun v71 =>
 Prg.ite (asBool v71) (
 tvs (pidx 1 x0 x2) fun e72 =>
 chk (Nat.blt 0 (List.length e72)) (
 tv (pbin (.int .i64) .lss x2 (I 2)) fun v73 =>
 Prg.ite (asBool v73) (
 nat (bh x2) fun n74 =>
 Prg.ite (some (Nat.beq n74 1)) (
 call 30 [nth hole e72 0] fun v75 =>
 chk (ab cw [v75] 0) (
 tv (pbin (.int .i64) .add x2 (I 1)) fun v76 =>
 jmp [0,0,1,0,1,1,10,0,1,1,1,1,1,1,1,1,1,0,1,0,1,1] (f15_6_S x0 x1 v76 w3 y4 y5 y6 y7 y8 v75 y10))) (
 Prg.ite (some (Nat.beq n74 0)) (
 call 30 [nth hole e72 0] fun v77 =>
 chk (ab cw [v77] 0) (
 tv (pbin (.int .i64) .add x2 (I 1)) fun v78 =>
 jmp [0,0,1,0,1,1,10,0,1,1,1,1,1,1,1,1,1,0,1,0,1,1] (f15_6_S x0 x1 v78 w3 y4 v77 y6 y7 y8 y9 y10))) (
 Prg.fail))) (
 call 30 [nth hole e72 0] fun v79 =>
 chk (ab cw [v79] 0) (
 rws (pelems 1 (TV.sl true 1 (chunks 1 1 [v79]))) fun r80 =>
 tv (papp 1 w3 (j7 r80)) fun v81 =>
 tv (pbin (.int .i64) .add x2 (I 1)) fun v82 =>
 jmp [0,0,1,0,1,1,10,0,1,1,1,1,1,1,1,1,1,0,1,0,1,1] (f15_6_S x0 x1 v82 v81 y4 y5 y6 y7 y8 y9 y10))))) (
 chk (aB (agg [y4,y5,y6,y7,y8,y9,w3])) (
 ret (agg [y4,y5,y6,y7,y8,y9,w3])))
def f15_7  (x0 x1 x2 w3 y4 y5 y6 y7 y8 y9 y10:TV):Prg TV :=
 tv (pbin (.int .i64) .lss x2 x1) fun v83 =>
 Prg.ite (asBool v83) (
 tvs (pidx 1 x0 x2) fun e84 =>
 chk (Nat.blt 0 (List.length e84)) (
 tv (pbin (.int .i64) .lss x2 (I 1)) fun v85 =>
 Prg.ite (asBool v85) (
 nat (bh x2) fun n86 =>
 Prg.ite (some (Nat.beq n86 0)) (
 call 30 [nth hole e84 0] fun v87 =>
 chk (ab cw [v87] 0) (
 tv (pbin (.int .i64) .add x2 (I 1)) fun v88 =>
 jmp [0,0,1,0,1,1,8,0,1,1,1,1,1,1,1,1,1,1,1,0,1,0,1,1] (f15_7_S x0 x1 v88 w3 y4 y5 v87 y7 y8 y9 y10))) (
 Prg.fail)) (
 call 30 [nth hole e84 0] fun v89 =>
 chk (ab cw [v89] 0) (
 rws (pelems 1 (TV.sl true 1 (chunks 1 1 [v89]))) fun r90 =>
 tv (papp 1 w3 (j7 r90)) fun v91 =>
 tv (pbin (.int .i64) .add x2 (I 1)) fun v92 =>
 jmp [0,0,1,0,1,1,8,0,1,1,1,1,1,1,1,1,1,1,1,0,1,0,1,1] (f15_7_S x0 x1 v92 v91 y4 y5 y6 y7 y8 y9 y10))))) (
 chk (aB (agg [y4,y5,y6,y7,y8,y9,y10])) (
 ret (agg [y4,y5,y6,y7,y8,y9,y10])))
def f15_8  (x0 x1 x2 w3 y4 y5 y6 y7 y8 y9 y10:TV):Prg TV :=
 tv (pbin (.int .i64) .lss x2 x1) fun v93 =>
 Prg.ite (asBool v93) (
 tvs (pidx 1 x0 x2) fun e94 =>
 chk (Nat.blt 0 (List.length e94)) (
 tv (pbin (.int .i64) .lss x2 (I 1)) fun v95 =>
 Prg.ite (asBool v95) (
 nat (bh x2) fun n96 =>
 Prg.ite (some (Nat.beq n96 0)) (
 call 30 [nth hole e94 0] fun v97 =>
 chk (ab cw [v97] 0) (
 tv (pbin (.int .i64) .add x2 (I 1)) fun v98 =>
 jmp [0,0,1,0,1,1,8,0,1,1,1,1,1,1,1,1,1,1,1,1,1,0,1,0,1,1] (f15_8_S x0 x1 v98 w3 y4 v97 y6 y7 y8 y9 y10))) (
 Prg.fail)) (
 call 30 [nth hole e94 0] fun v99 =>
 chk (ab cw [v99] 0) (
 rws (pelems 1 (TV.sl true 1 (chunks 1 1 [v99]))) fun r100 =>
 tv (papp 1 w3 (j7 r100)) fun v101 =>
 tv (pbin (.int .i64) .add x2 (I 1)) fun v102 =>
 jmp [0,0,1,0,1,1,8,0,1,1,1,1,1,1,1,1,1,1,1,1,1,0,1,0,1,1] (f15_8_S x0 x1 v102 v101 y4 y5 y6 y7 y8 y9 y10))))) (
 chk (aB (agg [y4,y5,y6,y7,y8,y9,y10])) (
 ret (agg [y4,y5,y6,y7,y8,y9,y10])))
theorem f15_MR (x0 x1:TV):bO prog 15 [x0,x1]=f15_M x0 x1:=by kernel_rfl
theorem f15_0_J  {x0 x1 x2 w3 y4 y5 y6 y7 y8 y9 y10 y11 y12 y13 y14 y15 y16 y17 y18:TV} {r:TV} (h:aa prog 15 (f15_0 x0 x1 x2 w3 y4 y5 y6 y7 y8 y9 y10 y11 y12 y13 y14 y15 y16 y17 y18) r):aa prog 15 (.jmp [0,0,1,0,1,1,8,0,1,0,1,0,1,0,1,1] (f15_0_S x0 x1 x2 w3 y4 y5 y6 y7 y8 y9 y10 y11 y12 y13 y14 y15 y16 y17 y18)) r:=aa.jmp (by kernel_rfl) h
theorem f15_1_J  {x0 x1 x2 y3 y4 y5 y6 y7 y8 y9:TV} {r:TV} (h:aa prog 15 (f15_1 x0 x1 x2 y3 y4 y5 y6 y7 y8 y9) r):aa prog 15 (.jmp [1,1,1,0,1,0,1,1] (f15_1_S x0 x1 x2 y3 y4 y5 y6 y7 y8 y9)) r:=aa.jmp (by kernel_rfl) h
theorem f15_2_J  {x0 x1 x2 w3 y4 y5 y6 y7 y8 y9 y10:TV} {r:TV} (h:aa prog 15 (f15_2 x0 x1 x2 w3 y4 y5 y6 y7 y8 y9 y10) r):aa prog 15 (.jmp [0,0,1,0,1,1,10,0,1,1,1,0,1,0,1,1] (f15_2_S x0 x1 x2 w3 y4 y5 y6 y7 y8 y9 y10)) r:=aa.jmp (by kernel_rfl) h
theorem f15_3_J  {x0 x1 x2 y3 y4 y5 y6 y7 y8 y9:TV} {r:TV} (h:aa prog 15 (f15_3 x0 x1 x2 y3 y4 y5 y6 y7 y8 y9) r):aa prog 15 (.jmp [1,1,1,1,1,0,1,0,1,1] (f15_3_S x0 x1 x2 y3 y4 y5 y6 y7 y8 y9)) r:=aa.jmp (by kernel_rfl) h
theorem f15_4_J  {x0 x1 x2 w3 y4 y5 y6 y7 y8 y9 y10:TV} {r:TV} (h:aa prog 15 (f15_4 x0 x1 x2 w3 y4 y5 y6 y7 y8 y9 y10) r):aa prog 15 (.jmp [0,0,1,0,1,1,12,0,1,1,1,1,1,0,1,0,1,1] (f15_4_S x0 x1 x2 w3 y4 y5 y6 y7 y8 y9 y10)) r:=aa.jmp (by kernel_rfl) h
theorem f15_5_J  {x0 x1 x2 w3 y4 y5 y6 y7 y8 y9 y10:TV} {r:TV} (h:aa prog 15 (f15_5 x0 x1 x2 w3 y4 y5 y6 y7 y8 y9 y10) r):aa prog 15 (.jmp [0,0,1,0,1,1,10,0,1,1,1,1,1,1,1,0,1,0,1,1] (f15_5_S x0 x1 x2 w3 y4 y5 y6 y7 y8 y9 y10)) r:=aa.jmp (by kernel_rfl) h
theorem f15_6_J  {x0 x1 x2 w3 y4 y5 y6 y7 y8 y9 y10:TV} {r:TV} (h:aa prog 15 (f15_6 x0 x1 x2 w3 y4 y5 y6 y7 y8 y9 y10) r):aa prog 15 (.jmp [0,0,1,0,1,1,10,0,1,1,1,1,1,1,1,1,1,0,1,0,1,1] (f15_6_S x0 x1 x2 w3 y4 y5 y6 y7 y8 y9 y10)) r:=aa.jmp (by kernel_rfl) h
theorem f15_7_J  {x0 x1 x2 w3 y4 y5 y6 y7 y8 y9 y10:TV} {r:TV} (h:aa prog 15 (f15_7 x0 x1 x2 w3 y4 y5 y6 y7 y8 y9 y10) r):aa prog 15 (.jmp [0,0,1,0,1,1,8,0,1,1,1,1,1,1,1,1,1,1,1,0,1,0,1,1] (f15_7_S x0 x1 x2 w3 y4 y5 y6 y7 y8 y9 y10)) r:=aa.jmp (by kernel_rfl) h
theorem f15_8_J  {x0 x1 x2 w3 y4 y5 y6 y7 y8 y9 y10:TV} {r:TV} (h:aa prog 15 (f15_8 x0 x1 x2 w3 y4 y5 y6 y7 y8 y9 y10) r):aa prog 15 (.jmp [0,0,1,0,1,1,8,0,1,1,1,1,1,1,1,1,1,1,1,1,1,0,1,0,1,1] (f15_8_S x0 x1 x2 w3 y4 y5 y6 y7 y8 y9 y10)) r:=aa.jmp (by kernel_rfl) h
end Go.Ab.S13

import Derived.Test.YtpoidnkgadhdmaaH6T
import Derived.Test.YtpoidnkgadhdmaaF0
set_option linter.unusedVariables false
set_option maxRecDepth 100000
namespace Go.Ab.H6
open Go Go.Ab Go.Proofs
def f15_M (x0 x1 : TV) : Prg TV :=
  Prg.chk (TV.isAgg x0 1) (
  Prg.chk (TV.isAgg x1 1) (
  Prg.call 47 [TV.cell x0 0, TV.cell x1 0, TV.lit (Value.func (Fn.func 48) (Array.mk []) (Array.mk []))] fun v0 =>
  Prg.chk (fitsAt zBool [v0] 0) (
  Prg.ret v0)))
theorem f15_MR (x0 x1 : TV) : startQ prog 15 [x0, x1] = f15_M x0 x1 := by kernel_rfl

theorem f15_run {x0 x1 : TV} {r : TV} (h : Goes prog 15 (f15_M x0 x1) r) : Runs prog 15 [x0, x1] r := Runs.of (f15_MR x0 x1) h
def f16_0_S  (x0 y1 y2 : TV) : ASt := ⟨[AV.one CA.junk, AV.one CA.junk, AV.one (CA.ptr 0 0), AV.one (CA.ptr 1 0), AV.one CA.junk, AV.tv x0] ++ List.replicate 26 (AV.one CA.junk), [Option.some (BC.cells [CA.t y1]), Option.some (BC.cells [CA.t y2])] ++ List.replicate 54 (Option.none), []⟩
def f16_M (x0 x1 : TV) : Prg TV :=
  Prg.chk (TV.isAgg x0 1) (
  Prg.chk (TV.isAgg x1 1) (
  Prg.tv (plen (Kd.slice 32) (TV.cell x0 0)) fun v0 =>
  Prg.tv (plen (Kd.slice 32) (TV.cell x1 0)) fun v1 =>
  Prg.tv (pbin (Kd.int IntKind.i64) BinOp.neq v0 v1) fun v2 =>
  Prg.ite (asBool v2) (
    Prg.ret (TV.lit (Value.bool false))) (
    Prg.jmp [0, 0, 1, 0, 1, 1] (f16_0_S (TV.lit (Value.int IntKind.i64 (0 : Int))) (TV.cell x0 0) (TV.cell x1 0)))))
-- [0, 0, 1, 0, 1, 1]
def f16_0  (x0 y1 y2 : TV) : Prg TV :=
  Prg.tv (plen (Kd.slice 32) y1) fun v3 =>
  Prg.tv (pbin (Kd.int IntKind.i64) BinOp.lss x0 v3) fun v4 =>
  Prg.ite (asBool v4) (
    Prg.tvs (pidx 3 y1 x0) fun e5 =>
    Prg.chk (Nat.ble 3 (List.length e5)) (
    Prg.tvs (pidx 3 y2 x0) fun e6 =>
    Prg.chk (Nat.ble 3 (List.length e6)) (
    Prg.call 49 [TV.agg [nth TV.hole e5 0, nth TV.hole e5 1, nth TV.hole e5 2], TV.agg [nth TV.hole e6 0, nth TV.hole e6 1, nth TV.hole e6 2]] fun v7 =>
    Prg.chk (fitsAt zBool [v7] 0) (
    Prg.tv (pun UnOp.not v7) fun v8 =>
    Prg.ite (asBool v8) (
      Prg.ret (TV.lit (Value.bool false))) (
      Prg.tv (pbin (Kd.int IntKind.i64) BinOp.add x0 (TV.lit (Value.int IntKind.i64 (1 : Int)))) fun v9 =>
      Prg.jmp [0, 0, 1, 0, 1, 1] (f16_0_S v9 y1 y2)))))) (
    Prg.ret (TV.lit (Value.bool true)))
theorem f16_MR (x0 x1 : TV) : startQ prog 16 [x0, x1] = f16_M x0 x1 := by kernel_rfl
theorem f16_0_R  (x0 y1 y2 : TV) : pieceQ prog 16 [0, 0, 1, 0, 1, 1] (f16_0_S x0 y1 y2) = f16_0 x0 y1 y2 := by kernel_rfl

theorem f16_run {x0 x1 : TV} {r : TV} (h : Goes prog 16 (f16_M x0 x1) r) : Runs prog 16 [x0, x1] r := Runs.of (f16_MR x0 x1) h
theorem f16_0_J  {x0 y1 y2 : TV} {r : TV} (h : Goes prog 16 (f16_0 x0 y1 y2) r) : Goes prog 16 (.jmp [0, 0, 1, 0, 1, 1] (f16_0_S x0 y1 y2)) r := Goes.jmp (f16_0_R x0 y1 y2) h
def f17_M : Prg TV :=
  Prg.call 26 [TV.agg [TV.lit (Value.int IntKind.i64 (0 : Int)), TV.lit (Value.int IntKind.i64 (0 : Int)), TV.lit (Value.int IntKind.i64 (0 : Int)), frz (TV.sl true 1 (chunks 1 3 [TV.lit (Value.int IntKind.u16 (3 : Int)), TV.lit (Value.int IntKind.u16 (4 : Int)), TV.lit (Value.int IntKind.u16 (0 : Int))])), TV.lit (Value.int IntKind.u16 (0 : Int))], TV.agg [TV.lit (Value.int IntKind.i64 (3 : Int)), TV.lit (Value.int IntKind.i64 (2 : Int)), TV.lit (Value.int IntKind.i64 (0 : Int)), TV.lit (Value.int IntKind.i64 (1 : Int)), TV.lit (Value.int IntKind.u16 (0 : Int)), TV.lit (Value.int IntKind.i64 (0 : Int)), TV.lit (Value.slice Option.none 0 0)]] fun v0 =>
  Prg.chk (TV.isTup v0 2) (
  Prg.chk (Bool.and (TV.isAgg (TV.comp v0 0) 5) (fitsAt z46 (TV.cellsL true (TV.comp v0 0)) 0)) (
  Prg.chk (fitsAt zBool [TV.comp v0 1] 0) (
  Prg.call 18 [TV.agg [frz (TV.sl true 3 (chunks 3 1 [TV.lit (Value.int IntKind.i64 (0 : Int)), TV.lit (Value.int IntKind.i64 (2 : Int)), TV.sl true 14 (chunks 14 1 [TV.lit (Value.bool false), TV.lit (Value.int IntKind.i64 (0 : Int)), TV.lit (Value.slice Option.none 0 0), TV.lit (Value.bool false), TV.lit (Value.bool false), TV.lit (Value.slice Option.none 0 0), TV.lit (Value.int IntKind.i64 (1 : Int)), TV.lit (Value.int IntKind.i64 (0 : Int)), TV.lit (Value.int IntKind.i64 (0 : Int)), TV.lit (Value.int IntKind.i64 (0 : Int)), TV.lit (Value.slice Option.none 0 0), TV.lit (Value.int IntKind.i64 (0 : Int)), TV.lit (Value.int IntKind.i64 (0 : Int)), TV.lit (Value.int IntKind.i64 (0 : Int))])]))], TV.lit (Value.int IntKind.i64 (0 : Int)), TV.lit (Value.slice Option.none 0 0)] fun v1 =>
  Prg.chk (TV.isTup v1 2) (
  Prg.chk (Bool.and (TV.isAgg (TV.comp v1 0) 5) (fitsAt z46 (TV.cellsL true (TV.comp v1 0)) 0)) (
  Prg.chk (fitsAt zInt [TV.comp v1 1] 0) (
  Prg.ite (asBool (TV.comp v0 1)) (
    Prg.tv (plen (Kd.slice 25) (TV.cell (TV.comp v0 0) 3)) fun v2 =>
    Prg.tv (pbin (Kd.int IntKind.i64) BinOp.eql v2 (TV.lit (Value.int IntKind.i64 (3 : Int)))) fun v3 =>
    Prg.ite (asBool v3) (
      Prg.nat (slLen (TV.cell (TV.comp v0 0) 3)) fun n4 =>
      Prg.nat (asNat (TV.lit (Value.int IntKind.i64 (2 : Int)))) fun n5 =>
      Prg.chk (Bool.and (slSize (TV.cell (TV.comp v0 0) 3) 1) (Nat.blt n5 n4)) (
      Prg.tvs (pel (TV.cell (TV.comp v0 0) 3) n5) fun e6 =>
      Prg.chk (fitsAt zWord e6 0) (
      Prg.tv (pbin (Kd.int IntKind.u16) BinOp.eql (nth TV.hole e6 0) (TV.lit (Value.int IntKind.u16 (7 : Int)))) fun v7 =>
      Prg.ite (asBool v7) (
        Prg.tv (pbin (Kd.int IntKind.i64) BinOp.eql (TV.cell (TV.comp v0 0) 2) (TV.lit (Value.int IntKind.i64 (1 : Int)))) fun v8 =>
        Prg.ite (asBool v8) (
          Prg.tv (pbin (Kd.int IntKind.i64) BinOp.eql (TV.comp v1 1) (TV.lit (Value.int IntKind.i64 (0 : Int)))) fun v9 =>
          Prg.ite (asBool v9) (
            Prg.tv (plen (Kd.slice 25) (TV.cell (TV.comp v1 0) 3)) fun v10 =>
            Prg.tv (pbin (Kd.int IntKind.i64) BinOp.eql v10 (TV.lit (Value.int IntKind.i64 (2 : Int)))) fun v11 =>
            Prg.ite (asBool v11) (
              Prg.call 22 [TV.agg [frz (TV.sl true 3 (chunks 3 1 [TV.lit (Value.int IntKind.i64 (0 : Int)), TV.lit (Value.int IntKind.i64 (2 : Int)), TV.sl true 14 (chunks 14 1 [TV.lit (Value.bool false), TV.lit (Value.int IntKind.i64 (0 : Int)), TV.lit (Value.slice Option.none 0 0), TV.lit (Value.bool false), TV.lit (Value.bool false), TV.lit (Value.slice Option.none 0 0), TV.lit (Value.int IntKind.i64 (1 : Int)), TV.lit (Value.int IntKind.i64 (0 : Int)), TV.lit (Value.int IntKind.i64 (0 : Int)), TV.lit (Value.int IntKind.i64 (0 : Int)), TV.lit (Value.slice Option.none 0 0), TV.lit (Value.int IntKind.i64 (0 : Int)), TV.lit (Value.int IntKind.i64 (0 : Int)), TV.lit (Value.int IntKind.i64 (0 : Int))])]))], TV.agg [TV.cell (TV.comp v1 0) 0, TV.cell (TV.comp v1 0) 1, TV.cell (TV.comp v1 0) 2, frz (TV.cell (TV.comp v1 0) 3), TV.cell (TV.comp v1 0) 4]] fun v12 =>
              Prg.chk (fitsAt zBool [v12] 0) (
              Prg.ite (asBool v12) (
                Prg.call 28 [TV.agg [TV.lit (Value.int IntKind.i64 (0 : Int)), TV.lit (Value.slice Option.none 0 0), TV.lit (Value.bool true), TV.lit (Value.bool false)], TV.lit (Value.int IntKind.u16 (5 : Int))] fun v13 =>
                Prg.chk (fitsAt zBool [v13] 0) (
                Prg.ret v13)) (
                Prg.ret (TV.lit (Value.bool false))))) (
              Prg.ret (TV.lit (Value.bool false)))) (
            Prg.ret (TV.lit (Value.bool false)))) (
          Prg.ret (TV.lit (Value.bool false)))) (
        Prg.ret (TV.lit (Value.bool false)))))) (
      Prg.ret (TV.lit (Value.bool false)))) (
    Prg.ret (TV.lit (Value.bool false)))))))))
theorem f17_MR : startQ prog 17 [] = f17_M  := by kernel_rfl

theorem f17_run {r : TV} (h : Goes prog 17 (f17_M ) r) : Runs prog 17 [] r := Runs.of (f17_MR ) h
def f18_M (x0 x1 x2 : TV) : Prg TV :=
  Prg.chk (TV.isAgg x0 1) (
  Prg.call 40 [TV.agg [TV.cell x0 0]] fun v0 =>
  Prg.chk (fitsAt zBool [v0] 0) (
  Prg.tv (pun UnOp.not v0) fun v1 =>
  Prg.ite (asBool v1) (
    Prg.chk true (
    Prg.ret (TV.tup [TV.agg [TV.lit (Value.int IntKind.i64 (0 : Int)), TV.lit (Value.int IntKind.i64 (0 : Int)), TV.lit (Value.int IntKind.i64 (0 : Int)), TV.lit (Value.slice Option.none 0 0), TV.lit (Value.int IntKind.u16 (0 : Int))], TV.lit (Value.int IntKind.i64 (1 : Int))]))) (
    Prg.tv (plen (Kd.slice 32) (TV.cell x0 0)) fun v2 =>
    Prg.call 50 [v2, x1] fun v3 =>
    Prg.chk (fitsAt zBool [v3] 0) (
    Prg.tv (pun UnOp.not v3) fun v4 =>
    Prg.ite (asBool v4) (
      Prg.chk true (
      Prg.ret (TV.tup [TV.agg [TV.lit (Value.int IntKind.i64 (0 : Int)), TV.lit (Value.int IntKind.i64 (0 : Int)), TV.lit (Value.int IntKind.i64 (0 : Int)), TV.lit (Value.slice Option.none 0 0), TV.lit (Value.int IntKind.u16 (0 : Int))], TV.lit (Value.int IntKind.i64 (1 : Int))]))) (
      Prg.tv (plen (Kd.slice 25) x2) fun v5 =>
      Prg.tvs (pidx 3 (TV.cell x0 0) x1) fun e6 =>
      Prg.chk (Nat.blt 0 (List.length e6)) (
      Prg.tv (pbin (Kd.int IntKind.i64) BinOp.neq v5 (nth TV.hole e6 0)) fun v7 =>
      Prg.ite (asBool v7) (
        Prg.chk true (
        Prg.ret (TV.tup [TV.agg [TV.lit (Value.int IntKind.i64 (0 : Int)), TV.lit (Value.int IntKind.i64 (0 : Int)), TV.lit (Value.int IntKind.i64 (0 : Int)), TV.lit (Value.slice Option.none 0 0), TV.lit (Value.int IntKind.u16 (0 : Int))], TV.lit (Value.int IntKind.i64 (1 : Int))]))) (
        Prg.tvs (pidx 3 (TV.cell x0 0) x1) fun e8 =>
        Prg.chk (Nat.blt 1 (List.length e8)) (
        Prg.nat (asNat (nth TV.hole e8 1)) fun n9 =>
        Prg.nat (asNat (nth TV.hole e8 1)) fun n10 =>
        Prg.chk (Bool.and (Nat.ble n9 n10) (Nat.ble n10 4294967296)) (
        Prg.rws (pelems 1 x2) fun r11 =>
        Prg.tv (pcopy 1 (TV.sl true 1 (List.replicate n9 [TV.lit (Value.int IntKind.u16 (0 : Int))])) r11) fun v12 =>
        Prg.nat (slLen (TV.sl true 1 (List.replicate n9 [TV.lit (Value.int IntKind.u16 (0 : Int))]))) fun n13 =>
        Prg.chk (TV.isOne x1) (
        Prg.chk (isOwnL [TV.agg [x1, TV.lit (Value.int IntKind.i64 (0 : Int)), TV.lit (Value.int IntKind.i64 (0 : Int)), v12, TV.lit (Value.int IntKind.u16 (0 : Int))], TV.lit (Value.int IntKind.i64 (0 : Int))]) (
        Prg.ret (TV.tup [TV.agg [x1, TV.lit (Value.int IntKind.i64 (0 : Int)), TV.lit (Value.int IntKind.i64 (0 : Int)), v12, TV.lit (Value.int IntKind.u16 (0 : Int))], TV.lit (Value.int IntKind.i64 (0 : Int))]))))))))))))
theorem f18_MR (x0 x1 x2 : TV) : startQ prog 18 [x0, x1, x2] = f18_M x0 x1 x2 := by kernel_rfl

theorem f18_run {x0 x1 x2 : TV} {r : TV} (h : Goes prog 18 (f18_M x0 x1 x2) r) : Runs prog 18 [x0, x1, x2] r := Runs.of (f18_MR x0 x1 x2) h
def f19_0_S  (x0 x1 x2 y3 y4 y5 y6 y7 y8 : TV) : ASt := ⟨[AV.one CA.junk, AV.one CA.junk, AV.tv x0, AV.tv x1, AV.one (CA.ptr 0 0), AV.one (CA.ptr 1 0), AV.one CA.junk, AV.one CA.junk, AV.one (CA.ptr 2 0)] ++ List.replicate 15 (AV.one CA.junk) ++ [AV.tv x2] ++ List.replicate 24 (AV.one CA.junk), [Option.some (BC.cells [CA.t y3]), Option.some (BC.cells [CA.t y4, CA.t y5, CA.t y6, CA.t y7, CA.t y8]), Option.some (BC.cells [CA.junk, CA.junk, CA.junk, CA.junk, CA.junk])] ++ List.replicate 70 (Option.none), []⟩
def f19_M (x0 x1 x2 x3 : TV) : Prg TV :=
  Prg.chk (TV.isAgg x0 1) (
  Prg.chk (TV.isAgg x1 5) (
  Prg.call 22 [TV.agg [TV.cell x0 0], TV.agg [TV.cell x1 0, TV.cell x1 1, TV.cell x1 2, TV.cell x1 3, TV.cell x1 4]] fun v0 =>
  Prg.chk (fitsAt zBool [v0] 0) (
  Prg.tv (pun UnOp.not v0) fun v1 =>
  Prg.ite (asBool v1) (
    Prg.jmp [1, 0, 1] (f19_0_S x2 x3 (TV.lit (Value.bool true)) (TV.cell x0 0) (TV.cell x1 0) (TV.cell x1 1) (TV.cell x1 2) (TV.cell x1 3) (TV.cell x1 4))) (
    Prg.tvs (pidx 3 (TV.cell x0 0) (TV.cell x1 0)) fun e2 =>
    Prg.chk (Nat.ble 3 (List.length e2)) (
    Prg.call 51 [TV.agg [nth TV.hole e2 0, nth TV.hole e2 1, nth TV.hole e2 2], x2] fun v3 =>
    Prg.chk (fitsAt zBool [v3] 0) (
    Prg.tv (pun UnOp.not v3) fun v4 =>
    Prg.jmp [1, 0, 1] (f19_0_S x2 x3 v4 (TV.cell x0 0) (TV.cell x1 0) (TV.cell x1 1) (TV.cell x1 2) (TV.cell x1 3) (TV.cell x1 4))))))))
-- [1, 0, 1]
def f19_0  (x0 x1 x2 y3 y4 y5 y6 y7 y8 : TV) : Prg TV :=
  Prg.ite (asBool x2) (
    Prg.call 52 [TV.agg [y4, y5, y6, y7, y8]] fun v5 =>
    Prg.chk (Bool.and (TV.isAgg v5 5) (fitsAt z46 (TV.cellsL true v5) 0)) (
    Prg.chk (isOwnL [TV.agg [TV.cell v5 0, TV.cell v5 1, TV.cell v5 2, TV.cell v5 3, TV.cell v5 4], TV.lit (Value.int IntKind.i64 (1 : Int))]) (
    Prg.ret (TV.tup [TV.agg [TV.cell v5 0, TV.cell v5 1, TV.cell v5 2, TV.cell v5 3, TV.cell v5 4], TV.lit (Value.int IntKind.i64 (1 : Int))])))) (
    Prg.call 30 [TV.agg [y4, y5, y6, y7, y8], x0] fun v6 =>
    Prg.chk (Bool.and (TV.isAgg v6 5) (fitsAt z46 (TV.cellsL true v6) 0)) (
    Prg.tvs (pidx 3 y3 (TV.cell v6 0)) fun e7 =>
    Prg.chk (Nat.blt 2 (List.length e7)) (
    Prg.tvs (pidx 14 (nth TV.hole e7 2) x0) fun e8 =>
    Prg.chk (Nat.blt 1 (List.length e8)) (
    Prg.nat (slLen (TV.cell v6 3)) fun n9 =>
    Prg.nat (asNat (nth TV.hole e8 1)) fun n10 =>
    Prg.chk (Bool.and (slSize (TV.cell v6 3) 1) (Nat.blt n10 n9)) (
    Prg.chk (TV.isOne x1) (
    Prg.tvs (pel (TV.cell v6 3) n10) fun e11 =>
    Prg.chk (fitsAt zWord e11 0) (
    Prg.tv (setC [] (TV.cell v6 3) n10 0 [x1]) fun v12 =>
    Prg.chk (TV.isOne x1) (
    Prg.chk (isOwnL [TV.agg [TV.cell v6 0, TV.cell v6 1, TV.cell v6 2, v12, x1], TV.lit (Value.int IntKind.i64 (0 : Int))]) (
    Prg.ret (TV.tup [TV.agg [TV.cell v6 0, TV.cell v6 1, TV.cell v6 2, v12, x1], TV.lit (Value.int IntKind.i64 (0 : Int))]))))))))))
theorem f19_MR (x0 x1 x2 x3 : TV) : startQ prog 19 [x0, x1, x2, x3] = f19_M x0 x1 x2 x3 := by kernel_rfl
theorem f19_0_R  (x0 x1 x2 y3 y4 y5 y6 y7 y8 : TV) : pieceQ prog 19 [1, 0, 1] (f19_0_S x0 x1 x2 y3 y4 y5 y6 y7 y8) = f19_0 x0 x1 x2 y3 y4 y5 y6 y7 y8 := by kernel_rfl

theorem f19_run {x0 x1 x2 x3 : TV} {r : TV} (h : Goes prog 19 (f19_M x0 x1 x2 x3) r) : Runs prog 19 [x0, x1, x2, x3] r := Runs.of (f19_MR x0 x1 x2 x3) h
theorem f19_0_J  {x0 x1 x2 y3 y4 y5 y6 y7 y8 : TV} {r : TV} (h : Goes prog 19 (f19_0 x0 x1 x2 y3 y4 y5 y6 y7 y8) r) : Goes prog 19 (.jmp [1, 0, 1] (f19_0_S x0 x1 x2 y3 y4 y5 y6 y7 y8)) r := Goes.jmp (f19_0_R x0 x1 x2 y3 y4 y5 y6 y7 y8) h
def f20_0_S  (x0 y1 : TV) : ASt := ⟨[AV.one CA.junk, AV.one (CA.ptr 0 0), AV.one CA.junk, AV.tv x0] ++ List.replicate 33 (AV.one CA.junk), [Option.some (BC.cells [CA.t y1])] ++ List.replicate 60 (Option.none), []⟩
def f20_M (x0 : TV) : Prg TV :=
  Prg.chk (TV.isAgg x0 1) (
  Prg.tv (plen (Kd.slice 32) (TV.cell x0 0)) fun v0 =>
  Prg.tv (pbin (Kd.int IntKind.i64) BinOp.eql v0 (TV.lit (Value.int IntKind.i64 (0 : Int)))) fun v1 =>
  Prg.ite (asBool v1) (
    Prg.ret (TV.lit (Value.bool false))) (
    Prg.tv (plen (Kd.slice 32) (TV.cell x0 0)) fun v2 =>
    Prg.tv (pbin (Kd.int IntKind.i64) BinOp.gtr v2 (TV.lit (Value.int IntKind.i64 (16 : Int)))) fun v3 =>
    Prg.ite (asBool v3) (
      Prg.ret (TV.lit (Value.bool false))) (
      Prg.tvs (pidx 3 (TV.cell x0 0) (TV.lit (Value.int IntKind.i64 (0 : Int)))) fun e4 =>
      Prg.chk (Nat.blt 0 (List.length e4)) (
      Prg.tv (pbin (Kd.int IntKind.i64) BinOp.neq (nth TV.hole e4 0) (TV.lit (Value.int IntKind.i64 (0 : Int)))) fun v5 =>
      Prg.ite (asBool v5) (
        Prg.ret (TV.lit (Value.bool false))) (
        Prg.jmp [0, 0, 1, 0, 1, 1] (f20_0_S (TV.lit (Value.int IntKind.i64 (0 : Int))) (TV.cell x0 0)))))))
-- [0, 0, 1, 0, 1, 1]
def f20_0  (x0 y1 : TV) : Prg TV :=
  Prg.tv (plen (Kd.slice 32) y1) fun v6 =>
  Prg.tv (pbin (Kd.int IntKind.i64) BinOp.lss x0 v6) fun v7 =>
  Prg.ite (asBool v7) (
    Prg.tvs (pidx 3 y1 x0) fun e8 =>
    Prg.chk (Nat.ble 3 (List.length e8)) (
    Prg.call 53 [TV.agg [y1], TV.agg [nth TV.hole e8 0, nth TV.hole e8 1, nth TV.hole e8 2]] fun v9 =>
    Prg.chk (fitsAt zBool [v9] 0) (
    Prg.tv (pun UnOp.not v9) fun v10 =>
    Prg.ite (asBool v10) (
      Prg.ret (TV.lit (Value.bool false))) (
      Prg.tv (pbin (Kd.int IntKind.i64) BinOp.add x0 (TV.lit (Value.int IntKind.i64 (1 : Int)))) fun v11 =>
      Prg.jmp [0, 0, 1, 0, 1, 1] (f20_0_S v11 y1))))) (
    Prg.ret (TV.lit (Value.bool true)))
theorem f20_MR (x0 : TV) : startQ prog 20 [x0] = f20_M x0 := by kernel_rfl
theorem f20_0_R  (x0 y1 : TV) : pieceQ prog 20 [0, 0, 1, 0, 1, 1] (f20_0_S x0 y1) = f20_0 x0 y1 := by kernel_rfl

theorem f20_run {x0 : TV} {r : TV} (h : Goes prog 20 (f20_M x0) r) : Runs prog 20 [x0] r := Runs.of (f20_MR x0) h
theorem f20_0_J  {x0 y1 : TV} {r : TV} (h : Goes prog 20 (f20_0 x0 y1) r) : Goes prog 20 (.jmp [0, 0, 1, 0, 1, 1] (f20_0_S x0 y1)) r := Goes.jmp (f20_0_R x0 y1) h
def f21_0_S  (x0 y1 y2 y3 y4 y5 y6 y7 y8 y9 y10 : TV) : ASt := ⟨[AV.one CA.junk, AV.one CA.junk, AV.one (CA.ptr 0 0), AV.one (CA.ptr 1 0), AV.one CA.junk, AV.tv x0] ++ List.replicate 53 (AV.one CA.junk), [Option.some (BC.cells [CA.t y1, CA.t y2, CA.t y3, CA.t y4, CA.t y5]), Option.some (BC.cells [CA.t y6, CA.t y7, CA.t y8, CA.t y9, CA.t y10])] ++ List.replicate 81 (Option.none), []⟩
def f21_M (x0 x1 : TV) : Prg TV :=
  Prg.chk (TV.isAgg x0 5) (
  Prg.chk (TV.isAgg x1 5) (
  Prg.tv (pbin (Kd.int IntKind.i64) BinOp.neq (TV.cell x0 0) (TV.cell x1 0)) fun v0 =>
  Prg.ite (asBool v0) (
    Prg.ret (TV.lit (Value.bool false))) (
    Prg.tv (pbin (Kd.int IntKind.i64) BinOp.neq (TV.cell x0 1) (TV.cell x1 1)) fun v1 =>
    Prg.ite (asBool v1) (
      Prg.ret (TV.lit (Value.bool false))) (
      Prg.tv (pbin (Kd.int IntKind.i64) BinOp.neq (TV.cell x0 2) (TV.cell x1 2)) fun v2 =>
      Prg.ite (asBool v2) (
        Prg.ret (TV.lit (Value.bool false))) (
        Prg.tv (pbin (Kd.int IntKind.u16) BinOp.neq (TV.cell x0 4) (TV.cell x1 4)) fun v3 =>
        Prg.ite (asBool v3) (
          Prg.ret (TV.lit (Value.bool false))) (
          Prg.tv (plen (Kd.slice 25) (TV.cell x0 3)) fun v4 =>
          Prg.tv (plen (Kd.slice 25) (TV.cell x1 3)) fun v5 =>
          Prg.tv (pbin (Kd.int IntKind.i64) BinOp.neq v4 v5) fun v6 =>
          Prg.ite (asBool v6) (
            Prg.ret (TV.lit (Value.bool false))) (
            Prg.jmp [0, 0, 1, 0, 1, 1] (f21_0_S (TV.lit (Value.int IntKind.i64 (0 : Int))) (TV.cell x0 0) (TV.cell x0 1) (TV.cell x0 2) (TV.cell x0 3) (TV.cell x0 4) (TV.cell x1 0) (TV.cell x1 1) (TV.cell x1 2) (TV.cell x1 3) (TV.cell x1 4)))))))))
-- [0, 0, 1, 0, 1, 1]
def f21_0  (x0 y1 y2 y3 y4 y5 y6 y7 y8 y9 y10 : TV) : Prg TV :=
  Prg.tv (plen (Kd.slice 25) y4) fun v7 =>
  Prg.tv (pbin (Kd.int IntKind.i64) BinOp.lss x0 v7) fun v8 =>
  Prg.ite (asBool v8) (
    Prg.tvs (pidx 1 y4 x0) fun e9 =>
    Prg.chk (Nat.blt 0 (List.length e9)) (
    Prg.tvs (pidx 1 y9 x0) fun e10 =>
    Prg.chk (Nat.blt 0 (List.length e10)) (
    Prg.tv (pbin (Kd.int IntKind.u16) BinOp.neq (nth TV.hole e9 0) (nth TV.hole e10 0)) fun v11 =>
    Prg.ite (asBool v11) (
      Prg.ret (TV.lit (Value.bool false))) (
      Prg.tv (pbin (Kd.int IntKind.i64) BinOp.add x0 (TV.lit (Value.int IntKind.i64 (1 : Int)))) fun v12 =>
      Prg.jmp [0, 0, 1, 0, 1, 1] (f21_0_S v12 y1 y2 y3 y4 y5 y6 y7 y8 y9 y10))))) (
    Prg.ret (TV.lit (Value.bool true)))
theorem f21_MR (x0 x1 : TV) : startQ prog 21 [x0, x1] = f21_M x0 x1 := by kernel_rfl
theorem f21_0_R  (x0 y1 y2 y3 y4 y5 y6 y7 y8 y9 y10 : TV) : pieceQ prog 21 [0, 0, 1, 0, 1, 1] (f21_0_S x0 y1 y2 y3 y4 y5 y6 y7 y8 y9 y10) = f21_0 x0 y1 y2 y3 y4 y5 y6 y7 y8 y9 y10 := by kernel_rfl

theorem f21_run {x0 x1 : TV} {r : TV} (h : Goes prog 21 (f21_M x0 x1) r) : Runs prog 21 [x0, x1] r := Runs.of (f21_MR x0 x1) h
theorem f21_0_J  {x0 y1 y2 y3 y4 y5 y6 y7 y8 y9 y10 : TV} {r : TV} (h : Goes prog 21 (f21_0 x0 y1 y2 y3 y4 y5 y6 y7 y8 y9 y10) r) : Goes prog 21 (.jmp [0, 0, 1, 0, 1, 1] (f21_0_S x0 y1 y2 y3 y4 y5 y6 y7 y8 y9 y10)) r := Goes.jmp (f21_0_R x0 y1 y2 y3 y4 y5 y6 y7 y8 y9 y10) h
def f22_M (x0 x1 : TV) : Prg TV :=
  Prg.chk (TV.isAgg x0 1) (
  Prg.chk (TV.isAgg x1 5) (
  Prg.call 40 [TV.agg [TV.cell x0 0]] fun v0 =>
  Prg.chk (fitsAt zBool [v0] 0) (
  Prg.tv (pun UnOp.not v0) fun v1 =>
  Prg.ite (asBool v1) (
    Prg.ret (TV.lit (Value.bool false))) (
    Prg.tv (plen (Kd.slice 32) (TV.cell x0 0)) fun v2 =>
    Prg.call 50 [v2, TV.cell x1 0] fun v3 =>
    Prg.chk (fitsAt zBool [v3] 0) (
    Prg.tv (pun UnOp.not v3) fun v4 =>
    Prg.ite (asBool v4) (
      Prg.ret (TV.lit (Value.bool false))) (
      Prg.tvs (pidx 3 (TV.cell x0 0) (TV.cell x1 0)) fun e5 =>
      Prg.chk (Nat.ble 3 (List.length e5)) (
      Prg.tv (plen (Kd.slice 25) (TV.cell x1 3)) fun v6 =>
      Prg.tv (pbin (Kd.int IntKind.i64) BinOp.neq v6 (nth TV.hole e5 1)) fun v7 =>
      Prg.ite (asBool v7) (
        Prg.ret (TV.lit (Value.bool false))) (
        Prg.tv (plen (Kd.slice 42) (nth TV.hole e5 2)) fun v8 =>
        Prg.call 50 [v8, TV.cell x1 1] fun v9 =>
        Prg.chk (fitsAt zBool [v9] 0) (
        Prg.tv (pun UnOp.not v9) fun v10 =>
        Prg.ite (asBool v10) (
          Prg.ret (TV.lit (Value.bool false))) (
          Prg.tv (pbin (Kd.int IntKind.i64) BinOp.leq (TV.lit (Value.int IntKind.i64 (0 : Int))) (TV.cell x1 2)) fun v11 =>
          Prg.ite (asBool v11) (
            Prg.tvs (pidx 14 (nth TV.hole e5 2) (TV.cell x1 1)) fun e12 =>
            Prg.chk (Nat.blt 5 (List.length e12)) (
            Prg.tv (plen (Kd.slice 44) (nth TV.hole e12 5)) fun v13 =>
            Prg.tv (pbin (Kd.int IntKind.i64) BinOp.leq (TV.cell x1 2) v13) fun v14 =>
            Prg.ret v14)) (
            Prg.ret (TV.lit (Value.bool false)))))))))))))
theorem f22_MR (x0 x1 : TV) : startQ prog 22 [x0, x1] = f22_M x0 x1 := by kernel_rfl

theorem f22_run {x0 x1 : TV} {r : TV} (h : Goes prog 22 (f22_M x0 x1) r) : Runs prog 22 [x0, x1] r := Runs.of (f22_MR x0 x1) h
def f23_0_S  (x0 x1 x2 y3 y4 y5 y6 y7 w8 : TV) : ASt := ⟨[AV.one CA.junk, AV.tv x0, AV.tv x1, AV.one (CA.ptr 0 0), AV.one CA.junk, AV.one CA.junk, AV.one (CA.ptr 1 0), AV.one CA.junk, AV.one (CA.ptr 2 0), AV.tv x2] ++ List.replicate 52 (AV.one CA.junk), [Option.some (BC.cells [CA.t y3]), Option.some (BC.cells [CA.junk, CA.junk, CA.junk, CA.junk, CA.junk]), Option.some (BC.cells [CA.t y4, CA.t y5, CA.t y6, CA.sref 3 0 [], CA.t y7]), Option.some (BC.tree [w8])] ++ List.replicate 82 (Option.none), []⟩
def f23_M (x0 x1 x2 : TV) : Prg TV :=
  Prg.chk (TV.isAgg x0 1) (
  Prg.tv (pbin (Kd.int IntKind.i64) BinOp.lss x1 (TV.lit (Value.int IntKind.i64 (0 : Int)))) fun v0 =>
  Prg.ite (asBool v0) (
    Prg.chk true (
    Prg.ret (TV.tup [TV.agg [TV.lit (Value.int IntKind.i64 (0 : Int)), TV.lit (Value.int IntKind.i64 (0 : Int)), TV.lit (Value.int IntKind.i64 (0 : Int)), TV.lit (Value.slice Option.none 0 0), TV.lit (Value.int IntKind.u16 (0 : Int))], TV.lit (Value.int IntKind.i64 (1 : Int))]))) (
    Prg.tv (plen (Kd.slice 32) (TV.cell x0 0)) fun v1 =>
    Prg.tv (pbin (Kd.int IntKind.i64) BinOp.geq x1 v1) fun v2 =>
    Prg.ite (asBool v2) (
      Prg.chk true (
      Prg.ret (TV.tup [TV.agg [TV.lit (Value.int IntKind.i64 (0 : Int)), TV.lit (Value.int IntKind.i64 (0 : Int)), TV.lit (Value.int IntKind.i64 (0 : Int)), TV.lit (Value.slice Option.none 0 0), TV.lit (Value.int IntKind.u16 (0 : Int))], TV.lit (Value.int IntKind.i64 (1 : Int))]))) (
      Prg.tv (plen (Kd.slice 25) x2) fun v3 =>
      Prg.tvs (pidx 3 (TV.cell x0 0) x1) fun e4 =>
      Prg.chk (Nat.blt 0 (List.length e4)) (
      Prg.tv (pbin (Kd.int IntKind.i64) BinOp.neq v3 (nth TV.hole e4 0)) fun v5 =>
      Prg.ite (asBool v5) (
        Prg.chk true (
        Prg.ret (TV.tup [TV.agg [TV.lit (Value.int IntKind.i64 (0 : Int)), TV.lit (Value.int IntKind.i64 (0 : Int)), TV.lit (Value.int IntKind.i64 (0 : Int)), TV.lit (Value.slice Option.none 0 0), TV.lit (Value.int IntKind.u16 (0 : Int))], TV.lit (Value.int IntKind.i64 (1 : Int))]))) (
        Prg.chk (TV.isOne x1) (
        Prg.chk true (
        Prg.jmp [0, 0, 1, 0, 1, 1, 1] (f23_0_S x1 x2 (TV.lit (Value.int IntKind.i64 (0 : Int))) (TV.cell x0 0) x1 (TV.lit (Value.int IntKind.i64 (0 : Int))) (TV.lit (Value.int IntKind.i64 (0 : Int))) (TV.lit (Value.int IntKind.u16 (0 : Int))) (TV.lit (Value.slice Option.none 0 0))))))))))
-- [0, 0, 1, 0, 1, 1, 1]
def f23_0  (x0 x1 x2 y3 y4 y5 y6 y7 w8 : TV) : Prg TV :=
  Prg.tvs (pidx 3 y3 x0) fun e6 =>
  Prg.chk (Nat.blt 1 (List.length e6)) (
  Prg.tv (pbin (Kd.int IntKind.i64) BinOp.lss x2 (nth TV.hole e6 1)) fun v7 =>
  Prg.ite (asBool v7) (
    Prg.tv (plen (Kd.slice 25) x1) fun v8 =>
    Prg.tv (pbin (Kd.int IntKind.i64) BinOp.lss x2 v8) fun v9 =>
    Prg.ite (asBool v9) (
      Prg.tvs (pidx 1 x1 x2) fun e10 =>
      Prg.chk (Nat.blt 0 (List.length e10)) (
      Prg.rws (pelems 1 (TV.sl true 1 (chunks 1 1 [nth TV.hole e10 0]))) fun r11 =>
      Prg.tv (papp 1 w8 (lfLL r11)) fun v12 =>
      Prg.tv (pbin (Kd.int IntKind.i64) BinOp.add x2 (TV.lit (Value.int IntKind.i64 (1 : Int)))) fun v13 =>
      Prg.jmp [0, 0, 1, 0, 1, 1, 1] (f23_0_S x0 x1 v13 y3 y4 y5 y6 y7 v12))) (
      Prg.rws (pelems 1 (TV.sl true 1 (chunks 1 1 [TV.lit (Value.int IntKind.u16 (0 : Int))]))) fun r14 =>
      Prg.tv (papp 1 w8 (lfLL r14)) fun v15 =>
      Prg.tv (pbin (Kd.int IntKind.i64) BinOp.add x2 (TV.lit (Value.int IntKind.i64 (1 : Int)))) fun v16 =>
      Prg.jmp [0, 0, 1, 0, 1, 1, 1] (f23_0_S x0 x1 v16 y3 y4 y5 y6 y7 v15))) (
    Prg.chk (isOwnL [TV.agg [y4, y5, y6, w8, y7], TV.lit (Value.int IntKind.i64 (0 : Int))]) (
    Prg.ret (TV.tup [TV.agg [y4, y5, y6, w8, y7], TV.lit (Value.int IntKind.i64 (0 : Int))]))))
theorem f23_MR (x0 x1 x2 : TV) : startQ prog 23 [x0, x1, x2] = f23_M x0 x1 x2 := by kernel_rfl
theorem f23_0_R  (x0 x1 x2 y3 y4 y5 y6 y7 w8 : TV) : pieceQ prog 23 [0, 0, 1, 0, 1, 1, 1] (f23_0_S x0 x1 x2 y3 y4 y5 y6 y7 w8) = f23_0 x0 x1 x2 y3 y4 y5 y6 y7 w8 := by kernel_rfl

theorem f23_run {x0 x1 x2 : TV} {r : TV} (h : Goes prog 23 (f23_M x0 x1 x2) r) : Runs prog 23 [x0, x1, x2] r := Runs.of (f23_MR x0 x1 x2) h
theorem f23_0_J  {x0 x1 x2 y3 y4 y5 y6 y7 w8 : TV} {r : TV} (h : Goes prog 23 (f23_0 x0 x1 x2 y3 y4 y5 y6 y7 w8) r) : Goes prog 23 (.jmp [0, 0, 1, 0, 1, 1, 1] (f23_0_S x0 x1 x2 y3 y4 y5 y6 y7 w8)) r := Goes.jmp (f23_0_R x0 x1 x2 y3 y4 y5 y6 y7 w8) h
def f24_M (x0 x1 : TV) : Prg TV :=
  Prg.chk (TV.isAgg x0 1) (
  Prg.chk (TV.isAgg x1 5) (
  Prg.tv (pbin (Kd.int IntKind.i64) BinOp.lss (TV.cell x1 0) (TV.lit (Value.int IntKind.i64 (0 : Int)))) fun v0 =>
  Prg.ite (asBool v0) (
    Prg.ret (TV.lit (Value.bool false))) (
    Prg.tv (plen (Kd.slice 32) (TV.cell x0 0)) fun v1 =>
    Prg.tv (pbin (Kd.int IntKind.i64) BinOp.geq (TV.cell x1 0) v1) fun v2 =>
    Prg.ite (asBool v2) (
      Prg.ret (TV.lit (Value.bool false))) (
      Prg.tvs (pidx 3 (TV.cell x0 0) (TV.cell x1 0)) fun e3 =>
      Prg.chk (Nat.ble 3 (List.length e3)) (
      Prg.tv (plen (Kd.slice 25) (TV.cell x1 3)) fun v4 =>
      Prg.tv (pbin (Kd.int IntKind.i64) BinOp.eql v4 (nth TV.hole e3 1)) fun v5 =>
      Prg.ite (asBool v5) (
        Prg.tv (pbin (Kd.int IntKind.i64) BinOp.geq (TV.cell x1 1) (TV.lit (Value.int IntKind.i64 (0 : Int)))) fun v6 =>
        Prg.ite (asBool v6) (
          Prg.tv (plen (Kd.slice 42) (nth TV.hole e3 2)) fun v7 =>
          Prg.tv (pbin (Kd.int IntKind.i64) BinOp.lss (TV.cell x1 1) v7) fun v8 =>
          Prg.ite (asBool v8) (
            Prg.tv (pbin (Kd.int IntKind.i64) BinOp.geq (TV.cell x1 2) (TV.lit (Value.int IntKind.i64 (0 : Int)))) fun v9 =>
            Prg.ite (asBool v9) (
              Prg.tvs (pidx 14 (nth TV.hole e3 2) (TV.cell x1 1)) fun e10 =>
              Prg.chk (Nat.blt 5 (List.length e10)) (
              Prg.tv (plen (Kd.slice 44) (nth TV.hole e10 5)) fun v11 =>
              Prg.tv (pbin (Kd.int IntKind.i64) BinOp.leq (TV.cell x1 2) v11) fun v12 =>
              Prg.ret v12)) (
              Prg.ret (TV.lit (Value.bool false)))) (
            Prg.ret (TV.lit (Value.bool false)))) (
          Prg.ret (TV.lit (Value.bool false)))) (
        Prg.ret (TV.lit (Value.bool false))))))))
theorem f24_MR (x0 x1 : TV) : startQ prog 24 [x0, x1] = f24_M x0 x1 := by kernel_rfl

theorem f24_run {x0 x1 : TV} {r : TV} (h : Goes prog 24 (f24_M x0 x1) r) : Runs prog 24 [x0, x1] r := Runs.of (f24_MR x0 x1) h
def f25_M (x0 x1 x2 x3 : TV) : Prg TV :=
  Prg.chk (TV.isAgg x0 1) (
  Prg.chk (TV.isAgg x1 5) (
  Prg.tvs (pidx 3 (TV.cell x0 0) (TV.cell x1 0)) fun e0 =>
  Prg.chk (Nat.ble 3 (List.length e0)) (
  Prg.tv (pbin (Kd.int IntKind.i64) BinOp.lss x2 (TV.lit (Value.int IntKind.i64 (0 : Int)))) fun v1 =>
  Prg.ite (asBool v1) (
    Prg.ret (TV.tup [TV.agg [TV.cell x1 0, TV.cell x1 1, TV.cell x1 2, TV.cell x1 3, TV.cell x1 4], TV.lit (Value.int IntKind.i64 (1 : Int))])) (
    Prg.tv (plen (Kd.slice 42) (nth TV.hole e0 2)) fun v2 =>
    Prg.tv (pbin (Kd.int IntKind.i64) BinOp.geq x2 v2) fun v3 =>
    Prg.ite (asBool v3) (
      Prg.ret (TV.tup [TV.agg [TV.cell x1 0, TV.cell x1 1, TV.cell x1 2, TV.cell x1 3, TV.cell x1 4], TV.lit (Value.int IntKind.i64 (1 : Int))])) (
      Prg.tvs (pidx 14 (nth TV.hole e0 2) x2) fun e4 =>
      Prg.chk (Nat.blt 0 (List.length e4)) (
      Prg.tv (pun UnOp.not (nth TV.hole e4 0)) fun v5 =>
      Prg.ite (asBool v5) (
        Prg.ret (TV.tup [TV.agg [TV.cell x1 0, TV.cell x1 1, TV.cell x1 2, TV.cell x1 3, TV.cell x1 4], TV.lit (Value.int IntKind.i64 (1 : Int))])) (
        Prg.chk (TV.isOne x2) (
        Prg.chk (TV.isOne x3) (
        Prg.tvs (pidx 14 (nth TV.hole e0 2) x2) fun e6 =>
        Prg.chk (Nat.blt 1 (List.length e6)) (
        Prg.call 54 [TV.agg [TV.cell x1 0, x2, TV.lit (Value.int IntKind.i64 (0 : Int)), TV.cell x1 3, x3], nth TV.hole e6 1, x3] fun v7 =>
        Prg.chk (Bool.and (TV.isAgg v7 5) (fitsAt z46 (TV.cellsL true v7) 0)) (
        Prg.ret (TV.tup [TV.agg [TV.cell v7 0, TV.cell v7 1, TV.cell v7 2, TV.cell v7 3, TV.cell v7 4], TV.lit (Value.int IntKind.i64 (0 : Int))]))))))))))))
theorem f25_MR (x0 x1 x2 x3 : TV) : startQ prog 25 [x0, x1, x2, x3] = f25_M x0 x1 x2 x3 := by kernel_rfl

theorem f25_run {x0 x1 x2 x3 : TV} {r : TV} (h : Goes prog 25 (f25_M x0 x1 x2 x3) r) : Runs prog 25 [x0, x1, x2, x3] r := Runs.of (f25_MR x0 x1 x2 x3) h
def f26_M (x0 x1 : TV) : Prg TV :=
  Prg.chk (TV.isAgg x0 5) (
  Prg.chk (TV.isAgg x1 7) (
  Prg.call 52 [TV.agg [TV.cell x0 0, TV.cell x0 1, TV.cell x0 2, TV.cell x0 3, TV.cell x0 4]] fun v0 =>
  Prg.chk (Bool.and (TV.isAgg v0 5) (fitsAt z46 (TV.cellsL true v0) 0)) (
  Prg.call 55 [frz (TV.cell v0 3), TV.agg [TV.cell x1 0, TV.cell x1 1, TV.cell x1 2, TV.cell x1 3, TV.cell x1 4, TV.cell x1 5, TV.cell x1 6]] fun v1 =>
  Prg.chk (TV.isTup v1 2) (
  Prg.chk (fitsAt zWord [TV.comp v1 0] 0) (
  Prg.chk (fitsAt zBool [TV.comp v1 1] 0) (
  Prg.tv (pun UnOp.not (TV.comp v1 1)) fun v2 =>
  Prg.ite (asBool v2) (
    Prg.chk (isOwnL [TV.agg [TV.cell v0 0, TV.cell v0 1, TV.cell v0 2, TV.cell v0 3, TV.cell v0 4], TV.lit (Value.bool false)]) (
    Prg.ret (TV.tup [TV.agg [TV.cell v0 0, TV.cell v0 1, TV.cell v0 2, TV.cell v0 3, TV.cell v0 4], TV.lit (Value.bool false)]))) (
    Prg.tv (plen (Kd.slice 25) (TV.cell v0 3)) fun v3 =>
    Prg.call 50 [v3, TV.cell x1 1] fun v4 =>
    Prg.chk (fitsAt zBool [v4] 0) (
    Prg.tv (pun UnOp.not v4) fun v5 =>
    Prg.ite (asBool v5) (
      Prg.chk (isOwnL [TV.agg [TV.cell v0 0, TV.cell v0 1, TV.cell v0 2, TV.cell v0 3, TV.cell v0 4], TV.lit (Value.bool false)]) (
      Prg.ret (TV.tup [TV.agg [TV.cell v0 0, TV.cell v0 1, TV.cell v0 2, TV.cell v0 3, TV.cell v0 4], TV.lit (Value.bool false)]))) (
      Prg.nat (slLen (TV.cell v0 3)) fun n6 =>
      Prg.nat (asNat (TV.cell x1 1)) fun n7 =>
      Prg.chk (Bool.and (slSize (TV.cell v0 3) 1) (Nat.blt n7 n6)) (
      Prg.tvs (pel (TV.cell v0 3) n7) fun e8 =>
      Prg.chk (fitsAt zWord e8 0) (
      Prg.tv (setC [] (TV.cell v0 3) n7 0 [TV.comp v1 0]) fun v9 =>
      Prg.tv (pbin (Kd.int IntKind.i64) BinOp.add (TV.cell v0 2) (TV.lit (Value.int IntKind.i64 (1 : Int)))) fun v10 =>
      Prg.chk (isOwnL [TV.agg [TV.cell v0 0, TV.cell v0 1, v10, v9, TV.cell v0 4], TV.lit (Value.bool true)]) (
      Prg.ret (TV.tup [TV.agg [TV.cell v0 0, TV.cell v0 1, v10, v9, TV.cell v0 4], TV.lit (Value.bool true)])))))))))))))
theorem f26_MR (x0 x1 : TV) : startQ prog 26 [x0, x1] = f26_M x0 x1 := by kernel_rfl

theorem f26_run {x0 x1 : TV} {r : TV} (h : Goes prog 26 (f26_M x0 x1) r) : Runs prog 26 [x0, x1] r := Runs.of (f26_MR x0 x1) h
def f27_0_S  (x0 x1 y2 y3 y4 y5 y6 y7 y8 y9 y10 y11 y12 y13 : TV) : ASt := ⟨[AV.one CA.junk, AV.one CA.junk, AV.one (CA.ptr 0 0), AV.one (CA.ptr 1 0), AV.one (CA.ptr 2 0), AV.one CA.junk, AV.one CA.junk, AV.tv x0] ++ List.replicate 43 (AV.one CA.junk) ++ [AV.tv x1] ++ List.replicate 33 (AV.one CA.junk), [Option.some (BC.cells [CA.t y2, CA.t y3, CA.t y4, CA.t y5, CA.t y6]), Option.some (BC.cells [CA.t y7, CA.t y8, CA.t y9, CA.t y10, CA.t y11, CA.t y12, CA.t y13]), Option.some (BC.cells [CA.junk, CA.junk, CA.junk, CA.junk, CA.junk])] ++ List.replicate 106 (Option.none), []⟩
def f27_1_S  (x0 y1 y2 y3 y4 y5 y6 y7 y8 y9 y10 y11 y12 : TV) : ASt := ⟨[AV.one CA.junk, AV.one CA.junk, AV.one (CA.ptr 0 0), AV.one (CA.ptr 1 0), AV.one (CA.ptr 2 0), AV.one CA.junk, AV.tv x0] ++ List.replicate 78 (AV.one CA.junk), [Option.some (BC.cells [CA.t y1, CA.t y2, CA.t y3, CA.t y4, CA.t y5]), Option.some (BC.cells [CA.t y6, CA.t y7, CA.t y8, CA.t y9, CA.t y10, CA.t y11, CA.t y12]), Option.some (BC.cells [CA.junk, CA.junk, CA.junk, CA.junk, CA.junk])] ++ List.replicate 106 (Option.none), []⟩
def f27_2_S  (x0 y1 y2 y3 y4 y5 y6 y7 y8 y9 y10 y11 y12 : TV) : ASt := ⟨[AV.one CA.junk, AV.one CA.junk, AV.one (CA.ptr 0 0), AV.one (CA.ptr 1 0), AV.one (CA.ptr 2 0), AV.one CA.junk, AV.one CA.junk, AV.tv x0] ++ List.replicate 77 (AV.one CA.junk), [Option.some (BC.cells [CA.t y1, CA.t y2, CA.t y3, CA.t y4, CA.t y5]), Option.some (BC.cells [CA.t y6, CA.t y7, CA.t y8, CA.t y9, CA.t y10, CA.t y11, CA.t y12]), Option.some (BC.cells [CA.junk, CA.junk, CA.junk, CA.junk, CA.junk])] ++ List.replicate 106 (Option.none), []⟩
def f27_M (x0 x1 : TV) : Prg TV :=
  Prg.chk (TV.isAgg x0 5) (
  Prg.chk (TV.isAgg x1 7) (
  Prg.call 56 [TV.agg [TV.cell x0 0, TV.cell x0 1, TV.cell x0 2, TV.cell x0 3, TV.cell x0 4], TV.cell x1 1] fun v0 =>
  Prg.chk (fitsAt zBool [v0] 0) (
  Prg.tv (pun UnOp.not v0) fun v1 =>
  Prg.ite (asBool v1) (
    Prg.ret (TV.tup [TV.agg [TV.cell x0 0, TV.cell x0 1, TV.cell x0 2, TV.cell x0 3, TV.cell x0 4], TV.lit (Value.bool false)])) (
    Prg.tv (pbin (Kd.int IntKind.i64) BinOp.lss (TV.cell x1 0) (TV.lit (Value.int IntKind.i64 (1 : Int)))) fun v2 =>
    Prg.ite (asBool v2) (
      Prg.ret (TV.tup [TV.agg [TV.cell x0 0, TV.cell x0 1, TV.cell x0 2, TV.cell x0 3, TV.cell x0 4], TV.lit (Value.bool false)])) (
      Prg.tv (pbin (Kd.int IntKind.i64) BinOp.gtr (TV.cell x1 0) (TV.lit (Value.int IntKind.i64 (8 : Int)))) fun v3 =>
      Prg.ite (asBool v3) (
        Prg.ret (TV.tup [TV.agg [TV.cell x0 0, TV.cell x0 1, TV.cell x0 2, TV.cell x0 3, TV.cell x0 4], TV.lit (Value.bool false)])) (
        Prg.tv (pbin (Kd.int IntKind.i64) BinOp.gtr (TV.cell x1 0) (TV.lit (Value.int IntKind.i64 (1 : Int)))) fun v4 =>
        Prg.ite (asBool v4) (
          Prg.call 56 [TV.agg [TV.cell x0 0, TV.cell x0 1, TV.cell x0 2, TV.cell x0 3, TV.cell x0 4], TV.cell x1 2] fun v5 =>
          Prg.chk (fitsAt zBool [v5] 0) (
          Prg.tv (pun UnOp.not v5) fun v6 =>
          Prg.ite (asBool v6) (
            Prg.ret (TV.tup [TV.agg [TV.cell x0 0, TV.cell x0 1, TV.cell x0 2, TV.cell x0 3, TV.cell x0 4], TV.lit (Value.bool false)])) (
            Prg.tv (pbin (Kd.int IntKind.i64) BinOp.gtr (TV.cell x1 0) (TV.lit (Value.int IntKind.i64 (2 : Int)))) fun v7 =>
            Prg.ite (asBool v7) (
              Prg.call 56 [TV.agg [TV.cell x0 0, TV.cell x0 1, TV.cell x0 2, TV.cell x0 3, TV.cell x0 4], TV.cell x1 3] fun v8 =>
              Prg.chk (fitsAt zBool [v8] 0) (
              Prg.tv (pun UnOp.not v8) fun v9 =>
              Prg.ite (asBool v9) (
                Prg.ret (TV.tup [TV.agg [TV.cell x0 0, TV.cell x0 1, TV.cell x0 2, TV.cell x0 3, TV.cell x0 4], TV.lit (Value.bool false)])) (
                Prg.tv (pbin (Kd.int IntKind.i64) BinOp.gtr (TV.cell x1 0) (TV.lit (Value.int IntKind.i64 (2 : Int)))) fun v10 =>
                Prg.jmp [1, 0, 1, 1, 0, 1, 0, 1, 1, 1] (f27_0_S (TV.lit (Value.int IntKind.u16 (0 : Int))) v10 (TV.cell x0 0) (TV.cell x0 1) (TV.cell x0 2) (TV.cell x0 3) (TV.cell x0 4) (TV.cell x1 0) (TV.cell x1 1) (TV.cell x1 2) (TV.cell x1 3) (TV.cell x1 4) (TV.cell x1 5) (TV.cell x1 6))))) (
              Prg.tv (pbin (Kd.int IntKind.i64) BinOp.gtr (TV.cell x1 0) (TV.lit (Value.int IntKind.i64 (2 : Int)))) fun v11 =>
              Prg.jmp [1, 0, 1, 1, 0, 1, 0, 1, 1, 1] (f27_0_S (TV.lit (Value.int IntKind.u16 (0 : Int))) v11 (TV.cell x0 0) (TV.cell x0 1) (TV.cell x0 2) (TV.cell x0 3) (TV.cell x0 4) (TV.cell x1 0) (TV.cell x1 1) (TV.cell x1 2) (TV.cell x1 3) (TV.cell x1 4) (TV.cell x1 5) (TV.cell x1 6)))))) (
          Prg.jmp [1, 1, 1, 1] (f27_1_S (TV.cell x1 4) (TV.cell x0 0) (TV.cell x0 1) (TV.cell x0 2) (TV.cell x0 3) (TV.cell x0 4) (TV.cell x1 0) (TV.cell x1 1) (TV.cell x1 2) (TV.cell x1 3) (TV.cell x1 4) (TV.cell x1 5) (TV.cell x1 6)))))))))
-- [1, 0, 1, 1, 0, 1, 0, 1, 1, 1]
def f27_0  (x0 x1 y2 y3 y4 y5 y6 y7 y8 y9 y10 y11 y12 y13 : TV) : Prg TV :=
  Prg.ite (asBool x1) (
    Prg.tvs (pidx 1 y5 y10) fun e12 =>
    Prg.chk (Nat.blt 0 (List.length e12)) (
    Prg.jmp [1, 1, 1, 0, 1, 0, 1, 1, 1] (f27_2_S (nth TV.hole e12 0) y2 y3 y4 y5 y6 y7 y8 y9 y10 y11 y12 y13))) (
    Prg.jmp [1, 1, 1, 0, 1, 0, 1, 1, 1] (f27_2_S x0 y2 y3 y4 y5 y6 y7 y8 y9 y10 y11 y12 y13))
-- [1, 1, 1, 1]
def f27_1  (x0 y1 y2 y3 y4 y5 y6 y7 y8 y9 y10 y11 y12 : TV) : Prg TV :=
  Prg.call 54 [TV.agg [y1, y2, y3, y4, y5], y7, x0] fun v13 =>
  Prg.chk (Bool.and (TV.isAgg v13 5) (fitsAt z46 (TV.cellsL true v13) 0)) (
  Prg.tv (pbin (Kd.int IntKind.i64) BinOp.add (TV.cell v13 2) (TV.lit (Value.int IntKind.i64 (1 : Int)))) fun v14 =>
  Prg.ret (TV.tup [TV.agg [TV.cell v13 0, TV.cell v13 1, v14, TV.cell v13 3, TV.cell v13 4], TV.lit (Value.bool true)]))
-- [1, 1, 1, 0, 1, 0, 1, 1, 1]
def f27_2  (x0 y1 y2 y3 y4 y5 y6 y7 y8 y9 y10 y11 y12 : TV) : Prg TV :=
  Prg.tvs (pidx 1 y4 y8) fun e15 =>
  Prg.chk (Nat.blt 0 (List.length e15)) (
  Prg.call 57 [y6, nth TV.hole e15 0, x0] fun v16 =>
  Prg.chk (TV.isTup v16 2) (
  Prg.chk (fitsAt zWord [TV.comp v16 0] 0) (
  Prg.chk (fitsAt zBool [TV.comp v16 1] 0) (
  Prg.tv (pun UnOp.not (TV.comp v16 1)) fun v17 =>
  Prg.ite (asBool v17) (
    Prg.ret (TV.tup [TV.agg [y1, y2, y3, y4, y5], TV.lit (Value.bool false)])) (
    Prg.jmp [1, 1, 1, 1] (f27_1_S (TV.comp v16 0) y1 y2 y3 y4 y5 y6 y7 y8 y9 y10 y11 y12))))))
theorem f27_MR (x0 x1 : TV) : startQ prog 27 [x0, x1] = f27_M x0 x1 := by kernel_rfl
theorem f27_0_R  (x0 x1 y2 y3 y4 y5 y6 y7 y8 y9 y10 y11 y12 y13 : TV) : pieceQ prog 27 [1, 0, 1, 1, 0, 1, 0, 1, 1, 1] (f27_0_S x0 x1 y2 y3 y4 y5 y6 y7 y8 y9 y10 y11 y12 y13) = f27_0 x0 x1 y2 y3 y4 y5 y6 y7 y8 y9 y10 y11 y12 y13 := by kernel_rfl
theorem f27_1_R  (x0 y1 y2 y3 y4 y5 y6 y7 y8 y9 y10 y11 y12 : TV) : pieceQ prog 27 [1, 1, 1, 1] (f27_1_S x0 y1 y2 y3 y4 y5 y6 y7 y8 y9 y10 y11 y12) = f27_1 x0 y1 y2 y3 y4 y5 y6 y7 y8 y9 y10 y11 y12 := by kernel_rfl
theorem f27_2_R  (x0 y1 y2 y3 y4 y5 y6 y7 y8 y9 y10 y11 y12 : TV) : pieceQ prog 27 [1, 1, 1, 0, 1, 0, 1, 1, 1] (f27_2_S x0 y1 y2 y3 y4 y5 y6 y7 y8 y9 y10 y11 y12) = f27_2 x0 y1 y2 y3 y4 y5 y6 y7 y8 y9 y10 y11 y12 := by kernel_rfl

theorem f27_run {x0 x1 : TV} {r : TV} (h : Goes prog 27 (f27_M x0 x1) r) : Runs prog 27 [x0, x1] r := Runs.of (f27_MR x0 x1) h
theorem f27_0_J  {x0 x1 y2 y3 y4 y5 y6 y7 y8 y9 y10 y11 y12 y13 : TV} {r : TV} (h : Goes prog 27 (f27_0 x0 x1 y2 y3 y4 y5 y6 y7 y8 y9 y10 y11 y12 y13) r) : Goes prog 27 (.jmp [1, 0, 1, 1, 0, 1, 0, 1, 1, 1] (f27_0_S x0 x1 y2 y3 y4 y5 y6 y7 y8 y9 y10 y11 y12 y13)) r := Goes.jmp (f27_0_R x0 x1 y2 y3 y4 y5 y6 y7 y8 y9 y10 y11 y12 y13) h
theorem f27_1_J  {x0 y1 y2 y3 y4 y5 y6 y7 y8 y9 y10 y11 y12 : TV} {r : TV} (h : Goes prog 27 (f27_1 x0 y1 y2 y3 y4 y5 y6 y7 y8 y9 y10 y11 y12) r) : Goes prog 27 (.jmp [1, 1, 1, 1] (f27_1_S x0 y1 y2 y3 y4 y5 y6 y7 y8 y9 y10 y11 y12)) r := Goes.jmp (f27_1_R x0 y1 y2 y3 y4 y5 y6 y7 y8 y9 y10 y11 y12) h
theorem f27_2_J  {x0 y1 y2 y3 y4 y5 y6 y7 y8 y9 y10 y11 y12 : TV} {r : TV} (h : Goes prog 27 (f27_2 x0 y1 y2 y3 y4 y5 y6 y7 y8 y9 y10 y11 y12) r) : Goes prog 27 (.jmp [1, 1, 1, 0, 1, 0, 1, 1, 1] (f27_2_S x0 y1 y2 y3 y4 y5 y6 y7 y8 y9 y10 y11 y12)) r := Goes.jmp (f27_2_R x0 y1 y2 y3 y4 y5 y6 y7 y8 y9 y10 y11 y12) h
def f28_M (x0 x1 : TV) : Prg TV :=
  Prg.chk (TV.isAgg x0 4) (
  Prg.ite (asBool (TV.cell x0 2)) (
    Prg.ret (TV.lit (Value.bool true))) (
    Prg.call 58 [TV.cell x0 1, x1] fun v0 =>
    Prg.chk (fitsAt zBool [v0] 0) (
    Prg.ret v0)))
theorem f28_MR (x0 x1 : TV) : startQ prog 28 [x0, x1] = f28_M x0 x1 := by kernel_rfl

theorem f28_run {x0 x1 : TV} {r : TV} (h : Goes prog 28 (f28_M x0 x1) r) : Runs prog 28 [x0, x1] r := Runs.of (f28_MR x0 x1) h
def f29_0_S  (x0 x1 y2 y3 y4 y5 : TV) : ASt := ⟨[AV.one CA.junk, AV.tv x0, AV.one (CA.ptr 0 0), AV.one CA.junk, AV.one CA.junk, AV.tv x1] ++ List.replicate 16 (AV.one CA.junk), [Option.some (BC.cells [CA.t y2, CA.t y3, CA.t y4, CA.t y5])] ++ List.replicate 45 (Option.none), []⟩
def f29_M (x0 x1 : TV) : Prg TV :=
  Prg.chk (TV.isAgg x0 4) (
  Prg.jmp [0, 0, 1, 0, 1] (f29_0_S x1 (TV.lit (Value.int IntKind.i64 (0 : Int))) (TV.cell x0 0) (TV.cell x0 1) (TV.cell x0 2) (TV.cell x0 3)))
-- [0, 0, 1, 0, 1]
def f29_0  (x0 x1 y2 y3 y4 y5 : TV) : Prg TV :=
  Prg.tv (plen (Kd.slice 25) y3) fun v0 =>
  Prg.tv (pbin (Kd.int IntKind.i64) BinOp.lss x1 v0) fun v1 =>
  Prg.ite (asBool v1) (
    Prg.tvs (pidx 1 y3 x1) fun e2 =>
    Prg.chk (Nat.blt 0 (List.length e2)) (
    Prg.tv (pbin (Kd.int IntKind.u16) BinOp.eql (nth TV.hole e2 0) x0) fun v3 =>
    Prg.ite (asBool v3) (
      Prg.ret (TV.lit (Value.bool true))) (
      Prg.tv (pbin (Kd.int IntKind.i64) BinOp.add x1 (TV.lit (Value.int IntKind.i64 (1 : Int)))) fun v4 =>
      Prg.jmp [0, 0, 1, 0, 1] (f29_0_S x0 v4 y2 y3 y4 y5)))) (
    Prg.ret y4)
theorem f29_MR (x0 x1 : TV) : startQ prog 29 [x0, x1] = f29_M x0 x1 := by kernel_rfl
theorem f29_0_R  (x0 x1 y2 y3 y4 y5 : TV) : pieceQ prog 29 [0, 0, 1, 0, 1] (f29_0_S x0 x1 y2 y3 y4 y5) = f29_0 x0 x1 y2 y3 y4 y5 := by kernel_rfl

theorem f29_run {x0 x1 : TV} {r : TV} (h : Goes prog 29 (f29_M x0 x1) r) : Runs prog 29 [x0, x1] r := Runs.of (f29_MR x0 x1) h
theorem f29_0_J  {x0 x1 y2 y3 y4 y5 : TV} {r : TV} (h : Goes prog 29 (f29_0 x0 x1 y2 y3 y4 y5) r) : Goes prog 29 (.jmp [0, 0, 1, 0, 1] (f29_0_S x0 x1 y2 y3 y4 y5)) r := Goes.jmp (f29_0_R x0 x1 y2 y3 y4 y5) h
def f30_M (x0 x1 : TV) : Prg TV :=
  Prg.chk (TV.isAgg x0 5) (
  Prg.call 52 [TV.agg [TV.cell x0 0, TV.cell x0 1, TV.cell x0 2, TV.cell x0 3, TV.cell x0 4]] fun v0 =>
  Prg.chk (Bool.and (TV.isAgg v0 5) (fitsAt z46 (TV.cellsL true v0) 0)) (
  Prg.chk (TV.isOne x1) (
  Prg.chk (isOwn (TV.agg [TV.cell v0 0, x1, TV.lit (Value.int IntKind.i64 (0 : Int)), TV.cell v0 3, TV.cell v0 4])) (
  Prg.ret (TV.agg [TV.cell v0 0, x1, TV.lit (Value.int IntKind.i64 (0 : Int)), TV.cell v0 3, TV.cell v0 4])))))
theorem f30_MR (x0 x1 : TV) : startQ prog 30 [x0, x1] = f30_M x0 x1 := by kernel_rfl

theorem f30_run {x0 x1 : TV} {r : TV} (h : Goes prog 30 (f30_M x0 x1) r) : Runs prog 30 [x0, x1] r := Runs.of (f30_MR x0 x1) h
def f40_0_S  (x0 x1 x2 y3 : TV) : ASt := ⟨[AV.one CA.junk, AV.one (CA.ptr 0 0)] ++ List.replicate 22 (AV.one CA.junk) ++ [AV.tv x0, AV.tv x1, AV.tv x2] ++ List.replicate 8 (AV.one CA.junk), [Option.some (BC.cells [CA.t y3])] ++ List.replicate 58 (Option.none), []⟩
def f40_M (x0 : TV) : Prg TV :=
  Prg.chk (TV.isAgg x0 1) (
  Prg.tv (plen (Kd.slice 32) (TV.cell x0 0)) fun v0 =>
  Prg.tv (pbin (Kd.int IntKind.i64) BinOp.lss v0 (TV.lit (Value.int IntKind.i64 (1 : Int)))) fun v1 =>
  Prg.ite (asBool v1) (
    Prg.ret (TV.lit (Value.bool false))) (
    Prg.tv (plen (Kd.slice 32) (TV.cell x0 0)) fun v2 =>
    Prg.tv (pbin (Kd.int IntKind.i64) BinOp.gtr v2 (TV.lit (Value.int IntKind.i64 (16 : Int)))) fun v3 =>
    Prg.ite (asBool v3) (
      Prg.ret (TV.lit (Value.bool false))) (
      Prg.tvs (pidx 3 (TV.cell x0 0) (TV.lit (Value.int IntKind.i64 (0 : Int)))) fun e4 =>
      Prg.chk (Nat.blt 0 (List.length e4)) (
      Prg.tv (pbin (Kd.int IntKind.i64) BinOp.neq (nth TV.hole e4 0) (TV.lit (Value.int IntKind.i64 (0 : Int)))) fun v5 =>
      Prg.ite (asBool v5) (
        Prg.ret (TV.lit (Value.bool false))) (
        Prg.tv (plen (Kd.slice 32) (TV.cell x0 0)) fun v6 =>
        Prg.jmp [0, 0, 1, 0, 1, 1] (f40_0_S (TV.cell x0 0) v6 (TV.lit (Value.int IntKind.i64 (0 : Int))) (TV.cell x0 0)))))))
-- [0, 0, 1, 0, 1, 1]
def f40_0  (x0 x1 x2 y3 : TV) : Prg TV :=
  Prg.tv (pbin (Kd.int IntKind.i64) BinOp.lss x2 x1) fun v7 =>
  Prg.ite (asBool v7) (
    Prg.tvs (pidx 3 x0 x2) fun e8 =>
    Prg.chk (Nat.ble 3 (List.length e8)) (
    Prg.call 41 [TV.agg [y3], TV.agg [nth TV.hole e8 0, nth TV.hole e8 1, nth TV.hole e8 2]] fun v9 =>
    Prg.chk (fitsAt zBool [v9] 0) (
    Prg.tv (pun UnOp.not v9) fun v10 =>
    Prg.ite (asBool v10) (
      Prg.ret (TV.lit (Value.bool false))) (
      Prg.tv (pbin (Kd.int IntKind.i64) BinOp.add x2 (TV.lit (Value.int IntKind.i64 (1 : Int)))) fun v11 =>
      Prg.jmp [0, 0, 1, 0, 1, 1] (f40_0_S x0 x1 v11 y3))))) (
    Prg.ret (TV.lit (Value.bool true)))
theorem f40_MR (x0 : TV) : startQ prog 40 [x0] = f40_M x0 := by kernel_rfl
theorem f40_0_R  (x0 x1 x2 y3 : TV) : pieceQ prog 40 [0, 0, 1, 0, 1, 1] (f40_0_S x0 x1 x2 y3) = f40_0 x0 x1 x2 y3 := by kernel_rfl

theorem f40_run {x0 : TV} {r : TV} (h : Goes prog 40 (f40_M x0) r) : Runs prog 40 [x0] r := Runs.of (f40_MR x0) h
theorem f40_0_J  {x0 x1 x2 y3 : TV} {r : TV} (h : Goes prog 40 (f40_0 x0 x1 x2 y3) r) : Goes prog 40 (.jmp [0, 0, 1, 0, 1, 1] (f40_0_S x0 x1 x2 y3)) r := Goes.jmp (f40_0_R x0 x1 x2 y3) h
def f41_0_S  (x0 x1 x2 y3 y4 y5 y6 : TV) : ASt := ⟨List.replicate 5 (AV.one CA.junk) ++ [AV.one (CA.ptr 0 0)] ++ List.replicate 44 (AV.one CA.junk) ++ [AV.tv x0, AV.tv x1, AV.tv x2] ++ List.replicate 8 (AV.one CA.junk), [Option.some (BC.cells [CA.t y3, CA.t y4, CA.t y5, CA.t y6])] ++ List.replicate 84 (Option.none), []⟩
def f41_M (x0 x1 : TV) : Prg TV :=
  Prg.chk (TV.isAgg x0 1) (
  Prg.chk (TV.isAgg x1 3) (
  Prg.tv (pbin (Kd.int IntKind.i64) BinOp.lss (TV.cell x1 0) (TV.lit (Value.int IntKind.i64 (0 : Int)))) fun v0 =>
  Prg.ite (asBool v0) (
    Prg.ret (TV.lit (Value.bool false))) (
    Prg.tv (pbin (Kd.int IntKind.i64) BinOp.gtr (TV.cell x1 0) (TV.lit (Value.int IntKind.i64 (8 : Int)))) fun v1 =>
    Prg.ite (asBool v1) (
      Prg.ret (TV.lit (Value.bool false))) (
      Prg.tv (pbin (Kd.int IntKind.i64) BinOp.lss (TV.cell x1 1) (TV.cell x1 0)) fun v2 =>
      Prg.ite (asBool v2) (
        Prg.ret (TV.lit (Value.bool false))) (
        Prg.tv (pbin (Kd.int IntKind.i64) BinOp.gtr (TV.cell x1 1) (TV.lit (Value.int IntKind.i64 (256 : Int)))) fun v3 =>
        Prg.ite (asBool v3) (
          Prg.ret (TV.lit (Value.bool false))) (
          Prg.tv (plen (Kd.slice 42) (TV.cell x1 2)) fun v4 =>
          Prg.tv (pbin (Kd.int IntKind.i64) BinOp.lss v4 (TV.lit (Value.int IntKind.i64 (1 : Int)))) fun v5 =>
          Prg.ite (asBool v5) (
            Prg.ret (TV.lit (Value.bool false))) (
            Prg.tv (plen (Kd.slice 42) (TV.cell x1 2)) fun v6 =>
            Prg.tv (pbin (Kd.int IntKind.i64) BinOp.gtr v6 (TV.lit (Value.int IntKind.i64 (64 : Int)))) fun v7 =>
            Prg.ite (asBool v7) (
              Prg.ret (TV.lit (Value.bool false))) (
              Prg.tvs (pidx 14 (TV.cell x1 2) (TV.lit (Value.int IntKind.i64 (0 : Int)))) fun e8 =>
              Prg.chk (Nat.blt 0 (List.length e8)) (
              Prg.ite (asBool (nth TV.hole e8 0)) (
                Prg.ret (TV.lit (Value.bool false))) (
                Prg.tv (plen (Kd.slice 42) (TV.cell x1 2)) fun v9 =>
                Prg.jmp [0, 0, 1, 0, 1, 1, 1, 1] (f41_0_S (TV.cell x1 2) v9 (TV.lit (Value.int IntKind.i64 (0 : Int))) (TV.cell x0 0) (TV.cell x1 0) (TV.cell x1 1) (TV.cell x1 2))))))))))))
-- [0, 0, 1, 0, 1, 1, 1, 1]
def f41_0  (x0 x1 x2 y3 y4 y5 y6 : TV) : Prg TV :=
  Prg.tv (pbin (Kd.int IntKind.i64) BinOp.lss x2 x1) fun v10 =>
  Prg.ite (asBool v10) (
    Prg.tvs (pidx 14 x0 x2) fun e11 =>
    Prg.chk (Nat.ble 14 (List.length e11)) (
    Prg.call 67 [TV.agg [y3, y4, y5, y6], TV.agg [nth TV.hole e11 0, nth TV.hole e11 1, nth TV.hole e11 2, nth TV.hole e11 3, nth TV.hole e11 4, nth TV.hole e11 5, nth TV.hole e11 6, nth TV.hole e11 7, nth TV.hole e11 8, nth TV.hole e11 9, nth TV.hole e11 10, nth TV.hole e11 11, nth TV.hole e11 12, nth TV.hole e11 13]] fun v12 =>
    Prg.chk (fitsAt zBool [v12] 0) (
    Prg.tv (pun UnOp.not v12) fun v13 =>
    Prg.ite (asBool v13) (
      Prg.ret (TV.lit (Value.bool false))) (
      Prg.tv (pbin (Kd.int IntKind.i64) BinOp.add x2 (TV.lit (Value.int IntKind.i64 (1 : Int)))) fun v14 =>
      Prg.jmp [0, 0, 1, 0, 1, 1, 1, 1] (f41_0_S x0 x1 v14 y3 y4 y5 y6))))) (
    Prg.ret (TV.lit (Value.bool true)))
theorem f41_MR (x0 x1 : TV) : startQ prog 41 [x0, x1] = f41_M x0 x1 := by kernel_rfl
theorem f41_0_R  (x0 x1 x2 y3 y4 y5 y6 : TV) : pieceQ prog 41 [0, 0, 1, 0, 1, 1, 1, 1] (f41_0_S x0 x1 x2 y3 y4 y5 y6) = f41_0 x0 x1 x2 y3 y4 y5 y6 := by kernel_rfl

theorem f41_run {x0 x1 : TV} {r : TV} (h : Goes prog 41 (f41_M x0 x1) r) : Runs prog 41 [x0, x1] r := Runs.of (f41_MR x0 x1) h
theorem f41_0_J  {x0 x1 x2 y3 y4 y5 y6 : TV} {r : TV} (h : Goes prog 41 (f41_0 x0 x1 x2 y3 y4 y5 y6) r) : Goes prog 41 (.jmp [0, 0, 1, 0, 1, 1, 1, 1] (f41_0_S x0 x1 x2 y3 y4 y5 y6)) r := Goes.jmp (f41_0_R x0 x1 x2 y3 y4 y5 y6) h
def f42_0_S  (x0 x1 x2 y3 y4 y5 w6 w7 : TV) : ASt := ⟨[AV.one CA.junk, AV.one (CA.ptr 0 0), AV.one CA.junk, AV.one (CA.sref 1 0 []), AV.one (CA.sref 2 0 [])] ++ List.replicate 10 (AV.one CA.junk) ++ [AV.tv x0, AV.tv x1, AV.tv x2] ++ List.replicate 68 (AV.one CA.junk), [Option.some (BC.cells [CA.t y3, CA.t y4, CA.t y5]), Option.some (BC.tree [w6]), Option.some (BC.tree [w7])] ++ List.replicate 107 (Option.none), []⟩
def f42_1_S  (y0 y1 y2 w3 w4 : TV) : ASt := ⟨[AV.one CA.junk, AV.one (CA.ptr 0 0), AV.one CA.junk, AV.one (CA.sref 1 0 []), AV.one (CA.sref 2 0 [])] ++ List.replicate 81 (AV.one CA.junk), [Option.some (BC.cells [CA.t y0, CA.t y1, CA.t y2]), Option.some (BC.tree [w3]), Option.some (BC.tree [w4])] ++ List.replicate 107 (Option.none), []⟩
def f42_2_S  (y0 y1 y2 w3 w4 : TV) : ASt := ⟨[AV.one CA.junk, AV.one (CA.ptr 0 0), AV.one CA.junk, AV.one (CA.sref 1 0 []), AV.one (CA.sref 2 0 [])] ++ List.replicate 81 (AV.one CA.junk), [Option.some (BC.cells [CA.t y0, CA.t y1, CA.t y2]), Option.some (BC.tree [w3]), Option.some (BC.tree [w4])] ++ List.replicate 107 (Option.none), []⟩
def f42_3_S  (x0 x1 y2 y3 y4 w5 w6 w7 : TV) : ASt := ⟨[AV.one CA.junk, AV.one (CA.ptr 0 0), AV.one CA.junk, AV.one (CA.sref 1 0 []), AV.one (CA.sref 2 0 [])] ++ List.replicate 51 (AV.one CA.junk) ++ [AV.one (CA.sref 3 0 []), AV.tv x0, AV.tv x1] ++ List.replicate 27 (AV.one CA.junk), [Option.some (BC.cells [CA.t y2, CA.t y3, CA.t y4]), Option.some (BC.tree [w5]), Option.some (BC.tree [w6]), Option.some (BC.tree [w7])] ++ List.replicate 106 (Option.none), []⟩
def f42_M (x0 : TV) : Prg TV :=
  Prg.chk (TV.isAgg x0 3) (
  Prg.tv (plen (Kd.slice 42) (TV.cell x0 2)) fun v0 =>
  Prg.nat (asNat v0) fun n1 =>
  Prg.nat (asNat v0) fun n2 =>
  Prg.chk (Bool.and (Nat.ble n1 n2) (Nat.ble n2 4294967296)) (
  Prg.tv (plen (Kd.slice 42) (TV.cell x0 2)) fun v3 =>
  Prg.chk true (
  Prg.jmp [0, 0, 1, 0, 1, 1, 1] (f42_0_S (TV.cell x0 2) v3 (TV.lit (Value.int IntKind.i64 (0 : Int))) (TV.cell x0 0) (TV.cell x0 1) (TV.cell x0 2) (TV.sl true 1 (List.replicate n1 [TV.lit (Value.bool false)])) (TV.lit (Value.slice Option.none 0 0))))))
-- [0, 0, 1, 0, 1, 1, 1]
def f42_0  (x0 x1 x2 y3 y4 y5 w6 w7 : TV) : Prg TV :=
  Prg.tv (pbin (Kd.int IntKind.i64) BinOp.lss x2 x1) fun v4 =>
  Prg.ite (asBool v4) (
    Prg.tvs (pidx 14 x0 x2) fun e5 =>
    Prg.chk (Nat.ble 14 (List.length e5)) (
    Prg.ite (asBool (nth TV.hole e5 0)) (
      Prg.ite (asBool (nth TV.hole e5 4)) (
        Prg.nat (slLen w6) fun n6 =>
        Prg.nat (asNat x2) fun n7 =>
        Prg.chk (Bool.and (slSize w6 1) (Nat.blt n7 n6)) (
        Prg.tvs (pel w6 n7) fun e8 =>
        Prg.chk (fitsAt zBool e8 0) (
        Prg.tv (setC [] w6 n7 0 [TV.lit (Value.bool true)]) fun v9 =>
        Prg.chk (TV.isOne x2) (
        Prg.rws (pelems 1 (TV.sl true 1 (chunks 1 1 [x2]))) fun r10 =>
        Prg.tv (papp 1 w7 (lfLL r10)) fun v11 =>
        Prg.tv (pbin (Kd.int IntKind.i64) BinOp.add x2 (TV.lit (Value.int IntKind.i64 (1 : Int)))) fun v12 =>
        Prg.jmp [0, 0, 1, 0, 1, 1, 1] (f42_0_S x0 x1 v12 y3 y4 y5 v9 v11))))) (
        Prg.tv (pbin (Kd.int IntKind.i64) BinOp.add x2 (TV.lit (Value.int IntKind.i64 (1 : Int)))) fun v13 =>
        Prg.jmp [0, 0, 1, 0, 1, 1, 1] (f42_0_S x0 x1 v13 y3 y4 y5 w6 w7))) (
      Prg.tv (pbin (Kd.int IntKind.i64) BinOp.add x2 (TV.lit (Value.int IntKind.i64 (1 : Int)))) fun v14 =>
      Prg.jmp [0, 0, 1, 0, 1, 1, 1] (f42_0_S x0 x1 v14 y3 y4 y5 w6 w7)))) (
    Prg.jmp [1, 1, 1, 1] (f42_1_S y3 y4 y5 w6 w7))
-- [1, 1, 1, 1]
def f42_1  (y0 y1 y2 w3 w4 : TV) : Prg TV :=
  Prg.jmp [0, 0, 0, 1, 1, 1, 1] (f42_2_S y0 y1 y2 w3 w4)
-- [0, 0, 0, 1, 1, 1, 1]
def f42_2  (y0 y1 y2 w3 w4 : TV) : Prg TV :=
  Prg.tv (plen (Kd.slice 3) w4) fun v15 =>
  Prg.tv (pbin (Kd.int IntKind.i64) BinOp.gtr v15 (TV.lit (Value.int IntKind.i64 (0 : Int)))) fun v16 =>
  Prg.ite (asBool v16) (
    Prg.tv (plen (Kd.slice 3) w4) fun v17 =>
    Prg.tv (pbin (Kd.int IntKind.i64) BinOp.sub v17 (TV.lit (Value.int IntKind.i64 (1 : Int)))) fun v18 =>
    Prg.nat (slLen w4) fun n19 =>
    Prg.nat (asNat v18) fun n20 =>
    Prg.chk (Bool.and (slSize w4 1) (Nat.blt n20 n19)) (
    Prg.tvs (pel w4 n20) fun e21 =>
    Prg.chk (fitsAt zInt e21 0) (
    Prg.tv (plen (Kd.slice 3) w4) fun v22 =>
    Prg.tv (pbin (Kd.int IntKind.i64) BinOp.sub v22 (TV.lit (Value.int IntKind.i64 (1 : Int)))) fun v23 =>
    Prg.nat (slLen w4) fun n24 =>
    Prg.nat (asNat v23) fun n25 =>
    Prg.chk (Bool.and (Bool.and (slSize w4 1) (Nat.ble 0 (Option.getD (Option.some n25) n24))) (Nat.ble (Option.getD (Option.some n25) n24) n24)) (
    Prg.tvs (pidx 14 y2 (nth TV.hole e21 0)) fun e26 =>
    Prg.chk (Nat.ble 14 (List.length e26)) (
    Prg.call 43 [TV.agg [nth TV.hole e26 0, nth TV.hole e26 1, nth TV.hole e26 2, nth TV.hole e26 3, nth TV.hole e26 4, nth TV.hole e26 5, nth TV.hole e26 6, nth TV.hole e26 7, nth TV.hole e26 8, nth TV.hole e26 9, nth TV.hole e26 10, nth TV.hole e26 11, nth TV.hole e26 12, nth TV.hole e26 13]] fun v27 =>
    Prg.chk (fitsAt zSl [v27] 0) (
    Prg.tv (plen (Kd.slice 3) v27) fun v28 =>
    Prg.tv (winP 0 ((Option.getD (Option.some n25) n24) - 0) w4) fun v29 =>
    Prg.jmp [0, 0, 1, 1, 1, 0, 1, 0, 0, 0, 1, 1, 1, 1] (f42_3_S v28 (TV.lit (Value.int IntKind.i64 (0 : Int))) y0 y1 y2 w3 v29 v27))))))) (
    Prg.chk (isOwn w3) (
    Prg.ret w3))
-- [0, 0, 1, 1, 1, 0, 1, 0, 0, 0, 1, 1, 1, 1]
def f42_3  (x0 x1 y2 y3 y4 w5 w6 w7 : TV) : Prg TV :=
  Prg.tv (pbin (Kd.int IntKind.i64) BinOp.lss x1 x0) fun v30 =>
  Prg.ite (asBool v30) (
    Prg.nat (slLen w7) fun n31 =>
    Prg.nat (asNat x1) fun n32 =>
    Prg.chk (Bool.and (slSize w7 1) (Nat.blt n32 n31)) (
    Prg.tvs (pel w7 n32) fun e33 =>
    Prg.chk (fitsAt zInt e33 0) (
    Prg.tv (pbin (Kd.int IntKind.i64) BinOp.leq (TV.lit (Value.int IntKind.i64 (0 : Int))) (nth TV.hole e33 0)) fun v34 =>
    Prg.ite (asBool v34) (
      Prg.tv (plen (Kd.slice 4) w5) fun v35 =>
      Prg.tv (pbin (Kd.int IntKind.i64) BinOp.lss (nth TV.hole e33 0) v35) fun v36 =>
      Prg.ite (asBool v36) (
        Prg.nat (slLen w5) fun n37 =>
        Prg.nat (asNat (nth TV.hole e33 0)) fun n38 =>
        Prg.chk (Bool.and (slSize w5 1) (Nat.blt n38 n37)) (
        Prg.tvs (pel w5 n38) fun e39 =>
        Prg.chk (fitsAt zBool e39 0) (
        Prg.tv (pun UnOp.not (nth TV.hole e39 0)) fun v40 =>
        Prg.ite (asBool v40) (
          Prg.nat (slLen w5) fun n41 =>
          Prg.nat (asNat (nth TV.hole e33 0)) fun n42 =>
          Prg.chk (Bool.and (slSize w5 1) (Nat.blt n42 n41)) (
          Prg.tvs (pel w5 n42) fun e43 =>
          Prg.chk (fitsAt zBool e43 0) (
          Prg.tv (setC [] w5 n42 0 [TV.lit (Value.bool true)]) fun v44 =>
          Prg.rws (pelems 1 (TV.sl true 1 (chunks 1 1 [nth TV.hole e33 0]))) fun r45 =>
          Prg.tv (papp 1 w6 (lfLL r45)) fun v46 =>
          Prg.tv (pbin (Kd.int IntKind.i64) BinOp.add x1 (TV.lit (Value.int IntKind.i64 (1 : Int)))) fun v47 =>
          Prg.jmp [0, 0, 1, 1, 1, 0, 1, 0, 0, 0, 1, 1, 1, 1] (f42_3_S x0 v47 y2 y3 y4 v44 v46 w7)))) (
          Prg.tv (pbin (Kd.int IntKind.i64) BinOp.add x1 (TV.lit (Value.int IntKind.i64 (1 : Int)))) fun v48 =>
          Prg.jmp [0, 0, 1, 1, 1, 0, 1, 0, 0, 0, 1, 1, 1, 1] (f42_3_S x0 v48 y2 y3 y4 w5 w6 w7))))) (
        Prg.tv (pbin (Kd.int IntKind.i64) BinOp.add x1 (TV.lit (Value.int IntKind.i64 (1 : Int)))) fun v49 =>
        Prg.jmp [0, 0, 1, 1, 1, 0, 1, 0, 0, 0, 1, 1, 1, 1] (f42_3_S x0 v49 y2 y3 y4 w5 w6 w7))) (
      Prg.tv (pbin (Kd.int IntKind.i64) BinOp.add x1 (TV.lit (Value.int IntKind.i64 (1 : Int)))) fun v50 =>
      Prg.jmp [0, 0, 1, 1, 1, 0, 1, 0, 0, 0, 1, 1, 1, 1] (f42_3_S x0 v50 y2 y3 y4 w5 w6 w7))))) (
    Prg.jmp [0, 0, 0, 1, 1, 1, 1] (f42_2_S y2 y3 y4 w5 w6))
theorem f42_MR (x0 : TV) : startQ prog 42 [x0] = f42_M x0 := by kernel_rfl
theorem f42_0_R  (x0 x1 x2 y3 y4 y5 w6 w7 : TV) : pieceQ prog 42 [0, 0, 1, 0, 1, 1, 1] (f42_0_S x0 x1 x2 y3 y4 y5 w6 w7) = f42_0 x0 x1 x2 y3 y4 y5 w6 w7 := by kernel_rfl
theorem f42_1_R  (y0 y1 y2 w3 w4 : TV) : pieceQ prog 42 [1, 1, 1, 1] (f42_1_S y0 y1 y2 w3 w4) = f42_1 y0 y1 y2 w3 w4 := by kernel_rfl
theorem f42_2_R  (y0 y1 y2 w3 w4 : TV) : pieceQ prog 42 [0, 0, 0, 1, 1, 1, 1] (f42_2_S y0 y1 y2 w3 w4) = f42_2 y0 y1 y2 w3 w4 := by kernel_rfl
theorem f42_3_R  (x0 x1 y2 y3 y4 w5 w6 w7 : TV) : pieceQ prog 42 [0, 0, 1, 1, 1, 0, 1, 0, 0, 0, 1, 1, 1, 1] (f42_3_S x0 x1 y2 y3 y4 w5 w6 w7) = f42_3 x0 x1 y2 y3 y4 w5 w6 w7 := by kernel_rfl

theorem f42_run {x0 : TV} {r : TV} (h : Goes prog 42 (f42_M x0) r) : Runs prog 42 [x0] r := Runs.of (f42_MR x0) h
theorem f42_0_J  {x0 x1 x2 y3 y4 y5 w6 w7 : TV} {r : TV} (h : Goes prog 42 (f42_0 x0 x1 x2 y3 y4 y5 w6 w7) r) : Goes prog 42 (.jmp [0, 0, 1, 0, 1, 1, 1] (f42_0_S x0 x1 x2 y3 y4 y5 w6 w7)) r := Goes.jmp (f42_0_R x0 x1 x2 y3 y4 y5 w6 w7) h
theorem f42_1_J  {y0 y1 y2 w3 w4 : TV} {r : TV} (h : Goes prog 42 (f42_1 y0 y1 y2 w3 w4) r) : Goes prog 42 (.jmp [1, 1, 1, 1] (f42_1_S y0 y1 y2 w3 w4)) r := Goes.jmp (f42_1_R y0 y1 y2 w3 w4) h
theorem f42_2_J  {y0 y1 y2 w3 w4 : TV} {r : TV} (h : Goes prog 42 (f42_2 y0 y1 y2 w3 w4) r) : Goes prog 42 (.jmp [0, 0, 0, 1, 1, 1, 1] (f42_2_S y0 y1 y2 w3 w4)) r := Goes.jmp (f42_2_R y0 y1 y2 w3 w4) h
theorem f42_3_J  {x0 x1 y2 y3 y4 w5 w6 w7 : TV} {r : TV} (h : Goes prog 42 (f42_3 x0 x1 y2 y3 y4 w5 w6 w7) r) : Goes prog 42 (.jmp [0, 0, 1, 1, 1, 0, 1, 0, 0, 0, 1, 1, 1, 1] (f42_3_S x0 x1 y2 y3 y4 w5 w6 w7)) r := Goes.jmp (f42_3_R x0 x1 y2 y3 y4 w5 w6 w7) h
def f43_0_S  (x0 y1 y2 y3 y4 y5 y6 y7 y8 y9 y10 y11 y12 y13 y14 w15 : TV) : ASt := ⟨[AV.one CA.junk, AV.one (CA.ptr 0 0), AV.one CA.junk, AV.one CA.junk, AV.one (CA.sref 1 0 [])] ++ List.replicate 13 (AV.one CA.junk) ++ [AV.tv x0] ++ List.replicate 7 (AV.one CA.junk), [Option.some (BC.cells [CA.t y1, CA.t y2, CA.t y3, CA.t y4, CA.t y5, CA.t y6, CA.t y7, CA.t y8, CA.t y9, CA.t y10, CA.t y11, CA.t y12, CA.t y13, CA.t y14]), Option.some (BC.tree [w15])] ++ List.replicate 48 (Option.none), []⟩
def f43_M (x0 : TV) : Prg TV :=
  Prg.chk (TV.isAgg x0 14) (
  Prg.call 68 [TV.cell x0 6] fun v0 =>
  Prg.chk (fitsAt zInt [v0] 0) (
  Prg.call 69 [v0, TV.lit (Value.int IntKind.i64 (64 : Int))] fun v1 =>
  Prg.chk (fitsAt zBool [v1] 0) (
  Prg.ite (asBool v1) (
    Prg.rws (pelems 1 (TV.sl true 1 (chunks 1 1 [TV.cell x0 11]))) fun r2 =>
    Prg.tv (papp 1 (TV.lit (Value.slice Option.none 0 0)) (lfLL r2)) fun v3 =>
    Prg.call 69 [v0, TV.lit (Value.int IntKind.i64 (128 : Int))] fun v4 =>
    Prg.chk (fitsAt zBool [v4] 0) (
    Prg.jmp [1, 0, 1, 1, 1, 1] (f43_0_S v4 (TV.cell x0 0) (TV.cell x0 1) (TV.cell x0 2) (TV.cell x0 3) (TV.cell x0 4) (TV.cell x0 5) (TV.cell x0 6) (TV.cell x0 7) (TV.cell x0 8) (TV.cell x0 9) (TV.cell x0 10) (TV.cell x0 11) (TV.cell x0 12) (TV.cell x0 13) v3))) (
    Prg.call 69 [v0, TV.lit (Value.int IntKind.i64 (128 : Int))] fun v5 =>
    Prg.chk (fitsAt zBool [v5] 0) (
    Prg.chk true (
    Prg.jmp [1, 0, 1, 1, 1, 1] (f43_0_S v5 (TV.cell x0 0) (TV.cell x0 1) (TV.cell x0 2) (TV.cell x0 3) (TV.cell x0 4) (TV.cell x0 5) (TV.cell x0 6) (TV.cell x0 7) (TV.cell x0 8) (TV.cell x0 9) (TV.cell x0 10) (TV.cell x0 11) (TV.cell x0 12) (TV.cell x0 13) (TV.lit (Value.slice Option.none 0 0)))))))))
-- [1, 0, 1, 1, 1, 1]
def f43_0  (x0 y1 y2 y3 y4 y5 y6 y7 y8 y9 y10 y11 y12 y13 y14 w15 : TV) : Prg TV :=
  Prg.ite (asBool x0) (
    Prg.rws (pelems 1 (TV.sl true 1 (chunks 1 1 [y13]))) fun r6 =>
    Prg.tv (papp 1 w15 (lfLL r6)) fun v7 =>
    Prg.chk (isOwn v7) (
    Prg.ret v7)) (
    Prg.chk (isOwn w15) (
    Prg.ret w15))
theorem f43_MR (x0 : TV) : startQ prog 43 [x0] = f43_M x0 := by kernel_rfl
theorem f43_0_R  (x0 y1 y2 y3 y4 y5 y6 y7 y8 y9 y10 y11 y12 y13 y14 w15 : TV) : pieceQ prog 43 [1, 0, 1, 1, 1, 1] (f43_0_S x0 y1 y2 y3 y4 y5 y6 y7 y8 y9 y10 y11 y12 y13 y14 w15) = f43_0 x0 y1 y2 y3 y4 y5 y6 y7 y8 y9 y10 y11 y12 y13 y14 w15 := by kernel_rfl

theorem f43_run {x0 : TV} {r : TV} (h : Goes prog 43 (f43_M x0) r) : Runs prog 43 [x0] r := Runs.of (f43_MR x0) h
theorem f43_0_J  {x0 y1 y2 y3 y4 y5 y6 y7 y8 y9 y10 y11 y12 y13 y14 w15 : TV} {r : TV} (h : Goes prog 43 (f43_0 x0 y1 y2 y3 y4 y5 y6 y7 y8 y9 y10 y11 y12 y13 y14 w15) r) : Goes prog 43 (.jmp [1, 0, 1, 1, 1, 1] (f43_0_S x0 y1 y2 y3 y4 y5 y6 y7 y8 y9 y10 y11 y12 y13 y14 w15)) r := Goes.jmp (f43_0_R x0 y1 y2 y3 y4 y5 y6 y7 y8 y9 y10 y11 y12 y13 y14 w15) h
def f44_M (x0 : TV) : Prg TV :=
  Prg.tv (pbin (Kd.slice 32) BinOp.eql x0 (TV.lit (Value.slice Option.none 0 0))) fun v0 =>
  Prg.ite (asBool v0) (
    Prg.ret (TV.lit (Value.slice Option.none 0 0))) (
    Prg.tv (plen (Kd.slice 32) x0) fun v1 =>
    Prg.nat (asNat v1) fun n2 =>
    Prg.nat (asNat v1) fun n3 =>
    Prg.chk (Bool.and (Nat.ble n2 n3) (Nat.ble n3 4294967296)) (
    Prg.rws (pelems 3 x0) fun r4 =>
    Prg.tv (pcopy 3 (TV.sl true 3 (List.replicate n2 [TV.lit (Value.int IntKind.i64 (0 : Int)), TV.lit (Value.int IntKind.i64 (0 : Int)), TV.lit (Value.slice Option.none 0 0)])) r4) fun v5 =>
    Prg.nat (slLen (TV.sl true 3 (List.replicate n2 [TV.lit (Value.int IntKind.i64 (0 : Int)), TV.lit (Value.int IntKind.i64 (0 : Int)), TV.lit (Value.slice Option.none 0 0)]))) fun n6 =>
    Prg.ret v5))
theorem f44_MR (x0 : TV) : startQ prog 44 [x0] = f44_M x0 := by kernel_rfl

theorem f44_run {x0 : TV} {r : TV} (h : Goes prog 44 (f44_M x0) r) : Runs prog 44 [x0] r := Runs.of (f44_MR x0) h
def f45_M (x0 : TV) : Prg TV :=
  Prg.tv (pbin (Kd.slice 42) BinOp.eql x0 (TV.lit (Value.slice Option.none 0 0))) fun v0 =>
  Prg.ite (asBool v0) (
    Prg.ret (TV.lit (Value.slice Option.none 0 0))) (
    Prg.tv (plen (Kd.slice 42) x0) fun v1 =>
    Prg.nat (asNat v1) fun n2 =>
    Prg.nat (asNat v1) fun n3 =>
    Prg.chk (Bool.and (Nat.ble n2 n3) (Nat.ble n3 4294967296)) (
    Prg.rws (pelems 14 x0) fun r4 =>
    Prg.tv (pcopy 14 (TV.sl true 14 (List.replicate n2 [TV.lit (Value.bool false), TV.lit (Value.int IntKind.i64 (0 : Int)), TV.lit (Value.slice Option.none 0 0), TV.lit (Value.bool false), TV.lit (Value.bool false), TV.lit (Value.slice Option.none 0 0), TV.lit (Value.int IntKind.i64 (0 : Int)), TV.lit (Value.int IntKind.i64 (0 : Int)), TV.lit (Value.int IntKind.i64 (0 : Int)), TV.lit (Value.int IntKind.i64 (0 : Int)), TV.lit (Value.slice Option.none 0 0), TV.lit (Value.int IntKind.i64 (0 : Int)), TV.lit (Value.int IntKind.i64 (0 : Int)), TV.lit (Value.int IntKind.i64 (0 : Int))])) r4) fun v5 =>
    Prg.nat (slLen (TV.sl true 14 (List.replicate n2 [TV.lit (Value.bool false), TV.lit (Value.int IntKind.i64 (0 : Int)), TV.lit (Value.slice Option.none 0 0), TV.lit (Value.bool false), TV.lit (Value.bool false), TV.lit (Value.slice Option.none 0 0), TV.lit (Value.int IntKind.i64 (0 : Int)), TV.lit (Value.int IntKind.i64 (0 : Int)), TV.lit (Value.int IntKind.i64 (0 : Int)), TV.lit (Value.int IntKind.i64 (0 : Int)), TV.lit (Value.slice Option.none 0 0), TV.lit (Value.int IntKind.i64 (0 : Int)), TV.lit (Value.int IntKind.i64 (0 : Int)), TV.lit (Value.int IntKind.i64 (0 : Int))]))) fun n6 =>
    Prg.ret v5))
theorem f45_MR (x0 : TV) : startQ prog 45 [x0] = f45_M x0 := by kernel_rfl

theorem f45_run {x0 : TV} {r : TV} (h : Goes prog 45 (f45_M x0) r) : Runs prog 45 [x0] r := Runs.of (f45_MR x0) h
def f46_0_S  (x0 x1 y2 y3 y4 y5 y6 y7 y8 y9 y10 y11 y12 y13 w14 w15 : TV) : ASt := ⟨[AV.one CA.junk, AV.one (CA.ptr 0 0), AV.one (CA.ptr 1 0)] ++ List.replicate 13 (AV.one CA.junk) ++ [AV.tv x0, AV.tv x1] ++ List.replicate 22 (AV.one CA.junk), [Option.some (BC.cells [CA.t y2, CA.t y3, CA.sref 2 0 [], CA.t y4, CA.t y5, CA.sref 3 0 [], CA.t y6, CA.t y7, CA.t y8, CA.t y9, CA.t y10, CA.t y11, CA.t y12, CA.t y13]), Option.some (BC.cells [CA.junk, CA.junk, CA.junk, CA.junk, CA.junk, CA.junk, CA.junk, CA.junk, CA.junk, CA.junk, CA.junk, CA.junk, CA.junk, CA.junk]), Option.some (BC.tree [w14]), Option.some (BC.tree [w15])] ++ List.replicate 60 (Option.none), []⟩
def f46_1_S  (y0 y1 y2 y3 y4 y5 y6 y7 y8 y9 y10 y11 w12 w13 : TV) : ASt := ⟨[AV.one CA.junk, AV.one (CA.ptr 0 0), AV.one (CA.ptr 1 0)] ++ List.replicate 37 (AV.one CA.junk), [Option.some (BC.cells [CA.t y0, CA.t y1, CA.sref 2 0 [], CA.t y2, CA.t y3, CA.sref 3 0 [], CA.t y4, CA.t y5, CA.t y6, CA.t y7, CA.t y8, CA.t y9, CA.t y10, CA.t y11]), Option.some (BC.cells [CA.junk, CA.junk, CA.junk, CA.junk, CA.junk, CA.junk, CA.junk, CA.junk, CA.junk, CA.junk, CA.junk, CA.junk, CA.junk, CA.junk]), Option.some (BC.tree [w12]), Option.some (BC.tree [w13])] ++ List.replicate 60 (Option.none), []⟩
def f46_M (x0 : TV) : Prg TV :=
  Prg.chk (TV.isAgg x0 14) (
  Prg.call 70 [TV.cell x0 2] fun v0 =>
  Prg.chk (fitsAt zSl [v0] 0) (
  Prg.call 71 [TV.cell x0 5] fun v1 =>
  Prg.chk (fitsAt zSl [v1] 0) (
  Prg.tv (plen (Kd.slice 44) v1) fun v2 =>
  Prg.jmp [0, 0, 1, 0, 1, 1, 1] (f46_0_S v2 (TV.lit (Value.int IntKind.i64 (0 : Int))) (TV.cell x0 0) (TV.cell x0 1) (TV.cell x0 3) (TV.cell x0 4) (TV.cell x0 6) (TV.cell x0 7) (TV.cell x0 8) (TV.cell x0 9) (TV.cell x0 10) (TV.cell x0 11) (TV.cell x0 12) (TV.cell x0 13) v0 v1))))
-- [0, 0, 1, 0, 1, 1, 1]
def f46_0  (x0 x1 y2 y3 y4 y5 y6 y7 y8 y9 y10 y11 y12 y13 w14 w15 : TV) : Prg TV :=
  Prg.tv (pbin (Kd.int IntKind.i64) BinOp.lss x1 x0) fun v3 =>
  Prg.ite (asBool v3) (
    Prg.nat (slLen w15) fun n4 =>
    Prg.nat (asNat x1) fun n5 =>
    Prg.chk (Bool.and (slSize w15 7) (Nat.blt n5 n4)) (
    Prg.tvs (pel w15 n5) fun e6 =>
    Prg.chk (fitsAt zSl e6 6) (
    Prg.tv (getP [(n5, 6)] w15) fun v7 =>
    Prg.call 72 [frz v7] fun v8 =>
    Prg.chk (fitsAt zSl [v8] 0) (
    Prg.nat (slLen w15) fun n9 =>
    Prg.nat (asNat x1) fun n10 =>
    Prg.chk (Bool.and (slSize w15 7) (Nat.blt n10 n9)) (
    Prg.tvs (pel w15 n10) fun e11 =>
    Prg.chk (Bool.and (fitsAt zSl e11 6) (fitsAt zSl [v8] 0)) (
    Prg.tv (setC [] w15 n10 6 [v8]) fun v12 =>
    Prg.tv (pbin (Kd.int IntKind.i64) BinOp.add x1 (TV.lit (Value.int IntKind.i64 (1 : Int)))) fun v13 =>
    Prg.jmp [0, 0, 1, 0, 1, 1, 1] (f46_0_S x0 v13 y2 y3 y4 y5 y6 y7 y8 y9 y10 y11 y12 y13 w14 v12))))))) (
    Prg.jmp [1, 1, 1, 1] (f46_1_S y2 y3 y4 y5 y6 y7 y8 y9 y10 y11 y12 y13 w14 w15))
-- [1, 1, 1, 1]
def f46_1  (y0 y1 y2 y3 y4 y5 y6 y7 y8 y9 y10 y11 w12 w13 : TV) : Prg TV :=
  Prg.call 72 [y8] fun v14 =>
  Prg.chk (fitsAt zSl [v14] 0) (
  Prg.chk (isOwn (TV.agg [y0, y1, w12, y2, y3, w13, y4, y5, y6, y7, v14, y9, y10, y11])) (
  Prg.ret (TV.agg [y0, y1, w12, y2, y3, w13, y4, y5, y6, y7, v14, y9, y10, y11])))
theorem f46_MR (x0 : TV) : startQ prog 46 [x0] = f46_M x0 := by kernel_rfl
theorem f46_0_R  (x0 x1 y2 y3 y4 y5 y6 y7 y8 y9 y10 y11 y12 y13 w14 w15 : TV) : pieceQ prog 46 [0, 0, 1, 0, 1, 1, 1] (f46_0_S x0 x1 y2 y3 y4 y5 y6 y7 y8 y9 y10 y11 y12 y13 w14 w15) = f46_0 x0 x1 y2 y3 y4 y5 y6 y7 y8 y9 y10 y11 y12 y13 w14 w15 := by kernel_rfl
theorem f46_1_R  (y0 y1 y2 y3 y4 y5 y6 y7 y8 y9 y10 y11 w12 w13 : TV) : pieceQ prog 46 [1, 1, 1, 1] (f46_1_S y0 y1 y2 y3 y4 y5 y6 y7 y8 y9 y10 y11 w12 w13) = f46_1 y0 y1 y2 y3 y4 y5 y6 y7 y8 y9 y10 y11 w12 w13 := by kernel_rfl

theorem f46_run {x0 : TV} {r : TV} (h : Goes prog 46 (f46_M x0) r) : Runs prog 46 [x0] r := Runs.of (f46_MR x0) h
theorem f46_0_J  {x0 x1 y2 y3 y4 y5 y6 y7 y8 y9 y10 y11 y12 y13 w14 w15 : TV} {r : TV} (h : Goes prog 46 (f46_0 x0 x1 y2 y3 y4 y5 y6 y7 y8 y9 y10 y11 y12 y13 w14 w15) r) : Goes prog 46 (.jmp [0, 0, 1, 0, 1, 1, 1] (f46_0_S x0 x1 y2 y3 y4 y5 y6 y7 y8 y9 y10 y11 y12 y13 w14 w15)) r := Goes.jmp (f46_0_R x0 x1 y2 y3 y4 y5 y6 y7 y8 y9 y10 y11 y12 y13 w14 w15) h
theorem f46_1_J  {y0 y1 y2 y3 y4 y5 y6 y7 y8 y9 y10 y11 w12 w13 : TV} {r : TV} (h : Goes prog 46 (f46_1 y0 y1 y2 y3 y4 y5 y6 y7 y8 y9 y10 y11 w12 w13) r) : Goes prog 46 (.jmp [1, 1, 1, 1] (f46_1_S y0 y1 y2 y3 y4 y5 y6 y7 y8 y9 y10 y11 w12 w13)) r := Goes.jmp (f46_1_R y0 y1 y2 y3 y4 y5 y6 y7 y8 y9 y10 y11 w12 w13) h
end Go.Ab.H6

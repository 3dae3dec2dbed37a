import Derived.Test.YteppgaecdkkkeaaG5T
import Derived.Test.YteppgaecdkkkeaaF0
set_option linter.unusedVariables false
set_option maxRecDepth 100000
namespace Go.Ab.G5
open Go Go.Ab Go.Proofs
def f10_0_S  (x0 x1 x2 y3 y4 y5 y6 y7 y8 : TV) : ASt := ⟨[AV.one CA.junk, AV.one CA.junk, AV.tv x0, AV.tv x1, AV.one (CA.ptr 0 0), AV.one (CA.ptr 1 0), AV.one CA.junk, AV.one CA.junk, AV.one (CA.ptr 2 0)] ++ List.replicate 15 (AV.one CA.junk) ++ [AV.tv x2] ++ List.replicate 24 (AV.one CA.junk), [Option.some (BC.cells [CA.t y3]), Option.some (BC.cells [CA.t y4, CA.t y5, CA.t y6, CA.t y7, CA.t y8]), Option.some (BC.cells [CA.junk, CA.junk, CA.junk, CA.junk, CA.junk])] ++ List.replicate 70 (Option.none), []⟩
def f10_M (x0 x1 x2 x3 : TV) : Prg TV :=
  Prg.chk (TV.isAgg x0 1) (
  Prg.chk (TV.isAgg x1 5) (
  Prg.call 13 [TV.agg [TV.cell x0 0], TV.agg [TV.cell x1 0, TV.cell x1 1, TV.cell x1 2, TV.cell x1 3, TV.cell x1 4]] fun v0 =>
  Prg.chk (fitsAt zBool [v0] 0) (
  Prg.tv (pun UnOp.not v0) fun v1 =>
  Prg.ite (asBool v1) (
    Prg.jmp [1, 0, 1] (f10_0_S x2 x3 (TV.lit (Value.bool true)) (TV.cell x0 0) (TV.cell x1 0) (TV.cell x1 1) (TV.cell x1 2) (TV.cell x1 3) (TV.cell x1 4))) (
    Prg.tvs (pidx 3 (TV.cell x0 0) (TV.cell x1 0)) fun e2 =>
    Prg.chk (Nat.ble 3 (List.length e2)) (
    Prg.call 24 [TV.agg [nth TV.hole e2 0, nth TV.hole e2 1, nth TV.hole e2 2], x2] fun v3 =>
    Prg.chk (fitsAt zBool [v3] 0) (
    Prg.tv (pun UnOp.not v3) fun v4 =>
    Prg.jmp [1, 0, 1] (f10_0_S x2 x3 v4 (TV.cell x0 0) (TV.cell x1 0) (TV.cell x1 1) (TV.cell x1 2) (TV.cell x1 3) (TV.cell x1 4))))))))
-- [1, 0, 1]
def f10_0  (x0 x1 x2 y3 y4 y5 y6 y7 y8 : TV) : Prg TV :=
  Prg.ite (asBool x2) (
    Prg.call 25 [TV.agg [y4, y5, y6, y7, y8]] fun v5 =>
    Prg.chk (Bool.and (TV.isAgg v5 5) (fitsAt z27 (TV.cellsL true v5) 0)) (
    Prg.chk (isOwnL [TV.agg [TV.cell v5 0, TV.cell v5 1, TV.cell v5 2, TV.cell v5 3, TV.cell v5 4], TV.lit (Value.int IntKind.i64 (1 : Int))]) (
    Prg.ret (TV.tup [TV.agg [TV.cell v5 0, TV.cell v5 1, TV.cell v5 2, TV.cell v5 3, TV.cell v5 4], TV.lit (Value.int IntKind.i64 (1 : Int))])))) (
    Prg.call 21 [TV.agg [y4, y5, y6, y7, y8], x0] fun v6 =>
    Prg.chk (Bool.and (TV.isAgg v6 5) (fitsAt z27 (TV.cellsL true v6) 0)) (
    Prg.tvs (pidx 3 y3 (TV.cell v6 0)) fun e7 =>
    Prg.chk (Nat.blt 2 (List.length e7)) (
    Prg.tvs (pidx 14 (nth TV.hole e7 2) x0) fun e8 =>
    Prg.chk (Nat.blt 1 (List.length e8)) (
    Prg.nat (slLen (TV.cell v6 3)) fun n9 =>
    Prg.nat (asNat (nth TV.hole e8 1)) fun n10 =>
    Prg.chk (Bool.and (slSize (TV.cell v6 3) 1) (Nat.blt n10 n9)) (
    Prg.chk (TV.isOne x1) (
    Prg.tvs (pel (TV.cell v6 3) n10) fun e11 =>
    Prg.chk (fitsAt zWord e11 0) (
    Prg.tv (setC [] (TV.cell v6 3) n10 0 [x1]) fun v12 =>
    Prg.chk (TV.isOne x1) (
    Prg.chk (isOwnL [TV.agg [TV.cell v6 0, TV.cell v6 1, TV.cell v6 2, v12, x1], TV.lit (Value.int IntKind.i64 (0 : Int))]) (
    Prg.ret (TV.tup [TV.agg [TV.cell v6 0, TV.cell v6 1, TV.cell v6 2, v12, x1], TV.lit (Value.int IntKind.i64 (0 : Int))]))))))))))
theorem f10_MR (x0 x1 x2 x3 : TV) : startQ prog 10 [x0, x1, x2, x3] = f10_M x0 x1 x2 x3 := by kernel_rfl
theorem f10_0_R  (x0 x1 x2 y3 y4 y5 y6 y7 y8 : TV) : pieceQ prog 10 [1, 0, 1] (f10_0_S x0 x1 x2 y3 y4 y5 y6 y7 y8) = f10_0 x0 x1 x2 y3 y4 y5 y6 y7 y8 := by kernel_rfl

theorem f10_run {x0 x1 x2 x3 : TV} {r : TV} (h : Goes prog 10 (f10_M x0 x1 x2 x3) r) : Runs prog 10 [x0, x1, x2, x3] r := Runs.of (f10_MR x0 x1 x2 x3) h
theorem f10_0_J  {x0 x1 x2 y3 y4 y5 y6 y7 y8 : TV} {r : TV} (h : Goes prog 10 (f10_0 x0 x1 x2 y3 y4 y5 y6 y7 y8) r) : Goes prog 10 (.jmp [1, 0, 1] (f10_0_S x0 x1 x2 y3 y4 y5 y6 y7 y8)) r := Goes.jmp (f10_0_R x0 x1 x2 y3 y4 y5 y6 y7 y8) h
def f11_0_S  (x0 y1 : TV) : ASt := ⟨[AV.one CA.junk, AV.one (CA.ptr 0 0), AV.one CA.junk, AV.tv x0] ++ List.replicate 33 (AV.one CA.junk), [Option.some (BC.cells [CA.t y1])] ++ List.replicate 60 (Option.none), []⟩
def f11_M (x0 : TV) : Prg TV :=
  Prg.chk (TV.isAgg x0 1) (
  Prg.tv (plen (Kd.slice 54) (TV.cell x0 0)) fun v0 =>
  Prg.tv (pbin (Kd.int IntKind.i64) BinOp.eql v0 (TV.lit (Value.int IntKind.i64 (0 : Int)))) fun v1 =>
  Prg.ite (asBool v1) (
    Prg.ret (TV.lit (Value.bool false))) (
    Prg.tv (plen (Kd.slice 54) (TV.cell x0 0)) fun v2 =>
    Prg.tv (pbin (Kd.int IntKind.i64) BinOp.gtr v2 (TV.lit (Value.int IntKind.i64 (16 : Int)))) fun v3 =>
    Prg.ite (asBool v3) (
      Prg.ret (TV.lit (Value.bool false))) (
      Prg.tvs (pidx 3 (TV.cell x0 0) (TV.lit (Value.int IntKind.i64 (0 : Int)))) fun e4 =>
      Prg.chk (Nat.blt 0 (List.length e4)) (
      Prg.tv (pbin (Kd.int IntKind.i64) BinOp.neq (nth TV.hole e4 0) (TV.lit (Value.int IntKind.i64 (0 : Int)))) fun v5 =>
      Prg.ite (asBool v5) (
        Prg.ret (TV.lit (Value.bool false))) (
        Prg.jmp [0, 0, 1, 0, 1, 1] (f11_0_S (TV.lit (Value.int IntKind.i64 (0 : Int))) (TV.cell x0 0)))))))
-- [0, 0, 1, 0, 1, 1]
def f11_0  (x0 y1 : TV) : Prg TV :=
  Prg.tv (plen (Kd.slice 54) y1) fun v6 =>
  Prg.tv (pbin (Kd.int IntKind.i64) BinOp.lss x0 v6) fun v7 =>
  Prg.ite (asBool v7) (
    Prg.tvs (pidx 3 y1 x0) fun e8 =>
    Prg.chk (Nat.ble 3 (List.length e8)) (
    Prg.call 26 [TV.agg [y1], TV.agg [nth TV.hole e8 0, nth TV.hole e8 1, nth TV.hole e8 2]] fun v9 =>
    Prg.chk (fitsAt zBool [v9] 0) (
    Prg.tv (pun UnOp.not v9) fun v10 =>
    Prg.ite (asBool v10) (
      Prg.ret (TV.lit (Value.bool false))) (
      Prg.tv (pbin (Kd.int IntKind.i64) BinOp.add x0 (TV.lit (Value.int IntKind.i64 (1 : Int)))) fun v11 =>
      Prg.jmp [0, 0, 1, 0, 1, 1] (f11_0_S v11 y1))))) (
    Prg.ret (TV.lit (Value.bool true)))
theorem f11_MR (x0 : TV) : startQ prog 11 [x0] = f11_M x0 := by kernel_rfl
theorem f11_0_R  (x0 y1 : TV) : pieceQ prog 11 [0, 0, 1, 0, 1, 1] (f11_0_S x0 y1) = f11_0 x0 y1 := by kernel_rfl

theorem f11_run {x0 : TV} {r : TV} (h : Goes prog 11 (f11_M x0) r) : Runs prog 11 [x0] r := Runs.of (f11_MR x0) h
theorem f11_0_J  {x0 y1 : TV} {r : TV} (h : Goes prog 11 (f11_0 x0 y1) r) : Goes prog 11 (.jmp [0, 0, 1, 0, 1, 1] (f11_0_S x0 y1)) r := Goes.jmp (f11_0_R x0 y1) h
def f12_0_S  (x0 y1 y2 y3 y4 y5 y6 y7 y8 y9 y10 : TV) : ASt := ⟨[AV.one CA.junk, AV.one CA.junk, AV.one (CA.ptr 0 0), AV.one (CA.ptr 1 0), AV.one CA.junk, AV.tv x0] ++ List.replicate 53 (AV.one CA.junk), [Option.some (BC.cells [CA.t y1, CA.t y2, CA.t y3, CA.t y4, CA.t y5]), Option.some (BC.cells [CA.t y6, CA.t y7, CA.t y8, CA.t y9, CA.t y10])] ++ List.replicate 81 (Option.none), []⟩
def f12_M (x0 x1 : TV) : Prg TV :=
  Prg.chk (TV.isAgg x0 5) (
  Prg.chk (TV.isAgg x1 5) (
  Prg.tv (pbin (Kd.int IntKind.i64) BinOp.neq (TV.cell x0 0) (TV.cell x1 0)) fun v0 =>
  Prg.ite (asBool v0) (
    Prg.ret (TV.lit (Value.bool false))) (
    Prg.tv (pbin (Kd.int IntKind.i64) BinOp.neq (TV.cell x0 1) (TV.cell x1 1)) fun v1 =>
    Prg.ite (asBool v1) (
      Prg.ret (TV.lit (Value.bool false))) (
      Prg.tv (pbin (Kd.int IntKind.i64) BinOp.neq (TV.cell x0 2) (TV.cell x1 2)) fun v2 =>
      Prg.ite (asBool v2) (
        Prg.ret (TV.lit (Value.bool false))) (
        Prg.tv (pbin (Kd.int IntKind.u16) BinOp.neq (TV.cell x0 4) (TV.cell x1 4)) fun v3 =>
        Prg.ite (asBool v3) (
          Prg.ret (TV.lit (Value.bool false))) (
          Prg.tv (plen (Kd.slice 26) (TV.cell x0 3)) fun v4 =>
          Prg.tv (plen (Kd.slice 26) (TV.cell x1 3)) fun v5 =>
          Prg.tv (pbin (Kd.int IntKind.i64) BinOp.neq v4 v5) fun v6 =>
          Prg.ite (asBool v6) (
            Prg.ret (TV.lit (Value.bool false))) (
            Prg.jmp [0, 0, 1, 0, 1, 1] (f12_0_S (TV.lit (Value.int IntKind.i64 (0 : Int))) (TV.cell x0 0) (TV.cell x0 1) (TV.cell x0 2) (TV.cell x0 3) (TV.cell x0 4) (TV.cell x1 0) (TV.cell x1 1) (TV.cell x1 2) (TV.cell x1 3) (TV.cell x1 4)))))))))
-- [0, 0, 1, 0, 1, 1]
def f12_0  (x0 y1 y2 y3 y4 y5 y6 y7 y8 y9 y10 : TV) : Prg TV :=
  Prg.tv (plen (Kd.slice 26) y4) fun v7 =>
  Prg.tv (pbin (Kd.int IntKind.i64) BinOp.lss x0 v7) fun v8 =>
  Prg.ite (asBool v8) (
    Prg.tvs (pidx 1 y4 x0) fun e9 =>
    Prg.chk (Nat.blt 0 (List.length e9)) (
    Prg.tvs (pidx 1 y9 x0) fun e10 =>
    Prg.chk (Nat.blt 0 (List.length e10)) (
    Prg.tv (pbin (Kd.int IntKind.u16) BinOp.neq (nth TV.hole e9 0) (nth TV.hole e10 0)) fun v11 =>
    Prg.ite (asBool v11) (
      Prg.ret (TV.lit (Value.bool false))) (
      Prg.tv (pbin (Kd.int IntKind.i64) BinOp.add x0 (TV.lit (Value.int IntKind.i64 (1 : Int)))) fun v12 =>
      Prg.jmp [0, 0, 1, 0, 1, 1] (f12_0_S v12 y1 y2 y3 y4 y5 y6 y7 y8 y9 y10))))) (
    Prg.ret (TV.lit (Value.bool true)))
theorem f12_MR (x0 x1 : TV) : startQ prog 12 [x0, x1] = f12_M x0 x1 := by kernel_rfl
theorem f12_0_R  (x0 y1 y2 y3 y4 y5 y6 y7 y8 y9 y10 : TV) : pieceQ prog 12 [0, 0, 1, 0, 1, 1] (f12_0_S x0 y1 y2 y3 y4 y5 y6 y7 y8 y9 y10) = f12_0 x0 y1 y2 y3 y4 y5 y6 y7 y8 y9 y10 := by kernel_rfl

theorem f12_run {x0 x1 : TV} {r : TV} (h : Goes prog 12 (f12_M x0 x1) r) : Runs prog 12 [x0, x1] r := Runs.of (f12_MR x0 x1) h
theorem f12_0_J  {x0 y1 y2 y3 y4 y5 y6 y7 y8 y9 y10 : TV} {r : TV} (h : Goes prog 12 (f12_0 x0 y1 y2 y3 y4 y5 y6 y7 y8 y9 y10) r) : Goes prog 12 (.jmp [0, 0, 1, 0, 1, 1] (f12_0_S x0 y1 y2 y3 y4 y5 y6 y7 y8 y9 y10)) r := Goes.jmp (f12_0_R x0 y1 y2 y3 y4 y5 y6 y7 y8 y9 y10) h
def f13_M (x0 x1 : TV) : Prg TV :=
  Prg.chk (TV.isAgg x0 1) (
  Prg.chk (TV.isAgg x1 5) (
  Prg.call 22 [TV.agg [TV.cell x0 0]] fun v0 =>
  Prg.chk (fitsAt zBool [v0] 0) (
  Prg.tv (pun UnOp.not v0) fun v1 =>
  Prg.ite (asBool v1) (
    Prg.ret (TV.lit (Value.bool false))) (
    Prg.tv (plen (Kd.slice 54) (TV.cell x0 0)) fun v2 =>
    Prg.call 23 [v2, TV.cell x1 0] fun v3 =>
    Prg.chk (fitsAt zBool [v3] 0) (
    Prg.tv (pun UnOp.not v3) fun v4 =>
    Prg.ite (asBool v4) (
      Prg.ret (TV.lit (Value.bool false))) (
      Prg.tvs (pidx 3 (TV.cell x0 0) (TV.cell x1 0)) fun e5 =>
      Prg.chk (Nat.ble 3 (List.length e5)) (
      Prg.tv (plen (Kd.slice 26) (TV.cell x1 3)) fun v6 =>
      Prg.tv (pbin (Kd.int IntKind.i64) BinOp.neq v6 (nth TV.hole e5 1)) fun v7 =>
      Prg.ite (asBool v7) (
        Prg.ret (TV.lit (Value.bool false))) (
        Prg.tv (plen (Kd.slice 59) (nth TV.hole e5 2)) fun v8 =>
        Prg.call 23 [v8, TV.cell x1 1] fun v9 =>
        Prg.chk (fitsAt zBool [v9] 0) (
        Prg.tv (pun UnOp.not v9) fun v10 =>
        Prg.ite (asBool v10) (
          Prg.ret (TV.lit (Value.bool false))) (
          Prg.tv (pbin (Kd.int IntKind.i64) BinOp.leq (TV.lit (Value.int IntKind.i64 (0 : Int))) (TV.cell x1 2)) fun v11 =>
          Prg.ite (asBool v11) (
            Prg.tvs (pidx 14 (nth TV.hole e5 2) (TV.cell x1 1)) fun e12 =>
            Prg.chk (Nat.blt 5 (List.length e12)) (
            Prg.tv (plen (Kd.slice 43) (nth TV.hole e12 5)) fun v13 =>
            Prg.tv (pbin (Kd.int IntKind.i64) BinOp.leq (TV.cell x1 2) v13) fun v14 =>
            Prg.ret v14)) (
            Prg.ret (TV.lit (Value.bool false)))))))))))))
theorem f13_MR (x0 x1 : TV) : startQ prog 13 [x0, x1] = f13_M x0 x1 := by kernel_rfl

theorem f13_run {x0 x1 : TV} {r : TV} (h : Goes prog 13 (f13_M x0 x1) r) : Runs prog 13 [x0, x1] r := Runs.of (f13_MR x0 x1) h
def f14_0_S  (x0 x1 x2 y3 y4 y5 y6 y7 w8 : TV) : ASt := ⟨[AV.one CA.junk, AV.tv x0, AV.tv x1, AV.one (CA.ptr 0 0), AV.one CA.junk, AV.one CA.junk, AV.one (CA.ptr 1 0), AV.one CA.junk, AV.one (CA.ptr 2 0), AV.tv x2] ++ List.replicate 52 (AV.one CA.junk), [Option.some (BC.cells [CA.t y3]), Option.some (BC.cells [CA.junk, CA.junk, CA.junk, CA.junk, CA.junk]), Option.some (BC.cells [CA.t y4, CA.t y5, CA.t y6, CA.sref 3 0 [], CA.t y7]), Option.some (BC.tree [w8])] ++ List.replicate 82 (Option.none), []⟩
def f14_M (x0 x1 x2 : TV) : Prg TV :=
  Prg.chk (TV.isAgg x0 1) (
  Prg.tv (pbin (Kd.int IntKind.i64) BinOp.lss x1 (TV.lit (Value.int IntKind.i64 (0 : Int)))) fun v0 =>
  Prg.ite (asBool v0) (
    Prg.chk true (
    Prg.ret (TV.tup [TV.agg [TV.lit (Value.int IntKind.i64 (0 : Int)), TV.lit (Value.int IntKind.i64 (0 : Int)), TV.lit (Value.int IntKind.i64 (0 : Int)), TV.lit (Value.slice Option.none 0 0), TV.lit (Value.int IntKind.u16 (0 : Int))], TV.lit (Value.int IntKind.i64 (1 : Int))]))) (
    Prg.tv (plen (Kd.slice 54) (TV.cell x0 0)) fun v1 =>
    Prg.tv (pbin (Kd.int IntKind.i64) BinOp.geq x1 v1) fun v2 =>
    Prg.ite (asBool v2) (
      Prg.chk true (
      Prg.ret (TV.tup [TV.agg [TV.lit (Value.int IntKind.i64 (0 : Int)), TV.lit (Value.int IntKind.i64 (0 : Int)), TV.lit (Value.int IntKind.i64 (0 : Int)), TV.lit (Value.slice Option.none 0 0), TV.lit (Value.int IntKind.u16 (0 : Int))], TV.lit (Value.int IntKind.i64 (1 : Int))]))) (
      Prg.tv (plen (Kd.slice 26) x2) fun v3 =>
      Prg.tvs (pidx 3 (TV.cell x0 0) x1) fun e4 =>
      Prg.chk (Nat.blt 0 (List.length e4)) (
      Prg.tv (pbin (Kd.int IntKind.i64) BinOp.neq v3 (nth TV.hole e4 0)) fun v5 =>
      Prg.ite (asBool v5) (
        Prg.chk true (
        Prg.ret (TV.tup [TV.agg [TV.lit (Value.int IntKind.i64 (0 : Int)), TV.lit (Value.int IntKind.i64 (0 : Int)), TV.lit (Value.int IntKind.i64 (0 : Int)), TV.lit (Value.slice Option.none 0 0), TV.lit (Value.int IntKind.u16 (0 : Int))], TV.lit (Value.int IntKind.i64 (1 : Int))]))) (
        Prg.chk (TV.isOne x1) (
        Prg.chk true (
        Prg.jmp [0, 0, 1, 0, 1, 1, 1] (f14_0_S x1 x2 (TV.lit (Value.int IntKind.i64 (0 : Int))) (TV.cell x0 0) x1 (TV.lit (Value.int IntKind.i64 (0 : Int))) (TV.lit (Value.int IntKind.i64 (0 : Int))) (TV.lit (Value.int IntKind.u16 (0 : Int))) (TV.lit (Value.slice Option.none 0 0))))))))))
-- [0, 0, 1, 0, 1, 1, 1]
def f14_0  (x0 x1 x2 y3 y4 y5 y6 y7 w8 : TV) : Prg TV :=
  Prg.tvs (pidx 3 y3 x0) fun e6 =>
  Prg.chk (Nat.blt 1 (List.length e6)) (
  Prg.tv (pbin (Kd.int IntKind.i64) BinOp.lss x2 (nth TV.hole e6 1)) fun v7 =>
  Prg.ite (asBool v7) (
    Prg.tv (plen (Kd.slice 26) x1) fun v8 =>
    Prg.tv (pbin (Kd.int IntKind.i64) BinOp.lss x2 v8) fun v9 =>
    Prg.ite (asBool v9) (
      Prg.tvs (pidx 1 x1 x2) fun e10 =>
      Prg.chk (Nat.blt 0 (List.length e10)) (
      Prg.rws (pelems 1 (TV.sl true 1 (chunks 1 1 [nth TV.hole e10 0]))) fun r11 =>
      Prg.tv (papp 1 w8 (lfLL r11)) fun v12 =>
      Prg.tv (pbin (Kd.int IntKind.i64) BinOp.add x2 (TV.lit (Value.int IntKind.i64 (1 : Int)))) fun v13 =>
      Prg.jmp [0, 0, 1, 0, 1, 1, 1] (f14_0_S x0 x1 v13 y3 y4 y5 y6 y7 v12))) (
      Prg.rws (pelems 1 (TV.sl true 1 (chunks 1 1 [TV.lit (Value.int IntKind.u16 (0 : Int))]))) fun r14 =>
      Prg.tv (papp 1 w8 (lfLL r14)) fun v15 =>
      Prg.tv (pbin (Kd.int IntKind.i64) BinOp.add x2 (TV.lit (Value.int IntKind.i64 (1 : Int)))) fun v16 =>
      Prg.jmp [0, 0, 1, 0, 1, 1, 1] (f14_0_S x0 x1 v16 y3 y4 y5 y6 y7 v15))) (
    Prg.chk (isOwnL [TV.agg [y4, y5, y6, w8, y7], TV.lit (Value.int IntKind.i64 (0 : Int))]) (
    Prg.ret (TV.tup [TV.agg [y4, y5, y6, w8, y7], TV.lit (Value.int IntKind.i64 (0 : Int))]))))
theorem f14_MR (x0 x1 x2 : TV) : startQ prog 14 [x0, x1, x2] = f14_M x0 x1 x2 := by kernel_rfl
theorem f14_0_R  (x0 x1 x2 y3 y4 y5 y6 y7 w8 : TV) : pieceQ prog 14 [0, 0, 1, 0, 1, 1, 1] (f14_0_S x0 x1 x2 y3 y4 y5 y6 y7 w8) = f14_0 x0 x1 x2 y3 y4 y5 y6 y7 w8 := by kernel_rfl

theorem f14_run {x0 x1 x2 : TV} {r : TV} (h : Goes prog 14 (f14_M x0 x1 x2) r) : Runs prog 14 [x0, x1, x2] r := Runs.of (f14_MR x0 x1 x2) h
theorem f14_0_J  {x0 x1 x2 y3 y4 y5 y6 y7 w8 : TV} {r : TV} (h : Goes prog 14 (f14_0 x0 x1 x2 y3 y4 y5 y6 y7 w8) r) : Goes prog 14 (.jmp [0, 0, 1, 0, 1, 1, 1] (f14_0_S x0 x1 x2 y3 y4 y5 y6 y7 w8)) r := Goes.jmp (f14_0_R x0 x1 x2 y3 y4 y5 y6 y7 w8) h
def f15_M (x0 x1 : TV) : Prg TV :=
  Prg.chk (TV.isAgg x0 1) (
  Prg.chk (TV.isAgg x1 5) (
  Prg.tv (pbin (Kd.int IntKind.i64) BinOp.lss (TV.cell x1 0) (TV.lit (Value.int IntKind.i64 (0 : Int)))) fun v0 =>
  Prg.ite (asBool v0) (
    Prg.ret (TV.lit (Value.bool false))) (
    Prg.tv (plen (Kd.slice 54) (TV.cell x0 0)) fun v1 =>
    Prg.tv (pbin (Kd.int IntKind.i64) BinOp.geq (TV.cell x1 0) v1) fun v2 =>
    Prg.ite (asBool v2) (
      Prg.ret (TV.lit (Value.bool false))) (
      Prg.tvs (pidx 3 (TV.cell x0 0) (TV.cell x1 0)) fun e3 =>
      Prg.chk (Nat.ble 3 (List.length e3)) (
      Prg.tv (plen (Kd.slice 26) (TV.cell x1 3)) fun v4 =>
      Prg.tv (pbin (Kd.int IntKind.i64) BinOp.eql v4 (nth TV.hole e3 1)) fun v5 =>
      Prg.ite (asBool v5) (
        Prg.tv (pbin (Kd.int IntKind.i64) BinOp.geq (TV.cell x1 1) (TV.lit (Value.int IntKind.i64 (0 : Int)))) fun v6 =>
        Prg.ite (asBool v6) (
          Prg.tv (plen (Kd.slice 59) (nth TV.hole e3 2)) fun v7 =>
          Prg.tv (pbin (Kd.int IntKind.i64) BinOp.lss (TV.cell x1 1) v7) fun v8 =>
          Prg.ite (asBool v8) (
            Prg.tv (pbin (Kd.int IntKind.i64) BinOp.geq (TV.cell x1 2) (TV.lit (Value.int IntKind.i64 (0 : Int)))) fun v9 =>
            Prg.ite (asBool v9) (
              Prg.tvs (pidx 14 (nth TV.hole e3 2) (TV.cell x1 1)) fun e10 =>
              Prg.chk (Nat.blt 5 (List.length e10)) (
              Prg.tv (plen (Kd.slice 43) (nth TV.hole e10 5)) fun v11 =>
              Prg.tv (pbin (Kd.int IntKind.i64) BinOp.leq (TV.cell x1 2) v11) fun v12 =>
              Prg.ret v12)) (
              Prg.ret (TV.lit (Value.bool false)))) (
            Prg.ret (TV.lit (Value.bool false)))) (
          Prg.ret (TV.lit (Value.bool false)))) (
        Prg.ret (TV.lit (Value.bool false))))))))
theorem f15_MR (x0 x1 : TV) : startQ prog 15 [x0, x1] = f15_M x0 x1 := by kernel_rfl

theorem f15_run {x0 x1 : TV} {r : TV} (h : Goes prog 15 (f15_M x0 x1) r) : Runs prog 15 [x0, x1] r := Runs.of (f15_MR x0 x1) h
def f16_M (x0 x1 x2 x3 : TV) : Prg TV :=
  Prg.chk (TV.isAgg x0 1) (
  Prg.chk (TV.isAgg x1 5) (
  Prg.tvs (pidx 3 (TV.cell x0 0) (TV.cell x1 0)) fun e0 =>
  Prg.chk (Nat.ble 3 (List.length e0)) (
  Prg.tv (pbin (Kd.int IntKind.i64) BinOp.lss x2 (TV.lit (Value.int IntKind.i64 (0 : Int)))) fun v1 =>
  Prg.ite (asBool v1) (
    Prg.ret (TV.tup [TV.agg [TV.cell x1 0, TV.cell x1 1, TV.cell x1 2, TV.cell x1 3, TV.cell x1 4], TV.lit (Value.int IntKind.i64 (1 : Int))])) (
    Prg.tv (plen (Kd.slice 59) (nth TV.hole e0 2)) fun v2 =>
    Prg.tv (pbin (Kd.int IntKind.i64) BinOp.geq x2 v2) fun v3 =>
    Prg.ite (asBool v3) (
      Prg.ret (TV.tup [TV.agg [TV.cell x1 0, TV.cell x1 1, TV.cell x1 2, TV.cell x1 3, TV.cell x1 4], TV.lit (Value.int IntKind.i64 (1 : Int))])) (
      Prg.tvs (pidx 14 (nth TV.hole e0 2) x2) fun e4 =>
      Prg.chk (Nat.blt 0 (List.length e4)) (
      Prg.tv (pun UnOp.not (nth TV.hole e4 0)) fun v5 =>
      Prg.ite (asBool v5) (
        Prg.ret (TV.tup [TV.agg [TV.cell x1 0, TV.cell x1 1, TV.cell x1 2, TV.cell x1 3, TV.cell x1 4], TV.lit (Value.int IntKind.i64 (1 : Int))])) (
        Prg.chk (TV.isOne x2) (
        Prg.chk (TV.isOne x3) (
        Prg.tvs (pidx 14 (nth TV.hole e0 2) x2) fun e6 =>
        Prg.chk (Nat.blt 1 (List.length e6)) (
        Prg.call 27 [TV.agg [TV.cell x1 0, x2, TV.lit (Value.int IntKind.i64 (0 : Int)), TV.cell x1 3, x3], nth TV.hole e6 1, x3] fun v7 =>
        Prg.chk (Bool.and (TV.isAgg v7 5) (fitsAt z27 (TV.cellsL true v7) 0)) (
        Prg.ret (TV.tup [TV.agg [TV.cell v7 0, TV.cell v7 1, TV.cell v7 2, TV.cell v7 3, TV.cell v7 4], TV.lit (Value.int IntKind.i64 (0 : Int))]))))))))))))
theorem f16_MR (x0 x1 x2 x3 : TV) : startQ prog 16 [x0, x1, x2, x3] = f16_M x0 x1 x2 x3 := by kernel_rfl

theorem f16_run {x0 x1 x2 x3 : TV} {r : TV} (h : Goes prog 16 (f16_M x0 x1 x2 x3) r) : Runs prog 16 [x0, x1, x2, x3] r := Runs.of (f16_MR x0 x1 x2 x3) h
def f17_M (x0 x1 : TV) : Prg TV :=
  Prg.chk (TV.isAgg x0 5) (
  Prg.chk (TV.isAgg x1 7) (
  Prg.call 25 [TV.agg [TV.cell x0 0, TV.cell x0 1, TV.cell x0 2, TV.cell x0 3, TV.cell x0 4]] fun v0 =>
  Prg.chk (Bool.and (TV.isAgg v0 5) (fitsAt z27 (TV.cellsL true v0) 0)) (
  Prg.call 28 [frz (TV.cell v0 3), TV.agg [TV.cell x1 0, TV.cell x1 1, TV.cell x1 2, TV.cell x1 3, TV.cell x1 4, TV.cell x1 5, TV.cell x1 6]] fun v1 =>
  Prg.chk (TV.isTup v1 2) (
  Prg.chk (fitsAt zWord [TV.comp v1 0] 0) (
  Prg.chk (fitsAt zBool [TV.comp v1 1] 0) (
  Prg.tv (pun UnOp.not (TV.comp v1 1)) fun v2 =>
  Prg.ite (asBool v2) (
    Prg.chk (isOwnL [TV.agg [TV.cell v0 0, TV.cell v0 1, TV.cell v0 2, TV.cell v0 3, TV.cell v0 4], TV.lit (Value.bool false)]) (
    Prg.ret (TV.tup [TV.agg [TV.cell v0 0, TV.cell v0 1, TV.cell v0 2, TV.cell v0 3, TV.cell v0 4], TV.lit (Value.bool false)]))) (
    Prg.tv (plen (Kd.slice 26) (TV.cell v0 3)) fun v3 =>
    Prg.call 23 [v3, TV.cell x1 1] fun v4 =>
    Prg.chk (fitsAt zBool [v4] 0) (
    Prg.tv (pun UnOp.not v4) fun v5 =>
    Prg.ite (asBool v5) (
      Prg.chk (isOwnL [TV.agg [TV.cell v0 0, TV.cell v0 1, TV.cell v0 2, TV.cell v0 3, TV.cell v0 4], TV.lit (Value.bool false)]) (
      Prg.ret (TV.tup [TV.agg [TV.cell v0 0, TV.cell v0 1, TV.cell v0 2, TV.cell v0 3, TV.cell v0 4], TV.lit (Value.bool false)]))) (
      Prg.nat (slLen (TV.cell v0 3)) fun n6 =>
      Prg.nat (asNat (TV.cell x1 1)) fun n7 =>
      Prg.chk (Bool.and (slSize (TV.cell v0 3) 1) (Nat.blt n7 n6)) (
      Prg.tvs (pel (TV.cell v0 3) n7) fun e8 =>
      Prg.chk (fitsAt zWord e8 0) (
      Prg.tv (setC [] (TV.cell v0 3) n7 0 [TV.comp v1 0]) fun v9 =>
      Prg.tv (pbin (Kd.int IntKind.i64) BinOp.add (TV.cell v0 2) (TV.lit (Value.int IntKind.i64 (1 : Int)))) fun v10 =>
      Prg.chk (isOwnL [TV.agg [TV.cell v0 0, TV.cell v0 1, v10, v9, TV.cell v0 4], TV.lit (Value.bool true)]) (
      Prg.ret (TV.tup [TV.agg [TV.cell v0 0, TV.cell v0 1, v10, v9, TV.cell v0 4], TV.lit (Value.bool true)])))))))))))))
theorem f17_MR (x0 x1 : TV) : startQ prog 17 [x0, x1] = f17_M x0 x1 := by kernel_rfl

theorem f17_run {x0 x1 : TV} {r : TV} (h : Goes prog 17 (f17_M x0 x1) r) : Runs prog 17 [x0, x1] r := Runs.of (f17_MR x0 x1) h
def f18_0_S  (x0 x1 y2 y3 y4 y5 y6 y7 y8 y9 y10 y11 y12 y13 : TV) : ASt := ⟨[AV.one CA.junk, AV.one CA.junk, AV.one (CA.ptr 0 0), AV.one (CA.ptr 1 0), AV.one (CA.ptr 2 0), AV.one CA.junk, AV.one CA.junk, AV.tv x0] ++ List.replicate 43 (AV.one CA.junk) ++ [AV.tv x1] ++ List.replicate 33 (AV.one CA.junk), [Option.some (BC.cells [CA.t y2, CA.t y3, CA.t y4, CA.t y5, CA.t y6]), Option.some (BC.cells [CA.t y7, CA.t y8, CA.t y9, CA.t y10, CA.t y11, CA.t y12, CA.t y13]), Option.some (BC.cells [CA.junk, CA.junk, CA.junk, CA.junk, CA.junk])] ++ List.replicate 106 (Option.none), []⟩
def f18_1_S  (x0 y1 y2 y3 y4 y5 y6 y7 y8 y9 y10 y11 y12 : TV) : ASt := ⟨[AV.one CA.junk, AV.one CA.junk, AV.one (CA.ptr 0 0), AV.one (CA.ptr 1 0), AV.one (CA.ptr 2 0), AV.one CA.junk, AV.tv x0] ++ List.replicate 78 (AV.one CA.junk), [Option.some (BC.cells [CA.t y1, CA.t y2, CA.t y3, CA.t y4, CA.t y5]), Option.some (BC.cells [CA.t y6, CA.t y7, CA.t y8, CA.t y9, CA.t y10, CA.t y11, CA.t y12]), Option.some (BC.cells [CA.junk, CA.junk, CA.junk, CA.junk, CA.junk])] ++ List.replicate 106 (Option.none), []⟩
def f18_2_S  (x0 y1 y2 y3 y4 y5 y6 y7 y8 y9 y10 y11 y12 : TV) : ASt := ⟨[AV.one CA.junk, AV.one CA.junk, AV.one (CA.ptr 0 0), AV.one (CA.ptr 1 0), AV.one (CA.ptr 2 0), AV.one CA.junk, AV.one CA.junk, AV.tv x0] ++ List.replicate 77 (AV.one CA.junk), [Option.some (BC.cells [CA.t y1, CA.t y2, CA.t y3, CA.t y4, CA.t y5]), Option.some (BC.cells [CA.t y6, CA.t y7, CA.t y8, CA.t y9, CA.t y10, CA.t y11, CA.t y12]), Option.some (BC.cells [CA.junk, CA.junk, CA.junk, CA.junk, CA.junk])] ++ List.replicate 106 (Option.none), []⟩
def f18_M (x0 x1 : TV) : Prg TV :=
  Prg.chk (TV.isAgg x0 5) (
  Prg.chk (TV.isAgg x1 7) (
  Prg.call 29 [TV.agg [TV.cell x0 0, TV.cell x0 1, TV.cell x0 2, TV.cell x0 3, TV.cell x0 4], TV.cell x1 1] fun v0 =>
  Prg.chk (fitsAt zBool [v0] 0) (
  Prg.tv (pun UnOp.not v0) fun v1 =>
  Prg.ite (asBool v1) (
    Prg.ret (TV.tup [TV.agg [TV.cell x0 0, TV.cell x0 1, TV.cell x0 2, TV.cell x0 3, TV.cell x0 4], TV.lit (Value.bool false)])) (
    Prg.tv (pbin (Kd.int IntKind.i64) BinOp.lss (TV.cell x1 0) (TV.lit (Value.int IntKind.i64 (1 : Int)))) fun v2 =>
    Prg.ite (asBool v2) (
      Prg.ret (TV.tup [TV.agg [TV.cell x0 0, TV.cell x0 1, TV.cell x0 2, TV.cell x0 3, TV.cell x0 4], TV.lit (Value.bool false)])) (
      Prg.tv (pbin (Kd.int IntKind.i64) BinOp.gtr (TV.cell x1 0) (TV.lit (Value.int IntKind.i64 (8 : Int)))) fun v3 =>
      Prg.ite (asBool v3) (
        Prg.ret (TV.tup [TV.agg [TV.cell x0 0, TV.cell x0 1, TV.cell x0 2, TV.cell x0 3, TV.cell x0 4], TV.lit (Value.bool false)])) (
        Prg.tv (pbin (Kd.int IntKind.i64) BinOp.gtr (TV.cell x1 0) (TV.lit (Value.int IntKind.i64 (1 : Int)))) fun v4 =>
        Prg.ite (asBool v4) (
          Prg.call 29 [TV.agg [TV.cell x0 0, TV.cell x0 1, TV.cell x0 2, TV.cell x0 3, TV.cell x0 4], TV.cell x1 2] fun v5 =>
          Prg.chk (fitsAt zBool [v5] 0) (
          Prg.tv (pun UnOp.not v5) fun v6 =>
          Prg.ite (asBool v6) (
            Prg.ret (TV.tup [TV.agg [TV.cell x0 0, TV.cell x0 1, TV.cell x0 2, TV.cell x0 3, TV.cell x0 4], TV.lit (Value.bool false)])) (
            Prg.tv (pbin (Kd.int IntKind.i64) BinOp.gtr (TV.cell x1 0) (TV.lit (Value.int IntKind.i64 (2 : Int)))) fun v7 =>
            Prg.ite (asBool v7) (
              Prg.call 29 [TV.agg [TV.cell x0 0, TV.cell x0 1, TV.cell x0 2, TV.cell x0 3, TV.cell x0 4], TV.cell x1 3] fun v8 =>
              Prg.chk (fitsAt zBool [v8] 0) (
              Prg.tv (pun UnOp.not v8) fun v9 =>
              Prg.ite (asBool v9) (
                Prg.ret (TV.tup [TV.agg [TV.cell x0 0, TV.cell x0 1, TV.cell x0 2, TV.cell x0 3, TV.cell x0 4], TV.lit (Value.bool false)])) (
                Prg.tv (pbin (Kd.int IntKind.i64) BinOp.gtr (TV.cell x1 0) (TV.lit (Value.int IntKind.i64 (2 : Int)))) fun v10 =>
                Prg.jmp [1, 0, 1, 1, 0, 1, 0, 1, 1, 1] (f18_0_S (TV.lit (Value.int IntKind.u16 (0 : Int))) v10 (TV.cell x0 0) (TV.cell x0 1) (TV.cell x0 2) (TV.cell x0 3) (TV.cell x0 4) (TV.cell x1 0) (TV.cell x1 1) (TV.cell x1 2) (TV.cell x1 3) (TV.cell x1 4) (TV.cell x1 5) (TV.cell x1 6))))) (
              Prg.tv (pbin (Kd.int IntKind.i64) BinOp.gtr (TV.cell x1 0) (TV.lit (Value.int IntKind.i64 (2 : Int)))) fun v11 =>
              Prg.jmp [1, 0, 1, 1, 0, 1, 0, 1, 1, 1] (f18_0_S (TV.lit (Value.int IntKind.u16 (0 : Int))) v11 (TV.cell x0 0) (TV.cell x0 1) (TV.cell x0 2) (TV.cell x0 3) (TV.cell x0 4) (TV.cell x1 0) (TV.cell x1 1) (TV.cell x1 2) (TV.cell x1 3) (TV.cell x1 4) (TV.cell x1 5) (TV.cell x1 6)))))) (
          Prg.jmp [1, 1, 1, 1] (f18_1_S (TV.cell x1 4) (TV.cell x0 0) (TV.cell x0 1) (TV.cell x0 2) (TV.cell x0 3) (TV.cell x0 4) (TV.cell x1 0) (TV.cell x1 1) (TV.cell x1 2) (TV.cell x1 3) (TV.cell x1 4) (TV.cell x1 5) (TV.cell x1 6)))))))))
-- [1, 0, 1, 1, 0, 1, 0, 1, 1, 1]
def f18_0  (x0 x1 y2 y3 y4 y5 y6 y7 y8 y9 y10 y11 y12 y13 : TV) : Prg TV :=
  Prg.ite (asBool x1) (
    Prg.tvs (pidx 1 y5 y10) fun e12 =>
    Prg.chk (Nat.blt 0 (List.length e12)) (
    Prg.jmp [1, 1, 1, 0, 1, 0, 1, 1, 1] (f18_2_S (nth TV.hole e12 0) y2 y3 y4 y5 y6 y7 y8 y9 y10 y11 y12 y13))) (
    Prg.jmp [1, 1, 1, 0, 1, 0, 1, 1, 1] (f18_2_S x0 y2 y3 y4 y5 y6 y7 y8 y9 y10 y11 y12 y13))
-- [1, 1, 1, 1]
def f18_1  (x0 y1 y2 y3 y4 y5 y6 y7 y8 y9 y10 y11 y12 : TV) : Prg TV :=
  Prg.call 27 [TV.agg [y1, y2, y3, y4, y5], y7, x0] fun v13 =>
  Prg.chk (Bool.and (TV.isAgg v13 5) (fitsAt z27 (TV.cellsL true v13) 0)) (
  Prg.tv (pbin (Kd.int IntKind.i64) BinOp.add (TV.cell v13 2) (TV.lit (Value.int IntKind.i64 (1 : Int)))) fun v14 =>
  Prg.ret (TV.tup [TV.agg [TV.cell v13 0, TV.cell v13 1, v14, TV.cell v13 3, TV.cell v13 4], TV.lit (Value.bool true)]))
-- [1, 1, 1, 0, 1, 0, 1, 1, 1]
def f18_2  (x0 y1 y2 y3 y4 y5 y6 y7 y8 y9 y10 y11 y12 : TV) : Prg TV :=
  Prg.tvs (pidx 1 y4 y8) fun e15 =>
  Prg.chk (Nat.blt 0 (List.length e15)) (
  Prg.call 30 [y6, nth TV.hole e15 0, x0] fun v16 =>
  Prg.chk (TV.isTup v16 2) (
  Prg.chk (fitsAt zWord [TV.comp v16 0] 0) (
  Prg.chk (fitsAt zBool [TV.comp v16 1] 0) (
  Prg.tv (pun UnOp.not (TV.comp v16 1)) fun v17 =>
  Prg.ite (asBool v17) (
    Prg.ret (TV.tup [TV.agg [y1, y2, y3, y4, y5], TV.lit (Value.bool false)])) (
    Prg.jmp [1, 1, 1, 1] (f18_1_S (TV.comp v16 0) y1 y2 y3 y4 y5 y6 y7 y8 y9 y10 y11 y12))))))
theorem f18_MR (x0 x1 : TV) : startQ prog 18 [x0, x1] = f18_M x0 x1 := by kernel_rfl
theorem f18_0_R  (x0 x1 y2 y3 y4 y5 y6 y7 y8 y9 y10 y11 y12 y13 : TV) : pieceQ prog 18 [1, 0, 1, 1, 0, 1, 0, 1, 1, 1] (f18_0_S x0 x1 y2 y3 y4 y5 y6 y7 y8 y9 y10 y11 y12 y13) = f18_0 x0 x1 y2 y3 y4 y5 y6 y7 y8 y9 y10 y11 y12 y13 := by kernel_rfl
theorem f18_1_R  (x0 y1 y2 y3 y4 y5 y6 y7 y8 y9 y10 y11 y12 : TV) : pieceQ prog 18 [1, 1, 1, 1] (f18_1_S x0 y1 y2 y3 y4 y5 y6 y7 y8 y9 y10 y11 y12) = f18_1 x0 y1 y2 y3 y4 y5 y6 y7 y8 y9 y10 y11 y12 := by kernel_rfl
theorem f18_2_R  (x0 y1 y2 y3 y4 y5 y6 y7 y8 y9 y10 y11 y12 : TV) : pieceQ prog 18 [1, 1, 1, 0, 1, 0, 1, 1, 1] (f18_2_S x0 y1 y2 y3 y4 y5 y6 y7 y8 y9 y10 y11 y12) = f18_2 x0 y1 y2 y3 y4 y5 y6 y7 y8 y9 y10 y11 y12 := by kernel_rfl

theorem f18_run {x0 x1 : TV} {r : TV} (h : Goes prog 18 (f18_M x0 x1) r) : Runs prog 18 [x0, x1] r := Runs.of (f18_MR x0 x1) h
theorem f18_0_J  {x0 x1 y2 y3 y4 y5 y6 y7 y8 y9 y10 y11 y12 y13 : TV} {r : TV} (h : Goes prog 18 (f18_0 x0 x1 y2 y3 y4 y5 y6 y7 y8 y9 y10 y11 y12 y13) r) : Goes prog 18 (.jmp [1, 0, 1, 1, 0, 1, 0, 1, 1, 1] (f18_0_S x0 x1 y2 y3 y4 y5 y6 y7 y8 y9 y10 y11 y12 y13)) r := Goes.jmp (f18_0_R x0 x1 y2 y3 y4 y5 y6 y7 y8 y9 y10 y11 y12 y13) h
theorem f18_1_J  {x0 y1 y2 y3 y4 y5 y6 y7 y8 y9 y10 y11 y12 : TV} {r : TV} (h : Goes prog 18 (f18_1 x0 y1 y2 y3 y4 y5 y6 y7 y8 y9 y10 y11 y12) r) : Goes prog 18 (.jmp [1, 1, 1, 1] (f18_1_S x0 y1 y2 y3 y4 y5 y6 y7 y8 y9 y10 y11 y12)) r := Goes.jmp (f18_1_R x0 y1 y2 y3 y4 y5 y6 y7 y8 y9 y10 y11 y12) h
theorem f18_2_J  {x0 y1 y2 y3 y4 y5 y6 y7 y8 y9 y10 y11 y12 : TV} {r : TV} (h : Goes prog 18 (f18_2 x0 y1 y2 y3 y4 y5 y6 y7 y8 y9 y10 y11 y12) r) : Goes prog 18 (.jmp [1, 1, 1, 0, 1, 0, 1, 1, 1] (f18_2_S x0 y1 y2 y3 y4 y5 y6 y7 y8 y9 y10 y11 y12)) r := Goes.jmp (f18_2_R x0 y1 y2 y3 y4 y5 y6 y7 y8 y9 y10 y11 y12) h
def f19_M (x0 x1 : TV) : Prg TV :=
  Prg.chk (TV.isAgg x0 4) (
  Prg.ite (asBool (TV.cell x0 2)) (
    Prg.ret (TV.lit (Value.bool true))) (
    Prg.call 31 [TV.cell x0 1, x1] fun v0 =>
    Prg.chk (fitsAt zBool [v0] 0) (
    Prg.ret v0)))
theorem f19_MR (x0 x1 : TV) : startQ prog 19 [x0, x1] = f19_M x0 x1 := by kernel_rfl

theorem f19_run {x0 x1 : TV} {r : TV} (h : Goes prog 19 (f19_M x0 x1) r) : Runs prog 19 [x0, x1] r := Runs.of (f19_MR x0 x1) h
def f20_0_S  (x0 x1 y2 y3 y4 y5 : TV) : ASt := ⟨[AV.one CA.junk, AV.tv x0, AV.one (CA.ptr 0 0), AV.one CA.junk, AV.one CA.junk, AV.tv x1] ++ List.replicate 16 (AV.one CA.junk), [Option.some (BC.cells [CA.t y2, CA.t y3, CA.t y4, CA.t y5])] ++ List.replicate 45 (Option.none), []⟩
def f20_M (x0 x1 : TV) : Prg TV :=
  Prg.chk (TV.isAgg x0 4) (
  Prg.jmp [0, 0, 1, 0, 1] (f20_0_S x1 (TV.lit (Value.int IntKind.i64 (0 : Int))) (TV.cell x0 0) (TV.cell x0 1) (TV.cell x0 2) (TV.cell x0 3)))
-- [0, 0, 1, 0, 1]
def f20_0  (x0 x1 y2 y3 y4 y5 : TV) : Prg TV :=
  Prg.tv (plen (Kd.slice 26) y3) fun v0 =>
  Prg.tv (pbin (Kd.int IntKind.i64) BinOp.lss x1 v0) fun v1 =>
  Prg.ite (asBool v1) (
    Prg.tvs (pidx 1 y3 x1) fun e2 =>
    Prg.chk (Nat.blt 0 (List.length e2)) (
    Prg.tv (pbin (Kd.int IntKind.u16) BinOp.eql (nth TV.hole e2 0) x0) fun v3 =>
    Prg.ite (asBool v3) (
      Prg.ret (TV.lit (Value.bool true))) (
      Prg.tv (pbin (Kd.int IntKind.i64) BinOp.add x1 (TV.lit (Value.int IntKind.i64 (1 : Int)))) fun v4 =>
      Prg.jmp [0, 0, 1, 0, 1] (f20_0_S x0 v4 y2 y3 y4 y5)))) (
    Prg.ret y4)
theorem f20_MR (x0 x1 : TV) : startQ prog 20 [x0, x1] = f20_M x0 x1 := by kernel_rfl
theorem f20_0_R  (x0 x1 y2 y3 y4 y5 : TV) : pieceQ prog 20 [0, 0, 1, 0, 1] (f20_0_S x0 x1 y2 y3 y4 y5) = f20_0 x0 x1 y2 y3 y4 y5 := by kernel_rfl

theorem f20_run {x0 x1 : TV} {r : TV} (h : Goes prog 20 (f20_M x0 x1) r) : Runs prog 20 [x0, x1] r := Runs.of (f20_MR x0 x1) h
theorem f20_0_J  {x0 x1 y2 y3 y4 y5 : TV} {r : TV} (h : Goes prog 20 (f20_0 x0 x1 y2 y3 y4 y5) r) : Goes prog 20 (.jmp [0, 0, 1, 0, 1] (f20_0_S x0 x1 y2 y3 y4 y5)) r := Goes.jmp (f20_0_R x0 x1 y2 y3 y4 y5) h
def f21_M (x0 x1 : TV) : Prg TV :=
  Prg.chk (TV.isAgg x0 5) (
  Prg.call 25 [TV.agg [TV.cell x0 0, TV.cell x0 1, TV.cell x0 2, TV.cell x0 3, TV.cell x0 4]] fun v0 =>
  Prg.chk (Bool.and (TV.isAgg v0 5) (fitsAt z27 (TV.cellsL true v0) 0)) (
  Prg.chk (TV.isOne x1) (
  Prg.chk (isOwn (TV.agg [TV.cell v0 0, x1, TV.lit (Value.int IntKind.i64 (0 : Int)), TV.cell v0 3, TV.cell v0 4])) (
  Prg.ret (TV.agg [TV.cell v0 0, x1, TV.lit (Value.int IntKind.i64 (0 : Int)), TV.cell v0 3, TV.cell v0 4])))))
theorem f21_MR (x0 x1 : TV) : startQ prog 21 [x0, x1] = f21_M x0 x1 := by kernel_rfl

theorem f21_run {x0 x1 : TV} {r : TV} (h : Goes prog 21 (f21_M x0 x1) r) : Runs prog 21 [x0, x1] r := Runs.of (f21_MR x0 x1) h
def f22_0_S  (x0 x1 x2 y3 : TV) : ASt := ⟨[AV.one CA.junk, AV.one (CA.ptr 0 0)] ++ List.replicate 22 (AV.one CA.junk) ++ [AV.tv x0, AV.tv x1, AV.tv x2] ++ List.replicate 8 (AV.one CA.junk), [Option.some (BC.cells [CA.t y3])] ++ List.replicate 58 (Option.none), []⟩
def f22_M (x0 : TV) : Prg TV :=
  Prg.chk (TV.isAgg x0 1) (
  Prg.tv (plen (Kd.slice 54) (TV.cell x0 0)) fun v0 =>
  Prg.tv (pbin (Kd.int IntKind.i64) BinOp.lss v0 (TV.lit (Value.int IntKind.i64 (1 : Int)))) fun v1 =>
  Prg.ite (asBool v1) (
    Prg.ret (TV.lit (Value.bool false))) (
    Prg.tv (plen (Kd.slice 54) (TV.cell x0 0)) fun v2 =>
    Prg.tv (pbin (Kd.int IntKind.i64) BinOp.gtr v2 (TV.lit (Value.int IntKind.i64 (16 : Int)))) fun v3 =>
    Prg.ite (asBool v3) (
      Prg.ret (TV.lit (Value.bool false))) (
      Prg.tvs (pidx 3 (TV.cell x0 0) (TV.lit (Value.int IntKind.i64 (0 : Int)))) fun e4 =>
      Prg.chk (Nat.blt 0 (List.length e4)) (
      Prg.tv (pbin (Kd.int IntKind.i64) BinOp.neq (nth TV.hole e4 0) (TV.lit (Value.int IntKind.i64 (0 : Int)))) fun v5 =>
      Prg.ite (asBool v5) (
        Prg.ret (TV.lit (Value.bool false))) (
        Prg.tv (plen (Kd.slice 54) (TV.cell x0 0)) fun v6 =>
        Prg.jmp [0, 0, 1, 0, 1, 1] (f22_0_S (TV.cell x0 0) v6 (TV.lit (Value.int IntKind.i64 (0 : Int))) (TV.cell x0 0)))))))
-- [0, 0, 1, 0, 1, 1]
def f22_0  (x0 x1 x2 y3 : TV) : Prg TV :=
  Prg.tv (pbin (Kd.int IntKind.i64) BinOp.lss x2 x1) fun v7 =>
  Prg.ite (asBool v7) (
    Prg.tvs (pidx 3 x0 x2) fun e8 =>
    Prg.chk (Nat.ble 3 (List.length e8)) (
    Prg.call 32 [TV.agg [y3], TV.agg [nth TV.hole e8 0, nth TV.hole e8 1, nth TV.hole e8 2]] fun v9 =>
    Prg.chk (fitsAt zBool [v9] 0) (
    Prg.tv (pun UnOp.not v9) fun v10 =>
    Prg.ite (asBool v10) (
      Prg.ret (TV.lit (Value.bool false))) (
      Prg.tv (pbin (Kd.int IntKind.i64) BinOp.add x2 (TV.lit (Value.int IntKind.i64 (1 : Int)))) fun v11 =>
      Prg.jmp [0, 0, 1, 0, 1, 1] (f22_0_S x0 x1 v11 y3))))) (
    Prg.ret (TV.lit (Value.bool true)))
theorem f22_MR (x0 : TV) : startQ prog 22 [x0] = f22_M x0 := by kernel_rfl
theorem f22_0_R  (x0 x1 x2 y3 : TV) : pieceQ prog 22 [0, 0, 1, 0, 1, 1] (f22_0_S x0 x1 x2 y3) = f22_0 x0 x1 x2 y3 := by kernel_rfl

theorem f22_run {x0 : TV} {r : TV} (h : Goes prog 22 (f22_M x0) r) : Runs prog 22 [x0] r := Runs.of (f22_MR x0) h
theorem f22_0_J  {x0 x1 x2 y3 : TV} {r : TV} (h : Goes prog 22 (f22_0 x0 x1 x2 y3) r) : Goes prog 22 (.jmp [0, 0, 1, 0, 1, 1] (f22_0_S x0 x1 x2 y3)) r := Goes.jmp (f22_0_R x0 x1 x2 y3) h
def f23_M (x0 x1 : TV) : Prg TV :=
  Prg.tv (pbin (Kd.int IntKind.i64) BinOp.leq (TV.lit (Value.int IntKind.i64 (0 : Int))) x1) fun v0 =>
  Prg.ite (asBool v0) (
    Prg.tv (pbin (Kd.int IntKind.i64) BinOp.lss x1 x0) fun v1 =>
    Prg.ret v1) (
    Prg.ret (TV.lit (Value.bool false)))
theorem f23_MR (x0 x1 : TV) : startQ prog 23 [x0, x1] = f23_M x0 x1 := by kernel_rfl

theorem f23_run {x0 x1 : TV} {r : TV} (h : Goes prog 23 (f23_M x0 x1) r) : Runs prog 23 [x0, x1] r := Runs.of (f23_MR x0 x1) h
def f24_M (x0 x1 : TV) : Prg TV :=
  Prg.chk (TV.isAgg x0 3) (
  Prg.tv (plen (Kd.slice 59) (TV.cell x0 2)) fun v0 =>
  Prg.call 23 [v0, x1] fun v1 =>
  Prg.chk (fitsAt zBool [v1] 0) (
  Prg.ite (asBool v1) (
    Prg.tvs (pidx 14 (TV.cell x0 2) x1) fun e2 =>
    Prg.chk (Nat.blt 0 (List.length e2)) (
    Prg.ret (nth TV.hole e2 0))) (
    Prg.ret (TV.lit (Value.bool false)))))
theorem f24_MR (x0 x1 : TV) : startQ prog 24 [x0, x1] = f24_M x0 x1 := by kernel_rfl

theorem f24_run {x0 x1 : TV} {r : TV} (h : Goes prog 24 (f24_M x0 x1) r) : Runs prog 24 [x0, x1] r := Runs.of (f24_MR x0 x1) h
def f25_M (x0 : TV) : Prg TV :=
  Prg.chk (TV.isAgg x0 5) (
  Prg.tv (pbin (Kd.slice 26) BinOp.neq (TV.cell x0 3) (TV.lit (Value.slice Option.none 0 0))) fun v0 =>
  Prg.ite (asBool v0) (
    Prg.tv (plen (Kd.slice 26) (TV.cell x0 3)) fun v1 =>
    Prg.nat (asNat v1) fun n2 =>
    Prg.nat (asNat v1) fun n3 =>
    Prg.chk (Bool.and (Nat.ble n2 n3) (Nat.ble n3 4294967296)) (
    Prg.rws (pelems 1 (TV.cell x0 3)) fun r4 =>
    Prg.tv (pcopy 1 (TV.sl true 1 (List.replicate n2 [TV.lit (Value.int IntKind.u16 (0 : Int))])) r4) fun v5 =>
    Prg.nat (slLen (TV.sl true 1 (List.replicate n2 [TV.lit (Value.int IntKind.u16 (0 : Int))]))) fun n6 =>
    Prg.chk (isOwn (TV.agg [TV.cell x0 0, TV.cell x0 1, TV.cell x0 2, v5, TV.cell x0 4])) (
    Prg.ret (TV.agg [TV.cell x0 0, TV.cell x0 1, TV.cell x0 2, v5, TV.cell x0 4])))) (
    Prg.chk (isOwn (TV.agg [TV.cell x0 0, TV.cell x0 1, TV.cell x0 2, TV.cell x0 3, TV.cell x0 4])) (
    Prg.ret (TV.agg [TV.cell x0 0, TV.cell x0 1, TV.cell x0 2, TV.cell x0 3, TV.cell x0 4]))))
theorem f25_MR (x0 : TV) : startQ prog 25 [x0] = f25_M x0 := by kernel_rfl

theorem f25_run {x0 : TV} {r : TV} (h : Goes prog 25 (f25_M x0) r) : Runs prog 25 [x0] r := Runs.of (f25_MR x0) h
def f26_0_S  (x0 y1 y2 y3 y4 : TV) : ASt := ⟨[AV.one CA.junk, AV.one CA.junk, AV.one (CA.ptr 0 0), AV.one (CA.ptr 1 0), AV.one CA.junk, AV.tv x0] ++ List.replicate 87 (AV.one CA.junk), [Option.some (BC.cells [CA.t y1]), Option.some (BC.cells [CA.t y2, CA.t y3, CA.t y4])] ++ List.replicate 115 (Option.none), []⟩
def f26_1_S  (x0 x1 y2 y3 y4 y5 y6 y7 y8 y9 y10 y11 y12 y13 y14 y15 y16 y17 y18 y19 : TV) : ASt := ⟨[AV.one CA.junk, AV.one CA.junk, AV.one (CA.ptr 0 0), AV.one (CA.ptr 1 0), AV.one CA.junk, AV.tv x0, AV.one (CA.ptr 2 0), AV.tv x1] ++ List.replicate 85 (AV.one CA.junk), [Option.some (BC.cells [CA.t y2]), Option.some (BC.cells [CA.t y3, CA.t y4, CA.t y5]), Option.some (BC.cells [CA.t y6, CA.t y7, CA.t y8, CA.t y9, CA.t y10, CA.t y11, CA.t y12, CA.t y13, CA.t y14, CA.t y15, CA.t y16, CA.t y17, CA.t y18, CA.t y19])] ++ List.replicate 114 (Option.none), []⟩
def f26_M (x0 x1 : TV) : Prg TV :=
  Prg.chk (TV.isAgg x0 1) (
  Prg.chk (TV.isAgg x1 3) (
  Prg.tv (pbin (Kd.int IntKind.i64) BinOp.lss (TV.cell x1 0) (TV.lit (Value.int IntKind.i64 (0 : Int)))) fun v0 =>
  Prg.ite (asBool v0) (
    Prg.ret (TV.lit (Value.bool false))) (
    Prg.tv (pbin (Kd.int IntKind.i64) BinOp.gtr (TV.cell x1 0) (TV.lit (Value.int IntKind.i64 (8 : Int)))) fun v1 =>
    Prg.ite (asBool v1) (
      Prg.ret (TV.lit (Value.bool false))) (
      Prg.tv (pbin (Kd.int IntKind.i64) BinOp.lss (TV.cell x1 1) (TV.cell x1 0)) fun v2 =>
      Prg.ite (asBool v2) (
        Prg.ret (TV.lit (Value.bool false))) (
        Prg.tv (pbin (Kd.int IntKind.i64) BinOp.gtr (TV.cell x1 1) (TV.lit (Value.int IntKind.i64 (256 : Int)))) fun v3 =>
        Prg.ite (asBool v3) (
          Prg.ret (TV.lit (Value.bool false))) (
          Prg.tv (plen (Kd.slice 59) (TV.cell x1 2)) fun v4 =>
          Prg.tv (pbin (Kd.int IntKind.i64) BinOp.eql v4 (TV.lit (Value.int IntKind.i64 (0 : Int)))) fun v5 =>
          Prg.ite (asBool v5) (
            Prg.ret (TV.lit (Value.bool false))) (
            Prg.tv (plen (Kd.slice 59) (TV.cell x1 2)) fun v6 =>
            Prg.tv (pbin (Kd.int IntKind.i64) BinOp.gtr v6 (TV.lit (Value.int IntKind.i64 (64 : Int)))) fun v7 =>
            Prg.ite (asBool v7) (
              Prg.ret (TV.lit (Value.bool false))) (
              Prg.tvs (pidx 14 (TV.cell x1 2) (TV.lit (Value.int IntKind.i64 (0 : Int)))) fun e8 =>
              Prg.chk (Nat.blt 0 (List.length e8)) (
              Prg.ite (asBool (nth TV.hole e8 0)) (
                Prg.ret (TV.lit (Value.bool false))) (
                Prg.jmp [0, 0, 1, 0, 1, 1] (f26_0_S (TV.lit (Value.int IntKind.i64 (0 : Int))) (TV.cell x0 0) (TV.cell x1 0) (TV.cell x1 1) (TV.cell x1 2))))))))))))
-- [0, 0, 1, 0, 1, 1]
def f26_0  (x0 y1 y2 y3 y4 : TV) : Prg TV :=
  Prg.tv (plen (Kd.slice 59) y4) fun v9 =>
  Prg.tv (pbin (Kd.int IntKind.i64) BinOp.lss x0 v9) fun v10 =>
  Prg.ite (asBool v10) (
    Prg.tvs (pidx 14 y4 x0) fun e11 =>
    Prg.chk (Nat.ble 14 (List.length e11)) (
    Prg.tv (plen (Kd.slice 43) (nth TV.hole e11 5)) fun v12 =>
    Prg.tv (pbin (Kd.int IntKind.i64) BinOp.gtr v12 (TV.lit (Value.int IntKind.i64 (64 : Int)))) fun v13 =>
    Prg.ite (asBool v13) (
      Prg.ret (TV.lit (Value.bool false))) (
      Prg.call 33 [TV.agg [y2, y3, y4], TV.agg [nth TV.hole e11 0, nth TV.hole e11 1, nth TV.hole e11 2, nth TV.hole e11 3, nth TV.hole e11 4, nth TV.hole e11 5, nth TV.hole e11 6, nth TV.hole e11 7, nth TV.hole e11 8, nth TV.hole e11 9, nth TV.hole e11 10, nth TV.hole e11 11, nth TV.hole e11 12, nth TV.hole e11 13]] fun v14 =>
      Prg.chk (fitsAt zBool [v14] 0) (
      Prg.tv (pun UnOp.not v14) fun v15 =>
      Prg.ite (asBool v15) (
        Prg.ret (TV.lit (Value.bool false))) (
        Prg.call 34 [TV.agg [y1], TV.agg [y2, y3, y4], TV.agg [nth TV.hole e11 6, nth TV.hole e11 7, nth TV.hole e11 8, nth TV.hole e11 9, nth TV.hole e11 10, nth TV.hole e11 11, nth TV.hole e11 12, nth TV.hole e11 13]] fun v16 =>
        Prg.chk (fitsAt zBool [v16] 0) (
        Prg.tv (pun UnOp.not v16) fun v17 =>
        Prg.ite (asBool v17) (
          Prg.ret (TV.lit (Value.bool false))) (
          Prg.jmp [0, 0, 1, 1, 1, 0, 0, 1, 0, 0, 1, 0, 1, 1] (f26_1_S x0 (TV.lit (Value.int IntKind.i64 (0 : Int))) y1 y2 y3 y4 (nth TV.hole e11 0) (nth TV.hole e11 1) (nth TV.hole e11 2) (nth TV.hole e11 3) (nth TV.hole e11 4) (nth TV.hole e11 5) (nth TV.hole e11 6) (nth TV.hole e11 7) (nth TV.hole e11 8) (nth TV.hole e11 9) (nth TV.hole e11 10) (nth TV.hole e11 11) (nth TV.hole e11 12) (nth TV.hole e11 13))))))))) (
    Prg.ret (TV.lit (Value.bool true)))
-- [0, 0, 1, 1, 1, 0, 0, 1, 0, 0, 1, 0, 1, 1]
def f26_1  (x0 x1 y2 y3 y4 y5 y6 y7 y8 y9 y10 y11 y12 y13 y14 y15 y16 y17 y18 y19 : TV) : Prg TV :=
  Prg.tv (plen (Kd.slice 43) y11) fun v18 =>
  Prg.tv (pbin (Kd.int IntKind.i64) BinOp.lss x1 v18) fun v19 =>
  Prg.ite (asBool v19) (
    Prg.tvs (pidx 7 y11 x1) fun e20 =>
    Prg.chk (Nat.ble 7 (List.length e20)) (
    Prg.call 35 [TV.agg [y2], TV.agg [y3, y4, y5], TV.agg [nth TV.hole e20 0, nth TV.hole e20 1, nth TV.hole e20 2, nth TV.hole e20 3, nth TV.hole e20 4, nth TV.hole e20 5, nth TV.hole e20 6]] fun v21 =>
    Prg.chk (fitsAt zBool [v21] 0) (
    Prg.tv (pun UnOp.not v21) fun v22 =>
    Prg.ite (asBool v22) (
      Prg.ret (TV.lit (Value.bool false))) (
      Prg.tv (pbin (Kd.int IntKind.i64) BinOp.add x1 (TV.lit (Value.int IntKind.i64 (1 : Int)))) fun v23 =>
      Prg.jmp [0, 0, 1, 1, 1, 0, 0, 1, 0, 0, 1, 0, 1, 1] (f26_1_S x0 v23 y2 y3 y4 y5 y6 y7 y8 y9 y10 y11 y12 y13 y14 y15 y16 y17 y18 y19))))) (
    Prg.tv (pbin (Kd.int IntKind.i64) BinOp.add x0 (TV.lit (Value.int IntKind.i64 (1 : Int)))) fun v24 =>
    Prg.jmp [0, 0, 1, 0, 1, 1] (f26_0_S v24 y2 y3 y4 y5))
theorem f26_MR (x0 x1 : TV) : startQ prog 26 [x0, x1] = f26_M x0 x1 := by kernel_rfl
theorem f26_0_R  (x0 y1 y2 y3 y4 : TV) : pieceQ prog 26 [0, 0, 1, 0, 1, 1] (f26_0_S x0 y1 y2 y3 y4) = f26_0 x0 y1 y2 y3 y4 := by kernel_rfl
theorem f26_1_R  (x0 x1 y2 y3 y4 y5 y6 y7 y8 y9 y10 y11 y12 y13 y14 y15 y16 y17 y18 y19 : TV) : pieceQ prog 26 [0, 0, 1, 1, 1, 0, 0, 1, 0, 0, 1, 0, 1, 1] (f26_1_S x0 x1 y2 y3 y4 y5 y6 y7 y8 y9 y10 y11 y12 y13 y14 y15 y16 y17 y18 y19) = f26_1 x0 x1 y2 y3 y4 y5 y6 y7 y8 y9 y10 y11 y12 y13 y14 y15 y16 y17 y18 y19 := by kernel_rfl

theorem f26_run {x0 x1 : TV} {r : TV} (h : Goes prog 26 (f26_M x0 x1) r) : Runs prog 26 [x0, x1] r := Runs.of (f26_MR x0 x1) h
theorem f26_0_J  {x0 y1 y2 y3 y4 : TV} {r : TV} (h : Goes prog 26 (f26_0 x0 y1 y2 y3 y4) r) : Goes prog 26 (.jmp [0, 0, 1, 0, 1, 1] (f26_0_S x0 y1 y2 y3 y4)) r := Goes.jmp (f26_0_R x0 y1 y2 y3 y4) h
theorem f26_1_J  {x0 x1 y2 y3 y4 y5 y6 y7 y8 y9 y10 y11 y12 y13 y14 y15 y16 y17 y18 y19 : TV} {r : TV} (h : Goes prog 26 (f26_1 x0 x1 y2 y3 y4 y5 y6 y7 y8 y9 y10 y11 y12 y13 y14 y15 y16 y17 y18 y19) r) : Goes prog 26 (.jmp [0, 0, 1, 1, 1, 0, 0, 1, 0, 0, 1, 0, 1, 1] (f26_1_S x0 x1 y2 y3 y4 y5 y6 y7 y8 y9 y10 y11 y12 y13 y14 y15 y16 y17 y18 y19)) r := Goes.jmp (f26_1_R x0 x1 y2 y3 y4 y5 y6 y7 y8 y9 y10 y11 y12 y13 y14 y15 y16 y17 y18 y19) h
def f27_M (x0 x1 x2 : TV) : Prg TV :=
  Prg.chk (TV.isAgg x0 5) (
  Prg.rws (pelems 1 (TV.cell x0 3)) fun r0 =>
  Prg.tv (papp 1 (TV.sl true 1 (chunks 1 0 [])) r0) fun v1 =>
  Prg.nat (slLen v1) fun n2 =>
  Prg.nat (asNat x1) fun n3 =>
  Prg.chk (Bool.and (slSize v1 1) (Nat.blt n3 n2)) (
  Prg.chk (TV.isOne x2) (
  Prg.tvs (pel v1 n3) fun e4 =>
  Prg.chk (fitsAt zWord e4 0) (
  Prg.tv (setC [] v1 n3 0 [x2]) fun v5 =>
  Prg.chk (isOwn (TV.agg [TV.cell x0 0, TV.cell x0 1, TV.cell x0 2, v5, TV.cell x0 4])) (
  Prg.ret (TV.agg [TV.cell x0 0, TV.cell x0 1, TV.cell x0 2, v5, TV.cell x0 4]))))))
theorem f27_MR (x0 x1 x2 : TV) : startQ prog 27 [x0, x1, x2] = f27_M x0 x1 x2 := by kernel_rfl

theorem f27_run {x0 x1 x2 : TV} {r : TV} (h : Goes prog 27 (f27_M x0 x1 x2) r) : Runs prog 27 [x0, x1, x2] r := Runs.of (f27_MR x0 x1 x2) h
def f28_M (x0 x1 : TV) : Prg TV :=
  Prg.chk (TV.isAgg x1 7) (
  Prg.tv (pbin (Kd.int IntKind.i64) BinOp.eql (TV.cell x1 0) (TV.lit (Value.int IntKind.i64 (1 : Int)))) fun v0 =>
  Prg.ite (asBool v0) (
    Prg.ret (TV.tup [TV.cell x1 4, TV.lit (Value.bool true)])) (
    Prg.tv (plen (Kd.slice 26) x0) fun v1 =>
    Prg.call 23 [v1, TV.cell x1 2] fun v2 =>
    Prg.chk (fitsAt zBool [v2] 0) (
    Prg.tv (pun UnOp.not v2) fun v3 =>
    Prg.ite (asBool v3) (
      Prg.ret (TV.tup [TV.lit (Value.int IntKind.u16 (0 : Int)), TV.lit (Value.bool false)])) (
      Prg.tvs (pidx 1 x0 (TV.cell x1 2)) fun e4 =>
      Prg.chk (Nat.blt 0 (List.length e4)) (
      Prg.call 36 [TV.cell x1 0] fun v5 =>
      Prg.chk (fitsAt zBool [v5] 0) (
      Prg.tv (pun UnOp.not v5) fun v6 =>
      Prg.ite (asBool v6) (
        Prg.call 37 [TV.cell x1 0, nth TV.hole e4 0, TV.lit (Value.int IntKind.u16 (0 : Int))] fun v7 =>
        Prg.chk (TV.isTup v7 2) (
        Prg.chk (fitsAt zWord [TV.comp v7 0] 0) (
        Prg.chk (fitsAt zBool [TV.comp v7 1] 0) (
        Prg.ret (TV.tup [TV.comp v7 0, TV.comp v7 1]))))) (
        Prg.tv (plen (Kd.slice 26) x0) fun v8 =>
        Prg.call 23 [v8, TV.cell x1 3] fun v9 =>
        Prg.chk (fitsAt zBool [v9] 0) (
        Prg.tv (pun UnOp.not v9) fun v10 =>
        Prg.ite (asBool v10) (
          Prg.ret (TV.tup [TV.lit (Value.int IntKind.u16 (0 : Int)), TV.lit (Value.bool false)])) (
          Prg.tvs (pidx 1 x0 (TV.cell x1 3)) fun e11 =>
          Prg.chk (Nat.blt 0 (List.length e11)) (
          Prg.call 37 [TV.cell x1 0, nth TV.hole e4 0, nth TV.hole e11 0] fun v12 =>
          Prg.chk (TV.isTup v12 2) (
          Prg.chk (fitsAt zWord [TV.comp v12 0] 0) (
          Prg.chk (fitsAt zBool [TV.comp v12 1] 0) (
          Prg.ret (TV.tup [TV.comp v12 0, TV.comp v12 1]))))))))))))))
theorem f28_MR (x0 x1 : TV) : startQ prog 28 [x0, x1] = f28_M x0 x1 := by kernel_rfl

theorem f28_run {x0 x1 : TV} {r : TV} (h : Goes prog 28 (f28_M x0 x1) r) : Runs prog 28 [x0, x1] r := Runs.of (f28_MR x0 x1) h
end Go.Ab.G5

import Derived.Test.YteppgaecdkkkeaaG5T
import Derived.Test.YteppgaecdkkkeaaF0
set_option linter.unusedVariables false
set_option maxRecDepth 100000
namespace Go.Ab.G5
open Go Go.Ab Go.Proofs
def f29_M (x0 x1 : TV) : Prg TV :=
  Prg.chk (TV.isAgg x0 5) (
  Prg.tv (pbin (Kd.int IntKind.i64) BinOp.geq x1 (TV.lit (Value.int IntKind.i64 (0 : Int)))) fun v0 =>
  Prg.ite (asBool v0) (
    Prg.tv (plen (Kd.slice 26) (TV.cell x0 3)) fun v1 =>
    Prg.tv (pbin (Kd.int IntKind.i64) BinOp.lss x1 v1) fun v2 =>
    Prg.ret v2) (
    Prg.ret (TV.lit (Value.bool false))))
theorem f29_MR (x0 x1 : TV) : startQ prog 29 [x0, x1] = f29_M x0 x1 := by kernel_rfl

theorem f29_run {x0 x1 : TV} {r : TV} (h : Goes prog 29 (f29_M x0 x1) r) : Runs prog 29 [x0, x1] r := Runs.of (f29_MR x0 x1) h
def f30_0_S  (x0 x1 x2 : TV) : ASt := ⟨[AV.tv x0] ++ List.replicate 7 (AV.one CA.junk) ++ [AV.tv x1, AV.tv x2] ++ List.replicate 61 (AV.one CA.junk), List.replicate 95 (Option.none), []⟩
def f30_1_S  (x0 : TV) : ASt := ⟨[AV.tv x0] ++ List.replicate 70 (AV.one CA.junk), List.replicate 95 (Option.none), []⟩
def f30_M (x0 x1 x2 : TV) : Prg TV :=
  Prg.tv (pconv (Kd.int IntKind.u64) x1) fun v0 =>
  Prg.tv (pconv (Kd.int IntKind.u64) x2) fun v1 =>
  Prg.tv (pbin (Kd.int IntKind.i64) BinOp.eql x0 (TV.lit (Value.int IntKind.i64 (2 : Int)))) fun v2 =>
  Prg.ite (asBool v2) (
    Prg.ret (TV.tup [x1, TV.lit (Value.bool true)])) (
    Prg.tv (pbin (Kd.int IntKind.i64) BinOp.eql x0 (TV.lit (Value.int IntKind.i64 (3 : Int)))) fun v3 =>
    Prg.ite (asBool v3) (
      Prg.tv (pbin (Kd.int IntKind.u64) BinOp.add v0 v1) fun v4 =>
      Prg.tv (pbin (Kd.int IntKind.u64) BinOp.rem v4 (TV.lit (Value.int IntKind.u64 (65536 : Int)))) fun v5 =>
      Prg.tv (pconv (Kd.int IntKind.u16) v5) fun v6 =>
      Prg.ret (TV.tup [v6, TV.lit (Value.bool true)])) (
      Prg.tv (pbin (Kd.int IntKind.i64) BinOp.eql x0 (TV.lit (Value.int IntKind.i64 (4 : Int)))) fun v7 =>
      Prg.ite (asBool v7) (
        Prg.tv (pbin (Kd.int IntKind.u64) BinOp.add v0 (TV.lit (Value.int IntKind.u64 (65536 : Int)))) fun v8 =>
        Prg.tv (pbin (Kd.int IntKind.u64) BinOp.sub v8 v1) fun v9 =>
        Prg.tv (pbin (Kd.int IntKind.u64) BinOp.rem v9 (TV.lit (Value.int IntKind.u64 (65536 : Int)))) fun v10 =>
        Prg.tv (pconv (Kd.int IntKind.u16) v10) fun v11 =>
        Prg.ret (TV.tup [v11, TV.lit (Value.bool true)])) (
        Prg.tv (pbin (Kd.int IntKind.i64) BinOp.eql x0 (TV.lit (Value.int IntKind.i64 (5 : Int)))) fun v12 =>
        Prg.ite (asBool v12) (
          Prg.tv (pbin (Kd.int IntKind.u64) BinOp.mul v0 v1) fun v13 =>
          Prg.tv (pbin (Kd.int IntKind.u64) BinOp.rem v13 (TV.lit (Value.int IntKind.u64 (65536 : Int)))) fun v14 =>
          Prg.tv (pconv (Kd.int IntKind.u16) v14) fun v15 =>
          Prg.ret (TV.tup [v15, TV.lit (Value.bool true)])) (
          Prg.tv (pbin (Kd.int IntKind.i64) BinOp.eql x0 (TV.lit (Value.int IntKind.i64 (6 : Int)))) fun v16 =>
          Prg.ite (asBool v16) (
            Prg.tv (pbin (Kd.int IntKind.u64) BinOp.gtr v1 (TV.lit (Value.int IntKind.u64 (0 : Int)))) fun v17 =>
            Prg.ite (asBool v17) (
              Prg.tv (pbin (Kd.int IntKind.u64) BinOp.quo v0 v1) fun v18 =>
              Prg.tv (pconv (Kd.int IntKind.u16) v18) fun v19 =>
              Prg.ret (TV.tup [v19, TV.lit (Value.bool true)])) (
              Prg.jmp [1, 1, 1, 1, 1, 1, 1] (f30_0_S x0 v0 v1))) (
            Prg.jmp [1, 1, 1, 1, 1, 1, 1] (f30_0_S x0 v0 v1))))))
-- [1, 1, 1, 1, 1, 1, 1]
def f30_0  (x0 x1 x2 : TV) : Prg TV :=
  Prg.tv (pbin (Kd.int IntKind.i64) BinOp.eql x0 (TV.lit (Value.int IntKind.i64 (7 : Int)))) fun v20 =>
  Prg.ite (asBool v20) (
    Prg.tv (pbin (Kd.int IntKind.u64) BinOp.eql x1 x2) fun v21 =>
    Prg.ite (asBool v21) (
      Prg.ret (TV.tup [TV.lit (Value.int IntKind.u16 (1 : Int)), TV.lit (Value.bool true)])) (
      Prg.tv (pbin (Kd.int IntKind.i64) BinOp.eql x0 (TV.lit (Value.int IntKind.i64 (8 : Int)))) fun v22 =>
      Prg.ite (asBool v22) (
        Prg.tv (pbin (Kd.int IntKind.u64) BinOp.lss x1 x2) fun v23 =>
        Prg.ite (asBool v23) (
          Prg.ret (TV.tup [TV.lit (Value.int IntKind.u16 (1 : Int)), TV.lit (Value.bool true)])) (
          Prg.jmp [1, 1, 1, 1, 1, 1, 1, 1] (f30_1_S x0))) (
        Prg.jmp [1, 1, 1, 1, 1, 1, 1, 1] (f30_1_S x0)))) (
    Prg.tv (pbin (Kd.int IntKind.i64) BinOp.eql x0 (TV.lit (Value.int IntKind.i64 (8 : Int)))) fun v24 =>
    Prg.ite (asBool v24) (
      Prg.tv (pbin (Kd.int IntKind.u64) BinOp.lss x1 x2) fun v25 =>
      Prg.ite (asBool v25) (
        Prg.ret (TV.tup [TV.lit (Value.int IntKind.u16 (1 : Int)), TV.lit (Value.bool true)])) (
        Prg.jmp [1, 1, 1, 1, 1, 1, 1, 1] (f30_1_S x0))) (
      Prg.jmp [1, 1, 1, 1, 1, 1, 1, 1] (f30_1_S x0)))
-- [1, 1, 1, 1, 1, 1, 1, 1]
def f30_1  (x0 : TV) : Prg TV :=
  Prg.tv (pbin (Kd.int IntKind.i64) BinOp.eql x0 (TV.lit (Value.int IntKind.i64 (7 : Int)))) fun v26 =>
  Prg.ite (asBool v26) (
    Prg.ret (TV.tup [TV.lit (Value.int IntKind.u16 (0 : Int)), TV.lit (Value.bool true)])) (
    Prg.tv (pbin (Kd.int IntKind.i64) BinOp.eql x0 (TV.lit (Value.int IntKind.i64 (8 : Int)))) fun v27 =>
    Prg.ret (TV.tup [TV.lit (Value.int IntKind.u16 (0 : Int)), v27]))
theorem f30_MR (x0 x1 x2 : TV) : startQ prog 30 [x0, x1, x2] = f30_M x0 x1 x2 := by kernel_rfl
theorem f30_0_R  (x0 x1 x2 : TV) : pieceQ prog 30 [1, 1, 1, 1, 1, 1, 1] (f30_0_S x0 x1 x2) = f30_0 x0 x1 x2 := by kernel_rfl
theorem f30_1_R  (x0 : TV) : pieceQ prog 30 [1, 1, 1, 1, 1, 1, 1, 1] (f30_1_S x0) = f30_1 x0 := by kernel_rfl

theorem f30_run {x0 x1 x2 : TV} {r : TV} (h : Goes prog 30 (f30_M x0 x1 x2) r) : Runs prog 30 [x0, x1, x2] r := Runs.of (f30_MR x0 x1 x2) h
theorem f30_0_J  {x0 x1 x2 : TV} {r : TV} (h : Goes prog 30 (f30_0 x0 x1 x2) r) : Goes prog 30 (.jmp [1, 1, 1, 1, 1, 1, 1] (f30_0_S x0 x1 x2)) r := Goes.jmp (f30_0_R x0 x1 x2) h
theorem f30_1_J  {x0 : TV} {r : TV} (h : Goes prog 30 (f30_1 x0) r) : Goes prog 30 (.jmp [1, 1, 1, 1, 1, 1, 1, 1] (f30_1_S x0)) r := Goes.jmp (f30_1_R x0) h
def f31_M (x0 x1 : TV) : Prg TV :=
  Prg.call 38 [x0, x1] fun v0 =>
  Prg.chk (fitsAt zInt [v0] 0) (
  Prg.tv (pbin (Kd.int IntKind.i64) BinOp.geq v0 (TV.lit (Value.int IntKind.i64 (0 : Int)))) fun v1 =>
  Prg.ret v1)
theorem f31_MR (x0 x1 : TV) : startQ prog 31 [x0, x1] = f31_M x0 x1 := by kernel_rfl

theorem f31_run {x0 x1 : TV} {r : TV} (h : Goes prog 31 (f31_M x0 x1) r) : Runs prog 31 [x0, x1] r := Runs.of (f31_MR x0 x1) h
def f32_0_S  (x0 x1 x2 y3 y4 y5 y6 : TV) : ASt := ⟨List.replicate 5 (AV.one CA.junk) ++ [AV.one (CA.ptr 0 0)] ++ List.replicate 44 (AV.one CA.junk) ++ [AV.tv x0, AV.tv x1, AV.tv x2] ++ List.replicate 8 (AV.one CA.junk), [Option.some (BC.cells [CA.t y3, CA.t y4, CA.t y5, CA.t y6])] ++ List.replicate 84 (Option.none), []⟩
def f32_M (x0 x1 : TV) : Prg TV :=
  Prg.chk (TV.isAgg x0 1) (
  Prg.chk (TV.isAgg x1 3) (
  Prg.tv (pbin (Kd.int IntKind.i64) BinOp.lss (TV.cell x1 0) (TV.lit (Value.int IntKind.i64 (0 : Int)))) fun v0 =>
  Prg.ite (asBool v0) (
    Prg.ret (TV.lit (Value.bool false))) (
    Prg.tv (pbin (Kd.int IntKind.i64) BinOp.gtr (TV.cell x1 0) (TV.lit (Value.int IntKind.i64 (8 : Int)))) fun v1 =>
    Prg.ite (asBool v1) (
      Prg.ret (TV.lit (Value.bool false))) (
      Prg.tv (pbin (Kd.int IntKind.i64) BinOp.lss (TV.cell x1 1) (TV.cell x1 0)) fun v2 =>
      Prg.ite (asBool v2) (
        Prg.ret (TV.lit (Value.bool false))) (
        Prg.tv (pbin (Kd.int IntKind.i64) BinOp.gtr (TV.cell x1 1) (TV.lit (Value.int IntKind.i64 (256 : Int)))) fun v3 =>
        Prg.ite (asBool v3) (
          Prg.ret (TV.lit (Value.bool false))) (
          Prg.tv (plen (Kd.slice 59) (TV.cell x1 2)) fun v4 =>
          Prg.tv (pbin (Kd.int IntKind.i64) BinOp.lss v4 (TV.lit (Value.int IntKind.i64 (1 : Int)))) fun v5 =>
          Prg.ite (asBool v5) (
            Prg.ret (TV.lit (Value.bool false))) (
            Prg.tv (plen (Kd.slice 59) (TV.cell x1 2)) fun v6 =>
            Prg.tv (pbin (Kd.int IntKind.i64) BinOp.gtr v6 (TV.lit (Value.int IntKind.i64 (64 : Int)))) fun v7 =>
            Prg.ite (asBool v7) (
              Prg.ret (TV.lit (Value.bool false))) (
              Prg.tvs (pidx 14 (TV.cell x1 2) (TV.lit (Value.int IntKind.i64 (0 : Int)))) fun e8 =>
              Prg.chk (Nat.blt 0 (List.length e8)) (
              Prg.ite (asBool (nth TV.hole e8 0)) (
                Prg.ret (TV.lit (Value.bool false))) (
                Prg.tv (plen (Kd.slice 59) (TV.cell x1 2)) fun v9 =>
                Prg.jmp [0, 0, 1, 0, 1, 1, 1, 1] (f32_0_S (TV.cell x1 2) v9 (TV.lit (Value.int IntKind.i64 (0 : Int))) (TV.cell x0 0) (TV.cell x1 0) (TV.cell x1 1) (TV.cell x1 2))))))))))))
-- [0, 0, 1, 0, 1, 1, 1, 1]
def f32_0  (x0 x1 x2 y3 y4 y5 y6 : TV) : Prg TV :=
  Prg.tv (pbin (Kd.int IntKind.i64) BinOp.lss x2 x1) fun v10 =>
  Prg.ite (asBool v10) (
    Prg.tvs (pidx 14 x0 x2) fun e11 =>
    Prg.chk (Nat.ble 14 (List.length e11)) (
    Prg.call 39 [TV.agg [y3, y4, y5, y6], TV.agg [nth TV.hole e11 0, nth TV.hole e11 1, nth TV.hole e11 2, nth TV.hole e11 3, nth TV.hole e11 4, nth TV.hole e11 5, nth TV.hole e11 6, nth TV.hole e11 7, nth TV.hole e11 8, nth TV.hole e11 9, nth TV.hole e11 10, nth TV.hole e11 11, nth TV.hole e11 12, nth TV.hole e11 13]] fun v12 =>
    Prg.chk (fitsAt zBool [v12] 0) (
    Prg.tv (pun UnOp.not v12) fun v13 =>
    Prg.ite (asBool v13) (
      Prg.ret (TV.lit (Value.bool false))) (
      Prg.tv (pbin (Kd.int IntKind.i64) BinOp.add x2 (TV.lit (Value.int IntKind.i64 (1 : Int)))) fun v14 =>
      Prg.jmp [0, 0, 1, 0, 1, 1, 1, 1] (f32_0_S x0 x1 v14 y3 y4 y5 y6))))) (
    Prg.ret (TV.lit (Value.bool true)))
theorem f32_MR (x0 x1 : TV) : startQ prog 32 [x0, x1] = f32_M x0 x1 := by kernel_rfl
theorem f32_0_R  (x0 x1 x2 y3 y4 y5 y6 : TV) : pieceQ prog 32 [0, 0, 1, 0, 1, 1, 1, 1] (f32_0_S x0 x1 x2 y3 y4 y5 y6) = f32_0 x0 x1 x2 y3 y4 y5 y6 := by kernel_rfl

theorem f32_run {x0 x1 : TV} {r : TV} (h : Goes prog 32 (f32_M x0 x1) r) : Runs prog 32 [x0, x1] r := Runs.of (f32_MR x0 x1) h
theorem f32_0_J  {x0 x1 x2 y3 y4 y5 y6 : TV} {r : TV} (h : Goes prog 32 (f32_0 x0 x1 x2 y3 y4 y5 y6) r) : Goes prog 32 (.jmp [0, 0, 1, 0, 1, 1, 1, 1] (f32_0_S x0 x1 x2 y3 y4 y5 y6)) r := Goes.jmp (f32_0_R x0 x1 x2 y3 y4 y5 y6) h
def f33_0_S  (x0 y1 y2 y3 y4 y5 y6 y7 : TV) : ASt := ⟨[AV.one CA.junk, AV.one CA.junk, AV.one (CA.ptr 0 0), AV.one CA.junk, AV.one CA.junk, AV.one (CA.ptr 1 0), AV.tv x0] ++ List.replicate 69 (AV.one CA.junk), [Option.some (BC.cells [CA.t y1, CA.t y2, CA.t y3]), Option.some (BC.cells [CA.t y4, CA.t y5, CA.t y6, CA.t y7])] ++ List.replicate 98 (Option.none), []⟩
def f33_1_S  (x0 x1 y2 y3 y4 y5 y6 y7 y8 : TV) : ASt := ⟨[AV.one CA.junk, AV.one CA.junk, AV.one (CA.ptr 0 0), AV.one CA.junk, AV.one CA.junk, AV.one (CA.ptr 1 0), AV.tv x0, AV.tv x1] ++ List.replicate 68 (AV.one CA.junk), [Option.some (BC.cells [CA.t y2, CA.t y3, CA.t y4]), Option.some (BC.cells [CA.t y5, CA.t y6, CA.t y7, CA.t y8])] ++ List.replicate 98 (Option.none), []⟩
def f33_2_S  (y0 y1 y2 y3 y4 y5 y6 : TV) : ASt := ⟨[AV.one CA.junk, AV.one CA.junk, AV.one (CA.ptr 0 0), AV.one CA.junk, AV.one CA.junk, AV.one (CA.ptr 1 0)] ++ List.replicate 70 (AV.one CA.junk), [Option.some (BC.cells [CA.t y0, CA.t y1, CA.t y2]), Option.some (BC.cells [CA.t y3, CA.t y4, CA.t y5, CA.t y6])] ++ List.replicate 98 (Option.none), []⟩
def f33_M (x0 x1 : TV) : Prg TV :=
  Prg.chk (TV.isAgg x0 3) (
  Prg.chk (TV.isAgg x1 14) (
  Prg.tv (pun UnOp.not (TV.cell x1 0)) fun v0 =>
  Prg.ite (asBool v0) (
    Prg.tv (pbin (Kd.int IntKind.i64) BinOp.eql (TV.cell x1 1) (TV.lit (Value.int IntKind.i64 (0 : Int)))) fun v1 =>
    Prg.ite (asBool v1) (
      Prg.tv (plen (Kd.slice 26) (TV.cell x1 2)) fun v2 =>
      Prg.tv (pbin (Kd.int IntKind.i64) BinOp.eql v2 (TV.lit (Value.int IntKind.i64 (0 : Int)))) fun v3 =>
      Prg.ite (asBool v3) (
        Prg.tv (pun UnOp.not (TV.cell x1 3)) fun v4 =>
        Prg.ite (asBool v4) (
          Prg.tv (pun UnOp.not (TV.cell x1 4)) fun v5 =>
          Prg.ret v5) (
          Prg.ret (TV.lit (Value.bool false)))) (
        Prg.ret (TV.lit (Value.bool false)))) (
      Prg.ret (TV.lit (Value.bool false)))) (
    Prg.jmp [0, 0, 1, 0, 1, 1, 1] (f33_0_S (TV.lit (Value.int IntKind.i64 (0 : Int))) (TV.cell x0 0) (TV.cell x0 1) (TV.cell x0 2) (TV.cell x1 1) (TV.cell x1 2) (TV.cell x1 3) (TV.cell x1 4)))))
-- [0, 0, 1, 0, 1, 1, 1]
def f33_0  (x0 y1 y2 y3 y4 y5 y6 y7 : TV) : Prg TV :=
  Prg.tv (plen (Kd.slice 26) y5) fun v6 =>
  Prg.tv (pbin (Kd.int IntKind.i64) BinOp.lss x0 v6) fun v7 =>
  Prg.ite (asBool v7) (
    Prg.tv (pbin (Kd.int IntKind.i64) BinOp.geq x0 (TV.lit (Value.int IntKind.i64 (8 : Int)))) fun v8 =>
    Prg.ite (asBool v8) (
      Prg.ret (TV.lit (Value.bool false))) (
      Prg.jmp [0, 0, 1, 1, 0, 0, 1, 0, 0, 1, 0, 1, 1, 1] (f33_1_S x0 (TV.lit (Value.int IntKind.i64 (0 : Int))) y1 y2 y3 y4 y5 y6 y7))) (
    Prg.jmp [1, 1, 1, 1] (f33_2_S y1 y2 y3 y4 y5 y6 y7))
-- [0, 0, 1, 1, 0, 0, 1, 0, 0, 1, 0, 1, 1, 1]
def f33_1  (x0 x1 y2 y3 y4 y5 y6 y7 y8 : TV) : Prg TV :=
  Prg.tv (pbin (Kd.int IntKind.i64) BinOp.lss x1 x0) fun v9 =>
  Prg.ite (asBool v9) (
    Prg.tvs (pidx 1 y6 x1) fun e10 =>
    Prg.chk (Nat.blt 0 (List.length e10)) (
    Prg.tvs (pidx 1 y6 x0) fun e11 =>
    Prg.chk (Nat.blt 0 (List.length e11)) (
    Prg.tv (pbin (Kd.int IntKind.u16) BinOp.eql (nth TV.hole e10 0) (nth TV.hole e11 0)) fun v12 =>
    Prg.ite (asBool v12) (
      Prg.ret (TV.lit (Value.bool false))) (
      Prg.tv (pbin (Kd.int IntKind.i64) BinOp.add x1 (TV.lit (Value.int IntKind.i64 (1 : Int)))) fun v13 =>
      Prg.jmp [0, 0, 1, 1, 0, 0, 1, 0, 0, 1, 0, 1, 1, 1] (f33_1_S x0 v13 y2 y3 y4 y5 y6 y7 y8))))) (
    Prg.tv (pbin (Kd.int IntKind.i64) BinOp.add x0 (TV.lit (Value.int IntKind.i64 (1 : Int)))) fun v14 =>
    Prg.jmp [0, 0, 1, 0, 1, 1, 1] (f33_0_S v14 y2 y3 y4 y5 y6 y7 y8))
-- [1, 1, 1, 1]
def f33_2  (y0 y1 y2 y3 y4 y5 y6 : TV) : Prg TV :=
  Prg.call 40 [y3, y1] fun v15 =>
  Prg.chk (fitsAt zBool [v15] 0) (
  Prg.ite (asBool v15) (
    Prg.tv (plen (Kd.slice 26) y4) fun v16 =>
    Prg.tv (pbin (Kd.int IntKind.i64) BinOp.gtr v16 (TV.lit (Value.int IntKind.i64 (0 : Int)))) fun v17 =>
    Prg.ite (asBool v17) (
      Prg.ret (TV.lit (Value.bool true))) (
      Prg.ite (asBool y5) (
        Prg.ret (TV.lit (Value.bool true))) (
        Prg.ret y6))) (
    Prg.ret (TV.lit (Value.bool false))))
theorem f33_MR (x0 x1 : TV) : startQ prog 33 [x0, x1] = f33_M x0 x1 := by kernel_rfl
theorem f33_0_R  (x0 y1 y2 y3 y4 y5 y6 y7 : TV) : pieceQ prog 33 [0, 0, 1, 0, 1, 1, 1] (f33_0_S x0 y1 y2 y3 y4 y5 y6 y7) = f33_0 x0 y1 y2 y3 y4 y5 y6 y7 := by kernel_rfl
theorem f33_1_R  (x0 x1 y2 y3 y4 y5 y6 y7 y8 : TV) : pieceQ prog 33 [0, 0, 1, 1, 0, 0, 1, 0, 0, 1, 0, 1, 1, 1] (f33_1_S x0 x1 y2 y3 y4 y5 y6 y7 y8) = f33_1 x0 x1 y2 y3 y4 y5 y6 y7 y8 := by kernel_rfl
theorem f33_2_R  (y0 y1 y2 y3 y4 y5 y6 : TV) : pieceQ prog 33 [1, 1, 1, 1] (f33_2_S y0 y1 y2 y3 y4 y5 y6) = f33_2 y0 y1 y2 y3 y4 y5 y6 := by kernel_rfl

theorem f33_run {x0 x1 : TV} {r : TV} (h : Goes prog 33 (f33_M x0 x1) r) : Runs prog 33 [x0, x1] r := Runs.of (f33_MR x0 x1) h
theorem f33_0_J  {x0 y1 y2 y3 y4 y5 y6 y7 : TV} {r : TV} (h : Goes prog 33 (f33_0 x0 y1 y2 y3 y4 y5 y6 y7) r) : Goes prog 33 (.jmp [0, 0, 1, 0, 1, 1, 1] (f33_0_S x0 y1 y2 y3 y4 y5 y6 y7)) r := Goes.jmp (f33_0_R x0 y1 y2 y3 y4 y5 y6 y7) h
theorem f33_1_J  {x0 x1 y2 y3 y4 y5 y6 y7 y8 : TV} {r : TV} (h : Goes prog 33 (f33_1 x0 x1 y2 y3 y4 y5 y6 y7 y8) r) : Goes prog 33 (.jmp [0, 0, 1, 1, 0, 0, 1, 0, 0, 1, 0, 1, 1, 1] (f33_1_S x0 x1 y2 y3 y4 y5 y6 y7 y8)) r := Goes.jmp (f33_1_R x0 x1 y2 y3 y4 y5 y6 y7 y8) h
theorem f33_2_J  {y0 y1 y2 y3 y4 y5 y6 : TV} {r : TV} (h : Goes prog 33 (f33_2 y0 y1 y2 y3 y4 y5 y6) r) : Goes prog 33 (.jmp [1, 1, 1, 1] (f33_2_S y0 y1 y2 y3 y4 y5 y6)) r := Goes.jmp (f33_2_R y0 y1 y2 y3 y4 y5 y6) h
def f34_0_S  (x0 x1 x2 x3 y4 y5 y6 y7 y8 y9 y10 y11 y12 y13 y14 y15 : TV) : ASt := ⟨[AV.one CA.junk, AV.one CA.junk, AV.one CA.junk, AV.one (CA.ptr 0 0), AV.one (CA.ptr 1 0), AV.one (CA.ptr 2 0), AV.one CA.junk, AV.tv x0, AV.tv x1, AV.tv x2] ++ List.replicate 30 (AV.one CA.junk) ++ [AV.tv x3] ++ List.replicate 117 (AV.one CA.junk), [Option.some (BC.cells [CA.t y4]), Option.some (BC.cells [CA.t y5, CA.t y6, CA.t y7]), Option.some (BC.cells [CA.t y8, CA.t y9, CA.t y10, CA.t y11, CA.t y12, CA.t y13, CA.t y14, CA.t y15])] ++ List.replicate 179 (Option.none), []⟩
def f34_1_S  (x0 x1 x2 x3 x4 y5 y6 y7 y8 y9 y10 y11 y12 y13 y14 y15 y16 : TV) : ASt := ⟨[AV.one CA.junk, AV.one CA.junk, AV.one CA.junk, AV.one (CA.ptr 0 0), AV.one (CA.ptr 1 0), AV.one (CA.ptr 2 0), AV.one CA.junk, AV.tv x0, AV.tv x1, AV.tv x2] ++ List.replicate 30 (AV.one CA.junk) ++ [AV.tv x3, AV.tv x4] ++ List.replicate 116 (AV.one CA.junk), [Option.some (BC.cells [CA.t y5]), Option.some (BC.cells [CA.t y6, CA.t y7, CA.t y8]), Option.some (BC.cells [CA.t y9, CA.t y10, CA.t y11, CA.t y12, CA.t y13, CA.t y14, CA.t y15, CA.t y16])] ++ List.replicate 179 (Option.none), []⟩
def f34_M (x0 x1 x2 : TV) : Prg TV :=
  Prg.chk (TV.isAgg x0 1) (
  Prg.chk (TV.isAgg x1 3) (
  Prg.chk (TV.isAgg x2 8) (
  Prg.call 40 [TV.cell x2 1, TV.cell x1 1] fun v0 =>
  Prg.chk (fitsAt zBool [v0] 0) (
  Prg.call 40 [TV.cell x2 2, TV.cell x1 1] fun v1 =>
  Prg.chk (fitsAt zBool [v1] 0) (
  Prg.tv (pbin (Kd.int IntKind.i64) BinOp.eql (TV.cell x2 2) (TV.lit (Value.int IntKind.i64 (0 : Int)))) fun v2 =>
  Prg.ite (asBool v2) (
    Prg.tv (pbin (Kd.int IntKind.i64) BinOp.eql (TV.cell x2 3) (TV.lit (Value.int IntKind.i64 (0 : Int)))) fun v3 =>
    Prg.ite (asBool v3) (
      Prg.tv (plen (Kd.slice 3) (TV.cell x2 4)) fun v4 =>
      Prg.tv (pbin (Kd.int IntKind.i64) BinOp.eql v4 (TV.lit (Value.int IntKind.i64 (0 : Int)))) fun v5 =>
      Prg.ite (asBool v5) (
        Prg.tv (pbin (Kd.int IntKind.i64) BinOp.eql (TV.cell x2 7) (TV.lit (Value.int IntKind.i64 (0 : Int)))) fun v6 =>
        Prg.jmp [1, 0, 1, 1, 1] (f34_0_S v0 v1 v6 (TV.cell x2 0) (TV.cell x0 0) (TV.cell x1 0) (TV.cell x1 1) (TV.cell x1 2) (TV.cell x2 0) (TV.cell x2 1) (TV.cell x2 2) (TV.cell x2 3) (TV.cell x2 4) (TV.cell x2 5) (TV.cell x2 6) (TV.cell x2 7))) (
        Prg.jmp [1, 0, 1, 1, 1] (f34_0_S v0 v1 (TV.lit (Value.bool false)) (TV.cell x2 0) (TV.cell x0 0) (TV.cell x1 0) (TV.cell x1 1) (TV.cell x1 2) (TV.cell x2 0) (TV.cell x2 1) (TV.cell x2 2) (TV.cell x2 3) (TV.cell x2 4) (TV.cell x2 5) (TV.cell x2 6) (TV.cell x2 7)))) (
      Prg.jmp [1, 0, 1, 1, 1] (f34_0_S v0 v1 (TV.lit (Value.bool false)) (TV.cell x2 0) (TV.cell x0 0) (TV.cell x1 0) (TV.cell x1 1) (TV.cell x1 2) (TV.cell x2 0) (TV.cell x2 1) (TV.cell x2 2) (TV.cell x2 3) (TV.cell x2 4) (TV.cell x2 5) (TV.cell x2 6) (TV.cell x2 7)))) (
    Prg.jmp [1, 0, 1, 1, 1] (f34_0_S v0 v1 (TV.lit (Value.bool false)) (TV.cell x2 0) (TV.cell x0 0) (TV.cell x1 0) (TV.cell x1 1) (TV.cell x1 2) (TV.cell x2 0) (TV.cell x2 1) (TV.cell x2 2) (TV.cell x2 3) (TV.cell x2 4) (TV.cell x2 5) (TV.cell x2 6) (TV.cell x2 7))))))))
-- [1, 0, 1, 1, 1]
def f34_0  (x0 x1 x2 x3 y4 y5 y6 y7 y8 y9 y10 y11 y12 y13 y14 y15 : TV) : Prg TV :=
  Prg.tv (pbin (Kd.int IntKind.i64) BinOp.eql x3 (TV.lit (Value.int IntKind.i64 (1 : Int)))) fun v7 =>
  Prg.ite (asBool v7) (
    Prg.jmp [1, 0, 1, 0, 1, 1, 1] (f34_1_S x0 x1 x2 x3 v7 y4 y5 y6 y7 y8 y9 y10 y11 y12 y13 y14 y15)) (
    Prg.tv (pbin (Kd.int IntKind.i64) BinOp.eql x3 (TV.lit (Value.int IntKind.i64 (5 : Int)))) fun v8 =>
    Prg.jmp [1, 0, 1, 0, 1, 1, 1] (f34_1_S x0 x1 x2 x3 v8 y4 y5 y6 y7 y8 y9 y10 y11 y12 y13 y14 y15))
-- [1, 0, 1, 0, 1, 1, 1]
def f34_1  (x0 x1 x2 x3 x4 y5 y6 y7 y8 y9 y10 y11 y12 y13 y14 y15 y16 : TV) : Prg TV :=
  Prg.ite (asBool x4) (
    Prg.ite (asBool x0) (
      Prg.ite (asBool x2) (
        Prg.tv (pbin (Kd.int IntKind.i64) BinOp.eql y14 (TV.lit (Value.int IntKind.i64 (0 : Int)))) fun v9 =>
        Prg.ite (asBool v9) (
          Prg.tv (pbin (Kd.int IntKind.i64) BinOp.eql y15 (TV.lit (Value.int IntKind.i64 (0 : Int)))) fun v10 =>
          Prg.ret v10) (
          Prg.ret (TV.lit (Value.bool false)))) (
        Prg.ret (TV.lit (Value.bool false)))) (
      Prg.ret (TV.lit (Value.bool false)))) (
    Prg.tv (pbin (Kd.int IntKind.i64) BinOp.eql x3 (TV.lit (Value.int IntKind.i64 (2 : Int)))) fun v11 =>
    Prg.ite (asBool v11) (
      Prg.tv (pbin (Kd.int IntKind.i64) BinOp.eql y10 (TV.lit (Value.int IntKind.i64 (0 : Int)))) fun v12 =>
      Prg.ite (asBool v12) (
        Prg.ite (asBool x2) (
          Prg.call 41 [TV.agg [y6, y7, y8], y14] fun v13 =>
          Prg.chk (fitsAt zBool [v13] 0) (
          Prg.ite (asBool v13) (
            Prg.tv (pbin (Kd.int IntKind.i64) BinOp.eql y15 (TV.lit (Value.int IntKind.i64 (0 : Int)))) fun v14 =>
            Prg.ret v14) (
            Prg.ret (TV.lit (Value.bool false))))) (
          Prg.ret (TV.lit (Value.bool false)))) (
        Prg.ret (TV.lit (Value.bool false)))) (
      Prg.tv (pbin (Kd.int IntKind.i64) BinOp.eql x3 (TV.lit (Value.int IntKind.i64 (3 : Int)))) fun v15 =>
      Prg.ite (asBool v15) (
        Prg.ite (asBool x0) (
          Prg.ite (asBool x2) (
            Prg.call 41 [TV.agg [y6, y7, y8], y14] fun v16 =>
            Prg.chk (fitsAt zBool [v16] 0) (
            Prg.ite (asBool v16) (
              Prg.call 41 [TV.agg [y6, y7, y8], y15] fun v17 =>
              Prg.chk (fitsAt zBool [v17] 0) (
              Prg.ret v17)) (
              Prg.ret (TV.lit (Value.bool false))))) (
            Prg.ret (TV.lit (Value.bool false)))) (
          Prg.ret (TV.lit (Value.bool false)))) (
        Prg.tv (pbin (Kd.int IntKind.i64) BinOp.eql x3 (TV.lit (Value.int IntKind.i64 (4 : Int)))) fun v18 =>
        Prg.ite (asBool v18) (
          Prg.tv (pbin (Kd.int IntKind.i64) BinOp.eql y10 (TV.lit (Value.int IntKind.i64 (0 : Int)))) fun v19 =>
          Prg.ite (asBool v19) (
            Prg.ite (asBool x1) (
              Prg.call 42 [TV.agg [y5], TV.agg [y6, y7, y8], y12, y13] fun v20 =>
              Prg.chk (fitsAt zBool [v20] 0) (
              Prg.ite (asBool v20) (
                Prg.call 41 [TV.agg [y6, y7, y8], y14] fun v21 =>
                Prg.chk (fitsAt zBool [v21] 0) (
                Prg.ite (asBool v21) (
                  Prg.tv (pbin (Kd.int IntKind.i64) BinOp.eql y15 (TV.lit (Value.int IntKind.i64 (0 : Int)))) fun v22 =>
                  Prg.ite (asBool v22) (
                    Prg.tv (plen (Kd.slice 59) y8) fun v23 =>
                    Prg.call 40 [y16, v23] fun v24 =>
                    Prg.chk (fitsAt zBool [v24] 0) (
                    Prg.ite (asBool v24) (
                      Prg.tvs (pidx 14 y8 y16) fun e25 =>
                      Prg.chk (Nat.blt 0 (List.length e25)) (
                      Prg.ret (nth TV.hole e25 0))) (
                      Prg.ret (TV.lit (Value.bool false))))) (
                    Prg.ret (TV.lit (Value.bool false)))) (
                  Prg.ret (TV.lit (Value.bool false))))) (
                Prg.ret (TV.lit (Value.bool false))))) (
              Prg.ret (TV.lit (Value.bool false)))) (
            Prg.ret (TV.lit (Value.bool false)))) (
          Prg.tv (pbin (Kd.int IntKind.i64) BinOp.eql x3 (TV.lit (Value.int IntKind.i64 (6 : Int)))) fun v26 =>
          Prg.ite (asBool v26) (
            Prg.tv (pbin (Kd.int IntKind.i64) BinOp.eql y10 (TV.lit (Value.int IntKind.i64 (0 : Int)))) fun v27 =>
            Prg.ite (asBool v27) (
              Prg.ite (asBool x2) (
                Prg.tv (pbin (Kd.int IntKind.i64) BinOp.eql y14 (TV.lit (Value.int IntKind.i64 (0 : Int)))) fun v28 =>
                Prg.ite (asBool v28) (
                  Prg.tv (pbin (Kd.int IntKind.i64) BinOp.eql y15 (TV.lit (Value.int IntKind.i64 (0 : Int)))) fun v29 =>
                  Prg.ret v29) (
                  Prg.ret (TV.lit (Value.bool false)))) (
                Prg.ret (TV.lit (Value.bool false)))) (
              Prg.ret (TV.lit (Value.bool false)))) (
            Prg.ret (TV.lit (Value.bool false)))))))
theorem f34_MR (x0 x1 x2 : TV) : startQ prog 34 [x0, x1, x2] = f34_M x0 x1 x2 := by kernel_rfl
theorem f34_0_R  (x0 x1 x2 x3 y4 y5 y6 y7 y8 y9 y10 y11 y12 y13 y14 y15 : TV) : pieceQ prog 34 [1, 0, 1, 1, 1] (f34_0_S x0 x1 x2 x3 y4 y5 y6 y7 y8 y9 y10 y11 y12 y13 y14 y15) = f34_0 x0 x1 x2 x3 y4 y5 y6 y7 y8 y9 y10 y11 y12 y13 y14 y15 := by kernel_rfl
theorem f34_1_R  (x0 x1 x2 x3 x4 y5 y6 y7 y8 y9 y10 y11 y12 y13 y14 y15 y16 : TV) : pieceQ prog 34 [1, 0, 1, 0, 1, 1, 1] (f34_1_S x0 x1 x2 x3 x4 y5 y6 y7 y8 y9 y10 y11 y12 y13 y14 y15 y16) = f34_1 x0 x1 x2 x3 x4 y5 y6 y7 y8 y9 y10 y11 y12 y13 y14 y15 y16 := by kernel_rfl

theorem f34_run {x0 x1 x2 : TV} {r : TV} (h : Goes prog 34 (f34_M x0 x1 x2) r) : Runs prog 34 [x0, x1, x2] r := Runs.of (f34_MR x0 x1 x2) h
theorem f34_0_J  {x0 x1 x2 x3 y4 y5 y6 y7 y8 y9 y10 y11 y12 y13 y14 y15 : TV} {r : TV} (h : Goes prog 34 (f34_0 x0 x1 x2 x3 y4 y5 y6 y7 y8 y9 y10 y11 y12 y13 y14 y15) r) : Goes prog 34 (.jmp [1, 0, 1, 1, 1] (f34_0_S x0 x1 x2 x3 y4 y5 y6 y7 y8 y9 y10 y11 y12 y13 y14 y15)) r := Goes.jmp (f34_0_R x0 x1 x2 x3 y4 y5 y6 y7 y8 y9 y10 y11 y12 y13 y14 y15) h
theorem f34_1_J  {x0 x1 x2 x3 x4 y5 y6 y7 y8 y9 y10 y11 y12 y13 y14 y15 y16 : TV} {r : TV} (h : Goes prog 34 (f34_1 x0 x1 x2 x3 x4 y5 y6 y7 y8 y9 y10 y11 y12 y13 y14 y15 y16) r) : Goes prog 34 (.jmp [1, 0, 1, 0, 1, 1, 1] (f34_1_S x0 x1 x2 x3 x4 y5 y6 y7 y8 y9 y10 y11 y12 y13 y14 y15 y16)) r := Goes.jmp (f34_1_R x0 x1 x2 x3 x4 y5 y6 y7 y8 y9 y10 y11 y12 y13 y14 y15 y16) h
def f35_0_S  (x0 x1 x2 x3 x4 y5 y6 y7 y8 y9 y10 y11 y12 y13 y14 y15 : TV) : ASt := ⟨[AV.one CA.junk, AV.one CA.junk, AV.one CA.junk, AV.one (CA.ptr 0 0), AV.one (CA.ptr 1 0), AV.one (CA.ptr 2 0), AV.one CA.junk, AV.tv x0, AV.tv x1, AV.tv x2] ++ List.replicate 16 (AV.one CA.junk) ++ [AV.tv x3] ++ List.replicate 24 (AV.one CA.junk) ++ [AV.tv x4] ++ List.replicate 134 (AV.one CA.junk), [Option.some (BC.cells [CA.t y5]), Option.some (BC.cells [CA.t y6, CA.t y7, CA.t y8]), Option.some (BC.cells [CA.t y9, CA.t y10, CA.t y11, CA.t y12, CA.t y13, CA.t y14, CA.t y15])] ++ List.replicate 207 (Option.none), []⟩
def f35_1_S  (x0 x1 x2 x3 x4 y5 y6 y7 y8 y9 y10 y11 y12 y13 y14 y15 : TV) : ASt := ⟨[AV.one CA.junk, AV.one CA.junk, AV.one CA.junk, AV.one (CA.ptr 0 0), AV.one (CA.ptr 1 0), AV.one (CA.ptr 2 0), AV.one CA.junk, AV.tv x0, AV.tv x1, AV.tv x2] ++ List.replicate 16 (AV.one CA.junk) ++ [AV.tv x3] ++ List.replicate 45 (AV.one CA.junk) ++ [AV.tv x4] ++ List.replicate 113 (AV.one CA.junk), [Option.some (BC.cells [CA.t y5]), Option.some (BC.cells [CA.t y6, CA.t y7, CA.t y8]), Option.some (BC.cells [CA.t y9, CA.t y10, CA.t y11, CA.t y12, CA.t y13, CA.t y14, CA.t y15])] ++ List.replicate 207 (Option.none), []⟩
def f35_M (x0 x1 x2 : TV) : Prg TV :=
  Prg.chk (TV.isAgg x0 1) (
  Prg.chk (TV.isAgg x1 3) (
  Prg.chk (TV.isAgg x2 7) (
  Prg.call 40 [TV.cell x2 1, TV.cell x1 1] fun v0 =>
  Prg.chk (fitsAt zBool [v0] 0) (
  Prg.call 40 [TV.cell x2 2, TV.cell x1 1] fun v1 =>
  Prg.chk (fitsAt zBool [v1] 0) (
  Prg.call 40 [TV.cell x2 3, TV.cell x1 1] fun v2 =>
  Prg.chk (fitsAt zBool [v2] 0) (
  Prg.tv (pbin (Kd.int IntKind.i64) BinOp.eql (TV.cell x2 0) (TV.lit (Value.int IntKind.i64 (1 : Int)))) fun v3 =>
  Prg.ite (asBool v3) (
    Prg.ite (asBool v0) (
      Prg.tv (pbin (Kd.int IntKind.i64) BinOp.eql (TV.cell x2 2) (TV.lit (Value.int IntKind.i64 (0 : Int)))) fun v4 =>
      Prg.ite (asBool v4) (
        Prg.tv (pbin (Kd.int IntKind.i64) BinOp.eql (TV.cell x2 3) (TV.lit (Value.int IntKind.i64 (0 : Int)))) fun v5 =>
        Prg.ite (asBool v5) (
          Prg.tv (pbin (Kd.int IntKind.i64) BinOp.eql (TV.cell x2 5) (TV.lit (Value.int IntKind.i64 (0 : Int)))) fun v6 =>
          Prg.ite (asBool v6) (
            Prg.tv (plen (Kd.slice 3) (TV.cell x2 6)) fun v7 =>
            Prg.tv (pbin (Kd.int IntKind.i64) BinOp.eql v7 (TV.lit (Value.int IntKind.i64 (0 : Int)))) fun v8 =>
            Prg.ret v8) (
            Prg.ret (TV.lit (Value.bool false)))) (
          Prg.ret (TV.lit (Value.bool false)))) (
        Prg.ret (TV.lit (Value.bool false)))) (
      Prg.ret (TV.lit (Value.bool false)))) (
    Prg.tv (pbin (Kd.int IntKind.i64) BinOp.eql (TV.cell x2 0) (TV.lit (Value.int IntKind.i64 (2 : Int)))) fun v9 =>
    Prg.ite (asBool v9) (
      Prg.jmp [1, 1, 1, 0, 1, 0, 1, 1] (f35_0_S v0 v1 v2 (TV.cell x2 0) v9 (TV.cell x0 0) (TV.cell x1 0) (TV.cell x1 1) (TV.cell x1 2) (TV.cell x2 0) (TV.cell x2 1) (TV.cell x2 2) (TV.cell x2 3) (TV.cell x2 4) (TV.cell x2 5) (TV.cell x2 6))) (
      Prg.tv (pbin (Kd.int IntKind.i64) BinOp.eql (TV.cell x2 0) (TV.lit (Value.int IntKind.i64 (9 : Int)))) fun v10 =>
      Prg.jmp [1, 1, 1, 0, 1, 0, 1, 1] (f35_0_S v0 v1 v2 (TV.cell x2 0) v10 (TV.cell x0 0) (TV.cell x1 0) (TV.cell x1 1) (TV.cell x1 2) (TV.cell x2 0) (TV.cell x2 1) (TV.cell x2 2) (TV.cell x2 3) (TV.cell x2 4) (TV.cell x2 5) (TV.cell x2 6))))))))))
-- [1, 1, 1, 0, 1, 0, 1, 1]
def f35_0  (x0 x1 x2 x3 x4 y5 y6 y7 y8 y9 y10 y11 y12 y13 y14 y15 : TV) : Prg TV :=
  Prg.ite (asBool x4) (
    Prg.ite (asBool x0) (
      Prg.ite (asBool x1) (
        Prg.tv (pbin (Kd.int IntKind.i64) BinOp.eql y12 (TV.lit (Value.int IntKind.i64 (0 : Int)))) fun v11 =>
        Prg.ite (asBool v11) (
          Prg.call 43 [y13, y14, y15] fun v12 =>
          Prg.chk (fitsAt zBool [v12] 0) (
          Prg.ret v12)) (
          Prg.ret (TV.lit (Value.bool false)))) (
        Prg.ret (TV.lit (Value.bool false)))) (
      Prg.ret (TV.lit (Value.bool false)))) (
    Prg.tv (pbin (Kd.int IntKind.i64) BinOp.eql x3 (TV.lit (Value.int IntKind.i64 (3 : Int)))) fun v13 =>
    Prg.ite (asBool v13) (
      Prg.jmp [1, 1, 1, 1, 1, 0, 1, 0, 1, 1] (f35_1_S x0 x1 x2 x3 v13 y5 y6 y7 y8 y9 y10 y11 y12 y13 y14 y15)) (
      Prg.tv (pbin (Kd.int IntKind.i64) BinOp.eql x3 (TV.lit (Value.int IntKind.i64 (4 : Int)))) fun v14 =>
      Prg.ite (asBool v14) (
        Prg.jmp [1, 1, 1, 1, 1, 0, 1, 0, 1, 1] (f35_1_S x0 x1 x2 x3 v14 y5 y6 y7 y8 y9 y10 y11 y12 y13 y14 y15)) (
        Prg.tv (pbin (Kd.int IntKind.i64) BinOp.eql x3 (TV.lit (Value.int IntKind.i64 (5 : Int)))) fun v15 =>
        Prg.ite (asBool v15) (
          Prg.jmp [1, 1, 1, 1, 1, 0, 1, 0, 1, 1] (f35_1_S x0 x1 x2 x3 v15 y5 y6 y7 y8 y9 y10 y11 y12 y13 y14 y15)) (
          Prg.tv (pbin (Kd.int IntKind.i64) BinOp.eql x3 (TV.lit (Value.int IntKind.i64 (6 : Int)))) fun v16 =>
          Prg.ite (asBool v16) (
            Prg.jmp [1, 1, 1, 1, 1, 0, 1, 0, 1, 1] (f35_1_S x0 x1 x2 x3 v16 y5 y6 y7 y8 y9 y10 y11 y12 y13 y14 y15)) (
            Prg.tv (pbin (Kd.int IntKind.i64) BinOp.eql x3 (TV.lit (Value.int IntKind.i64 (7 : Int)))) fun v17 =>
            Prg.ite (asBool v17) (
              Prg.jmp [1, 1, 1, 1, 1, 0, 1, 0, 1, 1] (f35_1_S x0 x1 x2 x3 v17 y5 y6 y7 y8 y9 y10 y11 y12 y13 y14 y15)) (
              Prg.tv (pbin (Kd.int IntKind.i64) BinOp.eql x3 (TV.lit (Value.int IntKind.i64 (8 : Int)))) fun v18 =>
              Prg.jmp [1, 1, 1, 1, 1, 0, 1, 0, 1, 1] (f35_1_S x0 x1 x2 x3 v18 y5 y6 y7 y8 y9 y10 y11 y12 y13 y14 y15)))))))
-- [1, 1, 1, 1, 1, 0, 1, 0, 1, 1]
def f35_1  (x0 x1 x2 x3 x4 y5 y6 y7 y8 y9 y10 y11 y12 y13 y14 y15 : TV) : Prg TV :=
  Prg.ite (asBool x4) (
    Prg.ite (asBool x0) (
      Prg.ite (asBool x1) (
        Prg.ite (asBool x2) (
          Prg.call 43 [y13, y14, y15] fun v19 =>
          Prg.chk (fitsAt zBool [v19] 0) (
          Prg.ret v19)) (
          Prg.ret (TV.lit (Value.bool false)))) (
        Prg.ret (TV.lit (Value.bool false)))) (
      Prg.ret (TV.lit (Value.bool false)))) (
    Prg.tv (pbin (Kd.int IntKind.i64) BinOp.eql x3 (TV.lit (Value.int IntKind.i64 (10 : Int)))) fun v20 =>
    Prg.ite (asBool v20) (
      Prg.tv (pbin (Kd.int IntKind.i64) BinOp.eql y10 (TV.lit (Value.int IntKind.i64 (0 : Int)))) fun v21 =>
      Prg.ite (asBool v21) (
        Prg.ite (asBool x1) (
          Prg.ite (asBool x2) (
            Prg.call 43 [y13, y14, y15] fun v22 =>
            Prg.chk (fitsAt zBool [v22] 0) (
            Prg.ret v22)) (
            Prg.ret (TV.lit (Value.bool false)))) (
          Prg.ret (TV.lit (Value.bool false)))) (
        Prg.ret (TV.lit (Value.bool false)))) (
      Prg.tv (pbin (Kd.int IntKind.i64) BinOp.eql x3 (TV.lit (Value.int IntKind.i64 (11 : Int)))) fun v23 =>
      Prg.ite (asBool v23) (
        Prg.ite (asBool x0) (
          Prg.tv (pbin (Kd.int IntKind.i64) BinOp.eql y11 (TV.lit (Value.int IntKind.i64 (0 : Int)))) fun v24 =>
          Prg.ite (asBool v24) (
            Prg.tv (pbin (Kd.int IntKind.i64) BinOp.eql y12 (TV.lit (Value.int IntKind.i64 (0 : Int)))) fun v25 =>
            Prg.ite (asBool v25) (
              Prg.tv (pbin (Kd.int IntKind.u16) BinOp.eql y13 (TV.lit (Value.int IntKind.u16 (0 : Int)))) fun v26 =>
              Prg.ite (asBool v26) (
                Prg.call 42 [TV.agg [y5], TV.agg [y6, y7, y8], y14, y15] fun v27 =>
                Prg.chk (fitsAt zBool [v27] 0) (
                Prg.ret v27)) (
                Prg.ret (TV.lit (Value.bool false)))) (
              Prg.ret (TV.lit (Value.bool false)))) (
            Prg.ret (TV.lit (Value.bool false)))) (
          Prg.ret (TV.lit (Value.bool false)))) (
        Prg.tv (pbin (Kd.int IntKind.i64) BinOp.eql x3 (TV.lit (Value.int IntKind.i64 (12 : Int)))) fun v28 =>
        Prg.ite (asBool v28) (
          Prg.tv (pbin (Kd.int IntKind.i64) BinOp.eql y10 (TV.lit (Value.int IntKind.i64 (0 : Int)))) fun v29 =>
          Prg.ite (asBool v29) (
            Prg.ite (asBool x1) (
              Prg.tv (pbin (Kd.int IntKind.i64) BinOp.eql y12 (TV.lit (Value.int IntKind.i64 (0 : Int)))) fun v30 =>
              Prg.ite (asBool v30) (
                Prg.call 43 [y13, y14, y15] fun v31 =>
                Prg.chk (fitsAt zBool [v31] 0) (
                Prg.ret v31)) (
                Prg.ret (TV.lit (Value.bool false)))) (
              Prg.ret (TV.lit (Value.bool false)))) (
            Prg.ret (TV.lit (Value.bool false)))) (
          Prg.tv (pbin (Kd.int IntKind.i64) BinOp.eql x3 (TV.lit (Value.int IntKind.i64 (13 : Int)))) fun v32 =>
          Prg.ite (asBool v32) (
            Prg.ite (asBool x0) (
              Prg.tv (pbin (Kd.int IntKind.i64) BinOp.eql y11 (TV.lit (Value.int IntKind.i64 (0 : Int)))) fun v33 =>
              Prg.ite (asBool v33) (
                Prg.tv (pbin (Kd.int IntKind.i64) BinOp.eql y12 (TV.lit (Value.int IntKind.i64 (0 : Int)))) fun v34 =>
                Prg.ite (asBool v34) (
                  Prg.call 43 [y13, y14, y15] fun v35 =>
                  Prg.chk (fitsAt zBool [v35] 0) (
                  Prg.ret v35)) (
                  Prg.ret (TV.lit (Value.bool false)))) (
                Prg.ret (TV.lit (Value.bool false)))) (
              Prg.ret (TV.lit (Value.bool false)))) (
            Prg.ret (TV.lit (Value.bool false)))))))
theorem f35_MR (x0 x1 x2 : TV) : startQ prog 35 [x0, x1, x2] = f35_M x0 x1 x2 := by kernel_rfl
theorem f35_0_R  (x0 x1 x2 x3 x4 y5 y6 y7 y8 y9 y10 y11 y12 y13 y14 y15 : TV) : pieceQ prog 35 [1, 1, 1, 0, 1, 0, 1, 1] (f35_0_S x0 x1 x2 x3 x4 y5 y6 y7 y8 y9 y10 y11 y12 y13 y14 y15) = f35_0 x0 x1 x2 x3 x4 y5 y6 y7 y8 y9 y10 y11 y12 y13 y14 y15 := by kernel_rfl
theorem f35_1_R  (x0 x1 x2 x3 x4 y5 y6 y7 y8 y9 y10 y11 y12 y13 y14 y15 : TV) : pieceQ prog 35 [1, 1, 1, 1, 1, 0, 1, 0, 1, 1] (f35_1_S x0 x1 x2 x3 x4 y5 y6 y7 y8 y9 y10 y11 y12 y13 y14 y15) = f35_1 x0 x1 x2 x3 x4 y5 y6 y7 y8 y9 y10 y11 y12 y13 y14 y15 := by kernel_rfl

theorem f35_run {x0 x1 x2 : TV} {r : TV} (h : Goes prog 35 (f35_M x0 x1 x2) r) : Runs prog 35 [x0, x1, x2] r := Runs.of (f35_MR x0 x1 x2) h
theorem f35_0_J  {x0 x1 x2 x3 x4 y5 y6 y7 y8 y9 y10 y11 y12 y13 y14 y15 : TV} {r : TV} (h : Goes prog 35 (f35_0 x0 x1 x2 x3 x4 y5 y6 y7 y8 y9 y10 y11 y12 y13 y14 y15) r) : Goes prog 35 (.jmp [1, 1, 1, 0, 1, 0, 1, 1] (f35_0_S x0 x1 x2 x3 x4 y5 y6 y7 y8 y9 y10 y11 y12 y13 y14 y15)) r := Goes.jmp (f35_0_R x0 x1 x2 x3 x4 y5 y6 y7 y8 y9 y10 y11 y12 y13 y14 y15) h
theorem f35_1_J  {x0 x1 x2 x3 x4 y5 y6 y7 y8 y9 y10 y11 y12 y13 y14 y15 : TV} {r : TV} (h : Goes prog 35 (f35_1 x0 x1 x2 x3 x4 y5 y6 y7 y8 y9 y10 y11 y12 y13 y14 y15) r) : Goes prog 35 (.jmp [1, 1, 1, 1, 1, 0, 1, 0, 1, 1] (f35_1_S x0 x1 x2 x3 x4 y5 y6 y7 y8 y9 y10 y11 y12 y13 y14 y15)) r := Goes.jmp (f35_1_R x0 x1 x2 x3 x4 y5 y6 y7 y8 y9 y10 y11 y12 y13 y14 y15) h
def f36_M (x0 : TV) : Prg TV :=
  Prg.call 44 [x0] fun v0 =>
  Prg.chk (fitsAt zBool [v0] 0) (
  Prg.ite (asBool v0) (
    Prg.tv (pbin (Kd.int IntKind.i64) BinOp.neq x0 (TV.lit (Value.int IntKind.i64 (2 : Int)))) fun v1 =>
    Prg.ret v1) (
    Prg.ret (TV.lit (Value.bool false))))
theorem f36_MR (x0 : TV) : startQ prog 36 [x0] = f36_M x0 := by kernel_rfl

theorem f36_run {x0 : TV} {r : TV} (h : Goes prog 36 (f36_M x0) r) : Runs prog 36 [x0] r := Runs.of (f36_MR x0) h
def f37_M (x0 x1 x2 : TV) : Prg TV :=
  Prg.tv (pbin (Kd.int IntKind.i64) BinOp.eql x0 (TV.lit (Value.int IntKind.i64 (2 : Int)))) fun v0 =>
  Prg.ite (asBool v0) (
    Prg.ret (TV.tup [x1, TV.lit (Value.bool true)])) (
    Prg.tv (pbin (Kd.int IntKind.i64) BinOp.eql x0 (TV.lit (Value.int IntKind.i64 (3 : Int)))) fun v1 =>
    Prg.ite (asBool v1) (
      Prg.tv (pbin (Kd.int IntKind.u16) BinOp.add x1 x2) fun v2 =>
      Prg.ret (TV.tup [v2, TV.lit (Value.bool true)])) (
      Prg.tv (pbin (Kd.int IntKind.i64) BinOp.eql x0 (TV.lit (Value.int IntKind.i64 (4 : Int)))) fun v3 =>
      Prg.ite (asBool v3) (
        Prg.tv (pbin (Kd.int IntKind.u16) BinOp.sub x1 x2) fun v4 =>
        Prg.ret (TV.tup [v4, TV.lit (Value.bool true)])) (
        Prg.tv (pbin (Kd.int IntKind.i64) BinOp.eql x0 (TV.lit (Value.int IntKind.i64 (5 : Int)))) fun v5 =>
        Prg.ite (asBool v5) (
          Prg.tv (pbin (Kd.int IntKind.u16) BinOp.mul x1 x2) fun v6 =>
          Prg.ret (TV.tup [v6, TV.lit (Value.bool true)])) (
          Prg.tv (pbin (Kd.int IntKind.i64) BinOp.eql x0 (TV.lit (Value.int IntKind.i64 (6 : Int)))) fun v7 =>
          Prg.ite (asBool v7) (
            Prg.call 45 [x1, x2] fun v8 =>
            Prg.chk (TV.isTup v8 2) (
            Prg.chk (fitsAt zWord [TV.comp v8 0] 0) (
            Prg.chk (fitsAt zBool [TV.comp v8 1] 0) (
            Prg.ret (TV.tup [TV.comp v8 0, TV.comp v8 1]))))) (
            Prg.tv (pbin (Kd.int IntKind.i64) BinOp.eql x0 (TV.lit (Value.int IntKind.i64 (7 : Int)))) fun v9 =>
            Prg.ite (asBool v9) (
              Prg.tv (pbin (Kd.int IntKind.u16) BinOp.eql x1 x2) fun v10 =>
              Prg.call 46 [v10] fun v11 =>
              Prg.chk (fitsAt zWord [v11] 0) (
              Prg.ret (TV.tup [v11, TV.lit (Value.bool true)]))) (
              Prg.tv (pbin (Kd.int IntKind.i64) BinOp.eql x0 (TV.lit (Value.int IntKind.i64 (8 : Int)))) fun v12 =>
              Prg.ite (asBool v12) (
                Prg.tv (pbin (Kd.int IntKind.u16) BinOp.lss x1 x2) fun v13 =>
                Prg.call 46 [v13] fun v14 =>
                Prg.chk (fitsAt zWord [v14] 0) (
                Prg.ret (TV.tup [v14, TV.lit (Value.bool true)]))) (
                Prg.ret (TV.tup [TV.lit (Value.int IntKind.u16 (0 : Int)), TV.lit (Value.bool false)]))))))))
theorem f37_MR (x0 x1 x2 : TV) : startQ prog 37 [x0, x1, x2] = f37_M x0 x1 x2 := by kernel_rfl

theorem f37_run {x0 x1 x2 : TV} {r : TV} (h : Goes prog 37 (f37_M x0 x1 x2) r) : Runs prog 37 [x0, x1, x2] r := Runs.of (f37_MR x0 x1 x2) h
def f38_0_S  (x0 x1 x2 x3 : TV) : ASt := ⟨[AV.tv x0, AV.tv x1] ++ List.replicate 5 (AV.one CA.junk) ++ [AV.tv x2, AV.tv x3] ++ List.replicate 10 (AV.one CA.junk), List.replicate 43 (Option.none), []⟩
def f38_M (x0 x1 : TV) : Prg TV :=
  Prg.tv (plen (Kd.slice 26) x0) fun v0 =>
  Prg.jmp [0, 0, 1, 0, 1] (f38_0_S x0 x1 v0 (TV.lit (Value.int IntKind.i64 (0 : Int))))
-- [0, 0, 1, 0, 1]
def f38_0  (x0 x1 x2 x3 : TV) : Prg TV :=
  Prg.tv (pbin (Kd.int IntKind.i64) BinOp.lss x3 x2) fun v1 =>
  Prg.ite (asBool v1) (
    Prg.tvs (pidx 1 x0 x3) fun e2 =>
    Prg.chk (Nat.blt 0 (List.length e2)) (
    Prg.tv (pbin (Kd.int IntKind.u16) BinOp.eql x1 (nth TV.hole e2 0)) fun v3 =>
    Prg.ite (asBool v3) (
      Prg.ret x3) (
      Prg.tv (pbin (Kd.int IntKind.i64) BinOp.add x3 (TV.lit (Value.int IntKind.i64 (1 : Int)))) fun v4 =>
      Prg.jmp [0, 0, 1, 0, 1] (f38_0_S x0 x1 x2 v4)))) (
    Prg.ret (TV.lit (Value.int IntKind.i64 (-1))))
theorem f38_MR (x0 x1 : TV) : startQ prog 38 [x0, x1] = f38_M x0 x1 := by kernel_rfl
theorem f38_0_R  (x0 x1 x2 x3 : TV) : pieceQ prog 38 [0, 0, 1, 0, 1] (f38_0_S x0 x1 x2 x3) = f38_0 x0 x1 x2 x3 := by kernel_rfl

theorem f38_run {x0 x1 : TV} {r : TV} (h : Goes prog 38 (f38_M x0 x1) r) : Runs prog 38 [x0, x1] r := Runs.of (f38_MR x0 x1) h
theorem f38_0_J  {x0 x1 x2 x3 : TV} {r : TV} (h : Goes prog 38 (f38_0 x0 x1 x2 x3) r) : Goes prog 38 (.jmp [0, 0, 1, 0, 1] (f38_0_S x0 x1 x2 x3)) r := Goes.jmp (f38_0_R x0 x1 x2 x3) h
def f39_0_S  (x0 x1 x2 y3 y4 y5 y6 y7 y8 y9 y10 y11 y12 y13 y14 y15 y16 y17 y18 y19 y20 : TV) : ASt := ⟨[AV.one CA.junk, AV.one CA.junk, AV.one (CA.ptr 0 0), AV.one (CA.ptr 1 0)] ++ List.replicate 17 (AV.one CA.junk) ++ [AV.tv x0, AV.tv x1, AV.tv x2] ++ List.replicate 12 (AV.one CA.junk), [Option.some (BC.cells [CA.t y3, CA.t y4, CA.t y5, CA.t y6]), Option.some (BC.cells [CA.t y7, CA.t y8, CA.t y9, CA.t y10, CA.t y11, CA.t y12, CA.t y13, CA.t y14, CA.t y15, CA.t y16, CA.t y17, CA.t y18, CA.t y19, CA.t y20])] ++ List.replicate 58 (Option.none), []⟩
def f39_1_S  (y0 y1 y2 y3 y4 y5 y6 y7 y8 y9 y10 y11 y12 y13 y14 y15 y16 y17 : TV) : ASt := ⟨[AV.one CA.junk, AV.one CA.junk, AV.one (CA.ptr 0 0), AV.one (CA.ptr 1 0)] ++ List.replicate 32 (AV.one CA.junk), [Option.some (BC.cells [CA.t y0, CA.t y1, CA.t y2, CA.t y3]), Option.some (BC.cells [CA.t y4, CA.t y5, CA.t y6, CA.t y7, CA.t y8, CA.t y9, CA.t y10, CA.t y11, CA.t y12, CA.t y13, CA.t y14, CA.t y15, CA.t y16, CA.t y17])] ++ List.replicate 58 (Option.none), []⟩
def f39_M (x0 x1 : TV) : Prg TV :=
  Prg.chk (TV.isAgg x0 4) (
  Prg.chk (TV.isAgg x1 14) (
  Prg.tv (plen (Kd.slice 43) (TV.cell x1 5)) fun v0 =>
  Prg.tv (pbin (Kd.int IntKind.i64) BinOp.gtr v0 (TV.lit (Value.int IntKind.i64 (64 : Int)))) fun v1 =>
  Prg.ite (asBool v1) (
    Prg.ret (TV.lit (Value.bool false))) (
    Prg.call 47 [TV.agg [TV.cell x0 0, TV.cell x0 1, TV.cell x0 2, TV.cell x0 3], TV.cell x1 0, TV.agg [TV.cell x1 1, TV.cell x1 2, TV.cell x1 3, TV.cell x1 4]] fun v2 =>
    Prg.chk (fitsAt zBool [v2] 0) (
    Prg.tv (pun UnOp.not v2) fun v3 =>
    Prg.ite (asBool v3) (
      Prg.ret (TV.lit (Value.bool false))) (
      Prg.tv (plen (Kd.slice 43) (TV.cell x1 5)) fun v4 =>
      Prg.jmp [0, 0, 1, 0, 1, 1] (f39_0_S (TV.cell x1 5) v4 (TV.lit (Value.int IntKind.i64 (0 : Int))) (TV.cell x0 0) (TV.cell x0 1) (TV.cell x0 2) (TV.cell x0 3) (TV.cell x1 0) (TV.cell x1 1) (TV.cell x1 2) (TV.cell x1 3) (TV.cell x1 4) (TV.cell x1 5) (TV.cell x1 6) (TV.cell x1 7) (TV.cell x1 8) (TV.cell x1 9) (TV.cell x1 10) (TV.cell x1 11) (TV.cell x1 12) (TV.cell x1 13)))))))
-- [0, 0, 1, 0, 1, 1]
def f39_0  (x0 x1 x2 y3 y4 y5 y6 y7 y8 y9 y10 y11 y12 y13 y14 y15 y16 y17 y18 y19 y20 : TV) : Prg TV :=
  Prg.tv (pbin (Kd.int IntKind.i64) BinOp.lss x2 x1) fun v5 =>
  Prg.ite (asBool v5) (
    Prg.tvs (pidx 7 x0 x2) fun e6 =>
    Prg.chk (Nat.ble 7 (List.length e6)) (
    Prg.call 48 [TV.agg [y3, y4, y5, y6], TV.agg [nth TV.hole e6 0, nth TV.hole e6 1, nth TV.hole e6 2, nth TV.hole e6 3, nth TV.hole e6 4, nth TV.hole e6 5, nth TV.hole e6 6]] fun v7 =>
    Prg.chk (fitsAt zBool [v7] 0) (
    Prg.tv (pun UnOp.not v7) fun v8 =>
    Prg.ite (asBool v8) (
      Prg.ret (TV.lit (Value.bool false))) (
      Prg.tv (pbin (Kd.int IntKind.i64) BinOp.add x2 (TV.lit (Value.int IntKind.i64 (1 : Int)))) fun v9 =>
      Prg.jmp [0, 0, 1, 0, 1, 1] (f39_0_S x0 x1 v9 y3 y4 y5 y6 y7 y8 y9 y10 y11 y12 y13 y14 y15 y16 y17 y18 y19 y20))))) (
    Prg.jmp [1, 1, 1] (f39_1_S y3 y4 y5 y6 y7 y8 y9 y10 y11 y12 y13 y14 y15 y16 y17 y18 y19 y20))
-- [1, 1, 1]
def f39_1  (y0 y1 y2 y3 y4 y5 y6 y7 y8 y9 y10 y11 y12 y13 y14 y15 y16 y17 : TV) : Prg TV :=
  Prg.call 49 [TV.agg [y0, y1, y2, y3], TV.agg [y10, y11, y12, y13, y14, y15, y16, y17]] fun v10 =>
  Prg.chk (fitsAt zBool [v10] 0) (
  Prg.ret v10)
theorem f39_MR (x0 x1 : TV) : startQ prog 39 [x0, x1] = f39_M x0 x1 := by kernel_rfl
theorem f39_0_R  (x0 x1 x2 y3 y4 y5 y6 y7 y8 y9 y10 y11 y12 y13 y14 y15 y16 y17 y18 y19 y20 : TV) : pieceQ prog 39 [0, 0, 1, 0, 1, 1] (f39_0_S x0 x1 x2 y3 y4 y5 y6 y7 y8 y9 y10 y11 y12 y13 y14 y15 y16 y17 y18 y19 y20) = f39_0 x0 x1 x2 y3 y4 y5 y6 y7 y8 y9 y10 y11 y12 y13 y14 y15 y16 y17 y18 y19 y20 := by kernel_rfl
theorem f39_1_R  (y0 y1 y2 y3 y4 y5 y6 y7 y8 y9 y10 y11 y12 y13 y14 y15 y16 y17 : TV) : pieceQ prog 39 [1, 1, 1] (f39_1_S y0 y1 y2 y3 y4 y5 y6 y7 y8 y9 y10 y11 y12 y13 y14 y15 y16 y17) = f39_1 y0 y1 y2 y3 y4 y5 y6 y7 y8 y9 y10 y11 y12 y13 y14 y15 y16 y17 := by kernel_rfl

theorem f39_run {x0 x1 : TV} {r : TV} (h : Goes prog 39 (f39_M x0 x1) r) : Runs prog 39 [x0, x1] r := Runs.of (f39_MR x0 x1) h
theorem f39_0_J  {x0 x1 x2 y3 y4 y5 y6 y7 y8 y9 y10 y11 y12 y13 y14 y15 y16 y17 y18 y19 y20 : TV} {r : TV} (h : Goes prog 39 (f39_0 x0 x1 x2 y3 y4 y5 y6 y7 y8 y9 y10 y11 y12 y13 y14 y15 y16 y17 y18 y19 y20) r) : Goes prog 39 (.jmp [0, 0, 1, 0, 1, 1] (f39_0_S x0 x1 x2 y3 y4 y5 y6 y7 y8 y9 y10 y11 y12 y13 y14 y15 y16 y17 y18 y19 y20)) r := Goes.jmp (f39_0_R x0 x1 x2 y3 y4 y5 y6 y7 y8 y9 y10 y11 y12 y13 y14 y15 y16 y17 y18 y19 y20) h
theorem f39_1_J  {y0 y1 y2 y3 y4 y5 y6 y7 y8 y9 y10 y11 y12 y13 y14 y15 y16 y17 : TV} {r : TV} (h : Goes prog 39 (f39_1 y0 y1 y2 y3 y4 y5 y6 y7 y8 y9 y10 y11 y12 y13 y14 y15 y16 y17) r) : Goes prog 39 (.jmp [1, 1, 1] (f39_1_S y0 y1 y2 y3 y4 y5 y6 y7 y8 y9 y10 y11 y12 y13 y14 y15 y16 y17)) r := Goes.jmp (f39_1_R y0 y1 y2 y3 y4 y5 y6 y7 y8 y9 y10 y11 y12 y13 y14 y15 y16 y17) h
def f40_M (x0 x1 : TV) : Prg TV :=
  Prg.tv (pbin (Kd.int IntKind.i64) BinOp.geq x0 (TV.lit (Value.int IntKind.i64 (0 : Int)))) fun v0 =>
  Prg.ite (asBool v0) (
    Prg.tv (pbin (Kd.int IntKind.i64) BinOp.lss x0 x1) fun v1 =>
    Prg.ret v1) (
    Prg.ret (TV.lit (Value.bool false)))
theorem f40_MR (x0 x1 : TV) : startQ prog 40 [x0, x1] = f40_M x0 x1 := by kernel_rfl

theorem f40_run {x0 x1 : TV} {r : TV} (h : Goes prog 40 (f40_M x0 x1) r) : Runs prog 40 [x0, x1] r := Runs.of (f40_MR x0 x1) h
def f41_M (x0 x1 : TV) : Prg TV :=
  Prg.chk (TV.isAgg x0 3) (
  Prg.tv (plen (Kd.slice 59) (TV.cell x0 2)) fun v0 =>
  Prg.call 40 [x1, v0] fun v1 =>
  Prg.chk (fitsAt zBool [v1] 0) (
  Prg.ite (asBool v1) (
    Prg.tvs (pidx 14 (TV.cell x0 2) x1) fun e2 =>
    Prg.chk (Nat.blt 0 (List.length e2)) (
    Prg.tv (pun UnOp.not (nth TV.hole e2 0)) fun v3 =>
    Prg.ret v3)) (
    Prg.ret (TV.lit (Value.bool false)))))
theorem f41_MR (x0 x1 : TV) : startQ prog 41 [x0, x1] = f41_M x0 x1 := by kernel_rfl

theorem f41_run {x0 x1 : TV} {r : TV} (h : Goes prog 41 (f41_M x0 x1) r) : Runs prog 41 [x0, x1] r := Runs.of (f41_MR x0 x1) h
end Go.Ab.G5

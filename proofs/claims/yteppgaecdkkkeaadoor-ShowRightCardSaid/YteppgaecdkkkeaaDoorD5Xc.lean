import Derived.Test.YteppgaecdkkkeaaDoorD5T
import Derived.Test.YteppgaecdkkkeaaDoorF0
set_option linter.unusedVariables false
set_option maxRecDepth 100000
namespace Go.Ab.D5
open Go Go.Ab Go.Proofs
def f40_0_S  (x0 x1 x2 y3 y4 y5 y6 : TV) : ASt := ⟨List.replicate 5 (AV.one CA.junk) ++ [AV.one (CA.ptr 0 0)] ++ List.replicate 44 (AV.one CA.junk) ++ [AV.tv x0, AV.tv x1, AV.tv x2] ++ List.replicate 8 (AV.one CA.junk), [Option.some (BC.cells [CA.t y3, CA.t y4, CA.t y5, CA.t y6])] ++ List.replicate 84 (Option.none), []⟩
def f40_M (x0 x1 : TV) : Prg TV :=
  Prg.chk (TV.isAgg x0 1) (
  Prg.chk (TV.isAgg x1 3) (
  Prg.tv (pbin (Kd.int IntKind.i64) BinOp.lss (TV.cell x1 0) (TV.lit (Value.int IntKind.i64 (0 : Int)))) fun v0 =>
  Prg.ite (asBool v0) (
    Prg.ret (TV.lit (Value.bool false))) (
    Prg.tv (pbin (Kd.int IntKind.i64) BinOp.gtr (TV.cell x1 0) (TV.lit (Value.int IntKind.i64 (8 : Int)))) fun v1 =>
    Prg.ite (asBool v1) (
      Prg.ret (TV.lit (Value.bool false))) (
      Prg.tv (pbin (Kd.int IntKind.i64) BinOp.lss (TV.cell x1 1) (TV.cell x1 0)) fun v2 =>
      Prg.ite (asBool v2) (
        Prg.ret (TV.lit (Value.bool false))) (
        Prg.tv (pbin (Kd.int IntKind.i64) BinOp.gtr (TV.cell x1 1) (TV.lit (Value.int IntKind.i64 (256 : Int)))) fun v3 =>
        Prg.ite (asBool v3) (
          Prg.ret (TV.lit (Value.bool false))) (
          Prg.tv (plen (Kd.slice 56) (TV.cell x1 2)) fun v4 =>
          Prg.tv (pbin (Kd.int IntKind.i64) BinOp.lss v4 (TV.lit (Value.int IntKind.i64 (1 : Int)))) fun v5 =>
          Prg.ite (asBool v5) (
            Prg.ret (TV.lit (Value.bool false))) (
            Prg.tv (plen (Kd.slice 56) (TV.cell x1 2)) fun v6 =>
            Prg.tv (pbin (Kd.int IntKind.i64) BinOp.gtr v6 (TV.lit (Value.int IntKind.i64 (64 : Int)))) fun v7 =>
            Prg.ite (asBool v7) (
              Prg.ret (TV.lit (Value.bool false))) (
              Prg.tvs (pidx 14 (TV.cell x1 2) (TV.lit (Value.int IntKind.i64 (0 : Int)))) fun e8 =>
              Prg.chk (Nat.blt 0 (List.length e8)) (
              Prg.ite (asBool (nth TV.hole e8 0)) (
                Prg.ret (TV.lit (Value.bool false))) (
                Prg.tv (plen (Kd.slice 56) (TV.cell x1 2)) fun v9 =>
                Prg.jmp [0, 0, 1, 0, 1, 1, 1, 1] (f40_0_S (TV.cell x1 2) v9 (TV.lit (Value.int IntKind.i64 (0 : Int))) (TV.cell x0 0) (TV.cell x1 0) (TV.cell x1 1) (TV.cell x1 2))))))))))))
-- [0, 0, 1, 0, 1, 1, 1, 1]
def f40_0  (x0 x1 x2 y3 y4 y5 y6 : TV) : Prg TV :=
  Prg.tv (pbin (Kd.int IntKind.i64) BinOp.lss x2 x1) fun v10 =>
  Prg.ite (asBool v10) (
    Prg.tvs (pidx 14 x0 x2) fun e11 =>
    Prg.chk (Nat.ble 14 (List.length e11)) (
    Prg.call 51 [TV.agg [y3, y4, y5, y6], TV.agg [nth TV.hole e11 0, nth TV.hole e11 1, nth TV.hole e11 2, nth TV.hole e11 3, nth TV.hole e11 4, nth TV.hole e11 5, nth TV.hole e11 6, nth TV.hole e11 7, nth TV.hole e11 8, nth TV.hole e11 9, nth TV.hole e11 10, nth TV.hole e11 11, nth TV.hole e11 12, nth TV.hole e11 13]] fun v12 =>
    Prg.chk (fitsAt zBool [v12] 0) (
    Prg.tv (pun UnOp.not v12) fun v13 =>
    Prg.ite (asBool v13) (
      Prg.ret (TV.lit (Value.bool false))) (
      Prg.tv (pbin (Kd.int IntKind.i64) BinOp.add x2 (TV.lit (Value.int IntKind.i64 (1 : Int)))) fun v14 =>
      Prg.jmp [0, 0, 1, 0, 1, 1, 1, 1] (f40_0_S x0 x1 v14 y3 y4 y5 y6))))) (
    Prg.ret (TV.lit (Value.bool true)))
theorem f40_MR (x0 x1 : TV) : startQ prog 40 [x0, x1] = f40_M x0 x1 := by kernel_rfl
theorem f40_0_R  (x0 x1 x2 y3 y4 y5 y6 : TV) : pieceQ prog 40 [0, 0, 1, 0, 1, 1, 1, 1] (f40_0_S x0 x1 x2 y3 y4 y5 y6) = f40_0 x0 x1 x2 y3 y4 y5 y6 := by kernel_rfl

theorem f40_run {x0 x1 : TV} {r : TV} (h : Goes prog 40 (f40_M x0 x1) r) : Runs prog 40 [x0, x1] r := Runs.of (f40_MR x0 x1) h
theorem f40_0_J  {x0 x1 x2 y3 y4 y5 y6 : TV} {r : TV} (h : Goes prog 40 (f40_0 x0 x1 x2 y3 y4 y5 y6) r) : Goes prog 40 (.jmp [0, 0, 1, 0, 1, 1, 1, 1] (f40_0_S x0 x1 x2 y3 y4 y5 y6)) r := Goes.jmp (f40_0_R x0 x1 x2 y3 y4 y5 y6) h
def f44_0_S  (x0 y1 y2 y3 y4 : TV) : ASt := ⟨[AV.one CA.junk, AV.one CA.junk, AV.one (CA.ptr 0 0), AV.one (CA.ptr 1 0), AV.one CA.junk, AV.tv x0] ++ List.replicate 87 (AV.one CA.junk), [Option.some (BC.cells [CA.t y1]), Option.some (BC.cells [CA.t y2, CA.t y3, CA.t y4])] ++ List.replicate 115 (Option.none), []⟩
def f44_1_S  (x0 x1 y2 y3 y4 y5 y6 y7 y8 y9 y10 y11 y12 y13 y14 y15 y16 y17 y18 y19 : TV) : ASt := ⟨[AV.one CA.junk, AV.one CA.junk, AV.one (CA.ptr 0 0), AV.one (CA.ptr 1 0), AV.one CA.junk, AV.tv x0, AV.one (CA.ptr 2 0), AV.tv x1] ++ List.replicate 85 (AV.one CA.junk), [Option.some (BC.cells [CA.t y2]), Option.some (BC.cells [CA.t y3, CA.t y4, CA.t y5]), Option.some (BC.cells [CA.t y6, CA.t y7, CA.t y8, CA.t y9, CA.t y10, CA.t y11, CA.t y12, CA.t y13, CA.t y14, CA.t y15, CA.t y16, CA.t y17, CA.t y18, CA.t y19])] ++ List.replicate 114 (Option.none), []⟩
def f44_M (x0 x1 : TV) : Prg TV :=
  Prg.chk (TV.isAgg x0 1) (
  Prg.chk (TV.isAgg x1 3) (
  Prg.tv (pbin (Kd.int IntKind.i64) BinOp.lss (TV.cell x1 0) (TV.lit (Value.int IntKind.i64 (0 : Int)))) fun v0 =>
  Prg.ite (asBool v0) (
    Prg.ret (TV.lit (Value.bool false))) (
    Prg.tv (pbin (Kd.int IntKind.i64) BinOp.gtr (TV.cell x1 0) (TV.lit (Value.int IntKind.i64 (8 : Int)))) fun v1 =>
    Prg.ite (asBool v1) (
      Prg.ret (TV.lit (Value.bool false))) (
      Prg.tv (pbin (Kd.int IntKind.i64) BinOp.lss (TV.cell x1 1) (TV.cell x1 0)) fun v2 =>
      Prg.ite (asBool v2) (
        Prg.ret (TV.lit (Value.bool false))) (
        Prg.tv (pbin (Kd.int IntKind.i64) BinOp.gtr (TV.cell x1 1) (TV.lit (Value.int IntKind.i64 (256 : Int)))) fun v3 =>
        Prg.ite (asBool v3) (
          Prg.ret (TV.lit (Value.bool false))) (
          Prg.tv (plen (Kd.slice 56) (TV.cell x1 2)) fun v4 =>
          Prg.tv (pbin (Kd.int IntKind.i64) BinOp.eql v4 (TV.lit (Value.int IntKind.i64 (0 : Int)))) fun v5 =>
          Prg.ite (asBool v5) (
            Prg.ret (TV.lit (Value.bool false))) (
            Prg.tv (plen (Kd.slice 56) (TV.cell x1 2)) fun v6 =>
            Prg.tv (pbin (Kd.int IntKind.i64) BinOp.gtr v6 (TV.lit (Value.int IntKind.i64 (64 : Int)))) fun v7 =>
            Prg.ite (asBool v7) (
              Prg.ret (TV.lit (Value.bool false))) (
              Prg.tvs (pidx 14 (TV.cell x1 2) (TV.lit (Value.int IntKind.i64 (0 : Int)))) fun e8 =>
              Prg.chk (Nat.blt 0 (List.length e8)) (
              Prg.ite (asBool (nth TV.hole e8 0)) (
                Prg.ret (TV.lit (Value.bool false))) (
                Prg.jmp [0, 0, 1, 0, 1, 1] (f44_0_S (TV.lit (Value.int IntKind.i64 (0 : Int))) (TV.cell x0 0) (TV.cell x1 0) (TV.cell x1 1) (TV.cell x1 2))))))))))))
-- [0, 0, 1, 0, 1, 1]
def f44_0  (x0 y1 y2 y3 y4 : TV) : Prg TV :=
  Prg.tv (plen (Kd.slice 56) y4) fun v9 =>
  Prg.tv (pbin (Kd.int IntKind.i64) BinOp.lss x0 v9) fun v10 =>
  Prg.ite (asBool v10) (
    Prg.tvs (pidx 14 y4 x0) fun e11 =>
    Prg.chk (Nat.ble 14 (List.length e11)) (
    Prg.tv (plen (Kd.slice 28) (nth TV.hole e11 5)) fun v12 =>
    Prg.tv (pbin (Kd.int IntKind.i64) BinOp.gtr v12 (TV.lit (Value.int IntKind.i64 (64 : Int)))) fun v13 =>
    Prg.ite (asBool v13) (
      Prg.ret (TV.lit (Value.bool false))) (
      Prg.call 54 [TV.agg [y2, y3, y4], TV.agg [nth TV.hole e11 0, nth TV.hole e11 1, nth TV.hole e11 2, nth TV.hole e11 3, nth TV.hole e11 4, nth TV.hole e11 5, nth TV.hole e11 6, nth TV.hole e11 7, nth TV.hole e11 8, nth TV.hole e11 9, nth TV.hole e11 10, nth TV.hole e11 11, nth TV.hole e11 12, nth TV.hole e11 13]] fun v14 =>
      Prg.chk (fitsAt zBool [v14] 0) (
      Prg.tv (pun UnOp.not v14) fun v15 =>
      Prg.ite (asBool v15) (
        Prg.ret (TV.lit (Value.bool false))) (
        Prg.call 55 [TV.agg [y1], TV.agg [y2, y3, y4], TV.agg [nth TV.hole e11 6, nth TV.hole e11 7, nth TV.hole e11 8, nth TV.hole e11 9, nth TV.hole e11 10, nth TV.hole e11 11, nth TV.hole e11 12, nth TV.hole e11 13]] fun v16 =>
        Prg.chk (fitsAt zBool [v16] 0) (
        Prg.tv (pun UnOp.not v16) fun v17 =>
        Prg.ite (asBool v17) (
          Prg.ret (TV.lit (Value.bool false))) (
          Prg.jmp [0, 0, 1, 1, 1, 0, 0, 1, 0, 0, 1, 0, 1, 1] (f44_1_S x0 (TV.lit (Value.int IntKind.i64 (0 : Int))) y1 y2 y3 y4 (nth TV.hole e11 0) (nth TV.hole e11 1) (nth TV.hole e11 2) (nth TV.hole e11 3) (nth TV.hole e11 4) (nth TV.hole e11 5) (nth TV.hole e11 6) (nth TV.hole e11 7) (nth TV.hole e11 8) (nth TV.hole e11 9) (nth TV.hole e11 10) (nth TV.hole e11 11) (nth TV.hole e11 12) (nth TV.hole e11 13))))))))) (
    Prg.ret (TV.lit (Value.bool true)))
-- [0, 0, 1, 1, 1, 0, 0, 1, 0, 0, 1, 0, 1, 1]
def f44_1  (x0 x1 y2 y3 y4 y5 y6 y7 y8 y9 y10 y11 y12 y13 y14 y15 y16 y17 y18 y19 : TV) : Prg TV :=
  Prg.tv (plen (Kd.slice 28) y11) fun v18 =>
  Prg.tv (pbin (Kd.int IntKind.i64) BinOp.lss x1 v18) fun v19 =>
  Prg.ite (asBool v19) (
    Prg.tvs (pidx 7 y11 x1) fun e20 =>
    Prg.chk (Nat.ble 7 (List.length e20)) (
    Prg.call 56 [TV.agg [y2], TV.agg [y3, y4, y5], TV.agg [nth TV.hole e20 0, nth TV.hole e20 1, nth TV.hole e20 2, nth TV.hole e20 3, nth TV.hole e20 4, nth TV.hole e20 5, nth TV.hole e20 6]] fun v21 =>
    Prg.chk (fitsAt zBool [v21] 0) (
    Prg.tv (pun UnOp.not v21) fun v22 =>
    Prg.ite (asBool v22) (
      Prg.ret (TV.lit (Value.bool false))) (
      Prg.tv (pbin (Kd.int IntKind.i64) BinOp.add x1 (TV.lit (Value.int IntKind.i64 (1 : Int)))) fun v23 =>
      Prg.jmp [0, 0, 1, 1, 1, 0, 0, 1, 0, 0, 1, 0, 1, 1] (f44_1_S x0 v23 y2 y3 y4 y5 y6 y7 y8 y9 y10 y11 y12 y13 y14 y15 y16 y17 y18 y19))))) (
    Prg.tv (pbin (Kd.int IntKind.i64) BinOp.add x0 (TV.lit (Value.int IntKind.i64 (1 : Int)))) fun v24 =>
    Prg.jmp [0, 0, 1, 0, 1, 1] (f44_0_S v24 y2 y3 y4 y5))
theorem f44_MR (x0 x1 : TV) : startQ prog 44 [x0, x1] = f44_M x0 x1 := by kernel_rfl
theorem f44_0_R  (x0 y1 y2 y3 y4 : TV) : pieceQ prog 44 [0, 0, 1, 0, 1, 1] (f44_0_S x0 y1 y2 y3 y4) = f44_0 x0 y1 y2 y3 y4 := by kernel_rfl
theorem f44_1_R  (x0 x1 y2 y3 y4 y5 y6 y7 y8 y9 y10 y11 y12 y13 y14 y15 y16 y17 y18 y19 : TV) : pieceQ prog 44 [0, 0, 1, 1, 1, 0, 0, 1, 0, 0, 1, 0, 1, 1] (f44_1_S x0 x1 y2 y3 y4 y5 y6 y7 y8 y9 y10 y11 y12 y13 y14 y15 y16 y17 y18 y19) = f44_1 x0 x1 y2 y3 y4 y5 y6 y7 y8 y9 y10 y11 y12 y13 y14 y15 y16 y17 y18 y19 := by kernel_rfl

theorem f44_run {x0 x1 : TV} {r : TV} (h : Goes prog 44 (f44_M x0 x1) r) : Runs prog 44 [x0, x1] r := Runs.of (f44_MR x0 x1) h
theorem f44_0_J  {x0 y1 y2 y3 y4 : TV} {r : TV} (h : Goes prog 44 (f44_0 x0 y1 y2 y3 y4) r) : Goes prog 44 (.jmp [0, 0, 1, 0, 1, 1] (f44_0_S x0 y1 y2 y3 y4)) r := Goes.jmp (f44_0_R x0 y1 y2 y3 y4) h
theorem f44_1_J  {x0 x1 y2 y3 y4 y5 y6 y7 y8 y9 y10 y11 y12 y13 y14 y15 y16 y17 y18 y19 : TV} {r : TV} (h : Goes prog 44 (f44_1 x0 x1 y2 y3 y4 y5 y6 y7 y8 y9 y10 y11 y12 y13 y14 y15 y16 y17 y18 y19) r) : Goes prog 44 (.jmp [0, 0, 1, 1, 1, 0, 0, 1, 0, 0, 1, 0, 1, 1] (f44_1_S x0 x1 y2 y3 y4 y5 y6 y7 y8 y9 y10 y11 y12 y13 y14 y15 y16 y17 y18 y19)) r := Goes.jmp (f44_1_R x0 x1 y2 y3 y4 y5 y6 y7 y8 y9 y10 y11 y12 y13 y14 y15 y16 y17 y18 y19) h
def f51_0_S  (x0 x1 x2 y3 y4 y5 y6 y7 y8 y9 y10 y11 y12 y13 y14 y15 y16 y17 y18 y19 y20 : TV) : ASt := ⟨[AV.one CA.junk, AV.one CA.junk, AV.one (CA.ptr 0 0), AV.one (CA.ptr 1 0)] ++ List.replicate 17 (AV.one CA.junk) ++ [AV.tv x0, AV.tv x1, AV.tv x2] ++ List.replicate 12 (AV.one CA.junk), [Option.some (BC.cells [CA.t y3, CA.t y4, CA.t y5, CA.t y6]), Option.some (BC.cells [CA.t y7, CA.t y8, CA.t y9, CA.t y10, CA.t y11, CA.t y12, CA.t y13, CA.t y14, CA.t y15, CA.t y16, CA.t y17, CA.t y18, CA.t y19, CA.t y20])] ++ List.replicate 58 (Option.none), []⟩
def f51_1_S  (y0 y1 y2 y3 y4 y5 y6 y7 y8 y9 y10 y11 y12 y13 y14 y15 y16 y17 : TV) : ASt := ⟨[AV.one CA.junk, AV.one CA.junk, AV.one (CA.ptr 0 0), AV.one (CA.ptr 1 0)] ++ List.replicate 32 (AV.one CA.junk), [Option.some (BC.cells [CA.t y0, CA.t y1, CA.t y2, CA.t y3]), Option.some (BC.cells [CA.t y4, CA.t y5, CA.t y6, CA.t y7, CA.t y8, CA.t y9, CA.t y10, CA.t y11, CA.t y12, CA.t y13, CA.t y14, CA.t y15, CA.t y16, CA.t y17])] ++ List.replicate 58 (Option.none), []⟩
def f51_M (x0 x1 : TV) : Prg TV :=
  Prg.chk (TV.isAgg x0 4) (
  Prg.chk (TV.isAgg x1 14) (
  Prg.tv (plen (Kd.slice 28) (TV.cell x1 5)) fun v0 =>
  Prg.tv (pbin (Kd.int IntKind.i64) BinOp.gtr v0 (TV.lit (Value.int IntKind.i64 (64 : Int)))) fun v1 =>
  Prg.ite (asBool v1) (
    Prg.ret (TV.lit (Value.bool false))) (
    Prg.call 63 [TV.agg [TV.cell x0 0, TV.cell x0 1, TV.cell x0 2, TV.cell x0 3], TV.cell x1 0, TV.agg [TV.cell x1 1, TV.cell x1 2, TV.cell x1 3, TV.cell x1 4]] fun v2 =>
    Prg.chk (fitsAt zBool [v2] 0) (
    Prg.tv (pun UnOp.not v2) fun v3 =>
    Prg.ite (asBool v3) (
      Prg.ret (TV.lit (Value.bool false))) (
      Prg.tv (plen (Kd.slice 28) (TV.cell x1 5)) fun v4 =>
      Prg.jmp [0, 0, 1, 0, 1, 1] (f51_0_S (TV.cell x1 5) v4 (TV.lit (Value.int IntKind.i64 (0 : Int))) (TV.cell x0 0) (TV.cell x0 1) (TV.cell x0 2) (TV.cell x0 3) (TV.cell x1 0) (TV.cell x1 1) (TV.cell x1 2) (TV.cell x1 3) (TV.cell x1 4) (TV.cell x1 5) (TV.cell x1 6) (TV.cell x1 7) (TV.cell x1 8) (TV.cell x1 9) (TV.cell x1 10) (TV.cell x1 11) (TV.cell x1 12) (TV.cell x1 13)))))))
-- [0, 0, 1, 0, 1, 1]
def f51_0  (x0 x1 x2 y3 y4 y5 y6 y7 y8 y9 y10 y11 y12 y13 y14 y15 y16 y17 y18 y19 y20 : TV) : Prg TV :=
  Prg.tv (pbin (Kd.int IntKind.i64) BinOp.lss x2 x1) fun v5 =>
  Prg.ite (asBool v5) (
    Prg.tvs (pidx 7 x0 x2) fun e6 =>
    Prg.chk (Nat.ble 7 (List.length e6)) (
    Prg.call 64 [TV.agg [y3, y4, y5, y6], TV.agg [nth TV.hole e6 0, nth TV.hole e6 1, nth TV.hole e6 2, nth TV.hole e6 3, nth TV.hole e6 4, nth TV.hole e6 5, nth TV.hole e6 6]] fun v7 =>
    Prg.chk (fitsAt zBool [v7] 0) (
    Prg.tv (pun UnOp.not v7) fun v8 =>
    Prg.ite (asBool v8) (
      Prg.ret (TV.lit (Value.bool false))) (
      Prg.tv (pbin (Kd.int IntKind.i64) BinOp.add x2 (TV.lit (Value.int IntKind.i64 (1 : Int)))) fun v9 =>
      Prg.jmp [0, 0, 1, 0, 1, 1] (f51_0_S x0 x1 v9 y3 y4 y5 y6 y7 y8 y9 y10 y11 y12 y13 y14 y15 y16 y17 y18 y19 y20))))) (
    Prg.jmp [1, 1, 1] (f51_1_S y3 y4 y5 y6 y7 y8 y9 y10 y11 y12 y13 y14 y15 y16 y17 y18 y19 y20))
-- [1, 1, 1]
def f51_1  (y0 y1 y2 y3 y4 y5 y6 y7 y8 y9 y10 y11 y12 y13 y14 y15 y16 y17 : TV) : Prg TV :=
  Prg.call 65 [TV.agg [y0, y1, y2, y3], TV.agg [y10, y11, y12, y13, y14, y15, y16, y17]] fun v10 =>
  Prg.chk (fitsAt zBool [v10] 0) (
  Prg.ret v10)
theorem f51_MR (x0 x1 : TV) : startQ prog 51 [x0, x1] = f51_M x0 x1 := by kernel_rfl
theorem f51_0_R  (x0 x1 x2 y3 y4 y5 y6 y7 y8 y9 y10 y11 y12 y13 y14 y15 y16 y17 y18 y19 y20 : TV) : pieceQ prog 51 [0, 0, 1, 0, 1, 1] (f51_0_S x0 x1 x2 y3 y4 y5 y6 y7 y8 y9 y10 y11 y12 y13 y14 y15 y16 y17 y18 y19 y20) = f51_0 x0 x1 x2 y3 y4 y5 y6 y7 y8 y9 y10 y11 y12 y13 y14 y15 y16 y17 y18 y19 y20 := by kernel_rfl
theorem f51_1_R  (y0 y1 y2 y3 y4 y5 y6 y7 y8 y9 y10 y11 y12 y13 y14 y15 y16 y17 : TV) : pieceQ prog 51 [1, 1, 1] (f51_1_S y0 y1 y2 y3 y4 y5 y6 y7 y8 y9 y10 y11 y12 y13 y14 y15 y16 y17) = f51_1 y0 y1 y2 y3 y4 y5 y6 y7 y8 y9 y10 y11 y12 y13 y14 y15 y16 y17 := by kernel_rfl

theorem f51_run {x0 x1 : TV} {r : TV} (h : Goes prog 51 (f51_M x0 x1) r) : Runs prog 51 [x0, x1] r := Runs.of (f51_MR x0 x1) h
theorem f51_0_J  {x0 x1 x2 y3 y4 y5 y6 y7 y8 y9 y10 y11 y12 y13 y14 y15 y16 y17 y18 y19 y20 : TV} {r : TV} (h : Goes prog 51 (f51_0 x0 x1 x2 y3 y4 y5 y6 y7 y8 y9 y10 y11 y12 y13 y14 y15 y16 y17 y18 y19 y20) r) : Goes prog 51 (.jmp [0, 0, 1, 0, 1, 1] (f51_0_S x0 x1 x2 y3 y4 y5 y6 y7 y8 y9 y10 y11 y12 y13 y14 y15 y16 y17 y18 y19 y20)) r := Goes.jmp (f51_0_R x0 x1 x2 y3 y4 y5 y6 y7 y8 y9 y10 y11 y12 y13 y14 y15 y16 y17 y18 y19 y20) h
theorem f51_1_J  {y0 y1 y2 y3 y4 y5 y6 y7 y8 y9 y10 y11 y12 y13 y14 y15 y16 y17 : TV} {r : TV} (h : Goes prog 51 (f51_1 y0 y1 y2 y3 y4 y5 y6 y7 y8 y9 y10 y11 y12 y13 y14 y15 y16 y17) r) : Goes prog 51 (.jmp [1, 1, 1] (f51_1_S y0 y1 y2 y3 y4 y5 y6 y7 y8 y9 y10 y11 y12 y13 y14 y15 y16 y17)) r := Goes.jmp (f51_1_R y0 y1 y2 y3 y4 y5 y6 y7 y8 y9 y10 y11 y12 y13 y14 y15 y16 y17) h
def f54_0_S  (x0 y1 y2 y3 y4 y5 y6 y7 : TV) : ASt := ⟨[AV.one CA.junk, AV.one CA.junk, AV.one (CA.ptr 0 0), AV.one CA.junk, AV.one CA.junk, AV.one (CA.ptr 1 0), AV.tv x0] ++ List.replicate 69 (AV.one CA.junk), [Option.some (BC.cells [CA.t y1, CA.t y2, CA.t y3]), Option.some (BC.cells [CA.t y4, CA.t y5, CA.t y6, CA.t y7])] ++ List.replicate 98 (Option.none), []⟩
def f54_1_S  (x0 x1 y2 y3 y4 y5 y6 y7 y8 : TV) : ASt := ⟨[AV.one CA.junk, AV.one CA.junk, AV.one (CA.ptr 0 0), AV.one CA.junk, AV.one CA.junk, AV.one (CA.ptr 1 0), AV.tv x0, AV.tv x1] ++ List.replicate 68 (AV.one CA.junk), [Option.some (BC.cells [CA.t y2, CA.t y3, CA.t y4]), Option.some (BC.cells [CA.t y5, CA.t y6, CA.t y7, CA.t y8])] ++ List.replicate 98 (Option.none), []⟩
def f54_2_S  (y0 y1 y2 y3 y4 y5 y6 : TV) : ASt := ⟨[AV.one CA.junk, AV.one CA.junk, AV.one (CA.ptr 0 0), AV.one CA.junk, AV.one CA.junk, AV.one (CA.ptr 1 0)] ++ List.replicate 70 (AV.one CA.junk), [Option.some (BC.cells [CA.t y0, CA.t y1, CA.t y2]), Option.some (BC.cells [CA.t y3, CA.t y4, CA.t y5, CA.t y6])] ++ List.replicate 98 (Option.none), []⟩
def f54_M (x0 x1 : TV) : Prg TV :=
  Prg.chk (TV.isAgg x0 3) (
  Prg.chk (TV.isAgg x1 14) (
  Prg.tv (pun UnOp.not (TV.cell x1 0)) fun v0 =>
  Prg.ite (asBool v0) (
    Prg.tv (pbin (Kd.int IntKind.i64) BinOp.eql (TV.cell x1 1) (TV.lit (Value.int IntKind.i64 (0 : Int)))) fun v1 =>
    Prg.ite (asBool v1) (
      Prg.tv (plen (Kd.slice 25) (TV.cell x1 2)) fun v2 =>
      Prg.tv (pbin (Kd.int IntKind.i64) BinOp.eql v2 (TV.lit (Value.int IntKind.i64 (0 : Int)))) fun v3 =>
      Prg.ite (asBool v3) (
        Prg.tv (pun UnOp.not (TV.cell x1 3)) fun v4 =>
        Prg.ite (asBool v4) (
          Prg.tv (pun UnOp.not (TV.cell x1 4)) fun v5 =>
          Prg.ret v5) (
          Prg.ret (TV.lit (Value.bool false)))) (
        Prg.ret (TV.lit (Value.bool false)))) (
      Prg.ret (TV.lit (Value.bool false)))) (
    Prg.jmp [0, 0, 1, 0, 1, 1, 1] (f54_0_S (TV.lit (Value.int IntKind.i64 (0 : Int))) (TV.cell x0 0) (TV.cell x0 1) (TV.cell x0 2) (TV.cell x1 1) (TV.cell x1 2) (TV.cell x1 3) (TV.cell x1 4)))))
-- [0, 0, 1, 0, 1, 1, 1]
def f54_0  (x0 y1 y2 y3 y4 y5 y6 y7 : TV) : Prg TV :=
  Prg.tv (plen (Kd.slice 25) y5) fun v6 =>
  Prg.tv (pbin (Kd.int IntKind.i64) BinOp.lss x0 v6) fun v7 =>
  Prg.ite (asBool v7) (
    Prg.tv (pbin (Kd.int IntKind.i64) BinOp.geq x0 (TV.lit (Value.int IntKind.i64 (8 : Int)))) fun v8 =>
    Prg.ite (asBool v8) (
      Prg.ret (TV.lit (Value.bool false))) (
      Prg.jmp [0, 0, 1, 1, 0, 0, 1, 0, 0, 1, 0, 1, 1, 1] (f54_1_S x0 (TV.lit (Value.int IntKind.i64 (0 : Int))) y1 y2 y3 y4 y5 y6 y7))) (
    Prg.jmp [1, 1, 1, 1] (f54_2_S y1 y2 y3 y4 y5 y6 y7))
-- [0, 0, 1, 1, 0, 0, 1, 0, 0, 1, 0, 1, 1, 1]
def f54_1  (x0 x1 y2 y3 y4 y5 y6 y7 y8 : TV) : Prg TV :=
  Prg.tv (pbin (Kd.int IntKind.i64) BinOp.lss x1 x0) fun v9 =>
  Prg.ite (asBool v9) (
    Prg.tvs (pidx 1 y6 x1) fun e10 =>
    Prg.chk (Nat.blt 0 (List.length e10)) (
    Prg.tvs (pidx 1 y6 x0) fun e11 =>
    Prg.chk (Nat.blt 0 (List.length e11)) (
    Prg.tv (pbin (Kd.int IntKind.u16) BinOp.eql (nth TV.hole e10 0) (nth TV.hole e11 0)) fun v12 =>
    Prg.ite (asBool v12) (
      Prg.ret (TV.lit (Value.bool false))) (
      Prg.tv (pbin (Kd.int IntKind.i64) BinOp.add x1 (TV.lit (Value.int IntKind.i64 (1 : Int)))) fun v13 =>
      Prg.jmp [0, 0, 1, 1, 0, 0, 1, 0, 0, 1, 0, 1, 1, 1] (f54_1_S x0 v13 y2 y3 y4 y5 y6 y7 y8))))) (
    Prg.tv (pbin (Kd.int IntKind.i64) BinOp.add x0 (TV.lit (Value.int IntKind.i64 (1 : Int)))) fun v14 =>
    Prg.jmp [0, 0, 1, 0, 1, 1, 1] (f54_0_S v14 y2 y3 y4 y5 y6 y7 y8))
-- [1, 1, 1, 1]
def f54_2  (y0 y1 y2 y3 y4 y5 y6 : TV) : Prg TV :=
  Prg.call 68 [y3, y1] fun v15 =>
  Prg.chk (fitsAt zBool [v15] 0) (
  Prg.ite (asBool v15) (
    Prg.tv (plen (Kd.slice 25) y4) fun v16 =>
    Prg.tv (pbin (Kd.int IntKind.i64) BinOp.gtr v16 (TV.lit (Value.int IntKind.i64 (0 : Int)))) fun v17 =>
    Prg.ite (asBool v17) (
      Prg.ret (TV.lit (Value.bool true))) (
      Prg.ite (asBool y5) (
        Prg.ret (TV.lit (Value.bool true))) (
        Prg.ret y6))) (
    Prg.ret (TV.lit (Value.bool false))))
theorem f54_MR (x0 x1 : TV) : startQ prog 54 [x0, x1] = f54_M x0 x1 := by kernel_rfl
theorem f54_0_R  (x0 y1 y2 y3 y4 y5 y6 y7 : TV) : pieceQ prog 54 [0, 0, 1, 0, 1, 1, 1] (f54_0_S x0 y1 y2 y3 y4 y5 y6 y7) = f54_0 x0 y1 y2 y3 y4 y5 y6 y7 := by kernel_rfl
theorem f54_1_R  (x0 x1 y2 y3 y4 y5 y6 y7 y8 : TV) : pieceQ prog 54 [0, 0, 1, 1, 0, 0, 1, 0, 0, 1, 0, 1, 1, 1] (f54_1_S x0 x1 y2 y3 y4 y5 y6 y7 y8) = f54_1 x0 x1 y2 y3 y4 y5 y6 y7 y8 := by kernel_rfl
theorem f54_2_R  (y0 y1 y2 y3 y4 y5 y6 : TV) : pieceQ prog 54 [1, 1, 1, 1] (f54_2_S y0 y1 y2 y3 y4 y5 y6) = f54_2 y0 y1 y2 y3 y4 y5 y6 := by kernel_rfl

theorem f54_run {x0 x1 : TV} {r : TV} (h : Goes prog 54 (f54_M x0 x1) r) : Runs prog 54 [x0, x1] r := Runs.of (f54_MR x0 x1) h
theorem f54_0_J  {x0 y1 y2 y3 y4 y5 y6 y7 : TV} {r : TV} (h : Goes prog 54 (f54_0 x0 y1 y2 y3 y4 y5 y6 y7) r) : Goes prog 54 (.jmp [0, 0, 1, 0, 1, 1, 1] (f54_0_S x0 y1 y2 y3 y4 y5 y6 y7)) r := Goes.jmp (f54_0_R x0 y1 y2 y3 y4 y5 y6 y7) h
theorem f54_1_J  {x0 x1 y2 y3 y4 y5 y6 y7 y8 : TV} {r : TV} (h : Goes prog 54 (f54_1 x0 x1 y2 y3 y4 y5 y6 y7 y8) r) : Goes prog 54 (.jmp [0, 0, 1, 1, 0, 0, 1, 0, 0, 1, 0, 1, 1, 1] (f54_1_S x0 x1 y2 y3 y4 y5 y6 y7 y8)) r := Goes.jmp (f54_1_R x0 x1 y2 y3 y4 y5 y6 y7 y8) h
theorem f54_2_J  {y0 y1 y2 y3 y4 y5 y6 : TV} {r : TV} (h : Goes prog 54 (f54_2 y0 y1 y2 y3 y4 y5 y6) r) : Goes prog 54 (.jmp [1, 1, 1, 1] (f54_2_S y0 y1 y2 y3 y4 y5 y6)) r := Goes.jmp (f54_2_R y0 y1 y2 y3 y4 y5 y6) h
def f55_0_S  (x0 x1 x2 x3 y4 y5 y6 y7 y8 y9 y10 y11 y12 y13 y14 y15 : TV) : ASt := ⟨[AV.one CA.junk, AV.one CA.junk, AV.one CA.junk, AV.one (CA.ptr 0 0), AV.one (CA.ptr 1 0), AV.one (CA.ptr 2 0), AV.one CA.junk, AV.tv x0, AV.tv x1, AV.tv x2] ++ List.replicate 30 (AV.one CA.junk) ++ [AV.tv x3] ++ List.replicate 117 (AV.one CA.junk), [Option.some (BC.cells [CA.t y4]), Option.some (BC.cells [CA.t y5, CA.t y6, CA.t y7]), Option.some (BC.cells [CA.t y8, CA.t y9, CA.t y10, CA.t y11, CA.t y12, CA.t y13, CA.t y14, CA.t y15])] ++ List.replicate 179 (Option.none), []⟩
def f55_1_S  (x0 x1 x2 x3 x4 y5 y6 y7 y8 y9 y10 y11 y12 y13 y14 y15 y16 : TV) : ASt := ⟨[AV.one CA.junk, AV.one CA.junk, AV.one CA.junk, AV.one (CA.ptr 0 0), AV.one (CA.ptr 1 0), AV.one (CA.ptr 2 0), AV.one CA.junk, AV.tv x0, AV.tv x1, AV.tv x2] ++ List.replicate 30 (AV.one CA.junk) ++ [AV.tv x3, AV.tv x4] ++ List.replicate 116 (AV.one CA.junk), [Option.some (BC.cells [CA.t y5]), Option.some (BC.cells [CA.t y6, CA.t y7, CA.t y8]), Option.some (BC.cells [CA.t y9, CA.t y10, CA.t y11, CA.t y12, CA.t y13, CA.t y14, CA.t y15, CA.t y16])] ++ List.replicate 179 (Option.none), []⟩
def f55_M (x0 x1 x2 : TV) : Prg TV :=
  Prg.chk (TV.isAgg x0 1) (
  Prg.chk (TV.isAgg x1 3) (
  Prg.chk (TV.isAgg x2 8) (
  Prg.call 68 [TV.cell x2 1, TV.cell x1 1] fun v0 =>
  Prg.chk (fitsAt zBool [v0] 0) (
  Prg.call 68 [TV.cell x2 2, TV.cell x1 1] fun v1 =>
  Prg.chk (fitsAt zBool [v1] 0) (
  Prg.tv (pbin (Kd.int IntKind.i64) BinOp.eql (TV.cell x2 2) (TV.lit (Value.int IntKind.i64 (0 : Int)))) fun v2 =>
  Prg.ite (asBool v2) (
    Prg.tv (pbin (Kd.int IntKind.i64) BinOp.eql (TV.cell x2 3) (TV.lit (Value.int IntKind.i64 (0 : Int)))) fun v3 =>
    Prg.ite (asBool v3) (
      Prg.tv (plen (Kd.slice 3) (TV.cell x2 4)) fun v4 =>
      Prg.tv (pbin (Kd.int IntKind.i64) BinOp.eql v4 (TV.lit (Value.int IntKind.i64 (0 : Int)))) fun v5 =>
      Prg.ite (asBool v5) (
        Prg.tv (pbin (Kd.int IntKind.i64) BinOp.eql (TV.cell x2 7) (TV.lit (Value.int IntKind.i64 (0 : Int)))) fun v6 =>
        Prg.jmp [1, 0, 1, 1, 1] (f55_0_S v0 v1 v6 (TV.cell x2 0) (TV.cell x0 0) (TV.cell x1 0) (TV.cell x1 1) (TV.cell x1 2) (TV.cell x2 0) (TV.cell x2 1) (TV.cell x2 2) (TV.cell x2 3) (TV.cell x2 4) (TV.cell x2 5) (TV.cell x2 6) (TV.cell x2 7))) (
        Prg.jmp [1, 0, 1, 1, 1] (f55_0_S v0 v1 (TV.lit (Value.bool false)) (TV.cell x2 0) (TV.cell x0 0) (TV.cell x1 0) (TV.cell x1 1) (TV.cell x1 2) (TV.cell x2 0) (TV.cell x2 1) (TV.cell x2 2) (TV.cell x2 3) (TV.cell x2 4) (TV.cell x2 5) (TV.cell x2 6) (TV.cell x2 7)))) (
      Prg.jmp [1, 0, 1, 1, 1] (f55_0_S v0 v1 (TV.lit (Value.bool false)) (TV.cell x2 0) (TV.cell x0 0) (TV.cell x1 0) (TV.cell x1 1) (TV.cell x1 2) (TV.cell x2 0) (TV.cell x2 1) (TV.cell x2 2) (TV.cell x2 3) (TV.cell x2 4) (TV.cell x2 5) (TV.cell x2 6) (TV.cell x2 7)))) (
    Prg.jmp [1, 0, 1, 1, 1] (f55_0_S v0 v1 (TV.lit (Value.bool false)) (TV.cell x2 0) (TV.cell x0 0) (TV.cell x1 0) (TV.cell x1 1) (TV.cell x1 2) (TV.cell x2 0) (TV.cell x2 1) (TV.cell x2 2) (TV.cell x2 3) (TV.cell x2 4) (TV.cell x2 5) (TV.cell x2 6) (TV.cell x2 7))))))))
-- [1, 0, 1, 1, 1]
def f55_0  (x0 x1 x2 x3 y4 y5 y6 y7 y8 y9 y10 y11 y12 y13 y14 y15 : TV) : Prg TV :=
  Prg.tv (pbin (Kd.int IntKind.i64) BinOp.eql x3 (TV.lit (Value.int IntKind.i64 (1 : Int)))) fun v7 =>
  Prg.ite (asBool v7) (
    Prg.jmp [1, 0, 1, 0, 1, 1, 1] (f55_1_S x0 x1 x2 x3 v7 y4 y5 y6 y7 y8 y9 y10 y11 y12 y13 y14 y15)) (
    Prg.tv (pbin (Kd.int IntKind.i64) BinOp.eql x3 (TV.lit (Value.int IntKind.i64 (5 : Int)))) fun v8 =>
    Prg.jmp [1, 0, 1, 0, 1, 1, 1] (f55_1_S x0 x1 x2 x3 v8 y4 y5 y6 y7 y8 y9 y10 y11 y12 y13 y14 y15))
-- [1, 0, 1, 0, 1, 1, 1]
def f55_1  (x0 x1 x2 x3 x4 y5 y6 y7 y8 y9 y10 y11 y12 y13 y14 y15 y16 : TV) : Prg TV :=
  Prg.ite (asBool x4) (
    Prg.ite (asBool x0) (
      Prg.ite (asBool x2) (
        Prg.tv (pbin (Kd.int IntKind.i64) BinOp.eql y14 (TV.lit (Value.int IntKind.i64 (0 : Int)))) fun v9 =>
        Prg.ite (asBool v9) (
          Prg.tv (pbin (Kd.int IntKind.i64) BinOp.eql y15 (TV.lit (Value.int IntKind.i64 (0 : Int)))) fun v10 =>
          Prg.ret v10) (
          Prg.ret (TV.lit (Value.bool false)))) (
        Prg.ret (TV.lit (Value.bool false)))) (
      Prg.ret (TV.lit (Value.bool false)))) (
    Prg.tv (pbin (Kd.int IntKind.i64) BinOp.eql x3 (TV.lit (Value.int IntKind.i64 (2 : Int)))) fun v11 =>
    Prg.ite (asBool v11) (
      Prg.tv (pbin (Kd.int IntKind.i64) BinOp.eql y10 (TV.lit (Value.int IntKind.i64 (0 : Int)))) fun v12 =>
      Prg.ite (asBool v12) (
        Prg.ite (asBool x2) (
          Prg.call 69 [TV.agg [y6, y7, y8], y14] fun v13 =>
          Prg.chk (fitsAt zBool [v13] 0) (
          Prg.ite (asBool v13) (
            Prg.tv (pbin (Kd.int IntKind.i64) BinOp.eql y15 (TV.lit (Value.int IntKind.i64 (0 : Int)))) fun v14 =>
            Prg.ret v14) (
            Prg.ret (TV.lit (Value.bool false))))) (
          Prg.ret (TV.lit (Value.bool false)))) (
        Prg.ret (TV.lit (Value.bool false)))) (
      Prg.tv (pbin (Kd.int IntKind.i64) BinOp.eql x3 (TV.lit (Value.int IntKind.i64 (3 : Int)))) fun v15 =>
      Prg.ite (asBool v15) (
        Prg.ite (asBool x0) (
          Prg.ite (asBool x2) (
            Prg.call 69 [TV.agg [y6, y7, y8], y14] fun v16 =>
            Prg.chk (fitsAt zBool [v16] 0) (
            Prg.ite (asBool v16) (
              Prg.call 69 [TV.agg [y6, y7, y8], y15] fun v17 =>
              Prg.chk (fitsAt zBool [v17] 0) (
              Prg.ret v17)) (
              Prg.ret (TV.lit (Value.bool false))))) (
            Prg.ret (TV.lit (Value.bool false)))) (
          Prg.ret (TV.lit (Value.bool false)))) (
        Prg.tv (pbin (Kd.int IntKind.i64) BinOp.eql x3 (TV.lit (Value.int IntKind.i64 (4 : Int)))) fun v18 =>
        Prg.ite (asBool v18) (
          Prg.tv (pbin (Kd.int IntKind.i64) BinOp.eql y10 (TV.lit (Value.int IntKind.i64 (0 : Int)))) fun v19 =>
          Prg.ite (asBool v19) (
            Prg.ite (asBool x1) (
              Prg.call 70 [TV.agg [y5], TV.agg [y6, y7, y8], y12, y13] fun v20 =>
              Prg.chk (fitsAt zBool [v20] 0) (
              Prg.ite (asBool v20) (
                Prg.call 69 [TV.agg [y6, y7, y8], y14] fun v21 =>
                Prg.chk (fitsAt zBool [v21] 0) (
                Prg.ite (asBool v21) (
                  Prg.tv (pbin (Kd.int IntKind.i64) BinOp.eql y15 (TV.lit (Value.int IntKind.i64 (0 : Int)))) fun v22 =>
                  Prg.ite (asBool v22) (
                    Prg.tv (plen (Kd.slice 56) y8) fun v23 =>
                    Prg.call 68 [y16, v23] fun v24 =>
                    Prg.chk (fitsAt zBool [v24] 0) (
                    Prg.ite (asBool v24) (
                      Prg.tvs (pidx 14 y8 y16) fun e25 =>
                      Prg.chk (Nat.blt 0 (List.length e25)) (
                      Prg.ret (nth TV.hole e25 0))) (
                      Prg.ret (TV.lit (Value.bool false))))) (
                    Prg.ret (TV.lit (Value.bool false)))) (
                  Prg.ret (TV.lit (Value.bool false))))) (
                Prg.ret (TV.lit (Value.bool false))))) (
              Prg.ret (TV.lit (Value.bool false)))) (
            Prg.ret (TV.lit (Value.bool false)))) (
          Prg.tv (pbin (Kd.int IntKind.i64) BinOp.eql x3 (TV.lit (Value.int IntKind.i64 (6 : Int)))) fun v26 =>
          Prg.ite (asBool v26) (
            Prg.tv (pbin (Kd.int IntKind.i64) BinOp.eql y10 (TV.lit (Value.int IntKind.i64 (0 : Int)))) fun v27 =>
            Prg.ite (asBool v27) (
              Prg.ite (asBool x2) (
                Prg.tv (pbin (Kd.int IntKind.i64) BinOp.eql y14 (TV.lit (Value.int IntKind.i64 (0 : Int)))) fun v28 =>
                Prg.ite (asBool v28) (
                  Prg.tv (pbin (Kd.int IntKind.i64) BinOp.eql y15 (TV.lit (Value.int IntKind.i64 (0 : Int)))) fun v29 =>
                  Prg.ret v29) (
                  Prg.ret (TV.lit (Value.bool false)))) (
                Prg.ret (TV.lit (Value.bool false)))) (
              Prg.ret (TV.lit (Value.bool false)))) (
            Prg.ret (TV.lit (Value.bool false)))))))
theorem f55_MR (x0 x1 x2 : TV) : startQ prog 55 [x0, x1, x2] = f55_M x0 x1 x2 := by kernel_rfl
theorem f55_0_R  (x0 x1 x2 x3 y4 y5 y6 y7 y8 y9 y10 y11 y12 y13 y14 y15 : TV) : pieceQ prog 55 [1, 0, 1, 1, 1] (f55_0_S x0 x1 x2 x3 y4 y5 y6 y7 y8 y9 y10 y11 y12 y13 y14 y15) = f55_0 x0 x1 x2 x3 y4 y5 y6 y7 y8 y9 y10 y11 y12 y13 y14 y15 := by kernel_rfl
theorem f55_1_R  (x0 x1 x2 x3 x4 y5 y6 y7 y8 y9 y10 y11 y12 y13 y14 y15 y16 : TV) : pieceQ prog 55 [1, 0, 1, 0, 1, 1, 1] (f55_1_S x0 x1 x2 x3 x4 y5 y6 y7 y8 y9 y10 y11 y12 y13 y14 y15 y16) = f55_1 x0 x1 x2 x3 x4 y5 y6 y7 y8 y9 y10 y11 y12 y13 y14 y15 y16 := by kernel_rfl

theorem f55_run {x0 x1 x2 : TV} {r : TV} (h : Goes prog 55 (f55_M x0 x1 x2) r) : Runs prog 55 [x0, x1, x2] r := Runs.of (f55_MR x0 x1 x2) h
theorem f55_0_J  {x0 x1 x2 x3 y4 y5 y6 y7 y8 y9 y10 y11 y12 y13 y14 y15 : TV} {r : TV} (h : Goes prog 55 (f55_0 x0 x1 x2 x3 y4 y5 y6 y7 y8 y9 y10 y11 y12 y13 y14 y15) r) : Goes prog 55 (.jmp [1, 0, 1, 1, 1] (f55_0_S x0 x1 x2 x3 y4 y5 y6 y7 y8 y9 y10 y11 y12 y13 y14 y15)) r := Goes.jmp (f55_0_R x0 x1 x2 x3 y4 y5 y6 y7 y8 y9 y10 y11 y12 y13 y14 y15) h
theorem f55_1_J  {x0 x1 x2 x3 x4 y5 y6 y7 y8 y9 y10 y11 y12 y13 y14 y15 y16 : TV} {r : TV} (h : Goes prog 55 (f55_1 x0 x1 x2 x3 x4 y5 y6 y7 y8 y9 y10 y11 y12 y13 y14 y15 y16) r) : Goes prog 55 (.jmp [1, 0, 1, 0, 1, 1, 1] (f55_1_S x0 x1 x2 x3 x4 y5 y6 y7 y8 y9 y10 y11 y12 y13 y14 y15 y16)) r := Goes.jmp (f55_1_R x0 x1 x2 x3 x4 y5 y6 y7 y8 y9 y10 y11 y12 y13 y14 y15 y16) h
def f56_0_S  (x0 x1 x2 x3 x4 y5 y6 y7 y8 y9 y10 y11 y12 y13 y14 y15 : TV) : ASt := ⟨[AV.one CA.junk, AV.one CA.junk, AV.one CA.junk, AV.one (CA.ptr 0 0), AV.one (CA.ptr 1 0), AV.one (CA.ptr 2 0), AV.one CA.junk, AV.tv x0, AV.tv x1, AV.tv x2] ++ List.replicate 16 (AV.one CA.junk) ++ [AV.tv x3] ++ List.replicate 24 (AV.one CA.junk) ++ [AV.tv x4] ++ List.replicate 134 (AV.one CA.junk), [Option.some (BC.cells [CA.t y5]), Option.some (BC.cells [CA.t y6, CA.t y7, CA.t y8]), Option.some (BC.cells [CA.t y9, CA.t y10, CA.t y11, CA.t y12, CA.t y13, CA.t y14, CA.t y15])] ++ List.replicate 207 (Option.none), []⟩
def f56_1_S  (x0 x1 x2 x3 x4 y5 y6 y7 y8 y9 y10 y11 y12 y13 y14 y15 : TV) : ASt := ⟨[AV.one CA.junk, AV.one CA.junk, AV.one CA.junk, AV.one (CA.ptr 0 0), AV.one (CA.ptr 1 0), AV.one (CA.ptr 2 0), AV.one CA.junk, AV.tv x0, AV.tv x1, AV.tv x2] ++ List.replicate 16 (AV.one CA.junk) ++ [AV.tv x3] ++ List.replicate 45 (AV.one CA.junk) ++ [AV.tv x4] ++ List.replicate 113 (AV.one CA.junk), [Option.some (BC.cells [CA.t y5]), Option.some (BC.cells [CA.t y6, CA.t y7, CA.t y8]), Option.some (BC.cells [CA.t y9, CA.t y10, CA.t y11, CA.t y12, CA.t y13, CA.t y14, CA.t y15])] ++ List.replicate 207 (Option.none), []⟩
def f56_M (x0 x1 x2 : TV) : Prg TV :=
  Prg.chk (TV.isAgg x0 1) (
  Prg.chk (TV.isAgg x1 3) (
  Prg.chk (TV.isAgg x2 7) (
  Prg.call 68 [TV.cell x2 1, TV.cell x1 1] fun v0 =>
  Prg.chk (fitsAt zBool [v0] 0) (
  Prg.call 68 [TV.cell x2 2, TV.cell x1 1] fun v1 =>
  Prg.chk (fitsAt zBool [v1] 0) (
  Prg.call 68 [TV.cell x2 3, TV.cell x1 1] fun v2 =>
  Prg.chk (fitsAt zBool [v2] 0) (
  Prg.tv (pbin (Kd.int IntKind.i64) BinOp.eql (TV.cell x2 0) (TV.lit (Value.int IntKind.i64 (1 : Int)))) fun v3 =>
  Prg.ite (asBool v3) (
    Prg.ite (asBool v0) (
      Prg.tv (pbin (Kd.int IntKind.i64) BinOp.eql (TV.cell x2 2) (TV.lit (Value.int IntKind.i64 (0 : Int)))) fun v4 =>
      Prg.ite (asBool v4) (
        Prg.tv (pbin (Kd.int IntKind.i64) BinOp.eql (TV.cell x2 3) (TV.lit (Value.int IntKind.i64 (0 : Int)))) fun v5 =>
        Prg.ite (asBool v5) (
          Prg.tv (pbin (Kd.int IntKind.i64) BinOp.eql (TV.cell x2 5) (TV.lit (Value.int IntKind.i64 (0 : Int)))) fun v6 =>
          Prg.ite (asBool v6) (
            Prg.tv (plen (Kd.slice 3) (TV.cell x2 6)) fun v7 =>
            Prg.tv (pbin (Kd.int IntKind.i64) BinOp.eql v7 (TV.lit (Value.int IntKind.i64 (0 : Int)))) fun v8 =>
            Prg.ret v8) (
            Prg.ret (TV.lit (Value.bool false)))) (
          Prg.ret (TV.lit (Value.bool false)))) (
        Prg.ret (TV.lit (Value.bool false)))) (
      Prg.ret (TV.lit (Value.bool false)))) (
    Prg.tv (pbin (Kd.int IntKind.i64) BinOp.eql (TV.cell x2 0) (TV.lit (Value.int IntKind.i64 (2 : Int)))) fun v9 =>
    Prg.ite (asBool v9) (
      Prg.jmp [1, 1, 1, 0, 1, 0, 1, 1] (f56_0_S v0 v1 v2 (TV.cell x2 0) v9 (TV.cell x0 0) (TV.cell x1 0) (TV.cell x1 1) (TV.cell x1 2) (TV.cell x2 0) (TV.cell x2 1) (TV.cell x2 2) (TV.cell x2 3) (TV.cell x2 4) (TV.cell x2 5) (TV.cell x2 6))) (
      Prg.tv (pbin (Kd.int IntKind.i64) BinOp.eql (TV.cell x2 0) (TV.lit (Value.int IntKind.i64 (9 : Int)))) fun v10 =>
      Prg.jmp [1, 1, 1, 0, 1, 0, 1, 1] (f56_0_S v0 v1 v2 (TV.cell x2 0) v10 (TV.cell x0 0) (TV.cell x1 0) (TV.cell x1 1) (TV.cell x1 2) (TV.cell x2 0) (TV.cell x2 1) (TV.cell x2 2) (TV.cell x2 3) (TV.cell x2 4) (TV.cell x2 5) (TV.cell x2 6))))))))))
-- [1, 1, 1, 0, 1, 0, 1, 1]
def f56_0  (x0 x1 x2 x3 x4 y5 y6 y7 y8 y9 y10 y11 y12 y13 y14 y15 : TV) : Prg TV :=
  Prg.ite (asBool x4) (
    Prg.ite (asBool x0) (
      Prg.ite (asBool x1) (
        Prg.tv (pbin (Kd.int IntKind.i64) BinOp.eql y12 (TV.lit (Value.int IntKind.i64 (0 : Int)))) fun v11 =>
        Prg.ite (asBool v11) (
          Prg.call 71 [y13, y14, y15] fun v12 =>
          Prg.chk (fitsAt zBool [v12] 0) (
          Prg.ret v12)) (
          Prg.ret (TV.lit (Value.bool false)))) (
        Prg.ret (TV.lit (Value.bool false)))) (
      Prg.ret (TV.lit (Value.bool false)))) (
    Prg.tv (pbin (Kd.int IntKind.i64) BinOp.eql x3 (TV.lit (Value.int IntKind.i64 (3 : Int)))) fun v13 =>
    Prg.ite (asBool v13) (
      Prg.jmp [1, 1, 1, 1, 1, 0, 1, 0, 1, 1] (f56_1_S x0 x1 x2 x3 v13 y5 y6 y7 y8 y9 y10 y11 y12 y13 y14 y15)) (
      Prg.tv (pbin (Kd.int IntKind.i64) BinOp.eql x3 (TV.lit (Value.int IntKind.i64 (4 : Int)))) fun v14 =>
      Prg.ite (asBool v14) (
        Prg.jmp [1, 1, 1, 1, 1, 0, 1, 0, 1, 1] (f56_1_S x0 x1 x2 x3 v14 y5 y6 y7 y8 y9 y10 y11 y12 y13 y14 y15)) (
        Prg.tv (pbin (Kd.int IntKind.i64) BinOp.eql x3 (TV.lit (Value.int IntKind.i64 (5 : Int)))) fun v15 =>
        Prg.ite (asBool v15) (
          Prg.jmp [1, 1, 1, 1, 1, 0, 1, 0, 1, 1] (f56_1_S x0 x1 x2 x3 v15 y5 y6 y7 y8 y9 y10 y11 y12 y13 y14 y15)) (
          Prg.tv (pbin (Kd.int IntKind.i64) BinOp.eql x3 (TV.lit (Value.int IntKind.i64 (6 : Int)))) fun v16 =>
          Prg.ite (asBool v16) (
            Prg.jmp [1, 1, 1, 1, 1, 0, 1, 0, 1, 1] (f56_1_S x0 x1 x2 x3 v16 y5 y6 y7 y8 y9 y10 y11 y12 y13 y14 y15)) (
            Prg.tv (pbin (Kd.int IntKind.i64) BinOp.eql x3 (TV.lit (Value.int IntKind.i64 (7 : Int)))) fun v17 =>
            Prg.ite (asBool v17) (
              Prg.jmp [1, 1, 1, 1, 1, 0, 1, 0, 1, 1] (f56_1_S x0 x1 x2 x3 v17 y5 y6 y7 y8 y9 y10 y11 y12 y13 y14 y15)) (
              Prg.tv (pbin (Kd.int IntKind.i64) BinOp.eql x3 (TV.lit (Value.int IntKind.i64 (8 : Int)))) fun v18 =>
              Prg.jmp [1, 1, 1, 1, 1, 0, 1, 0, 1, 1] (f56_1_S x0 x1 x2 x3 v18 y5 y6 y7 y8 y9 y10 y11 y12 y13 y14 y15)))))))
-- [1, 1, 1, 1, 1, 0, 1, 0, 1, 1]
def f56_1  (x0 x1 x2 x3 x4 y5 y6 y7 y8 y9 y10 y11 y12 y13 y14 y15 : TV) : Prg TV :=
  Prg.ite (asBool x4) (
    Prg.ite (asBool x0) (
      Prg.ite (asBool x1) (
        Prg.ite (asBool x2) (
          Prg.call 71 [y13, y14, y15] fun v19 =>
          Prg.chk (fitsAt zBool [v19] 0) (
          Prg.ret v19)) (
          Prg.ret (TV.lit (Value.bool false)))) (
        Prg.ret (TV.lit (Value.bool false)))) (
      Prg.ret (TV.lit (Value.bool false)))) (
    Prg.tv (pbin (Kd.int IntKind.i64) BinOp.eql x3 (TV.lit (Value.int IntKind.i64 (10 : Int)))) fun v20 =>
    Prg.ite (asBool v20) (
      Prg.tv (pbin (Kd.int IntKind.i64) BinOp.eql y10 (TV.lit (Value.int IntKind.i64 (0 : Int)))) fun v21 =>
      Prg.ite (asBool v21) (
        Prg.ite (asBool x1) (
          Prg.ite (asBool x2) (
            Prg.call 71 [y13, y14, y15] fun v22 =>
            Prg.chk (fitsAt zBool [v22] 0) (
            Prg.ret v22)) (
            Prg.ret (TV.lit (Value.bool false)))) (
          Prg.ret (TV.lit (Value.bool false)))) (
        Prg.ret (TV.lit (Value.bool false)))) (
      Prg.tv (pbin (Kd.int IntKind.i64) BinOp.eql x3 (TV.lit (Value.int IntKind.i64 (11 : Int)))) fun v23 =>
      Prg.ite (asBool v23) (
        Prg.ite (asBool x0) (
          Prg.tv (pbin (Kd.int IntKind.i64) BinOp.eql y11 (TV.lit (Value.int IntKind.i64 (0 : Int)))) fun v24 =>
          Prg.ite (asBool v24) (
            Prg.tv (pbin (Kd.int IntKind.i64) BinOp.eql y12 (TV.lit (Value.int IntKind.i64 (0 : Int)))) fun v25 =>
            Prg.ite (asBool v25) (
              Prg.tv (pbin (Kd.int IntKind.u16) BinOp.eql y13 (TV.lit (Value.int IntKind.u16 (0 : Int)))) fun v26 =>
              Prg.ite (asBool v26) (
                Prg.call 70 [TV.agg [y5], TV.agg [y6, y7, y8], y14, y15] fun v27 =>
                Prg.chk (fitsAt zBool [v27] 0) (
                Prg.ret v27)) (
                Prg.ret (TV.lit (Value.bool false)))) (
              Prg.ret (TV.lit (Value.bool false)))) (
            Prg.ret (TV.lit (Value.bool false)))) (
          Prg.ret (TV.lit (Value.bool false)))) (
        Prg.tv (pbin (Kd.int IntKind.i64) BinOp.eql x3 (TV.lit (Value.int IntKind.i64 (12 : Int)))) fun v28 =>
        Prg.ite (asBool v28) (
          Prg.tv (pbin (Kd.int IntKind.i64) BinOp.eql y10 (TV.lit (Value.int IntKind.i64 (0 : Int)))) fun v29 =>
          Prg.ite (asBool v29) (
            Prg.ite (asBool x1) (
              Prg.tv (pbin (Kd.int IntKind.i64) BinOp.eql y12 (TV.lit (Value.int IntKind.i64 (0 : Int)))) fun v30 =>
              Prg.ite (asBool v30) (
                Prg.call 71 [y13, y14, y15] fun v31 =>
                Prg.chk (fitsAt zBool [v31] 0) (
                Prg.ret v31)) (
                Prg.ret (TV.lit (Value.bool false)))) (
              Prg.ret (TV.lit (Value.bool false)))) (
            Prg.ret (TV.lit (Value.bool false)))) (
          Prg.tv (pbin (Kd.int IntKind.i64) BinOp.eql x3 (TV.lit (Value.int IntKind.i64 (13 : Int)))) fun v32 =>
          Prg.ite (asBool v32) (
            Prg.ite (asBool x0) (
              Prg.tv (pbin (Kd.int IntKind.i64) BinOp.eql y11 (TV.lit (Value.int IntKind.i64 (0 : Int)))) fun v33 =>
              Prg.ite (asBool v33) (
                Prg.tv (pbin (Kd.int IntKind.i64) BinOp.eql y12 (TV.lit (Value.int IntKind.i64 (0 : Int)))) fun v34 =>
                Prg.ite (asBool v34) (
                  Prg.call 71 [y13, y14, y15] fun v35 =>
                  Prg.chk (fitsAt zBool [v35] 0) (
                  Prg.ret v35)) (
                  Prg.ret (TV.lit (Value.bool false)))) (
                Prg.ret (TV.lit (Value.bool false)))) (
              Prg.ret (TV.lit (Value.bool false)))) (
            Prg.ret (TV.lit (Value.bool false)))))))
theorem f56_MR (x0 x1 x2 : TV) : startQ prog 56 [x0, x1, x2] = f56_M x0 x1 x2 := by kernel_rfl
theorem f56_0_R  (x0 x1 x2 x3 x4 y5 y6 y7 y8 y9 y10 y11 y12 y13 y14 y15 : TV) : pieceQ prog 56 [1, 1, 1, 0, 1, 0, 1, 1] (f56_0_S x0 x1 x2 x3 x4 y5 y6 y7 y8 y9 y10 y11 y12 y13 y14 y15) = f56_0 x0 x1 x2 x3 x4 y5 y6 y7 y8 y9 y10 y11 y12 y13 y14 y15 := by kernel_rfl
theorem f56_1_R  (x0 x1 x2 x3 x4 y5 y6 y7 y8 y9 y10 y11 y12 y13 y14 y15 : TV) : pieceQ prog 56 [1, 1, 1, 1, 1, 0, 1, 0, 1, 1] (f56_1_S x0 x1 x2 x3 x4 y5 y6 y7 y8 y9 y10 y11 y12 y13 y14 y15) = f56_1 x0 x1 x2 x3 x4 y5 y6 y7 y8 y9 y10 y11 y12 y13 y14 y15 := by kernel_rfl

theorem f56_run {x0 x1 x2 : TV} {r : TV} (h : Goes prog 56 (f56_M x0 x1 x2) r) : Runs prog 56 [x0, x1, x2] r := Runs.of (f56_MR x0 x1 x2) h
theorem f56_0_J  {x0 x1 x2 x3 x4 y5 y6 y7 y8 y9 y10 y11 y12 y13 y14 y15 : TV} {r : TV} (h : Goes prog 56 (f56_0 x0 x1 x2 x3 x4 y5 y6 y7 y8 y9 y10 y11 y12 y13 y14 y15) r) : Goes prog 56 (.jmp [1, 1, 1, 0, 1, 0, 1, 1] (f56_0_S x0 x1 x2 x3 x4 y5 y6 y7 y8 y9 y10 y11 y12 y13 y14 y15)) r := Goes.jmp (f56_0_R x0 x1 x2 x3 x4 y5 y6 y7 y8 y9 y10 y11 y12 y13 y14 y15) h
theorem f56_1_J  {x0 x1 x2 x3 x4 y5 y6 y7 y8 y9 y10 y11 y12 y13 y14 y15 : TV} {r : TV} (h : Goes prog 56 (f56_1 x0 x1 x2 x3 x4 y5 y6 y7 y8 y9 y10 y11 y12 y13 y14 y15) r) : Goes prog 56 (.jmp [1, 1, 1, 1, 1, 0, 1, 0, 1, 1] (f56_1_S x0 x1 x2 x3 x4 y5 y6 y7 y8 y9 y10 y11 y12 y13 y14 y15)) r := Goes.jmp (f56_1_R x0 x1 x2 x3 x4 y5 y6 y7 y8 y9 y10 y11 y12 y13 y14 y15) h
def f63_M (x0 x1 x2 : TV) : Prg TV :=
  Prg.chk (TV.isAgg x0 4) (
  Prg.chk (TV.isAgg x2 4) (
  Prg.tv (pun UnOp.not x1) fun v0 =>
  Prg.ite (asBool v0) (
    Prg.tv (pbin (Kd.int IntKind.i64) BinOp.eql (TV.cell x2 0) (TV.lit (Value.int IntKind.i64 (0 : Int)))) fun v1 =>
    Prg.ite (asBool v1) (
      Prg.tv (plen (Kd.slice 25) (TV.cell x2 1)) fun v2 =>
      Prg.tv (pbin (Kd.int IntKind.i64) BinOp.eql v2 (TV.lit (Value.int IntKind.i64 (0 : Int)))) fun v3 =>
      Prg.ite (asBool v3) (
        Prg.tv (pun UnOp.not (TV.cell x2 2)) fun v4 =>
        Prg.ite (asBool v4) (
          Prg.tv (pun UnOp.not (TV.cell x2 3)) fun v5 =>
          Prg.ret v5) (
          Prg.ret (TV.lit (Value.bool false)))) (
        Prg.ret (TV.lit (Value.bool false)))) (
      Prg.ret (TV.lit (Value.bool false)))) (
    Prg.call 81 [TV.agg [TV.cell x0 0, TV.cell x0 1, TV.cell x0 2, TV.cell x0 3], TV.lit (Value.bool true), TV.cell x2 0] fun v6 =>
    Prg.chk (fitsAt zBool [v6] 0) (
    Prg.ite (asBool v6) (
      Prg.tv (plen (Kd.slice 25) (TV.cell x2 1)) fun v7 =>
      Prg.tv (pbin (Kd.int IntKind.i64) BinOp.leq v7 (TV.lit (Value.int IntKind.i64 (8 : Int)))) fun v8 =>
      Prg.ite (asBool v8) (
        Prg.call 82 [TV.cell x2 1] fun v9 =>
        Prg.chk (fitsAt zBool [v9] 0) (
        Prg.ite (asBool v9) (
          Prg.tv (plen (Kd.slice 25) (TV.cell x2 1)) fun v10 =>
          Prg.tv (pbin (Kd.int IntKind.i64) BinOp.gtr v10 (TV.lit (Value.int IntKind.i64 (0 : Int)))) fun v11 =>
          Prg.ite (asBool v11) (
            Prg.ret (TV.lit (Value.bool true))) (
            Prg.ite (asBool (TV.cell x2 2)) (
              Prg.ret (TV.lit (Value.bool true))) (
              Prg.ret (TV.cell x2 3)))) (
          Prg.ret (TV.lit (Value.bool false))))) (
        Prg.ret (TV.lit (Value.bool false)))) (
      Prg.ret (TV.lit (Value.bool false)))))))
theorem f63_MR (x0 x1 x2 : TV) : startQ prog 63 [x0, x1, x2] = f63_M x0 x1 x2 := by kernel_rfl

theorem f63_run {x0 x1 x2 : TV} {r : TV} (h : Goes prog 63 (f63_M x0 x1 x2) r) : Runs prog 63 [x0, x1, x2] r := Runs.of (f63_MR x0 x1 x2) h
def f64_M (x0 x1 : TV) : Prg TV :=
  Prg.chk (TV.isAgg x0 4) (
  Prg.chk (TV.isAgg x1 7) (
  Prg.call 83 [TV.cell x1 0] fun v0 =>
  Prg.chk (fitsAt zInt [v0] 0) (
  Prg.call 84 [v0, TV.lit (Value.int IntKind.i64 (1 : Int))] fun v1 =>
  Prg.chk (fitsAt zBool [v1] 0) (
  Prg.ite (asBool v1) (
    Prg.call 84 [v0, TV.lit (Value.int IntKind.i64 (2 : Int))] fun v2 =>
    Prg.chk (fitsAt zBool [v2] 0) (
    Prg.call 81 [TV.agg [TV.cell x0 0, TV.cell x0 1, TV.cell x0 2, TV.cell x0 3], v2, TV.cell x1 1] fun v3 =>
    Prg.chk (fitsAt zBool [v3] 0) (
    Prg.ite (asBool v3) (
      Prg.call 84 [v0, TV.lit (Value.int IntKind.i64 (4 : Int))] fun v4 =>
      Prg.chk (fitsAt zBool [v4] 0) (
      Prg.call 81 [TV.agg [TV.cell x0 0, TV.cell x0 1, TV.cell x0 2, TV.cell x0 3], v4, TV.cell x1 2] fun v5 =>
      Prg.chk (fitsAt zBool [v5] 0) (
      Prg.ite (asBool v5) (
        Prg.call 84 [v0, TV.lit (Value.int IntKind.i64 (8 : Int))] fun v6 =>
        Prg.chk (fitsAt zBool [v6] 0) (
        Prg.call 81 [TV.agg [TV.cell x0 0, TV.cell x0 1, TV.cell x0 2, TV.cell x0 3], v6, TV.cell x1 3] fun v7 =>
        Prg.chk (fitsAt zBool [v7] 0) (
        Prg.ite (asBool v7) (
          Prg.call 84 [v0, TV.lit (Value.int IntKind.i64 (16 : Int))] fun v8 =>
          Prg.chk (fitsAt zBool [v8] 0) (
          Prg.ite (asBool v8) (
            Prg.call 84 [v0, TV.lit (Value.int IntKind.i64 (32 : Int))] fun v9 =>
            Prg.chk (fitsAt zBool [v9] 0) (
            Prg.call 85 [TV.agg [TV.cell x0 0, TV.cell x0 1, TV.cell x0 2, TV.cell x0 3], v9, TV.cell x1 5, TV.cell x1 6] fun v10 =>
            Prg.chk (fitsAt zBool [v10] 0) (
            Prg.ret v10))) (
            Prg.tv (pbin (Kd.int IntKind.u16) BinOp.eql (TV.cell x1 4) (TV.lit (Value.int IntKind.u16 (0 : Int)))) fun v11 =>
            Prg.ite (asBool v11) (
              Prg.call 84 [v0, TV.lit (Value.int IntKind.i64 (32 : Int))] fun v12 =>
              Prg.chk (fitsAt zBool [v12] 0) (
              Prg.call 85 [TV.agg [TV.cell x0 0, TV.cell x0 1, TV.cell x0 2, TV.cell x0 3], v12, TV.cell x1 5, TV.cell x1 6] fun v13 =>
              Prg.chk (fitsAt zBool [v13] 0) (
              Prg.ret v13))) (
              Prg.ret (TV.lit (Value.bool false)))))) (
          Prg.ret (TV.lit (Value.bool false)))))) (
        Prg.ret (TV.lit (Value.bool false)))))) (
      Prg.ret (TV.lit (Value.bool false)))))) (
    Prg.ret (TV.lit (Value.bool false)))))))
theorem f64_MR (x0 x1 : TV) : startQ prog 64 [x0, x1] = f64_M x0 x1 := by kernel_rfl

theorem f64_run {x0 x1 : TV} {r : TV} (h : Goes prog 64 (f64_M x0 x1) r) : Runs prog 64 [x0, x1] r := Runs.of (f64_MR x0 x1) h
end Go.Ab.D5

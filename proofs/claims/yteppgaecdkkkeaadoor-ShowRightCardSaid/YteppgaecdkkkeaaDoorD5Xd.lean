import Derived.Test.YteppgaecdkkkeaaDoorD5T
import Derived.Test.YteppgaecdkkkeaaDoorF0
set_option linter.unusedVariables false
set_option maxRecDepth 100000
namespace Go.Ab.D5
open Go Go.Ab Go.Proofs
def f65_M (x0 x1 : TV) : Prg TV :=
  Prg.chk (TV.isAgg x0 4) (
  Prg.chk (TV.isAgg x1 8) (
  Prg.call 86 [TV.cell x1 0] fun v0 =>
  Prg.chk (fitsAt zInt [v0] 0) (
  Prg.call 84 [v0, TV.lit (Value.int IntKind.i64 (1 : Int))] fun v1 =>
  Prg.chk (fitsAt zBool [v1] 0) (
  Prg.ite (asBool v1) (
    Prg.call 84 [v0, TV.lit (Value.int IntKind.i64 (4 : Int))] fun v2 =>
    Prg.chk (fitsAt zBool [v2] 0) (
    Prg.call 81 [TV.agg [TV.cell x0 0, TV.cell x0 1, TV.cell x0 2, TV.cell x0 3], v2, TV.cell x1 1] fun v3 =>
    Prg.chk (fitsAt zBool [v3] 0) (
    Prg.ite (asBool v3) (
      Prg.call 84 [v0, TV.lit (Value.int IntKind.i64 (2 : Int))] fun v4 =>
      Prg.chk (fitsAt zBool [v4] 0) (
      Prg.call 81 [TV.agg [TV.cell x0 0, TV.cell x0 1, TV.cell x0 2, TV.cell x0 3], v4, TV.cell x1 2] fun v5 =>
      Prg.chk (fitsAt zBool [v5] 0) (
      Prg.ite (asBool v5) (
        Prg.call 84 [v0, TV.lit (Value.int IntKind.i64 (32 : Int))] fun v6 =>
        Prg.chk (fitsAt zBool [v6] 0) (
        Prg.call 85 [TV.agg [TV.cell x0 0, TV.cell x0 1, TV.cell x0 2, TV.cell x0 3], v6, TV.cell x1 3, TV.cell x1 4] fun v7 =>
        Prg.chk (fitsAt zBool [v7] 0) (
        Prg.ite (asBool v7) (
          Prg.call 84 [v0, TV.lit (Value.int IntKind.i64 (64 : Int))] fun v8 =>
          Prg.chk (fitsAt zBool [v8] 0) (
          Prg.call 87 [TV.agg [TV.cell x0 0, TV.cell x0 1, TV.cell x0 2, TV.cell x0 3], v8, TV.cell x1 5, TV.lit (Value.bool false)] fun v9 =>
          Prg.chk (fitsAt zBool [v9] 0) (
          Prg.ite (asBool v9) (
            Prg.call 84 [v0, TV.lit (Value.int IntKind.i64 (128 : Int))] fun v10 =>
            Prg.chk (fitsAt zBool [v10] 0) (
            Prg.call 87 [TV.agg [TV.cell x0 0, TV.cell x0 1, TV.cell x0 2, TV.cell x0 3], v10, TV.cell x1 6, TV.lit (Value.bool false)] fun v11 =>
            Prg.chk (fitsAt zBool [v11] 0) (
            Prg.ite (asBool v11) (
              Prg.call 84 [v0, TV.lit (Value.int IntKind.i64 (256 : Int))] fun v12 =>
              Prg.chk (fitsAt zBool [v12] 0) (
              Prg.call 87 [TV.agg [TV.cell x0 0, TV.cell x0 1, TV.cell x0 2, TV.cell x0 3], v12, TV.cell x1 7, TV.lit (Value.bool true)] fun v13 =>
              Prg.chk (fitsAt zBool [v13] 0) (
              Prg.ret v13))) (
              Prg.ret (TV.lit (Value.bool false)))))) (
            Prg.ret (TV.lit (Value.bool false)))))) (
          Prg.ret (TV.lit (Value.bool false)))))) (
        Prg.ret (TV.lit (Value.bool false)))))) (
      Prg.ret (TV.lit (Value.bool false)))))) (
    Prg.ret (TV.lit (Value.bool false)))))))
theorem f65_MR (x0 x1 : TV) : startQ prog 65 [x0, x1] = f65_M x0 x1 := by kernel_rfl

theorem f65_run {x0 x1 : TV} {r : TV} (h : Goes prog 65 (f65_M x0 x1) r) : Runs prog 65 [x0, x1] r := Runs.of (f65_MR x0 x1) h
def f68_M (x0 x1 : TV) : Prg TV :=
  Prg.tv (pbin (Kd.int IntKind.i64) BinOp.geq x0 (TV.lit (Value.int IntKind.i64 (0 : Int)))) fun v0 =>
  Prg.ite (asBool v0) (
    Prg.tv (pbin (Kd.int IntKind.i64) BinOp.lss x0 x1) fun v1 =>
    Prg.ret v1) (
    Prg.ret (TV.lit (Value.bool false)))
theorem f68_MR (x0 x1 : TV) : startQ prog 68 [x0, x1] = f68_M x0 x1 := by kernel_rfl

theorem f68_run {x0 x1 : TV} {r : TV} (h : Goes prog 68 (f68_M x0 x1) r) : Runs prog 68 [x0, x1] r := Runs.of (f68_MR x0 x1) h
def f69_M (x0 x1 : TV) : Prg TV :=
  Prg.chk (TV.isAgg x0 3) (
  Prg.tv (plen (Kd.slice 56) (TV.cell x0 2)) fun v0 =>
  Prg.call 68 [x1, v0] fun v1 =>
  Prg.chk (fitsAt zBool [v1] 0) (
  Prg.ite (asBool v1) (
    Prg.tvs (pidx 14 (TV.cell x0 2) x1) fun e2 =>
    Prg.chk (Nat.blt 0 (List.length e2)) (
    Prg.tv (pun UnOp.not (nth TV.hole e2 0)) fun v3 =>
    Prg.ret v3)) (
    Prg.ret (TV.lit (Value.bool false)))))
theorem f69_MR (x0 x1 : TV) : startQ prog 69 [x0, x1] = f69_M x0 x1 := by kernel_rfl

theorem f69_run {x0 x1 : TV} {r : TV} (h : Goes prog 69 (f69_M x0 x1) r) : Runs prog 69 [x0, x1] r := Runs.of (f69_MR x0 x1) h
def f70_0_S  (x0 x1 y2 y3 y4 : TV) : ASt := ⟨[AV.one CA.junk, AV.one CA.junk, AV.one CA.junk, AV.tv x0, AV.one CA.junk, AV.one (CA.ptr 0 0), AV.one CA.junk, AV.one CA.junk, AV.one CA.junk, AV.tv x1] ++ List.replicate 31 (AV.one CA.junk), [Option.some (BC.cells [CA.t y2, CA.t y3, CA.t y4])] ++ List.replicate 64 (Option.none), []⟩
def f70_M (x0 x1 x2 x3 : TV) : Prg TV :=
  Prg.chk (TV.isAgg x0 1) (
  Prg.chk (TV.isAgg x1 3) (
  Prg.tv (plen (Kd.slice 59) (TV.cell x0 0)) fun v0 =>
  Prg.call 68 [x2, v0] fun v1 =>
  Prg.chk (fitsAt zBool [v1] 0) (
  Prg.tv (pun UnOp.not v1) fun v2 =>
  Prg.ite (asBool v2) (
    Prg.ret (TV.lit (Value.bool false))) (
    Prg.tv (plen (Kd.slice 3) x3) fun v3 =>
    Prg.tvs (pidx 3 (TV.cell x0 0) x2) fun e4 =>
    Prg.chk (Nat.blt 0 (List.length e4)) (
    Prg.tv (pbin (Kd.int IntKind.i64) BinOp.neq v3 (nth TV.hole e4 0)) fun v5 =>
    Prg.ite (asBool v5) (
      Prg.ret (TV.lit (Value.bool false))) (
      Prg.jmp [0, 0, 1, 0, 1, 1] (f70_0_S x3 (TV.lit (Value.int IntKind.i64 (0 : Int))) (TV.cell x1 0) (TV.cell x1 1) (TV.cell x1 2))))))))
-- [0, 0, 1, 0, 1, 1]
def f70_0  (x0 x1 y2 y3 y4 : TV) : Prg TV :=
  Prg.tv (plen (Kd.slice 3) x0) fun v6 =>
  Prg.tv (pbin (Kd.int IntKind.i64) BinOp.lss x1 v6) fun v7 =>
  Prg.ite (asBool v7) (
    Prg.tvs (pidx 1 x0 x1) fun e8 =>
    Prg.chk (Nat.blt 0 (List.length e8)) (
    Prg.call 68 [nth TV.hole e8 0, y3] fun v9 =>
    Prg.chk (fitsAt zBool [v9] 0) (
    Prg.tv (pun UnOp.not v9) fun v10 =>
    Prg.ite (asBool v10) (
      Prg.ret (TV.lit (Value.bool false))) (
      Prg.tv (pbin (Kd.int IntKind.i64) BinOp.add x1 (TV.lit (Value.int IntKind.i64 (1 : Int)))) fun v11 =>
      Prg.jmp [0, 0, 1, 0, 1, 1] (f70_0_S x0 v11 y2 y3 y4))))) (
    Prg.ret (TV.lit (Value.bool true)))
theorem f70_MR (x0 x1 x2 x3 : TV) : startQ prog 70 [x0, x1, x2, x3] = f70_M x0 x1 x2 x3 := by kernel_rfl
theorem f70_0_R  (x0 x1 y2 y3 y4 : TV) : pieceQ prog 70 [0, 0, 1, 0, 1, 1] (f70_0_S x0 x1 y2 y3 y4) = f70_0 x0 x1 y2 y3 y4 := by kernel_rfl

theorem f70_run {x0 x1 x2 x3 : TV} {r : TV} (h : Goes prog 70 (f70_M x0 x1 x2 x3) r) : Runs prog 70 [x0, x1, x2, x3] r := Runs.of (f70_MR x0 x1 x2 x3) h
theorem f70_0_J  {x0 x1 y2 y3 y4 : TV} {r : TV} (h : Goes prog 70 (f70_0 x0 x1 y2 y3 y4) r) : Goes prog 70 (.jmp [0, 0, 1, 0, 1, 1] (f70_0_S x0 x1 y2 y3 y4)) r := Goes.jmp (f70_0_R x0 x1 y2 y3 y4) h
def f71_M (x0 x1 x2 : TV) : Prg TV :=
  Prg.tv (pbin (Kd.int IntKind.u16) BinOp.eql x0 (TV.lit (Value.int IntKind.u16 (0 : Int)))) fun v0 =>
  Prg.ite (asBool v0) (
    Prg.tv (pbin (Kd.int IntKind.i64) BinOp.eql x1 (TV.lit (Value.int IntKind.i64 (0 : Int)))) fun v1 =>
    Prg.ite (asBool v1) (
      Prg.tv (plen (Kd.slice 3) x2) fun v2 =>
      Prg.tv (pbin (Kd.int IntKind.i64) BinOp.eql v2 (TV.lit (Value.int IntKind.i64 (0 : Int)))) fun v3 =>
      Prg.ret v3) (
      Prg.ret (TV.lit (Value.bool false)))) (
    Prg.ret (TV.lit (Value.bool false)))
theorem f71_MR (x0 x1 x2 : TV) : startQ prog 71 [x0, x1, x2] = f71_M x0 x1 x2 := by kernel_rfl

theorem f71_run {x0 x1 x2 : TV} {r : TV} (h : Goes prog 71 (f71_M x0 x1 x2) r) : Runs prog 71 [x0, x1, x2] r := Runs.of (f71_MR x0 x1 x2) h
def f81_M (x0 x1 x2 : TV) : Prg TV :=
  Prg.chk (TV.isAgg x0 4) (
  Prg.tv (pun UnOp.not x1) fun v0 =>
  Prg.ite (asBool v0) (
    Prg.tv (pbin (Kd.int IntKind.i64) BinOp.eql x2 (TV.lit (Value.int IntKind.i64 (0 : Int)))) fun v1 =>
    Prg.ret v1) (
    Prg.tv (pbin (Kd.int IntKind.i64) BinOp.leq (TV.lit (Value.int IntKind.i64 (0 : Int))) x2) fun v2 =>
    Prg.ite (asBool v2) (
      Prg.tv (pbin (Kd.int IntKind.i64) BinOp.lss x2 (TV.cell x0 2)) fun v3 =>
      Prg.ret v3) (
      Prg.ret (TV.lit (Value.bool false)))))
theorem f81_MR (x0 x1 x2 : TV) : startQ prog 81 [x0, x1, x2] = f81_M x0 x1 x2 := by kernel_rfl

theorem f81_run {x0 x1 x2 : TV} {r : TV} (h : Goes prog 81 (f81_M x0 x1 x2) r) : Runs prog 81 [x0, x1, x2] r := Runs.of (f81_MR x0 x1 x2) h
def f82_0_S  (x0 x1 x2 x3 : TV) : ASt := ⟨[AV.tv x0] ++ List.replicate 4 (AV.one CA.junk) ++ [AV.tv x1, AV.tv x2, AV.tv x3] ++ List.replicate 10 (AV.one CA.junk), List.replicate 42 (Option.none), []⟩
def f82_M (x0 : TV) : Prg TV :=
  Prg.tv (plen (Kd.slice 25) x0) fun v0 =>
  Prg.jmp [0, 0, 1, 0, 1] (f82_0_S x0 x0 v0 (TV.lit (Value.int IntKind.i64 (0 : Int))))
-- [0, 0, 1, 0, 1]
def f82_0  (x0 x1 x2 x3 : TV) : Prg TV :=
  Prg.tv (pbin (Kd.int IntKind.i64) BinOp.lss x3 x2) fun v1 =>
  Prg.ite (asBool v1) (
    Prg.tvs (pidx 1 x1 x3) fun e2 =>
    Prg.chk (Nat.blt 0 (List.length e2)) (
    Prg.nat (asNat x3) fun n3 =>
    Prg.tv (pslice (Kd.slice 25) 1 x0 Option.none (Option.some n3)) fun v4 =>
    Prg.call 105 [v4, nth TV.hole e2 0] fun v5 =>
    Prg.chk (fitsAt zBool [v5] 0) (
    Prg.ite (asBool v5) (
      Prg.ret (TV.lit (Value.bool false))) (
      Prg.tv (pbin (Kd.int IntKind.i64) BinOp.add x3 (TV.lit (Value.int IntKind.i64 (1 : Int)))) fun v6 =>
      Prg.jmp [0, 0, 1, 0, 1] (f82_0_S x0 x1 x2 v6))))) (
    Prg.ret (TV.lit (Value.bool true)))
theorem f82_MR (x0 : TV) : startQ prog 82 [x0] = f82_M x0 := by kernel_rfl
theorem f82_0_R  (x0 x1 x2 x3 : TV) : pieceQ prog 82 [0, 0, 1, 0, 1] (f82_0_S x0 x1 x2 x3) = f82_0 x0 x1 x2 x3 := by kernel_rfl

theorem f82_run {x0 : TV} {r : TV} (h : Goes prog 82 (f82_M x0) r) : Runs prog 82 [x0] r := Runs.of (f82_MR x0) h
theorem f82_0_J  {x0 x1 x2 x3 : TV} {r : TV} (h : Goes prog 82 (f82_0 x0 x1 x2 x3) r) : Goes prog 82 (.jmp [0, 0, 1, 0, 1] (f82_0_S x0 x1 x2 x3)) r := Goes.jmp (f82_0_R x0 x1 x2 x3) h
def f83_M (x0 : TV) : Prg TV :=
  Prg.tv (pbin (Kd.int IntKind.i64) BinOp.eql x0 (TV.lit (Value.int IntKind.i64 (1 : Int)))) fun v0 =>
  Prg.ite (asBool v0) (
    Prg.ret (TV.lit (Value.int IntKind.i64 (19 : Int)))) (
    Prg.tv (pbin (Kd.int IntKind.i64) BinOp.eql x0 (TV.lit (Value.int IntKind.i64 (2 : Int)))) fun v1 =>
    Prg.ite (asBool v1) (
      Prg.ite (asBool v1) (
        Prg.ret (TV.lit (Value.int IntKind.i64 (7 : Int)))) (
        Prg.tv (pbin (Kd.int IntKind.i64) BinOp.eql x0 (TV.lit (Value.int IntKind.i64 (3 : Int)))) fun v2 =>
        Prg.ite (asBool v2) (
          Prg.ite (asBool v2) (
            Prg.ret (TV.lit (Value.int IntKind.i64 (15 : Int)))) (
            Prg.tv (pbin (Kd.int IntKind.i64) BinOp.eql x0 (TV.lit (Value.int IntKind.i64 (10 : Int)))) fun v3 =>
            Prg.ite (asBool v3) (
              Prg.ret (TV.lit (Value.int IntKind.i64 (13 : Int)))) (
              Prg.tv (pbin (Kd.int IntKind.i64) BinOp.eql x0 (TV.lit (Value.int IntKind.i64 (11 : Int)))) fun v4 =>
              Prg.ite (asBool v4) (
                Prg.ret (TV.lit (Value.int IntKind.i64 (35 : Int)))) (
                Prg.tv (pbin (Kd.int IntKind.i64) BinOp.eql x0 (TV.lit (Value.int IntKind.i64 (12 : Int)))) fun v5 =>
                Prg.ite (asBool v5) (
                  Prg.ret (TV.lit (Value.int IntKind.i64 (5 : Int)))) (
                  Prg.tv (pbin (Kd.int IntKind.i64) BinOp.eql x0 (TV.lit (Value.int IntKind.i64 (13 : Int)))) fun v6 =>
                  Prg.ite (asBool v6) (
                    Prg.ret (TV.lit (Value.int IntKind.i64 (3 : Int)))) (
                    Prg.ret (TV.lit (Value.int IntKind.i64 (0 : Int))))))))) (
          Prg.tv (pbin (Kd.int IntKind.i64) BinOp.eql x0 (TV.lit (Value.int IntKind.i64 (4 : Int)))) fun v7 =>
          Prg.ite (asBool v7) (
            Prg.ite (asBool v7) (
              Prg.ret (TV.lit (Value.int IntKind.i64 (15 : Int)))) (
              Prg.tv (pbin (Kd.int IntKind.i64) BinOp.eql x0 (TV.lit (Value.int IntKind.i64 (10 : Int)))) fun v8 =>
              Prg.ite (asBool v8) (
                Prg.ret (TV.lit (Value.int IntKind.i64 (13 : Int)))) (
                Prg.tv (pbin (Kd.int IntKind.i64) BinOp.eql x0 (TV.lit (Value.int IntKind.i64 (11 : Int)))) fun v9 =>
                Prg.ite (asBool v9) (
                  Prg.ret (TV.lit (Value.int IntKind.i64 (35 : Int)))) (
                  Prg.tv (pbin (Kd.int IntKind.i64) BinOp.eql x0 (TV.lit (Value.int IntKind.i64 (12 : Int)))) fun v10 =>
                  Prg.ite (asBool v10) (
                    Prg.ret (TV.lit (Value.int IntKind.i64 (5 : Int)))) (
                    Prg.tv (pbin (Kd.int IntKind.i64) BinOp.eql x0 (TV.lit (Value.int IntKind.i64 (13 : Int)))) fun v11 =>
                    Prg.ite (asBool v11) (
                      Prg.ret (TV.lit (Value.int IntKind.i64 (3 : Int)))) (
                      Prg.ret (TV.lit (Value.int IntKind.i64 (0 : Int))))))))) (
            Prg.tv (pbin (Kd.int IntKind.i64) BinOp.eql x0 (TV.lit (Value.int IntKind.i64 (5 : Int)))) fun v12 =>
            Prg.ite (asBool v12) (
              Prg.ite (asBool v12) (
                Prg.ret (TV.lit (Value.int IntKind.i64 (15 : Int)))) (
                Prg.tv (pbin (Kd.int IntKind.i64) BinOp.eql x0 (TV.lit (Value.int IntKind.i64 (10 : Int)))) fun v13 =>
                Prg.ite (asBool v13) (
                  Prg.ret (TV.lit (Value.int IntKind.i64 (13 : Int)))) (
                  Prg.tv (pbin (Kd.int IntKind.i64) BinOp.eql x0 (TV.lit (Value.int IntKind.i64 (11 : Int)))) fun v14 =>
                  Prg.ite (asBool v14) (
                    Prg.ret (TV.lit (Value.int IntKind.i64 (35 : Int)))) (
                    Prg.tv (pbin (Kd.int IntKind.i64) BinOp.eql x0 (TV.lit (Value.int IntKind.i64 (12 : Int)))) fun v15 =>
                    Prg.ite (asBool v15) (
                      Prg.ret (TV.lit (Value.int IntKind.i64 (5 : Int)))) (
                      Prg.tv (pbin (Kd.int IntKind.i64) BinOp.eql x0 (TV.lit (Value.int IntKind.i64 (13 : Int)))) fun v16 =>
                      Prg.ite (asBool v16) (
                        Prg.ret (TV.lit (Value.int IntKind.i64 (3 : Int)))) (
                        Prg.ret (TV.lit (Value.int IntKind.i64 (0 : Int))))))))) (
              Prg.tv (pbin (Kd.int IntKind.i64) BinOp.eql x0 (TV.lit (Value.int IntKind.i64 (6 : Int)))) fun v17 =>
              Prg.ite (asBool v17) (
                Prg.ite (asBool v17) (
                  Prg.ret (TV.lit (Value.int IntKind.i64 (15 : Int)))) (
                  Prg.tv (pbin (Kd.int IntKind.i64) BinOp.eql x0 (TV.lit (Value.int IntKind.i64 (10 : Int)))) fun v18 =>
                  Prg.ite (asBool v18) (
                    Prg.ret (TV.lit (Value.int IntKind.i64 (13 : Int)))) (
                    Prg.tv (pbin (Kd.int IntKind.i64) BinOp.eql x0 (TV.lit (Value.int IntKind.i64 (11 : Int)))) fun v19 =>
                    Prg.ite (asBool v19) (
                      Prg.ret (TV.lit (Value.int IntKind.i64 (35 : Int)))) (
                      Prg.tv (pbin (Kd.int IntKind.i64) BinOp.eql x0 (TV.lit (Value.int IntKind.i64 (12 : Int)))) fun v20 =>
                      Prg.ite (asBool v20) (
                        Prg.ret (TV.lit (Value.int IntKind.i64 (5 : Int)))) (
                        Prg.tv (pbin (Kd.int IntKind.i64) BinOp.eql x0 (TV.lit (Value.int IntKind.i64 (13 : Int)))) fun v21 =>
                        Prg.ite (asBool v21) (
                          Prg.ret (TV.lit (Value.int IntKind.i64 (3 : Int)))) (
                          Prg.ret (TV.lit (Value.int IntKind.i64 (0 : Int))))))))) (
                Prg.tv (pbin (Kd.int IntKind.i64) BinOp.eql x0 (TV.lit (Value.int IntKind.i64 (7 : Int)))) fun v22 =>
                Prg.ite (asBool v22) (
                  Prg.ite (asBool v22) (
                    Prg.ret (TV.lit (Value.int IntKind.i64 (15 : Int)))) (
                    Prg.tv (pbin (Kd.int IntKind.i64) BinOp.eql x0 (TV.lit (Value.int IntKind.i64 (10 : Int)))) fun v23 =>
                    Prg.ite (asBool v23) (
                      Prg.ret (TV.lit (Value.int IntKind.i64 (13 : Int)))) (
                      Prg.tv (pbin (Kd.int IntKind.i64) BinOp.eql x0 (TV.lit (Value.int IntKind.i64 (11 : Int)))) fun v24 =>
                      Prg.ite (asBool v24) (
                        Prg.ret (TV.lit (Value.int IntKind.i64 (35 : Int)))) (
                        Prg.tv (pbin (Kd.int IntKind.i64) BinOp.eql x0 (TV.lit (Value.int IntKind.i64 (12 : Int)))) fun v25 =>
                        Prg.ite (asBool v25) (
                          Prg.ret (TV.lit (Value.int IntKind.i64 (5 : Int)))) (
                          Prg.tv (pbin (Kd.int IntKind.i64) BinOp.eql x0 (TV.lit (Value.int IntKind.i64 (13 : Int)))) fun v26 =>
                          Prg.ite (asBool v26) (
                            Prg.ret (TV.lit (Value.int IntKind.i64 (3 : Int)))) (
                            Prg.ret (TV.lit (Value.int IntKind.i64 (0 : Int))))))))) (
                  Prg.tv (pbin (Kd.int IntKind.i64) BinOp.eql x0 (TV.lit (Value.int IntKind.i64 (8 : Int)))) fun v27 =>
                  Prg.ite (asBool v27) (
                    Prg.ret (TV.lit (Value.int IntKind.i64 (15 : Int)))) (
                    Prg.tv (pbin (Kd.int IntKind.i64) BinOp.eql x0 (TV.lit (Value.int IntKind.i64 (10 : Int)))) fun v28 =>
                    Prg.ite (asBool v28) (
                      Prg.ret (TV.lit (Value.int IntKind.i64 (13 : Int)))) (
                      Prg.tv (pbin (Kd.int IntKind.i64) BinOp.eql x0 (TV.lit (Value.int IntKind.i64 (11 : Int)))) fun v29 =>
                      Prg.ite (asBool v29) (
                        Prg.ret (TV.lit (Value.int IntKind.i64 (35 : Int)))) (
                        Prg.tv (pbin (Kd.int IntKind.i64) BinOp.eql x0 (TV.lit (Value.int IntKind.i64 (12 : Int)))) fun v30 =>
                        Prg.ite (asBool v30) (
                          Prg.ret (TV.lit (Value.int IntKind.i64 (5 : Int)))) (
                          Prg.tv (pbin (Kd.int IntKind.i64) BinOp.eql x0 (TV.lit (Value.int IntKind.i64 (13 : Int)))) fun v31 =>
                          Prg.ite (asBool v31) (
                            Prg.ret (TV.lit (Value.int IntKind.i64 (3 : Int)))) (
                            Prg.ret (TV.lit (Value.int IntKind.i64 (0 : Int))))))))))))))) (
      Prg.tv (pbin (Kd.int IntKind.i64) BinOp.eql x0 (TV.lit (Value.int IntKind.i64 (9 : Int)))) fun v32 =>
      Prg.ite (asBool v32) (
        Prg.ret (TV.lit (Value.int IntKind.i64 (7 : Int)))) (
        Prg.tv (pbin (Kd.int IntKind.i64) BinOp.eql x0 (TV.lit (Value.int IntKind.i64 (3 : Int)))) fun v33 =>
        Prg.ite (asBool v33) (
          Prg.ite (asBool v33) (
            Prg.ret (TV.lit (Value.int IntKind.i64 (15 : Int)))) (
            Prg.tv (pbin (Kd.int IntKind.i64) BinOp.eql x0 (TV.lit (Value.int IntKind.i64 (10 : Int)))) fun v34 =>
            Prg.ite (asBool v34) (
              Prg.ret (TV.lit (Value.int IntKind.i64 (13 : Int)))) (
              Prg.tv (pbin (Kd.int IntKind.i64) BinOp.eql x0 (TV.lit (Value.int IntKind.i64 (11 : Int)))) fun v35 =>
              Prg.ite (asBool v35) (
                Prg.ret (TV.lit (Value.int IntKind.i64 (35 : Int)))) (
                Prg.tv (pbin (Kd.int IntKind.i64) BinOp.eql x0 (TV.lit (Value.int IntKind.i64 (12 : Int)))) fun v36 =>
                Prg.ite (asBool v36) (
                  Prg.ret (TV.lit (Value.int IntKind.i64 (5 : Int)))) (
                  Prg.tv (pbin (Kd.int IntKind.i64) BinOp.eql x0 (TV.lit (Value.int IntKind.i64 (13 : Int)))) fun v37 =>
                  Prg.ite (asBool v37) (
                    Prg.ret (TV.lit (Value.int IntKind.i64 (3 : Int)))) (
                    Prg.ret (TV.lit (Value.int IntKind.i64 (0 : Int))))))))) (
          Prg.tv (pbin (Kd.int IntKind.i64) BinOp.eql x0 (TV.lit (Value.int IntKind.i64 (4 : Int)))) fun v38 =>
          Prg.ite (asBool v38) (
            Prg.ite (asBool v38) (
              Prg.ret (TV.lit (Value.int IntKind.i64 (15 : Int)))) (
              Prg.tv (pbin (Kd.int IntKind.i64) BinOp.eql x0 (TV.lit (Value.int IntKind.i64 (10 : Int)))) fun v39 =>
              Prg.ite (asBool v39) (
                Prg.ret (TV.lit (Value.int IntKind.i64 (13 : Int)))) (
                Prg.tv (pbin (Kd.int IntKind.i64) BinOp.eql x0 (TV.lit (Value.int IntKind.i64 (11 : Int)))) fun v40 =>
                Prg.ite (asBool v40) (
                  Prg.ret (TV.lit (Value.int IntKind.i64 (35 : Int)))) (
                  Prg.tv (pbin (Kd.int IntKind.i64) BinOp.eql x0 (TV.lit (Value.int IntKind.i64 (12 : Int)))) fun v41 =>
                  Prg.ite (asBool v41) (
                    Prg.ret (TV.lit (Value.int IntKind.i64 (5 : Int)))) (
                    Prg.tv (pbin (Kd.int IntKind.i64) BinOp.eql x0 (TV.lit (Value.int IntKind.i64 (13 : Int)))) fun v42 =>
                    Prg.ite (asBool v42) (
                      Prg.ret (TV.lit (Value.int IntKind.i64 (3 : Int)))) (
                      Prg.ret (TV.lit (Value.int IntKind.i64 (0 : Int))))))))) (
            Prg.tv (pbin (Kd.int IntKind.i64) BinOp.eql x0 (TV.lit (Value.int IntKind.i64 (5 : Int)))) fun v43 =>
            Prg.ite (asBool v43) (
              Prg.ite (asBool v43) (
                Prg.ret (TV.lit (Value.int IntKind.i64 (15 : Int)))) (
                Prg.tv (pbin (Kd.int IntKind.i64) BinOp.eql x0 (TV.lit (Value.int IntKind.i64 (10 : Int)))) fun v44 =>
                Prg.ite (asBool v44) (
                  Prg.ret (TV.lit (Value.int IntKind.i64 (13 : Int)))) (
                  Prg.tv (pbin (Kd.int IntKind.i64) BinOp.eql x0 (TV.lit (Value.int IntKind.i64 (11 : Int)))) fun v45 =>
                  Prg.ite (asBool v45) (
                    Prg.ret (TV.lit (Value.int IntKind.i64 (35 : Int)))) (
                    Prg.tv (pbin (Kd.int IntKind.i64) BinOp.eql x0 (TV.lit (Value.int IntKind.i64 (12 : Int)))) fun v46 =>
                    Prg.ite (asBool v46) (
                      Prg.ret (TV.lit (Value.int IntKind.i64 (5 : Int)))) (
                      Prg.tv (pbin (Kd.int IntKind.i64) BinOp.eql x0 (TV.lit (Value.int IntKind.i64 (13 : Int)))) fun v47 =>
                      Prg.ite (asBool v47) (
                        Prg.ret (TV.lit (Value.int IntKind.i64 (3 : Int)))) (
                        Prg.ret (TV.lit (Value.int IntKind.i64 (0 : Int))))))))) (
              Prg.tv (pbin (Kd.int IntKind.i64) BinOp.eql x0 (TV.lit (Value.int IntKind.i64 (6 : Int)))) fun v48 =>
              Prg.ite (asBool v48) (
                Prg.ite (asBool v48) (
                  Prg.ret (TV.lit (Value.int IntKind.i64 (15 : Int)))) (
                  Prg.tv (pbin (Kd.int IntKind.i64) BinOp.eql x0 (TV.lit (Value.int IntKind.i64 (10 : Int)))) fun v49 =>
                  Prg.ite (asBool v49) (
                    Prg.ret (TV.lit (Value.int IntKind.i64 (13 : Int)))) (
                    Prg.tv (pbin (Kd.int IntKind.i64) BinOp.eql x0 (TV.lit (Value.int IntKind.i64 (11 : Int)))) fun v50 =>
                    Prg.ite (asBool v50) (
                      Prg.ret (TV.lit (Value.int IntKind.i64 (35 : Int)))) (
                      Prg.tv (pbin (Kd.int IntKind.i64) BinOp.eql x0 (TV.lit (Value.int IntKind.i64 (12 : Int)))) fun v51 =>
                      Prg.ite (asBool v51) (
                        Prg.ret (TV.lit (Value.int IntKind.i64 (5 : Int)))) (
                        Prg.tv (pbin (Kd.int IntKind.i64) BinOp.eql x0 (TV.lit (Value.int IntKind.i64 (13 : Int)))) fun v52 =>
                        Prg.ite (asBool v52) (
                          Prg.ret (TV.lit (Value.int IntKind.i64 (3 : Int)))) (
                          Prg.ret (TV.lit (Value.int IntKind.i64 (0 : Int))))))))) (
                Prg.tv (pbin (Kd.int IntKind.i64) BinOp.eql x0 (TV.lit (Value.int IntKind.i64 (7 : Int)))) fun v53 =>
                Prg.ite (asBool v53) (
                  Prg.ite (asBool v53) (
                    Prg.ret (TV.lit (Value.int IntKind.i64 (15 : Int)))) (
                    Prg.tv (pbin (Kd.int IntKind.i64) BinOp.eql x0 (TV.lit (Value.int IntKind.i64 (10 : Int)))) fun v54 =>
                    Prg.ite (asBool v54) (
                      Prg.ret (TV.lit (Value.int IntKind.i64 (13 : Int)))) (
                      Prg.tv (pbin (Kd.int IntKind.i64) BinOp.eql x0 (TV.lit (Value.int IntKind.i64 (11 : Int)))) fun v55 =>
                      Prg.ite (asBool v55) (
                        Prg.ret (TV.lit (Value.int IntKind.i64 (35 : Int)))) (
                        Prg.tv (pbin (Kd.int IntKind.i64) BinOp.eql x0 (TV.lit (Value.int IntKind.i64 (12 : Int)))) fun v56 =>
                        Prg.ite (asBool v56) (
                          Prg.ret (TV.lit (Value.int IntKind.i64 (5 : Int)))) (
                          Prg.tv (pbin (Kd.int IntKind.i64) BinOp.eql x0 (TV.lit (Value.int IntKind.i64 (13 : Int)))) fun v57 =>
                          Prg.ite (asBool v57) (
                            Prg.ret (TV.lit (Value.int IntKind.i64 (3 : Int)))) (
                            Prg.ret (TV.lit (Value.int IntKind.i64 (0 : Int))))))))) (
                  Prg.tv (pbin (Kd.int IntKind.i64) BinOp.eql x0 (TV.lit (Value.int IntKind.i64 (8 : Int)))) fun v58 =>
                  Prg.ite (asBool v58) (
                    Prg.ret (TV.lit (Value.int IntKind.i64 (15 : Int)))) (
                    Prg.tv (pbin (Kd.int IntKind.i64) BinOp.eql x0 (TV.lit (Value.int IntKind.i64 (10 : Int)))) fun v59 =>
                    Prg.ite (asBool v59) (
                      Prg.ret (TV.lit (Value.int IntKind.i64 (13 : Int)))) (
                      Prg.tv (pbin (Kd.int IntKind.i64) BinOp.eql x0 (TV.lit (Value.int IntKind.i64 (11 : Int)))) fun v60 =>
                      Prg.ite (asBool v60) (
                        Prg.ret (TV.lit (Value.int IntKind.i64 (35 : Int)))) (
                        Prg.tv (pbin (Kd.int IntKind.i64) BinOp.eql x0 (TV.lit (Value.int IntKind.i64 (12 : Int)))) fun v61 =>
                        Prg.ite (asBool v61) (
                          Prg.ret (TV.lit (Value.int IntKind.i64 (5 : Int)))) (
                          Prg.tv (pbin (Kd.int IntKind.i64) BinOp.eql x0 (TV.lit (Value.int IntKind.i64 (13 : Int)))) fun v62 =>
                          Prg.ite (asBool v62) (
                            Prg.ret (TV.lit (Value.int IntKind.i64 (3 : Int)))) (
                            Prg.ret (TV.lit (Value.int IntKind.i64 (0 : Int))))))))))))))))
theorem f83_MR (x0 : TV) : startQ prog 83 [x0] = f83_M x0 := by kernel_rfl

theorem f83_run {x0 : TV} {r : TV} (h : Goes prog 83 (f83_M x0) r) : Runs prog 83 [x0] r := Runs.of (f83_MR x0) h
def f84_M (x0 x1 : TV) : Prg TV :=
  Prg.tv (pbin (Kd.int IntKind.i64) BinOp.and x0 x1) fun v0 =>
  Prg.tv (pbin (Kd.int IntKind.i64) BinOp.neq v0 (TV.lit (Value.int IntKind.i64 (0 : Int)))) fun v1 =>
  Prg.ret v1
theorem f84_MR (x0 x1 : TV) : startQ prog 84 [x0, x1] = f84_M x0 x1 := by kernel_rfl

theorem f84_run {x0 x1 : TV} {r : TV} (h : Goes prog 84 (f84_M x0 x1) r) : Runs prog 84 [x0, x1] r := Runs.of (f84_MR x0 x1) h
def f85_0_S  (x0 x1 x2 y3 y4 y5 y6 : TV) : ASt := ⟨List.replicate 4 (AV.one CA.junk) ++ [AV.one (CA.ptr 0 0)] ++ List.replicate 35 (AV.one CA.junk) ++ [AV.tv x0, AV.tv x1, AV.tv x2] ++ List.replicate 8 (AV.one CA.junk), [Option.some (BC.cells [CA.t y3, CA.t y4, CA.t y5, CA.t y6])] ++ List.replicate 74 (Option.none), []⟩
def f85_M (x0 x1 x2 x3 : TV) : Prg TV :=
  Prg.chk (TV.isAgg x0 4) (
  Prg.tv (pun UnOp.not x1) fun v0 =>
  Prg.ite (asBool v0) (
    Prg.tv (pbin (Kd.int IntKind.i64) BinOp.eql x2 (TV.lit (Value.int IntKind.i64 (0 : Int)))) fun v1 =>
    Prg.ite (asBool v1) (
      Prg.tv (plen (Kd.slice 3) x3) fun v2 =>
      Prg.tv (pbin (Kd.int IntKind.i64) BinOp.eql v2 (TV.lit (Value.int IntKind.i64 (0 : Int)))) fun v3 =>
      Prg.ret v3) (
      Prg.ret (TV.lit (Value.bool false)))) (
    Prg.tv (pbin (Kd.int IntKind.i64) BinOp.lss x2 (TV.lit (Value.int IntKind.i64 (0 : Int)))) fun v4 =>
    Prg.ite (asBool v4) (
      Prg.ret (TV.lit (Value.bool false))) (
      Prg.tv (plen (Kd.slice 59) (TV.cell x0 0)) fun v5 =>
      Prg.tv (pbin (Kd.int IntKind.i64) BinOp.geq x2 v5) fun v6 =>
      Prg.ite (asBool v6) (
        Prg.ret (TV.lit (Value.bool false))) (
        Prg.tv (plen (Kd.slice 3) x3) fun v7 =>
        Prg.tvs (pidx 3 (TV.cell x0 0) x2) fun e8 =>
        Prg.chk (Nat.blt 0 (List.length e8)) (
        Prg.tv (pbin (Kd.int IntKind.i64) BinOp.neq v7 (nth TV.hole e8 0)) fun v9 =>
        Prg.ite (asBool v9) (
          Prg.ret (TV.lit (Value.bool false))) (
          Prg.tv (plen (Kd.slice 3) x3) fun v10 =>
          Prg.jmp [0, 0, 1, 0, 1, 1, 1] (f85_0_S x3 v10 (TV.lit (Value.int IntKind.i64 (0 : Int))) (TV.cell x0 0) (TV.cell x0 1) (TV.cell x0 2) (TV.cell x0 3))))))))
-- [0, 0, 1, 0, 1, 1, 1]
def f85_0  (x0 x1 x2 y3 y4 y5 y6 : TV) : Prg TV :=
  Prg.tv (pbin (Kd.int IntKind.i64) BinOp.lss x2 x1) fun v11 =>
  Prg.ite (asBool v11) (
    Prg.tvs (pidx 1 x0 x2) fun e12 =>
    Prg.chk (Nat.blt 0 (List.length e12)) (
    Prg.call 81 [TV.agg [y3, y4, y5, y6], TV.lit (Value.bool true), nth TV.hole e12 0] fun v13 =>
    Prg.chk (fitsAt zBool [v13] 0) (
    Prg.tv (pun UnOp.not v13) fun v14 =>
    Prg.ite (asBool v14) (
      Prg.ret (TV.lit (Value.bool false))) (
      Prg.tv (pbin (Kd.int IntKind.i64) BinOp.add x2 (TV.lit (Value.int IntKind.i64 (1 : Int)))) fun v15 =>
      Prg.jmp [0, 0, 1, 0, 1, 1, 1] (f85_0_S x0 x1 v15 y3 y4 y5 y6))))) (
    Prg.ret (TV.lit (Value.bool true)))
theorem f85_MR (x0 x1 x2 x3 : TV) : startQ prog 85 [x0, x1, x2, x3] = f85_M x0 x1 x2 x3 := by kernel_rfl
theorem f85_0_R  (x0 x1 x2 y3 y4 y5 y6 : TV) : pieceQ prog 85 [0, 0, 1, 0, 1, 1, 1] (f85_0_S x0 x1 x2 y3 y4 y5 y6) = f85_0 x0 x1 x2 y3 y4 y5 y6 := by kernel_rfl

theorem f85_run {x0 x1 x2 x3 : TV} {r : TV} (h : Goes prog 85 (f85_M x0 x1 x2 x3) r) : Runs prog 85 [x0, x1, x2, x3] r := Runs.of (f85_MR x0 x1 x2 x3) h
theorem f85_0_J  {x0 x1 x2 y3 y4 y5 y6 : TV} {r : TV} (h : Goes prog 85 (f85_0 x0 x1 x2 y3 y4 y5 y6) r) : Goes prog 85 (.jmp [0, 0, 1, 0, 1, 1, 1] (f85_0_S x0 x1 x2 y3 y4 y5 y6)) r := Goes.jmp (f85_0_R x0 x1 x2 y3 y4 y5 y6) h
def f86_M (x0 : TV) : Prg TV :=
  Prg.tv (pbin (Kd.int IntKind.i64) BinOp.eql x0 (TV.lit (Value.int IntKind.i64 (1 : Int)))) fun v0 =>
  Prg.ite (asBool v0) (
    Prg.ite (asBool v0) (
      Prg.ret (TV.lit (Value.int IntKind.i64 (5 : Int)))) (
      Prg.tv (pbin (Kd.int IntKind.i64) BinOp.eql x0 (TV.lit (Value.int IntKind.i64 (2 : Int)))) fun v1 =>
      Prg.ite (asBool v1) (
        Prg.ret (TV.lit (Value.int IntKind.i64 (65 : Int)))) (
        Prg.tv (pbin (Kd.int IntKind.i64) BinOp.eql x0 (TV.lit (Value.int IntKind.i64 (3 : Int)))) fun v2 =>
        Prg.ite (asBool v2) (
          Prg.ret (TV.lit (Value.int IntKind.i64 (197 : Int)))) (
          Prg.tv (pbin (Kd.int IntKind.i64) BinOp.eql x0 (TV.lit (Value.int IntKind.i64 (4 : Int)))) fun v3 =>
          Prg.ite (asBool v3) (
            Prg.ret (TV.lit (Value.int IntKind.i64 (355 : Int)))) (
            Prg.tv (pbin (Kd.int IntKind.i64) BinOp.eql x0 (TV.lit (Value.int IntKind.i64 (6 : Int)))) fun v4 =>
            Prg.ite (asBool v4) (
              Prg.ret (TV.lit (Value.int IntKind.i64 (1 : Int)))) (
              Prg.ret (TV.lit (Value.int IntKind.i64 (0 : Int))))))))) (
    Prg.tv (pbin (Kd.int IntKind.i64) BinOp.eql x0 (TV.lit (Value.int IntKind.i64 (5 : Int)))) fun v5 =>
    Prg.ite (asBool v5) (
      Prg.ret (TV.lit (Value.int IntKind.i64 (5 : Int)))) (
      Prg.tv (pbin (Kd.int IntKind.i64) BinOp.eql x0 (TV.lit (Value.int IntKind.i64 (2 : Int)))) fun v6 =>
      Prg.ite (asBool v6) (
        Prg.ret (TV.lit (Value.int IntKind.i64 (65 : Int)))) (
        Prg.tv (pbin (Kd.int IntKind.i64) BinOp.eql x0 (TV.lit (Value.int IntKind.i64 (3 : Int)))) fun v7 =>
        Prg.ite (asBool v7) (
          Prg.ret (TV.lit (Value.int IntKind.i64 (197 : Int)))) (
          Prg.tv (pbin (Kd.int IntKind.i64) BinOp.eql x0 (TV.lit (Value.int IntKind.i64 (4 : Int)))) fun v8 =>
          Prg.ite (asBool v8) (
            Prg.ret (TV.lit (Value.int IntKind.i64 (355 : Int)))) (
            Prg.tv (pbin (Kd.int IntKind.i64) BinOp.eql x0 (TV.lit (Value.int IntKind.i64 (6 : Int)))) fun v9 =>
            Prg.ite (asBool v9) (
              Prg.ret (TV.lit (Value.int IntKind.i64 (1 : Int)))) (
              Prg.ret (TV.lit (Value.int IntKind.i64 (0 : Int)))))))))
theorem f86_MR (x0 : TV) : startQ prog 86 [x0] = f86_M x0 := by kernel_rfl

theorem f86_run {x0 : TV} {r : TV} (h : Goes prog 86 (f86_M x0) r) : Runs prog 86 [x0] r := Runs.of (f86_MR x0) h
def f87_M (x0 x1 x2 x3 : TV) : Prg TV :=
  Prg.chk (TV.isAgg x0 4) (
  Prg.tv (pun UnOp.not x1) fun v0 =>
  Prg.ite (asBool v0) (
    Prg.tv (pbin (Kd.int IntKind.i64) BinOp.eql x2 (TV.lit (Value.int IntKind.i64 (0 : Int)))) fun v1 =>
    Prg.ret v1) (
    Prg.tv (pbin (Kd.int IntKind.i64) BinOp.leq (TV.lit (Value.int IntKind.i64 (0 : Int))) x2) fun v2 =>
    Prg.ite (asBool v2) (
      Prg.tv (plen (Kd.slice 56) (TV.cell x0 3)) fun v3 =>
      Prg.tv (pbin (Kd.int IntKind.i64) BinOp.lss x2 v3) fun v4 =>
      Prg.ite (asBool v4) (
        Prg.tvs (pidx 14 (TV.cell x0 3) x2) fun e5 =>
        Prg.chk (Nat.blt 0 (List.length e5)) (
        Prg.tv (pbin Kd.bool BinOp.eql (nth TV.hole e5 0) x3) fun v6 =>
        Prg.ret v6)) (
        Prg.ret (TV.lit (Value.bool false)))) (
      Prg.ret (TV.lit (Value.bool false)))))
theorem f87_MR (x0 x1 x2 x3 : TV) : startQ prog 87 [x0, x1, x2, x3] = f87_M x0 x1 x2 x3 := by kernel_rfl

theorem f87_run {x0 x1 x2 x3 : TV} {r : TV} (h : Goes prog 87 (f87_M x0 x1 x2 x3) r) : Runs prog 87 [x0, x1, x2, x3] r := Runs.of (f87_MR x0 x1 x2 x3) h
def f105_M (x0 x1 : TV) : Prg TV :=
  Prg.call 116 [x0, x1] fun v0 =>
  Prg.chk (fitsAt zInt [v0] 0) (
  Prg.tv (pbin (Kd.int IntKind.i64) BinOp.geq v0 (TV.lit (Value.int IntKind.i64 (0 : Int)))) fun v1 =>
  Prg.ret v1)
theorem f105_MR (x0 x1 : TV) : startQ prog 105 [x0, x1] = f105_M x0 x1 := by kernel_rfl

theorem f105_run {x0 x1 : TV} {r : TV} (h : Goes prog 105 (f105_M x0 x1) r) : Runs prog 105 [x0, x1] r := Runs.of (f105_MR x0 x1) h
def f116_0_S  (x0 x1 x2 x3 : TV) : ASt := ⟨[AV.tv x0, AV.tv x1] ++ List.replicate 5 (AV.one CA.junk) ++ [AV.tv x2, AV.tv x3] ++ List.replicate 10 (AV.one CA.junk), List.replicate 43 (Option.none), []⟩
def f116_M (x0 x1 : TV) : Prg TV :=
  Prg.tv (plen (Kd.slice 25) x0) fun v0 =>
  Prg.jmp [0, 0, 1, 0, 1] (f116_0_S x0 x1 v0 (TV.lit (Value.int IntKind.i64 (0 : Int))))
-- [0, 0, 1, 0, 1]
def f116_0  (x0 x1 x2 x3 : TV) : Prg TV :=
  Prg.tv (pbin (Kd.int IntKind.i64) BinOp.lss x3 x2) fun v1 =>
  Prg.ite (asBool v1) (
    Prg.tvs (pidx 1 x0 x3) fun e2 =>
    Prg.chk (Nat.blt 0 (List.length e2)) (
    Prg.tv (pbin (Kd.int IntKind.u16) BinOp.eql x1 (nth TV.hole e2 0)) fun v3 =>
    Prg.ite (asBool v3) (
      Prg.ret x3) (
      Prg.tv (pbin (Kd.int IntKind.i64) BinOp.add x3 (TV.lit (Value.int IntKind.i64 (1 : Int)))) fun v4 =>
      Prg.jmp [0, 0, 1, 0, 1] (f116_0_S x0 x1 x2 v4)))) (
    Prg.ret (TV.lit (Value.int IntKind.i64 (-1))))
theorem f116_MR (x0 x1 : TV) : startQ prog 116 [x0, x1] = f116_M x0 x1 := by kernel_rfl
theorem f116_0_R  (x0 x1 x2 x3 : TV) : pieceQ prog 116 [0, 0, 1, 0, 1] (f116_0_S x0 x1 x2 x3) = f116_0 x0 x1 x2 x3 := by kernel_rfl

theorem f116_run {x0 x1 : TV} {r : TV} (h : Goes prog 116 (f116_M x0 x1) r) : Runs prog 116 [x0, x1] r := Runs.of (f116_MR x0 x1) h
theorem f116_0_J  {x0 x1 x2 x3 : TV} {r : TV} (h : Goes prog 116 (f116_0 x0 x1 x2 x3) r) : Goes prog 116 (.jmp [0, 0, 1, 0, 1] (f116_0_S x0 x1 x2 x3)) r := Goes.jmp (f116_0_R x0 x1 x2 x3) h
end Go.Ab.D5

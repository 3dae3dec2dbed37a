import Derived.Test.YtpoidnkgadhdmaaH6T
import Derived.Test.YtpoidnkgadhdmaaF0
set_option linter.unusedVariables false
set_option maxRecDepth 100000
namespace Go.Ab.H6
open Go Go.Ab Go.Proofs
def f81_M (x0 : TV) : Prg TV :=
  Prg.call 106 [x0] fun v0 =>
  Prg.chk (fitsAt zBool [v0] 0) (
  Prg.ite (asBool v0) (
    Prg.tv (pbin (Kd.int IntKind.i64) BinOp.neq x0 (TV.lit (Value.int IntKind.i64 (2 : Int)))) fun v1 =>
    Prg.ret v1) (
    Prg.ret (TV.lit (Value.bool false))))
theorem f81_MR (x0 : TV) : startQ prog 81 [x0] = f81_M x0 := by kernel_rfl

theorem f81_run {x0 : TV} {r : TV} (h : Goes prog 81 (f81_M x0) r) : Runs prog 81 [x0] r := Runs.of (f81_MR x0) h
def f82_M (x0 x1 x2 : TV) : Prg TV :=
  Prg.tv (pbin (Kd.int IntKind.i64) BinOp.eql x0 (TV.lit (Value.int IntKind.i64 (2 : Int)))) fun v0 =>
  Prg.ite (asBool v0) (
    Prg.ret (TV.tup [x1, TV.lit (Value.bool true)])) (
    Prg.tv (pbin (Kd.int IntKind.i64) BinOp.eql x0 (TV.lit (Value.int IntKind.i64 (3 : Int)))) fun v1 =>
    Prg.ite (asBool v1) (
      Prg.tv (pbin (Kd.int IntKind.u16) BinOp.add x1 x2) fun v2 =>
      Prg.ret (TV.tup [v2, TV.lit (Value.bool true)])) (
      Prg.tv (pbin (Kd.int IntKind.i64) BinOp.eql x0 (TV.lit (Value.int IntKind.i64 (4 : Int)))) fun v3 =>
      Prg.ite (asBool v3) (
        Prg.tv (pbin (Kd.int IntKind.u16) BinOp.sub x1 x2) fun v4 =>
        Prg.ret (TV.tup [v4, TV.lit (Value.bool true)])) (
        Prg.tv (pbin (Kd.int IntKind.i64) BinOp.eql x0 (TV.lit (Value.int IntKind.i64 (5 : Int)))) fun v5 =>
        Prg.ite (asBool v5) (
          Prg.tv (pbin (Kd.int IntKind.u16) BinOp.mul x1 x2) fun v6 =>
          Prg.ret (TV.tup [v6, TV.lit (Value.bool true)])) (
          Prg.tv (pbin (Kd.int IntKind.i64) BinOp.eql x0 (TV.lit (Value.int IntKind.i64 (6 : Int)))) fun v7 =>
          Prg.ite (asBool v7) (
            Prg.call 107 [x1, x2] fun v8 =>
            Prg.chk (TV.isTup v8 2) (
            Prg.chk (fitsAt zWord [TV.comp v8 0] 0) (
            Prg.chk (fitsAt zBool [TV.comp v8 1] 0) (
            Prg.ret (TV.tup [TV.comp v8 0, TV.comp v8 1]))))) (
            Prg.tv (pbin (Kd.int IntKind.i64) BinOp.eql x0 (TV.lit (Value.int IntKind.i64 (7 : Int)))) fun v9 =>
            Prg.ite (asBool v9) (
              Prg.tv (pbin (Kd.int IntKind.u16) BinOp.eql x1 x2) fun v10 =>
              Prg.call 108 [v10] fun v11 =>
              Prg.chk (fitsAt zWord [v11] 0) (
              Prg.ret (TV.tup [v11, TV.lit (Value.bool true)]))) (
              Prg.tv (pbin (Kd.int IntKind.i64) BinOp.eql x0 (TV.lit (Value.int IntKind.i64 (8 : Int)))) fun v12 =>
              Prg.ite (asBool v12) (
                Prg.tv (pbin (Kd.int IntKind.u16) BinOp.lss x1 x2) fun v13 =>
                Prg.call 108 [v13] fun v14 =>
                Prg.chk (fitsAt zWord [v14] 0) (
                Prg.ret (TV.tup [v14, TV.lit (Value.bool true)]))) (
                Prg.ret (TV.tup [TV.lit (Value.int IntKind.u16 (0 : Int)), TV.lit (Value.bool false)]))))))))
theorem f82_MR (x0 x1 x2 : TV) : startQ prog 82 [x0, x1, x2] = f82_M x0 x1 x2 := by kernel_rfl

theorem f82_run {x0 x1 x2 : TV} {r : TV} (h : Goes prog 82 (f82_M x0 x1 x2) r) : Runs prog 82 [x0, x1, x2] r := Runs.of (f82_MR x0 x1 x2) h
def f83_0_S  (x0 x1 x2 x3 : TV) : ASt := ⟨[AV.tv x0, AV.tv x1] ++ List.replicate 5 (AV.one CA.junk) ++ [AV.tv x2, AV.tv x3] ++ List.replicate 10 (AV.one CA.junk), List.replicate 43 (Option.none), []⟩
def f83_M (x0 x1 : TV) : Prg TV :=
  Prg.tv (plen (Kd.slice 25) x0) fun v0 =>
  Prg.jmp [0, 0, 1, 0, 1] (f83_0_S x0 x1 v0 (TV.lit (Value.int IntKind.i64 (0 : Int))))
-- [0, 0, 1, 0, 1]
def f83_0  (x0 x1 x2 x3 : TV) : Prg TV :=
  Prg.tv (pbin (Kd.int IntKind.i64) BinOp.lss x3 x2) fun v1 =>
  Prg.ite (asBool v1) (
    Prg.tvs (pidx 1 x0 x3) fun e2 =>
    Prg.chk (Nat.blt 0 (List.length e2)) (
    Prg.tv (pbin (Kd.int IntKind.u16) BinOp.eql x1 (nth TV.hole e2 0)) fun v3 =>
    Prg.ite (asBool v3) (
      Prg.ret x3) (
      Prg.tv (pbin (Kd.int IntKind.i64) BinOp.add x3 (TV.lit (Value.int IntKind.i64 (1 : Int)))) fun v4 =>
      Prg.jmp [0, 0, 1, 0, 1] (f83_0_S x0 x1 x2 v4)))) (
    Prg.ret (TV.lit (Value.int IntKind.i64 (-1))))
theorem f83_MR (x0 x1 : TV) : startQ prog 83 [x0, x1] = f83_M x0 x1 := by kernel_rfl
theorem f83_0_R  (x0 x1 x2 x3 : TV) : pieceQ prog 83 [0, 0, 1, 0, 1] (f83_0_S x0 x1 x2 x3) = f83_0 x0 x1 x2 x3 := by kernel_rfl

theorem f83_run {x0 x1 : TV} {r : TV} (h : Goes prog 83 (f83_M x0 x1) r) : Runs prog 83 [x0, x1] r := Runs.of (f83_MR x0 x1) h
theorem f83_0_J  {x0 x1 x2 x3 : TV} {r : TV} (h : Goes prog 83 (f83_0 x0 x1 x2 x3) r) : Goes prog 83 (.jmp [0, 0, 1, 0, 1] (f83_0_S x0 x1 x2 x3)) r := Goes.jmp (f83_0_R x0 x1 x2 x3) h
def f95_M (x0 x1 x2 : TV) : Prg TV :=
  Prg.chk (TV.isAgg x0 4) (
  Prg.chk (TV.isAgg x2 4) (
  Prg.tv (pun UnOp.not x1) fun v0 =>
  Prg.ite (asBool v0) (
    Prg.tv (pbin (Kd.int IntKind.i64) BinOp.eql (TV.cell x2 0) (TV.lit (Value.int IntKind.i64 (0 : Int)))) fun v1 =>
    Prg.ite (asBool v1) (
      Prg.tv (plen (Kd.slice 25) (TV.cell x2 1)) fun v2 =>
      Prg.tv (pbin (Kd.int IntKind.i64) BinOp.eql v2 (TV.lit (Value.int IntKind.i64 (0 : Int)))) fun v3 =>
      Prg.ite (asBool v3) (
        Prg.tv (pun UnOp.not (TV.cell x2 2)) fun v4 =>
        Prg.ite (asBool v4) (
          Prg.tv (pun UnOp.not (TV.cell x2 3)) fun v5 =>
          Prg.ret v5) (
          Prg.ret (TV.lit (Value.bool false)))) (
        Prg.ret (TV.lit (Value.bool false)))) (
      Prg.ret (TV.lit (Value.bool false)))) (
    Prg.call 118 [TV.agg [TV.cell x0 0, TV.cell x0 1, TV.cell x0 2, TV.cell x0 3], TV.lit (Value.bool true), TV.cell x2 0] fun v6 =>
    Prg.chk (fitsAt zBool [v6] 0) (
    Prg.ite (asBool v6) (
      Prg.tv (plen (Kd.slice 25) (TV.cell x2 1)) fun v7 =>
      Prg.tv (pbin (Kd.int IntKind.i64) BinOp.leq v7 (TV.lit (Value.int IntKind.i64 (8 : Int)))) fun v8 =>
      Prg.ite (asBool v8) (
        Prg.call 119 [TV.cell x2 1] fun v9 =>
        Prg.chk (fitsAt zBool [v9] 0) (
        Prg.ite (asBool v9) (
          Prg.tv (plen (Kd.slice 25) (TV.cell x2 1)) fun v10 =>
          Prg.tv (pbin (Kd.int IntKind.i64) BinOp.gtr v10 (TV.lit (Value.int IntKind.i64 (0 : Int)))) fun v11 =>
          Prg.ite (asBool v11) (
            Prg.ret (TV.lit (Value.bool true))) (
            Prg.ite (asBool (TV.cell x2 2)) (
              Prg.ret (TV.lit (Value.bool true))) (
              Prg.ret (TV.cell x2 3)))) (
          Prg.ret (TV.lit (Value.bool false))))) (
        Prg.ret (TV.lit (Value.bool false)))) (
      Prg.ret (TV.lit (Value.bool false)))))))
theorem f95_MR (x0 x1 x2 : TV) : startQ prog 95 [x0, x1, x2] = f95_M x0 x1 x2 := by kernel_rfl

theorem f95_run {x0 x1 x2 : TV} {r : TV} (h : Goes prog 95 (f95_M x0 x1 x2) r) : Runs prog 95 [x0, x1, x2] r := Runs.of (f95_MR x0 x1 x2) h
def f96_M (x0 x1 : TV) : Prg TV :=
  Prg.chk (TV.isAgg x0 4) (
  Prg.chk (TV.isAgg x1 7) (
  Prg.call 120 [TV.cell x1 0] fun v0 =>
  Prg.chk (fitsAt zInt [v0] 0) (
  Prg.call 69 [v0, TV.lit (Value.int IntKind.i64 (1 : Int))] fun v1 =>
  Prg.chk (fitsAt zBool [v1] 0) (
  Prg.ite (asBool v1) (
    Prg.call 69 [v0, TV.lit (Value.int IntKind.i64 (2 : Int))] fun v2 =>
    Prg.chk (fitsAt zBool [v2] 0) (
    Prg.call 118 [TV.agg [TV.cell x0 0, TV.cell x0 1, TV.cell x0 2, TV.cell x0 3], v2, TV.cell x1 1] fun v3 =>
    Prg.chk (fitsAt zBool [v3] 0) (
    Prg.ite (asBool v3) (
      Prg.call 69 [v0, TV.lit (Value.int IntKind.i64 (4 : Int))] fun v4 =>
      Prg.chk (fitsAt zBool [v4] 0) (
      Prg.call 118 [TV.agg [TV.cell x0 0, TV.cell x0 1, TV.cell x0 2, TV.cell x0 3], v4, TV.cell x1 2] fun v5 =>
      Prg.chk (fitsAt zBool [v5] 0) (
      Prg.ite (asBool v5) (
        Prg.call 69 [v0, TV.lit (Value.int IntKind.i64 (8 : Int))] fun v6 =>
        Prg.chk (fitsAt zBool [v6] 0) (
        Prg.call 118 [TV.agg [TV.cell x0 0, TV.cell x0 1, TV.cell x0 2, TV.cell x0 3], v6, TV.cell x1 3] fun v7 =>
        Prg.chk (fitsAt zBool [v7] 0) (
        Prg.ite (asBool v7) (
          Prg.call 69 [v0, TV.lit (Value.int IntKind.i64 (16 : Int))] fun v8 =>
          Prg.chk (fitsAt zBool [v8] 0) (
          Prg.ite (asBool v8) (
            Prg.call 69 [v0, TV.lit (Value.int IntKind.i64 (32 : Int))] fun v9 =>
            Prg.chk (fitsAt zBool [v9] 0) (
            Prg.call 121 [TV.agg [TV.cell x0 0, TV.cell x0 1, TV.cell x0 2, TV.cell x0 3], v9, TV.cell x1 5, TV.cell x1 6] fun v10 =>
            Prg.chk (fitsAt zBool [v10] 0) (
            Prg.ret v10))) (
            Prg.tv (pbin (Kd.int IntKind.u16) BinOp.eql (TV.cell x1 4) (TV.lit (Value.int IntKind.u16 (0 : Int)))) fun v11 =>
            Prg.ite (asBool v11) (
              Prg.call 69 [v0, TV.lit (Value.int IntKind.i64 (32 : Int))] fun v12 =>
              Prg.chk (fitsAt zBool [v12] 0) (
              Prg.call 121 [TV.agg [TV.cell x0 0, TV.cell x0 1, TV.cell x0 2, TV.cell x0 3], v12, TV.cell x1 5, TV.cell x1 6] fun v13 =>
              Prg.chk (fitsAt zBool [v13] 0) (
              Prg.ret v13))) (
              Prg.ret (TV.lit (Value.bool false)))))) (
          Prg.ret (TV.lit (Value.bool false)))))) (
        Prg.ret (TV.lit (Value.bool false)))))) (
      Prg.ret (TV.lit (Value.bool false)))))) (
    Prg.ret (TV.lit (Value.bool false)))))))
theorem f96_MR (x0 x1 : TV) : startQ prog 96 [x0, x1] = f96_M x0 x1 := by kernel_rfl

theorem f96_run {x0 x1 : TV} {r : TV} (h : Goes prog 96 (f96_M x0 x1) r) : Runs prog 96 [x0, x1] r := Runs.of (f96_MR x0 x1) h
def f97_M (x0 x1 : TV) : Prg TV :=
  Prg.chk (TV.isAgg x0 4) (
  Prg.chk (TV.isAgg x1 8) (
  Prg.call 68 [TV.cell x1 0] fun v0 =>
  Prg.chk (fitsAt zInt [v0] 0) (
  Prg.call 69 [v0, TV.lit (Value.int IntKind.i64 (1 : Int))] fun v1 =>
  Prg.chk (fitsAt zBool [v1] 0) (
  Prg.ite (asBool v1) (
    Prg.call 69 [v0, TV.lit (Value.int IntKind.i64 (4 : Int))] fun v2 =>
    Prg.chk (fitsAt zBool [v2] 0) (
    Prg.call 118 [TV.agg [TV.cell x0 0, TV.cell x0 1, TV.cell x0 2, TV.cell x0 3], v2, TV.cell x1 1] fun v3 =>
    Prg.chk (fitsAt zBool [v3] 0) (
    Prg.ite (asBool v3) (
      Prg.call 69 [v0, TV.lit (Value.int IntKind.i64 (2 : Int))] fun v4 =>
      Prg.chk (fitsAt zBool [v4] 0) (
      Prg.call 118 [TV.agg [TV.cell x0 0, TV.cell x0 1, TV.cell x0 2, TV.cell x0 3], v4, TV.cell x1 2] fun v5 =>
      Prg.chk (fitsAt zBool [v5] 0) (
      Prg.ite (asBool v5) (
        Prg.call 69 [v0, TV.lit (Value.int IntKind.i64 (32 : Int))] fun v6 =>
        Prg.chk (fitsAt zBool [v6] 0) (
        Prg.call 121 [TV.agg [TV.cell x0 0, TV.cell x0 1, TV.cell x0 2, TV.cell x0 3], v6, TV.cell x1 3, TV.cell x1 4] fun v7 =>
        Prg.chk (fitsAt zBool [v7] 0) (
        Prg.ite (asBool v7) (
          Prg.call 69 [v0, TV.lit (Value.int IntKind.i64 (64 : Int))] fun v8 =>
          Prg.chk (fitsAt zBool [v8] 0) (
          Prg.call 122 [TV.agg [TV.cell x0 0, TV.cell x0 1, TV.cell x0 2, TV.cell x0 3], v8, TV.cell x1 5, TV.lit (Value.bool false)] fun v9 =>
          Prg.chk (fitsAt zBool [v9] 0) (
          Prg.ite (asBool v9) (
            Prg.call 69 [v0, TV.lit (Value.int IntKind.i64 (128 : Int))] fun v10 =>
            Prg.chk (fitsAt zBool [v10] 0) (
            Prg.call 122 [TV.agg [TV.cell x0 0, TV.cell x0 1, TV.cell x0 2, TV.cell x0 3], v10, TV.cell x1 6, TV.lit (Value.bool false)] fun v11 =>
            Prg.chk (fitsAt zBool [v11] 0) (
            Prg.ite (asBool v11) (
              Prg.call 69 [v0, TV.lit (Value.int IntKind.i64 (256 : Int))] fun v12 =>
              Prg.chk (fitsAt zBool [v12] 0) (
              Prg.call 122 [TV.agg [TV.cell x0 0, TV.cell x0 1, TV.cell x0 2, TV.cell x0 3], v12, TV.cell x1 7, TV.lit (Value.bool true)] fun v13 =>
              Prg.chk (fitsAt zBool [v13] 0) (
              Prg.ret v13))) (
              Prg.ret (TV.lit (Value.bool false)))))) (
            Prg.ret (TV.lit (Value.bool false)))))) (
          Prg.ret (TV.lit (Value.bool false)))))) (
        Prg.ret (TV.lit (Value.bool false)))))) (
      Prg.ret (TV.lit (Value.bool false)))))) (
    Prg.ret (TV.lit (Value.bool false)))))))
theorem f97_MR (x0 x1 : TV) : startQ prog 97 [x0, x1] = f97_M x0 x1 := by kernel_rfl

theorem f97_run {x0 x1 : TV} {r : TV} (h : Goes prog 97 (f97_M x0 x1) r) : Runs prog 97 [x0, x1] r := Runs.of (f97_MR x0 x1) h
def f98_M (x0 x1 : TV) : Prg TV :=
  Prg.chk (TV.isAgg x0 4) (
  Prg.chk (TV.isAgg x1 4) (
  Prg.tv (pbin (Kd.int IntKind.i64) BinOp.eql (TV.cell x0 0) (TV.cell x1 0)) fun v0 =>
  Prg.ite (asBool v0) (
    Prg.call 123 [TV.cell x0 1, TV.cell x1 1] fun v1 =>
    Prg.chk (fitsAt zBool [v1] 0) (
    Prg.ite (asBool v1) (
      Prg.tv (pbin Kd.bool BinOp.eql (TV.cell x0 2) (TV.cell x1 2)) fun v2 =>
      Prg.ite (asBool v2) (
        Prg.tv (pbin Kd.bool BinOp.eql (TV.cell x0 3) (TV.cell x1 3)) fun v3 =>
        Prg.ret v3) (
        Prg.ret (TV.lit (Value.bool false)))) (
      Prg.ret (TV.lit (Value.bool false))))) (
    Prg.ret (TV.lit (Value.bool false)))))
theorem f98_MR (x0 x1 : TV) : startQ prog 98 [x0, x1] = f98_M x0 x1 := by kernel_rfl

theorem f98_run {x0 x1 : TV} {r : TV} (h : Goes prog 98 (f98_M x0 x1) r) : Runs prog 98 [x0, x1] r := Runs.of (f98_MR x0 x1) h
def f99_0_S  (x0 x1 x2 x3 x4 : TV) : ASt := ⟨[AV.one CA.junk, AV.tv x0, AV.tv x1] ++ List.replicate 12 (AV.one CA.junk) ++ [AV.tv x2, AV.tv x3, AV.tv x4] ++ List.replicate 14 (AV.one CA.junk), List.replicate 56 (Option.none), []⟩
def f99_M (x0 x1 x2 : TV) : Prg TV :=
  Prg.tv (plen (Kd.slice 44) x0) fun v0 =>
  Prg.tv (plen (Kd.slice 44) x1) fun v1 =>
  Prg.tv (pbin (Kd.int IntKind.i64) BinOp.neq v0 v1) fun v2 =>
  Prg.ite (asBool v2) (
    Prg.ret (TV.lit (Value.bool false))) (
    Prg.tv (plen (Kd.slice 44) x0) fun v3 =>
    Prg.jmp [0, 0, 1, 0, 1, 1] (f99_0_S x1 x2 x0 v3 (TV.lit (Value.int IntKind.i64 (0 : Int)))))
-- [0, 0, 1, 0, 1, 1]
def f99_0  (x0 x1 x2 x3 x4 : TV) : Prg TV :=
  Prg.tv (pbin (Kd.int IntKind.i64) BinOp.lss x4 x3) fun v4 =>
  Prg.ite (asBool v4) (
    Prg.tvs (pidx 7 x2 x4) fun e5 =>
    Prg.chk (Nat.ble 7 (List.length e5)) (
    Prg.tvs (pidx 7 x0 x4) fun e6 =>
    Prg.chk (Nat.ble 7 (List.length e6)) (
    Prg.nat (fnOf x1) fun n7 =>
    Prg.chk (Option.isNone (lookD [] n7)) (
    Prg.call n7 [TV.agg [nth TV.hole e5 0, nth TV.hole e5 1, nth TV.hole e5 2, nth TV.hole e5 3, nth TV.hole e5 4, nth TV.hole e5 5, nth TV.hole e5 6], TV.agg [nth TV.hole e6 0, nth TV.hole e6 1, nth TV.hole e6 2, nth TV.hole e6 3, nth TV.hole e6 4, nth TV.hole e6 5, nth TV.hole e6 6]] fun v8 =>
    Prg.chk (TV.isSc v8) (
    Prg.tv (pun UnOp.not v8) fun v9 =>
    Prg.ite (asBool v9) (
      Prg.ret (TV.lit (Value.bool false))) (
      Prg.tv (pbin (Kd.int IntKind.i64) BinOp.add x4 (TV.lit (Value.int IntKind.i64 (1 : Int)))) fun v10 =>
      Prg.jmp [0, 0, 1, 0, 1, 1] (f99_0_S x0 x1 x2 x3 v10))))))) (
    Prg.ret (TV.lit (Value.bool true)))
theorem f99_MR (x0 x1 x2 : TV) : startQ prog 99 [x0, x1, x2] = f99_M x0 x1 x2 := by kernel_rfl
theorem f99_0_R  (x0 x1 x2 x3 x4 : TV) : pieceQ prog 99 [0, 0, 1, 0, 1, 1] (f99_0_S x0 x1 x2 x3 x4) = f99_0 x0 x1 x2 x3 x4 := by kernel_rfl

theorem f99_run {x0 x1 x2 : TV} {r : TV} (h : Goes prog 99 (f99_M x0 x1 x2) r) : Runs prog 99 [x0, x1, x2] r := Runs.of (f99_MR x0 x1 x2) h
theorem f99_0_J  {x0 x1 x2 x3 x4 : TV} {r : TV} (h : Goes prog 99 (f99_0 x0 x1 x2 x3 x4) r) : Goes prog 99 (.jmp [0, 0, 1, 0, 1, 1] (f99_0_S x0 x1 x2 x3 x4)) r := Goes.jmp (f99_0_R x0 x1 x2 x3 x4) h
def f100_M (x0 x1 : TV) : Prg TV :=
  Prg.chk (TV.isAgg x0 7) (
  Prg.chk (TV.isAgg x1 7) (
  Prg.tv (pbin (Kd.int IntKind.i64) BinOp.eql (TV.cell x0 0) (TV.cell x1 0)) fun v0 =>
  Prg.ite (asBool v0) (
    Prg.tv (pbin (Kd.int IntKind.i64) BinOp.eql (TV.cell x0 1) (TV.cell x1 1)) fun v1 =>
    Prg.ite (asBool v1) (
      Prg.tv (pbin (Kd.int IntKind.i64) BinOp.eql (TV.cell x0 2) (TV.cell x1 2)) fun v2 =>
      Prg.ite (asBool v2) (
        Prg.tv (pbin (Kd.int IntKind.i64) BinOp.eql (TV.cell x0 3) (TV.cell x1 3)) fun v3 =>
        Prg.ite (asBool v3) (
          Prg.tv (pbin (Kd.int IntKind.u16) BinOp.eql (TV.cell x0 4) (TV.cell x1 4)) fun v4 =>
          Prg.ite (asBool v4) (
            Prg.tv (pbin (Kd.int IntKind.i64) BinOp.eql (TV.cell x0 5) (TV.cell x1 5)) fun v5 =>
            Prg.ite (asBool v5) (
              Prg.call 124 [TV.cell x0 6, TV.cell x1 6] fun v6 =>
              Prg.chk (fitsAt zBool [v6] 0) (
              Prg.ret v6)) (
              Prg.ret (TV.lit (Value.bool false)))) (
            Prg.ret (TV.lit (Value.bool false)))) (
          Prg.ret (TV.lit (Value.bool false)))) (
        Prg.ret (TV.lit (Value.bool false)))) (
      Prg.ret (TV.lit (Value.bool false)))) (
    Prg.ret (TV.lit (Value.bool false)))))
theorem f100_MR (x0 x1 : TV) : startQ prog 100 [x0, x1] = f100_M x0 x1 := by kernel_rfl

theorem f100_run {x0 x1 : TV} {r : TV} (h : Goes prog 100 (f100_M x0 x1) r) : Runs prog 100 [x0, x1] r := Runs.of (f100_MR x0 x1) h
def f101_M (x0 x1 : TV) : Prg TV :=
  Prg.chk (TV.isAgg x0 8) (
  Prg.chk (TV.isAgg x1 8) (
  Prg.tv (pbin (Kd.int IntKind.i64) BinOp.eql (TV.cell x0 0) (TV.cell x1 0)) fun v0 =>
  Prg.ite (asBool v0) (
    Prg.tv (pbin (Kd.int IntKind.i64) BinOp.eql (TV.cell x0 1) (TV.cell x1 1)) fun v1 =>
    Prg.ite (asBool v1) (
      Prg.tv (pbin (Kd.int IntKind.i64) BinOp.eql (TV.cell x0 2) (TV.cell x1 2)) fun v2 =>
      Prg.ite (asBool v2) (
        Prg.tv (pbin (Kd.int IntKind.i64) BinOp.eql (TV.cell x0 3) (TV.cell x1 3)) fun v3 =>
        Prg.ite (asBool v3) (
          Prg.call 124 [TV.cell x0 4, TV.cell x1 4] fun v4 =>
          Prg.chk (fitsAt zBool [v4] 0) (
          Prg.ite (asBool v4) (
            Prg.tv (pbin (Kd.int IntKind.i64) BinOp.eql (TV.cell x0 5) (TV.cell x1 5)) fun v5 =>
            Prg.ite (asBool v5) (
              Prg.tv (pbin (Kd.int IntKind.i64) BinOp.eql (TV.cell x0 6) (TV.cell x1 6)) fun v6 =>
              Prg.ite (asBool v6) (
                Prg.tv (pbin (Kd.int IntKind.i64) BinOp.eql (TV.cell x0 7) (TV.cell x1 7)) fun v7 =>
                Prg.ret v7) (
                Prg.ret (TV.lit (Value.bool false)))) (
              Prg.ret (TV.lit (Value.bool false)))) (
            Prg.ret (TV.lit (Value.bool false))))) (
          Prg.ret (TV.lit (Value.bool false)))) (
        Prg.ret (TV.lit (Value.bool false)))) (
      Prg.ret (TV.lit (Value.bool false)))) (
    Prg.ret (TV.lit (Value.bool false)))))
theorem f101_MR (x0 x1 : TV) : startQ prog 101 [x0, x1] = f101_M x0 x1 := by kernel_rfl

theorem f101_run {x0 x1 : TV} {r : TV} (h : Goes prog 101 (f101_M x0 x1) r) : Runs prog 101 [x0, x1] r := Runs.of (f101_MR x0 x1) h
def f102_M (x0 x1 : TV) : Prg TV :=
  Prg.tv (pbin (Kd.int IntKind.i64) BinOp.geq x0 (TV.lit (Value.int IntKind.i64 (0 : Int)))) fun v0 =>
  Prg.ite (asBool v0) (
    Prg.tv (pbin (Kd.int IntKind.i64) BinOp.lss x0 x1) fun v1 =>
    Prg.ret v1) (
    Prg.ret (TV.lit (Value.bool false)))
theorem f102_MR (x0 x1 : TV) : startQ prog 102 [x0, x1] = f102_M x0 x1 := by kernel_rfl

theorem f102_run {x0 x1 : TV} {r : TV} (h : Goes prog 102 (f102_M x0 x1) r) : Runs prog 102 [x0, x1] r := Runs.of (f102_MR x0 x1) h
def f103_M (x0 x1 : TV) : Prg TV :=
  Prg.chk (TV.isAgg x0 3) (
  Prg.tv (plen (Kd.slice 42) (TV.cell x0 2)) fun v0 =>
  Prg.call 102 [x1, v0] fun v1 =>
  Prg.chk (fitsAt zBool [v1] 0) (
  Prg.ite (asBool v1) (
    Prg.tvs (pidx 14 (TV.cell x0 2) x1) fun e2 =>
    Prg.chk (Nat.blt 0 (List.length e2)) (
    Prg.tv (pun UnOp.not (nth TV.hole e2 0)) fun v3 =>
    Prg.ret v3)) (
    Prg.ret (TV.lit (Value.bool false)))))
theorem f103_MR (x0 x1 : TV) : startQ prog 103 [x0, x1] = f103_M x0 x1 := by kernel_rfl

theorem f103_run {x0 x1 : TV} {r : TV} (h : Goes prog 103 (f103_M x0 x1) r) : Runs prog 103 [x0, x1] r := Runs.of (f103_MR x0 x1) h
def f104_0_S  (x0 x1 y2 y3 y4 : TV) : ASt := ⟨[AV.one CA.junk, AV.one CA.junk, AV.one CA.junk, AV.tv x0, AV.one CA.junk, AV.one (CA.ptr 0 0), AV.one CA.junk, AV.one CA.junk, AV.one CA.junk, AV.tv x1] ++ List.replicate 31 (AV.one CA.junk), [Option.some (BC.cells [CA.t y2, CA.t y3, CA.t y4])] ++ List.replicate 64 (Option.none), []⟩
def f104_M (x0 x1 x2 x3 : TV) : Prg TV :=
  Prg.chk (TV.isAgg x0 1) (
  Prg.chk (TV.isAgg x1 3) (
  Prg.tv (plen (Kd.slice 32) (TV.cell x0 0)) fun v0 =>
  Prg.call 102 [x2, v0] fun v1 =>
  Prg.chk (fitsAt zBool [v1] 0) (
  Prg.tv (pun UnOp.not v1) fun v2 =>
  Prg.ite (asBool v2) (
    Prg.ret (TV.lit (Value.bool false))) (
    Prg.tv (plen (Kd.slice 3) x3) fun v3 =>
    Prg.tvs (pidx 3 (TV.cell x0 0) x2) fun e4 =>
    Prg.chk (Nat.blt 0 (List.length e4)) (
    Prg.tv (pbin (Kd.int IntKind.i64) BinOp.neq v3 (nth TV.hole e4 0)) fun v5 =>
    Prg.ite (asBool v5) (
      Prg.ret (TV.lit (Value.bool false))) (
      Prg.jmp [0, 0, 1, 0, 1, 1] (f104_0_S x3 (TV.lit (Value.int IntKind.i64 (0 : Int))) (TV.cell x1 0) (TV.cell x1 1) (TV.cell x1 2))))))))
-- [0, 0, 1, 0, 1, 1]
def f104_0  (x0 x1 y2 y3 y4 : TV) : Prg TV :=
  Prg.tv (plen (Kd.slice 3) x0) fun v6 =>
  Prg.tv (pbin (Kd.int IntKind.i64) BinOp.lss x1 v6) fun v7 =>
  Prg.ite (asBool v7) (
    Prg.tvs (pidx 1 x0 x1) fun e8 =>
    Prg.chk (Nat.blt 0 (List.length e8)) (
    Prg.call 102 [nth TV.hole e8 0, y3] fun v9 =>
    Prg.chk (fitsAt zBool [v9] 0) (
    Prg.tv (pun UnOp.not v9) fun v10 =>
    Prg.ite (asBool v10) (
      Prg.ret (TV.lit (Value.bool false))) (
      Prg.tv (pbin (Kd.int IntKind.i64) BinOp.add x1 (TV.lit (Value.int IntKind.i64 (1 : Int)))) fun v11 =>
      Prg.jmp [0, 0, 1, 0, 1, 1] (f104_0_S x0 v11 y2 y3 y4))))) (
    Prg.ret (TV.lit (Value.bool true)))
theorem f104_MR (x0 x1 x2 x3 : TV) : startQ prog 104 [x0, x1, x2, x3] = f104_M x0 x1 x2 x3 := by kernel_rfl
theorem f104_0_R  (x0 x1 y2 y3 y4 : TV) : pieceQ prog 104 [0, 0, 1, 0, 1, 1] (f104_0_S x0 x1 y2 y3 y4) = f104_0 x0 x1 y2 y3 y4 := by kernel_rfl

theorem f104_run {x0 x1 x2 x3 : TV} {r : TV} (h : Goes prog 104 (f104_M x0 x1 x2 x3) r) : Runs prog 104 [x0, x1, x2, x3] r := Runs.of (f104_MR x0 x1 x2 x3) h
theorem f104_0_J  {x0 x1 y2 y3 y4 : TV} {r : TV} (h : Goes prog 104 (f104_0 x0 x1 y2 y3 y4) r) : Goes prog 104 (.jmp [0, 0, 1, 0, 1, 1] (f104_0_S x0 x1 y2 y3 y4)) r := Goes.jmp (f104_0_R x0 x1 y2 y3 y4) h
def f105_M (x0 x1 x2 : TV) : Prg TV :=
  Prg.tv (pbin (Kd.int IntKind.u16) BinOp.eql x0 (TV.lit (Value.int IntKind.u16 (0 : Int)))) fun v0 =>
  Prg.ite (asBool v0) (
    Prg.tv (pbin (Kd.int IntKind.i64) BinOp.eql x1 (TV.lit (Value.int IntKind.i64 (0 : Int)))) fun v1 =>
    Prg.ite (asBool v1) (
      Prg.tv (plen (Kd.slice 3) x2) fun v2 =>
      Prg.tv (pbin (Kd.int IntKind.i64) BinOp.eql v2 (TV.lit (Value.int IntKind.i64 (0 : Int)))) fun v3 =>
      Prg.ret v3) (
      Prg.ret (TV.lit (Value.bool false)))) (
    Prg.ret (TV.lit (Value.bool false)))
theorem f105_MR (x0 x1 x2 : TV) : startQ prog 105 [x0, x1, x2] = f105_M x0 x1 x2 := by kernel_rfl

theorem f105_run {x0 x1 x2 : TV} {r : TV} (h : Goes prog 105 (f105_M x0 x1 x2) r) : Runs prog 105 [x0, x1, x2] r := Runs.of (f105_MR x0 x1 x2) h
def f106_M (x0 : TV) : Prg TV :=
  Prg.tv (pbin (Kd.int IntKind.i64) BinOp.eql x0 (TV.lit (Value.int IntKind.i64 (2 : Int)))) fun v0 =>
  Prg.ite (asBool v0) (
    Prg.ite (asBool v0) (
      Prg.ret (TV.lit (Value.bool true))) (
      Prg.ret (TV.lit (Value.bool false)))) (
    Prg.tv (pbin (Kd.int IntKind.i64) BinOp.eql x0 (TV.lit (Value.int IntKind.i64 (3 : Int)))) fun v1 =>
    Prg.ite (asBool v1) (
      Prg.ite (asBool v1) (
        Prg.ret (TV.lit (Value.bool true))) (
        Prg.ret (TV.lit (Value.bool false)))) (
      Prg.tv (pbin (Kd.int IntKind.i64) BinOp.eql x0 (TV.lit (Value.int IntKind.i64 (4 : Int)))) fun v2 =>
      Prg.ite (asBool v2) (
        Prg.ite (asBool v2) (
          Prg.ret (TV.lit (Value.bool true))) (
          Prg.ret (TV.lit (Value.bool false)))) (
        Prg.tv (pbin (Kd.int IntKind.i64) BinOp.eql x0 (TV.lit (Value.int IntKind.i64 (5 : Int)))) fun v3 =>
        Prg.ite (asBool v3) (
          Prg.ite (asBool v3) (
            Prg.ret (TV.lit (Value.bool true))) (
            Prg.ret (TV.lit (Value.bool false)))) (
          Prg.tv (pbin (Kd.int IntKind.i64) BinOp.eql x0 (TV.lit (Value.int IntKind.i64 (6 : Int)))) fun v4 =>
          Prg.ite (asBool v4) (
            Prg.ite (asBool v4) (
              Prg.ret (TV.lit (Value.bool true))) (
              Prg.ret (TV.lit (Value.bool false)))) (
            Prg.tv (pbin (Kd.int IntKind.i64) BinOp.eql x0 (TV.lit (Value.int IntKind.i64 (7 : Int)))) fun v5 =>
            Prg.ite (asBool v5) (
              Prg.ite (asBool v5) (
                Prg.ret (TV.lit (Value.bool true))) (
                Prg.ret (TV.lit (Value.bool false)))) (
              Prg.tv (pbin (Kd.int IntKind.i64) BinOp.eql x0 (TV.lit (Value.int IntKind.i64 (8 : Int)))) fun v6 =>
              Prg.ite (asBool v6) (
                Prg.ret (TV.lit (Value.bool true))) (
                Prg.ret (TV.lit (Value.bool false)))))))))
theorem f106_MR (x0 : TV) : startQ prog 106 [x0] = f106_M x0 := by kernel_rfl

theorem f106_run {x0 : TV} {r : TV} (h : Goes prog 106 (f106_M x0) r) : Runs prog 106 [x0] r := Runs.of (f106_MR x0) h
def f107_M (x0 x1 : TV) : Prg TV :=
  Prg.tv (pbin (Kd.int IntKind.u16) BinOp.eql x1 (TV.lit (Value.int IntKind.u16 (0 : Int)))) fun v0 =>
  Prg.ite (asBool v0) (
    Prg.ret (TV.tup [TV.lit (Value.int IntKind.u16 (0 : Int)), TV.lit (Value.bool false)])) (
    Prg.tv (pbin (Kd.int IntKind.u16) BinOp.quo x0 x1) fun v1 =>
    Prg.ret (TV.tup [v1, TV.lit (Value.bool true)]))
theorem f107_MR (x0 x1 : TV) : startQ prog 107 [x0, x1] = f107_M x0 x1 := by kernel_rfl

theorem f107_run {x0 x1 : TV} {r : TV} (h : Goes prog 107 (f107_M x0 x1) r) : Runs prog 107 [x0, x1] r := Runs.of (f107_MR x0 x1) h
def f108_M (x0 : TV) : Prg TV :=
  Prg.ite (asBool x0) (
    Prg.ret (TV.lit (Value.int IntKind.u16 (1 : Int)))) (
    Prg.ret (TV.lit (Value.int IntKind.u16 (0 : Int))))
theorem f108_MR (x0 : TV) : startQ prog 108 [x0] = f108_M x0 := by kernel_rfl

theorem f108_run {x0 : TV} {r : TV} (h : Goes prog 108 (f108_M x0) r) : Runs prog 108 [x0] r := Runs.of (f108_MR x0) h
def f118_M (x0 x1 x2 : TV) : Prg TV :=
  Prg.chk (TV.isAgg x0 4) (
  Prg.tv (pun UnOp.not x1) fun v0 =>
  Prg.ite (asBool v0) (
    Prg.tv (pbin (Kd.int IntKind.i64) BinOp.eql x2 (TV.lit (Value.int IntKind.i64 (0 : Int)))) fun v1 =>
    Prg.ret v1) (
    Prg.tv (pbin (Kd.int IntKind.i64) BinOp.leq (TV.lit (Value.int IntKind.i64 (0 : Int))) x2) fun v2 =>
    Prg.ite (asBool v2) (
      Prg.tv (pbin (Kd.int IntKind.i64) BinOp.lss x2 (TV.cell x0 2)) fun v3 =>
      Prg.ret v3) (
      Prg.ret (TV.lit (Value.bool false)))))
theorem f118_MR (x0 x1 x2 : TV) : startQ prog 118 [x0, x1, x2] = f118_M x0 x1 x2 := by kernel_rfl

theorem f118_run {x0 x1 x2 : TV} {r : TV} (h : Goes prog 118 (f118_M x0 x1 x2) r) : Runs prog 118 [x0, x1, x2] r := Runs.of (f118_MR x0 x1 x2) h
def f119_0_S  (x0 x1 x2 x3 : TV) : ASt := ⟨[AV.tv x0] ++ List.replicate 4 (AV.one CA.junk) ++ [AV.tv x1, AV.tv x2, AV.tv x3] ++ List.replicate 10 (AV.one CA.junk), List.replicate 42 (Option.none), []⟩
def f119_M (x0 : TV) : Prg TV :=
  Prg.tv (plen (Kd.slice 25) x0) fun v0 =>
  Prg.jmp [0, 0, 1, 0, 1] (f119_0_S x0 x0 v0 (TV.lit (Value.int IntKind.i64 (0 : Int))))
-- [0, 0, 1, 0, 1]
def f119_0  (x0 x1 x2 x3 : TV) : Prg TV :=
  Prg.tv (pbin (Kd.int IntKind.i64) BinOp.lss x3 x2) fun v1 =>
  Prg.ite (asBool v1) (
    Prg.tvs (pidx 1 x1 x3) fun e2 =>
    Prg.chk (Nat.blt 0 (List.length e2)) (
    Prg.nat (asNat x3) fun n3 =>
    Prg.tv (pslice (Kd.slice 25) 1 x0 Option.none (Option.some n3)) fun v4 =>
    Prg.call 58 [v4, nth TV.hole e2 0] fun v5 =>
    Prg.chk (fitsAt zBool [v5] 0) (
    Prg.ite (asBool v5) (
      Prg.ret (TV.lit (Value.bool false))) (
      Prg.tv (pbin (Kd.int IntKind.i64) BinOp.add x3 (TV.lit (Value.int IntKind.i64 (1 : Int)))) fun v6 =>
      Prg.jmp [0, 0, 1, 0, 1] (f119_0_S x0 x1 x2 v6))))) (
    Prg.ret (TV.lit (Value.bool true)))
theorem f119_MR (x0 : TV) : startQ prog 119 [x0] = f119_M x0 := by kernel_rfl
theorem f119_0_R  (x0 x1 x2 x3 : TV) : pieceQ prog 119 [0, 0, 1, 0, 1] (f119_0_S x0 x1 x2 x3) = f119_0 x0 x1 x2 x3 := by kernel_rfl

theorem f119_run {x0 : TV} {r : TV} (h : Goes prog 119 (f119_M x0) r) : Runs prog 119 [x0] r := Runs.of (f119_MR x0) h
theorem f119_0_J  {x0 x1 x2 x3 : TV} {r : TV} (h : Goes prog 119 (f119_0 x0 x1 x2 x3) r) : Goes prog 119 (.jmp [0, 0, 1, 0, 1] (f119_0_S x0 x1 x2 x3)) r := Goes.jmp (f119_0_R x0 x1 x2 x3) h
def f120_M (x0 : TV) : Prg TV :=
  Prg.tv (pbin (Kd.int IntKind.i64) BinOp.eql x0 (TV.lit (Value.int IntKind.i64 (1 : Int)))) fun v0 =>
  Prg.ite (asBool v0) (
    Prg.ret (TV.lit (Value.int IntKind.i64 (19 : Int)))) (
    Prg.tv (pbin (Kd.int IntKind.i64) BinOp.eql x0 (TV.lit (Value.int IntKind.i64 (2 : Int)))) fun v1 =>
    Prg.ite (asBool v1) (
      Prg.ite (asBool v1) (
        Prg.ret (TV.lit (Value.int IntKind.i64 (7 : Int)))) (
        Prg.tv (pbin (Kd.int IntKind.i64) BinOp.eql x0 (TV.lit (Value.int IntKind.i64 (3 : Int)))) fun v2 =>
        Prg.ite (asBool v2) (
          Prg.ite (asBool v2) (
            Prg.ret (TV.lit (Value.int IntKind.i64 (15 : Int)))) (
            Prg.tv (pbin (Kd.int IntKind.i64) BinOp.eql x0 (TV.lit (Value.int IntKind.i64 (10 : Int)))) fun v3 =>
            Prg.ite (asBool v3) (
              Prg.ret (TV.lit (Value.int IntKind.i64 (13 : Int)))) (
              Prg.tv (pbin (Kd.int IntKind.i64) BinOp.eql x0 (TV.lit (Value.int IntKind.i64 (11 : Int)))) fun v4 =>
              Prg.ite (asBool v4) (
                Prg.ret (TV.lit (Value.int IntKind.i64 (35 : Int)))) (
                Prg.tv (pbin (Kd.int IntKind.i64) BinOp.eql x0 (TV.lit (Value.int IntKind.i64 (12 : Int)))) fun v5 =>
                Prg.ite (asBool v5) (
                  Prg.ret (TV.lit (Value.int IntKind.i64 (5 : Int)))) (
                  Prg.tv (pbin (Kd.int IntKind.i64) BinOp.eql x0 (TV.lit (Value.int IntKind.i64 (13 : Int)))) fun v6 =>
                  Prg.ite (asBool v6) (
                    Prg.ret (TV.lit (Value.int IntKind.i64 (3 : Int)))) (
                    Prg.ret (TV.lit (Value.int IntKind.i64 (0 : Int))))))))) (
          Prg.tv (pbin (Kd.int IntKind.i64) BinOp.eql x0 (TV.lit (Value.int IntKind.i64 (4 : Int)))) fun v7 =>
          Prg.ite (asBool v7) (
            Prg.ite (asBool v7) (
              Prg.ret (TV.lit (Value.int IntKind.i64 (15 : Int)))) (
              Prg.tv (pbin (Kd.int IntKind.i64) BinOp.eql x0 (TV.lit (Value.int IntKind.i64 (10 : Int)))) fun v8 =>
              Prg.ite (asBool v8) (
                Prg.ret (TV.lit (Value.int IntKind.i64 (13 : Int)))) (
                Prg.tv (pbin (Kd.int IntKind.i64) BinOp.eql x0 (TV.lit (Value.int IntKind.i64 (11 : Int)))) fun v9 =>
                Prg.ite (asBool v9) (
                  Prg.ret (TV.lit (Value.int IntKind.i64 (35 : Int)))) (
                  Prg.tv (pbin (Kd.int IntKind.i64) BinOp.eql x0 (TV.lit (Value.int IntKind.i64 (12 : Int)))) fun v10 =>
                  Prg.ite (asBool v10) (
                    Prg.ret (TV.lit (Value.int IntKind.i64 (5 : Int)))) (
                    Prg.tv (pbin (Kd.int IntKind.i64) BinOp.eql x0 (TV.lit (Value.int IntKind.i64 (13 : Int)))) fun v11 =>
                    Prg.ite (asBool v11) (
                      Prg.ret (TV.lit (Value.int IntKind.i64 (3 : Int)))) (
                      Prg.ret (TV.lit (Value.int IntKind.i64 (0 : Int))))))))) (
            Prg.tv (pbin (Kd.int IntKind.i64) BinOp.eql x0 (TV.lit (Value.int IntKind.i64 (5 : Int)))) fun v12 =>
            Prg.ite (asBool v12) (
              Prg.ite (asBool v12) (
                Prg.ret (TV.lit (Value.int IntKind.i64 (15 : Int)))) (
                Prg.tv (pbin (Kd.int IntKind.i64) BinOp.eql x0 (TV.lit (Value.int IntKind.i64 (10 : Int)))) fun v13 =>
                Prg.ite (asBool v13) (
                  Prg.ret (TV.lit (Value.int IntKind.i64 (13 : Int)))) (
                  Prg.tv (pbin (Kd.int IntKind.i64) BinOp.eql x0 (TV.lit (Value.int IntKind.i64 (11 : Int)))) fun v14 =>
                  Prg.ite (asBool v14) (
                    Prg.ret (TV.lit (Value.int IntKind.i64 (35 : Int)))) (
                    Prg.tv (pbin (Kd.int IntKind.i64) BinOp.eql x0 (TV.lit (Value.int IntKind.i64 (12 : Int)))) fun v15 =>
                    Prg.ite (asBool v15) (
                      Prg.ret (TV.lit (Value.int IntKind.i64 (5 : Int)))) (
                      Prg.tv (pbin (Kd.int IntKind.i64) BinOp.eql x0 (TV.lit (Value.int IntKind.i64 (13 : Int)))) fun v16 =>
                      Prg.ite (asBool v16) (
                        Prg.ret (TV.lit (Value.int IntKind.i64 (3 : Int)))) (
                        Prg.ret (TV.lit (Value.int IntKind.i64 (0 : Int))))))))) (
              Prg.tv (pbin (Kd.int IntKind.i64) BinOp.eql x0 (TV.lit (Value.int IntKind.i64 (6 : Int)))) fun v17 =>
              Prg.ite (asBool v17) (
                Prg.ite (asBool v17) (
                  Prg.ret (TV.lit (Value.int IntKind.i64 (15 : Int)))) (
                  Prg.tv (pbin (Kd.int IntKind.i64) BinOp.eql x0 (TV.lit (Value.int IntKind.i64 (10 : Int)))) fun v18 =>
                  Prg.ite (asBool v18) (
                    Prg.ret (TV.lit (Value.int IntKind.i64 (13 : Int)))) (
                    Prg.tv (pbin (Kd.int IntKind.i64) BinOp.eql x0 (TV.lit (Value.int IntKind.i64 (11 : Int)))) fun v19 =>
                    Prg.ite (asBool v19) (
                      Prg.ret (TV.lit (Value.int IntKind.i64 (35 : Int)))) (
                      Prg.tv (pbin (Kd.int IntKind.i64) BinOp.eql x0 (TV.lit (Value.int IntKind.i64 (12 : Int)))) fun v20 =>
                      Prg.ite (asBool v20) (
                        Prg.ret (TV.lit (Value.int IntKind.i64 (5 : Int)))) (
                        Prg.tv (pbin (Kd.int IntKind.i64) BinOp.eql x0 (TV.lit (Value.int IntKind.i64 (13 : Int)))) fun v21 =>
                        Prg.ite (asBool v21) (
                          Prg.ret (TV.lit (Value.int IntKind.i64 (3 : Int)))) (
                          Prg.ret (TV.lit (Value.int IntKind.i64 (0 : Int))))))))) (
                Prg.tv (pbin (Kd.int IntKind.i64) BinOp.eql x0 (TV.lit (Value.int IntKind.i64 (7 : Int)))) fun v22 =>
                Prg.ite (asBool v22) (
                  Prg.ite (asBool v22) (
                    Prg.ret (TV.lit (Value.int IntKind.i64 (15 : Int)))) (
                    Prg.tv (pbin (Kd.int IntKind.i64) BinOp.eql x0 (TV.lit (Value.int IntKind.i64 (10 : Int)))) fun v23 =>
                    Prg.ite (asBool v23) (
                      Prg.ret (TV.lit (Value.int IntKind.i64 (13 : Int)))) (
                      Prg.tv (pbin (Kd.int IntKind.i64) BinOp.eql x0 (TV.lit (Value.int IntKind.i64 (11 : Int)))) fun v24 =>
                      Prg.ite (asBool v24) (
                        Prg.ret (TV.lit (Value.int IntKind.i64 (35 : Int)))) (
                        Prg.tv (pbin (Kd.int IntKind.i64) BinOp.eql x0 (TV.lit (Value.int IntKind.i64 (12 : Int)))) fun v25 =>
                        Prg.ite (asBool v25) (
                          Prg.ret (TV.lit (Value.int IntKind.i64 (5 : Int)))) (
                          Prg.tv (pbin (Kd.int IntKind.i64) BinOp.eql x0 (TV.lit (Value.int IntKind.i64 (13 : Int)))) fun v26 =>
                          Prg.ite (asBool v26) (
                            Prg.ret (TV.lit (Value.int IntKind.i64 (3 : Int)))) (
                            Prg.ret (TV.lit (Value.int IntKind.i64 (0 : Int))))))))) (
                  Prg.tv (pbin (Kd.int IntKind.i64) BinOp.eql x0 (TV.lit (Value.int IntKind.i64 (8 : Int)))) fun v27 =>
                  Prg.ite (asBool v27) (
                    Prg.ret (TV.lit (Value.int IntKind.i64 (15 : Int)))) (
                    Prg.tv (pbin (Kd.int IntKind.i64) BinOp.eql x0 (TV.lit (Value.int IntKind.i64 (10 : Int)))) fun v28 =>
                    Prg.ite (asBool v28) (
                      Prg.ret (TV.lit (Value.int IntKind.i64 (13 : Int)))) (
                      Prg.tv (pbin (Kd.int IntKind.i64) BinOp.eql x0 (TV.lit (Value.int IntKind.i64 (11 : Int)))) fun v29 =>
                      Prg.ite (asBool v29) (
                        Prg.ret (TV.lit (Value.int IntKind.i64 (35 : Int)))) (
                        Prg.tv (pbin (Kd.int IntKind.i64) BinOp.eql x0 (TV.lit (Value.int IntKind.i64 (12 : Int)))) fun v30 =>
                        Prg.ite (asBool v30) (
                          Prg.ret (TV.lit (Value.int IntKind.i64 (5 : Int)))) (
                          Prg.tv (pbin (Kd.int IntKind.i64) BinOp.eql x0 (TV.lit (Value.int IntKind.i64 (13 : Int)))) fun v31 =>
                          Prg.ite (asBool v31) (
                            Prg.ret (TV.lit (Value.int IntKind.i64 (3 : Int)))) (
                            Prg.ret (TV.lit (Value.int IntKind.i64 (0 : Int))))))))))))))) (
      Prg.tv (pbin (Kd.int IntKind.i64) BinOp.eql x0 (TV.lit (Value.int IntKind.i64 (9 : Int)))) fun v32 =>
      Prg.ite (asBool v32) (
        Prg.ret (TV.lit (Value.int IntKind.i64 (7 : Int)))) (
        Prg.tv (pbin (Kd.int IntKind.i64) BinOp.eql x0 (TV.lit (Value.int IntKind.i64 (3 : Int)))) fun v33 =>
        Prg.ite (asBool v33) (
          Prg.ite (asBool v33) (
            Prg.ret (TV.lit (Value.int IntKind.i64 (15 : Int)))) (
            Prg.tv (pbin (Kd.int IntKind.i64) BinOp.eql x0 (TV.lit (Value.int IntKind.i64 (10 : Int)))) fun v34 =>
            Prg.ite (asBool v34) (
              Prg.ret (TV.lit (Value.int IntKind.i64 (13 : Int)))) (
              Prg.tv (pbin (Kd.int IntKind.i64) BinOp.eql x0 (TV.lit (Value.int IntKind.i64 (11 : Int)))) fun v35 =>
              Prg.ite (asBool v35) (
                Prg.ret (TV.lit (Value.int IntKind.i64 (35 : Int)))) (
                Prg.tv (pbin (Kd.int IntKind.i64) BinOp.eql x0 (TV.lit (Value.int IntKind.i64 (12 : Int)))) fun v36 =>
                Prg.ite (asBool v36) (
                  Prg.ret (TV.lit (Value.int IntKind.i64 (5 : Int)))) (
                  Prg.tv (pbin (Kd.int IntKind.i64) BinOp.eql x0 (TV.lit (Value.int IntKind.i64 (13 : Int)))) fun v37 =>
                  Prg.ite (asBool v37) (
                    Prg.ret (TV.lit (Value.int IntKind.i64 (3 : Int)))) (
                    Prg.ret (TV.lit (Value.int IntKind.i64 (0 : Int))))))))) (
          Prg.tv (pbin (Kd.int IntKind.i64) BinOp.eql x0 (TV.lit (Value.int IntKind.i64 (4 : Int)))) fun v38 =>
          Prg.ite (asBool v38) (
            Prg.ite (asBool v38) (
              Prg.ret (TV.lit (Value.int IntKind.i64 (15 : Int)))) (
              Prg.tv (pbin (Kd.int IntKind.i64) BinOp.eql x0 (TV.lit (Value.int IntKind.i64 (10 : Int)))) fun v39 =>
              Prg.ite (asBool v39) (
                Prg.ret (TV.lit (Value.int IntKind.i64 (13 : Int)))) (
                Prg.tv (pbin (Kd.int IntKind.i64) BinOp.eql x0 (TV.lit (Value.int IntKind.i64 (11 : Int)))) fun v40 =>
                Prg.ite (asBool v40) (
                  Prg.ret (TV.lit (Value.int IntKind.i64 (35 : Int)))) (
                  Prg.tv (pbin (Kd.int IntKind.i64) BinOp.eql x0 (TV.lit (Value.int IntKind.i64 (12 : Int)))) fun v41 =>
                  Prg.ite (asBool v41) (
                    Prg.ret (TV.lit (Value.int IntKind.i64 (5 : Int)))) (
                    Prg.tv (pbin (Kd.int IntKind.i64) BinOp.eql x0 (TV.lit (Value.int IntKind.i64 (13 : Int)))) fun v42 =>
                    Prg.ite (asBool v42) (
                      Prg.ret (TV.lit (Value.int IntKind.i64 (3 : Int)))) (
                      Prg.ret (TV.lit (Value.int IntKind.i64 (0 : Int))))))))) (
            Prg.tv (pbin (Kd.int IntKind.i64) BinOp.eql x0 (TV.lit (Value.int IntKind.i64 (5 : Int)))) fun v43 =>
            Prg.ite (asBool v43) (
              Prg.ite (asBool v43) (
                Prg.ret (TV.lit (Value.int IntKind.i64 (15 : Int)))) (
                Prg.tv (pbin (Kd.int IntKind.i64) BinOp.eql x0 (TV.lit (Value.int IntKind.i64 (10 : Int)))) fun v44 =>
                Prg.ite (asBool v44) (
                  Prg.ret (TV.lit (Value.int IntKind.i64 (13 : Int)))) (
                  Prg.tv (pbin (Kd.int IntKind.i64) BinOp.eql x0 (TV.lit (Value.int IntKind.i64 (11 : Int)))) fun v45 =>
                  Prg.ite (asBool v45) (
                    Prg.ret (TV.lit (Value.int IntKind.i64 (35 : Int)))) (
                    Prg.tv (pbin (Kd.int IntKind.i64) BinOp.eql x0 (TV.lit (Value.int IntKind.i64 (12 : Int)))) fun v46 =>
                    Prg.ite (asBool v46) (
                      Prg.ret (TV.lit (Value.int IntKind.i64 (5 : Int)))) (
                      Prg.tv (pbin (Kd.int IntKind.i64) BinOp.eql x0 (TV.lit (Value.int IntKind.i64 (13 : Int)))) fun v47 =>
                      Prg.ite (asBool v47) (
                        Prg.ret (TV.lit (Value.int IntKind.i64 (3 : Int)))) (
                        Prg.ret (TV.lit (Value.int IntKind.i64 (0 : Int))))))))) (
              Prg.tv (pbin (Kd.int IntKind.i64) BinOp.eql x0 (TV.lit (Value.int IntKind.i64 (6 : Int)))) fun v48 =>
              Prg.ite (asBool v48) (
                Prg.ite (asBool v48) (
                  Prg.ret (TV.lit (Value.int IntKind.i64 (15 : Int)))) (
                  Prg.tv (pbin (Kd.int IntKind.i64) BinOp.eql x0 (TV.lit (Value.int IntKind.i64 (10 : Int)))) fun v49 =>
                  Prg.ite (asBool v49) (
                    Prg.ret (TV.lit (Value.int IntKind.i64 (13 : Int)))) (
                    Prg.tv (pbin (Kd.int IntKind.i64) BinOp.eql x0 (TV.lit (Value.int IntKind.i64 (11 : Int)))) fun v50 =>
                    Prg.ite (asBool v50) (
                      Prg.ret (TV.lit (Value.int IntKind.i64 (35 : Int)))) (
                      Prg.tv (pbin (Kd.int IntKind.i64) BinOp.eql x0 (TV.lit (Value.int IntKind.i64 (12 : Int)))) fun v51 =>
                      Prg.ite (asBool v51) (
                        Prg.ret (TV.lit (Value.int IntKind.i64 (5 : Int)))) (
                        Prg.tv (pbin (Kd.int IntKind.i64) BinOp.eql x0 (TV.lit (Value.int IntKind.i64 (13 : Int)))) fun v52 =>
                        Prg.ite (asBool v52) (
                          Prg.ret (TV.lit (Value.int IntKind.i64 (3 : Int)))) (
                          Prg.ret (TV.lit (Value.int IntKind.i64 (0 : Int))))))))) (
                Prg.tv (pbin (Kd.int IntKind.i64) BinOp.eql x0 (TV.lit (Value.int IntKind.i64 (7 : Int)))) fun v53 =>
                Prg.ite (asBool v53) (
                  Prg.ite (asBool v53) (
                    Prg.ret (TV.lit (Value.int IntKind.i64 (15 : Int)))) (
                    Prg.tv (pbin (Kd.int IntKind.i64) BinOp.eql x0 (TV.lit (Value.int IntKind.i64 (10 : Int)))) fun v54 =>
                    Prg.ite (asBool v54) (
                      Prg.ret (TV.lit (Value.int IntKind.i64 (13 : Int)))) (
                      Prg.tv (pbin (Kd.int IntKind.i64) BinOp.eql x0 (TV.lit (Value.int IntKind.i64 (11 : Int)))) fun v55 =>
                      Prg.ite (asBool v55) (
                        Prg.ret (TV.lit (Value.int IntKind.i64 (35 : Int)))) (
                        Prg.tv (pbin (Kd.int IntKind.i64) BinOp.eql x0 (TV.lit (Value.int IntKind.i64 (12 : Int)))) fun v56 =>
                        Prg.ite (asBool v56) (
                          Prg.ret (TV.lit (Value.int IntKind.i64 (5 : Int)))) (
                          Prg.tv (pbin (Kd.int IntKind.i64) BinOp.eql x0 (TV.lit (Value.int IntKind.i64 (13 : Int)))) fun v57 =>
                          Prg.ite (asBool v57) (
                            Prg.ret (TV.lit (Value.int IntKind.i64 (3 : Int)))) (
                            Prg.ret (TV.lit (Value.int IntKind.i64 (0 : Int))))))))) (
                  Prg.tv (pbin (Kd.int IntKind.i64) BinOp.eql x0 (TV.lit (Value.int IntKind.i64 (8 : Int)))) fun v58 =>
                  Prg.ite (asBool v58) (
                    Prg.ret (TV.lit (Value.int IntKind.i64 (15 : Int)))) (
                    Prg.tv (pbin (Kd.int IntKind.i64) BinOp.eql x0 (TV.lit (Value.int IntKind.i64 (10 : Int)))) fun v59 =>
                    Prg.ite (asBool v59) (
                      Prg.ret (TV.lit (Value.int IntKind.i64 (13 : Int)))) (
                      Prg.tv (pbin (Kd.int IntKind.i64) BinOp.eql x0 (TV.lit (Value.int IntKind.i64 (11 : Int)))) fun v60 =>
                      Prg.ite (asBool v60) (
                        Prg.ret (TV.lit (Value.int IntKind.i64 (35 : Int)))) (
                        Prg.tv (pbin (Kd.int IntKind.i64) BinOp.eql x0 (TV.lit (Value.int IntKind.i64 (12 : Int)))) fun v61 =>
                        Prg.ite (asBool v61) (
                          Prg.ret (TV.lit (Value.int IntKind.i64 (5 : Int)))) (
                          Prg.tv (pbin (Kd.int IntKind.i64) BinOp.eql x0 (TV.lit (Value.int IntKind.i64 (13 : Int)))) fun v62 =>
                          Prg.ite (asBool v62) (
                            Prg.ret (TV.lit (Value.int IntKind.i64 (3 : Int)))) (
                            Prg.ret (TV.lit (Value.int IntKind.i64 (0 : Int))))))))))))))))
theorem f120_MR (x0 : TV) : startQ prog 120 [x0] = f120_M x0 := by kernel_rfl

theorem f120_run {x0 : TV} {r : TV} (h : Goes prog 120 (f120_M x0) r) : Runs prog 120 [x0] r := Runs.of (f120_MR x0) h
def f121_0_S  (x0 x1 x2 y3 y4 y5 y6 : TV) : ASt := ⟨List.replicate 4 (AV.one CA.junk) ++ [AV.one (CA.ptr 0 0)] ++ List.replicate 35 (AV.one CA.junk) ++ [AV.tv x0, AV.tv x1, AV.tv x2] ++ List.replicate 8 (AV.one CA.junk), [Option.some (BC.cells [CA.t y3, CA.t y4, CA.t y5, CA.t y6])] ++ List.replicate 74 (Option.none), []⟩
def f121_M (x0 x1 x2 x3 : TV) : Prg TV :=
  Prg.chk (TV.isAgg x0 4) (
  Prg.tv (pun UnOp.not x1) fun v0 =>
  Prg.ite (asBool v0) (
    Prg.tv (pbin (Kd.int IntKind.i64) BinOp.eql x2 (TV.lit (Value.int IntKind.i64 (0 : Int)))) fun v1 =>
    Prg.ite (asBool v1) (
      Prg.tv (plen (Kd.slice 3) x3) fun v2 =>
      Prg.tv (pbin (Kd.int IntKind.i64) BinOp.eql v2 (TV.lit (Value.int IntKind.i64 (0 : Int)))) fun v3 =>
      Prg.ret v3) (
      Prg.ret (TV.lit (Value.bool false)))) (
    Prg.tv (pbin (Kd.int IntKind.i64) BinOp.lss x2 (TV.lit (Value.int IntKind.i64 (0 : Int)))) fun v4 =>
    Prg.ite (asBool v4) (
      Prg.ret (TV.lit (Value.bool false))) (
      Prg.tv (plen (Kd.slice 32) (TV.cell x0 0)) fun v5 =>
      Prg.tv (pbin (Kd.int IntKind.i64) BinOp.geq x2 v5) fun v6 =>
      Prg.ite (asBool v6) (
        Prg.ret (TV.lit (Value.bool false))) (
        Prg.tv (plen (Kd.slice 3) x3) fun v7 =>
        Prg.tvs (pidx 3 (TV.cell x0 0) x2) fun e8 =>
        Prg.chk (Nat.blt 0 (List.length e8)) (
        Prg.tv (pbin (Kd.int IntKind.i64) BinOp.neq v7 (nth TV.hole e8 0)) fun v9 =>
        Prg.ite (asBool v9) (
          Prg.ret (TV.lit (Value.bool false))) (
          Prg.tv (plen (Kd.slice 3) x3) fun v10 =>
          Prg.jmp [0, 0, 1, 0, 1, 1, 1] (f121_0_S x3 v10 (TV.lit (Value.int IntKind.i64 (0 : Int))) (TV.cell x0 0) (TV.cell x0 1) (TV.cell x0 2) (TV.cell x0 3))))))))
-- [0, 0, 1, 0, 1, 1, 1]
def f121_0  (x0 x1 x2 y3 y4 y5 y6 : TV) : Prg TV :=
  Prg.tv (pbin (Kd.int IntKind.i64) BinOp.lss x2 x1) fun v11 =>
  Prg.ite (asBool v11) (
    Prg.tvs (pidx 1 x0 x2) fun e12 =>
    Prg.chk (Nat.blt 0 (List.length e12)) (
    Prg.call 118 [TV.agg [y3, y4, y5, y6], TV.lit (Value.bool true), nth TV.hole e12 0] fun v13 =>
    Prg.chk (fitsAt zBool [v13] 0) (
    Prg.tv (pun UnOp.not v13) fun v14 =>
    Prg.ite (asBool v14) (
      Prg.ret (TV.lit (Value.bool false))) (
      Prg.tv (pbin (Kd.int IntKind.i64) BinOp.add x2 (TV.lit (Value.int IntKind.i64 (1 : Int)))) fun v15 =>
      Prg.jmp [0, 0, 1, 0, 1, 1, 1] (f121_0_S x0 x1 v15 y3 y4 y5 y6))))) (
    Prg.ret (TV.lit (Value.bool true)))
theorem f121_MR (x0 x1 x2 x3 : TV) : startQ prog 121 [x0, x1, x2, x3] = f121_M x0 x1 x2 x3 := by kernel_rfl
theorem f121_0_R  (x0 x1 x2 y3 y4 y5 y6 : TV) : pieceQ prog 121 [0, 0, 1, 0, 1, 1, 1] (f121_0_S x0 x1 x2 y3 y4 y5 y6) = f121_0 x0 x1 x2 y3 y4 y5 y6 := by kernel_rfl

theorem f121_run {x0 x1 x2 x3 : TV} {r : TV} (h : Goes prog 121 (f121_M x0 x1 x2 x3) r) : Runs prog 121 [x0, x1, x2, x3] r := Runs.of (f121_MR x0 x1 x2 x3) h
theorem f121_0_J  {x0 x1 x2 y3 y4 y5 y6 : TV} {r : TV} (h : Goes prog 121 (f121_0 x0 x1 x2 y3 y4 y5 y6) r) : Goes prog 121 (.jmp [0, 0, 1, 0, 1, 1, 1] (f121_0_S x0 x1 x2 y3 y4 y5 y6)) r := Goes.jmp (f121_0_R x0 x1 x2 y3 y4 y5 y6) h
def f122_M (x0 x1 x2 x3 : TV) : Prg TV :=
  Prg.chk (TV.isAgg x0 4) (
  Prg.tv (pun UnOp.not x1) fun v0 =>
  Prg.ite (asBool v0) (
    Prg.tv (pbin (Kd.int IntKind.i64) BinOp.eql x2 (TV.lit (Value.int IntKind.i64 (0 : Int)))) fun v1 =>
    Prg.ret v1) (
    Prg.tv (pbin (Kd.int IntKind.i64) BinOp.leq (TV.lit (Value.int IntKind.i64 (0 : Int))) x2) fun v2 =>
    Prg.ite (asBool v2) (
      Prg.tv (plen (Kd.slice 42) (TV.cell x0 3)) fun v3 =>
      Prg.tv (pbin (Kd.int IntKind.i64) BinOp.lss x2 v3) fun v4 =>
      Prg.ite (asBool v4) (
        Prg.tvs (pidx 14 (TV.cell x0 3) x2) fun e5 =>
        Prg.chk (Nat.blt 0 (List.length e5)) (
        Prg.tv (pbin Kd.bool BinOp.eql (nth TV.hole e5 0) x3) fun v6 =>
        Prg.ret v6)) (
        Prg.ret (TV.lit (Value.bool false)))) (
      Prg.ret (TV.lit (Value.bool false)))))
theorem f122_MR (x0 x1 x2 x3 : TV) : startQ prog 122 [x0, x1, x2, x3] = f122_M x0 x1 x2 x3 := by kernel_rfl

theorem f122_run {x0 x1 x2 x3 : TV} {r : TV} (h : Goes prog 122 (f122_M x0 x1 x2 x3) r) : Runs prog 122 [x0, x1, x2, x3] r := Runs.of (f122_MR x0 x1 x2 x3) h
def f123_0_S  (x0 x1 x2 x3 : TV) : ASt := ⟨[AV.tv x0, AV.tv x1] ++ List.replicate 10 (AV.one CA.junk) ++ [AV.tv x2, AV.tv x3] ++ List.replicate 12 (AV.one CA.junk), List.replicate 50 (Option.none), []⟩
def f123_M (x0 x1 : TV) : Prg TV :=
  Prg.tv (plen (Kd.slice 25) x0) fun v0 =>
  Prg.tv (plen (Kd.slice 25) x1) fun v1 =>
  Prg.tv (pbin (Kd.int IntKind.i64) BinOp.neq v0 v1) fun v2 =>
  Prg.ite (asBool v2) (
    Prg.ret (TV.lit (Value.bool false))) (
    Prg.tv (plen (Kd.slice 25) x0) fun v3 =>
    Prg.jmp [0, 0, 1, 0, 1, 1] (f123_0_S x0 x1 v3 (TV.lit (Value.int IntKind.i64 (0 : Int)))))
-- [0, 0, 1, 0, 1, 1]
def f123_0  (x0 x1 x2 x3 : TV) : Prg TV :=
  Prg.tv (pbin (Kd.int IntKind.i64) BinOp.lss x3 x2) fun v4 =>
  Prg.ite (asBool v4) (
    Prg.tvs (pidx 1 x0 x3) fun e5 =>
    Prg.chk (Nat.blt 0 (List.length e5)) (
    Prg.tvs (pidx 1 x1 x3) fun e6 =>
    Prg.chk (Nat.blt 0 (List.length e6)) (
    Prg.tv (pbin (Kd.int IntKind.u16) BinOp.neq (nth TV.hole e5 0) (nth TV.hole e6 0)) fun v7 =>
    Prg.ite (asBool v7) (
      Prg.ret (TV.lit (Value.bool false))) (
      Prg.tv (pbin (Kd.int IntKind.i64) BinOp.add x3 (TV.lit (Value.int IntKind.i64 (1 : Int)))) fun v8 =>
      Prg.jmp [0, 0, 1, 0, 1, 1] (f123_0_S x0 x1 x2 v8))))) (
    Prg.ret (TV.lit (Value.bool true)))
theorem f123_MR (x0 x1 : TV) : startQ prog 123 [x0, x1] = f123_M x0 x1 := by kernel_rfl
theorem f123_0_R  (x0 x1 x2 x3 : TV) : pieceQ prog 123 [0, 0, 1, 0, 1, 1] (f123_0_S x0 x1 x2 x3) = f123_0 x0 x1 x2 x3 := by kernel_rfl

theorem f123_run {x0 x1 : TV} {r : TV} (h : Goes prog 123 (f123_M x0 x1) r) : Runs prog 123 [x0, x1] r := Runs.of (f123_MR x0 x1) h
theorem f123_0_J  {x0 x1 x2 x3 : TV} {r : TV} (h : Goes prog 123 (f123_0 x0 x1 x2 x3) r) : Goes prog 123 (.jmp [0, 0, 1, 0, 1, 1] (f123_0_S x0 x1 x2 x3)) r := Goes.jmp (f123_0_R x0 x1 x2 x3) h
def f124_0_S  (x0 x1 x2 x3 : TV) : ASt := ⟨[AV.tv x0, AV.tv x1] ++ List.replicate 10 (AV.one CA.junk) ++ [AV.tv x2, AV.tv x3] ++ List.replicate 12 (AV.one CA.junk), List.replicate 50 (Option.none), []⟩
def f124_M (x0 x1 : TV) : Prg TV :=
  Prg.tv (plen (Kd.slice 3) x0) fun v0 =>
  Prg.tv (plen (Kd.slice 3) x1) fun v1 =>
  Prg.tv (pbin (Kd.int IntKind.i64) BinOp.neq v0 v1) fun v2 =>
  Prg.ite (asBool v2) (
    Prg.ret (TV.lit (Value.bool false))) (
    Prg.tv (plen (Kd.slice 3) x0) fun v3 =>
    Prg.jmp [0, 0, 1, 0, 1, 1] (f124_0_S x0 x1 v3 (TV.lit (Value.int IntKind.i64 (0 : Int)))))
-- [0, 0, 1, 0, 1, 1]
def f124_0  (x0 x1 x2 x3 : TV) : Prg TV :=
  Prg.tv (pbin (Kd.int IntKind.i64) BinOp.lss x3 x2) fun v4 =>
  Prg.ite (asBool v4) (
    Prg.tvs (pidx 1 x0 x3) fun e5 =>
    Prg.chk (Nat.blt 0 (List.length e5)) (
    Prg.tvs (pidx 1 x1 x3) fun e6 =>
    Prg.chk (Nat.blt 0 (List.length e6)) (
    Prg.tv (pbin (Kd.int IntKind.i64) BinOp.neq (nth TV.hole e5 0) (nth TV.hole e6 0)) fun v7 =>
    Prg.ite (asBool v7) (
      Prg.ret (TV.lit (Value.bool false))) (
      Prg.tv (pbin (Kd.int IntKind.i64) BinOp.add x3 (TV.lit (Value.int IntKind.i64 (1 : Int)))) fun v8 =>
      Prg.jmp [0, 0, 1, 0, 1, 1] (f124_0_S x0 x1 x2 v8))))) (
    Prg.ret (TV.lit (Value.bool true)))
theorem f124_MR (x0 x1 : TV) : startQ prog 124 [x0, x1] = f124_M x0 x1 := by kernel_rfl
theorem f124_0_R  (x0 x1 x2 x3 : TV) : pieceQ prog 124 [0, 0, 1, 0, 1, 1] (f124_0_S x0 x1 x2 x3) = f124_0 x0 x1 x2 x3 := by kernel_rfl

theorem f124_run {x0 x1 : TV} {r : TV} (h : Goes prog 124 (f124_M x0 x1) r) : Runs prog 124 [x0, x1] r := Runs.of (f124_MR x0 x1) h
theorem f124_0_J  {x0 x1 x2 x3 : TV} {r : TV} (h : Goes prog 124 (f124_0 x0 x1 x2 x3) r) : Goes prog 124 (.jmp [0, 0, 1, 0, 1, 1] (f124_0_S x0 x1 x2 x3)) r := Goes.jmp (f124_0_R x0 x1 x2 x3) h
end Go.Ab.H6

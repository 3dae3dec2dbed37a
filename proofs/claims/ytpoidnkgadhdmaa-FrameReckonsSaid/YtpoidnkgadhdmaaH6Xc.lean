import Derived.Test.YtpoidnkgadhdmaaH6T
import Derived.Test.YtpoidnkgadhdmaaF0
set_option linter.unusedVariables false
set_option maxRecDepth 100000
namespace Go.Ab.H6
open Go Go.Ab Go.Proofs
def f47_0_S  (x0 x1 x2 x3 x4 : TV) : ASt := ⟨[AV.one CA.junk, AV.tv x0, AV.tv x1] ++ List.replicate 12 (AV.one CA.junk) ++ [AV.tv x2, AV.tv x3, AV.tv x4] ++ List.replicate 14 (AV.one CA.junk), List.replicate 56 (Option.none), []⟩
def f47_M (x0 x1 x2 : TV) : Prg TV :=
  Prg.tv (plen (Kd.slice 32) x0) fun v0 =>
  Prg.tv (plen (Kd.slice 32) x1) fun v1 =>
  Prg.tv (pbin (Kd.int IntKind.i64) BinOp.neq v0 v1) fun v2 =>
  Prg.ite (asBool v2) (
    Prg.ret (TV.lit (Value.bool false))) (
    Prg.tv (plen (Kd.slice 32) x0) fun v3 =>
    Prg.jmp [0, 0, 1, 0, 1, 1] (f47_0_S x1 x2 x0 v3 (TV.lit (Value.int IntKind.i64 (0 : Int)))))
-- [0, 0, 1, 0, 1, 1]
def f47_0  (x0 x1 x2 x3 x4 : TV) : Prg TV :=
  Prg.tv (pbin (Kd.int IntKind.i64) BinOp.lss x4 x3) fun v4 =>
  Prg.ite (asBool v4) (
    Prg.tvs (pidx 3 x2 x4) fun e5 =>
    Prg.chk (Nat.ble 3 (List.length e5)) (
    Prg.tvs (pidx 3 x0 x4) fun e6 =>
    Prg.chk (Nat.ble 3 (List.length e6)) (
    Prg.nat (fnOf x1) fun n7 =>
    Prg.chk (Option.isNone (lookD [] n7)) (
    Prg.call n7 [TV.agg [nth TV.hole e5 0, nth TV.hole e5 1, nth TV.hole e5 2], TV.agg [nth TV.hole e6 0, nth TV.hole e6 1, nth TV.hole e6 2]] fun v8 =>
    Prg.chk (TV.isSc v8) (
    Prg.tv (pun UnOp.not v8) fun v9 =>
    Prg.ite (asBool v9) (
      Prg.ret (TV.lit (Value.bool false))) (
      Prg.tv (pbin (Kd.int IntKind.i64) BinOp.add x4 (TV.lit (Value.int IntKind.i64 (1 : Int)))) fun v10 =>
      Prg.jmp [0, 0, 1, 0, 1, 1] (f47_0_S x0 x1 x2 x3 v10))))))) (
    Prg.ret (TV.lit (Value.bool true)))
theorem f47_MR (x0 x1 x2 : TV) : startQ prog 47 [x0, x1, x2] = f47_M x0 x1 x2 := by kernel_rfl
theorem f47_0_R  (x0 x1 x2 x3 x4 : TV) : pieceQ prog 47 [0, 0, 1, 0, 1, 1] (f47_0_S x0 x1 x2 x3 x4) = f47_0 x0 x1 x2 x3 x4 := by kernel_rfl

theorem f47_run {x0 x1 x2 : TV} {r : TV} (h : Goes prog 47 (f47_M x0 x1 x2) r) : Runs prog 47 [x0, x1, x2] r := Runs.of (f47_MR x0 x1 x2) h
theorem f47_0_J  {x0 x1 x2 x3 x4 : TV} {r : TV} (h : Goes prog 47 (f47_0 x0 x1 x2 x3 x4) r) : Goes prog 47 (.jmp [0, 0, 1, 0, 1, 1] (f47_0_S x0 x1 x2 x3 x4)) r := Goes.jmp (f47_0_R x0 x1 x2 x3 x4) h
def f48_M (x0 x1 : TV) : Prg TV :=
  Prg.chk (TV.isAgg x0 3) (
  Prg.chk (TV.isAgg x1 3) (
  Prg.tv (pbin (Kd.int IntKind.i64) BinOp.eql (TV.cell x0 0) (TV.cell x1 0)) fun v0 =>
  Prg.ite (asBool v0) (
    Prg.tv (pbin (Kd.int IntKind.i64) BinOp.eql (TV.cell x0 1) (TV.cell x1 1)) fun v1 =>
    Prg.ite (asBool v1) (
      Prg.call 73 [TV.cell x0 2, TV.cell x1 2, TV.lit (Value.func (Fn.func 74) (Array.mk []) (Array.mk []))] fun v2 =>
      Prg.chk (fitsAt zBool [v2] 0) (
      Prg.ret v2)) (
      Prg.ret (TV.lit (Value.bool false)))) (
    Prg.ret (TV.lit (Value.bool false)))))
theorem f48_MR (x0 x1 : TV) : startQ prog 48 [x0, x1] = f48_M x0 x1 := by kernel_rfl

theorem f48_run {x0 x1 : TV} {r : TV} (h : Goes prog 48 (f48_M x0 x1) r) : Runs prog 48 [x0, x1] r := Runs.of (f48_MR x0 x1) h
def f49_0_S  (x0 y1 y2 y3 y4 y5 y6 : TV) : ASt := ⟨[AV.one CA.junk, AV.one CA.junk, AV.one (CA.ptr 0 0), AV.one (CA.ptr 1 0), AV.one CA.junk, AV.tv x0] ++ List.replicate 90 (AV.one CA.junk), [Option.some (BC.cells [CA.t y1, CA.t y2, CA.t y3]), Option.some (BC.cells [CA.t y4, CA.t y5, CA.t y6])] ++ List.replicate 118 (Option.none), []⟩
def f49_1_S  (x0 x1 y2 y3 y4 y5 y6 y7 y8 y9 y10 y11 y12 y13 y14 y15 y16 y17 y18 y19 y20 y21 y22 y23 y24 y25 y26 y27 y28 y29 y30 y31 y32 y33 y34 y35 : TV) : ASt := ⟨[AV.one CA.junk, AV.one CA.junk, AV.one (CA.ptr 0 0), AV.one (CA.ptr 1 0), AV.one CA.junk, AV.tv x0, AV.one (CA.ptr 2 0), AV.one (CA.ptr 3 0), AV.tv x1] ++ List.replicate 87 (AV.one CA.junk), [Option.some (BC.cells [CA.t y2, CA.t y3, CA.t y4]), Option.some (BC.cells [CA.t y5, CA.t y6, CA.t y7]), Option.some (BC.cells [CA.t y8, CA.t y9, CA.t y10, CA.t y11, CA.t y12, CA.t y13, CA.t y14, CA.t y15, CA.t y16, CA.t y17, CA.t y18, CA.t y19, CA.t y20, CA.t y21]), Option.some (BC.cells [CA.t y22, CA.t y23, CA.t y24, CA.t y25, CA.t y26, CA.t y27, CA.t y28, CA.t y29, CA.t y30, CA.t y31, CA.t y32, CA.t y33, CA.t y34, CA.t y35])] ++ List.replicate 116 (Option.none), []⟩
def f49_M (x0 x1 : TV) : Prg TV :=
  Prg.chk (TV.isAgg x0 3) (
  Prg.chk (TV.isAgg x1 3) (
  Prg.tv (pbin (Kd.int IntKind.i64) BinOp.neq (TV.cell x0 0) (TV.cell x1 0)) fun v0 =>
  Prg.ite (asBool v0) (
    Prg.ret (TV.lit (Value.bool false))) (
    Prg.tv (pbin (Kd.int IntKind.i64) BinOp.neq (TV.cell x0 1) (TV.cell x1 1)) fun v1 =>
    Prg.ite (asBool v1) (
      Prg.ret (TV.lit (Value.bool false))) (
      Prg.tv (plen (Kd.slice 42) (TV.cell x0 2)) fun v2 =>
      Prg.tv (plen (Kd.slice 42) (TV.cell x1 2)) fun v3 =>
      Prg.tv (pbin (Kd.int IntKind.i64) BinOp.neq v2 v3) fun v4 =>
      Prg.ite (asBool v4) (
        Prg.ret (TV.lit (Value.bool false))) (
        Prg.jmp [0, 0, 1, 0, 1, 1] (f49_0_S (TV.lit (Value.int IntKind.i64 (0 : Int))) (TV.cell x0 0) (TV.cell x0 1) (TV.cell x0 2) (TV.cell x1 0) (TV.cell x1 1) (TV.cell x1 2)))))))
-- [0, 0, 1, 0, 1, 1]
def f49_0  (x0 y1 y2 y3 y4 y5 y6 : TV) : Prg TV :=
  Prg.tv (plen (Kd.slice 42) y3) fun v5 =>
  Prg.tv (pbin (Kd.int IntKind.i64) BinOp.lss x0 v5) fun v6 =>
  Prg.ite (asBool v6) (
    Prg.tvs (pidx 14 y3 x0) fun e7 =>
    Prg.chk (Nat.ble 14 (List.length e7)) (
    Prg.tvs (pidx 14 y6 x0) fun e8 =>
    Prg.chk (Nat.ble 14 (List.length e8)) (
    Prg.tv (pbin Kd.bool BinOp.neq (nth TV.hole e7 0) (nth TV.hole e8 0)) fun v9 =>
    Prg.ite (asBool v9) (
      Prg.ret (TV.lit (Value.bool false))) (
      Prg.call 75 [TV.agg [nth TV.hole e7 1, nth TV.hole e7 2, nth TV.hole e7 3, nth TV.hole e7 4], TV.agg [nth TV.hole e8 1, nth TV.hole e8 2, nth TV.hole e8 3, nth TV.hole e8 4]] fun v10 =>
      Prg.chk (fitsAt zBool [v10] 0) (
      Prg.tv (pun UnOp.not v10) fun v11 =>
      Prg.ite (asBool v11) (
        Prg.ret (TV.lit (Value.bool false))) (
        Prg.call 76 [TV.agg [nth TV.hole e7 6, nth TV.hole e7 7, nth TV.hole e7 8, nth TV.hole e7 9, nth TV.hole e7 10, nth TV.hole e7 11, nth TV.hole e7 12, nth TV.hole e7 13], TV.agg [nth TV.hole e8 6, nth TV.hole e8 7, nth TV.hole e8 8, nth TV.hole e8 9, nth TV.hole e8 10, nth TV.hole e8 11, nth TV.hole e8 12, nth TV.hole e8 13]] fun v12 =>
        Prg.chk (fitsAt zBool [v12] 0) (
        Prg.tv (pun UnOp.not v12) fun v13 =>
        Prg.ite (asBool v13) (
          Prg.ret (TV.lit (Value.bool false))) (
          Prg.tv (plen (Kd.slice 44) (nth TV.hole e7 5)) fun v14 =>
          Prg.tv (plen (Kd.slice 44) (nth TV.hole e8 5)) fun v15 =>
          Prg.tv (pbin (Kd.int IntKind.i64) BinOp.neq v14 v15) fun v16 =>
          Prg.ite (asBool v16) (
            Prg.ret (TV.lit (Value.bool false))) (
            Prg.jmp [0, 0, 1, 1, 1, 0, 0, 1, 0, 0, 1, 0, 1, 1] (f49_1_S x0 (TV.lit (Value.int IntKind.i64 (0 : Int))) y1 y2 y3 y4 y5 y6 (nth TV.hole e7 0) (nth TV.hole e7 1) (nth TV.hole e7 2) (nth TV.hole e7 3) (nth TV.hole e7 4) (nth TV.hole e7 5) (nth TV.hole e7 6) (nth TV.hole e7 7) (nth TV.hole e7 8) (nth TV.hole e7 9) (nth TV.hole e7 10) (nth TV.hole e7 11) (nth TV.hole e7 12) (nth TV.hole e7 13) (nth TV.hole e8 0) (nth TV.hole e8 1) (nth TV.hole e8 2) (nth TV.hole e8 3) (nth TV.hole e8 4) (nth TV.hole e8 5) (nth TV.hole e8 6) (nth TV.hole e8 7) (nth TV.hole e8 8) (nth TV.hole e8 9) (nth TV.hole e8 10) (nth TV.hole e8 11) (nth TV.hole e8 12) (nth TV.hole e8 13))))))))))) (
    Prg.ret (TV.lit (Value.bool true)))
-- [0, 0, 1, 1, 1, 0, 0, 1, 0, 0, 1, 0, 1, 1]
def f49_1  (x0 x1 y2 y3 y4 y5 y6 y7 y8 y9 y10 y11 y12 y13 y14 y15 y16 y17 y18 y19 y20 y21 y22 y23 y24 y25 y26 y27 y28 y29 y30 y31 y32 y33 y34 y35 : TV) : Prg TV :=
  Prg.tv (plen (Kd.slice 44) y13) fun v17 =>
  Prg.tv (pbin (Kd.int IntKind.i64) BinOp.lss x1 v17) fun v18 =>
  Prg.ite (asBool v18) (
    Prg.tvs (pidx 7 y13 x1) fun e19 =>
    Prg.chk (Nat.ble 7 (List.length e19)) (
    Prg.tvs (pidx 7 y27 x1) fun e20 =>
    Prg.chk (Nat.ble 7 (List.length e20)) (
    Prg.call 77 [TV.agg [nth TV.hole e19 0, nth TV.hole e19 1, nth TV.hole e19 2, nth TV.hole e19 3, nth TV.hole e19 4, nth TV.hole e19 5, nth TV.hole e19 6], TV.agg [nth TV.hole e20 0, nth TV.hole e20 1, nth TV.hole e20 2, nth TV.hole e20 3, nth TV.hole e20 4, nth TV.hole e20 5, nth TV.hole e20 6]] fun v21 =>
    Prg.chk (fitsAt zBool [v21] 0) (
    Prg.tv (pun UnOp.not v21) fun v22 =>
    Prg.ite (asBool v22) (
      Prg.ret (TV.lit (Value.bool false))) (
      Prg.tv (pbin (Kd.int IntKind.i64) BinOp.add x1 (TV.lit (Value.int IntKind.i64 (1 : Int)))) fun v23 =>
      Prg.jmp [0, 0, 1, 1, 1, 0, 0, 1, 0, 0, 1, 0, 1, 1] (f49_1_S x0 v23 y2 y3 y4 y5 y6 y7 y8 y9 y10 y11 y12 y13 y14 y15 y16 y17 y18 y19 y20 y21 y22 y23 y24 y25 y26 y27 y28 y29 y30 y31 y32 y33 y34 y35)))))) (
    Prg.tv (pbin (Kd.int IntKind.i64) BinOp.add x0 (TV.lit (Value.int IntKind.i64 (1 : Int)))) fun v24 =>
    Prg.jmp [0, 0, 1, 0, 1, 1] (f49_0_S v24 y2 y3 y4 y5 y6 y7))
theorem f49_MR (x0 x1 : TV) : startQ prog 49 [x0, x1] = f49_M x0 x1 := by kernel_rfl
theorem f49_0_R  (x0 y1 y2 y3 y4 y5 y6 : TV) : pieceQ prog 49 [0, 0, 1, 0, 1, 1] (f49_0_S x0 y1 y2 y3 y4 y5 y6) = f49_0 x0 y1 y2 y3 y4 y5 y6 := by kernel_rfl
theorem f49_1_R  (x0 x1 y2 y3 y4 y5 y6 y7 y8 y9 y10 y11 y12 y13 y14 y15 y16 y17 y18 y19 y20 y21 y22 y23 y24 y25 y26 y27 y28 y29 y30 y31 y32 y33 y34 y35 : TV) : pieceQ prog 49 [0, 0, 1, 1, 1, 0, 0, 1, 0, 0, 1, 0, 1, 1] (f49_1_S x0 x1 y2 y3 y4 y5 y6 y7 y8 y9 y10 y11 y12 y13 y14 y15 y16 y17 y18 y19 y20 y21 y22 y23 y24 y25 y26 y27 y28 y29 y30 y31 y32 y33 y34 y35) = f49_1 x0 x1 y2 y3 y4 y5 y6 y7 y8 y9 y10 y11 y12 y13 y14 y15 y16 y17 y18 y19 y20 y21 y22 y23 y24 y25 y26 y27 y28 y29 y30 y31 y32 y33 y34 y35 := by kernel_rfl

theorem f49_run {x0 x1 : TV} {r : TV} (h : Goes prog 49 (f49_M x0 x1) r) : Runs prog 49 [x0, x1] r := Runs.of (f49_MR x0 x1) h
theorem f49_0_J  {x0 y1 y2 y3 y4 y5 y6 : TV} {r : TV} (h : Goes prog 49 (f49_0 x0 y1 y2 y3 y4 y5 y6) r) : Goes prog 49 (.jmp [0, 0, 1, 0, 1, 1] (f49_0_S x0 y1 y2 y3 y4 y5 y6)) r := Goes.jmp (f49_0_R x0 y1 y2 y3 y4 y5 y6) h
theorem f49_1_J  {x0 x1 y2 y3 y4 y5 y6 y7 y8 y9 y10 y11 y12 y13 y14 y15 y16 y17 y18 y19 y20 y21 y22 y23 y24 y25 y26 y27 y28 y29 y30 y31 y32 y33 y34 y35 : TV} {r : TV} (h : Goes prog 49 (f49_1 x0 x1 y2 y3 y4 y5 y6 y7 y8 y9 y10 y11 y12 y13 y14 y15 y16 y17 y18 y19 y20 y21 y22 y23 y24 y25 y26 y27 y28 y29 y30 y31 y32 y33 y34 y35) r) : Goes prog 49 (.jmp [0, 0, 1, 1, 1, 0, 0, 1, 0, 0, 1, 0, 1, 1] (f49_1_S x0 x1 y2 y3 y4 y5 y6 y7 y8 y9 y10 y11 y12 y13 y14 y15 y16 y17 y18 y19 y20 y21 y22 y23 y24 y25 y26 y27 y28 y29 y30 y31 y32 y33 y34 y35)) r := Goes.jmp (f49_1_R x0 x1 y2 y3 y4 y5 y6 y7 y8 y9 y10 y11 y12 y13 y14 y15 y16 y17 y18 y19 y20 y21 y22 y23 y24 y25 y26 y27 y28 y29 y30 y31 y32 y33 y34 y35) h
def f50_M (x0 x1 : TV) : Prg TV :=
  Prg.tv (pbin (Kd.int IntKind.i64) BinOp.leq (TV.lit (Value.int IntKind.i64 (0 : Int))) x1) fun v0 =>
  Prg.ite (asBool v0) (
    Prg.tv (pbin (Kd.int IntKind.i64) BinOp.lss x1 x0) fun v1 =>
    Prg.ret v1) (
    Prg.ret (TV.lit (Value.bool false)))
theorem f50_MR (x0 x1 : TV) : startQ prog 50 [x0, x1] = f50_M x0 x1 := by kernel_rfl

theorem f50_run {x0 x1 : TV} {r : TV} (h : Goes prog 50 (f50_M x0 x1) r) : Runs prog 50 [x0, x1] r := Runs.of (f50_MR x0 x1) h
def f51_M (x0 x1 : TV) : Prg TV :=
  Prg.chk (TV.isAgg x0 3) (
  Prg.tv (plen (Kd.slice 42) (TV.cell x0 2)) fun v0 =>
  Prg.call 50 [v0, x1] fun v1 =>
  Prg.chk (fitsAt zBool [v1] 0) (
  Prg.ite (asBool v1) (
    Prg.tvs (pidx 14 (TV.cell x0 2) x1) fun e2 =>
    Prg.chk (Nat.blt 0 (List.length e2)) (
    Prg.ret (nth TV.hole e2 0))) (
    Prg.ret (TV.lit (Value.bool false)))))
theorem f51_MR (x0 x1 : TV) : startQ prog 51 [x0, x1] = f51_M x0 x1 := by kernel_rfl

theorem f51_run {x0 x1 : TV} {r : TV} (h : Goes prog 51 (f51_M x0 x1) r) : Runs prog 51 [x0, x1] r := Runs.of (f51_MR x0 x1) h
def f52_M (x0 : TV) : Prg TV :=
  Prg.chk (TV.isAgg x0 5) (
  Prg.call 70 [TV.cell x0 3] fun v0 =>
  Prg.chk (fitsAt zSl [v0] 0) (
  Prg.chk (isOwn (TV.agg [TV.cell x0 0, TV.cell x0 1, TV.cell x0 2, v0, TV.cell x0 4])) (
  Prg.ret (TV.agg [TV.cell x0 0, TV.cell x0 1, TV.cell x0 2, v0, TV.cell x0 4]))))
theorem f52_MR (x0 : TV) : startQ prog 52 [x0] = f52_M x0 := by kernel_rfl

theorem f52_run {x0 : TV} {r : TV} (h : Goes prog 52 (f52_M x0) r) : Runs prog 52 [x0] r := Runs.of (f52_MR x0) h
def f53_0_S  (x0 y1 y2 y3 y4 : TV) : ASt := ⟨[AV.one CA.junk, AV.one CA.junk, AV.one (CA.ptr 0 0), AV.one (CA.ptr 1 0), AV.one CA.junk, AV.tv x0] ++ List.replicate 87 (AV.one CA.junk), [Option.some (BC.cells [CA.t y1]), Option.some (BC.cells [CA.t y2, CA.t y3, CA.t y4])] ++ List.replicate 115 (Option.none), []⟩
def f53_1_S  (x0 x1 y2 y3 y4 y5 y6 y7 y8 y9 y10 y11 y12 y13 y14 y15 y16 y17 y18 y19 : TV) : ASt := ⟨[AV.one CA.junk, AV.one CA.junk, AV.one (CA.ptr 0 0), AV.one (CA.ptr 1 0), AV.one CA.junk, AV.tv x0, AV.one (CA.ptr 2 0), AV.tv x1] ++ List.replicate 85 (AV.one CA.junk), [Option.some (BC.cells [CA.t y2]), Option.some (BC.cells [CA.t y3, CA.t y4, CA.t y5]), Option.some (BC.cells [CA.t y6, CA.t y7, CA.t y8, CA.t y9, CA.t y10, CA.t y11, CA.t y12, CA.t y13, CA.t y14, CA.t y15, CA.t y16, CA.t y17, CA.t y18, CA.t y19])] ++ List.replicate 114 (Option.none), []⟩
def f53_M (x0 x1 : TV) : Prg TV :=
  Prg.chk (TV.isAgg x0 1) (
  Prg.chk (TV.isAgg x1 3) (
  Prg.tv (pbin (Kd.int IntKind.i64) BinOp.lss (TV.cell x1 0) (TV.lit (Value.int IntKind.i64 (0 : Int)))) fun v0 =>
  Prg.ite (asBool v0) (
    Prg.ret (TV.lit (Value.bool false))) (
    Prg.tv (pbin (Kd.int IntKind.i64) BinOp.gtr (TV.cell x1 0) (TV.lit (Value.int IntKind.i64 (8 : Int)))) fun v1 =>
    Prg.ite (asBool v1) (
      Prg.ret (TV.lit (Value.bool false))) (
      Prg.tv (pbin (Kd.int IntKind.i64) BinOp.lss (TV.cell x1 1) (TV.cell x1 0)) fun v2 =>
      Prg.ite (asBool v2) (
        Prg.ret (TV.lit (Value.bool false))) (
        Prg.tv (pbin (Kd.int IntKind.i64) BinOp.gtr (TV.cell x1 1) (TV.lit (Value.int IntKind.i64 (256 : Int)))) fun v3 =>
        Prg.ite (asBool v3) (
          Prg.ret (TV.lit (Value.bool false))) (
          Prg.tv (plen (Kd.slice 42) (TV.cell x1 2)) fun v4 =>
          Prg.tv (pbin (Kd.int IntKind.i64) BinOp.eql v4 (TV.lit (Value.int IntKind.i64 (0 : Int)))) fun v5 =>
          Prg.ite (asBool v5) (
            Prg.ret (TV.lit (Value.bool false))) (
            Prg.tv (plen (Kd.slice 42) (TV.cell x1 2)) fun v6 =>
            Prg.tv (pbin (Kd.int IntKind.i64) BinOp.gtr v6 (TV.lit (Value.int IntKind.i64 (64 : Int)))) fun v7 =>
            Prg.ite (asBool v7) (
              Prg.ret (TV.lit (Value.bool false))) (
              Prg.tvs (pidx 14 (TV.cell x1 2) (TV.lit (Value.int IntKind.i64 (0 : Int)))) fun e8 =>
              Prg.chk (Nat.blt 0 (List.length e8)) (
              Prg.ite (asBool (nth TV.hole e8 0)) (
                Prg.ret (TV.lit (Value.bool false))) (
                Prg.jmp [0, 0, 1, 0, 1, 1] (f53_0_S (TV.lit (Value.int IntKind.i64 (0 : Int))) (TV.cell x0 0) (TV.cell x1 0) (TV.cell x1 1) (TV.cell x1 2))))))))))))
-- [0, 0, 1, 0, 1, 1]
def f53_0  (x0 y1 y2 y3 y4 : TV) : Prg TV :=
  Prg.tv (plen (Kd.slice 42) y4) fun v9 =>
  Prg.tv (pbin (Kd.int IntKind.i64) BinOp.lss x0 v9) fun v10 =>
  Prg.ite (asBool v10) (
    Prg.tvs (pidx 14 y4 x0) fun e11 =>
    Prg.chk (Nat.ble 14 (List.length e11)) (
    Prg.tv (plen (Kd.slice 44) (nth TV.hole e11 5)) fun v12 =>
    Prg.tv (pbin (Kd.int IntKind.i64) BinOp.gtr v12 (TV.lit (Value.int IntKind.i64 (64 : Int)))) fun v13 =>
    Prg.ite (asBool v13) (
      Prg.ret (TV.lit (Value.bool false))) (
      Prg.call 78 [TV.agg [y2, y3, y4], TV.agg [nth TV.hole e11 0, nth TV.hole e11 1, nth TV.hole e11 2, nth TV.hole e11 3, nth TV.hole e11 4, nth TV.hole e11 5, nth TV.hole e11 6, nth TV.hole e11 7, nth TV.hole e11 8, nth TV.hole e11 9, nth TV.hole e11 10, nth TV.hole e11 11, nth TV.hole e11 12, nth TV.hole e11 13]] fun v14 =>
      Prg.chk (fitsAt zBool [v14] 0) (
      Prg.tv (pun UnOp.not v14) fun v15 =>
      Prg.ite (asBool v15) (
        Prg.ret (TV.lit (Value.bool false))) (
        Prg.call 79 [TV.agg [y1], TV.agg [y2, y3, y4], TV.agg [nth TV.hole e11 6, nth TV.hole e11 7, nth TV.hole e11 8, nth TV.hole e11 9, nth TV.hole e11 10, nth TV.hole e11 11, nth TV.hole e11 12, nth TV.hole e11 13]] fun v16 =>
        Prg.chk (fitsAt zBool [v16] 0) (
        Prg.tv (pun UnOp.not v16) fun v17 =>
        Prg.ite (asBool v17) (
          Prg.ret (TV.lit (Value.bool false))) (
          Prg.jmp [0, 0, 1, 1, 1, 0, 0, 1, 0, 0, 1, 0, 1, 1] (f53_1_S x0 (TV.lit (Value.int IntKind.i64 (0 : Int))) y1 y2 y3 y4 (nth TV.hole e11 0) (nth TV.hole e11 1) (nth TV.hole e11 2) (nth TV.hole e11 3) (nth TV.hole e11 4) (nth TV.hole e11 5) (nth TV.hole e11 6) (nth TV.hole e11 7) (nth TV.hole e11 8) (nth TV.hole e11 9) (nth TV.hole e11 10) (nth TV.hole e11 11) (nth TV.hole e11 12) (nth TV.hole e11 13))))))))) (
    Prg.ret (TV.lit (Value.bool true)))
-- [0, 0, 1, 1, 1, 0, 0, 1, 0, 0, 1, 0, 1, 1]
def f53_1  (x0 x1 y2 y3 y4 y5 y6 y7 y8 y9 y10 y11 y12 y13 y14 y15 y16 y17 y18 y19 : TV) : Prg TV :=
  Prg.tv (plen (Kd.slice 44) y11) fun v18 =>
  Prg.tv (pbin (Kd.int IntKind.i64) BinOp.lss x1 v18) fun v19 =>
  Prg.ite (asBool v19) (
    Prg.tvs (pidx 7 y11 x1) fun e20 =>
    Prg.chk (Nat.ble 7 (List.length e20)) (
    Prg.call 80 [TV.agg [y2], TV.agg [y3, y4, y5], TV.agg [nth TV.hole e20 0, nth TV.hole e20 1, nth TV.hole e20 2, nth TV.hole e20 3, nth TV.hole e20 4, nth TV.hole e20 5, nth TV.hole e20 6]] fun v21 =>
    Prg.chk (fitsAt zBool [v21] 0) (
    Prg.tv (pun UnOp.not v21) fun v22 =>
    Prg.ite (asBool v22) (
      Prg.ret (TV.lit (Value.bool false))) (
      Prg.tv (pbin (Kd.int IntKind.i64) BinOp.add x1 (TV.lit (Value.int IntKind.i64 (1 : Int)))) fun v23 =>
      Prg.jmp [0, 0, 1, 1, 1, 0, 0, 1, 0, 0, 1, 0, 1, 1] (f53_1_S x0 v23 y2 y3 y4 y5 y6 y7 y8 y9 y10 y11 y12 y13 y14 y15 y16 y17 y18 y19))))) (
    Prg.tv (pbin (Kd.int IntKind.i64) BinOp.add x0 (TV.lit (Value.int IntKind.i64 (1 : Int)))) fun v24 =>
    Prg.jmp [0, 0, 1, 0, 1, 1] (f53_0_S v24 y2 y3 y4 y5))
theorem f53_MR (x0 x1 : TV) : startQ prog 53 [x0, x1] = f53_M x0 x1 := by kernel_rfl
theorem f53_0_R  (x0 y1 y2 y3 y4 : TV) : pieceQ prog 53 [0, 0, 1, 0, 1, 1] (f53_0_S x0 y1 y2 y3 y4) = f53_0 x0 y1 y2 y3 y4 := by kernel_rfl
theorem f53_1_R  (x0 x1 y2 y3 y4 y5 y6 y7 y8 y9 y10 y11 y12 y13 y14 y15 y16 y17 y18 y19 : TV) : pieceQ prog 53 [0, 0, 1, 1, 1, 0, 0, 1, 0, 0, 1, 0, 1, 1] (f53_1_S x0 x1 y2 y3 y4 y5 y6 y7 y8 y9 y10 y11 y12 y13 y14 y15 y16 y17 y18 y19) = f53_1 x0 x1 y2 y3 y4 y5 y6 y7 y8 y9 y10 y11 y12 y13 y14 y15 y16 y17 y18 y19 := by kernel_rfl

theorem f53_run {x0 x1 : TV} {r : TV} (h : Goes prog 53 (f53_M x0 x1) r) : Runs prog 53 [x0, x1] r := Runs.of (f53_MR x0 x1) h
theorem f53_0_J  {x0 y1 y2 y3 y4 : TV} {r : TV} (h : Goes prog 53 (f53_0 x0 y1 y2 y3 y4) r) : Goes prog 53 (.jmp [0, 0, 1, 0, 1, 1] (f53_0_S x0 y1 y2 y3 y4)) r := Goes.jmp (f53_0_R x0 y1 y2 y3 y4) h
theorem f53_1_J  {x0 x1 y2 y3 y4 y5 y6 y7 y8 y9 y10 y11 y12 y13 y14 y15 y16 y17 y18 y19 : TV} {r : TV} (h : Goes prog 53 (f53_1 x0 x1 y2 y3 y4 y5 y6 y7 y8 y9 y10 y11 y12 y13 y14 y15 y16 y17 y18 y19) r) : Goes prog 53 (.jmp [0, 0, 1, 1, 1, 0, 0, 1, 0, 0, 1, 0, 1, 1] (f53_1_S x0 x1 y2 y3 y4 y5 y6 y7 y8 y9 y10 y11 y12 y13 y14 y15 y16 y17 y18 y19)) r := Goes.jmp (f53_1_R x0 x1 y2 y3 y4 y5 y6 y7 y8 y9 y10 y11 y12 y13 y14 y15 y16 y17 y18 y19) h
def f54_M (x0 x1 x2 : TV) : Prg TV :=
  Prg.chk (TV.isAgg x0 5) (
  Prg.rws (pelems 1 (TV.cell x0 3)) fun r0 =>
  Prg.tv (papp 1 (TV.sl true 1 (chunks 1 0 [])) r0) fun v1 =>
  Prg.nat (slLen v1) fun n2 =>
  Prg.nat (asNat x1) fun n3 =>
  Prg.chk (Bool.and (slSize v1 1) (Nat.blt n3 n2)) (
  Prg.chk (TV.isOne x2) (
  Prg.tvs (pel v1 n3) fun e4 =>
  Prg.chk (fitsAt zWord e4 0) (
  Prg.tv (setC [] v1 n3 0 [x2]) fun v5 =>
  Prg.chk (isOwn (TV.agg [TV.cell x0 0, TV.cell x0 1, TV.cell x0 2, v5, TV.cell x0 4])) (
  Prg.ret (TV.agg [TV.cell x0 0, TV.cell x0 1, TV.cell x0 2, v5, TV.cell x0 4]))))))
theorem f54_MR (x0 x1 x2 : TV) : startQ prog 54 [x0, x1, x2] = f54_M x0 x1 x2 := by kernel_rfl

theorem f54_run {x0 x1 x2 : TV} {r : TV} (h : Goes prog 54 (f54_M x0 x1 x2) r) : Runs prog 54 [x0, x1, x2] r := Runs.of (f54_MR x0 x1 x2) h
def f55_M (x0 x1 : TV) : Prg TV :=
  Prg.chk (TV.isAgg x1 7) (
  Prg.tv (pbin (Kd.int IntKind.i64) BinOp.eql (TV.cell x1 0) (TV.lit (Value.int IntKind.i64 (1 : Int)))) fun v0 =>
  Prg.ite (asBool v0) (
    Prg.ret (TV.tup [TV.cell x1 4, TV.lit (Value.bool true)])) (
    Prg.tv (plen (Kd.slice 25) x0) fun v1 =>
    Prg.call 50 [v1, TV.cell x1 2] fun v2 =>
    Prg.chk (fitsAt zBool [v2] 0) (
    Prg.tv (pun UnOp.not v2) fun v3 =>
    Prg.ite (asBool v3) (
      Prg.ret (TV.tup [TV.lit (Value.int IntKind.u16 (0 : Int)), TV.lit (Value.bool false)])) (
      Prg.tvs (pidx 1 x0 (TV.cell x1 2)) fun e4 =>
      Prg.chk (Nat.blt 0 (List.length e4)) (
      Prg.call 81 [TV.cell x1 0] fun v5 =>
      Prg.chk (fitsAt zBool [v5] 0) (
      Prg.tv (pun UnOp.not v5) fun v6 =>
      Prg.ite (asBool v6) (
        Prg.call 82 [TV.cell x1 0, nth TV.hole e4 0, TV.lit (Value.int IntKind.u16 (0 : Int))] fun v7 =>
        Prg.chk (TV.isTup v7 2) (
        Prg.chk (fitsAt zWord [TV.comp v7 0] 0) (
        Prg.chk (fitsAt zBool [TV.comp v7 1] 0) (
        Prg.ret (TV.tup [TV.comp v7 0, TV.comp v7 1]))))) (
        Prg.tv (plen (Kd.slice 25) x0) fun v8 =>
        Prg.call 50 [v8, TV.cell x1 3] fun v9 =>
        Prg.chk (fitsAt zBool [v9] 0) (
        Prg.tv (pun UnOp.not v9) fun v10 =>
        Prg.ite (asBool v10) (
          Prg.ret (TV.tup [TV.lit (Value.int IntKind.u16 (0 : Int)), TV.lit (Value.bool false)])) (
          Prg.tvs (pidx 1 x0 (TV.cell x1 3)) fun e11 =>
          Prg.chk (Nat.blt 0 (List.length e11)) (
          Prg.call 82 [TV.cell x1 0, nth TV.hole e4 0, nth TV.hole e11 0] fun v12 =>
          Prg.chk (TV.isTup v12 2) (
          Prg.chk (fitsAt zWord [TV.comp v12 0] 0) (
          Prg.chk (fitsAt zBool [TV.comp v12 1] 0) (
          Prg.ret (TV.tup [TV.comp v12 0, TV.comp v12 1]))))))))))))))
theorem f55_MR (x0 x1 : TV) : startQ prog 55 [x0, x1] = f55_M x0 x1 := by kernel_rfl

theorem f55_run {x0 x1 : TV} {r : TV} (h : Goes prog 55 (f55_M x0 x1) r) : Runs prog 55 [x0, x1] r := Runs.of (f55_MR x0 x1) h
def f56_M (x0 x1 : TV) : Prg TV :=
  Prg.chk (TV.isAgg x0 5) (
  Prg.tv (pbin (Kd.int IntKind.i64) BinOp.geq x1 (TV.lit (Value.int IntKind.i64 (0 : Int)))) fun v0 =>
  Prg.ite (asBool v0) (
    Prg.tv (plen (Kd.slice 25) (TV.cell x0 3)) fun v1 =>
    Prg.tv (pbin (Kd.int IntKind.i64) BinOp.lss x1 v1) fun v2 =>
    Prg.ret v2) (
    Prg.ret (TV.lit (Value.bool false))))
theorem f56_MR (x0 x1 : TV) : startQ prog 56 [x0, x1] = f56_M x0 x1 := by kernel_rfl

theorem f56_run {x0 x1 : TV} {r : TV} (h : Goes prog 56 (f56_M x0 x1) r) : Runs prog 56 [x0, x1] r := Runs.of (f56_MR x0 x1) h
def f57_0_S  (x0 x1 x2 : TV) : ASt := ⟨[AV.tv x0] ++ List.replicate 7 (AV.one CA.junk) ++ [AV.tv x1, AV.tv x2] ++ List.replicate 61 (AV.one CA.junk), List.replicate 95 (Option.none), []⟩
def f57_1_S  (x0 : TV) : ASt := ⟨[AV.tv x0] ++ List.replicate 70 (AV.one CA.junk), List.replicate 95 (Option.none), []⟩
def f57_M (x0 x1 x2 : TV) : Prg TV :=
  Prg.tv (pconv (Kd.int IntKind.u64) x1) fun v0 =>
  Prg.tv (pconv (Kd.int IntKind.u64) x2) fun v1 =>
  Prg.tv (pbin (Kd.int IntKind.i64) BinOp.eql x0 (TV.lit (Value.int IntKind.i64 (2 : Int)))) fun v2 =>
  Prg.ite (asBool v2) (
    Prg.ret (TV.tup [x1, TV.lit (Value.bool true)])) (
    Prg.tv (pbin (Kd.int IntKind.i64) BinOp.eql x0 (TV.lit (Value.int IntKind.i64 (3 : Int)))) fun v3 =>
    Prg.ite (asBool v3) (
      Prg.tv (pbin (Kd.int IntKind.u64) BinOp.add v0 v1) fun v4 =>
      Prg.tv (pbin (Kd.int IntKind.u64) BinOp.rem v4 (TV.lit (Value.int IntKind.u64 (65536 : Int)))) fun v5 =>
      Prg.tv (pconv (Kd.int IntKind.u16) v5) fun v6 =>
      Prg.ret (TV.tup [v6, TV.lit (Value.bool true)])) (
      Prg.tv (pbin (Kd.int IntKind.i64) BinOp.eql x0 (TV.lit (Value.int IntKind.i64 (4 : Int)))) fun v7 =>
      Prg.ite (asBool v7) (
        Prg.tv (pbin (Kd.int IntKind.u64) BinOp.add v0 (TV.lit (Value.int IntKind.u64 (65536 : Int)))) fun v8 =>
        Prg.tv (pbin (Kd.int IntKind.u64) BinOp.sub v8 v1) fun v9 =>
        Prg.tv (pbin (Kd.int IntKind.u64) BinOp.rem v9 (TV.lit (Value.int IntKind.u64 (65536 : Int)))) fun v10 =>
        Prg.tv (pconv (Kd.int IntKind.u16) v10) fun v11 =>
        Prg.ret (TV.tup [v11, TV.lit (Value.bool true)])) (
        Prg.tv (pbin (Kd.int IntKind.i64) BinOp.eql x0 (TV.lit (Value.int IntKind.i64 (5 : Int)))) fun v12 =>
        Prg.ite (asBool v12) (
          Prg.tv (pbin (Kd.int IntKind.u64) BinOp.mul v0 v1) fun v13 =>
          Prg.tv (pbin (Kd.int IntKind.u64) BinOp.rem v13 (TV.lit (Value.int IntKind.u64 (65536 : Int)))) fun v14 =>
          Prg.tv (pconv (Kd.int IntKind.u16) v14) fun v15 =>
          Prg.ret (TV.tup [v15, TV.lit (Value.bool true)])) (
          Prg.tv (pbin (Kd.int IntKind.i64) BinOp.eql x0 (TV.lit (Value.int IntKind.i64 (6 : Int)))) fun v16 =>
          Prg.ite (asBool v16) (
            Prg.tv (pbin (Kd.int IntKind.u64) BinOp.gtr v1 (TV.lit (Value.int IntKind.u64 (0 : Int)))) fun v17 =>
            Prg.ite (asBool v17) (
              Prg.tv (pbin (Kd.int IntKind.u64) BinOp.quo v0 v1) fun v18 =>
              Prg.tv (pconv (Kd.int IntKind.u16) v18) fun v19 =>
              Prg.ret (TV.tup [v19, TV.lit (Value.bool true)])) (
              Prg.jmp [1, 1, 1, 1, 1, 1, 1] (f57_0_S x0 v0 v1))) (
            Prg.jmp [1, 1, 1, 1, 1, 1, 1] (f57_0_S x0 v0 v1))))))
-- [1, 1, 1, 1, 1, 1, 1]
def f57_0  (x0 x1 x2 : TV) : Prg TV :=
  Prg.tv (pbin (Kd.int IntKind.i64) BinOp.eql x0 (TV.lit (Value.int IntKind.i64 (7 : Int)))) fun v20 =>
  Prg.ite (asBool v20) (
    Prg.tv (pbin (Kd.int IntKind.u64) BinOp.eql x1 x2) fun v21 =>
    Prg.ite (asBool v21) (
      Prg.ret (TV.tup [TV.lit (Value.int IntKind.u16 (1 : Int)), TV.lit (Value.bool true)])) (
      Prg.tv (pbin (Kd.int IntKind.i64) BinOp.eql x0 (TV.lit (Value.int IntKind.i64 (8 : Int)))) fun v22 =>
      Prg.ite (asBool v22) (
        Prg.tv (pbin (Kd.int IntKind.u64) BinOp.lss x1 x2) fun v23 =>
        Prg.ite (asBool v23) (
          Prg.ret (TV.tup [TV.lit (Value.int IntKind.u16 (1 : Int)), TV.lit (Value.bool true)])) (
          Prg.jmp [1, 1, 1, 1, 1, 1, 1, 1] (f57_1_S x0))) (
        Prg.jmp [1, 1, 1, 1, 1, 1, 1, 1] (f57_1_S x0)))) (
    Prg.tv (pbin (Kd.int IntKind.i64) BinOp.eql x0 (TV.lit (Value.int IntKind.i64 (8 : Int)))) fun v24 =>
    Prg.ite (asBool v24) (
      Prg.tv (pbin (Kd.int IntKind.u64) BinOp.lss x1 x2) fun v25 =>
      Prg.ite (asBool v25) (
        Prg.ret (TV.tup [TV.lit (Value.int IntKind.u16 (1 : Int)), TV.lit (Value.bool true)])) (
        Prg.jmp [1, 1, 1, 1, 1, 1, 1, 1] (f57_1_S x0))) (
      Prg.jmp [1, 1, 1, 1, 1, 1, 1, 1] (f57_1_S x0)))
-- [1, 1, 1, 1, 1, 1, 1, 1]
def f57_1  (x0 : TV) : Prg TV :=
  Prg.tv (pbin (Kd.int IntKind.i64) BinOp.eql x0 (TV.lit (Value.int IntKind.i64 (7 : Int)))) fun v26 =>
  Prg.ite (asBool v26) (
    Prg.ret (TV.tup [TV.lit (Value.int IntKind.u16 (0 : Int)), TV.lit (Value.bool true)])) (
    Prg.tv (pbin (Kd.int IntKind.i64) BinOp.eql x0 (TV.lit (Value.int IntKind.i64 (8 : Int)))) fun v27 =>
    Prg.ret (TV.tup [TV.lit (Value.int IntKind.u16 (0 : Int)), v27]))
theorem f57_MR (x0 x1 x2 : TV) : startQ prog 57 [x0, x1, x2] = f57_M x0 x1 x2 := by kernel_rfl
theorem f57_0_R  (x0 x1 x2 : TV) : pieceQ prog 57 [1, 1, 1, 1, 1, 1, 1] (f57_0_S x0 x1 x2) = f57_0 x0 x1 x2 := by kernel_rfl
theorem f57_1_R  (x0 : TV) : pieceQ prog 57 [1, 1, 1, 1, 1, 1, 1, 1] (f57_1_S x0) = f57_1 x0 := by kernel_rfl

theorem f57_run {x0 x1 x2 : TV} {r : TV} (h : Goes prog 57 (f57_M x0 x1 x2) r) : Runs prog 57 [x0, x1, x2] r := Runs.of (f57_MR x0 x1 x2) h
theorem f57_0_J  {x0 x1 x2 : TV} {r : TV} (h : Goes prog 57 (f57_0 x0 x1 x2) r) : Goes prog 57 (.jmp [1, 1, 1, 1, 1, 1, 1] (f57_0_S x0 x1 x2)) r := Goes.jmp (f57_0_R x0 x1 x2) h
theorem f57_1_J  {x0 : TV} {r : TV} (h : Goes prog 57 (f57_1 x0) r) : Goes prog 57 (.jmp [1, 1, 1, 1, 1, 1, 1, 1] (f57_1_S x0)) r := Goes.jmp (f57_1_R x0) h
def f58_M (x0 x1 : TV) : Prg TV :=
  Prg.call 83 [x0, x1] fun v0 =>
  Prg.chk (fitsAt zInt [v0] 0) (
  Prg.tv (pbin (Kd.int IntKind.i64) BinOp.geq v0 (TV.lit (Value.int IntKind.i64 (0 : Int)))) fun v1 =>
  Prg.ret v1)
theorem f58_MR (x0 x1 : TV) : startQ prog 58 [x0, x1] = f58_M x0 x1 := by kernel_rfl

theorem f58_run {x0 x1 : TV} {r : TV} (h : Goes prog 58 (f58_M x0 x1) r) : Runs prog 58 [x0, x1] r := Runs.of (f58_MR x0 x1) h
def f62_0_S  (x0 x1 x2 : TV) : ASt := ⟨[AV.tv x0, AV.tv x1, AV.one CA.junk, AV.one CA.junk, AV.one CA.junk, AV.tv x2] ++ List.replicate 20 (AV.one CA.junk), List.replicate 50 (Option.none), []⟩
def f62_M (x0 x1 : TV) : Prg TV :=
  Prg.tv (plen (Kd.slice 3) x0) fun v0 =>
  Prg.tv (plen (Kd.slice 3) x1) fun v1 =>
  Prg.tv (pbin (Kd.int IntKind.i64) BinOp.neq v0 v1) fun v2 =>
  Prg.ite (asBool v2) (
    Prg.ret (TV.lit (Value.bool false))) (
    Prg.jmp [0, 0, 1, 0, 1, 1] (f62_0_S x0 x1 (TV.lit (Value.int IntKind.i64 (0 : Int)))))
-- [0, 0, 1, 0, 1, 1]
def f62_0  (x0 x1 x2 : TV) : Prg TV :=
  Prg.tv (plen (Kd.slice 3) x0) fun v3 =>
  Prg.tv (pbin (Kd.int IntKind.i64) BinOp.lss x2 v3) fun v4 =>
  Prg.ite (asBool v4) (
    Prg.tvs (pidx 1 x0 x2) fun e5 =>
    Prg.chk (Nat.blt 0 (List.length e5)) (
    Prg.tvs (pidx 1 x1 x2) fun e6 =>
    Prg.chk (Nat.blt 0 (List.length e6)) (
    Prg.tv (pbin (Kd.int IntKind.i64) BinOp.neq (nth TV.hole e5 0) (nth TV.hole e6 0)) fun v7 =>
    Prg.ite (asBool v7) (
      Prg.ret (TV.lit (Value.bool false))) (
      Prg.tv (pbin (Kd.int IntKind.i64) BinOp.add x2 (TV.lit (Value.int IntKind.i64 (1 : Int)))) fun v8 =>
      Prg.jmp [0, 0, 1, 0, 1, 1] (f62_0_S x0 x1 v8))))) (
    Prg.ret (TV.lit (Value.bool true)))
theorem f62_MR (x0 x1 : TV) : startQ prog 62 [x0, x1] = f62_M x0 x1 := by kernel_rfl
theorem f62_0_R  (x0 x1 x2 : TV) : pieceQ prog 62 [0, 0, 1, 0, 1, 1] (f62_0_S x0 x1 x2) = f62_0 x0 x1 x2 := by kernel_rfl

theorem f62_run {x0 x1 : TV} {r : TV} (h : Goes prog 62 (f62_M x0 x1) r) : Runs prog 62 [x0, x1] r := Runs.of (f62_MR x0 x1) h
theorem f62_0_J  {x0 x1 x2 : TV} {r : TV} (h : Goes prog 62 (f62_0 x0 x1 x2) r) : Goes prog 62 (.jmp [0, 0, 1, 0, 1, 1] (f62_0_S x0 x1 x2)) r := Goes.jmp (f62_0_R x0 x1 x2) h
def f67_0_S  (x0 x1 x2 y3 y4 y5 y6 y7 y8 y9 y10 y11 y12 y13 y14 y15 y16 y17 y18 y19 y20 : TV) : ASt := ⟨[AV.one CA.junk, AV.one CA.junk, AV.one (CA.ptr 0 0), AV.one (CA.ptr 1 0)] ++ List.replicate 17 (AV.one CA.junk) ++ [AV.tv x0, AV.tv x1, AV.tv x2] ++ List.replicate 12 (AV.one CA.junk), [Option.some (BC.cells [CA.t y3, CA.t y4, CA.t y5, CA.t y6]), Option.some (BC.cells [CA.t y7, CA.t y8, CA.t y9, CA.t y10, CA.t y11, CA.t y12, CA.t y13, CA.t y14, CA.t y15, CA.t y16, CA.t y17, CA.t y18, CA.t y19, CA.t y20])] ++ List.replicate 58 (Option.none), []⟩
def f67_1_S  (y0 y1 y2 y3 y4 y5 y6 y7 y8 y9 y10 y11 y12 y13 y14 y15 y16 y17 : TV) : ASt := ⟨[AV.one CA.junk, AV.one CA.junk, AV.one (CA.ptr 0 0), AV.one (CA.ptr 1 0)] ++ List.replicate 32 (AV.one CA.junk), [Option.some (BC.cells [CA.t y0, CA.t y1, CA.t y2, CA.t y3]), Option.some (BC.cells [CA.t y4, CA.t y5, CA.t y6, CA.t y7, CA.t y8, CA.t y9, CA.t y10, CA.t y11, CA.t y12, CA.t y13, CA.t y14, CA.t y15, CA.t y16, CA.t y17])] ++ List.replicate 58 (Option.none), []⟩
def f67_M (x0 x1 : TV) : Prg TV :=
  Prg.chk (TV.isAgg x0 4) (
  Prg.chk (TV.isAgg x1 14) (
  Prg.tv (plen (Kd.slice 44) (TV.cell x1 5)) fun v0 =>
  Prg.tv (pbin (Kd.int IntKind.i64) BinOp.gtr v0 (TV.lit (Value.int IntKind.i64 (64 : Int)))) fun v1 =>
  Prg.ite (asBool v1) (
    Prg.ret (TV.lit (Value.bool false))) (
    Prg.call 95 [TV.agg [TV.cell x0 0, TV.cell x0 1, TV.cell x0 2, TV.cell x0 3], TV.cell x1 0, TV.agg [TV.cell x1 1, TV.cell x1 2, TV.cell x1 3, TV.cell x1 4]] fun v2 =>
    Prg.chk (fitsAt zBool [v2] 0) (
    Prg.tv (pun UnOp.not v2) fun v3 =>
    Prg.ite (asBool v3) (
      Prg.ret (TV.lit (Value.bool false))) (
      Prg.tv (plen (Kd.slice 44) (TV.cell x1 5)) fun v4 =>
      Prg.jmp [0, 0, 1, 0, 1, 1] (f67_0_S (TV.cell x1 5) v4 (TV.lit (Value.int IntKind.i64 (0 : Int))) (TV.cell x0 0) (TV.cell x0 1) (TV.cell x0 2) (TV.cell x0 3) (TV.cell x1 0) (TV.cell x1 1) (TV.cell x1 2) (TV.cell x1 3) (TV.cell x1 4) (TV.cell x1 5) (TV.cell x1 6) (TV.cell x1 7) (TV.cell x1 8) (TV.cell x1 9) (TV.cell x1 10) (TV.cell x1 11) (TV.cell x1 12) (TV.cell x1 13)))))))
-- [0, 0, 1, 0, 1, 1]
def f67_0  (x0 x1 x2 y3 y4 y5 y6 y7 y8 y9 y10 y11 y12 y13 y14 y15 y16 y17 y18 y19 y20 : TV) : Prg TV :=
  Prg.tv (pbin (Kd.int IntKind.i64) BinOp.lss x2 x1) fun v5 =>
  Prg.ite (asBool v5) (
    Prg.tvs (pidx 7 x0 x2) fun e6 =>
    Prg.chk (Nat.ble 7 (List.length e6)) (
    Prg.call 96 [TV.agg [y3, y4, y5, y6], TV.agg [nth TV.hole e6 0, nth TV.hole e6 1, nth TV.hole e6 2, nth TV.hole e6 3, nth TV.hole e6 4, nth TV.hole e6 5, nth TV.hole e6 6]] fun v7 =>
    Prg.chk (fitsAt zBool [v7] 0) (
    Prg.tv (pun UnOp.not v7) fun v8 =>
    Prg.ite (asBool v8) (
      Prg.ret (TV.lit (Value.bool false))) (
      Prg.tv (pbin (Kd.int IntKind.i64) BinOp.add x2 (TV.lit (Value.int IntKind.i64 (1 : Int)))) fun v9 =>
      Prg.jmp [0, 0, 1, 0, 1, 1] (f67_0_S x0 x1 v9 y3 y4 y5 y6 y7 y8 y9 y10 y11 y12 y13 y14 y15 y16 y17 y18 y19 y20))))) (
    Prg.jmp [1, 1, 1] (f67_1_S y3 y4 y5 y6 y7 y8 y9 y10 y11 y12 y13 y14 y15 y16 y17 y18 y19 y20))
-- [1, 1, 1]
def f67_1  (y0 y1 y2 y3 y4 y5 y6 y7 y8 y9 y10 y11 y12 y13 y14 y15 y16 y17 : TV) : Prg TV :=
  Prg.call 97 [TV.agg [y0, y1, y2, y3], TV.agg [y10, y11, y12, y13, y14, y15, y16, y17]] fun v10 =>
  Prg.chk (fitsAt zBool [v10] 0) (
  Prg.ret v10)
theorem f67_MR (x0 x1 : TV) : startQ prog 67 [x0, x1] = f67_M x0 x1 := by kernel_rfl
theorem f67_0_R  (x0 x1 x2 y3 y4 y5 y6 y7 y8 y9 y10 y11 y12 y13 y14 y15 y16 y17 y18 y19 y20 : TV) : pieceQ prog 67 [0, 0, 1, 0, 1, 1] (f67_0_S x0 x1 x2 y3 y4 y5 y6 y7 y8 y9 y10 y11 y12 y13 y14 y15 y16 y17 y18 y19 y20) = f67_0 x0 x1 x2 y3 y4 y5 y6 y7 y8 y9 y10 y11 y12 y13 y14 y15 y16 y17 y18 y19 y20 := by kernel_rfl
theorem f67_1_R  (y0 y1 y2 y3 y4 y5 y6 y7 y8 y9 y10 y11 y12 y13 y14 y15 y16 y17 : TV) : pieceQ prog 67 [1, 1, 1] (f67_1_S y0 y1 y2 y3 y4 y5 y6 y7 y8 y9 y10 y11 y12 y13 y14 y15 y16 y17) = f67_1 y0 y1 y2 y3 y4 y5 y6 y7 y8 y9 y10 y11 y12 y13 y14 y15 y16 y17 := by kernel_rfl

theorem f67_run {x0 x1 : TV} {r : TV} (h : Goes prog 67 (f67_M x0 x1) r) : Runs prog 67 [x0, x1] r := Runs.of (f67_MR x0 x1) h
theorem f67_0_J  {x0 x1 x2 y3 y4 y5 y6 y7 y8 y9 y10 y11 y12 y13 y14 y15 y16 y17 y18 y19 y20 : TV} {r : TV} (h : Goes prog 67 (f67_0 x0 x1 x2 y3 y4 y5 y6 y7 y8 y9 y10 y11 y12 y13 y14 y15 y16 y17 y18 y19 y20) r) : Goes prog 67 (.jmp [0, 0, 1, 0, 1, 1] (f67_0_S x0 x1 x2 y3 y4 y5 y6 y7 y8 y9 y10 y11 y12 y13 y14 y15 y16 y17 y18 y19 y20)) r := Goes.jmp (f67_0_R x0 x1 x2 y3 y4 y5 y6 y7 y8 y9 y10 y11 y12 y13 y14 y15 y16 y17 y18 y19 y20) h
theorem f67_1_J  {y0 y1 y2 y3 y4 y5 y6 y7 y8 y9 y10 y11 y12 y13 y14 y15 y16 y17 : TV} {r : TV} (h : Goes prog 67 (f67_1 y0 y1 y2 y3 y4 y5 y6 y7 y8 y9 y10 y11 y12 y13 y14 y15 y16 y17) r) : Goes prog 67 (.jmp [1, 1, 1] (f67_1_S y0 y1 y2 y3 y4 y5 y6 y7 y8 y9 y10 y11 y12 y13 y14 y15 y16 y17)) r := Goes.jmp (f67_1_R y0 y1 y2 y3 y4 y5 y6 y7 y8 y9 y10 y11 y12 y13 y14 y15 y16 y17) h
def f68_M (x0 : TV) : Prg TV :=
  Prg.tv (pbin (Kd.int IntKind.i64) BinOp.eql x0 (TV.lit (Value.int IntKind.i64 (1 : Int)))) fun v0 =>
  Prg.ite (asBool v0) (
    Prg.ite (asBool v0) (
      Prg.ret (TV.lit (Value.int IntKind.i64 (5 : Int)))) (
      Prg.tv (pbin (Kd.int IntKind.i64) BinOp.eql x0 (TV.lit (Value.int IntKind.i64 (2 : Int)))) fun v1 =>
      Prg.ite (asBool v1) (
        Prg.ret (TV.lit (Value.int IntKind.i64 (65 : Int)))) (
        Prg.tv (pbin (Kd.int IntKind.i64) BinOp.eql x0 (TV.lit (Value.int IntKind.i64 (3 : Int)))) fun v2 =>
        Prg.ite (asBool v2) (
          Prg.ret (TV.lit (Value.int IntKind.i64 (197 : Int)))) (
          Prg.tv (pbin (Kd.int IntKind.i64) BinOp.eql x0 (TV.lit (Value.int IntKind.i64 (4 : Int)))) fun v3 =>
          Prg.ite (asBool v3) (
            Prg.ret (TV.lit (Value.int IntKind.i64 (355 : Int)))) (
            Prg.tv (pbin (Kd.int IntKind.i64) BinOp.eql x0 (TV.lit (Value.int IntKind.i64 (6 : Int)))) fun v4 =>
            Prg.ite (asBool v4) (
              Prg.ret (TV.lit (Value.int IntKind.i64 (1 : Int)))) (
              Prg.ret (TV.lit (Value.int IntKind.i64 (0 : Int))))))))) (
    Prg.tv (pbin (Kd.int IntKind.i64) BinOp.eql x0 (TV.lit (Value.int IntKind.i64 (5 : Int)))) fun v5 =>
    Prg.ite (asBool v5) (
      Prg.ret (TV.lit (Value.int IntKind.i64 (5 : Int)))) (
      Prg.tv (pbin (Kd.int IntKind.i64) BinOp.eql x0 (TV.lit (Value.int IntKind.i64 (2 : Int)))) fun v6 =>
      Prg.ite (asBool v6) (
        Prg.ret (TV.lit (Value.int IntKind.i64 (65 : Int)))) (
        Prg.tv (pbin (Kd.int IntKind.i64) BinOp.eql x0 (TV.lit (Value.int IntKind.i64 (3 : Int)))) fun v7 =>
        Prg.ite (asBool v7) (
          Prg.ret (TV.lit (Value.int IntKind.i64 (197 : Int)))) (
          Prg.tv (pbin (Kd.int IntKind.i64) BinOp.eql x0 (TV.lit (Value.int IntKind.i64 (4 : Int)))) fun v8 =>
          Prg.ite (asBool v8) (
            Prg.ret (TV.lit (Value.int IntKind.i64 (355 : Int)))) (
            Prg.tv (pbin (Kd.int IntKind.i64) BinOp.eql x0 (TV.lit (Value.int IntKind.i64 (6 : Int)))) fun v9 =>
            Prg.ite (asBool v9) (
              Prg.ret (TV.lit (Value.int IntKind.i64 (1 : Int)))) (
              Prg.ret (TV.lit (Value.int IntKind.i64 (0 : Int)))))))))
theorem f68_MR (x0 : TV) : startQ prog 68 [x0] = f68_M x0 := by kernel_rfl

theorem f68_run {x0 : TV} {r : TV} (h : Goes prog 68 (f68_M x0) r) : Runs prog 68 [x0] r := Runs.of (f68_MR x0) h
def f69_M (x0 x1 : TV) : Prg TV :=
  Prg.tv (pbin (Kd.int IntKind.i64) BinOp.and x0 x1) fun v0 =>
  Prg.tv (pbin (Kd.int IntKind.i64) BinOp.neq v0 (TV.lit (Value.int IntKind.i64 (0 : Int)))) fun v1 =>
  Prg.ret v1
theorem f69_MR (x0 x1 : TV) : startQ prog 69 [x0, x1] = f69_M x0 x1 := by kernel_rfl

theorem f69_run {x0 x1 : TV} {r : TV} (h : Goes prog 69 (f69_M x0 x1) r) : Runs prog 69 [x0, x1] r := Runs.of (f69_MR x0 x1) h
def f70_M (x0 : TV) : Prg TV :=
  Prg.tv (pbin (Kd.slice 25) BinOp.eql x0 (TV.lit (Value.slice Option.none 0 0))) fun v0 =>
  Prg.ite (asBool v0) (
    Prg.chk true (
    Prg.ret (TV.lit (Value.slice Option.none 0 0)))) (
    Prg.tv (plen (Kd.slice 25) x0) fun v1 =>
    Prg.nat (asNat v1) fun n2 =>
    Prg.nat (asNat v1) fun n3 =>
    Prg.chk (Bool.and (Nat.ble n2 n3) (Nat.ble n3 4294967296)) (
    Prg.rws (pelems 1 x0) fun r4 =>
    Prg.tv (pcopy 1 (TV.sl true 1 (List.replicate n2 [TV.lit (Value.int IntKind.u16 (0 : Int))])) r4) fun v5 =>
    Prg.nat (slLen (TV.sl true 1 (List.replicate n2 [TV.lit (Value.int IntKind.u16 (0 : Int))]))) fun n6 =>
    Prg.chk (isOwn v5) (
    Prg.ret v5)))
theorem f70_MR (x0 : TV) : startQ prog 70 [x0] = f70_M x0 := by kernel_rfl

theorem f70_run {x0 : TV} {r : TV} (h : Goes prog 70 (f70_M x0) r) : Runs prog 70 [x0] r := Runs.of (f70_MR x0) h
def f71_M (x0 : TV) : Prg TV :=
  Prg.tv (pbin (Kd.slice 44) BinOp.eql x0 (TV.lit (Value.slice Option.none 0 0))) fun v0 =>
  Prg.ite (asBool v0) (
    Prg.ret (TV.lit (Value.slice Option.none 0 0))) (
    Prg.tv (plen (Kd.slice 44) x0) fun v1 =>
    Prg.nat (asNat v1) fun n2 =>
    Prg.nat (asNat v1) fun n3 =>
    Prg.chk (Bool.and (Nat.ble n2 n3) (Nat.ble n3 4294967296)) (
    Prg.rws (pelems 7 x0) fun r4 =>
    Prg.tv (pcopy 7 (TV.sl true 7 (List.replicate n2 [TV.lit (Value.int IntKind.i64 (0 : Int)), TV.lit (Value.int IntKind.i64 (0 : Int)), TV.lit (Value.int IntKind.i64 (0 : Int)), TV.lit (Value.int IntKind.i64 (0 : Int)), TV.lit (Value.int IntKind.u16 (0 : Int)), TV.lit (Value.int IntKind.i64 (0 : Int)), TV.lit (Value.slice Option.none 0 0)])) r4) fun v5 =>
    Prg.nat (slLen (TV.sl true 7 (List.replicate n2 [TV.lit (Value.int IntKind.i64 (0 : Int)), TV.lit (Value.int IntKind.i64 (0 : Int)), TV.lit (Value.int IntKind.i64 (0 : Int)), TV.lit (Value.int IntKind.i64 (0 : Int)), TV.lit (Value.int IntKind.u16 (0 : Int)), TV.lit (Value.int IntKind.i64 (0 : Int)), TV.lit (Value.slice Option.none 0 0)]))) fun n6 =>
    Prg.ret v5))
theorem f71_MR (x0 : TV) : startQ prog 71 [x0] = f71_M x0 := by kernel_rfl

theorem f71_run {x0 : TV} {r : TV} (h : Goes prog 71 (f71_M x0) r) : Runs prog 71 [x0] r := Runs.of (f71_MR x0) h
def f72_M (x0 : TV) : Prg TV :=
  Prg.tv (pbin (Kd.slice 3) BinOp.eql x0 (TV.lit (Value.slice Option.none 0 0))) fun v0 =>
  Prg.ite (asBool v0) (
    Prg.chk true (
    Prg.ret (TV.lit (Value.slice Option.none 0 0)))) (
    Prg.tv (plen (Kd.slice 3) x0) fun v1 =>
    Prg.nat (asNat v1) fun n2 =>
    Prg.nat (asNat v1) fun n3 =>
    Prg.chk (Bool.and (Nat.ble n2 n3) (Nat.ble n3 4294967296)) (
    Prg.rws (pelems 1 x0) fun r4 =>
    Prg.tv (pcopy 1 (TV.sl true 1 (List.replicate n2 [TV.lit (Value.int IntKind.i64 (0 : Int))])) r4) fun v5 =>
    Prg.nat (slLen (TV.sl true 1 (List.replicate n2 [TV.lit (Value.int IntKind.i64 (0 : Int))]))) fun n6 =>
    Prg.chk (isOwn v5) (
    Prg.ret v5)))
theorem f72_MR (x0 : TV) : startQ prog 72 [x0] = f72_M x0 := by kernel_rfl

theorem f72_run {x0 : TV} {r : TV} (h : Goes prog 72 (f72_M x0) r) : Runs prog 72 [x0] r := Runs.of (f72_MR x0) h
def f73_0_S  (x0 x1 x2 x3 x4 : TV) : ASt := ⟨[AV.one CA.junk, AV.tv x0, AV.tv x1] ++ List.replicate 12 (AV.one CA.junk) ++ [AV.tv x2, AV.tv x3, AV.tv x4] ++ List.replicate 14 (AV.one CA.junk), List.replicate 56 (Option.none), []⟩
def f73_M (x0 x1 x2 : TV) : Prg TV :=
  Prg.tv (plen (Kd.slice 42) x0) fun v0 =>
  Prg.tv (plen (Kd.slice 42) x1) fun v1 =>
  Prg.tv (pbin (Kd.int IntKind.i64) BinOp.neq v0 v1) fun v2 =>
  Prg.ite (asBool v2) (
    Prg.ret (TV.lit (Value.bool false))) (
    Prg.tv (plen (Kd.slice 42) x0) fun v3 =>
    Prg.jmp [0, 0, 1, 0, 1, 1] (f73_0_S x1 x2 x0 v3 (TV.lit (Value.int IntKind.i64 (0 : Int)))))
-- [0, 0, 1, 0, 1, 1]
def f73_0  (x0 x1 x2 x3 x4 : TV) : Prg TV :=
  Prg.tv (pbin (Kd.int IntKind.i64) BinOp.lss x4 x3) fun v4 =>
  Prg.ite (asBool v4) (
    Prg.tvs (pidx 14 x2 x4) fun e5 =>
    Prg.chk (Nat.ble 14 (List.length e5)) (
    Prg.tvs (pidx 14 x0 x4) fun e6 =>
    Prg.chk (Nat.ble 14 (List.length e6)) (
    Prg.nat (fnOf x1) fun n7 =>
    Prg.chk (Option.isNone (lookD [] n7)) (
    Prg.call n7 [TV.agg [nth TV.hole e5 0, nth TV.hole e5 1, nth TV.hole e5 2, nth TV.hole e5 3, nth TV.hole e5 4, nth TV.hole e5 5, nth TV.hole e5 6, nth TV.hole e5 7, nth TV.hole e5 8, nth TV.hole e5 9, nth TV.hole e5 10, nth TV.hole e5 11, nth TV.hole e5 12, nth TV.hole e5 13], TV.agg [nth TV.hole e6 0, nth TV.hole e6 1, nth TV.hole e6 2, nth TV.hole e6 3, nth TV.hole e6 4, nth TV.hole e6 5, nth TV.hole e6 6, nth TV.hole e6 7, nth TV.hole e6 8, nth TV.hole e6 9, nth TV.hole e6 10, nth TV.hole e6 11, nth TV.hole e6 12, nth TV.hole e6 13]] fun v8 =>
    Prg.chk (TV.isSc v8) (
    Prg.tv (pun UnOp.not v8) fun v9 =>
    Prg.ite (asBool v9) (
      Prg.ret (TV.lit (Value.bool false))) (
      Prg.tv (pbin (Kd.int IntKind.i64) BinOp.add x4 (TV.lit (Value.int IntKind.i64 (1 : Int)))) fun v10 =>
      Prg.jmp [0, 0, 1, 0, 1, 1] (f73_0_S x0 x1 x2 x3 v10))))))) (
    Prg.ret (TV.lit (Value.bool true)))
theorem f73_MR (x0 x1 x2 : TV) : startQ prog 73 [x0, x1, x2] = f73_M x0 x1 x2 := by kernel_rfl
theorem f73_0_R  (x0 x1 x2 x3 x4 : TV) : pieceQ prog 73 [0, 0, 1, 0, 1, 1] (f73_0_S x0 x1 x2 x3 x4) = f73_0 x0 x1 x2 x3 x4 := by kernel_rfl

theorem f73_run {x0 x1 x2 : TV} {r : TV} (h : Goes prog 73 (f73_M x0 x1 x2) r) : Runs prog 73 [x0, x1, x2] r := Runs.of (f73_MR x0 x1 x2) h
theorem f73_0_J  {x0 x1 x2 x3 x4 : TV} {r : TV} (h : Goes prog 73 (f73_0 x0 x1 x2 x3 x4) r) : Goes prog 73 (.jmp [0, 0, 1, 0, 1, 1] (f73_0_S x0 x1 x2 x3 x4)) r := Goes.jmp (f73_0_R x0 x1 x2 x3 x4) h
def f74_M (x0 x1 : TV) : Prg TV :=
  Prg.chk (TV.isAgg x0 14) (
  Prg.chk (TV.isAgg x1 14) (
  Prg.tv (pbin Kd.bool BinOp.eql (TV.cell x0 0) (TV.cell x1 0)) fun v0 =>
  Prg.ite (asBool v0) (
    Prg.call 98 [TV.agg [TV.cell x0 1, TV.cell x0 2, TV.cell x0 3, TV.cell x0 4], TV.agg [TV.cell x1 1, TV.cell x1 2, TV.cell x1 3, TV.cell x1 4]] fun v1 =>
    Prg.chk (fitsAt zBool [v1] 0) (
    Prg.ite (asBool v1) (
      Prg.call 99 [TV.cell x0 5, TV.cell x1 5, TV.lit (Value.func (Fn.func 100) (Array.mk []) (Array.mk []))] fun v2 =>
      Prg.chk (fitsAt zBool [v2] 0) (
      Prg.ite (asBool v2) (
        Prg.call 101 [TV.agg [TV.cell x0 6, TV.cell x0 7, TV.cell x0 8, TV.cell x0 9, TV.cell x0 10, TV.cell x0 11, TV.cell x0 12, TV.cell x0 13], TV.agg [TV.cell x1 6, TV.cell x1 7, TV.cell x1 8, TV.cell x1 9, TV.cell x1 10, TV.cell x1 11, TV.cell x1 12, TV.cell x1 13]] fun v3 =>
        Prg.chk (fitsAt zBool [v3] 0) (
        Prg.ret v3)) (
        Prg.ret (TV.lit (Value.bool false))))) (
      Prg.ret (TV.lit (Value.bool false))))) (
    Prg.ret (TV.lit (Value.bool false)))))
theorem f74_MR (x0 x1 : TV) : startQ prog 74 [x0, x1] = f74_M x0 x1 := by kernel_rfl

theorem f74_run {x0 x1 : TV} {r : TV} (h : Goes prog 74 (f74_M x0 x1) r) : Runs prog 74 [x0, x1] r := Runs.of (f74_MR x0 x1) h
def f75_0_S  (x0 y1 y2 y3 y4 y5 y6 y7 y8 : TV) : ASt := ⟨[AV.one CA.junk, AV.one CA.junk, AV.one (CA.ptr 0 0), AV.one (CA.ptr 1 0), AV.one CA.junk, AV.tv x0] ++ List.replicate 46 (AV.one CA.junk), [Option.some (BC.cells [CA.t y1, CA.t y2, CA.t y3, CA.t y4]), Option.some (BC.cells [CA.t y5, CA.t y6, CA.t y7, CA.t y8])] ++ List.replicate 74 (Option.none), []⟩
def f75_M (x0 x1 : TV) : Prg TV :=
  Prg.chk (TV.isAgg x0 4) (
  Prg.chk (TV.isAgg x1 4) (
  Prg.tv (pbin (Kd.int IntKind.i64) BinOp.neq (TV.cell x0 0) (TV.cell x1 0)) fun v0 =>
  Prg.ite (asBool v0) (
    Prg.ret (TV.lit (Value.bool false))) (
    Prg.tv (pbin Kd.bool BinOp.neq (TV.cell x0 2) (TV.cell x1 2)) fun v1 =>
    Prg.ite (asBool v1) (
      Prg.ret (TV.lit (Value.bool false))) (
      Prg.tv (pbin Kd.bool BinOp.neq (TV.cell x0 3) (TV.cell x1 3)) fun v2 =>
      Prg.ite (asBool v2) (
        Prg.ret (TV.lit (Value.bool false))) (
        Prg.tv (plen (Kd.slice 25) (TV.cell x0 1)) fun v3 =>
        Prg.tv (plen (Kd.slice 25) (TV.cell x1 1)) fun v4 =>
        Prg.tv (pbin (Kd.int IntKind.i64) BinOp.neq v3 v4) fun v5 =>
        Prg.ite (asBool v5) (
          Prg.ret (TV.lit (Value.bool false))) (
          Prg.jmp [0, 0, 1, 0, 1, 1] (f75_0_S (TV.lit (Value.int IntKind.i64 (0 : Int))) (TV.cell x0 0) (TV.cell x0 1) (TV.cell x0 2) (TV.cell x0 3) (TV.cell x1 0) (TV.cell x1 1) (TV.cell x1 2) (TV.cell x1 3))))))))
-- [0, 0, 1, 0, 1, 1]
def f75_0  (x0 y1 y2 y3 y4 y5 y6 y7 y8 : TV) : Prg TV :=
  Prg.tv (plen (Kd.slice 25) y2) fun v6 =>
  Prg.tv (pbin (Kd.int IntKind.i64) BinOp.lss x0 v6) fun v7 =>
  Prg.ite (asBool v7) (
    Prg.tvs (pidx 1 y2 x0) fun e8 =>
    Prg.chk (Nat.blt 0 (List.length e8)) (
    Prg.tvs (pidx 1 y6 x0) fun e9 =>
    Prg.chk (Nat.blt 0 (List.length e9)) (
    Prg.tv (pbin (Kd.int IntKind.u16) BinOp.neq (nth TV.hole e8 0) (nth TV.hole e9 0)) fun v10 =>
    Prg.ite (asBool v10) (
      Prg.ret (TV.lit (Value.bool false))) (
      Prg.tv (pbin (Kd.int IntKind.i64) BinOp.add x0 (TV.lit (Value.int IntKind.i64 (1 : Int)))) fun v11 =>
      Prg.jmp [0, 0, 1, 0, 1, 1] (f75_0_S v11 y1 y2 y3 y4 y5 y6 y7 y8))))) (
    Prg.ret (TV.lit (Value.bool true)))
theorem f75_MR (x0 x1 : TV) : startQ prog 75 [x0, x1] = f75_M x0 x1 := by kernel_rfl
theorem f75_0_R  (x0 y1 y2 y3 y4 y5 y6 y7 y8 : TV) : pieceQ prog 75 [0, 0, 1, 0, 1, 1] (f75_0_S x0 y1 y2 y3 y4 y5 y6 y7 y8) = f75_0 x0 y1 y2 y3 y4 y5 y6 y7 y8 := by kernel_rfl

theorem f75_run {x0 x1 : TV} {r : TV} (h : Goes prog 75 (f75_M x0 x1) r) : Runs prog 75 [x0, x1] r := Runs.of (f75_MR x0 x1) h
theorem f75_0_J  {x0 y1 y2 y3 y4 y5 y6 y7 y8 : TV} {r : TV} (h : Goes prog 75 (f75_0 x0 y1 y2 y3 y4 y5 y6 y7 y8) r) : Goes prog 75 (.jmp [0, 0, 1, 0, 1, 1] (f75_0_S x0 y1 y2 y3 y4 y5 y6 y7 y8)) r := Goes.jmp (f75_0_R x0 y1 y2 y3 y4 y5 y6 y7 y8) h
def f76_M (x0 x1 : TV) : Prg TV :=
  Prg.chk (TV.isAgg x0 8) (
  Prg.chk (TV.isAgg x1 8) (
  Prg.tv (pbin (Kd.int IntKind.i64) BinOp.eql (TV.cell x0 0) (TV.cell x1 0)) fun v0 =>
  Prg.ite (asBool v0) (
    Prg.tv (pbin (Kd.int IntKind.i64) BinOp.eql (TV.cell x0 1) (TV.cell x1 1)) fun v1 =>
    Prg.ite (asBool v1) (
      Prg.tv (pbin (Kd.int IntKind.i64) BinOp.eql (TV.cell x0 2) (TV.cell x1 2)) fun v2 =>
      Prg.ite (asBool v2) (
        Prg.tv (pbin (Kd.int IntKind.i64) BinOp.eql (TV.cell x0 3) (TV.cell x1 3)) fun v3 =>
        Prg.ite (asBool v3) (
          Prg.call 62 [TV.cell x0 4, TV.cell x1 4] fun v4 =>
          Prg.chk (fitsAt zBool [v4] 0) (
          Prg.ite (asBool v4) (
            Prg.tv (pbin (Kd.int IntKind.i64) BinOp.eql (TV.cell x0 5) (TV.cell x1 5)) fun v5 =>
            Prg.ite (asBool v5) (
              Prg.tv (pbin (Kd.int IntKind.i64) BinOp.eql (TV.cell x0 6) (TV.cell x1 6)) fun v6 =>
              Prg.ite (asBool v6) (
                Prg.tv (pbin (Kd.int IntKind.i64) BinOp.eql (TV.cell x0 7) (TV.cell x1 7)) fun v7 =>
                Prg.ret v7) (
                Prg.ret (TV.lit (Value.bool false)))) (
              Prg.ret (TV.lit (Value.bool false)))) (
            Prg.ret (TV.lit (Value.bool false))))) (
          Prg.ret (TV.lit (Value.bool false)))) (
        Prg.ret (TV.lit (Value.bool false)))) (
      Prg.ret (TV.lit (Value.bool false)))) (
    Prg.ret (TV.lit (Value.bool false)))))
theorem f76_MR (x0 x1 : TV) : startQ prog 76 [x0, x1] = f76_M x0 x1 := by kernel_rfl

theorem f76_run {x0 x1 : TV} {r : TV} (h : Goes prog 76 (f76_M x0 x1) r) : Runs prog 76 [x0, x1] r := Runs.of (f76_MR x0 x1) h
def f77_M (x0 x1 : TV) : Prg TV :=
  Prg.chk (TV.isAgg x0 7) (
  Prg.chk (TV.isAgg x1 7) (
  Prg.tv (pbin (Kd.int IntKind.i64) BinOp.eql (TV.cell x0 0) (TV.cell x1 0)) fun v0 =>
  Prg.ite (asBool v0) (
    Prg.tv (pbin (Kd.int IntKind.i64) BinOp.eql (TV.cell x0 1) (TV.cell x1 1)) fun v1 =>
    Prg.ite (asBool v1) (
      Prg.tv (pbin (Kd.int IntKind.i64) BinOp.eql (TV.cell x0 2) (TV.cell x1 2)) fun v2 =>
      Prg.ite (asBool v2) (
        Prg.tv (pbin (Kd.int IntKind.i64) BinOp.eql (TV.cell x0 3) (TV.cell x1 3)) fun v3 =>
        Prg.ite (asBool v3) (
          Prg.tv (pbin (Kd.int IntKind.u16) BinOp.eql (TV.cell x0 4) (TV.cell x1 4)) fun v4 =>
          Prg.ite (asBool v4) (
            Prg.tv (pbin (Kd.int IntKind.i64) BinOp.eql (TV.cell x0 5) (TV.cell x1 5)) fun v5 =>
            Prg.ite (asBool v5) (
              Prg.call 62 [TV.cell x0 6, TV.cell x1 6] fun v6 =>
              Prg.chk (fitsAt zBool [v6] 0) (
              Prg.ret v6)) (
              Prg.ret (TV.lit (Value.bool false)))) (
            Prg.ret (TV.lit (Value.bool false)))) (
          Prg.ret (TV.lit (Value.bool false)))) (
        Prg.ret (TV.lit (Value.bool false)))) (
      Prg.ret (TV.lit (Value.bool false)))) (
    Prg.ret (TV.lit (Value.bool false)))))
theorem f77_MR (x0 x1 : TV) : startQ prog 77 [x0, x1] = f77_M x0 x1 := by kernel_rfl

theorem f77_run {x0 x1 : TV} {r : TV} (h : Goes prog 77 (f77_M x0 x1) r) : Runs prog 77 [x0, x1] r := Runs.of (f77_MR x0 x1) h
def f78_0_S  (x0 y1 y2 y3 y4 y5 y6 y7 : TV) : ASt := ⟨[AV.one CA.junk, AV.one CA.junk, AV.one (CA.ptr 0 0), AV.one CA.junk, AV.one CA.junk, AV.one (CA.ptr 1 0), AV.tv x0] ++ List.replicate 69 (AV.one CA.junk), [Option.some (BC.cells [CA.t y1, CA.t y2, CA.t y3]), Option.some (BC.cells [CA.t y4, CA.t y5, CA.t y6, CA.t y7])] ++ List.replicate 98 (Option.none), []⟩
def f78_1_S  (x0 x1 y2 y3 y4 y5 y6 y7 y8 : TV) : ASt := ⟨[AV.one CA.junk, AV.one CA.junk, AV.one (CA.ptr 0 0), AV.one CA.junk, AV.one CA.junk, AV.one (CA.ptr 1 0), AV.tv x0, AV.tv x1] ++ List.replicate 68 (AV.one CA.junk), [Option.some (BC.cells [CA.t y2, CA.t y3, CA.t y4]), Option.some (BC.cells [CA.t y5, CA.t y6, CA.t y7, CA.t y8])] ++ List.replicate 98 (Option.none), []⟩
def f78_2_S  (y0 y1 y2 y3 y4 y5 y6 : TV) : ASt := ⟨[AV.one CA.junk, AV.one CA.junk, AV.one (CA.ptr 0 0), AV.one CA.junk, AV.one CA.junk, AV.one (CA.ptr 1 0)] ++ List.replicate 70 (AV.one CA.junk), [Option.some (BC.cells [CA.t y0, CA.t y1, CA.t y2]), Option.some (BC.cells [CA.t y3, CA.t y4, CA.t y5, CA.t y6])] ++ List.replicate 98 (Option.none), []⟩
def f78_M (x0 x1 : TV) : Prg TV :=
  Prg.chk (TV.isAgg x0 3) (
  Prg.chk (TV.isAgg x1 14) (
  Prg.tv (pun UnOp.not (TV.cell x1 0)) fun v0 =>
  Prg.ite (asBool v0) (
    Prg.tv (pbin (Kd.int IntKind.i64) BinOp.eql (TV.cell x1 1) (TV.lit (Value.int IntKind.i64 (0 : Int)))) fun v1 =>
    Prg.ite (asBool v1) (
      Prg.tv (plen (Kd.slice 25) (TV.cell x1 2)) fun v2 =>
      Prg.tv (pbin (Kd.int IntKind.i64) BinOp.eql v2 (TV.lit (Value.int IntKind.i64 (0 : Int)))) fun v3 =>
      Prg.ite (asBool v3) (
        Prg.tv (pun UnOp.not (TV.cell x1 3)) fun v4 =>
        Prg.ite (asBool v4) (
          Prg.tv (pun UnOp.not (TV.cell x1 4)) fun v5 =>
          Prg.ret v5) (
          Prg.ret (TV.lit (Value.bool false)))) (
        Prg.ret (TV.lit (Value.bool false)))) (
      Prg.ret (TV.lit (Value.bool false)))) (
    Prg.jmp [0, 0, 1, 0, 1, 1, 1] (f78_0_S (TV.lit (Value.int IntKind.i64 (0 : Int))) (TV.cell x0 0) (TV.cell x0 1) (TV.cell x0 2) (TV.cell x1 1) (TV.cell x1 2) (TV.cell x1 3) (TV.cell x1 4)))))
-- [0, 0, 1, 0, 1, 1, 1]
def f78_0  (x0 y1 y2 y3 y4 y5 y6 y7 : TV) : Prg TV :=
  Prg.tv (plen (Kd.slice 25) y5) fun v6 =>
  Prg.tv (pbin (Kd.int IntKind.i64) BinOp.lss x0 v6) fun v7 =>
  Prg.ite (asBool v7) (
    Prg.tv (pbin (Kd.int IntKind.i64) BinOp.geq x0 (TV.lit (Value.int IntKind.i64 (8 : Int)))) fun v8 =>
    Prg.ite (asBool v8) (
      Prg.ret (TV.lit (Value.bool false))) (
      Prg.jmp [0, 0, 1, 1, 0, 0, 1, 0, 0, 1, 0, 1, 1, 1] (f78_1_S x0 (TV.lit (Value.int IntKind.i64 (0 : Int))) y1 y2 y3 y4 y5 y6 y7))) (
    Prg.jmp [1, 1, 1, 1] (f78_2_S y1 y2 y3 y4 y5 y6 y7))
-- [0, 0, 1, 1, 0, 0, 1, 0, 0, 1, 0, 1, 1, 1]
def f78_1  (x0 x1 y2 y3 y4 y5 y6 y7 y8 : TV) : Prg TV :=
  Prg.tv (pbin (Kd.int IntKind.i64) BinOp.lss x1 x0) fun v9 =>
  Prg.ite (asBool v9) (
    Prg.tvs (pidx 1 y6 x1) fun e10 =>
    Prg.chk (Nat.blt 0 (List.length e10)) (
    Prg.tvs (pidx 1 y6 x0) fun e11 =>
    Prg.chk (Nat.blt 0 (List.length e11)) (
    Prg.tv (pbin (Kd.int IntKind.u16) BinOp.eql (nth TV.hole e10 0) (nth TV.hole e11 0)) fun v12 =>
    Prg.ite (asBool v12) (
      Prg.ret (TV.lit (Value.bool false))) (
      Prg.tv (pbin (Kd.int IntKind.i64) BinOp.add x1 (TV.lit (Value.int IntKind.i64 (1 : Int)))) fun v13 =>
      Prg.jmp [0, 0, 1, 1, 0, 0, 1, 0, 0, 1, 0, 1, 1, 1] (f78_1_S x0 v13 y2 y3 y4 y5 y6 y7 y8))))) (
    Prg.tv (pbin (Kd.int IntKind.i64) BinOp.add x0 (TV.lit (Value.int IntKind.i64 (1 : Int)))) fun v14 =>
    Prg.jmp [0, 0, 1, 0, 1, 1, 1] (f78_0_S v14 y2 y3 y4 y5 y6 y7 y8))
-- [1, 1, 1, 1]
def f78_2  (y0 y1 y2 y3 y4 y5 y6 : TV) : Prg TV :=
  Prg.call 102 [y3, y1] fun v15 =>
  Prg.chk (fitsAt zBool [v15] 0) (
  Prg.ite (asBool v15) (
    Prg.tv (plen (Kd.slice 25) y4) fun v16 =>
    Prg.tv (pbin (Kd.int IntKind.i64) BinOp.gtr v16 (TV.lit (Value.int IntKind.i64 (0 : Int)))) fun v17 =>
    Prg.ite (asBool v17) (
      Prg.ret (TV.lit (Value.bool true))) (
      Prg.ite (asBool y5) (
        Prg.ret (TV.lit (Value.bool true))) (
        Prg.ret y6))) (
    Prg.ret (TV.lit (Value.bool false))))
theorem f78_MR (x0 x1 : TV) : startQ prog 78 [x0, x1] = f78_M x0 x1 := by kernel_rfl
theorem f78_0_R  (x0 y1 y2 y3 y4 y5 y6 y7 : TV) : pieceQ prog 78 [0, 0, 1, 0, 1, 1, 1] (f78_0_S x0 y1 y2 y3 y4 y5 y6 y7) = f78_0 x0 y1 y2 y3 y4 y5 y6 y7 := by kernel_rfl
theorem f78_1_R  (x0 x1 y2 y3 y4 y5 y6 y7 y8 : TV) : pieceQ prog 78 [0, 0, 1, 1, 0, 0, 1, 0, 0, 1, 0, 1, 1, 1] (f78_1_S x0 x1 y2 y3 y4 y5 y6 y7 y8) = f78_1 x0 x1 y2 y3 y4 y5 y6 y7 y8 := by kernel_rfl
theorem f78_2_R  (y0 y1 y2 y3 y4 y5 y6 : TV) : pieceQ prog 78 [1, 1, 1, 1] (f78_2_S y0 y1 y2 y3 y4 y5 y6) = f78_2 y0 y1 y2 y3 y4 y5 y6 := by kernel_rfl

theorem f78_run {x0 x1 : TV} {r : TV} (h : Goes prog 78 (f78_M x0 x1) r) : Runs prog 78 [x0, x1] r := Runs.of (f78_MR x0 x1) h
theorem f78_0_J  {x0 y1 y2 y3 y4 y5 y6 y7 : TV} {r : TV} (h : Goes prog 78 (f78_0 x0 y1 y2 y3 y4 y5 y6 y7) r) : Goes prog 78 (.jmp [0, 0, 1, 0, 1, 1, 1] (f78_0_S x0 y1 y2 y3 y4 y5 y6 y7)) r := Goes.jmp (f78_0_R x0 y1 y2 y3 y4 y5 y6 y7) h
theorem f78_1_J  {x0 x1 y2 y3 y4 y5 y6 y7 y8 : TV} {r : TV} (h : Goes prog 78 (f78_1 x0 x1 y2 y3 y4 y5 y6 y7 y8) r) : Goes prog 78 (.jmp [0, 0, 1, 1, 0, 0, 1, 0, 0, 1, 0, 1, 1, 1] (f78_1_S x0 x1 y2 y3 y4 y5 y6 y7 y8)) r := Goes.jmp (f78_1_R x0 x1 y2 y3 y4 y5 y6 y7 y8) h
theorem f78_2_J  {y0 y1 y2 y3 y4 y5 y6 : TV} {r : TV} (h : Goes prog 78 (f78_2 y0 y1 y2 y3 y4 y5 y6) r) : Goes prog 78 (.jmp [1, 1, 1, 1] (f78_2_S y0 y1 y2 y3 y4 y5 y6)) r := Goes.jmp (f78_2_R y0 y1 y2 y3 y4 y5 y6) h
def f79_0_S  (x0 x1 x2 x3 y4 y5 y6 y7 y8 y9 y10 y11 y12 y13 y14 y15 : TV) : ASt := ⟨[AV.one CA.junk, AV.one CA.junk, AV.one CA.junk, AV.one (CA.ptr 0 0), AV.one (CA.ptr 1 0), AV.one (CA.ptr 2 0), AV.one CA.junk, AV.tv x0, AV.tv x1, AV.tv x2] ++ List.replicate 30 (AV.one CA.junk) ++ [AV.tv x3] ++ List.replicate 117 (AV.one CA.junk), [Option.some (BC.cells [CA.t y4]), Option.some (BC.cells [CA.t y5, CA.t y6, CA.t y7]), Option.some (BC.cells [CA.t y8, CA.t y9, CA.t y10, CA.t y11, CA.t y12, CA.t y13, CA.t y14, CA.t y15])] ++ List.replicate 179 (Option.none), []⟩
def f79_1_S  (x0 x1 x2 x3 x4 y5 y6 y7 y8 y9 y10 y11 y12 y13 y14 y15 y16 : TV) : ASt := ⟨[AV.one CA.junk, AV.one CA.junk, AV.one CA.junk, AV.one (CA.ptr 0 0), AV.one (CA.ptr 1 0), AV.one (CA.ptr 2 0), AV.one CA.junk, AV.tv x0, AV.tv x1, AV.tv x2] ++ List.replicate 30 (AV.one CA.junk) ++ [AV.tv x3, AV.tv x4] ++ List.replicate 116 (AV.one CA.junk), [Option.some (BC.cells [CA.t y5]), Option.some (BC.cells [CA.t y6, CA.t y7, CA.t y8]), Option.some (BC.cells [CA.t y9, CA.t y10, CA.t y11, CA.t y12, CA.t y13, CA.t y14, CA.t y15, CA.t y16])] ++ List.replicate 179 (Option.none), []⟩
def f79_M (x0 x1 x2 : TV) : Prg TV :=
  Prg.chk (TV.isAgg x0 1) (
  Prg.chk (TV.isAgg x1 3) (
  Prg.chk (TV.isAgg x2 8) (
  Prg.call 102 [TV.cell x2 1, TV.cell x1 1] fun v0 =>
  Prg.chk (fitsAt zBool [v0] 0) (
  Prg.call 102 [TV.cell x2 2, TV.cell x1 1] fun v1 =>
  Prg.chk (fitsAt zBool [v1] 0) (
  Prg.tv (pbin (Kd.int IntKind.i64) BinOp.eql (TV.cell x2 2) (TV.lit (Value.int IntKind.i64 (0 : Int)))) fun v2 =>
  Prg.ite (asBool v2) (
    Prg.tv (pbin (Kd.int IntKind.i64) BinOp.eql (TV.cell x2 3) (TV.lit (Value.int IntKind.i64 (0 : Int)))) fun v3 =>
    Prg.ite (asBool v3) (
      Prg.tv (plen (Kd.slice 3) (TV.cell x2 4)) fun v4 =>
      Prg.tv (pbin (Kd.int IntKind.i64) BinOp.eql v4 (TV.lit (Value.int IntKind.i64 (0 : Int)))) fun v5 =>
      Prg.ite (asBool v5) (
        Prg.tv (pbin (Kd.int IntKind.i64) BinOp.eql (TV.cell x2 7) (TV.lit (Value.int IntKind.i64 (0 : Int)))) fun v6 =>
        Prg.jmp [1, 0, 1, 1, 1] (f79_0_S v0 v1 v6 (TV.cell x2 0) (TV.cell x0 0) (TV.cell x1 0) (TV.cell x1 1) (TV.cell x1 2) (TV.cell x2 0) (TV.cell x2 1) (TV.cell x2 2) (TV.cell x2 3) (TV.cell x2 4) (TV.cell x2 5) (TV.cell x2 6) (TV.cell x2 7))) (
        Prg.jmp [1, 0, 1, 1, 1] (f79_0_S v0 v1 (TV.lit (Value.bool false)) (TV.cell x2 0) (TV.cell x0 0) (TV.cell x1 0) (TV.cell x1 1) (TV.cell x1 2) (TV.cell x2 0) (TV.cell x2 1) (TV.cell x2 2) (TV.cell x2 3) (TV.cell x2 4) (TV.cell x2 5) (TV.cell x2 6) (TV.cell x2 7)))) (
      Prg.jmp [1, 0, 1, 1, 1] (f79_0_S v0 v1 (TV.lit (Value.bool false)) (TV.cell x2 0) (TV.cell x0 0) (TV.cell x1 0) (TV.cell x1 1) (TV.cell x1 2) (TV.cell x2 0) (TV.cell x2 1) (TV.cell x2 2) (TV.cell x2 3) (TV.cell x2 4) (TV.cell x2 5) (TV.cell x2 6) (TV.cell x2 7)))) (
    Prg.jmp [1, 0, 1, 1, 1] (f79_0_S v0 v1 (TV.lit (Value.bool false)) (TV.cell x2 0) (TV.cell x0 0) (TV.cell x1 0) (TV.cell x1 1) (TV.cell x1 2) (TV.cell x2 0) (TV.cell x2 1) (TV.cell x2 2) (TV.cell x2 3) (TV.cell x2 4) (TV.cell x2 5) (TV.cell x2 6) (TV.cell x2 7))))))))
-- [1, 0, 1, 1, 1]
def f79_0  (x0 x1 x2 x3 y4 y5 y6 y7 y8 y9 y10 y11 y12 y13 y14 y15 : TV) : Prg TV :=
  Prg.tv (pbin (Kd.int IntKind.i64) BinOp.eql x3 (TV.lit (Value.int IntKind.i64 (1 : Int)))) fun v7 =>
  Prg.ite (asBool v7) (
    Prg.jmp [1, 0, 1, 0, 1, 1, 1] (f79_1_S x0 x1 x2 x3 v7 y4 y5 y6 y7 y8 y9 y10 y11 y12 y13 y14 y15)) (
    Prg.tv (pbin (Kd.int IntKind.i64) BinOp.eql x3 (TV.lit (Value.int IntKind.i64 (5 : Int)))) fun v8 =>
    Prg.jmp [1, 0, 1, 0, 1, 1, 1] (f79_1_S x0 x1 x2 x3 v8 y4 y5 y6 y7 y8 y9 y10 y11 y12 y13 y14 y15))
-- [1, 0, 1, 0, 1, 1, 1]
def f79_1  (x0 x1 x2 x3 x4 y5 y6 y7 y8 y9 y10 y11 y12 y13 y14 y15 y16 : TV) : Prg TV :=
  Prg.ite (asBool x4) (
    Prg.ite (asBool x0) (
      Prg.ite (asBool x2) (
        Prg.tv (pbin (Kd.int IntKind.i64) BinOp.eql y14 (TV.lit (Value.int IntKind.i64 (0 : Int)))) fun v9 =>
        Prg.ite (asBool v9) (
          Prg.tv (pbin (Kd.int IntKind.i64) BinOp.eql y15 (TV.lit (Value.int IntKind.i64 (0 : Int)))) fun v10 =>
          Prg.ret v10) (
          Prg.ret (TV.lit (Value.bool false)))) (
        Prg.ret (TV.lit (Value.bool false)))) (
      Prg.ret (TV.lit (Value.bool false)))) (
    Prg.tv (pbin (Kd.int IntKind.i64) BinOp.eql x3 (TV.lit (Value.int IntKind.i64 (2 : Int)))) fun v11 =>
    Prg.ite (asBool v11) (
      Prg.tv (pbin (Kd.int IntKind.i64) BinOp.eql y10 (TV.lit (Value.int IntKind.i64 (0 : Int)))) fun v12 =>
      Prg.ite (asBool v12) (
        Prg.ite (asBool x2) (
          Prg.call 103 [TV.agg [y6, y7, y8], y14] fun v13 =>
          Prg.chk (fitsAt zBool [v13] 0) (
          Prg.ite (asBool v13) (
            Prg.tv (pbin (Kd.int IntKind.i64) BinOp.eql y15 (TV.lit (Value.int IntKind.i64 (0 : Int)))) fun v14 =>
            Prg.ret v14) (
            Prg.ret (TV.lit (Value.bool false))))) (
          Prg.ret (TV.lit (Value.bool false)))) (
        Prg.ret (TV.lit (Value.bool false)))) (
      Prg.tv (pbin (Kd.int IntKind.i64) BinOp.eql x3 (TV.lit (Value.int IntKind.i64 (3 : Int)))) fun v15 =>
      Prg.ite (asBool v15) (
        Prg.ite (asBool x0) (
          Prg.ite (asBool x2) (
            Prg.call 103 [TV.agg [y6, y7, y8], y14] fun v16 =>
            Prg.chk (fitsAt zBool [v16] 0) (
            Prg.ite (asBool v16) (
              Prg.call 103 [TV.agg [y6, y7, y8], y15] fun v17 =>
              Prg.chk (fitsAt zBool [v17] 0) (
              Prg.ret v17)) (
              Prg.ret (TV.lit (Value.bool false))))) (
            Prg.ret (TV.lit (Value.bool false)))) (
          Prg.ret (TV.lit (Value.bool false)))) (
        Prg.tv (pbin (Kd.int IntKind.i64) BinOp.eql x3 (TV.lit (Value.int IntKind.i64 (4 : Int)))) fun v18 =>
        Prg.ite (asBool v18) (
          Prg.tv (pbin (Kd.int IntKind.i64) BinOp.eql y10 (TV.lit (Value.int IntKind.i64 (0 : Int)))) fun v19 =>
          Prg.ite (asBool v19) (
            Prg.ite (asBool x1) (
              Prg.call 104 [TV.agg [y5], TV.agg [y6, y7, y8], y12, y13] fun v20 =>
              Prg.chk (fitsAt zBool [v20] 0) (
              Prg.ite (asBool v20) (
                Prg.call 103 [TV.agg [y6, y7, y8], y14] fun v21 =>
                Prg.chk (fitsAt zBool [v21] 0) (
                Prg.ite (asBool v21) (
                  Prg.tv (pbin (Kd.int IntKind.i64) BinOp.eql y15 (TV.lit (Value.int IntKind.i64 (0 : Int)))) fun v22 =>
                  Prg.ite (asBool v22) (
                    Prg.tv (plen (Kd.slice 42) y8) fun v23 =>
                    Prg.call 102 [y16, v23] fun v24 =>
                    Prg.chk (fitsAt zBool [v24] 0) (
                    Prg.ite (asBool v24) (
                      Prg.tvs (pidx 14 y8 y16) fun e25 =>
                      Prg.chk (Nat.blt 0 (List.length e25)) (
                      Prg.ret (nth TV.hole e25 0))) (
                      Prg.ret (TV.lit (Value.bool false))))) (
                    Prg.ret (TV.lit (Value.bool false)))) (
                  Prg.ret (TV.lit (Value.bool false))))) (
                Prg.ret (TV.lit (Value.bool false))))) (
              Prg.ret (TV.lit (Value.bool false)))) (
            Prg.ret (TV.lit (Value.bool false)))) (
          Prg.tv (pbin (Kd.int IntKind.i64) BinOp.eql x3 (TV.lit (Value.int IntKind.i64 (6 : Int)))) fun v26 =>
          Prg.ite (asBool v26) (
            Prg.tv (pbin (Kd.int IntKind.i64) BinOp.eql y10 (TV.lit (Value.int IntKind.i64 (0 : Int)))) fun v27 =>
            Prg.ite (asBool v27) (
              Prg.ite (asBool x2) (
                Prg.tv (pbin (Kd.int IntKind.i64) BinOp.eql y14 (TV.lit (Value.int IntKind.i64 (0 : Int)))) fun v28 =>
                Prg.ite (asBool v28) (
                  Prg.tv (pbin (Kd.int IntKind.i64) BinOp.eql y15 (TV.lit (Value.int IntKind.i64 (0 : Int)))) fun v29 =>
                  Prg.ret v29) (
                  Prg.ret (TV.lit (Value.bool false)))) (
                Prg.ret (TV.lit (Value.bool false)))) (
              Prg.ret (TV.lit (Value.bool false)))) (
            Prg.ret (TV.lit (Value.bool false)))))))
theorem f79_MR (x0 x1 x2 : TV) : startQ prog 79 [x0, x1, x2] = f79_M x0 x1 x2 := by kernel_rfl
theorem f79_0_R  (x0 x1 x2 x3 y4 y5 y6 y7 y8 y9 y10 y11 y12 y13 y14 y15 : TV) : pieceQ prog 79 [1, 0, 1, 1, 1] (f79_0_S x0 x1 x2 x3 y4 y5 y6 y7 y8 y9 y10 y11 y12 y13 y14 y15) = f79_0 x0 x1 x2 x3 y4 y5 y6 y7 y8 y9 y10 y11 y12 y13 y14 y15 := by kernel_rfl
theorem f79_1_R  (x0 x1 x2 x3 x4 y5 y6 y7 y8 y9 y10 y11 y12 y13 y14 y15 y16 : TV) : pieceQ prog 79 [1, 0, 1, 0, 1, 1, 1] (f79_1_S x0 x1 x2 x3 x4 y5 y6 y7 y8 y9 y10 y11 y12 y13 y14 y15 y16) = f79_1 x0 x1 x2 x3 x4 y5 y6 y7 y8 y9 y10 y11 y12 y13 y14 y15 y16 := by kernel_rfl

theorem f79_run {x0 x1 x2 : TV} {r : TV} (h : Goes prog 79 (f79_M x0 x1 x2) r) : Runs prog 79 [x0, x1, x2] r := Runs.of (f79_MR x0 x1 x2) h
theorem f79_0_J  {x0 x1 x2 x3 y4 y5 y6 y7 y8 y9 y10 y11 y12 y13 y14 y15 : TV} {r : TV} (h : Goes prog 79 (f79_0 x0 x1 x2 x3 y4 y5 y6 y7 y8 y9 y10 y11 y12 y13 y14 y15) r) : Goes prog 79 (.jmp [1, 0, 1, 1, 1] (f79_0_S x0 x1 x2 x3 y4 y5 y6 y7 y8 y9 y10 y11 y12 y13 y14 y15)) r := Goes.jmp (f79_0_R x0 x1 x2 x3 y4 y5 y6 y7 y8 y9 y10 y11 y12 y13 y14 y15) h
theorem f79_1_J  {x0 x1 x2 x3 x4 y5 y6 y7 y8 y9 y10 y11 y12 y13 y14 y15 y16 : TV} {r : TV} (h : Goes prog 79 (f79_1 x0 x1 x2 x3 x4 y5 y6 y7 y8 y9 y10 y11 y12 y13 y14 y15 y16) r) : Goes prog 79 (.jmp [1, 0, 1, 0, 1, 1, 1] (f79_1_S x0 x1 x2 x3 x4 y5 y6 y7 y8 y9 y10 y11 y12 y13 y14 y15 y16)) r := Goes.jmp (f79_1_R x0 x1 x2 x3 x4 y5 y6 y7 y8 y9 y10 y11 y12 y13 y14 y15 y16) h
def f80_0_S  (x0 x1 x2 x3 x4 y5 y6 y7 y8 y9 y10 y11 y12 y13 y14 y15 : TV) : ASt := ⟨[AV.one CA.junk, AV.one CA.junk, AV.one CA.junk, AV.one (CA.ptr 0 0), AV.one (CA.ptr 1 0), AV.one (CA.ptr 2 0), AV.one CA.junk, AV.tv x0, AV.tv x1, AV.tv x2] ++ List.replicate 16 (AV.one CA.junk) ++ [AV.tv x3] ++ List.replicate 24 (AV.one CA.junk) ++ [AV.tv x4] ++ List.replicate 134 (AV.one CA.junk), [Option.some (BC.cells [CA.t y5]), Option.some (BC.cells [CA.t y6, CA.t y7, CA.t y8]), Option.some (BC.cells [CA.t y9, CA.t y10, CA.t y11, CA.t y12, CA.t y13, CA.t y14, CA.t y15])] ++ List.replicate 207 (Option.none), []⟩
def f80_1_S  (x0 x1 x2 x3 x4 y5 y6 y7 y8 y9 y10 y11 y12 y13 y14 y15 : TV) : ASt := ⟨[AV.one CA.junk, AV.one CA.junk, AV.one CA.junk, AV.one (CA.ptr 0 0), AV.one (CA.ptr 1 0), AV.one (CA.ptr 2 0), AV.one CA.junk, AV.tv x0, AV.tv x1, AV.tv x2] ++ List.replicate 16 (AV.one CA.junk) ++ [AV.tv x3] ++ List.replicate 45 (AV.one CA.junk) ++ [AV.tv x4] ++ List.replicate 113 (AV.one CA.junk), [Option.some (BC.cells [CA.t y5]), Option.some (BC.cells [CA.t y6, CA.t y7, CA.t y8]), Option.some (BC.cells [CA.t y9, CA.t y10, CA.t y11, CA.t y12, CA.t y13, CA.t y14, CA.t y15])] ++ List.replicate 207 (Option.none), []⟩
def f80_M (x0 x1 x2 : TV) : Prg TV :=
  Prg.chk (TV.isAgg x0 1) (
  Prg.chk (TV.isAgg x1 3) (
  Prg.chk (TV.isAgg x2 7) (
  Prg.call 102 [TV.cell x2 1, TV.cell x1 1] fun v0 =>
  Prg.chk (fitsAt zBool [v0] 0) (
  Prg.call 102 [TV.cell x2 2, TV.cell x1 1] fun v1 =>
  Prg.chk (fitsAt zBool [v1] 0) (
  Prg.call 102 [TV.cell x2 3, TV.cell x1 1] fun v2 =>
  Prg.chk (fitsAt zBool [v2] 0) (
  Prg.tv (pbin (Kd.int IntKind.i64) BinOp.eql (TV.cell x2 0) (TV.lit (Value.int IntKind.i64 (1 : Int)))) fun v3 =>
  Prg.ite (asBool v3) (
    Prg.ite (asBool v0) (
      Prg.tv (pbin (Kd.int IntKind.i64) BinOp.eql (TV.cell x2 2) (TV.lit (Value.int IntKind.i64 (0 : Int)))) fun v4 =>
      Prg.ite (asBool v4) (
        Prg.tv (pbin (Kd.int IntKind.i64) BinOp.eql (TV.cell x2 3) (TV.lit (Value.int IntKind.i64 (0 : Int)))) fun v5 =>
        Prg.ite (asBool v5) (
          Prg.tv (pbin (Kd.int IntKind.i64) BinOp.eql (TV.cell x2 5) (TV.lit (Value.int IntKind.i64 (0 : Int)))) fun v6 =>
          Prg.ite (asBool v6) (
            Prg.tv (plen (Kd.slice 3) (TV.cell x2 6)) fun v7 =>
            Prg.tv (pbin (Kd.int IntKind.i64) BinOp.eql v7 (TV.lit (Value.int IntKind.i64 (0 : Int)))) fun v8 =>
            Prg.ret v8) (
            Prg.ret (TV.lit (Value.bool false)))) (
          Prg.ret (TV.lit (Value.bool false)))) (
        Prg.ret (TV.lit (Value.bool false)))) (
      Prg.ret (TV.lit (Value.bool false)))) (
    Prg.tv (pbin (Kd.int IntKind.i64) BinOp.eql (TV.cell x2 0) (TV.lit (Value.int IntKind.i64 (2 : Int)))) fun v9 =>
    Prg.ite (asBool v9) (
      Prg.jmp [1, 1, 1, 0, 1, 0, 1, 1] (f80_0_S v0 v1 v2 (TV.cell x2 0) v9 (TV.cell x0 0) (TV.cell x1 0) (TV.cell x1 1) (TV.cell x1 2) (TV.cell x2 0) (TV.cell x2 1) (TV.cell x2 2) (TV.cell x2 3) (TV.cell x2 4) (TV.cell x2 5) (TV.cell x2 6))) (
      Prg.tv (pbin (Kd.int IntKind.i64) BinOp.eql (TV.cell x2 0) (TV.lit (Value.int IntKind.i64 (9 : Int)))) fun v10 =>
      Prg.jmp [1, 1, 1, 0, 1, 0, 1, 1] (f80_0_S v0 v1 v2 (TV.cell x2 0) v10 (TV.cell x0 0) (TV.cell x1 0) (TV.cell x1 1) (TV.cell x1 2) (TV.cell x2 0) (TV.cell x2 1) (TV.cell x2 2) (TV.cell x2 3) (TV.cell x2 4) (TV.cell x2 5) (TV.cell x2 6))))))))))
-- [1, 1, 1, 0, 1, 0, 1, 1]
def f80_0  (x0 x1 x2 x3 x4 y5 y6 y7 y8 y9 y10 y11 y12 y13 y14 y15 : TV) : Prg TV :=
  Prg.ite (asBool x4) (
    Prg.ite (asBool x0) (
      Prg.ite (asBool x1) (
        Prg.tv (pbin (Kd.int IntKind.i64) BinOp.eql y12 (TV.lit (Value.int IntKind.i64 (0 : Int)))) fun v11 =>
        Prg.ite (asBool v11) (
          Prg.call 105 [y13, y14, y15] fun v12 =>
          Prg.chk (fitsAt zBool [v12] 0) (
          Prg.ret v12)) (
          Prg.ret (TV.lit (Value.bool false)))) (
        Prg.ret (TV.lit (Value.bool false)))) (
      Prg.ret (TV.lit (Value.bool false)))) (
    Prg.tv (pbin (Kd.int IntKind.i64) BinOp.eql x3 (TV.lit (Value.int IntKind.i64 (3 : Int)))) fun v13 =>
    Prg.ite (asBool v13) (
      Prg.jmp [1, 1, 1, 1, 1, 0, 1, 0, 1, 1] (f80_1_S x0 x1 x2 x3 v13 y5 y6 y7 y8 y9 y10 y11 y12 y13 y14 y15)) (
      Prg.tv (pbin (Kd.int IntKind.i64) BinOp.eql x3 (TV.lit (Value.int IntKind.i64 (4 : Int)))) fun v14 =>
      Prg.ite (asBool v14) (
        Prg.jmp [1, 1, 1, 1, 1, 0, 1, 0, 1, 1] (f80_1_S x0 x1 x2 x3 v14 y5 y6 y7 y8 y9 y10 y11 y12 y13 y14 y15)) (
        Prg.tv (pbin (Kd.int IntKind.i64) BinOp.eql x3 (TV.lit (Value.int IntKind.i64 (5 : Int)))) fun v15 =>
        Prg.ite (asBool v15) (
          Prg.jmp [1, 1, 1, 1, 1, 0, 1, 0, 1, 1] (f80_1_S x0 x1 x2 x3 v15 y5 y6 y7 y8 y9 y10 y11 y12 y13 y14 y15)) (
          Prg.tv (pbin (Kd.int IntKind.i64) BinOp.eql x3 (TV.lit (Value.int IntKind.i64 (6 : Int)))) fun v16 =>
          Prg.ite (asBool v16) (
            Prg.jmp [1, 1, 1, 1, 1, 0, 1, 0, 1, 1] (f80_1_S x0 x1 x2 x3 v16 y5 y6 y7 y8 y9 y10 y11 y12 y13 y14 y15)) (
            Prg.tv (pbin (Kd.int IntKind.i64) BinOp.eql x3 (TV.lit (Value.int IntKind.i64 (7 : Int)))) fun v17 =>
            Prg.ite (asBool v17) (
              Prg.jmp [1, 1, 1, 1, 1, 0, 1, 0, 1, 1] (f80_1_S x0 x1 x2 x3 v17 y5 y6 y7 y8 y9 y10 y11 y12 y13 y14 y15)) (
              Prg.tv (pbin (Kd.int IntKind.i64) BinOp.eql x3 (TV.lit (Value.int IntKind.i64 (8 : Int)))) fun v18 =>
              Prg.jmp [1, 1, 1, 1, 1, 0, 1, 0, 1, 1] (f80_1_S x0 x1 x2 x3 v18 y5 y6 y7 y8 y9 y10 y11 y12 y13 y14 y15)))))))
-- [1, 1, 1, 1, 1, 0, 1, 0, 1, 1]
def f80_1  (x0 x1 x2 x3 x4 y5 y6 y7 y8 y9 y10 y11 y12 y13 y14 y15 : TV) : Prg TV :=
  Prg.ite (asBool x4) (
    Prg.ite (asBool x0) (
      Prg.ite (asBool x1) (
        Prg.ite (asBool x2) (
          Prg.call 105 [y13, y14, y15] fun v19 =>
          Prg.chk (fitsAt zBool [v19] 0) (
          Prg.ret v19)) (
          Prg.ret (TV.lit (Value.bool false)))) (
        Prg.ret (TV.lit (Value.bool false)))) (
      Prg.ret (TV.lit (Value.bool false)))) (
    Prg.tv (pbin (Kd.int IntKind.i64) BinOp.eql x3 (TV.lit (Value.int IntKind.i64 (10 : Int)))) fun v20 =>
    Prg.ite (asBool v20) (
      Prg.tv (pbin (Kd.int IntKind.i64) BinOp.eql y10 (TV.lit (Value.int IntKind.i64 (0 : Int)))) fun v21 =>
      Prg.ite (asBool v21) (
        Prg.ite (asBool x1) (
          Prg.ite (asBool x2) (
            Prg.call 105 [y13, y14, y15] fun v22 =>
            Prg.chk (fitsAt zBool [v22] 0) (
            Prg.ret v22)) (
            Prg.ret (TV.lit (Value.bool false)))) (
          Prg.ret (TV.lit (Value.bool false)))) (
        Prg.ret (TV.lit (Value.bool false)))) (
      Prg.tv (pbin (Kd.int IntKind.i64) BinOp.eql x3 (TV.lit (Value.int IntKind.i64 (11 : Int)))) fun v23 =>
      Prg.ite (asBool v23) (
        Prg.ite (asBool x0) (
          Prg.tv (pbin (Kd.int IntKind.i64) BinOp.eql y11 (TV.lit (Value.int IntKind.i64 (0 : Int)))) fun v24 =>
          Prg.ite (asBool v24) (
            Prg.tv (pbin (Kd.int IntKind.i64) BinOp.eql y12 (TV.lit (Value.int IntKind.i64 (0 : Int)))) fun v25 =>
            Prg.ite (asBool v25) (
              Prg.tv (pbin (Kd.int IntKind.u16) BinOp.eql y13 (TV.lit (Value.int IntKind.u16 (0 : Int)))) fun v26 =>
              Prg.ite (asBool v26) (
                Prg.call 104 [TV.agg [y5], TV.agg [y6, y7, y8], y14, y15] fun v27 =>
                Prg.chk (fitsAt zBool [v27] 0) (
                Prg.ret v27)) (
                Prg.ret (TV.lit (Value.bool false)))) (
              Prg.ret (TV.lit (Value.bool false)))) (
            Prg.ret (TV.lit (Value.bool false)))) (
          Prg.ret (TV.lit (Value.bool false)))) (
        Prg.tv (pbin (Kd.int IntKind.i64) BinOp.eql x3 (TV.lit (Value.int IntKind.i64 (12 : Int)))) fun v28 =>
        Prg.ite (asBool v28) (
          Prg.tv (pbin (Kd.int IntKind.i64) BinOp.eql y10 (TV.lit (Value.int IntKind.i64 (0 : Int)))) fun v29 =>
          Prg.ite (asBool v29) (
            Prg.ite (asBool x1) (
              Prg.tv (pbin (Kd.int IntKind.i64) BinOp.eql y12 (TV.lit (Value.int IntKind.i64 (0 : Int)))) fun v30 =>
              Prg.ite (asBool v30) (
                Prg.call 105 [y13, y14, y15] fun v31 =>
                Prg.chk (fitsAt zBool [v31] 0) (
                Prg.ret v31)) (
                Prg.ret (TV.lit (Value.bool false)))) (
              Prg.ret (TV.lit (Value.bool false)))) (
            Prg.ret (TV.lit (Value.bool false)))) (
          Prg.tv (pbin (Kd.int IntKind.i64) BinOp.eql x3 (TV.lit (Value.int IntKind.i64 (13 : Int)))) fun v32 =>
          Prg.ite (asBool v32) (
            Prg.ite (asBool x0) (
              Prg.tv (pbin (Kd.int IntKind.i64) BinOp.eql y11 (TV.lit (Value.int IntKind.i64 (0 : Int)))) fun v33 =>
              Prg.ite (asBool v33) (
                Prg.tv (pbin (Kd.int IntKind.i64) BinOp.eql y12 (TV.lit (Value.int IntKind.i64 (0 : Int)))) fun v34 =>
                Prg.ite (asBool v34) (
                  Prg.call 105 [y13, y14, y15] fun v35 =>
                  Prg.chk (fitsAt zBool [v35] 0) (
                  Prg.ret v35)) (
                  Prg.ret (TV.lit (Value.bool false)))) (
                Prg.ret (TV.lit (Value.bool false)))) (
              Prg.ret (TV.lit (Value.bool false)))) (
            Prg.ret (TV.lit (Value.bool false)))))))
theorem f80_MR (x0 x1 x2 : TV) : startQ prog 80 [x0, x1, x2] = f80_M x0 x1 x2 := by kernel_rfl
theorem f80_0_R  (x0 x1 x2 x3 x4 y5 y6 y7 y8 y9 y10 y11 y12 y13 y14 y15 : TV) : pieceQ prog 80 [1, 1, 1, 0, 1, 0, 1, 1] (f80_0_S x0 x1 x2 x3 x4 y5 y6 y7 y8 y9 y10 y11 y12 y13 y14 y15) = f80_0 x0 x1 x2 x3 x4 y5 y6 y7 y8 y9 y10 y11 y12 y13 y14 y15 := by kernel_rfl
theorem f80_1_R  (x0 x1 x2 x3 x4 y5 y6 y7 y8 y9 y10 y11 y12 y13 y14 y15 : TV) : pieceQ prog 80 [1, 1, 1, 1, 1, 0, 1, 0, 1, 1] (f80_1_S x0 x1 x2 x3 x4 y5 y6 y7 y8 y9 y10 y11 y12 y13 y14 y15) = f80_1 x0 x1 x2 x3 x4 y5 y6 y7 y8 y9 y10 y11 y12 y13 y14 y15 := by kernel_rfl

theorem f80_run {x0 x1 x2 : TV} {r : TV} (h : Goes prog 80 (f80_M x0 x1 x2) r) : Runs prog 80 [x0, x1, x2] r := Runs.of (f80_MR x0 x1 x2) h
theorem f80_0_J  {x0 x1 x2 x3 x4 y5 y6 y7 y8 y9 y10 y11 y12 y13 y14 y15 : TV} {r : TV} (h : Goes prog 80 (f80_0 x0 x1 x2 x3 x4 y5 y6 y7 y8 y9 y10 y11 y12 y13 y14 y15) r) : Goes prog 80 (.jmp [1, 1, 1, 0, 1, 0, 1, 1] (f80_0_S x0 x1 x2 x3 x4 y5 y6 y7 y8 y9 y10 y11 y12 y13 y14 y15)) r := Goes.jmp (f80_0_R x0 x1 x2 x3 x4 y5 y6 y7 y8 y9 y10 y11 y12 y13 y14 y15) h
theorem f80_1_J  {x0 x1 x2 x3 x4 y5 y6 y7 y8 y9 y10 y11 y12 y13 y14 y15 : TV} {r : TV} (h : Goes prog 80 (f80_1 x0 x1 x2 x3 x4 y5 y6 y7 y8 y9 y10 y11 y12 y13 y14 y15) r) : Goes prog 80 (.jmp [1, 1, 1, 1, 1, 0, 1, 0, 1, 1] (f80_1_S x0 x1 x2 x3 x4 y5 y6 y7 y8 y9 y10 y11 y12 y13 y14 y15)) r := Goes.jmp (f80_1_R x0 x1 x2 x3 x4 y5 y6 y7 y8 y9 y10 y11 y12 y13 y14 y15) h
end Go.Ab.H6

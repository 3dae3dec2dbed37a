import Derived.Test.YtbjomheepodapaaS2T
set_option linter.unusedVariables false
set_option maxRecDepth 100000
namespace Go.Ab.S2
open Go Go.Ab Go.Proofs
def f24_M (x0 : TV) : Prg TV :=
  Prg.tv (pbin (Kd.int IntKind.i64) BinOp.eql x0 (TV.lit (Value.int IntKind.i64 (1 : Int)))) fun v0 =>
  Prg.ite (asBool v0) (
    Prg.ite (asBool v0) (
      Prg.ret (TV.lit (Value.int IntKind.i64 (5 : Int)))) (
      Prg.tv (pbin (Kd.int IntKind.i64) BinOp.eql x0 (TV.lit (Value.int IntKind.i64 (2 : Int)))) fun v1 =>
      Prg.ite (asBool v1) (
        Prg.ret (TV.lit (Value.int IntKind.i64 (65 : Int)))) (
        Prg.tv (pbin (Kd.int IntKind.i64) BinOp.eql x0 (TV.lit (Value.int IntKind.i64 (3 : Int)))) fun v2 =>
        Prg.ite (asBool v2) (
          Prg.ret (TV.lit (Value.int IntKind.i64 (197 : Int)))) (
          Prg.tv (pbin (Kd.int IntKind.i64) BinOp.eql x0 (TV.lit (Value.int IntKind.i64 (4 : Int)))) fun v3 =>
          Prg.ite (asBool v3) (
            Prg.ret (TV.lit (Value.int IntKind.i64 (355 : Int)))) (
            Prg.tv (pbin (Kd.int IntKind.i64) BinOp.eql x0 (TV.lit (Value.int IntKind.i64 (6 : Int)))) fun v4 =>
            Prg.ite (asBool v4) (
              Prg.ret (TV.lit (Value.int IntKind.i64 (1 : Int)))) (
              Prg.ret (TV.lit (Value.int IntKind.i64 (0 : Int))))))))) (
    Prg.tv (pbin (Kd.int IntKind.i64) BinOp.eql x0 (TV.lit (Value.int IntKind.i64 (5 : Int)))) fun v5 =>
    Prg.ite (asBool v5) (
      Prg.ret (TV.lit (Value.int IntKind.i64 (5 : Int)))) (
      Prg.tv (pbin (Kd.int IntKind.i64) BinOp.eql x0 (TV.lit (Value.int IntKind.i64 (2 : Int)))) fun v6 =>
      Prg.ite (asBool v6) (
        Prg.ret (TV.lit (Value.int IntKind.i64 (65 : Int)))) (
        Prg.tv (pbin (Kd.int IntKind.i64) BinOp.eql x0 (TV.lit (Value.int IntKind.i64 (3 : Int)))) fun v7 =>
        Prg.ite (asBool v7) (
          Prg.ret (TV.lit (Value.int IntKind.i64 (197 : Int)))) (
          Prg.tv (pbin (Kd.int IntKind.i64) BinOp.eql x0 (TV.lit (Value.int IntKind.i64 (4 : Int)))) fun v8 =>
          Prg.ite (asBool v8) (
            Prg.ret (TV.lit (Value.int IntKind.i64 (355 : Int)))) (
            Prg.tv (pbin (Kd.int IntKind.i64) BinOp.eql x0 (TV.lit (Value.int IntKind.i64 (6 : Int)))) fun v9 =>
            Prg.ite (asBool v9) (
              Prg.ret (TV.lit (Value.int IntKind.i64 (1 : Int)))) (
              Prg.ret (TV.lit (Value.int IntKind.i64 (0 : Int)))))))))
theorem f24_MR (x0 : TV) : startQ prog 24 [x0] = f24_M x0 := by kernel_rfl

def f25_M (x0 x1 : TV) : Prg TV :=
  Prg.tv (pbin (Kd.int IntKind.i64) BinOp.and x0 x1) fun v0 =>
  Prg.tv (pbin (Kd.int IntKind.i64) BinOp.neq v0 (TV.lit (Value.int IntKind.i64 (0 : Int)))) fun v1 =>
  Prg.ret v1
theorem f25_MR (x0 x1 : TV) : startQ prog 25 [x0, x1] = f25_M x0 x1 := by kernel_rfl

def f26_M (x0 : TV) : Prg TV :=
  Prg.tv (pbin (Kd.slice 27) BinOp.eql x0 (TV.lit (Value.slice Option.none 0 0))) fun v0 =>
  Prg.ite (asBool v0) (
    Prg.ret (TV.lit (Value.slice Option.none 0 0))) (
    Prg.tv (plen (Kd.slice 27) x0) fun v1 =>
    Prg.nat (asNat v1) fun n2 =>
    Prg.nat (asNat v1) fun n3 =>
    Prg.chk (Bool.and (Nat.ble n2 n3) (Nat.ble n3 4294967296)) (
    Prg.rws (pelems 3 x0) fun r4 =>
    Prg.tv (pcopy 3 (TV.sl true 3 (List.replicate n2 [TV.lit (Value.int IntKind.i64 (0 : Int)), TV.lit (Value.int IntKind.i64 (0 : Int)), TV.lit (Value.slice Option.none 0 0)])) r4) fun v5 =>
    Prg.nat (slLen (TV.sl true 3 (List.replicate n2 [TV.lit (Value.int IntKind.i64 (0 : Int)), TV.lit (Value.int IntKind.i64 (0 : Int)), TV.lit (Value.slice Option.none 0 0)]))) fun n6 =>
    Prg.ret v5))
theorem f26_MR (x0 : TV) : startQ prog 26 [x0] = f26_M x0 := by kernel_rfl

def f27_M (x0 : TV) : Prg TV :=
  Prg.tv (pbin (Kd.slice 41) BinOp.eql x0 (TV.lit (Value.slice Option.none 0 0))) fun v0 =>
  Prg.ite (asBool v0) (
    Prg.ret (TV.lit (Value.slice Option.none 0 0))) (
    Prg.tv (plen (Kd.slice 41) x0) fun v1 =>
    Prg.nat (asNat v1) fun n2 =>
    Prg.nat (asNat v1) fun n3 =>
    Prg.chk (Bool.and (Nat.ble n2 n3) (Nat.ble n3 4294967296)) (
    Prg.rws (pelems 14 x0) fun r4 =>
    Prg.tv (pcopy 14 (TV.sl true 14 (List.replicate n2 [TV.lit (Value.bool false), TV.lit (Value.int IntKind.i64 (0 : Int)), TV.lit (Value.slice Option.none 0 0), TV.lit (Value.bool false), TV.lit (Value.bool false), TV.lit (Value.slice Option.none 0 0), TV.lit (Value.int IntKind.i64 (0 : Int)), TV.lit (Value.int IntKind.i64 (0 : Int)), TV.lit (Value.int IntKind.i64 (0 : Int)), TV.lit (Value.int IntKind.i64 (0 : Int)), TV.lit (Value.slice Option.none 0 0), TV.lit (Value.int IntKind.i64 (0 : Int)), TV.lit (Value.int IntKind.i64 (0 : Int)), TV.lit (Value.int IntKind.i64 (0 : Int))])) r4) fun v5 =>
    Prg.nat (slLen (TV.sl true 14 (List.replicate n2 [TV.lit (Value.bool false), TV.lit (Value.int IntKind.i64 (0 : Int)), TV.lit (Value.slice Option.none 0 0), TV.lit (Value.bool false), TV.lit (Value.bool false), TV.lit (Value.slice Option.none 0 0), TV.lit (Value.int IntKind.i64 (0 : Int)), TV.lit (Value.int IntKind.i64 (0 : Int)), TV.lit (Value.int IntKind.i64 (0 : Int)), TV.lit (Value.int IntKind.i64 (0 : Int)), TV.lit (Value.slice Option.none 0 0), TV.lit (Value.int IntKind.i64 (0 : Int)), TV.lit (Value.int IntKind.i64 (0 : Int)), TV.lit (Value.int IntKind.i64 (0 : Int))]))) fun n6 =>
    Prg.ret v5))
theorem f27_MR (x0 : TV) : startQ prog 27 [x0] = f27_M x0 := by kernel_rfl

def f28_0_S  (x0 x1 y2 y3 y4 y5 y6 y7 y8 y9 y10 y11 y12 y13 w14 w15 : TV) : ASt := ⟨[AV.one CA.junk, AV.one (CA.ptr 0 0), AV.one (CA.ptr 1 0)] ++ List.replicate 13 (AV.one CA.junk) ++ [AV.tv x0, AV.tv x1] ++ List.replicate 22 (AV.one CA.junk), [Option.some (BC.cells [CA.t y2, CA.t y3, CA.sref 2 0 [], CA.t y4, CA.t y5, CA.sref 3 0 [], CA.t y6, CA.t y7, CA.t y8, CA.t y9, CA.t y10, CA.t y11, CA.t y12, CA.t y13]), Option.some (BC.cells [CA.junk, CA.junk, CA.junk, CA.junk, CA.junk, CA.junk, CA.junk, CA.junk, CA.junk, CA.junk, CA.junk, CA.junk, CA.junk, CA.junk]), Option.some (BC.tree [w14]), Option.some (BC.tree [w15])] ++ List.replicate 60 (Option.none), []⟩
def f28_1_S  (y0 y1 y2 y3 y4 y5 y6 y7 y8 y9 y10 y11 w12 w13 : TV) : ASt := ⟨[AV.one CA.junk, AV.one (CA.ptr 0 0), AV.one (CA.ptr 1 0)] ++ List.replicate 37 (AV.one CA.junk), [Option.some (BC.cells [CA.t y0, CA.t y1, CA.sref 2 0 [], CA.t y2, CA.t y3, CA.sref 3 0 [], CA.t y4, CA.t y5, CA.t y6, CA.t y7, CA.t y8, CA.t y9, CA.t y10, CA.t y11]), Option.some (BC.cells [CA.junk, CA.junk, CA.junk, CA.junk, CA.junk, CA.junk, CA.junk, CA.junk, CA.junk, CA.junk, CA.junk, CA.junk, CA.junk, CA.junk]), Option.some (BC.tree [w12]), Option.some (BC.tree [w13])] ++ List.replicate 60 (Option.none), []⟩
def f28_M (x0 : TV) : Prg TV :=
  Prg.chk (TV.isAgg x0 14) (
  Prg.call 39 [TV.cell x0 2] fun v0 =>
  Prg.chk (fitsAt z22 [v0] 0) (
  Prg.call 40 [TV.cell x0 5] fun v1 =>
  Prg.chk (fitsAt z22 [v1] 0) (
  Prg.tv (plen (Kd.slice 49) v1) fun v2 =>
  Prg.jmp [0, 0, 1, 0, 1, 1, 1] (f28_0_S v2 (TV.lit (Value.int IntKind.i64 (0 : Int))) (TV.cell x0 0) (TV.cell x0 1) (TV.cell x0 3) (TV.cell x0 4) (TV.cell x0 6) (TV.cell x0 7) (TV.cell x0 8) (TV.cell x0 9) (TV.cell x0 10) (TV.cell x0 11) (TV.cell x0 12) (TV.cell x0 13) v0 v1))))
-- [0, 0, 1, 0, 1, 1, 1]
def f28_0  (x0 x1 y2 y3 y4 y5 y6 y7 y8 y9 y10 y11 y12 y13 w14 w15 : TV) : Prg TV :=
  Prg.tv (pbin (Kd.int IntKind.i64) BinOp.lss x1 x0) fun v3 =>
  Prg.ite (asBool v3) (
    Prg.nat (slLen w15) fun n4 =>
    Prg.nat (asNat x1) fun n5 =>
    Prg.chk (Bool.and (slSize w15 7) (Nat.blt n5 n4)) (
    Prg.tvs (pel w15 n5) fun e6 =>
    Prg.chk (fitsAt z22 e6 6) (
    Prg.tv (getP [(n5, 6)] w15) fun v7 =>
    Prg.call 41 [frz v7] fun v8 =>
    Prg.chk (fitsAt z22 [v8] 0) (
    Prg.nat (slLen w15) fun n9 =>
    Prg.nat (asNat x1) fun n10 =>
    Prg.chk (Bool.and (slSize w15 7) (Nat.blt n10 n9)) (
    Prg.tvs (pel w15 n10) fun e11 =>
    Prg.chk (Bool.and (fitsAt z22 e11 6) (fitsAt z22 [v8] 0)) (
    Prg.tv (setC [] w15 n10 6 [v8]) fun v12 =>
    Prg.tv (pbin (Kd.int IntKind.i64) BinOp.add x1 (TV.lit (Value.int IntKind.i64 (1 : Int)))) fun v13 =>
    Prg.jmp [0, 0, 1, 0, 1, 1, 1] (f28_0_S x0 v13 y2 y3 y4 y5 y6 y7 y8 y9 y10 y11 y12 y13 w14 v12))))))) (
    Prg.jmp [1, 1, 1, 1] (f28_1_S y2 y3 y4 y5 y6 y7 y8 y9 y10 y11 y12 y13 w14 w15))
-- [1, 1, 1, 1]
def f28_1  (y0 y1 y2 y3 y4 y5 y6 y7 y8 y9 y10 y11 w12 w13 : TV) : Prg TV :=
  Prg.call 41 [y8] fun v14 =>
  Prg.chk (fitsAt z22 [v14] 0) (
  Prg.chk (isOwn (TV.agg [y0, y1, w12, y2, y3, w13, y4, y5, y6, y7, v14, y9, y10, y11])) (
  Prg.ret (TV.agg [y0, y1, w12, y2, y3, w13, y4, y5, y6, y7, v14, y9, y10, y11])))
theorem f28_MR (x0 : TV) : startQ prog 28 [x0] = f28_M x0 := by kernel_rfl
theorem f28_0_R  (x0 x1 y2 y3 y4 y5 y6 y7 y8 y9 y10 y11 y12 y13 w14 w15 : TV) : pieceQ prog 28 [0, 0, 1, 0, 1, 1, 1] (f28_0_S x0 x1 y2 y3 y4 y5 y6 y7 y8 y9 y10 y11 y12 y13 w14 w15) = f28_0 x0 x1 y2 y3 y4 y5 y6 y7 y8 y9 y10 y11 y12 y13 w14 w15 := by kernel_rfl
theorem f28_1_R  (y0 y1 y2 y3 y4 y5 y6 y7 y8 y9 y10 y11 w12 w13 : TV) : pieceQ prog 28 [1, 1, 1, 1] (f28_1_S y0 y1 y2 y3 y4 y5 y6 y7 y8 y9 y10 y11 w12 w13) = f28_1 y0 y1 y2 y3 y4 y5 y6 y7 y8 y9 y10 y11 w12 w13 := by kernel_rfl

def f29_0_S  (x0 x1 x2 x3 x4 : TV) : ASt := ⟨[AV.one CA.junk, AV.tv x0, AV.tv x1] ++ List.replicate 12 (AV.one CA.junk) ++ [AV.tv x2, AV.tv x3, AV.tv x4] ++ List.replicate 14 (AV.one CA.junk), List.replicate 56 (Option.none), []⟩
def f29_M (x0 x1 x2 : TV) : Prg TV :=
  Prg.tv (plen (Kd.slice 27) x0) fun v0 =>
  Prg.tv (plen (Kd.slice 27) x1) fun v1 =>
  Prg.tv (pbin (Kd.int IntKind.i64) BinOp.neq v0 v1) fun v2 =>
  Prg.ite (asBool v2) (
    Prg.ret (TV.lit (Value.bool false))) (
    Prg.tv (plen (Kd.slice 27) x0) fun v3 =>
    Prg.jmp [0, 0, 1, 0, 1, 1] (f29_0_S x1 x2 x0 v3 (TV.lit (Value.int IntKind.i64 (0 : Int)))))
-- [0, 0, 1, 0, 1, 1]
def f29_0  (x0 x1 x2 x3 x4 : TV) : Prg TV :=
  Prg.tv (pbin (Kd.int IntKind.i64) BinOp.lss x4 x3) fun v4 =>
  Prg.ite (asBool v4) (
    Prg.tvs (pidx 3 x2 x4) fun e5 =>
    Prg.chk (Nat.ble 3 (List.length e5)) (
    Prg.tvs (pidx 3 x0 x4) fun e6 =>
    Prg.chk (Nat.ble 3 (List.length e6)) (
    Prg.nat (fnOf x1) fun n7 =>
    Prg.call n7 [TV.agg [nth TV.hole e5 0, nth TV.hole e5 1, nth TV.hole e5 2], TV.agg [nth TV.hole e6 0, nth TV.hole e6 1, nth TV.hole e6 2]] fun v8 =>
    Prg.chk (TV.isSc v8) (
    Prg.tv (pun UnOp.not v8) fun v9 =>
    Prg.ite (asBool v9) (
      Prg.ret (TV.lit (Value.bool false))) (
      Prg.tv (pbin (Kd.int IntKind.i64) BinOp.add x4 (TV.lit (Value.int IntKind.i64 (1 : Int)))) fun v10 =>
      Prg.jmp [0, 0, 1, 0, 1, 1] (f29_0_S x0 x1 x2 x3 v10)))))) (
    Prg.ret (TV.lit (Value.bool true)))
theorem f29_MR (x0 x1 x2 : TV) : startQ prog 29 [x0, x1, x2] = f29_M x0 x1 x2 := by kernel_rfl
theorem f29_0_R  (x0 x1 x2 x3 x4 : TV) : pieceQ prog 29 [0, 0, 1, 0, 1, 1] (f29_0_S x0 x1 x2 x3 x4) = f29_0 x0 x1 x2 x3 x4 := by kernel_rfl

def f30_M (x0 x1 : TV) : Prg TV :=
  Prg.chk (TV.isAgg x0 3) (
  Prg.chk (TV.isAgg x1 3) (
  Prg.tv (pbin (Kd.int IntKind.i64) BinOp.eql (TV.cell x0 0) (TV.cell x1 0)) fun v0 =>
  Prg.ite (asBool v0) (
    Prg.tv (pbin (Kd.int IntKind.i64) BinOp.eql (TV.cell x0 1) (TV.cell x1 1)) fun v1 =>
    Prg.ite (asBool v1) (
      Prg.call 42 [TV.cell x0 2, TV.cell x1 2, TV.lit (Value.func (Fn.func 43) (Array.mk []) (Array.mk []))] fun v2 =>
      Prg.chk (fitsAt z4 [v2] 0) (
      Prg.ret v2)) (
      Prg.ret (TV.lit (Value.bool false)))) (
    Prg.ret (TV.lit (Value.bool false)))))
theorem f30_MR (x0 x1 : TV) : startQ prog 30 [x0, x1] = f30_M x0 x1 := by kernel_rfl

def f31_0_S  (x0 y1 y2 y3 y4 y5 y6 : TV) : ASt := ⟨[AV.one CA.junk, AV.one CA.junk, AV.one (CA.ptr 0 0), AV.one (CA.ptr 1 0), AV.one CA.junk, AV.tv x0] ++ List.replicate 90 (AV.one CA.junk), [Option.some (BC.cells [CA.t y1, CA.t y2, CA.t y3]), Option.some (BC.cells [CA.t y4, CA.t y5, CA.t y6])] ++ List.replicate 118 (Option.none), []⟩
def f31_1_S  (x0 x1 y2 y3 y4 y5 y6 y7 y8 y9 y10 y11 y12 y13 y14 y15 y16 y17 y18 y19 y20 y21 y22 y23 y24 y25 y26 y27 y28 y29 y30 y31 y32 y33 y34 y35 : TV) : ASt := ⟨[AV.one CA.junk, AV.one CA.junk, AV.one (CA.ptr 0 0), AV.one (CA.ptr 1 0), AV.one CA.junk, AV.tv x0, AV.one (CA.ptr 2 0), AV.one (CA.ptr 3 0), AV.tv x1] ++ List.replicate 87 (AV.one CA.junk), [Option.some (BC.cells [CA.t y2, CA.t y3, CA.t y4]), Option.some (BC.cells [CA.t y5, CA.t y6, CA.t y7]), Option.some (BC.cells [CA.t y8, CA.t y9, CA.t y10, CA.t y11, CA.t y12, CA.t y13, CA.t y14, CA.t y15, CA.t y16, CA.t y17, CA.t y18, CA.t y19, CA.t y20, CA.t y21]), Option.some (BC.cells [CA.t y22, CA.t y23, CA.t y24, CA.t y25, CA.t y26, CA.t y27, CA.t y28, CA.t y29, CA.t y30, CA.t y31, CA.t y32, CA.t y33, CA.t y34, CA.t y35])] ++ List.replicate 116 (Option.none), []⟩
def f31_M (x0 x1 : TV) : Prg TV :=
  Prg.chk (TV.isAgg x0 3) (
  Prg.chk (TV.isAgg x1 3) (
  Prg.tv (pbin (Kd.int IntKind.i64) BinOp.neq (TV.cell x0 0) (TV.cell x1 0)) fun v0 =>
  Prg.ite (asBool v0) (
    Prg.ret (TV.lit (Value.bool false))) (
    Prg.tv (pbin (Kd.int IntKind.i64) BinOp.neq (TV.cell x0 1) (TV.cell x1 1)) fun v1 =>
    Prg.ite (asBool v1) (
      Prg.ret (TV.lit (Value.bool false))) (
      Prg.tv (plen (Kd.slice 41) (TV.cell x0 2)) fun v2 =>
      Prg.tv (plen (Kd.slice 41) (TV.cell x1 2)) fun v3 =>
      Prg.tv (pbin (Kd.int IntKind.i64) BinOp.neq v2 v3) fun v4 =>
      Prg.ite (asBool v4) (
        Prg.ret (TV.lit (Value.bool false))) (
        Prg.jmp [0, 0, 1, 0, 1, 1] (f31_0_S (TV.lit (Value.int IntKind.i64 (0 : Int))) (TV.cell x0 0) (TV.cell x0 1) (TV.cell x0 2) (TV.cell x1 0) (TV.cell x1 1) (TV.cell x1 2)))))))
-- [0, 0, 1, 0, 1, 1]
def f31_0  (x0 y1 y2 y3 y4 y5 y6 : TV) : Prg TV :=
  Prg.tv (plen (Kd.slice 41) y3) fun v5 =>
  Prg.tv (pbin (Kd.int IntKind.i64) BinOp.lss x0 v5) fun v6 =>
  Prg.ite (asBool v6) (
    Prg.tvs (pidx 14 y3 x0) fun e7 =>
    Prg.chk (Nat.ble 14 (List.length e7)) (
    Prg.tvs (pidx 14 y6 x0) fun e8 =>
    Prg.chk (Nat.ble 14 (List.length e8)) (
    Prg.tv (pbin Kd.bool BinOp.neq (nth TV.hole e7 0) (nth TV.hole e8 0)) fun v9 =>
    Prg.ite (asBool v9) (
      Prg.ret (TV.lit (Value.bool false))) (
      Prg.call 44 [TV.agg [nth TV.hole e7 1, nth TV.hole e7 2, nth TV.hole e7 3, nth TV.hole e7 4], TV.agg [nth TV.hole e8 1, nth TV.hole e8 2, nth TV.hole e8 3, nth TV.hole e8 4]] fun v10 =>
      Prg.chk (fitsAt z4 [v10] 0) (
      Prg.tv (pun UnOp.not v10) fun v11 =>
      Prg.ite (asBool v11) (
        Prg.ret (TV.lit (Value.bool false))) (
        Prg.call 45 [TV.agg [nth TV.hole e7 6, nth TV.hole e7 7, nth TV.hole e7 8, nth TV.hole e7 9, nth TV.hole e7 10, nth TV.hole e7 11, nth TV.hole e7 12, nth TV.hole e7 13], TV.agg [nth TV.hole e8 6, nth TV.hole e8 7, nth TV.hole e8 8, nth TV.hole e8 9, nth TV.hole e8 10, nth TV.hole e8 11, nth TV.hole e8 12, nth TV.hole e8 13]] fun v12 =>
        Prg.chk (fitsAt z4 [v12] 0) (
        Prg.tv (pun UnOp.not v12) fun v13 =>
        Prg.ite (asBool v13) (
          Prg.ret (TV.lit (Value.bool false))) (
          Prg.tv (plen (Kd.slice 49) (nth TV.hole e7 5)) fun v14 =>
          Prg.tv (plen (Kd.slice 49) (nth TV.hole e8 5)) fun v15 =>
          Prg.tv (pbin (Kd.int IntKind.i64) BinOp.neq v14 v15) fun v16 =>
          Prg.ite (asBool v16) (
            Prg.ret (TV.lit (Value.bool false))) (
            Prg.jmp [0, 0, 1, 1, 1, 0, 0, 1, 0, 0, 1, 0, 1, 1] (f31_1_S x0 (TV.lit (Value.int IntKind.i64 (0 : Int))) y1 y2 y3 y4 y5 y6 (nth TV.hole e7 0) (nth TV.hole e7 1) (nth TV.hole e7 2) (nth TV.hole e7 3) (nth TV.hole e7 4) (nth TV.hole e7 5) (nth TV.hole e7 6) (nth TV.hole e7 7) (nth TV.hole e7 8) (nth TV.hole e7 9) (nth TV.hole e7 10) (nth TV.hole e7 11) (nth TV.hole e7 12) (nth TV.hole e7 13) (nth TV.hole e8 0) (nth TV.hole e8 1) (nth TV.hole e8 2) (nth TV.hole e8 3) (nth TV.hole e8 4) (nth TV.hole e8 5) (nth TV.hole e8 6) (nth TV.hole e8 7) (nth TV.hole e8 8) (nth TV.hole e8 9) (nth TV.hole e8 10) (nth TV.hole e8 11) (nth TV.hole e8 12) (nth TV.hole e8 13))))))))))) (
    Prg.ret (TV.lit (Value.bool true)))
-- [0, 0, 1, 1, 1, 0, 0, 1, 0, 0, 1, 0, 1, 1]
def f31_1  (x0 x1 y2 y3 y4 y5 y6 y7 y8 y9 y10 y11 y12 y13 y14 y15 y16 y17 y18 y19 y20 y21 y22 y23 y24 y25 y26 y27 y28 y29 y30 y31 y32 y33 y34 y35 : TV) : Prg TV :=
  Prg.tv (plen (Kd.slice 49) y13) fun v17 =>
  Prg.tv (pbin (Kd.int IntKind.i64) BinOp.lss x1 v17) fun v18 =>
  Prg.ite (asBool v18) (
    Prg.tvs (pidx 7 y13 x1) fun e19 =>
    Prg.chk (Nat.ble 7 (List.length e19)) (
    Prg.tvs (pidx 7 y27 x1) fun e20 =>
    Prg.chk (Nat.ble 7 (List.length e20)) (
    Prg.call 46 [TV.agg [nth TV.hole e19 0, nth TV.hole e19 1, nth TV.hole e19 2, nth TV.hole e19 3, nth TV.hole e19 4, nth TV.hole e19 5, nth TV.hole e19 6], TV.agg [nth TV.hole e20 0, nth TV.hole e20 1, nth TV.hole e20 2, nth TV.hole e20 3, nth TV.hole e20 4, nth TV.hole e20 5, nth TV.hole e20 6]] fun v21 =>
    Prg.chk (fitsAt z4 [v21] 0) (
    Prg.tv (pun UnOp.not v21) fun v22 =>
    Prg.ite (asBool v22) (
      Prg.ret (TV.lit (Value.bool false))) (
      Prg.tv (pbin (Kd.int IntKind.i64) BinOp.add x1 (TV.lit (Value.int IntKind.i64 (1 : Int)))) fun v23 =>
      Prg.jmp [0, 0, 1, 1, 1, 0, 0, 1, 0, 0, 1, 0, 1, 1] (f31_1_S x0 v23 y2 y3 y4 y5 y6 y7 y8 y9 y10 y11 y12 y13 y14 y15 y16 y17 y18 y19 y20 y21 y22 y23 y24 y25 y26 y27 y28 y29 y30 y31 y32 y33 y34 y35)))))) (
    Prg.tv (pbin (Kd.int IntKind.i64) BinOp.add x0 (TV.lit (Value.int IntKind.i64 (1 : Int)))) fun v24 =>
    Prg.jmp [0, 0, 1, 0, 1, 1] (f31_0_S v24 y2 y3 y4 y5 y6 y7))
theorem f31_MR (x0 x1 : TV) : startQ prog 31 [x0, x1] = f31_M x0 x1 := by kernel_rfl
theorem f31_0_R  (x0 y1 y2 y3 y4 y5 y6 : TV) : pieceQ prog 31 [0, 0, 1, 0, 1, 1] (f31_0_S x0 y1 y2 y3 y4 y5 y6) = f31_0 x0 y1 y2 y3 y4 y5 y6 := by kernel_rfl
theorem f31_1_R  (x0 x1 y2 y3 y4 y5 y6 y7 y8 y9 y10 y11 y12 y13 y14 y15 y16 y17 y18 y19 y20 y21 y22 y23 y24 y25 y26 y27 y28 y29 y30 y31 y32 y33 y34 y35 : TV) : pieceQ prog 31 [0, 0, 1, 1, 1, 0, 0, 1, 0, 0, 1, 0, 1, 1] (f31_1_S x0 x1 y2 y3 y4 y5 y6 y7 y8 y9 y10 y11 y12 y13 y14 y15 y16 y17 y18 y19 y20 y21 y22 y23 y24 y25 y26 y27 y28 y29 y30 y31 y32 y33 y34 y35) = f31_1 x0 x1 y2 y3 y4 y5 y6 y7 y8 y9 y10 y11 y12 y13 y14 y15 y16 y17 y18 y19 y20 y21 y22 y23 y24 y25 y26 y27 y28 y29 y30 y31 y32 y33 y34 y35 := by kernel_rfl

def f32_M (x0 x1 x2 : TV) : Prg TV :=
  Prg.chk (TV.isAgg x0 4) (
  Prg.chk (TV.isAgg x2 4) (
  Prg.tv (pun UnOp.not x1) fun v0 =>
  Prg.ite (asBool v0) (
    Prg.tv (pbin (Kd.int IntKind.i64) BinOp.eql (TV.cell x2 0) (TV.lit (Value.int IntKind.i64 (0 : Int)))) fun v1 =>
    Prg.ite (asBool v1) (
      Prg.tv (plen (Kd.slice 44) (TV.cell x2 1)) fun v2 =>
      Prg.tv (pbin (Kd.int IntKind.i64) BinOp.eql v2 (TV.lit (Value.int IntKind.i64 (0 : Int)))) fun v3 =>
      Prg.ite (asBool v3) (
        Prg.tv (pun UnOp.not (TV.cell x2 2)) fun v4 =>
        Prg.ite (asBool v4) (
          Prg.tv (pun UnOp.not (TV.cell x2 3)) fun v5 =>
          Prg.ret v5) (
          Prg.ret (TV.lit (Value.bool false)))) (
        Prg.ret (TV.lit (Value.bool false)))) (
      Prg.ret (TV.lit (Value.bool false)))) (
    Prg.call 47 [TV.agg [TV.cell x0 0, TV.cell x0 1, TV.cell x0 2, TV.cell x0 3], TV.lit (Value.bool true), TV.cell x2 0] fun v6 =>
    Prg.chk (fitsAt z4 [v6] 0) (
    Prg.ite (asBool v6) (
      Prg.tv (plen (Kd.slice 44) (TV.cell x2 1)) fun v7 =>
      Prg.tv (pbin (Kd.int IntKind.i64) BinOp.leq v7 (TV.lit (Value.int IntKind.i64 (8 : Int)))) fun v8 =>
      Prg.ite (asBool v8) (
        Prg.call 48 [TV.cell x2 1] fun v9 =>
        Prg.chk (fitsAt z4 [v9] 0) (
        Prg.ite (asBool v9) (
          Prg.tv (plen (Kd.slice 44) (TV.cell x2 1)) fun v10 =>
          Prg.tv (pbin (Kd.int IntKind.i64) BinOp.gtr v10 (TV.lit (Value.int IntKind.i64 (0 : Int)))) fun v11 =>
          Prg.ite (asBool v11) (
            Prg.ret (TV.lit (Value.bool true))) (
            Prg.ite (asBool (TV.cell x2 2)) (
              Prg.ret (TV.lit (Value.bool true))) (
              Prg.ret (TV.cell x2 3)))) (
          Prg.ret (TV.lit (Value.bool false))))) (
        Prg.ret (TV.lit (Value.bool false)))) (
      Prg.ret (TV.lit (Value.bool false)))))))
theorem f32_MR (x0 x1 x2 : TV) : startQ prog 32 [x0, x1, x2] = f32_M x0 x1 x2 := by kernel_rfl

def f33_M (x0 x1 : TV) : Prg TV :=
  Prg.chk (TV.isAgg x0 4) (
  Prg.chk (TV.isAgg x1 7) (
  Prg.call 49 [TV.cell x1 0] fun v0 =>
  Prg.chk (fitsAt z2 [v0] 0) (
  Prg.call 25 [v0, TV.lit (Value.int IntKind.i64 (1 : Int))] fun v1 =>
  Prg.chk (fitsAt z4 [v1] 0) (
  Prg.ite (asBool v1) (
    Prg.call 25 [v0, TV.lit (Value.int IntKind.i64 (2 : Int))] fun v2 =>
    Prg.chk (fitsAt z4 [v2] 0) (
    Prg.call 47 [TV.agg [TV.cell x0 0, TV.cell x0 1, TV.cell x0 2, TV.cell x0 3], v2, TV.cell x1 1] fun v3 =>
    Prg.chk (fitsAt z4 [v3] 0) (
    Prg.ite (asBool v3) (
      Prg.call 25 [v0, TV.lit (Value.int IntKind.i64 (4 : Int))] fun v4 =>
      Prg.chk (fitsAt z4 [v4] 0) (
      Prg.call 47 [TV.agg [TV.cell x0 0, TV.cell x0 1, TV.cell x0 2, TV.cell x0 3], v4, TV.cell x1 2] fun v5 =>
      Prg.chk (fitsAt z4 [v5] 0) (
      Prg.ite (asBool v5) (
        Prg.call 25 [v0, TV.lit (Value.int IntKind.i64 (8 : Int))] fun v6 =>
        Prg.chk (fitsAt z4 [v6] 0) (
        Prg.call 47 [TV.agg [TV.cell x0 0, TV.cell x0 1, TV.cell x0 2, TV.cell x0 3], v6, TV.cell x1 3] fun v7 =>
        Prg.chk (fitsAt z4 [v7] 0) (
        Prg.ite (asBool v7) (
          Prg.call 25 [v0, TV.lit (Value.int IntKind.i64 (16 : Int))] fun v8 =>
          Prg.chk (fitsAt z4 [v8] 0) (
          Prg.ite (asBool v8) (
            Prg.call 25 [v0, TV.lit (Value.int IntKind.i64 (32 : Int))] fun v9 =>
            Prg.chk (fitsAt z4 [v9] 0) (
            Prg.call 50 [TV.agg [TV.cell x0 0, TV.cell x0 1, TV.cell x0 2, TV.cell x0 3], v9, TV.cell x1 5, TV.cell x1 6] fun v10 =>
            Prg.chk (fitsAt z4 [v10] 0) (
            Prg.ret v10))) (
            Prg.tv (pbin (Kd.int IntKind.u16) BinOp.eql (TV.cell x1 4) (TV.lit (Value.int IntKind.u16 (0 : Int)))) fun v11 =>
            Prg.ite (asBool v11) (
              Prg.call 25 [v0, TV.lit (Value.int IntKind.i64 (32 : Int))] fun v12 =>
              Prg.chk (fitsAt z4 [v12] 0) (
              Prg.call 50 [TV.agg [TV.cell x0 0, TV.cell x0 1, TV.cell x0 2, TV.cell x0 3], v12, TV.cell x1 5, TV.cell x1 6] fun v13 =>
              Prg.chk (fitsAt z4 [v13] 0) (
              Prg.ret v13))) (
              Prg.ret (TV.lit (Value.bool false)))))) (
          Prg.ret (TV.lit (Value.bool false)))))) (
        Prg.ret (TV.lit (Value.bool false)))))) (
      Prg.ret (TV.lit (Value.bool false)))))) (
    Prg.ret (TV.lit (Value.bool false)))))))
theorem f33_MR (x0 x1 : TV) : startQ prog 33 [x0, x1] = f33_M x0 x1 := by kernel_rfl

def f34_M (x0 x1 : TV) : Prg TV :=
  Prg.chk (TV.isAgg x0 4) (
  Prg.chk (TV.isAgg x1 8) (
  Prg.call 24 [TV.cell x1 0] fun v0 =>
  Prg.chk (fitsAt z2 [v0] 0) (
  Prg.call 25 [v0, TV.lit (Value.int IntKind.i64 (1 : Int))] fun v1 =>
  Prg.chk (fitsAt z4 [v1] 0) (
  Prg.ite (asBool v1) (
    Prg.call 25 [v0, TV.lit (Value.int IntKind.i64 (4 : Int))] fun v2 =>
    Prg.chk (fitsAt z4 [v2] 0) (
    Prg.call 47 [TV.agg [TV.cell x0 0, TV.cell x0 1, TV.cell x0 2, TV.cell x0 3], v2, TV.cell x1 1] fun v3 =>
    Prg.chk (fitsAt z4 [v3] 0) (
    Prg.ite (asBool v3) (
      Prg.call 25 [v0, TV.lit (Value.int IntKind.i64 (2 : Int))] fun v4 =>
      Prg.chk (fitsAt z4 [v4] 0) (
      Prg.call 47 [TV.agg [TV.cell x0 0, TV.cell x0 1, TV.cell x0 2, TV.cell x0 3], v4, TV.cell x1 2] fun v5 =>
      Prg.chk (fitsAt z4 [v5] 0) (
      Prg.ite (asBool v5) (
        Prg.call 25 [v0, TV.lit (Value.int IntKind.i64 (32 : Int))] fun v6 =>
        Prg.chk (fitsAt z4 [v6] 0) (
        Prg.call 50 [TV.agg [TV.cell x0 0, TV.cell x0 1, TV.cell x0 2, TV.cell x0 3], v6, TV.cell x1 3, TV.cell x1 4] fun v7 =>
        Prg.chk (fitsAt z4 [v7] 0) (
        Prg.ite (asBool v7) (
          Prg.call 25 [v0, TV.lit (Value.int IntKind.i64 (64 : Int))] fun v8 =>
          Prg.chk (fitsAt z4 [v8] 0) (
          Prg.call 51 [TV.agg [TV.cell x0 0, TV.cell x0 1, TV.cell x0 2, TV.cell x0 3], v8, TV.cell x1 5, TV.lit (Value.bool false)] fun v9 =>
          Prg.chk (fitsAt z4 [v9] 0) (
          Prg.ite (asBool v9) (
            Prg.call 25 [v0, TV.lit (Value.int IntKind.i64 (128 : Int))] fun v10 =>
            Prg.chk (fitsAt z4 [v10] 0) (
            Prg.call 51 [TV.agg [TV.cell x0 0, TV.cell x0 1, TV.cell x0 2, TV.cell x0 3], v10, TV.cell x1 6, TV.lit (Value.bool false)] fun v11 =>
            Prg.chk (fitsAt z4 [v11] 0) (
            Prg.ite (asBool v11) (
              Prg.call 25 [v0, TV.lit (Value.int IntKind.i64 (256 : Int))] fun v12 =>
              Prg.chk (fitsAt z4 [v12] 0) (
              Prg.call 51 [TV.agg [TV.cell x0 0, TV.cell x0 1, TV.cell x0 2, TV.cell x0 3], v12, TV.cell x1 7, TV.lit (Value.bool true)] fun v13 =>
              Prg.chk (fitsAt z4 [v13] 0) (
              Prg.ret v13))) (
              Prg.ret (TV.lit (Value.bool false)))))) (
            Prg.ret (TV.lit (Value.bool false)))))) (
          Prg.ret (TV.lit (Value.bool false)))))) (
        Prg.ret (TV.lit (Value.bool false)))))) (
      Prg.ret (TV.lit (Value.bool false)))))) (
    Prg.ret (TV.lit (Value.bool false)))))))
theorem f34_MR (x0 x1 : TV) : startQ prog 34 [x0, x1] = f34_M x0 x1 := by kernel_rfl

def f35_M (x0 x1 : TV) : Prg TV :=
  Prg.tv (pbin (Kd.int IntKind.i64) BinOp.geq x0 (TV.lit (Value.int IntKind.i64 (0 : Int)))) fun v0 =>
  Prg.ite (asBool v0) (
    Prg.tv (pbin (Kd.int IntKind.i64) BinOp.lss x0 x1) fun v1 =>
    Prg.ret v1) (
    Prg.ret (TV.lit (Value.bool false)))
theorem f35_MR (x0 x1 : TV) : startQ prog 35 [x0, x1] = f35_M x0 x1 := by kernel_rfl

def f36_M (x0 x1 : TV) : Prg TV :=
  Prg.chk (TV.isAgg x0 3) (
  Prg.tv (plen (Kd.slice 41) (TV.cell x0 2)) fun v0 =>
  Prg.call 35 [x1, v0] fun v1 =>
  Prg.chk (fitsAt z4 [v1] 0) (
  Prg.ite (asBool v1) (
    Prg.tvs (pidx 14 (TV.cell x0 2) x1) fun e2 =>
    Prg.chk (Nat.blt 0 (List.length e2)) (
    Prg.tv (pun UnOp.not (nth TV.hole e2 0)) fun v3 =>
    Prg.ret v3)) (
    Prg.ret (TV.lit (Value.bool false)))))
theorem f36_MR (x0 x1 : TV) : startQ prog 36 [x0, x1] = f36_M x0 x1 := by kernel_rfl

def f37_0_S  (x0 x1 y2 y3 y4 : TV) : ASt := ⟨[AV.one CA.junk, AV.one CA.junk, AV.one CA.junk, AV.tv x0, AV.one CA.junk, AV.one (CA.ptr 0 0), AV.one CA.junk, AV.one CA.junk, AV.one CA.junk, AV.tv x1] ++ List.replicate 31 (AV.one CA.junk), [Option.some (BC.cells [CA.t y2, CA.t y3, CA.t y4])] ++ List.replicate 64 (Option.none), []⟩
def f37_M (x0 x1 x2 x3 : TV) : Prg TV :=
  Prg.chk (TV.isAgg x0 1) (
  Prg.chk (TV.isAgg x1 3) (
  Prg.tv (plen (Kd.slice 27) (TV.cell x0 0)) fun v0 =>
  Prg.call 35 [x2, v0] fun v1 =>
  Prg.chk (fitsAt z4 [v1] 0) (
  Prg.tv (pun UnOp.not v1) fun v2 =>
  Prg.ite (asBool v2) (
    Prg.ret (TV.lit (Value.bool false))) (
    Prg.tv (plen (Kd.slice 3) x3) fun v3 =>
    Prg.tvs (pidx 3 (TV.cell x0 0) x2) fun e4 =>
    Prg.chk (Nat.blt 0 (List.length e4)) (
    Prg.tv (pbin (Kd.int IntKind.i64) BinOp.neq v3 (nth TV.hole e4 0)) fun v5 =>
    Prg.ite (asBool v5) (
      Prg.ret (TV.lit (Value.bool false))) (
      Prg.jmp [0, 0, 1, 0, 1, 1] (f37_0_S x3 (TV.lit (Value.int IntKind.i64 (0 : Int))) (TV.cell x1 0) (TV.cell x1 1) (TV.cell x1 2))))))))
-- [0, 0, 1, 0, 1, 1]
def f37_0  (x0 x1 y2 y3 y4 : TV) : Prg TV :=
  Prg.tv (plen (Kd.slice 3) x0) fun v6 =>
  Prg.tv (pbin (Kd.int IntKind.i64) BinOp.lss x1 v6) fun v7 =>
  Prg.ite (asBool v7) (
    Prg.tvs (pidx 1 x0 x1) fun e8 =>
    Prg.chk (Nat.blt 0 (List.length e8)) (
    Prg.call 35 [nth TV.hole e8 0, y3] fun v9 =>
    Prg.chk (fitsAt z4 [v9] 0) (
    Prg.tv (pun UnOp.not v9) fun v10 =>
    Prg.ite (asBool v10) (
      Prg.ret (TV.lit (Value.bool false))) (
      Prg.tv (pbin (Kd.int IntKind.i64) BinOp.add x1 (TV.lit (Value.int IntKind.i64 (1 : Int)))) fun v11 =>
      Prg.jmp [0, 0, 1, 0, 1, 1] (f37_0_S x0 v11 y2 y3 y4))))) (
    Prg.ret (TV.lit (Value.bool true)))
theorem f37_MR (x0 x1 x2 x3 : TV) : startQ prog 37 [x0, x1, x2, x3] = f37_M x0 x1 x2 x3 := by kernel_rfl
theorem f37_0_R  (x0 x1 y2 y3 y4 : TV) : pieceQ prog 37 [0, 0, 1, 0, 1, 1] (f37_0_S x0 x1 y2 y3 y4) = f37_0 x0 x1 y2 y3 y4 := by kernel_rfl

def f38_M (x0 x1 x2 : TV) : Prg TV :=
  Prg.tv (pbin (Kd.int IntKind.u16) BinOp.eql x0 (TV.lit (Value.int IntKind.u16 (0 : Int)))) fun v0 =>
  Prg.ite (asBool v0) (
    Prg.tv (pbin (Kd.int IntKind.i64) BinOp.eql x1 (TV.lit (Value.int IntKind.i64 (0 : Int)))) fun v1 =>
    Prg.ite (asBool v1) (
      Prg.tv (plen (Kd.slice 3) x2) fun v2 =>
      Prg.tv (pbin (Kd.int IntKind.i64) BinOp.eql v2 (TV.lit (Value.int IntKind.i64 (0 : Int)))) fun v3 =>
      Prg.ret v3) (
      Prg.ret (TV.lit (Value.bool false)))) (
    Prg.ret (TV.lit (Value.bool false)))
theorem f38_MR (x0 x1 x2 : TV) : startQ prog 38 [x0, x1, x2] = f38_M x0 x1 x2 := by kernel_rfl

def f39_M (x0 : TV) : Prg TV :=
  Prg.tv (pbin (Kd.slice 44) BinOp.eql x0 (TV.lit (Value.slice Option.none 0 0))) fun v0 =>
  Prg.ite (asBool v0) (
    Prg.chk true (
    Prg.ret (TV.lit (Value.slice Option.none 0 0)))) (
    Prg.tv (plen (Kd.slice 44) x0) fun v1 =>
    Prg.nat (asNat v1) fun n2 =>
    Prg.nat (asNat v1) fun n3 =>
    Prg.chk (Bool.and (Nat.ble n2 n3) (Nat.ble n3 4294967296)) (
    Prg.rws (pelems 1 x0) fun r4 =>
    Prg.tv (pcopy 1 (TV.sl true 1 (List.replicate n2 [TV.lit (Value.int IntKind.u16 (0 : Int))])) r4) fun v5 =>
    Prg.nat (slLen (TV.sl true 1 (List.replicate n2 [TV.lit (Value.int IntKind.u16 (0 : Int))]))) fun n6 =>
    Prg.chk (isOwn v5) (
    Prg.ret v5)))
theorem f39_MR (x0 : TV) : startQ prog 39 [x0] = f39_M x0 := by kernel_rfl

def f40_M (x0 : TV) : Prg TV :=
  Prg.tv (pbin (Kd.slice 49) BinOp.eql x0 (TV.lit (Value.slice Option.none 0 0))) fun v0 =>
  Prg.ite (asBool v0) (
    Prg.ret (TV.lit (Value.slice Option.none 0 0))) (
    Prg.tv (plen (Kd.slice 49) x0) fun v1 =>
    Prg.nat (asNat v1) fun n2 =>
    Prg.nat (asNat v1) fun n3 =>
    Prg.chk (Bool.and (Nat.ble n2 n3) (Nat.ble n3 4294967296)) (
    Prg.rws (pelems 7 x0) fun r4 =>
    Prg.tv (pcopy 7 (TV.sl true 7 (List.replicate n2 [TV.lit (Value.int IntKind.i64 (0 : Int)), TV.lit (Value.int IntKind.i64 (0 : Int)), TV.lit (Value.int IntKind.i64 (0 : Int)), TV.lit (Value.int IntKind.i64 (0 : Int)), TV.lit (Value.int IntKind.u16 (0 : Int)), TV.lit (Value.int IntKind.i64 (0 : Int)), TV.lit (Value.slice Option.none 0 0)])) r4) fun v5 =>
    Prg.nat (slLen (TV.sl true 7 (List.replicate n2 [TV.lit (Value.int IntKind.i64 (0 : Int)), TV.lit (Value.int IntKind.i64 (0 : Int)), TV.lit (Value.int IntKind.i64 (0 : Int)), TV.lit (Value.int IntKind.i64 (0 : Int)), TV.lit (Value.int IntKind.u16 (0 : Int)), TV.lit (Value.int IntKind.i64 (0 : Int)), TV.lit (Value.slice Option.none 0 0)]))) fun n6 =>
    Prg.ret v5))
theorem f40_MR (x0 : TV) : startQ prog 40 [x0] = f40_M x0 := by kernel_rfl

def f41_M (x0 : TV) : Prg TV :=
  Prg.tv (pbin (Kd.slice 3) BinOp.eql x0 (TV.lit (Value.slice Option.none 0 0))) fun v0 =>
  Prg.ite (asBool v0) (
    Prg.chk true (
    Prg.ret (TV.lit (Value.slice Option.none 0 0)))) (
    Prg.tv (plen (Kd.slice 3) x0) fun v1 =>
    Prg.nat (asNat v1) fun n2 =>
    Prg.nat (asNat v1) fun n3 =>
    Prg.chk (Bool.and (Nat.ble n2 n3) (Nat.ble n3 4294967296)) (
    Prg.rws (pelems 1 x0) fun r4 =>
    Prg.tv (pcopy 1 (TV.sl true 1 (List.replicate n2 [TV.lit (Value.int IntKind.i64 (0 : Int))])) r4) fun v5 =>
    Prg.nat (slLen (TV.sl true 1 (List.replicate n2 [TV.lit (Value.int IntKind.i64 (0 : Int))]))) fun n6 =>
    Prg.chk (isOwn v5) (
    Prg.ret v5)))
theorem f41_MR (x0 : TV) : startQ prog 41 [x0] = f41_M x0 := by kernel_rfl

def f42_0_S  (x0 x1 x2 x3 x4 : TV) : ASt := ⟨[AV.one CA.junk, AV.tv x0, AV.tv x1] ++ List.replicate 12 (AV.one CA.junk) ++ [AV.tv x2, AV.tv x3, AV.tv x4] ++ List.replicate 14 (AV.one CA.junk), List.replicate 56 (Option.none), []⟩
def f42_M (x0 x1 x2 : TV) : Prg TV :=
  Prg.tv (plen (Kd.slice 41) x0) fun v0 =>
  Prg.tv (plen (Kd.slice 41) x1) fun v1 =>
  Prg.tv (pbin (Kd.int IntKind.i64) BinOp.neq v0 v1) fun v2 =>
  Prg.ite (asBool v2) (
    Prg.ret (TV.lit (Value.bool false))) (
    Prg.tv (plen (Kd.slice 41) x0) fun v3 =>
    Prg.jmp [0, 0, 1, 0, 1, 1] (f42_0_S x1 x2 x0 v3 (TV.lit (Value.int IntKind.i64 (0 : Int)))))
-- [0, 0, 1, 0, 1, 1]
def f42_0  (x0 x1 x2 x3 x4 : TV) : Prg TV :=
  Prg.tv (pbin (Kd.int IntKind.i64) BinOp.lss x4 x3) fun v4 =>
  Prg.ite (asBool v4) (
    Prg.tvs (pidx 14 x2 x4) fun e5 =>
    Prg.chk (Nat.ble 14 (List.length e5)) (
    Prg.tvs (pidx 14 x0 x4) fun e6 =>
    Prg.chk (Nat.ble 14 (List.length e6)) (
    Prg.nat (fnOf x1) fun n7 =>
    Prg.call n7 [TV.agg [nth TV.hole e5 0, nth TV.hole e5 1, nth TV.hole e5 2, nth TV.hole e5 3, nth TV.hole e5 4, nth TV.hole e5 5, nth TV.hole e5 6, nth TV.hole e5 7, nth TV.hole e5 8, nth TV.hole e5 9, nth TV.hole e5 10, nth TV.hole e5 11, nth TV.hole e5 12, nth TV.hole e5 13], TV.agg [nth TV.hole e6 0, nth TV.hole e6 1, nth TV.hole e6 2, nth TV.hole e6 3, nth TV.hole e6 4, nth TV.hole e6 5, nth TV.hole e6 6, nth TV.hole e6 7, nth TV.hole e6 8, nth TV.hole e6 9, nth TV.hole e6 10, nth TV.hole e6 11, nth TV.hole e6 12, nth TV.hole e6 13]] fun v8 =>
    Prg.chk (TV.isSc v8) (
    Prg.tv (pun UnOp.not v8) fun v9 =>
    Prg.ite (asBool v9) (
      Prg.ret (TV.lit (Value.bool false))) (
      Prg.tv (pbin (Kd.int IntKind.i64) BinOp.add x4 (TV.lit (Value.int IntKind.i64 (1 : Int)))) fun v10 =>
      Prg.jmp [0, 0, 1, 0, 1, 1] (f42_0_S x0 x1 x2 x3 v10)))))) (
    Prg.ret (TV.lit (Value.bool true)))
theorem f42_MR (x0 x1 x2 : TV) : startQ prog 42 [x0, x1, x2] = f42_M x0 x1 x2 := by kernel_rfl
theorem f42_0_R  (x0 x1 x2 x3 x4 : TV) : pieceQ prog 42 [0, 0, 1, 0, 1, 1] (f42_0_S x0 x1 x2 x3 x4) = f42_0 x0 x1 x2 x3 x4 := by kernel_rfl

def f43_M (x0 x1 : TV) : Prg TV :=
  Prg.chk (TV.isAgg x0 14) (
  Prg.chk (TV.isAgg x1 14) (
  Prg.tv (pbin Kd.bool BinOp.eql (TV.cell x0 0) (TV.cell x1 0)) fun v0 =>
  Prg.ite (asBool v0) (
    Prg.call 52 [TV.agg [TV.cell x0 1, TV.cell x0 2, TV.cell x0 3, TV.cell x0 4], TV.agg [TV.cell x1 1, TV.cell x1 2, TV.cell x1 3, TV.cell x1 4]] fun v1 =>
    Prg.chk (fitsAt z4 [v1] 0) (
    Prg.ite (asBool v1) (
      Prg.call 53 [TV.cell x0 5, TV.cell x1 5, TV.lit (Value.func (Fn.func 54) (Array.mk []) (Array.mk []))] fun v2 =>
      Prg.chk (fitsAt z4 [v2] 0) (
      Prg.ite (asBool v2) (
        Prg.call 55 [TV.agg [TV.cell x0 6, TV.cell x0 7, TV.cell x0 8, TV.cell x0 9, TV.cell x0 10, TV.cell x0 11, TV.cell x0 12, TV.cell x0 13], TV.agg [TV.cell x1 6, TV.cell x1 7, TV.cell x1 8, TV.cell x1 9, TV.cell x1 10, TV.cell x1 11, TV.cell x1 12, TV.cell x1 13]] fun v3 =>
        Prg.chk (fitsAt z4 [v3] 0) (
        Prg.ret v3)) (
        Prg.ret (TV.lit (Value.bool false))))) (
      Prg.ret (TV.lit (Value.bool false))))) (
    Prg.ret (TV.lit (Value.bool false)))))
theorem f43_MR (x0 x1 : TV) : startQ prog 43 [x0, x1] = f43_M x0 x1 := by kernel_rfl

def f44_0_S  (x0 y1 y2 y3 y4 y5 y6 y7 y8 : TV) : ASt := ⟨[AV.one CA.junk, AV.one CA.junk, AV.one (CA.ptr 0 0), AV.one (CA.ptr 1 0), AV.one CA.junk, AV.tv x0] ++ List.replicate 46 (AV.one CA.junk), [Option.some (BC.cells [CA.t y1, CA.t y2, CA.t y3, CA.t y4]), Option.some (BC.cells [CA.t y5, CA.t y6, CA.t y7, CA.t y8])] ++ List.replicate 74 (Option.none), []⟩
def f44_M (x0 x1 : TV) : Prg TV :=
  Prg.chk (TV.isAgg x0 4) (
  Prg.chk (TV.isAgg x1 4) (
  Prg.tv (pbin (Kd.int IntKind.i64) BinOp.neq (TV.cell x0 0) (TV.cell x1 0)) fun v0 =>
  Prg.ite (asBool v0) (
    Prg.ret (TV.lit (Value.bool false))) (
    Prg.tv (pbin Kd.bool BinOp.neq (TV.cell x0 2) (TV.cell x1 2)) fun v1 =>
    Prg.ite (asBool v1) (
      Prg.ret (TV.lit (Value.bool false))) (
      Prg.tv (pbin Kd.bool BinOp.neq (TV.cell x0 3) (TV.cell x1 3)) fun v2 =>
      Prg.ite (asBool v2) (
        Prg.ret (TV.lit (Value.bool false))) (
        Prg.tv (plen (Kd.slice 44) (TV.cell x0 1)) fun v3 =>
        Prg.tv (plen (Kd.slice 44) (TV.cell x1 1)) fun v4 =>
        Prg.tv (pbin (Kd.int IntKind.i64) BinOp.neq v3 v4) fun v5 =>
        Prg.ite (asBool v5) (
          Prg.ret (TV.lit (Value.bool false))) (
          Prg.jmp [0, 0, 1, 0, 1, 1] (f44_0_S (TV.lit (Value.int IntKind.i64 (0 : Int))) (TV.cell x0 0) (TV.cell x0 1) (TV.cell x0 2) (TV.cell x0 3) (TV.cell x1 0) (TV.cell x1 1) (TV.cell x1 2) (TV.cell x1 3))))))))
-- [0, 0, 1, 0, 1, 1]
def f44_0  (x0 y1 y2 y3 y4 y5 y6 y7 y8 : TV) : Prg TV :=
  Prg.tv (plen (Kd.slice 44) y2) fun v6 =>
  Prg.tv (pbin (Kd.int IntKind.i64) BinOp.lss x0 v6) fun v7 =>
  Prg.ite (asBool v7) (
    Prg.tvs (pidx 1 y2 x0) fun e8 =>
    Prg.chk (Nat.blt 0 (List.length e8)) (
    Prg.tvs (pidx 1 y6 x0) fun e9 =>
    Prg.chk (Nat.blt 0 (List.length e9)) (
    Prg.tv (pbin (Kd.int IntKind.u16) BinOp.neq (nth TV.hole e8 0) (nth TV.hole e9 0)) fun v10 =>
    Prg.ite (asBool v10) (
      Prg.ret (TV.lit (Value.bool false))) (
      Prg.tv (pbin (Kd.int IntKind.i64) BinOp.add x0 (TV.lit (Value.int IntKind.i64 (1 : Int)))) fun v11 =>
      Prg.jmp [0, 0, 1, 0, 1, 1] (f44_0_S v11 y1 y2 y3 y4 y5 y6 y7 y8))))) (
    Prg.ret (TV.lit (Value.bool true)))
theorem f44_MR (x0 x1 : TV) : startQ prog 44 [x0, x1] = f44_M x0 x1 := by kernel_rfl
theorem f44_0_R  (x0 y1 y2 y3 y4 y5 y6 y7 y8 : TV) : pieceQ prog 44 [0, 0, 1, 0, 1, 1] (f44_0_S x0 y1 y2 y3 y4 y5 y6 y7 y8) = f44_0 x0 y1 y2 y3 y4 y5 y6 y7 y8 := by kernel_rfl

def f45_M (x0 x1 : TV) : Prg TV :=
  Prg.chk (TV.isAgg x0 8) (
  Prg.chk (TV.isAgg x1 8) (
  Prg.tv (pbin (Kd.int IntKind.i64) BinOp.eql (TV.cell x0 0) (TV.cell x1 0)) fun v0 =>
  Prg.ite (asBool v0) (
    Prg.tv (pbin (Kd.int IntKind.i64) BinOp.eql (TV.cell x0 1) (TV.cell x1 1)) fun v1 =>
    Prg.ite (asBool v1) (
      Prg.tv (pbin (Kd.int IntKind.i64) BinOp.eql (TV.cell x0 2) (TV.cell x1 2)) fun v2 =>
      Prg.ite (asBool v2) (
        Prg.tv (pbin (Kd.int IntKind.i64) BinOp.eql (TV.cell x0 3) (TV.cell x1 3)) fun v3 =>
        Prg.ite (asBool v3) (
          Prg.call 14 [TV.cell x0 4, TV.cell x1 4] fun v4 =>
          Prg.chk (fitsAt z4 [v4] 0) (
          Prg.ite (asBool v4) (
            Prg.tv (pbin (Kd.int IntKind.i64) BinOp.eql (TV.cell x0 5) (TV.cell x1 5)) fun v5 =>
            Prg.ite (asBool v5) (
              Prg.tv (pbin (Kd.int IntKind.i64) BinOp.eql (TV.cell x0 6) (TV.cell x1 6)) fun v6 =>
              Prg.ite (asBool v6) (
                Prg.tv (pbin (Kd.int IntKind.i64) BinOp.eql (TV.cell x0 7) (TV.cell x1 7)) fun v7 =>
                Prg.ret v7) (
                Prg.ret (TV.lit (Value.bool false)))) (
              Prg.ret (TV.lit (Value.bool false)))) (
            Prg.ret (TV.lit (Value.bool false))))) (
          Prg.ret (TV.lit (Value.bool false)))) (
        Prg.ret (TV.lit (Value.bool false)))) (
      Prg.ret (TV.lit (Value.bool false)))) (
    Prg.ret (TV.lit (Value.bool false)))))
theorem f45_MR (x0 x1 : TV) : startQ prog 45 [x0, x1] = f45_M x0 x1 := by kernel_rfl

def f46_M (x0 x1 : TV) : Prg TV :=
  Prg.chk (TV.isAgg x0 7) (
  Prg.chk (TV.isAgg x1 7) (
  Prg.tv (pbin (Kd.int IntKind.i64) BinOp.eql (TV.cell x0 0) (TV.cell x1 0)) fun v0 =>
  Prg.ite (asBool v0) (
    Prg.tv (pbin (Kd.int IntKind.i64) BinOp.eql (TV.cell x0 1) (TV.cell x1 1)) fun v1 =>
    Prg.ite (asBool v1) (
      Prg.tv (pbin (Kd.int IntKind.i64) BinOp.eql (TV.cell x0 2) (TV.cell x1 2)) fun v2 =>
      Prg.ite (asBool v2) (
        Prg.tv (pbin (Kd.int IntKind.i64) BinOp.eql (TV.cell x0 3) (TV.cell x1 3)) fun v3 =>
        Prg.ite (asBool v3) (
          Prg.tv (pbin (Kd.int IntKind.u16) BinOp.eql (TV.cell x0 4) (TV.cell x1 4)) fun v4 =>
          Prg.ite (asBool v4) (
            Prg.tv (pbin (Kd.int IntKind.i64) BinOp.eql (TV.cell x0 5) (TV.cell x1 5)) fun v5 =>
            Prg.ite (asBool v5) (
              Prg.call 14 [TV.cell x0 6, TV.cell x1 6] fun v6 =>
              Prg.chk (fitsAt z4 [v6] 0) (
              Prg.ret v6)) (
              Prg.ret (TV.lit (Value.bool false)))) (
            Prg.ret (TV.lit (Value.bool false)))) (
          Prg.ret (TV.lit (Value.bool false)))) (
        Prg.ret (TV.lit (Value.bool false)))) (
      Prg.ret (TV.lit (Value.bool false)))) (
    Prg.ret (TV.lit (Value.bool false)))))
theorem f46_MR (x0 x1 : TV) : startQ prog 46 [x0, x1] = f46_M x0 x1 := by kernel_rfl

def f47_M (x0 x1 x2 : TV) : Prg TV :=
  Prg.chk (TV.isAgg x0 4) (
  Prg.tv (pun UnOp.not x1) fun v0 =>
  Prg.ite (asBool v0) (
    Prg.tv (pbin (Kd.int IntKind.i64) BinOp.eql x2 (TV.lit (Value.int IntKind.i64 (0 : Int)))) fun v1 =>
    Prg.ret v1) (
    Prg.tv (pbin (Kd.int IntKind.i64) BinOp.leq (TV.lit (Value.int IntKind.i64 (0 : Int))) x2) fun v2 =>
    Prg.ite (asBool v2) (
      Prg.tv (pbin (Kd.int IntKind.i64) BinOp.lss x2 (TV.cell x0 2)) fun v3 =>
      Prg.ret v3) (
      Prg.ret (TV.lit (Value.bool false)))))
theorem f47_MR (x0 x1 x2 : TV) : startQ prog 47 [x0, x1, x2] = f47_M x0 x1 x2 := by kernel_rfl

def f48_0_S  (x0 x1 x2 x3 : TV) : ASt := ⟨[AV.tv x0] ++ List.replicate 4 (AV.one CA.junk) ++ [AV.tv x1, AV.tv x2, AV.tv x3] ++ List.replicate 10 (AV.one CA.junk), List.replicate 42 (Option.none), []⟩
def f48_M (x0 : TV) : Prg TV :=
  Prg.tv (plen (Kd.slice 44) x0) fun v0 =>
  Prg.jmp [0, 0, 1, 0, 1] (f48_0_S x0 x0 v0 (TV.lit (Value.int IntKind.i64 (0 : Int))))
-- [0, 0, 1, 0, 1]
def f48_0  (x0 x1 x2 x3 : TV) : Prg TV :=
  Prg.tv (pbin (Kd.int IntKind.i64) BinOp.lss x3 x2) fun v1 =>
  Prg.ite (asBool v1) (
    Prg.tvs (pidx 1 x1 x3) fun e2 =>
    Prg.chk (Nat.blt 0 (List.length e2)) (
    Prg.nat (asNat x3) fun n3 =>
    Prg.tv (pslice (Kd.slice 44) 1 x0 Option.none (Option.some n3)) fun v4 =>
    Prg.call 56 [v4, nth TV.hole e2 0] fun v5 =>
    Prg.chk (fitsAt z4 [v5] 0) (
    Prg.ite (asBool v5) (
      Prg.ret (TV.lit (Value.bool false))) (
      Prg.tv (pbin (Kd.int IntKind.i64) BinOp.add x3 (TV.lit (Value.int IntKind.i64 (1 : Int)))) fun v6 =>
      Prg.jmp [0, 0, 1, 0, 1] (f48_0_S x0 x1 x2 v6))))) (
    Prg.ret (TV.lit (Value.bool true)))
theorem f48_MR (x0 : TV) : startQ prog 48 [x0] = f48_M x0 := by kernel_rfl
theorem f48_0_R  (x0 x1 x2 x3 : TV) : pieceQ prog 48 [0, 0, 1, 0, 1] (f48_0_S x0 x1 x2 x3) = f48_0 x0 x1 x2 x3 := by kernel_rfl

def f49_M (x0 : TV) : Prg TV :=
  Prg.tv (pbin (Kd.int IntKind.i64) BinOp.eql x0 (TV.lit (Value.int IntKind.i64 (1 : Int)))) fun v0 =>
  Prg.ite (asBool v0) (
    Prg.ret (TV.lit (Value.int IntKind.i64 (19 : Int)))) (
    Prg.tv (pbin (Kd.int IntKind.i64) BinOp.eql x0 (TV.lit (Value.int IntKind.i64 (2 : Int)))) fun v1 =>
    Prg.ite (asBool v1) (
      Prg.ite (asBool v1) (
        Prg.ret (TV.lit (Value.int IntKind.i64 (7 : Int)))) (
        Prg.tv (pbin (Kd.int IntKind.i64) BinOp.eql x0 (TV.lit (Value.int IntKind.i64 (3 : Int)))) fun v2 =>
        Prg.ite (asBool v2) (
          Prg.ite (asBool v2) (
            Prg.ret (TV.lit (Value.int IntKind.i64 (15 : Int)))) (
            Prg.tv (pbin (Kd.int IntKind.i64) BinOp.eql x0 (TV.lit (Value.int IntKind.i64 (10 : Int)))) fun v3 =>
            Prg.ite (asBool v3) (
              Prg.ret (TV.lit (Value.int IntKind.i64 (13 : Int)))) (
              Prg.tv (pbin (Kd.int IntKind.i64) BinOp.eql x0 (TV.lit (Value.int IntKind.i64 (11 : Int)))) fun v4 =>
              Prg.ite (asBool v4) (
                Prg.ret (TV.lit (Value.int IntKind.i64 (35 : Int)))) (
                Prg.tv (pbin (Kd.int IntKind.i64) BinOp.eql x0 (TV.lit (Value.int IntKind.i64 (12 : Int)))) fun v5 =>
                Prg.ite (asBool v5) (
                  Prg.ret (TV.lit (Value.int IntKind.i64 (5 : Int)))) (
                  Prg.tv (pbin (Kd.int IntKind.i64) BinOp.eql x0 (TV.lit (Value.int IntKind.i64 (13 : Int)))) fun v6 =>
                  Prg.ite (asBool v6) (
                    Prg.ret (TV.lit (Value.int IntKind.i64 (3 : Int)))) (
                    Prg.ret (TV.lit (Value.int IntKind.i64 (0 : Int))))))))) (
          Prg.tv (pbin (Kd.int IntKind.i64) BinOp.eql x0 (TV.lit (Value.int IntKind.i64 (4 : Int)))) fun v7 =>
          Prg.ite (asBool v7) (
            Prg.ite (asBool v7) (
              Prg.ret (TV.lit (Value.int IntKind.i64 (15 : Int)))) (
              Prg.tv (pbin (Kd.int IntKind.i64) BinOp.eql x0 (TV.lit (Value.int IntKind.i64 (10 : Int)))) fun v8 =>
              Prg.ite (asBool v8) (
                Prg.ret (TV.lit (Value.int IntKind.i64 (13 : Int)))) (
                Prg.tv (pbin (Kd.int IntKind.i64) BinOp.eql x0 (TV.lit (Value.int IntKind.i64 (11 : Int)))) fun v9 =>
                Prg.ite (asBool v9) (
                  Prg.ret (TV.lit (Value.int IntKind.i64 (35 : Int)))) (
                  Prg.tv (pbin (Kd.int IntKind.i64) BinOp.eql x0 (TV.lit (Value.int IntKind.i64 (12 : Int)))) fun v10 =>
                  Prg.ite (asBool v10) (
                    Prg.ret (TV.lit (Value.int IntKind.i64 (5 : Int)))) (
                    Prg.tv (pbin (Kd.int IntKind.i64) BinOp.eql x0 (TV.lit (Value.int IntKind.i64 (13 : Int)))) fun v11 =>
                    Prg.ite (asBool v11) (
                      Prg.ret (TV.lit (Value.int IntKind.i64 (3 : Int)))) (
                      Prg.ret (TV.lit (Value.int IntKind.i64 (0 : Int))))))))) (
            Prg.tv (pbin (Kd.int IntKind.i64) BinOp.eql x0 (TV.lit (Value.int IntKind.i64 (5 : Int)))) fun v12 =>
            Prg.ite (asBool v12) (
              Prg.ite (asBool v12) (
                Prg.ret (TV.lit (Value.int IntKind.i64 (15 : Int)))) (
                Prg.tv (pbin (Kd.int IntKind.i64) BinOp.eql x0 (TV.lit (Value.int IntKind.i64 (10 : Int)))) fun v13 =>
                Prg.ite (asBool v13) (
                  Prg.ret (TV.lit (Value.int IntKind.i64 (13 : Int)))) (
                  Prg.tv (pbin (Kd.int IntKind.i64) BinOp.eql x0 (TV.lit (Value.int IntKind.i64 (11 : Int)))) fun v14 =>
                  Prg.ite (asBool v14) (
                    Prg.ret (TV.lit (Value.int IntKind.i64 (35 : Int)))) (
                    Prg.tv (pbin (Kd.int IntKind.i64) BinOp.eql x0 (TV.lit (Value.int IntKind.i64 (12 : Int)))) fun v15 =>
                    Prg.ite (asBool v15) (
                      Prg.ret (TV.lit (Value.int IntKind.i64 (5 : Int)))) (
                      Prg.tv (pbin (Kd.int IntKind.i64) BinOp.eql x0 (TV.lit (Value.int IntKind.i64 (13 : Int)))) fun v16 =>
                      Prg.ite (asBool v16) (
                        Prg.ret (TV.lit (Value.int IntKind.i64 (3 : Int)))) (
                        Prg.ret (TV.lit (Value.int IntKind.i64 (0 : Int))))))))) (
              Prg.tv (pbin (Kd.int IntKind.i64) BinOp.eql x0 (TV.lit (Value.int IntKind.i64 (6 : Int)))) fun v17 =>
              Prg.ite (asBool v17) (
                Prg.ite (asBool v17) (
                  Prg.ret (TV.lit (Value.int IntKind.i64 (15 : Int)))) (
                  Prg.tv (pbin (Kd.int IntKind.i64) BinOp.eql x0 (TV.lit (Value.int IntKind.i64 (10 : Int)))) fun v18 =>
                  Prg.ite (asBool v18) (
                    Prg.ret (TV.lit (Value.int IntKind.i64 (13 : Int)))) (
                    Prg.tv (pbin (Kd.int IntKind.i64) BinOp.eql x0 (TV.lit (Value.int IntKind.i64 (11 : Int)))) fun v19 =>
                    Prg.ite (asBool v19) (
                      Prg.ret (TV.lit (Value.int IntKind.i64 (35 : Int)))) (
                      Prg.tv (pbin (Kd.int IntKind.i64) BinOp.eql x0 (TV.lit (Value.int IntKind.i64 (12 : Int)))) fun v20 =>
                      Prg.ite (asBool v20) (
                        Prg.ret (TV.lit (Value.int IntKind.i64 (5 : Int)))) (
                        Prg.tv (pbin (Kd.int IntKind.i64) BinOp.eql x0 (TV.lit (Value.int IntKind.i64 (13 : Int)))) fun v21 =>
                        Prg.ite (asBool v21) (
                          Prg.ret (TV.lit (Value.int IntKind.i64 (3 : Int)))) (
                          Prg.ret (TV.lit (Value.int IntKind.i64 (0 : Int))))))))) (
                Prg.tv (pbin (Kd.int IntKind.i64) BinOp.eql x0 (TV.lit (Value.int IntKind.i64 (7 : Int)))) fun v22 =>
                Prg.ite (asBool v22) (
                  Prg.ite (asBool v22) (
                    Prg.ret (TV.lit (Value.int IntKind.i64 (15 : Int)))) (
                    Prg.tv (pbin (Kd.int IntKind.i64) BinOp.eql x0 (TV.lit (Value.int IntKind.i64 (10 : Int)))) fun v23 =>
                    Prg.ite (asBool v23) (
                      Prg.ret (TV.lit (Value.int IntKind.i64 (13 : Int)))) (
                      Prg.tv (pbin (Kd.int IntKind.i64) BinOp.eql x0 (TV.lit (Value.int IntKind.i64 (11 : Int)))) fun v24 =>
                      Prg.ite (asBool v24) (
                        Prg.ret (TV.lit (Value.int IntKind.i64 (35 : Int)))) (
                        Prg.tv (pbin (Kd.int IntKind.i64) BinOp.eql x0 (TV.lit (Value.int IntKind.i64 (12 : Int)))) fun v25 =>
                        Prg.ite (asBool v25) (
                          Prg.ret (TV.lit (Value.int IntKind.i64 (5 : Int)))) (
                          Prg.tv (pbin (Kd.int IntKind.i64) BinOp.eql x0 (TV.lit (Value.int IntKind.i64 (13 : Int)))) fun v26 =>
                          Prg.ite (asBool v26) (
                            Prg.ret (TV.lit (Value.int IntKind.i64 (3 : Int)))) (
                            Prg.ret (TV.lit (Value.int IntKind.i64 (0 : Int))))))))) (
                  Prg.tv (pbin (Kd.int IntKind.i64) BinOp.eql x0 (TV.lit (Value.int IntKind.i64 (8 : Int)))) fun v27 =>
                  Prg.ite (asBool v27) (
                    Prg.ret (TV.lit (Value.int IntKind.i64 (15 : Int)))) (
                    Prg.tv (pbin (Kd.int IntKind.i64) BinOp.eql x0 (TV.lit (Value.int IntKind.i64 (10 : Int)))) fun v28 =>
                    Prg.ite (asBool v28) (
                      Prg.ret (TV.lit (Value.int IntKind.i64 (13 : Int)))) (
                      Prg.tv (pbin (Kd.int IntKind.i64) BinOp.eql x0 (TV.lit (Value.int IntKind.i64 (11 : Int)))) fun v29 =>
                      Prg.ite (asBool v29) (
                        Prg.ret (TV.lit (Value.int IntKind.i64 (35 : Int)))) (
                        Prg.tv (pbin (Kd.int IntKind.i64) BinOp.eql x0 (TV.lit (Value.int IntKind.i64 (12 : Int)))) fun v30 =>
                        Prg.ite (asBool v30) (
                          Prg.ret (TV.lit (Value.int IntKind.i64 (5 : Int)))) (
                          Prg.tv (pbin (Kd.int IntKind.i64) BinOp.eql x0 (TV.lit (Value.int IntKind.i64 (13 : Int)))) fun v31 =>
                          Prg.ite (asBool v31) (
                            Prg.ret (TV.lit (Value.int IntKind.i64 (3 : Int)))) (
                            Prg.ret (TV.lit (Value.int IntKind.i64 (0 : Int))))))))))))))) (
      Prg.tv (pbin (Kd.int IntKind.i64) BinOp.eql x0 (TV.lit (Value.int IntKind.i64 (9 : Int)))) fun v32 =>
      Prg.ite (asBool v32) (
        Prg.ret (TV.lit (Value.int IntKind.i64 (7 : Int)))) (
        Prg.tv (pbin (Kd.int IntKind.i64) BinOp.eql x0 (TV.lit (Value.int IntKind.i64 (3 : Int)))) fun v33 =>
        Prg.ite (asBool v33) (
          Prg.ite (asBool v33) (
            Prg.ret (TV.lit (Value.int IntKind.i64 (15 : Int)))) (
            Prg.tv (pbin (Kd.int IntKind.i64) BinOp.eql x0 (TV.lit (Value.int IntKind.i64 (10 : Int)))) fun v34 =>
            Prg.ite (asBool v34) (
              Prg.ret (TV.lit (Value.int IntKind.i64 (13 : Int)))) (
              Prg.tv (pbin (Kd.int IntKind.i64) BinOp.eql x0 (TV.lit (Value.int IntKind.i64 (11 : Int)))) fun v35 =>
              Prg.ite (asBool v35) (
                Prg.ret (TV.lit (Value.int IntKind.i64 (35 : Int)))) (
                Prg.tv (pbin (Kd.int IntKind.i64) BinOp.eql x0 (TV.lit (Value.int IntKind.i64 (12 : Int)))) fun v36 =>
                Prg.ite (asBool v36) (
                  Prg.ret (TV.lit (Value.int IntKind.i64 (5 : Int)))) (
                  Prg.tv (pbin (Kd.int IntKind.i64) BinOp.eql x0 (TV.lit (Value.int IntKind.i64 (13 : Int)))) fun v37 =>
                  Prg.ite (asBool v37) (
                    Prg.ret (TV.lit (Value.int IntKind.i64 (3 : Int)))) (
                    Prg.ret (TV.lit (Value.int IntKind.i64 (0 : Int))))))))) (
          Prg.tv (pbin (Kd.int IntKind.i64) BinOp.eql x0 (TV.lit (Value.int IntKind.i64 (4 : Int)))) fun v38 =>
          Prg.ite (asBool v38) (
            Prg.ite (asBool v38) (
              Prg.ret (TV.lit (Value.int IntKind.i64 (15 : Int)))) (
              Prg.tv (pbin (Kd.int IntKind.i64) BinOp.eql x0 (TV.lit (Value.int IntKind.i64 (10 : Int)))) fun v39 =>
              Prg.ite (asBool v39) (
                Prg.ret (TV.lit (Value.int IntKind.i64 (13 : Int)))) (
                Prg.tv (pbin (Kd.int IntKind.i64) BinOp.eql x0 (TV.lit (Value.int IntKind.i64 (11 : Int)))) fun v40 =>
                Prg.ite (asBool v40) (
                  Prg.ret (TV.lit (Value.int IntKind.i64 (35 : Int)))) (
                  Prg.tv (pbin (Kd.int IntKind.i64) BinOp.eql x0 (TV.lit (Value.int IntKind.i64 (12 : Int)))) fun v41 =>
                  Prg.ite (asBool v41) (
                    Prg.ret (TV.lit (Value.int IntKind.i64 (5 : Int)))) (
                    Prg.tv (pbin (Kd.int IntKind.i64) BinOp.eql x0 (TV.lit (Value.int IntKind.i64 (13 : Int)))) fun v42 =>
                    Prg.ite (asBool v42) (
                      Prg.ret (TV.lit (Value.int IntKind.i64 (3 : Int)))) (
                      Prg.ret (TV.lit (Value.int IntKind.i64 (0 : Int))))))))) (
            Prg.tv (pbin (Kd.int IntKind.i64) BinOp.eql x0 (TV.lit (Value.int IntKind.i64 (5 : Int)))) fun v43 =>
            Prg.ite (asBool v43) (
              Prg.ite (asBool v43) (
                Prg.ret (TV.lit (Value.int IntKind.i64 (15 : Int)))) (
                Prg.tv (pbin (Kd.int IntKind.i64) BinOp.eql x0 (TV.lit (Value.int IntKind.i64 (10 : Int)))) fun v44 =>
                Prg.ite (asBool v44) (
                  Prg.ret (TV.lit (Value.int IntKind.i64 (13 : Int)))) (
                  Prg.tv (pbin (Kd.int IntKind.i64) BinOp.eql x0 (TV.lit (Value.int IntKind.i64 (11 : Int)))) fun v45 =>
                  Prg.ite (asBool v45) (
                    Prg.ret (TV.lit (Value.int IntKind.i64 (35 : Int)))) (
                    Prg.tv (pbin (Kd.int IntKind.i64) BinOp.eql x0 (TV.lit (Value.int IntKind.i64 (12 : Int)))) fun v46 =>
                    Prg.ite (asBool v46) (
                      Prg.ret (TV.lit (Value.int IntKind.i64 (5 : Int)))) (
                      Prg.tv (pbin (Kd.int IntKind.i64) BinOp.eql x0 (TV.lit (Value.int IntKind.i64 (13 : Int)))) fun v47 =>
                      Prg.ite (asBool v47) (
                        Prg.ret (TV.lit (Value.int IntKind.i64 (3 : Int)))) (
                        Prg.ret (TV.lit (Value.int IntKind.i64 (0 : Int))))))))) (
              Prg.tv (pbin (Kd.int IntKind.i64) BinOp.eql x0 (TV.lit (Value.int IntKind.i64 (6 : Int)))) fun v48 =>
              Prg.ite (asBool v48) (
                Prg.ite (asBool v48) (
                  Prg.ret (TV.lit (Value.int IntKind.i64 (15 : Int)))) (
                  Prg.tv (pbin (Kd.int IntKind.i64) BinOp.eql x0 (TV.lit (Value.int IntKind.i64 (10 : Int)))) fun v49 =>
                  Prg.ite (asBool v49) (
                    Prg.ret (TV.lit (Value.int IntKind.i64 (13 : Int)))) (
                    Prg.tv (pbin (Kd.int IntKind.i64) BinOp.eql x0 (TV.lit (Value.int IntKind.i64 (11 : Int)))) fun v50 =>
                    Prg.ite (asBool v50) (
                      Prg.ret (TV.lit (Value.int IntKind.i64 (35 : Int)))) (
                      Prg.tv (pbin (Kd.int IntKind.i64) BinOp.eql x0 (TV.lit (Value.int IntKind.i64 (12 : Int)))) fun v51 =>
                      Prg.ite (asBool v51) (
                        Prg.ret (TV.lit (Value.int IntKind.i64 (5 : Int)))) (
                        Prg.tv (pbin (Kd.int IntKind.i64) BinOp.eql x0 (TV.lit (Value.int IntKind.i64 (13 : Int)))) fun v52 =>
                        Prg.ite (asBool v52) (
                          Prg.ret (TV.lit (Value.int IntKind.i64 (3 : Int)))) (
                          Prg.ret (TV.lit (Value.int IntKind.i64 (0 : Int))))))))) (
                Prg.tv (pbin (Kd.int IntKind.i64) BinOp.eql x0 (TV.lit (Value.int IntKind.i64 (7 : Int)))) fun v53 =>
                Prg.ite (asBool v53) (
                  Prg.ite (asBool v53) (
                    Prg.ret (TV.lit (Value.int IntKind.i64 (15 : Int)))) (
                    Prg.tv (pbin (Kd.int IntKind.i64) BinOp.eql x0 (TV.lit (Value.int IntKind.i64 (10 : Int)))) fun v54 =>
                    Prg.ite (asBool v54) (
                      Prg.ret (TV.lit (Value.int IntKind.i64 (13 : Int)))) (
                      Prg.tv (pbin (Kd.int IntKind.i64) BinOp.eql x0 (TV.lit (Value.int IntKind.i64 (11 : Int)))) fun v55 =>
                      Prg.ite (asBool v55) (
                        Prg.ret (TV.lit (Value.int IntKind.i64 (35 : Int)))) (
                        Prg.tv (pbin (Kd.int IntKind.i64) BinOp.eql x0 (TV.lit (Value.int IntKind.i64 (12 : Int)))) fun v56 =>
                        Prg.ite (asBool v56) (
                          Prg.ret (TV.lit (Value.int IntKind.i64 (5 : Int)))) (
                          Prg.tv (pbin (Kd.int IntKind.i64) BinOp.eql x0 (TV.lit (Value.int IntKind.i64 (13 : Int)))) fun v57 =>
                          Prg.ite (asBool v57) (
                            Prg.ret (TV.lit (Value.int IntKind.i64 (3 : Int)))) (
                            Prg.ret (TV.lit (Value.int IntKind.i64 (0 : Int))))))))) (
                  Prg.tv (pbin (Kd.int IntKind.i64) BinOp.eql x0 (TV.lit (Value.int IntKind.i64 (8 : Int)))) fun v58 =>
                  Prg.ite (asBool v58) (
                    Prg.ret (TV.lit (Value.int IntKind.i64 (15 : Int)))) (
                    Prg.tv (pbin (Kd.int IntKind.i64) BinOp.eql x0 (TV.lit (Value.int IntKind.i64 (10 : Int)))) fun v59 =>
                    Prg.ite (asBool v59) (
                      Prg.ret (TV.lit (Value.int IntKind.i64 (13 : Int)))) (
                      Prg.tv (pbin (Kd.int IntKind.i64) BinOp.eql x0 (TV.lit (Value.int IntKind.i64 (11 : Int)))) fun v60 =>
                      Prg.ite (asBool v60) (
                        Prg.ret (TV.lit (Value.int IntKind.i64 (35 : Int)))) (
                        Prg.tv (pbin (Kd.int IntKind.i64) BinOp.eql x0 (TV.lit (Value.int IntKind.i64 (12 : Int)))) fun v61 =>
                        Prg.ite (asBool v61) (
                          Prg.ret (TV.lit (Value.int IntKind.i64 (5 : Int)))) (
                          Prg.tv (pbin (Kd.int IntKind.i64) BinOp.eql x0 (TV.lit (Value.int IntKind.i64 (13 : Int)))) fun v62 =>
                          Prg.ite (asBool v62) (
                            Prg.ret (TV.lit (Value.int IntKind.i64 (3 : Int)))) (
                            Prg.ret (TV.lit (Value.int IntKind.i64 (0 : Int))))))))))))))))
theorem f49_MR (x0 : TV) : startQ prog 49 [x0] = f49_M x0 := by kernel_rfl

def f50_0_S  (x0 x1 x2 y3 y4 y5 y6 : TV) : ASt := ⟨List.replicate 4 (AV.one CA.junk) ++ [AV.one (CA.ptr 0 0)] ++ List.replicate 35 (AV.one CA.junk) ++ [AV.tv x0, AV.tv x1, AV.tv x2] ++ List.replicate 8 (AV.one CA.junk), [Option.some (BC.cells [CA.t y3, CA.t y4, CA.t y5, CA.t y6])] ++ List.replicate 74 (Option.none), []⟩
def f50_M (x0 x1 x2 x3 : TV) : Prg TV :=
  Prg.chk (TV.isAgg x0 4) (
  Prg.tv (pun UnOp.not x1) fun v0 =>
  Prg.ite (asBool v0) (
    Prg.tv (pbin (Kd.int IntKind.i64) BinOp.eql x2 (TV.lit (Value.int IntKind.i64 (0 : Int)))) fun v1 =>
    Prg.ite (asBool v1) (
      Prg.tv (plen (Kd.slice 3) x3) fun v2 =>
      Prg.tv (pbin (Kd.int IntKind.i64) BinOp.eql v2 (TV.lit (Value.int IntKind.i64 (0 : Int)))) fun v3 =>
      Prg.ret v3) (
      Prg.ret (TV.lit (Value.bool false)))) (
    Prg.tv (pbin (Kd.int IntKind.i64) BinOp.lss x2 (TV.lit (Value.int IntKind.i64 (0 : Int)))) fun v4 =>
    Prg.ite (asBool v4) (
      Prg.ret (TV.lit (Value.bool false))) (
      Prg.tv (plen (Kd.slice 27) (TV.cell x0 0)) fun v5 =>
      Prg.tv (pbin (Kd.int IntKind.i64) BinOp.geq x2 v5) fun v6 =>
      Prg.ite (asBool v6) (
        Prg.ret (TV.lit (Value.bool false))) (
        Prg.tv (plen (Kd.slice 3) x3) fun v7 =>
        Prg.tvs (pidx 3 (TV.cell x0 0) x2) fun e8 =>
        Prg.chk (Nat.blt 0 (List.length e8)) (
        Prg.tv (pbin (Kd.int IntKind.i64) BinOp.neq v7 (nth TV.hole e8 0)) fun v9 =>
        Prg.ite (asBool v9) (
          Prg.ret (TV.lit (Value.bool false))) (
          Prg.tv (plen (Kd.slice 3) x3) fun v10 =>
          Prg.jmp [0, 0, 1, 0, 1, 1, 1] (f50_0_S x3 v10 (TV.lit (Value.int IntKind.i64 (0 : Int))) (TV.cell x0 0) (TV.cell x0 1) (TV.cell x0 2) (TV.cell x0 3))))))))
-- [0, 0, 1, 0, 1, 1, 1]
def f50_0  (x0 x1 x2 y3 y4 y5 y6 : TV) : Prg TV :=
  Prg.tv (pbin (Kd.int IntKind.i64) BinOp.lss x2 x1) fun v11 =>
  Prg.ite (asBool v11) (
    Prg.tvs (pidx 1 x0 x2) fun e12 =>
    Prg.chk (Nat.blt 0 (List.length e12)) (
    Prg.call 47 [TV.agg [y3, y4, y5, y6], TV.lit (Value.bool true), nth TV.hole e12 0] fun v13 =>
    Prg.chk (fitsAt z4 [v13] 0) (
    Prg.tv (pun UnOp.not v13) fun v14 =>
    Prg.ite (asBool v14) (
      Prg.ret (TV.lit (Value.bool false))) (
      Prg.tv (pbin (Kd.int IntKind.i64) BinOp.add x2 (TV.lit (Value.int IntKind.i64 (1 : Int)))) fun v15 =>
      Prg.jmp [0, 0, 1, 0, 1, 1, 1] (f50_0_S x0 x1 v15 y3 y4 y5 y6))))) (
    Prg.ret (TV.lit (Value.bool true)))
theorem f50_MR (x0 x1 x2 x3 : TV) : startQ prog 50 [x0, x1, x2, x3] = f50_M x0 x1 x2 x3 := by kernel_rfl
theorem f50_0_R  (x0 x1 x2 y3 y4 y5 y6 : TV) : pieceQ prog 50 [0, 0, 1, 0, 1, 1, 1] (f50_0_S x0 x1 x2 y3 y4 y5 y6) = f50_0 x0 x1 x2 y3 y4 y5 y6 := by kernel_rfl

def f51_M (x0 x1 x2 x3 : TV) : Prg TV :=
  Prg.chk (TV.isAgg x0 4) (
  Prg.tv (pun UnOp.not x1) fun v0 =>
  Prg.ite (asBool v0) (
    Prg.tv (pbin (Kd.int IntKind.i64) BinOp.eql x2 (TV.lit (Value.int IntKind.i64 (0 : Int)))) fun v1 =>
    Prg.ret v1) (
    Prg.tv (pbin (Kd.int IntKind.i64) BinOp.leq (TV.lit (Value.int IntKind.i64 (0 : Int))) x2) fun v2 =>
    Prg.ite (asBool v2) (
      Prg.tv (plen (Kd.slice 41) (TV.cell x0 3)) fun v3 =>
      Prg.tv (pbin (Kd.int IntKind.i64) BinOp.lss x2 v3) fun v4 =>
      Prg.ite (asBool v4) (
        Prg.tvs (pidx 14 (TV.cell x0 3) x2) fun e5 =>
        Prg.chk (Nat.blt 0 (List.length e5)) (
        Prg.tv (pbin Kd.bool BinOp.eql (nth TV.hole e5 0) x3) fun v6 =>
        Prg.ret v6)) (
        Prg.ret (TV.lit (Value.bool false)))) (
      Prg.ret (TV.lit (Value.bool false)))))
theorem f51_MR (x0 x1 x2 x3 : TV) : startQ prog 51 [x0, x1, x2, x3] = f51_M x0 x1 x2 x3 := by kernel_rfl

def f52_M (x0 x1 : TV) : Prg TV :=
  Prg.chk (TV.isAgg x0 4) (
  Prg.chk (TV.isAgg x1 4) (
  Prg.tv (pbin (Kd.int IntKind.i64) BinOp.eql (TV.cell x0 0) (TV.cell x1 0)) fun v0 =>
  Prg.ite (asBool v0) (
    Prg.call 57 [TV.cell x0 1, TV.cell x1 1] fun v1 =>
    Prg.chk (fitsAt z4 [v1] 0) (
    Prg.ite (asBool v1) (
      Prg.tv (pbin Kd.bool BinOp.eql (TV.cell x0 2) (TV.cell x1 2)) fun v2 =>
      Prg.ite (asBool v2) (
        Prg.tv (pbin Kd.bool BinOp.eql (TV.cell x0 3) (TV.cell x1 3)) fun v3 =>
        Prg.ret v3) (
        Prg.ret (TV.lit (Value.bool false)))) (
      Prg.ret (TV.lit (Value.bool false))))) (
    Prg.ret (TV.lit (Value.bool false)))))
theorem f52_MR (x0 x1 : TV) : startQ prog 52 [x0, x1] = f52_M x0 x1 := by kernel_rfl

def f53_0_S  (x0 x1 x2 x3 x4 : TV) : ASt := ⟨[AV.one CA.junk, AV.tv x0, AV.tv x1] ++ List.replicate 12 (AV.one CA.junk) ++ [AV.tv x2, AV.tv x3, AV.tv x4] ++ List.replicate 14 (AV.one CA.junk), List.replicate 56 (Option.none), []⟩
def f53_M (x0 x1 x2 : TV) : Prg TV :=
  Prg.tv (plen (Kd.slice 49) x0) fun v0 =>
  Prg.tv (plen (Kd.slice 49) x1) fun v1 =>
  Prg.tv (pbin (Kd.int IntKind.i64) BinOp.neq v0 v1) fun v2 =>
  Prg.ite (asBool v2) (
    Prg.ret (TV.lit (Value.bool false))) (
    Prg.tv (plen (Kd.slice 49) x0) fun v3 =>
    Prg.jmp [0, 0, 1, 0, 1, 1] (f53_0_S x1 x2 x0 v3 (TV.lit (Value.int IntKind.i64 (0 : Int)))))
-- [0, 0, 1, 0, 1, 1]
def f53_0  (x0 x1 x2 x3 x4 : TV) : Prg TV :=
  Prg.tv (pbin (Kd.int IntKind.i64) BinOp.lss x4 x3) fun v4 =>
  Prg.ite (asBool v4) (
    Prg.tvs (pidx 7 x2 x4) fun e5 =>
    Prg.chk (Nat.ble 7 (List.length e5)) (
    Prg.tvs (pidx 7 x0 x4) fun e6 =>
    Prg.chk (Nat.ble 7 (List.length e6)) (
    Prg.nat (fnOf x1) fun n7 =>
    Prg.call n7 [TV.agg [nth TV.hole e5 0, nth TV.hole e5 1, nth TV.hole e5 2, nth TV.hole e5 3, nth TV.hole e5 4, nth TV.hole e5 5, nth TV.hole e5 6], TV.agg [nth TV.hole e6 0, nth TV.hole e6 1, nth TV.hole e6 2, nth TV.hole e6 3, nth TV.hole e6 4, nth TV.hole e6 5, nth TV.hole e6 6]] fun v8 =>
    Prg.chk (TV.isSc v8) (
    Prg.tv (pun UnOp.not v8) fun v9 =>
    Prg.ite (asBool v9) (
      Prg.ret (TV.lit (Value.bool false))) (
      Prg.tv (pbin (Kd.int IntKind.i64) BinOp.add x4 (TV.lit (Value.int IntKind.i64 (1 : Int)))) fun v10 =>
      Prg.jmp [0, 0, 1, 0, 1, 1] (f53_0_S x0 x1 x2 x3 v10)))))) (
    Prg.ret (TV.lit (Value.bool true)))
theorem f53_MR (x0 x1 x2 : TV) : startQ prog 53 [x0, x1, x2] = f53_M x0 x1 x2 := by kernel_rfl
theorem f53_0_R  (x0 x1 x2 x3 x4 : TV) : pieceQ prog 53 [0, 0, 1, 0, 1, 1] (f53_0_S x0 x1 x2 x3 x4) = f53_0 x0 x1 x2 x3 x4 := by kernel_rfl

def f54_M (x0 x1 : TV) : Prg TV :=
  Prg.chk (TV.isAgg x0 7) (
  Prg.chk (TV.isAgg x1 7) (
  Prg.tv (pbin (Kd.int IntKind.i64) BinOp.eql (TV.cell x0 0) (TV.cell x1 0)) fun v0 =>
  Prg.ite (asBool v0) (
    Prg.tv (pbin (Kd.int IntKind.i64) BinOp.eql (TV.cell x0 1) (TV.cell x1 1)) fun v1 =>
    Prg.ite (asBool v1) (
      Prg.tv (pbin (Kd.int IntKind.i64) BinOp.eql (TV.cell x0 2) (TV.cell x1 2)) fun v2 =>
      Prg.ite (asBool v2) (
        Prg.tv (pbin (Kd.int IntKind.i64) BinOp.eql (TV.cell x0 3) (TV.cell x1 3)) fun v3 =>
        Prg.ite (asBool v3) (
          Prg.tv (pbin (Kd.int IntKind.u16) BinOp.eql (TV.cell x0 4) (TV.cell x1 4)) fun v4 =>
          Prg.ite (asBool v4) (
            Prg.tv (pbin (Kd.int IntKind.i64) BinOp.eql (TV.cell x0 5) (TV.cell x1 5)) fun v5 =>
            Prg.ite (asBool v5) (
              Prg.call 58 [TV.cell x0 6, TV.cell x1 6] fun v6 =>
              Prg.chk (fitsAt z4 [v6] 0) (
              Prg.ret v6)) (
              Prg.ret (TV.lit (Value.bool false)))) (
            Prg.ret (TV.lit (Value.bool false)))) (
          Prg.ret (TV.lit (Value.bool false)))) (
        Prg.ret (TV.lit (Value.bool false)))) (
      Prg.ret (TV.lit (Value.bool false)))) (
    Prg.ret (TV.lit (Value.bool false)))))
theorem f54_MR (x0 x1 : TV) : startQ prog 54 [x0, x1] = f54_M x0 x1 := by kernel_rfl

def f55_M (x0 x1 : TV) : Prg TV :=
  Prg.chk (TV.isAgg x0 8) (
  Prg.chk (TV.isAgg x1 8) (
  Prg.tv (pbin (Kd.int IntKind.i64) BinOp.eql (TV.cell x0 0) (TV.cell x1 0)) fun v0 =>
  Prg.ite (asBool v0) (
    Prg.tv (pbin (Kd.int IntKind.i64) BinOp.eql (TV.cell x0 1) (TV.cell x1 1)) fun v1 =>
    Prg.ite (asBool v1) (
      Prg.tv (pbin (Kd.int IntKind.i64) BinOp.eql (TV.cell x0 2) (TV.cell x1 2)) fun v2 =>
      Prg.ite (asBool v2) (
        Prg.tv (pbin (Kd.int IntKind.i64) BinOp.eql (TV.cell x0 3) (TV.cell x1 3)) fun v3 =>
        Prg.ite (asBool v3) (
          Prg.call 58 [TV.cell x0 4, TV.cell x1 4] fun v4 =>
          Prg.chk (fitsAt z4 [v4] 0) (
          Prg.ite (asBool v4) (
            Prg.tv (pbin (Kd.int IntKind.i64) BinOp.eql (TV.cell x0 5) (TV.cell x1 5)) fun v5 =>
            Prg.ite (asBool v5) (
              Prg.tv (pbin (Kd.int IntKind.i64) BinOp.eql (TV.cell x0 6) (TV.cell x1 6)) fun v6 =>
              Prg.ite (asBool v6) (
                Prg.tv (pbin (Kd.int IntKind.i64) BinOp.eql (TV.cell x0 7) (TV.cell x1 7)) fun v7 =>
                Prg.ret v7) (
                Prg.ret (TV.lit (Value.bool false)))) (
              Prg.ret (TV.lit (Value.bool false)))) (
            Prg.ret (TV.lit (Value.bool false))))) (
          Prg.ret (TV.lit (Value.bool false)))) (
        Prg.ret (TV.lit (Value.bool false)))) (
      Prg.ret (TV.lit (Value.bool false)))) (
    Prg.ret (TV.lit (Value.bool false)))))
theorem f55_MR (x0 x1 : TV) : startQ prog 55 [x0, x1] = f55_M x0 x1 := by kernel_rfl

def f56_M (x0 x1 : TV) : Prg TV :=
  Prg.call 59 [x0, x1] fun v0 =>
  Prg.chk (fitsAt z2 [v0] 0) (
  Prg.tv (pbin (Kd.int IntKind.i64) BinOp.geq v0 (TV.lit (Value.int IntKind.i64 (0 : Int)))) fun v1 =>
  Prg.ret v1)
theorem f56_MR (x0 x1 : TV) : startQ prog 56 [x0, x1] = f56_M x0 x1 := by kernel_rfl

def f57_0_S  (x0 x1 x2 x3 : TV) : ASt := ⟨[AV.tv x0, AV.tv x1] ++ List.replicate 10 (AV.one CA.junk) ++ [AV.tv x2, AV.tv x3] ++ List.replicate 12 (AV.one CA.junk), List.replicate 50 (Option.none), []⟩
def f57_M (x0 x1 : TV) : Prg TV :=
  Prg.tv (plen (Kd.slice 44) x0) fun v0 =>
  Prg.tv (plen (Kd.slice 44) x1) fun v1 =>
  Prg.tv (pbin (Kd.int IntKind.i64) BinOp.neq v0 v1) fun v2 =>
  Prg.ite (asBool v2) (
    Prg.ret (TV.lit (Value.bool false))) (
    Prg.tv (plen (Kd.slice 44) x0) fun v3 =>
    Prg.jmp [0, 0, 1, 0, 1, 1] (f57_0_S x0 x1 v3 (TV.lit (Value.int IntKind.i64 (0 : Int)))))
-- [0, 0, 1, 0, 1, 1]
def f57_0  (x0 x1 x2 x3 : TV) : Prg TV :=
  Prg.tv (pbin (Kd.int IntKind.i64) BinOp.lss x3 x2) fun v4 =>
  Prg.ite (asBool v4) (
    Prg.tvs (pidx 1 x0 x3) fun e5 =>
    Prg.chk (Nat.blt 0 (List.length e5)) (
    Prg.tvs (pidx 1 x1 x3) fun e6 =>
    Prg.chk (Nat.blt 0 (List.length e6)) (
    Prg.tv (pbin (Kd.int IntKind.u16) BinOp.neq (nth TV.hole e5 0) (nth TV.hole e6 0)) fun v7 =>
    Prg.ite (asBool v7) (
      Prg.ret (TV.lit (Value.bool false))) (
      Prg.tv (pbin (Kd.int IntKind.i64) BinOp.add x3 (TV.lit (Value.int IntKind.i64 (1 : Int)))) fun v8 =>
      Prg.jmp [0, 0, 1, 0, 1, 1] (f57_0_S x0 x1 x2 v8))))) (
    Prg.ret (TV.lit (Value.bool true)))
theorem f57_MR (x0 x1 : TV) : startQ prog 57 [x0, x1] = f57_M x0 x1 := by kernel_rfl
theorem f57_0_R  (x0 x1 x2 x3 : TV) : pieceQ prog 57 [0, 0, 1, 0, 1, 1] (f57_0_S x0 x1 x2 x3) = f57_0 x0 x1 x2 x3 := by kernel_rfl

def f58_0_S  (x0 x1 x2 x3 : TV) : ASt := ⟨[AV.tv x0, AV.tv x1] ++ List.replicate 10 (AV.one CA.junk) ++ [AV.tv x2, AV.tv x3] ++ List.replicate 12 (AV.one CA.junk), List.replicate 50 (Option.none), []⟩
def f58_M (x0 x1 : TV) : Prg TV :=
  Prg.tv (plen (Kd.slice 3) x0) fun v0 =>
  Prg.tv (plen (Kd.slice 3) x1) fun v1 =>
  Prg.tv (pbin (Kd.int IntKind.i64) BinOp.neq v0 v1) fun v2 =>
  Prg.ite (asBool v2) (
    Prg.ret (TV.lit (Value.bool false))) (
    Prg.tv (plen (Kd.slice 3) x0) fun v3 =>
    Prg.jmp [0, 0, 1, 0, 1, 1] (f58_0_S x0 x1 v3 (TV.lit (Value.int IntKind.i64 (0 : Int)))))
-- [0, 0, 1, 0, 1, 1]
def f58_0  (x0 x1 x2 x3 : TV) : Prg TV :=
  Prg.tv (pbin (Kd.int IntKind.i64) BinOp.lss x3 x2) fun v4 =>
  Prg.ite (asBool v4) (
    Prg.tvs (pidx 1 x0 x3) fun e5 =>
    Prg.chk (Nat.blt 0 (List.length e5)) (
    Prg.tvs (pidx 1 x1 x3) fun e6 =>
    Prg.chk (Nat.blt 0 (List.length e6)) (
    Prg.tv (pbin (Kd.int IntKind.i64) BinOp.neq (nth TV.hole e5 0) (nth TV.hole e6 0)) fun v7 =>
    Prg.ite (asBool v7) (
      Prg.ret (TV.lit (Value.bool false))) (
      Prg.tv (pbin (Kd.int IntKind.i64) BinOp.add x3 (TV.lit (Value.int IntKind.i64 (1 : Int)))) fun v8 =>
      Prg.jmp [0, 0, 1, 0, 1, 1] (f58_0_S x0 x1 x2 v8))))) (
    Prg.ret (TV.lit (Value.bool true)))
theorem f58_MR (x0 x1 : TV) : startQ prog 58 [x0, x1] = f58_M x0 x1 := by kernel_rfl
theorem f58_0_R  (x0 x1 x2 x3 : TV) : pieceQ prog 58 [0, 0, 1, 0, 1, 1] (f58_0_S x0 x1 x2 x3) = f58_0 x0 x1 x2 x3 := by kernel_rfl

def f59_0_S  (x0 x1 x2 x3 : TV) : ASt := ⟨[AV.tv x0, AV.tv x1] ++ List.replicate 5 (AV.one CA.junk) ++ [AV.tv x2, AV.tv x3] ++ List.replicate 10 (AV.one CA.junk), List.replicate 43 (Option.none), []⟩
def f59_M (x0 x1 : TV) : Prg TV :=
  Prg.tv (plen (Kd.slice 44) x0) fun v0 =>
  Prg.jmp [0, 0, 1, 0, 1] (f59_0_S x0 x1 v0 (TV.lit (Value.int IntKind.i64 (0 : Int))))
-- [0, 0, 1, 0, 1]
def f59_0  (x0 x1 x2 x3 : TV) : Prg TV :=
  Prg.tv (pbin (Kd.int IntKind.i64) BinOp.lss x3 x2) fun v1 =>
  Prg.ite (asBool v1) (
    Prg.tvs (pidx 1 x0 x3) fun e2 =>
    Prg.chk (Nat.blt 0 (List.length e2)) (
    Prg.tv (pbin (Kd.int IntKind.u16) BinOp.eql x1 (nth TV.hole e2 0)) fun v3 =>
    Prg.ite (asBool v3) (
      Prg.ret x3) (
      Prg.tv (pbin (Kd.int IntKind.i64) BinOp.add x3 (TV.lit (Value.int IntKind.i64 (1 : Int)))) fun v4 =>
      Prg.jmp [0, 0, 1, 0, 1] (f59_0_S x0 x1 x2 v4)))) (
    Prg.ret (TV.lit (Value.int IntKind.i64 (-1))))
theorem f59_MR (x0 x1 : TV) : startQ prog 59 [x0, x1] = f59_M x0 x1 := by kernel_rfl
theorem f59_0_R  (x0 x1 x2 x3 : TV) : pieceQ prog 59 [0, 0, 1, 0, 1] (f59_0_S x0 x1 x2 x3) = f59_0 x0 x1 x2 x3 := by kernel_rfl

end Go.Ab.S2

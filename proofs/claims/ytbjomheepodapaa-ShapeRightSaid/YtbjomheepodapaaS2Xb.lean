import Derived.Test.YtbjomheepodapaaS2T
set_option linter.unusedVariables false
set_option maxRecDepth 100000
namespace Go.Ab.S2
open Go Go.Ab Go.Proofs
def f12_0_S  (x0 x1 x2 y3 y4 y5 w6 w7 : TV) : ASt := ⟨[AV.one CA.junk, AV.one (CA.ptr 0 0), AV.one CA.junk, AV.one (CA.sref 1 0 []), AV.one (CA.sref 2 0 [])] ++ List.replicate 10 (AV.one CA.junk) ++ [AV.tv x0, AV.tv x1, AV.tv x2] ++ List.replicate 68 (AV.one CA.junk), [Option.some (BC.cells [CA.t y3, CA.t y4, CA.t y5]), Option.some (BC.tree [w6]), Option.some (BC.tree [w7])] ++ List.replicate 107 (Option.none), []⟩
def f12_1_S  (y0 y1 y2 w3 w4 : TV) : ASt := ⟨[AV.one CA.junk, AV.one (CA.ptr 0 0), AV.one CA.junk, AV.one (CA.sref 1 0 []), AV.one (CA.sref 2 0 [])] ++ List.replicate 81 (AV.one CA.junk), [Option.some (BC.cells [CA.t y0, CA.t y1, CA.t y2]), Option.some (BC.tree [w3]), Option.some (BC.tree [w4])] ++ List.replicate 107 (Option.none), []⟩
def f12_2_S  (y0 y1 y2 w3 w4 : TV) : ASt := ⟨[AV.one CA.junk, AV.one (CA.ptr 0 0), AV.one CA.junk, AV.one (CA.sref 1 0 []), AV.one (CA.sref 2 0 [])] ++ List.replicate 81 (AV.one CA.junk), [Option.some (BC.cells [CA.t y0, CA.t y1, CA.t y2]), Option.some (BC.tree [w3]), Option.some (BC.tree [w4])] ++ List.replicate 107 (Option.none), []⟩
def f12_3_S  (x0 x1 y2 y3 y4 w5 w6 w7 : TV) : ASt := ⟨[AV.one CA.junk, AV.one (CA.ptr 0 0), AV.one CA.junk, AV.one (CA.sref 1 0 []), AV.one (CA.sref 2 0 [])] ++ List.replicate 51 (AV.one CA.junk) ++ [AV.one (CA.sref 3 0 []), AV.tv x0, AV.tv x1] ++ List.replicate 27 (AV.one CA.junk), [Option.some (BC.cells [CA.t y2, CA.t y3, CA.t y4]), Option.some (BC.tree [w5]), Option.some (BC.tree [w6]), Option.some (BC.tree [w7])] ++ List.replicate 106 (Option.none), []⟩
def f12_M (x0 : TV) : Prg TV :=
  Prg.chk (TV.isAgg x0 3) (
  Prg.tv (plen (Kd.slice 41) (TV.cell x0 2)) fun v0 =>
  Prg.nat (asNat v0) fun n1 =>
  Prg.nat (asNat v0) fun n2 =>
  Prg.chk (Bool.and (Nat.ble n1 n2) (Nat.ble n2 4294967296)) (
  Prg.tv (plen (Kd.slice 41) (TV.cell x0 2)) fun v3 =>
  Prg.chk true (
  Prg.jmp [0, 0, 1, 0, 1, 1, 1] (f12_0_S (TV.cell x0 2) v3 (TV.lit (Value.int IntKind.i64 (0 : Int))) (TV.cell x0 0) (TV.cell x0 1) (TV.cell x0 2) (TV.sl true 1 (List.replicate n1 [TV.lit (Value.bool false)])) (TV.lit (Value.slice Option.none 0 0))))))
-- [0, 0, 1, 0, 1, 1, 1]
def f12_0  (x0 x1 x2 y3 y4 y5 w6 w7 : TV) : Prg TV :=
  Prg.tv (pbin (Kd.int IntKind.i64) BinOp.lss x2 x1) fun v4 =>
  Prg.ite (asBool v4) (
    Prg.tvs (pidx 14 x0 x2) fun e5 =>
    Prg.chk (Nat.ble 14 (List.length e5)) (
    Prg.ite (asBool (nth TV.hole e5 0)) (
      Prg.ite (asBool (nth TV.hole e5 4)) (
        Prg.nat (slLen w6) fun n6 =>
        Prg.nat (asNat x2) fun n7 =>
        Prg.chk (Bool.and (slSize w6 1) (Nat.blt n7 n6)) (
        Prg.tvs (pel w6 n7) fun e8 =>
        Prg.chk (fitsAt z4 e8 0) (
        Prg.tv (setC [] w6 n7 0 [TV.lit (Value.bool true)]) fun v9 =>
        Prg.chk (TV.isOne x2) (
        Prg.rws (pelems 1 (TV.sl true 1 (chunks 1 1 [x2]))) fun r10 =>
        Prg.tv (papp 1 w7 (lfLL r10)) fun v11 =>
        Prg.tv (pbin (Kd.int IntKind.i64) BinOp.add x2 (TV.lit (Value.int IntKind.i64 (1 : Int)))) fun v12 =>
        Prg.jmp [0, 0, 1, 0, 1, 1, 1] (f12_0_S x0 x1 v12 y3 y4 y5 v9 v11))))) (
        Prg.tv (pbin (Kd.int IntKind.i64) BinOp.add x2 (TV.lit (Value.int IntKind.i64 (1 : Int)))) fun v13 =>
        Prg.jmp [0, 0, 1, 0, 1, 1, 1] (f12_0_S x0 x1 v13 y3 y4 y5 w6 w7))) (
      Prg.tv (pbin (Kd.int IntKind.i64) BinOp.add x2 (TV.lit (Value.int IntKind.i64 (1 : Int)))) fun v14 =>
      Prg.jmp [0, 0, 1, 0, 1, 1, 1] (f12_0_S x0 x1 v14 y3 y4 y5 w6 w7)))) (
    Prg.jmp [1, 1, 1, 1] (f12_1_S y3 y4 y5 w6 w7))
-- [1, 1, 1, 1]
def f12_1  (y0 y1 y2 w3 w4 : TV) : Prg TV :=
  Prg.jmp [0, 0, 0, 1, 1, 1, 1] (f12_2_S y0 y1 y2 w3 w4)
-- [0, 0, 0, 1, 1, 1, 1]
def f12_2  (y0 y1 y2 w3 w4 : TV) : Prg TV :=
  Prg.tv (plen (Kd.slice 3) w4) fun v15 =>
  Prg.tv (pbin (Kd.int IntKind.i64) BinOp.gtr v15 (TV.lit (Value.int IntKind.i64 (0 : Int)))) fun v16 =>
  Prg.ite (asBool v16) (
    Prg.tv (plen (Kd.slice 3) w4) fun v17 =>
    Prg.tv (pbin (Kd.int IntKind.i64) BinOp.sub v17 (TV.lit (Value.int IntKind.i64 (1 : Int)))) fun v18 =>
    Prg.nat (slLen w4) fun n19 =>
    Prg.nat (asNat v18) fun n20 =>
    Prg.chk (Bool.and (slSize w4 1) (Nat.blt n20 n19)) (
    Prg.tvs (pel w4 n20) fun e21 =>
    Prg.chk (fitsAt z2 e21 0) (
    Prg.tv (plen (Kd.slice 3) w4) fun v22 =>
    Prg.tv (pbin (Kd.int IntKind.i64) BinOp.sub v22 (TV.lit (Value.int IntKind.i64 (1 : Int)))) fun v23 =>
    Prg.nat (slLen w4) fun n24 =>
    Prg.nat (asNat v23) fun n25 =>
    Prg.chk (Bool.and (Bool.and (slSize w4 1) (Nat.ble 0 (Option.getD (Option.some n25) n24))) (Nat.ble (Option.getD (Option.some n25) n24) n24)) (
    Prg.tvs (pidx 14 y2 (nth TV.hole e21 0)) fun e26 =>
    Prg.chk (Nat.ble 14 (List.length e26)) (
    Prg.call 15 [TV.agg [nth TV.hole e26 0, nth TV.hole e26 1, nth TV.hole e26 2, nth TV.hole e26 3, nth TV.hole e26 4, nth TV.hole e26 5, nth TV.hole e26 6, nth TV.hole e26 7, nth TV.hole e26 8, nth TV.hole e26 9, nth TV.hole e26 10, nth TV.hole e26 11, nth TV.hole e26 12, nth TV.hole e26 13]] fun v27 =>
    Prg.chk (fitsAt z22 [v27] 0) (
    Prg.tv (plen (Kd.slice 3) v27) fun v28 =>
    Prg.tv (winP 0 ((Option.getD (Option.some n25) n24) - 0) w4) fun v29 =>
    Prg.jmp [0, 0, 1, 1, 1, 0, 1, 0, 0, 0, 1, 1, 1, 1] (f12_3_S v28 (TV.lit (Value.int IntKind.i64 (0 : Int))) y0 y1 y2 w3 v29 v27))))))) (
    Prg.chk (isOwn w3) (
    Prg.ret w3))
-- [0, 0, 1, 1, 1, 0, 1, 0, 0, 0, 1, 1, 1, 1]
def f12_3  (x0 x1 y2 y3 y4 w5 w6 w7 : TV) : Prg TV :=
  Prg.tv (pbin (Kd.int IntKind.i64) BinOp.lss x1 x0) fun v30 =>
  Prg.ite (asBool v30) (
    Prg.nat (slLen w7) fun n31 =>
    Prg.nat (asNat x1) fun n32 =>
    Prg.chk (Bool.and (slSize w7 1) (Nat.blt n32 n31)) (
    Prg.tvs (pel w7 n32) fun e33 =>
    Prg.chk (fitsAt z2 e33 0) (
    Prg.tv (pbin (Kd.int IntKind.i64) BinOp.leq (TV.lit (Value.int IntKind.i64 (0 : Int))) (nth TV.hole e33 0)) fun v34 =>
    Prg.ite (asBool v34) (
      Prg.tv (plen (Kd.slice 4) w5) fun v35 =>
      Prg.tv (pbin (Kd.int IntKind.i64) BinOp.lss (nth TV.hole e33 0) v35) fun v36 =>
      Prg.ite (asBool v36) (
        Prg.nat (slLen w5) fun n37 =>
        Prg.nat (asNat (nth TV.hole e33 0)) fun n38 =>
        Prg.chk (Bool.and (slSize w5 1) (Nat.blt n38 n37)) (
        Prg.tvs (pel w5 n38) fun e39 =>
        Prg.chk (fitsAt z4 e39 0) (
        Prg.tv (pun UnOp.not (nth TV.hole e39 0)) fun v40 =>
        Prg.ite (asBool v40) (
          Prg.nat (slLen w5) fun n41 =>
          Prg.nat (asNat (nth TV.hole e33 0)) fun n42 =>
          Prg.chk (Bool.and (slSize w5 1) (Nat.blt n42 n41)) (
          Prg.tvs (pel w5 n42) fun e43 =>
          Prg.chk (fitsAt z4 e43 0) (
          Prg.tv (setC [] w5 n42 0 [TV.lit (Value.bool true)]) fun v44 =>
          Prg.rws (pelems 1 (TV.sl true 1 (chunks 1 1 [nth TV.hole e33 0]))) fun r45 =>
          Prg.tv (papp 1 w6 (lfLL r45)) fun v46 =>
          Prg.tv (pbin (Kd.int IntKind.i64) BinOp.add x1 (TV.lit (Value.int IntKind.i64 (1 : Int)))) fun v47 =>
          Prg.jmp [0, 0, 1, 1, 1, 0, 1, 0, 0, 0, 1, 1, 1, 1] (f12_3_S x0 v47 y2 y3 y4 v44 v46 w7)))) (
          Prg.tv (pbin (Kd.int IntKind.i64) BinOp.add x1 (TV.lit (Value.int IntKind.i64 (1 : Int)))) fun v48 =>
          Prg.jmp [0, 0, 1, 1, 1, 0, 1, 0, 0, 0, 1, 1, 1, 1] (f12_3_S x0 v48 y2 y3 y4 w5 w6 w7))))) (
        Prg.tv (pbin (Kd.int IntKind.i64) BinOp.add x1 (TV.lit (Value.int IntKind.i64 (1 : Int)))) fun v49 =>
        Prg.jmp [0, 0, 1, 1, 1, 0, 1, 0, 0, 0, 1, 1, 1, 1] (f12_3_S x0 v49 y2 y3 y4 w5 w6 w7))) (
      Prg.tv (pbin (Kd.int IntKind.i64) BinOp.add x1 (TV.lit (Value.int IntKind.i64 (1 : Int)))) fun v50 =>
      Prg.jmp [0, 0, 1, 1, 1, 0, 1, 0, 0, 0, 1, 1, 1, 1] (f12_3_S x0 v50 y2 y3 y4 w5 w6 w7))))) (
    Prg.jmp [0, 0, 0, 1, 1, 1, 1] (f12_2_S y2 y3 y4 w5 w6))
theorem f12_MR (x0 : TV) : startQ prog 12 [x0] = f12_M x0 := by kernel_rfl
theorem f12_0_R  (x0 x1 x2 y3 y4 y5 w6 w7 : TV) : pieceQ prog 12 [0, 0, 1, 0, 1, 1, 1] (f12_0_S x0 x1 x2 y3 y4 y5 w6 w7) = f12_0 x0 x1 x2 y3 y4 y5 w6 w7 := by kernel_rfl
theorem f12_1_R  (y0 y1 y2 w3 w4 : TV) : pieceQ prog 12 [1, 1, 1, 1] (f12_1_S y0 y1 y2 w3 w4) = f12_1 y0 y1 y2 w3 w4 := by kernel_rfl
theorem f12_2_R  (y0 y1 y2 w3 w4 : TV) : pieceQ prog 12 [0, 0, 0, 1, 1, 1, 1] (f12_2_S y0 y1 y2 w3 w4) = f12_2 y0 y1 y2 w3 w4 := by kernel_rfl
theorem f12_3_R  (x0 x1 y2 y3 y4 w5 w6 w7 : TV) : pieceQ prog 12 [0, 0, 1, 1, 1, 0, 1, 0, 0, 0, 1, 1, 1, 1] (f12_3_S x0 x1 y2 y3 y4 w5 w6 w7) = f12_3 x0 x1 y2 y3 y4 w5 w6 w7 := by kernel_rfl

def f13_M (x0 : TV) : Prg TV :=
  Prg.chk (TV.isAgg x0 3) (
  Prg.call 23 [TV.agg [TV.cell x0 0, TV.cell x0 1, TV.cell x0 2]] fun v0 =>
  Prg.chk (fitsAt z22 [v0] 0) (
  Prg.chk (isOwn v0) (
  Prg.ret v0)))
theorem f13_MR (x0 : TV) : startQ prog 13 [x0] = f13_M x0 := by kernel_rfl

def f14_0_S  (x0 x1 x2 : TV) : ASt := ⟨[AV.tv x0, AV.tv x1, AV.one CA.junk, AV.one CA.junk, AV.one CA.junk, AV.tv x2] ++ List.replicate 20 (AV.one CA.junk), List.replicate 50 (Option.none), []⟩
def f14_M (x0 x1 : TV) : Prg TV :=
  Prg.tv (plen (Kd.slice 3) x0) fun v0 =>
  Prg.tv (plen (Kd.slice 3) x1) fun v1 =>
  Prg.tv (pbin (Kd.int IntKind.i64) BinOp.neq v0 v1) fun v2 =>
  Prg.ite (asBool v2) (
    Prg.ret (TV.lit (Value.bool false))) (
    Prg.jmp [0, 0, 1, 0, 1, 1] (f14_0_S x0 x1 (TV.lit (Value.int IntKind.i64 (0 : Int)))))
-- [0, 0, 1, 0, 1, 1]
def f14_0  (x0 x1 x2 : TV) : Prg TV :=
  Prg.tv (plen (Kd.slice 3) x0) fun v3 =>
  Prg.tv (pbin (Kd.int IntKind.i64) BinOp.lss x2 v3) fun v4 =>
  Prg.ite (asBool v4) (
    Prg.tvs (pidx 1 x0 x2) fun e5 =>
    Prg.chk (Nat.blt 0 (List.length e5)) (
    Prg.tvs (pidx 1 x1 x2) fun e6 =>
    Prg.chk (Nat.blt 0 (List.length e6)) (
    Prg.tv (pbin (Kd.int IntKind.i64) BinOp.neq (nth TV.hole e5 0) (nth TV.hole e6 0)) fun v7 =>
    Prg.ite (asBool v7) (
      Prg.ret (TV.lit (Value.bool false))) (
      Prg.tv (pbin (Kd.int IntKind.i64) BinOp.add x2 (TV.lit (Value.int IntKind.i64 (1 : Int)))) fun v8 =>
      Prg.jmp [0, 0, 1, 0, 1, 1] (f14_0_S x0 x1 v8))))) (
    Prg.ret (TV.lit (Value.bool true)))
theorem f14_MR (x0 x1 : TV) : startQ prog 14 [x0, x1] = f14_M x0 x1 := by kernel_rfl
theorem f14_0_R  (x0 x1 x2 : TV) : pieceQ prog 14 [0, 0, 1, 0, 1, 1] (f14_0_S x0 x1 x2) = f14_0 x0 x1 x2 := by kernel_rfl

def f15_0_S  (x0 y1 y2 y3 y4 y5 y6 y7 y8 y9 y10 y11 y12 y13 y14 w15 : TV) : ASt := ⟨[AV.one CA.junk, AV.one (CA.ptr 0 0), AV.one CA.junk, AV.one CA.junk, AV.one (CA.sref 1 0 [])] ++ List.replicate 13 (AV.one CA.junk) ++ [AV.tv x0] ++ List.replicate 7 (AV.one CA.junk), [Option.some (BC.cells [CA.t y1, CA.t y2, CA.t y3, CA.t y4, CA.t y5, CA.t y6, CA.t y7, CA.t y8, CA.t y9, CA.t y10, CA.t y11, CA.t y12, CA.t y13, CA.t y14]), Option.some (BC.tree [w15])] ++ List.replicate 48 (Option.none), []⟩
def f15_M (x0 : TV) : Prg TV :=
  Prg.chk (TV.isAgg x0 14) (
  Prg.call 24 [TV.cell x0 6] fun v0 =>
  Prg.chk (fitsAt z2 [v0] 0) (
  Prg.call 25 [v0, TV.lit (Value.int IntKind.i64 (64 : Int))] fun v1 =>
  Prg.chk (fitsAt z4 [v1] 0) (
  Prg.ite (asBool v1) (
    Prg.rws (pelems 1 (TV.sl true 1 (chunks 1 1 [TV.cell x0 11]))) fun r2 =>
    Prg.tv (papp 1 (TV.lit (Value.slice Option.none 0 0)) (lfLL r2)) fun v3 =>
    Prg.call 25 [v0, TV.lit (Value.int IntKind.i64 (128 : Int))] fun v4 =>
    Prg.chk (fitsAt z4 [v4] 0) (
    Prg.jmp [1, 0, 1, 1, 1, 1] (f15_0_S v4 (TV.cell x0 0) (TV.cell x0 1) (TV.cell x0 2) (TV.cell x0 3) (TV.cell x0 4) (TV.cell x0 5) (TV.cell x0 6) (TV.cell x0 7) (TV.cell x0 8) (TV.cell x0 9) (TV.cell x0 10) (TV.cell x0 11) (TV.cell x0 12) (TV.cell x0 13) v3))) (
    Prg.call 25 [v0, TV.lit (Value.int IntKind.i64 (128 : Int))] fun v5 =>
    Prg.chk (fitsAt z4 [v5] 0) (
    Prg.chk true (
    Prg.jmp [1, 0, 1, 1, 1, 1] (f15_0_S v5 (TV.cell x0 0) (TV.cell x0 1) (TV.cell x0 2) (TV.cell x0 3) (TV.cell x0 4) (TV.cell x0 5) (TV.cell x0 6) (TV.cell x0 7) (TV.cell x0 8) (TV.cell x0 9) (TV.cell x0 10) (TV.cell x0 11) (TV.cell x0 12) (TV.cell x0 13) (TV.lit (Value.slice Option.none 0 0)))))))))
-- [1, 0, 1, 1, 1, 1]
def f15_0  (x0 y1 y2 y3 y4 y5 y6 y7 y8 y9 y10 y11 y12 y13 y14 w15 : TV) : Prg TV :=
  Prg.ite (asBool x0) (
    Prg.rws (pelems 1 (TV.sl true 1 (chunks 1 1 [y13]))) fun r6 =>
    Prg.tv (papp 1 w15 (lfLL r6)) fun v7 =>
    Prg.chk (isOwn v7) (
    Prg.ret v7)) (
    Prg.chk (isOwn w15) (
    Prg.ret w15))
theorem f15_MR (x0 : TV) : startQ prog 15 [x0] = f15_M x0 := by kernel_rfl
theorem f15_0_R  (x0 y1 y2 y3 y4 y5 y6 y7 y8 y9 y10 y11 y12 y13 y14 w15 : TV) : pieceQ prog 15 [1, 0, 1, 1, 1, 1] (f15_0_S x0 y1 y2 y3 y4 y5 y6 y7 y8 y9 y10 y11 y12 y13 y14 w15) = f15_0 x0 y1 y2 y3 y4 y5 y6 y7 y8 y9 y10 y11 y12 y13 y14 w15 := by kernel_rfl

def f16_0_S  (x0 x1 w2 : TV) : ASt := ⟨[AV.one CA.junk, AV.one CA.junk, AV.one (CA.ptr 0 0), AV.one (CA.sref 1 0 [])] ++ List.replicate 8 (AV.one CA.junk) ++ [AV.tv x0, AV.tv x1] ++ List.replicate 29 (AV.one CA.junk), [Option.some (BC.cells [CA.junk]), Option.some (BC.tree [w2])] ++ List.replicate 65 (Option.none), []⟩
def f16_1_S  (x0 x1 x2 x3 x4 w5 w6 : TV) : ASt := ⟨[AV.one CA.junk, AV.one CA.junk, AV.one (CA.ptr 0 0), AV.one (CA.sref 1 0 []), AV.tv x0, AV.one (CA.sref 2 0 [])] ++ List.replicate 6 (AV.one CA.junk) ++ [AV.tv x1, AV.tv x2] ++ List.replicate 8 (AV.one CA.junk) ++ [AV.one (CA.sref 2 0 []), AV.tv x3, AV.tv x4] ++ List.replicate 18 (AV.one CA.junk), [Option.some (BC.cells [CA.junk]), Option.some (BC.tree [w5]), Option.some (BC.tree [w6])] ++ List.replicate 64 (Option.none), []⟩
def f16_2_S  (x0 x1 x2 w3 w4 : TV) : ASt := ⟨[AV.one CA.junk, AV.one CA.junk, AV.one (CA.ptr 0 0), AV.one (CA.sref 1 0 []), AV.tv x0, AV.one (CA.sref 2 0 [])] ++ List.replicate 6 (AV.one CA.junk) ++ [AV.tv x1, AV.tv x2] ++ List.replicate 29 (AV.one CA.junk), [Option.some (BC.cells [CA.junk]), Option.some (BC.tree [w3]), Option.some (BC.tree [w4])] ++ List.replicate 64 (Option.none), []⟩
def f16_M (x0 : TV) : Prg TV :=
  Prg.chk (TV.isAgg x0 1) (
  Prg.call 26 [TV.cell x0 0] fun v0 =>
  Prg.chk (fitsAt z22 [v0] 0) (
  Prg.tv (plen (Kd.slice 27) v0) fun v1 =>
  Prg.jmp [0, 0, 1, 0, 1, 1] (f16_0_S v1 (TV.lit (Value.int IntKind.i64 (0 : Int))) v0)))
-- [0, 0, 1, 0, 1, 1]
def f16_0  (x0 x1 w2 : TV) : Prg TV :=
  Prg.tv (pbin (Kd.int IntKind.i64) BinOp.lss x1 x0) fun v2 =>
  Prg.ite (asBool v2) (
    Prg.nat (slLen w2) fun n3 =>
    Prg.nat (asNat x1) fun n4 =>
    Prg.chk (Bool.and (slSize w2 3) (Nat.blt n4 n3)) (
    Prg.tvs (pel w2 n4) fun e5 =>
    Prg.chk (fitsAt z22 e5 2) (
    Prg.tv (getP [(n4, 2)] w2) fun v6 =>
    Prg.chk (TV.isFr v6) (
    Prg.call 27 [v6] fun v7 =>
    Prg.chk (fitsAt z22 [v7] 0) (
    Prg.tv (plen (Kd.slice 41) v7) fun v8 =>
    Prg.jmp [0, 0, 1, 0, 1, 1, 0, 0, 1, 1, 0, 0, 1, 0, 1, 1] (f16_1_S x1 x0 x1 v8 (TV.lit (Value.int IntKind.i64 (0 : Int))) w2 v7)))))) (
    Prg.chk (isOwn (TV.agg [w2])) (
    Prg.ret (TV.agg [w2])))
-- [0, 0, 1, 0, 1, 1, 0, 0, 1, 1, 0, 0, 1, 0, 1, 1]
def f16_1  (x0 x1 x2 x3 x4 w5 w6 : TV) : Prg TV :=
  Prg.tv (pbin (Kd.int IntKind.i64) BinOp.lss x4 x3) fun v9 =>
  Prg.ite (asBool v9) (
    Prg.nat (slLen w6) fun n10 =>
    Prg.nat (asNat x4) fun n11 =>
    Prg.chk (Bool.and (slSize w6 14) (Nat.blt n11 n10)) (
    Prg.tvs (pel w6 n11) fun e12 =>
    Prg.chk (fitsAt z40 e12 0) (
    Prg.tv (getP [(n11, 2)] w6) fun v13 =>
    Prg.tv (getP [(n11, 5)] w6) fun v14 =>
    Prg.tv (getP [(n11, 10)] w6) fun v15 =>
    Prg.call 28 [TV.agg [nth TV.hole e12 0, nth TV.hole e12 1, frz v13, nth TV.hole e12 3, nth TV.hole e12 4, frz v14, nth TV.hole e12 6, nth TV.hole e12 7, nth TV.hole e12 8, nth TV.hole e12 9, frz v15, nth TV.hole e12 11, nth TV.hole e12 12, nth TV.hole e12 13]] fun v16 =>
    Prg.chk (Bool.and (TV.isAgg v16 14) (fitsAt z40 (TV.cellsL true v16) 0)) (
    Prg.nat (slLen w6) fun n17 =>
    Prg.nat (asNat x4) fun n18 =>
    Prg.chk (Bool.and (slSize w6 14) (Nat.blt n18 n17)) (
    Prg.tvs (pel w6 n18) fun e19 =>
    Prg.chk (Bool.and (fitsAt z40 e19 0) (fitsAt z40 [TV.cell v16 0, TV.cell v16 1, TV.cell v16 2, TV.cell v16 3, TV.cell v16 4, TV.cell v16 5, TV.cell v16 6, TV.cell v16 7, TV.cell v16 8, TV.cell v16 9, TV.cell v16 10, TV.cell v16 11, TV.cell v16 12, TV.cell v16 13] 0)) (
    Prg.tv (setC [] w6 n18 0 [TV.cell v16 0, TV.cell v16 1, TV.cell v16 2, TV.cell v16 3, TV.cell v16 4, TV.cell v16 5, TV.cell v16 6, TV.cell v16 7, TV.cell v16 8, TV.cell v16 9, TV.cell v16 10, TV.cell v16 11, TV.cell v16 12, TV.cell v16 13]) fun v20 =>
    Prg.tv (pbin (Kd.int IntKind.i64) BinOp.add x4 (TV.lit (Value.int IntKind.i64 (1 : Int)))) fun v21 =>
    Prg.jmp [0, 0, 1, 0, 1, 1, 0, 0, 1, 1, 0, 0, 1, 0, 1, 1] (f16_1_S x0 x1 x2 x3 v21 w5 v20))))))) (
    Prg.jmp [1, 1, 1, 0, 0, 1, 1, 0, 0, 1, 0, 1, 1] (f16_2_S x0 x1 x2 w5 w6))
-- [1, 1, 1, 0, 0, 1, 1, 0, 0, 1, 0, 1, 1]
def f16_2  (x0 x1 x2 w3 w4 : TV) : Prg TV :=
  Prg.nat (slLen w3) fun n22 =>
  Prg.nat (asNat x0) fun n23 =>
  Prg.chk (Bool.and (slSize w3 3) (Nat.blt n23 n22)) (
  Prg.tvs (pel w3 n23) fun e24 =>
  Prg.chk (Bool.and (fitsAt z22 e24 2) (fitsAt z22 [w4] 0)) (
  Prg.tv (setC [] w3 n23 2 [w4]) fun v25 =>
  Prg.tv (pbin (Kd.int IntKind.i64) BinOp.add x2 (TV.lit (Value.int IntKind.i64 (1 : Int)))) fun v26 =>
  Prg.jmp [0, 0, 1, 0, 1, 1] (f16_0_S x1 v26 v25)))
theorem f16_MR (x0 : TV) : startQ prog 16 [x0] = f16_M x0 := by kernel_rfl
theorem f16_0_R  (x0 x1 w2 : TV) : pieceQ prog 16 [0, 0, 1, 0, 1, 1] (f16_0_S x0 x1 w2) = f16_0 x0 x1 w2 := by kernel_rfl
theorem f16_1_R  (x0 x1 x2 x3 x4 w5 w6 : TV) : pieceQ prog 16 [0, 0, 1, 0, 1, 1, 0, 0, 1, 1, 0, 0, 1, 0, 1, 1] (f16_1_S x0 x1 x2 x3 x4 w5 w6) = f16_1 x0 x1 x2 x3 x4 w5 w6 := by kernel_rfl
theorem f16_2_R  (x0 x1 x2 w3 w4 : TV) : pieceQ prog 16 [1, 1, 1, 0, 0, 1, 1, 0, 0, 1, 0, 1, 1] (f16_2_S x0 x1 x2 w3 w4) = f16_2 x0 x1 x2 w3 w4 := by kernel_rfl

def f17_M (x0 x1 : TV) : Prg TV :=
  Prg.chk (TV.isAgg x0 1) (
  Prg.chk (TV.isAgg x1 1) (
  Prg.call 29 [TV.cell x0 0, TV.cell x1 0, TV.lit (Value.func (Fn.func 30) (Array.mk []) (Array.mk []))] fun v0 =>
  Prg.chk (fitsAt z4 [v0] 0) (
  Prg.ret v0)))
theorem f17_MR (x0 x1 : TV) : startQ prog 17 [x0, x1] = f17_M x0 x1 := by kernel_rfl

def f18_0_S  (x0 y1 y2 : TV) : ASt := ⟨[AV.one CA.junk, AV.one CA.junk, AV.one (CA.ptr 0 0), AV.one (CA.ptr 1 0), AV.one CA.junk, AV.tv x0] ++ List.replicate 26 (AV.one CA.junk), [Option.some (BC.cells [CA.t y1]), Option.some (BC.cells [CA.t y2])] ++ List.replicate 54 (Option.none), []⟩
def f18_M (x0 x1 : TV) : Prg TV :=
  Prg.chk (TV.isAgg x0 1) (
  Prg.chk (TV.isAgg x1 1) (
  Prg.tv (plen (Kd.slice 27) (TV.cell x0 0)) fun v0 =>
  Prg.tv (plen (Kd.slice 27) (TV.cell x1 0)) fun v1 =>
  Prg.tv (pbin (Kd.int IntKind.i64) BinOp.neq v0 v1) fun v2 =>
  Prg.ite (asBool v2) (
    Prg.ret (TV.lit (Value.bool false))) (
    Prg.jmp [0, 0, 1, 0, 1, 1] (f18_0_S (TV.lit (Value.int IntKind.i64 (0 : Int))) (TV.cell x0 0) (TV.cell x1 0)))))
-- [0, 0, 1, 0, 1, 1]
def f18_0  (x0 y1 y2 : TV) : Prg TV :=
  Prg.tv (plen (Kd.slice 27) y1) fun v3 =>
  Prg.tv (pbin (Kd.int IntKind.i64) BinOp.lss x0 v3) fun v4 =>
  Prg.ite (asBool v4) (
    Prg.tvs (pidx 3 y1 x0) fun e5 =>
    Prg.chk (Nat.ble 3 (List.length e5)) (
    Prg.tvs (pidx 3 y2 x0) fun e6 =>
    Prg.chk (Nat.ble 3 (List.length e6)) (
    Prg.call 31 [TV.agg [nth TV.hole e5 0, nth TV.hole e5 1, nth TV.hole e5 2], TV.agg [nth TV.hole e6 0, nth TV.hole e6 1, nth TV.hole e6 2]] fun v7 =>
    Prg.chk (fitsAt z4 [v7] 0) (
    Prg.tv (pun UnOp.not v7) fun v8 =>
    Prg.ite (asBool v8) (
      Prg.ret (TV.lit (Value.bool false))) (
      Prg.tv (pbin (Kd.int IntKind.i64) BinOp.add x0 (TV.lit (Value.int IntKind.i64 (1 : Int)))) fun v9 =>
      Prg.jmp [0, 0, 1, 0, 1, 1] (f18_0_S v9 y1 y2)))))) (
    Prg.ret (TV.lit (Value.bool true)))
theorem f18_MR (x0 x1 : TV) : startQ prog 18 [x0, x1] = f18_M x0 x1 := by kernel_rfl
theorem f18_0_R  (x0 y1 y2 : TV) : pieceQ prog 18 [0, 0, 1, 0, 1, 1] (f18_0_S x0 y1 y2) = f18_0 x0 y1 y2 := by kernel_rfl

def f19_0_S  (x0 x1 x2 y3 y4 y5 y6 y7 y8 y9 y10 y11 y12 y13 y14 y15 y16 y17 y18 y19 y20 : TV) : ASt := ⟨[AV.one CA.junk, AV.one CA.junk, AV.one (CA.ptr 0 0), AV.one (CA.ptr 1 0)] ++ List.replicate 17 (AV.one CA.junk) ++ [AV.tv x0, AV.tv x1, AV.tv x2] ++ List.replicate 12 (AV.one CA.junk), [Option.some (BC.cells [CA.t y3, CA.t y4, CA.t y5, CA.t y6]), Option.some (BC.cells [CA.t y7, CA.t y8, CA.t y9, CA.t y10, CA.t y11, CA.t y12, CA.t y13, CA.t y14, CA.t y15, CA.t y16, CA.t y17, CA.t y18, CA.t y19, CA.t y20])] ++ List.replicate 58 (Option.none), []⟩
def f19_1_S  (y0 y1 y2 y3 y4 y5 y6 y7 y8 y9 y10 y11 y12 y13 y14 y15 y16 y17 : TV) : ASt := ⟨[AV.one CA.junk, AV.one CA.junk, AV.one (CA.ptr 0 0), AV.one (CA.ptr 1 0)] ++ List.replicate 32 (AV.one CA.junk), [Option.some (BC.cells [CA.t y0, CA.t y1, CA.t y2, CA.t y3]), Option.some (BC.cells [CA.t y4, CA.t y5, CA.t y6, CA.t y7, CA.t y8, CA.t y9, CA.t y10, CA.t y11, CA.t y12, CA.t y13, CA.t y14, CA.t y15, CA.t y16, CA.t y17])] ++ List.replicate 58 (Option.none), []⟩
def f19_M (x0 x1 : TV) : Prg TV :=
  Prg.chk (TV.isAgg x0 4) (
  Prg.chk (TV.isAgg x1 14) (
  Prg.tv (plen (Kd.slice 49) (TV.cell x1 5)) fun v0 =>
  Prg.tv (pbin (Kd.int IntKind.i64) BinOp.gtr v0 (TV.lit (Value.int IntKind.i64 (64 : Int)))) fun v1 =>
  Prg.ite (asBool v1) (
    Prg.ret (TV.lit (Value.bool false))) (
    Prg.call 32 [TV.agg [TV.cell x0 0, TV.cell x0 1, TV.cell x0 2, TV.cell x0 3], TV.cell x1 0, TV.agg [TV.cell x1 1, TV.cell x1 2, TV.cell x1 3, TV.cell x1 4]] fun v2 =>
    Prg.chk (fitsAt z4 [v2] 0) (
    Prg.tv (pun UnOp.not v2) fun v3 =>
    Prg.ite (asBool v3) (
      Prg.ret (TV.lit (Value.bool false))) (
      Prg.tv (plen (Kd.slice 49) (TV.cell x1 5)) fun v4 =>
      Prg.jmp [0, 0, 1, 0, 1, 1] (f19_0_S (TV.cell x1 5) v4 (TV.lit (Value.int IntKind.i64 (0 : Int))) (TV.cell x0 0) (TV.cell x0 1) (TV.cell x0 2) (TV.cell x0 3) (TV.cell x1 0) (TV.cell x1 1) (TV.cell x1 2) (TV.cell x1 3) (TV.cell x1 4) (TV.cell x1 5) (TV.cell x1 6) (TV.cell x1 7) (TV.cell x1 8) (TV.cell x1 9) (TV.cell x1 10) (TV.cell x1 11) (TV.cell x1 12) (TV.cell x1 13)))))))
-- [0, 0, 1, 0, 1, 1]
def f19_0  (x0 x1 x2 y3 y4 y5 y6 y7 y8 y9 y10 y11 y12 y13 y14 y15 y16 y17 y18 y19 y20 : TV) : Prg TV :=
  Prg.tv (pbin (Kd.int IntKind.i64) BinOp.lss x2 x1) fun v5 =>
  Prg.ite (asBool v5) (
    Prg.tvs (pidx 7 x0 x2) fun e6 =>
    Prg.chk (Nat.ble 7 (List.length e6)) (
    Prg.call 33 [TV.agg [y3, y4, y5, y6], TV.agg [nth TV.hole e6 0, nth TV.hole e6 1, nth TV.hole e6 2, nth TV.hole e6 3, nth TV.hole e6 4, nth TV.hole e6 5, nth TV.hole e6 6]] fun v7 =>
    Prg.chk (fitsAt z4 [v7] 0) (
    Prg.tv (pun UnOp.not v7) fun v8 =>
    Prg.ite (asBool v8) (
      Prg.ret (TV.lit (Value.bool false))) (
      Prg.tv (pbin (Kd.int IntKind.i64) BinOp.add x2 (TV.lit (Value.int IntKind.i64 (1 : Int)))) fun v9 =>
      Prg.jmp [0, 0, 1, 0, 1, 1] (f19_0_S x0 x1 v9 y3 y4 y5 y6 y7 y8 y9 y10 y11 y12 y13 y14 y15 y16 y17 y18 y19 y20))))) (
    Prg.jmp [1, 1, 1] (f19_1_S y3 y4 y5 y6 y7 y8 y9 y10 y11 y12 y13 y14 y15 y16 y17 y18 y19 y20))
-- [1, 1, 1]
def f19_1  (y0 y1 y2 y3 y4 y5 y6 y7 y8 y9 y10 y11 y12 y13 y14 y15 y16 y17 : TV) : Prg TV :=
  Prg.call 34 [TV.agg [y0, y1, y2, y3], TV.agg [y10, y11, y12, y13, y14, y15, y16, y17]] fun v10 =>
  Prg.chk (fitsAt z4 [v10] 0) (
  Prg.ret v10)
theorem f19_MR (x0 x1 : TV) : startQ prog 19 [x0, x1] = f19_M x0 x1 := by kernel_rfl
theorem f19_0_R  (x0 x1 x2 y3 y4 y5 y6 y7 y8 y9 y10 y11 y12 y13 y14 y15 y16 y17 y18 y19 y20 : TV) : pieceQ prog 19 [0, 0, 1, 0, 1, 1] (f19_0_S x0 x1 x2 y3 y4 y5 y6 y7 y8 y9 y10 y11 y12 y13 y14 y15 y16 y17 y18 y19 y20) = f19_0 x0 x1 x2 y3 y4 y5 y6 y7 y8 y9 y10 y11 y12 y13 y14 y15 y16 y17 y18 y19 y20 := by kernel_rfl
theorem f19_1_R  (y0 y1 y2 y3 y4 y5 y6 y7 y8 y9 y10 y11 y12 y13 y14 y15 y16 y17 : TV) : pieceQ prog 19 [1, 1, 1] (f19_1_S y0 y1 y2 y3 y4 y5 y6 y7 y8 y9 y10 y11 y12 y13 y14 y15 y16 y17) = f19_1 y0 y1 y2 y3 y4 y5 y6 y7 y8 y9 y10 y11 y12 y13 y14 y15 y16 y17 := by kernel_rfl

def f20_0_S  (x0 y1 y2 y3 y4 y5 y6 y7 : TV) : ASt := ⟨[AV.one CA.junk, AV.one CA.junk, AV.one (CA.ptr 0 0), AV.one CA.junk, AV.one CA.junk, AV.one (CA.ptr 1 0), AV.tv x0] ++ List.replicate 69 (AV.one CA.junk), [Option.some (BC.cells [CA.t y1, CA.t y2, CA.t y3]), Option.some (BC.cells [CA.t y4, CA.t y5, CA.t y6, CA.t y7])] ++ List.replicate 98 (Option.none), []⟩
def f20_1_S  (x0 x1 y2 y3 y4 y5 y6 y7 y8 : TV) : ASt := ⟨[AV.one CA.junk, AV.one CA.junk, AV.one (CA.ptr 0 0), AV.one CA.junk, AV.one CA.junk, AV.one (CA.ptr 1 0), AV.tv x0, AV.tv x1] ++ List.replicate 68 (AV.one CA.junk), [Option.some (BC.cells [CA.t y2, CA.t y3, CA.t y4]), Option.some (BC.cells [CA.t y5, CA.t y6, CA.t y7, CA.t y8])] ++ List.replicate 98 (Option.none), []⟩
def f20_2_S  (y0 y1 y2 y3 y4 y5 y6 : TV) : ASt := ⟨[AV.one CA.junk, AV.one CA.junk, AV.one (CA.ptr 0 0), AV.one CA.junk, AV.one CA.junk, AV.one (CA.ptr 1 0)] ++ List.replicate 70 (AV.one CA.junk), [Option.some (BC.cells [CA.t y0, CA.t y1, CA.t y2]), Option.some (BC.cells [CA.t y3, CA.t y4, CA.t y5, CA.t y6])] ++ List.replicate 98 (Option.none), []⟩
def f20_M (x0 x1 : TV) : Prg TV :=
  Prg.chk (TV.isAgg x0 3) (
  Prg.chk (TV.isAgg x1 14) (
  Prg.tv (pun UnOp.not (TV.cell x1 0)) fun v0 =>
  Prg.ite (asBool v0) (
    Prg.tv (pbin (Kd.int IntKind.i64) BinOp.eql (TV.cell x1 1) (TV.lit (Value.int IntKind.i64 (0 : Int)))) fun v1 =>
    Prg.ite (asBool v1) (
      Prg.tv (plen (Kd.slice 44) (TV.cell x1 2)) fun v2 =>
      Prg.tv (pbin (Kd.int IntKind.i64) BinOp.eql v2 (TV.lit (Value.int IntKind.i64 (0 : Int)))) fun v3 =>
      Prg.ite (asBool v3) (
        Prg.tv (pun UnOp.not (TV.cell x1 3)) fun v4 =>
        Prg.ite (asBool v4) (
          Prg.tv (pun UnOp.not (TV.cell x1 4)) fun v5 =>
          Prg.ret v5) (
          Prg.ret (TV.lit (Value.bool false)))) (
        Prg.ret (TV.lit (Value.bool false)))) (
      Prg.ret (TV.lit (Value.bool false)))) (
    Prg.jmp [0, 0, 1, 0, 1, 1, 1] (f20_0_S (TV.lit (Value.int IntKind.i64 (0 : Int))) (TV.cell x0 0) (TV.cell x0 1) (TV.cell x0 2) (TV.cell x1 1) (TV.cell x1 2) (TV.cell x1 3) (TV.cell x1 4)))))
-- [0, 0, 1, 0, 1, 1, 1]
def f20_0  (x0 y1 y2 y3 y4 y5 y6 y7 : TV) : Prg TV :=
  Prg.tv (plen (Kd.slice 44) y5) fun v6 =>
  Prg.tv (pbin (Kd.int IntKind.i64) BinOp.lss x0 v6) fun v7 =>
  Prg.ite (asBool v7) (
    Prg.tv (pbin (Kd.int IntKind.i64) BinOp.geq x0 (TV.lit (Value.int IntKind.i64 (8 : Int)))) fun v8 =>
    Prg.ite (asBool v8) (
      Prg.ret (TV.lit (Value.bool false))) (
      Prg.jmp [0, 0, 1, 1, 0, 0, 1, 0, 0, 1, 0, 1, 1, 1] (f20_1_S x0 (TV.lit (Value.int IntKind.i64 (0 : Int))) y1 y2 y3 y4 y5 y6 y7))) (
    Prg.jmp [1, 1, 1, 1] (f20_2_S y1 y2 y3 y4 y5 y6 y7))
-- [0, 0, 1, 1, 0, 0, 1, 0, 0, 1, 0, 1, 1, 1]
def f20_1  (x0 x1 y2 y3 y4 y5 y6 y7 y8 : TV) : Prg TV :=
  Prg.tv (pbin (Kd.int IntKind.i64) BinOp.lss x1 x0) fun v9 =>
  Prg.ite (asBool v9) (
    Prg.tvs (pidx 1 y6 x1) fun e10 =>
    Prg.chk (Nat.blt 0 (List.length e10)) (
    Prg.tvs (pidx 1 y6 x0) fun e11 =>
    Prg.chk (Nat.blt 0 (List.length e11)) (
    Prg.tv (pbin (Kd.int IntKind.u16) BinOp.eql (nth TV.hole e10 0) (nth TV.hole e11 0)) fun v12 =>
    Prg.ite (asBool v12) (
      Prg.ret (TV.lit (Value.bool false))) (
      Prg.tv (pbin (Kd.int IntKind.i64) BinOp.add x1 (TV.lit (Value.int IntKind.i64 (1 : Int)))) fun v13 =>
      Prg.jmp [0, 0, 1, 1, 0, 0, 1, 0, 0, 1, 0, 1, 1, 1] (f20_1_S x0 v13 y2 y3 y4 y5 y6 y7 y8))))) (
    Prg.tv (pbin (Kd.int IntKind.i64) BinOp.add x0 (TV.lit (Value.int IntKind.i64 (1 : Int)))) fun v14 =>
    Prg.jmp [0, 0, 1, 0, 1, 1, 1] (f20_0_S v14 y2 y3 y4 y5 y6 y7 y8))
-- [1, 1, 1, 1]
def f20_2  (y0 y1 y2 y3 y4 y5 y6 : TV) : Prg TV :=
  Prg.call 35 [y3, y1] fun v15 =>
  Prg.chk (fitsAt z4 [v15] 0) (
  Prg.ite (asBool v15) (
    Prg.tv (plen (Kd.slice 44) y4) fun v16 =>
    Prg.tv (pbin (Kd.int IntKind.i64) BinOp.gtr v16 (TV.lit (Value.int IntKind.i64 (0 : Int)))) fun v17 =>
    Prg.ite (asBool v17) (
      Prg.ret (TV.lit (Value.bool true))) (
      Prg.ite (asBool y5) (
        Prg.ret (TV.lit (Value.bool true))) (
        Prg.ret y6))) (
    Prg.ret (TV.lit (Value.bool false))))
theorem f20_MR (x0 x1 : TV) : startQ prog 20 [x0, x1] = f20_M x0 x1 := by kernel_rfl
theorem f20_0_R  (x0 y1 y2 y3 y4 y5 y6 y7 : TV) : pieceQ prog 20 [0, 0, 1, 0, 1, 1, 1] (f20_0_S x0 y1 y2 y3 y4 y5 y6 y7) = f20_0 x0 y1 y2 y3 y4 y5 y6 y7 := by kernel_rfl
theorem f20_1_R  (x0 x1 y2 y3 y4 y5 y6 y7 y8 : TV) : pieceQ prog 20 [0, 0, 1, 1, 0, 0, 1, 0, 0, 1, 0, 1, 1, 1] (f20_1_S x0 x1 y2 y3 y4 y5 y6 y7 y8) = f20_1 x0 x1 y2 y3 y4 y5 y6 y7 y8 := by kernel_rfl
theorem f20_2_R  (y0 y1 y2 y3 y4 y5 y6 : TV) : pieceQ prog 20 [1, 1, 1, 1] (f20_2_S y0 y1 y2 y3 y4 y5 y6) = f20_2 y0 y1 y2 y3 y4 y5 y6 := by kernel_rfl

end Go.Ab.S2

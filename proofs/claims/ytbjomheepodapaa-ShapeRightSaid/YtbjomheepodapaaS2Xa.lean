import Derived.Test.YtbjomheepodapaaS2T
set_option linter.unusedVariables false
set_option maxRecDepth 100000
namespace Go.Ab.S2
open Go Go.Ab Go.Proofs
def f3_0_S  (x0 y1 y2 y3 w4 w5 : TV) : ASt := ⟨[AV.one CA.junk, AV.one CA.junk, AV.one CA.junk, AV.one (CA.ptr 0 0), AV.one CA.junk, AV.one (CA.sref 1 0 []), AV.one (CA.sref 2 0 []), AV.tv x0] ++ List.replicate 93 (AV.one CA.junk), [Option.some (BC.cells [CA.t y1, CA.t y2, CA.t y3]), Option.some (BC.tree [w4]), Option.some (BC.tree [w5])] ++ List.replicate 122 (Option.none), []⟩
def f3_1_S  (x0 x1 y2 y3 y4 w5 w6 y7 y8 y9 y10 y11 y12 y13 y14 w15 : TV) : ASt := ⟨[AV.one CA.junk, AV.one CA.junk, AV.one CA.junk, AV.one (CA.ptr 0 0), AV.one CA.junk, AV.one (CA.sref 1 0 []), AV.one (CA.sref 2 0 []), AV.tv x0, AV.one (CA.ptr 3 0), AV.one (CA.sref 4 0 [])] ++ List.replicate 68 (AV.one CA.junk) ++ [AV.tv x1] ++ List.replicate 22 (AV.one CA.junk), [Option.some (BC.cells [CA.t y2, CA.t y3, CA.t y4]), Option.some (BC.tree [w5]), Option.some (BC.tree [w6]), Option.some (BC.cells [CA.t y7, CA.t y8, CA.t y9, CA.t y10, CA.t y11, CA.t y12, CA.t y13, CA.t y14]), Option.some (BC.tree [w15])] ++ List.replicate 120 (Option.none), []⟩
def f3_2_S  (x0 x1 y2 y3 y4 w5 w6 y7 y8 y9 y10 y11 y12 y13 y14 w15 : TV) : ASt := ⟨[AV.one CA.junk, AV.one CA.junk, AV.one CA.junk, AV.one (CA.ptr 0 0), AV.one CA.junk, AV.one (CA.sref 1 0 []), AV.one (CA.sref 2 0 []), AV.tv x0, AV.one (CA.ptr 3 0), AV.one (CA.sref 4 0 [])] ++ List.replicate 76 (AV.one CA.junk) ++ [AV.tv x1] ++ List.replicate 14 (AV.one CA.junk), [Option.some (BC.cells [CA.t y2, CA.t y3, CA.t y4]), Option.some (BC.tree [w5]), Option.some (BC.tree [w6]), Option.some (BC.cells [CA.t y7, CA.t y8, CA.t y9, CA.t y10, CA.t y11, CA.t y12, CA.t y13, CA.t y14]), Option.some (BC.tree [w15])] ++ List.replicate 120 (Option.none), []⟩
def f3_3_S  (x0 y1 y2 y3 w4 w5 w6 : TV) : ASt := ⟨[AV.one CA.junk, AV.one CA.junk, AV.one CA.junk, AV.one (CA.ptr 0 0), AV.one CA.junk, AV.one (CA.sref 1 0 []), AV.one (CA.sref 2 0 []), AV.tv x0, AV.one CA.junk, AV.one (CA.sref 3 0 [])] ++ List.replicate 91 (AV.one CA.junk), [Option.some (BC.cells [CA.t y1, CA.t y2, CA.t y3]), Option.some (BC.tree [w4]), Option.some (BC.tree [w5]), Option.some (BC.tree [w6])] ++ List.replicate 121 (Option.none), []⟩
def f3_M (x0 x1 : TV) : Prg TV :=
  Prg.chk (TV.isAgg x0 1) (
  Prg.chk (TV.isAgg x1 3) (
  Prg.call 6 [] fun v0 =>
  Prg.chk (fitsAt z4 [v0] 0) (
  Prg.tv (pun UnOp.not v0) fun v1 =>
  Prg.ite (asBool v1) (
    Prg.ret (TV.lit (Value.bool false))) (
    Prg.call 7 [TV.agg [TV.cell x0 0]] fun v2 =>
    Prg.chk (fitsAt z4 [v2] 0) (
    Prg.tv (pun UnOp.not v2) fun v3 =>
    Prg.ite (asBool v3) (
      Prg.ret (TV.lit (Value.bool true))) (
      Prg.call 7 [TV.agg [frz (TV.sl true 3 (chunks 3 1 [TV.cell x1 0, TV.cell x1 1, TV.cell x1 2]))]] fun v4 =>
      Prg.chk (fitsAt z4 [v4] 0) (
      Prg.tv (pun UnOp.not v4) fun v5 =>
      Prg.ite (asBool v5) (
        Prg.ret (TV.lit (Value.bool true))) (
        Prg.call 8 [TV.agg [TV.cell x0 0]] fun v6 =>
        Prg.chk (fitsAt z4 [v6] 0) (
        Prg.call 9 [TV.agg [TV.cell x0 0]] fun v7 =>
        Prg.chk (fitsAt z4 [v7] 0) (
        Prg.tv (pbin Kd.bool BinOp.neq v6 v7) fun v8 =>
        Prg.ite (asBool v8) (
          Prg.ret (TV.lit (Value.bool false))) (
          Prg.call 10 [TV.agg [TV.cell x0 0], TV.agg [TV.cell x1 0, TV.cell x1 1, TV.cell x1 2]] fun v9 =>
          Prg.chk (fitsAt z4 [v9] 0) (
          Prg.call 11 [TV.agg [TV.cell x0 0], TV.agg [TV.cell x1 0, TV.cell x1 1, TV.cell x1 2]] fun v10 =>
          Prg.chk (fitsAt z4 [v10] 0) (
          Prg.tv (pbin Kd.bool BinOp.neq v9 v10) fun v11 =>
          Prg.ite (asBool v11) (
            Prg.ret (TV.lit (Value.bool false))) (
            Prg.call 12 [TV.agg [TV.cell x1 0, TV.cell x1 1, TV.cell x1 2]] fun v12 =>
            Prg.chk (fitsAt z22 [v12] 0) (
            Prg.call 13 [TV.agg [TV.cell x1 0, TV.cell x1 1, TV.cell x1 2]] fun v13 =>
            Prg.chk (fitsAt z22 [v13] 0) (
            Prg.tv (plen (Kd.slice 4) v12) fun v14 =>
            Prg.tv (plen (Kd.slice 4) v13) fun v15 =>
            Prg.tv (pbin (Kd.int IntKind.i64) BinOp.neq v14 v15) fun v16 =>
            Prg.ite (asBool v16) (
              Prg.ret (TV.lit (Value.bool false))) (
              Prg.jmp [0, 0, 1, 0, 1, 1, 1, 1, 1, 1] (f3_0_S (TV.lit (Value.int IntKind.i64 (0 : Int))) (TV.cell x1 0) (TV.cell x1 1) (TV.cell x1 2) v12 v13))))))))))))))))))
-- [0, 0, 1, 0, 1, 1, 1, 1, 1, 1]
def f3_0  (x0 y1 y2 y3 w4 w5 : TV) : Prg TV :=
  Prg.tv (plen (Kd.slice 4) w4) fun v17 =>
  Prg.tv (pbin (Kd.int IntKind.i64) BinOp.lss x0 v17) fun v18 =>
  Prg.ite (asBool v18) (
    Prg.nat (slLen w4) fun n19 =>
    Prg.nat (asNat x0) fun n20 =>
    Prg.chk (Bool.and (slSize w4 1) (Nat.blt n20 n19)) (
    Prg.tvs (pel w4 n20) fun e21 =>
    Prg.chk (fitsAt z4 e21 0) (
    Prg.nat (slLen w5) fun n22 =>
    Prg.nat (asNat x0) fun n23 =>
    Prg.chk (Bool.and (slSize w5 1) (Nat.blt n23 n22)) (
    Prg.tvs (pel w5 n23) fun e24 =>
    Prg.chk (fitsAt z4 e24 0) (
    Prg.tv (pbin Kd.bool BinOp.neq (nth TV.hole e21 0) (nth TV.hole e24 0)) fun v25 =>
    Prg.ite (asBool v25) (
      Prg.ret (TV.lit (Value.bool false))) (
      Prg.tvs (pidx 14 y3 x0) fun e26 =>
      Prg.chk (Nat.ble 14 (List.length e26)) (
      Prg.tv (pbin (Kd.int IntKind.i64) BinOp.eql (nth TV.hole e26 6) (TV.lit (Value.int IntKind.i64 (2 : Int)))) fun v27 =>
      Prg.ite (asBool v27) (
        Prg.chk true (
        Prg.jmp [1, 0, 1, 1, 1, 0, 0, 1, 0, 0, 1, 0, 1, 1, 1, 1, 1, 1] (f3_1_S x0 (TV.lit (Value.bool true)) y1 y2 y3 w4 w5 (nth TV.hole e26 6) (nth TV.hole e26 7) (nth TV.hole e26 8) (nth TV.hole e26 9) (nth TV.hole e26 10) (nth TV.hole e26 11) (nth TV.hole e26 12) (nth TV.hole e26 13) (TV.lit (Value.slice Option.none 0 0))))) (
        Prg.tv (pbin (Kd.int IntKind.i64) BinOp.eql (nth TV.hole e26 6) (TV.lit (Value.int IntKind.i64 (3 : Int)))) fun v28 =>
        Prg.ite (asBool v28) (
          Prg.chk true (
          Prg.jmp [1, 0, 1, 1, 1, 0, 0, 1, 0, 0, 1, 0, 1, 1, 1, 1, 1, 1] (f3_1_S x0 (TV.lit (Value.bool true)) y1 y2 y3 w4 w5 (nth TV.hole e26 6) (nth TV.hole e26 7) (nth TV.hole e26 8) (nth TV.hole e26 9) (nth TV.hole e26 10) (nth TV.hole e26 11) (nth TV.hole e26 12) (nth TV.hole e26 13) (TV.lit (Value.slice Option.none 0 0))))) (
          Prg.tv (pbin (Kd.int IntKind.i64) BinOp.eql (nth TV.hole e26 6) (TV.lit (Value.int IntKind.i64 (4 : Int)))) fun v29 =>
          Prg.chk true (
          Prg.jmp [1, 0, 1, 1, 1, 0, 0, 1, 0, 0, 1, 0, 1, 1, 1, 1, 1, 1] (f3_1_S x0 v29 y1 y2 y3 w4 w5 (nth TV.hole e26 6) (nth TV.hole e26 7) (nth TV.hole e26 8) (nth TV.hole e26 9) (nth TV.hole e26 10) (nth TV.hole e26 11) (nth TV.hole e26 12) (nth TV.hole e26 13) (TV.lit (Value.slice Option.none 0 0))))))))))))) (
    Prg.ret (TV.lit (Value.bool true)))
-- [1, 0, 1, 1, 1, 0, 0, 1, 0, 0, 1, 0, 1, 1, 1, 1, 1, 1]
def f3_1  (x0 x1 y2 y3 y4 w5 w6 y7 y8 y9 y10 y11 y12 y13 y14 w15 : TV) : Prg TV :=
  Prg.ite (asBool x1) (
    Prg.rws (pelems 1 (TV.sl true 1 (chunks 1 1 [y12]))) fun r30 =>
    Prg.tv (papp 1 w15 (lfLL r30)) fun v31 =>
    Prg.tv (pbin (Kd.int IntKind.i64) BinOp.eql y7 (TV.lit (Value.int IntKind.i64 (3 : Int)))) fun v32 =>
    Prg.jmp [1, 0, 1, 1, 1, 1, 0, 0, 1, 0, 0, 1, 0, 1, 1, 1, 1, 1, 1] (f3_2_S x0 v32 y2 y3 y4 w5 w6 y7 y8 y9 y10 y11 y12 y13 y14 v31)) (
    Prg.tv (pbin (Kd.int IntKind.i64) BinOp.eql y7 (TV.lit (Value.int IntKind.i64 (3 : Int)))) fun v33 =>
    Prg.jmp [1, 0, 1, 1, 1, 1, 0, 0, 1, 0, 0, 1, 0, 1, 1, 1, 1, 1, 1] (f3_2_S x0 v33 y2 y3 y4 w5 w6 y7 y8 y9 y10 y11 y12 y13 y14 w15))
-- [1, 0, 1, 1, 1, 1, 0, 0, 1, 0, 0, 1, 0, 1, 1, 1, 1, 1, 1]
def f3_2  (x0 x1 y2 y3 y4 w5 w6 y7 y8 y9 y10 y11 y12 y13 y14 w15 : TV) : Prg TV :=
  Prg.ite (asBool x1) (
    Prg.rws (pelems 1 (TV.sl true 1 (chunks 1 1 [y13]))) fun r34 =>
    Prg.tv (papp 1 w15 (lfLL r34)) fun v35 =>
    Prg.jmp [1, 1, 1, 1, 1, 0, 0, 1, 0, 0, 1, 0, 1, 1, 1, 1, 1, 1] (f3_3_S x0 y2 y3 y4 w5 w6 v35)) (
    Prg.jmp [1, 1, 1, 1, 1, 0, 0, 1, 0, 0, 1, 0, 1, 1, 1, 1, 1, 1] (f3_3_S x0 y2 y3 y4 w5 w6 w15))
-- [1, 1, 1, 1, 1, 0, 0, 1, 0, 0, 1, 0, 1, 1, 1, 1, 1, 1]
def f3_3  (x0 y1 y2 y3 w4 w5 w6 : TV) : Prg TV :=
  Prg.tvs (pidx 14 y3 x0) fun e36 =>
  Prg.chk (Nat.ble 14 (List.length e36)) (
  Prg.call 15 [TV.agg [nth TV.hole e36 0, nth TV.hole e36 1, nth TV.hole e36 2, nth TV.hole e36 3, nth TV.hole e36 4, nth TV.hole e36 5, nth TV.hole e36 6, nth TV.hole e36 7, nth TV.hole e36 8, nth TV.hole e36 9, nth TV.hole e36 10, nth TV.hole e36 11, nth TV.hole e36 12, nth TV.hole e36 13]] fun v37 =>
  Prg.chk (fitsAt z22 [v37] 0) (
  Prg.call 14 [frz v37, frz w6] fun v38 =>
  Prg.chk (fitsAt z4 [v38] 0) (
  Prg.tv (pun UnOp.not v38) fun v39 =>
  Prg.ite (asBool v39) (
    Prg.ret (TV.lit (Value.bool false))) (
    Prg.tv (pbin (Kd.int IntKind.i64) BinOp.add x0 (TV.lit (Value.int IntKind.i64 (1 : Int)))) fun v40 =>
    Prg.jmp [0, 0, 1, 0, 1, 1, 1, 1, 1, 1] (f3_0_S v40 y1 y2 y3 w4 w5)))))
theorem f3_MR (x0 x1 : TV) : startQ prog 3 [x0, x1] = f3_M x0 x1 := by kernel_rfl
theorem f3_0_R  (x0 y1 y2 y3 w4 w5 : TV) : pieceQ prog 3 [0, 0, 1, 0, 1, 1, 1, 1, 1, 1] (f3_0_S x0 y1 y2 y3 w4 w5) = f3_0 x0 y1 y2 y3 w4 w5 := by kernel_rfl
theorem f3_1_R  (x0 x1 y2 y3 y4 w5 w6 y7 y8 y9 y10 y11 y12 y13 y14 w15 : TV) : pieceQ prog 3 [1, 0, 1, 1, 1, 0, 0, 1, 0, 0, 1, 0, 1, 1, 1, 1, 1, 1] (f3_1_S x0 x1 y2 y3 y4 w5 w6 y7 y8 y9 y10 y11 y12 y13 y14 w15) = f3_1 x0 x1 y2 y3 y4 w5 w6 y7 y8 y9 y10 y11 y12 y13 y14 w15 := by kernel_rfl
theorem f3_2_R  (x0 x1 y2 y3 y4 w5 w6 y7 y8 y9 y10 y11 y12 y13 y14 w15 : TV) : pieceQ prog 3 [1, 0, 1, 1, 1, 1, 0, 0, 1, 0, 0, 1, 0, 1, 1, 1, 1, 1, 1] (f3_2_S x0 x1 y2 y3 y4 w5 w6 y7 y8 y9 y10 y11 y12 y13 y14 w15) = f3_2 x0 x1 y2 y3 y4 w5 w6 y7 y8 y9 y10 y11 y12 y13 y14 w15 := by kernel_rfl
theorem f3_3_R  (x0 y1 y2 y3 w4 w5 w6 : TV) : pieceQ prog 3 [1, 1, 1, 1, 1, 0, 0, 1, 0, 0, 1, 0, 1, 1, 1, 1, 1, 1] (f3_3_S x0 y1 y2 y3 w4 w5 w6) = f3_3 x0 y1 y2 y3 w4 w5 w6 := by kernel_rfl

def f4_0_S  (k0 k1 : Nat) (y2 w3 w4 : TV) : ASt := ⟨[AV.one CA.junk, AV.one CA.junk, AV.one CA.junk, AV.one (CA.ptr 0 0), AV.one CA.junk, AV.one CA.junk, AV.one CA.junk, AV.one (CA.ptr 1 0), AV.one (CA.ptr 2 0), AV.one CA.junk, AV.one (CA.tptr 3 0 [(k0, 2)] k1 0)] ++ List.replicate 137 (AV.one CA.junk), [Option.some (BC.cells [CA.t y2]), Option.some (BC.cells [CA.sref 3 0 []]), Option.some (BC.cells [CA.sref 4 0 []]), Option.some (BC.tree [w3]), Option.some (BC.tree [w4])] ++ List.replicate 167 (Option.none), []⟩
def f4_1_S  (y0 w1 w2 : TV) : ASt := ⟨[AV.one CA.junk, AV.one CA.junk, AV.one CA.junk, AV.one (CA.ptr 0 0), AV.one CA.junk, AV.one CA.junk, AV.one CA.junk, AV.one (CA.ptr 1 0), AV.one (CA.ptr 2 0)] ++ List.replicate 139 (AV.one CA.junk), [Option.some (BC.cells [CA.t y0]), Option.some (BC.cells [CA.sref 3 0 []]), Option.some (BC.cells [CA.sref 4 0 []]), Option.some (BC.tree [w1]), Option.some (BC.tree [w2])] ++ List.replicate 167 (Option.none), []⟩
def f4_M (x0 x1 x2 : TV) : Prg TV :=
  Prg.chk (TV.isAgg x0 1) (
  Prg.chk (TV.isAgg x1 1) (
  Prg.call 6 [] fun v0 =>
  Prg.chk (fitsAt z4 [v0] 0) (
  Prg.tv (pun UnOp.not v0) fun v1 =>
  Prg.ite (asBool v1) (
    Prg.ret (TV.lit (Value.bool false))) (
    Prg.call 7 [TV.agg [TV.cell x0 0]] fun v2 =>
    Prg.chk (fitsAt z4 [v2] 0) (
    Prg.tv (pun UnOp.not v2) fun v3 =>
    Prg.ite (asBool v3) (
      Prg.ret (TV.lit (Value.bool true))) (
      Prg.call 7 [TV.agg [TV.cell x1 0]] fun v4 =>
      Prg.chk (fitsAt z4 [v4] 0) (
      Prg.tv (pun UnOp.not v4) fun v5 =>
      Prg.ite (asBool v5) (
        Prg.ret (TV.lit (Value.bool true))) (
        Prg.call 16 [TV.agg [TV.cell x0 0]] fun v6 =>
        Prg.chk (Bool.and (TV.isAgg v6 1) (fitsAt z22 (TV.cellsL true v6) 0)) (
        Prg.call 16 [TV.agg [TV.cell x0 0]] fun v7 =>
        Prg.chk (Bool.and (TV.isAgg v7 1) (fitsAt z22 (TV.cellsL true v7) 0)) (
        Prg.call 17 [TV.agg [TV.cell x0 0], TV.agg [TV.cell x1 0]] fun v8 =>
        Prg.chk (fitsAt z4 [v8] 0) (
        Prg.call 18 [TV.agg [TV.cell x0 0], TV.agg [TV.cell x1 0]] fun v9 =>
        Prg.chk (fitsAt z4 [v9] 0) (
        Prg.tv (pbin Kd.bool BinOp.neq v8 v9) fun v10 =>
        Prg.ite (asBool v10) (
          Prg.ret (TV.lit (Value.bool false))) (
          Prg.call 18 [TV.agg [frz (TV.cell v6 0)], TV.agg [TV.cell x0 0]] fun v11 =>
          Prg.chk (fitsAt z4 [v11] 0) (
          Prg.tv (pun UnOp.not v11) fun v12 =>
          Prg.ite (asBool v12) (
            Prg.ret (TV.lit (Value.bool false))) (
            Prg.call 17 [TV.agg [frz (TV.cell v6 0)], TV.agg [TV.cell x0 0]] fun v13 =>
            Prg.chk (fitsAt z4 [v13] 0) (
            Prg.tv (pun UnOp.not v13) fun v14 =>
            Prg.ite (asBool v14) (
              Prg.ret (TV.lit (Value.bool false))) (
              Prg.tv (plen (Kd.slice 27) (TV.cell v6 0)) fun v15 =>
              Prg.tv (pbin (Kd.int IntKind.i64) BinOp.eql v15 (TV.lit (Value.int IntKind.i64 (0 : Int)))) fun v16 =>
              Prg.ite (asBool v16) (
                Prg.ret (TV.lit (Value.bool true))) (
                Prg.tv (pconv (Kd.int IntKind.i64) x2) fun v17 =>
                Prg.tv (plen (Kd.slice 27) (TV.cell v6 0)) fun v18 =>
                Prg.tv (pbin (Kd.int IntKind.i64) BinOp.rem v17 v18) fun v19 =>
                Prg.nat (slLen (TV.cell v6 0)) fun n20 =>
                Prg.nat (asNat v19) fun n21 =>
                Prg.chk (Bool.and (slSize (TV.cell v6 0) 3) (Nat.blt n21 n20)) (
                Prg.tvs (pel (TV.cell v6 0) n21) fun e22 =>
                Prg.chk (fitsAt z26 e22 0) (
                Prg.tv (getP [(n21, 2)] (TV.cell v6 0)) fun v23 =>
                Prg.tv (plen (Kd.slice 41) v23) fun v24 =>
                Prg.tv (pbin (Kd.int IntKind.i64) BinOp.eql v24 (TV.lit (Value.int IntKind.i64 (0 : Int)))) fun v25 =>
                Prg.ite (asBool v25) (
                  Prg.ret (TV.lit (Value.bool true))) (
                  Prg.tv (pconv (Kd.int IntKind.i64) x2) fun v26 =>
                  Prg.tv (pbin (Kd.int IntKind.i64) BinOp.quo v26 (TV.lit (Value.int IntKind.i64 (7 : Int)))) fun v27 =>
                  Prg.tv (getP [(n21, 2)] (TV.cell v6 0)) fun v28 =>
                  Prg.tv (plen (Kd.slice 41) v28) fun v29 =>
                  Prg.tv (pbin (Kd.int IntKind.i64) BinOp.rem v27 v29) fun v30 =>
                  Prg.tv (getP [(n21, 2)] (TV.cell v6 0)) fun v31 =>
                  Prg.nat (slLen v31) fun n32 =>
                  Prg.nat (asNat v30) fun n33 =>
                  Prg.chk (Bool.and (slSize v31 14) (Nat.blt n33 n32)) (
                  Prg.tv (getP [(n21, 2)] (TV.cell v6 0)) fun v34 =>
                  Prg.tvs (pel v34 n33) fun e35 =>
                  Prg.chk (fitsAt z2 e35 11) (
                  Prg.tv (pbin (Kd.int IntKind.i64) BinOp.add (nth TV.hole e35 11) (TV.lit (Value.int IntKind.i64 (1 : Int)))) fun v36 =>
                  Prg.tv (getP [(n21, 2)] (TV.cell v6 0)) fun v37 =>
                  Prg.tvs (pel v37 n33) fun e38 =>
                  Prg.chk (fitsAt z2 e38 11) (
                  Prg.tv (setC [(n21, 2)] (TV.cell v6 0) n33 11 [v36]) fun v39 =>
                  Prg.tv (getP [(n21, 2)] v39) fun v40 =>
                  Prg.tvs (pel v40 n33) fun e41 =>
                  Prg.chk (fitsAt z22 e41 5) (
                  Prg.tv (getP [(n21, 2), (n33, 5)] v39) fun v42 =>
                  Prg.tv (plen (Kd.slice 49) v42) fun v43 =>
                  Prg.tv (pbin (Kd.int IntKind.i64) BinOp.gtr v43 (TV.lit (Value.int IntKind.i64 (0 : Int)))) fun v44 =>
                  Prg.ite (asBool v44) (
                    Prg.tv (getP [(n21, 2)] v39) fun v45 =>
                    Prg.tvs (pel v45 n33) fun e46 =>
                    Prg.chk (fitsAt z22 e46 5) (
                    Prg.tv (getP [(n21, 2), (n33, 5)] v39) fun v47 =>
                    Prg.nat (slLen v47) fun n48 =>
                    Prg.nat (asNat (TV.lit (Value.int IntKind.i64 (0 : Int)))) fun n49 =>
                    Prg.chk (Bool.and (slSize v47 7) (Nat.blt n49 n48)) (
                    Prg.tv (getP [(n21, 2), (n33, 5)] v39) fun v50 =>
                    Prg.tvs (pel v50 n49) fun e51 =>
                    Prg.chk (fitsAt z2 e51 1) (
                    Prg.tv (pbin (Kd.int IntKind.i64) BinOp.add (nth TV.hole e51 1) (TV.lit (Value.int IntKind.i64 (1 : Int)))) fun v52 =>
                    Prg.tv (getP [(n21, 2), (n33, 5)] v39) fun v53 =>
                    Prg.nat (slLen v53) fun n54 =>
                    Prg.nat (asNat (TV.lit (Value.int IntKind.i64 (0 : Int)))) fun n55 =>
                    Prg.chk (Bool.and (slSize v53 7) (Nat.blt n55 n54)) (
                    Prg.tv (getP [(n21, 2), (n33, 5)] v39) fun v56 =>
                    Prg.tvs (pel v56 n55) fun e57 =>
                    Prg.chk (fitsAt z2 e57 1) (
                    Prg.tv (setC [(n21, 2), (n33, 5)] v39 n55 1 [v52]) fun v58 =>
                    Prg.tv (getP [(n21, 2)] v58) fun v59 =>
                    Prg.tvs (pel v59 n33) fun e60 =>
                    Prg.chk (fitsAt z22 e60 5) (
                    Prg.tv (getP [(n21, 2), (n33, 5)] v58) fun v61 =>
                    Prg.nat (slLen v61) fun n62 =>
                    Prg.nat (asNat (TV.lit (Value.int IntKind.i64 (0 : Int)))) fun n63 =>
                    Prg.chk (Bool.and (slSize v61 7) (Nat.blt n63 n62)) (
                    Prg.tv (getP [(n21, 2), (n33, 5)] v58) fun v64 =>
                    Prg.tvs (pel v64 n63) fun e65 =>
                    Prg.chk (fitsAt z22 e65 6) (
                    Prg.tv (getP [(n21, 2), (n33, 5), (n63, 6)] v58) fun v66 =>
                    Prg.tv (plen (Kd.slice 3) v66) fun v67 =>
                    Prg.tv (pbin (Kd.int IntKind.i64) BinOp.gtr v67 (TV.lit (Value.int IntKind.i64 (0 : Int)))) fun v68 =>
                    Prg.ite (asBool v68) (
                      Prg.tv (getP [(n21, 2)] v58) fun v69 =>
                      Prg.tvs (pel v69 n33) fun e70 =>
                      Prg.chk (fitsAt z22 e70 5) (
                      Prg.tv (getP [(n21, 2), (n33, 5)] v58) fun v71 =>
                      Prg.nat (slLen v71) fun n72 =>
                      Prg.nat (asNat (TV.lit (Value.int IntKind.i64 (0 : Int)))) fun n73 =>
                      Prg.chk (Bool.and (slSize v71 7) (Nat.blt n73 n72)) (
                      Prg.tv (getP [(n21, 2), (n33, 5)] v58) fun v74 =>
                      Prg.tvs (pel v74 n73) fun e75 =>
                      Prg.chk (fitsAt z22 e75 6) (
                      Prg.tv (getP [(n21, 2), (n33, 5), (n73, 6)] v58) fun v76 =>
                      Prg.nat (slLen v76) fun n77 =>
                      Prg.nat (asNat (TV.lit (Value.int IntKind.i64 (0 : Int)))) fun n78 =>
                      Prg.chk (Bool.and (slSize v76 1) (Nat.blt n78 n77)) (
                      Prg.tv (getP [(n21, 2), (n33, 5), (n73, 6)] v58) fun v79 =>
                      Prg.tvs (pel v79 n78) fun e80 =>
                      Prg.chk (fitsAt z2 e80 0) (
                      Prg.tv (pbin (Kd.int IntKind.i64) BinOp.add (nth TV.hole e80 0) (TV.lit (Value.int IntKind.i64 (1 : Int)))) fun v81 =>
                      Prg.tv (getP [(n21, 2), (n33, 5), (n73, 6)] v58) fun v82 =>
                      Prg.nat (slLen v82) fun n83 =>
                      Prg.nat (asNat (TV.lit (Value.int IntKind.i64 (0 : Int)))) fun n84 =>
                      Prg.chk (Bool.and (slSize v82 1) (Nat.blt n84 n83)) (
                      Prg.tv (getP [(n21, 2), (n33, 5), (n73, 6)] v58) fun v85 =>
                      Prg.tvs (pel v85 n84) fun e86 =>
                      Prg.chk (fitsAt z2 e86 0) (
                      Prg.tv (setC [(n21, 2), (n33, 5), (n73, 6)] v58 n84 0 [v81]) fun v87 =>
                      Prg.jmp [1, 1, 1, 1, 1, 1, 1, 1, 1, 1, 1] (f4_0_S n21 n33 (TV.cell x0 0) v87 (TV.cell v7 0)))))))))) (
                      Prg.jmp [1, 1, 1, 1, 1, 1, 1, 1, 1, 1, 1] (f4_0_S n21 n33 (TV.cell x0 0) v58 (TV.cell v7 0)))))))))))) (
                    Prg.jmp [1, 1, 1, 1, 1, 1, 1, 1, 1, 1, 1] (f4_0_S n21 n33 (TV.cell x0 0) v39 (TV.cell v7 0))))))))))))))))))))))))))))
-- [1, 1, 1, 1, 1, 1, 1, 1, 1, 1, 1]
def f4_0  (k0 k1 : Nat) (y2 w3 w4 : TV) : Prg TV :=
  Prg.tv (getP [(k0, 2)] w3) fun v88 =>
  Prg.tvs (pel v88 k1) fun e89 =>
  Prg.chk (fitsAt z22 e89 2) (
  Prg.tv (getP [(k0, 2), (k1, 2)] w3) fun v90 =>
  Prg.tv (plen (Kd.slice 44) v90) fun v91 =>
  Prg.tv (pbin (Kd.int IntKind.i64) BinOp.gtr v91 (TV.lit (Value.int IntKind.i64 (0 : Int)))) fun v92 =>
  Prg.ite (asBool v92) (
    Prg.tv (getP [(k0, 2)] w3) fun v93 =>
    Prg.tvs (pel v93 k1) fun e94 =>
    Prg.chk (fitsAt z22 e94 2) (
    Prg.tv (getP [(k0, 2), (k1, 2)] w3) fun v95 =>
    Prg.nat (slLen v95) fun n96 =>
    Prg.nat (asNat (TV.lit (Value.int IntKind.i64 (0 : Int)))) fun n97 =>
    Prg.chk (Bool.and (slSize v95 1) (Nat.blt n97 n96)) (
    Prg.tv (getP [(k0, 2), (k1, 2)] w3) fun v98 =>
    Prg.tvs (pel v98 n97) fun e99 =>
    Prg.chk (fitsAt z44 e99 0) (
    Prg.tv (pbin (Kd.int IntKind.u16) BinOp.add (nth TV.hole e99 0) (TV.lit (Value.int IntKind.u16 (1 : Int)))) fun v100 =>
    Prg.tv (getP [(k0, 2), (k1, 2)] w3) fun v101 =>
    Prg.nat (slLen v101) fun n102 =>
    Prg.nat (asNat (TV.lit (Value.int IntKind.i64 (0 : Int)))) fun n103 =>
    Prg.chk (Bool.and (slSize v101 1) (Nat.blt n103 n102)) (
    Prg.tv (getP [(k0, 2), (k1, 2)] w3) fun v104 =>
    Prg.tvs (pel v104 n103) fun e105 =>
    Prg.chk (fitsAt z44 e105 0) (
    Prg.tv (setC [(k0, 2), (k1, 2)] w3 n103 0 [v100]) fun v106 =>
    Prg.jmp [1, 1, 1, 1, 1, 1, 1, 1, 1, 1, 1, 1] (f4_1_S y2 v106 w4))))))) (
    Prg.jmp [1, 1, 1, 1, 1, 1, 1, 1, 1, 1, 1, 1] (f4_1_S y2 w3 w4)))
-- [1, 1, 1, 1, 1, 1, 1, 1, 1, 1, 1, 1]
def f4_1  (y0 w1 w2 : TV) : Prg TV :=
  Prg.call 18 [TV.agg [frz w2], TV.agg [y0]] fun v107 =>
  Prg.chk (fitsAt z4 [v107] 0) (
  Prg.ite (asBool v107) (
    Prg.call 17 [TV.agg [frz w1], TV.agg [y0]] fun v108 =>
    Prg.chk (fitsAt z4 [v108] 0) (
    Prg.tv (pun UnOp.not v108) fun v109 =>
    Prg.ite (asBool v109) (
      Prg.call 18 [TV.agg [frz w1], TV.agg [y0]] fun v110 =>
      Prg.chk (fitsAt z4 [v110] 0) (
      Prg.tv (pun UnOp.not v110) fun v111 =>
      Prg.ret v111)) (
      Prg.ret (TV.lit (Value.bool false))))) (
    Prg.ret (TV.lit (Value.bool false))))
theorem f4_MR (x0 x1 x2 : TV) : startQ prog 4 [x0, x1, x2] = f4_M x0 x1 x2 := by kernel_rfl
theorem f4_0_R  (k0 k1 : Nat) (y2 w3 w4 : TV) : pieceQ prog 4 [1, 1, 1, 1, 1, 1, 1, 1, 1, 1, 1] (f4_0_S k0 k1 y2 w3 w4) = f4_0 k0 k1 y2 w3 w4 := by kernel_rfl
theorem f4_1_R  (y0 w1 w2 : TV) : pieceQ prog 4 [1, 1, 1, 1, 1, 1, 1, 1, 1, 1, 1, 1] (f4_1_S y0 w1 w2) = f4_1 y0 w1 w2 := by kernel_rfl

def f5_0_S  (k0 k1 k2 : Nat) (y3 w4 : TV) : ASt := ⟨[AV.one CA.junk, AV.one CA.junk, AV.one CA.junk, AV.one (CA.ptr 0 0), AV.one CA.junk, AV.one CA.junk, AV.one CA.junk, AV.one (CA.ptr 1 0), AV.one (CA.tptr 2 0 [] k0 0), AV.one CA.junk, AV.one (CA.tptr 2 0 [(k1, 2)] k2 6)] ++ List.replicate 136 (AV.one CA.junk), [Option.some (BC.cells [CA.t y3]), Option.some (BC.cells [CA.sref 2 0 []]), Option.some (BC.tree [w4])] ++ List.replicate 168 (Option.none), []⟩
def f5_1_S  (y0 w1 : TV) : ASt := ⟨[AV.one CA.junk, AV.one CA.junk, AV.one CA.junk, AV.one (CA.ptr 0 0), AV.one CA.junk, AV.one CA.junk, AV.one CA.junk, AV.one (CA.ptr 1 0)] ++ List.replicate 139 (AV.one CA.junk), [Option.some (BC.cells [CA.t y0]), Option.some (BC.cells [CA.sref 2 0 []]), Option.some (BC.tree [w1])] ++ List.replicate 168 (Option.none), []⟩
def f5_2_S  (k0 k1 k2 : Nat) (y3 w4 : TV) : ASt := ⟨[AV.one CA.junk, AV.one CA.junk, AV.one CA.junk, AV.one (CA.ptr 0 0), AV.one CA.junk, AV.one CA.junk, AV.one CA.junk, AV.one (CA.ptr 1 0), AV.one (CA.tptr 2 0 [] k0 0), AV.one CA.junk, AV.one (CA.tptr 2 0 [(k1, 2)] k2 6)] ++ List.replicate 136 (AV.one CA.junk), [Option.some (BC.cells [CA.t y3]), Option.some (BC.cells [CA.sref 2 0 []]), Option.some (BC.tree [w4])] ++ List.replicate 168 (Option.none), []⟩
def f5_M (x0 x1 x2 : TV) : Prg TV :=
  Prg.chk (TV.isAgg x0 1) (
  Prg.call 6 [] fun v0 =>
  Prg.chk (fitsAt z4 [v0] 0) (
  Prg.tv (pun UnOp.not v0) fun v1 =>
  Prg.ite (asBool v1) (
    Prg.ret (TV.lit (Value.bool false))) (
    Prg.call 7 [TV.agg [TV.cell x0 0]] fun v2 =>
    Prg.chk (fitsAt z4 [v2] 0) (
    Prg.tv (pun UnOp.not v2) fun v3 =>
    Prg.ite (asBool v3) (
      Prg.ret (TV.lit (Value.bool true))) (
      Prg.call 8 [TV.agg [TV.cell x0 0]] fun v4 =>
      Prg.chk (fitsAt z4 [v4] 0) (
      Prg.tv (pun UnOp.not v4) fun v5 =>
      Prg.ite (asBool v5) (
        Prg.ret (TV.lit (Value.bool true))) (
        Prg.call 16 [TV.agg [TV.cell x0 0]] fun v6 =>
        Prg.chk (Bool.and (TV.isAgg v6 1) (fitsAt z22 (TV.cellsL true v6) 0)) (
        Prg.tv (pconv (Kd.int IntKind.i64) x1) fun v7 =>
        Prg.tv (plen (Kd.slice 27) (TV.cell v6 0)) fun v8 =>
        Prg.tv (pbin (Kd.int IntKind.i64) BinOp.rem v7 v8) fun v9 =>
        Prg.nat (slLen (TV.cell v6 0)) fun n10 =>
        Prg.nat (asNat v9) fun n11 =>
        Prg.chk (Bool.and (slSize (TV.cell v6 0) 3) (Nat.blt n11 n10)) (
        Prg.tvs (pel (TV.cell v6 0) n11) fun e12 =>
        Prg.chk (fitsAt z22 e12 2) (
        Prg.tv (pconv (Kd.int IntKind.i64) x1) fun v13 =>
        Prg.tv (pbin (Kd.int IntKind.i64) BinOp.quo v13 (TV.lit (Value.int IntKind.i64 (5 : Int)))) fun v14 =>
        Prg.tvs (pel (TV.cell v6 0) n11) fun e15 =>
        Prg.chk (fitsAt z22 e15 2) (
        Prg.tv (getP [(n11, 2)] (TV.cell v6 0)) fun v16 =>
        Prg.tv (plen (Kd.slice 41) v16) fun v17 =>
        Prg.tv (pbin (Kd.int IntKind.i64) BinOp.rem v14 v17) fun v18 =>
        Prg.tv (getP [(n11, 2)] (TV.cell v6 0)) fun v19 =>
        Prg.nat (slLen v19) fun n20 =>
        Prg.nat (asNat v18) fun n21 =>
        Prg.chk (Bool.and (slSize v19 14) (Nat.blt n21 n20)) (
        Prg.tv (pbin (Kd.int IntKind.u8) BinOp.rem x2 (TV.lit (Value.int IntKind.u8 (4 : Int)))) fun v22 =>
        Prg.tv (pbin (Kd.int IntKind.u8) BinOp.eql v22 (TV.lit (Value.int IntKind.u8 (0 : Int)))) fun v23 =>
        Prg.ite (asBool v23) (
          Prg.tv (getP [(n11, 2)] (TV.cell v6 0)) fun v24 =>
          Prg.tvs (pel v24 n21) fun e25 =>
          Prg.chk (fitsAt z2 e25 6) (
          Prg.tv (pbin (Kd.int IntKind.i64) BinOp.neq (nth TV.hole e25 6) (TV.lit (Value.int IntKind.i64 (2 : Int)))) fun v26 =>
          Prg.ite (asBool v26) (
            Prg.tv (getP [(n11, 2)] (TV.cell v6 0)) fun v27 =>
            Prg.tvs (pel v27 n21) fun e28 =>
            Prg.chk (fitsAt z2 e28 6) (
            Prg.tv (pbin (Kd.int IntKind.i64) BinOp.neq (nth TV.hole e28 6) (TV.lit (Value.int IntKind.i64 (3 : Int)))) fun v29 =>
            Prg.ite (asBool v29) (
              Prg.tv (getP [(n11, 2)] (TV.cell v6 0)) fun v30 =>
              Prg.tvs (pel v30 n21) fun e31 =>
              Prg.chk (fitsAt z2 e31 6) (
              Prg.tv (pbin (Kd.int IntKind.i64) BinOp.neq (nth TV.hole e31 6) (TV.lit (Value.int IntKind.i64 (4 : Int)))) fun v32 =>
              Prg.ite (asBool v32) (
                Prg.ret (TV.lit (Value.bool true))) (
                Prg.jmp [1, 0, 1, 0, 1, 0, 1, 1, 1, 1, 1, 1, 1] (f5_0_S n11 n11 n21 (TV.cell x0 0) (TV.cell v6 0))))) (
              Prg.jmp [1, 0, 1, 0, 1, 0, 1, 1, 1, 1, 1, 1, 1] (f5_0_S n11 n11 n21 (TV.cell x0 0) (TV.cell v6 0))))) (
            Prg.jmp [1, 0, 1, 0, 1, 0, 1, 1, 1, 1, 1, 1, 1] (f5_0_S n11 n11 n21 (TV.cell x0 0) (TV.cell v6 0))))) (
          Prg.tv (pbin (Kd.int IntKind.u8) BinOp.eql v22 (TV.lit (Value.int IntKind.u8 (1 : Int)))) fun v33 =>
          Prg.ite (asBool v33) (
            Prg.tv (getP [(n11, 2)] (TV.cell v6 0)) fun v34 =>
            Prg.tvs (pel v34 n21) fun e35 =>
            Prg.chk (fitsAt z2 e35 6) (
            Prg.tv (pbin (Kd.int IntKind.i64) BinOp.neq (nth TV.hole e35 6) (TV.lit (Value.int IntKind.i64 (4 : Int)))) fun v36 =>
            Prg.ite (asBool v36) (
              Prg.ret (TV.lit (Value.bool true))) (
              Prg.tv (plen (Kd.slice 27) (TV.cell v6 0)) fun v37 =>
              Prg.tv (getP [(n11, 2)] (TV.cell v6 0)) fun v38 =>
              Prg.tvs (pel v38 n21) fun e39 =>
              Prg.chk (fitsAt z2 e39 9) (
              Prg.tv (setC [(n11, 2)] (TV.cell v6 0) n21 9 [v37]) fun v40 =>
              Prg.jmp [1, 1, 1, 1, 1, 1, 1, 1] (f5_1_S (TV.cell x0 0) v40))))) (
            Prg.tv (pbin (Kd.int IntKind.u8) BinOp.eql v22 (TV.lit (Value.int IntKind.u8 (2 : Int)))) fun v41 =>
            Prg.ite (asBool v41) (
              Prg.tv (getP [(n11, 2)] (TV.cell v6 0)) fun v42 =>
              Prg.tvs (pel v42 n21) fun e43 =>
              Prg.chk (fitsAt z2 e43 6) (
              Prg.tv (pbin (Kd.int IntKind.i64) BinOp.neq (nth TV.hole e43 6) (TV.lit (Value.int IntKind.i64 (1 : Int)))) fun v44 =>
              Prg.ite (asBool v44) (
                Prg.tv (getP [(n11, 2)] (TV.cell v6 0)) fun v45 =>
                Prg.tvs (pel v45 n21) fun e46 =>
                Prg.chk (fitsAt z2 e46 6) (
                Prg.tv (pbin (Kd.int IntKind.i64) BinOp.neq (nth TV.hole e46 6) (TV.lit (Value.int IntKind.i64 (5 : Int)))) fun v47 =>
                Prg.ite (asBool v47) (
                  Prg.tv (getP [(n11, 2)] (TV.cell v6 0)) fun v48 =>
                  Prg.tvs (pel v48 n21) fun e49 =>
                  Prg.chk (fitsAt z2 e49 6) (
                  Prg.tv (pbin (Kd.int IntKind.i64) BinOp.neq (nth TV.hole e49 6) (TV.lit (Value.int IntKind.i64 (3 : Int)))) fun v50 =>
                  Prg.ite (asBool v50) (
                    Prg.ret (TV.lit (Value.bool true))) (
                    Prg.jmp [1, 0, 1, 1, 1, 1, 1, 0, 1, 0, 1, 1, 1, 1, 1, 1, 1] (f5_2_S n11 n11 n21 (TV.cell x0 0) (TV.cell v6 0))))) (
                  Prg.jmp [1, 0, 1, 1, 1, 1, 1, 0, 1, 0, 1, 1, 1, 1, 1, 1, 1] (f5_2_S n11 n11 n21 (TV.cell x0 0) (TV.cell v6 0))))) (
                Prg.jmp [1, 0, 1, 1, 1, 1, 1, 0, 1, 0, 1, 1, 1, 1, 1, 1, 1] (f5_2_S n11 n11 n21 (TV.cell x0 0) (TV.cell v6 0))))) (
              Prg.tv (getP [(n11, 2)] (TV.cell v6 0)) fun v51 =>
              Prg.tvs (pel v51 n21) fun e52 =>
              Prg.chk (fitsAt z4 e52 0) (
              Prg.tv (pun UnOp.not (nth TV.hole e52 0)) fun v53 =>
              Prg.ite (asBool v53) (
                Prg.ret (TV.lit (Value.bool true))) (
                Prg.tvs (pel (TV.cell v6 0) n11) fun e54 =>
                Prg.chk (fitsAt z2 e54 1) (
                Prg.tv (getP [(n11, 2)] (TV.cell v6 0)) fun v55 =>
                Prg.tvs (pel v55 n21) fun e56 =>
                Prg.chk (fitsAt z2 e56 1) (
                Prg.tv (setC [(n11, 2)] (TV.cell v6 0) n21 1 [nth TV.hole e54 1]) fun v57 =>
                Prg.jmp [1, 1, 1, 1, 1, 1, 1, 1] (f5_1_S (TV.cell x0 0) v57))))))))))))))))))))
-- [1, 0, 1, 0, 1, 0, 1, 1, 1, 1, 1, 1, 1]
def f5_0  (k0 k1 k2 : Nat) (y3 w4 : TV) : Prg TV :=
  Prg.tvs (pel w4 k0) fun e58 =>
  Prg.chk (fitsAt z22 e58 2) (
  Prg.tv (getP [(k0, 2)] w4) fun v59 =>
  Prg.tv (plen (Kd.slice 41) v59) fun v60 =>
  Prg.tv (getP [(k1, 2)] w4) fun v61 =>
  Prg.tvs (pel v61 k2) fun e62 =>
  Prg.chk (fitsAt z2 e62 11) (
  Prg.tv (setC [(k1, 2)] w4 k2 11 [v60]) fun v63 =>
  Prg.jmp [1, 1, 1, 1, 1, 1, 1, 1] (f5_1_S y3 v63)))
-- [1, 1, 1, 1, 1, 1, 1, 1]
def f5_1  (y0 w1 : TV) : Prg TV :=
  Prg.call 8 [TV.agg [frz w1]] fun v64 =>
  Prg.chk (fitsAt z4 [v64] 0) (
  Prg.tv (pun UnOp.not v64) fun v65 =>
  Prg.ite (asBool v65) (
    Prg.call 17 [TV.agg [frz w1], TV.agg [y0]] fun v66 =>
    Prg.chk (fitsAt z4 [v66] 0) (
    Prg.tv (pun UnOp.not v66) fun v67 =>
    Prg.ite (asBool v67) (
      Prg.call 8 [TV.agg [y0]] fun v68 =>
      Prg.chk (fitsAt z4 [v68] 0) (
      Prg.ret v68)) (
      Prg.ret (TV.lit (Value.bool false))))) (
    Prg.ret (TV.lit (Value.bool false))))
-- [1, 0, 1, 1, 1, 1, 1, 0, 1, 0, 1, 1, 1, 1, 1, 1, 1]
def f5_2  (k0 k1 k2 : Nat) (y3 w4 : TV) : Prg TV :=
  Prg.tvs (pel w4 k0) fun e69 =>
  Prg.chk (fitsAt z2 e69 1) (
  Prg.tv (getP [(k1, 2)] w4) fun v70 =>
  Prg.tvs (pel v70 k2) fun e71 =>
  Prg.chk (fitsAt z2 e71 7) (
  Prg.tv (setC [(k1, 2)] w4 k2 7 [nth TV.hole e69 1]) fun v72 =>
  Prg.jmp [1, 1, 1, 1, 1, 1, 1, 1] (f5_1_S y3 v72)))
theorem f5_MR (x0 x1 x2 : TV) : startQ prog 5 [x0, x1, x2] = f5_M x0 x1 x2 := by kernel_rfl
theorem f5_0_R  (k0 k1 k2 : Nat) (y3 w4 : TV) : pieceQ prog 5 [1, 0, 1, 0, 1, 0, 1, 1, 1, 1, 1, 1, 1] (f5_0_S k0 k1 k2 y3 w4) = f5_0 k0 k1 k2 y3 w4 := by kernel_rfl
theorem f5_1_R  (y0 w1 : TV) : pieceQ prog 5 [1, 1, 1, 1, 1, 1, 1, 1] (f5_1_S y0 w1) = f5_1 y0 w1 := by kernel_rfl
theorem f5_2_R  (k0 k1 k2 : Nat) (y3 w4 : TV) : pieceQ prog 5 [1, 0, 1, 1, 1, 1, 1, 0, 1, 0, 1, 1, 1, 1, 1, 1, 1] (f5_2_S k0 k1 k2 y3 w4) = f5_2 k0 k1 k2 y3 w4 := by kernel_rfl

def f6_M : Prg TV :=
  Prg.call 16 [TV.agg [frz (TV.sl true 3 (chunks 3 1 [TV.lit (Value.int IntKind.i64 (0 : Int)), TV.lit (Value.int IntKind.i64 (1 : Int)), TV.sl true 14 (chunks 14 1 [TV.lit (Value.bool false), TV.lit (Value.int IntKind.i64 (0 : Int)), TV.lit (Value.slice Option.none 0 0), TV.lit (Value.bool false), TV.lit (Value.bool false), TV.lit (Value.slice Option.none 0 0), TV.lit (Value.int IntKind.i64 (1 : Int)), TV.lit (Value.int IntKind.i64 (0 : Int)), TV.lit (Value.int IntKind.i64 (0 : Int)), TV.lit (Value.int IntKind.i64 (0 : Int)), TV.lit (Value.slice Option.none 0 0), TV.lit (Value.int IntKind.i64 (0 : Int)), TV.lit (Value.int IntKind.i64 (0 : Int)), TV.lit (Value.int IntKind.i64 (0 : Int))])]))]] fun v0 =>
  Prg.chk (Bool.and (TV.isAgg v0 1) (fitsAt z22 (TV.cellsL true v0) 0)) (
  Prg.tv (plen (Kd.slice 27) (TV.cell v0 0)) fun v1 =>
  Prg.tv (pbin (Kd.int IntKind.i64) BinOp.neq v1 (TV.lit (Value.int IntKind.i64 (1 : Int)))) fun v2 =>
  Prg.ite (asBool v2) (
    Prg.ret (TV.lit (Value.bool false))) (
    Prg.nat (slLen (TV.cell v0 0)) fun n3 =>
    Prg.nat (asNat (TV.lit (Value.int IntKind.i64 (0 : Int)))) fun n4 =>
    Prg.chk (Bool.and (slSize (TV.cell v0 0) 3) (Nat.blt n4 n3)) (
    Prg.tvs (pel (TV.cell v0 0) n4) fun e5 =>
    Prg.chk (fitsAt z2 e5 1) (
    Prg.tv (setC [] (TV.cell v0 0) n4 1 [TV.lit (Value.int IntKind.i64 (0 : Int))]) fun v6 =>
    Prg.call 8 [TV.agg [frz (TV.sl true 3 (chunks 3 1 [TV.lit (Value.int IntKind.i64 (0 : Int)), TV.lit (Value.int IntKind.i64 (1 : Int)), TV.sl true 14 (chunks 14 1 [TV.lit (Value.bool false), TV.lit (Value.int IntKind.i64 (0 : Int)), TV.lit (Value.slice Option.none 0 0), TV.lit (Value.bool false), TV.lit (Value.bool false), TV.lit (Value.slice Option.none 0 0), TV.lit (Value.int IntKind.i64 (1 : Int)), TV.lit (Value.int IntKind.i64 (0 : Int)), TV.lit (Value.int IntKind.i64 (0 : Int)), TV.lit (Value.int IntKind.i64 (0 : Int)), TV.lit (Value.slice Option.none 0 0), TV.lit (Value.int IntKind.i64 (0 : Int)), TV.lit (Value.int IntKind.i64 (0 : Int)), TV.lit (Value.int IntKind.i64 (0 : Int))])]))]] fun v7 =>
    Prg.chk (fitsAt z4 [v7] 0) (
    Prg.ite (asBool v7) (
      Prg.call 8 [TV.agg [frz v6]] fun v8 =>
      Prg.chk (fitsAt z4 [v8] 0) (
      Prg.tv (pun UnOp.not v8) fun v9 =>
      Prg.ite (asBool v9) (
        Prg.nat (slLen (TV.sl true 3 (chunks 3 1 [TV.lit (Value.int IntKind.i64 (0 : Int)), TV.lit (Value.int IntKind.i64 (1 : Int)), TV.sl true 14 (chunks 14 1 [TV.lit (Value.bool false), TV.lit (Value.int IntKind.i64 (0 : Int)), TV.lit (Value.slice Option.none 0 0), TV.lit (Value.bool false), TV.lit (Value.bool false), TV.lit (Value.slice Option.none 0 0), TV.lit (Value.int IntKind.i64 (1 : Int)), TV.lit (Value.int IntKind.i64 (0 : Int)), TV.lit (Value.int IntKind.i64 (0 : Int)), TV.lit (Value.int IntKind.i64 (0 : Int)), TV.lit (Value.slice Option.none 0 0), TV.lit (Value.int IntKind.i64 (0 : Int)), TV.lit (Value.int IntKind.i64 (0 : Int)), TV.lit (Value.int IntKind.i64 (0 : Int))])]))) fun n10 =>
        Prg.nat (asNat (TV.lit (Value.int IntKind.i64 (0 : Int)))) fun n11 =>
        Prg.chk (Bool.and true (Nat.blt n11 n10)) (
        Prg.tvs (pel (TV.sl true 3 (chunks 3 1 [TV.lit (Value.int IntKind.i64 (0 : Int)), TV.lit (Value.int IntKind.i64 (1 : Int)), TV.sl true 14 (chunks 14 1 [TV.lit (Value.bool false), TV.lit (Value.int IntKind.i64 (0 : Int)), TV.lit (Value.slice Option.none 0 0), TV.lit (Value.bool false), TV.lit (Value.bool false), TV.lit (Value.slice Option.none 0 0), TV.lit (Value.int IntKind.i64 (1 : Int)), TV.lit (Value.int IntKind.i64 (0 : Int)), TV.lit (Value.int IntKind.i64 (0 : Int)), TV.lit (Value.int IntKind.i64 (0 : Int)), TV.lit (Value.slice Option.none 0 0), TV.lit (Value.int IntKind.i64 (0 : Int)), TV.lit (Value.int IntKind.i64 (0 : Int)), TV.lit (Value.int IntKind.i64 (0 : Int))])])) n11) fun e12 =>
        Prg.chk (fitsAt z26 e12 0) (
        Prg.tv (getP [(n11, 2)] (TV.sl true 3 (chunks 3 1 [TV.lit (Value.int IntKind.i64 (0 : Int)), TV.lit (Value.int IntKind.i64 (1 : Int)), TV.sl true 14 (chunks 14 1 [TV.lit (Value.bool false), TV.lit (Value.int IntKind.i64 (0 : Int)), TV.lit (Value.slice Option.none 0 0), TV.lit (Value.bool false), TV.lit (Value.bool false), TV.lit (Value.slice Option.none 0 0), TV.lit (Value.int IntKind.i64 (1 : Int)), TV.lit (Value.int IntKind.i64 (0 : Int)), TV.lit (Value.int IntKind.i64 (0 : Int)), TV.lit (Value.int IntKind.i64 (0 : Int)), TV.lit (Value.slice Option.none 0 0), TV.lit (Value.int IntKind.i64 (0 : Int)), TV.lit (Value.int IntKind.i64 (0 : Int)), TV.lit (Value.int IntKind.i64 (0 : Int))])]))) fun v13 =>
        Prg.call 10 [TV.agg [frz (TV.sl true 3 (chunks 3 1 [TV.lit (Value.int IntKind.i64 (0 : Int)), TV.lit (Value.int IntKind.i64 (1 : Int)), TV.sl true 14 (chunks 14 1 [TV.lit (Value.bool false), TV.lit (Value.int IntKind.i64 (0 : Int)), TV.lit (Value.slice Option.none 0 0), TV.lit (Value.bool false), TV.lit (Value.bool false), TV.lit (Value.slice Option.none 0 0), TV.lit (Value.int IntKind.i64 (1 : Int)), TV.lit (Value.int IntKind.i64 (0 : Int)), TV.lit (Value.int IntKind.i64 (0 : Int)), TV.lit (Value.int IntKind.i64 (0 : Int)), TV.lit (Value.slice Option.none 0 0), TV.lit (Value.int IntKind.i64 (0 : Int)), TV.lit (Value.int IntKind.i64 (0 : Int)), TV.lit (Value.int IntKind.i64 (0 : Int))])]))], TV.agg [nth TV.hole e12 0, nth TV.hole e12 1, frz v13]] fun v14 =>
        Prg.chk (fitsAt z4 [v14] 0) (
        Prg.ite (asBool v14) (
          Prg.call 17 [TV.agg [frz v6], TV.agg [frz (TV.sl true 3 (chunks 3 1 [TV.lit (Value.int IntKind.i64 (0 : Int)), TV.lit (Value.int IntKind.i64 (1 : Int)), TV.sl true 14 (chunks 14 1 [TV.lit (Value.bool false), TV.lit (Value.int IntKind.i64 (0 : Int)), TV.lit (Value.slice Option.none 0 0), TV.lit (Value.bool false), TV.lit (Value.bool false), TV.lit (Value.slice Option.none 0 0), TV.lit (Value.int IntKind.i64 (1 : Int)), TV.lit (Value.int IntKind.i64 (0 : Int)), TV.lit (Value.int IntKind.i64 (0 : Int)), TV.lit (Value.int IntKind.i64 (0 : Int)), TV.lit (Value.slice Option.none 0 0), TV.lit (Value.int IntKind.i64 (0 : Int)), TV.lit (Value.int IntKind.i64 (0 : Int)), TV.lit (Value.int IntKind.i64 (0 : Int))])]))]] fun v15 =>
          Prg.chk (fitsAt z4 [v15] 0) (
          Prg.tv (pun UnOp.not v15) fun v16 =>
          Prg.ite (asBool v16) (
            Prg.nat (slLen (TV.sl true 3 (chunks 3 1 [TV.lit (Value.int IntKind.i64 (0 : Int)), TV.lit (Value.int IntKind.i64 (1 : Int)), TV.sl true 14 (chunks 14 1 [TV.lit (Value.bool false), TV.lit (Value.int IntKind.i64 (0 : Int)), TV.lit (Value.slice Option.none 0 0), TV.lit (Value.bool false), TV.lit (Value.bool false), TV.lit (Value.slice Option.none 0 0), TV.lit (Value.int IntKind.i64 (1 : Int)), TV.lit (Value.int IntKind.i64 (0 : Int)), TV.lit (Value.int IntKind.i64 (0 : Int)), TV.lit (Value.int IntKind.i64 (0 : Int)), TV.lit (Value.slice Option.none 0 0), TV.lit (Value.int IntKind.i64 (0 : Int)), TV.lit (Value.int IntKind.i64 (0 : Int)), TV.lit (Value.int IntKind.i64 (0 : Int))])]))) fun n17 =>
            Prg.nat (asNat (TV.lit (Value.int IntKind.i64 (0 : Int)))) fun n18 =>
            Prg.chk (Bool.and true (Nat.blt n18 n17)) (
            Prg.tvs (pel (TV.sl true 3 (chunks 3 1 [TV.lit (Value.int IntKind.i64 (0 : Int)), TV.lit (Value.int IntKind.i64 (1 : Int)), TV.sl true 14 (chunks 14 1 [TV.lit (Value.bool false), TV.lit (Value.int IntKind.i64 (0 : Int)), TV.lit (Value.slice Option.none 0 0), TV.lit (Value.bool false), TV.lit (Value.bool false), TV.lit (Value.slice Option.none 0 0), TV.lit (Value.int IntKind.i64 (1 : Int)), TV.lit (Value.int IntKind.i64 (0 : Int)), TV.lit (Value.int IntKind.i64 (0 : Int)), TV.lit (Value.int IntKind.i64 (0 : Int)), TV.lit (Value.slice Option.none 0 0), TV.lit (Value.int IntKind.i64 (0 : Int)), TV.lit (Value.int IntKind.i64 (0 : Int)), TV.lit (Value.int IntKind.i64 (0 : Int))])])) n18) fun e19 =>
            Prg.chk (fitsAt z26 e19 0) (
            Prg.tv (getP [(n18, 2)] (TV.sl true 3 (chunks 3 1 [TV.lit (Value.int IntKind.i64 (0 : Int)), TV.lit (Value.int IntKind.i64 (1 : Int)), TV.sl true 14 (chunks 14 1 [TV.lit (Value.bool false), TV.lit (Value.int IntKind.i64 (0 : Int)), TV.lit (Value.slice Option.none 0 0), TV.lit (Value.bool false), TV.lit (Value.bool false), TV.lit (Value.slice Option.none 0 0), TV.lit (Value.int IntKind.i64 (1 : Int)), TV.lit (Value.int IntKind.i64 (0 : Int)), TV.lit (Value.int IntKind.i64 (0 : Int)), TV.lit (Value.int IntKind.i64 (0 : Int)), TV.lit (Value.slice Option.none 0 0), TV.lit (Value.int IntKind.i64 (0 : Int)), TV.lit (Value.int IntKind.i64 (0 : Int)), TV.lit (Value.int IntKind.i64 (0 : Int))])]))) fun v20 =>
            Prg.call 12 [TV.agg [nth TV.hole e19 0, nth TV.hole e19 1, frz v20]] fun v21 =>
            Prg.chk (fitsAt z22 [v21] 0) (
            Prg.tv (plen (Kd.slice 4) v21) fun v22 =>
            Prg.tv (pbin (Kd.int IntKind.i64) BinOp.eql v22 (TV.lit (Value.int IntKind.i64 (1 : Int)))) fun v23 =>
            Prg.ite (asBool v23) (
              Prg.call 15 [TV.agg [TV.lit (Value.bool false), TV.lit (Value.int IntKind.i64 (0 : Int)), TV.lit (Value.slice Option.none 0 0), TV.lit (Value.bool false), TV.lit (Value.bool false), TV.lit (Value.slice Option.none 0 0), TV.lit (Value.int IntKind.i64 (3 : Int)), TV.lit (Value.int IntKind.i64 (0 : Int)), TV.lit (Value.int IntKind.i64 (0 : Int)), TV.lit (Value.int IntKind.i64 (0 : Int)), TV.lit (Value.slice Option.none 0 0), TV.lit (Value.int IntKind.i64 (0 : Int)), TV.lit (Value.int IntKind.i64 (0 : Int)), TV.lit (Value.int IntKind.i64 (0 : Int))]] fun v24 =>
              Prg.chk (fitsAt z22 [v24] 0) (
              Prg.tv (plen (Kd.slice 3) v24) fun v25 =>
              Prg.tv (pbin (Kd.int IntKind.i64) BinOp.eql v25 (TV.lit (Value.int IntKind.i64 (2 : Int)))) fun v26 =>
              Prg.ret v26)) (
              Prg.ret (TV.lit (Value.bool false))))))) (
            Prg.ret (TV.lit (Value.bool false))))) (
          Prg.ret (TV.lit (Value.bool false))))))) (
        Prg.ret (TV.lit (Value.bool false))))) (
      Prg.ret (TV.lit (Value.bool false))))))))
theorem f6_MR : startQ prog 6 [] = f6_M  := by kernel_rfl

def f7_0_S  (x0 x1 y2 : TV) : ASt := ⟨[AV.one CA.junk, AV.one (CA.ptr 0 0), AV.one CA.junk, AV.tv x0, AV.tv x1] ++ List.replicate 82 (AV.one CA.junk), [Option.some (BC.cells [CA.t y2])] ++ List.replicate 110 (Option.none), []⟩
def f7_1_S  (x0 x1 x2 y3 : TV) : ASt := ⟨[AV.one CA.junk, AV.one (CA.ptr 0 0), AV.one CA.junk, AV.tv x0, AV.tv x1, AV.tv x2] ++ List.replicate 81 (AV.one CA.junk), [Option.some (BC.cells [CA.t y3])] ++ List.replicate 110 (Option.none), []⟩
def f7_2_S  (x0 x1 x2 x3 y4 y5 y6 y7 y8 y9 y10 y11 y12 y13 y14 y15 y16 y17 y18 : TV) : ASt := ⟨[AV.one CA.junk, AV.one (CA.ptr 0 0), AV.one CA.junk, AV.tv x0, AV.tv x1, AV.tv x2, AV.one (CA.ptr 1 0), AV.tv x3] ++ List.replicate 79 (AV.one CA.junk), [Option.some (BC.cells [CA.t y4]), Option.some (BC.cells [CA.t y5, CA.t y6, CA.t y7, CA.t y8, CA.t y9, CA.t y10, CA.t y11, CA.t y12, CA.t y13, CA.t y14, CA.t y15, CA.t y16, CA.t y17, CA.t y18])] ++ List.replicate 109 (Option.none), []⟩
def f7_M (x0 : TV) : Prg TV :=
  Prg.chk (TV.isAgg x0 1) (
  Prg.tv (plen (Kd.slice 27) (TV.cell x0 0)) fun v0 =>
  Prg.tv (pbin (Kd.int IntKind.i64) BinOp.gtr v0 (TV.lit (Value.int IntKind.i64 (20 : Int)))) fun v1 =>
  Prg.ite (asBool v1) (
    Prg.ret (TV.lit (Value.bool false))) (
    Prg.jmp [0, 0, 1, 0, 1, 1, 1] (f7_0_S (TV.lit (Value.int IntKind.i64 (0 : Int))) (TV.lit (Value.int IntKind.i64 (0 : Int))) (TV.cell x0 0))))
-- [0, 0, 1, 0, 1, 1, 1]
def f7_0  (x0 x1 y2 : TV) : Prg TV :=
  Prg.tv (plen (Kd.slice 27) y2) fun v2 =>
  Prg.tv (pbin (Kd.int IntKind.i64) BinOp.lss x1 v2) fun v3 =>
  Prg.ite (asBool v3) (
    Prg.tvs (pidx 3 y2 x1) fun e4 =>
    Prg.chk (Nat.blt 2 (List.length e4)) (
    Prg.tv (plen (Kd.slice 41) (nth TV.hole e4 2)) fun v5 =>
    Prg.tv (pbin (Kd.int IntKind.i64) BinOp.gtr v5 (TV.lit (Value.int IntKind.i64 (70 : Int)))) fun v6 =>
    Prg.ite (asBool v6) (
      Prg.ret (TV.lit (Value.bool false))) (
      Prg.jmp [0, 0, 1, 1, 0, 0, 1, 0, 0, 1, 0, 1, 1, 1] (f7_1_S x0 x1 (TV.lit (Value.int IntKind.i64 (0 : Int))) y2)))) (
    Prg.tv (pbin (Kd.int IntKind.i64) BinOp.leq x0 (TV.lit (Value.int IntKind.i64 (2000 : Int)))) fun v7 =>
    Prg.ret v7)
-- [0, 0, 1, 1, 0, 0, 1, 0, 0, 1, 0, 1, 1, 1]
def f7_1  (x0 x1 x2 y3 : TV) : Prg TV :=
  Prg.tvs (pidx 3 y3 x1) fun e8 =>
  Prg.chk (Nat.blt 2 (List.length e8)) (
  Prg.tv (plen (Kd.slice 41) (nth TV.hole e8 2)) fun v9 =>
  Prg.tv (pbin (Kd.int IntKind.i64) BinOp.lss x2 v9) fun v10 =>
  Prg.ite (asBool v10) (
    Prg.tvs (pidx 3 y3 x1) fun e11 =>
    Prg.chk (Nat.blt 2 (List.length e11)) (
    Prg.tvs (pidx 14 (nth TV.hole e11 2) x2) fun e12 =>
    Prg.chk (Nat.ble 14 (List.length e12)) (
    Prg.tv (plen (Kd.slice 49) (nth TV.hole e12 5)) fun v13 =>
    Prg.tv (pbin (Kd.int IntKind.i64) BinOp.gtr v13 (TV.lit (Value.int IntKind.i64 (70 : Int)))) fun v14 =>
    Prg.ite (asBool v14) (
      Prg.ret (TV.lit (Value.bool false))) (
      Prg.tv (plen (Kd.slice 44) (nth TV.hole e12 2)) fun v15 =>
      Prg.tv (pbin (Kd.int IntKind.i64) BinOp.gtr v15 (TV.lit (Value.int IntKind.i64 (20 : Int)))) fun v16 =>
      Prg.ite (asBool v16) (
        Prg.ret (TV.lit (Value.bool false))) (
        Prg.tv (plen (Kd.slice 3) (nth TV.hole e12 10)) fun v17 =>
        Prg.tv (pbin (Kd.int IntKind.i64) BinOp.gtr v17 (TV.lit (Value.int IntKind.i64 (20 : Int)))) fun v18 =>
        Prg.ite (asBool v18) (
          Prg.ret (TV.lit (Value.bool false))) (
          Prg.tv (plen (Kd.slice 49) (nth TV.hole e12 5)) fun v19 =>
          Prg.tv (pbin (Kd.int IntKind.i64) BinOp.add x0 v19) fun v20 =>
          Prg.jmp [0, 0, 1, 1, 1, 1, 0, 0, 1, 0, 0, 1, 1, 0, 0, 1, 0, 0, 1, 0, 1, 1, 1] (f7_2_S v20 x1 x2 (TV.lit (Value.int IntKind.i64 (0 : Int))) y3 (nth TV.hole e12 0) (nth TV.hole e12 1) (nth TV.hole e12 2) (nth TV.hole e12 3) (nth TV.hole e12 4) (nth TV.hole e12 5) (nth TV.hole e12 6) (nth TV.hole e12 7) (nth TV.hole e12 8) (nth TV.hole e12 9) (nth TV.hole e12 10) (nth TV.hole e12 11) (nth TV.hole e12 12) (nth TV.hole e12 13)))))))) (
    Prg.tv (pbin (Kd.int IntKind.i64) BinOp.add x1 (TV.lit (Value.int IntKind.i64 (1 : Int)))) fun v21 =>
    Prg.jmp [0, 0, 1, 0, 1, 1, 1] (f7_0_S x0 v21 y3)))
-- [0, 0, 1, 1, 1, 1, 0, 0, 1, 0, 0, 1, 1, 0, 0, 1, 0, 0, 1, 0, 1, 1, 1]
def f7_2  (x0 x1 x2 x3 y4 y5 y6 y7 y8 y9 y10 y11 y12 y13 y14 y15 y16 y17 y18 : TV) : Prg TV :=
  Prg.tv (plen (Kd.slice 49) y10) fun v22 =>
  Prg.tv (pbin (Kd.int IntKind.i64) BinOp.lss x3 v22) fun v23 =>
  Prg.ite (asBool v23) (
    Prg.tvs (pidx 7 y10 x3) fun e24 =>
    Prg.chk (Nat.blt 6 (List.length e24)) (
    Prg.tv (plen (Kd.slice 3) (nth TV.hole e24 6)) fun v25 =>
    Prg.tv (pbin (Kd.int IntKind.i64) BinOp.gtr v25 (TV.lit (Value.int IntKind.i64 (20 : Int)))) fun v26 =>
    Prg.ite (asBool v26) (
      Prg.ret (TV.lit (Value.bool false))) (
      Prg.tv (pbin (Kd.int IntKind.i64) BinOp.add x3 (TV.lit (Value.int IntKind.i64 (1 : Int)))) fun v27 =>
      Prg.jmp [0, 0, 1, 1, 1, 1, 0, 0, 1, 0, 0, 1, 1, 0, 0, 1, 0, 0, 1, 0, 1, 1, 1] (f7_2_S x0 x1 x2 v27 y4 y5 y6 y7 y8 y9 y10 y11 y12 y13 y14 y15 y16 y17 y18)))) (
    Prg.tv (pbin (Kd.int IntKind.i64) BinOp.add x2 (TV.lit (Value.int IntKind.i64 (1 : Int)))) fun v28 =>
    Prg.jmp [0, 0, 1, 1, 0, 0, 1, 0, 0, 1, 0, 1, 1, 1] (f7_1_S x0 x1 v28 y4))
theorem f7_MR (x0 : TV) : startQ prog 7 [x0] = f7_M x0 := by kernel_rfl
theorem f7_0_R  (x0 x1 y2 : TV) : pieceQ prog 7 [0, 0, 1, 0, 1, 1, 1] (f7_0_S x0 x1 y2) = f7_0 x0 x1 y2 := by kernel_rfl
theorem f7_1_R  (x0 x1 x2 y3 : TV) : pieceQ prog 7 [0, 0, 1, 1, 0, 0, 1, 0, 0, 1, 0, 1, 1, 1] (f7_1_S x0 x1 x2 y3) = f7_1 x0 x1 x2 y3 := by kernel_rfl
theorem f7_2_R  (x0 x1 x2 x3 y4 y5 y6 y7 y8 y9 y10 y11 y12 y13 y14 y15 y16 y17 y18 : TV) : pieceQ prog 7 [0, 0, 1, 1, 1, 1, 0, 0, 1, 0, 0, 1, 1, 0, 0, 1, 0, 0, 1, 0, 1, 1, 1] (f7_2_S x0 x1 x2 x3 y4 y5 y6 y7 y8 y9 y10 y11 y12 y13 y14 y15 y16 y17 y18) = f7_2 x0 x1 x2 x3 y4 y5 y6 y7 y8 y9 y10 y11 y12 y13 y14 y15 y16 y17 y18 := by kernel_rfl

def f8_0_S  (x0 x1 x2 y3 : TV) : ASt := ⟨[AV.one CA.junk, AV.one (CA.ptr 0 0)] ++ List.replicate 22 (AV.one CA.junk) ++ [AV.tv x0, AV.tv x1, AV.tv x2] ++ List.replicate 8 (AV.one CA.junk), [Option.some (BC.cells [CA.t y3])] ++ List.replicate 58 (Option.none), []⟩
def f8_M (x0 : TV) : Prg TV :=
  Prg.chk (TV.isAgg x0 1) (
  Prg.tv (plen (Kd.slice 27) (TV.cell x0 0)) fun v0 =>
  Prg.tv (pbin (Kd.int IntKind.i64) BinOp.lss v0 (TV.lit (Value.int IntKind.i64 (1 : Int)))) fun v1 =>
  Prg.ite (asBool v1) (
    Prg.ret (TV.lit (Value.bool false))) (
    Prg.tv (plen (Kd.slice 27) (TV.cell x0 0)) fun v2 =>
    Prg.tv (pbin (Kd.int IntKind.i64) BinOp.gtr v2 (TV.lit (Value.int IntKind.i64 (16 : Int)))) fun v3 =>
    Prg.ite (asBool v3) (
      Prg.ret (TV.lit (Value.bool false))) (
      Prg.tvs (pidx 3 (TV.cell x0 0) (TV.lit (Value.int IntKind.i64 (0 : Int)))) fun e4 =>
      Prg.chk (Nat.blt 0 (List.length e4)) (
      Prg.tv (pbin (Kd.int IntKind.i64) BinOp.neq (nth TV.hole e4 0) (TV.lit (Value.int IntKind.i64 (0 : Int)))) fun v5 =>
      Prg.ite (asBool v5) (
        Prg.ret (TV.lit (Value.bool false))) (
        Prg.tv (plen (Kd.slice 27) (TV.cell x0 0)) fun v6 =>
        Prg.jmp [0, 0, 1, 0, 1, 1] (f8_0_S (TV.cell x0 0) v6 (TV.lit (Value.int IntKind.i64 (0 : Int))) (TV.cell x0 0)))))))
-- [0, 0, 1, 0, 1, 1]
def f8_0  (x0 x1 x2 y3 : TV) : Prg TV :=
  Prg.tv (pbin (Kd.int IntKind.i64) BinOp.lss x2 x1) fun v7 =>
  Prg.ite (asBool v7) (
    Prg.tvs (pidx 3 x0 x2) fun e8 =>
    Prg.chk (Nat.ble 3 (List.length e8)) (
    Prg.call 10 [TV.agg [y3], TV.agg [nth TV.hole e8 0, nth TV.hole e8 1, nth TV.hole e8 2]] fun v9 =>
    Prg.chk (fitsAt z4 [v9] 0) (
    Prg.tv (pun UnOp.not v9) fun v10 =>
    Prg.ite (asBool v10) (
      Prg.ret (TV.lit (Value.bool false))) (
      Prg.tv (pbin (Kd.int IntKind.i64) BinOp.add x2 (TV.lit (Value.int IntKind.i64 (1 : Int)))) fun v11 =>
      Prg.jmp [0, 0, 1, 0, 1, 1] (f8_0_S x0 x1 v11 y3))))) (
    Prg.ret (TV.lit (Value.bool true)))
theorem f8_MR (x0 : TV) : startQ prog 8 [x0] = f8_M x0 := by kernel_rfl
theorem f8_0_R  (x0 x1 x2 y3 : TV) : pieceQ prog 8 [0, 0, 1, 0, 1, 1] (f8_0_S x0 x1 x2 y3) = f8_0 x0 x1 x2 y3 := by kernel_rfl

def f9_0_S  (x0 y1 : TV) : ASt := ⟨[AV.one CA.junk, AV.one (CA.ptr 0 0), AV.one CA.junk, AV.tv x0] ++ List.replicate 33 (AV.one CA.junk), [Option.some (BC.cells [CA.t y1])] ++ List.replicate 60 (Option.none), []⟩
def f9_M (x0 : TV) : Prg TV :=
  Prg.chk (TV.isAgg x0 1) (
  Prg.tv (plen (Kd.slice 27) (TV.cell x0 0)) fun v0 =>
  Prg.tv (pbin (Kd.int IntKind.i64) BinOp.eql v0 (TV.lit (Value.int IntKind.i64 (0 : Int)))) fun v1 =>
  Prg.ite (asBool v1) (
    Prg.ret (TV.lit (Value.bool false))) (
    Prg.tv (plen (Kd.slice 27) (TV.cell x0 0)) fun v2 =>
    Prg.tv (pbin (Kd.int IntKind.i64) BinOp.gtr v2 (TV.lit (Value.int IntKind.i64 (16 : Int)))) fun v3 =>
    Prg.ite (asBool v3) (
      Prg.ret (TV.lit (Value.bool false))) (
      Prg.tvs (pidx 3 (TV.cell x0 0) (TV.lit (Value.int IntKind.i64 (0 : Int)))) fun e4 =>
      Prg.chk (Nat.blt 0 (List.length e4)) (
      Prg.tv (pbin (Kd.int IntKind.i64) BinOp.neq (nth TV.hole e4 0) (TV.lit (Value.int IntKind.i64 (0 : Int)))) fun v5 =>
      Prg.ite (asBool v5) (
        Prg.ret (TV.lit (Value.bool false))) (
        Prg.jmp [0, 0, 1, 0, 1, 1] (f9_0_S (TV.lit (Value.int IntKind.i64 (0 : Int))) (TV.cell x0 0)))))))
-- [0, 0, 1, 0, 1, 1]
def f9_0  (x0 y1 : TV) : Prg TV :=
  Prg.tv (plen (Kd.slice 27) y1) fun v6 =>
  Prg.tv (pbin (Kd.int IntKind.i64) BinOp.lss x0 v6) fun v7 =>
  Prg.ite (asBool v7) (
    Prg.tvs (pidx 3 y1 x0) fun e8 =>
    Prg.chk (Nat.ble 3 (List.length e8)) (
    Prg.call 11 [TV.agg [y1], TV.agg [nth TV.hole e8 0, nth TV.hole e8 1, nth TV.hole e8 2]] fun v9 =>
    Prg.chk (fitsAt z4 [v9] 0) (
    Prg.tv (pun UnOp.not v9) fun v10 =>
    Prg.ite (asBool v10) (
      Prg.ret (TV.lit (Value.bool false))) (
      Prg.tv (pbin (Kd.int IntKind.i64) BinOp.add x0 (TV.lit (Value.int IntKind.i64 (1 : Int)))) fun v11 =>
      Prg.jmp [0, 0, 1, 0, 1, 1] (f9_0_S v11 y1))))) (
    Prg.ret (TV.lit (Value.bool true)))
theorem f9_MR (x0 : TV) : startQ prog 9 [x0] = f9_M x0 := by kernel_rfl
theorem f9_0_R  (x0 y1 : TV) : pieceQ prog 9 [0, 0, 1, 0, 1, 1] (f9_0_S x0 y1) = f9_0 x0 y1 := by kernel_rfl

def f10_0_S  (x0 x1 x2 y3 y4 y5 y6 : TV) : ASt := ⟨List.replicate 5 (AV.one CA.junk) ++ [AV.one (CA.ptr 0 0)] ++ List.replicate 44 (AV.one CA.junk) ++ [AV.tv x0, AV.tv x1, AV.tv x2] ++ List.replicate 8 (AV.one CA.junk), [Option.some (BC.cells [CA.t y3, CA.t y4, CA.t y5, CA.t y6])] ++ List.replicate 84 (Option.none), []⟩
def f10_M (x0 x1 : TV) : Prg TV :=
  Prg.chk (TV.isAgg x0 1) (
  Prg.chk (TV.isAgg x1 3) (
  Prg.tv (pbin (Kd.int IntKind.i64) BinOp.lss (TV.cell x1 0) (TV.lit (Value.int IntKind.i64 (0 : Int)))) fun v0 =>
  Prg.ite (asBool v0) (
    Prg.ret (TV.lit (Value.bool false))) (
    Prg.tv (pbin (Kd.int IntKind.i64) BinOp.gtr (TV.cell x1 0) (TV.lit (Value.int IntKind.i64 (8 : Int)))) fun v1 =>
    Prg.ite (asBool v1) (
      Prg.ret (TV.lit (Value.bool false))) (
      Prg.tv (pbin (Kd.int IntKind.i64) BinOp.lss (TV.cell x1 1) (TV.cell x1 0)) fun v2 =>
      Prg.ite (asBool v2) (
        Prg.ret (TV.lit (Value.bool false))) (
        Prg.tv (pbin (Kd.int IntKind.i64) BinOp.gtr (TV.cell x1 1) (TV.lit (Value.int IntKind.i64 (256 : Int)))) fun v3 =>
        Prg.ite (asBool v3) (
          Prg.ret (TV.lit (Value.bool false))) (
          Prg.tv (plen (Kd.slice 41) (TV.cell x1 2)) fun v4 =>
          Prg.tv (pbin (Kd.int IntKind.i64) BinOp.lss v4 (TV.lit (Value.int IntKind.i64 (1 : Int)))) fun v5 =>
          Prg.ite (asBool v5) (
            Prg.ret (TV.lit (Value.bool false))) (
            Prg.tv (plen (Kd.slice 41) (TV.cell x1 2)) fun v6 =>
            Prg.tv (pbin (Kd.int IntKind.i64) BinOp.gtr v6 (TV.lit (Value.int IntKind.i64 (64 : Int)))) fun v7 =>
            Prg.ite (asBool v7) (
              Prg.ret (TV.lit (Value.bool false))) (
              Prg.tvs (pidx 14 (TV.cell x1 2) (TV.lit (Value.int IntKind.i64 (0 : Int)))) fun e8 =>
              Prg.chk (Nat.blt 0 (List.length e8)) (
              Prg.ite (asBool (nth TV.hole e8 0)) (
                Prg.ret (TV.lit (Value.bool false))) (
                Prg.tv (plen (Kd.slice 41) (TV.cell x1 2)) fun v9 =>
                Prg.jmp [0, 0, 1, 0, 1, 1, 1, 1] (f10_0_S (TV.cell x1 2) v9 (TV.lit (Value.int IntKind.i64 (0 : Int))) (TV.cell x0 0) (TV.cell x1 0) (TV.cell x1 1) (TV.cell x1 2))))))))))))
-- [0, 0, 1, 0, 1, 1, 1, 1]
def f10_0  (x0 x1 x2 y3 y4 y5 y6 : TV) : Prg TV :=
  Prg.tv (pbin (Kd.int IntKind.i64) BinOp.lss x2 x1) fun v10 =>
  Prg.ite (asBool v10) (
    Prg.tvs (pidx 14 x0 x2) fun e11 =>
    Prg.chk (Nat.ble 14 (List.length e11)) (
    Prg.call 19 [TV.agg [y3, y4, y5, y6], TV.agg [nth TV.hole e11 0, nth TV.hole e11 1, nth TV.hole e11 2, nth TV.hole e11 3, nth TV.hole e11 4, nth TV.hole e11 5, nth TV.hole e11 6, nth TV.hole e11 7, nth TV.hole e11 8, nth TV.hole e11 9, nth TV.hole e11 10, nth TV.hole e11 11, nth TV.hole e11 12, nth TV.hole e11 13]] fun v12 =>
    Prg.chk (fitsAt z4 [v12] 0) (
    Prg.tv (pun UnOp.not v12) fun v13 =>
    Prg.ite (asBool v13) (
      Prg.ret (TV.lit (Value.bool false))) (
      Prg.tv (pbin (Kd.int IntKind.i64) BinOp.add x2 (TV.lit (Value.int IntKind.i64 (1 : Int)))) fun v14 =>
      Prg.jmp [0, 0, 1, 0, 1, 1, 1, 1] (f10_0_S x0 x1 v14 y3 y4 y5 y6))))) (
    Prg.ret (TV.lit (Value.bool true)))
theorem f10_MR (x0 x1 : TV) : startQ prog 10 [x0, x1] = f10_M x0 x1 := by kernel_rfl
theorem f10_0_R  (x0 x1 x2 y3 y4 y5 y6 : TV) : pieceQ prog 10 [0, 0, 1, 0, 1, 1, 1, 1] (f10_0_S x0 x1 x2 y3 y4 y5 y6) = f10_0 x0 x1 x2 y3 y4 y5 y6 := by kernel_rfl

def f11_0_S  (x0 y1 y2 y3 y4 : TV) : ASt := ⟨[AV.one CA.junk, AV.one CA.junk, AV.one (CA.ptr 0 0), AV.one (CA.ptr 1 0), AV.one CA.junk, AV.tv x0] ++ List.replicate 87 (AV.one CA.junk), [Option.some (BC.cells [CA.t y1]), Option.some (BC.cells [CA.t y2, CA.t y3, CA.t y4])] ++ List.replicate 115 (Option.none), []⟩
def f11_1_S  (x0 x1 y2 y3 y4 y5 y6 y7 y8 y9 y10 y11 y12 y13 y14 y15 y16 y17 y18 y19 : TV) : ASt := ⟨[AV.one CA.junk, AV.one CA.junk, AV.one (CA.ptr 0 0), AV.one (CA.ptr 1 0), AV.one CA.junk, AV.tv x0, AV.one (CA.ptr 2 0), AV.tv x1] ++ List.replicate 85 (AV.one CA.junk), [Option.some (BC.cells [CA.t y2]), Option.some (BC.cells [CA.t y3, CA.t y4, CA.t y5]), Option.some (BC.cells [CA.t y6, CA.t y7, CA.t y8, CA.t y9, CA.t y10, CA.t y11, CA.t y12, CA.t y13, CA.t y14, CA.t y15, CA.t y16, CA.t y17, CA.t y18, CA.t y19])] ++ List.replicate 114 (Option.none), []⟩
def f11_M (x0 x1 : TV) : Prg TV :=
  Prg.chk (TV.isAgg x0 1) (
  Prg.chk (TV.isAgg x1 3) (
  Prg.tv (pbin (Kd.int IntKind.i64) BinOp.lss (TV.cell x1 0) (TV.lit (Value.int IntKind.i64 (0 : Int)))) fun v0 =>
  Prg.ite (asBool v0) (
    Prg.ret (TV.lit (Value.bool false))) (
    Prg.tv (pbin (Kd.int IntKind.i64) BinOp.gtr (TV.cell x1 0) (TV.lit (Value.int IntKind.i64 (8 : Int)))) fun v1 =>
    Prg.ite (asBool v1) (
      Prg.ret (TV.lit (Value.bool false))) (
      Prg.tv (pbin (Kd.int IntKind.i64) BinOp.lss (TV.cell x1 1) (TV.cell x1 0)) fun v2 =>
      Prg.ite (asBool v2) (
        Prg.ret (TV.lit (Value.bool false))) (
        Prg.tv (pbin (Kd.int IntKind.i64) BinOp.gtr (TV.cell x1 1) (TV.lit (Value.int IntKind.i64 (256 : Int)))) fun v3 =>
        Prg.ite (asBool v3) (
          Prg.ret (TV.lit (Value.bool false))) (
          Prg.tv (plen (Kd.slice 41) (TV.cell x1 2)) fun v4 =>
          Prg.tv (pbin (Kd.int IntKind.i64) BinOp.eql v4 (TV.lit (Value.int IntKind.i64 (0 : Int)))) fun v5 =>
          Prg.ite (asBool v5) (
            Prg.ret (TV.lit (Value.bool false))) (
            Prg.tv (plen (Kd.slice 41) (TV.cell x1 2)) fun v6 =>
            Prg.tv (pbin (Kd.int IntKind.i64) BinOp.gtr v6 (TV.lit (Value.int IntKind.i64 (64 : Int)))) fun v7 =>
            Prg.ite (asBool v7) (
              Prg.ret (TV.lit (Value.bool false))) (
              Prg.tvs (pidx 14 (TV.cell x1 2) (TV.lit (Value.int IntKind.i64 (0 : Int)))) fun e8 =>
              Prg.chk (Nat.blt 0 (List.length e8)) (
              Prg.ite (asBool (nth TV.hole e8 0)) (
                Prg.ret (TV.lit (Value.bool false))) (
                Prg.jmp [0, 0, 1, 0, 1, 1] (f11_0_S (TV.lit (Value.int IntKind.i64 (0 : Int))) (TV.cell x0 0) (TV.cell x1 0) (TV.cell x1 1) (TV.cell x1 2))))))))))))
-- [0, 0, 1, 0, 1, 1]
def f11_0  (x0 y1 y2 y3 y4 : TV) : Prg TV :=
  Prg.tv (plen (Kd.slice 41) y4) fun v9 =>
  Prg.tv (pbin (Kd.int IntKind.i64) BinOp.lss x0 v9) fun v10 =>
  Prg.ite (asBool v10) (
    Prg.tvs (pidx 14 y4 x0) fun e11 =>
    Prg.chk (Nat.ble 14 (List.length e11)) (
    Prg.tv (plen (Kd.slice 49) (nth TV.hole e11 5)) fun v12 =>
    Prg.tv (pbin (Kd.int IntKind.i64) BinOp.gtr v12 (TV.lit (Value.int IntKind.i64 (64 : Int)))) fun v13 =>
    Prg.ite (asBool v13) (
      Prg.ret (TV.lit (Value.bool false))) (
      Prg.call 20 [TV.agg [y2, y3, y4], TV.agg [nth TV.hole e11 0, nth TV.hole e11 1, nth TV.hole e11 2, nth TV.hole e11 3, nth TV.hole e11 4, nth TV.hole e11 5, nth TV.hole e11 6, nth TV.hole e11 7, nth TV.hole e11 8, nth TV.hole e11 9, nth TV.hole e11 10, nth TV.hole e11 11, nth TV.hole e11 12, nth TV.hole e11 13]] fun v14 =>
      Prg.chk (fitsAt z4 [v14] 0) (
      Prg.tv (pun UnOp.not v14) fun v15 =>
      Prg.ite (asBool v15) (
        Prg.ret (TV.lit (Value.bool false))) (
        Prg.call 21 [TV.agg [y1], TV.agg [y2, y3, y4], TV.agg [nth TV.hole e11 6, nth TV.hole e11 7, nth TV.hole e11 8, nth TV.hole e11 9, nth TV.hole e11 10, nth TV.hole e11 11, nth TV.hole e11 12, nth TV.hole e11 13]] fun v16 =>
        Prg.chk (fitsAt z4 [v16] 0) (
        Prg.tv (pun UnOp.not v16) fun v17 =>
        Prg.ite (asBool v17) (
          Prg.ret (TV.lit (Value.bool false))) (
          Prg.jmp [0, 0, 1, 1, 1, 0, 0, 1, 0, 0, 1, 0, 1, 1] (f11_1_S x0 (TV.lit (Value.int IntKind.i64 (0 : Int))) y1 y2 y3 y4 (nth TV.hole e11 0) (nth TV.hole e11 1) (nth TV.hole e11 2) (nth TV.hole e11 3) (nth TV.hole e11 4) (nth TV.hole e11 5) (nth TV.hole e11 6) (nth TV.hole e11 7) (nth TV.hole e11 8) (nth TV.hole e11 9) (nth TV.hole e11 10) (nth TV.hole e11 11) (nth TV.hole e11 12) (nth TV.hole e11 13))))))))) (
    Prg.ret (TV.lit (Value.bool true)))
-- [0, 0, 1, 1, 1, 0, 0, 1, 0, 0, 1, 0, 1, 1]
def f11_1  (x0 x1 y2 y3 y4 y5 y6 y7 y8 y9 y10 y11 y12 y13 y14 y15 y16 y17 y18 y19 : TV) : Prg TV :=
  Prg.tv (plen (Kd.slice 49) y11) fun v18 =>
  Prg.tv (pbin (Kd.int IntKind.i64) BinOp.lss x1 v18) fun v19 =>
  Prg.ite (asBool v19) (
    Prg.tvs (pidx 7 y11 x1) fun e20 =>
    Prg.chk (Nat.ble 7 (List.length e20)) (
    Prg.call 22 [TV.agg [y2], TV.agg [y3, y4, y5], TV.agg [nth TV.hole e20 0, nth TV.hole e20 1, nth TV.hole e20 2, nth TV.hole e20 3, nth TV.hole e20 4, nth TV.hole e20 5, nth TV.hole e20 6]] fun v21 =>
    Prg.chk (fitsAt z4 [v21] 0) (
    Prg.tv (pun UnOp.not v21) fun v22 =>
    Prg.ite (asBool v22) (
      Prg.ret (TV.lit (Value.bool false))) (
      Prg.tv (pbin (Kd.int IntKind.i64) BinOp.add x1 (TV.lit (Value.int IntKind.i64 (1 : Int)))) fun v23 =>
      Prg.jmp [0, 0, 1, 1, 1, 0, 0, 1, 0, 0, 1, 0, 1, 1] (f11_1_S x0 v23 y2 y3 y4 y5 y6 y7 y8 y9 y10 y11 y12 y13 y14 y15 y16 y17 y18 y19))))) (
    Prg.tv (pbin (Kd.int IntKind.i64) BinOp.add x0 (TV.lit (Value.int IntKind.i64 (1 : Int)))) fun v24 =>
    Prg.jmp [0, 0, 1, 0, 1, 1] (f11_0_S v24 y2 y3 y4 y5))
theorem f11_MR (x0 x1 : TV) : startQ prog 11 [x0, x1] = f11_M x0 x1 := by kernel_rfl
theorem f11_0_R  (x0 y1 y2 y3 y4 : TV) : pieceQ prog 11 [0, 0, 1, 0, 1, 1] (f11_0_S x0 y1 y2 y3 y4) = f11_0 x0 y1 y2 y3 y4 := by kernel_rfl
theorem f11_1_R  (x0 x1 y2 y3 y4 y5 y6 y7 y8 y9 y10 y11 y12 y13 y14 y15 y16 y17 y18 y19 : TV) : pieceQ prog 11 [0, 0, 1, 1, 1, 0, 0, 1, 0, 0, 1, 0, 1, 1] (f11_1_S x0 x1 y2 y3 y4 y5 y6 y7 y8 y9 y10 y11 y12 y13 y14 y15 y16 y17 y18 y19) = f11_1 x0 x1 y2 y3 y4 y5 y6 y7 y8 y9 y10 y11 y12 y13 y14 y15 y16 y17 y18 y19 := by kernel_rfl

end Go.Ab.S2

import Derived.Test.YtbjomheepodapaaS2T
set_option linter.unusedVariables false
set_option maxRecDepth 100000
namespace Go.Ab.S2
open Go Go.Ab Go.Proofs
def f21_0_S  (x0 x1 x2 x3 y4 y5 y6 y7 y8 y9 y10 y11 y12 y13 y14 y15 : TV) : ASt := ⟨[AV.one CA.junk, AV.one CA.junk, AV.one CA.junk, AV.one (CA.ptr 0 0), AV.one (CA.ptr 1 0), AV.one (CA.ptr 2 0), AV.one CA.junk, AV.tv x0, AV.tv x1, AV.tv x2] ++ List.replicate 30 (AV.one CA.junk) ++ [AV.tv x3] ++ List.replicate 117 (AV.one CA.junk), [Option.some (BC.cells [CA.t y4]), Option.some (BC.cells [CA.t y5, CA.t y6, CA.t y7]), Option.some (BC.cells [CA.t y8, CA.t y9, CA.t y10, CA.t y11, CA.t y12, CA.t y13, CA.t y14, CA.t y15])] ++ List.replicate 179 (Option.none), []⟩
def f21_1_S  (x0 x1 x2 x3 x4 y5 y6 y7 y8 y9 y10 y11 y12 y13 y14 y15 y16 : TV) : ASt := ⟨[AV.one CA.junk, AV.one CA.junk, AV.one CA.junk, AV.one (CA.ptr 0 0), AV.one (CA.ptr 1 0), AV.one (CA.ptr 2 0), AV.one CA.junk, AV.tv x0, AV.tv x1, AV.tv x2] ++ List.replicate 30 (AV.one CA.junk) ++ [AV.tv x3, AV.tv x4] ++ List.replicate 116 (AV.one CA.junk), [Option.some (BC.cells [CA.t y5]), Option.some (BC.cells [CA.t y6, CA.t y7, CA.t y8]), Option.some (BC.cells [CA.t y9, CA.t y10, CA.t y11, CA.t y12, CA.t y13, CA.t y14, CA.t y15, CA.t y16])] ++ List.replicate 179 (Option.none), []⟩
def f21_M (x0 x1 x2 : TV) : Prg TV :=
  Prg.chk (TV.isAgg x0 1) (
  Prg.chk (TV.isAgg x1 3) (
  Prg.chk (TV.isAgg x2 8) (
  Prg.call 35 [TV.cell x2 1, TV.cell x1 1] fun v0 =>
  Prg.chk (fitsAt z4 [v0] 0) (
  Prg.call 35 [TV.cell x2 2, TV.cell x1 1] fun v1 =>
  Prg.chk (fitsAt z4 [v1] 0) (
  Prg.tv (pbin (Kd.int IntKind.i64) BinOp.eql (TV.cell x2 2) (TV.lit (Value.int IntKind.i64 (0 : Int)))) fun v2 =>
  Prg.ite (asBool v2) (
    Prg.tv (pbin (Kd.int IntKind.i64) BinOp.eql (TV.cell x2 3) (TV.lit (Value.int IntKind.i64 (0 : Int)))) fun v3 =>
    Prg.ite (asBool v3) (
      Prg.tv (plen (Kd.slice 3) (TV.cell x2 4)) fun v4 =>
      Prg.tv (pbin (Kd.int IntKind.i64) BinOp.eql v4 (TV.lit (Value.int IntKind.i64 (0 : Int)))) fun v5 =>
      Prg.ite (asBool v5) (
        Prg.tv (pbin (Kd.int IntKind.i64) BinOp.eql (TV.cell x2 7) (TV.lit (Value.int IntKind.i64 (0 : Int)))) fun v6 =>
        Prg.jmp [1, 0, 1, 1, 1] (f21_0_S v0 v1 v6 (TV.cell x2 0) (TV.cell x0 0) (TV.cell x1 0) (TV.cell x1 1) (TV.cell x1 2) (TV.cell x2 0) (TV.cell x2 1) (TV.cell x2 2) (TV.cell x2 3) (TV.cell x2 4) (TV.cell x2 5) (TV.cell x2 6) (TV.cell x2 7))) (
        Prg.jmp [1, 0, 1, 1, 1] (f21_0_S v0 v1 (TV.lit (Value.bool false)) (TV.cell x2 0) (TV.cell x0 0) (TV.cell x1 0) (TV.cell x1 1) (TV.cell x1 2) (TV.cell x2 0) (TV.cell x2 1) (TV.cell x2 2) (TV.cell x2 3) (TV.cell x2 4) (TV.cell x2 5) (TV.cell x2 6) (TV.cell x2 7)))) (
      Prg.jmp [1, 0, 1, 1, 1] (f21_0_S v0 v1 (TV.lit (Value.bool false)) (TV.cell x2 0) (TV.cell x0 0) (TV.cell x1 0) (TV.cell x1 1) (TV.cell x1 2) (TV.cell x2 0) (TV.cell x2 1) (TV.cell x2 2) (TV.cell x2 3) (TV.cell x2 4) (TV.cell x2 5) (TV.cell x2 6) (TV.cell x2 7)))) (
    Prg.jmp [1, 0, 1, 1, 1] (f21_0_S v0 v1 (TV.lit (Value.bool false)) (TV.cell x2 0) (TV.cell x0 0) (TV.cell x1 0) (TV.cell x1 1) (TV.cell x1 2) (TV.cell x2 0) (TV.cell x2 1) (TV.cell x2 2) (TV.cell x2 3) (TV.cell x2 4) (TV.cell x2 5) (TV.cell x2 6) (TV.cell x2 7))))))))
-- [1, 0, 1, 1, 1]
def f21_0  (x0 x1 x2 x3 y4 y5 y6 y7 y8 y9 y10 y11 y12 y13 y14 y15 : TV) : Prg TV :=
  Prg.tv (pbin (Kd.int IntKind.i64) BinOp.eql x3 (TV.lit (Value.int IntKind.i64 (1 : Int)))) fun v7 =>
  Prg.ite (asBool v7) (
    Prg.jmp [1, 0, 1, 0, 1, 1, 1] (f21_1_S x0 x1 x2 x3 v7 y4 y5 y6 y7 y8 y9 y10 y11 y12 y13 y14 y15)) (
    Prg.tv (pbin (Kd.int IntKind.i64) BinOp.eql x3 (TV.lit (Value.int IntKind.i64 (5 : Int)))) fun v8 =>
    Prg.jmp [1, 0, 1, 0, 1, 1, 1] (f21_1_S x0 x1 x2 x3 v8 y4 y5 y6 y7 y8 y9 y10 y11 y12 y13 y14 y15))
-- [1, 0, 1, 0, 1, 1, 1]
def f21_1  (x0 x1 x2 x3 x4 y5 y6 y7 y8 y9 y10 y11 y12 y13 y14 y15 y16 : TV) : Prg TV :=
  Prg.ite (asBool x4) (
    Prg.ite (asBool x0) (
      Prg.ite (asBool x2) (
        Prg.tv (pbin (Kd.int IntKind.i64) BinOp.eql y14 (TV.lit (Value.int IntKind.i64 (0 : Int)))) fun v9 =>
        Prg.ite (asBool v9) (
          Prg.tv (pbin (Kd.int IntKind.i64) BinOp.eql y15 (TV.lit (Value.int IntKind.i64 (0 : Int)))) fun v10 =>
          Prg.ret v10) (
          Prg.ret (TV.lit (Value.bool false)))) (
        Prg.ret (TV.lit (Value.bool false)))) (
      Prg.ret (TV.lit (Value.bool false)))) (
    Prg.tv (pbin (Kd.int IntKind.i64) BinOp.eql x3 (TV.lit (Value.int IntKind.i64 (2 : Int)))) fun v11 =>
    Prg.ite (asBool v11) (
      Prg.tv (pbin (Kd.int IntKind.i64) BinOp.eql y10 (TV.lit (Value.int IntKind.i64 (0 : Int)))) fun v12 =>
      Prg.ite (asBool v12) (
        Prg.ite (asBool x2) (
          Prg.call 36 [TV.agg [y6, y7, y8], y14] fun v13 =>
          Prg.chk (fitsAt z4 [v13] 0) (
          Prg.ite (asBool v13) (
            Prg.tv (pbin (Kd.int IntKind.i64) BinOp.eql y15 (TV.lit (Value.int IntKind.i64 (0 : Int)))) fun v14 =>
            Prg.ret v14) (
            Prg.ret (TV.lit (Value.bool false))))) (
          Prg.ret (TV.lit (Value.bool false)))) (
        Prg.ret (TV.lit (Value.bool false)))) (
      Prg.tv (pbin (Kd.int IntKind.i64) BinOp.eql x3 (TV.lit (Value.int IntKind.i64 (3 : Int)))) fun v15 =>
      Prg.ite (asBool v15) (
        Prg.ite (asBool x0) (
          Prg.ite (asBool x2) (
            Prg.call 36 [TV.agg [y6, y7, y8], y14] fun v16 =>
            Prg.chk (fitsAt z4 [v16] 0) (
            Prg.ite (asBool v16) (
              Prg.call 36 [TV.agg [y6, y7, y8], y15] fun v17 =>
              Prg.chk (fitsAt z4 [v17] 0) (
              Prg.ret v17)) (
              Prg.ret (TV.lit (Value.bool false))))) (
            Prg.ret (TV.lit (Value.bool false)))) (
          Prg.ret (TV.lit (Value.bool false)))) (
        Prg.tv (pbin (Kd.int IntKind.i64) BinOp.eql x3 (TV.lit (Value.int IntKind.i64 (4 : Int)))) fun v18 =>
        Prg.ite (asBool v18) (
          Prg.tv (pbin (Kd.int IntKind.i64) BinOp.eql y10 (TV.lit (Value.int IntKind.i64 (0 : Int)))) fun v19 =>
          Prg.ite (asBool v19) (
            Prg.ite (asBool x1) (
              Prg.call 37 [TV.agg [y5], TV.agg [y6, y7, y8], y12, y13] fun v20 =>
              Prg.chk (fitsAt z4 [v20] 0) (
              Prg.ite (asBool v20) (
                Prg.call 36 [TV.agg [y6, y7, y8], y14] fun v21 =>
                Prg.chk (fitsAt z4 [v21] 0) (
                Prg.ite (asBool v21) (
                  Prg.tv (pbin (Kd.int IntKind.i64) BinOp.eql y15 (TV.lit (Value.int IntKind.i64 (0 : Int)))) fun v22 =>
                  Prg.ite (asBool v22) (
                    Prg.tv (plen (Kd.slice 41) y8) fun v23 =>
                    Prg.call 35 [y16, v23] fun v24 =>
                    Prg.chk (fitsAt z4 [v24] 0) (
                    Prg.ite (asBool v24) (
                      Prg.tvs (pidx 14 y8 y16) fun e25 =>
                      Prg.chk (Nat.blt 0 (List.length e25)) (
                      Prg.ret (nth TV.hole e25 0))) (
                      Prg.ret (TV.lit (Value.bool false))))) (
                    Prg.ret (TV.lit (Value.bool false)))) (
                  Prg.ret (TV.lit (Value.bool false))))) (
                Prg.ret (TV.lit (Value.bool false))))) (
              Prg.ret (TV.lit (Value.bool false)))) (
            Prg.ret (TV.lit (Value.bool false)))) (
          Prg.tv (pbin (Kd.int IntKind.i64) BinOp.eql x3 (TV.lit (Value.int IntKind.i64 (6 : Int)))) fun v26 =>
          Prg.ite (asBool v26) (
            Prg.tv (pbin (Kd.int IntKind.i64) BinOp.eql y10 (TV.lit (Value.int IntKind.i64 (0 : Int)))) fun v27 =>
            Prg.ite (asBool v27) (
              Prg.ite (asBool x2) (
                Prg.tv (pbin (Kd.int IntKind.i64) BinOp.eql y14 (TV.lit (Value.int IntKind.i64 (0 : Int)))) fun v28 =>
                Prg.ite (asBool v28) (
                  Prg.tv (pbin (Kd.int IntKind.i64) BinOp.eql y15 (TV.lit (Value.int IntKind.i64 (0 : Int)))) fun v29 =>
                  Prg.ret v29) (
                  Prg.ret (TV.lit (Value.bool false)))) (
                Prg.ret (TV.lit (Value.bool false)))) (
              Prg.ret (TV.lit (Value.bool false)))) (
            Prg.ret (TV.lit (Value.bool false)))))))
theorem f21_MR (x0 x1 x2 : TV) : startQ prog 21 [x0, x1, x2] = f21_M x0 x1 x2 := by kernel_rfl
theorem f21_0_R  (x0 x1 x2 x3 y4 y5 y6 y7 y8 y9 y10 y11 y12 y13 y14 y15 : TV) : pieceQ prog 21 [1, 0, 1, 1, 1] (f21_0_S x0 x1 x2 x3 y4 y5 y6 y7 y8 y9 y10 y11 y12 y13 y14 y15) = f21_0 x0 x1 x2 x3 y4 y5 y6 y7 y8 y9 y10 y11 y12 y13 y14 y15 := by kernel_rfl
theorem f21_1_R  (x0 x1 x2 x3 x4 y5 y6 y7 y8 y9 y10 y11 y12 y13 y14 y15 y16 : TV) : pieceQ prog 21 [1, 0, 1, 0, 1, 1, 1] (f21_1_S x0 x1 x2 x3 x4 y5 y6 y7 y8 y9 y10 y11 y12 y13 y14 y15 y16) = f21_1 x0 x1 x2 x3 x4 y5 y6 y7 y8 y9 y10 y11 y12 y13 y14 y15 y16 := by kernel_rfl

def f22_0_S  (x0 x1 x2 x3 x4 y5 y6 y7 y8 y9 y10 y11 y12 y13 y14 y15 : TV) : ASt := ⟨[AV.one CA.junk, AV.one CA.junk, AV.one CA.junk, AV.one (CA.ptr 0 0), AV.one (CA.ptr 1 0), AV.one (CA.ptr 2 0), AV.one CA.junk, AV.tv x0, AV.tv x1, AV.tv x2] ++ List.replicate 16 (AV.one CA.junk) ++ [AV.tv x3] ++ List.replicate 24 (AV.one CA.junk) ++ [AV.tv x4] ++ List.replicate 134 (AV.one CA.junk), [Option.some (BC.cells [CA.t y5]), Option.some (BC.cells [CA.t y6, CA.t y7, CA.t y8]), Option.some (BC.cells [CA.t y9, CA.t y10, CA.t y11, CA.t y12, CA.t y13, CA.t y14, CA.t y15])] ++ List.replicate 207 (Option.none), []⟩
def f22_1_S  (x0 x1 x2 x3 x4 y5 y6 y7 y8 y9 y10 y11 y12 y13 y14 y15 : TV) : ASt := ⟨[AV.one CA.junk, AV.one CA.junk, AV.one CA.junk, AV.one (CA.ptr 0 0), AV.one (CA.ptr 1 0), AV.one (CA.ptr 2 0), AV.one CA.junk, AV.tv x0, AV.tv x1, AV.tv x2] ++ List.replicate 16 (AV.one CA.junk) ++ [AV.tv x3] ++ List.replicate 45 (AV.one CA.junk) ++ [AV.tv x4] ++ List.replicate 113 (AV.one CA.junk), [Option.some (BC.cells [CA.t y5]), Option.some (BC.cells [CA.t y6, CA.t y7, CA.t y8]), Option.some (BC.cells [CA.t y9, CA.t y10, CA.t y11, CA.t y12, CA.t y13, CA.t y14, CA.t y15])] ++ List.replicate 207 (Option.none), []⟩
def f22_M (x0 x1 x2 : TV) : Prg TV :=
  Prg.chk (TV.isAgg x0 1) (
  Prg.chk (TV.isAgg x1 3) (
  Prg.chk (TV.isAgg x2 7) (
  Prg.call 35 [TV.cell x2 1, TV.cell x1 1] fun v0 =>
  Prg.chk (fitsAt z4 [v0] 0) (
  Prg.call 35 [TV.cell x2 2, TV.cell x1 1] fun v1 =>
  Prg.chk (fitsAt z4 [v1] 0) (
  Prg.call 35 [TV.cell x2 3, TV.cell x1 1] fun v2 =>
  Prg.chk (fitsAt z4 [v2] 0) (
  Prg.tv (pbin (Kd.int IntKind.i64) BinOp.eql (TV.cell x2 0) (TV.lit (Value.int IntKind.i64 (1 : Int)))) fun v3 =>
  Prg.ite (asBool v3) (
    Prg.ite (asBool v0) (
      Prg.tv (pbin (Kd.int IntKind.i64) BinOp.eql (TV.cell x2 2) (TV.lit (Value.int IntKind.i64 (0 : Int)))) fun v4 =>
      Prg.ite (asBool v4) (
        Prg.tv (pbin (Kd.int IntKind.i64) BinOp.eql (TV.cell x2 3) (TV.lit (Value.int IntKind.i64 (0 : Int)))) fun v5 =>
        Prg.ite (asBool v5) (
          Prg.tv (pbin (Kd.int IntKind.i64) BinOp.eql (TV.cell x2 5) (TV.lit (Value.int IntKind.i64 (0 : Int)))) fun v6 =>
          Prg.ite (asBool v6) (
            Prg.tv (plen (Kd.slice 3) (TV.cell x2 6)) fun v7 =>
            Prg.tv (pbin (Kd.int IntKind.i64) BinOp.eql v7 (TV.lit (Value.int IntKind.i64 (0 : Int)))) fun v8 =>
            Prg.ret v8) (
            Prg.ret (TV.lit (Value.bool false)))) (
          Prg.ret (TV.lit (Value.bool false)))) (
        Prg.ret (TV.lit (Value.bool false)))) (
      Prg.ret (TV.lit (Value.bool false)))) (
    Prg.tv (pbin (Kd.int IntKind.i64) BinOp.eql (TV.cell x2 0) (TV.lit (Value.int IntKind.i64 (2 : Int)))) fun v9 =>
    Prg.ite (asBool v9) (
      Prg.jmp [1, 1, 1, 0, 1, 0, 1, 1] (f22_0_S v0 v1 v2 (TV.cell x2 0) v9 (TV.cell x0 0) (TV.cell x1 0) (TV.cell x1 1) (TV.cell x1 2) (TV.cell x2 0) (TV.cell x2 1) (TV.cell x2 2) (TV.cell x2 3) (TV.cell x2 4) (TV.cell x2 5) (TV.cell x2 6))) (
      Prg.tv (pbin (Kd.int IntKind.i64) BinOp.eql (TV.cell x2 0) (TV.lit (Value.int IntKind.i64 (9 : Int)))) fun v10 =>
      Prg.jmp [1, 1, 1, 0, 1, 0, 1, 1] (f22_0_S v0 v1 v2 (TV.cell x2 0) v10 (TV.cell x0 0) (TV.cell x1 0) (TV.cell x1 1) (TV.cell x1 2) (TV.cell x2 0) (TV.cell x2 1) (TV.cell x2 2) (TV.cell x2 3) (TV.cell x2 4) (TV.cell x2 5) (TV.cell x2 6))))))))))
-- [1, 1, 1, 0, 1, 0, 1, 1]
def f22_0  (x0 x1 x2 x3 x4 y5 y6 y7 y8 y9 y10 y11 y12 y13 y14 y15 : TV) : Prg TV :=
  Prg.ite (asBool x4) (
    Prg.ite (asBool x0) (
      Prg.ite (asBool x1) (
        Prg.tv (pbin (Kd.int IntKind.i64) BinOp.eql y12 (TV.lit (Value.int IntKind.i64 (0 : Int)))) fun v11 =>
        Prg.ite (asBool v11) (
          Prg.call 38 [y13, y14, y15] fun v12 =>
          Prg.chk (fitsAt z4 [v12] 0) (
          Prg.ret v12)) (
          Prg.ret (TV.lit (Value.bool false)))) (
        Prg.ret (TV.lit (Value.bool false)))) (
      Prg.ret (TV.lit (Value.bool false)))) (
    Prg.tv (pbin (Kd.int IntKind.i64) BinOp.eql x3 (TV.lit (Value.int IntKind.i64 (3 : Int)))) fun v13 =>
    Prg.ite (asBool v13) (
      Prg.jmp [1, 1, 1, 1, 1, 0, 1, 0, 1, 1] (f22_1_S x0 x1 x2 x3 v13 y5 y6 y7 y8 y9 y10 y11 y12 y13 y14 y15)) (
      Prg.tv (pbin (Kd.int IntKind.i64) BinOp.eql x3 (TV.lit (Value.int IntKind.i64 (4 : Int)))) fun v14 =>
      Prg.ite (asBool v14) (
        Prg.jmp [1, 1, 1, 1, 1, 0, 1, 0, 1, 1] (f22_1_S x0 x1 x2 x3 v14 y5 y6 y7 y8 y9 y10 y11 y12 y13 y14 y15)) (
        Prg.tv (pbin (Kd.int IntKind.i64) BinOp.eql x3 (TV.lit (Value.int IntKind.i64 (5 : Int)))) fun v15 =>
        Prg.ite (asBool v15) (
          Prg.jmp [1, 1, 1, 1, 1, 0, 1, 0, 1, 1] (f22_1_S x0 x1 x2 x3 v15 y5 y6 y7 y8 y9 y10 y11 y12 y13 y14 y15)) (
          Prg.tv (pbin (Kd.int IntKind.i64) BinOp.eql x3 (TV.lit (Value.int IntKind.i64 (6 : Int)))) fun v16 =>
          Prg.ite (asBool v16) (
            Prg.jmp [1, 1, 1, 1, 1, 0, 1, 0, 1, 1] (f22_1_S x0 x1 x2 x3 v16 y5 y6 y7 y8 y9 y10 y11 y12 y13 y14 y15)) (
            Prg.tv (pbin (Kd.int IntKind.i64) BinOp.eql x3 (TV.lit (Value.int IntKind.i64 (7 : Int)))) fun v17 =>
            Prg.ite (asBool v17) (
              Prg.jmp [1, 1, 1, 1, 1, 0, 1, 0, 1, 1] (f22_1_S x0 x1 x2 x3 v17 y5 y6 y7 y8 y9 y10 y11 y12 y13 y14 y15)) (
              Prg.tv (pbin (Kd.int IntKind.i64) BinOp.eql x3 (TV.lit (Value.int IntKind.i64 (8 : Int)))) fun v18 =>
              Prg.jmp [1, 1, 1, 1, 1, 0, 1, 0, 1, 1] (f22_1_S x0 x1 x2 x3 v18 y5 y6 y7 y8 y9 y10 y11 y12 y13 y14 y15)))))))
-- [1, 1, 1, 1, 1, 0, 1, 0, 1, 1]
def f22_1  (x0 x1 x2 x3 x4 y5 y6 y7 y8 y9 y10 y11 y12 y13 y14 y15 : TV) : Prg TV :=
  Prg.ite (asBool x4) (
    Prg.ite (asBool x0) (
      Prg.ite (asBool x1) (
        Prg.ite (asBool x2) (
          Prg.call 38 [y13, y14, y15] fun v19 =>
          Prg.chk (fitsAt z4 [v19] 0) (
          Prg.ret v19)) (
          Prg.ret (TV.lit (Value.bool false)))) (
        Prg.ret (TV.lit (Value.bool false)))) (
      Prg.ret (TV.lit (Value.bool false)))) (
    Prg.tv (pbin (Kd.int IntKind.i64) BinOp.eql x3 (TV.lit (Value.int IntKind.i64 (10 : Int)))) fun v20 =>
    Prg.ite (asBool v20) (
      Prg.tv (pbin (Kd.int IntKind.i64) BinOp.eql y10 (TV.lit (Value.int IntKind.i64 (0 : Int)))) fun v21 =>
      Prg.ite (asBool v21) (
        Prg.ite (asBool x1) (
          Prg.ite (asBool x2) (
            Prg.call 38 [y13, y14, y15] fun v22 =>
            Prg.chk (fitsAt z4 [v22] 0) (
            Prg.ret v22)) (
            Prg.ret (TV.lit (Value.bool false)))) (
          Prg.ret (TV.lit (Value.bool false)))) (
        Prg.ret (TV.lit (Value.bool false)))) (
      Prg.tv (pbin (Kd.int IntKind.i64) BinOp.eql x3 (TV.lit (Value.int IntKind.i64 (11 : Int)))) fun v23 =>
      Prg.ite (asBool v23) (
        Prg.ite (asBool x0) (
          Prg.tv (pbin (Kd.int IntKind.i64) BinOp.eql y11 (TV.lit (Value.int IntKind.i64 (0 : Int)))) fun v24 =>
          Prg.ite (asBool v24) (
            Prg.tv (pbin (Kd.int IntKind.i64) BinOp.eql y12 (TV.lit (Value.int IntKind.i64 (0 : Int)))) fun v25 =>
            Prg.ite (asBool v25) (
              Prg.tv (pbin (Kd.int IntKind.u16) BinOp.eql y13 (TV.lit (Value.int IntKind.u16 (0 : Int)))) fun v26 =>
              Prg.ite (asBool v26) (
                Prg.call 37 [TV.agg [y5], TV.agg [y6, y7, y8], y14, y15] fun v27 =>
                Prg.chk (fitsAt z4 [v27] 0) (
                Prg.ret v27)) (
                Prg.ret (TV.lit (Value.bool false)))) (
              Prg.ret (TV.lit (Value.bool false)))) (
            Prg.ret (TV.lit (Value.bool false)))) (
          Prg.ret (TV.lit (Value.bool false)))) (
        Prg.tv (pbin (Kd.int IntKind.i64) BinOp.eql x3 (TV.lit (Value.int IntKind.i64 (12 : Int)))) fun v28 =>
        Prg.ite (asBool v28) (
          Prg.tv (pbin (Kd.int IntKind.i64) BinOp.eql y10 (TV.lit (Value.int IntKind.i64 (0 : Int)))) fun v29 =>
          Prg.ite (asBool v29) (
            Prg.ite (asBool x1) (
              Prg.tv (pbin (Kd.int IntKind.i64) BinOp.eql y12 (TV.lit (Value.int IntKind.i64 (0 : Int)))) fun v30 =>
              Prg.ite (asBool v30) (
                Prg.call 38 [y13, y14, y15] fun v31 =>
                Prg.chk (fitsAt z4 [v31] 0) (
                Prg.ret v31)) (
                Prg.ret (TV.lit (Value.bool false)))) (
              Prg.ret (TV.lit (Value.bool false)))) (
            Prg.ret (TV.lit (Value.bool false)))) (
          Prg.tv (pbin (Kd.int IntKind.i64) BinOp.eql x3 (TV.lit (Value.int IntKind.i64 (13 : Int)))) fun v32 =>
          Prg.ite (asBool v32) (
            Prg.ite (asBool x0) (
              Prg.tv (pbin (Kd.int IntKind.i64) BinOp.eql y11 (TV.lit (Value.int IntKind.i64 (0 : Int)))) fun v33 =>
              Prg.ite (asBool v33) (
                Prg.tv (pbin (Kd.int IntKind.i64) BinOp.eql y12 (TV.lit (Value.int IntKind.i64 (0 : Int)))) fun v34 =>
                Prg.ite (asBool v34) (
                  Prg.call 38 [y13, y14, y15] fun v35 =>
                  Prg.chk (fitsAt z4 [v35] 0) (
                  Prg.ret v35)) (
                  Prg.ret (TV.lit (Value.bool false)))) (
                Prg.ret (TV.lit (Value.bool false)))) (
              Prg.ret (TV.lit (Value.bool false)))) (
            Prg.ret (TV.lit (Value.bool false)))))))
theorem f22_MR (x0 x1 x2 : TV) : startQ prog 22 [x0, x1, x2] = f22_M x0 x1 x2 := by kernel_rfl
theorem f22_0_R  (x0 x1 x2 x3 x4 y5 y6 y7 y8 y9 y10 y11 y12 y13 y14 y15 : TV) : pieceQ prog 22 [1, 1, 1, 0, 1, 0, 1, 1] (f22_0_S x0 x1 x2 x3 x4 y5 y6 y7 y8 y9 y10 y11 y12 y13 y14 y15) = f22_0 x0 x1 x2 x3 x4 y5 y6 y7 y8 y9 y10 y11 y12 y13 y14 y15 := by kernel_rfl
theorem f22_1_R  (x0 x1 x2 x3 x4 y5 y6 y7 y8 y9 y10 y11 y12 y13 y14 y15 : TV) : pieceQ prog 22 [1, 1, 1, 1, 1, 0, 1, 0, 1, 1] (f22_1_S x0 x1 x2 x3 x4 y5 y6 y7 y8 y9 y10 y11 y12 y13 y14 y15) = f22_1 x0 x1 x2 x3 x4 y5 y6 y7 y8 y9 y10 y11 y12 y13 y14 y15 := by kernel_rfl

def f23_0_S  (x0 y1 y2 y3 w4 : TV) : ASt := ⟨[AV.one CA.junk, AV.one (CA.ptr 0 0), AV.one CA.junk, AV.one (CA.sref 1 0 []), AV.tv x0] ++ List.replicate 103 (AV.one CA.junk), [Option.some (BC.cells [CA.t y1, CA.t y2, CA.t y3]), Option.some (BC.tree [w4])] ++ List.replicate 130 (Option.none), []⟩
def f23_1_S  (y0 y1 y2 w3 : TV) : ASt := ⟨[AV.one CA.junk, AV.one (CA.ptr 0 0), AV.one CA.junk, AV.one (CA.sref 1 0 [])] ++ List.replicate 104 (AV.one CA.junk), [Option.some (BC.cells [CA.t y0, CA.t y1, CA.t y2]), Option.some (BC.tree [w3])] ++ List.replicate 130 (Option.none), []⟩
def f23_2_S  (x0 y1 y2 y3 w4 : TV) : ASt := ⟨[AV.one CA.junk, AV.one (CA.ptr 0 0), AV.one CA.junk, AV.one (CA.sref 1 0 []), AV.one CA.junk, AV.tv x0] ++ List.replicate 102 (AV.one CA.junk), [Option.some (BC.cells [CA.t y1, CA.t y2, CA.t y3]), Option.some (BC.tree [w4])] ++ List.replicate 130 (Option.none), []⟩
def f23_3_S  (x0 x1 y2 y3 y4 w5 : TV) : ASt := ⟨[AV.one CA.junk, AV.one (CA.ptr 0 0), AV.one CA.junk, AV.one (CA.sref 1 0 []), AV.one CA.junk, AV.tv x0, AV.tv x1] ++ List.replicate 101 (AV.one CA.junk), [Option.some (BC.cells [CA.t y2, CA.t y3, CA.t y4]), Option.some (BC.tree [w5])] ++ List.replicate 130 (Option.none), []⟩
def f23_4_S  (x0 x1 x2 y3 y4 y5 w6 y7 y8 y9 y10 y11 y12 y13 y14 : TV) : ASt := ⟨[AV.one CA.junk, AV.one (CA.ptr 0 0), AV.one CA.junk, AV.one (CA.sref 1 0 []), AV.one CA.junk, AV.tv x0, AV.tv x1, AV.one (CA.ptr 2 0)] ++ List.replicate 74 (AV.one CA.junk) ++ [AV.tv x2] ++ List.replicate 25 (AV.one CA.junk), [Option.some (BC.cells [CA.t y3, CA.t y4, CA.t y5]), Option.some (BC.tree [w6]), Option.some (BC.cells [CA.t y7, CA.t y8, CA.t y9, CA.t y10, CA.t y11, CA.t y12, CA.t y13, CA.t y14])] ++ List.replicate 129 (Option.none), []⟩
def f23_5_S  (x0 x1 y2 y3 y4 w5 y6 y7 y8 y9 y10 y11 y12 y13 : TV) : ASt := ⟨[AV.one CA.junk, AV.one (CA.ptr 0 0), AV.one CA.junk, AV.one (CA.sref 1 0 []), AV.one CA.junk, AV.tv x0, AV.tv x1, AV.one (CA.ptr 2 0)] ++ List.replicate 100 (AV.one CA.junk), [Option.some (BC.cells [CA.t y2, CA.t y3, CA.t y4]), Option.some (BC.tree [w5]), Option.some (BC.cells [CA.t y6, CA.t y7, CA.t y8, CA.t y9, CA.t y10, CA.t y11, CA.t y12, CA.t y13])] ++ List.replicate 129 (Option.none), []⟩
def f23_M (x0 : TV) : Prg TV :=
  Prg.chk (TV.isAgg x0 3) (
  Prg.tv (plen (Kd.slice 41) (TV.cell x0 2)) fun v0 =>
  Prg.nat (asNat v0) fun n1 =>
  Prg.nat (asNat v0) fun n2 =>
  Prg.chk (Bool.and (Nat.ble n1 n2) (Nat.ble n2 4294967296)) (
  Prg.jmp [0, 0, 1, 0, 1, 1] (f23_0_S (TV.lit (Value.int IntKind.i64 (0 : Int))) (TV.cell x0 0) (TV.cell x0 1) (TV.cell x0 2) (TV.sl true 1 (List.replicate n1 [TV.lit (Value.bool false)])))))
-- [0, 0, 1, 0, 1, 1]
def f23_0  (x0 y1 y2 y3 w4 : TV) : Prg TV :=
  Prg.tv (plen (Kd.slice 41) y3) fun v3 =>
  Prg.tv (pbin (Kd.int IntKind.i64) BinOp.lss x0 v3) fun v4 =>
  Prg.ite (asBool v4) (
    Prg.tvs (pidx 14 y3 x0) fun e5 =>
    Prg.chk (Nat.blt 0 (List.length e5)) (
    Prg.ite (asBool (nth TV.hole e5 0)) (
      Prg.tvs (pidx 14 y3 x0) fun e6 =>
      Prg.chk (Nat.blt 4 (List.length e6)) (
      Prg.nat (slLen w4) fun n7 =>
      Prg.nat (asNat x0) fun n8 =>
      Prg.chk (Bool.and (slSize w4 1) (Nat.blt n8 n7)) (
      Prg.tvs (pel w4 n8) fun e9 =>
      Prg.chk (fitsAt z4 e9 0) (
      Prg.tv (setC [] w4 n8 0 [nth TV.hole e6 4]) fun v10 =>
      Prg.tv (pbin (Kd.int IntKind.i64) BinOp.add x0 (TV.lit (Value.int IntKind.i64 (1 : Int)))) fun v11 =>
      Prg.jmp [0, 0, 1, 0, 1, 1] (f23_0_S v11 y1 y2 y3 v10))))) (
      Prg.nat (slLen w4) fun n12 =>
      Prg.nat (asNat x0) fun n13 =>
      Prg.chk (Bool.and (slSize w4 1) (Nat.blt n13 n12)) (
      Prg.tvs (pel w4 n13) fun e14 =>
      Prg.chk (fitsAt z4 e14 0) (
      Prg.tv (setC [] w4 n13 0 [TV.lit (Value.bool false)]) fun v15 =>
      Prg.tv (pbin (Kd.int IntKind.i64) BinOp.add x0 (TV.lit (Value.int IntKind.i64 (1 : Int)))) fun v16 =>
      Prg.jmp [0, 0, 1, 0, 1, 1] (f23_0_S v16 y1 y2 y3 v15)))))) (
    Prg.jmp [1, 1, 1] (f23_1_S y1 y2 y3 w4))
-- [1, 1, 1]
def f23_1  (y0 y1 y2 w3 : TV) : Prg TV :=
  Prg.jmp [0, 0, 1, 0, 1, 1, 1] (f23_2_S (TV.lit (Value.int IntKind.i64 (0 : Int))) y0 y1 y2 w3)
-- [0, 0, 1, 0, 1, 1, 1]
def f23_2  (x0 y1 y2 y3 w4 : TV) : Prg TV :=
  Prg.tv (plen (Kd.slice 41) y3) fun v17 =>
  Prg.tv (pbin (Kd.int IntKind.i64) BinOp.lss x0 v17) fun v18 =>
  Prg.ite (asBool v18) (
    Prg.jmp [0, 0, 1, 0, 0, 1, 0, 0, 1, 0, 1, 1, 1] (f23_3_S x0 (TV.lit (Value.int IntKind.i64 (0 : Int))) y1 y2 y3 w4)) (
    Prg.chk (isOwn w4) (
    Prg.ret w4))
-- [0, 0, 1, 0, 0, 1, 0, 0, 1, 0, 1, 1, 1]
def f23_3  (x0 x1 y2 y3 y4 w5 : TV) : Prg TV :=
  Prg.tv (plen (Kd.slice 41) y4) fun v19 =>
  Prg.tv (pbin (Kd.int IntKind.i64) BinOp.lss x1 v19) fun v20 =>
  Prg.ite (asBool v20) (
    Prg.tvs (pidx 14 y4 x1) fun e21 =>
    Prg.chk (Nat.ble 14 (List.length e21)) (
    Prg.nat (slLen w5) fun n22 =>
    Prg.nat (asNat x1) fun n23 =>
    Prg.chk (Bool.and (slSize w5 1) (Nat.blt n23 n22)) (
    Prg.tvs (pel w5 n23) fun e24 =>
    Prg.chk (fitsAt z4 e24 0) (
    Prg.ite (asBool (nth TV.hole e24 0)) (
      Prg.tv (pbin (Kd.int IntKind.i64) BinOp.eql (nth TV.hole e21 6) (TV.lit (Value.int IntKind.i64 (2 : Int)))) fun v25 =>
      Prg.ite (asBool v25) (
        Prg.tv (plen (Kd.slice 4) w5) fun v26 =>
        Prg.call 35 [nth TV.hole e21 11, v26] fun v27 =>
        Prg.chk (fitsAt z4 [v27] 0) (
        Prg.jmp [1, 0, 1, 0, 0, 1, 0, 0, 1, 0, 0, 1, 0, 0, 1, 0, 1, 1, 1] (f23_4_S x0 x1 v27 y2 y3 y4 w5 (nth TV.hole e21 6) (nth TV.hole e21 7) (nth TV.hole e21 8) (nth TV.hole e21 9) (nth TV.hole e21 10) (nth TV.hole e21 11) (nth TV.hole e21 12) (nth TV.hole e21 13)))) (
        Prg.tv (pbin (Kd.int IntKind.i64) BinOp.eql (nth TV.hole e21 6) (TV.lit (Value.int IntKind.i64 (3 : Int)))) fun v28 =>
        Prg.ite (asBool v28) (
          Prg.tv (plen (Kd.slice 4) w5) fun v29 =>
          Prg.call 35 [nth TV.hole e21 11, v29] fun v30 =>
          Prg.chk (fitsAt z4 [v30] 0) (
          Prg.jmp [1, 0, 1, 0, 0, 1, 0, 0, 1, 0, 0, 1, 0, 0, 1, 0, 1, 1, 1] (f23_4_S x0 x1 v30 y2 y3 y4 w5 (nth TV.hole e21 6) (nth TV.hole e21 7) (nth TV.hole e21 8) (nth TV.hole e21 9) (nth TV.hole e21 10) (nth TV.hole e21 11) (nth TV.hole e21 12) (nth TV.hole e21 13)))) (
          Prg.tv (pbin (Kd.int IntKind.i64) BinOp.eql (nth TV.hole e21 6) (TV.lit (Value.int IntKind.i64 (4 : Int)))) fun v31 =>
          Prg.ite (asBool v31) (
            Prg.tv (plen (Kd.slice 4) w5) fun v32 =>
            Prg.call 35 [nth TV.hole e21 11, v32] fun v33 =>
            Prg.chk (fitsAt z4 [v33] 0) (
            Prg.jmp [1, 0, 1, 0, 0, 1, 0, 0, 1, 0, 0, 1, 0, 0, 1, 0, 1, 1, 1] (f23_4_S x0 x1 v33 y2 y3 y4 w5 (nth TV.hole e21 6) (nth TV.hole e21 7) (nth TV.hole e21 8) (nth TV.hole e21 9) (nth TV.hole e21 10) (nth TV.hole e21 11) (nth TV.hole e21 12) (nth TV.hole e21 13)))) (
            Prg.jmp [1, 0, 1, 0, 0, 1, 0, 0, 1, 0, 0, 1, 0, 0, 1, 0, 1, 1, 1] (f23_4_S x0 x1 (TV.lit (Value.bool false)) y2 y3 y4 w5 (nth TV.hole e21 6) (nth TV.hole e21 7) (nth TV.hole e21 8) (nth TV.hole e21 9) (nth TV.hole e21 10) (nth TV.hole e21 11) (nth TV.hole e21 12) (nth TV.hole e21 13)))))) (
      Prg.jmp [1, 0, 1, 0, 0, 1, 0, 0, 1, 0, 0, 1, 0, 0, 1, 0, 1, 1, 1] (f23_4_S x0 x1 (TV.lit (Value.bool false)) y2 y3 y4 w5 (nth TV.hole e21 6) (nth TV.hole e21 7) (nth TV.hole e21 8) (nth TV.hole e21 9) (nth TV.hole e21 10) (nth TV.hole e21 11) (nth TV.hole e21 12) (nth TV.hole e21 13))))))) (
    Prg.tv (pbin (Kd.int IntKind.i64) BinOp.add x0 (TV.lit (Value.int IntKind.i64 (1 : Int)))) fun v34 =>
    Prg.jmp [0, 0, 1, 0, 1, 1, 1] (f23_2_S v34 y2 y3 y4 w5))
-- [1, 0, 1, 0, 0, 1, 0, 0, 1, 0, 0, 1, 0, 0, 1, 0, 1, 1, 1]
def f23_4  (x0 x1 x2 y3 y4 y5 w6 y7 y8 y9 y10 y11 y12 y13 y14 : TV) : Prg TV :=
  Prg.ite (asBool x2) (
    Prg.nat (slLen w6) fun n35 =>
    Prg.nat (asNat y12) fun n36 =>
    Prg.chk (Bool.and (slSize w6 1) (Nat.blt n36 n35)) (
    Prg.tvs (pel w6 n36) fun e37 =>
    Prg.chk (fitsAt z4 e37 0) (
    Prg.tv (setC [] w6 n36 0 [TV.lit (Value.bool true)]) fun v38 =>
    Prg.jmp [1, 1, 0, 0, 1, 0, 0, 1, 0, 0, 1, 0, 0, 1, 0, 1, 1, 1] (f23_5_S x0 x1 y3 y4 y5 v38 y7 y8 y9 y10 y11 y12 y13 y14)))) (
    Prg.jmp [1, 1, 0, 0, 1, 0, 0, 1, 0, 0, 1, 0, 0, 1, 0, 1, 1, 1] (f23_5_S x0 x1 y3 y4 y5 w6 y7 y8 y9 y10 y11 y12 y13 y14))
-- [1, 1, 0, 0, 1, 0, 0, 1, 0, 0, 1, 0, 0, 1, 0, 1, 1, 1]
def f23_5  (x0 x1 y2 y3 y4 w5 y6 y7 y8 y9 y10 y11 y12 y13 : TV) : Prg TV :=
  Prg.nat (slLen w5) fun n39 =>
  Prg.nat (asNat x1) fun n40 =>
  Prg.chk (Bool.and (slSize w5 1) (Nat.blt n40 n39)) (
  Prg.tvs (pel w5 n40) fun e41 =>
  Prg.chk (fitsAt z4 e41 0) (
  Prg.ite (asBool (nth TV.hole e41 0)) (
    Prg.tv (pbin (Kd.int IntKind.i64) BinOp.eql y6 (TV.lit (Value.int IntKind.i64 (3 : Int)))) fun v42 =>
    Prg.ite (asBool v42) (
      Prg.tv (plen (Kd.slice 4) w5) fun v43 =>
      Prg.call 35 [y12, v43] fun v44 =>
      Prg.chk (fitsAt z4 [v44] 0) (
      Prg.ite (asBool v44) (
        Prg.nat (slLen w5) fun n45 =>
        Prg.nat (asNat y12) fun n46 =>
        Prg.chk (Bool.and (slSize w5 1) (Nat.blt n46 n45)) (
        Prg.tvs (pel w5 n46) fun e47 =>
        Prg.chk (fitsAt z4 e47 0) (
        Prg.tv (setC [] w5 n46 0 [TV.lit (Value.bool true)]) fun v48 =>
        Prg.tv (pbin (Kd.int IntKind.i64) BinOp.add x1 (TV.lit (Value.int IntKind.i64 (1 : Int)))) fun v49 =>
        Prg.jmp [0, 0, 1, 0, 0, 1, 0, 0, 1, 0, 1, 1, 1] (f23_3_S x0 v49 y2 y3 y4 v48)))) (
        Prg.tv (pbin (Kd.int IntKind.i64) BinOp.add x1 (TV.lit (Value.int IntKind.i64 (1 : Int)))) fun v50 =>
        Prg.jmp [0, 0, 1, 0, 0, 1, 0, 0, 1, 0, 1, 1, 1] (f23_3_S x0 v50 y2 y3 y4 w5)))) (
      Prg.tv (pbin (Kd.int IntKind.i64) BinOp.add x1 (TV.lit (Value.int IntKind.i64 (1 : Int)))) fun v51 =>
      Prg.jmp [0, 0, 1, 0, 0, 1, 0, 0, 1, 0, 1, 1, 1] (f23_3_S x0 v51 y2 y3 y4 w5))) (
    Prg.tv (pbin (Kd.int IntKind.i64) BinOp.add x1 (TV.lit (Value.int IntKind.i64 (1 : Int)))) fun v52 =>
    Prg.jmp [0, 0, 1, 0, 0, 1, 0, 0, 1, 0, 1, 1, 1] (f23_3_S x0 v52 y2 y3 y4 w5))))
theorem f23_MR (x0 : TV) : startQ prog 23 [x0] = f23_M x0 := by kernel_rfl
theorem f23_0_R  (x0 y1 y2 y3 w4 : TV) : pieceQ prog 23 [0, 0, 1, 0, 1, 1] (f23_0_S x0 y1 y2 y3 w4) = f23_0 x0 y1 y2 y3 w4 := by kernel_rfl
theorem f23_1_R  (y0 y1 y2 w3 : TV) : pieceQ prog 23 [1, 1, 1] (f23_1_S y0 y1 y2 w3) = f23_1 y0 y1 y2 w3 := by kernel_rfl
theorem f23_2_R  (x0 y1 y2 y3 w4 : TV) : pieceQ prog 23 [0, 0, 1, 0, 1, 1, 1] (f23_2_S x0 y1 y2 y3 w4) = f23_2 x0 y1 y2 y3 w4 := by kernel_rfl
theorem f23_3_R  (x0 x1 y2 y3 y4 w5 : TV) : pieceQ prog 23 [0, 0, 1, 0, 0, 1, 0, 0, 1, 0, 1, 1, 1] (f23_3_S x0 x1 y2 y3 y4 w5) = f23_3 x0 x1 y2 y3 y4 w5 := by kernel_rfl
theorem f23_4_R  (x0 x1 x2 y3 y4 y5 w6 y7 y8 y9 y10 y11 y12 y13 y14 : TV) : pieceQ prog 23 [1, 0, 1, 0, 0, 1, 0, 0, 1, 0, 0, 1, 0, 0, 1, 0, 1, 1, 1] (f23_4_S x0 x1 x2 y3 y4 y5 w6 y7 y8 y9 y10 y11 y12 y13 y14) = f23_4 x0 x1 x2 y3 y4 y5 w6 y7 y8 y9 y10 y11 y12 y13 y14 := by kernel_rfl
theorem f23_5_R  (x0 x1 y2 y3 y4 w5 y6 y7 y8 y9 y10 y11 y12 y13 : TV) : pieceQ prog 23 [1, 1, 0, 0, 1, 0, 0, 1, 0, 0, 1, 0, 0, 1, 0, 1, 1, 1] (f23_5_S x0 x1 y2 y3 y4 w5 y6 y7 y8 y9 y10 y11 y12 y13) = f23_5 x0 x1 y2 y3 y4 w5 y6 y7 y8 y9 y10 y11 y12 y13 := by kernel_rfl

end Go.Ab.S2

import Derived.Test.YteppgaecdkkkeaaG5T
import Derived.Test.YteppgaecdkkkeaaF0
set_option linter.unusedVariables false
set_option maxRecDepth 100000
namespace Go.Ab.G5
open Go Go.Ab Go.Proofs
def f3_M (x0 x1 x2 x3 x4 x5 : TV) : Prg TV :=
  Prg.chk (TV.isAgg x0 1) (
  Prg.chk (TV.isAgg x1 5) (
  Prg.call 7 [] fun v0 =>
  Prg.chk (fitsAt zBool [v0] 0) (
  Prg.tv (pun UnOp.not v0) fun v1 =>
  Prg.ite (asBool v1) (
    Prg.ret (TV.lit (Value.bool false))) (
    Prg.call 8 [TV.agg [TV.cell x0 0]] fun v2 =>
    Prg.chk (fitsAt zBool [v2] 0) (
    Prg.tv (pun UnOp.not v2) fun v3 =>
    Prg.ite (asBool v3) (
      Prg.ret (TV.lit (Value.bool true))) (
      Prg.tv (plen (Kd.slice 26) (TV.cell x1 3)) fun v4 =>
      Prg.tv (pbin (Kd.int IntKind.i64) BinOp.gtr v4 (TV.lit (Value.int IntKind.i64 (300 : Int)))) fun v5 =>
      Prg.ite (asBool v5) (
        Prg.ret (TV.lit (Value.bool true))) (
        Prg.tv (plen (Kd.slice 26) x3) fun v6 =>
        Prg.tv (pbin (Kd.int IntKind.i64) BinOp.gtr v6 (TV.lit (Value.int IntKind.i64 (20 : Int)))) fun v7 =>
        Prg.ite (asBool v7) (
          Prg.ret (TV.lit (Value.bool true))) (
          Prg.call 9 [TV.agg [TV.cell x0 0], x2, x3] fun v8 =>
          Prg.chk (TV.isTup v8 2) (
          Prg.chk (Bool.and (TV.isAgg (TV.comp v8 0) 5) (fitsAt z27 (TV.cellsL true (TV.comp v8 0)) 0)) (
          Prg.chk (fitsAt zInt [TV.comp v8 1] 0) (
          Prg.call 10 [TV.agg [TV.cell x0 0], TV.agg [TV.cell x1 0, TV.cell x1 1, TV.cell x1 2, TV.cell x1 3, TV.cell x1 4], x4, x5] fun v9 =>
          Prg.chk (TV.isTup v9 2) (
          Prg.chk (Bool.and (TV.isAgg (TV.comp v9 0) 5) (fitsAt z27 (TV.cellsL true (TV.comp v9 0)) 0)) (
          Prg.chk (fitsAt zInt [TV.comp v9 1] 0) (
          Prg.call 11 [TV.agg [TV.cell x0 0]] fun v10 =>
          Prg.chk (fitsAt zBool [v10] 0) (
          Prg.tv (pun UnOp.not v10) fun v11 =>
          Prg.ite (asBool v11) (
            Prg.tv (pbin (Kd.int IntKind.i64) BinOp.eql (TV.comp v8 1) (TV.lit (Value.int IntKind.i64 (1 : Int)))) fun v12 =>
            Prg.ite (asBool v12) (
              Prg.call 12 [TV.agg [TV.cell (TV.comp v8 0) 0, TV.cell (TV.comp v8 0) 1, TV.cell (TV.comp v8 0) 2, frz (TV.cell (TV.comp v8 0) 3), TV.cell (TV.comp v8 0) 4], TV.agg [TV.lit (Value.int IntKind.i64 (0 : Int)), TV.lit (Value.int IntKind.i64 (0 : Int)), TV.lit (Value.int IntKind.i64 (0 : Int)), TV.lit (Value.slice Option.none 0 0), TV.lit (Value.int IntKind.u16 (0 : Int))]] fun v13 =>
              Prg.chk (fitsAt zBool [v13] 0) (
              Prg.ite (asBool v13) (
                Prg.tv (pbin (Kd.int IntKind.i64) BinOp.eql (TV.comp v9 1) (TV.lit (Value.int IntKind.i64 (1 : Int)))) fun v14 =>
                Prg.ite (asBool v14) (
                  Prg.call 12 [TV.agg [TV.cell (TV.comp v9 0) 0, TV.cell (TV.comp v9 0) 1, TV.cell (TV.comp v9 0) 2, frz (TV.cell (TV.comp v9 0) 3), TV.cell (TV.comp v9 0) 4], TV.agg [TV.cell x1 0, TV.cell x1 1, TV.cell x1 2, TV.cell x1 3, TV.cell x1 4]] fun v15 =>
                  Prg.chk (fitsAt zBool [v15] 0) (
                  Prg.ite (asBool v15) (
                    Prg.call 13 [TV.agg [TV.cell x0 0], TV.agg [TV.cell x1 0, TV.cell x1 1, TV.cell x1 2, TV.cell x1 3, TV.cell x1 4]] fun v16 =>
                    Prg.chk (fitsAt zBool [v16] 0) (
                    Prg.tv (pun UnOp.not v16) fun v17 =>
                    Prg.ret v17)) (
                    Prg.ret (TV.lit (Value.bool false))))) (
                  Prg.ret (TV.lit (Value.bool false)))) (
                Prg.ret (TV.lit (Value.bool false))))) (
              Prg.ret (TV.lit (Value.bool false)))) (
            Prg.call 14 [TV.agg [TV.cell x0 0], x2, x3] fun v18 =>
            Prg.chk (TV.isTup v18 2) (
            Prg.chk (Bool.and (TV.isAgg (TV.comp v18 0) 5) (fitsAt z27 (TV.cellsL true (TV.comp v18 0)) 0)) (
            Prg.chk (fitsAt zInt [TV.comp v18 1] 0) (
            Prg.call 12 [TV.agg [TV.cell (TV.comp v8 0) 0, TV.cell (TV.comp v8 0) 1, TV.cell (TV.comp v8 0) 2, frz (TV.cell (TV.comp v8 0) 3), TV.cell (TV.comp v8 0) 4], TV.agg [TV.cell (TV.comp v18 0) 0, TV.cell (TV.comp v18 0) 1, TV.cell (TV.comp v18 0) 2, frz (TV.cell (TV.comp v18 0) 3), TV.cell (TV.comp v18 0) 4]] fun v19 =>
            Prg.chk (fitsAt zBool [v19] 0) (
            Prg.tv (pun UnOp.not v19) fun v20 =>
            Prg.ite (asBool v20) (
              Prg.ret (TV.lit (Value.bool false))) (
              Prg.tv (pbin (Kd.int IntKind.i64) BinOp.neq (TV.comp v8 1) (TV.comp v18 1)) fun v21 =>
              Prg.ite (asBool v21) (
                Prg.ret (TV.lit (Value.bool false))) (
                Prg.call 13 [TV.agg [TV.cell x0 0], TV.agg [TV.cell x1 0, TV.cell x1 1, TV.cell x1 2, TV.cell x1 3, TV.cell x1 4]] fun v22 =>
                Prg.chk (fitsAt zBool [v22] 0) (
                Prg.call 15 [TV.agg [TV.cell x0 0], TV.agg [TV.cell x1 0, TV.cell x1 1, TV.cell x1 2, TV.cell x1 3, TV.cell x1 4]] fun v23 =>
                Prg.chk (fitsAt zBool [v23] 0) (
                Prg.tv (pbin Kd.bool BinOp.neq v22 v23) fun v24 =>
                Prg.ite (asBool v24) (
                  Prg.ret (TV.lit (Value.bool false))) (
                  Prg.call 15 [TV.agg [TV.cell x0 0], TV.agg [TV.cell x1 0, TV.cell x1 1, TV.cell x1 2, TV.cell x1 3, TV.cell x1 4]] fun v25 =>
                  Prg.chk (fitsAt zBool [v25] 0) (
                  Prg.tv (pun UnOp.not v25) fun v26 =>
                  Prg.ite (asBool v26) (
                    Prg.tv (pbin (Kd.int IntKind.i64) BinOp.eql (TV.comp v9 1) (TV.lit (Value.int IntKind.i64 (1 : Int)))) fun v27 =>
                    Prg.ite (asBool v27) (
                      Prg.call 12 [TV.agg [TV.cell (TV.comp v9 0) 0, TV.cell (TV.comp v9 0) 1, TV.cell (TV.comp v9 0) 2, frz (TV.cell (TV.comp v9 0) 3), TV.cell (TV.comp v9 0) 4], TV.agg [TV.cell x1 0, TV.cell x1 1, TV.cell x1 2, TV.cell x1 3, TV.cell x1 4]] fun v28 =>
                      Prg.chk (fitsAt zBool [v28] 0) (
                      Prg.ret v28)) (
                      Prg.ret (TV.lit (Value.bool false)))) (
                    Prg.call 16 [TV.agg [TV.cell x0 0], TV.agg [TV.cell x1 0, TV.cell x1 1, TV.cell x1 2, TV.cell x1 3, TV.cell x1 4], x4, x5] fun v29 =>
                    Prg.chk (TV.isTup v29 2) (
                    Prg.chk (Bool.and (TV.isAgg (TV.comp v29 0) 5) (fitsAt z27 (TV.cellsL true (TV.comp v29 0)) 0)) (
                    Prg.chk (fitsAt zInt [TV.comp v29 1] 0) (
                    Prg.call 12 [TV.agg [TV.cell (TV.comp v9 0) 0, TV.cell (TV.comp v9 0) 1, TV.cell (TV.comp v9 0) 2, frz (TV.cell (TV.comp v9 0) 3), TV.cell (TV.comp v9 0) 4], TV.agg [TV.cell (TV.comp v29 0) 0, TV.cell (TV.comp v29 0) 1, TV.cell (TV.comp v29 0) 2, frz (TV.cell (TV.comp v29 0) 3), TV.cell (TV.comp v29 0) 4]] fun v30 =>
                    Prg.chk (fitsAt zBool [v30] 0) (
                    Prg.ite (asBool v30) (
                      Prg.tv (pbin (Kd.int IntKind.i64) BinOp.eql (TV.comp v9 1) (TV.comp v29 1)) fun v31 =>
                      Prg.ite (asBool v31) (
                        Prg.call 13 [TV.agg [TV.cell x0 0], TV.agg [TV.cell (TV.comp v9 0) 0, TV.cell (TV.comp v9 0) 1, TV.cell (TV.comp v9 0) 2, frz (TV.cell (TV.comp v9 0) 3), TV.cell (TV.comp v9 0) 4]] fun v32 =>
                        Prg.chk (fitsAt zBool [v32] 0) (
                        Prg.ret v32)) (
                        Prg.ret (TV.lit (Value.bool false)))) (
                      Prg.ret (TV.lit (Value.bool false))))))))))))))))))))))))))))))))))
theorem f3_MR (x0 x1 x2 x3 x4 x5 : TV) : startQ prog 3 [x0, x1, x2, x3, x4, x5] = f3_M x0 x1 x2 x3 x4 x5 := by kernel_rfl

theorem f3_run {x0 x1 x2 x3 x4 x5 : TV} {r : TV} (h : Goes prog 3 (f3_M x0 x1 x2 x3 x4 x5) r) : Runs prog 3 [x0, x1, x2, x3, x4, x5] r := Runs.of (f3_MR x0 x1 x2 x3 x4 x5) h
def f4_M (x0 x1 x2 x3 x4 : TV) : Prg TV :=
  Prg.chk (TV.isAgg x0 5) (
  Prg.chk (TV.isAgg x1 7) (
  Prg.chk (TV.isAgg x2 4) (
  Prg.call 7 [] fun v0 =>
  Prg.chk (fitsAt zBool [v0] 0) (
  Prg.tv (pun UnOp.not v0) fun v1 =>
  Prg.ite (asBool v1) (
    Prg.ret (TV.lit (Value.bool false))) (
    Prg.tv (plen (Kd.slice 26) (TV.cell x0 3)) fun v2 =>
    Prg.tv (pbin (Kd.int IntKind.i64) BinOp.gtr v2 (TV.lit (Value.int IntKind.i64 (300 : Int)))) fun v3 =>
    Prg.ite (asBool v3) (
      Prg.ret (TV.lit (Value.bool true))) (
      Prg.tv (plen (Kd.slice 26) (TV.cell x2 1)) fun v4 =>
      Prg.tv (pbin (Kd.int IntKind.i64) BinOp.gtr v4 (TV.lit (Value.int IntKind.i64 (20 : Int)))) fun v5 =>
      Prg.ite (asBool v5) (
        Prg.ret (TV.lit (Value.bool true))) (
        Prg.rws (pelems 1 (TV.cell x0 3)) fun r6 =>
        Prg.tv (papp 1 (TV.sl true 1 (chunks 1 0 [])) r6) fun v7 =>
        Prg.call 17 [TV.agg [TV.cell x0 0, TV.cell x0 1, TV.cell x0 2, frz v7, TV.cell x0 4], TV.agg [TV.cell x1 0, TV.cell x1 1, TV.cell x1 2, TV.cell x1 3, TV.cell x1 4, TV.cell x1 5, TV.cell x1 6]] fun v8 =>
        Prg.chk (TV.isTup v8 2) (
        Prg.chk (Bool.and (TV.isAgg (TV.comp v8 0) 5) (fitsAt z27 (TV.cellsL true (TV.comp v8 0)) 0)) (
        Prg.chk (fitsAt zBool [TV.comp v8 1] 0) (
        Prg.call 18 [TV.agg [TV.cell x0 0, TV.cell x0 1, TV.cell x0 2, TV.cell x0 3, TV.cell x0 4], TV.agg [TV.cell x1 0, TV.cell x1 1, TV.cell x1 2, TV.cell x1 3, TV.cell x1 4, TV.cell x1 5, TV.cell x1 6]] fun v9 =>
        Prg.chk (TV.isTup v9 2) (
        Prg.chk (Bool.and (TV.isAgg (TV.comp v9 0) 5) (fitsAt z27 (TV.cellsL true (TV.comp v9 0)) 0)) (
        Prg.chk (fitsAt zBool [TV.comp v9 1] 0) (
        Prg.chk (TV.isOne x4) (
        Prg.call 12 [TV.agg [TV.cell (TV.comp v8 0) 0, TV.cell (TV.comp v8 0) 1, TV.cell (TV.comp v8 0) 2, frz (TV.cell (TV.comp v8 0) 3), TV.cell (TV.comp v8 0) 4], TV.agg [TV.cell (TV.comp v9 0) 0, TV.cell (TV.comp v9 0) 1, TV.cell (TV.comp v9 0) 2, frz (TV.cell (TV.comp v9 0) 3), TV.cell (TV.comp v9 0) 4]] fun v10 =>
        Prg.chk (fitsAt zBool [v10] 0) (
        Prg.ite (asBool v10) (
          Prg.tv (pbin Kd.bool BinOp.eql (TV.comp v8 1) (TV.comp v9 1)) fun v11 =>
          Prg.ite (asBool v11) (
            Prg.call 19 [TV.agg [TV.cell x2 0, TV.cell x2 1, TV.cell x2 2, TV.cell x2 3], x3] fun v12 =>
            Prg.chk (fitsAt zBool [v12] 0) (
            Prg.call 20 [TV.agg [TV.cell x2 0, TV.cell x2 1, TV.cell x2 2, TV.cell x2 3], x3] fun v13 =>
            Prg.chk (fitsAt zBool [v13] 0) (
            Prg.tv (pbin Kd.bool BinOp.eql v12 v13) fun v14 =>
            Prg.ite (asBool v14) (
              Prg.call 21 [TV.agg [TV.cell x0 0, TV.cell x0 1, TV.cell x0 2, frz v7, TV.cell x0 4], x4] fun v15 =>
              Prg.chk (Bool.and (TV.isAgg v15 5) (fitsAt z27 (TV.cellsL true v15) 0)) (
              Prg.call 12 [TV.agg [TV.cell v15 0, TV.cell v15 1, TV.cell v15 2, frz (TV.cell v15 3), TV.cell v15 4], TV.agg [TV.cell x0 0, x4, TV.lit (Value.int IntKind.i64 (0 : Int)), TV.cell x0 3, TV.cell x0 4]] fun v16 =>
              Prg.chk (fitsAt zBool [v16] 0) (
              Prg.ite (asBool v16) (
                Prg.call 12 [TV.agg [TV.cell x0 0, TV.cell x0 1, TV.cell x0 2, frz v7, TV.cell x0 4], TV.agg [TV.cell x0 0, TV.cell x0 1, TV.cell x0 2, TV.cell x0 3, TV.cell x0 4]] fun v17 =>
                Prg.chk (fitsAt zBool [v17] 0) (
                Prg.ret v17)) (
                Prg.ret (TV.lit (Value.bool false)))))) (
              Prg.ret (TV.lit (Value.bool false)))))) (
            Prg.ret (TV.lit (Value.bool false)))) (
          Prg.ret (TV.lit (Value.bool false))))))))))))))))))
theorem f4_MR (x0 x1 x2 x3 x4 : TV) : startQ prog 4 [x0, x1, x2, x3, x4] = f4_M x0 x1 x2 x3 x4 := by kernel_rfl

theorem f4_run {x0 x1 x2 x3 x4 : TV} {r : TV} (h : Goes prog 4 (f4_M x0 x1 x2 x3 x4) r) : Runs prog 4 [x0, x1, x2, x3, x4] r := Runs.of (f4_MR x0 x1 x2 x3 x4) h
def f5_0_S  (x0 y1 y2 y3 y4 y5 y6 y7 y8 y9 y10 y11 y12 y13 y14 y15 y16 w17 w18 w19 w20 w21 w22 : TV) : ASt := ⟨[AV.one CA.junk, AV.one CA.junk, AV.one (CA.ptr 0 0), AV.one (CA.ptr 1 0), AV.one CA.junk, AV.one (CA.ptr 2 0), AV.one CA.junk, AV.tv x0] ++ List.replicate 136 (AV.one CA.junk), [Option.some (BC.cells [CA.t y1, CA.t y2, CA.t y3, CA.t y4, CA.t y5]), Option.some (BC.cells [CA.t y6, CA.t y7, CA.t y8, CA.t y9, CA.t y10, CA.t y11, CA.t y12]), Option.some (BC.cells [CA.t y13, CA.t y14, CA.t y15, CA.sref 3 3 [], CA.t y16]), Option.some (BC.tree [w17, w18, w19, w20, w21, w22])] ++ List.replicate 164 (Option.none), []⟩
def f5_1_S  (y0 y1 y2 y3 y4 y5 y6 y7 y8 y9 y10 w11 w12 w13 w14 w15 w16 : TV) : ASt := ⟨[AV.one CA.junk, AV.one CA.junk, AV.one CA.junk, AV.one (CA.ptr 0 0), AV.one CA.junk, AV.one (CA.ptr 1 0)] ++ List.replicate 138 (AV.one CA.junk), [Option.some (BC.cells [CA.t y0, CA.t y1, CA.t y2, CA.t y3, CA.t y4, CA.t y5, CA.t y6]), Option.some (BC.cells [CA.t y7, CA.t y8, CA.t y9, CA.sref 2 3 [], CA.t y10]), Option.some (BC.tree [w11, w12, w13, w14, w15, w16])] ++ List.replicate 165 (Option.none), []⟩
def f5_M (x0 x1 : TV) : Prg TV :=
  Prg.chk (TV.isAgg x0 5) (
  Prg.chk (TV.isAgg x1 7) (
  Prg.call 7 [] fun v0 =>
  Prg.chk (fitsAt zBool [v0] 0) (
  Prg.tv (pun UnOp.not v0) fun v1 =>
  Prg.ite (asBool v1) (
    Prg.ret (TV.lit (Value.bool false))) (
    Prg.tv (plen (Kd.slice 26) (TV.cell x0 3)) fun v2 =>
    Prg.tv (pbin (Kd.int IntKind.i64) BinOp.gtr v2 (TV.lit (Value.int IntKind.i64 (300 : Int)))) fun v3 =>
    Prg.ite (asBool v3) (
      Prg.ret (TV.lit (Value.bool true))) (
      Prg.tv (pbin (Kd.int IntKind.i64) BinOp.lss (TV.cell x0 2) (TV.lit (Value.int IntKind.i64 (0 : Int)))) fun v4 =>
      Prg.ite (asBool v4) (
        Prg.ret (TV.lit (Value.bool true))) (
        Prg.tv (pbin (Kd.int IntKind.i64) BinOp.gtr (TV.cell x0 2) (TV.lit (Value.int IntKind.i64 (1000 : Int)))) fun v5 =>
        Prg.ite (asBool v5) (
          Prg.ret (TV.lit (Value.bool true))) (
          Prg.call 17 [TV.agg [TV.cell x0 0, TV.cell x0 1, TV.cell x0 2, TV.cell x0 3, TV.cell x0 4], TV.agg [TV.cell x1 0, TV.cell x1 1, TV.cell x1 2, TV.cell x1 3, TV.cell x1 4, TV.cell x1 5, TV.cell x1 6]] fun v6 =>
          Prg.chk (TV.isTup v6 2) (
          Prg.chk (Bool.and (TV.isAgg (TV.comp v6 0) 5) (fitsAt z27 (TV.cellsL true (TV.comp v6 0)) 0)) (
          Prg.chk (fitsAt zBool [TV.comp v6 1] 0) (
          Prg.tv (pun UnOp.not (TV.comp v6 1)) fun v7 =>
          Prg.ite (asBool v7) (
            Prg.call 12 [TV.agg [TV.cell (TV.comp v6 0) 0, TV.cell (TV.comp v6 0) 1, TV.cell (TV.comp v6 0) 2, frz (TV.cell (TV.comp v6 0) 3), TV.cell (TV.comp v6 0) 4], TV.agg [TV.cell x0 0, TV.cell x0 1, TV.cell x0 2, TV.cell x0 3, TV.cell x0 4]] fun v8 =>
            Prg.chk (fitsAt zBool [v8] 0) (
            Prg.ret v8)) (
            Prg.tv (plen (Kd.slice 26) (TV.cell (TV.comp v6 0) 3)) fun v9 =>
            Prg.tv (plen (Kd.slice 26) (TV.cell x0 3)) fun v10 =>
            Prg.tv (pbin (Kd.int IntKind.i64) BinOp.neq v9 v10) fun v11 =>
            Prg.ite (asBool v11) (
              Prg.ret (TV.lit (Value.bool false))) (
              Prg.tv (pbin (Kd.int IntKind.i64) BinOp.add (TV.cell x0 2) (TV.lit (Value.int IntKind.i64 (1 : Int)))) fun v12 =>
              Prg.tv (pbin (Kd.int IntKind.i64) BinOp.neq (TV.cell (TV.comp v6 0) 2) v12) fun v13 =>
              Prg.ite (asBool v13) (
                Prg.ret (TV.lit (Value.bool false))) (
                Prg.tv (pbin (Kd.int IntKind.i64) BinOp.neq (TV.cell (TV.comp v6 0) 1) (TV.cell x0 1)) fun v14 =>
                Prg.ite (asBool v14) (
                  Prg.ret (TV.lit (Value.bool false))) (
                  Prg.tv (pbin (Kd.int IntKind.i64) BinOp.neq (TV.cell (TV.comp v6 0) 0) (TV.cell x0 0)) fun v15 =>
                  Prg.ite (asBool v15) (
                    Prg.ret (TV.lit (Value.bool false))) (
                    Prg.tv (pbin (Kd.int IntKind.u16) BinOp.neq (TV.cell (TV.comp v6 0) 4) (TV.cell x0 4)) fun v16 =>
                    Prg.ite (asBool v16) (
                      Prg.ret (TV.lit (Value.bool false))) (
                      Prg.tv (pbin (Kd.int IntKind.i64) BinOp.lss (TV.cell x1 1) (TV.lit (Value.int IntKind.i64 (0 : Int)))) fun v17 =>
                      Prg.ite (asBool v17) (
                        Prg.ret (TV.lit (Value.bool false))) (
                        Prg.tv (plen (Kd.slice 26) (TV.cell x0 3)) fun v18 =>
                        Prg.tv (pbin (Kd.int IntKind.i64) BinOp.geq (TV.cell x1 1) v18) fun v19 =>
                        Prg.ite (asBool v19) (
                          Prg.ret (TV.lit (Value.bool false))) (
                          Prg.jmp [0, 0, 1, 0, 1, 1, 1, 1, 1, 1] (f5_0_S (TV.lit (Value.int IntKind.i64 (0 : Int))) (TV.cell x0 0) (TV.cell x0 1) (TV.cell x0 2) (TV.cell x0 3) (TV.cell x0 4) (TV.cell x1 0) (TV.cell x1 1) (TV.cell x1 2) (TV.cell x1 3) (TV.cell x1 4) (TV.cell x1 5) (TV.cell x1 6) (TV.cell (TV.comp v6 0) 0) (TV.cell (TV.comp v6 0) 1) (TV.cell (TV.comp v6 0) 2) (TV.cell (TV.comp v6 0) 4) TV.hole TV.hole TV.hole (TV.cell (TV.comp v6 0) 3) TV.hole TV.hole)))))))))))))))))))
-- [0, 0, 1, 0, 1, 1, 1, 1, 1, 1]
def f5_0  (x0 y1 y2 y3 y4 y5 y6 y7 y8 y9 y10 y11 y12 y13 y14 y15 y16 w17 w18 w19 w20 w21 w22 : TV) : Prg TV :=
  Prg.tv (plen (Kd.slice 26) y4) fun v20 =>
  Prg.tv (pbin (Kd.int IntKind.i64) BinOp.lss x0 v20) fun v21 =>
  Prg.ite (asBool v21) (
    Prg.tv (pbin (Kd.int IntKind.i64) BinOp.neq x0 y7) fun v22 =>
    Prg.ite (asBool v22) (
      Prg.nat (slLen w20) fun n23 =>
      Prg.nat (asNat x0) fun n24 =>
      Prg.chk (Bool.and (slSize w20 1) (Nat.blt n24 n23)) (
      Prg.tvs (pel w20 n24) fun e25 =>
      Prg.chk (fitsAt zWord e25 0) (
      Prg.tvs (pidx 1 y4 x0) fun e26 =>
      Prg.chk (Nat.blt 0 (List.length e26)) (
      Prg.tv (pbin (Kd.int IntKind.u16) BinOp.neq (nth TV.hole e25 0) (nth TV.hole e26 0)) fun v27 =>
      Prg.ite (asBool v27) (
        Prg.ret (TV.lit (Value.bool false))) (
        Prg.tv (pbin (Kd.int IntKind.i64) BinOp.add x0 (TV.lit (Value.int IntKind.i64 (1 : Int)))) fun v28 =>
        Prg.jmp [0, 0, 1, 0, 1, 1, 1, 1, 1, 1] (f5_0_S v28 y1 y2 y3 y4 y5 y6 y7 y8 y9 y10 y11 y12 y13 y14 y15 y16 w17 w18 w19 w20 w21 w22)))))) (
      Prg.tv (pbin (Kd.int IntKind.i64) BinOp.add x0 (TV.lit (Value.int IntKind.i64 (1 : Int)))) fun v29 =>
      Prg.jmp [0, 0, 1, 0, 1, 1, 1, 1, 1, 1] (f5_0_S v29 y1 y2 y3 y4 y5 y6 y7 y8 y9 y10 y11 y12 y13 y14 y15 y16 w17 w18 w19 w20 w21 w22))) (
    Prg.jmp [1, 1, 1, 1, 1, 1, 1] (f5_1_S y6 y7 y8 y9 y10 y11 y12 y13 y14 y15 y16 w17 w18 w19 w20 w21 w22))
-- [1, 1, 1, 1, 1, 1, 1]
def f5_1  (y0 y1 y2 y3 y4 y5 y6 y7 y8 y9 y10 w11 w12 w13 w14 w15 w16 : TV) : Prg TV :=
  Prg.tv (pbin (Kd.int IntKind.i64) BinOp.eql y2 y1) fun v30 =>
  Prg.ite (asBool v30) (
    Prg.ret (TV.lit (Value.bool true))) (
    Prg.tv (pbin (Kd.int IntKind.i64) BinOp.eql y3 y1) fun v31 =>
    Prg.ite (asBool v31) (
      Prg.ret (TV.lit (Value.bool true))) (
      Prg.call 17 [TV.agg [y7, y8, y9, frz w14, y10], TV.agg [y0, y1, y2, y3, y4, y5, y6]] fun v32 =>
      Prg.chk (TV.isTup v32 2) (
      Prg.chk (Bool.and (TV.isAgg (TV.comp v32 0) 5) (fitsAt z27 (TV.cellsL true (TV.comp v32 0)) 0)) (
      Prg.chk (fitsAt zBool [TV.comp v32 1] 0) (
      Prg.ite (asBool (TV.comp v32 1)) (
        Prg.nat (slLen (TV.cell (TV.comp v32 0) 3)) fun n33 =>
        Prg.nat (asNat y1) fun n34 =>
        Prg.chk (Bool.and (slSize (TV.cell (TV.comp v32 0) 3) 1) (Nat.blt n34 n33)) (
        Prg.tvs (pel (TV.cell (TV.comp v32 0) 3) n34) fun e35 =>
        Prg.chk (fitsAt zWord e35 0) (
        Prg.nat (slLen w14) fun n36 =>
        Prg.nat (asNat y1) fun n37 =>
        Prg.chk (Bool.and (slSize w14 1) (Nat.blt n37 n36)) (
        Prg.tvs (pel w14 n37) fun e38 =>
        Prg.chk (fitsAt zWord e38 0) (
        Prg.tv (pbin (Kd.int IntKind.u16) BinOp.eql (nth TV.hole e35 0) (nth TV.hole e38 0)) fun v39 =>
        Prg.ret v39))))) (
        Prg.ret (TV.lit (Value.bool false))))))))
theorem f5_MR (x0 x1 : TV) : startQ prog 5 [x0, x1] = f5_M x0 x1 := by kernel_rfl
theorem f5_0_R  (x0 y1 y2 y3 y4 y5 y6 y7 y8 y9 y10 y11 y12 y13 y14 y15 y16 w17 w18 w19 w20 w21 w22 : TV) : pieceQ prog 5 [0, 0, 1, 0, 1, 1, 1, 1, 1, 1] (f5_0_S x0 y1 y2 y3 y4 y5 y6 y7 y8 y9 y10 y11 y12 y13 y14 y15 y16 w17 w18 w19 w20 w21 w22) = f5_0 x0 y1 y2 y3 y4 y5 y6 y7 y8 y9 y10 y11 y12 y13 y14 y15 y16 w17 w18 w19 w20 w21 w22 := by kernel_rfl
theorem f5_1_R  (y0 y1 y2 y3 y4 y5 y6 y7 y8 y9 y10 w11 w12 w13 w14 w15 w16 : TV) : pieceQ prog 5 [1, 1, 1, 1, 1, 1, 1] (f5_1_S y0 y1 y2 y3 y4 y5 y6 y7 y8 y9 y10 w11 w12 w13 w14 w15 w16) = f5_1 y0 y1 y2 y3 y4 y5 y6 y7 y8 y9 y10 w11 w12 w13 w14 w15 w16 := by kernel_rfl

theorem f5_run {x0 x1 : TV} {r : TV} (h : Goes prog 5 (f5_M x0 x1) r) : Runs prog 5 [x0, x1] r := Runs.of (f5_MR x0 x1) h
theorem f5_0_J  {x0 y1 y2 y3 y4 y5 y6 y7 y8 y9 y10 y11 y12 y13 y14 y15 y16 w17 w18 w19 w20 w21 w22 : TV} {r : TV} (h : Goes prog 5 (f5_0 x0 y1 y2 y3 y4 y5 y6 y7 y8 y9 y10 y11 y12 y13 y14 y15 y16 w17 w18 w19 w20 w21 w22) r) : Goes prog 5 (.jmp [0, 0, 1, 0, 1, 1, 1, 1, 1, 1] (f5_0_S x0 y1 y2 y3 y4 y5 y6 y7 y8 y9 y10 y11 y12 y13 y14 y15 y16 w17 w18 w19 w20 w21 w22)) r := Goes.jmp (f5_0_R x0 y1 y2 y3 y4 y5 y6 y7 y8 y9 y10 y11 y12 y13 y14 y15 y16 w17 w18 w19 w20 w21 w22) h
theorem f5_1_J  {y0 y1 y2 y3 y4 y5 y6 y7 y8 y9 y10 w11 w12 w13 w14 w15 w16 : TV} {r : TV} (h : Goes prog 5 (f5_1 y0 y1 y2 y3 y4 y5 y6 y7 y8 y9 y10 w11 w12 w13 w14 w15 w16) r) : Goes prog 5 (.jmp [1, 1, 1, 1, 1, 1, 1] (f5_1_S y0 y1 y2 y3 y4 y5 y6 y7 y8 y9 y10 w11 w12 w13 w14 w15 w16)) r := Goes.jmp (f5_1_R y0 y1 y2 y3 y4 y5 y6 y7 y8 y9 y10 w11 w12 w13 w14 w15 w16) h
def f6_0_S  (x0 x1 x2 y3 y4 y5 y6 y7 y8 y9 y10 y11 y12 y13 y14 y15 w16 w17 w18 w19 w20 w21 : TV) : ASt := ⟨[AV.one CA.junk, AV.one CA.junk, AV.one CA.junk, AV.tv x0, AV.one (CA.ptr 0 0), AV.one (CA.ptr 1 0), AV.one CA.junk, AV.one CA.junk, AV.one CA.junk, AV.one (CA.ptr 2 0), AV.tv x1, AV.one (CA.ptr 3 0), AV.one CA.junk, AV.tv x2] ++ List.replicate 119 (AV.one CA.junk), [Option.some (BC.cells [CA.t y3]), Option.some (BC.cells [CA.t y4, CA.t y5, CA.t y6, CA.t y7, CA.t y8]), Option.some (BC.cells [CA.t y9, CA.t y10, CA.t y11]), Option.some (BC.cells [CA.t y12, CA.t y13, CA.t y14, CA.sref 4 3 [], CA.t y15]), Option.some (BC.tree [w16, w17, w18, w19, w20, w21])] ++ List.replicate 152 (Option.none), []⟩
def f6_1_S  (x0 x1 x2 x3 y4 y5 y6 y7 y8 y9 y10 y11 y12 y13 y14 y15 y16 w17 w18 w19 w20 w21 w22 : TV) : ASt := ⟨[AV.one CA.junk, AV.one CA.junk, AV.one CA.junk, AV.tv x0, AV.one (CA.ptr 0 0), AV.one (CA.ptr 1 0), AV.one CA.junk, AV.one CA.junk, AV.one CA.junk, AV.one (CA.ptr 2 0), AV.tv x1, AV.one (CA.ptr 3 0), AV.one CA.junk, AV.tv x2, AV.tv x3] ++ List.replicate 118 (AV.one CA.junk), [Option.some (BC.cells [CA.t y4]), Option.some (BC.cells [CA.t y5, CA.t y6, CA.t y7, CA.t y8, CA.t y9]), Option.some (BC.cells [CA.t y10, CA.t y11, CA.t y12]), Option.some (BC.cells [CA.t y13, CA.t y14, CA.t y15, CA.sref 4 3 [], CA.t y16]), Option.some (BC.tree [w17, w18, w19, w20, w21, w22])] ++ List.replicate 152 (Option.none), []⟩
def f6_2_S  (y0 y1 y2 y3 y4 w5 w6 w7 w8 w9 w10 : TV) : ASt := ⟨List.replicate 4 (AV.one CA.junk) ++ [AV.one (CA.ptr 0 0)] ++ List.replicate 6 (AV.one CA.junk) ++ [AV.one (CA.ptr 1 0)] ++ List.replicate 121 (AV.one CA.junk), [Option.some (BC.cells [CA.t y0]), Option.some (BC.cells [CA.t y1, CA.t y2, CA.t y3, CA.sref 2 3 [], CA.t y4]), Option.some (BC.tree [w5, w6, w7, w8, w9, w10])] ++ List.replicate 154 (Option.none), []⟩
def f6_M (x0 x1 x2 x3 : TV) : Prg TV :=
  Prg.chk (TV.isAgg x0 1) (
  Prg.chk (TV.isAgg x1 5) (
  Prg.call 7 [] fun v0 =>
  Prg.chk (fitsAt zBool [v0] 0) (
  Prg.tv (pun UnOp.not v0) fun v1 =>
  Prg.ite (asBool v1) (
    Prg.ret (TV.lit (Value.bool false))) (
    Prg.call 8 [TV.agg [TV.cell x0 0]] fun v2 =>
    Prg.chk (fitsAt zBool [v2] 0) (
    Prg.tv (pun UnOp.not v2) fun v3 =>
    Prg.ite (asBool v3) (
      Prg.ret (TV.lit (Value.bool true))) (
      Prg.tv (plen (Kd.slice 26) (TV.cell x1 3)) fun v4 =>
      Prg.tv (pbin (Kd.int IntKind.i64) BinOp.gtr v4 (TV.lit (Value.int IntKind.i64 (300 : Int)))) fun v5 =>
      Prg.ite (asBool v5) (
        Prg.ret (TV.lit (Value.bool true))) (
        Prg.call 13 [TV.agg [TV.cell x0 0], TV.agg [TV.cell x1 0, TV.cell x1 1, TV.cell x1 2, TV.cell x1 3, TV.cell x1 4]] fun v6 =>
        Prg.chk (fitsAt zBool [v6] 0) (
        Prg.tv (pun UnOp.not v6) fun v7 =>
        Prg.ite (asBool v7) (
          Prg.ret (TV.lit (Value.bool true))) (
          Prg.tvs (pidx 3 (TV.cell x0 0) (TV.cell x1 0)) fun e8 =>
          Prg.chk (Nat.ble 3 (List.length e8)) (
          Prg.tv (pconv (Kd.int IntKind.i64) x2) fun v9 =>
          Prg.tv (plen (Kd.slice 59) (nth TV.hole e8 2)) fun v10 =>
          Prg.tv (pbin (Kd.int IntKind.i64) BinOp.rem v9 v10) fun v11 =>
          Prg.call 10 [TV.agg [TV.cell x0 0], TV.agg [TV.cell x1 0, TV.cell x1 1, TV.cell x1 2, TV.cell x1 3, TV.cell x1 4], v11, x3] fun v12 =>
          Prg.chk (TV.isTup v12 2) (
          Prg.chk (Bool.and (TV.isAgg (TV.comp v12 0) 5) (fitsAt z27 (TV.cellsL true (TV.comp v12 0)) 0)) (
          Prg.chk (fitsAt zInt [TV.comp v12 1] 0) (
          Prg.tvs (pidx 14 (nth TV.hole e8 2) v11) fun e13 =>
          Prg.chk (Nat.blt 0 (List.length e13)) (
          Prg.tv (pun UnOp.not (nth TV.hole e13 0)) fun v14 =>
          Prg.ite (asBool v14) (
            Prg.tv (pbin (Kd.int IntKind.i64) BinOp.eql (TV.comp v12 1) (TV.lit (Value.int IntKind.i64 (1 : Int)))) fun v15 =>
            Prg.ite (asBool v15) (
              Prg.call 12 [TV.agg [TV.cell (TV.comp v12 0) 0, TV.cell (TV.comp v12 0) 1, TV.cell (TV.comp v12 0) 2, frz (TV.cell (TV.comp v12 0) 3), TV.cell (TV.comp v12 0) 4], TV.agg [TV.cell x1 0, TV.cell x1 1, TV.cell x1 2, TV.cell x1 3, TV.cell x1 4]] fun v16 =>
              Prg.chk (fitsAt zBool [v16] 0) (
              Prg.ret v16)) (
              Prg.ret (TV.lit (Value.bool false)))) (
            Prg.tv (pbin (Kd.int IntKind.i64) BinOp.neq (TV.comp v12 1) (TV.lit (Value.int IntKind.i64 (0 : Int)))) fun v17 =>
            Prg.ite (asBool v17) (
              Prg.ret (TV.lit (Value.bool false))) (
              Prg.tv (pbin (Kd.int IntKind.i64) BinOp.neq (TV.cell (TV.comp v12 0) 1) v11) fun v18 =>
              Prg.ite (asBool v18) (
                Prg.ret (TV.lit (Value.bool false))) (
                Prg.tv (pbin (Kd.int IntKind.i64) BinOp.neq (TV.cell (TV.comp v12 0) 2) (TV.lit (Value.int IntKind.i64 (0 : Int)))) fun v19 =>
                Prg.ite (asBool v19) (
                  Prg.ret (TV.lit (Value.bool false))) (
                  Prg.tv (pbin (Kd.int IntKind.u16) BinOp.neq (TV.cell (TV.comp v12 0) 4) x3) fun v20 =>
                  Prg.ite (asBool v20) (
                    Prg.ret (TV.lit (Value.bool false))) (
                    Prg.tv (pbin (Kd.int IntKind.i64) BinOp.neq (TV.cell (TV.comp v12 0) 0) (TV.cell x1 0)) fun v21 =>
                    Prg.ite (asBool v21) (
                      Prg.ret (TV.lit (Value.bool false))) (
                      Prg.tv (plen (Kd.slice 26) (TV.cell (TV.comp v12 0) 3)) fun v22 =>
                      Prg.tv (plen (Kd.slice 26) (TV.cell x1 3)) fun v23 =>
                      Prg.tv (pbin (Kd.int IntKind.i64) BinOp.neq v22 v23) fun v24 =>
                      Prg.ite (asBool v24) (
                        Prg.ret (TV.lit (Value.bool false))) (
                        Prg.jmp [0, 0, 1, 0, 1, 1, 1, 1, 1, 1, 1, 1] (f6_0_S x3 v11 (TV.lit (Value.int IntKind.i64 (0 : Int))) (TV.cell x0 0) (TV.cell x1 0) (TV.cell x1 1) (TV.cell x1 2) (TV.cell x1 3) (TV.cell x1 4) (nth TV.hole e8 0) (nth TV.hole e8 1) (nth TV.hole e8 2) (TV.cell (TV.comp v12 0) 0) (TV.cell (TV.comp v12 0) 1) (TV.cell (TV.comp v12 0) 2) (TV.cell (TV.comp v12 0) 4) TV.hole TV.hole TV.hole (TV.cell (TV.comp v12 0) 3) TV.hole TV.hole))))))))))))))))))))))
-- [0, 0, 1, 0, 1, 1, 1, 1, 1, 1, 1, 1]
def f6_0  (x0 x1 x2 y3 y4 y5 y6 y7 y8 y9 y10 y11 y12 y13 y14 y15 w16 w17 w18 w19 w20 w21 : TV) : Prg TV :=
  Prg.tv (plen (Kd.slice 26) w19) fun v25 =>
  Prg.tv (pbin (Kd.int IntKind.i64) BinOp.lss x2 v25) fun v26 =>
  Prg.ite (asBool v26) (
    Prg.tvs (pidx 1 y7 x2) fun e27 =>
    Prg.chk (Nat.blt 0 (List.length e27)) (
    Prg.tvs (pidx 14 y11 x1) fun e28 =>
    Prg.chk (Nat.blt 1 (List.length e28)) (
    Prg.tv (pbin (Kd.int IntKind.i64) BinOp.eql x2 (nth TV.hole e28 1)) fun v29 =>
    Prg.ite (asBool v29) (
      Prg.jmp [1, 1, 0, 0, 1, 0, 0, 1, 0, 1, 1, 1, 1, 1, 1, 1, 1] (f6_1_S x0 x1 x2 x0 y3 y4 y5 y6 y7 y8 y9 y10 y11 y12 y13 y14 y15 w16 w17 w18 w19 w20 w21)) (
      Prg.jmp [1, 1, 0, 0, 1, 0, 0, 1, 0, 1, 1, 1, 1, 1, 1, 1, 1] (f6_1_S x0 x1 x2 (nth TV.hole e27 0) y3 y4 y5 y6 y7 y8 y9 y10 y11 y12 y13 y14 y15 w16 w17 w18 w19 w20 w21))))) (
    Prg.jmp [1, 1, 1, 1, 1, 1, 1, 1, 1] (f6_2_S y3 y12 y13 y14 y15 w16 w17 w18 w19 w20 w21))
-- [1, 1, 0, 0, 1, 0, 0, 1, 0, 1, 1, 1, 1, 1, 1, 1, 1]
def f6_1  (x0 x1 x2 x3 y4 y5 y6 y7 y8 y9 y10 y11 y12 y13 y14 y15 y16 w17 w18 w19 w20 w21 w22 : TV) : Prg TV :=
  Prg.nat (slLen w20) fun n30 =>
  Prg.nat (asNat x2) fun n31 =>
  Prg.chk (Bool.and (slSize w20 1) (Nat.blt n31 n30)) (
  Prg.tvs (pel w20 n31) fun e32 =>
  Prg.chk (fitsAt zWord e32 0) (
  Prg.tv (pbin (Kd.int IntKind.u16) BinOp.neq (nth TV.hole e32 0) x3) fun v33 =>
  Prg.ite (asBool v33) (
    Prg.ret (TV.lit (Value.bool false))) (
    Prg.tv (pbin (Kd.int IntKind.i64) BinOp.add x2 (TV.lit (Value.int IntKind.i64 (1 : Int)))) fun v34 =>
    Prg.jmp [0, 0, 1, 0, 1, 1, 1, 1, 1, 1, 1, 1] (f6_0_S x0 x1 v34 y4 y5 y6 y7 y8 y9 y10 y11 y12 y13 y14 y15 y16 w17 w18 w19 w20 w21 w22))))
-- [1, 1, 1, 1, 1, 1, 1, 1, 1]
def f6_2  (y0 y1 y2 y3 y4 w5 w6 w7 w8 w9 w10 : TV) : Prg TV :=
  Prg.call 13 [TV.agg [y0], TV.agg [y1, y2, y3, frz w8, y4]] fun v35 =>
  Prg.chk (fitsAt zBool [v35] 0) (
  Prg.ret v35)
theorem f6_MR (x0 x1 x2 x3 : TV) : startQ prog 6 [x0, x1, x2, x3] = f6_M x0 x1 x2 x3 := by kernel_rfl
theorem f6_0_R  (x0 x1 x2 y3 y4 y5 y6 y7 y8 y9 y10 y11 y12 y13 y14 y15 w16 w17 w18 w19 w20 w21 : TV) : pieceQ prog 6 [0, 0, 1, 0, 1, 1, 1, 1, 1, 1, 1, 1] (f6_0_S x0 x1 x2 y3 y4 y5 y6 y7 y8 y9 y10 y11 y12 y13 y14 y15 w16 w17 w18 w19 w20 w21) = f6_0 x0 x1 x2 y3 y4 y5 y6 y7 y8 y9 y10 y11 y12 y13 y14 y15 w16 w17 w18 w19 w20 w21 := by kernel_rfl
theorem f6_1_R  (x0 x1 x2 x3 y4 y5 y6 y7 y8 y9 y10 y11 y12 y13 y14 y15 y16 w17 w18 w19 w20 w21 w22 : TV) : pieceQ prog 6 [1, 1, 0, 0, 1, 0, 0, 1, 0, 1, 1, 1, 1, 1, 1, 1, 1] (f6_1_S x0 x1 x2 x3 y4 y5 y6 y7 y8 y9 y10 y11 y12 y13 y14 y15 y16 w17 w18 w19 w20 w21 w22) = f6_1 x0 x1 x2 x3 y4 y5 y6 y7 y8 y9 y10 y11 y12 y13 y14 y15 y16 w17 w18 w19 w20 w21 w22 := by kernel_rfl
theorem f6_2_R  (y0 y1 y2 y3 y4 w5 w6 w7 w8 w9 w10 : TV) : pieceQ prog 6 [1, 1, 1, 1, 1, 1, 1, 1, 1] (f6_2_S y0 y1 y2 y3 y4 w5 w6 w7 w8 w9 w10) = f6_2 y0 y1 y2 y3 y4 w5 w6 w7 w8 w9 w10 := by kernel_rfl

theorem f6_run {x0 x1 x2 x3 : TV} {r : TV} (h : Goes prog 6 (f6_M x0 x1 x2 x3) r) : Runs prog 6 [x0, x1, x2, x3] r := Runs.of (f6_MR x0 x1 x2 x3) h
theorem f6_0_J  {x0 x1 x2 y3 y4 y5 y6 y7 y8 y9 y10 y11 y12 y13 y14 y15 w16 w17 w18 w19 w20 w21 : TV} {r : TV} (h : Goes prog 6 (f6_0 x0 x1 x2 y3 y4 y5 y6 y7 y8 y9 y10 y11 y12 y13 y14 y15 w16 w17 w18 w19 w20 w21) r) : Goes prog 6 (.jmp [0, 0, 1, 0, 1, 1, 1, 1, 1, 1, 1, 1] (f6_0_S x0 x1 x2 y3 y4 y5 y6 y7 y8 y9 y10 y11 y12 y13 y14 y15 w16 w17 w18 w19 w20 w21)) r := Goes.jmp (f6_0_R x0 x1 x2 y3 y4 y5 y6 y7 y8 y9 y10 y11 y12 y13 y14 y15 w16 w17 w18 w19 w20 w21) h
theorem f6_1_J  {x0 x1 x2 x3 y4 y5 y6 y7 y8 y9 y10 y11 y12 y13 y14 y15 y16 w17 w18 w19 w20 w21 w22 : TV} {r : TV} (h : Goes prog 6 (f6_1 x0 x1 x2 x3 y4 y5 y6 y7 y8 y9 y10 y11 y12 y13 y14 y15 y16 w17 w18 w19 w20 w21 w22) r) : Goes prog 6 (.jmp [1, 1, 0, 0, 1, 0, 0, 1, 0, 1, 1, 1, 1, 1, 1, 1, 1] (f6_1_S x0 x1 x2 x3 y4 y5 y6 y7 y8 y9 y10 y11 y12 y13 y14 y15 y16 w17 w18 w19 w20 w21 w22)) r := Goes.jmp (f6_1_R x0 x1 x2 x3 y4 y5 y6 y7 y8 y9 y10 y11 y12 y13 y14 y15 y16 w17 w18 w19 w20 w21 w22) h
theorem f6_2_J  {y0 y1 y2 y3 y4 w5 w6 w7 w8 w9 w10 : TV} {r : TV} (h : Goes prog 6 (f6_2 y0 y1 y2 y3 y4 w5 w6 w7 w8 w9 w10) r) : Goes prog 6 (.jmp [1, 1, 1, 1, 1, 1, 1, 1, 1] (f6_2_S y0 y1 y2 y3 y4 w5 w6 w7 w8 w9 w10)) r := Goes.jmp (f6_2_R y0 y1 y2 y3 y4 w5 w6 w7 w8 w9 w10) h
def f7_M : Prg TV :=
  Prg.call 17 [TV.agg [TV.lit (Value.int IntKind.i64 (0 : Int)), TV.lit (Value.int IntKind.i64 (0 : Int)), TV.lit (Value.int IntKind.i64 (0 : Int)), frz (TV.sl true 1 (chunks 1 3 [TV.lit (Value.int IntKind.u16 (3 : Int)), TV.lit (Value.int IntKind.u16 (4 : Int)), TV.lit (Value.int IntKind.u16 (0 : Int))])), TV.lit (Value.int IntKind.u16 (0 : Int))], TV.agg [TV.lit (Value.int IntKind.i64 (3 : Int)), TV.lit (Value.int IntKind.i64 (2 : Int)), TV.lit (Value.int IntKind.i64 (0 : Int)), TV.lit (Value.int IntKind.i64 (1 : Int)), TV.lit (Value.int IntKind.u16 (0 : Int)), TV.lit (Value.int IntKind.i64 (0 : Int)), TV.lit (Value.slice Option.none 0 0)]] fun v0 =>
  Prg.chk (TV.isTup v0 2) (
  Prg.chk (Bool.and (TV.isAgg (TV.comp v0 0) 5) (fitsAt z27 (TV.cellsL true (TV.comp v0 0)) 0)) (
  Prg.chk (fitsAt zBool [TV.comp v0 1] 0) (
  Prg.call 9 [TV.agg [frz (TV.sl true 3 (chunks 3 1 [TV.lit (Value.int IntKind.i64 (0 : Int)), TV.lit (Value.int IntKind.i64 (2 : Int)), TV.sl true 14 (chunks 14 1 [TV.lit (Value.bool false), TV.lit (Value.int IntKind.i64 (0 : Int)), TV.lit (Value.slice Option.none 0 0), TV.lit (Value.bool false), TV.lit (Value.bool false), TV.lit (Value.slice Option.none 0 0), TV.lit (Value.int IntKind.i64 (1 : Int)), TV.lit (Value.int IntKind.i64 (0 : Int)), TV.lit (Value.int IntKind.i64 (0 : Int)), TV.lit (Value.int IntKind.i64 (0 : Int)), TV.lit (Value.slice Option.none 0 0), TV.lit (Value.int IntKind.i64 (0 : Int)), TV.lit (Value.int IntKind.i64 (0 : Int)), TV.lit (Value.int IntKind.i64 (0 : Int))])]))], TV.lit (Value.int IntKind.i64 (0 : Int)), TV.lit (Value.slice Option.none 0 0)] fun v1 =>
  Prg.chk (TV.isTup v1 2) (
  Prg.chk (Bool.and (TV.isAgg (TV.comp v1 0) 5) (fitsAt z27 (TV.cellsL true (TV.comp v1 0)) 0)) (
  Prg.chk (fitsAt zInt [TV.comp v1 1] 0) (
  Prg.ite (asBool (TV.comp v0 1)) (
    Prg.tv (plen (Kd.slice 26) (TV.cell (TV.comp v0 0) 3)) fun v2 =>
    Prg.tv (pbin (Kd.int IntKind.i64) BinOp.eql v2 (TV.lit (Value.int IntKind.i64 (3 : Int)))) fun v3 =>
    Prg.ite (asBool v3) (
      Prg.nat (slLen (TV.cell (TV.comp v0 0) 3)) fun n4 =>
      Prg.nat (asNat (TV.lit (Value.int IntKind.i64 (2 : Int)))) fun n5 =>
      Prg.chk (Bool.and (slSize (TV.cell (TV.comp v0 0) 3) 1) (Nat.blt n5 n4)) (
      Prg.tvs (pel (TV.cell (TV.comp v0 0) 3) n5) fun e6 =>
      Prg.chk (fitsAt zWord e6 0) (
      Prg.tv (pbin (Kd.int IntKind.u16) BinOp.eql (nth TV.hole e6 0) (TV.lit (Value.int IntKind.u16 (7 : Int)))) fun v7 =>
      Prg.ite (asBool v7) (
        Prg.tv (pbin (Kd.int IntKind.i64) BinOp.eql (TV.cell (TV.comp v0 0) 2) (TV.lit (Value.int IntKind.i64 (1 : Int)))) fun v8 =>
        Prg.ite (asBool v8) (
          Prg.tv (pbin (Kd.int IntKind.i64) BinOp.eql (TV.comp v1 1) (TV.lit (Value.int IntKind.i64 (0 : Int)))) fun v9 =>
          Prg.ite (asBool v9) (
            Prg.tv (plen (Kd.slice 26) (TV.cell (TV.comp v1 0) 3)) fun v10 =>
            Prg.tv (pbin (Kd.int IntKind.i64) BinOp.eql v10 (TV.lit (Value.int IntKind.i64 (2 : Int)))) fun v11 =>
            Prg.ite (asBool v11) (
              Prg.call 13 [TV.agg [frz (TV.sl true 3 (chunks 3 1 [TV.lit (Value.int IntKind.i64 (0 : Int)), TV.lit (Value.int IntKind.i64 (2 : Int)), TV.sl true 14 (chunks 14 1 [TV.lit (Value.bool false), TV.lit (Value.int IntKind.i64 (0 : Int)), TV.lit (Value.slice Option.none 0 0), TV.lit (Value.bool false), TV.lit (Value.bool false), TV.lit (Value.slice Option.none 0 0), TV.lit (Value.int IntKind.i64 (1 : Int)), TV.lit (Value.int IntKind.i64 (0 : Int)), TV.lit (Value.int IntKind.i64 (0 : Int)), TV.lit (Value.int IntKind.i64 (0 : Int)), TV.lit (Value.slice Option.none 0 0), TV.lit (Value.int IntKind.i64 (0 : Int)), TV.lit (Value.int IntKind.i64 (0 : Int)), TV.lit (Value.int IntKind.i64 (0 : Int))])]))], TV.agg [TV.cell (TV.comp v1 0) 0, TV.cell (TV.comp v1 0) 1, TV.cell (TV.comp v1 0) 2, frz (TV.cell (TV.comp v1 0) 3), TV.cell (TV.comp v1 0) 4]] fun v12 =>
              Prg.chk (fitsAt zBool [v12] 0) (
              Prg.ite (asBool v12) (
                Prg.call 19 [TV.agg [TV.lit (Value.int IntKind.i64 (0 : Int)), TV.lit (Value.slice Option.none 0 0), TV.lit (Value.bool true), TV.lit (Value.bool false)], TV.lit (Value.int IntKind.u16 (5 : Int))] fun v13 =>
                Prg.chk (fitsAt zBool [v13] 0) (
                Prg.ret v13)) (
                Prg.ret (TV.lit (Value.bool false))))) (
              Prg.ret (TV.lit (Value.bool false)))) (
            Prg.ret (TV.lit (Value.bool false)))) (
          Prg.ret (TV.lit (Value.bool false)))) (
        Prg.ret (TV.lit (Value.bool false)))))) (
      Prg.ret (TV.lit (Value.bool false)))) (
    Prg.ret (TV.lit (Value.bool false)))))))))
theorem f7_MR : startQ prog 7 [] = f7_M  := by kernel_rfl

theorem f7_run {r : TV} (h : Goes prog 7 (f7_M ) r) : Runs prog 7 [] r := Runs.of (f7_MR ) h
def f8_0_S  (x0 x1 y2 : TV) : ASt := ⟨[AV.one CA.junk, AV.one (CA.ptr 0 0), AV.one CA.junk, AV.tv x0, AV.tv x1] ++ List.replicate 82 (AV.one CA.junk), [Option.some (BC.cells [CA.t y2])] ++ List.replicate 110 (Option.none), []⟩
def f8_1_S  (x0 x1 x2 y3 : TV) : ASt := ⟨[AV.one CA.junk, AV.one (CA.ptr 0 0), AV.one CA.junk, AV.tv x0, AV.tv x1, AV.tv x2] ++ List.replicate 81 (AV.one CA.junk), [Option.some (BC.cells [CA.t y3])] ++ List.replicate 110 (Option.none), []⟩
def f8_2_S  (x0 x1 x2 x3 y4 y5 y6 y7 y8 y9 y10 y11 y12 y13 y14 y15 y16 y17 y18 : TV) : ASt := ⟨[AV.one CA.junk, AV.one (CA.ptr 0 0), AV.one CA.junk, AV.tv x0, AV.tv x1, AV.tv x2, AV.one (CA.ptr 1 0), AV.tv x3] ++ List.replicate 79 (AV.one CA.junk), [Option.some (BC.cells [CA.t y4]), Option.some (BC.cells [CA.t y5, CA.t y6, CA.t y7, CA.t y8, CA.t y9, CA.t y10, CA.t y11, CA.t y12, CA.t y13, CA.t y14, CA.t y15, CA.t y16, CA.t y17, CA.t y18])] ++ List.replicate 109 (Option.none), []⟩
def f8_M (x0 : TV) : Prg TV :=
  Prg.chk (TV.isAgg x0 1) (
  Prg.tv (plen (Kd.slice 54) (TV.cell x0 0)) fun v0 =>
  Prg.tv (pbin (Kd.int IntKind.i64) BinOp.gtr v0 (TV.lit (Value.int IntKind.i64 (20 : Int)))) fun v1 =>
  Prg.ite (asBool v1) (
    Prg.ret (TV.lit (Value.bool false))) (
    Prg.jmp [0, 0, 1, 0, 1, 1, 1] (f8_0_S (TV.lit (Value.int IntKind.i64 (0 : Int))) (TV.lit (Value.int IntKind.i64 (0 : Int))) (TV.cell x0 0))))
-- [0, 0, 1, 0, 1, 1, 1]
def f8_0  (x0 x1 y2 : TV) : Prg TV :=
  Prg.tv (plen (Kd.slice 54) y2) fun v2 =>
  Prg.tv (pbin (Kd.int IntKind.i64) BinOp.lss x1 v2) fun v3 =>
  Prg.ite (asBool v3) (
    Prg.tvs (pidx 3 y2 x1) fun e4 =>
    Prg.chk (Nat.blt 2 (List.length e4)) (
    Prg.tv (plen (Kd.slice 59) (nth TV.hole e4 2)) fun v5 =>
    Prg.tv (pbin (Kd.int IntKind.i64) BinOp.gtr v5 (TV.lit (Value.int IntKind.i64 (70 : Int)))) fun v6 =>
    Prg.ite (asBool v6) (
      Prg.ret (TV.lit (Value.bool false))) (
      Prg.jmp [0, 0, 1, 1, 0, 0, 1, 0, 0, 1, 0, 1, 1, 1] (f8_1_S x0 x1 (TV.lit (Value.int IntKind.i64 (0 : Int))) y2)))) (
    Prg.tv (pbin (Kd.int IntKind.i64) BinOp.leq x0 (TV.lit (Value.int IntKind.i64 (2000 : Int)))) fun v7 =>
    Prg.ret v7)
-- [0, 0, 1, 1, 0, 0, 1, 0, 0, 1, 0, 1, 1, 1]
def f8_1  (x0 x1 x2 y3 : TV) : Prg TV :=
  Prg.tvs (pidx 3 y3 x1) fun e8 =>
  Prg.chk (Nat.blt 2 (List.length e8)) (
  Prg.tv (plen (Kd.slice 59) (nth TV.hole e8 2)) fun v9 =>
  Prg.tv (pbin (Kd.int IntKind.i64) BinOp.lss x2 v9) fun v10 =>
  Prg.ite (asBool v10) (
    Prg.tvs (pidx 3 y3 x1) fun e11 =>
    Prg.chk (Nat.blt 2 (List.length e11)) (
    Prg.tvs (pidx 14 (nth TV.hole e11 2) x2) fun e12 =>
    Prg.chk (Nat.ble 14 (List.length e12)) (
    Prg.tv (plen (Kd.slice 43) (nth TV.hole e12 5)) fun v13 =>
    Prg.tv (pbin (Kd.int IntKind.i64) BinOp.gtr v13 (TV.lit (Value.int IntKind.i64 (70 : Int)))) fun v14 =>
    Prg.ite (asBool v14) (
      Prg.ret (TV.lit (Value.bool false))) (
      Prg.tv (plen (Kd.slice 26) (nth TV.hole e12 2)) fun v15 =>
      Prg.tv (pbin (Kd.int IntKind.i64) BinOp.gtr v15 (TV.lit (Value.int IntKind.i64 (20 : Int)))) fun v16 =>
      Prg.ite (asBool v16) (
        Prg.ret (TV.lit (Value.bool false))) (
        Prg.tv (plen (Kd.slice 3) (nth TV.hole e12 10)) fun v17 =>
        Prg.tv (pbin (Kd.int IntKind.i64) BinOp.gtr v17 (TV.lit (Value.int IntKind.i64 (20 : Int)))) fun v18 =>
        Prg.ite (asBool v18) (
          Prg.ret (TV.lit (Value.bool false))) (
          Prg.tv (plen (Kd.slice 43) (nth TV.hole e12 5)) fun v19 =>
          Prg.tv (pbin (Kd.int IntKind.i64) BinOp.add x0 v19) fun v20 =>
          Prg.jmp [0, 0, 1, 1, 1, 1, 0, 0, 1, 0, 0, 1, 1, 0, 0, 1, 0, 0, 1, 0, 1, 1, 1] (f8_2_S v20 x1 x2 (TV.lit (Value.int IntKind.i64 (0 : Int))) y3 (nth TV.hole e12 0) (nth TV.hole e12 1) (nth TV.hole e12 2) (nth TV.hole e12 3) (nth TV.hole e12 4) (nth TV.hole e12 5) (nth TV.hole e12 6) (nth TV.hole e12 7) (nth TV.hole e12 8) (nth TV.hole e12 9) (nth TV.hole e12 10) (nth TV.hole e12 11) (nth TV.hole e12 12) (nth TV.hole e12 13)))))))) (
    Prg.tv (pbin (Kd.int IntKind.i64) BinOp.add x1 (TV.lit (Value.int IntKind.i64 (1 : Int)))) fun v21 =>
    Prg.jmp [0, 0, 1, 0, 1, 1, 1] (f8_0_S x0 v21 y3)))
-- [0, 0, 1, 1, 1, 1, 0, 0, 1, 0, 0, 1, 1, 0, 0, 1, 0, 0, 1, 0, 1, 1, 1]
def f8_2  (x0 x1 x2 x3 y4 y5 y6 y7 y8 y9 y10 y11 y12 y13 y14 y15 y16 y17 y18 : TV) : Prg TV :=
  Prg.tv (plen (Kd.slice 43) y10) fun v22 =>
  Prg.tv (pbin (Kd.int IntKind.i64) BinOp.lss x3 v22) fun v23 =>
  Prg.ite (asBool v23) (
    Prg.tvs (pidx 7 y10 x3) fun e24 =>
    Prg.chk (Nat.blt 6 (List.length e24)) (
    Prg.tv (plen (Kd.slice 3) (nth TV.hole e24 6)) fun v25 =>
    Prg.tv (pbin (Kd.int IntKind.i64) BinOp.gtr v25 (TV.lit (Value.int IntKind.i64 (20 : Int)))) fun v26 =>
    Prg.ite (asBool v26) (
      Prg.ret (TV.lit (Value.bool false))) (
      Prg.tv (pbin (Kd.int IntKind.i64) BinOp.add x3 (TV.lit (Value.int IntKind.i64 (1 : Int)))) fun v27 =>
      Prg.jmp [0, 0, 1, 1, 1, 1, 0, 0, 1, 0, 0, 1, 1, 0, 0, 1, 0, 0, 1, 0, 1, 1, 1] (f8_2_S x0 x1 x2 v27 y4 y5 y6 y7 y8 y9 y10 y11 y12 y13 y14 y15 y16 y17 y18)))) (
    Prg.tv (pbin (Kd.int IntKind.i64) BinOp.add x2 (TV.lit (Value.int IntKind.i64 (1 : Int)))) fun v28 =>
    Prg.jmp [0, 0, 1, 1, 0, 0, 1, 0, 0, 1, 0, 1, 1, 1] (f8_1_S x0 x1 v28 y4))
theorem f8_MR (x0 : TV) : startQ prog 8 [x0] = f8_M x0 := by kernel_rfl
theorem f8_0_R  (x0 x1 y2 : TV) : pieceQ prog 8 [0, 0, 1, 0, 1, 1, 1] (f8_0_S x0 x1 y2) = f8_0 x0 x1 y2 := by kernel_rfl
theorem f8_1_R  (x0 x1 x2 y3 : TV) : pieceQ prog 8 [0, 0, 1, 1, 0, 0, 1, 0, 0, 1, 0, 1, 1, 1] (f8_1_S x0 x1 x2 y3) = f8_1 x0 x1 x2 y3 := by kernel_rfl
theorem f8_2_R  (x0 x1 x2 x3 y4 y5 y6 y7 y8 y9 y10 y11 y12 y13 y14 y15 y16 y17 y18 : TV) : pieceQ prog 8 [0, 0, 1, 1, 1, 1, 0, 0, 1, 0, 0, 1, 1, 0, 0, 1, 0, 0, 1, 0, 1, 1, 1] (f8_2_S x0 x1 x2 x3 y4 y5 y6 y7 y8 y9 y10 y11 y12 y13 y14 y15 y16 y17 y18) = f8_2 x0 x1 x2 x3 y4 y5 y6 y7 y8 y9 y10 y11 y12 y13 y14 y15 y16 y17 y18 := by kernel_rfl

theorem f8_run {x0 : TV} {r : TV} (h : Goes prog 8 (f8_M x0) r) : Runs prog 8 [x0] r := Runs.of (f8_MR x0) h
theorem f8_0_J  {x0 x1 y2 : TV} {r : TV} (h : Goes prog 8 (f8_0 x0 x1 y2) r) : Goes prog 8 (.jmp [0, 0, 1, 0, 1, 1, 1] (f8_0_S x0 x1 y2)) r := Goes.jmp (f8_0_R x0 x1 y2) h
theorem f8_1_J  {x0 x1 x2 y3 : TV} {r : TV} (h : Goes prog 8 (f8_1 x0 x1 x2 y3) r) : Goes prog 8 (.jmp [0, 0, 1, 1, 0, 0, 1, 0, 0, 1, 0, 1, 1, 1] (f8_1_S x0 x1 x2 y3)) r := Goes.jmp (f8_1_R x0 x1 x2 y3) h
theorem f8_2_J  {x0 x1 x2 x3 y4 y5 y6 y7 y8 y9 y10 y11 y12 y13 y14 y15 y16 y17 y18 : TV} {r : TV} (h : Goes prog 8 (f8_2 x0 x1 x2 x3 y4 y5 y6 y7 y8 y9 y10 y11 y12 y13 y14 y15 y16 y17 y18) r) : Goes prog 8 (.jmp [0, 0, 1, 1, 1, 1, 0, 0, 1, 0, 0, 1, 1, 0, 0, 1, 0, 0, 1, 0, 1, 1, 1] (f8_2_S x0 x1 x2 x3 y4 y5 y6 y7 y8 y9 y10 y11 y12 y13 y14 y15 y16 y17 y18)) r := Goes.jmp (f8_2_R x0 x1 x2 x3 y4 y5 y6 y7 y8 y9 y10 y11 y12 y13 y14 y15 y16 y17 y18) h
def f9_M (x0 x1 x2 : TV) : Prg TV :=
  Prg.chk (TV.isAgg x0 1) (
  Prg.call 22 [TV.agg [TV.cell x0 0]] fun v0 =>
  Prg.chk (fitsAt zBool [v0] 0) (
  Prg.tv (pun UnOp.not v0) fun v1 =>
  Prg.ite (asBool v1) (
    Prg.chk true (
    Prg.ret (TV.tup [TV.agg [TV.lit (Value.int IntKind.i64 (0 : Int)), TV.lit (Value.int IntKind.i64 (0 : Int)), TV.lit (Value.int IntKind.i64 (0 : Int)), TV.lit (Value.slice Option.none 0 0), TV.lit (Value.int IntKind.u16 (0 : Int))], TV.lit (Value.int IntKind.i64 (1 : Int))]))) (
    Prg.tv (plen (Kd.slice 54) (TV.cell x0 0)) fun v2 =>
    Prg.call 23 [v2, x1] fun v3 =>
    Prg.chk (fitsAt zBool [v3] 0) (
    Prg.tv (pun UnOp.not v3) fun v4 =>
    Prg.ite (asBool v4) (
      Prg.chk true (
      Prg.ret (TV.tup [TV.agg [TV.lit (Value.int IntKind.i64 (0 : Int)), TV.lit (Value.int IntKind.i64 (0 : Int)), TV.lit (Value.int IntKind.i64 (0 : Int)), TV.lit (Value.slice Option.none 0 0), TV.lit (Value.int IntKind.u16 (0 : Int))], TV.lit (Value.int IntKind.i64 (1 : Int))]))) (
      Prg.tv (plen (Kd.slice 26) x2) fun v5 =>
      Prg.tvs (pidx 3 (TV.cell x0 0) x1) fun e6 =>
      Prg.chk (Nat.blt 0 (List.length e6)) (
      Prg.tv (pbin (Kd.int IntKind.i64) BinOp.neq v5 (nth TV.hole e6 0)) fun v7 =>
      Prg.ite (asBool v7) (
        Prg.chk true (
        Prg.ret (TV.tup [TV.agg [TV.lit (Value.int IntKind.i64 (0 : Int)), TV.lit (Value.int IntKind.i64 (0 : Int)), TV.lit (Value.int IntKind.i64 (0 : Int)), TV.lit (Value.slice Option.none 0 0), TV.lit (Value.int IntKind.u16 (0 : Int))], TV.lit (Value.int IntKind.i64 (1 : Int))]))) (
        Prg.tvs (pidx 3 (TV.cell x0 0) x1) fun e8 =>
        Prg.chk (Nat.blt 1 (List.length e8)) (
        Prg.nat (asNat (nth TV.hole e8 1)) fun n9 =>
        Prg.nat (asNat (nth TV.hole e8 1)) fun n10 =>
        Prg.chk (Bool.and (Nat.ble n9 n10) (Nat.ble n10 4294967296)) (
        Prg.rws (pelems 1 x2) fun r11 =>
        Prg.tv (pcopy 1 (TV.sl true 1 (List.replicate n9 [TV.lit (Value.int IntKind.u16 (0 : Int))])) r11) fun v12 =>
        Prg.nat (slLen (TV.sl true 1 (List.replicate n9 [TV.lit (Value.int IntKind.u16 (0 : Int))]))) fun n13 =>
        Prg.chk (TV.isOne x1) (
        Prg.chk (isOwnL [TV.agg [x1, TV.lit (Value.int IntKind.i64 (0 : Int)), TV.lit (Value.int IntKind.i64 (0 : Int)), v12, TV.lit (Value.int IntKind.u16 (0 : Int))], TV.lit (Value.int IntKind.i64 (0 : Int))]) (
        Prg.ret (TV.tup [TV.agg [x1, TV.lit (Value.int IntKind.i64 (0 : Int)), TV.lit (Value.int IntKind.i64 (0 : Int)), v12, TV.lit (Value.int IntKind.u16 (0 : Int))], TV.lit (Value.int IntKind.i64 (0 : Int))]))))))))))))
theorem f9_MR (x0 x1 x2 : TV) : startQ prog 9 [x0, x1, x2] = f9_M x0 x1 x2 := by kernel_rfl

theorem f9_run {x0 x1 x2 : TV} {r : TV} (h : Goes prog 9 (f9_M x0 x1 x2) r) : Runs prog 9 [x0, x1, x2] r := Runs.of (f9_MR x0 x1 x2) h
end Go.Ab.G5

import Derived.Test.YteppgaecdkkkeaaDoorD5T
import Derived.Test.YteppgaecdkkkeaaDoorF0
set_option linter.unusedVariables false
set_option maxRecDepth 100000
namespace Go.Ab.D5
open Go Go.Ab Go.Proofs
def f3_0_S  (x0 y1 y2 y3 y4 y5 y6 y7 y8 y9 y10 y11 y12 y13 y14 y15 y16 y17 y18 y19 : TV) : ASt := ⟨List.replicate 5 (AV.one CA.junk) ++ [AV.one (CA.ptr 0 0), AV.one (CA.ptr 1 0), AV.one (CA.ptr 2 0)] ++ List.replicate 5 (AV.one CA.junk) ++ [AV.tv x0] ++ List.replicate 140 (AV.one CA.junk), [Option.some (BC.cells [CA.t y1, CA.t y2, CA.t y3, CA.t y4, CA.t y5, CA.t y6, CA.t y7]), Option.some (BC.cells [CA.t y8, CA.t y9, CA.t y10, CA.t y11, CA.t y12, CA.t y13, CA.t y14, CA.t y15]), Option.some (BC.cells [CA.t y16, CA.t y17, CA.t y18, CA.t y19])] ++ List.replicate 175 (Option.none), []⟩
def f3_1_S  (y0 y1 y2 y3 y4 y5 y6 y7 y8 y9 y10 y11 y12 y13 y14 y15 y16 y17 y18 : TV) : ASt := ⟨List.replicate 5 (AV.one CA.junk) ++ [AV.one (CA.ptr 0 0), AV.one (CA.ptr 1 0), AV.one (CA.ptr 2 0)] ++ List.replicate 146 (AV.one CA.junk), [Option.some (BC.cells [CA.t y0, CA.t y1, CA.t y2, CA.t y3, CA.t y4, CA.t y5, CA.t y6]), Option.some (BC.cells [CA.t y7, CA.t y8, CA.t y9, CA.t y10, CA.t y11, CA.t y12, CA.t y13, CA.t y14]), Option.some (BC.cells [CA.t y15, CA.t y16, CA.t y17, CA.t y18])] ++ List.replicate 175 (Option.none), []⟩
def f3_2_S  (x0 y1 y2 y3 y4 y5 y6 y7 y8 y9 y10 y11 y12 y13 y14 y15 y16 y17 y18 y19 : TV) : ASt := ⟨List.replicate 5 (AV.one CA.junk) ++ [AV.one (CA.ptr 0 0), AV.one (CA.ptr 1 0), AV.one (CA.ptr 2 0)] ++ List.replicate 6 (AV.one CA.junk) ++ [AV.tv x0] ++ List.replicate 139 (AV.one CA.junk), [Option.some (BC.cells [CA.t y1, CA.t y2, CA.t y3, CA.t y4, CA.t y5, CA.t y6, CA.t y7]), Option.some (BC.cells [CA.t y8, CA.t y9, CA.t y10, CA.t y11, CA.t y12, CA.t y13, CA.t y14, CA.t y15]), Option.some (BC.cells [CA.t y16, CA.t y17, CA.t y18, CA.t y19])] ++ List.replicate 175 (Option.none), []⟩
def f3_3_S  (y0 y1 y2 y3 y4 y5 y6 y7 y8 y9 y10 y11 y12 y13 y14 y15 y16 y17 y18 : TV) : ASt := ⟨List.replicate 5 (AV.one CA.junk) ++ [AV.one (CA.ptr 0 0), AV.one (CA.ptr 1 0), AV.one (CA.ptr 2 0)] ++ List.replicate 146 (AV.one CA.junk), [Option.some (BC.cells [CA.t y0, CA.t y1, CA.t y2, CA.t y3, CA.t y4, CA.t y5, CA.t y6]), Option.some (BC.cells [CA.t y7, CA.t y8, CA.t y9, CA.t y10, CA.t y11, CA.t y12, CA.t y13, CA.t y14]), Option.some (BC.cells [CA.t y15, CA.t y16, CA.t y17, CA.t y18])] ++ List.replicate 175 (Option.none), []⟩
def f3_M (x0 x1 x2 x3 : TV) : Prg TV :=
  Prg.chk (TV.isAgg x0 1) (
  Prg.chk (TV.isAgg x1 7) (
  Prg.chk (TV.isAgg x2 8) (
  Prg.chk (TV.isAgg x3 4) (
  Prg.call 5 [] fun v0 =>
  Prg.chk (fitsAt zBool [v0] 0) (
  Prg.tv (pun UnOp.not v0) fun v1 =>
  Prg.ite (asBool v1) (
    Prg.ret (TV.lit (Value.bool false))) (
    Prg.call 6 [TV.agg [TV.cell x0 0]] fun v2 =>
    Prg.chk (fitsAt zBool [v2] 0) (
    Prg.tv (pun UnOp.not v2) fun v3 =>
    Prg.ite (asBool v3) (
      Prg.ret (TV.lit (Value.bool true))) (
      Prg.tv (plen (Kd.slice 3) (TV.cell x1 6)) fun v4 =>
      Prg.tv (pbin (Kd.int IntKind.i64) BinOp.gtr v4 (TV.lit (Value.int IntKind.i64 (20 : Int)))) fun v5 =>
      Prg.ite (asBool v5) (
        Prg.ret (TV.lit (Value.bool true))) (
        Prg.tv (plen (Kd.slice 3) (TV.cell x2 4)) fun v6 =>
        Prg.tv (pbin (Kd.int IntKind.i64) BinOp.gtr v6 (TV.lit (Value.int IntKind.i64 (20 : Int)))) fun v7 =>
        Prg.ite (asBool v7) (
          Prg.ret (TV.lit (Value.bool true))) (
          Prg.tv (plen (Kd.slice 25) (TV.cell x3 1)) fun v8 =>
          Prg.tv (pbin (Kd.int IntKind.i64) BinOp.gtr v8 (TV.lit (Value.int IntKind.i64 (20 : Int)))) fun v9 =>
          Prg.ite (asBool v9) (
            Prg.ret (TV.lit (Value.bool true))) (
            Prg.call 7 [TV.agg [TV.cell x0 0]] fun v10 =>
            Prg.chk (TV.isTup v10 2) (
            Prg.chk (fitsAt zStr [TV.comp v10 0] 0) (
            Prg.chk (fitsAt zInt [TV.comp v10 1] 0) (
            Prg.call 8 [TV.agg [TV.cell x0 0]] fun v11 =>
            Prg.chk (TV.isTup v11 2) (
            Prg.chk (fitsAt zStr [TV.comp v11 0] 0) (
            Prg.chk (fitsAt zInt [TV.comp v11 1] 0) (
            Prg.tv (pbin Kd.str BinOp.neq (TV.comp v10 0) (TV.comp v11 0)) fun v12 =>
            Prg.ite (asBool v12) (
              Prg.ret (TV.lit (Value.bool false))) (
              Prg.tv (pbin (Kd.int IntKind.i64) BinOp.neq (TV.comp v10 1) (TV.comp v11 1)) fun v13 =>
              Prg.ite (asBool v13) (
                Prg.ret (TV.lit (Value.bool false))) (
                Prg.jmp [0, 0, 1, 0, 1, 1, 1, 1, 1, 1] (f3_0_S (TV.lit (Value.int IntKind.i64 (0 : Int))) (TV.cell x1 0) (TV.cell x1 1) (TV.cell x1 2) (TV.cell x1 3) (TV.cell x1 4) (TV.cell x1 5) (TV.cell x1 6) (TV.cell x2 0) (TV.cell x2 1) (TV.cell x2 2) (TV.cell x2 3) (TV.cell x2 4) (TV.cell x2 5) (TV.cell x2 6) (TV.cell x2 7) (TV.cell x3 0) (TV.cell x3 1) (TV.cell x3 2) (TV.cell x3 3)))))))))))))))))))))
-- [0, 0, 1, 0, 1, 1, 1, 1, 1, 1]
def f3_0  (x0 y1 y2 y3 y4 y5 y6 y7 y8 y9 y10 y11 y12 y13 y14 y15 y16 y17 y18 y19 : TV) : Prg TV :=
  Prg.tv (plen (Kd.slice 3) y7) fun v14 =>
  Prg.tv (pbin (Kd.int IntKind.i64) BinOp.lss x0 v14) fun v15 =>
  Prg.ite (asBool v15) (
    Prg.tvs (pidx 1 y7 x0) fun e16 =>
    Prg.chk (Nat.blt 0 (List.length e16)) (
    Prg.tv (pbin (Kd.int IntKind.i64) BinOp.lss (nth TV.hole e16 0) (TV.lit (Value.int IntKind.i64 (-1000000000)))) fun v17 =>
    Prg.ite (asBool v17) (
      Prg.ret (TV.lit (Value.bool true))) (
      Prg.tv (pbin (Kd.int IntKind.i64) BinOp.add x0 (TV.lit (Value.int IntKind.i64 (1 : Int)))) fun v18 =>
      Prg.jmp [0, 0, 1, 0, 1, 1, 1, 1, 1, 1] (f3_0_S v18 y1 y2 y3 y4 y5 y6 y7 y8 y9 y10 y11 y12 y13 y14 y15 y16 y17 y18 y19)))) (
    Prg.jmp [1, 1, 1, 1, 1, 1, 1] (f3_1_S y1 y2 y3 y4 y5 y6 y7 y8 y9 y10 y11 y12 y13 y14 y15 y16 y17 y18 y19))
-- [1, 1, 1, 1, 1, 1, 1]
def f3_1  (y0 y1 y2 y3 y4 y5 y6 y7 y8 y9 y10 y11 y12 y13 y14 y15 y16 y17 y18 : TV) : Prg TV :=
  Prg.jmp [0, 0, 1, 0, 1, 1, 1, 1, 1, 1, 1] (f3_2_S (TV.lit (Value.int IntKind.i64 (0 : Int))) y0 y1 y2 y3 y4 y5 y6 y7 y8 y9 y10 y11 y12 y13 y14 y15 y16 y17 y18)
-- [0, 0, 1, 0, 1, 1, 1, 1, 1, 1, 1]
def f3_2  (x0 y1 y2 y3 y4 y5 y6 y7 y8 y9 y10 y11 y12 y13 y14 y15 y16 y17 y18 y19 : TV) : Prg TV :=
  Prg.tv (plen (Kd.slice 3) y12) fun v19 =>
  Prg.tv (pbin (Kd.int IntKind.i64) BinOp.lss x0 v19) fun v20 =>
  Prg.ite (asBool v20) (
    Prg.tvs (pidx 1 y12 x0) fun e21 =>
    Prg.chk (Nat.blt 0 (List.length e21)) (
    Prg.tv (pbin (Kd.int IntKind.i64) BinOp.lss (nth TV.hole e21 0) (TV.lit (Value.int IntKind.i64 (-1000000000)))) fun v22 =>
    Prg.ite (asBool v22) (
      Prg.ret (TV.lit (Value.bool true))) (
      Prg.tv (pbin (Kd.int IntKind.i64) BinOp.add x0 (TV.lit (Value.int IntKind.i64 (1 : Int)))) fun v23 =>
      Prg.jmp [0, 0, 1, 0, 1, 1, 1, 1, 1, 1, 1] (f3_2_S v23 y1 y2 y3 y4 y5 y6 y7 y8 y9 y10 y11 y12 y13 y14 y15 y16 y17 y18 y19)))) (
    Prg.jmp [1, 1, 1, 1, 1, 1, 1, 1] (f3_3_S y1 y2 y3 y4 y5 y6 y7 y8 y9 y10 y11 y12 y13 y14 y15 y16 y17 y18 y19))
-- [1, 1, 1, 1, 1, 1, 1, 1]
def f3_3  (y0 y1 y2 y3 y4 y5 y6 y7 y8 y9 y10 y11 y12 y13 y14 y15 y16 y17 y18 : TV) : Prg TV :=
  Prg.tv (pbin (Kd.int IntKind.i64) BinOp.lss y1 (TV.lit (Value.int IntKind.i64 (-1000000000)))) fun v24 =>
  Prg.ite (asBool v24) (
    Prg.ret (TV.lit (Value.bool true))) (
    Prg.tv (pbin (Kd.int IntKind.i64) BinOp.lss y2 (TV.lit (Value.int IntKind.i64 (-1000000000)))) fun v25 =>
    Prg.ite (asBool v25) (
      Prg.ret (TV.lit (Value.bool true))) (
      Prg.tv (pbin (Kd.int IntKind.i64) BinOp.lss y3 (TV.lit (Value.int IntKind.i64 (-1000000000)))) fun v26 =>
      Prg.ite (asBool v26) (
        Prg.ret (TV.lit (Value.bool true))) (
        Prg.tv (pbin (Kd.int IntKind.i64) BinOp.lss y5 (TV.lit (Value.int IntKind.i64 (-1000000000)))) fun v27 =>
        Prg.ite (asBool v27) (
          Prg.ret (TV.lit (Value.bool true))) (
          Prg.tv (pbin (Kd.int IntKind.i64) BinOp.lss y8 (TV.lit (Value.int IntKind.i64 (-1000000000)))) fun v28 =>
          Prg.ite (asBool v28) (
            Prg.ret (TV.lit (Value.bool true))) (
            Prg.tv (pbin (Kd.int IntKind.i64) BinOp.lss y9 (TV.lit (Value.int IntKind.i64 (-1000000000)))) fun v29 =>
            Prg.ite (asBool v29) (
              Prg.ret (TV.lit (Value.bool true))) (
              Prg.tv (pbin (Kd.int IntKind.i64) BinOp.lss y10 (TV.lit (Value.int IntKind.i64 (-1000000000)))) fun v30 =>
              Prg.ite (asBool v30) (
                Prg.ret (TV.lit (Value.bool true))) (
                Prg.tv (pbin (Kd.int IntKind.i64) BinOp.lss y12 (TV.lit (Value.int IntKind.i64 (-1000000000)))) fun v31 =>
                Prg.ite (asBool v31) (
                  Prg.ret (TV.lit (Value.bool true))) (
                  Prg.tv (pbin (Kd.int IntKind.i64) BinOp.lss y13 (TV.lit (Value.int IntKind.i64 (-1000000000)))) fun v32 =>
                  Prg.ite (asBool v32) (
                    Prg.ret (TV.lit (Value.bool true))) (
                    Prg.tv (pbin (Kd.int IntKind.i64) BinOp.lss y14 (TV.lit (Value.int IntKind.i64 (-1000000000)))) fun v33 =>
                    Prg.ite (asBool v33) (
                      Prg.ret (TV.lit (Value.bool true))) (
                      Prg.tv (pbin (Kd.int IntKind.i64) BinOp.lss y15 (TV.lit (Value.int IntKind.i64 (-1000000000)))) fun v34 =>
                      Prg.ite (asBool v34) (
                        Prg.ret (TV.lit (Value.bool true))) (
                        Prg.call 9 [TV.agg [y0, y1, y2, y3, y4, y5, y6]] fun v35 =>
                        Prg.chk (fitsAt zStr [v35] 0) (
                        Prg.call 10 [TV.agg [y0, y1, y2, y3, y4, y5, y6]] fun v36 =>
                        Prg.chk (fitsAt zStr [v36] 0) (
                        Prg.tv (pbin Kd.str BinOp.eql v35 v36) fun v37 =>
                        Prg.ite (asBool v37) (
                          Prg.call 11 [TV.agg [y7, y8, y9, y10, y11, y12, y13, y14]] fun v38 =>
                          Prg.chk (fitsAt zStr [v38] 0) (
                          Prg.call 12 [TV.agg [y7, y8, y9, y10, y11, y12, y13, y14]] fun v39 =>
                          Prg.chk (fitsAt zStr [v39] 0) (
                          Prg.tv (pbin Kd.str BinOp.eql v38 v39) fun v40 =>
                          Prg.ite (asBool v40) (
                            Prg.call 13 [TV.agg [y15, y16, y17, y18]] fun v41 =>
                            Prg.chk (fitsAt zStr [v41] 0) (
                            Prg.call 14 [TV.agg [y15, y16, y17, y18]] fun v42 =>
                            Prg.chk (fitsAt zStr [v42] 0) (
                            Prg.tv (pbin Kd.str BinOp.eql v41 v42) fun v43 =>
                            Prg.ret v43))) (
                            Prg.ret (TV.lit (Value.bool false)))))) (
                          Prg.ret (TV.lit (Value.bool false))))))))))))))))
theorem f3_MR (x0 x1 x2 x3 : TV) : startQ prog 3 [x0, x1, x2, x3] = f3_M x0 x1 x2 x3 := by kernel_rfl
theorem f3_0_R  (x0 y1 y2 y3 y4 y5 y6 y7 y8 y9 y10 y11 y12 y13 y14 y15 y16 y17 y18 y19 : TV) : pieceQ prog 3 [0, 0, 1, 0, 1, 1, 1, 1, 1, 1] (f3_0_S x0 y1 y2 y3 y4 y5 y6 y7 y8 y9 y10 y11 y12 y13 y14 y15 y16 y17 y18 y19) = f3_0 x0 y1 y2 y3 y4 y5 y6 y7 y8 y9 y10 y11 y12 y13 y14 y15 y16 y17 y18 y19 := by kernel_rfl
theorem f3_1_R  (y0 y1 y2 y3 y4 y5 y6 y7 y8 y9 y10 y11 y12 y13 y14 y15 y16 y17 y18 : TV) : pieceQ prog 3 [1, 1, 1, 1, 1, 1, 1] (f3_1_S y0 y1 y2 y3 y4 y5 y6 y7 y8 y9 y10 y11 y12 y13 y14 y15 y16 y17 y18) = f3_1 y0 y1 y2 y3 y4 y5 y6 y7 y8 y9 y10 y11 y12 y13 y14 y15 y16 y17 y18 := by kernel_rfl
theorem f3_2_R  (x0 y1 y2 y3 y4 y5 y6 y7 y8 y9 y10 y11 y12 y13 y14 y15 y16 y17 y18 y19 : TV) : pieceQ prog 3 [0, 0, 1, 0, 1, 1, 1, 1, 1, 1, 1] (f3_2_S x0 y1 y2 y3 y4 y5 y6 y7 y8 y9 y10 y11 y12 y13 y14 y15 y16 y17 y18 y19) = f3_2 x0 y1 y2 y3 y4 y5 y6 y7 y8 y9 y10 y11 y12 y13 y14 y15 y16 y17 y18 y19 := by kernel_rfl
theorem f3_3_R  (y0 y1 y2 y3 y4 y5 y6 y7 y8 y9 y10 y11 y12 y13 y14 y15 y16 y17 y18 : TV) : pieceQ prog 3 [1, 1, 1, 1, 1, 1, 1, 1] (f3_3_S y0 y1 y2 y3 y4 y5 y6 y7 y8 y9 y10 y11 y12 y13 y14 y15 y16 y17 y18) = f3_3 y0 y1 y2 y3 y4 y5 y6 y7 y8 y9 y10 y11 y12 y13 y14 y15 y16 y17 y18 := by kernel_rfl

theorem f3_run {x0 x1 x2 x3 : TV} {r : TV} (h : Goes prog 3 (f3_M x0 x1 x2 x3) r) : Runs prog 3 [x0, x1, x2, x3] r := Runs.of (f3_MR x0 x1 x2 x3) h
theorem f3_0_J  {x0 y1 y2 y3 y4 y5 y6 y7 y8 y9 y10 y11 y12 y13 y14 y15 y16 y17 y18 y19 : TV} {r : TV} (h : Goes prog 3 (f3_0 x0 y1 y2 y3 y4 y5 y6 y7 y8 y9 y10 y11 y12 y13 y14 y15 y16 y17 y18 y19) r) : Goes prog 3 (.jmp [0, 0, 1, 0, 1, 1, 1, 1, 1, 1] (f3_0_S x0 y1 y2 y3 y4 y5 y6 y7 y8 y9 y10 y11 y12 y13 y14 y15 y16 y17 y18 y19)) r := Goes.jmp (f3_0_R x0 y1 y2 y3 y4 y5 y6 y7 y8 y9 y10 y11 y12 y13 y14 y15 y16 y17 y18 y19) h
theorem f3_1_J  {y0 y1 y2 y3 y4 y5 y6 y7 y8 y9 y10 y11 y12 y13 y14 y15 y16 y17 y18 : TV} {r : TV} (h : Goes prog 3 (f3_1 y0 y1 y2 y3 y4 y5 y6 y7 y8 y9 y10 y11 y12 y13 y14 y15 y16 y17 y18) r) : Goes prog 3 (.jmp [1, 1, 1, 1, 1, 1, 1] (f3_1_S y0 y1 y2 y3 y4 y5 y6 y7 y8 y9 y10 y11 y12 y13 y14 y15 y16 y17 y18)) r := Goes.jmp (f3_1_R y0 y1 y2 y3 y4 y5 y6 y7 y8 y9 y10 y11 y12 y13 y14 y15 y16 y17 y18) h
theorem f3_2_J  {x0 y1 y2 y3 y4 y5 y6 y7 y8 y9 y10 y11 y12 y13 y14 y15 y16 y17 y18 y19 : TV} {r : TV} (h : Goes prog 3 (f3_2 x0 y1 y2 y3 y4 y5 y6 y7 y8 y9 y10 y11 y12 y13 y14 y15 y16 y17 y18 y19) r) : Goes prog 3 (.jmp [0, 0, 1, 0, 1, 1, 1, 1, 1, 1, 1] (f3_2_S x0 y1 y2 y3 y4 y5 y6 y7 y8 y9 y10 y11 y12 y13 y14 y15 y16 y17 y18 y19)) r := Goes.jmp (f3_2_R x0 y1 y2 y3 y4 y5 y6 y7 y8 y9 y10 y11 y12 y13 y14 y15 y16 y17 y18 y19) h
theorem f3_3_J  {y0 y1 y2 y3 y4 y5 y6 y7 y8 y9 y10 y11 y12 y13 y14 y15 y16 y17 y18 : TV} {r : TV} (h : Goes prog 3 (f3_3 y0 y1 y2 y3 y4 y5 y6 y7 y8 y9 y10 y11 y12 y13 y14 y15 y16 y17 y18) r) : Goes prog 3 (.jmp [1, 1, 1, 1, 1, 1, 1, 1] (f3_3_S y0 y1 y2 y3 y4 y5 y6 y7 y8 y9 y10 y11 y12 y13 y14 y15 y16 y17 y18)) r := Goes.jmp (f3_3_R y0 y1 y2 y3 y4 y5 y6 y7 y8 y9 y10 y11 y12 y13 y14 y15 y16 y17 y18) h
def f5_M : Prg TV :=
  Prg.call 7 [TV.agg [frz (TV.sl true 3 (chunks 3 1 [TV.lit (Value.int IntKind.i64 (0 : Int)), TV.lit (Value.int IntKind.i64 (1 : Int)), TV.sl true 14 (chunks 14 1 [TV.lit (Value.bool false), TV.lit (Value.int IntKind.i64 (0 : Int)), TV.lit (Value.slice Option.none 0 0), TV.lit (Value.bool false), TV.lit (Value.bool false), TV.lit (Value.slice Option.none 0 0), TV.lit (Value.int IntKind.i64 (1 : Int)), TV.lit (Value.int IntKind.i64 (0 : Int)), TV.lit (Value.int IntKind.i64 (0 : Int)), TV.lit (Value.int IntKind.i64 (0 : Int)), TV.lit (Value.slice Option.none 0 0), TV.lit (Value.int IntKind.i64 (0 : Int)), TV.lit (Value.int IntKind.i64 (0 : Int)), TV.lit (Value.int IntKind.i64 (0 : Int))])]))]] fun v0 =>
  Prg.chk (TV.isTup v0 2) (
  Prg.chk (fitsAt zStr [TV.comp v0 0] 0) (
  Prg.chk (fitsAt zInt [TV.comp v0 1] 0) (
  Prg.tv (pbin (Kd.int IntKind.i64) BinOp.eql (TV.comp v0 1) (TV.lit (Value.int IntKind.i64 (0 : Int)))) fun v1 =>
  Prg.ite (asBool v1) (
    Prg.tv (pbin Kd.str BinOp.eql (TV.comp v0 0) (TV.lit (Value.string (ByteArray.mk (Array.mk [(102 : UInt8), (117 : UInt8), (110 : UInt8), (99 : UInt8), (32 : UInt8), (48 : UInt8), (32 : UInt8), (49 : UInt8), (10 : UInt8), (98 : UInt8), (108 : UInt8), (111 : UInt8), (99 : UInt8), (107 : UInt8), (10 : UInt8), (114 : UInt8), (101 : UInt8), (116 : UInt8), (32 : UInt8), (48 : UInt8), (10 : UInt8)]))))) fun v2 =>
    Prg.ite (asBool v2) (
      Prg.call 9 [TV.agg [TV.lit (Value.int IntKind.i64 (3 : Int)), TV.lit (Value.int IntKind.i64 (1 : Int)), TV.lit (Value.int IntKind.i64 (2 : Int)), TV.lit (Value.int IntKind.i64 (3 : Int)), TV.lit (Value.int IntKind.u16 (0 : Int)), TV.lit (Value.int IntKind.i64 (0 : Int)), TV.lit (Value.slice Option.none 0 0)]] fun v3 =>
      Prg.chk (fitsAt zStr [v3] 0) (
      Prg.tv (pbin Kd.str BinOp.eql v3 (TV.lit (Value.string (ByteArray.mk (Array.mk [(97 : UInt8), (100 : UInt8), (100 : UInt8), (32 : UInt8), (49 : UInt8), (32 : UInt8), (50 : UInt8), (32 : UInt8), (51 : UInt8)]))))) fun v4 =>
      Prg.ite (asBool v4) (
        Prg.call 11 [TV.agg [TV.lit (Value.int IntKind.i64 (6 : Int)), TV.lit (Value.int IntKind.i64 (0 : Int)), TV.lit (Value.int IntKind.i64 (0 : Int)), TV.lit (Value.int IntKind.i64 (0 : Int)), TV.lit (Value.slice Option.none 0 0), TV.lit (Value.int IntKind.i64 (0 : Int)), TV.lit (Value.int IntKind.i64 (0 : Int)), TV.lit (Value.int IntKind.i64 (0 : Int))]] fun v5 =>
        Prg.chk (fitsAt zStr [v5] 0) (
        Prg.tv (pbin Kd.str BinOp.eql v5 (TV.lit (Value.string (ByteArray.mk (Array.mk [(114 : UInt8), (101 : UInt8), (115 : UInt8), (117 : UInt8), (109 : UInt8), (101 : UInt8)]))))) fun v6 =>
        Prg.ite (asBool v6) (
          Prg.call 13 [TV.agg [TV.lit (Value.int IntKind.i64 (4 : Int)), frz (TV.sl true 1 (chunks 1 1 [TV.lit (Value.int IntKind.u16 (7 : Int))])), TV.lit (Value.bool true), TV.lit (Value.bool false)]] fun v7 =>
          Prg.chk (fitsAt zStr [v7] 0) (
          Prg.tv (pbin Kd.str BinOp.eql v7 (TV.lit (Value.string (ByteArray.mk (Array.mk [(112 : UInt8), (97 : UInt8), (100 : UInt8), (32 : UInt8), (52 : UInt8), (32 : UInt8), (99 : UInt8), (97 : UInt8), (116 : UInt8), (99 : UInt8), (104 : UInt8), (32 : UInt8), (55 : UInt8), (32 : UInt8), (97 : UInt8), (108 : UInt8), (108 : UInt8)]))))) fun v8 =>
          Prg.ret v8)) (
          Prg.ret (TV.lit (Value.bool false))))) (
        Prg.ret (TV.lit (Value.bool false))))) (
      Prg.ret (TV.lit (Value.bool false)))) (
    Prg.ret (TV.lit (Value.bool false))))))
theorem f5_MR : startQ prog 5 [] = f5_M  := by kernel_rfl

theorem f5_run {r : TV} (h : Goes prog 5 (f5_M ) r) : Runs prog 5 [] r := Runs.of (f5_MR ) h
def f6_0_S  (x0 x1 y2 : TV) : ASt := ⟨[AV.one CA.junk, AV.one (CA.ptr 0 0), AV.one CA.junk, AV.tv x0, AV.tv x1] ++ List.replicate 82 (AV.one CA.junk), [Option.some (BC.cells [CA.t y2])] ++ List.replicate 110 (Option.none), []⟩
def f6_1_S  (x0 x1 x2 y3 : TV) : ASt := ⟨[AV.one CA.junk, AV.one (CA.ptr 0 0), AV.one CA.junk, AV.tv x0, AV.tv x1, AV.tv x2] ++ List.replicate 81 (AV.one CA.junk), [Option.some (BC.cells [CA.t y3])] ++ List.replicate 110 (Option.none), []⟩
def f6_2_S  (x0 x1 x2 x3 y4 y5 y6 y7 y8 y9 y10 y11 y12 y13 y14 y15 y16 y17 y18 : TV) : ASt := ⟨[AV.one CA.junk, AV.one (CA.ptr 0 0), AV.one CA.junk, AV.tv x0, AV.tv x1, AV.tv x2, AV.one (CA.ptr 1 0), AV.tv x3] ++ List.replicate 79 (AV.one CA.junk), [Option.some (BC.cells [CA.t y4]), Option.some (BC.cells [CA.t y5, CA.t y6, CA.t y7, CA.t y8, CA.t y9, CA.t y10, CA.t y11, CA.t y12, CA.t y13, CA.t y14, CA.t y15, CA.t y16, CA.t y17, CA.t y18])] ++ List.replicate 109 (Option.none), []⟩
def f6_M (x0 : TV) : Prg TV :=
  Prg.chk (TV.isAgg x0 1) (
  Prg.tv (plen (Kd.slice 59) (TV.cell x0 0)) fun v0 =>
  Prg.tv (pbin (Kd.int IntKind.i64) BinOp.gtr v0 (TV.lit (Value.int IntKind.i64 (20 : Int)))) fun v1 =>
  Prg.ite (asBool v1) (
    Prg.ret (TV.lit (Value.bool false))) (
    Prg.jmp [0, 0, 1, 0, 1, 1, 1] (f6_0_S (TV.lit (Value.int IntKind.i64 (0 : Int))) (TV.lit (Value.int IntKind.i64 (0 : Int))) (TV.cell x0 0))))
-- [0, 0, 1, 0, 1, 1, 1]
def f6_0  (x0 x1 y2 : TV) : Prg TV :=
  Prg.tv (plen (Kd.slice 59) y2) fun v2 =>
  Prg.tv (pbin (Kd.int IntKind.i64) BinOp.lss x1 v2) fun v3 =>
  Prg.ite (asBool v3) (
    Prg.tvs (pidx 3 y2 x1) fun e4 =>
    Prg.chk (Nat.blt 2 (List.length e4)) (
    Prg.tv (plen (Kd.slice 56) (nth TV.hole e4 2)) fun v5 =>
    Prg.tv (pbin (Kd.int IntKind.i64) BinOp.gtr v5 (TV.lit (Value.int IntKind.i64 (70 : Int)))) fun v6 =>
    Prg.ite (asBool v6) (
      Prg.ret (TV.lit (Value.bool false))) (
      Prg.jmp [0, 0, 1, 1, 0, 0, 1, 0, 0, 1, 0, 1, 1, 1] (f6_1_S x0 x1 (TV.lit (Value.int IntKind.i64 (0 : Int))) y2)))) (
    Prg.tv (pbin (Kd.int IntKind.i64) BinOp.leq x0 (TV.lit (Value.int IntKind.i64 (2000 : Int)))) fun v7 =>
    Prg.ret v7)
-- [0, 0, 1, 1, 0, 0, 1, 0, 0, 1, 0, 1, 1, 1]
def f6_1  (x0 x1 x2 y3 : TV) : Prg TV :=
  Prg.tvs (pidx 3 y3 x1) fun e8 =>
  Prg.chk (Nat.blt 2 (List.length e8)) (
  Prg.tv (plen (Kd.slice 56) (nth TV.hole e8 2)) fun v9 =>
  Prg.tv (pbin (Kd.int IntKind.i64) BinOp.lss x2 v9) fun v10 =>
  Prg.ite (asBool v10) (
    Prg.tvs (pidx 3 y3 x1) fun e11 =>
    Prg.chk (Nat.blt 2 (List.length e11)) (
    Prg.tvs (pidx 14 (nth TV.hole e11 2) x2) fun e12 =>
    Prg.chk (Nat.ble 14 (List.length e12)) (
    Prg.tv (plen (Kd.slice 28) (nth TV.hole e12 5)) fun v13 =>
    Prg.tv (pbin (Kd.int IntKind.i64) BinOp.gtr v13 (TV.lit (Value.int IntKind.i64 (70 : Int)))) fun v14 =>
    Prg.ite (asBool v14) (
      Prg.ret (TV.lit (Value.bool false))) (
      Prg.tv (plen (Kd.slice 25) (nth TV.hole e12 2)) fun v15 =>
      Prg.tv (pbin (Kd.int IntKind.i64) BinOp.gtr v15 (TV.lit (Value.int IntKind.i64 (20 : Int)))) fun v16 =>
      Prg.ite (asBool v16) (
        Prg.ret (TV.lit (Value.bool false))) (
        Prg.tv (plen (Kd.slice 3) (nth TV.hole e12 10)) fun v17 =>
        Prg.tv (pbin (Kd.int IntKind.i64) BinOp.gtr v17 (TV.lit (Value.int IntKind.i64 (20 : Int)))) fun v18 =>
        Prg.ite (asBool v18) (
          Prg.ret (TV.lit (Value.bool false))) (
          Prg.tv (plen (Kd.slice 28) (nth TV.hole e12 5)) fun v19 =>
          Prg.tv (pbin (Kd.int IntKind.i64) BinOp.add x0 v19) fun v20 =>
          Prg.jmp [0, 0, 1, 1, 1, 1, 0, 0, 1, 0, 0, 1, 1, 0, 0, 1, 0, 0, 1, 0, 1, 1, 1] (f6_2_S v20 x1 x2 (TV.lit (Value.int IntKind.i64 (0 : Int))) y3 (nth TV.hole e12 0) (nth TV.hole e12 1) (nth TV.hole e12 2) (nth TV.hole e12 3) (nth TV.hole e12 4) (nth TV.hole e12 5) (nth TV.hole e12 6) (nth TV.hole e12 7) (nth TV.hole e12 8) (nth TV.hole e12 9) (nth TV.hole e12 10) (nth TV.hole e12 11) (nth TV.hole e12 12) (nth TV.hole e12 13)))))))) (
    Prg.tv (pbin (Kd.int IntKind.i64) BinOp.add x1 (TV.lit (Value.int IntKind.i64 (1 : Int)))) fun v21 =>
    Prg.jmp [0, 0, 1, 0, 1, 1, 1] (f6_0_S x0 v21 y3)))
-- [0, 0, 1, 1, 1, 1, 0, 0, 1, 0, 0, 1, 1, 0, 0, 1, 0, 0, 1, 0, 1, 1, 1]
def f6_2  (x0 x1 x2 x3 y4 y5 y6 y7 y8 y9 y10 y11 y12 y13 y14 y15 y16 y17 y18 : TV) : Prg TV :=
  Prg.tv (plen (Kd.slice 28) y10) fun v22 =>
  Prg.tv (pbin (Kd.int IntKind.i64) BinOp.lss x3 v22) fun v23 =>
  Prg.ite (asBool v23) (
    Prg.tvs (pidx 7 y10 x3) fun e24 =>
    Prg.chk (Nat.blt 6 (List.length e24)) (
    Prg.tv (plen (Kd.slice 3) (nth TV.hole e24 6)) fun v25 =>
    Prg.tv (pbin (Kd.int IntKind.i64) BinOp.gtr v25 (TV.lit (Value.int IntKind.i64 (20 : Int)))) fun v26 =>
    Prg.ite (asBool v26) (
      Prg.ret (TV.lit (Value.bool false))) (
      Prg.tv (pbin (Kd.int IntKind.i64) BinOp.add x3 (TV.lit (Value.int IntKind.i64 (1 : Int)))) fun v27 =>
      Prg.jmp [0, 0, 1, 1, 1, 1, 0, 0, 1, 0, 0, 1, 1, 0, 0, 1, 0, 0, 1, 0, 1, 1, 1] (f6_2_S x0 x1 x2 v27 y4 y5 y6 y7 y8 y9 y10 y11 y12 y13 y14 y15 y16 y17 y18)))) (
    Prg.tv (pbin (Kd.int IntKind.i64) BinOp.add x2 (TV.lit (Value.int IntKind.i64 (1 : Int)))) fun v28 =>
    Prg.jmp [0, 0, 1, 1, 0, 0, 1, 0, 0, 1, 0, 1, 1, 1] (f6_1_S x0 x1 v28 y4))
theorem f6_MR (x0 : TV) : startQ prog 6 [x0] = f6_M x0 := by kernel_rfl
theorem f6_0_R  (x0 x1 y2 : TV) : pieceQ prog 6 [0, 0, 1, 0, 1, 1, 1] (f6_0_S x0 x1 y2) = f6_0 x0 x1 y2 := by kernel_rfl
theorem f6_1_R  (x0 x1 x2 y3 : TV) : pieceQ prog 6 [0, 0, 1, 1, 0, 0, 1, 0, 0, 1, 0, 1, 1, 1] (f6_1_S x0 x1 x2 y3) = f6_1 x0 x1 x2 y3 := by kernel_rfl
theorem f6_2_R  (x0 x1 x2 x3 y4 y5 y6 y7 y8 y9 y10 y11 y12 y13 y14 y15 y16 y17 y18 : TV) : pieceQ prog 6 [0, 0, 1, 1, 1, 1, 0, 0, 1, 0, 0, 1, 1, 0, 0, 1, 0, 0, 1, 0, 1, 1, 1] (f6_2_S x0 x1 x2 x3 y4 y5 y6 y7 y8 y9 y10 y11 y12 y13 y14 y15 y16 y17 y18) = f6_2 x0 x1 x2 x3 y4 y5 y6 y7 y8 y9 y10 y11 y12 y13 y14 y15 y16 y17 y18 := by kernel_rfl

theorem f6_run {x0 : TV} {r : TV} (h : Goes prog 6 (f6_M x0) r) : Runs prog 6 [x0] r := Runs.of (f6_MR x0) h
theorem f6_0_J  {x0 x1 y2 : TV} {r : TV} (h : Goes prog 6 (f6_0 x0 x1 y2) r) : Goes prog 6 (.jmp [0, 0, 1, 0, 1, 1, 1] (f6_0_S x0 x1 y2)) r := Goes.jmp (f6_0_R x0 x1 y2) h
theorem f6_1_J  {x0 x1 x2 y3 : TV} {r : TV} (h : Goes prog 6 (f6_1 x0 x1 x2 y3) r) : Goes prog 6 (.jmp [0, 0, 1, 1, 0, 0, 1, 0, 0, 1, 0, 1, 1, 1] (f6_1_S x0 x1 x2 y3)) r := Goes.jmp (f6_1_R x0 x1 x2 y3) h
theorem f6_2_J  {x0 x1 x2 x3 y4 y5 y6 y7 y8 y9 y10 y11 y12 y13 y14 y15 y16 y17 y18 : TV} {r : TV} (h : Goes prog 6 (f6_2 x0 x1 x2 x3 y4 y5 y6 y7 y8 y9 y10 y11 y12 y13 y14 y15 y16 y17 y18) r) : Goes prog 6 (.jmp [0, 0, 1, 1, 1, 1, 0, 0, 1, 0, 0, 1, 1, 0, 0, 1, 0, 0, 1, 0, 1, 1, 1] (f6_2_S x0 x1 x2 x3 y4 y5 y6 y7 y8 y9 y10 y11 y12 y13 y14 y15 y16 y17 y18)) r := Goes.jmp (f6_2_R x0 x1 x2 x3 y4 y5 y6 y7 y8 y9 y10 y11 y12 y13 y14 y15 y16 y17 y18) h
def f7_0_S  (x0 x1 x2 w3 w4 : TV) : ASt := ⟨List.replicate 4 (AV.one CA.junk) ++ [AV.one (CA.ptr 0 0)] ++ List.replicate 8 (AV.one CA.junk) ++ [AV.tv x0, AV.tv x1, AV.tv x2] ++ List.replicate 24 (AV.one CA.junk), [Option.some (BC.cells [CA.may 0 63, CA.sref 1 1 []]), Option.some (BC.tree [w3, w4])] ++ List.replicate 62 (Option.none), []⟩
def f7_1_S  (x0 x1 x2 x3 x4 x5 w6 w7 : TV) : ASt := ⟨List.replicate 4 (AV.one CA.junk) ++ [AV.one (CA.ptr 0 0)] ++ List.replicate 8 (AV.one CA.junk) ++ [AV.tv x0, AV.tv x1, AV.tv x2] ++ List.replicate 11 (AV.one CA.junk) ++ [AV.tv x3, AV.tv x4, AV.tv x5] ++ List.replicate 10 (AV.one CA.junk), [Option.some (BC.cells [CA.may 0 (LentD.ty (LentD.mk 63 [Fl.may, Fl.bf 5])), CA.sref 1 1 []]), Option.some (BC.tree [w6, w7])] ++ List.replicate 62 (Option.none), []⟩
def f7_2_S  (w0 w1 : TV) : ASt := ⟨List.replicate 4 (AV.one CA.junk) ++ [AV.one (CA.ptr 0 0)] ++ List.replicate 35 (AV.one CA.junk), [Option.some (BC.cells [CA.may 0 63, CA.sref 1 1 []]), Option.some (BC.tree [w0, w1])] ++ List.replicate 62 (Option.none), []⟩
def f7_M (x0 : TV) : Prg TV :=
  Prg.chk (TV.isAgg x0 1) (
  Prg.call 21 [TV.agg [TV.cell x0 0]] fun v0 =>
  Prg.chk (fitsAt zBool [v0] 0) (
  Prg.tv (pun UnOp.not v0) fun v1 =>
  Prg.ite (asBool v1) (
    Prg.ret (TV.tup [TV.lit (Value.string (ByteArray.mk (Array.mk []))), TV.lit (Value.int IntKind.i64 (1 : Int))])) (
    Prg.tv (plen (Kd.slice 59) (TV.cell x0 0)) fun v2 =>
    Prg.chk true (
    Prg.jmp [0, 0, 1, 0, 1, 1, 1] (f7_0_S (TV.cell x0 0) v2 (TV.lit (Value.int IntKind.i64 (0 : Int))) TV.hole (TV.lit (Value.slice Option.none 0 0)))))))
-- [0, 0, 1, 0, 1, 1, 1]
def f7_0  (x0 x1 x2 w3 w4 : TV) : Prg TV :=
  Prg.tv (pbin (Kd.int IntKind.i64) BinOp.lss x2 x1) fun v3 =>
  Prg.ite (asBool v3) (
    Prg.tvs (pidx 3 x0 x2) fun e4 =>
    Prg.chk (Nat.ble 3 (List.length e4)) (
    Prg.call 23 [TV.lit (Value.string (ByteArray.mk (Array.mk [(102 : UInt8), (117 : UInt8), (110 : UInt8), (99 : UInt8)]))), frz (TV.sl true 1 (chunks 1 2 [nth TV.hole e4 0, nth TV.hole e4 1]))] fun v5 =>
    Prg.chk (fitsAt zStr [v5] 0) (
    Prg.chk (Bool.and true (Bool.and (TV.isBuf (bufOf 5 w4) 5) true)) (
    Prg.call 22 [TV.tup [TV.tup [], bufOf 5 w4], v5] fun v6 =>
    Prg.chk (Bool.and (Bool.and (TV.isTup v6 2) (TV.isTup (TV.comp v6 1) 2)) (Bool.and (TV.isMay (TV.comp (TV.comp v6 1) 0)) (Bool.and (TV.isBuf (TV.comp (TV.comp v6 1) 1) 5) true))) (
    Prg.chk (TV.isTup (TV.comp v6 0) 0) (
    Prg.tv (plen (Kd.slice 56) (nth TV.hole e4 2)) fun v7 =>
    Prg.jmp [0, 0, 1, 1, 1, 0, 0, 1, 1, 0, 0, 1, 0, 1, 1, 1] (f7_1_S x0 x1 x2 (nth TV.hole e4 2) v7 (TV.lit (Value.int IntKind.i64 (0 : Int))) TV.hole (TV.comp (TV.comp v6 1) 1)))))))) (
    Prg.jmp [1, 1, 1, 1] (f7_2_S w3 w4))
-- [0, 0, 1, 1, 1, 0, 0, 1, 1, 0, 0, 1, 0, 1, 1, 1]
def f7_1  (x0 x1 x2 x3 x4 x5 w6 w7 : TV) : Prg TV :=
  Prg.tv (pbin (Kd.int IntKind.i64) BinOp.lss x5 x4) fun v8 =>
  Prg.ite (asBool v8) (
    Prg.tvs (pidx 14 x3 x5) fun e9 =>
    Prg.chk (Nat.ble 14 (List.length e9)) (
    Prg.chk (Bool.and true (Bool.and (TV.isBuf (bufOf 5 w7) 5) true)) (
    Prg.call 24 [TV.tup [TV.tup [], bufOf 5 w7], TV.agg [nth TV.hole e9 0, nth TV.hole e9 1, nth TV.hole e9 2, nth TV.hole e9 3, nth TV.hole e9 4, nth TV.hole e9 5, nth TV.hole e9 6, nth TV.hole e9 7, nth TV.hole e9 8, nth TV.hole e9 9, nth TV.hole e9 10, nth TV.hole e9 11, nth TV.hole e9 12, nth TV.hole e9 13]] fun v10 =>
    Prg.chk (Bool.and (Bool.and (TV.isTup v10 2) (TV.isTup (TV.comp v10 1) 2)) (Bool.and (TV.isMay (TV.comp (TV.comp v10 1) 0)) (Bool.and (TV.isBuf (TV.comp (TV.comp v10 1) 1) 5) true))) (
    Prg.chk (TV.isTup (TV.comp v10 0) 0) (
    Prg.tv (pbin (Kd.int IntKind.i64) BinOp.add x5 (TV.lit (Value.int IntKind.i64 (1 : Int)))) fun v11 =>
    Prg.jmp [0, 0, 1, 1, 1, 0, 0, 1, 1, 0, 0, 1, 0, 1, 1, 1] (f7_1_S x0 x1 x2 x3 x4 v11 TV.hole (TV.comp (TV.comp v10 1) 1))))))) (
    Prg.tv (pbin (Kd.int IntKind.i64) BinOp.add x2 (TV.lit (Value.int IntKind.i64 (1 : Int)))) fun v12 =>
    Prg.jmp [0, 0, 1, 0, 1, 1, 1] (f7_0_S x0 x1 v12 w6 w7))
-- [1, 1, 1, 1]
def f7_2  (w0 w1 : TV) : Prg TV :=
  Prg.chk (Bool.and true (Bool.and (TV.isBuf (bufOf 5 w1) 5) true)) (
  Prg.call 25 [TV.tup [TV.tup [], bufOf 5 w1]] fun v13 =>
  Prg.chk (Bool.and (Bool.and (TV.isTup v13 2) (TV.isTup (TV.comp v13 1) 2)) (Bool.and (TV.isMay (TV.comp (TV.comp v13 1) 0)) (Bool.and (TV.isBuf (TV.comp (TV.comp v13 1) 1) 5) true))) (
  Prg.chk (fitsAt zInt [TV.comp v13 0] 0) (
  Prg.tv (pbin (Kd.int IntKind.i64) BinOp.gtr (TV.comp v13 0) (TV.lit (Value.int IntKind.i64 (65536 : Int)))) fun v14 =>
  Prg.ite (asBool v14) (
    Prg.ret (TV.tup [TV.lit (Value.string (ByteArray.mk (Array.mk []))), TV.lit (Value.int IntKind.i64 (3 : Int))])) (
    Prg.chk (Bool.and true (Bool.and (TV.isBuf (bufOf 5 (TV.comp (TV.comp v13 1) 1)) 5) true)) (
    Prg.call 26 [TV.tup [TV.tup [], bufOf 5 (TV.comp (TV.comp v13 1) 1)]] fun v15 =>
    Prg.chk (Bool.and (Bool.and (TV.isTup v15 2) (TV.isTup (TV.comp v15 1) 2)) (Bool.and (TV.isMay (TV.comp (TV.comp v15 1) 0)) (Bool.and (TV.isBuf (TV.comp (TV.comp v15 1) 1) 5) true))) (
    Prg.chk (fitsAt zStr [TV.comp v15 0] 0) (
    Prg.ret (TV.tup [TV.comp v15 0, TV.lit (Value.int IntKind.i64 (0 : Int))]))))))))
theorem f7_MR (x0 : TV) : startQ prog 7 [x0] = f7_M x0 := by kernel_rfl
theorem f7_0_R  (x0 x1 x2 w3 w4 : TV) : pieceQ prog 7 [0, 0, 1, 0, 1, 1, 1] (f7_0_S x0 x1 x2 w3 w4) = f7_0 x0 x1 x2 w3 w4 := by kernel_rfl
theorem f7_1_R  (x0 x1 x2 x3 x4 x5 w6 w7 : TV) : pieceQ prog 7 [0, 0, 1, 1, 1, 0, 0, 1, 1, 0, 0, 1, 0, 1, 1, 1] (f7_1_S x0 x1 x2 x3 x4 x5 w6 w7) = f7_1 x0 x1 x2 x3 x4 x5 w6 w7 := by kernel_rfl
theorem f7_2_R  (w0 w1 : TV) : pieceQ prog 7 [1, 1, 1, 1] (f7_2_S w0 w1) = f7_2 w0 w1 := by kernel_rfl

theorem f7_run {x0 : TV} {r : TV} (h : Goes prog 7 (f7_M x0) r) : Runs prog 7 [x0] r := Runs.of (f7_MR x0) h
theorem f7_0_J  {x0 x1 x2 w3 w4 : TV} {r : TV} (h : Goes prog 7 (f7_0 x0 x1 x2 w3 w4) r) : Goes prog 7 (.jmp [0, 0, 1, 0, 1, 1, 1] (f7_0_S x0 x1 x2 w3 w4)) r := Goes.jmp (f7_0_R x0 x1 x2 w3 w4) h
theorem f7_1_J  {x0 x1 x2 x3 x4 x5 w6 w7 : TV} {r : TV} (h : Goes prog 7 (f7_1 x0 x1 x2 x3 x4 x5 w6 w7) r) : Goes prog 7 (.jmp [0, 0, 1, 1, 1, 0, 0, 1, 1, 0, 0, 1, 0, 1, 1, 1] (f7_1_S x0 x1 x2 x3 x4 x5 w6 w7)) r := Goes.jmp (f7_1_R x0 x1 x2 x3 x4 x5 w6 w7) h
theorem f7_2_J  {w0 w1 : TV} {r : TV} (h : Goes prog 7 (f7_2 w0 w1) r) : Goes prog 7 (.jmp [1, 1, 1, 1] (f7_2_S w0 w1)) r := Goes.jmp (f7_2_R w0 w1) h
def f8_0_S  (x0 y1 w2 : TV) : ASt := ⟨[AV.one CA.junk, AV.one (CA.ptr 0 0), AV.one CA.junk, AV.one CA.junk, AV.one (CA.sref 1 0 []), AV.tv x0] ++ List.replicate 80 (AV.one CA.junk), [Option.some (BC.cells [CA.t y1]), Option.some (BC.tree [w2])] ++ List.replicate 108 (Option.none), []⟩
def f8_1_S  (x0 x1 y2 w3 y4 y5 y6 : TV) : ASt := ⟨[AV.one CA.junk, AV.one (CA.ptr 0 0), AV.one CA.junk, AV.one CA.junk, AV.one (CA.sref 1 0 []), AV.tv x0, AV.one (CA.ptr 2 0), AV.tv x1] ++ List.replicate 78 (AV.one CA.junk), [Option.some (BC.cells [CA.t y2]), Option.some (BC.tree [w3]), Option.some (BC.cells [CA.t y4, CA.t y5, CA.t y6])] ++ List.replicate 107 (Option.none), []⟩
def f8_2_S  (w0 : TV) : ASt := ⟨List.replicate 4 (AV.one CA.junk) ++ [AV.one (CA.sref 0 0 [])] ++ List.replicate 81 (AV.one CA.junk), [Option.some (BC.tree [w0])] ++ List.replicate 109 (Option.none), []⟩
def f8_3_S  (x0 x1 x2 y3 w4 y5 y6 y7 y8 y9 y10 y11 y12 y13 y14 y15 y16 y17 y18 y19 y20 y21 : TV) : ASt := ⟨[AV.one CA.junk, AV.one (CA.ptr 0 0), AV.one CA.junk, AV.one CA.junk, AV.one (CA.sref 1 0 []), AV.tv x0, AV.one (CA.ptr 2 0), AV.tv x1, AV.one (CA.ptr 3 0), AV.tv x2] ++ List.replicate 76 (AV.one CA.junk), [Option.some (BC.cells [CA.t y3]), Option.some (BC.tree [w4]), Option.some (BC.cells [CA.t y5, CA.t y6, CA.t y7]), Option.some (BC.cells [CA.t y8, CA.t y9, CA.t y10, CA.t y11, CA.t y12, CA.t y13, CA.t y14, CA.t y15, CA.t y16, CA.t y17, CA.t y18, CA.t y19, CA.t y20, CA.t y21])] ++ List.replicate 106 (Option.none), []⟩
def f8_4_S  (x0 x1 x2 y3 w4 y5 y6 y7 y8 y9 y10 y11 y12 y13 y14 y15 y16 y17 y18 y19 y20 y21 : TV) : ASt := ⟨[AV.one CA.junk, AV.one (CA.ptr 0 0), AV.one CA.junk, AV.one CA.junk, AV.one (CA.sref 1 0 []), AV.tv x0, AV.one (CA.ptr 2 0), AV.tv x1, AV.one (CA.ptr 3 0), AV.one CA.junk, AV.tv x2] ++ List.replicate 75 (AV.one CA.junk), [Option.some (BC.cells [CA.t y3]), Option.some (BC.tree [w4]), Option.some (BC.cells [CA.t y5, CA.t y6, CA.t y7]), Option.some (BC.cells [CA.t y8, CA.t y9, CA.t y10, CA.t y11, CA.t y12, CA.t y13, CA.t y14, CA.t y15, CA.t y16, CA.t y17, CA.t y18, CA.t y19, CA.t y20, CA.t y21])] ++ List.replicate 106 (Option.none), []⟩
def f8_5_S  (x0 x1 y2 w3 y4 y5 y6 y7 y8 y9 y10 y11 y12 y13 y14 y15 y16 y17 y18 y19 y20 : TV) : ASt := ⟨[AV.one CA.junk, AV.one (CA.ptr 0 0), AV.one CA.junk, AV.one CA.junk, AV.one (CA.sref 1 0 []), AV.tv x0, AV.one (CA.ptr 2 0), AV.tv x1, AV.one (CA.ptr 3 0)] ++ List.replicate 77 (AV.one CA.junk), [Option.some (BC.cells [CA.t y2]), Option.some (BC.tree [w3]), Option.some (BC.cells [CA.t y4, CA.t y5, CA.t y6]), Option.some (BC.cells [CA.t y7, CA.t y8, CA.t y9, CA.t y10, CA.t y11, CA.t y12, CA.t y13, CA.t y14, CA.t y15, CA.t y16, CA.t y17, CA.t y18, CA.t y19, CA.t y20])] ++ List.replicate 106 (Option.none), []⟩
def f8_M (x0 : TV) : Prg TV :=
  Prg.chk (TV.isAgg x0 1) (
  Prg.call 27 [TV.agg [TV.cell x0 0]] fun v0 =>
  Prg.chk (fitsAt zBool [v0] 0) (
  Prg.tv (pun UnOp.not v0) fun v1 =>
  Prg.ite (asBool v1) (
    Prg.ret (TV.tup [TV.lit (Value.string (ByteArray.mk (Array.mk []))), TV.lit (Value.int IntKind.i64 (1 : Int))])) (
    Prg.chk true (
    Prg.jmp [0, 0, 1, 0, 1, 1, 1] (f8_0_S (TV.lit (Value.int IntKind.i64 (0 : Int))) (TV.cell x0 0) (TV.lit (Value.slice Option.none 0 0)))))))
-- [0, 0, 1, 0, 1, 1, 1]
def f8_0  (x0 y1 w2 : TV) : Prg TV :=
  Prg.tv (plen (Kd.slice 59) y1) fun v2 =>
  Prg.tv (pbin (Kd.int IntKind.i64) BinOp.lss x0 v2) fun v3 =>
  Prg.ite (asBool v3) (
    Prg.tvs (pidx 3 y1 x0) fun e4 =>
    Prg.chk (Nat.ble 3 (List.length e4)) (
    Prg.call 28 [nth TV.hole e4 0] fun v5 =>
    Prg.chk (fitsAt zStr [v5] 0) (
    Prg.tv (pbin Kd.str BinOp.add (TV.lit (Value.string (ByteArray.mk (Array.mk [(102 : UInt8), (117 : UInt8), (110 : UInt8), (99 : UInt8), (32 : UInt8)])))) v5) fun v6 =>
    Prg.tv (pbin Kd.str BinOp.add v6 (TV.lit (Value.string (ByteArray.mk (Array.mk [(32 : UInt8)]))))) fun v7 =>
    Prg.call 28 [nth TV.hole e4 1] fun v8 =>
    Prg.chk (fitsAt zStr [v8] 0) (
    Prg.tv (pbin Kd.str BinOp.add v7 v8) fun v9 =>
    Prg.tv (pbin Kd.str BinOp.add v9 (TV.lit (Value.string (ByteArray.mk (Array.mk [(10 : UInt8)]))))) fun v10 =>
    Prg.rws (pbytes v10) fun r11 =>
    Prg.tv (papp 1 w2 r11) fun v12 =>
    Prg.jmp [0, 0, 1, 1, 1, 0, 0, 1, 0, 0, 1, 0, 1, 1, 1] (f8_1_S x0 (TV.lit (Value.int IntKind.i64 (0 : Int))) y1 v12 (nth TV.hole e4 0) (nth TV.hole e4 1) (nth TV.hole e4 2)))))) (
    Prg.jmp [1, 1, 1, 1] (f8_2_S w2))
-- [0, 0, 1, 1, 1, 0, 0, 1, 0, 0, 1, 0, 1, 1, 1]
def f8_1  (x0 x1 y2 w3 y4 y5 y6 : TV) : Prg TV :=
  Prg.tv (plen (Kd.slice 56) y6) fun v13 =>
  Prg.tv (pbin (Kd.int IntKind.i64) BinOp.lss x1 v13) fun v14 =>
  Prg.ite (asBool v14) (
    Prg.tvs (pidx 14 y6 x1) fun e15 =>
    Prg.chk (Nat.ble 14 (List.length e15)) (
    Prg.ite (asBool (nth TV.hole e15 0)) (
      Prg.call 14 [TV.agg [nth TV.hole e15 1, nth TV.hole e15 2, nth TV.hole e15 3, nth TV.hole e15 4]] fun v16 =>
      Prg.chk (fitsAt zStr [v16] 0) (
      Prg.jmp [1, 1, 1, 0, 0, 1, 0, 0, 1, 1, 1, 0, 0, 1, 0, 0, 1, 0, 1, 1, 1] (f8_3_S x0 x1 v16 y2 w3 y4 y5 y6 (nth TV.hole e15 0) (nth TV.hole e15 1) (nth TV.hole e15 2) (nth TV.hole e15 3) (nth TV.hole e15 4) (nth TV.hole e15 5) (nth TV.hole e15 6) (nth TV.hole e15 7) (nth TV.hole e15 8) (nth TV.hole e15 9) (nth TV.hole e15 10) (nth TV.hole e15 11) (nth TV.hole e15 12) (nth TV.hole e15 13)))) (
      Prg.jmp [1, 1, 1, 0, 0, 1, 0, 0, 1, 1, 1, 0, 0, 1, 0, 0, 1, 0, 1, 1, 1] (f8_3_S x0 x1 (TV.lit (Value.string (ByteArray.mk (Array.mk [(98 : UInt8), (108 : UInt8), (111 : UInt8), (99 : UInt8), (107 : UInt8)])))) y2 w3 y4 y5 y6 (nth TV.hole e15 0) (nth TV.hole e15 1) (nth TV.hole e15 2) (nth TV.hole e15 3) (nth TV.hole e15 4) (nth TV.hole e15 5) (nth TV.hole e15 6) (nth TV.hole e15 7) (nth TV.hole e15 8) (nth TV.hole e15 9) (nth TV.hole e15 10) (nth TV.hole e15 11) (nth TV.hole e15 12) (nth TV.hole e15 13))))) (
    Prg.tv (pbin (Kd.int IntKind.i64) BinOp.add x0 (TV.lit (Value.int IntKind.i64 (1 : Int)))) fun v17 =>
    Prg.jmp [0, 0, 1, 0, 1, 1, 1] (f8_0_S v17 y2 w3))
-- [1, 1, 1, 1]
def f8_2  (w0 : TV) : Prg TV :=
  Prg.tv (plen (Kd.slice 5) w0) fun v18 =>
  Prg.tv (pbin (Kd.int IntKind.i64) BinOp.gtr v18 (TV.lit (Value.int IntKind.i64 (65536 : Int)))) fun v19 =>
  Prg.ite (asBool v19) (
    Prg.ret (TV.tup [TV.lit (Value.string (ByteArray.mk (Array.mk []))), TV.lit (Value.int IntKind.i64 (3 : Int))])) (
    Prg.rws (pelems 1 w0) fun r20 =>
    Prg.tv (pstrB r20) fun v21 =>
    Prg.ret (TV.tup [v21, TV.lit (Value.int IntKind.i64 (0 : Int))]))
-- [1, 1, 1, 0, 0, 1, 0, 0, 1, 1, 1, 0, 0, 1, 0, 0, 1, 0, 1, 1, 1]
def f8_3  (x0 x1 x2 y3 w4 y5 y6 y7 y8 y9 y10 y11 y12 y13 y14 y15 y16 y17 y18 y19 y20 y21 : TV) : Prg TV :=
  Prg.tv (pbin Kd.str BinOp.add x2 (TV.lit (Value.string (ByteArray.mk (Array.mk [(10 : UInt8)]))))) fun v22 =>
  Prg.rws (pbytes v22) fun r23 =>
  Prg.tv (papp 1 w4 r23) fun v24 =>
  Prg.jmp [0, 0, 1, 0, 1, 1, 1, 1, 0, 0, 1, 0, 0, 1, 1, 1, 0, 0, 1, 0, 0, 1, 0, 1, 1, 1] (f8_4_S x0 x1 (TV.lit (Value.int IntKind.i64 (0 : Int))) y3 v24 y5 y6 y7 y8 y9 y10 y11 y12 y13 y14 y15 y16 y17 y18 y19 y20 y21)
-- [0, 0, 1, 0, 1, 1, 1, 1, 0, 0, 1, 0, 0, 1, 1, 1, 0, 0, 1, 0, 0, 1, 0, 1, 1, 1]
def f8_4  (x0 x1 x2 y3 w4 y5 y6 y7 y8 y9 y10 y11 y12 y13 y14 y15 y16 y17 y18 y19 y20 y21 : TV) : Prg TV :=
  Prg.tv (plen (Kd.slice 28) y13) fun v25 =>
  Prg.tv (pbin (Kd.int IntKind.i64) BinOp.lss x2 v25) fun v26 =>
  Prg.ite (asBool v26) (
    Prg.tvs (pidx 7 y13 x2) fun e27 =>
    Prg.chk (Nat.ble 7 (List.length e27)) (
    Prg.call 10 [TV.agg [nth TV.hole e27 0, nth TV.hole e27 1, nth TV.hole e27 2, nth TV.hole e27 3, nth TV.hole e27 4, nth TV.hole e27 5, nth TV.hole e27 6]] fun v28 =>
    Prg.chk (fitsAt zStr [v28] 0) (
    Prg.tv (pbin Kd.str BinOp.add v28 (TV.lit (Value.string (ByteArray.mk (Array.mk [(10 : UInt8)]))))) fun v29 =>
    Prg.rws (pbytes v29) fun r30 =>
    Prg.tv (papp 1 w4 r30) fun v31 =>
    Prg.tv (pbin (Kd.int IntKind.i64) BinOp.add x2 (TV.lit (Value.int IntKind.i64 (1 : Int)))) fun v32 =>
    Prg.jmp [0, 0, 1, 0, 1, 1, 1, 1, 0, 0, 1, 0, 0, 1, 1, 1, 0, 0, 1, 0, 0, 1, 0, 1, 1, 1] (f8_4_S x0 x1 v32 y3 v31 y5 y6 y7 y8 y9 y10 y11 y12 y13 y14 y15 y16 y17 y18 y19 y20 y21)))) (
    Prg.jmp [1, 1, 1, 1, 1, 0, 0, 1, 0, 0, 1, 1, 1, 0, 0, 1, 0, 0, 1, 0, 1, 1, 1] (f8_5_S x0 x1 y3 w4 y5 y6 y7 y8 y9 y10 y11 y12 y13 y14 y15 y16 y17 y18 y19 y20 y21))
-- [1, 1, 1, 1, 1, 0, 0, 1, 0, 0, 1, 1, 1, 0, 0, 1, 0, 0, 1, 0, 1, 1, 1]
def f8_5  (x0 x1 y2 w3 y4 y5 y6 y7 y8 y9 y10 y11 y12 y13 y14 y15 y16 y17 y18 y19 y20 : TV) : Prg TV :=
  Prg.call 12 [TV.agg [y13, y14, y15, y16, y17, y18, y19, y20]] fun v33 =>
  Prg.chk (fitsAt zStr [v33] 0) (
  Prg.tv (pbin Kd.str BinOp.add v33 (TV.lit (Value.string (ByteArray.mk (Array.mk [(10 : UInt8)]))))) fun v34 =>
  Prg.rws (pbytes v34) fun r35 =>
  Prg.tv (papp 1 w3 r35) fun v36 =>
  Prg.tv (pbin (Kd.int IntKind.i64) BinOp.add x1 (TV.lit (Value.int IntKind.i64 (1 : Int)))) fun v37 =>
  Prg.jmp [0, 0, 1, 1, 1, 0, 0, 1, 0, 0, 1, 0, 1, 1, 1] (f8_1_S x0 v37 y2 v36 y4 y5 y6))
theorem f8_MR (x0 : TV) : startQ prog 8 [x0] = f8_M x0 := by kernel_rfl
theorem f8_0_R  (x0 y1 w2 : TV) : pieceQ prog 8 [0, 0, 1, 0, 1, 1, 1] (f8_0_S x0 y1 w2) = f8_0 x0 y1 w2 := by kernel_rfl
theorem f8_1_R  (x0 x1 y2 w3 y4 y5 y6 : TV) : pieceQ prog 8 [0, 0, 1, 1, 1, 0, 0, 1, 0, 0, 1, 0, 1, 1, 1] (f8_1_S x0 x1 y2 w3 y4 y5 y6) = f8_1 x0 x1 y2 w3 y4 y5 y6 := by kernel_rfl
theorem f8_2_R  (w0 : TV) : pieceQ prog 8 [1, 1, 1, 1] (f8_2_S w0) = f8_2 w0 := by kernel_rfl
theorem f8_3_R  (x0 x1 x2 y3 w4 y5 y6 y7 y8 y9 y10 y11 y12 y13 y14 y15 y16 y17 y18 y19 y20 y21 : TV) : pieceQ prog 8 [1, 1, 1, 0, 0, 1, 0, 0, 1, 1, 1, 0, 0, 1, 0, 0, 1, 0, 1, 1, 1] (f8_3_S x0 x1 x2 y3 w4 y5 y6 y7 y8 y9 y10 y11 y12 y13 y14 y15 y16 y17 y18 y19 y20 y21) = f8_3 x0 x1 x2 y3 w4 y5 y6 y7 y8 y9 y10 y11 y12 y13 y14 y15 y16 y17 y18 y19 y20 y21 := by kernel_rfl
theorem f8_4_R  (x0 x1 x2 y3 w4 y5 y6 y7 y8 y9 y10 y11 y12 y13 y14 y15 y16 y17 y18 y19 y20 y21 : TV) : pieceQ prog 8 [0, 0, 1, 0, 1, 1, 1, 1, 0, 0, 1, 0, 0, 1, 1, 1, 0, 0, 1, 0, 0, 1, 0, 1, 1, 1] (f8_4_S x0 x1 x2 y3 w4 y5 y6 y7 y8 y9 y10 y11 y12 y13 y14 y15 y16 y17 y18 y19 y20 y21) = f8_4 x0 x1 x2 y3 w4 y5 y6 y7 y8 y9 y10 y11 y12 y13 y14 y15 y16 y17 y18 y19 y20 y21 := by kernel_rfl
theorem f8_5_R  (x0 x1 y2 w3 y4 y5 y6 y7 y8 y9 y10 y11 y12 y13 y14 y15 y16 y17 y18 y19 y20 : TV) : pieceQ prog 8 [1, 1, 1, 1, 1, 0, 0, 1, 0, 0, 1, 1, 1, 0, 0, 1, 0, 0, 1, 0, 1, 1, 1] (f8_5_S x0 x1 y2 w3 y4 y5 y6 y7 y8 y9 y10 y11 y12 y13 y14 y15 y16 y17 y18 y19 y20) = f8_5 x0 x1 y2 w3 y4 y5 y6 y7 y8 y9 y10 y11 y12 y13 y14 y15 y16 y17 y18 y19 y20 := by kernel_rfl

theorem f8_run {x0 : TV} {r : TV} (h : Goes prog 8 (f8_M x0) r) : Runs prog 8 [x0] r := Runs.of (f8_MR x0) h
theorem f8_0_J  {x0 y1 w2 : TV} {r : TV} (h : Goes prog 8 (f8_0 x0 y1 w2) r) : Goes prog 8 (.jmp [0, 0, 1, 0, 1, 1, 1] (f8_0_S x0 y1 w2)) r := Goes.jmp (f8_0_R x0 y1 w2) h
theorem f8_1_J  {x0 x1 y2 w3 y4 y5 y6 : TV} {r : TV} (h : Goes prog 8 (f8_1 x0 x1 y2 w3 y4 y5 y6) r) : Goes prog 8 (.jmp [0, 0, 1, 1, 1, 0, 0, 1, 0, 0, 1, 0, 1, 1, 1] (f8_1_S x0 x1 y2 w3 y4 y5 y6)) r := Goes.jmp (f8_1_R x0 x1 y2 w3 y4 y5 y6) h
theorem f8_2_J  {w0 : TV} {r : TV} (h : Goes prog 8 (f8_2 w0) r) : Goes prog 8 (.jmp [1, 1, 1, 1] (f8_2_S w0)) r := Goes.jmp (f8_2_R w0) h
theorem f8_3_J  {x0 x1 x2 y3 w4 y5 y6 y7 y8 y9 y10 y11 y12 y13 y14 y15 y16 y17 y18 y19 y20 y21 : TV} {r : TV} (h : Goes prog 8 (f8_3 x0 x1 x2 y3 w4 y5 y6 y7 y8 y9 y10 y11 y12 y13 y14 y15 y16 y17 y18 y19 y20 y21) r) : Goes prog 8 (.jmp [1, 1, 1, 0, 0, 1, 0, 0, 1, 1, 1, 0, 0, 1, 0, 0, 1, 0, 1, 1, 1] (f8_3_S x0 x1 x2 y3 w4 y5 y6 y7 y8 y9 y10 y11 y12 y13 y14 y15 y16 y17 y18 y19 y20 y21)) r := Goes.jmp (f8_3_R x0 x1 x2 y3 w4 y5 y6 y7 y8 y9 y10 y11 y12 y13 y14 y15 y16 y17 y18 y19 y20 y21) h
theorem f8_4_J  {x0 x1 x2 y3 w4 y5 y6 y7 y8 y9 y10 y11 y12 y13 y14 y15 y16 y17 y18 y19 y20 y21 : TV} {r : TV} (h : Goes prog 8 (f8_4 x0 x1 x2 y3 w4 y5 y6 y7 y8 y9 y10 y11 y12 y13 y14 y15 y16 y17 y18 y19 y20 y21) r) : Goes prog 8 (.jmp [0, 0, 1, 0, 1, 1, 1, 1, 0, 0, 1, 0, 0, 1, 1, 1, 0, 0, 1, 0, 0, 1, 0, 1, 1, 1] (f8_4_S x0 x1 x2 y3 w4 y5 y6 y7 y8 y9 y10 y11 y12 y13 y14 y15 y16 y17 y18 y19 y20 y21)) r := Goes.jmp (f8_4_R x0 x1 x2 y3 w4 y5 y6 y7 y8 y9 y10 y11 y12 y13 y14 y15 y16 y17 y18 y19 y20 y21) h
theorem f8_5_J  {x0 x1 y2 w3 y4 y5 y6 y7 y8 y9 y10 y11 y12 y13 y14 y15 y16 y17 y18 y19 y20 : TV} {r : TV} (h : Goes prog 8 (f8_5 x0 x1 y2 w3 y4 y5 y6 y7 y8 y9 y10 y11 y12 y13 y14 y15 y16 y17 y18 y19 y20) r) : Goes prog 8 (.jmp [1, 1, 1, 1, 1, 0, 0, 1, 0, 0, 1, 1, 1, 0, 0, 1, 0, 0, 1, 0, 1, 1, 1] (f8_5_S x0 x1 y2 w3 y4 y5 y6 y7 y8 y9 y10 y11 y12 y13 y14 y15 y16 y17 y18 y19 y20)) r := Goes.jmp (f8_5_R x0 x1 y2 w3 y4 y5 y6 y7 y8 y9 y10 y11 y12 y13 y14 y15 y16 y17 y18 y19 y20) h
def f9_M (x0 : TV) : Prg TV :=
  Prg.chk (TV.isAgg x0 7) (
  Prg.tv (pbin (Kd.int IntKind.i64) BinOp.eql (TV.cell x0 0) (TV.lit (Value.int IntKind.i64 (1 : Int)))) fun v0 =>
  Prg.ite (asBool v0) (
    Prg.tv (pconv (Kd.int IntKind.i64) (TV.cell x0 4)) fun v1 =>
    Prg.call 23 [TV.lit (Value.string (ByteArray.mk (Array.mk [(99 : UInt8), (111 : UInt8), (110 : UInt8), (115 : UInt8), (116 : UInt8)]))), frz (TV.sl true 1 (chunks 1 2 [TV.cell x0 1, v1]))] fun v2 =>
    Prg.chk (fitsAt zStr [v2] 0) (
    Prg.ret v2)) (
    Prg.tv (pbin (Kd.int IntKind.i64) BinOp.eql (TV.cell x0 0) (TV.lit (Value.int IntKind.i64 (2 : Int)))) fun v3 =>
    Prg.ite (asBool v3) (
      Prg.call 23 [TV.lit (Value.string (ByteArray.mk (Array.mk [(99 : UInt8), (111 : UInt8), (112 : UInt8), (121 : UInt8)]))), frz (TV.sl true 1 (chunks 1 2 [TV.cell x0 1, TV.cell x0 2]))] fun v4 =>
      Prg.chk (fitsAt zStr [v4] 0) (
      Prg.ret v4)) (
      Prg.tv (pbin (Kd.int IntKind.i64) BinOp.eql (TV.cell x0 0) (TV.lit (Value.int IntKind.i64 (3 : Int)))) fun v5 =>
      Prg.ite (asBool v5) (
        Prg.call 23 [TV.lit (Value.string (ByteArray.mk (Array.mk [(97 : UInt8), (100 : UInt8), (100 : UInt8)]))), frz (TV.sl true 1 (chunks 1 3 [TV.cell x0 1, TV.cell x0 2, TV.cell x0 3]))] fun v6 =>
        Prg.chk (fitsAt zStr [v6] 0) (
        Prg.ret v6)) (
        Prg.tv (pbin (Kd.int IntKind.i64) BinOp.eql (TV.cell x0 0) (TV.lit (Value.int IntKind.i64 (4 : Int)))) fun v7 =>
        Prg.ite (asBool v7) (
          Prg.call 23 [TV.lit (Value.string (ByteArray.mk (Array.mk [(115 : UInt8), (117 : UInt8), (98 : UInt8)]))), frz (TV.sl true 1 (chunks 1 3 [TV.cell x0 1, TV.cell x0 2, TV.cell x0 3]))] fun v8 =>
          Prg.chk (fitsAt zStr [v8] 0) (
          Prg.ret v8)) (
          Prg.tv (pbin (Kd.int IntKind.i64) BinOp.eql (TV.cell x0 0) (TV.lit (Value.int IntKind.i64 (5 : Int)))) fun v9 =>
          Prg.ite (asBool v9) (
            Prg.call 23 [TV.lit (Value.string (ByteArray.mk (Array.mk [(109 : UInt8), (117 : UInt8), (108 : UInt8)]))), frz (TV.sl true 1 (chunks 1 3 [TV.cell x0 1, TV.cell x0 2, TV.cell x0 3]))] fun v10 =>
            Prg.chk (fitsAt zStr [v10] 0) (
            Prg.ret v10)) (
            Prg.tv (pbin (Kd.int IntKind.i64) BinOp.eql (TV.cell x0 0) (TV.lit (Value.int IntKind.i64 (6 : Int)))) fun v11 =>
            Prg.ite (asBool v11) (
              Prg.call 23 [TV.lit (Value.string (ByteArray.mk (Array.mk [(100 : UInt8), (105 : UInt8), (118 : UInt8)]))), frz (TV.sl true 1 (chunks 1 3 [TV.cell x0 1, TV.cell x0 2, TV.cell x0 3]))] fun v12 =>
              Prg.chk (fitsAt zStr [v12] 0) (
              Prg.ret v12)) (
              Prg.tv (pbin (Kd.int IntKind.i64) BinOp.eql (TV.cell x0 0) (TV.lit (Value.int IntKind.i64 (7 : Int)))) fun v13 =>
              Prg.ite (asBool v13) (
                Prg.call 23 [TV.lit (Value.string (ByteArray.mk (Array.mk [(101 : UInt8), (113 : UInt8)]))), frz (TV.sl true 1 (chunks 1 3 [TV.cell x0 1, TV.cell x0 2, TV.cell x0 3]))] fun v14 =>
                Prg.chk (fitsAt zStr [v14] 0) (
                Prg.ret v14)) (
                Prg.tv (pbin (Kd.int IntKind.i64) BinOp.eql (TV.cell x0 0) (TV.lit (Value.int IntKind.i64 (8 : Int)))) fun v15 =>
                Prg.ite (asBool v15) (
                  Prg.call 23 [TV.lit (Value.string (ByteArray.mk (Array.mk [(108 : UInt8), (116 : UInt8)]))), frz (TV.sl true 1 (chunks 1 3 [TV.cell x0 1, TV.cell x0 2, TV.cell x0 3]))] fun v16 =>
                  Prg.chk (fitsAt zStr [v16] 0) (
                  Prg.ret v16)) (
                  Prg.tv (pbin (Kd.int IntKind.i64) BinOp.eql (TV.cell x0 0) (TV.lit (Value.int IntKind.i64 (9 : Int)))) fun v17 =>
                  Prg.ite (asBool v17) (
                    Prg.call 23 [TV.lit (Value.string (ByteArray.mk (Array.mk [(108 : UInt8), (111 : UInt8), (97 : UInt8), (100 : UInt8)]))), frz (TV.sl true 1 (chunks 1 2 [TV.cell x0 1, TV.cell x0 2]))] fun v18 =>
                    Prg.chk (fitsAt zStr [v18] 0) (
                    Prg.ret v18)) (
                    Prg.tv (pbin (Kd.int IntKind.i64) BinOp.eql (TV.cell x0 0) (TV.lit (Value.int IntKind.i64 (10 : Int)))) fun v19 =>
                    Prg.ite (asBool v19) (
                      Prg.call 23 [TV.lit (Value.string (ByteArray.mk (Array.mk [(115 : UInt8), (116 : UInt8), (111 : UInt8), (114 : UInt8), (101 : UInt8)]))), frz (TV.sl true 1 (chunks 1 2 [TV.cell x0 2, TV.cell x0 3]))] fun v20 =>
                      Prg.chk (fitsAt zStr [v20] 0) (
                      Prg.ret v20)) (
                      Prg.tv (pbin (Kd.int IntKind.i64) BinOp.eql (TV.cell x0 0) (TV.lit (Value.int IntKind.i64 (11 : Int)))) fun v21 =>
                      Prg.ite (asBool v21) (
                        Prg.call 29 [TV.cell x0 6, frz (TV.sl true 1 (chunks 1 2 [TV.cell x0 1, TV.cell x0 5]))] fun v22 =>
                        Prg.chk (fitsAt zSl [v22] 0) (
                        Prg.call 23 [TV.lit (Value.string (ByteArray.mk (Array.mk [(99 : UInt8), (97 : UInt8), (108 : UInt8), (108 : UInt8)]))), frz v22] fun v23 =>
                        Prg.chk (fitsAt zStr [v23] 0) (
                        Prg.ret v23))) (
                        Prg.tv (pbin (Kd.int IntKind.i64) BinOp.eql (TV.cell x0 0) (TV.lit (Value.int IntKind.i64 (12 : Int)))) fun v24 =>
                        Prg.ite (asBool v24) (
                          Prg.call 23 [TV.lit (Value.string (ByteArray.mk (Array.mk [(111 : UInt8), (117 : UInt8), (116 : UInt8)]))), frz (TV.sl true 1 (chunks 1 1 [TV.cell x0 2]))] fun v25 =>
                          Prg.chk (fitsAt zStr [v25] 0) (
                          Prg.ret v25)) (
                          Prg.tv (pbin (Kd.int IntKind.i64) BinOp.eql (TV.cell x0 0) (TV.lit (Value.int IntKind.i64 (13 : Int)))) fun v26 =>
                          Prg.ite (asBool v26) (
                            Prg.call 23 [TV.lit (Value.string (ByteArray.mk (Array.mk [(105 : UInt8), (110 : UInt8)]))), frz (TV.sl true 1 (chunks 1 1 [TV.cell x0 1]))] fun v27 =>
                            Prg.chk (fitsAt zStr [v27] 0) (
                            Prg.ret v27)) (
                            Prg.ret (TV.lit (Value.string (ByteArray.mk (Array.mk []))))))))))))))))))
theorem f9_MR (x0 : TV) : startQ prog 9 [x0] = f9_M x0 := by kernel_rfl

theorem f9_run {x0 : TV} {r : TV} (h : Goes prog 9 (f9_M x0) r) : Runs prog 9 [x0] r := Runs.of (f9_MR x0) h
end Go.Ab.D5

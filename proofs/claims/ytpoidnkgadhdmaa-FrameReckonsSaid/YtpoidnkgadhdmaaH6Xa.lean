import Derived.Test.YtpoidnkgadhdmaaH6T
import Derived.Test.YtpoidnkgadhdmaaF0
set_option linter.unusedVariables false
set_option maxRecDepth 100000
namespace Go.Ab.H6
open Go Go.Ab Go.Proofs
def f3_0_S  (k0 k1 : Nat) (y2 w3 w4 : TV) : ASt := ⟨[AV.one CA.junk, AV.one CA.junk, AV.one CA.junk, AV.one (CA.ptr 0 0), AV.one CA.junk, AV.one CA.junk, AV.one CA.junk, AV.one (CA.ptr 1 0), AV.one (CA.ptr 2 0), AV.one CA.junk, AV.one (CA.tptr 3 0 [(k0, 2)] k1 0)] ++ List.replicate 137 (AV.one CA.junk), [Option.some (BC.cells [CA.t y2]), Option.some (BC.cells [CA.sref 3 0 []]), Option.some (BC.cells [CA.sref 4 0 []]), Option.some (BC.tree [w3]), Option.some (BC.tree [w4])] ++ List.replicate 167 (Option.none), []⟩
def f3_1_S  (y0 w1 w2 : TV) : ASt := ⟨[AV.one CA.junk, AV.one CA.junk, AV.one CA.junk, AV.one (CA.ptr 0 0), AV.one CA.junk, AV.one CA.junk, AV.one CA.junk, AV.one (CA.ptr 1 0), AV.one (CA.ptr 2 0)] ++ List.replicate 139 (AV.one CA.junk), [Option.some (BC.cells [CA.t y0]), Option.some (BC.cells [CA.sref 3 0 []]), Option.some (BC.cells [CA.sref 4 0 []]), Option.some (BC.tree [w1]), Option.some (BC.tree [w2])] ++ List.replicate 167 (Option.none), []⟩
def f3_M (x0 x1 x2 : TV) : Prg TV :=
  Prg.chk (TV.isAgg x0 1) (
  Prg.chk (TV.isAgg x1 1) (
  Prg.call 12 [] fun v0 =>
  Prg.chk (fitsAt zBool [v0] 0) (
  Prg.tv (pun UnOp.not v0) fun v1 =>
  Prg.ite (asBool v1) (
    Prg.ret (TV.lit (Value.bool false))) (
    Prg.call 13 [TV.agg [TV.cell x0 0]] fun v2 =>
    Prg.chk (fitsAt zBool [v2] 0) (
    Prg.tv (pun UnOp.not v2) fun v3 =>
    Prg.ite (asBool v3) (
      Prg.ret (TV.lit (Value.bool true))) (
      Prg.call 13 [TV.agg [TV.cell x1 0]] fun v4 =>
      Prg.chk (fitsAt zBool [v4] 0) (
      Prg.tv (pun UnOp.not v4) fun v5 =>
      Prg.ite (asBool v5) (
        Prg.ret (TV.lit (Value.bool true))) (
        Prg.call 14 [TV.agg [TV.cell x0 0]] fun v6 =>
        Prg.chk (Bool.and (TV.isAgg v6 1) (fitsAt zSl (TV.cellsL true v6) 0)) (
        Prg.call 14 [TV.agg [TV.cell x0 0]] fun v7 =>
        Prg.chk (Bool.and (TV.isAgg v7 1) (fitsAt zSl (TV.cellsL true v7) 0)) (
        Prg.call 15 [TV.agg [TV.cell x0 0], TV.agg [TV.cell x1 0]] fun v8 =>
        Prg.chk (fitsAt zBool [v8] 0) (
        Prg.call 16 [TV.agg [TV.cell x0 0], TV.agg [TV.cell x1 0]] fun v9 =>
        Prg.chk (fitsAt zBool [v9] 0) (
        Prg.tv (pbin Kd.bool BinOp.neq v8 v9) fun v10 =>
        Prg.ite (asBool v10) (
          Prg.ret (TV.lit (Value.bool false))) (
          Prg.call 16 [TV.agg [frz (TV.cell v6 0)], TV.agg [TV.cell x0 0]] fun v11 =>
          Prg.chk (fitsAt zBool [v11] 0) (
          Prg.tv (pun UnOp.not v11) fun v12 =>
          Prg.ite (asBool v12) (
            Prg.ret (TV.lit (Value.bool false))) (
            Prg.call 15 [TV.agg [frz (TV.cell v6 0)], TV.agg [TV.cell x0 0]] fun v13 =>
            Prg.chk (fitsAt zBool [v13] 0) (
            Prg.tv (pun UnOp.not v13) fun v14 =>
            Prg.ite (asBool v14) (
              Prg.ret (TV.lit (Value.bool false))) (
              Prg.tv (plen (Kd.slice 32) (TV.cell v6 0)) fun v15 =>
              Prg.tv (pbin (Kd.int IntKind.i64) BinOp.eql v15 (TV.lit (Value.int IntKind.i64 (0 : Int)))) fun v16 =>
              Prg.ite (asBool v16) (
                Prg.ret (TV.lit (Value.bool true))) (
                Prg.tv (pconv (Kd.int IntKind.i64) x2) fun v17 =>
                Prg.tv (plen (Kd.slice 32) (TV.cell v6 0)) fun v18 =>
                Prg.tv (pbin (Kd.int IntKind.i64) BinOp.rem v17 v18) fun v19 =>
                Prg.nat (slLen (TV.cell v6 0)) fun n20 =>
                Prg.nat (asNat v19) fun n21 =>
                Prg.chk (Bool.and (slSize (TV.cell v6 0) 3) (Nat.blt n21 n20)) (
                Prg.tvs (pel (TV.cell v6 0) n21) fun e22 =>
                Prg.chk (fitsAt zFunc e22 0) (
                Prg.tv (getP [(n21, 2)] (TV.cell v6 0)) fun v23 =>
                Prg.tv (plen (Kd.slice 42) v23) fun v24 =>
                Prg.tv (pbin (Kd.int IntKind.i64) BinOp.eql v24 (TV.lit (Value.int IntKind.i64 (0 : Int)))) fun v25 =>
                Prg.ite (asBool v25) (
                  Prg.ret (TV.lit (Value.bool true))) (
                  Prg.tv (pconv (Kd.int IntKind.i64) x2) fun v26 =>
                  Prg.tv (pbin (Kd.int IntKind.i64) BinOp.quo v26 (TV.lit (Value.int IntKind.i64 (7 : Int)))) fun v27 =>
                  Prg.tv (getP [(n21, 2)] (TV.cell v6 0)) fun v28 =>
                  Prg.tv (plen (Kd.slice 42) v28) fun v29 =>
                  Prg.tv (pbin (Kd.int IntKind.i64) BinOp.rem v27 v29) fun v30 =>
                  Prg.tv (getP [(n21, 2)] (TV.cell v6 0)) fun v31 =>
                  Prg.nat (slLen v31) fun n32 =>
                  Prg.nat (asNat v30) fun n33 =>
                  Prg.chk (Bool.and (slSize v31 14) (Nat.blt n33 n32)) (
                  Prg.tv (getP [(n21, 2)] (TV.cell v6 0)) fun v34 =>
                  Prg.tvs (pel v34 n33) fun e35 =>
                  Prg.chk (fitsAt zInt e35 11) (
                  Prg.tv (pbin (Kd.int IntKind.i64) BinOp.add (nth TV.hole e35 11) (TV.lit (Value.int IntKind.i64 (1 : Int)))) fun v36 =>
                  Prg.tv (getP [(n21, 2)] (TV.cell v6 0)) fun v37 =>
                  Prg.tvs (pel v37 n33) fun e38 =>
                  Prg.chk (fitsAt zInt e38 11) (
                  Prg.tv (setC [(n21, 2)] (TV.cell v6 0) n33 11 [v36]) fun v39 =>
                  Prg.tv (getP [(n21, 2)] v39) fun v40 =>
                  Prg.tvs (pel v40 n33) fun e41 =>
                  Prg.chk (fitsAt zSl e41 5) (
                  Prg.tv (getP [(n21, 2), (n33, 5)] v39) fun v42 =>
                  Prg.tv (plen (Kd.slice 44) v42) fun v43 =>
                  Prg.tv (pbin (Kd.int IntKind.i64) BinOp.gtr v43 (TV.lit (Value.int IntKind.i64 (0 : Int)))) fun v44 =>
                  Prg.ite (asBool v44) (
                    Prg.tv (getP [(n21, 2)] v39) fun v45 =>
                    Prg.tvs (pel v45 n33) fun e46 =>
                    Prg.chk (fitsAt zSl e46 5) (
                    Prg.tv (getP [(n21, 2), (n33, 5)] v39) fun v47 =>
                    Prg.nat (slLen v47) fun n48 =>
                    Prg.nat (asNat (TV.lit (Value.int IntKind.i64 (0 : Int)))) fun n49 =>
                    Prg.chk (Bool.and (slSize v47 7) (Nat.blt n49 n48)) (
                    Prg.tv (getP [(n21, 2), (n33, 5)] v39) fun v50 =>
                    Prg.tvs (pel v50 n49) fun e51 =>
                    Prg.chk (fitsAt zInt e51 1) (
                    Prg.tv (pbin (Kd.int IntKind.i64) BinOp.add (nth TV.hole e51 1) (TV.lit (Value.int IntKind.i64 (1 : Int)))) fun v52 =>
                    Prg.tv (getP [(n21, 2), (n33, 5)] v39) fun v53 =>
                    Prg.nat (slLen v53) fun n54 =>
                    Prg.nat (asNat (TV.lit (Value.int IntKind.i64 (0 : Int)))) fun n55 =>
                    Prg.chk (Bool.and (slSize v53 7) (Nat.blt n55 n54)) (
                    Prg.tv (getP [(n21, 2), (n33, 5)] v39) fun v56 =>
                    Prg.tvs (pel v56 n55) fun e57 =>
                    Prg.chk (fitsAt zInt e57 1) (
                    Prg.tv (setC [(n21, 2), (n33, 5)] v39 n55 1 [v52]) fun v58 =>
                    Prg.tv (getP [(n21, 2)] v58) fun v59 =>
                    Prg.tvs (pel v59 n33) fun e60 =>
                    Prg.chk (fitsAt zSl e60 5) (
                    Prg.tv (getP [(n21, 2), (n33, 5)] v58) fun v61 =>
                    Prg.nat (slLen v61) fun n62 =>
                    Prg.nat (asNat (TV.lit (Value.int IntKind.i64 (0 : Int)))) fun n63 =>
                    Prg.chk (Bool.and (slSize v61 7) (Nat.blt n63 n62)) (
                    Prg.tv (getP [(n21, 2), (n33, 5)] v58) fun v64 =>
                    Prg.tvs (pel v64 n63) fun e65 =>
                    Prg.chk (fitsAt zSl e65 6) (
                    Prg.tv (getP [(n21, 2), (n33, 5), (n63, 6)] v58) fun v66 =>
                    Prg.tv (plen (Kd.slice 3) v66) fun v67 =>
                    Prg.tv (pbin (Kd.int IntKind.i64) BinOp.gtr v67 (TV.lit (Value.int IntKind.i64 (0 : Int)))) fun v68 =>
                    Prg.ite (asBool v68) (
                      Prg.tv (getP [(n21, 2)] v58) fun v69 =>
                      Prg.tvs (pel v69 n33) fun e70 =>
                      Prg.chk (fitsAt zSl e70 5) (
                      Prg.tv (getP [(n21, 2), (n33, 5)] v58) fun v71 =>
                      Prg.nat (slLen v71) fun n72 =>
                      Prg.nat (asNat (TV.lit (Value.int IntKind.i64 (0 : Int)))) fun n73 =>
                      Prg.chk (Bool.and (slSize v71 7) (Nat.blt n73 n72)) (
                      Prg.tv (getP [(n21, 2), (n33, 5)] v58) fun v74 =>
                      Prg.tvs (pel v74 n73) fun e75 =>
                      Prg.chk (fitsAt zSl e75 6) (
                      Prg.tv (getP [(n21, 2), (n33, 5), (n73, 6)] v58) fun v76 =>
                      Prg.nat (slLen v76) fun n77 =>
                      Prg.nat (asNat (TV.lit (Value.int IntKind.i64 (0 : Int)))) fun n78 =>
                      Prg.chk (Bool.and (slSize v76 1) (Nat.blt n78 n77)) (
                      Prg.tv (getP [(n21, 2), (n33, 5), (n73, 6)] v58) fun v79 =>
                      Prg.tvs (pel v79 n78) fun e80 =>
                      Prg.chk (fitsAt zInt e80 0) (
                      Prg.tv (pbin (Kd.int IntKind.i64) BinOp.add (nth TV.hole e80 0) (TV.lit (Value.int IntKind.i64 (1 : Int)))) fun v81 =>
                      Prg.tv (getP [(n21, 2), (n33, 5), (n73, 6)] v58) fun v82 =>
                      Prg.nat (slLen v82) fun n83 =>
                      Prg.nat (asNat (TV.lit (Value.int IntKind.i64 (0 : Int)))) fun n84 =>
                      Prg.chk (Bool.and (slSize v82 1) (Nat.blt n84 n83)) (
                      Prg.tv (getP [(n21, 2), (n33, 5), (n73, 6)] v58) fun v85 =>
                      Prg.tvs (pel v85 n84) fun e86 =>
                      Prg.chk (fitsAt zInt e86 0) (
                      Prg.tv (setC [(n21, 2), (n33, 5), (n73, 6)] v58 n84 0 [v81]) fun v87 =>
                      Prg.jmp [1, 1, 1, 1, 1, 1, 1, 1, 1, 1, 1] (f3_0_S n21 n33 (TV.cell x0 0) v87 (TV.cell v7 0)))))))))) (
                      Prg.jmp [1, 1, 1, 1, 1, 1, 1, 1, 1, 1, 1] (f3_0_S n21 n33 (TV.cell x0 0) v58 (TV.cell v7 0)))))))))))) (
                    Prg.jmp [1, 1, 1, 1, 1, 1, 1, 1, 1, 1, 1] (f3_0_S n21 n33 (TV.cell x0 0) v39 (TV.cell v7 0))))))))))))))))))))))))))))
-- [1, 1, 1, 1, 1, 1, 1, 1, 1, 1, 1]
def f3_0  (k0 k1 : Nat) (y2 w3 w4 : TV) : Prg TV :=
  Prg.tv (getP [(k0, 2)] w3) fun v88 =>
  Prg.tvs (pel v88 k1) fun e89 =>
  Prg.chk (fitsAt zSl e89 2) (
  Prg.tv (getP [(k0, 2), (k1, 2)] w3) fun v90 =>
  Prg.tv (plen (Kd.slice 25) v90) fun v91 =>
  Prg.tv (pbin (Kd.int IntKind.i64) BinOp.gtr v91 (TV.lit (Value.int IntKind.i64 (0 : Int)))) fun v92 =>
  Prg.ite (asBool v92) (
    Prg.tv (getP [(k0, 2)] w3) fun v93 =>
    Prg.tvs (pel v93 k1) fun e94 =>
    Prg.chk (fitsAt zSl e94 2) (
    Prg.tv (getP [(k0, 2), (k1, 2)] w3) fun v95 =>
    Prg.nat (slLen v95) fun n96 =>
    Prg.nat (asNat (TV.lit (Value.int IntKind.i64 (0 : Int)))) fun n97 =>
    Prg.chk (Bool.and (slSize v95 1) (Nat.blt n97 n96)) (
    Prg.tv (getP [(k0, 2), (k1, 2)] w3) fun v98 =>
    Prg.tvs (pel v98 n97) fun e99 =>
    Prg.chk (fitsAt zWord e99 0) (
    Prg.tv (pbin (Kd.int IntKind.u16) BinOp.add (nth TV.hole e99 0) (TV.lit (Value.int IntKind.u16 (1 : Int)))) fun v100 =>
    Prg.tv (getP [(k0, 2), (k1, 2)] w3) fun v101 =>
    Prg.nat (slLen v101) fun n102 =>
    Prg.nat (asNat (TV.lit (Value.int IntKind.i64 (0 : Int)))) fun n103 =>
    Prg.chk (Bool.and (slSize v101 1) (Nat.blt n103 n102)) (
    Prg.tv (getP [(k0, 2), (k1, 2)] w3) fun v104 =>
    Prg.tvs (pel v104 n103) fun e105 =>
    Prg.chk (fitsAt zWord e105 0) (
    Prg.tv (setC [(k0, 2), (k1, 2)] w3 n103 0 [v100]) fun v106 =>
    Prg.jmp [1, 1, 1, 1, 1, 1, 1, 1, 1, 1, 1, 1] (f3_1_S y2 v106 w4))))))) (
    Prg.jmp [1, 1, 1, 1, 1, 1, 1, 1, 1, 1, 1, 1] (f3_1_S y2 w3 w4)))
-- [1, 1, 1, 1, 1, 1, 1, 1, 1, 1, 1, 1]
def f3_1  (y0 w1 w2 : TV) : Prg TV :=
  Prg.call 16 [TV.agg [frz w2], TV.agg [y0]] fun v107 =>
  Prg.chk (fitsAt zBool [v107] 0) (
  Prg.ite (asBool v107) (
    Prg.call 15 [TV.agg [frz w1], TV.agg [y0]] fun v108 =>
    Prg.chk (fitsAt zBool [v108] 0) (
    Prg.tv (pun UnOp.not v108) fun v109 =>
    Prg.ite (asBool v109) (
      Prg.call 16 [TV.agg [frz w1], TV.agg [y0]] fun v110 =>
      Prg.chk (fitsAt zBool [v110] 0) (
      Prg.tv (pun UnOp.not v110) fun v111 =>
      Prg.ret v111)) (
      Prg.ret (TV.lit (Value.bool false))))) (
    Prg.ret (TV.lit (Value.bool false))))
theorem f3_MR (x0 x1 x2 : TV) : startQ prog 3 [x0, x1, x2] = f3_M x0 x1 x2 := by kernel_rfl
theorem f3_0_R  (k0 k1 : Nat) (y2 w3 w4 : TV) : pieceQ prog 3 [1, 1, 1, 1, 1, 1, 1, 1, 1, 1, 1] (f3_0_S k0 k1 y2 w3 w4) = f3_0 k0 k1 y2 w3 w4 := by kernel_rfl
theorem f3_1_R  (y0 w1 w2 : TV) : pieceQ prog 3 [1, 1, 1, 1, 1, 1, 1, 1, 1, 1, 1, 1] (f3_1_S y0 w1 w2) = f3_1 y0 w1 w2 := by kernel_rfl

theorem f3_run {x0 x1 x2 : TV} {r : TV} (h : Goes prog 3 (f3_M x0 x1 x2) r) : Runs prog 3 [x0, x1, x2] r := Runs.of (f3_MR x0 x1 x2) h
theorem f3_0_J  {k0 k1 : Nat} {y2 w3 w4 : TV} {r : TV} (h : Goes prog 3 (f3_0 k0 k1 y2 w3 w4) r) : Goes prog 3 (.jmp [1, 1, 1, 1, 1, 1, 1, 1, 1, 1, 1] (f3_0_S k0 k1 y2 w3 w4)) r := Goes.jmp (f3_0_R k0 k1 y2 w3 w4) h
theorem f3_1_J  {y0 w1 w2 : TV} {r : TV} (h : Goes prog 3 (f3_1 y0 w1 w2) r) : Goes prog 3 (.jmp [1, 1, 1, 1, 1, 1, 1, 1, 1, 1, 1, 1] (f3_1_S y0 w1 w2)) r := Goes.jmp (f3_1_R y0 w1 w2) h
def f4_M (x0 x1 x2 x3 x4 x5 : TV) : Prg TV :=
  Prg.chk (TV.isAgg x0 1) (
  Prg.chk (TV.isAgg x1 5) (
  Prg.call 17 [] fun v0 =>
  Prg.chk (fitsAt zBool [v0] 0) (
  Prg.tv (pun UnOp.not v0) fun v1 =>
  Prg.ite (asBool v1) (
    Prg.ret (TV.lit (Value.bool false))) (
    Prg.call 13 [TV.agg [TV.cell x0 0]] fun v2 =>
    Prg.chk (fitsAt zBool [v2] 0) (
    Prg.tv (pun UnOp.not v2) fun v3 =>
    Prg.ite (asBool v3) (
      Prg.ret (TV.lit (Value.bool true))) (
      Prg.tv (plen (Kd.slice 25) (TV.cell x1 3)) fun v4 =>
      Prg.tv (pbin (Kd.int IntKind.i64) BinOp.gtr v4 (TV.lit (Value.int IntKind.i64 (300 : Int)))) fun v5 =>
      Prg.ite (asBool v5) (
        Prg.ret (TV.lit (Value.bool true))) (
        Prg.tv (plen (Kd.slice 25) x3) fun v6 =>
        Prg.tv (pbin (Kd.int IntKind.i64) BinOp.gtr v6 (TV.lit (Value.int IntKind.i64 (20 : Int)))) fun v7 =>
        Prg.ite (asBool v7) (
          Prg.ret (TV.lit (Value.bool true))) (
          Prg.call 18 [TV.agg [TV.cell x0 0], x2, x3] fun v8 =>
          Prg.chk (TV.isTup v8 2) (
          Prg.chk (Bool.and (TV.isAgg (TV.comp v8 0) 5) (fitsAt z46 (TV.cellsL true (TV.comp v8 0)) 0)) (
          Prg.chk (fitsAt zInt [TV.comp v8 1] 0) (
          Prg.call 19 [TV.agg [TV.cell x0 0], TV.agg [TV.cell x1 0, TV.cell x1 1, TV.cell x1 2, TV.cell x1 3, TV.cell x1 4], x4, x5] fun v9 =>
          Prg.chk (TV.isTup v9 2) (
          Prg.chk (Bool.and (TV.isAgg (TV.comp v9 0) 5) (fitsAt z46 (TV.cellsL true (TV.comp v9 0)) 0)) (
          Prg.chk (fitsAt zInt [TV.comp v9 1] 0) (
          Prg.call 20 [TV.agg [TV.cell x0 0]] fun v10 =>
          Prg.chk (fitsAt zBool [v10] 0) (
          Prg.tv (pun UnOp.not v10) fun v11 =>
          Prg.ite (asBool v11) (
            Prg.tv (pbin (Kd.int IntKind.i64) BinOp.eql (TV.comp v8 1) (TV.lit (Value.int IntKind.i64 (1 : Int)))) fun v12 =>
            Prg.ite (asBool v12) (
              Prg.call 21 [TV.agg [TV.cell (TV.comp v8 0) 0, TV.cell (TV.comp v8 0) 1, TV.cell (TV.comp v8 0) 2, frz (TV.cell (TV.comp v8 0) 3), TV.cell (TV.comp v8 0) 4], TV.agg [TV.lit (Value.int IntKind.i64 (0 : Int)), TV.lit (Value.int IntKind.i64 (0 : Int)), TV.lit (Value.int IntKind.i64 (0 : Int)), TV.lit (Value.slice Option.none 0 0), TV.lit (Value.int IntKind.u16 (0 : Int))]] fun v13 =>
              Prg.chk (fitsAt zBool [v13] 0) (
              Prg.ite (asBool v13) (
                Prg.tv (pbin (Kd.int IntKind.i64) BinOp.eql (TV.comp v9 1) (TV.lit (Value.int IntKind.i64 (1 : Int)))) fun v14 =>
                Prg.ite (asBool v14) (
                  Prg.call 21 [TV.agg [TV.cell (TV.comp v9 0) 0, TV.cell (TV.comp v9 0) 1, TV.cell (TV.comp v9 0) 2, frz (TV.cell (TV.comp v9 0) 3), TV.cell (TV.comp v9 0) 4], TV.agg [TV.cell x1 0, TV.cell x1 1, TV.cell x1 2, TV.cell x1 3, TV.cell x1 4]] fun v15 =>
                  Prg.chk (fitsAt zBool [v15] 0) (
                  Prg.ite (asBool v15) (
                    Prg.call 22 [TV.agg [TV.cell x0 0], TV.agg [TV.cell x1 0, TV.cell x1 1, TV.cell x1 2, TV.cell x1 3, TV.cell x1 4]] fun v16 =>
                    Prg.chk (fitsAt zBool [v16] 0) (
                    Prg.tv (pun UnOp.not v16) fun v17 =>
                    Prg.ret v17)) (
                    Prg.ret (TV.lit (Value.bool false))))) (
                  Prg.ret (TV.lit (Value.bool false)))) (
                Prg.ret (TV.lit (Value.bool false))))) (
              Prg.ret (TV.lit (Value.bool false)))) (
            Prg.call 23 [TV.agg [TV.cell x0 0], x2, x3] fun v18 =>
            Prg.chk (TV.isTup v18 2) (
            Prg.chk (Bool.and (TV.isAgg (TV.comp v18 0) 5) (fitsAt z46 (TV.cellsL true (TV.comp v18 0)) 0)) (
            Prg.chk (fitsAt zInt [TV.comp v18 1] 0) (
            Prg.call 21 [TV.agg [TV.cell (TV.comp v8 0) 0, TV.cell (TV.comp v8 0) 1, TV.cell (TV.comp v8 0) 2, frz (TV.cell (TV.comp v8 0) 3), TV.cell (TV.comp v8 0) 4], TV.agg [TV.cell (TV.comp v18 0) 0, TV.cell (TV.comp v18 0) 1, TV.cell (TV.comp v18 0) 2, frz (TV.cell (TV.comp v18 0) 3), TV.cell (TV.comp v18 0) 4]] fun v19 =>
            Prg.chk (fitsAt zBool [v19] 0) (
            Prg.tv (pun UnOp.not v19) fun v20 =>
            Prg.ite (asBool v20) (
              Prg.ret (TV.lit (Value.bool false))) (
              Prg.tv (pbin (Kd.int IntKind.i64) BinOp.neq (TV.comp v8 1) (TV.comp v18 1)) fun v21 =>
              Prg.ite (asBool v21) (
                Prg.ret (TV.lit (Value.bool false))) (
                Prg.call 22 [TV.agg [TV.cell x0 0], TV.agg [TV.cell x1 0, TV.cell x1 1, TV.cell x1 2, TV.cell x1 3, TV.cell x1 4]] fun v22 =>
                Prg.chk (fitsAt zBool [v22] 0) (
                Prg.call 24 [TV.agg [TV.cell x0 0], TV.agg [TV.cell x1 0, TV.cell x1 1, TV.cell x1 2, TV.cell x1 3, TV.cell x1 4]] fun v23 =>
                Prg.chk (fitsAt zBool [v23] 0) (
                Prg.tv (pbin Kd.bool BinOp.neq v22 v23) fun v24 =>
                Prg.ite (asBool v24) (
                  Prg.ret (TV.lit (Value.bool false))) (
                  Prg.call 24 [TV.agg [TV.cell x0 0], TV.agg [TV.cell x1 0, TV.cell x1 1, TV.cell x1 2, TV.cell x1 3, TV.cell x1 4]] fun v25 =>
                  Prg.chk (fitsAt zBool [v25] 0) (
                  Prg.tv (pun UnOp.not v25) fun v26 =>
                  Prg.ite (asBool v26) (
                    Prg.tv (pbin (Kd.int IntKind.i64) BinOp.eql (TV.comp v9 1) (TV.lit (Value.int IntKind.i64 (1 : Int)))) fun v27 =>
                    Prg.ite (asBool v27) (
                      Prg.call 21 [TV.agg [TV.cell (TV.comp v9 0) 0, TV.cell (TV.comp v9 0) 1, TV.cell (TV.comp v9 0) 2, frz (TV.cell (TV.comp v9 0) 3), TV.cell (TV.comp v9 0) 4], TV.agg [TV.cell x1 0, TV.cell x1 1, TV.cell x1 2, TV.cell x1 3, TV.cell x1 4]] fun v28 =>
                      Prg.chk (fitsAt zBool [v28] 0) (
                      Prg.ret v28)) (
                      Prg.ret (TV.lit (Value.bool false)))) (
                    Prg.call 25 [TV.agg [TV.cell x0 0], TV.agg [TV.cell x1 0, TV.cell x1 1, TV.cell x1 2, TV.cell x1 3, TV.cell x1 4], x4, x5] fun v29 =>
                    Prg.chk (TV.isTup v29 2) (
                    Prg.chk (Bool.and (TV.isAgg (TV.comp v29 0) 5) (fitsAt z46 (TV.cellsL true (TV.comp v29 0)) 0)) (
                    Prg.chk (fitsAt zInt [TV.comp v29 1] 0) (
                    Prg.call 21 [TV.agg [TV.cell (TV.comp v9 0) 0, TV.cell (TV.comp v9 0) 1, TV.cell (TV.comp v9 0) 2, frz (TV.cell (TV.comp v9 0) 3), TV.cell (TV.comp v9 0) 4], TV.agg [TV.cell (TV.comp v29 0) 0, TV.cell (TV.comp v29 0) 1, TV.cell (TV.comp v29 0) 2, frz (TV.cell (TV.comp v29 0) 3), TV.cell (TV.comp v29 0) 4]] fun v30 =>
                    Prg.chk (fitsAt zBool [v30] 0) (
                    Prg.ite (asBool v30) (
                      Prg.tv (pbin (Kd.int IntKind.i64) BinOp.eql (TV.comp v9 1) (TV.comp v29 1)) fun v31 =>
                      Prg.ite (asBool v31) (
                        Prg.call 22 [TV.agg [TV.cell x0 0], TV.agg [TV.cell (TV.comp v9 0) 0, TV.cell (TV.comp v9 0) 1, TV.cell (TV.comp v9 0) 2, frz (TV.cell (TV.comp v9 0) 3), TV.cell (TV.comp v9 0) 4]] fun v32 =>
                        Prg.chk (fitsAt zBool [v32] 0) (
                        Prg.ret v32)) (
                        Prg.ret (TV.lit (Value.bool false)))) (
                      Prg.ret (TV.lit (Value.bool false))))))))))))))))))))))))))))))))))
theorem f4_MR (x0 x1 x2 x3 x4 x5 : TV) : startQ prog 4 [x0, x1, x2, x3, x4, x5] = f4_M x0 x1 x2 x3 x4 x5 := by kernel_rfl

theorem f4_run {x0 x1 x2 x3 x4 x5 : TV} {r : TV} (h : Goes prog 4 (f4_M x0 x1 x2 x3 x4 x5) r) : Runs prog 4 [x0, x1, x2, x3, x4, x5] r := Runs.of (f4_MR x0 x1 x2 x3 x4 x5) h
def f5_M (x0 x1 x2 x3 x4 : TV) : Prg TV :=
  Prg.chk (TV.isAgg x0 5) (
  Prg.chk (TV.isAgg x1 7) (
  Prg.chk (TV.isAgg x2 4) (
  Prg.call 17 [] fun v0 =>
  Prg.chk (fitsAt zBool [v0] 0) (
  Prg.tv (pun UnOp.not v0) fun v1 =>
  Prg.ite (asBool v1) (
    Prg.ret (TV.lit (Value.bool false))) (
    Prg.tv (plen (Kd.slice 25) (TV.cell x0 3)) fun v2 =>
    Prg.tv (pbin (Kd.int IntKind.i64) BinOp.gtr v2 (TV.lit (Value.int IntKind.i64 (300 : Int)))) fun v3 =>
    Prg.ite (asBool v3) (
      Prg.ret (TV.lit (Value.bool true))) (
      Prg.tv (plen (Kd.slice 25) (TV.cell x2 1)) fun v4 =>
      Prg.tv (pbin (Kd.int IntKind.i64) BinOp.gtr v4 (TV.lit (Value.int IntKind.i64 (20 : Int)))) fun v5 =>
      Prg.ite (asBool v5) (
        Prg.ret (TV.lit (Value.bool true))) (
        Prg.rws (pelems 1 (TV.cell x0 3)) fun r6 =>
        Prg.tv (papp 1 (TV.sl true 1 (chunks 1 0 [])) r6) fun v7 =>
        Prg.call 26 [TV.agg [TV.cell x0 0, TV.cell x0 1, TV.cell x0 2, frz v7, TV.cell x0 4], TV.agg [TV.cell x1 0, TV.cell x1 1, TV.cell x1 2, TV.cell x1 3, TV.cell x1 4, TV.cell x1 5, TV.cell x1 6]] fun v8 =>
        Prg.chk (TV.isTup v8 2) (
        Prg.chk (Bool.and (TV.isAgg (TV.comp v8 0) 5) (fitsAt z46 (TV.cellsL true (TV.comp v8 0)) 0)) (
        Prg.chk (fitsAt zBool [TV.comp v8 1] 0) (
        Prg.call 27 [TV.agg [TV.cell x0 0, TV.cell x0 1, TV.cell x0 2, TV.cell x0 3, TV.cell x0 4], TV.agg [TV.cell x1 0, TV.cell x1 1, TV.cell x1 2, TV.cell x1 3, TV.cell x1 4, TV.cell x1 5, TV.cell x1 6]] fun v9 =>
        Prg.chk (TV.isTup v9 2) (
        Prg.chk (Bool.and (TV.isAgg (TV.comp v9 0) 5) (fitsAt z46 (TV.cellsL true (TV.comp v9 0)) 0)) (
        Prg.chk (fitsAt zBool [TV.comp v9 1] 0) (
        Prg.chk (TV.isOne x4) (
        Prg.call 21 [TV.agg [TV.cell (TV.comp v8 0) 0, TV.cell (TV.comp v8 0) 1, TV.cell (TV.comp v8 0) 2, frz (TV.cell (TV.comp v8 0) 3), TV.cell (TV.comp v8 0) 4], TV.agg [TV.cell (TV.comp v9 0) 0, TV.cell (TV.comp v9 0) 1, TV.cell (TV.comp v9 0) 2, frz (TV.cell (TV.comp v9 0) 3), TV.cell (TV.comp v9 0) 4]] fun v10 =>
        Prg.chk (fitsAt zBool [v10] 0) (
        Prg.ite (asBool v10) (
          Prg.tv (pbin Kd.bool BinOp.eql (TV.comp v8 1) (TV.comp v9 1)) fun v11 =>
          Prg.ite (asBool v11) (
            Prg.call 28 [TV.agg [TV.cell x2 0, TV.cell x2 1, TV.cell x2 2, TV.cell x2 3], x3] fun v12 =>
            Prg.chk (fitsAt zBool [v12] 0) (
            Prg.call 29 [TV.agg [TV.cell x2 0, TV.cell x2 1, TV.cell x2 2, TV.cell x2 3], x3] fun v13 =>
            Prg.chk (fitsAt zBool [v13] 0) (
            Prg.tv (pbin Kd.bool BinOp.eql v12 v13) fun v14 =>
            Prg.ite (asBool v14) (
              Prg.call 30 [TV.agg [TV.cell x0 0, TV.cell x0 1, TV.cell x0 2, frz v7, TV.cell x0 4], x4] fun v15 =>
              Prg.chk (Bool.and (TV.isAgg v15 5) (fitsAt z46 (TV.cellsL true v15) 0)) (
              Prg.call 21 [TV.agg [TV.cell v15 0, TV.cell v15 1, TV.cell v15 2, frz (TV.cell v15 3), TV.cell v15 4], TV.agg [TV.cell x0 0, x4, TV.lit (Value.int IntKind.i64 (0 : Int)), TV.cell x0 3, TV.cell x0 4]] fun v16 =>
              Prg.chk (fitsAt zBool [v16] 0) (
              Prg.ite (asBool v16) (
                Prg.call 21 [TV.agg [TV.cell x0 0, TV.cell x0 1, TV.cell x0 2, frz v7, TV.cell x0 4], TV.agg [TV.cell x0 0, TV.cell x0 1, TV.cell x0 2, TV.cell x0 3, TV.cell x0 4]] fun v17 =>
                Prg.chk (fitsAt zBool [v17] 0) (
                Prg.ret v17)) (
                Prg.ret (TV.lit (Value.bool false)))))) (
              Prg.ret (TV.lit (Value.bool false)))))) (
            Prg.ret (TV.lit (Value.bool false)))) (
          Prg.ret (TV.lit (Value.bool false))))))))))))))))))
theorem f5_MR (x0 x1 x2 x3 x4 : TV) : startQ prog 5 [x0, x1, x2, x3, x4] = f5_M x0 x1 x2 x3 x4 := by kernel_rfl

theorem f5_run {x0 x1 x2 x3 x4 : TV} {r : TV} (h : Goes prog 5 (f5_M x0 x1 x2 x3 x4) r) : Runs prog 5 [x0, x1, x2, x3, x4] r := Runs.of (f5_MR x0 x1 x2 x3 x4) h
def f6_0_S  (x0 y1 y2 y3 y4 y5 y6 y7 y8 y9 y10 y11 y12 y13 y14 y15 y16 w17 w18 w19 w20 w21 w22 : TV) : ASt := ⟨[AV.one CA.junk, AV.one CA.junk, AV.one (CA.ptr 0 0), AV.one (CA.ptr 1 0), AV.one CA.junk, AV.one (CA.ptr 2 0), AV.one CA.junk, AV.tv x0] ++ List.replicate 136 (AV.one CA.junk), [Option.some (BC.cells [CA.t y1, CA.t y2, CA.t y3, CA.t y4, CA.t y5]), Option.some (BC.cells [CA.t y6, CA.t y7, CA.t y8, CA.t y9, CA.t y10, CA.t y11, CA.t y12]), Option.some (BC.cells [CA.t y13, CA.t y14, CA.t y15, CA.sref 3 3 [], CA.t y16]), Option.some (BC.tree [w17, w18, w19, w20, w21, w22])] ++ List.replicate 164 (Option.none), []⟩
def f6_1_S  (y0 y1 y2 y3 y4 y5 y6 y7 y8 y9 y10 w11 w12 w13 w14 w15 w16 : TV) : ASt := ⟨[AV.one CA.junk, AV.one CA.junk, AV.one CA.junk, AV.one (CA.ptr 0 0), AV.one CA.junk, AV.one (CA.ptr 1 0)] ++ List.replicate 138 (AV.one CA.junk), [Option.some (BC.cells [CA.t y0, CA.t y1, CA.t y2, CA.t y3, CA.t y4, CA.t y5, CA.t y6]), Option.some (BC.cells [CA.t y7, CA.t y8, CA.t y9, CA.sref 2 3 [], CA.t y10]), Option.some (BC.tree [w11, w12, w13, w14, w15, w16])] ++ List.replicate 165 (Option.none), []⟩
def f6_M (x0 x1 : TV) : Prg TV :=
  Prg.chk (TV.isAgg x0 5) (
  Prg.chk (TV.isAgg x1 7) (
  Prg.call 17 [] fun v0 =>
  Prg.chk (fitsAt zBool [v0] 0) (
  Prg.tv (pun UnOp.not v0) fun v1 =>
  Prg.ite (asBool v1) (
    Prg.ret (TV.lit (Value.bool false))) (
    Prg.tv (plen (Kd.slice 25) (TV.cell x0 3)) fun v2 =>
    Prg.tv (pbin (Kd.int IntKind.i64) BinOp.gtr v2 (TV.lit (Value.int IntKind.i64 (300 : Int)))) fun v3 =>
    Prg.ite (asBool v3) (
      Prg.ret (TV.lit (Value.bool true))) (
      Prg.tv (pbin (Kd.int IntKind.i64) BinOp.lss (TV.cell x0 2) (TV.lit (Value.int IntKind.i64 (0 : Int)))) fun v4 =>
      Prg.ite (asBool v4) (
        Prg.ret (TV.lit (Value.bool true))) (
        Prg.tv (pbin (Kd.int IntKind.i64) BinOp.gtr (TV.cell x0 2) (TV.lit (Value.int IntKind.i64 (1000 : Int)))) fun v5 =>
        Prg.ite (asBool v5) (
          Prg.ret (TV.lit (Value.bool true))) (
          Prg.call 26 [TV.agg [TV.cell x0 0, TV.cell x0 1, TV.cell x0 2, TV.cell x0 3, TV.cell x0 4], TV.agg [TV.cell x1 0, TV.cell x1 1, TV.cell x1 2, TV.cell x1 3, TV.cell x1 4, TV.cell x1 5, TV.cell x1 6]] fun v6 =>
          Prg.chk (TV.isTup v6 2) (
          Prg.chk (Bool.and (TV.isAgg (TV.comp v6 0) 5) (fitsAt z46 (TV.cellsL true (TV.comp v6 0)) 0)) (
          Prg.chk (fitsAt zBool [TV.comp v6 1] 0) (
          Prg.tv (pun UnOp.not (TV.comp v6 1)) fun v7 =>
          Prg.ite (asBool v7) (
            Prg.call 21 [TV.agg [TV.cell (TV.comp v6 0) 0, TV.cell (TV.comp v6 0) 1, TV.cell (TV.comp v6 0) 2, frz (TV.cell (TV.comp v6 0) 3), TV.cell (TV.comp v6 0) 4], TV.agg [TV.cell x0 0, TV.cell x0 1, TV.cell x0 2, TV.cell x0 3, TV.cell x0 4]] fun v8 =>
            Prg.chk (fitsAt zBool [v8] 0) (
            Prg.ret v8)) (
            Prg.tv (plen (Kd.slice 25) (TV.cell (TV.comp v6 0) 3)) fun v9 =>
            Prg.tv (plen (Kd.slice 25) (TV.cell x0 3)) fun v10 =>
            Prg.tv (pbin (Kd.int IntKind.i64) BinOp.neq v9 v10) fun v11 =>
            Prg.ite (asBool v11) (
              Prg.ret (TV.lit (Value.bool false))) (
              Prg.tv (pbin (Kd.int IntKind.i64) BinOp.add (TV.cell x0 2) (TV.lit (Value.int IntKind.i64 (1 : Int)))) fun v12 =>
              Prg.tv (pbin (Kd.int IntKind.i64) BinOp.neq (TV.cell (TV.comp v6 0) 2) v12) fun v13 =>
              Prg.ite (asBool v13) (
                Prg.ret (TV.lit (Value.bool false))) (
                Prg.tv (pbin (Kd.int IntKind.i64) BinOp.neq (TV.cell (TV.comp v6 0) 1) (TV.cell x0 1)) fun v14 =>
                Prg.ite (asBool v14) (
                  Prg.ret (TV.lit (Value.bool false))) (
                  Prg.tv (pbin (Kd.int IntKind.i64) BinOp.neq (TV.cell (TV.comp v6 0) 0) (TV.cell x0 0)) fun v15 =>
                  Prg.ite (asBool v15) (
                    Prg.ret (TV.lit (Value.bool false))) (
                    Prg.tv (pbin (Kd.int IntKind.u16) BinOp.neq (TV.cell (TV.comp v6 0) 4) (TV.cell x0 4)) fun v16 =>
                    Prg.ite (asBool v16) (
                      Prg.ret (TV.lit (Value.bool false))) (
                      Prg.tv (pbin (Kd.int IntKind.i64) BinOp.lss (TV.cell x1 1) (TV.lit (Value.int IntKind.i64 (0 : Int)))) fun v17 =>
                      Prg.ite (asBool v17) (
                        Prg.ret (TV.lit (Value.bool false))) (
                        Prg.tv (plen (Kd.slice 25) (TV.cell x0 3)) fun v18 =>
                        Prg.tv (pbin (Kd.int IntKind.i64) BinOp.geq (TV.cell x1 1) v18) fun v19 =>
                        Prg.ite (asBool v19) (
                          Prg.ret (TV.lit (Value.bool false))) (
                          Prg.jmp [0, 0, 1, 0, 1, 1, 1, 1, 1, 1] (f6_0_S (TV.lit (Value.int IntKind.i64 (0 : Int))) (TV.cell x0 0) (TV.cell x0 1) (TV.cell x0 2) (TV.cell x0 3) (TV.cell x0 4) (TV.cell x1 0) (TV.cell x1 1) (TV.cell x1 2) (TV.cell x1 3) (TV.cell x1 4) (TV.cell x1 5) (TV.cell x1 6) (TV.cell (TV.comp v6 0) 0) (TV.cell (TV.comp v6 0) 1) (TV.cell (TV.comp v6 0) 2) (TV.cell (TV.comp v6 0) 4) TV.hole TV.hole TV.hole (TV.cell (TV.comp v6 0) 3) TV.hole TV.hole)))))))))))))))))))
-- [0, 0, 1, 0, 1, 1, 1, 1, 1, 1]
def f6_0  (x0 y1 y2 y3 y4 y5 y6 y7 y8 y9 y10 y11 y12 y13 y14 y15 y16 w17 w18 w19 w20 w21 w22 : TV) : Prg TV :=
  Prg.tv (plen (Kd.slice 25) y4) fun v20 =>
  Prg.tv (pbin (Kd.int IntKind.i64) BinOp.lss x0 v20) fun v21 =>
  Prg.ite (asBool v21) (
    Prg.tv (pbin (Kd.int IntKind.i64) BinOp.neq x0 y7) fun v22 =>
    Prg.ite (asBool v22) (
      Prg.nat (slLen w20) fun n23 =>
      Prg.nat (asNat x0) fun n24 =>
      Prg.chk (Bool.and (slSize w20 1) (Nat.blt n24 n23)) (
      Prg.tvs (pel w20 n24) fun e25 =>
      Prg.chk (fitsAt zWord e25 0) (
      Prg.tvs (pidx 1 y4 x0) fun e26 =>
      Prg.chk (Nat.blt 0 (List.length e26)) (
      Prg.tv (pbin (Kd.int IntKind.u16) BinOp.neq (nth TV.hole e25 0) (nth TV.hole e26 0)) fun v27 =>
      Prg.ite (asBool v27) (
        Prg.ret (TV.lit (Value.bool false))) (
        Prg.tv (pbin (Kd.int IntKind.i64) BinOp.add x0 (TV.lit (Value.int IntKind.i64 (1 : Int)))) fun v28 =>
        Prg.jmp [0, 0, 1, 0, 1, 1, 1, 1, 1, 1] (f6_0_S v28 y1 y2 y3 y4 y5 y6 y7 y8 y9 y10 y11 y12 y13 y14 y15 y16 w17 w18 w19 w20 w21 w22)))))) (
      Prg.tv (pbin (Kd.int IntKind.i64) BinOp.add x0 (TV.lit (Value.int IntKind.i64 (1 : Int)))) fun v29 =>
      Prg.jmp [0, 0, 1, 0, 1, 1, 1, 1, 1, 1] (f6_0_S v29 y1 y2 y3 y4 y5 y6 y7 y8 y9 y10 y11 y12 y13 y14 y15 y16 w17 w18 w19 w20 w21 w22))) (
    Prg.jmp [1, 1, 1, 1, 1, 1, 1] (f6_1_S y6 y7 y8 y9 y10 y11 y12 y13 y14 y15 y16 w17 w18 w19 w20 w21 w22))
-- [1, 1, 1, 1, 1, 1, 1]
def f6_1  (y0 y1 y2 y3 y4 y5 y6 y7 y8 y9 y10 w11 w12 w13 w14 w15 w16 : TV) : Prg TV :=
  Prg.tv (pbin (Kd.int IntKind.i64) BinOp.eql y2 y1) fun v30 =>
  Prg.ite (asBool v30) (
    Prg.ret (TV.lit (Value.bool true))) (
    Prg.tv (pbin (Kd.int IntKind.i64) BinOp.eql y3 y1) fun v31 =>
    Prg.ite (asBool v31) (
      Prg.ret (TV.lit (Value.bool true))) (
      Prg.call 26 [TV.agg [y7, y8, y9, frz w14, y10], TV.agg [y0, y1, y2, y3, y4, y5, y6]] fun v32 =>
      Prg.chk (TV.isTup v32 2) (
      Prg.chk (Bool.and (TV.isAgg (TV.comp v32 0) 5) (fitsAt z46 (TV.cellsL true (TV.comp v32 0)) 0)) (
      Prg.chk (fitsAt zBool [TV.comp v32 1] 0) (
      Prg.ite (asBool (TV.comp v32 1)) (
        Prg.nat (slLen (TV.cell (TV.comp v32 0) 3)) fun n33 =>
        Prg.nat (asNat y1) fun n34 =>
        Prg.chk (Bool.and (slSize (TV.cell (TV.comp v32 0) 3) 1) (Nat.blt n34 n33)) (
        Prg.tvs (pel (TV.cell (TV.comp v32 0) 3) n34) fun e35 =>
        Prg.chk (fitsAt zWord e35 0) (
        Prg.nat (slLen w14) fun n36 =>
        Prg.nat (asNat y1) fun n37 =>
        Prg.chk (Bool.and (slSize w14 1) (Nat.blt n37 n36)) (
        Prg.tvs (pel w14 n37) fun e38 =>
        Prg.chk (fitsAt zWord e38 0) (
        Prg.tv (pbin (Kd.int IntKind.u16) BinOp.eql (nth TV.hole e35 0) (nth TV.hole e38 0)) fun v39 =>
        Prg.ret v39))))) (
        Prg.ret (TV.lit (Value.bool false))))))))
theorem f6_MR (x0 x1 : TV) : startQ prog 6 [x0, x1] = f6_M x0 x1 := by kernel_rfl
theorem f6_0_R  (x0 y1 y2 y3 y4 y5 y6 y7 y8 y9 y10 y11 y12 y13 y14 y15 y16 w17 w18 w19 w20 w21 w22 : TV) : pieceQ prog 6 [0, 0, 1, 0, 1, 1, 1, 1, 1, 1] (f6_0_S x0 y1 y2 y3 y4 y5 y6 y7 y8 y9 y10 y11 y12 y13 y14 y15 y16 w17 w18 w19 w20 w21 w22) = f6_0 x0 y1 y2 y3 y4 y5 y6 y7 y8 y9 y10 y11 y12 y13 y14 y15 y16 w17 w18 w19 w20 w21 w22 := by kernel_rfl
theorem f6_1_R  (y0 y1 y2 y3 y4 y5 y6 y7 y8 y9 y10 w11 w12 w13 w14 w15 w16 : TV) : pieceQ prog 6 [1, 1, 1, 1, 1, 1, 1] (f6_1_S y0 y1 y2 y3 y4 y5 y6 y7 y8 y9 y10 w11 w12 w13 w14 w15 w16) = f6_1 y0 y1 y2 y3 y4 y5 y6 y7 y8 y9 y10 w11 w12 w13 w14 w15 w16 := by kernel_rfl

theorem f6_run {x0 x1 : TV} {r : TV} (h : Goes prog 6 (f6_M x0 x1) r) : Runs prog 6 [x0, x1] r := Runs.of (f6_MR x0 x1) h
theorem f6_0_J  {x0 y1 y2 y3 y4 y5 y6 y7 y8 y9 y10 y11 y12 y13 y14 y15 y16 w17 w18 w19 w20 w21 w22 : TV} {r : TV} (h : Goes prog 6 (f6_0 x0 y1 y2 y3 y4 y5 y6 y7 y8 y9 y10 y11 y12 y13 y14 y15 y16 w17 w18 w19 w20 w21 w22) r) : Goes prog 6 (.jmp [0, 0, 1, 0, 1, 1, 1, 1, 1, 1] (f6_0_S x0 y1 y2 y3 y4 y5 y6 y7 y8 y9 y10 y11 y12 y13 y14 y15 y16 w17 w18 w19 w20 w21 w22)) r := Goes.jmp (f6_0_R x0 y1 y2 y3 y4 y5 y6 y7 y8 y9 y10 y11 y12 y13 y14 y15 y16 w17 w18 w19 w20 w21 w22) h
theorem f6_1_J  {y0 y1 y2 y3 y4 y5 y6 y7 y8 y9 y10 w11 w12 w13 w14 w15 w16 : TV} {r : TV} (h : Goes prog 6 (f6_1 y0 y1 y2 y3 y4 y5 y6 y7 y8 y9 y10 w11 w12 w13 w14 w15 w16) r) : Goes prog 6 (.jmp [1, 1, 1, 1, 1, 1, 1] (f6_1_S y0 y1 y2 y3 y4 y5 y6 y7 y8 y9 y10 w11 w12 w13 w14 w15 w16)) r := Goes.jmp (f6_1_R y0 y1 y2 y3 y4 y5 y6 y7 y8 y9 y10 w11 w12 w13 w14 w15 w16) h
def f7_0_S  (x0 x1 x2 y3 y4 y5 y6 y7 y8 y9 y10 y11 y12 y13 y14 y15 w16 w17 w18 w19 w20 w21 : TV) : ASt := ⟨[AV.one CA.junk, AV.one CA.junk, AV.one CA.junk, AV.tv x0, AV.one (CA.ptr 0 0), AV.one (CA.ptr 1 0), AV.one CA.junk, AV.one CA.junk, AV.one CA.junk, AV.one (CA.ptr 2 0), AV.tv x1, AV.one (CA.ptr 3 0), AV.one CA.junk, AV.tv x2] ++ List.replicate 119 (AV.one CA.junk), [Option.some (BC.cells [CA.t y3]), Option.some (BC.cells [CA.t y4, CA.t y5, CA.t y6, CA.t y7, CA.t y8]), Option.some (BC.cells [CA.t y9, CA.t y10, CA.t y11]), Option.some (BC.cells [CA.t y12, CA.t y13, CA.t y14, CA.sref 4 3 [], CA.t y15]), Option.some (BC.tree [w16, w17, w18, w19, w20, w21])] ++ List.replicate 152 (Option.none), []⟩
def f7_1_S  (x0 x1 x2 x3 y4 y5 y6 y7 y8 y9 y10 y11 y12 y13 y14 y15 y16 w17 w18 w19 w20 w21 w22 : TV) : ASt := ⟨[AV.one CA.junk, AV.one CA.junk, AV.one CA.junk, AV.tv x0, AV.one (CA.ptr 0 0), AV.one (CA.ptr 1 0), AV.one CA.junk, AV.one CA.junk, AV.one CA.junk, AV.one (CA.ptr 2 0), AV.tv x1, AV.one (CA.ptr 3 0), AV.one CA.junk, AV.tv x2, AV.tv x3] ++ List.replicate 118 (AV.one CA.junk), [Option.some (BC.cells [CA.t y4]), Option.some (BC.cells [CA.t y5, CA.t y6, CA.t y7, CA.t y8, CA.t y9]), Option.some (BC.cells [CA.t y10, CA.t y11, CA.t y12]), Option.some (BC.cells [CA.t y13, CA.t y14, CA.t y15, CA.sref 4 3 [], CA.t y16]), Option.some (BC.tree [w17, w18, w19, w20, w21, w22])] ++ List.replicate 152 (Option.none), []⟩
def f7_2_S  (y0 y1 y2 y3 y4 w5 w6 w7 w8 w9 w10 : TV) : ASt := ⟨List.replicate 4 (AV.one CA.junk) ++ [AV.one (CA.ptr 0 0)] ++ List.replicate 6 (AV.one CA.junk) ++ [AV.one (CA.ptr 1 0)] ++ List.replicate 121 (AV.one CA.junk), [Option.some (BC.cells [CA.t y0]), Option.some (BC.cells [CA.t y1, CA.t y2, CA.t y3, CA.sref 2 3 [], CA.t y4]), Option.some (BC.tree [w5, w6, w7, w8, w9, w10])] ++ List.replicate 154 (Option.none), []⟩
def f7_M (x0 x1 x2 x3 : TV) : Prg TV :=
  Prg.chk (TV.isAgg x0 1) (
  Prg.chk (TV.isAgg x1 5) (
  Prg.call 17 [] fun v0 =>
  Prg.chk (fitsAt zBool [v0] 0) (
  Prg.tv (pun UnOp.not v0) fun v1 =>
  Prg.ite (asBool v1) (
    Prg.ret (TV.lit (Value.bool false))) (
    Prg.call 13 [TV.agg [TV.cell x0 0]] fun v2 =>
    Prg.chk (fitsAt zBool [v2] 0) (
    Prg.tv (pun UnOp.not v2) fun v3 =>
    Prg.ite (asBool v3) (
      Prg.ret (TV.lit (Value.bool true))) (
      Prg.tv (plen (Kd.slice 25) (TV.cell x1 3)) fun v4 =>
      Prg.tv (pbin (Kd.int IntKind.i64) BinOp.gtr v4 (TV.lit (Value.int IntKind.i64 (300 : Int)))) fun v5 =>
      Prg.ite (asBool v5) (
        Prg.ret (TV.lit (Value.bool true))) (
        Prg.call 22 [TV.agg [TV.cell x0 0], TV.agg [TV.cell x1 0, TV.cell x1 1, TV.cell x1 2, TV.cell x1 3, TV.cell x1 4]] fun v6 =>
        Prg.chk (fitsAt zBool [v6] 0) (
        Prg.tv (pun UnOp.not v6) fun v7 =>
        Prg.ite (asBool v7) (
          Prg.ret (TV.lit (Value.bool true))) (
          Prg.tvs (pidx 3 (TV.cell x0 0) (TV.cell x1 0)) fun e8 =>
          Prg.chk (Nat.ble 3 (List.length e8)) (
          Prg.tv (pconv (Kd.int IntKind.i64) x2) fun v9 =>
          Prg.tv (plen (Kd.slice 42) (nth TV.hole e8 2)) fun v10 =>
          Prg.tv (pbin (Kd.int IntKind.i64) BinOp.rem v9 v10) fun v11 =>
          Prg.call 19 [TV.agg [TV.cell x0 0], TV.agg [TV.cell x1 0, TV.cell x1 1, TV.cell x1 2, TV.cell x1 3, TV.cell x1 4], v11, x3] fun v12 =>
          Prg.chk (TV.isTup v12 2) (
          Prg.chk (Bool.and (TV.isAgg (TV.comp v12 0) 5) (fitsAt z46 (TV.cellsL true (TV.comp v12 0)) 0)) (
          Prg.chk (fitsAt zInt [TV.comp v12 1] 0) (
          Prg.tvs (pidx 14 (nth TV.hole e8 2) v11) fun e13 =>
          Prg.chk (Nat.blt 0 (List.length e13)) (
          Prg.tv (pun UnOp.not (nth TV.hole e13 0)) fun v14 =>
          Prg.ite (asBool v14) (
            Prg.tv (pbin (Kd.int IntKind.i64) BinOp.eql (TV.comp v12 1) (TV.lit (Value.int IntKind.i64 (1 : Int)))) fun v15 =>
            Prg.ite (asBool v15) (
              Prg.call 21 [TV.agg [TV.cell (TV.comp v12 0) 0, TV.cell (TV.comp v12 0) 1, TV.cell (TV.comp v12 0) 2, frz (TV.cell (TV.comp v12 0) 3), TV.cell (TV.comp v12 0) 4], TV.agg [TV.cell x1 0, TV.cell x1 1, TV.cell x1 2, TV.cell x1 3, TV.cell x1 4]] fun v16 =>
              Prg.chk (fitsAt zBool [v16] 0) (
              Prg.ret v16)) (
              Prg.ret (TV.lit (Value.bool false)))) (
            Prg.tv (pbin (Kd.int IntKind.i64) BinOp.neq (TV.comp v12 1) (TV.lit (Value.int IntKind.i64 (0 : Int)))) fun v17 =>
            Prg.ite (asBool v17) (
              Prg.ret (TV.lit (Value.bool false))) (
              Prg.tv (pbin (Kd.int IntKind.i64) BinOp.neq (TV.cell (TV.comp v12 0) 1) v11) fun v18 =>
              Prg.ite (asBool v18) (
                Prg.ret (TV.lit (Value.bool false))) (
                Prg.tv (pbin (Kd.int IntKind.i64) BinOp.neq (TV.cell (TV.comp v12 0) 2) (TV.lit (Value.int IntKind.i64 (0 : Int)))) fun v19 =>
                Prg.ite (asBool v19) (
                  Prg.ret (TV.lit (Value.bool false))) (
                  Prg.tv (pbin (Kd.int IntKind.u16) BinOp.neq (TV.cell (TV.comp v12 0) 4) x3) fun v20 =>
                  Prg.ite (asBool v20) (
                    Prg.ret (TV.lit (Value.bool false))) (
                    Prg.tv (pbin (Kd.int IntKind.i64) BinOp.neq (TV.cell (TV.comp v12 0) 0) (TV.cell x1 0)) fun v21 =>
                    Prg.ite (asBool v21) (
                      Prg.ret (TV.lit (Value.bool false))) (
                      Prg.tv (plen (Kd.slice 25) (TV.cell (TV.comp v12 0) 3)) fun v22 =>
                      Prg.tv (plen (Kd.slice 25) (TV.cell x1 3)) fun v23 =>
                      Prg.tv (pbin (Kd.int IntKind.i64) BinOp.neq v22 v23) fun v24 =>
                      Prg.ite (asBool v24) (
                        Prg.ret (TV.lit (Value.bool false))) (
                        Prg.jmp [0, 0, 1, 0, 1, 1, 1, 1, 1, 1, 1, 1] (f7_0_S x3 v11 (TV.lit (Value.int IntKind.i64 (0 : Int))) (TV.cell x0 0) (TV.cell x1 0) (TV.cell x1 1) (TV.cell x1 2) (TV.cell x1 3) (TV.cell x1 4) (nth TV.hole e8 0) (nth TV.hole e8 1) (nth TV.hole e8 2) (TV.cell (TV.comp v12 0) 0) (TV.cell (TV.comp v12 0) 1) (TV.cell (TV.comp v12 0) 2) (TV.cell (TV.comp v12 0) 4) TV.hole TV.hole TV.hole (TV.cell (TV.comp v12 0) 3) TV.hole TV.hole))))))))))))))))))))))
-- [0, 0, 1, 0, 1, 1, 1, 1, 1, 1, 1, 1]
def f7_0  (x0 x1 x2 y3 y4 y5 y6 y7 y8 y9 y10 y11 y12 y13 y14 y15 w16 w17 w18 w19 w20 w21 : TV) : Prg TV :=
  Prg.tv (plen (Kd.slice 25) w19) fun v25 =>
  Prg.tv (pbin (Kd.int IntKind.i64) BinOp.lss x2 v25) fun v26 =>
  Prg.ite (asBool v26) (
    Prg.tvs (pidx 1 y7 x2) fun e27 =>
    Prg.chk (Nat.blt 0 (List.length e27)) (
    Prg.tvs (pidx 14 y11 x1) fun e28 =>
    Prg.chk (Nat.blt 1 (List.length e28)) (
    Prg.tv (pbin (Kd.int IntKind.i64) BinOp.eql x2 (nth TV.hole e28 1)) fun v29 =>
    Prg.ite (asBool v29) (
      Prg.jmp [1, 1, 0, 0, 1, 0, 0, 1, 0, 1, 1, 1, 1, 1, 1, 1, 1] (f7_1_S x0 x1 x2 x0 y3 y4 y5 y6 y7 y8 y9 y10 y11 y12 y13 y14 y15 w16 w17 w18 w19 w20 w21)) (
      Prg.jmp [1, 1, 0, 0, 1, 0, 0, 1, 0, 1, 1, 1, 1, 1, 1, 1, 1] (f7_1_S x0 x1 x2 (nth TV.hole e27 0) y3 y4 y5 y6 y7 y8 y9 y10 y11 y12 y13 y14 y15 w16 w17 w18 w19 w20 w21))))) (
    Prg.jmp [1, 1, 1, 1, 1, 1, 1, 1, 1] (f7_2_S y3 y12 y13 y14 y15 w16 w17 w18 w19 w20 w21))
-- [1, 1, 0, 0, 1, 0, 0, 1, 0, 1, 1, 1, 1, 1, 1, 1, 1]
def f7_1  (x0 x1 x2 x3 y4 y5 y6 y7 y8 y9 y10 y11 y12 y13 y14 y15 y16 w17 w18 w19 w20 w21 w22 : TV) : Prg TV :=
  Prg.nat (slLen w20) fun n30 =>
  Prg.nat (asNat x2) fun n31 =>
  Prg.chk (Bool.and (slSize w20 1) (Nat.blt n31 n30)) (
  Prg.tvs (pel w20 n31) fun e32 =>
  Prg.chk (fitsAt zWord e32 0) (
  Prg.tv (pbin (Kd.int IntKind.u16) BinOp.neq (nth TV.hole e32 0) x3) fun v33 =>
  Prg.ite (asBool v33) (
    Prg.ret (TV.lit (Value.bool false))) (
    Prg.tv (pbin (Kd.int IntKind.i64) BinOp.add x2 (TV.lit (Value.int IntKind.i64 (1 : Int)))) fun v34 =>
    Prg.jmp [0, 0, 1, 0, 1, 1, 1, 1, 1, 1, 1, 1] (f7_0_S x0 x1 v34 y4 y5 y6 y7 y8 y9 y10 y11 y12 y13 y14 y15 y16 w17 w18 w19 w20 w21 w22))))
-- [1, 1, 1, 1, 1, 1, 1, 1, 1]
def f7_2  (y0 y1 y2 y3 y4 w5 w6 w7 w8 w9 w10 : TV) : Prg TV :=
  Prg.call 22 [TV.agg [y0], TV.agg [y1, y2, y3, frz w8, y4]] fun v35 =>
  Prg.chk (fitsAt zBool [v35] 0) (
  Prg.ret v35)
theorem f7_MR (x0 x1 x2 x3 : TV) : startQ prog 7 [x0, x1, x2, x3] = f7_M x0 x1 x2 x3 := by kernel_rfl
theorem f7_0_R  (x0 x1 x2 y3 y4 y5 y6 y7 y8 y9 y10 y11 y12 y13 y14 y15 w16 w17 w18 w19 w20 w21 : TV) : pieceQ prog 7 [0, 0, 1, 0, 1, 1, 1, 1, 1, 1, 1, 1] (f7_0_S x0 x1 x2 y3 y4 y5 y6 y7 y8 y9 y10 y11 y12 y13 y14 y15 w16 w17 w18 w19 w20 w21) = f7_0 x0 x1 x2 y3 y4 y5 y6 y7 y8 y9 y10 y11 y12 y13 y14 y15 w16 w17 w18 w19 w20 w21 := by kernel_rfl
theorem f7_1_R  (x0 x1 x2 x3 y4 y5 y6 y7 y8 y9 y10 y11 y12 y13 y14 y15 y16 w17 w18 w19 w20 w21 w22 : TV) : pieceQ prog 7 [1, 1, 0, 0, 1, 0, 0, 1, 0, 1, 1, 1, 1, 1, 1, 1, 1] (f7_1_S x0 x1 x2 x3 y4 y5 y6 y7 y8 y9 y10 y11 y12 y13 y14 y15 y16 w17 w18 w19 w20 w21 w22) = f7_1 x0 x1 x2 x3 y4 y5 y6 y7 y8 y9 y10 y11 y12 y13 y14 y15 y16 w17 w18 w19 w20 w21 w22 := by kernel_rfl
theorem f7_2_R  (y0 y1 y2 y3 y4 w5 w6 w7 w8 w9 w10 : TV) : pieceQ prog 7 [1, 1, 1, 1, 1, 1, 1, 1, 1] (f7_2_S y0 y1 y2 y3 y4 w5 w6 w7 w8 w9 w10) = f7_2 y0 y1 y2 y3 y4 w5 w6 w7 w8 w9 w10 := by kernel_rfl

theorem f7_run {x0 x1 x2 x3 : TV} {r : TV} (h : Goes prog 7 (f7_M x0 x1 x2 x3) r) : Runs prog 7 [x0, x1, x2, x3] r := Runs.of (f7_MR x0 x1 x2 x3) h
theorem f7_0_J  {x0 x1 x2 y3 y4 y5 y6 y7 y8 y9 y10 y11 y12 y13 y14 y15 w16 w17 w18 w19 w20 w21 : TV} {r : TV} (h : Goes prog 7 (f7_0 x0 x1 x2 y3 y4 y5 y6 y7 y8 y9 y10 y11 y12 y13 y14 y15 w16 w17 w18 w19 w20 w21) r) : Goes prog 7 (.jmp [0, 0, 1, 0, 1, 1, 1, 1, 1, 1, 1, 1] (f7_0_S x0 x1 x2 y3 y4 y5 y6 y7 y8 y9 y10 y11 y12 y13 y14 y15 w16 w17 w18 w19 w20 w21)) r := Goes.jmp (f7_0_R x0 x1 x2 y3 y4 y5 y6 y7 y8 y9 y10 y11 y12 y13 y14 y15 w16 w17 w18 w19 w20 w21) h
theorem f7_1_J  {x0 x1 x2 x3 y4 y5 y6 y7 y8 y9 y10 y11 y12 y13 y14 y15 y16 w17 w18 w19 w20 w21 w22 : TV} {r : TV} (h : Goes prog 7 (f7_1 x0 x1 x2 x3 y4 y5 y6 y7 y8 y9 y10 y11 y12 y13 y14 y15 y16 w17 w18 w19 w20 w21 w22) r) : Goes prog 7 (.jmp [1, 1, 0, 0, 1, 0, 0, 1, 0, 1, 1, 1, 1, 1, 1, 1, 1] (f7_1_S x0 x1 x2 x3 y4 y5 y6 y7 y8 y9 y10 y11 y12 y13 y14 y15 y16 w17 w18 w19 w20 w21 w22)) r := Goes.jmp (f7_1_R x0 x1 x2 x3 y4 y5 y6 y7 y8 y9 y10 y11 y12 y13 y14 y15 y16 w17 w18 w19 w20 w21 w22) h
theorem f7_2_J  {y0 y1 y2 y3 y4 w5 w6 w7 w8 w9 w10 : TV} {r : TV} (h : Goes prog 7 (f7_2 y0 y1 y2 y3 y4 w5 w6 w7 w8 w9 w10) r) : Goes prog 7 (.jmp [1, 1, 1, 1, 1, 1, 1, 1, 1] (f7_2_S y0 y1 y2 y3 y4 w5 w6 w7 w8 w9 w10)) r := Goes.jmp (f7_2_R y0 y1 y2 y3 y4 w5 w6 w7 w8 w9 w10) h
def f12_M : Prg TV :=
  Prg.call 14 [TV.agg [frz (TV.sl true 3 (chunks 3 1 [TV.lit (Value.int IntKind.i64 (0 : Int)), TV.lit (Value.int IntKind.i64 (1 : Int)), TV.sl true 14 (chunks 14 1 [TV.lit (Value.bool false), TV.lit (Value.int IntKind.i64 (0 : Int)), TV.lit (Value.slice Option.none 0 0), TV.lit (Value.bool false), TV.lit (Value.bool false), TV.lit (Value.slice Option.none 0 0), TV.lit (Value.int IntKind.i64 (1 : Int)), TV.lit (Value.int IntKind.i64 (0 : Int)), TV.lit (Value.int IntKind.i64 (0 : Int)), TV.lit (Value.int IntKind.i64 (0 : Int)), TV.lit (Value.slice Option.none 0 0), TV.lit (Value.int IntKind.i64 (0 : Int)), TV.lit (Value.int IntKind.i64 (0 : Int)), TV.lit (Value.int IntKind.i64 (0 : Int))])]))]] fun v0 =>
  Prg.chk (Bool.and (TV.isAgg v0 1) (fitsAt zSl (TV.cellsL true v0) 0)) (
  Prg.tv (plen (Kd.slice 32) (TV.cell v0 0)) fun v1 =>
  Prg.tv (pbin (Kd.int IntKind.i64) BinOp.neq v1 (TV.lit (Value.int IntKind.i64 (1 : Int)))) fun v2 =>
  Prg.ite (asBool v2) (
    Prg.ret (TV.lit (Value.bool false))) (
    Prg.nat (slLen (TV.cell v0 0)) fun n3 =>
    Prg.nat (asNat (TV.lit (Value.int IntKind.i64 (0 : Int)))) fun n4 =>
    Prg.chk (Bool.and (slSize (TV.cell v0 0) 3) (Nat.blt n4 n3)) (
    Prg.tvs (pel (TV.cell v0 0) n4) fun e5 =>
    Prg.chk (fitsAt zInt e5 1) (
    Prg.tv (setC [] (TV.cell v0 0) n4 1 [TV.lit (Value.int IntKind.i64 (0 : Int))]) fun v6 =>
    Prg.call 40 [TV.agg [frz (TV.sl true 3 (chunks 3 1 [TV.lit (Value.int IntKind.i64 (0 : Int)), TV.lit (Value.int IntKind.i64 (1 : Int)), TV.sl true 14 (chunks 14 1 [TV.lit (Value.bool false), TV.lit (Value.int IntKind.i64 (0 : Int)), TV.lit (Value.slice Option.none 0 0), TV.lit (Value.bool false), TV.lit (Value.bool false), TV.lit (Value.slice Option.none 0 0), TV.lit (Value.int IntKind.i64 (1 : Int)), TV.lit (Value.int IntKind.i64 (0 : Int)), TV.lit (Value.int IntKind.i64 (0 : Int)), TV.lit (Value.int IntKind.i64 (0 : Int)), TV.lit (Value.slice Option.none 0 0), TV.lit (Value.int IntKind.i64 (0 : Int)), TV.lit (Value.int IntKind.i64 (0 : Int)), TV.lit (Value.int IntKind.i64 (0 : Int))])]))]] fun v7 =>
    Prg.chk (fitsAt zBool [v7] 0) (
    Prg.ite (asBool v7) (
      Prg.call 40 [TV.agg [frz v6]] fun v8 =>
      Prg.chk (fitsAt zBool [v8] 0) (
      Prg.tv (pun UnOp.not v8) fun v9 =>
      Prg.ite (asBool v9) (
        Prg.nat (slLen (TV.sl true 3 (chunks 3 1 [TV.lit (Value.int IntKind.i64 (0 : Int)), TV.lit (Value.int IntKind.i64 (1 : Int)), TV.sl true 14 (chunks 14 1 [TV.lit (Value.bool false), TV.lit (Value.int IntKind.i64 (0 : Int)), TV.lit (Value.slice Option.none 0 0), TV.lit (Value.bool false), TV.lit (Value.bool false), TV.lit (Value.slice Option.none 0 0), TV.lit (Value.int IntKind.i64 (1 : Int)), TV.lit (Value.int IntKind.i64 (0 : Int)), TV.lit (Value.int IntKind.i64 (0 : Int)), TV.lit (Value.int IntKind.i64 (0 : Int)), TV.lit (Value.slice Option.none 0 0), TV.lit (Value.int IntKind.i64 (0 : Int)), TV.lit (Value.int IntKind.i64 (0 : Int)), TV.lit (Value.int IntKind.i64 (0 : Int))])]))) fun n10 =>
        Prg.nat (asNat (TV.lit (Value.int IntKind.i64 (0 : Int)))) fun n11 =>
        Prg.chk (Bool.and true (Nat.blt n11 n10)) (
        Prg.tvs (pel (TV.sl true 3 (chunks 3 1 [TV.lit (Value.int IntKind.i64 (0 : Int)), TV.lit (Value.int IntKind.i64 (1 : Int)), TV.sl true 14 (chunks 14 1 [TV.lit (Value.bool false), TV.lit (Value.int IntKind.i64 (0 : Int)), TV.lit (Value.slice Option.none 0 0), TV.lit (Value.bool false), TV.lit (Value.bool false), TV.lit (Value.slice Option.none 0 0), TV.lit (Value.int IntKind.i64 (1 : Int)), TV.lit (Value.int IntKind.i64 (0 : Int)), TV.lit (Value.int IntKind.i64 (0 : Int)), TV.lit (Value.int IntKind.i64 (0 : Int)), TV.lit (Value.slice Option.none 0 0), TV.lit (Value.int IntKind.i64 (0 : Int)), TV.lit (Value.int IntKind.i64 (0 : Int)), TV.lit (Value.int IntKind.i64 (0 : Int))])])) n11) fun e12 =>
        Prg.chk (fitsAt zFunc e12 0) (
        Prg.tv (getP [(n11, 2)] (TV.sl true 3 (chunks 3 1 [TV.lit (Value.int IntKind.i64 (0 : Int)), TV.lit (Value.int IntKind.i64 (1 : Int)), TV.sl true 14 (chunks 14 1 [TV.lit (Value.bool false), TV.lit (Value.int IntKind.i64 (0 : Int)), TV.lit (Value.slice Option.none 0 0), TV.lit (Value.bool false), TV.lit (Value.bool false), TV.lit (Value.slice Option.none 0 0), TV.lit (Value.int IntKind.i64 (1 : Int)), TV.lit (Value.int IntKind.i64 (0 : Int)), TV.lit (Value.int IntKind.i64 (0 : Int)), TV.lit (Value.int IntKind.i64 (0 : Int)), TV.lit (Value.slice Option.none 0 0), TV.lit (Value.int IntKind.i64 (0 : Int)), TV.lit (Value.int IntKind.i64 (0 : Int)), TV.lit (Value.int IntKind.i64 (0 : Int))])]))) fun v13 =>
        Prg.call 41 [TV.agg [frz (TV.sl true 3 (chunks 3 1 [TV.lit (Value.int IntKind.i64 (0 : Int)), TV.lit (Value.int IntKind.i64 (1 : Int)), TV.sl true 14 (chunks 14 1 [TV.lit (Value.bool false), TV.lit (Value.int IntKind.i64 (0 : Int)), TV.lit (Value.slice Option.none 0 0), TV.lit (Value.bool false), TV.lit (Value.bool false), TV.lit (Value.slice Option.none 0 0), TV.lit (Value.int IntKind.i64 (1 : Int)), TV.lit (Value.int IntKind.i64 (0 : Int)), TV.lit (Value.int IntKind.i64 (0 : Int)), TV.lit (Value.int IntKind.i64 (0 : Int)), TV.lit (Value.slice Option.none 0 0), TV.lit (Value.int IntKind.i64 (0 : Int)), TV.lit (Value.int IntKind.i64 (0 : Int)), TV.lit (Value.int IntKind.i64 (0 : Int))])]))], TV.agg [nth TV.hole e12 0, nth TV.hole e12 1, frz v13]] fun v14 =>
        Prg.chk (fitsAt zBool [v14] 0) (
        Prg.ite (asBool v14) (
          Prg.call 15 [TV.agg [frz v6], TV.agg [frz (TV.sl true 3 (chunks 3 1 [TV.lit (Value.int IntKind.i64 (0 : Int)), TV.lit (Value.int IntKind.i64 (1 : Int)), TV.sl true 14 (chunks 14 1 [TV.lit (Value.bool false), TV.lit (Value.int IntKind.i64 (0 : Int)), TV.lit (Value.slice Option.none 0 0), TV.lit (Value.bool false), TV.lit (Value.bool false), TV.lit (Value.slice Option.none 0 0), TV.lit (Value.int IntKind.i64 (1 : Int)), TV.lit (Value.int IntKind.i64 (0 : Int)), TV.lit (Value.int IntKind.i64 (0 : Int)), TV.lit (Value.int IntKind.i64 (0 : Int)), TV.lit (Value.slice Option.none 0 0), TV.lit (Value.int IntKind.i64 (0 : Int)), TV.lit (Value.int IntKind.i64 (0 : Int)), TV.lit (Value.int IntKind.i64 (0 : Int))])]))]] fun v15 =>
          Prg.chk (fitsAt zBool [v15] 0) (
          Prg.tv (pun UnOp.not v15) fun v16 =>
          Prg.ite (asBool v16) (
            Prg.nat (slLen (TV.sl true 3 (chunks 3 1 [TV.lit (Value.int IntKind.i64 (0 : Int)), TV.lit (Value.int IntKind.i64 (1 : Int)), TV.sl true 14 (chunks 14 1 [TV.lit (Value.bool false), TV.lit (Value.int IntKind.i64 (0 : Int)), TV.lit (Value.slice Option.none 0 0), TV.lit (Value.bool false), TV.lit (Value.bool false), TV.lit (Value.slice Option.none 0 0), TV.lit (Value.int IntKind.i64 (1 : Int)), TV.lit (Value.int IntKind.i64 (0 : Int)), TV.lit (Value.int IntKind.i64 (0 : Int)), TV.lit (Value.int IntKind.i64 (0 : Int)), TV.lit (Value.slice Option.none 0 0), TV.lit (Value.int IntKind.i64 (0 : Int)), TV.lit (Value.int IntKind.i64 (0 : Int)), TV.lit (Value.int IntKind.i64 (0 : Int))])]))) fun n17 =>
            Prg.nat (asNat (TV.lit (Value.int IntKind.i64 (0 : Int)))) fun n18 =>
            Prg.chk (Bool.and true (Nat.blt n18 n17)) (
            Prg.tvs (pel (TV.sl true 3 (chunks 3 1 [TV.lit (Value.int IntKind.i64 (0 : Int)), TV.lit (Value.int IntKind.i64 (1 : Int)), TV.sl true 14 (chunks 14 1 [TV.lit (Value.bool false), TV.lit (Value.int IntKind.i64 (0 : Int)), TV.lit (Value.slice Option.none 0 0), TV.lit (Value.bool false), TV.lit (Value.bool false), TV.lit (Value.slice Option.none 0 0), TV.lit (Value.int IntKind.i64 (1 : Int)), TV.lit (Value.int IntKind.i64 (0 : Int)), TV.lit (Value.int IntKind.i64 (0 : Int)), TV.lit (Value.int IntKind.i64 (0 : Int)), TV.lit (Value.slice Option.none 0 0), TV.lit (Value.int IntKind.i64 (0 : Int)), TV.lit (Value.int IntKind.i64 (0 : Int)), TV.lit (Value.int IntKind.i64 (0 : Int))])])) n18) fun e19 =>
            Prg.chk (fitsAt zFunc e19 0) (
            Prg.tv (getP [(n18, 2)] (TV.sl true 3 (chunks 3 1 [TV.lit (Value.int IntKind.i64 (0 : Int)), TV.lit (Value.int IntKind.i64 (1 : Int)), TV.sl true 14 (chunks 14 1 [TV.lit (Value.bool false), TV.lit (Value.int IntKind.i64 (0 : Int)), TV.lit (Value.slice Option.none 0 0), TV.lit (Value.bool false), TV.lit (Value.bool false), TV.lit (Value.slice Option.none 0 0), TV.lit (Value.int IntKind.i64 (1 : Int)), TV.lit (Value.int IntKind.i64 (0 : Int)), TV.lit (Value.int IntKind.i64 (0 : Int)), TV.lit (Value.int IntKind.i64 (0 : Int)), TV.lit (Value.slice Option.none 0 0), TV.lit (Value.int IntKind.i64 (0 : Int)), TV.lit (Value.int IntKind.i64 (0 : Int)), TV.lit (Value.int IntKind.i64 (0 : Int))])]))) fun v20 =>
            Prg.call 42 [TV.agg [nth TV.hole e19 0, nth TV.hole e19 1, frz v20]] fun v21 =>
            Prg.chk (fitsAt zSl [v21] 0) (
            Prg.tv (plen (Kd.slice 4) v21) fun v22 =>
            Prg.tv (pbin (Kd.int IntKind.i64) BinOp.eql v22 (TV.lit (Value.int IntKind.i64 (1 : Int)))) fun v23 =>
            Prg.ite (asBool v23) (
              Prg.call 43 [TV.agg [TV.lit (Value.bool false), TV.lit (Value.int IntKind.i64 (0 : Int)), TV.lit (Value.slice Option.none 0 0), TV.lit (Value.bool false), TV.lit (Value.bool false), TV.lit (Value.slice Option.none 0 0), TV.lit (Value.int IntKind.i64 (3 : Int)), TV.lit (Value.int IntKind.i64 (0 : Int)), TV.lit (Value.int IntKind.i64 (0 : Int)), TV.lit (Value.int IntKind.i64 (0 : Int)), TV.lit (Value.slice Option.none 0 0), TV.lit (Value.int IntKind.i64 (0 : Int)), TV.lit (Value.int IntKind.i64 (0 : Int)), TV.lit (Value.int IntKind.i64 (0 : Int))]] fun v24 =>
              Prg.chk (fitsAt zSl [v24] 0) (
              Prg.tv (plen (Kd.slice 3) v24) fun v25 =>
              Prg.tv (pbin (Kd.int IntKind.i64) BinOp.eql v25 (TV.lit (Value.int IntKind.i64 (2 : Int)))) fun v26 =>
              Prg.ret v26)) (
              Prg.ret (TV.lit (Value.bool false))))))) (
            Prg.ret (TV.lit (Value.bool false))))) (
          Prg.ret (TV.lit (Value.bool false))))))) (
        Prg.ret (TV.lit (Value.bool false))))) (
      Prg.ret (TV.lit (Value.bool false))))))))
theorem f12_MR : startQ prog 12 [] = f12_M  := by kernel_rfl

theorem f12_run {r : TV} (h : Goes prog 12 (f12_M ) r) : Runs prog 12 [] r := Runs.of (f12_MR ) h
def f13_0_S  (x0 x1 y2 : TV) : ASt := ⟨[AV.one CA.junk, AV.one (CA.ptr 0 0), AV.one CA.junk, AV.tv x0, AV.tv x1] ++ List.replicate 82 (AV.one CA.junk), [Option.some (BC.cells [CA.t y2])] ++ List.replicate 110 (Option.none), []⟩
def f13_1_S  (x0 x1 x2 y3 : TV) : ASt := ⟨[AV.one CA.junk, AV.one (CA.ptr 0 0), AV.one CA.junk, AV.tv x0, AV.tv x1, AV.tv x2] ++ List.replicate 81 (AV.one CA.junk), [Option.some (BC.cells [CA.t y3])] ++ List.replicate 110 (Option.none), []⟩
def f13_2_S  (x0 x1 x2 x3 y4 y5 y6 y7 y8 y9 y10 y11 y12 y13 y14 y15 y16 y17 y18 : TV) : ASt := ⟨[AV.one CA.junk, AV.one (CA.ptr 0 0), AV.one CA.junk, AV.tv x0, AV.tv x1, AV.tv x2, AV.one (CA.ptr 1 0), AV.tv x3] ++ List.replicate 79 (AV.one CA.junk), [Option.some (BC.cells [CA.t y4]), Option.some (BC.cells [CA.t y5, CA.t y6, CA.t y7, CA.t y8, CA.t y9, CA.t y10, CA.t y11, CA.t y12, CA.t y13, CA.t y14, CA.t y15, CA.t y16, CA.t y17, CA.t y18])] ++ List.replicate 109 (Option.none), []⟩
def f13_M (x0 : TV) : Prg TV :=
  Prg.chk (TV.isAgg x0 1) (
  Prg.tv (plen (Kd.slice 32) (TV.cell x0 0)) fun v0 =>
  Prg.tv (pbin (Kd.int IntKind.i64) BinOp.gtr v0 (TV.lit (Value.int IntKind.i64 (20 : Int)))) fun v1 =>
  Prg.ite (asBool v1) (
    Prg.ret (TV.lit (Value.bool false))) (
    Prg.jmp [0, 0, 1, 0, 1, 1, 1] (f13_0_S (TV.lit (Value.int IntKind.i64 (0 : Int))) (TV.lit (Value.int IntKind.i64 (0 : Int))) (TV.cell x0 0))))
-- [0, 0, 1, 0, 1, 1, 1]
def f13_0  (x0 x1 y2 : TV) : Prg TV :=
  Prg.tv (plen (Kd.slice 32) y2) fun v2 =>
  Prg.tv (pbin (Kd.int IntKind.i64) BinOp.lss x1 v2) fun v3 =>
  Prg.ite (asBool v3) (
    Prg.tvs (pidx 3 y2 x1) fun e4 =>
    Prg.chk (Nat.blt 2 (List.length e4)) (
    Prg.tv (plen (Kd.slice 42) (nth TV.hole e4 2)) fun v5 =>
    Prg.tv (pbin (Kd.int IntKind.i64) BinOp.gtr v5 (TV.lit (Value.int IntKind.i64 (70 : Int)))) fun v6 =>
    Prg.ite (asBool v6) (
      Prg.ret (TV.lit (Value.bool false))) (
      Prg.jmp [0, 0, 1, 1, 0, 0, 1, 0, 0, 1, 0, 1, 1, 1] (f13_1_S x0 x1 (TV.lit (Value.int IntKind.i64 (0 : Int))) y2)))) (
    Prg.tv (pbin (Kd.int IntKind.i64) BinOp.leq x0 (TV.lit (Value.int IntKind.i64 (2000 : Int)))) fun v7 =>
    Prg.ret v7)
-- [0, 0, 1, 1, 0, 0, 1, 0, 0, 1, 0, 1, 1, 1]
def f13_1  (x0 x1 x2 y3 : TV) : Prg TV :=
  Prg.tvs (pidx 3 y3 x1) fun e8 =>
  Prg.chk (Nat.blt 2 (List.length e8)) (
  Prg.tv (plen (Kd.slice 42) (nth TV.hole e8 2)) fun v9 =>
  Prg.tv (pbin (Kd.int IntKind.i64) BinOp.lss x2 v9) fun v10 =>
  Prg.ite (asBool v10) (
    Prg.tvs (pidx 3 y3 x1) fun e11 =>
    Prg.chk (Nat.blt 2 (List.length e11)) (
    Prg.tvs (pidx 14 (nth TV.hole e11 2) x2) fun e12 =>
    Prg.chk (Nat.ble 14 (List.length e12)) (
    Prg.tv (plen (Kd.slice 44) (nth TV.hole e12 5)) fun v13 =>
    Prg.tv (pbin (Kd.int IntKind.i64) BinOp.gtr v13 (TV.lit (Value.int IntKind.i64 (70 : Int)))) fun v14 =>
    Prg.ite (asBool v14) (
      Prg.ret (TV.lit (Value.bool false))) (
      Prg.tv (plen (Kd.slice 25) (nth TV.hole e12 2)) fun v15 =>
      Prg.tv (pbin (Kd.int IntKind.i64) BinOp.gtr v15 (TV.lit (Value.int IntKind.i64 (20 : Int)))) fun v16 =>
      Prg.ite (asBool v16) (
        Prg.ret (TV.lit (Value.bool false))) (
        Prg.tv (plen (Kd.slice 3) (nth TV.hole e12 10)) fun v17 =>
        Prg.tv (pbin (Kd.int IntKind.i64) BinOp.gtr v17 (TV.lit (Value.int IntKind.i64 (20 : Int)))) fun v18 =>
        Prg.ite (asBool v18) (
          Prg.ret (TV.lit (Value.bool false))) (
          Prg.tv (plen (Kd.slice 44) (nth TV.hole e12 5)) fun v19 =>
          Prg.tv (pbin (Kd.int IntKind.i64) BinOp.add x0 v19) fun v20 =>
          Prg.jmp [0, 0, 1, 1, 1, 1, 0, 0, 1, 0, 0, 1, 1, 0, 0, 1, 0, 0, 1, 0, 1, 1, 1] (f13_2_S v20 x1 x2 (TV.lit (Value.int IntKind.i64 (0 : Int))) y3 (nth TV.hole e12 0) (nth TV.hole e12 1) (nth TV.hole e12 2) (nth TV.hole e12 3) (nth TV.hole e12 4) (nth TV.hole e12 5) (nth TV.hole e12 6) (nth TV.hole e12 7) (nth TV.hole e12 8) (nth TV.hole e12 9) (nth TV.hole e12 10) (nth TV.hole e12 11) (nth TV.hole e12 12) (nth TV.hole e12 13)))))))) (
    Prg.tv (pbin (Kd.int IntKind.i64) BinOp.add x1 (TV.lit (Value.int IntKind.i64 (1 : Int)))) fun v21 =>
    Prg.jmp [0, 0, 1, 0, 1, 1, 1] (f13_0_S x0 v21 y3)))
-- [0, 0, 1, 1, 1, 1, 0, 0, 1, 0, 0, 1, 1, 0, 0, 1, 0, 0, 1, 0, 1, 1, 1]
def f13_2  (x0 x1 x2 x3 y4 y5 y6 y7 y8 y9 y10 y11 y12 y13 y14 y15 y16 y17 y18 : TV) : Prg TV :=
  Prg.tv (plen (Kd.slice 44) y10) fun v22 =>
  Prg.tv (pbin (Kd.int IntKind.i64) BinOp.lss x3 v22) fun v23 =>
  Prg.ite (asBool v23) (
    Prg.tvs (pidx 7 y10 x3) fun e24 =>
    Prg.chk (Nat.blt 6 (List.length e24)) (
    Prg.tv (plen (Kd.slice 3) (nth TV.hole e24 6)) fun v25 =>
    Prg.tv (pbin (Kd.int IntKind.i64) BinOp.gtr v25 (TV.lit (Value.int IntKind.i64 (20 : Int)))) fun v26 =>
    Prg.ite (asBool v26) (
      Prg.ret (TV.lit (Value.bool false))) (
      Prg.tv (pbin (Kd.int IntKind.i64) BinOp.add x3 (TV.lit (Value.int IntKind.i64 (1 : Int)))) fun v27 =>
      Prg.jmp [0, 0, 1, 1, 1, 1, 0, 0, 1, 0, 0, 1, 1, 0, 0, 1, 0, 0, 1, 0, 1, 1, 1] (f13_2_S x0 x1 x2 v27 y4 y5 y6 y7 y8 y9 y10 y11 y12 y13 y14 y15 y16 y17 y18)))) (
    Prg.tv (pbin (Kd.int IntKind.i64) BinOp.add x2 (TV.lit (Value.int IntKind.i64 (1 : Int)))) fun v28 =>
    Prg.jmp [0, 0, 1, 1, 0, 0, 1, 0, 0, 1, 0, 1, 1, 1] (f13_1_S x0 x1 v28 y4))
theorem f13_MR (x0 : TV) : startQ prog 13 [x0] = f13_M x0 := by kernel_rfl
theorem f13_0_R  (x0 x1 y2 : TV) : pieceQ prog 13 [0, 0, 1, 0, 1, 1, 1] (f13_0_S x0 x1 y2) = f13_0 x0 x1 y2 := by kernel_rfl
theorem f13_1_R  (x0 x1 x2 y3 : TV) : pieceQ prog 13 [0, 0, 1, 1, 0, 0, 1, 0, 0, 1, 0, 1, 1, 1] (f13_1_S x0 x1 x2 y3) = f13_1 x0 x1 x2 y3 := by kernel_rfl
theorem f13_2_R  (x0 x1 x2 x3 y4 y5 y6 y7 y8 y9 y10 y11 y12 y13 y14 y15 y16 y17 y18 : TV) : pieceQ prog 13 [0, 0, 1, 1, 1, 1, 0, 0, 1, 0, 0, 1, 1, 0, 0, 1, 0, 0, 1, 0, 1, 1, 1] (f13_2_S x0 x1 x2 x3 y4 y5 y6 y7 y8 y9 y10 y11 y12 y13 y14 y15 y16 y17 y18) = f13_2 x0 x1 x2 x3 y4 y5 y6 y7 y8 y9 y10 y11 y12 y13 y14 y15 y16 y17 y18 := by kernel_rfl

theorem f13_run {x0 : TV} {r : TV} (h : Goes prog 13 (f13_M x0) r) : Runs prog 13 [x0] r := Runs.of (f13_MR x0) h
theorem f13_0_J  {x0 x1 y2 : TV} {r : TV} (h : Goes prog 13 (f13_0 x0 x1 y2) r) : Goes prog 13 (.jmp [0, 0, 1, 0, 1, 1, 1] (f13_0_S x0 x1 y2)) r := Goes.jmp (f13_0_R x0 x1 y2) h
theorem f13_1_J  {x0 x1 x2 y3 : TV} {r : TV} (h : Goes prog 13 (f13_1 x0 x1 x2 y3) r) : Goes prog 13 (.jmp [0, 0, 1, 1, 0, 0, 1, 0, 0, 1, 0, 1, 1, 1] (f13_1_S x0 x1 x2 y3)) r := Goes.jmp (f13_1_R x0 x1 x2 y3) h
theorem f13_2_J  {x0 x1 x2 x3 y4 y5 y6 y7 y8 y9 y10 y11 y12 y13 y14 y15 y16 y17 y18 : TV} {r : TV} (h : Goes prog 13 (f13_2 x0 x1 x2 x3 y4 y5 y6 y7 y8 y9 y10 y11 y12 y13 y14 y15 y16 y17 y18) r) : Goes prog 13 (.jmp [0, 0, 1, 1, 1, 1, 0, 0, 1, 0, 0, 1, 1, 0, 0, 1, 0, 0, 1, 0, 1, 1, 1] (f13_2_S x0 x1 x2 x3 y4 y5 y6 y7 y8 y9 y10 y11 y12 y13 y14 y15 y16 y17 y18)) r := Goes.jmp (f13_2_R x0 x1 x2 x3 y4 y5 y6 y7 y8 y9 y10 y11 y12 y13 y14 y15 y16 y17 y18) h
def f14_0_S  (x0 x1 w2 : TV) : ASt := ⟨[AV.one CA.junk, AV.one CA.junk, AV.one (CA.ptr 0 0), AV.one (CA.sref 1 0 [])] ++ List.replicate 8 (AV.one CA.junk) ++ [AV.tv x0, AV.tv x1] ++ List.replicate 29 (AV.one CA.junk), [Option.some (BC.cells [CA.junk]), Option.some (BC.tree [w2])] ++ List.replicate 65 (Option.none), []⟩
def f14_1_S  (x0 x1 x2 x3 x4 w5 w6 : TV) : ASt := ⟨[AV.one CA.junk, AV.one CA.junk, AV.one (CA.ptr 0 0), AV.one (CA.sref 1 0 []), AV.tv x0, AV.one (CA.sref 2 0 [])] ++ List.replicate 6 (AV.one CA.junk) ++ [AV.tv x1, AV.tv x2] ++ List.replicate 8 (AV.one CA.junk) ++ [AV.one (CA.sref 2 0 []), AV.tv x3, AV.tv x4] ++ List.replicate 18 (AV.one CA.junk), [Option.some (BC.cells [CA.junk]), Option.some (BC.tree [w5]), Option.some (BC.tree [w6])] ++ List.replicate 64 (Option.none), []⟩
def f14_2_S  (x0 x1 x2 w3 w4 : TV) : ASt := ⟨[AV.one CA.junk, AV.one CA.junk, AV.one (CA.ptr 0 0), AV.one (CA.sref 1 0 []), AV.tv x0, AV.one (CA.sref 2 0 [])] ++ List.replicate 6 (AV.one CA.junk) ++ [AV.tv x1, AV.tv x2] ++ List.replicate 29 (AV.one CA.junk), [Option.some (BC.cells [CA.junk]), Option.some (BC.tree [w3]), Option.some (BC.tree [w4])] ++ List.replicate 64 (Option.none), []⟩
def f14_M (x0 : TV) : Prg TV :=
  Prg.chk (TV.isAgg x0 1) (
  Prg.call 44 [TV.cell x0 0] fun v0 =>
  Prg.chk (fitsAt zSl [v0] 0) (
  Prg.tv (plen (Kd.slice 32) v0) fun v1 =>
  Prg.jmp [0, 0, 1, 0, 1, 1] (f14_0_S v1 (TV.lit (Value.int IntKind.i64 (0 : Int))) v0)))
-- [0, 0, 1, 0, 1, 1]
def f14_0  (x0 x1 w2 : TV) : Prg TV :=
  Prg.tv (pbin (Kd.int IntKind.i64) BinOp.lss x1 x0) fun v2 =>
  Prg.ite (asBool v2) (
    Prg.nat (slLen w2) fun n3 =>
    Prg.nat (asNat x1) fun n4 =>
    Prg.chk (Bool.and (slSize w2 3) (Nat.blt n4 n3)) (
    Prg.tvs (pel w2 n4) fun e5 =>
    Prg.chk (fitsAt zSl e5 2) (
    Prg.tv (getP [(n4, 2)] w2) fun v6 =>
    Prg.chk (TV.isFr v6) (
    Prg.call 45 [v6] fun v7 =>
    Prg.chk (fitsAt zSl [v7] 0) (
    Prg.tv (plen (Kd.slice 42) v7) fun v8 =>
    Prg.jmp [0, 0, 1, 0, 1, 1, 0, 0, 1, 1, 0, 0, 1, 0, 1, 1] (f14_1_S x1 x0 x1 v8 (TV.lit (Value.int IntKind.i64 (0 : Int))) w2 v7)))))) (
    Prg.chk (isOwn (TV.agg [w2])) (
    Prg.ret (TV.agg [w2])))
-- [0, 0, 1, 0, 1, 1, 0, 0, 1, 1, 0, 0, 1, 0, 1, 1]
def f14_1  (x0 x1 x2 x3 x4 w5 w6 : TV) : Prg TV :=
  Prg.tv (pbin (Kd.int IntKind.i64) BinOp.lss x4 x3) fun v9 =>
  Prg.ite (asBool v9) (
    Prg.nat (slLen w6) fun n10 =>
    Prg.nat (asNat x4) fun n11 =>
    Prg.chk (Bool.and (slSize w6 14) (Nat.blt n11 n10)) (
    Prg.tvs (pel w6 n11) fun e12 =>
    Prg.chk (fitsAt zBlock e12 0) (
    Prg.tv (getP [(n11, 2)] w6) fun v13 =>
    Prg.tv (getP [(n11, 5)] w6) fun v14 =>
    Prg.tv (getP [(n11, 10)] w6) fun v15 =>
    Prg.call 46 [TV.agg [nth TV.hole e12 0, nth TV.hole e12 1, frz v13, nth TV.hole e12 3, nth TV.hole e12 4, frz v14, nth TV.hole e12 6, nth TV.hole e12 7, nth TV.hole e12 8, nth TV.hole e12 9, frz v15, nth TV.hole e12 11, nth TV.hole e12 12, nth TV.hole e12 13]] fun v16 =>
    Prg.chk (Bool.and (TV.isAgg v16 14) (fitsAt zBlock (TV.cellsL true v16) 0)) (
    Prg.nat (slLen w6) fun n17 =>
    Prg.nat (asNat x4) fun n18 =>
    Prg.chk (Bool.and (slSize w6 14) (Nat.blt n18 n17)) (
    Prg.tvs (pel w6 n18) fun e19 =>
    Prg.chk (Bool.and (fitsAt zBlock e19 0) (fitsAt zBlock [TV.cell v16 0, TV.cell v16 1, TV.cell v16 2, TV.cell v16 3, TV.cell v16 4, TV.cell v16 5, TV.cell v16 6, TV.cell v16 7, TV.cell v16 8, TV.cell v16 9, TV.cell v16 10, TV.cell v16 11, TV.cell v16 12, TV.cell v16 13] 0)) (
    Prg.tv (setC [] w6 n18 0 [TV.cell v16 0, TV.cell v16 1, TV.cell v16 2, TV.cell v16 3, TV.cell v16 4, TV.cell v16 5, TV.cell v16 6, TV.cell v16 7, TV.cell v16 8, TV.cell v16 9, TV.cell v16 10, TV.cell v16 11, TV.cell v16 12, TV.cell v16 13]) fun v20 =>
    Prg.tv (pbin (Kd.int IntKind.i64) BinOp.add x4 (TV.lit (Value.int IntKind.i64 (1 : Int)))) fun v21 =>
    Prg.jmp [0, 0, 1, 0, 1, 1, 0, 0, 1, 1, 0, 0, 1, 0, 1, 1] (f14_1_S x0 x1 x2 x3 v21 w5 v20))))))) (
    Prg.jmp [1, 1, 1, 0, 0, 1, 1, 0, 0, 1, 0, 1, 1] (f14_2_S x0 x1 x2 w5 w6))
-- [1, 1, 1, 0, 0, 1, 1, 0, 0, 1, 0, 1, 1]
def f14_2  (x0 x1 x2 w3 w4 : TV) : Prg TV :=
  Prg.nat (slLen w3) fun n22 =>
  Prg.nat (asNat x0) fun n23 =>
  Prg.chk (Bool.and (slSize w3 3) (Nat.blt n23 n22)) (
  Prg.tvs (pel w3 n23) fun e24 =>
  Prg.chk (Bool.and (fitsAt zSl e24 2) (fitsAt zSl [w4] 0)) (
  Prg.tv (setC [] w3 n23 2 [w4]) fun v25 =>
  Prg.tv (pbin (Kd.int IntKind.i64) BinOp.add x2 (TV.lit (Value.int IntKind.i64 (1 : Int)))) fun v26 =>
  Prg.jmp [0, 0, 1, 0, 1, 1] (f14_0_S x1 v26 v25)))
theorem f14_MR (x0 : TV) : startQ prog 14 [x0] = f14_M x0 := by kernel_rfl
theorem f14_0_R  (x0 x1 w2 : TV) : pieceQ prog 14 [0, 0, 1, 0, 1, 1] (f14_0_S x0 x1 w2) = f14_0 x0 x1 w2 := by kernel_rfl
theorem f14_1_R  (x0 x1 x2 x3 x4 w5 w6 : TV) : pieceQ prog 14 [0, 0, 1, 0, 1, 1, 0, 0, 1, 1, 0, 0, 1, 0, 1, 1] (f14_1_S x0 x1 x2 x3 x4 w5 w6) = f14_1 x0 x1 x2 x3 x4 w5 w6 := by kernel_rfl
theorem f14_2_R  (x0 x1 x2 w3 w4 : TV) : pieceQ prog 14 [1, 1, 1, 0, 0, 1, 1, 0, 0, 1, 0, 1, 1] (f14_2_S x0 x1 x2 w3 w4) = f14_2 x0 x1 x2 w3 w4 := by kernel_rfl

theorem f14_run {x0 : TV} {r : TV} (h : Goes prog 14 (f14_M x0) r) : Runs prog 14 [x0] r := Runs.of (f14_MR x0) h
theorem f14_0_J  {x0 x1 w2 : TV} {r : TV} (h : Goes prog 14 (f14_0 x0 x1 w2) r) : Goes prog 14 (.jmp [0, 0, 1, 0, 1, 1] (f14_0_S x0 x1 w2)) r := Goes.jmp (f14_0_R x0 x1 w2) h
theorem f14_1_J  {x0 x1 x2 x3 x4 w5 w6 : TV} {r : TV} (h : Goes prog 14 (f14_1 x0 x1 x2 x3 x4 w5 w6) r) : Goes prog 14 (.jmp [0, 0, 1, 0, 1, 1, 0, 0, 1, 1, 0, 0, 1, 0, 1, 1] (f14_1_S x0 x1 x2 x3 x4 w5 w6)) r := Goes.jmp (f14_1_R x0 x1 x2 x3 x4 w5 w6) h
theorem f14_2_J  {x0 x1 x2 w3 w4 : TV} {r : TV} (h : Goes prog 14 (f14_2 x0 x1 x2 w3 w4) r) : Goes prog 14 (.jmp [1, 1, 1, 0, 0, 1, 1, 0, 0, 1, 0, 1, 1] (f14_2_S x0 x1 x2 w3 w4)) r := Goes.jmp (f14_2_R x0 x1 x2 w3 w4) h
end Go.Ab.H6

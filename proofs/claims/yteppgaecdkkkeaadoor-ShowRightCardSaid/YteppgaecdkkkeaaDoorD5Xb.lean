import Derived.Test.YteppgaecdkkkeaaDoorD5T
import Derived.Test.YteppgaecdkkkeaaDoorF0
set_option linter.unusedVariables false
set_option maxRecDepth 100000
namespace Go.Ab.D5
open Go Go.Ab Go.Proofs
def f10_M (x0 : TV) : Prg TV :=
  Prg.chk (TV.isAgg x0 7) (
  Prg.call 28 [TV.cell x0 1] fun v0 =>
  Prg.chk (fitsAt zStr [v0] 0) (
  Prg.tv (pbin Kd.str BinOp.add (TV.lit (Value.string (ByteArray.mk (Array.mk [(32 : UInt8)])))) v0) fun v1 =>
  Prg.call 28 [TV.cell x0 2] fun v2 =>
  Prg.chk (fitsAt zStr [v2] 0) (
  Prg.tv (pbin Kd.str BinOp.add (TV.lit (Value.string (ByteArray.mk (Array.mk [(32 : UInt8)])))) v2) fun v3 =>
  Prg.call 28 [TV.cell x0 3] fun v4 =>
  Prg.chk (fitsAt zStr [v4] 0) (
  Prg.tv (pbin Kd.str BinOp.add (TV.lit (Value.string (ByteArray.mk (Array.mk [(32 : UInt8)])))) v4) fun v5 =>
  Prg.tv (pbin (Kd.int IntKind.i64) BinOp.eql (TV.cell x0 0) (TV.lit (Value.int IntKind.i64 (1 : Int)))) fun v6 =>
  Prg.ite (asBool v6) (
    Prg.tv (pbin Kd.str BinOp.add (TV.lit (Value.string (ByteArray.mk (Array.mk [(99 : UInt8), (111 : UInt8), (110 : UInt8), (115 : UInt8), (116 : UInt8)])))) v1) fun v7 =>
    Prg.tv (pbin Kd.str BinOp.add v7 (TV.lit (Value.string (ByteArray.mk (Array.mk [(32 : UInt8)]))))) fun v8 =>
    Prg.tv (pconv (Kd.int IntKind.i64) (TV.cell x0 4)) fun v9 =>
    Prg.call 28 [v9] fun v10 =>
    Prg.chk (fitsAt zStr [v10] 0) (
    Prg.tv (pbin Kd.str BinOp.add v8 v10) fun v11 =>
    Prg.ret v11)) (
    Prg.tv (pbin (Kd.int IntKind.i64) BinOp.eql (TV.cell x0 0) (TV.lit (Value.int IntKind.i64 (2 : Int)))) fun v12 =>
    Prg.ite (asBool v12) (
      Prg.tv (pbin Kd.str BinOp.add (TV.lit (Value.string (ByteArray.mk (Array.mk [(99 : UInt8), (111 : UInt8), (112 : UInt8), (121 : UInt8)])))) v1) fun v13 =>
      Prg.tv (pbin Kd.str BinOp.add v13 v3) fun v14 =>
      Prg.ret v14) (
      Prg.tv (pbin (Kd.int IntKind.i64) BinOp.eql (TV.cell x0 0) (TV.lit (Value.int IntKind.i64 (3 : Int)))) fun v15 =>
      Prg.ite (asBool v15) (
        Prg.tv (pbin Kd.str BinOp.add (TV.lit (Value.string (ByteArray.mk (Array.mk [(97 : UInt8), (100 : UInt8), (100 : UInt8)])))) v1) fun v16 =>
        Prg.tv (pbin Kd.str BinOp.add v16 v3) fun v17 =>
        Prg.tv (pbin Kd.str BinOp.add v17 v5) fun v18 =>
        Prg.ret v18) (
        Prg.tv (pbin (Kd.int IntKind.i64) BinOp.eql (TV.cell x0 0) (TV.lit (Value.int IntKind.i64 (4 : Int)))) fun v19 =>
        Prg.ite (asBool v19) (
          Prg.tv (pbin Kd.str BinOp.add (TV.lit (Value.string (ByteArray.mk (Array.mk [(115 : UInt8), (117 : UInt8), (98 : UInt8)])))) v1) fun v20 =>
          Prg.tv (pbin Kd.str BinOp.add v20 v3) fun v21 =>
          Prg.tv (pbin Kd.str BinOp.add v21 v5) fun v22 =>
          Prg.ret v22) (
          Prg.tv (pbin (Kd.int IntKind.i64) BinOp.eql (TV.cell x0 0) (TV.lit (Value.int IntKind.i64 (5 : Int)))) fun v23 =>
          Prg.ite (asBool v23) (
            Prg.tv (pbin Kd.str BinOp.add (TV.lit (Value.string (ByteArray.mk (Array.mk [(109 : UInt8), (117 : UInt8), (108 : UInt8)])))) v1) fun v24 =>
            Prg.tv (pbin Kd.str BinOp.add v24 v3) fun v25 =>
            Prg.tv (pbin Kd.str BinOp.add v25 v5) fun v26 =>
            Prg.ret v26) (
            Prg.tv (pbin (Kd.int IntKind.i64) BinOp.eql (TV.cell x0 0) (TV.lit (Value.int IntKind.i64 (6 : Int)))) fun v27 =>
            Prg.ite (asBool v27) (
              Prg.tv (pbin Kd.str BinOp.add (TV.lit (Value.string (ByteArray.mk (Array.mk [(100 : UInt8), (105 : UInt8), (118 : UInt8)])))) v1) fun v28 =>
              Prg.tv (pbin Kd.str BinOp.add v28 v3) fun v29 =>
              Prg.tv (pbin Kd.str BinOp.add v29 v5) fun v30 =>
              Prg.ret v30) (
              Prg.tv (pbin (Kd.int IntKind.i64) BinOp.eql (TV.cell x0 0) (TV.lit (Value.int IntKind.i64 (7 : Int)))) fun v31 =>
              Prg.ite (asBool v31) (
                Prg.tv (pbin Kd.str BinOp.add (TV.lit (Value.string (ByteArray.mk (Array.mk [(101 : UInt8), (113 : UInt8)])))) v1) fun v32 =>
                Prg.tv (pbin Kd.str BinOp.add v32 v3) fun v33 =>
                Prg.tv (pbin Kd.str BinOp.add v33 v5) fun v34 =>
                Prg.ret v34) (
                Prg.tv (pbin (Kd.int IntKind.i64) BinOp.eql (TV.cell x0 0) (TV.lit (Value.int IntKind.i64 (8 : Int)))) fun v35 =>
                Prg.ite (asBool v35) (
                  Prg.tv (pbin Kd.str BinOp.add (TV.lit (Value.string (ByteArray.mk (Array.mk [(108 : UInt8), (116 : UInt8)])))) v1) fun v36 =>
                  Prg.tv (pbin Kd.str BinOp.add v36 v3) fun v37 =>
                  Prg.tv (pbin Kd.str BinOp.add v37 v5) fun v38 =>
                  Prg.ret v38) (
                  Prg.tv (pbin (Kd.int IntKind.i64) BinOp.eql (TV.cell x0 0) (TV.lit (Value.int IntKind.i64 (9 : Int)))) fun v39 =>
                  Prg.ite (asBool v39) (
                    Prg.tv (pbin Kd.str BinOp.add (TV.lit (Value.string (ByteArray.mk (Array.mk [(108 : UInt8), (111 : UInt8), (97 : UInt8), (100 : UInt8)])))) v1) fun v40 =>
                    Prg.tv (pbin Kd.str BinOp.add v40 v3) fun v41 =>
                    Prg.ret v41) (
                    Prg.tv (pbin (Kd.int IntKind.i64) BinOp.eql (TV.cell x0 0) (TV.lit (Value.int IntKind.i64 (10 : Int)))) fun v42 =>
                    Prg.ite (asBool v42) (
                      Prg.tv (pbin Kd.str BinOp.add (TV.lit (Value.string (ByteArray.mk (Array.mk [(115 : UInt8), (116 : UInt8), (111 : UInt8), (114 : UInt8), (101 : UInt8)])))) v3) fun v43 =>
                      Prg.tv (pbin Kd.str BinOp.add v43 v5) fun v44 =>
                      Prg.ret v44) (
                      Prg.tv (pbin (Kd.int IntKind.i64) BinOp.eql (TV.cell x0 0) (TV.lit (Value.int IntKind.i64 (11 : Int)))) fun v45 =>
                      Prg.ite (asBool v45) (
                        Prg.tv (pbin Kd.str BinOp.add (TV.lit (Value.string (ByteArray.mk (Array.mk [(99 : UInt8), (97 : UInt8), (108 : UInt8), (108 : UInt8)])))) v1) fun v46 =>
                        Prg.tv (pbin Kd.str BinOp.add v46 (TV.lit (Value.string (ByteArray.mk (Array.mk [(32 : UInt8)]))))) fun v47 =>
                        Prg.call 28 [TV.cell x0 5] fun v48 =>
                        Prg.chk (fitsAt zStr [v48] 0) (
                        Prg.tv (pbin Kd.str BinOp.add v47 v48) fun v49 =>
                        Prg.call 30 [TV.cell x0 6] fun v50 =>
                        Prg.chk (fitsAt zStr [v50] 0) (
                        Prg.tv (pbin Kd.str BinOp.add v49 v50) fun v51 =>
                        Prg.ret v51))) (
                        Prg.tv (pbin (Kd.int IntKind.i64) BinOp.eql (TV.cell x0 0) (TV.lit (Value.int IntKind.i64 (12 : Int)))) fun v52 =>
                        Prg.ite (asBool v52) (
                          Prg.tv (pbin Kd.str BinOp.add (TV.lit (Value.string (ByteArray.mk (Array.mk [(111 : UInt8), (117 : UInt8), (116 : UInt8)])))) v3) fun v53 =>
                          Prg.ret v53) (
                          Prg.tv (pbin (Kd.int IntKind.i64) BinOp.eql (TV.cell x0 0) (TV.lit (Value.int IntKind.i64 (13 : Int)))) fun v54 =>
                          Prg.ite (asBool v54) (
                            Prg.tv (pbin Kd.str BinOp.add (TV.lit (Value.string (ByteArray.mk (Array.mk [(105 : UInt8), (110 : UInt8)])))) v1) fun v55 =>
                            Prg.ret v55) (
                            Prg.ret (TV.lit (Value.string (ByteArray.mk (Array.mk [])))))))))))))))))))))
theorem f10_MR (x0 : TV) : startQ prog 10 [x0] = f10_M x0 := by kernel_rfl

theorem f10_run {x0 : TV} {r : TV} (h : Goes prog 10 (f10_M x0) r) : Runs prog 10 [x0] r := Runs.of (f10_MR x0) h
def f11_M (x0 : TV) : Prg TV :=
  Prg.chk (TV.isAgg x0 8) (
  Prg.tv (pbin (Kd.int IntKind.i64) BinOp.eql (TV.cell x0 0) (TV.lit (Value.int IntKind.i64 (1 : Int)))) fun v0 =>
  Prg.ite (asBool v0) (
    Prg.call 23 [TV.lit (Value.string (ByteArray.mk (Array.mk [(114 : UInt8), (101 : UInt8), (116 : UInt8)]))), frz (TV.sl true 1 (chunks 1 1 [TV.cell x0 1]))] fun v1 =>
    Prg.chk (fitsAt zStr [v1] 0) (
    Prg.ret v1)) (
    Prg.tv (pbin (Kd.int IntKind.i64) BinOp.eql (TV.cell x0 0) (TV.lit (Value.int IntKind.i64 (2 : Int)))) fun v2 =>
    Prg.ite (asBool v2) (
      Prg.call 23 [TV.lit (Value.string (ByteArray.mk (Array.mk [(106 : UInt8), (117 : UInt8), (109 : UInt8), (112 : UInt8)]))), frz (TV.sl true 1 (chunks 1 1 [TV.cell x0 5]))] fun v3 =>
      Prg.chk (fitsAt zStr [v3] 0) (
      Prg.ret v3)) (
      Prg.tv (pbin (Kd.int IntKind.i64) BinOp.eql (TV.cell x0 0) (TV.lit (Value.int IntKind.i64 (3 : Int)))) fun v4 =>
      Prg.ite (asBool v4) (
        Prg.call 23 [TV.lit (Value.string (ByteArray.mk (Array.mk [(98 : UInt8), (114 : UInt8), (97 : UInt8), (110 : UInt8), (99 : UInt8), (104 : UInt8)]))), frz (TV.sl true 1 (chunks 1 3 [TV.cell x0 1, TV.cell x0 5, TV.cell x0 6]))] fun v5 =>
        Prg.chk (fitsAt zStr [v5] 0) (
        Prg.ret v5)) (
        Prg.tv (pbin (Kd.int IntKind.i64) BinOp.eql (TV.cell x0 0) (TV.lit (Value.int IntKind.i64 (4 : Int)))) fun v6 =>
        Prg.ite (asBool v6) (
          Prg.call 29 [TV.cell x0 4, frz (TV.sl true 1 (chunks 1 4 [TV.cell x0 2, TV.cell x0 3, TV.cell x0 5, TV.cell x0 7]))] fun v7 =>
          Prg.chk (fitsAt zSl [v7] 0) (
          Prg.call 23 [TV.lit (Value.string (ByteArray.mk (Array.mk [(105 : UInt8), (110 : UInt8), (118 : UInt8), (111 : UInt8), (107 : UInt8), (101 : UInt8)]))), frz v7] fun v8 =>
          Prg.chk (fitsAt zStr [v8] 0) (
          Prg.ret v8))) (
          Prg.tv (pbin (Kd.int IntKind.i64) BinOp.eql (TV.cell x0 0) (TV.lit (Value.int IntKind.i64 (5 : Int)))) fun v9 =>
          Prg.ite (asBool v9) (
            Prg.call 23 [TV.lit (Value.string (ByteArray.mk (Array.mk [(116 : UInt8), (104 : UInt8), (114 : UInt8), (111 : UInt8), (119 : UInt8)]))), frz (TV.sl true 1 (chunks 1 1 [TV.cell x0 1]))] fun v10 =>
            Prg.chk (fitsAt zStr [v10] 0) (
            Prg.ret v10)) (
            Prg.tv (pbin (Kd.int IntKind.i64) BinOp.eql (TV.cell x0 0) (TV.lit (Value.int IntKind.i64 (6 : Int)))) fun v11 =>
            Prg.ite (asBool v11) (
              Prg.call 23 [TV.lit (Value.string (ByteArray.mk (Array.mk [(114 : UInt8), (101 : UInt8), (115 : UInt8), (117 : UInt8), (109 : UInt8), (101 : UInt8)]))), TV.lit (Value.slice Option.none 0 0)] fun v12 =>
              Prg.chk (fitsAt zStr [v12] 0) (
              Prg.ret v12)) (
              Prg.ret (TV.lit (Value.string (ByteArray.mk (Array.mk [])))))))))))
theorem f11_MR (x0 : TV) : startQ prog 11 [x0] = f11_M x0 := by kernel_rfl

theorem f11_run {x0 : TV} {r : TV} (h : Goes prog 11 (f11_M x0) r) : Runs prog 11 [x0] r := Runs.of (f11_MR x0) h
def f12_M (x0 : TV) : Prg TV :=
  Prg.chk (TV.isAgg x0 8) (
  Prg.tv (pbin (Kd.int IntKind.i64) BinOp.eql (TV.cell x0 0) (TV.lit (Value.int IntKind.i64 (1 : Int)))) fun v0 =>
  Prg.ite (asBool v0) (
    Prg.call 28 [TV.cell x0 1] fun v1 =>
    Prg.chk (fitsAt zStr [v1] 0) (
    Prg.tv (pbin Kd.str BinOp.add (TV.lit (Value.string (ByteArray.mk (Array.mk [(114 : UInt8), (101 : UInt8), (116 : UInt8), (32 : UInt8)])))) v1) fun v2 =>
    Prg.ret v2)) (
    Prg.tv (pbin (Kd.int IntKind.i64) BinOp.eql (TV.cell x0 0) (TV.lit (Value.int IntKind.i64 (2 : Int)))) fun v3 =>
    Prg.ite (asBool v3) (
      Prg.call 28 [TV.cell x0 5] fun v4 =>
      Prg.chk (fitsAt zStr [v4] 0) (
      Prg.tv (pbin Kd.str BinOp.add (TV.lit (Value.string (ByteArray.mk (Array.mk [(106 : UInt8), (117 : UInt8), (109 : UInt8), (112 : UInt8), (32 : UInt8)])))) v4) fun v5 =>
      Prg.ret v5)) (
      Prg.tv (pbin (Kd.int IntKind.i64) BinOp.eql (TV.cell x0 0) (TV.lit (Value.int IntKind.i64 (3 : Int)))) fun v6 =>
      Prg.ite (asBool v6) (
        Prg.call 28 [TV.cell x0 1] fun v7 =>
        Prg.chk (fitsAt zStr [v7] 0) (
        Prg.tv (pbin Kd.str BinOp.add (TV.lit (Value.string (ByteArray.mk (Array.mk [(98 : UInt8), (114 : UInt8), (97 : UInt8), (110 : UInt8), (99 : UInt8), (104 : UInt8), (32 : UInt8)])))) v7) fun v8 =>
        Prg.tv (pbin Kd.str BinOp.add v8 (TV.lit (Value.string (ByteArray.mk (Array.mk [(32 : UInt8)]))))) fun v9 =>
        Prg.call 28 [TV.cell x0 5] fun v10 =>
        Prg.chk (fitsAt zStr [v10] 0) (
        Prg.tv (pbin Kd.str BinOp.add v9 v10) fun v11 =>
        Prg.tv (pbin Kd.str BinOp.add v11 (TV.lit (Value.string (ByteArray.mk (Array.mk [(32 : UInt8)]))))) fun v12 =>
        Prg.call 28 [TV.cell x0 6] fun v13 =>
        Prg.chk (fitsAt zStr [v13] 0) (
        Prg.tv (pbin Kd.str BinOp.add v12 v13) fun v14 =>
        Prg.ret v14)))) (
        Prg.tv (pbin (Kd.int IntKind.i64) BinOp.eql (TV.cell x0 0) (TV.lit (Value.int IntKind.i64 (4 : Int)))) fun v15 =>
        Prg.ite (asBool v15) (
          Prg.call 28 [TV.cell x0 2] fun v16 =>
          Prg.chk (fitsAt zStr [v16] 0) (
          Prg.tv (pbin Kd.str BinOp.add (TV.lit (Value.string (ByteArray.mk (Array.mk [(105 : UInt8), (110 : UInt8), (118 : UInt8), (111 : UInt8), (107 : UInt8), (101 : UInt8), (32 : UInt8)])))) v16) fun v17 =>
          Prg.tv (pbin Kd.str BinOp.add v17 (TV.lit (Value.string (ByteArray.mk (Array.mk [(32 : UInt8)]))))) fun v18 =>
          Prg.call 28 [TV.cell x0 3] fun v19 =>
          Prg.chk (fitsAt zStr [v19] 0) (
          Prg.tv (pbin Kd.str BinOp.add v18 v19) fun v20 =>
          Prg.tv (pbin Kd.str BinOp.add v20 (TV.lit (Value.string (ByteArray.mk (Array.mk [(32 : UInt8)]))))) fun v21 =>
          Prg.call 28 [TV.cell x0 5] fun v22 =>
          Prg.chk (fitsAt zStr [v22] 0) (
          Prg.tv (pbin Kd.str BinOp.add v21 v22) fun v23 =>
          Prg.tv (pbin Kd.str BinOp.add v23 (TV.lit (Value.string (ByteArray.mk (Array.mk [(32 : UInt8)]))))) fun v24 =>
          Prg.call 28 [TV.cell x0 7] fun v25 =>
          Prg.chk (fitsAt zStr [v25] 0) (
          Prg.tv (pbin Kd.str BinOp.add v24 v25) fun v26 =>
          Prg.call 30 [TV.cell x0 4] fun v27 =>
          Prg.chk (fitsAt zStr [v27] 0) (
          Prg.tv (pbin Kd.str BinOp.add v26 v27) fun v28 =>
          Prg.ret v28)))))) (
          Prg.tv (pbin (Kd.int IntKind.i64) BinOp.eql (TV.cell x0 0) (TV.lit (Value.int IntKind.i64 (5 : Int)))) fun v29 =>
          Prg.ite (asBool v29) (
            Prg.call 28 [TV.cell x0 1] fun v30 =>
            Prg.chk (fitsAt zStr [v30] 0) (
            Prg.tv (pbin Kd.str BinOp.add (TV.lit (Value.string (ByteArray.mk (Array.mk [(116 : UInt8), (104 : UInt8), (114 : UInt8), (111 : UInt8), (119 : UInt8), (32 : UInt8)])))) v30) fun v31 =>
            Prg.ret v31)) (
            Prg.tv (pbin (Kd.int IntKind.i64) BinOp.eql (TV.cell x0 0) (TV.lit (Value.int IntKind.i64 (6 : Int)))) fun v32 =>
            Prg.ite (asBool v32) (
              Prg.ret (TV.lit (Value.string (ByteArray.mk (Array.mk [(114 : UInt8), (101 : UInt8), (115 : UInt8), (117 : UInt8), (109 : UInt8), (101 : UInt8)]))))) (
              Prg.ret (TV.lit (Value.string (ByteArray.mk (Array.mk [])))))))))))
theorem f12_MR (x0 : TV) : startQ prog 12 [x0] = f12_M x0 := by kernel_rfl

theorem f12_run {x0 : TV} {r : TV} (h : Goes prog 12 (f12_M x0) r) : Runs prog 12 [x0] r := Runs.of (f12_MR x0) h
def f13_M (x0 : TV) : Prg TV :=
  Prg.chk (TV.isAgg x0 4) (
  Prg.call 23 [TV.lit (Value.string (ByteArray.mk (Array.mk [(112 : UInt8), (97 : UInt8), (100 : UInt8)]))), frz (TV.sl true 1 (chunks 1 1 [TV.cell x0 0]))] fun v0 =>
  Prg.chk (fitsAt zStr [v0] 0) (
  Prg.tv (plen (Kd.slice 25) (TV.cell x0 1)) fun v1 =>
  Prg.tv (pbin (Kd.int IntKind.i64) BinOp.gtr v1 (TV.lit (Value.int IntKind.i64 (0 : Int)))) fun v2 =>
  Prg.ite (asBool v2) (
    Prg.call 31 [TV.cell x0 1] fun v3 =>
    Prg.chk (fitsAt zSl [v3] 0) (
    Prg.call 23 [TV.lit (Value.string (ByteArray.mk (Array.mk [(99 : UInt8), (97 : UInt8), (116 : UInt8), (99 : UInt8), (104 : UInt8)]))), frz v3] fun v4 =>
    Prg.chk (fitsAt zStr [v4] 0) (
    Prg.tv (pbin Kd.str BinOp.add (TV.lit (Value.string (ByteArray.mk (Array.mk [(32 : UInt8)])))) v4) fun v5 =>
    Prg.tv (pbin Kd.str BinOp.add v0 v5) fun v6 =>
    Prg.ite (asBool (TV.cell x0 2)) (
      Prg.tv (pbin Kd.str BinOp.add v6 (TV.lit (Value.string (ByteArray.mk (Array.mk [(32 : UInt8), (97 : UInt8), (108 : UInt8), (108 : UInt8)]))))) fun v7 =>
      Prg.ite (asBool (TV.cell x0 3)) (
        Prg.tv (pbin Kd.str BinOp.add v7 (TV.lit (Value.string (ByteArray.mk (Array.mk [(32 : UInt8), (99 : UInt8), (108 : UInt8), (101 : UInt8), (97 : UInt8), (110 : UInt8), (117 : UInt8), (112 : UInt8)]))))) fun v8 =>
        Prg.ret v8) (
        Prg.ret v7)) (
      Prg.ite (asBool (TV.cell x0 3)) (
        Prg.tv (pbin Kd.str BinOp.add v6 (TV.lit (Value.string (ByteArray.mk (Array.mk [(32 : UInt8), (99 : UInt8), (108 : UInt8), (101 : UInt8), (97 : UInt8), (110 : UInt8), (117 : UInt8), (112 : UInt8)]))))) fun v9 =>
        Prg.ret v9) (
        Prg.ret v6))))) (
    Prg.ite (asBool (TV.cell x0 2)) (
      Prg.tv (pbin Kd.str BinOp.add v0 (TV.lit (Value.string (ByteArray.mk (Array.mk [(32 : UInt8), (97 : UInt8), (108 : UInt8), (108 : UInt8)]))))) fun v10 =>
      Prg.ite (asBool (TV.cell x0 3)) (
        Prg.tv (pbin Kd.str BinOp.add v10 (TV.lit (Value.string (ByteArray.mk (Array.mk [(32 : UInt8), (99 : UInt8), (108 : UInt8), (101 : UInt8), (97 : UInt8), (110 : UInt8), (117 : UInt8), (112 : UInt8)]))))) fun v11 =>
        Prg.ret v11) (
        Prg.ret v10)) (
      Prg.ite (asBool (TV.cell x0 3)) (
        Prg.tv (pbin Kd.str BinOp.add v0 (TV.lit (Value.string (ByteArray.mk (Array.mk [(32 : UInt8), (99 : UInt8), (108 : UInt8), (101 : UInt8), (97 : UInt8), (110 : UInt8), (117 : UInt8), (112 : UInt8)]))))) fun v12 =>
        Prg.ret v12) (
        Prg.ret v0)))))
theorem f13_MR (x0 : TV) : startQ prog 13 [x0] = f13_M x0 := by kernel_rfl

theorem f13_run {x0 : TV} {r : TV} (h : Goes prog 13 (f13_M x0) r) : Runs prog 13 [x0] r := Runs.of (f13_MR x0) h
def f14_0_S  (x0 x1 y2 y3 y4 y5 : TV) : ASt := ⟨[AV.one CA.junk, AV.one (CA.ptr 0 0), AV.one CA.junk, AV.tv x0, AV.tv x1] ++ List.replicate 34 (AV.one CA.junk), [Option.some (BC.cells [CA.t y2, CA.t y3, CA.t y4, CA.t y5])] ++ List.replicate 62 (Option.none), []⟩
def f14_1_S  (x0 x1 y2 y3 y4 y5 : TV) : ASt := ⟨[AV.one CA.junk, AV.one (CA.ptr 0 0), AV.one CA.junk, AV.tv x0, AV.tv x1] ++ List.replicate 34 (AV.one CA.junk), [Option.some (BC.cells [CA.t y2, CA.t y3, CA.t y4, CA.t y5])] ++ List.replicate 62 (Option.none), []⟩
def f14_2_S  (x0 y1 y2 y3 y4 : TV) : ASt := ⟨[AV.one CA.junk, AV.one (CA.ptr 0 0), AV.one CA.junk, AV.tv x0] ++ List.replicate 35 (AV.one CA.junk), [Option.some (BC.cells [CA.t y1, CA.t y2, CA.t y3, CA.t y4])] ++ List.replicate 62 (Option.none), []⟩
def f14_M (x0 : TV) : Prg TV :=
  Prg.chk (TV.isAgg x0 4) (
  Prg.call 28 [TV.cell x0 0] fun v0 =>
  Prg.chk (fitsAt zStr [v0] 0) (
  Prg.tv (pbin Kd.str BinOp.add (TV.lit (Value.string (ByteArray.mk (Array.mk [(112 : UInt8), (97 : UInt8), (100 : UInt8), (32 : UInt8)])))) v0) fun v1 =>
  Prg.jmp [0, 0, 1, 0, 1, 1] (f14_0_S v1 (TV.lit (Value.int IntKind.i64 (0 : Int))) (TV.cell x0 0) (TV.cell x0 1) (TV.cell x0 2) (TV.cell x0 3))))
-- [0, 0, 1, 0, 1, 1]
def f14_0  (x0 x1 y2 y3 y4 y5 : TV) : Prg TV :=
  Prg.tv (plen (Kd.slice 25) y3) fun v2 =>
  Prg.tv (pbin (Kd.int IntKind.i64) BinOp.lss x1 v2) fun v3 =>
  Prg.ite (asBool v3) (
    Prg.tv (pbin (Kd.int IntKind.i64) BinOp.eql x1 (TV.lit (Value.int IntKind.i64 (0 : Int)))) fun v4 =>
    Prg.ite (asBool v4) (
      Prg.tv (pbin Kd.str BinOp.add x0 (TV.lit (Value.string (ByteArray.mk (Array.mk [(32 : UInt8), (99 : UInt8), (97 : UInt8), (116 : UInt8), (99 : UInt8), (104 : UInt8)]))))) fun v5 =>
      Prg.jmp [1, 0, 0, 1, 0, 0, 1, 0, 1, 1] (f14_1_S v5 x1 y2 y3 y4 y5)) (
      Prg.jmp [1, 0, 0, 1, 0, 0, 1, 0, 1, 1] (f14_1_S x0 x1 y2 y3 y4 y5))) (
    Prg.jmp [1, 1, 1] (f14_2_S x0 y2 y3 y4 y5))
-- [1, 0, 0, 1, 0, 0, 1, 0, 1, 1]
def f14_1  (x0 x1 y2 y3 y4 y5 : TV) : Prg TV :=
  Prg.tvs (pidx 1 y3 x1) fun e6 =>
  Prg.chk (Nat.blt 0 (List.length e6)) (
  Prg.tv (pconv (Kd.int IntKind.i64) (nth TV.hole e6 0)) fun v7 =>
  Prg.call 28 [v7] fun v8 =>
  Prg.chk (fitsAt zStr [v8] 0) (
  Prg.tv (pbin Kd.str BinOp.add (TV.lit (Value.string (ByteArray.mk (Array.mk [(32 : UInt8)])))) v8) fun v9 =>
  Prg.tv (pbin Kd.str BinOp.add x0 v9) fun v10 =>
  Prg.tv (pbin (Kd.int IntKind.i64) BinOp.add x1 (TV.lit (Value.int IntKind.i64 (1 : Int)))) fun v11 =>
  Prg.jmp [0, 0, 1, 0, 1, 1] (f14_0_S v10 v11 y2 y3 y4 y5)))
-- [1, 1, 1]
def f14_2  (x0 y1 y2 y3 y4 : TV) : Prg TV :=
  Prg.ite (asBool y3) (
    Prg.tv (pbin Kd.str BinOp.add x0 (TV.lit (Value.string (ByteArray.mk (Array.mk [(32 : UInt8), (97 : UInt8), (108 : UInt8), (108 : UInt8)]))))) fun v12 =>
    Prg.ite (asBool y4) (
      Prg.tv (pbin Kd.str BinOp.add v12 (TV.lit (Value.string (ByteArray.mk (Array.mk [(32 : UInt8), (99 : UInt8), (108 : UInt8), (101 : UInt8), (97 : UInt8), (110 : UInt8), (117 : UInt8), (112 : UInt8)]))))) fun v13 =>
      Prg.ret v13) (
      Prg.ret v12)) (
    Prg.ite (asBool y4) (
      Prg.tv (pbin Kd.str BinOp.add x0 (TV.lit (Value.string (ByteArray.mk (Array.mk [(32 : UInt8), (99 : UInt8), (108 : UInt8), (101 : UInt8), (97 : UInt8), (110 : UInt8), (117 : UInt8), (112 : UInt8)]))))) fun v14 =>
      Prg.ret v14) (
      Prg.ret x0))
theorem f14_MR (x0 : TV) : startQ prog 14 [x0] = f14_M x0 := by kernel_rfl
theorem f14_0_R  (x0 x1 y2 y3 y4 y5 : TV) : pieceQ prog 14 [0, 0, 1, 0, 1, 1] (f14_0_S x0 x1 y2 y3 y4 y5) = f14_0 x0 x1 y2 y3 y4 y5 := by kernel_rfl
theorem f14_1_R  (x0 x1 y2 y3 y4 y5 : TV) : pieceQ prog 14 [1, 0, 0, 1, 0, 0, 1, 0, 1, 1] (f14_1_S x0 x1 y2 y3 y4 y5) = f14_1 x0 x1 y2 y3 y4 y5 := by kernel_rfl
theorem f14_2_R  (x0 y1 y2 y3 y4 : TV) : pieceQ prog 14 [1, 1, 1] (f14_2_S x0 y1 y2 y3 y4) = f14_2 x0 y1 y2 y3 y4 := by kernel_rfl

theorem f14_run {x0 : TV} {r : TV} (h : Goes prog 14 (f14_M x0) r) : Runs prog 14 [x0] r := Runs.of (f14_MR x0) h
theorem f14_0_J  {x0 x1 y2 y3 y4 y5 : TV} {r : TV} (h : Goes prog 14 (f14_0 x0 x1 y2 y3 y4 y5) r) : Goes prog 14 (.jmp [0, 0, 1, 0, 1, 1] (f14_0_S x0 x1 y2 y3 y4 y5)) r := Goes.jmp (f14_0_R x0 x1 y2 y3 y4 y5) h
theorem f14_1_J  {x0 x1 y2 y3 y4 y5 : TV} {r : TV} (h : Goes prog 14 (f14_1 x0 x1 y2 y3 y4 y5) r) : Goes prog 14 (.jmp [1, 0, 0, 1, 0, 0, 1, 0, 1, 1] (f14_1_S x0 x1 y2 y3 y4 y5)) r := Goes.jmp (f14_1_R x0 x1 y2 y3 y4 y5) h
theorem f14_2_J  {x0 y1 y2 y3 y4 : TV} {r : TV} (h : Goes prog 14 (f14_2 x0 y1 y2 y3 y4) r) : Goes prog 14 (.jmp [1, 1, 1] (f14_2_S x0 y1 y2 y3 y4)) r := Goes.jmp (f14_2_R x0 y1 y2 y3 y4) h
def f21_0_S  (x0 x1 x2 y3 : TV) : ASt := ⟨[AV.one CA.junk, AV.one (CA.ptr 0 0)] ++ List.replicate 22 (AV.one CA.junk) ++ [AV.tv x0, AV.tv x1, AV.tv x2] ++ List.replicate 8 (AV.one CA.junk), [Option.some (BC.cells [CA.t y3])] ++ List.replicate 58 (Option.none), []⟩
def f21_M (x0 : TV) : Prg TV :=
  Prg.chk (TV.isAgg x0 1) (
  Prg.tv (plen (Kd.slice 59) (TV.cell x0 0)) fun v0 =>
  Prg.tv (pbin (Kd.int IntKind.i64) BinOp.lss v0 (TV.lit (Value.int IntKind.i64 (1 : Int)))) fun v1 =>
  Prg.ite (asBool v1) (
    Prg.ret (TV.lit (Value.bool false))) (
    Prg.tv (plen (Kd.slice 59) (TV.cell x0 0)) fun v2 =>
    Prg.tv (pbin (Kd.int IntKind.i64) BinOp.gtr v2 (TV.lit (Value.int IntKind.i64 (16 : Int)))) fun v3 =>
    Prg.ite (asBool v3) (
      Prg.ret (TV.lit (Value.bool false))) (
      Prg.tvs (pidx 3 (TV.cell x0 0) (TV.lit (Value.int IntKind.i64 (0 : Int)))) fun e4 =>
      Prg.chk (Nat.blt 0 (List.length e4)) (
      Prg.tv (pbin (Kd.int IntKind.i64) BinOp.neq (nth TV.hole e4 0) (TV.lit (Value.int IntKind.i64 (0 : Int)))) fun v5 =>
      Prg.ite (asBool v5) (
        Prg.ret (TV.lit (Value.bool false))) (
        Prg.tv (plen (Kd.slice 59) (TV.cell x0 0)) fun v6 =>
        Prg.jmp [0, 0, 1, 0, 1, 1] (f21_0_S (TV.cell x0 0) v6 (TV.lit (Value.int IntKind.i64 (0 : Int))) (TV.cell x0 0)))))))
-- [0, 0, 1, 0, 1, 1]
def f21_0  (x0 x1 x2 y3 : TV) : Prg TV :=
  Prg.tv (pbin (Kd.int IntKind.i64) BinOp.lss x2 x1) fun v7 =>
  Prg.ite (asBool v7) (
    Prg.tvs (pidx 3 x0 x2) fun e8 =>
    Prg.chk (Nat.ble 3 (List.length e8)) (
    Prg.call 40 [TV.agg [y3], TV.agg [nth TV.hole e8 0, nth TV.hole e8 1, nth TV.hole e8 2]] fun v9 =>
    Prg.chk (fitsAt zBool [v9] 0) (
    Prg.tv (pun UnOp.not v9) fun v10 =>
    Prg.ite (asBool v10) (
      Prg.ret (TV.lit (Value.bool false))) (
      Prg.tv (pbin (Kd.int IntKind.i64) BinOp.add x2 (TV.lit (Value.int IntKind.i64 (1 : Int)))) fun v11 =>
      Prg.jmp [0, 0, 1, 0, 1, 1] (f21_0_S x0 x1 v11 y3))))) (
    Prg.ret (TV.lit (Value.bool true)))
theorem f21_MR (x0 : TV) : startQ prog 21 [x0] = f21_M x0 := by kernel_rfl
theorem f21_0_R  (x0 x1 x2 y3 : TV) : pieceQ prog 21 [0, 0, 1, 0, 1, 1] (f21_0_S x0 x1 x2 y3) = f21_0 x0 x1 x2 y3 := by kernel_rfl

theorem f21_run {x0 : TV} {r : TV} (h : Goes prog 21 (f21_M x0) r) : Runs prog 21 [x0] r := Runs.of (f21_MR x0) h
theorem f21_0_J  {x0 x1 x2 y3 : TV} {r : TV} (h : Goes prog 21 (f21_0 x0 x1 x2 y3) r) : Goes prog 21 (.jmp [0, 0, 1, 0, 1, 1] (f21_0_S x0 x1 x2 y3)) r := Goes.jmp (f21_0_R x0 x1 x2 y3) h
def f22_M (x0 x1 : TV) : Prg TV :=
  Prg.chk (Bool.and true (Bool.and (TV.isBuf x0 5) true)) (
  Prg.chk (Bool.and true (Bool.and (TV.isBuf (bufOf 5 x0) 5) true)) (
  Prg.call 41 [TV.tup [TV.tup [], bufOf 5 x0], x1] fun v0 =>
  Prg.chk (Bool.and (Bool.and (TV.isTup v0 2) (TV.isTup (TV.comp v0 1) 2)) (Bool.and (TV.isMay (TV.comp (TV.comp v0 1) 0)) (Bool.and (TV.isBuf (TV.comp (TV.comp v0 1) 1) 5) true))) (
  Prg.chk (TV.isTup (TV.comp v0 0) 2) (
  Prg.chk (fitsAt zInt [TV.comp (TV.comp v0 0) 0] 0) (
  Prg.chk (fitsAt z20 [TV.comp (TV.comp v0 0) 1] 0) (
  Prg.chk (Bool.and true (Bool.and (TV.isBuf (bufOf 5 (TV.comp (TV.comp v0 1) 1)) 5) true)) (
  Prg.call 42 [TV.tup [TV.tup [], bufOf 5 (TV.comp (TV.comp v0 1) 1)], TV.lit (Value.int IntKind.u8 (10 : Int))] fun v1 =>
  Prg.chk (Bool.and (Bool.and (TV.isTup v1 2) (TV.isTup (TV.comp v1 1) 2)) (Bool.and (TV.isMay (TV.comp (TV.comp v1 1) 0)) (Bool.and (TV.isBuf (TV.comp (TV.comp v1 1) 1) 5) true))) (
  Prg.chk (fitsAt z20 [TV.comp v1 0] 0) (
  Prg.ret (TV.tup [TV.tup [], TV.tup [TV.tup [], TV.comp (TV.comp v1 1) 1]]))))))))))
theorem f22_MR (x0 x1 : TV) : startQ prog 22 [TV.tup [TV.tup [], x0], x1] = f22_M x0 x1 := by kernel_rfl

theorem f22_run {x0 x1 : TV} {r : TV} (h : Goes prog 22 (f22_M x0 x1) r) : Runs prog 22 [TV.tup [TV.tup [], x0], x1] r := Runs.of (f22_MR x0 x1) h
def f23_0_S  (x0 x1 x2 w3 w4 : TV) : ASt := ⟨List.replicate 5 (AV.one CA.junk) ++ [AV.one (CA.ptr 0 0)] ++ List.replicate 4 (AV.one CA.junk) ++ [AV.tv x0, AV.tv x1, AV.tv x2] ++ List.replicate 9 (AV.one CA.junk), [Option.some (BC.cells [CA.may 0 (LentD.ty (LentD.mk 63 [Fl.may, Fl.bf 5])), CA.sref 1 1 []]), Option.some (BC.tree [w3, w4])] ++ List.replicate 44 (Option.none), []⟩
def f23_M (x0 x1 : TV) : Prg TV :=
  Prg.chk true (
  Prg.call 41 [TV.tup [TV.tup [], TV.buf (ByteArray.mk (Array.mk [])) 5], x0] fun v0 =>
  Prg.chk (Bool.and (Bool.and (TV.isTup v0 2) (TV.isTup (TV.comp v0 1) 2)) (Bool.and (TV.isMay (TV.comp (TV.comp v0 1) 0)) (Bool.and (TV.isBuf (TV.comp (TV.comp v0 1) 1) 5) true))) (
  Prg.chk (TV.isTup (TV.comp v0 0) 2) (
  Prg.chk (fitsAt zInt [TV.comp (TV.comp v0 0) 0] 0) (
  Prg.chk (fitsAt z20 [TV.comp (TV.comp v0 0) 1] 0) (
  Prg.tv (plen (Kd.slice 3) x1) fun v1 =>
  Prg.jmp [0, 0, 1, 0, 1, 1, 1] (f23_0_S x1 v1 (TV.lit (Value.int IntKind.i64 (0 : Int))) TV.hole (TV.comp (TV.comp v0 1) 1)))))))
-- [0, 0, 1, 0, 1, 1, 1]
def f23_0  (x0 x1 x2 w3 w4 : TV) : Prg TV :=
  Prg.tv (pbin (Kd.int IntKind.i64) BinOp.lss x2 x1) fun v2 =>
  Prg.ite (asBool v2) (
    Prg.tvs (pidx 1 x0 x2) fun e3 =>
    Prg.chk (Nat.blt 0 (List.length e3)) (
    Prg.chk (Bool.and true (Bool.and (TV.isBuf (bufOf 5 w4) 5) true)) (
    Prg.call 42 [TV.tup [TV.tup [], bufOf 5 w4], TV.lit (Value.int IntKind.u8 (32 : Int))] fun v4 =>
    Prg.chk (Bool.and (Bool.and (TV.isTup v4 2) (TV.isTup (TV.comp v4 1) 2)) (Bool.and (TV.isMay (TV.comp (TV.comp v4 1) 0)) (Bool.and (TV.isBuf (TV.comp (TV.comp v4 1) 1) 5) true))) (
    Prg.chk (fitsAt z20 [TV.comp v4 0] 0) (
    Prg.call 43 [nth TV.hole e3 0] fun v5 =>
    Prg.chk (fitsAt zStr [v5] 0) (
    Prg.chk (Bool.and true (Bool.and (TV.isBuf (bufOf 5 (TV.comp (TV.comp v4 1) 1)) 5) true)) (
    Prg.call 41 [TV.tup [TV.tup [], bufOf 5 (TV.comp (TV.comp v4 1) 1)], v5] fun v6 =>
    Prg.chk (Bool.and (Bool.and (TV.isTup v6 2) (TV.isTup (TV.comp v6 1) 2)) (Bool.and (TV.isMay (TV.comp (TV.comp v6 1) 0)) (Bool.and (TV.isBuf (TV.comp (TV.comp v6 1) 1) 5) true))) (
    Prg.chk (TV.isTup (TV.comp v6 0) 2) (
    Prg.chk (fitsAt zInt [TV.comp (TV.comp v6 0) 0] 0) (
    Prg.chk (fitsAt z20 [TV.comp (TV.comp v6 0) 1] 0) (
    Prg.tv (pbin (Kd.int IntKind.i64) BinOp.add x2 (TV.lit (Value.int IntKind.i64 (1 : Int)))) fun v7 =>
    Prg.jmp [0, 0, 1, 0, 1, 1, 1] (f23_0_S x0 x1 v7 TV.hole (TV.comp (TV.comp v6 1) 1))))))))))))) (
    Prg.chk (Bool.and true (Bool.and (TV.isBuf (bufOf 5 w4) 5) true)) (
    Prg.call 26 [TV.tup [TV.tup [], bufOf 5 w4]] fun v8 =>
    Prg.chk (Bool.and (Bool.and (TV.isTup v8 2) (TV.isTup (TV.comp v8 1) 2)) (Bool.and (TV.isMay (TV.comp (TV.comp v8 1) 0)) (Bool.and (TV.isBuf (TV.comp (TV.comp v8 1) 1) 5) true))) (
    Prg.chk (fitsAt zStr [TV.comp v8 0] 0) (
    Prg.ret (TV.comp v8 0)))))
theorem f23_MR (x0 x1 : TV) : startQ prog 23 [x0, x1] = f23_M x0 x1 := by kernel_rfl
theorem f23_0_R  (x0 x1 x2 w3 w4 : TV) : pieceQ prog 23 [0, 0, 1, 0, 1, 1, 1] (f23_0_S x0 x1 x2 w3 w4) = f23_0 x0 x1 x2 w3 w4 := by kernel_rfl

theorem f23_run {x0 x1 : TV} {r : TV} (h : Goes prog 23 (f23_M x0 x1) r) : Runs prog 23 [x0, x1] r := Runs.of (f23_MR x0 x1) h
theorem f23_0_J  {x0 x1 x2 w3 w4 : TV} {r : TV} (h : Goes prog 23 (f23_0 x0 x1 x2 w3 w4) r) : Goes prog 23 (.jmp [0, 0, 1, 0, 1, 1, 1] (f23_0_S x0 x1 x2 w3 w4)) r := Goes.jmp (f23_0_R x0 x1 x2 w3 w4) h
def f24_0_S  (y0 y1 y2 y3 y4 y5 y6 y7 y8 y9 y10 y11 y12 y13 w14 w15 : TV) : ASt := ⟨[AV.one (CA.ptr 0 0), AV.one CA.junk, AV.one CA.junk, AV.one (CA.ptr 1 0)] ++ List.replicate 29 (AV.one CA.junk), [Option.some (BC.cells [CA.may 0 (LentD.ty (LentD.mk 63 [Fl.may, Fl.bf 5])), CA.sref 2 1 []]), Option.some (BC.cells [CA.t y0, CA.t y1, CA.t y2, CA.t y3, CA.t y4, CA.t y5, CA.t y6, CA.t y7, CA.t y8, CA.t y9, CA.t y10, CA.t y11, CA.t y12, CA.t y13]), Option.some (BC.tree [w14, w15])] ++ List.replicate 56 (Option.none), [AV.one (CA.ptr 0 0)]⟩
def f24_1_S  (x0 x1 x2 y3 y4 y5 y6 y7 y8 y9 y10 y11 y12 y13 y14 y15 y16 w17 w18 : TV) : ASt := ⟨[AV.one (CA.ptr 0 0), AV.one CA.junk, AV.one CA.junk, AV.one (CA.ptr 1 0)] ++ List.replicate 13 (AV.one CA.junk) ++ [AV.tv x0, AV.tv x1, AV.tv x2] ++ List.replicate 13 (AV.one CA.junk), [Option.some (BC.cells [CA.may 0 (LentD.ty (LentD.mk 63 [Fl.may, Fl.bf 5])), CA.sref 2 1 []]), Option.some (BC.cells [CA.t y3, CA.t y4, CA.t y5, CA.t y6, CA.t y7, CA.t y8, CA.t y9, CA.t y10, CA.t y11, CA.t y12, CA.t y13, CA.t y14, CA.t y15, CA.t y16]), Option.some (BC.tree [w17, w18])] ++ List.replicate 56 (Option.none), [AV.one (CA.ptr 0 0)]⟩
def f24_2_S  (y0 y1 y2 y3 y4 y5 y6 y7 y8 y9 y10 y11 y12 y13 w14 w15 : TV) : ASt := ⟨[AV.one (CA.ptr 0 0), AV.one CA.junk, AV.one CA.junk, AV.one (CA.ptr 1 0)] ++ List.replicate 29 (AV.one CA.junk), [Option.some (BC.cells [CA.may 0 (LentD.ty (LentD.mk 63 [Fl.may, Fl.bf 5])), CA.sref 2 1 []]), Option.some (BC.cells [CA.t y0, CA.t y1, CA.t y2, CA.t y3, CA.t y4, CA.t y5, CA.t y6, CA.t y7, CA.t y8, CA.t y9, CA.t y10, CA.t y11, CA.t y12, CA.t y13]), Option.some (BC.tree [w14, w15])] ++ List.replicate 56 (Option.none), [AV.one (CA.ptr 0 0)]⟩
def f24_M (x0 x1 : TV) : Prg TV :=
  Prg.chk (Bool.and true (Bool.and (TV.isBuf x0 5) true)) (
  Prg.chk (TV.isAgg x1 14) (
  Prg.ite (asBool (TV.cell x1 0)) (
    Prg.call 13 [TV.agg [TV.cell x1 1, TV.cell x1 2, TV.cell x1 3, TV.cell x1 4]] fun v0 =>
    Prg.chk (fitsAt zStr [v0] 0) (
    Prg.chk (Bool.and true (Bool.and (TV.isBuf (bufOf 5 x0) 5) true)) (
    Prg.call 22 [TV.tup [TV.tup [], bufOf 5 x0], v0] fun v1 =>
    Prg.chk (Bool.and (Bool.and (TV.isTup v1 2) (TV.isTup (TV.comp v1 1) 2)) (Bool.and (TV.isMay (TV.comp (TV.comp v1 1) 0)) (Bool.and (TV.isBuf (TV.comp (TV.comp v1 1) 1) 5) true))) (
    Prg.chk (TV.isTup (TV.comp v1 0) 0) (
    Prg.jmp [1, 1] (f24_0_S (TV.cell x1 0) (TV.cell x1 1) (TV.cell x1 2) (TV.cell x1 3) (TV.cell x1 4) (TV.cell x1 5) (TV.cell x1 6) (TV.cell x1 7) (TV.cell x1 8) (TV.cell x1 9) (TV.cell x1 10) (TV.cell x1 11) (TV.cell x1 12) (TV.cell x1 13) TV.hole (TV.comp (TV.comp v1 1) 1))))))) (
    Prg.call 23 [TV.lit (Value.string (ByteArray.mk (Array.mk [(98 : UInt8), (108 : UInt8), (111 : UInt8), (99 : UInt8), (107 : UInt8)]))), TV.lit (Value.slice Option.none 0 0)] fun v2 =>
    Prg.chk (fitsAt zStr [v2] 0) (
    Prg.chk (Bool.and true (Bool.and (TV.isBuf (bufOf 5 x0) 5) true)) (
    Prg.call 22 [TV.tup [TV.tup [], bufOf 5 x0], v2] fun v3 =>
    Prg.chk (Bool.and (Bool.and (TV.isTup v3 2) (TV.isTup (TV.comp v3 1) 2)) (Bool.and (TV.isMay (TV.comp (TV.comp v3 1) 0)) (Bool.and (TV.isBuf (TV.comp (TV.comp v3 1) 1) 5) true))) (
    Prg.chk (TV.isTup (TV.comp v3 0) 0) (
    Prg.jmp [1, 1] (f24_0_S (TV.cell x1 0) (TV.cell x1 1) (TV.cell x1 2) (TV.cell x1 3) (TV.cell x1 4) (TV.cell x1 5) (TV.cell x1 6) (TV.cell x1 7) (TV.cell x1 8) (TV.cell x1 9) (TV.cell x1 10) (TV.cell x1 11) (TV.cell x1 12) (TV.cell x1 13) TV.hole (TV.comp (TV.comp v3 1) 1)))))))))
-- [1, 1]
def f24_0  (y0 y1 y2 y3 y4 y5 y6 y7 y8 y9 y10 y11 y12 y13 w14 w15 : TV) : Prg TV :=
  Prg.tv (plen (Kd.slice 28) y5) fun v4 =>
  Prg.jmp [0, 0, 1, 0, 1, 1] (f24_1_S y5 v4 (TV.lit (Value.int IntKind.i64 (0 : Int))) y0 y1 y2 y3 y4 y5 y6 y7 y8 y9 y10 y11 y12 y13 w14 w15)
-- [0, 0, 1, 0, 1, 1]
def f24_1  (x0 x1 x2 y3 y4 y5 y6 y7 y8 y9 y10 y11 y12 y13 y14 y15 y16 w17 w18 : TV) : Prg TV :=
  Prg.tv (pbin (Kd.int IntKind.i64) BinOp.lss x2 x1) fun v5 =>
  Prg.ite (asBool v5) (
    Prg.tvs (pidx 7 x0 x2) fun e6 =>
    Prg.chk (Nat.ble 7 (List.length e6)) (
    Prg.call 9 [TV.agg [nth TV.hole e6 0, nth TV.hole e6 1, nth TV.hole e6 2, nth TV.hole e6 3, nth TV.hole e6 4, nth TV.hole e6 5, nth TV.hole e6 6]] fun v7 =>
    Prg.chk (fitsAt zStr [v7] 0) (
    Prg.chk (Bool.and true (Bool.and (TV.isBuf (bufOf 5 w18) 5) true)) (
    Prg.call 22 [TV.tup [TV.tup [], bufOf 5 w18], v7] fun v8 =>
    Prg.chk (Bool.and (Bool.and (TV.isTup v8 2) (TV.isTup (TV.comp v8 1) 2)) (Bool.and (TV.isMay (TV.comp (TV.comp v8 1) 0)) (Bool.and (TV.isBuf (TV.comp (TV.comp v8 1) 1) 5) true))) (
    Prg.chk (TV.isTup (TV.comp v8 0) 0) (
    Prg.tv (pbin (Kd.int IntKind.i64) BinOp.add x2 (TV.lit (Value.int IntKind.i64 (1 : Int)))) fun v9 =>
    Prg.jmp [0, 0, 1, 0, 1, 1] (f24_1_S x0 x1 v9 y3 y4 y5 y6 y7 y8 y9 y10 y11 y12 y13 y14 y15 y16 TV.hole (TV.comp (TV.comp v8 1) 1)))))))) (
    Prg.jmp [1, 1, 1] (f24_2_S y3 y4 y5 y6 y7 y8 y9 y10 y11 y12 y13 y14 y15 y16 w17 w18))
-- [1, 1, 1]
def f24_2  (y0 y1 y2 y3 y4 y5 y6 y7 y8 y9 y10 y11 y12 y13 w14 w15 : TV) : Prg TV :=
  Prg.call 11 [TV.agg [y6, y7, y8, y9, y10, y11, y12, y13]] fun v10 =>
  Prg.chk (fitsAt zStr [v10] 0) (
  Prg.chk (Bool.and true (Bool.and (TV.isBuf (bufOf 5 w15) 5) true)) (
  Prg.call 22 [TV.tup [TV.tup [], bufOf 5 w15], v10] fun v11 =>
  Prg.chk (Bool.and (Bool.and (TV.isTup v11 2) (TV.isTup (TV.comp v11 1) 2)) (Bool.and (TV.isMay (TV.comp (TV.comp v11 1) 0)) (Bool.and (TV.isBuf (TV.comp (TV.comp v11 1) 1) 5) true))) (
  Prg.chk (TV.isTup (TV.comp v11 0) 0) (
  Prg.ret (TV.tup [TV.tup [], TV.tup [TV.tup [], TV.comp (TV.comp v11 1) 1]])))))
theorem f24_MR (x0 x1 : TV) : startQ prog 24 [TV.tup [TV.tup [], x0], x1] = f24_M x0 x1 := by kernel_rfl
theorem f24_0_R  (y0 y1 y2 y3 y4 y5 y6 y7 y8 y9 y10 y11 y12 y13 w14 w15 : TV) : pieceQ prog 24 [1, 1] (f24_0_S y0 y1 y2 y3 y4 y5 y6 y7 y8 y9 y10 y11 y12 y13 w14 w15) = f24_0 y0 y1 y2 y3 y4 y5 y6 y7 y8 y9 y10 y11 y12 y13 w14 w15 := by kernel_rfl
theorem f24_1_R  (x0 x1 x2 y3 y4 y5 y6 y7 y8 y9 y10 y11 y12 y13 y14 y15 y16 w17 w18 : TV) : pieceQ prog 24 [0, 0, 1, 0, 1, 1] (f24_1_S x0 x1 x2 y3 y4 y5 y6 y7 y8 y9 y10 y11 y12 y13 y14 y15 y16 w17 w18) = f24_1 x0 x1 x2 y3 y4 y5 y6 y7 y8 y9 y10 y11 y12 y13 y14 y15 y16 w17 w18 := by kernel_rfl
theorem f24_2_R  (y0 y1 y2 y3 y4 y5 y6 y7 y8 y9 y10 y11 y12 y13 w14 w15 : TV) : pieceQ prog 24 [1, 1, 1] (f24_2_S y0 y1 y2 y3 y4 y5 y6 y7 y8 y9 y10 y11 y12 y13 w14 w15) = f24_2 y0 y1 y2 y3 y4 y5 y6 y7 y8 y9 y10 y11 y12 y13 w14 w15 := by kernel_rfl

theorem f24_run {x0 x1 : TV} {r : TV} (h : Goes prog 24 (f24_M x0 x1) r) : Runs prog 24 [TV.tup [TV.tup [], x0], x1] r := Runs.of (f24_MR x0 x1) h
theorem f24_0_J  {y0 y1 y2 y3 y4 y5 y6 y7 y8 y9 y10 y11 y12 y13 w14 w15 : TV} {r : TV} (h : Goes prog 24 (f24_0 y0 y1 y2 y3 y4 y5 y6 y7 y8 y9 y10 y11 y12 y13 w14 w15) r) : Goes prog 24 (.jmp [1, 1] (f24_0_S y0 y1 y2 y3 y4 y5 y6 y7 y8 y9 y10 y11 y12 y13 w14 w15)) r := Goes.jmp (f24_0_R y0 y1 y2 y3 y4 y5 y6 y7 y8 y9 y10 y11 y12 y13 w14 w15) h
theorem f24_1_J  {x0 x1 x2 y3 y4 y5 y6 y7 y8 y9 y10 y11 y12 y13 y14 y15 y16 w17 w18 : TV} {r : TV} (h : Goes prog 24 (f24_1 x0 x1 x2 y3 y4 y5 y6 y7 y8 y9 y10 y11 y12 y13 y14 y15 y16 w17 w18) r) : Goes prog 24 (.jmp [0, 0, 1, 0, 1, 1] (f24_1_S x0 x1 x2 y3 y4 y5 y6 y7 y8 y9 y10 y11 y12 y13 y14 y15 y16 w17 w18)) r := Goes.jmp (f24_1_R x0 x1 x2 y3 y4 y5 y6 y7 y8 y9 y10 y11 y12 y13 y14 y15 y16 w17 w18) h
theorem f24_2_J  {y0 y1 y2 y3 y4 y5 y6 y7 y8 y9 y10 y11 y12 y13 w14 w15 : TV} {r : TV} (h : Goes prog 24 (f24_2 y0 y1 y2 y3 y4 y5 y6 y7 y8 y9 y10 y11 y12 y13 w14 w15) r) : Goes prog 24 (.jmp [1, 1, 1] (f24_2_S y0 y1 y2 y3 y4 y5 y6 y7 y8 y9 y10 y11 y12 y13 w14 w15)) r := Goes.jmp (f24_2_R y0 y1 y2 y3 y4 y5 y6 y7 y8 y9 y10 y11 y12 y13 w14 w15) h
def f27_0_S  (x0 y1 : TV) : ASt := ⟨[AV.one CA.junk, AV.one (CA.ptr 0 0), AV.one CA.junk, AV.tv x0] ++ List.replicate 33 (AV.one CA.junk), [Option.some (BC.cells [CA.t y1])] ++ List.replicate 60 (Option.none), []⟩
def f27_M (x0 : TV) : Prg TV :=
  Prg.chk (TV.isAgg x0 1) (
  Prg.tv (plen (Kd.slice 59) (TV.cell x0 0)) fun v0 =>
  Prg.tv (pbin (Kd.int IntKind.i64) BinOp.eql v0 (TV.lit (Value.int IntKind.i64 (0 : Int)))) fun v1 =>
  Prg.ite (asBool v1) (
    Prg.ret (TV.lit (Value.bool false))) (
    Prg.tv (plen (Kd.slice 59) (TV.cell x0 0)) fun v2 =>
    Prg.tv (pbin (Kd.int IntKind.i64) BinOp.gtr v2 (TV.lit (Value.int IntKind.i64 (16 : Int)))) fun v3 =>
    Prg.ite (asBool v3) (
      Prg.ret (TV.lit (Value.bool false))) (
      Prg.tvs (pidx 3 (TV.cell x0 0) (TV.lit (Value.int IntKind.i64 (0 : Int)))) fun e4 =>
      Prg.chk (Nat.blt 0 (List.length e4)) (
      Prg.tv (pbin (Kd.int IntKind.i64) BinOp.neq (nth TV.hole e4 0) (TV.lit (Value.int IntKind.i64 (0 : Int)))) fun v5 =>
      Prg.ite (asBool v5) (
        Prg.ret (TV.lit (Value.bool false))) (
        Prg.jmp [0, 0, 1, 0, 1, 1] (f27_0_S (TV.lit (Value.int IntKind.i64 (0 : Int))) (TV.cell x0 0)))))))
-- [0, 0, 1, 0, 1, 1]
def f27_0  (x0 y1 : TV) : Prg TV :=
  Prg.tv (plen (Kd.slice 59) y1) fun v6 =>
  Prg.tv (pbin (Kd.int IntKind.i64) BinOp.lss x0 v6) fun v7 =>
  Prg.ite (asBool v7) (
    Prg.tvs (pidx 3 y1 x0) fun e8 =>
    Prg.chk (Nat.ble 3 (List.length e8)) (
    Prg.call 44 [TV.agg [y1], TV.agg [nth TV.hole e8 0, nth TV.hole e8 1, nth TV.hole e8 2]] fun v9 =>
    Prg.chk (fitsAt zBool [v9] 0) (
    Prg.tv (pun UnOp.not v9) fun v10 =>
    Prg.ite (asBool v10) (
      Prg.ret (TV.lit (Value.bool false))) (
      Prg.tv (pbin (Kd.int IntKind.i64) BinOp.add x0 (TV.lit (Value.int IntKind.i64 (1 : Int)))) fun v11 =>
      Prg.jmp [0, 0, 1, 0, 1, 1] (f27_0_S v11 y1))))) (
    Prg.ret (TV.lit (Value.bool true)))
theorem f27_MR (x0 : TV) : startQ prog 27 [x0] = f27_M x0 := by kernel_rfl
theorem f27_0_R  (x0 y1 : TV) : pieceQ prog 27 [0, 0, 1, 0, 1, 1] (f27_0_S x0 y1) = f27_0 x0 y1 := by kernel_rfl

theorem f27_run {x0 : TV} {r : TV} (h : Goes prog 27 (f27_M x0) r) : Runs prog 27 [x0] r := Runs.of (f27_MR x0) h
theorem f27_0_J  {x0 y1 : TV} {r : TV} (h : Goes prog 27 (f27_0 x0 y1) r) : Goes prog 27 (.jmp [0, 0, 1, 0, 1, 1] (f27_0_S x0 y1)) r := Goes.jmp (f27_0_R x0 y1) h
def f28_M (x0 : TV) : Prg TV :=
  Prg.tv (pbin (Kd.int IntKind.i64) BinOp.lss x0 (TV.lit (Value.int IntKind.i64 (0 : Int)))) fun v0 =>
  Prg.ite (asBool v0) (
    Prg.tv (pbin (Kd.int IntKind.i64) BinOp.sub (TV.lit (Value.int IntKind.i64 (0 : Int))) x0) fun v1 =>
    Prg.call 28 [v1] fun v2 =>
    Prg.chk (fitsAt zStr [v2] 0) (
    Prg.tv (pbin Kd.str BinOp.add (TV.lit (Value.string (ByteArray.mk (Array.mk [(45 : UInt8)])))) v2) fun v3 =>
    Prg.ret v3)) (
    Prg.tv (pbin (Kd.int IntKind.i64) BinOp.lss x0 (TV.lit (Value.int IntKind.i64 (10 : Int)))) fun v4 =>
    Prg.ite (asBool v4) (
      Prg.tv (pbin (Kd.int IntKind.i64) BinOp.add (TV.lit (Value.int IntKind.i64 (48 : Int))) x0) fun v5 =>
      Prg.tv (pconv (Kd.int IntKind.i32) v5) fun v6 =>
      Prg.tv (pconv Kd.str v6) fun v7 =>
      Prg.ret v7) (
      Prg.tv (pbin (Kd.int IntKind.i64) BinOp.quo x0 (TV.lit (Value.int IntKind.i64 (10 : Int)))) fun v8 =>
      Prg.call 28 [v8] fun v9 =>
      Prg.chk (fitsAt zStr [v9] 0) (
      Prg.tv (pbin (Kd.int IntKind.i64) BinOp.rem x0 (TV.lit (Value.int IntKind.i64 (10 : Int)))) fun v10 =>
      Prg.tv (pbin (Kd.int IntKind.i64) BinOp.add (TV.lit (Value.int IntKind.i64 (48 : Int))) v10) fun v11 =>
      Prg.tv (pconv (Kd.int IntKind.i32) v11) fun v12 =>
      Prg.tv (pconv Kd.str v12) fun v13 =>
      Prg.tv (pbin Kd.str BinOp.add v9 v13) fun v14 =>
      Prg.ret v14)))
theorem f28_MR (x0 : TV) : startQ prog 28 [x0] = f28_M x0 := by kernel_rfl

theorem f28_run {x0 : TV} {r : TV} (h : Goes prog 28 (f28_M x0) r) : Runs prog 28 [x0] r := Runs.of (f28_MR x0) h
def f29_M (x0 x1 : TV) : Prg TV :=
  Prg.tv (plen (Kd.slice 3) x1) fun v0 =>
  Prg.tv (plen (Kd.slice 3) x0) fun v1 =>
  Prg.tv (pbin (Kd.int IntKind.i64) BinOp.add v0 v1) fun v2 =>
  Prg.nat (asNat (TV.lit (Value.int IntKind.i64 (0 : Int)))) fun n3 =>
  Prg.nat (asNat v2) fun n4 =>
  Prg.chk (Bool.and (Nat.ble n3 n4) (Nat.ble n4 4294967296)) (
  Prg.rws (pelems 1 x1) fun r5 =>
  Prg.tv (papp 1 (TV.sl true 1 (List.replicate n3 [TV.lit (Value.int IntKind.i64 (0 : Int))])) r5) fun v6 =>
  Prg.rws (pelems 1 x0) fun r7 =>
  Prg.tv (papp 1 v6 r7) fun v8 =>
  Prg.chk (isOwn v8) (
  Prg.ret v8))
theorem f29_MR (x0 x1 : TV) : startQ prog 29 [x0, x1] = f29_M x0 x1 := by kernel_rfl

theorem f29_run {x0 x1 : TV} {r : TV} (h : Goes prog 29 (f29_M x0 x1) r) : Runs prog 29 [x0, x1] r := Runs.of (f29_MR x0 x1) h
def f30_0_S  (x0 x1 x2 : TV) : ASt := ⟨[AV.tv x0, AV.one CA.junk, AV.one CA.junk, AV.tv x1, AV.tv x2] ++ List.replicate 15 (AV.one CA.junk), List.replicate 44 (Option.none), []⟩
def f30_M (x0 : TV) : Prg TV :=
  Prg.jmp [0, 0, 1, 0, 1, 1] (f30_0_S x0 (TV.lit (Value.string (ByteArray.mk (Array.mk [])))) (TV.lit (Value.int IntKind.i64 (0 : Int))))
-- [0, 0, 1, 0, 1, 1]
def f30_0  (x0 x1 x2 : TV) : Prg TV :=
  Prg.tv (plen (Kd.slice 3) x0) fun v0 =>
  Prg.tv (pbin (Kd.int IntKind.i64) BinOp.lss x2 v0) fun v1 =>
  Prg.ite (asBool v1) (
    Prg.tvs (pidx 1 x0 x2) fun e2 =>
    Prg.chk (Nat.blt 0 (List.length e2)) (
    Prg.call 28 [nth TV.hole e2 0] fun v3 =>
    Prg.chk (fitsAt zStr [v3] 0) (
    Prg.tv (pbin Kd.str BinOp.add (TV.lit (Value.string (ByteArray.mk (Array.mk [(32 : UInt8)])))) v3) fun v4 =>
    Prg.tv (pbin Kd.str BinOp.add x1 v4) fun v5 =>
    Prg.tv (pbin (Kd.int IntKind.i64) BinOp.add x2 (TV.lit (Value.int IntKind.i64 (1 : Int)))) fun v6 =>
    Prg.jmp [0, 0, 1, 0, 1, 1] (f30_0_S x0 v5 v6)))) (
    Prg.ret x1)
theorem f30_MR (x0 : TV) : startQ prog 30 [x0] = f30_M x0 := by kernel_rfl
theorem f30_0_R  (x0 x1 x2 : TV) : pieceQ prog 30 [0, 0, 1, 0, 1, 1] (f30_0_S x0 x1 x2) = f30_0 x0 x1 x2 := by kernel_rfl

theorem f30_run {x0 : TV} {r : TV} (h : Goes prog 30 (f30_M x0) r) : Runs prog 30 [x0] r := Runs.of (f30_MR x0) h
theorem f30_0_J  {x0 x1 x2 : TV} {r : TV} (h : Goes prog 30 (f30_0 x0 x1 x2) r) : Goes prog 30 (.jmp [0, 0, 1, 0, 1, 1] (f30_0_S x0 x1 x2)) r := Goes.jmp (f30_0_R x0 x1 x2) h
def f31_0_S  (x0 x1 x2 w3 : TV) : ASt := ⟨[AV.one CA.junk, AV.one CA.junk, AV.one CA.junk, AV.one (CA.sref 0 0 [])] ++ List.replicate 5 (AV.one CA.junk) ++ [AV.tv x0, AV.tv x1, AV.tv x2] ++ List.replicate 11 (AV.one CA.junk), [Option.some (BC.tree [w3])] ++ List.replicate 46 (Option.none), []⟩
def f31_M (x0 : TV) : Prg TV :=
  Prg.tv (plen (Kd.slice 25) x0) fun v0 =>
  Prg.nat (asNat v0) fun n1 =>
  Prg.nat (asNat v0) fun n2 =>
  Prg.chk (Bool.and (Nat.ble n1 n2) (Nat.ble n2 4294967296)) (
  Prg.tv (plen (Kd.slice 25) x0) fun v3 =>
  Prg.jmp [0, 0, 1, 0, 1, 1] (f31_0_S x0 v3 (TV.lit (Value.int IntKind.i64 (0 : Int))) (TV.sl true 1 (List.replicate n1 [TV.lit (Value.int IntKind.i64 (0 : Int))]))))
-- [0, 0, 1, 0, 1, 1]
def f31_0  (x0 x1 x2 w3 : TV) : Prg TV :=
  Prg.tv (pbin (Kd.int IntKind.i64) BinOp.lss x2 x1) fun v4 =>
  Prg.ite (asBool v4) (
    Prg.tvs (pidx 1 x0 x2) fun e5 =>
    Prg.chk (Nat.blt 0 (List.length e5)) (
    Prg.tv (pconv (Kd.int IntKind.i64) (nth TV.hole e5 0)) fun v6 =>
    Prg.nat (slLen w3) fun n7 =>
    Prg.nat (asNat x2) fun n8 =>
    Prg.chk (Bool.and (slSize w3 1) (Nat.blt n8 n7)) (
    Prg.tvs (pel w3 n8) fun e9 =>
    Prg.chk (fitsAt zInt e9 0) (
    Prg.tv (setC [] w3 n8 0 [v6]) fun v10 =>
    Prg.tv (pbin (Kd.int IntKind.i64) BinOp.add x2 (TV.lit (Value.int IntKind.i64 (1 : Int)))) fun v11 =>
    Prg.jmp [0, 0, 1, 0, 1, 1] (f31_0_S x0 x1 v11 v10))))) (
    Prg.chk (isOwn w3) (
    Prg.ret w3))
theorem f31_MR (x0 : TV) : startQ prog 31 [x0] = f31_M x0 := by kernel_rfl
theorem f31_0_R  (x0 x1 x2 w3 : TV) : pieceQ prog 31 [0, 0, 1, 0, 1, 1] (f31_0_S x0 x1 x2 w3) = f31_0 x0 x1 x2 w3 := by kernel_rfl

theorem f31_run {x0 : TV} {r : TV} (h : Goes prog 31 (f31_M x0) r) : Runs prog 31 [x0] r := Runs.of (f31_MR x0) h
theorem f31_0_J  {x0 x1 x2 w3 : TV} {r : TV} (h : Goes prog 31 (f31_0 x0 x1 x2 w3) r) : Goes prog 31 (.jmp [0, 0, 1, 0, 1, 1] (f31_0_S x0 x1 x2 w3)) r := Goes.jmp (f31_0_R x0 x1 x2 w3) h
end Go.Ab.D5

import Derived.Test.YtjdjnejdjhfmcaaIA10T
import Derived.Test.YtjdjnejdjhfmcaaIA10Xa
import Derived.Test.YtjdjnejdjhfmcaaIA10Xb
import Derived.Test.YtjdjnejdjhfmcaaIA10Xc
set_option linter.all false
section
set_option maxRecDepth 100000
namespace Go.Ab.A10
open Go Go.Ab Go.Proofs
open Go.Ab.TV (hole cell comp isSl isSc isTup cellsL tup agg)
open Go.Ab.Prg (tv tvs rws nat chk call jmp ret)
def f71_M (x0 x1:TV):Prg TV :=
 chk (TV.isAgg x0 4) (
 chk (TV.isAgg x1 8) (
 call 73 [cell x1 0] fun v0 =>
 chk (ab fo [v0] 0) (
 call 74 [v0,I 1] fun v1 =>
 chk (ab au [v1] 0) (
 Prg.ite (asBool v1) (
 call 74 [v0,I 4] fun v2 =>
 chk (ab au [v2] 0) (
 call 78 [agg [cell x0 0,cell x0 1,cell x0 2,cell x0 3],v2,cell x1 1] fun v3 =>
 chk (ab au [v3] 0) (
 Prg.ite (asBool v3) (
 call 74 [v0,I 2] fun v4 =>
 chk (ab au [v4] 0) (
 call 78 [agg [cell x0 0,cell x0 1,cell x0 2,cell x0 3],v4,cell x1 2] fun v5 =>
 chk (ab au [v5] 0) (
 Prg.ite (asBool v5) (
 call 74 [v0,I 32] fun v6 =>
 chk (ab au [v6] 0) (
 call 81 [agg [cell x0 0,cell x0 1,cell x0 2,cell x0 3],v6,cell x1 3,cell x1 4] fun v7 =>
 chk (ab au [v7] 0) (
 Prg.ite (asBool v7) (
 call 74 [v0,I 64] fun v8 =>
 chk (ab au [v8] 0) (
 call 82 [agg [cell x0 0,cell x0 1,cell x0 2,cell x0 3],v8,cell x1 5,B false] fun v9 =>
 chk (ab au [v9] 0) (
 Prg.ite (asBool v9) (
 call 74 [v0,I 128] fun v10 =>
 chk (ab au [v10] 0) (
 call 82 [agg [cell x0 0,cell x0 1,cell x0 2,cell x0 3],v10,cell x1 6,B false] fun v11 =>
 chk (ab au [v11] 0) (
 Prg.ite (asBool v11) (
 call 74 [v0,I 256] fun v12 =>
 chk (ab au [v12] 0) (
 call 82 [agg [cell x0 0,cell x0 1,cell x0 2,cell x0 3],v12,cell x1 7,B true] fun v13 =>
 chk (ab au [v13] 0) (
 ret v13))) (
 ret (B false))))) (
 ret (B false))))) (
 ret (B false))))) (
 ret (B false))))) (
 ret (B false))))) (
 ret (B false))))))
theorem f71_MR (x0 x1:TV):aw prog 71 [x0,x1]=f71_M x0 x1:=by kernel_rfl
def f73_M (x0:TV):Prg TV :=
 tv (pbin (.int .i64) .eql x0 (I 1)) fun v0 =>
 Prg.ite (asBool v0) (
 Prg.ite (asBool v0) (
 ret (I 5)) (
 tv (pbin (.int .i64) .eql x0 (I 2)) fun v1 =>
 Prg.ite (asBool v1) (
 ret (I 65)) (
 tv (pbin (.int .i64) .eql x0 (I 3)) fun v2 =>
 Prg.ite (asBool v2) (
 ret (I 197)) (
 tv (pbin (.int .i64) .eql x0 (I 4)) fun v3 =>
 Prg.ite (asBool v3) (
 ret (I 355)) (
 tv (pbin (.int .i64) .eql x0 (I 6)) fun v4 =>
 Prg.ite (asBool v4) (
 ret (I 1)) (
 ret (I 0))))))) (
 tv (pbin (.int .i64) .eql x0 (I 5)) fun v5 =>
 Prg.ite (asBool v5) (
 ret (I 5)) (
 tv (pbin (.int .i64) .eql x0 (I 2)) fun v6 =>
 Prg.ite (asBool v6) (
 ret (I 65)) (
 tv (pbin (.int .i64) .eql x0 (I 3)) fun v7 =>
 Prg.ite (asBool v7) (
 ret (I 197)) (
 tv (pbin (.int .i64) .eql x0 (I 4)) fun v8 =>
 Prg.ite (asBool v8) (
 ret (I 355)) (
 tv (pbin (.int .i64) .eql x0 (I 6)) fun v9 =>
 Prg.ite (asBool v9) (
 ret (I 1)) (
 ret (I 0)))))))
theorem f73_MR (x0:TV):aw prog 73 [x0]=f73_M x0:=by kernel_rfl
def f74_M (x0 x1:TV):Prg TV :=
 tv (pbin (.int .i64) .and x0 x1) fun v0 =>
 tv (pbin (.int .i64) .neq v0 (I 0)) fun v1 =>
 ret v1
theorem f74_MR (x0 x1:TV):aw prog 74 [x0,x1]=f74_M x0 x1:=by kernel_rfl
def f75_M (x0:TV):Prg TV :=
 call 83 [x0] fun v0 =>
 chk (ab au [v0] 0) (
 Prg.ite (asBool v0) (
 tv (pbin (.int .i64) .neq x0 (I 2)) fun v1 =>
 ret v1) (
 ret (B false)))
theorem f75_MR (x0:TV):aw prog 75 [x0]=f75_M x0:=by kernel_rfl
def f76_M (x0 x1 x2:TV):Prg TV :=
 tv (pbin (.int .i64) .eql x0 (I 2)) fun v0 =>
 Prg.ite (asBool v0) (
 ret (tup [x1,B true])) (
 tv (pbin (.int .i64) .eql x0 (I 3)) fun v1 =>
 Prg.ite (asBool v1) (
 tv (pbin (.int .u16) .add x1 x2) fun v2 =>
 ret (tup [v2,B true])) (
 tv (pbin (.int .i64) .eql x0 (I 4)) fun v3 =>
 Prg.ite (asBool v3) (
 tv (pbin (.int .u16) .sub x1 x2) fun v4 =>
 ret (tup [v4,B true])) (
 tv (pbin (.int .i64) .eql x0 (I 5)) fun v5 =>
 Prg.ite (asBool v5) (
 tv (pbin (.int .u16) .mul x1 x2) fun v6 =>
 ret (tup [v6,B true])) (
 tv (pbin (.int .i64) .eql x0 (I 6)) fun v7 =>
 Prg.ite (asBool v7) (
 call 84 [x1,x2] fun v8 =>
 chk (isTup v8 2) (
 chk (ab cU [comp v8 0] 0) (
 chk (ab au [comp v8 1] 0) (
 ret (tup [comp v8 0,comp v8 1]))))) (
 tv (pbin (.int .i64) .eql x0 (I 7)) fun v9 =>
 Prg.ite (asBool v9) (
 tv (pbin (.int .u16) .eql x1 x2) fun v10 =>
 call 85 [v10] fun v11 =>
 chk (ab cU [v11] 0) (
 ret (tup [v11,B true]))) (
 tv (pbin (.int .i64) .eql x0 (I 8)) fun v12 =>
 Prg.ite (asBool v12) (
 tv (pbin (.int .u16) .lss x1 x2) fun v13 =>
 call 85 [v13] fun v14 =>
 chk (ab cU [v14] 0) (
 ret (tup [v14,B true]))) (
 ret (tup [W 0,B false]))))))))
theorem f76_MR (x0 x1 x2:TV):aw prog 76 [x0,x1,x2]=f76_M x0 x1 x2:=by kernel_rfl
def f77_0_S  (x0 x1 x2 x3:TV):ASt:=⟨[AV.tv x0,AV.tv x1] ++ List.replicate 5 (AV.one CA.junk) ++ [AV.tv x2,AV.tv x3] ++ List.replicate 10 (AV.one CA.junk),List.replicate 43 (none),[]⟩
def f77_M (x0 x1:TV):Prg TV :=
 tv (plen (.slice 29) x0) fun v0 =>
 jmp [0,0,1,0,1] (f77_0_S x0 x1 v0 (I 0))
def f77_0  (x0 x1 x2 x3:TV):Prg TV :=
 tv (pbin (.int .i64) .lss x3 x2) fun v1 =>
 Prg.ite (asBool v1) (
 tvs (pidx 1 x0 x3) fun e2 =>
 chk (Nat.blt 0 (List.length e2)) (
 tv (pbin (.int .u16) .eql x1 (nth hole e2 0)) fun v3 =>
 Prg.ite (asBool v3) (
 ret x3) (
 tv (pbin (.int .i64) .add x3 (I 1)) fun v4 =>
 jmp [0,0,1,0,1] (f77_0_S x0 x1 x2 v4)))) (
 ret (TV.lit (Value.int IntKind.i64 (-1))))
theorem f77_MR (x0 x1:TV):aw prog 77 [x0,x1]=f77_M x0 x1:=by kernel_rfl
theorem f77_0_J  {x0 x1 x2 x3:TV} {r:TV} (h:aa prog 77 (f77_0 x0 x1 x2 x3) r):aa prog 77 (.jmp [0,0,1,0,1] (f77_0_S x0 x1 x2 x3)) r:=aa.jmp (by kernel_rfl) h
def f78_M (x0 x1 x2:TV):Prg TV :=
 chk (TV.isAgg x0 4) (
 tv (pun .not x1) fun v0 =>
 Prg.ite (asBool v0) (
 tv (pbin (.int .i64) .eql x2 (I 0)) fun v1 =>
 ret v1) (
 tv (pbin (.int .i64) .leq (I 0) x2) fun v2 =>
 Prg.ite (asBool v2) (
 tv (pbin (.int .i64) .lss x2 (cell x0 2)) fun v3 =>
 ret v3) (
 ret (B false))))
theorem f78_MR (x0 x1 x2:TV):aw prog 78 [x0,x1,x2]=f78_M x0 x1 x2:=by kernel_rfl
def f79_0_S  (x0 x1 x2 x3:TV):ASt:=⟨[AV.tv x0] ++ List.replicate 4 (AV.one CA.junk) ++ [AV.tv x1,AV.tv x2,AV.tv x3] ++ List.replicate 10 (AV.one CA.junk),List.replicate 42 (none),[]⟩
def f79_M (x0:TV):Prg TV :=
 tv (plen (.slice 29) x0) fun v0 =>
 jmp [0,0,1,0,1] (f79_0_S x0 x0 v0 (I 0))
def f79_0  (x0 x1 x2 x3:TV):Prg TV :=
 tv (pbin (.int .i64) .lss x3 x2) fun v1 =>
 Prg.ite (asBool v1) (
 tvs (pidx 1 x1 x3) fun e2 =>
 chk (Nat.blt 0 (List.length e2)) (
 nat (aj x3) fun n3 =>
 tv (pslice (.slice 29) 1 x0 none (some n3)) fun v4 =>
 call 68 [v4,nth hole e2 0] fun v5 =>
 chk (ab au [v5] 0) (
 Prg.ite (asBool v5) (
 ret (B false)) (
 tv (pbin (.int .i64) .add x3 (I 1)) fun v6 =>
 jmp [0,0,1,0,1] (f79_0_S x0 x1 x2 v6))))) (
 ret (B true))
theorem f79_MR (x0:TV):aw prog 79 [x0]=f79_M x0:=by kernel_rfl
theorem f79_0_J  {x0 x1 x2 x3:TV} {r:TV} (h:aa prog 79 (f79_0 x0 x1 x2 x3) r):aa prog 79 (.jmp [0,0,1,0,1] (f79_0_S x0 x1 x2 x3)) r:=aa.jmp (by kernel_rfl) h
def f80_M (x0:TV):Prg TV :=
 tv (pbin (.int .i64) .eql x0 (I 1)) fun v0 =>
 Prg.ite (asBool v0) (
 ret (I 19)) (
 tv (pbin (.int .i64) .eql x0 (I 2)) fun v1 =>
 Prg.ite (asBool v1) (
 Prg.ite (asBool v1) (
 ret (I 7)) (
 tv (pbin (.int .i64) .eql x0 (I 3)) fun v2 =>
 Prg.ite (asBool v2) (
 Prg.ite (asBool v2) (
 ret (I 15)) (
 tv (pbin (.int .i64) .eql x0 (I 10)) fun v3 =>
 Prg.ite (asBool v3) (
 ret (I 13)) (
 tv (pbin (.int .i64) .eql x0 (I 11)) fun v4 =>
 Prg.ite (asBool v4) (
 ret (I 35)) (
 tv (pbin (.int .i64) .eql x0 (I 12)) fun v5 =>
 Prg.ite (asBool v5) (
 ret (I 5)) (
 tv (pbin (.int .i64) .eql x0 (I 13)) fun v6 =>
 Prg.ite (asBool v6) (
 ret (I 3)) (
 ret (I 0))))))) (
 tv (pbin (.int .i64) .eql x0 (I 4)) fun v7 =>
 Prg.ite (asBool v7) (
 Prg.ite (asBool v7) (
 ret (I 15)) (
 tv (pbin (.int .i64) .eql x0 (I 10)) fun v8 =>
 Prg.ite (asBool v8) (
 ret (I 13)) (
 tv (pbin (.int .i64) .eql x0 (I 11)) fun v9 =>
 Prg.ite (asBool v9) (
 ret (I 35)) (
 tv (pbin (.int .i64) .eql x0 (I 12)) fun v10 =>
 Prg.ite (asBool v10) (
 ret (I 5)) (
 tv (pbin (.int .i64) .eql x0 (I 13)) fun v11 =>
 Prg.ite (asBool v11) (
 ret (I 3)) (
 ret (I 0))))))) (
 tv (pbin (.int .i64) .eql x0 (I 5)) fun v12 =>
 Prg.ite (asBool v12) (
 Prg.ite (asBool v12) (
 ret (I 15)) (
 tv (pbin (.int .i64) .eql x0 (I 10)) fun v13 =>
 Prg.ite (asBool v13) (
 ret (I 13)) (
 tv (pbin (.int .i64) .eql x0 (I 11)) fun v14 =>
 Prg.ite (asBool v14) (
 ret (I 35)) (
 tv (pbin (.int .i64) .eql x0 (I 12)) fun v15 =>
 Prg.ite (asBool v15) (
 ret (I 5)) (
 tv (pbin (.int .i64) .eql x0 (I 13)) fun v16 =>
 Prg.ite (asBool v16) (
 ret (I 3)) (
 ret (I 0))))))) (
 tv (pbin (.int .i64) .eql x0 (I 6)) fun v17 =>
 Prg.ite (asBool v17) (
 Prg.ite (asBool v17) (
 ret (I 15)) (
 tv (pbin (.int .i64) .eql x0 (I 10)) fun v18 =>
 Prg.ite (asBool v18) (
 ret (I 13)) (
 tv (pbin (.int .i64) .eql x0 (I 11)) fun v19 =>
 Prg.ite (asBool v19) (
 ret (I 35)) (
 tv (pbin (.int .i64) .eql x0 (I 12)) fun v20 =>
 Prg.ite (asBool v20) (
 ret (I 5)) (
 tv (pbin (.int .i64) .eql x0 (I 13)) fun v21 =>
 Prg.ite (asBool v21) (
 ret (I 3)) (
 ret (I 0))))))) (
 tv (pbin (.int .i64) .eql x0 (I 7)) fun v22 =>
 Prg.ite (asBool v22) (
 Prg.ite (asBool v22) (
 ret (I 15)) (
 tv (pbin (.int .i64) .eql x0 (I 10)) fun v23 =>
 Prg.ite (asBool v23) (
 ret (I 13)) (
 tv (pbin (.int .i64) .eql x0 (I 11)) fun v24 =>
 Prg.ite (asBool v24) (
 ret (I 35)) (
 tv (pbin (.int .i64) .eql x0 (I 12)) fun v25 =>
 Prg.ite (asBool v25) (
 ret (I 5)) (
 tv (pbin (.int .i64) .eql x0 (I 13)) fun v26 =>
 Prg.ite (asBool v26) (
 ret (I 3)) (
 ret (I 0))))))) (
 tv (pbin (.int .i64) .eql x0 (I 8)) fun v27 =>
 Prg.ite (asBool v27) (
 ret (I 15)) (
 tv (pbin (.int .i64) .eql x0 (I 10)) fun v28 =>
 Prg.ite (asBool v28) (
 ret (I 13)) (
 tv (pbin (.int .i64) .eql x0 (I 11)) fun v29 =>
 Prg.ite (asBool v29) (
 ret (I 35)) (
 tv (pbin (.int .i64) .eql x0 (I 12)) fun v30 =>
 Prg.ite (asBool v30) (
 ret (I 5)) (
 tv (pbin (.int .i64) .eql x0 (I 13)) fun v31 =>
 Prg.ite (asBool v31) (
 ret (I 3)) (
 ret (I 0))))))))))))) (
 tv (pbin (.int .i64) .eql x0 (I 9)) fun v32 =>
 Prg.ite (asBool v32) (
 ret (I 7)) (
 tv (pbin (.int .i64) .eql x0 (I 3)) fun v33 =>
 Prg.ite (asBool v33) (
 Prg.ite (asBool v33) (
 ret (I 15)) (
 tv (pbin (.int .i64) .eql x0 (I 10)) fun v34 =>
 Prg.ite (asBool v34) (
 ret (I 13)) (
 tv (pbin (.int .i64) .eql x0 (I 11)) fun v35 =>
 Prg.ite (asBool v35) (
 ret (I 35)) (
 tv (pbin (.int .i64) .eql x0 (I 12)) fun v36 =>
 Prg.ite (asBool v36) (
 ret (I 5)) (
 tv (pbin (.int .i64) .eql x0 (I 13)) fun v37 =>
 Prg.ite (asBool v37) (
 ret (I 3)) (
 ret (I 0))))))) (
 tv (pbin (.int .i64) .eql x0 (I 4)) fun v38 =>
 Prg.ite (asBool v38) (
 Prg.ite (asBool v38) (
 ret (I 15)) (
 tv (pbin (.int .i64) .eql x0 (I 10)) fun v39 =>
 Prg.ite (asBool v39) (
 ret (I 13)) (
 tv (pbin (.int .i64) .eql x0 (I 11)) fun v40 =>
 Prg.ite (asBool v40) (
 ret (I 35)) (
 tv (pbin (.int .i64) .eql x0 (I 12)) fun v41 =>
 Prg.ite (asBool v41) (
 ret (I 5)) (
 tv (pbin (.int .i64) .eql x0 (I 13)) fun v42 =>
 Prg.ite (asBool v42) (
 ret (I 3)) (
 ret (I 0))))))) (
 tv (pbin (.int .i64) .eql x0 (I 5)) fun v43 =>
 Prg.ite (asBool v43) (
 Prg.ite (asBool v43) (
 ret (I 15)) (
 tv (pbin (.int .i64) .eql x0 (I 10)) fun v44 =>
 Prg.ite (asBool v44) (
 ret (I 13)) (
 tv (pbin (.int .i64) .eql x0 (I 11)) fun v45 =>
 Prg.ite (asBool v45) (
 ret (I 35)) (
 tv (pbin (.int .i64) .eql x0 (I 12)) fun v46 =>
 Prg.ite (asBool v46) (
 ret (I 5)) (
 tv (pbin (.int .i64) .eql x0 (I 13)) fun v47 =>
 Prg.ite (asBool v47) (
 ret (I 3)) (
 ret (I 0))))))) (
 tv (pbin (.int .i64) .eql x0 (I 6)) fun v48 =>
 Prg.ite (asBool v48) (
 Prg.ite (asBool v48) (
 ret (I 15)) (
 tv (pbin (.int .i64) .eql x0 (I 10)) fun v49 =>
 Prg.ite (asBool v49) (
 ret (I 13)) (
 tv (pbin (.int .i64) .eql x0 (I 11)) fun v50 =>
 Prg.ite (asBool v50) (
 ret (I 35)) (
 tv (pbin (.int .i64) .eql x0 (I 12)) fun v51 =>
 Prg.ite (asBool v51) (
 ret (I 5)) (
 tv (pbin (.int .i64) .eql x0 (I 13)) fun v52 =>
 Prg.ite (asBool v52) (
 ret (I 3)) (
 ret (I 0))))))) (
 tv (pbin (.int .i64) .eql x0 (I 7)) fun v53 =>
 Prg.ite (asBool v53) (
 Prg.ite (asBool v53) (
 ret (I 15)) (
 tv (pbin (.int .i64) .eql x0 (I 10)) fun v54 =>
 Prg.ite (asBool v54) (
 ret (I 13)) (
 tv (pbin (.int .i64) .eql x0 (I 11)) fun v55 =>
 Prg.ite (asBool v55) (
 ret (I 35)) (
 tv (pbin (.int .i64) .eql x0 (I 12)) fun v56 =>
 Prg.ite (asBool v56) (
 ret (I 5)) (
 tv (pbin (.int .i64) .eql x0 (I 13)) fun v57 =>
 Prg.ite (asBool v57) (
 ret (I 3)) (
 ret (I 0))))))) (
 tv (pbin (.int .i64) .eql x0 (I 8)) fun v58 =>
 Prg.ite (asBool v58) (
 ret (I 15)) (
 tv (pbin (.int .i64) .eql x0 (I 10)) fun v59 =>
 Prg.ite (asBool v59) (
 ret (I 13)) (
 tv (pbin (.int .i64) .eql x0 (I 11)) fun v60 =>
 Prg.ite (asBool v60) (
 ret (I 35)) (
 tv (pbin (.int .i64) .eql x0 (I 12)) fun v61 =>
 Prg.ite (asBool v61) (
 ret (I 5)) (
 tv (pbin (.int .i64) .eql x0 (I 13)) fun v62 =>
 Prg.ite (asBool v62) (
 ret (I 3)) (
 ret (I 0))))))))))))))
theorem f80_MR (x0:TV):aw prog 80 [x0]=f80_M x0:=by kernel_rfl
def f81_0_S  (x0 x1 x2 y3 y4 y5 y6:TV):ASt:=⟨List.replicate 4 (AV.one CA.junk) ++ [AV.one (CA.ptr 0 0)] ++ List.replicate 35 (AV.one CA.junk) ++ [AV.tv x0,AV.tv x1,AV.tv x2] ++ List.replicate 8 (AV.one CA.junk),[some (BC.cells [CA.t y3,CA.t y4,CA.t y5,CA.t y6])] ++ List.replicate 74 (none),[]⟩
def f81_M (x0 x1 x2 x3:TV):Prg TV :=
 chk (TV.isAgg x0 4) (
 tv (pun .not x1) fun v0 =>
 Prg.ite (asBool v0) (
 tv (pbin (.int .i64) .eql x2 (I 0)) fun v1 =>
 Prg.ite (asBool v1) (
 tv (plen (.slice 3) x3) fun v2 =>
 tv (pbin (.int .i64) .eql v2 (I 0)) fun v3 =>
 ret v3) (
 ret (B false))) (
 tv (pbin (.int .i64) .lss x2 (I 0)) fun v4 =>
 Prg.ite (asBool v4) (
 ret (B false)) (
 tv (plen (.slice 43) (cell x0 0)) fun v5 =>
 tv (pbin (.int .i64) .geq x2 v5) fun v6 =>
 Prg.ite (asBool v6) (
 ret (B false)) (
 tv (plen (.slice 3) x3) fun v7 =>
 tvs (pidx 3 (cell x0 0) x2) fun e8 =>
 chk (Nat.blt 0 (List.length e8)) (
 tv (pbin (.int .i64) .neq v7 (nth hole e8 0)) fun v9 =>
 Prg.ite (asBool v9) (
 ret (B false)) (
 tv (plen (.slice 3) x3) fun v10 =>
 jmp [0,0,1,0,1,1,1] (f81_0_S x3 v10 (I 0) (cell x0 0) (cell x0 1) (cell x0 2) (cell x0 3))))))))
def f81_0  (x0 x1 x2 y3 y4 y5 y6:TV):Prg TV :=
 tv (pbin (.int .i64) .lss x2 x1) fun v11 =>
 Prg.ite (asBool v11) (
 tvs (pidx 1 x0 x2) fun e12 =>
 chk (Nat.blt 0 (List.length e12)) (
 call 78 [agg [y3,y4,y5,y6],B true,nth hole e12 0] fun v13 =>
 chk (ab au [v13] 0) (
 tv (pun .not v13) fun v14 =>
 Prg.ite (asBool v14) (
 ret (B false)) (
 tv (pbin (.int .i64) .add x2 (I 1)) fun v15 =>
 jmp [0,0,1,0,1,1,1] (f81_0_S x0 x1 v15 y3 y4 y5 y6))))) (
 ret (B true))
theorem f81_MR (x0 x1 x2 x3:TV):aw prog 81 [x0,x1,x2,x3]=f81_M x0 x1 x2 x3:=by kernel_rfl
theorem f81_0_J  {x0 x1 x2 y3 y4 y5 y6:TV} {r:TV} (h:aa prog 81 (f81_0 x0 x1 x2 y3 y4 y5 y6) r):aa prog 81 (.jmp [0,0,1,0,1,1,1] (f81_0_S x0 x1 x2 y3 y4 y5 y6)) r:=aa.jmp (by kernel_rfl) h
def f82_M (x0 x1 x2 x3:TV):Prg TV :=
 chk (TV.isAgg x0 4) (
 tv (pun .not x1) fun v0 =>
 Prg.ite (asBool v0) (
 tv (pbin (.int .i64) .eql x2 (I 0)) fun v1 =>
 ret v1) (
 tv (pbin (.int .i64) .leq (I 0) x2) fun v2 =>
 Prg.ite (asBool v2) (
 tv (plen (.slice 55) (cell x0 3)) fun v3 =>
 tv (pbin (.int .i64) .lss x2 v3) fun v4 =>
 Prg.ite (asBool v4) (
 tvs (pidx 14 (cell x0 3) x2) fun e5 =>
 chk (Nat.blt 0 (List.length e5)) (
 tv (pbin Kd.bool .eql (nth hole e5 0) x3) fun v6 =>
 ret v6)) (
 ret (B false))) (
 ret (B false))))
theorem f82_MR (x0 x1 x2 x3:TV):aw prog 82 [x0,x1,x2,x3]=f82_M x0 x1 x2 x3:=by kernel_rfl
def f83_M (x0:TV):Prg TV :=
 tv (pbin (.int .i64) .eql x0 (I 2)) fun v0 =>
 Prg.ite (asBool v0) (
 Prg.ite (asBool v0) (
 ret (B true)) (
 ret (B false))) (
 tv (pbin (.int .i64) .eql x0 (I 3)) fun v1 =>
 Prg.ite (asBool v1) (
 Prg.ite (asBool v1) (
 ret (B true)) (
 ret (B false))) (
 tv (pbin (.int .i64) .eql x0 (I 4)) fun v2 =>
 Prg.ite (asBool v2) (
 Prg.ite (asBool v2) (
 ret (B true)) (
 ret (B false))) (
 tv (pbin (.int .i64) .eql x0 (I 5)) fun v3 =>
 Prg.ite (asBool v3) (
 Prg.ite (asBool v3) (
 ret (B true)) (
 ret (B false))) (
 tv (pbin (.int .i64) .eql x0 (I 6)) fun v4 =>
 Prg.ite (asBool v4) (
 Prg.ite (asBool v4) (
 ret (B true)) (
 ret (B false))) (
 tv (pbin (.int .i64) .eql x0 (I 7)) fun v5 =>
 Prg.ite (asBool v5) (
 Prg.ite (asBool v5) (
 ret (B true)) (
 ret (B false))) (
 tv (pbin (.int .i64) .eql x0 (I 8)) fun v6 =>
 Prg.ite (asBool v6) (
 ret (B true)) (
 ret (B false))))))))
theorem f83_MR (x0:TV):aw prog 83 [x0]=f83_M x0:=by kernel_rfl
def f84_M (x0 x1:TV):Prg TV :=
 tv (pbin (.int .u16) .eql x1 (W 0)) fun v0 =>
 Prg.ite (asBool v0) (
 ret (tup [W 0,B false])) (
 tv (pbin (.int .u16) .quo x0 x1) fun v1 =>
 ret (tup [v1,B true]))
theorem f84_MR (x0 x1:TV):aw prog 84 [x0,x1]=f84_M x0 x1:=by kernel_rfl
def f85_M (x0:TV):Prg TV :=
 Prg.ite (asBool x0) (
 ret (W 1)) (
 ret (W 0))
theorem f85_MR (x0:TV):aw prog 85 [x0]=f85_M x0:=by kernel_rfl
end Go.Ab.A10
end
section
set_option maxRecDepth 10000
namespace Go.Ab.A10
open Go Go.Ab Go.Proofs
theorem r14 {q q':Option Bool} {x y:TV} {l m:List Int} (hx:RInts q x l) (hy:RInts q' y m):ak prog 22 [x,y] (B (tt (l=m))):=by
 refine ak.of (f22_MR _ _) ?_
 unfold f22_M
 repeat' (first
  | refine aa.chk rfl ?_
  | refine aa.tv rfl ?_
  | refine aa.tv (RL.len (by assumption)) ?_
  | refine aa.nat rfl ?_
  | refine aa.ite rfl (fun _=>?_) (fun _=>?_)
  | refine aa.call (by assumption) ?_
  | refine aa.tvs (by assumption) ?_)
 ·rename_i h
  have h:¬ l=m:=by rintro rfl; simp at h
  exact a9 h
 ·rename_i h
  have hlen:l.length=m.length:=by simp at h; omega
  refine f22_0_J ?_
  rw [cE (oD hlen)]
  refine jT (g:=fun k=>f22_0 x y (I k)) ?_ ?_
  ·unfold f22_0
   refine aa.tv hx.len (aa.tv rfl (aa.ite aZ (fun h=>nomatch h) fun _=>aa.ret))
  ·intro k hk r h1 h2
   have hk':k < m.length:=by omega
   have ha:l[k]? = some l[k]:=EK hk
   have hb:m[k]? = some m[k]:=EK hk'
   obtain ⟨e,he,rfl,_⟩:=hx.idx (k:=.i64) ha
   obtain ⟨e',he',rfl,_⟩:=hy.idx (k:=.i64) hb
   unfold f22_0
   refine aa.tv hx.len (aa.tv rfl (aa.ite (aK hk) (fun _=>?_) fun h=>nomatch h))
   refine aa.tvs he (aa.chk rfl (aa.tvs he' (aa.chk rfl (aa.tv rfl (aa.ite rfl (fun h=>?_) fun h=>?_)))))
   ·rw [h1 (by rw [ha,hb]; simpa using h)]; exact aa.ret
   ·refine aa.tv (inc hk hx.bnd) (f22_0_J (h2 ?_))
    rw [ha,hb]; simpa using h
end Go.Ab.A10
end
section
set_option maxRecDepth 10000
namespace Go.Ab
theorem RL.bF {α:Type} {q:Option Bool} {s:Nat} {R:List TV→α→Prop} {x:TV} {l:List α} (h:RL q s R x l) {k:IntKind} {n:Int} {a:α} (h0:0≤n) (hi:l[n.toNat]? = some a):∃ e,pidx s x (.lit (.int k n))=some e∧R e a:=by
 rcases h with ⟨rfl,rfl⟩ | ⟨o,xs,rfl,hq,h,_⟩
 ·simp at hi
 ·obtain ⟨e,he,hr⟩:=h.get hi
  exact ⟨e,by simp [pidx,he,h0],hr⟩
def within (n most:Int):Prop:=0≤n∧n < most
def jy (u:Bool) (regs n:Int):Prop:=(u=true→within n regs)∧(u=false→n=0)
def qn (fs:List DFunc) (regs n:Int) (l:List Int):Prop:=0≤n∧∃ g,fs[n.toNat]? = some g∧(l.length:Int)=g.params∧∀ i,i < l.length→∀ a,l[i]? = some a→within a regs
def ny (u:Bool) (fs:List DFunc) (regs n:Int) (l:List Int):Prop:=(u=true→qn fs regs n l)∧(u=false→n=0∧l=[])
def lq (bs:List DBlock) (n:Int) (landing:Bool):Prop:=0≤n∧∃ b,bs[n.toNat]? = some b∧b.landing=landing
def tB (u:Bool) (bs:List DBlock) (n:Int) (landing:Bool):Prop:=(u=true→lq bs n landing)∧(u=false→n=0)
theorem tf {regs n:Int}:jy true regs n ↔ within n regs:=⟨fun h=>h.1 rfl,fun h=>⟨fun _=>h,fun h=>nomatch h⟩⟩
theorem bQ {p:Prop}:tt p=false ↔ ¬ p:=⟨fun h hp=>(by rw [dg hp] at h; exact Bool.noConfusion h),fun h=>dG h⟩
end Go.Ab
namespace Go.Ab.A10
open Go Go.Ab Go.Proofs
def iu (op:Int):Int :=
 if op=1 then 19 else if op=2 then 7 else if op=9 then 7 else if op=3 then 15 else if op=4 then 15 else if op=5 then 15 else if op=6 then 15 else if op=7 then 15 else if op=8 then 15 else if op=10 then 13 else if op=11 then 35 else if op=12 then 5 else if op=13 then 3 else 0
def cK (k:Int):Int :=
 if k=1 then 5 else if k=5 then 5 else if k=2 then 65 else if k=3 then 197 else if k=4 then 355 else if k=6 then 1 else 0
def has (u f:Int):Bool:=decide (¬ IntKind.i64.wrap ((BitVec.ofInt 64 u &&& BitVec.ofInt 64 f).toNat:Int)=0)
theorem r25 (u f:Int):ak prog 74 [I u,I f] (B (has u f)):=by
 refine ak.of (f74_MR _ _) ?_
 unfold f74_M
 repeat' (first
  | refine aa.chk rfl ?_
  | refine aa.tv rfl ?_
  | refine aa.tv (RL.len (by assumption)) ?_
  | refine aa.nat rfl ?_
  | refine aa.ite rfl (fun _=>?_) (fun _=>?_)
  | refine aa.call (by assumption) ?_
  | refine aa.tvs (by assumption) ?_)
 refine d9.2 ?_
 simp [has]
 rfl
theorem r24 (k:Int):ak prog 73 [I k] (I (cK k)):=by
 refine ak.of (f73_MR _) ?_
 unfold f73_M
 repeat' (first
  | refine aa.chk rfl ?_
  | refine aa.tv rfl ?_
  | refine aa.tv (RL.len (by assumption)) ?_
  | refine aa.nat rfl ?_
  | refine aa.ite rfl (fun _=>?_) (fun _=>?_)
  | refine aa.call (by assumption) ?_
  | refine aa.tvs (by assumption) ?_)
 all_goals (refine d9.2 ?_; simp_all [cK])
theorem r49 (k:Int):ak prog 80 [I k] (I (iu k)):=by
 refine ak.of (f80_MR _) ?_
 unfold f80_M
 repeat' (first
  | refine aa.chk rfl ?_
  | refine aa.tv rfl ?_
  | refine aa.tv (RL.len (by assumption)) ?_
  | refine aa.nat rfl ?_
  | refine aa.ite rfl (fun _=>?_) (fun _=>?_)
  | refine aa.call (by assumption) ?_
  | refine aa.tvs (by assumption) ?_)
 all_goals (refine d9.2 ?_; simp_all [iu])
theorem r47 {fs bs:TV} {p regs n:Int} {u:Bool}:ak prog 78 [.agg [fs,I p,I regs,bs],B u,I n] (B (tt (jy u regs n))):=by
  cases u
  · refine ak.of (f78_MR _ _ _) ?_
    unfold f78_M
    repeat' (first
      | refine aa.chk rfl ?_
      | refine aa.tv rfl ?_
      | refine aa.tv (RL.len (by assumption)) ?_
      | refine aa.nat rfl ?_
      | refine aa.ite (v:=true) rfl (fun _=>?_) (fun h=>nomatch h)
      | refine aa.ite (v:=false) rfl (fun h=>nomatch h) (fun _=>?_)
      | refine aa.ite rfl (fun _=>?_) (fun _=>?_)
      | refine aa.call (by assumption) ?_
      | refine aa.tvs (by assumption) ?_
       )
    all_goals (apply dP; simp_all [jy])
  · refine ak.of (f78_MR _ _ _) ?_
    unfold f78_M
    repeat' (first
      | refine aa.chk rfl ?_
      | refine aa.tv rfl ?_
      | refine aa.tv (RL.len (by assumption)) ?_
      | refine aa.nat rfl ?_
      | refine aa.ite (v:=true) rfl (fun _=>?_) (fun h=>nomatch h)
      | refine aa.ite (v:=false) rfl (fun h=>nomatch h) (fun _=>?_)
      | refine aa.ite rfl (fun _=>?_) (fun _=>?_)
      | refine aa.call (by assumption) ?_
      | refine aa.tvs (by assumption) ?_
       )
    all_goals (apply dP; simp_all [jy,within] <;> omega)
theorem r50 {q q' : Option Bool} {x bs g : TV} {fs : List DFunc} {p regs n : Int} {u : Bool} {l : List Int} (hx : RL q 3 (RFunc q) x fs) (hg : RInts q' g l) : ak prog 81 [.agg [x, I p, I regs, bs], B u, I n, g] (B (tt (ny u fs regs n l))) := by
  cases u
  · refine ak.of (f81_MR _ _ _ _) ?_
    unfold f81_M
    repeat' (first
      | refine aa.chk rfl ?_
      | refine aa.tv rfl ?_
      | refine aa.tv (RL.len (by assumption)) ?_
      | refine aa.nat rfl ?_
      | refine aa.ite (v:=true) rfl (fun _=>?_) (fun h=>nomatch h)
      | refine aa.ite (v:=false) rfl (fun h=>nomatch h) (fun _=>?_)
      | refine aa.ite rfl (fun _=>?_) (fun _=>?_)
      | refine aa.call (by assumption) ?_
      | refine aa.tvs (by assumption) ?_
       )
    all_goals (apply dP; simp_all [ny])
  · rw [show tt (ny true fs regs n l) = tt (qn fs regs n l) from cE ⟨fun h => h.1 rfl, fun h => ⟨fun _ => h, fun h => nomatch h⟩⟩]
    refine ak.of (f81_MR _ _ _ _) ?_
    unfold f81_M
    refine aa.chk rfl (aa.tv rfl (aa.ite rfl (fun h=>nomatch h) fun _=>aa.tv rfl (aa.ite rfl (fun h=>?_) fun h=>?_)))
    · simp at h
      exact a9 fun h'=>by have:=h'.1; omega
    · have h0 : 0 ≤ n := by simpa using h
      refine aa.tv hx.len (aa.tv rfl (aa.ite rfl (fun h=>?_) fun h=>?_))
      · simp at h
        refine a9 ?_
        rintro ⟨_,f,hf,_⟩
        have:=(EJ.1 hf).1
        omega
      · simp at h
        have hlt:n.toNat < fs.length:=by omega
        have hf:fs[n.toNat]? = some fs[n.toNat]:=EK hlt
        obtain ⟨e,he,hr⟩:=hx.bF (k:=.i64) h0 hf
        obtain ⟨b,rfl,_⟩:=hr
        refine aa.tv hg.len (aa.tvs he (aa.chk rfl (aa.tv rfl (aa.ite rfl (fun h=>?_) fun h=>?_))))
        · refine a9 ?_
          rintro ⟨_,f,hf',hl,_⟩
          rw [hf] at hf'
          simp at hf' h
          subst hf'
          exact h hl
        · simp at h
          refine aa.tv hg.len (f81_0_J ?_)
          have hp:qn fs regs n l ↔ ∀ i,i < l.length→∀ a,l[i]? = some a→within a regs:=by
            refine ⟨fun ⟨_,f,hf',hl,ha⟩=>ha,fun ha=>⟨h0,_,hf,h,ha⟩⟩
          rw [cE hp]
          refine jT (g:=fun k=>f81_0 g (I l.length) (I k) x (I p) (I regs) bs) ?_ ?_
          · unfold f81_0
            refine aa.tv rfl (aa.ite aZ (fun h=>nomatch h) fun _=>?_)
            exact aa.ret
          · intro k hk r h1 h2
            have ha:l[k]? = some l[k]:=EK hk
            obtain ⟨e,he,rfl,_⟩:=hg.idx (k:=.i64) ha
            unfold f81_0
            refine aa.tv rfl (aa.ite (aK hk) (fun _=>?_) fun h=>nomatch h)
            refine aa.tvs he (aa.chk rfl (aa.call r47 (aa.chk rfl (aa.tv rfl (aa.ite rfl (fun h=>?_) fun h=>?_)))))
            · rw [h1 (by simp [ha]; simpa [aP,bQ,tf] using h)]; exact aa.ret
            · refine aa.tv (inc hk hg.bnd) (f81_0_J (h2 ?_))
              simp [ha]; simpa [aP,bQ,tf] using h
theorem r51 {q : Option Bool} {fs x : TV} {bs : List DBlock} {p regs n : Int} {u landing : Bool} (hx : RL q 14 (RBlock q) x bs) : ak prog 82 [.agg [fs, I p, I regs, x], B u, I n, B landing] (B (tt (tB u bs n landing))) := by
  cases u
  · refine ak.of (f82_MR _ _ _ _) ?_
    unfold f82_M
    repeat' (first
      | refine aa.chk rfl ?_
      | refine aa.tv rfl ?_
      | refine aa.tv (RL.len (by assumption)) ?_
      | refine aa.nat rfl ?_
      | refine aa.ite (v:=true) rfl (fun _=>?_) (fun h=>nomatch h)
      | refine aa.ite (v:=false) rfl (fun h=>nomatch h) (fun _=>?_)
      | refine aa.ite rfl (fun _=>?_) (fun _=>?_)
      | refine aa.call (by assumption) ?_
      | refine aa.tvs (by assumption) ?_
       )
    all_goals (apply dP; simp_all [tB])
  · rw [show tt (tB true bs n landing) = tt (lq bs n landing) from cE ⟨fun h => h.1 rfl, fun h => ⟨fun _ => h, fun h => nomatch h⟩⟩]
    refine ak.of (f82_MR _ _ _ _) ?_
    unfold f82_M
    refine aa.chk rfl (aa.tv rfl (aa.ite rfl (fun h=>nomatch h) fun _=>aa.tv rfl (aa.ite rfl (fun h=>?_) fun h=>?_)))
    · have h0 : 0 ≤ n := by simpa using h
      refine aa.tv hx.len (aa.tv rfl (aa.ite rfl (fun h=>?_) fun h=>?_))
      · simp at h
        have hlt:n.toNat < bs.length:=by omega
        have hf:bs[n.toNat]? = some bs[n.toNat]:=EK hlt
        obtain ⟨e,he,hr⟩:=hx.bF (k:=.i64) h0 hf
        obtain ⟨c,i,g,rfl,_⟩:=hr
        refine aa.tvs he (aa.chk rfl (aa.tv rfl ?_))
        apply dP
        simp [lq,h0,hf]
      · simp at h
        refine a9 ?_
        rintro ⟨_,f,hf,_⟩
        have:=(EJ.1 hf).1
        omega
    · simp at h
      exact a9 fun h'=>by have:=h'.1; omega
def oF (fs:List DFunc) (regs:Int) (x:DIns):Prop :=
 has (iu x.op) 1=true∧jy (has (iu x.op) 2) regs x.dst∧jy (has (iu x.op) 4) regs x.a∧jy (has (iu x.op) 8) regs x.b∧(has (iu x.op) 16=true∨x.k=0)∧ny (has (iu x.op) 32) fs regs x.f x.args
theorem r33 {q q':Option Bool} {x bs:TV} {e:List TV} {fs:List DFunc} {p regs:Int} {a:DIns} (hx:RL q 3 (RFunc q) x fs) (he:RIns q' e a):ak prog 70 [.agg [x,I p,I regs,bs],.agg e] (B (tt (oF fs regs a))):=by
 obtain ⟨g,rfl,hg,_⟩:=he
 have h49:=r49 a.op
 have h50:∀ {u:Bool} {n:Int},ak prog 81 [.agg [x,I p,I regs,bs],B u,I n,g] (B (tt (ny u fs regs n a.args))):=r50 hx hg
 refine ak.of (f70_MR _ _) ?_
 unfold f70_M
 repeat' (first
  | refine aa.chk rfl ?_
  | refine aa.tv rfl ?_
  | refine aa.tv (RL.len (by assumption)) ?_
  | refine aa.nat rfl ?_
  | refine aa.ite (v:=true) rfl (fun _=>?_) (fun h=>nomatch h)
  | refine aa.ite (v:=false) rfl (fun h=>nomatch h) (fun _=>?_)
  | refine aa.ite rfl (fun _=>?_) (fun _=>?_)
  | refine aa.call (by assumption) ?_
  | refine aa.tvs (by assumption) ?_
  | refine aa.call (r25 _ _) ?_ | refine aa.call r47 ?_ | refine aa.call h50 ?_)
 all_goals (apply dP; simp_all [oF,aP,bQ])
def sV (fs:List DFunc) (regs:Int) (bs:List DBlock) (x:DEnd):Prop :=
 has (cK x.kind) 1=true∧jy (has (cK x.kind) 4) regs x.a∧jy (has (cK x.kind) 2) regs x.dst∧ny (has (cK x.kind) 32) fs regs x.f x.args ∧
  tB (has (cK x.kind) 64) bs x.to false∧tB (has (cK x.kind) 128) bs x.els false∧tB (has (cK x.kind) 256) bs x.pad true
theorem r34 {q q' q2:Option Bool} {x y:TV} {e:List TV} {fs:List DFunc} {bs:List DBlock} {p regs:Int} {a:DEnd} (hx:RL q 3 (RFunc q) x fs) (hy:RL q2 14 (RBlock q2) y bs) (he:REnd q' e a):ak prog 71 [.agg [x,I p,I regs,y],.agg e] (B (tt (sV fs regs bs a))):=by
 obtain ⟨g,rfl,hg,_⟩:=he
 have h24:=r24 a.kind
 have h50:∀ {u:Bool} {n:Int},ak prog 81 [.agg [x,I p,I regs,y],B u,I n,g] (B (tt (ny u fs regs n a.args))):=r50 hx hg
 have h51:∀ {u landing:Bool} {n:Int},ak prog 82 [.agg [x,I p,I regs,y],B u,I n,B landing] (B (tt (tB u bs n landing))):=r51 hy
 refine ak.of (f71_MR _ _) ?_
 unfold f71_M
 repeat' (first
  | refine aa.chk rfl ?_
  | refine aa.tv rfl ?_
  | refine aa.tv (RL.len (by assumption)) ?_
  | refine aa.nat rfl ?_
  | refine aa.ite (v:=true) rfl (fun _=>?_) (fun h=>nomatch h)
  | refine aa.ite (v:=false) rfl (fun h=>nomatch h) (fun _=>?_)
  | refine aa.ite rfl (fun _=>?_) (fun _=>?_)
  | refine aa.call (by assumption) ?_
  | refine aa.tvs (by assumption) ?_
  | refine aa.call (r25 _ _) ?_ | refine aa.call r47 ?_ | refine aa.call h50 ?_ | refine aa.call h51 ?_)
 all_goals (apply dP; simp_all [sV,aP,bQ])
end Go.Ab.A10
end
section
set_option maxRecDepth 10000
namespace Go.Ab
theorem RL.slice {α:Type} {q:Option Bool} {s:Nat} {R:List TV→α→Prop} {x:TV} {l:List α} (h:RL q s R x l) {t:TypeId} {lo hi:Option Nat} (h1:lo.getD 0≤hi.getD l.length) (h2:hi.getD l.length≤l.length) :
  ∃ y,pslice (.slice t) s x lo hi=some y∧RL q s R y ((l.drop (lo.getD 0)).take (hi.getD l.length - lo.getD 0)):=by
 rcases h with ⟨rfl,rfl⟩ | ⟨o,xs,rfl,hq,h,hb⟩
 ·simp at h1 h2
  refine ⟨_,?_,by simpa using RL.nil⟩
  have h3:lo.getD 0=0:=by omega
  simp only [pslice,aI,h2,h3,and_self,if_true]
 ·have hl:=h.length
  refine ⟨.sl o s ((xs.drop (lo.getD 0)).take (hi.getD xs.length - lo.getD 0)),?_,?_⟩
  ·rw [← hl] at h1 h2
   simp only [pslice,h1,h2,and_self,if_true]
  ·rw [← hl]
   exact .sl hq ((h.drop _).take _) (by simp; omega)
theorem aS {k:Nat} (h:k≤9223372036854775807):aj (I (k:Int))=some k:=by
 simp [aj]; omega
def zQ (l:List Int):Prop:=∀ i,i < l.length→∀ a,l[i]? = some a→a ∉ l.take i
def C2 (landing:Bool) (regs:Int) (p:DPad):Prop:=(landing=false→p.dst=0∧p.catches=[]∧p.all=false∧p.cleanup=false) ∧
 (landing=true→within p.dst regs∧p.catches.length≤8∧zQ p.catches∧(p.catches≠[]∨p.all=true∨p.cleanup=true))
end Go.Ab
namespace Go.Ab.A10
open Go Go.Ab Go.Proofs
theorem r59 {q:Option Bool} {x:TV} {l:List Int} {w:Int} (hx:RWords q x l):∃ n,ak prog 77 [x,W w] (I n)∧(0≤n ↔ w ∈ l):=by
 have loop : ∀ d k, k + d = l.length → ∃ n, aa prog 77 (f77_0 x (W w) (I l.length) (I k)) (I n) ∧ (0 ≤ n ↔ ∃ i, k ≤ i ∧ l[i]? = some w) := by
  intro d
  induction d with
  | zero =>
   intro k hk
   have hk:k=l.length:=by omega
   subst hk
   refine ⟨-1,?_,?_⟩
   ·unfold f77_0
    refine aa.tv rfl (aa.ite aZ (fun h=>nomatch h) fun _=>?_)
    exact aa.ret
   ·simp only [show ¬ (0:Int)≤-1 by omega,false_iff,not_exists,not_and]
    intro i hi
    rw [EV hi]; simp
  | succ d ih =>
   intro k hk
   have hk':k < l.length:=by omega
   have ha:l[k]? = some l[k]:=EK hk'
   obtain ⟨e,he,rfl,_⟩:=hx.idx (k:=.i64) ha
   obtain ⟨n,hn,hiff⟩:=ih (k + 1) (by omega)
   by_cases hw:w=l[k]
   ·refine ⟨(k:Int),?_,?_⟩
    ·unfold f77_0
     refine aa.tv rfl (aa.ite (aK hk') (fun _=>?_) fun h=>nomatch h)
     refine aa.tvs he (aa.chk rfl (aa.tv rfl (aa.ite rfl (fun h=>aa.ret) fun h=>?_)))
     simp at h; exact absurd hw h
    ·constructor
     ·intro _; exact ⟨k,Nat.le_refl _,by rw [ha,hw]⟩
     ·intro _; omega
   ·refine ⟨n,?_,?_⟩
    ·unfold f77_0
     refine aa.tv rfl (aa.ite (aK hk') (fun _=>?_) fun h=>nomatch h)
     refine aa.tvs he (aa.chk rfl (aa.tv rfl (aa.ite rfl (fun h=>?_) fun h=>?_)))
     ·simp at h; exact absurd h hw
     ·refine aa.tv (inc hk' hx.bnd) (f77_0_J hn)
    ·rw [hiff]
     constructor
     ·rintro ⟨i,hi,h⟩; exact ⟨i,by omega,h⟩
     ·rintro ⟨i,hi,h⟩
      refine ⟨i,?_,h⟩
      by_cases hik:i=k
      ·subst hik; rw [ha] at h; simp at h; exact absurd h.symm hw
      ·omega
 obtain ⟨n,hn,hiff⟩:=loop l.length 0 (by omega)
 refine ⟨n,?_,?_⟩
 ·refine ak.of (f77_MR _ _) ?_
  unfold f77_M
  exact aa.tv hx.len (f77_0_J hn)
 ·rw [hiff,List.mem_iff_getElem?]
  simp
theorem r56 {q:Option Bool} {x:TV} {l:List Int} {w:Int} (hx:RWords q x l):ak prog 68 [x,W w] (B (tt (w ∈ l))):=by
 obtain ⟨n,hn,hiff⟩:=r59 (w:=w) hx
 refine ak.of (f68_MR _ _) ?_
 unfold f68_M
 repeat' (first
  | refine aa.chk rfl ?_
  | refine aa.tv rfl ?_
  | refine aa.tv (RL.len (by assumption)) ?_
  | refine aa.nat rfl ?_
  | refine aa.ite rfl (fun _=>?_) (fun _=>?_)
  | refine aa.call (by assumption) ?_
  | refine aa.tvs (by assumption) ?_)
 apply dP
 simp [hiff]
theorem r48 {q:Option Bool} {x:TV} {l:List Int} (hx:RWords q x l):ak prog 79 [x] (B (tt (zQ l))):=by
 refine ak.of (f79_MR _) ?_
 unfold f79_M
 refine aa.tv hx.len (f79_0_J ?_)
 refine jT (g:=fun k=>f79_0 x x (I l.length) (I k)) ?_ ?_
 ·unfold f79_0
  refine aa.tv rfl (aa.ite aZ (fun h=>nomatch h) fun _=>?_)
  exact aa.ret
 ·intro k hk r h1 h2
  have ha:l[k]? = some l[k]:=EK hk
  obtain ⟨e,he,rfl,_⟩:=hx.idx (k:=.i64) ha
  obtain ⟨y,hy,hry⟩:=hx.slice (t:=29) (lo:=none) (hi:=some k) (by simp) (by simp; omega)
  have hry':RWords q y (l.take k):=by simpa using hry
  unfold f79_0
  refine aa.tv rfl (aa.ite (aK hk) (fun _=>?_) fun h=>nomatch h)
  have hb:=hx.bnd
  refine aa.tvs he (aa.chk rfl (aa.nat (aS (by omega)) (aa.tv hy (aa.call (r56 hry') (aa.chk rfl (aa.ite rfl (fun h=>?_) fun h=>?_))))))
  ·rw [h1 (by simp [ha]; simpa [aP] using h)]; exact aa.ret
  ·refine aa.tv (inc hk hx.bnd) (f79_0_J (h2 ?_))
   simp [ha]; simpa [bQ] using h
theorem r32 {q:Option Bool} {fs bs:TV} {e:List TV} {p regs:Int} {a:DPad} {landing:Bool} (he:RPad q e a):ak prog 69 [.agg [fs,I p,I regs,bs],B landing,.agg e] (B (tt (C2 landing regs a))):=by
  obtain ⟨x,rfl,hx,_⟩:=he
  have h48:=r48 hx
  cases landing
  · refine ak.of (f69_MR _ _ _) ?_
    unfold f69_M
    repeat' (first
      | refine aa.chk rfl ?_
      | refine aa.tv rfl ?_
      | refine aa.tv (RL.len (by assumption)) ?_
      | refine aa.nat rfl ?_
      | refine aa.ite (v:=true) rfl (fun _=>?_) (fun h=>nomatch h)
      | refine aa.ite (v:=false) rfl (fun h=>nomatch h) (fun _=>?_)
      | refine aa.ite rfl (fun _=>?_) (fun _=>?_)
      | refine aa.call (by assumption) ?_
      | refine aa.tvs (by assumption) ?_
       )
    all_goals (apply dP; simp_all [C2])
  · refine ak.of (f69_MR _ _ _) ?_
    unfold f69_M
    repeat' (first
      | refine aa.chk rfl ?_
      | refine aa.tv rfl ?_
      | refine aa.tv (RL.len (by assumption)) ?_
      | refine aa.nat rfl ?_
      | refine aa.ite (v:=true) rfl (fun _=>?_) (fun h=>nomatch h)
      | refine aa.ite (v:=false) rfl (fun h=>nomatch h) (fun _=>?_)
      | refine aa.ite rfl (fun _=>?_) (fun _=>?_)
      | refine aa.call (by assumption) ?_
      | refine aa.tvs (by assumption) ?_
      | refine aa.call r47 ?_)
    all_goals (apply dP; simp_all [C2,aP,bQ,tf,List.length_pos_iff] <;> omega)
def j6 (fs:List DFunc) (regs:Int) (bs:List DBlock) (b:DBlock):Prop:=b.ins.length≤64∧C2 b.landing regs b.pad∧(∀ i,i < b.ins.length→∀ x,b.ins[i]? = some x→oF fs regs x)∧sV fs regs bs b.fin
def jj (fs:List DFunc) (f:DFunc):Prop:=(0≤f.params∧f.params≤8∧f.params≤f.regs∧f.regs≤256)∧f.blocks.length≤64∧(∃ b,f.blocks[0]? = some b∧b.landing=false)∧∀ i,i < f.blocks.length→∀ b,f.blocks[i]? = some b→j6 fs f.regs f.blocks b
def bz (m:DMod):Prop:=m.funcs.length≤16∧(∃ f,m.funcs[0]? = some f∧f.params=0)∧∀ i,i < m.funcs.length→∀ f,m.funcs[i]? = some f→jj m.funcs f
theorem r19 {q q' q2:Option Bool} {x y:TV} {e:List TV} {fs:List DFunc} {bs:List DBlock} {p regs:Int} {b:DBlock} (hx:RL q 3 (RFunc q) x fs) (hy:RL q2 14 (RBlock q2) y bs) (he:RBlock q' e b) :
  ak prog 58 [.agg [x,I p,I regs,y],.agg e] (B (tt (j6 fs regs bs b))):=by
 obtain ⟨c,i,g,rfl,hc,hd,hi,hg,ho⟩:=he
 have h32:ak prog 69 [.agg [x,I p,I regs,y],B b.landing,.agg [I b.pad.dst,c,B b.pad.all,B b.pad.cleanup]] (B (tt (C2 b.landing regs b.pad))):=r32 (q:=q') ⟨c,rfl,hc,hd⟩
 have h34:ak prog 71 [.agg [x,I p,I regs,y],.agg [I b.fin.kind,I b.fin.a,I b.fin.dst,I b.fin.f,g,I b.fin.to,I b.fin.els,I b.fin.pad]] (B (tt (sV fs regs bs b.fin))):=r34 (q':=q') hx hy ⟨g,rfl,hg,ho⟩
 refine ak.of (f58_MR _ _) ?_
 unfold f58_M
 refine aa.chk rfl (aa.chk rfl (aa.tv hi.len (aa.tv rfl (aa.ite rfl (fun h=>?_) fun h0=>?_))))
 ·simp at h
  exact a9 fun h'=>by have:=h'.1; omega
 ·refine aa.call h32 (aa.chk rfl (aa.tv rfl (aa.ite rfl (fun h=>?_) fun h=>?_)))
  ·simp [bQ] at h
   exact a9 fun h'=>h h'.2.1
  ·simp [aP] at h h0
   refine aa.tv hi.len (f58_0_J ?_)
   rw [show tt (j6 fs regs bs b)=tt (fQ 0 b.ins.length (fun i=>∀ x,b.ins[i]? = some x→oF fs regs x)∧sV fs regs bs b.fin) from cE (by
    rw [fL]
    exact ⟨fun h=>h.2.2,fun h'=>⟨by omega,h,h'⟩⟩)]
   refine zA (g:=fun k=>f58_0 i (I b.ins.length) (I k) x (I p) (I regs) y (B b.landing) (I b.pad.dst) c (B b.pad.all) (B b.pad.cleanup) i (I b.fin.kind) (I b.fin.a) (I b.fin.dst) (I b.fin.f) g (I b.fin.to) (I b.fin.els) (I b.fin.pad)) ?_ ?_ b.ins.length 0 (by omega)
   ·unfold f58_0
    refine aa.tv rfl (aa.ite aZ (fun h=>nomatch h) fun _=>?_)
    refine f58_1_J ?_
    unfold f58_1
    exact aa.call h34 (aa.chk rfl aa.ret)
   ·intro k hk r h1 h2
    have ha:b.ins[k]? = some b.ins[k]:=EK hk
    obtain ⟨e,he,hr⟩:=hi.idx (k:=.i64) ha
    have h33:ak prog 70 [.agg [x,I p,I regs,y],.agg e] (B (tt (oF fs regs b.ins[k]))):=r33 hx hr
    obtain ⟨_,rfl,_⟩:=hr
    unfold f58_0
    refine aa.tv rfl (aa.ite (aK hk) (fun _=>?_) fun h=>nomatch h)
    refine aa.tvs he (aa.chk rfl (aa.call h33 (aa.chk rfl (aa.tv rfl (aa.ite rfl (fun h=>?_) fun h=>?_)))))
    ·rw [h1 (by simp [ha]; simpa [bQ] using h)]; exact aa.ret
    ·refine aa.tv (inc hk hi.bnd) (f58_0_J (h2 ?_))
     simp [ha]; simpa [aP] using h
theorem r10 {q q':Option Bool} {e e':List TV} {m:DMod} {f:DFunc} (hm:RMod q e m) (hf:RFunc q' e' f):ak prog 44 [.agg e,.agg e'] (B (tt (jj m.funcs f))):=by
 obtain ⟨x,rfl,hx⟩:=hm
 obtain ⟨y,rfl,hy,_⟩:=hf
 refine ak.of (f44_MR _ _) ?_
 unfold f44_M
 refine aa.chk rfl (aa.chk rfl (aa.tv rfl (aa.ite rfl (fun h=>?_) fun g1=>?_)))
 ·simp at h; exact a9 fun h'=>by have:=h'.1; omega
 refine aa.tv rfl (aa.ite rfl (fun h=>?_) fun g2=>?_)
 ·simp at h; exact a9 fun h'=>by have:=h'.1; omega
 refine aa.tv rfl (aa.ite rfl (fun h=>?_) fun g3=>?_)
 ·simp at h; exact a9 fun h'=>by have:=h'.1; omega
 refine aa.tv rfl (aa.ite rfl (fun h=>?_) fun g4=>?_)
 ·simp at h; exact a9 fun h'=>by have:=h'.1; omega
 refine aa.tv hy.len (aa.tv rfl (aa.ite rfl (fun h=>?_) fun g5=>?_))
 ·simp at h
  refine a9 ?_
  rintro ⟨_,_,⟨b,hb,_⟩,_⟩
  have:=(EJ.1 hb).1
  omega
 refine aa.tv hy.len (aa.tv rfl (aa.ite rfl (fun h=>?_) fun g6=>?_))
 ·simp at h; exact a9 fun h'=>by have:=h'.2.1; omega
 simp at g1 g2 g3 g4 g5 g6
 have hpos:0 < f.blocks.length:=by omega
 have hb0:f.blocks[0]? = some f.blocks[0]:=EK hpos
 obtain ⟨e0,he0,hr0⟩:=hy.idx (k:=.i64) hb0
 obtain ⟨_,_,_,rfl,_⟩:=hr0
 refine aa.tvs he0 (aa.chk rfl (aa.ite rfl (fun h=>?_) fun g7=>?_))
 ·refine a9 ?_
  rintro ⟨_,_,⟨b,hb,hl⟩,_⟩
  rw [hb0] at hb
  simp at hb
  subst hb
  rw [hl] at h
  cases h
 refine aa.tv hy.len (f44_0_J ?_)
 rw [show tt (jj m.funcs f)=tt (∀ i,i < f.blocks.length→∀ b,f.blocks[i]? = some b→j6 m.funcs f.regs f.blocks b) from cE
  ⟨fun h=>h.2.2.2,fun h=>⟨⟨by omega,by omega,by omega,by omega⟩,by omega,⟨_,hb0,g7⟩,h⟩⟩]
 refine jT (g:=fun k=>f44_0 y (I f.blocks.length) (I k) x (I f.params) (I f.regs) y) ?_ ?_
 ·unfold f44_0
  refine aa.tv rfl (aa.ite aZ (fun h=>nomatch h) fun _=>?_)
  exact aa.ret
 ·intro k hk r h1 h2
  have ha:f.blocks[k]? = some f.blocks[k]:=EK hk
  obtain ⟨e,he,hr⟩:=hy.idx (k:=.i64) ha
  have h19:ak prog 58 [.agg [x,I f.params,I f.regs,y],.agg e] (B (tt (j6 m.funcs f.regs f.blocks f.blocks[k]))):=r19 hx hy hr
  obtain ⟨_,_,_,rfl,_⟩:=hr
  unfold f44_0
  refine aa.tv rfl (aa.ite (aK hk) (fun _=>?_) fun h=>nomatch h)
  refine aa.tvs he (aa.chk rfl (aa.call h19 (aa.chk rfl (aa.tv rfl (aa.ite rfl (fun h=>?_) fun h=>?_)))))
  ·rw [h1 (by simp [ha]; simpa [bQ] using h)]; exact aa.ret
  ·refine aa.tv (inc hk hy.bnd) (f44_0_J (h2 ?_))
   simp [ha]; simpa [aP] using h
theorem r8 {q:Option Bool} {e:List TV} {m:DMod} (hm:RMod q e m):ak prog 31 [.agg e] (B (tt (bz m))):=by
 have hm':=hm
 obtain ⟨x,rfl,hx⟩:=hm
 refine ak.of (f31_MR _) ?_
 unfold f31_M
 refine aa.chk rfl (aa.tv hx.len (aa.tv rfl (aa.ite rfl (fun h=>?_) fun g1=>?_)))
 ·simp at h
  refine a9 ?_
  rintro ⟨_,⟨b,hb,_⟩,_⟩
  have:=(EJ.1 hb).1
  omega
 refine aa.tv hx.len (aa.tv rfl (aa.ite rfl (fun h=>?_) fun g2=>?_))
 ·simp at h; exact a9 fun h'=>by have:=h'.1; omega
 simp at g1 g2
 have hpos:0 < m.funcs.length:=by omega
 have hb0:m.funcs[0]? = some m.funcs[0]:=EK hpos
 obtain ⟨e0,he0,hr0⟩:=hx.idx (k:=.i64) hb0
 obtain ⟨_,rfl,_⟩:=hr0
 refine aa.tvs he0 (aa.chk rfl (aa.tv rfl (aa.ite rfl (fun h=>?_) fun g7=>?_)))
 ·refine a9 ?_
  rintro ⟨_,⟨b,hb,hl⟩,_⟩
  rw [hb0] at hb
  simp at hb
  subst hb
  rw [hl] at h
  simp at h
 simp at g7
 refine aa.tv hx.len (f31_0_J ?_)
 rw [show tt (bz m)=tt (∀ i,i < m.funcs.length→∀ f,m.funcs[i]? = some f→jj m.funcs f) from cE ⟨fun h=>h.2.2,fun h=>⟨by omega,⟨_,hb0,g7⟩,h⟩⟩]
 refine jT (g:=fun k=>f31_0 x (I m.funcs.length) (I k) x) ?_ ?_
 ·unfold f31_0
  refine aa.tv rfl (aa.ite aZ (fun h=>nomatch h) fun _=>?_)
  exact aa.ret
 ·intro k hk r h1 h2
  have ha:m.funcs[k]? = some m.funcs[k]:=EK hk
  obtain ⟨e,he,hr⟩:=hx.idx (k:=.i64) ha
  have h10:=r10 hm' hr
  obtain ⟨_,rfl,_⟩:=hr
  unfold f31_0
  refine aa.tv rfl (aa.ite (aK hk) (fun _=>?_) fun h=>nomatch h)
  refine aa.tvs he (aa.chk rfl (aa.call h10 (aa.chk rfl (aa.tv rfl (aa.ite rfl (fun h=>?_) fun h=>?_)))))
  ·rw [h1 (by simp [ha]; simpa [bQ] using h)]; exact aa.ret
  ·refine aa.tv (inc hk hx.bnd) (f31_0_J (h2 ?_))
   simp [ha]; simpa [aP] using h
end Go.Ab.A10
end

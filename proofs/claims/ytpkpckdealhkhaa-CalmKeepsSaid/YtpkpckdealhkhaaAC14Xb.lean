import Derived.Test.YtpkpckdealhkhaaAC14T
set_option linter.all false
set_option maxRecDepth 100000
namespace Go.Ab.C14
open Go Go.Ab Go.Proofs
open Go.Ab.TV (hole cell comp isSl isSc isTup cellsL tup agg)
open Go.Ab.Prg (tv tvs rws nat chk call jmp ret)
def f19_0_S  (y0 y1 y2 y3 y4 y5 y6 y7 y8 y9 y10 y11 y12 y13 y14 y15 y16 y17 y18 y19 y20 y21 y22 y23 y24 y25 y26 y27 y28 y29 y30 y31 y32 y33 y34 y35 w36 w37 w38 w39 w40 w41 w42 w43 w44 w45 w46 w47 w48 w49 w50 w51 w52 w53 w54 w55 w56 w57 w58 w59 w60 w61 w62 w63 w64 w65 w66 w67 w68 w69 w70 w71 w72 w73 w74 w75 w76 w77:TV):ASt:=⟨Rj 12 ++ [Pt 0,Pt 1]++Rj 55,[some (BC.cells [CA.sref 2 0 [],CA.t y0,CA.t y1,CA.t y2,CA.t y3,CA.t y4,CA.t y5,CA.t y6,CA.t y7,CA.t y8,CA.t y9,CA.t y10,CA.t y11,CA.t y12,CA.t y13,CA.t y14,CA.t y15,CA.sref 2 17 [],CA.sref 2 18 [],CA.t y16,CA.t y17]),some (BC.cells [CA.sref 3 0 [],CA.t y18,CA.t y19,CA.t y20,CA.t y21,CA.t y22,CA.t y23,CA.t y24,CA.t y25,CA.t y26,CA.t y27,CA.t y28,CA.t y29,CA.t y30,CA.t y31,CA.t y32,CA.t y33,CA.sref 3 17 [],CA.sref 3 18 [],CA.t y34,CA.t y35]),some (BC.tree [w36,w37,w38,w39,w40,w41,w42,w43,w44,w45,w46,w47,w48,w49,w50,w51,w52,w53,w54,w55,w56]),some (BC.tree [w57,w58,w59,w60,w61,w62,w63,w64,w65,w66,w67,w68,w69,w70,w71,w72,w73,w74,w75,w76,w77])]++Rz 89,[]⟩
def f19_M (x0 x1 x2 x3 x4:TV):Prg TV :=
 chk (TV.isAgg x0 1) (
 chk (TV.isAgg x1 1) (
 call 37 [agg [cell x0 0],x2,x3] fun v0 =>
 chk (Bool.and (TV.isAgg v0 21) (ab z68 (cellsL true v0) 0)) (
 tv (pbin (.int .i64) .mul x3 x4) fun v1 =>
 call 37 [agg [cell x1 0],x2,v1] fun v2 =>
 chk (Bool.and (TV.isAgg v2 21) (ab z68 (cellsL true v2) 0)) (
 tv (pbin (.int .i64) .neq (cell v0 19) (I 0)) fun v3 =>
 Prg.ite (asBool v3) (
 call 38 [agg [frz (cell v0 0),cell v0 1,cell v0 2,cell v0 3,cell v0 4,cell v0 5,cell v0 6,cell v0 7,cell v0 8,cell v0 9,cell v0 10,cell v0 11,cell v0 12,cell v0 13,cell v0 14,cell v0 15,cell v0 16,frz (cell v0 17),frz (cell v0 18),cell v0 19,cell v0 20],agg [frz (cell v2 0),cell v2 1,cell v2 2,cell v2 3,cell v2 4,cell v2 5,cell v2 6,cell v2 7,cell v2 8,cell v2 9,cell v2 10,cell v2 11,cell v2 12,cell v2 13,cell v2 14,cell v2 15,cell v2 16,frz (cell v2 17),frz (cell v2 18),cell v2 19,cell v2 20]] fun v4 =>
 chk (ab am [v4] 0) (
 ret v4)) (
 call 39 [frz (cell v0 18),frz (cell v2 18)] fun v5 =>
 chk (ab am [v5] 0) (
 tv (pun .not v5) fun v6 =>
 Prg.ite (asBool v6) (
 ret (B false)) (
 tv (pbin (.int .i64) .mul x3 (I 20)) fun v7 =>
 call 37 [agg [cell x0 0],x2,v7] fun v8 =>
 chk (Bool.and (TV.isAgg v8 21) (ab z68 (cellsL true v8) 0)) (
 tv (pbin (.int .i64) .neq (cell v2 19) (I 0)) fun v9 =>
 Prg.ite (asBool v9) (
 tv (pbin (.int .i64) .neq (cell v8 19) (I 0)) fun v10 =>
 Prg.ite (asBool v10) (
 call 38 [agg [frz (cell v2 0),cell v2 1,cell v2 2,cell v2 3,cell v2 4,cell v2 5,cell v2 6,cell v2 7,cell v2 8,cell v2 9,cell v2 10,cell v2 11,cell v2 12,cell v2 13,cell v2 14,cell v2 15,cell v2 16,frz (cell v2 17),frz (cell v2 18),cell v2 19,cell v2 20],agg [frz (cell v8 0),cell v8 1,cell v8 2,cell v8 3,cell v8 4,cell v8 5,cell v8 6,cell v8 7,cell v8 8,cell v8 9,cell v8 10,cell v8 11,cell v8 12,cell v8 13,cell v8 14,cell v8 15,cell v8 16,frz (cell v8 17),frz (cell v8 18),cell v8 19,cell v8 20]] fun v11 =>
 chk (ab am [v11] 0) (
 ret v11)) (
 jmp [1,1,1,1,1,1,1] (f19_0_S (cell v2 1) (cell v2 2) (cell v2 3) (cell v2 4) (cell v2 5) (cell v2 6) (cell v2 7) (cell v2 8) (cell v2 9) (cell v2 10) (cell v2 11) (cell v2 12) (cell v2 13) (cell v2 14) (cell v2 15) (cell v2 16) (cell v2 19) (cell v2 20) (cell v8 1) (cell v8 2) (cell v8 3) (cell v8 4) (cell v8 5) (cell v8 6) (cell v8 7) (cell v8 8) (cell v8 9) (cell v8 10) (cell v8 11) (cell v8 12) (cell v8 13) (cell v8 14) (cell v8 15) (cell v8 16) (cell v8 19) (cell v8 20) (cell v2 0) hole hole hole hole hole hole hole hole hole hole hole hole hole hole hole hole (cell v2 17) (cell v2 18) hole hole (cell v8 0) hole hole hole hole hole hole hole hole hole hole hole hole hole hole hole hole (cell v8 17) (cell v8 18) hole hole))) (
 jmp [1,1,1,1,1,1,1] (f19_0_S (cell v2 1) (cell v2 2) (cell v2 3) (cell v2 4) (cell v2 5) (cell v2 6) (cell v2 7) (cell v2 8) (cell v2 9) (cell v2 10) (cell v2 11) (cell v2 12) (cell v2 13) (cell v2 14) (cell v2 15) (cell v2 16) (cell v2 19) (cell v2 20) (cell v8 1) (cell v8 2) (cell v8 3) (cell v8 4) (cell v8 5) (cell v8 6) (cell v8 7) (cell v8 8) (cell v8 9) (cell v8 10) (cell v8 11) (cell v8 12) (cell v8 13) (cell v8 14) (cell v8 15) (cell v8 16) (cell v8 19) (cell v8 20) (cell v2 0) hole hole hole hole hole hole hole hole hole hole hole hole hole hole hole hole (cell v2 17) (cell v2 18) hole hole (cell v8 0) hole hole hole hole hole hole hole hole hole hole hole hole hole hole hole hole (cell v8 17) (cell v8 18) hole hole))))))))))
def f19_0  (y0 y1 y2 y3 y4 y5 y6 y7 y8 y9 y10 y11 y12 y13 y14 y15 y16 y17 y18 y19 y20 y21 y22 y23 y24 y25 y26 y27 y28 y29 y30 y31 y32 y33 y34 y35 w36 w37 w38 w39 w40 w41 w42 w43 w44 w45 w46 w47 w48 w49 w50 w51 w52 w53 w54 w55 w56 w57 w58 w59 w60 w61 w62 w63 w64 w65 w66 w67 w68 w69 w70 w71 w72 w73 w74 w75 w76 w77:TV):Prg TV :=
 call 39 [frz w54,frz w75] fun v12 =>
 chk (ab am [v12] 0) (
 Prg.ite (asBool v12) (
 ret (B true)) (
 tv (pbin (.int .i64) .eql y34 (I 0)) fun v13 =>
 Prg.ite (asBool v13) (
 call 39 [frz w75,frz w54] fun v14 =>
 chk (ab am [v14] 0) (
 ret v14)) (
 ret (B false))))
theorem f19_MR (x0 x1 x2 x3 x4:TV):ap prog 19 [x0,x1,x2,x3,x4]=f19_M x0 x1 x2 x3 x4:=by kernel_rfl
theorem f19_0_J  {y0 y1 y2 y3 y4 y5 y6 y7 y8 y9 y10 y11 y12 y13 y14 y15 y16 y17 y18 y19 y20 y21 y22 y23 y24 y25 y26 y27 y28 y29 y30 y31 y32 y33 y34 y35 w36 w37 w38 w39 w40 w41 w42 w43 w44 w45 w46 w47 w48 w49 w50 w51 w52 w53 w54 w55 w56 w57 w58 w59 w60 w61 w62 w63 w64 w65 w66 w67 w68 w69 w70 w71 w72 w73 w74 w75 w76 w77:TV} {r:TV} (h:aa prog 19 (f19_0 y0 y1 y2 y3 y4 y5 y6 y7 y8 y9 y10 y11 y12 y13 y14 y15 y16 y17 y18 y19 y20 y21 y22 y23 y24 y25 y26 y27 y28 y29 y30 y31 y32 y33 y34 y35 w36 w37 w38 w39 w40 w41 w42 w43 w44 w45 w46 w47 w48 w49 w50 w51 w52 w53 w54 w55 w56 w57 w58 w59 w60 w61 w62 w63 w64 w65 w66 w67 w68 w69 w70 w71 w72 w73 w74 w75 w76 w77) r):aa prog 19 (.jmp [1,1,1,1,1,1,1] (f19_0_S y0 y1 y2 y3 y4 y5 y6 y7 y8 y9 y10 y11 y12 y13 y14 y15 y16 y17 y18 y19 y20 y21 y22 y23 y24 y25 y26 y27 y28 y29 y30 y31 y32 y33 y34 y35 w36 w37 w38 w39 w40 w41 w42 w43 w44 w45 w46 w47 w48 w49 w50 w51 w52 w53 w54 w55 w56 w57 w58 w59 w60 w61 w62 w63 w64 w65 w66 w67 w68 w69 w70 w71 w72 w73 w74 w75 w76 w77)) r:=aa.jmp (by kernel_rfl) h
def f20_M (x0 x1:TV):Prg TV :=
 chk (TV.isAgg x0 8) (
 chk (TV.isAgg x1 8) (
 tv (pbin (.int .i64) .eql (cell x0 0) (cell x1 0)) fun v0 =>
 Prg.ite (asBool v0) (
 tv (pbin (.int .i64) .eql (cell x0 1) (cell x1 1)) fun v1 =>
 Prg.ite (asBool v1) (
 tv (pbin (.int .i64) .eql (cell x0 2) (cell x1 2)) fun v2 =>
 Prg.ite (asBool v2) (
 tv (pbin (.int .i64) .eql (cell x0 3) (cell x1 3)) fun v3 =>
 Prg.ite (asBool v3) (
 call 40 [cell x0 4,cell x1 4] fun v4 =>
 chk (ab am [v4] 0) (
 Prg.ite (asBool v4) (
 tv (pbin (.int .i64) .eql (cell x0 5) (cell x1 5)) fun v5 =>
 Prg.ite (asBool v5) (
 tv (pbin (.int .i64) .eql (cell x0 6) (cell x1 6)) fun v6 =>
 Prg.ite (asBool v6) (
 tv (pbin (.int .i64) .eql (cell x0 7) (cell x1 7)) fun v7 =>
 ret v7) (
 ret (B false))) (
 ret (B false))) (
 ret (B false)))) (
 ret (B false))) (
 ret (B false))) (
 ret (B false))) (
 ret (B false))))
theorem f20_MR (x0 x1:TV):ap prog 20 [x0,x1]=f20_M x0 x1:=by kernel_rfl
def f21_M (x0 x1:TV):Prg TV :=
 chk (TV.isAgg x0 7) (
 chk (TV.isAgg x1 7) (
 tv (pbin (.int .i64) .eql (cell x0 0) (cell x1 0)) fun v0 =>
 Prg.ite (asBool v0) (
 tv (pbin (.int .i64) .eql (cell x0 1) (cell x1 1)) fun v1 =>
 Prg.ite (asBool v1) (
 tv (pbin (.int .i64) .eql (cell x0 2) (cell x1 2)) fun v2 =>
 Prg.ite (asBool v2) (
 tv (pbin (.int .i64) .eql (cell x0 3) (cell x1 3)) fun v3 =>
 Prg.ite (asBool v3) (
 tv (pbin (.int .u16) .eql (cell x0 4) (cell x1 4)) fun v4 =>
 Prg.ite (asBool v4) (
 tv (pbin (.int .i64) .eql (cell x0 5) (cell x1 5)) fun v5 =>
 Prg.ite (asBool v5) (
 call 40 [cell x0 6,cell x1 6] fun v6 =>
 chk (ab am [v6] 0) (
 ret v6)) (
 ret (B false))) (
 ret (B false))) (
 ret (B false))) (
 ret (B false))) (
 ret (B false))) (
 ret (B false))))
theorem f21_MR (x0 x1:TV):ap prog 21 [x0,x1]=f21_M x0 x1:=by kernel_rfl
def f22_M (x0:TV):Prg TV :=
 tv (pbin (.slice 40) .eql x0 (TV.lit bc)) fun v0 =>
 Prg.ite (asBool v0) (
 ret (TV.lit bc)) (
 tv (plen (.slice 40) x0) fun v1 =>
 nat (aJ v1) fun n2 =>
 nat (aJ v1) fun n3 =>
 chk (Bool.and (Nat.ble n2 n3) (Nat.ble n3 4294967296)) (
 rws (pelems 3 x0) fun r4 =>
 tv (pcopy 3 (TV.sl true 3 (List.replicate n2 [I 0,I 0,TV.lit bc])) r4) fun v5 =>
 nat (slLen (TV.sl true 3 (List.replicate n2 [I 0,I 0,TV.lit bc]))) fun n6 =>
 ret v5))
theorem f22_MR (x0:TV):ap prog 22 [x0]=f22_M x0:=by kernel_rfl
def f23_M (x0:TV):Prg TV :=
 tv (pbin (.slice 48) .eql x0 (TV.lit bc)) fun v0 =>
 Prg.ite (asBool v0) (
 ret (TV.lit bc)) (
 tv (plen (.slice 48) x0) fun v1 =>
 nat (aJ v1) fun n2 =>
 nat (aJ v1) fun n3 =>
 chk (Bool.and (Nat.ble n2 n3) (Nat.ble n3 4294967296)) (
 rws (pelems 14 x0) fun r4 =>
 tv (pcopy 14 (TV.sl true 14 (List.replicate n2 [B false,I 0,TV.lit bc,B false,B false,TV.lit bc,I 0,I 0,I 0,I 0,TV.lit bc,I 0,I 0,I 0])) r4) fun v5 =>
 nat (slLen (TV.sl true 14 (List.replicate n2 [B false,I 0,TV.lit bc,B false,B false,TV.lit bc,I 0,I 0,I 0,I 0,TV.lit bc,I 0,I 0,I 0]))) fun n6 =>
 ret v5))
theorem f23_MR (x0:TV):ap prog 23 [x0]=f23_M x0:=by kernel_rfl
def f24_0_S  (x0 x1 y2 y3 y4 y5 y6 y7 y8 y9 y10 y11 y12 y13 w14 w15:TV):ASt:=⟨[Jk,Pt 0,Pt 1]++Rj 13 ++ [AV.tv x0,AV.tv x1]++Rj 22,[some (BC.cells [CA.t y2,CA.t y3,CA.sref 2 0 [],CA.t y4,CA.t y5,CA.sref 3 0 [],CA.t y6,CA.t y7,CA.t y8,CA.t y9,CA.t y10,CA.t y11,CA.t y12,CA.t y13]),some (BC.cells [CA.junk,CA.junk,CA.junk,CA.junk,CA.junk,CA.junk,CA.junk,CA.junk,CA.junk,CA.junk,CA.junk,CA.junk,CA.junk,CA.junk]),Tr w14,Tr w15]++Rz 60,[]⟩
def f24_1_S  (y0 y1 y2 y3 y4 y5 y6 y7 y8 y9 y10 y11 w12 w13:TV):ASt:=⟨[Jk,Pt 0,Pt 1]++Rj 37,[some (BC.cells [CA.t y0,CA.t y1,CA.sref 2 0 [],CA.t y2,CA.t y3,CA.sref 3 0 [],CA.t y4,CA.t y5,CA.t y6,CA.t y7,CA.t y8,CA.t y9,CA.t y10,CA.t y11]),some (BC.cells [CA.junk,CA.junk,CA.junk,CA.junk,CA.junk,CA.junk,CA.junk,CA.junk,CA.junk,CA.junk,CA.junk,CA.junk,CA.junk,CA.junk]),Tr w12,Tr w13]++Rz 60,[]⟩
def f24_M (x0:TV):Prg TV :=
 chk (TV.isAgg x0 14) (
 call 41 [cell x0 2] fun v0 =>
 chk (ab zSl [v0] 0) (
 call 42 [cell x0 5] fun v1 =>
 chk (ab zSl [v1] 0) (
 tv (plen (.slice 55) v1) fun v2 =>
 jmp [0,0,1,0,1,1,1] (f24_0_S v2 (I 0) (cell x0 0) (cell x0 1) (cell x0 3) (cell x0 4) (cell x0 6) (cell x0 7) (cell x0 8) (cell x0 9) (cell x0 10) (cell x0 11) (cell x0 12) (cell x0 13) v0 v1))))
def f24_0  (x0 x1 y2 y3 y4 y5 y6 y7 y8 y9 y10 y11 y12 y13 w14 w15:TV):Prg TV :=
 tv (pbin (.int .i64) .lss x1 x0) fun v3 =>
 Prg.ite (asBool v3) (
 nat (slLen w15) fun n4 =>
 nat (aJ x1) fun n5 =>
 chk (Bool.and (slSize w15 7) (Nat.blt n5 n4)) (
 tvs (pel w15 n5) fun e6 =>
 chk (ab zSl e6 6) (
 tv (a8 [(n5,6)] w15) fun v7 =>
 call 43 [frz v7] fun v8 =>
 chk (ab zSl [v8] 0) (
 nat (slLen w15) fun n9 =>
 nat (aJ x1) fun n10 =>
 chk (Bool.and (slSize w15 7) (Nat.blt n10 n9)) (
 tvs (pel w15 n10) fun e11 =>
 chk (Bool.and (cL zSl e11 6) (ab zSl [v8] 0)) (
 tv (ja [] w15 n10 6 [v8]) fun v12 =>
 tv (pbin (.int .i64) .add x1 (I 1)) fun v13 =>
 jmp [0,0,1,0,1,1,1] (f24_0_S x0 v13 y2 y3 y4 y5 y6 y7 y8 y9 y10 y11 y12 y13 w14 v12))))))) (
 jmp [1,1,1,1] (f24_1_S y2 y3 y4 y5 y6 y7 y8 y9 y10 y11 y12 y13 w14 w15))
def f24_1  (y0 y1 y2 y3 y4 y5 y6 y7 y8 y9 y10 y11 w12 w13:TV):Prg TV :=
 call 43 [y8] fun v14 =>
 chk (ab zSl [v14] 0) (
 chk (isOwn (agg [y0,y1,w12,y2,y3,w13,y4,y5,y6,y7,v14,y9,y10,y11])) (
 ret (agg [y0,y1,w12,y2,y3,w13,y4,y5,y6,y7,v14,y9,y10,y11])))
theorem f24_MR (x0:TV):ap prog 24 [x0]=f24_M x0:=by kernel_rfl
theorem f24_0_J  {x0 x1 y2 y3 y4 y5 y6 y7 y8 y9 y10 y11 y12 y13 w14 w15:TV} {r:TV} (h:aa prog 24 (f24_0 x0 x1 y2 y3 y4 y5 y6 y7 y8 y9 y10 y11 y12 y13 w14 w15) r):aa prog 24 (.jmp [0,0,1,0,1,1,1] (f24_0_S x0 x1 y2 y3 y4 y5 y6 y7 y8 y9 y10 y11 y12 y13 w14 w15)) r:=aa.jmp (by kernel_rfl) h
theorem f24_1_J  {y0 y1 y2 y3 y4 y5 y6 y7 y8 y9 y10 y11 w12 w13:TV} {r:TV} (h:aa prog 24 (f24_1 y0 y1 y2 y3 y4 y5 y6 y7 y8 y9 y10 y11 w12 w13) r):aa prog 24 (.jmp [1,1,1,1] (f24_1_S y0 y1 y2 y3 y4 y5 y6 y7 y8 y9 y10 y11 w12 w13)) r:=aa.jmp (by kernel_rfl) h
def f25_M (x0 x1:TV):Prg TV :=
 chk (TV.isAgg x0 14) (
 call 27 [agg [cell x0 0,cell x0 1,cell x0 2,cell x0 3,cell x0 4,cell x0 5,cell x0 6,cell x0 7,cell x0 8,cell x0 9,cell x0 10,cell x0 11,cell x0 12,cell x0 13]] fun v0 =>
 chk (ab am [v0] 0) (
 Prg.ite (asBool v0) (
 tvs (pidx 1 x1 (cell x0 9)) fun e1 =>
 chk (Nat.blt 0 (List.length e1)) (
 tv (pun .not (nth hole e1 0)) fun v2 =>
 ret v2)) (
 ret (B false))))
theorem f25_MR (x0 x1:TV):ap prog 25 [x0,x1]=f25_M x0 x1:=by kernel_rfl
def f27_M (x0:TV):Prg TV :=
 chk (TV.isAgg x0 14) (
 tv (pbin (.int .i64) .eql (cell x0 6) (I 4)) fun v0 =>
 ret v0)
theorem f27_MR (x0:TV):ap prog 27 [x0]=f27_M x0:=by kernel_rfl
def f28_0_S  (x0 y1 y2 y3 y4 y5 y6:TV):ASt:=⟨[Jk,Jk,Pt 0,Pt 1,Jk,AV.tv x0]++Rj 90,[some (BC.cells [CA.t y1,CA.t y2,CA.t y3]),some (BC.cells [CA.t y4,CA.t y5,CA.t y6])]++Rz 118,[]⟩
def f28_1_S  (x0 x1 y2 y3 y4 y5 y6 y7 y8 y9 y10 y11 y12 y13 y14 y15 y16 y17 y18 y19 y20 y21 y22 y23 y24 y25 y26 y27 y28 y29 y30 y31 y32 y33 y34 y35:TV):ASt:=⟨[Jk,Jk,Pt 0,Pt 1,Jk,AV.tv x0,Pt 2,Pt 3,AV.tv x1]++Rj 87,[some (BC.cells [CA.t y2,CA.t y3,CA.t y4]),some (BC.cells [CA.t y5,CA.t y6,CA.t y7]),some (BC.cells [CA.t y8,CA.t y9,CA.t y10,CA.t y11,CA.t y12,CA.t y13,CA.t y14,CA.t y15,CA.t y16,CA.t y17,CA.t y18,CA.t y19,CA.t y20,CA.t y21]),some (BC.cells [CA.t y22,CA.t y23,CA.t y24,CA.t y25,CA.t y26,CA.t y27,CA.t y28,CA.t y29,CA.t y30,CA.t y31,CA.t y32,CA.t y33,CA.t y34,CA.t y35])]++Rz 116,[]⟩
def f28_M (x0 x1:TV):Prg TV :=
 chk (TV.isAgg x0 3) (
 chk (TV.isAgg x1 3) (
 tv (pbin (.int .i64) .neq (cell x0 0) (cell x1 0)) fun v0 =>
 Prg.ite (asBool v0) (
 ret (B false)) (
 tv (pbin (.int .i64) .neq (cell x0 1) (cell x1 1)) fun v1 =>
 Prg.ite (asBool v1) (
 ret (B false)) (
 tv (plen (.slice 48) (cell x0 2)) fun v2 =>
 tv (plen (.slice 48) (cell x1 2)) fun v3 =>
 tv (pbin (.int .i64) .neq v2 v3) fun v4 =>
 Prg.ite (asBool v4) (
 ret (B false)) (
 jmp [0,0,1,0,1,1] (f28_0_S (I 0) (cell x0 0) (cell x0 1) (cell x0 2) (cell x1 0) (cell x1 1) (cell x1 2)))))))
def f28_0  (x0 y1 y2 y3 y4 y5 y6:TV):Prg TV :=
 tv (plen (.slice 48) y3) fun v5 =>
 tv (pbin (.int .i64) .lss x0 v5) fun v6 =>
 Prg.ite (asBool v6) (
 tvs (pidx 14 y3 x0) fun e7 =>
 chk (Nat.ble 14 (List.length e7)) (
 tvs (pidx 14 y6 x0) fun e8 =>
 chk (Nat.ble 14 (List.length e8)) (
 tv (pbin Kd.bool .neq (nth hole e7 0) (nth hole e8 0)) fun v9 =>
 Prg.ite (asBool v9) (
 ret (B false)) (
 call 44 [agg [nth hole e7 1,nth hole e7 2,nth hole e7 3,nth hole e7 4],agg [nth hole e8 1,nth hole e8 2,nth hole e8 3,nth hole e8 4]] fun v10 =>
 chk (ab am [v10] 0) (
 tv (pun .not v10) fun v11 =>
 Prg.ite (asBool v11) (
 ret (B false)) (
 call 20 [agg [nth hole e7 6,nth hole e7 7,nth hole e7 8,nth hole e7 9,nth hole e7 10,nth hole e7 11,nth hole e7 12,nth hole e7 13],agg [nth hole e8 6,nth hole e8 7,nth hole e8 8,nth hole e8 9,nth hole e8 10,nth hole e8 11,nth hole e8 12,nth hole e8 13]] fun v12 =>
 chk (ab am [v12] 0) (
 tv (pun .not v12) fun v13 =>
 Prg.ite (asBool v13) (
 ret (B false)) (
 tv (plen (.slice 55) (nth hole e7 5)) fun v14 =>
 tv (plen (.slice 55) (nth hole e8 5)) fun v15 =>
 tv (pbin (.int .i64) .neq v14 v15) fun v16 =>
 Prg.ite (asBool v16) (
 ret (B false)) (
 jmp [0,0,1,1,1,0,0,1,0,0,1,0,1,1] (f28_1_S x0 (I 0) y1 y2 y3 y4 y5 y6 (nth hole e7 0) (nth hole e7 1) (nth hole e7 2) (nth hole e7 3) (nth hole e7 4) (nth hole e7 5) (nth hole e7 6) (nth hole e7 7) (nth hole e7 8) (nth hole e7 9) (nth hole e7 10) (nth hole e7 11) (nth hole e7 12) (nth hole e7 13) (nth hole e8 0) (nth hole e8 1) (nth hole e8 2) (nth hole e8 3) (nth hole e8 4) (nth hole e8 5) (nth hole e8 6) (nth hole e8 7) (nth hole e8 8) (nth hole e8 9) (nth hole e8 10) (nth hole e8 11) (nth hole e8 12) (nth hole e8 13))))))))))) (
 ret (B true))
def f28_1  (x0 x1 y2 y3 y4 y5 y6 y7 y8 y9 y10 y11 y12 y13 y14 y15 y16 y17 y18 y19 y20 y21 y22 y23 y24 y25 y26 y27 y28 y29 y30 y31 y32 y33 y34 y35:TV):Prg TV :=
 tv (plen (.slice 55) y13) fun v17 =>
 tv (pbin (.int .i64) .lss x1 v17) fun v18 =>
 Prg.ite (asBool v18) (
 tvs (pidx 7 y13 x1) fun e19 =>
 chk (Nat.ble 7 (List.length e19)) (
 tvs (pidx 7 y27 x1) fun e20 =>
 chk (Nat.ble 7 (List.length e20)) (
 call 21 [agg [nth hole e19 0,nth hole e19 1,nth hole e19 2,nth hole e19 3,nth hole e19 4,nth hole e19 5,nth hole e19 6],agg [nth hole e20 0,nth hole e20 1,nth hole e20 2,nth hole e20 3,nth hole e20 4,nth hole e20 5,nth hole e20 6]] fun v21 =>
 chk (ab am [v21] 0) (
 tv (pun .not v21) fun v22 =>
 Prg.ite (asBool v22) (
 ret (B false)) (
 tv (pbin (.int .i64) .add x1 (I 1)) fun v23 =>
 jmp [0,0,1,1,1,0,0,1,0,0,1,0,1,1] (f28_1_S x0 v23 y2 y3 y4 y5 y6 y7 y8 y9 y10 y11 y12 y13 y14 y15 y16 y17 y18 y19 y20 y21 y22 y23 y24 y25 y26 y27 y28 y29 y30 y31 y32 y33 y34 y35)))))) (
 tv (pbin (.int .i64) .add x0 (I 1)) fun v24 =>
 jmp [0,0,1,0,1,1] (f28_0_S v24 y2 y3 y4 y5 y6 y7))
theorem f28_MR (x0 x1:TV):ap prog 28 [x0,x1]=f28_M x0 x1:=by kernel_rfl
theorem f28_0_J  {x0 y1 y2 y3 y4 y5 y6:TV} {r:TV} (h:aa prog 28 (f28_0 x0 y1 y2 y3 y4 y5 y6) r):aa prog 28 (.jmp [0,0,1,0,1,1] (f28_0_S x0 y1 y2 y3 y4 y5 y6)) r:=aa.jmp (by kernel_rfl) h
theorem f28_1_J  {x0 x1 y2 y3 y4 y5 y6 y7 y8 y9 y10 y11 y12 y13 y14 y15 y16 y17 y18 y19 y20 y21 y22 y23 y24 y25 y26 y27 y28 y29 y30 y31 y32 y33 y34 y35:TV} {r:TV} (h:aa prog 28 (f28_1 x0 x1 y2 y3 y4 y5 y6 y7 y8 y9 y10 y11 y12 y13 y14 y15 y16 y17 y18 y19 y20 y21 y22 y23 y24 y25 y26 y27 y28 y29 y30 y31 y32 y33 y34 y35) r):aa prog 28 (.jmp [0,0,1,1,1,0,0,1,0,0,1,0,1,1] (f28_1_S x0 x1 y2 y3 y4 y5 y6 y7 y8 y9 y10 y11 y12 y13 y14 y15 y16 y17 y18 y19 y20 y21 y22 y23 y24 y25 y26 y27 y28 y29 y30 y31 y32 y33 y34 y35)) r:=aa.jmp (by kernel_rfl) h
def f29_0_S  (x0 y1 y2 y3 y4:TV):ASt:=⟨[Jk,Jk,Pt 0,Pt 1,Jk,AV.tv x0]++Rj 87,[Ct y1,some (BC.cells [CA.t y2,CA.t y3,CA.t y4])]++Rz 115,[]⟩
def f29_1_S  (x0 x1 y2 y3 y4 y5 y6 y7 y8 y9 y10 y11 y12 y13 y14 y15 y16 y17 y18 y19:TV):ASt:=⟨[Jk,Jk,Pt 0,Pt 1,Jk,AV.tv x0,Pt 2,AV.tv x1]++Rj 85,[Ct y2,some (BC.cells [CA.t y3,CA.t y4,CA.t y5]),some (BC.cells [CA.t y6,CA.t y7,CA.t y8,CA.t y9,CA.t y10,CA.t y11,CA.t y12,CA.t y13,CA.t y14,CA.t y15,CA.t y16,CA.t y17,CA.t y18,CA.t y19])]++Rz 114,[]⟩
def f29_M (x0 x1:TV):Prg TV :=
 chk (TV.isAgg x0 1) (
 chk (TV.isAgg x1 3) (
 tv (pbin (.int .i64) .lss (cell x1 0) (I 0)) fun v0 =>
 Prg.ite (asBool v0) (
 ret (B false)) (
 tv (pbin (.int .i64) .gtr (cell x1 0) (I 8)) fun v1 =>
 Prg.ite (asBool v1) (
 ret (B false)) (
 tv (pbin (.int .i64) .lss (cell x1 1) (cell x1 0)) fun v2 =>
 Prg.ite (asBool v2) (
 ret (B false)) (
 tv (pbin (.int .i64) .gtr (cell x1 1) (I 256)) fun v3 =>
 Prg.ite (asBool v3) (
 ret (B false)) (
 tv (plen (.slice 48) (cell x1 2)) fun v4 =>
 tv (pbin (.int .i64) .eql v4 (I 0)) fun v5 =>
 Prg.ite (asBool v5) (
 ret (B false)) (
 tv (plen (.slice 48) (cell x1 2)) fun v6 =>
 tv (pbin (.int .i64) .gtr v6 (I 64)) fun v7 =>
 Prg.ite (asBool v7) (
 ret (B false)) (
 tvs (pidx 14 (cell x1 2) (I 0)) fun e8 =>
 chk (Nat.blt 0 (List.length e8)) (
 Prg.ite (asBool (nth hole e8 0)) (
 ret (B false)) (
 jmp [0,0,1,0,1,1] (f29_0_S (I 0) (cell x0 0) (cell x1 0) (cell x1 1) (cell x1 2))))))))))))
def f29_0  (x0 y1 y2 y3 y4:TV):Prg TV :=
 tv (plen (.slice 48) y4) fun v9 =>
 tv (pbin (.int .i64) .lss x0 v9) fun v10 =>
 Prg.ite (asBool v10) (
 tvs (pidx 14 y4 x0) fun e11 =>
 chk (Nat.ble 14 (List.length e11)) (
 tv (plen (.slice 55) (nth hole e11 5)) fun v12 =>
 tv (pbin (.int .i64) .gtr v12 (I 64)) fun v13 =>
 Prg.ite (asBool v13) (
 ret (B false)) (
 call 45 [agg [y2,y3,y4],agg [nth hole e11 0,nth hole e11 1,nth hole e11 2,nth hole e11 3,nth hole e11 4,nth hole e11 5,nth hole e11 6,nth hole e11 7,nth hole e11 8,nth hole e11 9,nth hole e11 10,nth hole e11 11,nth hole e11 12,nth hole e11 13]] fun v14 =>
 chk (ab am [v14] 0) (
 tv (pun .not v14) fun v15 =>
 Prg.ite (asBool v15) (
 ret (B false)) (
 call 46 [agg [y1],agg [y2,y3,y4],agg [nth hole e11 6,nth hole e11 7,nth hole e11 8,nth hole e11 9,nth hole e11 10,nth hole e11 11,nth hole e11 12,nth hole e11 13]] fun v16 =>
 chk (ab am [v16] 0) (
 tv (pun .not v16) fun v17 =>
 Prg.ite (asBool v17) (
 ret (B false)) (
 jmp [0,0,1,1,1,0,0,1,0,0,1,0,1,1] (f29_1_S x0 (I 0) y1 y2 y3 y4 (nth hole e11 0) (nth hole e11 1) (nth hole e11 2) (nth hole e11 3) (nth hole e11 4) (nth hole e11 5) (nth hole e11 6) (nth hole e11 7) (nth hole e11 8) (nth hole e11 9) (nth hole e11 10) (nth hole e11 11) (nth hole e11 12) (nth hole e11 13))))))))) (
 ret (B true))
def f29_1  (x0 x1 y2 y3 y4 y5 y6 y7 y8 y9 y10 y11 y12 y13 y14 y15 y16 y17 y18 y19:TV):Prg TV :=
 tv (plen (.slice 55) y11) fun v18 =>
 tv (pbin (.int .i64) .lss x1 v18) fun v19 =>
 Prg.ite (asBool v19) (
 tvs (pidx 7 y11 x1) fun e20 =>
 chk (Nat.ble 7 (List.length e20)) (
 call 47 [agg [y2],agg [y3,y4,y5],agg [nth hole e20 0,nth hole e20 1,nth hole e20 2,nth hole e20 3,nth hole e20 4,nth hole e20 5,nth hole e20 6]] fun v21 =>
 chk (ab am [v21] 0) (
 tv (pun .not v21) fun v22 =>
 Prg.ite (asBool v22) (
 ret (B false)) (
 tv (pbin (.int .i64) .add x1 (I 1)) fun v23 =>
 jmp [0,0,1,1,1,0,0,1,0,0,1,0,1,1] (f29_1_S x0 v23 y2 y3 y4 y5 y6 y7 y8 y9 y10 y11 y12 y13 y14 y15 y16 y17 y18 y19))))) (
 tv (pbin (.int .i64) .add x0 (I 1)) fun v24 =>
 jmp [0,0,1,0,1,1] (f29_0_S v24 y2 y3 y4 y5))
theorem f29_MR (x0 x1:TV):ap prog 29 [x0,x1]=f29_M x0 x1:=by kernel_rfl
theorem f29_0_J  {x0 y1 y2 y3 y4:TV} {r:TV} (h:aa prog 29 (f29_0 x0 y1 y2 y3 y4) r):aa prog 29 (.jmp [0,0,1,0,1,1] (f29_0_S x0 y1 y2 y3 y4)) r:=aa.jmp (by kernel_rfl) h
theorem f29_1_J  {x0 x1 y2 y3 y4 y5 y6 y7 y8 y9 y10 y11 y12 y13 y14 y15 y16 y17 y18 y19:TV} {r:TV} (h:aa prog 29 (f29_1 x0 x1 y2 y3 y4 y5 y6 y7 y8 y9 y10 y11 y12 y13 y14 y15 y16 y17 y18 y19) r):aa prog 29 (.jmp [0,0,1,1,1,0,0,1,0,0,1,0,1,1] (f29_1_S x0 x1 y2 y3 y4 y5 y6 y7 y8 y9 y10 y11 y12 y13 y14 y15 y16 y17 y18 y19)) r:=aa.jmp (by kernel_rfl) h
def f30_0_S  (x0 y1 w2:TV):ASt:=⟨[Jk,Pt 0,Jk,Sr 1,AV.tv x0]++Rj 108,[Ct y1,Tr w2]++Rz 135,[]⟩
def f30_2_S  (x0 x1 x2 y3 w4 y5 y6 y7:TV):ASt:=⟨[Jk,Pt 0,Jk,Sr 1,AV.tv x0,AV.tv x1,Pt 2,AV.tv x2]++Rj 105,[Ct y3,Tr w4,some (BC.cells [CA.t y5,CA.t y6,CA.t y7])]++Rz 134,[]⟩
def f30_1  (x0 x1 y2 w3:TV):Prg TV :=
 tv (plen (.slice 40) y2) fun v5 =>
 tv (pbin (.int .i64) .lss x1 v5) fun v6 =>
 Prg.ite (asBool v6) (
 tvs (pidx 3 y2 x1) fun e7 =>
 chk (Nat.ble 3 (List.length e7)) (
 jmp [0,0,1,1,0,0,1,0,0,1,0,0,1,0,0,1,0,1,1] (f30_2_S x0 x1 (I 0) y2 w3 (nth hole e7 0) (nth hole e7 1) (nth hole e7 2)))) (
 tv (pbin (.int .i64) .add x0 (I 1)) fun v8 =>
 jmp [0,0,1,0,1,1] (f30_0_S v8 y2 w3))
def f32_0_S  (x0 x1 x2 y3 y4 y5 y6:TV):ASt:=⟨Rj 5 ++ [Pt 0]++Rj 44 ++ [AV.tv x0,AV.tv x1,AV.tv x2]++Rj 8,[some (BC.cells [CA.t y3,CA.t y4,CA.t y5,CA.t y6])]++Rz 84,[]⟩
def f32_M (x0 x1:TV):Prg TV :=
 chk (TV.isAgg x0 1) (
 chk (TV.isAgg x1 3) (
 tv (pbin (.int .i64) .lss (cell x1 0) (I 0)) fun v0 =>
 Prg.ite (asBool v0) (
 ret (B false)) (
 tv (pbin (.int .i64) .gtr (cell x1 0) (I 8)) fun v1 =>
 Prg.ite (asBool v1) (
 ret (B false)) (
 tv (pbin (.int .i64) .lss (cell x1 1) (cell x1 0)) fun v2 =>
 Prg.ite (asBool v2) (
 ret (B false)) (
 tv (pbin (.int .i64) .gtr (cell x1 1) (I 256)) fun v3 =>
 Prg.ite (asBool v3) (
 ret (B false)) (
 tv (plen (.slice 48) (cell x1 2)) fun v4 =>
 tv (pbin (.int .i64) .lss v4 (I 1)) fun v5 =>
 Prg.ite (asBool v5) (
 ret (B false)) (
 tv (plen (.slice 48) (cell x1 2)) fun v6 =>
 tv (pbin (.int .i64) .gtr v6 (I 64)) fun v7 =>
 Prg.ite (asBool v7) (
 ret (B false)) (
 tvs (pidx 14 (cell x1 2) (I 0)) fun e8 =>
 chk (Nat.blt 0 (List.length e8)) (
 Prg.ite (asBool (nth hole e8 0)) (
 ret (B false)) (
 tv (plen (.slice 48) (cell x1 2)) fun v9 =>
 jmp [0,0,1,0,1,1,1,1] (f32_0_S (cell x1 2) v9 (I 0) (cell x0 0) (cell x1 0) (cell x1 1) (cell x1 2))))))))))))
def f32_0  (x0 x1 x2 y3 y4 y5 y6:TV):Prg TV :=
 tv (pbin (.int .i64) .lss x2 x1) fun v10 =>
 Prg.ite (asBool v10) (
 tvs (pidx 14 x0 x2) fun e11 =>
 chk (Nat.ble 14 (List.length e11)) (
 call 49 [agg [y3,y4,y5,y6],agg [nth hole e11 0,nth hole e11 1,nth hole e11 2,nth hole e11 3,nth hole e11 4,nth hole e11 5,nth hole e11 6,nth hole e11 7,nth hole e11 8,nth hole e11 9,nth hole e11 10,nth hole e11 11,nth hole e11 12,nth hole e11 13]] fun v12 =>
 chk (ab am [v12] 0) (
 tv (pun .not v12) fun v13 =>
 Prg.ite (asBool v13) (
 ret (B false)) (
 tv (pbin (.int .i64) .add x2 (I 1)) fun v14 =>
 jmp [0,0,1,0,1,1,1,1] (f32_0_S x0 x1 v14 y3 y4 y5 y6))))) (
 ret (B true))
theorem f32_MR (x0 x1:TV):ap prog 32 [x0,x1]=f32_M x0 x1:=by kernel_rfl
theorem f32_0_J  {x0 x1 x2 y3 y4 y5 y6:TV} {r:TV} (h:aa prog 32 (f32_0 x0 x1 x2 y3 y4 y5 y6) r):aa prog 32 (.jmp [0,0,1,0,1,1,1,1] (f32_0_S x0 x1 x2 y3 y4 y5 y6)) r:=aa.jmp (by kernel_rfl) h
def f35_0_S  (x0 x1 x2 y3:TV):ASt:=⟨[AV.tv x0,AV.clo 53 [CA.ptr 0 0]]++Rj 5 ++ [AV.tv x1,AV.tv x2]++Rj 10,[Ct y3]++Rz 60,Rj 18⟩
def f35_M (x0 x1:TV):Prg TV :=
 chk (TV.isAgg x0 14) (
 chk (TV.eS x1) (
 tv (plen (.slice 55) (cell x0 5)) fun v0 =>
 jmp [0,0,1,0,1,6,0,1,8,0,1] (f35_0_S (cell x0 5) v0 (I 0) x1)))
def f35_0  (x0 x1 x2 y3:TV):Prg TV :=
 tv (pbin (.int .i64) .lss x2 x1) fun v1 =>
 Prg.ite (asBool v1) (
 tvs (pidx 7 x0 x2) fun e2 =>
 chk (Nat.ble 7 (List.length e2)) (
 tv (pbin (.int .i64) .eql (nth hole e2 0) (I 11)) fun v3 =>
 Prg.ite (asBool v3) (
 tvs (pidx 1 y3 (nth hole e2 5)) fun e4 =>
 chk (Nat.blt 0 (List.length e4)) (
 Prg.ite (asBool (nth hole e4 0)) (
 tv (pbin (.int .i64) .geq x2 (I 0)) fun v5 =>
 ret v5) (
 tv (pbin (.int .i64) .add x2 (I 1)) fun v6 =>
 jmp [0,0,1,0,1,6,0,1,8,0,1] (f35_0_S x0 x1 v6 y3)))) (
 tv (pbin (.int .i64) .add x2 (I 1)) fun v7 =>
 jmp [0,0,1,0,1,6,0,1,8,0,1] (f35_0_S x0 x1 v7 y3)))) (
 tv (pbin (.int .i64) .geq (TV.lit (Value.int IntKind.i64 (-1))) (I 0)) fun v8 =>
 ret v8)
theorem f35_MR (x0 x1:TV):ap prog 35 [x0,x1]=f35_M x0 x1:=by kernel_rfl
theorem f35_0_J  {x0 x1 x2 y3:TV} {r:TV} (h:aa prog 35 (f35_0 x0 x1 x2 y3) r):aa prog 35 (.jmp [0,0,1,0,1,6,0,1,8,0,1] (f35_0_S x0 x1 x2 y3)) r:=aa.jmp (by kernel_rfl) h
def f36_M (x0 x1:TV):Prg TV :=
 chk (TV.isAgg x0 14) (
 tv (pbin (.int .i64) .eql (cell x0 6) (I 4)) fun v0 =>
 Prg.ite (asBool v0) (
 tvs (pidx 1 x1 (cell x0 9)) fun e1 =>
 chk (Nat.blt 0 (List.length e1)) (
 ret (nth hole e1 0))) (
 ret (B false)))
theorem f36_MR (x0 x1:TV):ap prog 36 [x0,x1]=f36_M x0 x1:=by kernel_rfl
def f37_0_S  (x0 x1 y2 y3 y4 y5 y6 y7 y8 y9 y10 y11 y12 y13 y14 y15 y16 y17 y18 y19 y20 w21 w22 w23 w24 w25 w26 w27 w28 w29 w30 w31 w32 w33 w34 w35 w36 w37 w38 w39 w40 w41:TV):ASt:=⟨[Jk,Jk,AV.tv x0,Pt 0,Jk,Jk,Pt 1,Pt 2,AV.tv x1]++Rj 17,[Ct y2,some (BC.cells [CA.junk,CA.junk,CA.junk,CA.junk,CA.junk,CA.junk,CA.junk,CA.junk,CA.junk,CA.junk,CA.junk,CA.junk,CA.junk,CA.junk,CA.junk,CA.junk,CA.junk,CA.junk,CA.junk,CA.junk,CA.junk]),some (BC.cells [CA.sref 3 0 [],CA.t y3,CA.t y4,CA.t y5,CA.t y6,CA.t y7,CA.t y8,CA.t y9,CA.t y10,CA.t y11,CA.t y12,CA.t y13,CA.t y14,CA.t y15,CA.t y16,CA.t y17,CA.t y18,CA.sref 3 17 [],CA.sref 3 18 [],CA.t y19,CA.t y20]),some (BC.tree [w21,w22,w23,w24,w25,w26,w27,w28,w29,w30,w31,w32,w33,w34,w35,w36,w37,w38,w39,w40,w41])]++Rz 46,[]⟩
def f37_M (x0 x1 x2:TV):Prg TV :=
 chk (TV.isAgg x0 1) (
 call 54 [agg [cell x0 0],x1] fun v0 =>
 chk (Bool.and (TV.isAgg v0 21) (ab z68 (cellsL true v0) 0)) (
 jmp [0,0,1,0,1,1] (f37_0_S x2 (I 0) (cell x0 0) (cell v0 1) (cell v0 2) (cell v0 3) (cell v0 4) (cell v0 5) (cell v0 6) (cell v0 7) (cell v0 8) (cell v0 9) (cell v0 10) (cell v0 11) (cell v0 12) (cell v0 13) (cell v0 14) (cell v0 15) (cell v0 16) (cell v0 19) (cell v0 20) (cell v0 0) hole hole hole hole hole hole hole hole hole hole hole hole hole hole hole hole (cell v0 17) (cell v0 18) hole hole)))
def f37_0  (x0 x1 y2 y3 y4 y5 y6 y7 y8 y9 y10 y11 y12 y13 y14 y15 y16 y17 y18 y19 y20 w21 w22 w23 w24 w25 w26 w27 w28 w29 w30 w31 w32 w33 w34 w35 w36 w37 w38 w39 w40 w41:TV):Prg TV :=
 tv (pbin (.int .i64) .lss x1 x0) fun v1 =>
 Prg.ite (asBool v1) (
 tv (pbin (.int .i64) .eql y19 (I 0)) fun v2 =>
 Prg.ite (asBool v2) (
 call 55 [agg [y2],agg [frz w21,y3,y4,y5,y6,y7,y8,y9,y10,y11,y12,y13,y14,y15,y16,y17,y18,frz w38,frz w39,y19,y20]] fun v3 =>
 chk (Bool.and (TV.isAgg v3 21) (ab z68 (cellsL true v3) 0)) (
 tv (pbin (.int .i64) .add x1 (I 1)) fun v4 =>
 jmp [0,0,1,0,1,1] (f37_0_S x0 v4 y2 (cell v3 1) (cell v3 2) (cell v3 3) (cell v3 4) (cell v3 5) (cell v3 6) (cell v3 7) (cell v3 8) (cell v3 9) (cell v3 10) (cell v3 11) (cell v3 12) (cell v3 13) (cell v3 14) (cell v3 15) (cell v3 16) (cell v3 19) (cell v3 20) (cell v3 0) hole hole hole hole hole hole hole hole hole hole hole hole hole hole hole hole (cell v3 17) (cell v3 18) hole hole))) (
 ret (agg [w21,y3,y4,y5,y6,y7,y8,y9,y10,y11,y12,y13,y14,y15,y16,y17,y18,w38,w39,y19,y20]))) (
 ret (agg [w21,y3,y4,y5,y6,y7,y8,y9,y10,y11,y12,y13,y14,y15,y16,y17,y18,w38,w39,y19,y20]))
theorem f37_MR (x0 x1 x2:TV):ap prog 37 [x0,x1,x2]=f37_M x0 x1 x2:=by kernel_rfl
theorem f37_0_J  {x0 x1 y2 y3 y4 y5 y6 y7 y8 y9 y10 y11 y12 y13 y14 y15 y16 y17 y18 y19 y20 w21 w22 w23 w24 w25 w26 w27 w28 w29 w30 w31 w32 w33 w34 w35 w36 w37 w38 w39 w40 w41:TV} {r:TV} (h:aa prog 37 (f37_0 x0 x1 y2 y3 y4 y5 y6 y7 y8 y9 y10 y11 y12 y13 y14 y15 y16 y17 y18 y19 y20 w21 w22 w23 w24 w25 w26 w27 w28 w29 w30 w31 w32 w33 w34 w35 w36 w37 w38 w39 w40 w41) r):aa prog 37 (.jmp [0,0,1,0,1,1] (f37_0_S x0 x1 y2 y3 y4 y5 y6 y7 y8 y9 y10 y11 y12 y13 y14 y15 y16 y17 y18 y19 y20 w21 w22 w23 w24 w25 w26 w27 w28 w29 w30 w31 w32 w33 w34 w35 w36 w37 w38 w39 w40 w41)) r:=aa.jmp (by kernel_rfl) h
def f38_M (x0 x1:TV):Prg TV :=
 chk (TV.isAgg x0 21) (
 chk (TV.isAgg x1 21) (
 call 40 [cell x0 18,cell x1 18] fun v0 =>
 chk (ab am [v0] 0) (
 Prg.ite (asBool v0) (
 tv (pbin (.int .i64) .eql (cell x0 19) (cell x1 19)) fun v1 =>
 Prg.ite (asBool v1) (
 tv (pbin (.int .u16) .eql (cell x0 20) (cell x1 20)) fun v2 =>
 ret v2) (
 ret (B false))) (
 ret (B false)))))
theorem f38_MR (x0 x1:TV):ap prog 38 [x0,x1]=f38_M x0 x1:=by kernel_rfl
def f39_M (x0 x1:TV):Prg TV :=
 tv (plen (.slice 3) x0) fun v0 =>
 tv (plen (.slice 3) x1) fun v1 =>
 tv (pbin (.int .i64) .leq v0 v1) fun v2 =>
 Prg.ite (asBool v2) (
 tv (plen (.slice 3) x0) fun v3 =>
 nat (aJ v3) fun n4 =>
 tv (pslice (.slice 3) 1 x1 none (some n4)) fun v5 =>
 call 40 [x0,v5] fun v6 =>
 chk (ab am [v6] 0) (
 ret v6)) (
 ret (B false))
theorem f39_MR (x0 x1:TV):ap prog 39 [x0,x1]=f39_M x0 x1:=by kernel_rfl
def f40_0_S  (x0 x1 x2:TV):ASt:=⟨[AV.tv x0,AV.tv x1,Jk,Jk,Jk,AV.tv x2]++Rj 20,Rz 50,[]⟩
def f40_M (x0 x1:TV):Prg TV :=
 tv (plen (.slice 3) x0) fun v0 =>
 tv (plen (.slice 3) x1) fun v1 =>
 tv (pbin (.int .i64) .neq v0 v1) fun v2 =>
 Prg.ite (asBool v2) (
 ret (B false)) (
 jmp [0,0,1,0,1,1] (f40_0_S x0 x1 (I 0)))
def f40_0  (x0 x1 x2:TV):Prg TV :=
 tv (plen (.slice 3) x0) fun v3 =>
 tv (pbin (.int .i64) .lss x2 v3) fun v4 =>
 Prg.ite (asBool v4) (
 tvs (pidx 1 x0 x2) fun e5 =>
 chk (Nat.blt 0 (List.length e5)) (
 tvs (pidx 1 x1 x2) fun e6 =>
 chk (Nat.blt 0 (List.length e6)) (
 tv (pbin (.int .i64) .neq (nth hole e5 0) (nth hole e6 0)) fun v7 =>
 Prg.ite (asBool v7) (
 ret (B false)) (
 tv (pbin (.int .i64) .add x2 (I 1)) fun v8 =>
 jmp [0,0,1,0,1,1] (f40_0_S x0 x1 v8))))) (
 ret (B true))
theorem f40_MR (x0 x1:TV):ap prog 40 [x0,x1]=f40_M x0 x1:=by kernel_rfl
theorem f40_0_J  {x0 x1 x2:TV} {r:TV} (h:aa prog 40 (f40_0 x0 x1 x2) r):aa prog 40 (.jmp [0,0,1,0,1,1] (f40_0_S x0 x1 x2)) r:=aa.jmp (by kernel_rfl) h
def f41_M (x0:TV):Prg TV :=
 tv (pbin (.slice 53) .eql x0 (TV.lit bc)) fun v0 =>
 Prg.ite (asBool v0) (
 chk true (
 ret (TV.lit bc))) (
 tv (plen (.slice 53) x0) fun v1 =>
 nat (aJ v1) fun n2 =>
 nat (aJ v1) fun n3 =>
 chk (Bool.and (Nat.ble n2 n3) (Nat.ble n3 4294967296)) (
 rws (pelems 1 x0) fun r4 =>
 tv (pcopy 1 (TV.sl true 1 (List.replicate n2 [W 0])) r4) fun v5 =>
 nat (slLen (TV.sl true 1 (List.replicate n2 [W 0]))) fun n6 =>
 chk (isOwn v5) (
 ret v5)))
theorem f41_MR (x0:TV):ap prog 41 [x0]=f41_M x0:=by kernel_rfl
def f42_M (x0:TV):Prg TV :=
 tv (pbin (.slice 55) .eql x0 (TV.lit bc)) fun v0 =>
 Prg.ite (asBool v0) (
 ret (TV.lit bc)) (
 tv (plen (.slice 55) x0) fun v1 =>
 nat (aJ v1) fun n2 =>
 nat (aJ v1) fun n3 =>
 chk (Bool.and (Nat.ble n2 n3) (Nat.ble n3 4294967296)) (
 rws (pelems 7 x0) fun r4 =>
 tv (pcopy 7 (TV.sl true 7 (List.replicate n2 [I 0,I 0,I 0,I 0,W 0,I 0,TV.lit bc])) r4) fun v5 =>
 nat (slLen (TV.sl true 7 (List.replicate n2 [I 0,I 0,I 0,I 0,W 0,I 0,TV.lit bc]))) fun n6 =>
 ret v5))
theorem f42_MR (x0:TV):ap prog 42 [x0]=f42_M x0:=by kernel_rfl
def f43_M (x0:TV):Prg TV :=
 tv (pbin (.slice 3) .eql x0 (TV.lit bc)) fun v0 =>
 Prg.ite (asBool v0) (
 chk true (
 ret (TV.lit bc))) (
 tv (plen (.slice 3) x0) fun v1 =>
 nat (aJ v1) fun n2 =>
 nat (aJ v1) fun n3 =>
 chk (Bool.and (Nat.ble n2 n3) (Nat.ble n3 4294967296)) (
 rws (pelems 1 x0) fun r4 =>
 tv (pcopy 1 (TV.sl true 1 (List.replicate n2 [I 0])) r4) fun v5 =>
 nat (slLen (TV.sl true 1 (List.replicate n2 [I 0]))) fun n6 =>
 chk (isOwn v5) (
 ret v5)))
theorem f43_MR (x0:TV):ap prog 43 [x0]=f43_M x0:=by kernel_rfl
def f44_0_S  (x0 y1 y2 y3 y4 y5 y6 y7 y8:TV):ASt:=⟨[Jk,Jk,Pt 0,Pt 1,Jk,AV.tv x0]++Rj 46,[some (BC.cells [CA.t y1,CA.t y2,CA.t y3,CA.t y4]),some (BC.cells [CA.t y5,CA.t y6,CA.t y7,CA.t y8])]++Rz 74,[]⟩
def f44_M (x0 x1:TV):Prg TV :=
 chk (TV.isAgg x0 4) (
 chk (TV.isAgg x1 4) (
 tv (pbin (.int .i64) .neq (cell x0 0) (cell x1 0)) fun v0 =>
 Prg.ite (asBool v0) (
 ret (B false)) (
 tv (pbin Kd.bool .neq (cell x0 2) (cell x1 2)) fun v1 =>
 Prg.ite (asBool v1) (
 ret (B false)) (
 tv (pbin Kd.bool .neq (cell x0 3) (cell x1 3)) fun v2 =>
 Prg.ite (asBool v2) (
 ret (B false)) (
 tv (plen (.slice 53) (cell x0 1)) fun v3 =>
 tv (plen (.slice 53) (cell x1 1)) fun v4 =>
 tv (pbin (.int .i64) .neq v3 v4) fun v5 =>
 Prg.ite (asBool v5) (
 ret (B false)) (
 jmp [0,0,1,0,1,1] (f44_0_S (I 0) (cell x0 0) (cell x0 1) (cell x0 2) (cell x0 3) (cell x1 0) (cell x1 1) (cell x1 2) (cell x1 3))))))))
def f44_0  (x0 y1 y2 y3 y4 y5 y6 y7 y8:TV):Prg TV :=
 tv (plen (.slice 53) y2) fun v6 =>
 tv (pbin (.int .i64) .lss x0 v6) fun v7 =>
 Prg.ite (asBool v7) (
 tvs (pidx 1 y2 x0) fun e8 =>
 chk (Nat.blt 0 (List.length e8)) (
 tvs (pidx 1 y6 x0) fun e9 =>
 chk (Nat.blt 0 (List.length e9)) (
 tv (pbin (.int .u16) .neq (nth hole e8 0) (nth hole e9 0)) fun v10 =>
 Prg.ite (asBool v10) (
 ret (B false)) (
 tv (pbin (.int .i64) .add x0 (I 1)) fun v11 =>
 jmp [0,0,1,0,1,1] (f44_0_S v11 y1 y2 y3 y4 y5 y6 y7 y8))))) (
 ret (B true))
theorem f44_MR (x0 x1:TV):ap prog 44 [x0,x1]=f44_M x0 x1:=by kernel_rfl
theorem f44_0_J  {x0 y1 y2 y3 y4 y5 y6 y7 y8:TV} {r:TV} (h:aa prog 44 (f44_0 x0 y1 y2 y3 y4 y5 y6 y7 y8) r):aa prog 44 (.jmp [0,0,1,0,1,1] (f44_0_S x0 y1 y2 y3 y4 y5 y6 y7 y8)) r:=aa.jmp (by kernel_rfl) h
def f45_0_S  (x0 y1 y2 y3 y4 y5 y6 y7:TV):ASt:=⟨[Jk,Jk,Pt 0,Jk,Jk,Pt 1,AV.tv x0]++Rj 69,[some (BC.cells [CA.t y1,CA.t y2,CA.t y3]),some (BC.cells [CA.t y4,CA.t y5,CA.t y6,CA.t y7])]++Rz 98,[]⟩
def f45_1_S  (x0 x1 y2 y3 y4 y5 y6 y7 y8:TV):ASt:=⟨[Jk,Jk,Pt 0,Jk,Jk,Pt 1,AV.tv x0,AV.tv x1]++Rj 68,[some (BC.cells [CA.t y2,CA.t y3,CA.t y4]),some (BC.cells [CA.t y5,CA.t y6,CA.t y7,CA.t y8])]++Rz 98,[]⟩
def f45_2_S  (y0 y1 y2 y3 y4 y5 y6:TV):ASt:=⟨[Jk,Jk,Pt 0,Jk,Jk,Pt 1]++Rj 70,[some (BC.cells [CA.t y0,CA.t y1,CA.t y2]),some (BC.cells [CA.t y3,CA.t y4,CA.t y5,CA.t y6])]++Rz 98,[]⟩
def f45_M (x0 x1:TV):Prg TV :=
 chk (TV.isAgg x0 3) (
 chk (TV.isAgg x1 14) (
 tv (pun .not (cell x1 0)) fun v0 =>
 Prg.ite (asBool v0) (
 tv (pbin (.int .i64) .eql (cell x1 1) (I 0)) fun v1 =>
 Prg.ite (asBool v1) (
 tv (plen (.slice 53) (cell x1 2)) fun v2 =>
 tv (pbin (.int .i64) .eql v2 (I 0)) fun v3 =>
 Prg.ite (asBool v3) (
 tv (pun .not (cell x1 3)) fun v4 =>
 Prg.ite (asBool v4) (
 tv (pun .not (cell x1 4)) fun v5 =>
 ret v5) (
 ret (B false))) (
 ret (B false))) (
 ret (B false))) (
 jmp [0,0,1,0,1,1,1] (f45_0_S (I 0) (cell x0 0) (cell x0 1) (cell x0 2) (cell x1 1) (cell x1 2) (cell x1 3) (cell x1 4)))))
def f45_0  (x0 y1 y2 y3 y4 y5 y6 y7:TV):Prg TV :=
 tv (plen (.slice 53) y5) fun v6 =>
 tv (pbin (.int .i64) .lss x0 v6) fun v7 =>
 Prg.ite (asBool v7) (
 tv (pbin (.int .i64) .geq x0 (I 8)) fun v8 =>
 Prg.ite (asBool v8) (
 ret (B false)) (
 jmp [0,0,1,1,0,0,1,0,0,1,0,1,1,1] (f45_1_S x0 (I 0) y1 y2 y3 y4 y5 y6 y7))) (
 jmp [1,1,1,1] (f45_2_S y1 y2 y3 y4 y5 y6 y7))
def f45_1  (x0 x1 y2 y3 y4 y5 y6 y7 y8:TV):Prg TV :=
 tv (pbin (.int .i64) .lss x1 x0) fun v9 =>
 Prg.ite (asBool v9) (
 tvs (pidx 1 y6 x1) fun e10 =>
 chk (Nat.blt 0 (List.length e10)) (
 tvs (pidx 1 y6 x0) fun e11 =>
 chk (Nat.blt 0 (List.length e11)) (
 tv (pbin (.int .u16) .eql (nth hole e10 0) (nth hole e11 0)) fun v12 =>
 Prg.ite (asBool v12) (
 ret (B false)) (
 tv (pbin (.int .i64) .add x1 (I 1)) fun v13 =>
 jmp [0,0,1,1,0,0,1,0,0,1,0,1,1,1] (f45_1_S x0 v13 y2 y3 y4 y5 y6 y7 y8))))) (
 tv (pbin (.int .i64) .add x0 (I 1)) fun v14 =>
 jmp [0,0,1,0,1,1,1] (f45_0_S v14 y2 y3 y4 y5 y6 y7 y8))
def f45_2  (y0 y1 y2 y3 y4 y5 y6:TV):Prg TV :=
 call 56 [y3,y1] fun v15 =>
 chk (ab am [v15] 0) (
 Prg.ite (asBool v15) (
 tv (plen (.slice 53) y4) fun v16 =>
 tv (pbin (.int .i64) .gtr v16 (I 0)) fun v17 =>
 Prg.ite (asBool v17) (
 ret (B true)) (
 Prg.ite (asBool y5) (
 ret (B true)) (
 ret y6))) (
 ret (B false)))
theorem f45_MR (x0 x1:TV):ap prog 45 [x0,x1]=f45_M x0 x1:=by kernel_rfl
theorem f45_0_J  {x0 y1 y2 y3 y4 y5 y6 y7:TV} {r:TV} (h:aa prog 45 (f45_0 x0 y1 y2 y3 y4 y5 y6 y7) r):aa prog 45 (.jmp [0,0,1,0,1,1,1] (f45_0_S x0 y1 y2 y3 y4 y5 y6 y7)) r:=aa.jmp (by kernel_rfl) h
theorem f45_1_J  {x0 x1 y2 y3 y4 y5 y6 y7 y8:TV} {r:TV} (h:aa prog 45 (f45_1 x0 x1 y2 y3 y4 y5 y6 y7 y8) r):aa prog 45 (.jmp [0,0,1,1,0,0,1,0,0,1,0,1,1,1] (f45_1_S x0 x1 y2 y3 y4 y5 y6 y7 y8)) r:=aa.jmp (by kernel_rfl) h
theorem f45_2_J  {y0 y1 y2 y3 y4 y5 y6:TV} {r:TV} (h:aa prog 45 (f45_2 y0 y1 y2 y3 y4 y5 y6) r):aa prog 45 (.jmp [1,1,1,1] (f45_2_S y0 y1 y2 y3 y4 y5 y6)) r:=aa.jmp (by kernel_rfl) h
def f46_0_S  (x0 x1 x2 x3 y4 y5 y6 y7 y8 y9 y10 y11 y12 y13 y14 y15:TV):ASt:=⟨[Jk,Jk,Jk,Pt 0,Pt 1,Pt 2,Jk,AV.tv x0,AV.tv x1,AV.tv x2]++Rj 30 ++ [AV.tv x3]++Rj 117,[Ct y4,some (BC.cells [CA.t y5,CA.t y6,CA.t y7]),some (BC.cells [CA.t y8,CA.t y9,CA.t y10,CA.t y11,CA.t y12,CA.t y13,CA.t y14,CA.t y15])]++Rz 179,[]⟩
def f46_1_S  (x0 x1 x2 x3 x4 y5 y6 y7 y8 y9 y10 y11 y12 y13 y14 y15 y16:TV):ASt:=⟨[Jk,Jk,Jk,Pt 0,Pt 1,Pt 2,Jk,AV.tv x0,AV.tv x1,AV.tv x2]++Rj 30 ++ [AV.tv x3,AV.tv x4]++Rj 116,[Ct y5,some (BC.cells [CA.t y6,CA.t y7,CA.t y8]),some (BC.cells [CA.t y9,CA.t y10,CA.t y11,CA.t y12,CA.t y13,CA.t y14,CA.t y15,CA.t y16])]++Rz 179,[]⟩
def f46_M (x0 x1 x2:TV):Prg TV :=
 chk (TV.isAgg x0 1) (
 chk (TV.isAgg x1 3) (
 chk (TV.isAgg x2 8) (
 call 56 [cell x2 1,cell x1 1] fun v0 =>
 chk (ab am [v0] 0) (
 call 56 [cell x2 2,cell x1 1] fun v1 =>
 chk (ab am [v1] 0) (
 tv (pbin (.int .i64) .eql (cell x2 2) (I 0)) fun v2 =>
 Prg.ite (asBool v2) (
 tv (pbin (.int .i64) .eql (cell x2 3) (I 0)) fun v3 =>
 Prg.ite (asBool v3) (
 tv (plen (.slice 3) (cell x2 4)) fun v4 =>
 tv (pbin (.int .i64) .eql v4 (I 0)) fun v5 =>
 Prg.ite (asBool v5) (
 tv (pbin (.int .i64) .eql (cell x2 7) (I 0)) fun v6 =>
 jmp [1,0,1,1,1] (f46_0_S v0 v1 v6 (cell x2 0) (cell x0 0) (cell x1 0) (cell x1 1) (cell x1 2) (cell x2 0) (cell x2 1) (cell x2 2) (cell x2 3) (cell x2 4) (cell x2 5) (cell x2 6) (cell x2 7))) (
 jmp [1,0,1,1,1] (f46_0_S v0 v1 (B false) (cell x2 0) (cell x0 0) (cell x1 0) (cell x1 1) (cell x1 2) (cell x2 0) (cell x2 1) (cell x2 2) (cell x2 3) (cell x2 4) (cell x2 5) (cell x2 6) (cell x2 7)))) (
 jmp [1,0,1,1,1] (f46_0_S v0 v1 (B false) (cell x2 0) (cell x0 0) (cell x1 0) (cell x1 1) (cell x1 2) (cell x2 0) (cell x2 1) (cell x2 2) (cell x2 3) (cell x2 4) (cell x2 5) (cell x2 6) (cell x2 7)))) (
 jmp [1,0,1,1,1] (f46_0_S v0 v1 (B false) (cell x2 0) (cell x0 0) (cell x1 0) (cell x1 1) (cell x1 2) (cell x2 0) (cell x2 1) (cell x2 2) (cell x2 3) (cell x2 4) (cell x2 5) (cell x2 6) (cell x2 7))))))))
def f46_0  (x0 x1 x2 x3 y4 y5 y6 y7 y8 y9 y10 y11 y12 y13 y14 y15:TV):Prg TV :=
 tv (pbin (.int .i64) .eql x3 (I 1)) fun v7 =>
 Prg.ite (asBool v7) (
 jmp [1,0,1,0,1,1,1] (f46_1_S x0 x1 x2 x3 v7 y4 y5 y6 y7 y8 y9 y10 y11 y12 y13 y14 y15)) (
 tv (pbin (.int .i64) .eql x3 (I 5)) fun v8 =>
 jmp [1,0,1,0,1,1,1] (f46_1_S x0 x1 x2 x3 v8 y4 y5 y6 y7 y8 y9 y10 y11 y12 y13 y14 y15))
def f46_1  (x0 x1 x2 x3 x4 y5 y6 y7 y8 y9 y10 y11 y12 y13 y14 y15 y16:TV):Prg TV :=
 Prg.ite (asBool x4) (
 Prg.ite (asBool x0) (
 Prg.ite (asBool x2) (
 tv (pbin (.int .i64) .eql y14 (I 0)) fun v9 =>
 Prg.ite (asBool v9) (
 tv (pbin (.int .i64) .eql y15 (I 0)) fun v10 =>
 ret v10) (
 ret (B false))) (
 ret (B false))) (
 ret (B false))) (
 tv (pbin (.int .i64) .eql x3 (I 2)) fun v11 =>
 Prg.ite (asBool v11) (
 tv (pbin (.int .i64) .eql y10 (I 0)) fun v12 =>
 Prg.ite (asBool v12) (
 Prg.ite (asBool x2) (
 call 57 [agg [y6,y7,y8],y14] fun v13 =>
 chk (ab am [v13] 0) (
 Prg.ite (asBool v13) (
 tv (pbin (.int .i64) .eql y15 (I 0)) fun v14 =>
 ret v14) (
 ret (B false)))) (
 ret (B false))) (
 ret (B false))) (
 tv (pbin (.int .i64) .eql x3 (I 3)) fun v15 =>
 Prg.ite (asBool v15) (
 Prg.ite (asBool x0) (
 Prg.ite (asBool x2) (
 call 57 [agg [y6,y7,y8],y14] fun v16 =>
 chk (ab am [v16] 0) (
 Prg.ite (asBool v16) (
 call 57 [agg [y6,y7,y8],y15] fun v17 =>
 chk (ab am [v17] 0) (
 ret v17)) (
 ret (B false)))) (
 ret (B false))) (
 ret (B false))) (
 tv (pbin (.int .i64) .eql x3 (I 4)) fun v18 =>
 Prg.ite (asBool v18) (
 tv (pbin (.int .i64) .eql y10 (I 0)) fun v19 =>
 Prg.ite (asBool v19) (
 Prg.ite (asBool x1) (
 call 58 [agg [y5],agg [y6,y7,y8],y12,y13] fun v20 =>
 chk (ab am [v20] 0) (
 Prg.ite (asBool v20) (
 call 57 [agg [y6,y7,y8],y14] fun v21 =>
 chk (ab am [v21] 0) (
 Prg.ite (asBool v21) (
 tv (pbin (.int .i64) .eql y15 (I 0)) fun v22 =>
 Prg.ite (asBool v22) (
 tv (plen (.slice 48) y8) fun v23 =>
 call 56 [y16,v23] fun v24 =>
 chk (ab am [v24] 0) (
 Prg.ite (asBool v24) (
 tvs (pidx 14 y8 y16) fun e25 =>
 chk (Nat.blt 0 (List.length e25)) (
 ret (nth hole e25 0))) (
 ret (B false)))) (
 ret (B false))) (
 ret (B false)))) (
 ret (B false)))) (
 ret (B false))) (
 ret (B false))) (
 tv (pbin (.int .i64) .eql x3 (I 6)) fun v26 =>
 Prg.ite (asBool v26) (
 tv (pbin (.int .i64) .eql y10 (I 0)) fun v27 =>
 Prg.ite (asBool v27) (
 Prg.ite (asBool x2) (
 tv (pbin (.int .i64) .eql y14 (I 0)) fun v28 =>
 Prg.ite (asBool v28) (
 tv (pbin (.int .i64) .eql y15 (I 0)) fun v29 =>
 ret v29) (
 ret (B false))) (
 ret (B false))) (
 ret (B false))) (
 ret (B false))))))
theorem f46_MR (x0 x1 x2:TV):ap prog 46 [x0,x1,x2]=f46_M x0 x1 x2:=by kernel_rfl
theorem f46_0_J  {x0 x1 x2 x3 y4 y5 y6 y7 y8 y9 y10 y11 y12 y13 y14 y15:TV} {r:TV} (h:aa prog 46 (f46_0 x0 x1 x2 x3 y4 y5 y6 y7 y8 y9 y10 y11 y12 y13 y14 y15) r):aa prog 46 (.jmp [1,0,1,1,1] (f46_0_S x0 x1 x2 x3 y4 y5 y6 y7 y8 y9 y10 y11 y12 y13 y14 y15)) r:=aa.jmp (by kernel_rfl) h
theorem f46_1_J  {x0 x1 x2 x3 x4 y5 y6 y7 y8 y9 y10 y11 y12 y13 y14 y15 y16:TV} {r:TV} (h:aa prog 46 (f46_1 x0 x1 x2 x3 x4 y5 y6 y7 y8 y9 y10 y11 y12 y13 y14 y15 y16) r):aa prog 46 (.jmp [1,0,1,0,1,1,1] (f46_1_S x0 x1 x2 x3 x4 y5 y6 y7 y8 y9 y10 y11 y12 y13 y14 y15 y16)) r:=aa.jmp (by kernel_rfl) h
end Go.Ab.C14

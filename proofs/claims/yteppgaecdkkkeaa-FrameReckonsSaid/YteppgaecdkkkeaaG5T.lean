import Derived.Test.YteppgaecdkkkeaaB0
import Derived.Test.YteppgaecdkkkeaaProg
set_option linter.unusedVariables false
namespace Go.Ab.G5
open Go.Ab Go.Proofs
def lookA : List (Nat × Ann) → Nat → Option Ann
  | [], _ => none
  | (k, d) :: r, t => bif k.beq t then some d else lookA r t
def z2 : List Value := [.int .i64 0]
def z3 : List Value := [.int .i64 0]
def z4 : List Value := [.bool false]
def z5 : List Value := [.int .u8 0]
def z6 : List Value := [.int .u8 0]
def z7 : List Value := [.int .i64 0, .int .i64 0, .bool false, .int .u8 0]
def z8 : List Value := [.int .i64 0, .int .i64 0, .bool false, .int .u8 0]
def z9 : List Value := [.string ⟨#[]⟩]
def z10 : List Value := [.string ⟨#[]⟩]
def z11 : List Value := [.string ⟨#[]⟩]
def z12 : List Value := [.int .u64 0]
def z13 : List Value := [.string ⟨#[]⟩, .int .u64 0]
def z14 : List Value := [.string ⟨#[]⟩, .int .u64 0]
def z15 : List Value := [.pointer none]
def z16 : List Value := [.pointer none]
def z17 : List Value := [.pointer none]
def z18 : List Value := [.pointer none]
def z19 : List Value := [.pointer none]
def z20 : List Value := [.nilIface]
def z21 : List Value := [.int .i32 0]
def z22 : List Value := [.slice none 0 0]
def z23 : List Value := [.slice none 0 0]
def z24 : List Value := [.slice none 0 0]
def z25 : List Value := [.slice none 0 0]
def z26 : List Value := [.int .u16 0]
def z27 : List Value := [.int .i64 0, .int .i64 0, .int .i64 0, .slice none 0 0, .int .u16 0]
def z28 : List Value := [.int .i64 0, .int .i64 0, .int .i64 0, .slice none 0 0, .int .u16 0]
def z29 : List Value := [.nilFunc]
def z30 : List Value := [.nilFunc]
def z31 : List Value := [.int .i64 0]
def z33 : List Value := [.nilFunc]
def z34 : List Value := [.nilFunc]
def z35 : List Value := [.nilFunc]
def z36 : List Value := [.nilFunc]
def z38 : List Value := [.nilFunc]
def z39 : List Value := [.nilFunc]
def z40 : List Value := [.nilFunc]
def z41 : List Value := [.slice none 0 0]
def z42 : List Value := [.int .i64 0, .int .i64 0, .int .i64 0, .int .i64 0, .int .u16 0, .int .i64 0, .slice none 0 0]
def z43 : List Value := [.int .i64 0, .int .i64 0, .int .i64 0, .int .i64 0, .int .u16 0, .int .i64 0, .slice none 0 0]
def z44 : List Value := [.int .i64 0, .slice none 0 0, .bool false, .bool false]
def z45 : List Value := [.int .i64 0, .slice none 0 0, .bool false, .bool false]
def z47 : List Value := [.nilFunc]
def z48 : List Value := [.nilFunc]
def z49 : List Value := [.nilFunc]
def z50 : List Value := [.nilFunc]
def z51 : List Value := [.nilFunc]
def z52 : List Value := [.slice none 0 0]
def z53 : List Value := [.int .i64 0, .int .i64 0, .slice none 0 0]
def z54 : List Value := [.int .i64 0, .int .i64 0, .slice none 0 0]
def z55 : List Value := [.slice none 0 0]
def z56 : List Value := [.int .i64 0, .int .i64 0, .int .i64 0, .int .i64 0, .slice none 0 0, .int .i64 0, .int .i64 0, .int .i64 0]
def z57 : List Value := [.int .i64 0, .int .i64 0, .int .i64 0, .int .i64 0, .slice none 0 0, .int .i64 0, .int .i64 0, .int .i64 0]
def z58 : List Value := [.bool false, .int .i64 0, .slice none 0 0, .bool false, .bool false, .slice none 0 0, .int .i64 0, .int .i64 0, .int .i64 0, .int .i64 0, .slice none 0 0, .int .i64 0, .int .i64 0, .int .i64 0]
def z59 : List Value := [.bool false, .int .i64 0, .slice none 0 0, .bool false, .bool false, .slice none 0 0, .int .i64 0, .int .i64 0, .int .i64 0, .int .i64 0, .slice none 0 0, .int .i64 0, .int .i64 0, .int .i64 0]
def z60 : List Value := [.nilFunc]
def z61 : List Value := [.nilFunc]
def z62 : List Value := [.nilFunc]
def z63 : List Value := [.nilFunc]
def z64 : List Value := [.nilFunc]
def z65 : List Value := [.nilFunc]
def z67 : List Value := [.nilFunc]
def z68 : List Value := [.nilFunc]
def z69 : List Value := [.nilFunc]
def z70 : List Value := [.nilFunc]
def z71 : List Value := [.nilFunc]
def z72 : List Value := [.nilFunc]
def z73 : List Value := [.nilFunc]
def z74 : List Value := [.nilFunc]
def z75 : List Value := [.int .u64 0]
def z76 : List Value := [.nilFunc]
def z77 : List Value := [.slice none 0 0, .int .i64 0, .int .i64 0, .slice none 0 0]
def z78 : List Value := [.slice none 0 0, .int .i64 0, .int .i64 0, .slice none 0 0]
def z79 : List Value := [.nilFunc]
def z80 : List Value := [.nilFunc]
def z81 : List Value := [.nilFunc]
def z82 : List Value := [.nilFunc]
def z83 : List Value := [.nilFunc]
def z84 : List Value := [.nilFunc]
def z85 : List Value := [.nilFunc]
def z86 : List Value := [.nilFunc]
def z87 : List Value := [.nilFunc]
def z88 : List Value := [.nilFunc]
def z89 : List Value := [.int .i64 0]
def z90 : List Value := [.nilFunc]
def z91 : List Value := [.nilFunc]
def z92 : List Value := [.nilFunc]
def z93 : List Value := [.nilFunc]
def z94 : List Value := [.nilFunc]
def z95 : List Value := [.pointer none, .pointer none, .pointer none, .string ⟨#[]⟩]
def z96 : List Value := [.pointer none, .pointer none, .pointer none, .string ⟨#[]⟩]
def z97 : List Value := []
def z98 : List Value := []
def z99 : List Value := []
def z100 : List Value := [.nilFunc]
def z101 : List Value := [.int .u32 0]
def z102 : List Value := [.int .u8 0]
def z103 : List Value := [.int .u8 0]
def z104 : List Value := [.nilFunc]
def z105 : List Value := [.pointer none]
def z106 : List Value := [.int .i32 0]
def z107 : List Value := [.int .i32 0]
def z108 : List Value := [.int .u64 0, .int .u64 0, .int .u32 0, .int .u8 0, .int .u8 0, .int .u8 0, .int .u8 0, .nilFunc, .pointer none, .int .i32 0, .int .i32 0]
def z109 : List Value := [.int .u64 0, .int .u64 0, .int .u32 0, .int .u8 0, .int .u8 0, .int .u8 0, .int .u8 0, .nilFunc, .pointer none, .int .i32 0, .int .i32 0]
def tab : Tab := lookT [
  (2, ⟨1, 8, .int .i64, z2, []⟩),
  (3, ⟨1, 8, .int .i64, z3, []⟩),
  (4, ⟨1, 1, .bool, z4, []⟩),
  (5, ⟨1, 1, .int .u8, z5, []⟩),
  (6, ⟨1, 1, .int .u8, z6, []⟩),
  (7, ⟨4, 24, .struct, z7, [(0, 2), (1, 3), (2, 4), (3, 6)]⟩),
  (8, ⟨4, 24, .struct, z8, [(0, 2), (1, 3), (2, 4), (3, 6)]⟩),
  (9, ⟨1, 16, .str, z9, []⟩),
  (10, ⟨1, 16, .str, z10, []⟩),
  (11, ⟨1, 16, .str, z11, []⟩),
  (12, ⟨1, 8, .int .u64, z12, []⟩),
  (13, ⟨2, 24, .struct, z13, [(0, 9), (1, 12)]⟩),
  (14, ⟨2, 24, .struct, z14, [(0, 9), (1, 12)]⟩),
  (15, ⟨1, 8, .other, z15, []⟩),
  (16, ⟨1, 8, .other, z16, []⟩),
  (17, ⟨1, 8, .other, z17, []⟩),
  (18, ⟨1, 8, .struct, z18, [(0, 17)]⟩),
  (19, ⟨1, 8, .struct, z19, [(0, 17)]⟩),
  (20, ⟨1, 16, .other, z20, []⟩),
  (21, ⟨1, 4, .int .i32, z21, []⟩),
  (22, ⟨1, 24, .slice 54, z22, []⟩),
  (23, ⟨1, 24, .struct, z23, [(0, 22)]⟩),
  (24, ⟨1, 24, .struct, z24, [(0, 22)]⟩),
  (25, ⟨1, 24, .slice 26, z25, []⟩),
  (26, ⟨1, 2, .int .u16, z26, []⟩),
  (27, ⟨5, 56, .struct, z27, [(0, 3), (1, 3), (2, 3), (3, 25), (4, 26)]⟩),
  (28, ⟨5, 56, .struct, z28, [(0, 3), (1, 3), (2, 3), (3, 25), (4, 26)]⟩),
  (29, ⟨1, 8, .other, z29, []⟩),
  (30, ⟨1, 8, .other, z30, []⟩),
  (31, ⟨1, 8, .int .i64, z31, []⟩),
  (33, ⟨1, 8, .other, z33, []⟩),
  (34, ⟨1, 8, .other, z34, []⟩),
  (35, ⟨1, 8, .other, z35, []⟩),
  (36, ⟨1, 8, .other, z36, []⟩),
  (38, ⟨1, 8, .other, z38, []⟩),
  (39, ⟨1, 8, .other, z39, []⟩),
  (40, ⟨1, 8, .other, z40, []⟩),
  (41, ⟨1, 24, .slice 3, z41, []⟩),
  (42, ⟨7, 72, .struct, z42, [(0, 3), (1, 3), (2, 3), (3, 3), (4, 26), (5, 3), (6, 41)]⟩),
  (43, ⟨7, 72, .struct, z43, [(0, 3), (1, 3), (2, 3), (3, 3), (4, 26), (5, 3), (6, 41)]⟩),
  (44, ⟨4, 40, .struct, z44, [(0, 3), (1, 25), (2, 4), (3, 4)]⟩),
  (45, ⟨4, 40, .struct, z45, [(0, 3), (1, 25), (2, 4), (3, 4)]⟩),
  (47, ⟨1, 8, .other, z47, []⟩),
  (48, ⟨1, 8, .other, z48, []⟩),
  (49, ⟨1, 8, .other, z49, []⟩),
  (50, ⟨1, 8, .other, z50, []⟩),
  (51, ⟨1, 8, .other, z51, []⟩),
  (52, ⟨1, 24, .slice 59, z52, []⟩),
  (53, ⟨3, 40, .struct, z53, [(0, 3), (1, 3), (2, 52)]⟩),
  (54, ⟨3, 40, .struct, z54, [(0, 3), (1, 3), (2, 52)]⟩),
  (55, ⟨1, 24, .slice 43, z55, []⟩),
  (56, ⟨8, 80, .struct, z56, [(0, 3), (1, 3), (2, 3), (3, 3), (4, 41), (5, 3), (6, 3), (7, 3)]⟩),
  (57, ⟨8, 80, .struct, z57, [(0, 3), (1, 3), (2, 3), (3, 3), (4, 41), (5, 3), (6, 3), (7, 3)]⟩),
  (58, ⟨14, 152, .struct, z58, [(0, 4), (1, 45), (5, 55), (6, 57)]⟩),
  (59, ⟨14, 152, .struct, z59, [(0, 4), (1, 45), (5, 55), (6, 57)]⟩),
  (60, ⟨1, 8, .other, z60, []⟩),
  (61, ⟨1, 8, .other, z61, []⟩),
  (62, ⟨1, 8, .other, z62, []⟩),
  (63, ⟨1, 8, .other, z63, []⟩),
  (64, ⟨1, 8, .other, z64, []⟩),
  (65, ⟨1, 8, .other, z65, []⟩),
  (67, ⟨1, 8, .other, z67, []⟩),
  (68, ⟨1, 8, .other, z68, []⟩),
  (69, ⟨1, 8, .other, z69, []⟩),
  (70, ⟨1, 8, .other, z70, []⟩),
  (71, ⟨1, 8, .other, z71, []⟩),
  (72, ⟨1, 8, .other, z72, []⟩),
  (73, ⟨1, 8, .other, z73, []⟩),
  (74, ⟨1, 8, .other, z74, []⟩),
  (75, ⟨1, 8, .int .u64, z75, []⟩),
  (76, ⟨1, 8, .other, z76, []⟩),
  (77, ⟨4, 64, .struct, z77, [(0, 22), (1, 54)]⟩),
  (78, ⟨4, 64, .struct, z78, [(0, 22), (1, 54)]⟩),
  (79, ⟨1, 8, .other, z79, []⟩),
  (80, ⟨1, 8, .other, z80, []⟩),
  (81, ⟨1, 8, .other, z81, []⟩),
  (82, ⟨1, 8, .other, z82, []⟩),
  (83, ⟨1, 8, .other, z83, []⟩),
  (84, ⟨1, 8, .other, z84, []⟩),
  (85, ⟨1, 8, .other, z85, []⟩),
  (86, ⟨1, 8, .other, z86, []⟩),
  (87, ⟨1, 8, .other, z87, []⟩),
  (88, ⟨1, 8, .other, z88, []⟩),
  (89, ⟨1, 8, .int .i64, z89, []⟩),
  (90, ⟨1, 8, .other, z90, []⟩),
  (91, ⟨1, 8, .other, z91, []⟩),
  (92, ⟨1, 8, .other, z92, []⟩),
  (93, ⟨1, 8, .other, z93, []⟩),
  (94, ⟨1, 8, .other, z94, []⟩),
  (95, ⟨4, 40, .struct, z95, [(0, 17), (1, 17), (2, 17), (3, 9)]⟩),
  (96, ⟨4, 40, .struct, z96, [(0, 17), (1, 17), (2, 17), (3, 9)]⟩),
  (97, ⟨0, 0, .arr 0 16, z97, []⟩),
  (98, ⟨0, 0, .struct, z98, [(0, 97)]⟩),
  (99, ⟨0, 0, .struct, z99, [(0, 97)]⟩),
  (100, ⟨1, 8, .other, z100, []⟩),
  (101, ⟨1, 4, .int .u32, z101, []⟩),
  (102, ⟨1, 1, .int .u8, z102, []⟩),
  (103, ⟨1, 1, .int .u8, z103, []⟩),
  (104, ⟨1, 8, .other, z104, []⟩),
  (105, ⟨1, 8, .other, z105, []⟩),
  (106, ⟨1, 4, .int .i32, z106, []⟩),
  (107, ⟨1, 4, .int .i32, z107, []⟩),
  (108, ⟨11, 48, .struct, z108, [(0, 12), (1, 12), (2, 101), (3, 102), (4, 5), (5, 5), (6, 103), (7, 104), (8, 105), (9, 106), (10, 107)]⟩),
  (109, ⟨11, 48, .struct, z109, [(0, 12), (1, 12), (2, 101), (3, 102), (4, 5), (5, 5), (6, 103), (7, 104), (8, 105), (9, 106), (10, 107)]⟩)]
def pure (f : FuncId) : Bool := memB f [14, 27, 21, 10, 9, 17, 25]
def lookL : List (Nat × List Nat) → Nat → List Nat
  | [], _ => []
  | (k, d) :: r, t => bif k.beq t then d else lookL r t
def rts : FuncId → List TypeId := lookL [(3, [4]), (4, [4]), (5, [4]), (6, [4]), (7, [4]), (8, [4]), (9, [28, 31]), (10, [28, 31]), (11, [4]), (12, [4]), (13, [4]), (14, [28, 3]), (15, [4]), (16, [28, 3]), (17, [28, 4]), (18, [28, 4]), (19, [4]), (20, [4]), (21, [28]), (22, [4]), (23, [4]), (24, [4]), (25, [28]), (26, [4]), (27, [28]), (28, [26, 4]), (29, [4]), (30, [26, 4]), (31, [4]), (32, [4]), (33, [4]), (34, [4]), (35, [4]), (36, [4]), (37, [26, 4]), (38, [3]), (39, [4]), (40, [4]), (41, [4]), (42, [4]), (43, [4]), (44, [4]), (45, [26, 4]), (46, [26]), (47, [4]), (48, [4]), (49, [4]), (50, [4]), (51, [4]), (52, [89]), (53, [4]), (54, [4]), (55, [89]), (56, [4])]
def f3_ann : Nat → Option Ann := lookA []
def f3_jn : Nat → Option Ann := lookA []
def f4_ann : Nat → Option Ann := lookA []
def f4_jn : Nat → Option Ann := lookA []
def f5_ann : Nat → Option Ann := lookA [(11, ⟨[2, 3, 5, 7], [], [], []⟩)]
def f5_jn : Nat → Option Ann := lookA [(15, ⟨[3, 5], [], [], []⟩)]
def f6_ann : Nat → Option Ann := lookA [(13, ⟨[3, 4, 5, 9, 10, 11, 13], [], [], []⟩)]
def f6_jn : Nat → Option Ann := lookA [(18, ⟨[3, 4, 5, 9, 10, 11, 13, 14], [], [], []⟩), (20, ⟨[4, 11], [], [], []⟩)]
def f7_ann : Nat → Option Ann := lookA []
def f7_jn : Nat → Option Ann := lookA []
def f8_ann : Nat → Option Ann := lookA [(5, ⟨[1, 3, 4], [], [], []⟩), (10, ⟨[1, 3, 4, 5], [], [], []⟩), (17, ⟨[1, 3, 4, 5, 6, 7], [], [], []⟩)]
def f8_jn : Nat → Option Ann := lookA []
def f9_ann : Nat → Option Ann := lookA []
def f9_jn : Nat → Option Ann := lookA []
def f10_ann : Nat → Option Ann := lookA []
def f10_jn : Nat → Option Ann := lookA [(2, ⟨[2, 3, 4, 5, 8, 24], [], [], [8]⟩)]
def f11_ann : Nat → Option Ann := lookA [(4, ⟨[1, 3], [], [], []⟩)]
def f11_jn : Nat → Option Ann := lookA []
def f12_ann : Nat → Option Ann := lookA [(4, ⟨[2, 3, 5], [], [], []⟩)]
def f12_jn : Nat → Option Ann := lookA []
def f13_ann : Nat → Option Ann := lookA []
def f13_jn : Nat → Option Ann := lookA []
def f14_ann : Nat → Option Ann := lookA [(5, ⟨[1, 2, 3, 6, 8, 9], [], [(8, 3)], [6]⟩)]
def f14_jn : Nat → Option Ann := lookA []
def f15_ann : Nat → Option Ann := lookA []
def f15_jn : Nat → Option Ann := lookA []
def f16_ann : Nat → Option Ann := lookA []
def f16_jn : Nat → Option Ann := lookA []
def f17_ann : Nat → Option Ann := lookA []
def f17_jn : Nat → Option Ann := lookA []
def f18_ann : Nat → Option Ann := lookA []
def f18_jn : Nat → Option Ann := lookA [(9, ⟨[2, 3, 4, 7, 51], [], [], [4]⟩), (10, ⟨[2, 3, 4, 7], [], [], [4]⟩), (14, ⟨[2, 3, 4, 6], [], [], [4]⟩)]
def f19_ann : Nat → Option Ann := lookA []
def f19_jn : Nat → Option Ann := lookA []
def f20_ann : Nat → Option Ann := lookA [(2, ⟨[1, 2, 5], [], [], []⟩)]
def f20_jn : Nat → Option Ann := lookA []
def f21_ann : Nat → Option Ann := lookA []
def f21_jn : Nat → Option Ann := lookA []
def f22_ann : Nat → Option Ann := lookA [(4, ⟨[1, 24, 25, 26], [], [], []⟩)]
def f22_jn : Nat → Option Ann := lookA []
def f23_ann : Nat → Option Ann := lookA []
def f23_jn : Nat → Option Ann := lookA []
def f24_ann : Nat → Option Ann := lookA []
def f24_jn : Nat → Option Ann := lookA []
def f25_ann : Nat → Option Ann := lookA []
def f25_jn : Nat → Option Ann := lookA []
def f26_ann : Nat → Option Ann := lookA [(4, ⟨[2, 3, 5], [], [], []⟩), (10, ⟨[2, 3, 5, 6, 7], [], [], []⟩)]
def f26_jn : Nat → Option Ann := lookA []
def f27_ann : Nat → Option Ann := lookA []
def f27_jn : Nat → Option Ann := lookA []
def f28_ann : Nat → Option Ann := lookA []
def f28_jn : Nat → Option Ann := lookA []
def f29_ann : Nat → Option Ann := lookA []
def f29_jn : Nat → Option Ann := lookA []
def f30_ann : Nat → Option Ann := lookA []
def f30_jn : Nat → Option Ann := lookA [(12, ⟨[0, 8, 9], [], [], []⟩), (14, ⟨[0], [], [], []⟩)]
def f31_ann : Nat → Option Ann := lookA []
def f31_jn : Nat → Option Ann := lookA []
def f32_ann : Nat → Option Ann := lookA [(7, ⟨[5, 50, 51, 52], [], [], []⟩)]
def f32_jn : Nat → Option Ann := lookA []
def f33_ann : Nat → Option Ann := lookA [(5, ⟨[2, 5, 6], [], [], []⟩), (10, ⟨[2, 5, 6, 7], [], [], []⟩)]
def f33_jn : Nat → Option Ann := lookA [(14, ⟨[2, 5], [], [], []⟩)]
def f34_ann : Nat → Option Ann := lookA []
def f34_jn : Nat → Option Ann := lookA [(4, ⟨[3, 4, 5, 7, 8, 9, 40], [], [], []⟩), (6, ⟨[3, 4, 5, 7, 8, 9, 40, 41], [], [], []⟩)]
def f35_ann : Nat → Option Ann := lookA []
def f35_jn : Nat → Option Ann := lookA [(7, ⟨[3, 4, 5, 7, 8, 9, 26, 51], [], [], []⟩), (14, ⟨[3, 4, 5, 7, 8, 9, 26, 72], [], [], []⟩)]
def f36_ann : Nat → Option Ann := lookA []
def f36_jn : Nat → Option Ann := lookA []
def f37_ann : Nat → Option Ann := lookA []
def f37_jn : Nat → Option Ann := lookA []
def f38_ann : Nat → Option Ann := lookA [(2, ⟨[0, 1, 7, 8], [], [], []⟩)]
def f38_jn : Nat → Option Ann := lookA []
def f39_ann : Nat → Option Ann := lookA [(4, ⟨[2, 3, 21, 22, 23], [], [], []⟩)]
def f39_jn : Nat → Option Ann := lookA [(9, ⟨[2, 3], [], [], []⟩)]
def f40_ann : Nat → Option Ann := lookA []
def f40_jn : Nat → Option Ann := lookA []
def f41_ann : Nat → Option Ann := lookA []
def f41_jn : Nat → Option Ann := lookA []
def f42_ann : Nat → Option Ann := lookA [(4, ⟨[3, 5, 9], [], [], []⟩)]
def f42_jn : Nat → Option Ann := lookA []
def f43_ann : Nat → Option Ann := lookA []
def f43_jn : Nat → Option Ann := lookA []
def f44_ann : Nat → Option Ann := lookA []
def f44_jn : Nat → Option Ann := lookA []
def f45_ann : Nat → Option Ann := lookA []
def f45_jn : Nat → Option Ann := lookA []
def f46_ann : Nat → Option Ann := lookA []
def f46_jn : Nat → Option Ann := lookA []
def f47_ann : Nat → Option Ann := lookA []
def f47_jn : Nat → Option Ann := lookA []
def f48_ann : Nat → Option Ann := lookA []
def f48_jn : Nat → Option Ann := lookA []
def f49_ann : Nat → Option Ann := lookA []
def f49_jn : Nat → Option Ann := lookA []
def f50_ann : Nat → Option Ann := lookA []
def f50_jn : Nat → Option Ann := lookA []
def f51_ann : Nat → Option Ann := lookA [(2, ⟨[0, 5, 6, 7], [], [], []⟩)]
def f51_jn : Nat → Option Ann := lookA []
def f52_ann : Nat → Option Ann := lookA []
def f52_jn : Nat → Option Ann := lookA []
def f53_ann : Nat → Option Ann := lookA []
def f53_jn : Nat → Option Ann := lookA []
def f54_ann : Nat → Option Ann := lookA [(6, ⟨[4, 40, 41, 42], [], [], []⟩)]
def f54_jn : Nat → Option Ann := lookA []
def f55_ann : Nat → Option Ann := lookA []
def f55_jn : Nat → Option Ann := lookA []
def f56_ann : Nat → Option Ann := lookA []
def f56_jn : Nat → Option Ann := lookA []
noncomputable def fns : FuncId → Option Func := fun f => bif f.beq 3 then some Try.f3 else bif f.beq 4 then some Try.f4 else bif f.beq 5 then some Try.f5 else bif f.beq 6 then some Try.f6 else bif f.beq 7 then some Try.f7 else bif f.beq 8 then some Try.f8 else bif f.beq 9 then some Try.f9 else bif f.beq 10 then some Try.f10 else bif f.beq 11 then some Try.f11 else bif f.beq 12 then some Try.f12 else bif f.beq 13 then some Try.f13 else bif f.beq 14 then some Try.f14 else bif f.beq 15 then some Try.f15 else bif f.beq 16 then some Try.f16 else bif f.beq 17 then some Try.f17 else bif f.beq 18 then some Try.f18 else bif f.beq 19 then some Try.f19 else bif f.beq 20 then some Try.f20 else bif f.beq 21 then some Try.f21 else bif f.beq 22 then some Try.f22 else bif f.beq 23 then some Try.f23 else bif f.beq 24 then some Try.f24 else bif f.beq 25 then some Try.f25 else bif f.beq 26 then some Try.f26 else bif f.beq 27 then some Try.f27 else bif f.beq 28 then some Try.f28 else bif f.beq 29 then some Try.f29 else bif f.beq 30 then some Try.f30 else bif f.beq 31 then some Try.f31 else bif f.beq 32 then some Try.f32 else bif f.beq 33 then some Try.f33 else bif f.beq 34 then some Try.f34 else bif f.beq 35 then some Try.f35 else bif f.beq 36 then some Try.f36 else bif f.beq 37 then some Try.f37 else bif f.beq 38 then some Try.f38 else bif f.beq 39 then some Try.f39 else bif f.beq 40 then some Try.f40 else bif f.beq 41 then some Try.f41 else bif f.beq 42 then some Try.f42 else bif f.beq 43 then some Try.f43 else bif f.beq 44 then some Try.f44 else bif f.beq 45 then some Try.f45 else bif f.beq 46 then some Try.f46 else bif f.beq 47 then some Try.f47 else bif f.beq 48 then some Try.f48 else bif f.beq 49 then some Try.f49 else bif f.beq 50 then some Try.f50 else bif f.beq 51 then some Try.f51 else bif f.beq 52 then some Try.f52 else bif f.beq 53 then some Try.f53 else bif f.beq 54 then some Try.f54 else bif f.beq 55 then some Try.f55 else bif f.beq 56 then some Try.f56 else none
def anns : FuncId → Nat → Option Ann := fun f => bif f.beq 3 then f3_ann else bif f.beq 4 then f4_ann else bif f.beq 5 then f5_ann else bif f.beq 6 then f6_ann else bif f.beq 7 then f7_ann else bif f.beq 8 then f8_ann else bif f.beq 9 then f9_ann else bif f.beq 10 then f10_ann else bif f.beq 11 then f11_ann else bif f.beq 12 then f12_ann else bif f.beq 13 then f13_ann else bif f.beq 14 then f14_ann else bif f.beq 15 then f15_ann else bif f.beq 16 then f16_ann else bif f.beq 17 then f17_ann else bif f.beq 18 then f18_ann else bif f.beq 19 then f19_ann else bif f.beq 20 then f20_ann else bif f.beq 21 then f21_ann else bif f.beq 22 then f22_ann else bif f.beq 23 then f23_ann else bif f.beq 24 then f24_ann else bif f.beq 25 then f25_ann else bif f.beq 26 then f26_ann else bif f.beq 27 then f27_ann else bif f.beq 28 then f28_ann else bif f.beq 29 then f29_ann else bif f.beq 30 then f30_ann else bif f.beq 31 then f31_ann else bif f.beq 32 then f32_ann else bif f.beq 33 then f33_ann else bif f.beq 34 then f34_ann else bif f.beq 35 then f35_ann else bif f.beq 36 then f36_ann else bif f.beq 37 then f37_ann else bif f.beq 38 then f38_ann else bif f.beq 39 then f39_ann else bif f.beq 40 then f40_ann else bif f.beq 41 then f41_ann else bif f.beq 42 then f42_ann else bif f.beq 43 then f43_ann else bif f.beq 44 then f44_ann else bif f.beq 45 then f45_ann else bif f.beq 46 then f46_ann else bif f.beq 47 then f47_ann else bif f.beq 48 then f48_ann else bif f.beq 49 then f49_ann else bif f.beq 50 then f50_ann else bif f.beq 51 then f51_ann else bif f.beq 52 then f52_ann else bif f.beq 53 then f53_ann else bif f.beq 54 then f54_ann else bif f.beq 55 then f55_ann else bif f.beq 56 then f56_ann else fun _ => none
def jns : FuncId → Nat → Option Ann := fun f => bif f.beq 3 then f3_jn else bif f.beq 4 then f4_jn else bif f.beq 5 then f5_jn else bif f.beq 6 then f6_jn else bif f.beq 7 then f7_jn else bif f.beq 8 then f8_jn else bif f.beq 9 then f9_jn else bif f.beq 10 then f10_jn else bif f.beq 11 then f11_jn else bif f.beq 12 then f12_jn else bif f.beq 13 then f13_jn else bif f.beq 14 then f14_jn else bif f.beq 15 then f15_jn else bif f.beq 16 then f16_jn else bif f.beq 17 then f17_jn else bif f.beq 18 then f18_jn else bif f.beq 19 then f19_jn else bif f.beq 20 then f20_jn else bif f.beq 21 then f21_jn else bif f.beq 22 then f22_jn else bif f.beq 23 then f23_jn else bif f.beq 24 then f24_jn else bif f.beq 25 then f25_jn else bif f.beq 26 then f26_jn else bif f.beq 27 then f27_jn else bif f.beq 28 then f28_jn else bif f.beq 29 then f29_jn else bif f.beq 30 then f30_jn else bif f.beq 31 then f31_jn else bif f.beq 32 then f32_jn else bif f.beq 33 then f33_jn else bif f.beq 34 then f34_jn else bif f.beq 35 then f35_jn else bif f.beq 36 then f36_jn else bif f.beq 37 then f37_jn else bif f.beq 38 then f38_jn else bif f.beq 39 then f39_jn else bif f.beq 40 then f40_jn else bif f.beq 41 then f41_jn else bif f.beq 42 then f42_jn else bif f.beq 43 then f43_jn else bif f.beq 44 then f44_jn else bif f.beq 45 then f45_jn else bif f.beq 46 then f46_jn else bif f.beq 47 then f47_jn else bif f.beq 48 then f48_jn else bif f.beq 49 then f49_jn else bif f.beq 50 then f50_jn else bif f.beq 51 then f51_jn else bif f.beq 52 then f52_jn else bif f.beq 53 then f53_jn else bif f.beq 54 then f54_jn else bif f.beq 55 then f55_jn else bif f.beq 56 then f56_jn else fun _ => none
def lent : FuncId → Option LentD := lookD []
def selfT (t : TypeId) : Bool := memB t []
def ext : FuncId → Option (List TV → Option TV) := fun f => none
noncomputable def prog : AProg := ⟨tab, pure, rts, fns, anns, jns, lent, selfT, ext⟩
end Go.Ab.G5

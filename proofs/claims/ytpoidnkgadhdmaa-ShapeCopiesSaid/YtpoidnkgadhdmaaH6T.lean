import Derived.Test.YtpoidnkgadhdmaaB0
import Derived.Test.YtpoidnkgadhdmaaProg
set_option linter.unusedVariables false
namespace Go.Ab.H6
open Go.Ab Go.Proofs
def lookA : List (Nat × Ann) → Nat → Option Ann
  | [], _ => none
  | (k, d) :: r, t => bif k.beq t then some d else lookA r t
def z2 : List Value := [.int .i64 0]
def z3 : List Value := [.int .i64 0]
def z4 : List Value := [.bool false]
def z5 : List Value := [.int .u8 0]
def z6 : List Value := [.int .u8 0]
def z7 : List Value := [.int .i64 0, .int .i64 0, .bool false, .int .u8 0]
def z8 : List Value := [.int .i64 0, .int .i64 0, .bool false, .int .u8 0]
def z9 : List Value := [.string ⟨#[]⟩]
def z10 : List Value := [.string ⟨#[]⟩]
def z11 : List Value := [.string ⟨#[]⟩]
def z12 : List Value := [.int .u64 0]
def z13 : List Value := [.string ⟨#[]⟩, .int .u64 0]
def z14 : List Value := [.string ⟨#[]⟩, .int .u64 0]
def z15 : List Value := [.pointer none]
def z16 : List Value := [.pointer none]
def z17 : List Value := [.pointer none]
def z18 : List Value := [.pointer none]
def z19 : List Value := [.pointer none]
def z20 : List Value := [.nilIface]
def z21 : List Value := [.int .i32 0]
def z22 : List Value := [.slice none 0 0]
def z23 : List Value := [.slice none 0 0]
def z24 : List Value := [.slice none 0 0]
def z25 : List Value := [.int .u16 0]
def z26 : List Value := [.nilFunc]
def z27 : List Value := [.nilFunc]
def z28 : List Value := [.nilFunc]
def z29 : List Value := [.nilFunc]
def z30 : List Value := [.slice none 0 0]
def z31 : List Value := [.int .i64 0, .int .i64 0, .slice none 0 0]
def z32 : List Value := [.int .i64 0, .int .i64 0, .slice none 0 0]
def z33 : List Value := [.pointer none]
def z34 : List Value := [.slice none 0 0]
def z35 : List Value := [.int .i64 0, .slice none 0 0, .bool false, .bool false]
def z36 : List Value := [.int .i64 0, .slice none 0 0, .bool false, .bool false]
def z37 : List Value := [.slice none 0 0]
def z38 : List Value := [.slice none 0 0]
def z39 : List Value := [.int .i64 0, .int .i64 0, .int .i64 0, .int .i64 0, .slice none 0 0, .int .i64 0, .int .i64 0, .int .i64 0]
def z40 : List Value := [.int .i64 0, .int .i64 0, .int .i64 0, .int .i64 0, .slice none 0 0, .int .i64 0, .int .i64 0, .int .i64 0]
def z41 : List Value := [.bool false, .int .i64 0, .slice none 0 0, .bool false, .bool false, .slice none 0 0, .int .i64 0, .int .i64 0, .int .i64 0, .int .i64 0, .slice none 0 0, .int .i64 0, .int .i64 0, .int .i64 0]
def z42 : List Value := [.bool false, .int .i64 0, .slice none 0 0, .bool false, .bool false, .slice none 0 0, .int .i64 0, .int .i64 0, .int .i64 0, .int .i64 0, .slice none 0 0, .int .i64 0, .int .i64 0, .int .i64 0]
def z43 : List Value := [.int .i64 0, .int .i64 0, .int .i64 0, .int .i64 0, .int .u16 0, .int .i64 0, .slice none 0 0]
def z44 : List Value := [.int .i64 0, .int .i64 0, .int .i64 0, .int .i64 0, .int .u16 0, .int .i64 0, .slice none 0 0]
def z45 : List Value := [.nilFunc]
def z46 : List Value := [.int .i64 0, .int .i64 0, .int .i64 0, .slice none 0 0, .int .u16 0]
def z47 : List Value := [.int .i64 0, .int .i64 0, .int .i64 0, .slice none 0 0, .int .u16 0]
def z48 : List Value := [.int .i64 0]
def z50 : List Value := [.nilFunc]
def z51 : List Value := [.nilFunc]
def z52 : List Value := [.nilFunc]
def z53 : List Value := [.nilFunc]
def z55 : List Value := [.nilFunc]
def z56 : List Value := [.nilFunc]
def z57 : List Value := [.nilFunc]
def z59 : List Value := [.nilFunc]
def z60 : List Value := [.nilFunc]
def z61 : List Value := [.nilFunc]
def z62 : List Value := [.nilFunc]
def z63 : List Value := [.nilFunc]
def z64 : List Value := [.nilFunc]
def z65 : List Value := [.nilFunc]
def z66 : List Value := [.slice none 0 0]
def z67 : List Value := [.int .u16 0, .int .u16 0, .int .u16 0, .int .u16 0, .int .u16 0, .int .u16 0, .int .u16 0, .int .u16 0, .int .u16 0, .int .u16 0, .int .u16 0, .int .u16 0, .int .u16 0, .int .u16 0, .int .u16 0, .int .u16 0]
def z68 : List Value := [.slice none 0 0, .int .u16 0, .int .u16 0, .int .u16 0, .int .u16 0, .int .u16 0, .int .u16 0, .int .u16 0, .int .u16 0, .int .u16 0, .int .u16 0, .int .u16 0, .int .u16 0, .int .u16 0, .int .u16 0, .int .u16 0, .int .u16 0, .slice none 0 0, .slice none 0 0, .int .i64 0, .int .u16 0]
def z69 : List Value := [.slice none 0 0, .int .u16 0, .int .u16 0, .int .u16 0, .int .u16 0, .int .u16 0, .int .u16 0, .int .u16 0, .int .u16 0, .int .u16 0, .int .u16 0, .int .u16 0, .int .u16 0, .int .u16 0, .int .u16 0, .int .u16 0, .int .u16 0, .slice none 0 0, .slice none 0 0, .int .i64 0, .int .u16 0]
def z71 : List Value := [.nilFunc]
def z72 : List Value := [.nilFunc]
def z73 : List Value := [.nilFunc]
def z74 : List Value := [.nilFunc]
def z75 : List Value := [.nilFunc]
def z76 : List Value := [.nilFunc]
def z77 : List Value := [.nilFunc]
def z78 : List Value := [.nilFunc]
def z79 : List Value := [.nilFunc]
def z80 : List Value := [.nilFunc]
def z81 : List Value := [.nilFunc]
def z82 : List Value := [.slice none 0 0]
def z83 : List Value := [.nilFunc]
def z84 : List Value := [.nilFunc]
def z85 : List Value := [.nilFunc]
def z86 : List Value := [.nilFunc]
def z87 : List Value := [.nilFunc]
def z88 : List Value := [.nilFunc]
def z89 : List Value := [.nilFunc]
def z90 : List Value := [.nilFunc]
def z91 : List Value := [.nilFunc]
def z92 : List Value := [.nilFunc]
def z93 : List Value := [.nilFunc]
def z95 : List Value := [.nilFunc]
def z96 : List Value := [.nilFunc]
def z97 : List Value := [.nilFunc]
def z98 : List Value := [.nilFunc]
def z99 : List Value := [.nilFunc]
def z100 : List Value := [.slice none 0 0, .int .u16 0, .int .u16 0, .int .u16 0, .int .u16 0, .int .u16 0, .int .u16 0, .int .u16 0, .int .u16 0, .int .u16 0, .int .u16 0, .int .u16 0, .int .u16 0, .int .u16 0, .int .u16 0, .int .u16 0, .int .u16 0, .slice none 0 0, .slice none 0 0, .int .i64 0, .int .u16 0, .slice none 0 0]
def z101 : List Value := [.slice none 0 0, .int .u16 0, .int .u16 0, .int .u16 0, .int .u16 0, .int .u16 0, .int .u16 0, .int .u16 0, .int .u16 0, .int .u16 0, .int .u16 0, .int .u16 0, .int .u16 0, .int .u16 0, .int .u16 0, .int .u16 0, .int .u16 0, .slice none 0 0, .slice none 0 0, .int .i64 0, .int .u16 0, .slice none 0 0]
def z102 : List Value := [.nilFunc]
def z103 : List Value := [.nilFunc]
def z104 : List Value := [.nilFunc]
def z105 : List Value := [.nilFunc]
def z106 : List Value := [.nilFunc]
def z107 : List Value := [.slice none 0 0, .int .i64 0, .int .i64 0, .slice none 0 0]
def z108 : List Value := [.slice none 0 0, .int .i64 0, .int .i64 0, .slice none 0 0]
def z109 : List Value := [.nilFunc]
def z110 : List Value := [.int .i64 0]
def z111 : List Value := [.nilFunc]
def z112 : List Value := [.nilFunc]
def z113 : List Value := [.nilFunc]
def z114 : List Value := [.nilFunc]
def z115 : List Value := [.nilFunc]
def z116 : List Value := [.nilFunc]
def z117 : List Value := [.nilFunc]
def z118 : List Value := [.nilFunc]
def z119 : List Value := [.nilFunc]
def z120 : List Value := [.nilFunc]
def z121 : List Value := [.nilFunc]
def z122 : List Value := [.nilFunc]
def z123 : List Value := [.nilFunc]
def z124 : List Value := [.nilFunc]
def z125 : List Value := [.int .u64 0]
def z126 : List Value := [.nilFunc]
def z127 : List Value := [.pointer none]
def z128 : List Value := [.pointer none]
def z129 : List Value := [.nilFunc]
def z130 : List Value := [.nilFunc]
def z131 : List Value := [.nilFunc]
def z132 : List Value := [.nilFunc]
def z134 : List Value := [.nilFunc]
def z135 : List Value := [.nilFunc]
def z136 : List Value := [.nilFunc]
def z137 : List Value := [.nilFunc]
def z138 : List Value := [.nilFunc]
def z139 : List Value := [.nilFunc]
def z140 : List Value := [.nilFunc]
def z141 : List Value := [.nilFunc]
def z142 : List Value := [.nilFunc]
def z143 : List Value := [.nilFunc]
def z144 : List Value := [.nilFunc]
def z145 : List Value := [.nilFunc]
def z146 : List Value := [.nilFunc]
def z147 : List Value := [.nilFunc]
def z148 : List Value := [.nilFunc]
def z149 : List Value := [.nilFunc]
def z150 : List Value := [.nilFunc]
def z151 : List Value := [.nilFunc]
def z152 : List Value := [.nilFunc]
def z153 : List Value := [.nilFunc]
def z154 : List Value := [.nilFunc]
def z155 : List Value := [.nilFunc]
def z156 : List Value := [.pointer none]
def z157 : List Value := [.nilFunc]
def z158 : List Value := [.nilFunc]
def z159 : List Value := [.nilFunc]
def z161 : List Value := [.nilFunc]
def z162 : List Value := [.nilFunc]
def z163 : List Value := [.nilFunc]
def z164 : List Value := [.pointer none, .pointer none, .pointer none, .string ⟨#[]⟩]
def z165 : List Value := [.pointer none, .pointer none, .pointer none, .string ⟨#[]⟩]
def z166 : List Value := []
def z167 : List Value := []
def z168 : List Value := []
def z169 : List Value := [.nilFunc]
def z170 : List Value := [.int .u32 0]
def z171 : List Value := [.int .u8 0]
def z172 : List Value := [.int .u8 0]
def z173 : List Value := [.nilFunc]
def z174 : List Value := [.pointer none]
def z175 : List Value := [.int .i32 0]
def z176 : List Value := [.int .i32 0]
def z177 : List Value := [.int .u64 0, .int .u64 0, .int .u32 0, .int .u8 0, .int .u8 0, .int .u8 0, .int .u8 0, .nilFunc, .pointer none, .int .i32 0, .int .i32 0]
def z178 : List Value := [.int .u64 0, .int .u64 0, .int .u32 0, .int .u8 0, .int .u8 0, .int .u8 0, .int .u8 0, .nilFunc, .pointer none, .int .i32 0, .int .i32 0]
def tab : Tab := lookT [
  (2, ⟨1, 8, .int .i64, z2, []⟩),
  (3, ⟨1, 8, .int .i64, z3, []⟩),
  (4, ⟨1, 1, .bool, z4, []⟩),
  (5, ⟨1, 1, .int .u8, z5, []⟩),
  (6, ⟨1, 1, .int .u8, z6, []⟩),
  (7, ⟨4, 24, .struct, z7, [(0, 2), (1, 3), (2, 4), (3, 6)]⟩),
  (8, ⟨4, 24, .struct, z8, [(0, 2), (1, 3), (2, 4), (3, 6)]⟩),
  (9, ⟨1, 16, .str, z9, []⟩),
  (10, ⟨1, 16, .str, z10, []⟩),
  (11, ⟨1, 16, .str, z11, []⟩),
  (12, ⟨1, 8, .int .u64, z12, []⟩),
  (13, ⟨2, 24, .struct, z13, [(0, 9), (1, 12)]⟩),
  (14, ⟨2, 24, .struct, z14, [(0, 9), (1, 12)]⟩),
  (15, ⟨1, 8, .ptr, z15, []⟩),
  (16, ⟨1, 8, .ptr, z16, []⟩),
  (17, ⟨1, 8, .ptr, z17, []⟩),
  (18, ⟨1, 8, .struct, z18, [(0, 17)]⟩),
  (19, ⟨1, 8, .struct, z19, [(0, 17)]⟩),
  (20, ⟨1, 16, .other, z20, []⟩),
  (21, ⟨1, 4, .int .i32, z21, []⟩),
  (22, ⟨1, 24, .slice 32, z22, []⟩),
  (23, ⟨1, 24, .struct, z23, [(0, 22)]⟩),
  (24, ⟨1, 24, .struct, z24, [(0, 22)]⟩),
  (25, ⟨1, 2, .int .u16, z25, []⟩),
  (26, ⟨1, 8, .other, z26, []⟩),
  (27, ⟨1, 8, .other, z27, []⟩),
  (28, ⟨1, 8, .other, z28, []⟩),
  (29, ⟨1, 8, .other, z29, []⟩),
  (30, ⟨1, 24, .slice 42, z30, []⟩),
  (31, ⟨3, 40, .struct, z31, [(0, 3), (1, 3), (2, 30)]⟩),
  (32, ⟨3, 40, .struct, z32, [(0, 3), (1, 3), (2, 30)]⟩),
  (33, ⟨1, 8, .ptr, z33, []⟩),
  (34, ⟨1, 24, .slice 25, z34, []⟩),
  (35, ⟨4, 40, .struct, z35, [(0, 3), (1, 34), (2, 4), (3, 4)]⟩),
  (36, ⟨4, 40, .struct, z36, [(0, 3), (1, 34), (2, 4), (3, 4)]⟩),
  (37, ⟨1, 24, .slice 44, z37, []⟩),
  (38, ⟨1, 24, .slice 3, z38, []⟩),
  (39, ⟨8, 80, .struct, z39, [(0, 3), (1, 3), (2, 3), (3, 3), (4, 38), (5, 3), (6, 3), (7, 3)]⟩),
  (40, ⟨8, 80, .struct, z40, [(0, 3), (1, 3), (2, 3), (3, 3), (4, 38), (5, 3), (6, 3), (7, 3)]⟩),
  (41, ⟨14, 152, .struct, z41, [(0, 4), (1, 36), (5, 37), (6, 40)]⟩),
  (42, ⟨14, 152, .struct, z42, [(0, 4), (1, 36), (5, 37), (6, 40)]⟩),
  (43, ⟨7, 72, .struct, z43, [(0, 3), (1, 3), (2, 3), (3, 3), (4, 25), (5, 3), (6, 38)]⟩),
  (44, ⟨7, 72, .struct, z44, [(0, 3), (1, 3), (2, 3), (3, 3), (4, 25), (5, 3), (6, 38)]⟩),
  (45, ⟨1, 8, .other, z45, []⟩),
  (46, ⟨5, 56, .struct, z46, [(0, 3), (1, 3), (2, 3), (3, 34), (4, 25)]⟩),
  (47, ⟨5, 56, .struct, z47, [(0, 3), (1, 3), (2, 3), (3, 34), (4, 25)]⟩),
  (48, ⟨1, 8, .int .i64, z48, []⟩),
  (50, ⟨1, 8, .other, z50, []⟩),
  (51, ⟨1, 8, .other, z51, []⟩),
  (52, ⟨1, 8, .other, z52, []⟩),
  (53, ⟨1, 8, .other, z53, []⟩),
  (55, ⟨1, 8, .other, z55, []⟩),
  (56, ⟨1, 8, .other, z56, []⟩),
  (57, ⟨1, 8, .other, z57, []⟩),
  (59, ⟨1, 8, .other, z59, []⟩),
  (60, ⟨1, 8, .other, z60, []⟩),
  (61, ⟨1, 8, .other, z61, []⟩),
  (62, ⟨1, 8, .other, z62, []⟩),
  (63, ⟨1, 8, .other, z63, []⟩),
  (64, ⟨1, 8, .other, z64, []⟩),
  (65, ⟨1, 8, .other, z65, []⟩),
  (66, ⟨1, 24, .slice 47, z66, []⟩),
  (67, ⟨16, 32, .arr 16 25, z67, []⟩),
  (68, ⟨21, 120, .struct, z68, [(0, 66), (1, 67), (17, 34), (18, 38), (19, 3), (20, 25)]⟩),
  (69, ⟨21, 120, .struct, z69, [(0, 66), (1, 67), (17, 34), (18, 38), (19, 3), (20, 25)]⟩),
  (71, ⟨1, 8, .other, z71, []⟩),
  (72, ⟨1, 8, .other, z72, []⟩),
  (73, ⟨1, 8, .other, z73, []⟩),
  (74, ⟨1, 8, .other, z74, []⟩),
  (75, ⟨1, 8, .other, z75, []⟩),
  (76, ⟨1, 8, .other, z76, []⟩),
  (77, ⟨1, 8, .other, z77, []⟩),
  (78, ⟨1, 8, .other, z78, []⟩),
  (79, ⟨1, 8, .other, z79, []⟩),
  (80, ⟨1, 8, .other, z80, []⟩),
  (81, ⟨1, 8, .other, z81, []⟩),
  (82, ⟨1, 24, .slice 4, z82, []⟩),
  (83, ⟨1, 8, .other, z83, []⟩),
  (84, ⟨1, 8, .other, z84, []⟩),
  (85, ⟨1, 8, .other, z85, []⟩),
  (86, ⟨1, 8, .other, z86, []⟩),
  (87, ⟨1, 8, .other, z87, []⟩),
  (88, ⟨1, 8, .other, z88, []⟩),
  (89, ⟨1, 8, .other, z89, []⟩),
  (90, ⟨1, 8, .other, z90, []⟩),
  (91, ⟨1, 8, .other, z91, []⟩),
  (92, ⟨1, 8, .other, z92, []⟩),
  (93, ⟨1, 8, .other, z93, []⟩),
  (95, ⟨1, 8, .other, z95, []⟩),
  (96, ⟨1, 8, .other, z96, []⟩),
  (97, ⟨1, 8, .other, z97, []⟩),
  (98, ⟨1, 8, .other, z98, []⟩),
  (99, ⟨1, 8, .other, z99, []⟩),
  (100, ⟨22, 144, .struct, z100, [(0, 69), (21, 24)]⟩),
  (101, ⟨22, 144, .struct, z101, [(0, 69), (21, 24)]⟩),
  (102, ⟨1, 8, .other, z102, []⟩),
  (103, ⟨1, 8, .other, z103, []⟩),
  (104, ⟨1, 8, .other, z104, []⟩),
  (105, ⟨1, 8, .other, z105, []⟩),
  (106, ⟨1, 8, .other, z106, []⟩),
  (107, ⟨4, 64, .struct, z107, [(0, 22), (1, 32)]⟩),
  (108, ⟨4, 64, .struct, z108, [(0, 22), (1, 32)]⟩),
  (109, ⟨1, 8, .other, z109, []⟩),
  (110, ⟨1, 8, .int .i64, z110, []⟩),
  (111, ⟨1, 8, .other, z111, []⟩),
  (112, ⟨1, 8, .other, z112, []⟩),
  (113, ⟨1, 8, .other, z113, []⟩),
  (114, ⟨1, 8, .other, z114, []⟩),
  (115, ⟨1, 8, .other, z115, []⟩),
  (116, ⟨1, 8, .other, z116, []⟩),
  (117, ⟨1, 8, .other, z117, []⟩),
  (118, ⟨1, 8, .other, z118, []⟩),
  (119, ⟨1, 8, .other, z119, []⟩),
  (120, ⟨1, 8, .other, z120, []⟩),
  (121, ⟨1, 8, .other, z121, []⟩),
  (122, ⟨1, 8, .other, z122, []⟩),
  (123, ⟨1, 8, .other, z123, []⟩),
  (124, ⟨1, 8, .other, z124, []⟩),
  (125, ⟨1, 8, .int .u64, z125, []⟩),
  (126, ⟨1, 8, .other, z126, []⟩),
  (127, ⟨1, 8, .ptr, z127, []⟩),
  (128, ⟨1, 8, .ptr, z128, []⟩),
  (129, ⟨1, 8, .other, z129, []⟩),
  (130, ⟨1, 8, .other, z130, []⟩),
  (131, ⟨1, 8, .other, z131, []⟩),
  (132, ⟨1, 8, .other, z132, []⟩),
  (134, ⟨1, 8, .other, z134, []⟩),
  (135, ⟨1, 8, .other, z135, []⟩),
  (136, ⟨1, 8, .other, z136, []⟩),
  (137, ⟨1, 8, .other, z137, []⟩),
  (138, ⟨1, 8, .other, z138, []⟩),
  (139, ⟨1, 8, .other, z139, []⟩),
  (140, ⟨1, 8, .other, z140, []⟩),
  (141, ⟨1, 8, .other, z141, []⟩),
  (142, ⟨1, 8, .other, z142, []⟩),
  (143, ⟨1, 8, .other, z143, []⟩),
  (144, ⟨1, 8, .other, z144, []⟩),
  (145, ⟨1, 8, .other, z145, []⟩),
  (146, ⟨1, 8, .other, z146, []⟩),
  (147, ⟨1, 8, .other, z147, []⟩),
  (148, ⟨1, 8, .other, z148, []⟩),
  (149, ⟨1, 8, .other, z149, []⟩),
  (150, ⟨1, 8, .other, z150, []⟩),
  (151, ⟨1, 8, .other, z151, []⟩),
  (152, ⟨1, 8, .other, z152, []⟩),
  (153, ⟨1, 8, .other, z153, []⟩),
  (154, ⟨1, 8, .other, z154, []⟩),
  (155, ⟨1, 8, .other, z155, []⟩),
  (156, ⟨1, 8, .ptr, z156, []⟩),
  (157, ⟨1, 8, .other, z157, []⟩),
  (158, ⟨1, 8, .other, z158, []⟩),
  (159, ⟨1, 8, .other, z159, []⟩),
  (161, ⟨1, 8, .other, z161, []⟩),
  (162, ⟨1, 8, .other, z162, []⟩),
  (163, ⟨1, 8, .other, z163, []⟩),
  (164, ⟨4, 40, .struct, z164, [(0, 17), (1, 17), (2, 17), (3, 9)]⟩),
  (165, ⟨4, 40, .struct, z165, [(0, 17), (1, 17), (2, 17), (3, 9)]⟩),
  (166, ⟨0, 0, .arr 0 16, z166, []⟩),
  (167, ⟨0, 0, .struct, z167, [(0, 166)]⟩),
  (168, ⟨0, 0, .struct, z168, [(0, 166)]⟩),
  (169, ⟨1, 8, .other, z169, []⟩),
  (170, ⟨1, 4, .int .u32, z170, []⟩),
  (171, ⟨1, 1, .int .u8, z171, []⟩),
  (172, ⟨1, 1, .int .u8, z172, []⟩),
  (173, ⟨1, 8, .other, z173, []⟩),
  (174, ⟨1, 8, .ptr, z174, []⟩),
  (175, ⟨1, 4, .int .i32, z175, []⟩),
  (176, ⟨1, 4, .int .i32, z176, []⟩),
  (177, ⟨11, 48, .struct, z177, [(0, 12), (1, 12), (2, 170), (3, 171), (4, 5), (5, 5), (6, 172), (7, 173), (8, 174), (9, 175), (10, 176)]⟩),
  (178, ⟨11, 48, .struct, z178, [(0, 12), (1, 12), (2, 170), (3, 171), (4, 5), (5, 5), (6, 172), (7, 173), (8, 174), (9, 175), (10, 176)]⟩)]
def pure (f : FuncId) : Bool := memB f [23, 54, 30, 19, 18, 26, 52, 72, 70, 66, 59, 33, 38, 42, 14, 43, 46]
def lookL : List (Nat × List Nat) → Nat → List Nat
  | [], _ => []
  | (k, d) :: r, t => bif k.beq t then d else lookL r t
def rts : FuncId → List TypeId := lookL [(3, [4]), (4, [4]), (5, [4]), (6, [4]), (7, [4]), (12, [4]), (13, [4]), (14, [24]), (15, [4]), (16, [4]), (17, [4]), (18, [47, 48]), (19, [47, 48]), (20, [4]), (21, [4]), (22, [4]), (23, [47, 3]), (24, [4]), (25, [47, 3]), (26, [47, 4]), (27, [47, 4]), (28, [4]), (29, [4]), (30, [47]), (40, [4]), (41, [4]), (42, [82]), (43, [38]), (44, [22]), (45, [30]), (46, [42]), (47, [4]), (48, [4]), (49, [4]), (50, [4]), (51, [4]), (52, [47]), (53, [4]), (54, [47]), (55, [25, 4]), (56, [4]), (57, [25, 4]), (58, [4]), (62, [4]), (67, [4]), (68, [110]), (69, [4]), (70, [34]), (71, [37]), (72, [38]), (73, [4]), (74, [4]), (75, [4]), (76, [4]), (77, [4]), (78, [4]), (79, [4]), (80, [4]), (81, [4]), (82, [25, 4]), (83, [3]), (95, [4]), (96, [4]), (97, [4]), (98, [4]), (99, [4]), (100, [4]), (101, [4]), (102, [4]), (103, [4]), (104, [4]), (105, [4]), (106, [4]), (107, [25, 4]), (108, [25]), (118, [4]), (119, [4]), (120, [110]), (121, [4]), (122, [4]), (123, [4]), (124, [4])]
def f3_ann : Nat → Option Ann := lookA []
def f3_jn : Nat → Option Ann := lookA [(19, ⟨[3, 7, 8, 10], [], [], [], []⟩), (21, ⟨[3, 7, 8], [], [], [], []⟩)]
def f4_ann : Nat → Option Ann := lookA []
def f4_jn : Nat → Option Ann := lookA []
def f5_ann : Nat → Option Ann := lookA []
def f5_jn : Nat → Option Ann := lookA []
def f6_ann : Nat → Option Ann := lookA [(11, ⟨[2, 3, 5, 7], [], [], [], []⟩)]
def f6_jn : Nat → Option Ann := lookA [(15, ⟨[3, 5], [], [], [], []⟩)]
def f7_ann : Nat → Option Ann := lookA [(13, ⟨[3, 4, 5, 9, 10, 11, 13], [], [], [], []⟩)]
def f7_jn : Nat → Option Ann := lookA [(18, ⟨[3, 4, 5, 9, 10, 11, 13, 14], [], [], [], []⟩), (20, ⟨[4, 11], [], [], [], []⟩)]
def f12_ann : Nat → Option Ann := lookA []
def f12_jn : Nat → Option Ann := lookA []
def f13_ann : Nat → Option Ann := lookA [(5, ⟨[1, 3, 4], [], [], [], []⟩), (10, ⟨[1, 3, 4, 5], [], [], [], []⟩), (17, ⟨[1, 3, 4, 5, 6, 7], [], [], [], []⟩)]
def f13_jn : Nat → Option Ann := lookA []
def f14_ann : Nat → Option Ann := lookA [(3, ⟨[2, 3, 12, 13], [3], [], [2], []⟩), (7, ⟨[2, 3, 4, 5, 12, 13, 22, 23, 24], [3, 5, 22], [], [2], []⟩)]
def f14_jn : Nat → Option Ann := lookA [(11, ⟨[2, 3, 4, 5, 12, 13], [3, 5], [], [2], []⟩)]
def f15_ann : Nat → Option Ann := lookA []
def f15_jn : Nat → Option Ann := lookA []
def f16_ann : Nat → Option Ann := lookA [(4, ⟨[2, 3, 5], [], [], [], []⟩)]
def f16_jn : Nat → Option Ann := lookA []
def f17_ann : Nat → Option Ann := lookA []
def f17_jn : Nat → Option Ann := lookA []
def f18_ann : Nat → Option Ann := lookA []
def f18_jn : Nat → Option Ann := lookA []
def f19_ann : Nat → Option Ann := lookA []
def f19_jn : Nat → Option Ann := lookA [(2, ⟨[2, 3, 4, 5, 8, 24], [], [], [8], []⟩)]
def f20_ann : Nat → Option Ann := lookA [(4, ⟨[1, 3], [], [], [], []⟩)]
def f20_jn : Nat → Option Ann := lookA []
def f21_ann : Nat → Option Ann := lookA [(4, ⟨[2, 3, 5], [], [], [], []⟩)]
def f21_jn : Nat → Option Ann := lookA []
def f22_ann : Nat → Option Ann := lookA []
def f22_jn : Nat → Option Ann := lookA []
def f23_ann : Nat → Option Ann := lookA [(5, ⟨[1, 2, 3, 6, 8, 9], [], [(8, 3)], [6], []⟩)]
def f23_jn : Nat → Option Ann := lookA []
def f24_ann : Nat → Option Ann := lookA []
def f24_jn : Nat → Option Ann := lookA []
def f25_ann : Nat → Option Ann := lookA []
def f25_jn : Nat → Option Ann := lookA []
def f26_ann : Nat → Option Ann := lookA []
def f26_jn : Nat → Option Ann := lookA []
def f27_ann : Nat → Option Ann := lookA []
def f27_jn : Nat → Option Ann := lookA [(9, ⟨[2, 3, 4, 7, 51], [], [], [4], []⟩), (10, ⟨[2, 3, 4, 7], [], [], [4], []⟩), (14, ⟨[2, 3, 4, 6], [], [], [4], []⟩)]
def f28_ann : Nat → Option Ann := lookA []
def f28_jn : Nat → Option Ann := lookA []
def f29_ann : Nat → Option Ann := lookA [(2, ⟨[1, 2, 5], [], [], [], []⟩)]
def f29_jn : Nat → Option Ann := lookA []
def f30_ann : Nat → Option Ann := lookA []
def f30_jn : Nat → Option Ann := lookA []
def f40_ann : Nat → Option Ann := lookA [(4, ⟨[1, 24, 25, 26], [], [], [], []⟩)]
def f40_jn : Nat → Option Ann := lookA []
def f41_ann : Nat → Option Ann := lookA [(7, ⟨[5, 50, 51, 52], [], [], [], []⟩)]
def f41_jn : Nat → Option Ann := lookA []
def f42_ann : Nat → Option Ann := lookA [(4, ⟨[1, 3, 4, 15, 16, 17], [3, 4], [], [], []⟩), (10, ⟨[1, 3, 4], [3, 4], [], [], []⟩), (14, ⟨[1, 3, 4, 56, 57, 58], [3, 4, 56], [], [], []⟩)]
def f42_jn : Nat → Option Ann := lookA [(10, ⟨[1, 3, 4], [3, 4], [], [], []⟩)]
def f43_ann : Nat → Option Ann := lookA []
def f43_jn : Nat → Option Ann := lookA [(6, ⟨[1, 4, 18], [4], [], [], []⟩)]
def f44_ann : Nat → Option Ann := lookA []
def f44_jn : Nat → Option Ann := lookA []
def f45_ann : Nat → Option Ann := lookA []
def f45_jn : Nat → Option Ann := lookA []
def f46_ann : Nat → Option Ann := lookA [(4, ⟨[1, 2, 16, 17], [], [], [2], []⟩)]
def f46_jn : Nat → Option Ann := lookA [(8, ⟨[1, 2], [], [], [2], []⟩)]
def f47_ann : Nat → Option Ann := lookA [(4, ⟨[1, 2, 15, 16, 17], [], [], [], []⟩)]
def f47_jn : Nat → Option Ann := lookA []
def f48_ann : Nat → Option Ann := lookA []
def f48_jn : Nat → Option Ann := lookA []
def f49_ann : Nat → Option Ann := lookA [(4, ⟨[2, 3, 5], [], [], [], []⟩), (10, ⟨[2, 3, 5, 6, 7, 8], [], [], [], []⟩)]
def f49_jn : Nat → Option Ann := lookA []
def f50_ann : Nat → Option Ann := lookA []
def f50_jn : Nat → Option Ann := lookA []
def f51_ann : Nat → Option Ann := lookA []
def f51_jn : Nat → Option Ann := lookA []
def f52_ann : Nat → Option Ann := lookA []
def f52_jn : Nat → Option Ann := lookA []
def f53_ann : Nat → Option Ann := lookA [(4, ⟨[2, 3, 5], [], [], [], []⟩), (10, ⟨[2, 3, 5, 6, 7], [], [], [], []⟩)]
def f53_jn : Nat → Option Ann := lookA []
def f54_ann : Nat → Option Ann := lookA []
def f54_jn : Nat → Option Ann := lookA []
def f55_ann : Nat → Option Ann := lookA []
def f55_jn : Nat → Option Ann := lookA []
def f56_ann : Nat → Option Ann := lookA []
def f56_jn : Nat → Option Ann := lookA []
def f57_ann : Nat → Option Ann := lookA []
def f57_jn : Nat → Option Ann := lookA [(12, ⟨[0, 8, 9], [], [], [], []⟩), (14, ⟨[0], [], [], [], []⟩)]
def f58_ann : Nat → Option Ann := lookA []
def f58_jn : Nat → Option Ann := lookA []
def f62_ann : Nat → Option Ann := lookA [(4, ⟨[0, 1, 5], [], [], [], []⟩)]
def f62_jn : Nat → Option Ann := lookA []
def f67_ann : Nat → Option Ann := lookA [(4, ⟨[2, 3, 21, 22, 23], [], [], [], []⟩)]
def f67_jn : Nat → Option Ann := lookA [(9, ⟨[2, 3], [], [], [], []⟩)]
def f68_ann : Nat → Option Ann := lookA []
def f68_jn : Nat → Option Ann := lookA []
def f69_ann : Nat → Option Ann := lookA []
def f69_jn : Nat → Option Ann := lookA []
def f70_ann : Nat → Option Ann := lookA []
def f70_jn : Nat → Option Ann := lookA []
def f71_ann : Nat → Option Ann := lookA []
def f71_jn : Nat → Option Ann := lookA []
def f72_ann : Nat → Option Ann := lookA []
def f72_jn : Nat → Option Ann := lookA []
def f73_ann : Nat → Option Ann := lookA [(4, ⟨[1, 2, 15, 16, 17], [], [], [], []⟩)]
def f73_jn : Nat → Option Ann := lookA []
def f74_ann : Nat → Option Ann := lookA []
def f74_jn : Nat → Option Ann := lookA []
def f75_ann : Nat → Option Ann := lookA [(4, ⟨[2, 3, 5], [], [], [], []⟩)]
def f75_jn : Nat → Option Ann := lookA []
def f76_ann : Nat → Option Ann := lookA []
def f76_jn : Nat → Option Ann := lookA []
def f77_ann : Nat → Option Ann := lookA []
def f77_jn : Nat → Option Ann := lookA []
def f78_ann : Nat → Option Ann := lookA [(5, ⟨[2, 5, 6], [], [], [], []⟩), (10, ⟨[2, 5, 6, 7], [], [], [], []⟩)]
def f78_jn : Nat → Option Ann := lookA [(14, ⟨[2, 5], [], [], [], []⟩)]
def f79_ann : Nat → Option Ann := lookA []
def f79_jn : Nat → Option Ann := lookA [(4, ⟨[3, 4, 5, 7, 8, 9, 40], [], [], [], []⟩), (6, ⟨[3, 4, 5, 7, 8, 9, 40, 41], [], [], [], []⟩)]
def f80_ann : Nat → Option Ann := lookA []
def f80_jn : Nat → Option Ann := lookA [(7, ⟨[3, 4, 5, 7, 8, 9, 26, 51], [], [], [], []⟩), (14, ⟨[3, 4, 5, 7, 8, 9, 26, 72], [], [], [], []⟩)]
def f81_ann : Nat → Option Ann := lookA []
def f81_jn : Nat → Option Ann := lookA []
def f82_ann : Nat → Option Ann := lookA []
def f82_jn : Nat → Option Ann := lookA []
def f83_ann : Nat → Option Ann := lookA [(2, ⟨[0, 1, 7, 8], [], [], [], []⟩)]
def f83_jn : Nat → Option Ann := lookA []
def f95_ann : Nat → Option Ann := lookA []
def f95_jn : Nat → Option Ann := lookA []
def f96_ann : Nat → Option Ann := lookA []
def f96_jn : Nat → Option Ann := lookA []
def f97_ann : Nat → Option Ann := lookA []
def f97_jn : Nat → Option Ann := lookA []
def f98_ann : Nat → Option Ann := lookA []
def f98_jn : Nat → Option Ann := lookA []
def f99_ann : Nat → Option Ann := lookA [(4, ⟨[1, 2, 15, 16, 17], [], [], [], []⟩)]
def f99_jn : Nat → Option Ann := lookA []
def f100_ann : Nat → Option Ann := lookA []
def f100_jn : Nat → Option Ann := lookA []
def f101_ann : Nat → Option Ann := lookA []
def f101_jn : Nat → Option Ann := lookA []
def f102_ann : Nat → Option Ann := lookA []
def f102_jn : Nat → Option Ann := lookA []
def f103_ann : Nat → Option Ann := lookA []
def f103_jn : Nat → Option Ann := lookA []
def f104_ann : Nat → Option Ann := lookA [(4, ⟨[3, 5, 9], [], [], [], []⟩)]
def f104_jn : Nat → Option Ann := lookA []
def f105_ann : Nat → Option Ann := lookA []
def f105_jn : Nat → Option Ann := lookA []
def f106_ann : Nat → Option Ann := lookA []
def f106_jn : Nat → Option Ann := lookA []
def f107_ann : Nat → Option Ann := lookA []
def f107_jn : Nat → Option Ann := lookA []
def f108_ann : Nat → Option Ann := lookA []
def f108_jn : Nat → Option Ann := lookA []
def f118_ann : Nat → Option Ann := lookA []
def f118_jn : Nat → Option Ann := lookA []
def f119_ann : Nat → Option Ann := lookA [(2, ⟨[0, 5, 6, 7], [], [], [], []⟩)]
def f119_jn : Nat → Option Ann := lookA []
def f120_ann : Nat → Option Ann := lookA []
def f120_jn : Nat → Option Ann := lookA []
def f121_ann : Nat → Option Ann := lookA [(6, ⟨[4, 40, 41, 42], [], [], [], []⟩)]
def f121_jn : Nat → Option Ann := lookA []
def f122_ann : Nat → Option Ann := lookA []
def f122_jn : Nat → Option Ann := lookA []
def f123_ann : Nat → Option Ann := lookA [(4, ⟨[0, 1, 12, 13], [], [], [], []⟩)]
def f123_jn : Nat → Option Ann := lookA []
def f124_ann : Nat → Option Ann := lookA [(4, ⟨[0, 1, 12, 13], [], [], [], []⟩)]
def f124_jn : Nat → Option Ann := lookA []
noncomputable def fns : FuncId → Option Func := fun f => bif f.beq 3 then some Try.f3 else bif f.beq 4 then some Try.f4 else bif f.beq 5 then some Try.f5 else bif f.beq 6 then some Try.f6 else bif f.beq 7 then some Try.f7 else bif f.beq 12 then some Try.f12 else bif f.beq 13 then some Try.f13 else bif f.beq 14 then some Try.f14 else bif f.beq 15 then some Try.f15 else bif f.beq 16 then some Try.f16 else bif f.beq 17 then some Try.f17 else bif f.beq 18 then some Try.f18 else bif f.beq 19 then some Try.f19 else bif f.beq 20 then some Try.f20 else bif f.beq 21 then some Try.f21 else bif f.beq 22 then some Try.f22 else bif f.beq 23 then some Try.f23 else bif f.beq 24 then some Try.f24 else bif f.beq 25 then some Try.f25 else bif f.beq 26 then some Try.f26 else bif f.beq 27 then some Try.f27 else bif f.beq 28 then some Try.f28 else bif f.beq 29 then some Try.f29 else bif f.beq 30 then some Try.f30 else bif f.beq 40 then some Try.f40 else bif f.beq 41 then some Try.f41 else bif f.beq 42 then some Try.f42 else bif f.beq 43 then some Try.f43 else bif f.beq 44 then some Try.f44 else bif f.beq 45 then some Try.f45 else bif f.beq 46 then some Try.f46 else bif f.beq 47 then some Try.f47 else bif f.beq 48 then some Try.f48 else bif f.beq 49 then some Try.f49 else bif f.beq 50 then some Try.f50 else bif f.beq 51 then some Try.f51 else bif f.beq 52 then some Try.f52 else bif f.beq 53 then some Try.f53 else bif f.beq 54 then some Try.f54 else bif f.beq 55 then some Try.f55 else bif f.beq 56 then some Try.f56 else bif f.beq 57 then some Try.f57 else bif f.beq 58 then some Try.f58 else bif f.beq 62 then some Try.f62 else bif f.beq 67 then some Try.f67 else bif f.beq 68 then some Try.f68 else bif f.beq 69 then some Try.f69 else bif f.beq 70 then some Try.f70 else bif f.beq 71 then some Try.f71 else bif f.beq 72 then some Try.f72 else bif f.beq 73 then some Try.f73 else bif f.beq 74 then some Try.f74 else bif f.beq 75 then some Try.f75 else bif f.beq 76 then some Try.f76 else bif f.beq 77 then some Try.f77 else bif f.beq 78 then some Try.f78 else bif f.beq 79 then some Try.f79 else bif f.beq 80 then some Try.f80 else bif f.beq 81 then some Try.f81 else bif f.beq 82 then some Try.f82 else bif f.beq 83 then some Try.f83 else bif f.beq 95 then some Try.f95 else bif f.beq 96 then some Try.f96 else bif f.beq 97 then some Try.f97 else bif f.beq 98 then some Try.f98 else bif f.beq 99 then some Try.f99 else bif f.beq 100 then some Try.f100 else bif f.beq 101 then some Try.f101 else bif f.beq 102 then some Try.f102 else bif f.beq 103 then some Try.f103 else bif f.beq 104 then some Try.f104 else bif f.beq 105 then some Try.f105 else bif f.beq 106 then some Try.f106 else bif f.beq 107 then some Try.f107 else bif f.beq 108 then some Try.f108 else bif f.beq 118 then some Try.f118 else bif f.beq 119 then some Try.f119 else bif f.beq 120 then some Try.f120 else bif f.beq 121 then some Try.f121 else bif f.beq 122 then some Try.f122 else bif f.beq 123 then some Try.f123 else bif f.beq 124 then some Try.f124 else none
def anns : FuncId → Nat → Option Ann := fun f => bif f.beq 3 then f3_ann else bif f.beq 4 then f4_ann else bif f.beq 5 then f5_ann else bif f.beq 6 then f6_ann else bif f.beq 7 then f7_ann else bif f.beq 12 then f12_ann else bif f.beq 13 then f13_ann else bif f.beq 14 then f14_ann else bif f.beq 15 then f15_ann else bif f.beq 16 then f16_ann else bif f.beq 17 then f17_ann else bif f.beq 18 then f18_ann else bif f.beq 19 then f19_ann else bif f.beq 20 then f20_ann else bif f.beq 21 then f21_ann else bif f.beq 22 then f22_ann else bif f.beq 23 then f23_ann else bif f.beq 24 then f24_ann else bif f.beq 25 then f25_ann else bif f.beq 26 then f26_ann else bif f.beq 27 then f27_ann else bif f.beq 28 then f28_ann else bif f.beq 29 then f29_ann else bif f.beq 30 then f30_ann else bif f.beq 40 then f40_ann else bif f.beq 41 then f41_ann else bif f.beq 42 then f42_ann else bif f.beq 43 then f43_ann else bif f.beq 44 then f44_ann else bif f.beq 45 then f45_ann else bif f.beq 46 then f46_ann else bif f.beq 47 then f47_ann else bif f.beq 48 then f48_ann else bif f.beq 49 then f49_ann else bif f.beq 50 then f50_ann else bif f.beq 51 then f51_ann else bif f.beq 52 then f52_ann else bif f.beq 53 then f53_ann else bif f.beq 54 then f54_ann else bif f.beq 55 then f55_ann else bif f.beq 56 then f56_ann else bif f.beq 57 then f57_ann else bif f.beq 58 then f58_ann else bif f.beq 62 then f62_ann else bif f.beq 67 then f67_ann else bif f.beq 68 then f68_ann else bif f.beq 69 then f69_ann else bif f.beq 70 then f70_ann else bif f.beq 71 then f71_ann else bif f.beq 72 then f72_ann else bif f.beq 73 then f73_ann else bif f.beq 74 then f74_ann else bif f.beq 75 then f75_ann else bif f.beq 76 then f76_ann else bif f.beq 77 then f77_ann else bif f.beq 78 then f78_ann else bif f.beq 79 then f79_ann else bif f.beq 80 then f80_ann else bif f.beq 81 then f81_ann else bif f.beq 82 then f82_ann else bif f.beq 83 then f83_ann else bif f.beq 95 then f95_ann else bif f.beq 96 then f96_ann else bif f.beq 97 then f97_ann else bif f.beq 98 then f98_ann else bif f.beq 99 then f99_ann else bif f.beq 100 then f100_ann else bif f.beq 101 then f101_ann else bif f.beq 102 then f102_ann else bif f.beq 103 then f103_ann else bif f.beq 104 then f104_ann else bif f.beq 105 then f105_ann else bif f.beq 106 then f106_ann else bif f.beq 107 then f107_ann else bif f.beq 108 then f108_ann else bif f.beq 118 then f118_ann else bif f.beq 119 then f119_ann else bif f.beq 120 then f120_ann else bif f.beq 121 then f121_ann else bif f.beq 122 then f122_ann else bif f.beq 123 then f123_ann else bif f.beq 124 then f124_ann else fun _ => none
def jns : FuncId → Nat → Option Ann := fun f => bif f.beq 3 then f3_jn else bif f.beq 4 then f4_jn else bif f.beq 5 then f5_jn else bif f.beq 6 then f6_jn else bif f.beq 7 then f7_jn else bif f.beq 12 then f12_jn else bif f.beq 13 then f13_jn else bif f.beq 14 then f14_jn else bif f.beq 15 then f15_jn else bif f.beq 16 then f16_jn else bif f.beq 17 then f17_jn else bif f.beq 18 then f18_jn else bif f.beq 19 then f19_jn else bif f.beq 20 then f20_jn else bif f.beq 21 then f21_jn else bif f.beq 22 then f22_jn else bif f.beq 23 then f23_jn else bif f.beq 24 then f24_jn else bif f.beq 25 then f25_jn else bif f.beq 26 then f26_jn else bif f.beq 27 then f27_jn else bif f.beq 28 then f28_jn else bif f.beq 29 then f29_jn else bif f.beq 30 then f30_jn else bif f.beq 40 then f40_jn else bif f.beq 41 then f41_jn else bif f.beq 42 then f42_jn else bif f.beq 43 then f43_jn else bif f.beq 44 then f44_jn else bif f.beq 45 then f45_jn else bif f.beq 46 then f46_jn else bif f.beq 47 then f47_jn else bif f.beq 48 then f48_jn else bif f.beq 49 then f49_jn else bif f.beq 50 then f50_jn else bif f.beq 51 then f51_jn else bif f.beq 52 then f52_jn else bif f.beq 53 then f53_jn else bif f.beq 54 then f54_jn else bif f.beq 55 then f55_jn else bif f.beq 56 then f56_jn else bif f.beq 57 then f57_jn else bif f.beq 58 then f58_jn else bif f.beq 62 then f62_jn else bif f.beq 67 then f67_jn else bif f.beq 68 then f68_jn else bif f.beq 69 then f69_jn else bif f.beq 70 then f70_jn else bif f.beq 71 then f71_jn else bif f.beq 72 then f72_jn else bif f.beq 73 then f73_jn else bif f.beq 74 then f74_jn else bif f.beq 75 then f75_jn else bif f.beq 76 then f76_jn else bif f.beq 77 then f77_jn else bif f.beq 78 then f78_jn else bif f.beq 79 then f79_jn else bif f.beq 80 then f80_jn else bif f.beq 81 then f81_jn else bif f.beq 82 then f82_jn else bif f.beq 83 then f83_jn else bif f.beq 95 then f95_jn else bif f.beq 96 then f96_jn else bif f.beq 97 then f97_jn else bif f.beq 98 then f98_jn else bif f.beq 99 then f99_jn else bif f.beq 100 then f100_jn else bif f.beq 101 then f101_jn else bif f.beq 102 then f102_jn else bif f.beq 103 then f103_jn else bif f.beq 104 then f104_jn else bif f.beq 105 then f105_jn else bif f.beq 106 then f106_jn else bif f.beq 107 then f107_jn else bif f.beq 108 then f108_jn else bif f.beq 118 then f118_jn else bif f.beq 119 then f119_jn else bif f.beq 120 then f120_jn else bif f.beq 121 then f121_jn else bif f.beq 122 then f122_jn else bif f.beq 123 then f123_jn else bif f.beq 124 then f124_jn else fun _ => none
def lent : FuncId → Option LentD := lookD []
def selfT (t : TypeId) : Bool := memB t []
def ext : FuncId → Option (List TV → Option TV) := fun f => none
def opn (f : FuncId) : Bool := memB f []
def lookK : List (Nat × List Nat) → Nat → Option (List Nat)
  | [], _ => none
  | (k, d) :: r, t => bif k.beq t then some d else lookK r t


















































































def kps : FuncId → Nat → Option (List Nat) := fun f => fun _ => none
noncomputable def prog : AProg := ⟨tab, pure, rts, fns, anns, jns, lent, selfT, ext, opn, kps⟩
end Go.Ab.H6

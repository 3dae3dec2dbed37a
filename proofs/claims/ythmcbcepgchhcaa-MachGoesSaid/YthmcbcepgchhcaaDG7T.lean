import Derived.Test.YthmcbcepgchhcaaDB0
import Derived.Test.YthmcbcepgchhcaaProg
set_option linter.unusedVariables false
namespace Go.Ab.G7
open Go.Ab Go.Proofs
def lookA : List (Nat × Ann) → Nat → Option Ann
 | [], _ => none
 | (k, d) :: r, t => bif k.beq t then some d else lookA r t
def z2 : List Value := [.int .i64 0]
def z3 : List Value := [.int .i64 0]
def z4 : List Value := [.bool false]
def z5 : List Value := [.int .u8 0]
def z6 : List Value := [.int .u8 0]
def z7 : List Value := [.int .i64 0, .int .i64 0, .bool false, .int .u8 0]
def z8 : List Value := [.int .i64 0, .int .i64 0, .bool false, .int .u8 0]
def z9 : List Value := [.string ⟨#[]⟩]
def z10 : List Value := [.string ⟨#[]⟩]
def z11 : List Value := [.string ⟨#[]⟩]
def z12 : List Value := [.int .u64 0]
def z13 : List Value := [.string ⟨#[]⟩, .int .u64 0]
def z14 : List Value := [.string ⟨#[]⟩, .int .u64 0]
def z15 : List Value := [.pointer none]
def z16 : List Value := [.pointer none]
def z17 : List Value := [.pointer none]
def z18 : List Value := [.pointer none]
def z19 : List Value := [.pointer none]
def z20 : List Value := [.nilIface]
def z21 : List Value := [.int .i32 0]
def z22 : List Value := [.slice none 0 0]
def z23 : List Value := [.slice none 0 0]
def z24 : List Value := [.slice none 0 0]
def z25 : List Value := [.slice none 0 0]
def z26 : List Value := [.nilFunc]
def z27 : List Value := [.nilFunc]
def z28 : List Value := [.slice none 0 0]
def z29 : List Value := [.int .u16 0]
def z30 : List Value := [.int .u16 0, .int .u16 0, .int .u16 0, .int .u16 0, .int .u16 0, .int .u16 0, .int .u16 0, .int .u16 0, .int .u16 0, .int .u16 0, .int .u16 0, .int .u16 0, .int .u16 0, .int .u16 0, .int .u16 0, .int .u16 0]
def z31 : List Value := [.slice none 0 0]
def z32 : List Value := [.slice none 0 0, .int .u16 0, .int .u16 0, .int .u16 0, .int .u16 0, .int .u16 0, .int .u16 0, .int .u16 0, .int .u16 0, .int .u16 0, .int .u16 0, .int .u16 0, .int .u16 0, .int .u16 0, .int .u16 0, .int .u16 0, .int .u16 0, .slice none 0 0, .slice none 0 0, .int .i64 0, .int .u16 0]
def z33 : List Value := [.slice none 0 0, .int .u16 0, .int .u16 0, .int .u16 0, .int .u16 0, .int .u16 0, .int .u16 0, .int .u16 0, .int .u16 0, .int .u16 0, .int .u16 0, .int .u16 0, .int .u16 0, .int .u16 0, .int .u16 0, .int .u16 0, .int .u16 0, .slice none 0 0, .slice none 0 0, .int .i64 0, .int .u16 0]
def z34 : List Value := [.int .i64 0]
def z36 : List Value := [.nilFunc]
def z37 : List Value := [.nilFunc]
def z38 : List Value := [.nilFunc]
def z39 : List Value := [.nilFunc]
def z40 : List Value := [.nilFunc]
def z41 : List Value := [.nilFunc]
def z42 : List Value := [.nilFunc]
def z43 : List Value := [.nilFunc]
def z44 : List Value := [.nilFunc]
def z45 : List Value := [.nilFunc]
def z46 : List Value := [.int .i64 0, .int .i64 0, .int .i64 0, .slice none 0 0, .int .u16 0]
def z47 : List Value := [.int .i64 0, .int .i64 0, .int .i64 0, .slice none 0 0, .int .u16 0]
def z48 : List Value := [.int .i64 0, .slice none 0 0, .bool false, .bool false]
def z49 : List Value := [.int .i64 0, .slice none 0 0, .bool false, .bool false]
def z50 : List Value := [.slice none 0 0]
def z51 : List Value := [.int .i64 0, .int .i64 0, .int .i64 0, .int .i64 0, .slice none 0 0, .int .i64 0, .int .i64 0, .int .i64 0]
def z52 : List Value := [.int .i64 0, .int .i64 0, .int .i64 0, .int .i64 0, .slice none 0 0, .int .i64 0, .int .i64 0, .int .i64 0]
def z53 : List Value := [.bool false, .int .i64 0, .slice none 0 0, .bool false, .bool false, .slice none 0 0, .int .i64 0, .int .i64 0, .int .i64 0, .int .i64 0, .slice none 0 0, .int .i64 0, .int .i64 0, .int .i64 0]
def z54 : List Value := [.bool false, .int .i64 0, .slice none 0 0, .bool false, .bool false, .slice none 0 0, .int .i64 0, .int .i64 0, .int .i64 0, .int .i64 0, .slice none 0 0, .int .i64 0, .int .i64 0, .int .i64 0]
def z55 : List Value := [.slice none 0 0]
def z56 : List Value := [.int .i64 0, .int .i64 0, .slice none 0 0]
def z57 : List Value := [.int .i64 0, .int .i64 0, .slice none 0 0]
def z58 : List Value := [.nilFunc]
def z59 : List Value := [.nilFunc]
def z60 : List Value := [.nilFunc]
def z61 : List Value := [.nilFunc]
def z62 : List Value := [.slice none 0 0]
def z63 : List Value := [.nilFunc]
def z64 : List Value := [.nilFunc]
def z65 : List Value := [.nilFunc]
def z66 : List Value := [.nilFunc]
def z67 : List Value := [.nilFunc]
def z68 : List Value := [.nilFunc]
def z69 : List Value := [.int .i64 0, .int .i64 0, .int .i64 0, .int .i64 0, .int .u16 0, .int .i64 0, .slice none 0 0]
def z70 : List Value := [.int .i64 0, .int .i64 0, .int .i64 0, .int .i64 0, .int .u16 0, .int .i64 0, .slice none 0 0]
def z71 : List Value := [.nilFunc]
def z72 : List Value := [.slice none 0 0, .int .u16 0, .int .u16 0, .int .u16 0, .int .u16 0, .int .u16 0, .int .u16 0, .int .u16 0, .int .u16 0, .int .u16 0, .int .u16 0, .int .u16 0, .int .u16 0, .int .u16 0, .int .u16 0, .int .u16 0, .int .u16 0, .slice none 0 0, .slice none 0 0, .int .i64 0, .int .u16 0, .slice none 0 0]
def z73 : List Value := [.slice none 0 0, .int .u16 0, .int .u16 0, .int .u16 0, .int .u16 0, .int .u16 0, .int .u16 0, .int .u16 0, .int .u16 0, .int .u16 0, .int .u16 0, .int .u16 0, .int .u16 0, .int .u16 0, .int .u16 0, .int .u16 0, .int .u16 0, .slice none 0 0, .slice none 0 0, .int .i64 0, .int .u16 0, .slice none 0 0]
def z74 : List Value := [.nilFunc]
def z75 : List Value := [.nilFunc]
def z76 : List Value := [.nilFunc]
def z77 : List Value := [.nilFunc]
def z78 : List Value := [.nilFunc]
def z79 : List Value := [.nilFunc]
def z80 : List Value := [.nilFunc]
def z81 : List Value := [.nilFunc]
def z82 : List Value := [.nilFunc]
def z83 : List Value := [.nilFunc]
def z84 : List Value := [.nilFunc]
def z85 : List Value := [.slice none 0 0]
def z86 : List Value := [.int .i64 0, .int .i64 0, .slice none 0 0, .slice none 0 0, .slice none 0 0, .slice none 0 0]
def z87 : List Value := [.int .i64 0, .int .i64 0, .slice none 0 0, .slice none 0 0, .slice none 0 0, .slice none 0 0]
def z88 : List Value := [.nilFunc]
def z89 : List Value := [.nilFunc]
def z91 : List Value := [.nilFunc]
def z92 : List Value := [.nilFunc]
def z93 : List Value := [.pointer none]
def z94 : List Value := [.pointer none]
def z95 : List Value := [.nilFunc]
def z96 : List Value := [.nilFunc]
def z97 : List Value := [.nilFunc]
def z98 : List Value := [.nilFunc]
def z99 : List Value := [.nilFunc]
def z100 : List Value := [.nilFunc]
def z101 : List Value := [.nilFunc]
def z103 : List Value := [.nilFunc]
def z105 : List Value := [.nilFunc]
def z106 : List Value := [.nilFunc]
def z107 : List Value := [.nilFunc]
def z108 : List Value := [.nilFunc]
def z109 : List Value := [.nilFunc]
def z110 : List Value := [.nilFunc]
def z111 : List Value := [.nilFunc]
def z112 : List Value := [.nilFunc]
def z113 : List Value := [.int .i64 0]
def z114 : List Value := [.nilFunc]
def z115 : List Value := [.nilFunc]
def z116 : List Value := [.nilFunc]
def z117 : List Value := [.nilFunc]
def z118 : List Value := [.pointer none]
def z119 : List Value := [.int .i64 0, .slice none 0 0]
def z120 : List Value := [.int .i64 0, .slice none 0 0]
def z121 : List Value := [.pointer none]
def z122 : List Value := [.nilFunc]
def z123 : List Value := [.nilFunc]
def z124 : List Value := [.nilFunc]
def z125 : List Value := [.nilFunc]
def z126 : List Value := [.nilFunc]
def z128 : List Value := [.nilFunc]
def z129 : List Value := [.nilFunc]
def z130 : List Value := [.nilFunc]
def z131 : List Value := [.nilFunc]
def z132 : List Value := [.nilFunc]
def z133 : List Value := [.slice none 0 0, .int .i64 0, .int .i64 0, .slice none 0 0]
def z134 : List Value := [.slice none 0 0, .int .i64 0, .int .i64 0, .slice none 0 0]
def z135 : List Value := [.nilFunc]
def z136 : List Value := [.pointer none]
def z137 : List Value := [.nilFunc]
def z138 : List Value := [.nilFunc]
def z139 : List Value := [.nilFunc]
def z140 : List Value := [.nilFunc]
def z142 : List Value := [.nilFunc]
def z143 : List Value := [.nilFunc]
def z144 : List Value := [.nilFunc]
def z145 : List Value := [.nilFunc]
def z147 : List Value := [.nilFunc]
def z148 : List Value := [.nilFunc]
def z149 : List Value := [.nilFunc]
def z150 : List Value := [.nilFunc]
def z151 : List Value := [.nilFunc]
def z152 : List Value := [.nilFunc]
def z153 : List Value := [.int .u64 0]
def z154 : List Value := [.nilFunc]
def z155 : List Value := [.nilFunc]
def z156 : List Value := [.nilFunc]
def z157 : List Value := [.nilFunc]
def z158 : List Value := [.nilFunc]
def z159 : List Value := [.nilFunc]
def z160 : List Value := [.nilFunc]
def z161 : List Value := [.nilFunc]
def z162 : List Value := [.pointer none, .pointer none, .pointer none, .string ⟨#[]⟩]
def z163 : List Value := [.pointer none, .pointer none, .pointer none, .string ⟨#[]⟩]
def z164 : List Value := []
def z165 : List Value := []
def z166 : List Value := []
def z167 : List Value := [.nilFunc]
def z168 : List Value := [.int .u32 0]
def z169 : List Value := [.int .u8 0]
def z170 : List Value := [.int .u8 0]
def z171 : List Value := [.nilFunc]
def z172 : List Value := [.pointer none]
def z173 : List Value := [.int .i32 0]
def z174 : List Value := [.int .i32 0]
def z175 : List Value := [.int .u64 0, .int .u64 0, .int .u32 0, .int .u8 0, .int .u8 0, .int .u8 0, .int .u8 0, .nilFunc, .pointer none, .int .i32 0, .int .i32 0]
def z176 : List Value := [.int .u64 0, .int .u64 0, .int .u32 0, .int .u8 0, .int .u8 0, .int .u8 0, .int .u8 0, .nilFunc, .pointer none, .int .i32 0, .int .i32 0]
def tab : Tab := lookT [
 (2, ⟨1, 8, .int .i64, z2, []⟩),
 (3, ⟨1, 8, .int .i64, z3, []⟩),
 (4, ⟨1, 1, .bool, z4, []⟩),
 (5, ⟨1, 1, .int .u8, z5, []⟩),
 (6, ⟨1, 1, .int .u8, z6, []⟩),
 (7, ⟨4, 24, .struct, z7, [(0, 2), (1, 3), (2, 4), (3, 6)]⟩),
 (8, ⟨4, 24, .struct, z8, [(0, 2), (1, 3), (2, 4), (3, 6)]⟩),
 (9, ⟨1, 16, .str, z9, []⟩),
 (10, ⟨1, 16, .str, z10, []⟩),
 (11, ⟨1, 16, .str, z11, []⟩),
 (12, ⟨1, 8, .int .u64, z12, []⟩),
 (13, ⟨2, 24, .struct, z13, [(0, 9), (1, 12)]⟩),
 (14, ⟨2, 24, .struct, z14, [(0, 9), (1, 12)]⟩),
 (15, ⟨1, 8, .ptr, z15, []⟩),
 (16, ⟨1, 8, .ptr, z16, []⟩),
 (17, ⟨1, 8, .ptr, z17, []⟩),
 (18, ⟨1, 8, .struct, z18, [(0, 17)]⟩),
 (19, ⟨1, 8, .struct, z19, [(0, 17)]⟩),
 (20, ⟨1, 16, .other, z20, []⟩),
 (21, ⟨1, 4, .int .i32, z21, []⟩),
 (22, ⟨1, 24, .slice 57, z22, []⟩),
 (23, ⟨1, 24, .struct, z23, [(0, 22)]⟩),
 (24, ⟨1, 24, .struct, z24, [(0, 22)]⟩),
 (25, ⟨1, 24, .slice 29, z25, []⟩),
 (26, ⟨1, 8, .other, z26, []⟩),
 (27, ⟨1, 8, .other, z27, []⟩),
 (28, ⟨1, 24, .slice 47, z28, []⟩),
 (29, ⟨1, 2, .int .u16, z29, []⟩),
 (30, ⟨16, 32, .arr 16 29, z30, []⟩),
 (31, ⟨1, 24, .slice 3, z31, []⟩),
 (32, ⟨21, 120, .struct, z32, [(0, 28), (1, 30), (17, 25), (18, 31), (19, 3), (20, 29)]⟩),
 (33, ⟨21, 120, .struct, z33, [(0, 28), (1, 30), (17, 25), (18, 31), (19, 3), (20, 29)]⟩),
 (34, ⟨1, 8, .int .i64, z34, []⟩),
 (36, ⟨1, 8, .other, z36, []⟩),
 (37, ⟨1, 8, .other, z37, []⟩),
 (38, ⟨1, 8, .other, z38, []⟩),
 (39, ⟨1, 8, .other, z39, []⟩),
 (40, ⟨1, 8, .other, z40, []⟩),
 (41, ⟨1, 8, .other, z41, []⟩),
 (42, ⟨1, 8, .other, z42, []⟩),
 (43, ⟨1, 8, .other, z43, []⟩),
 (44, ⟨1, 8, .other, z44, []⟩),
 (45, ⟨1, 8, .other, z45, []⟩),
 (46, ⟨5, 56, .struct, z46, [(0, 3), (1, 3), (2, 3), (3, 25), (4, 29)]⟩),
 (47, ⟨5, 56, .struct, z47, [(0, 3), (1, 3), (2, 3), (3, 25), (4, 29)]⟩),
 (48, ⟨4, 40, .struct, z48, [(0, 3), (1, 25), (2, 4), (3, 4)]⟩),
 (49, ⟨4, 40, .struct, z49, [(0, 3), (1, 25), (2, 4), (3, 4)]⟩),
 (50, ⟨1, 24, .slice 70, z50, []⟩),
 (51, ⟨8, 80, .struct, z51, [(0, 3), (1, 3), (2, 3), (3, 3), (4, 31), (5, 3), (6, 3), (7, 3)]⟩),
 (52, ⟨8, 80, .struct, z52, [(0, 3), (1, 3), (2, 3), (3, 3), (4, 31), (5, 3), (6, 3), (7, 3)]⟩),
 (53, ⟨14, 152, .struct, z53, [(0, 4), (1, 49), (5, 50), (6, 52)]⟩),
 (54, ⟨14, 152, .struct, z54, [(0, 4), (1, 49), (5, 50), (6, 52)]⟩),
 (55, ⟨1, 24, .slice 54, z55, []⟩),
 (56, ⟨3, 40, .struct, z56, [(0, 3), (1, 3), (2, 55)]⟩),
 (57, ⟨3, 40, .struct, z57, [(0, 3), (1, 3), (2, 55)]⟩),
 (58, ⟨1, 8, .other, z58, []⟩),
 (59, ⟨1, 8, .other, z59, []⟩),
 (60, ⟨1, 8, .other, z60, []⟩),
 (61, ⟨1, 8, .other, z61, []⟩),
 (62, ⟨1, 24, .slice 4, z62, []⟩),
 (63, ⟨1, 8, .other, z63, []⟩),
 (64, ⟨1, 8, .other, z64, []⟩),
 (65, ⟨1, 8, .other, z65, []⟩),
 (66, ⟨1, 8, .other, z66, []⟩),
 (67, ⟨1, 8, .other, z67, []⟩),
 (68, ⟨1, 8, .other, z68, []⟩),
 (69, ⟨7, 72, .struct, z69, [(0, 3), (1, 3), (2, 3), (3, 3), (4, 29), (5, 3), (6, 31)]⟩),
 (70, ⟨7, 72, .struct, z70, [(0, 3), (1, 3), (2, 3), (3, 3), (4, 29), (5, 3), (6, 31)]⟩),
 (71, ⟨1, 8, .other, z71, []⟩),
 (72, ⟨22, 144, .struct, z72, [(0, 33), (21, 24)]⟩),
 (73, ⟨22, 144, .struct, z73, [(0, 33), (21, 24)]⟩),
 (74, ⟨1, 8, .other, z74, []⟩),
 (75, ⟨1, 8, .other, z75, []⟩),
 (76, ⟨1, 8, .other, z76, []⟩),
 (77, ⟨1, 8, .other, z77, []⟩),
 (78, ⟨1, 8, .other, z78, []⟩),
 (79, ⟨1, 8, .other, z79, []⟩),
 (80, ⟨1, 8, .other, z80, []⟩),
 (81, ⟨1, 8, .other, z81, []⟩),
 (82, ⟨1, 8, .other, z82, []⟩),
 (83, ⟨1, 8, .other, z83, []⟩),
 (84, ⟨1, 8, .other, z84, []⟩),
 (85, ⟨1, 24, .slice 120, z85, []⟩),
 (86, ⟨6, 112, .struct, z86, [(0, 57), (3, 62), (4, 85), (5, 31)]⟩),
 (87, ⟨6, 112, .struct, z87, [(0, 57), (3, 62), (4, 85), (5, 31)]⟩),
 (88, ⟨1, 8, .other, z88, []⟩),
 (89, ⟨1, 8, .other, z89, []⟩),
 (91, ⟨1, 8, .other, z91, []⟩),
 (92, ⟨1, 8, .other, z92, []⟩),
 (93, ⟨1, 8, .ptr, z93, []⟩),
 (94, ⟨1, 8, .ptr, z94, []⟩),
 (95, ⟨1, 8, .other, z95, []⟩),
 (96, ⟨1, 8, .other, z96, []⟩),
 (97, ⟨1, 8, .other, z97, []⟩),
 (98, ⟨1, 8, .other, z98, []⟩),
 (99, ⟨1, 8, .other, z99, []⟩),
 (100, ⟨1, 8, .other, z100, []⟩),
 (101, ⟨1, 8, .other, z101, []⟩),
 (103, ⟨1, 8, .other, z103, []⟩),
 (105, ⟨1, 8, .other, z105, []⟩),
 (106, ⟨1, 8, .other, z106, []⟩),
 (107, ⟨1, 8, .other, z107, []⟩),
 (108, ⟨1, 8, .other, z108, []⟩),
 (109, ⟨1, 8, .other, z109, []⟩),
 (110, ⟨1, 8, .other, z110, []⟩),
 (111, ⟨1, 8, .other, z111, []⟩),
 (112, ⟨1, 8, .other, z112, []⟩),
 (113, ⟨1, 8, .int .i64, z113, []⟩),
 (114, ⟨1, 8, .other, z114, []⟩),
 (115, ⟨1, 8, .other, z115, []⟩),
 (116, ⟨1, 8, .other, z116, []⟩),
 (117, ⟨1, 8, .other, z117, []⟩),
 (118, ⟨1, 8, .ptr, z118, []⟩),
 (119, ⟨2, 32, .struct, z119, [(0, 3), (1, 31)]⟩),
 (120, ⟨2, 32, .struct, z120, [(0, 3), (1, 31)]⟩),
 (121, ⟨1, 8, .ptr, z121, []⟩),
 (122, ⟨1, 8, .other, z122, []⟩),
 (123, ⟨1, 8, .other, z123, []⟩),
 (124, ⟨1, 8, .other, z124, []⟩),
 (125, ⟨1, 8, .other, z125, []⟩),
 (126, ⟨1, 8, .other, z126, []⟩),
 (128, ⟨1, 8, .other, z128, []⟩),
 (129, ⟨1, 8, .other, z129, []⟩),
 (130, ⟨1, 8, .other, z130, []⟩),
 (131, ⟨1, 8, .other, z131, []⟩),
 (132, ⟨1, 8, .other, z132, []⟩),
 (133, ⟨4, 64, .struct, z133, [(0, 22), (1, 57)]⟩),
 (134, ⟨4, 64, .struct, z134, [(0, 22), (1, 57)]⟩),
 (135, ⟨1, 8, .other, z135, []⟩),
 (136, ⟨1, 8, .ptr, z136, []⟩),
 (137, ⟨1, 8, .other, z137, []⟩),
 (138, ⟨1, 8, .other, z138, []⟩),
 (139, ⟨1, 8, .other, z139, []⟩),
 (140, ⟨1, 8, .other, z140, []⟩),
 (142, ⟨1, 8, .other, z142, []⟩),
 (143, ⟨1, 8, .other, z143, []⟩),
 (144, ⟨1, 8, .other, z144, []⟩),
 (145, ⟨1, 8, .other, z145, []⟩),
 (147, ⟨1, 8, .other, z147, []⟩),
 (148, ⟨1, 8, .other, z148, []⟩),
 (149, ⟨1, 8, .other, z149, []⟩),
 (150, ⟨1, 8, .other, z150, []⟩),
 (151, ⟨1, 8, .other, z151, []⟩),
 (152, ⟨1, 8, .other, z152, []⟩),
 (153, ⟨1, 8, .int .u64, z153, []⟩),
 (154, ⟨1, 8, .other, z154, []⟩),
 (155, ⟨1, 8, .other, z155, []⟩),
 (156, ⟨1, 8, .other, z156, []⟩),
 (157, ⟨1, 8, .other, z157, []⟩),
 (158, ⟨1, 8, .other, z158, []⟩),
 (159, ⟨1, 8, .other, z159, []⟩),
 (160, ⟨1, 8, .other, z160, []⟩),
 (161, ⟨1, 8, .other, z161, []⟩),
 (162, ⟨4, 40, .struct, z162, [(0, 17), (1, 17), (2, 17), (3, 9)]⟩),
 (163, ⟨4, 40, .struct, z163, [(0, 17), (1, 17), (2, 17), (3, 9)]⟩),
 (164, ⟨0, 0, .arr 0 16, z164, []⟩),
 (165, ⟨0, 0, .struct, z165, [(0, 164)]⟩),
 (166, ⟨0, 0, .struct, z166, [(0, 164)]⟩),
 (167, ⟨1, 8, .other, z167, []⟩),
 (168, ⟨1, 4, .int .u32, z168, []⟩),
 (169, ⟨1, 1, .int .u8, z169, []⟩),
 (170, ⟨1, 1, .int .u8, z170, []⟩),
 (171, ⟨1, 8, .other, z171, []⟩),
 (172, ⟨1, 8, .ptr, z172, []⟩),
 (173, ⟨1, 4, .int .i32, z173, []⟩),
 (174, ⟨1, 4, .int .i32, z174, []⟩),
 (175, ⟨11, 48, .struct, z175, [(0, 12), (1, 12), (2, 168), (3, 169), (4, 5), (5, 5), (6, 170), (7, 171), (8, 172), (9, 173), (10, 174)]⟩),
 (176, ⟨11, 48, .struct, z176, [(0, 12), (1, 12), (2, 168), (3, 169), (4, 5), (5, 5), (6, 170), (7, 171), (8, 172), (9, 173), (10, 174)]⟩)]
def pure (f : FuncId) : Bool := memB f [63, 93, 85, 54, 99, 101, 73, 55, 44, 35, 13, 19, 46]
def lookL : List (Nat × List Nat) → Nat → List Nat
 | [], _ => []
 | (k, d) :: r, t => bif k.beq t then d else lookL r t
def rts : FuncId → List TypeId := lookL [(3, [4]), (4, [4]), (5, [4]), (6, [4]), (7, [4]), (8, [4]), (9, [4]), (10, [4]), (11, [4]), (12, [4]), (13, [33, 34]), (14, [4]), (15, [4]), (16, [33]), (17, [4]), (18, [4]), (19, [33, 34]), (20, [4]), (21, [4]), (22, [4]), (23, [4]), (24, [31]), (25, [31]), (26, [31]), (27, [31]), (28, [4]), (29, [62]), (30, [62]), (31, [31]), (32, [31]), (33, [4]), (34, [4]), (35, [33, 34]), (36, []), (37, [4]), (38, [4]), (39, [33]), (40, [33]), (41, [4]), (42, [4]), (43, [4]), (44, [33]), (45, [4]), (46, [31]), (47, [31]), (48, [4]), (49, [4]), (50, [62]), (51, []), (52, []), (53, []), (54, [47, 34]), (55, [25]), (56, [94]), (57, [54]), (58, []), (59, []), (60, [4]), (61, [4]), (62, [4]), (63, [47, 3]), (64, [54, 4]), (65, [33]), (66, [33]), (67, [33]), (68, [33]), (69, [33]), (70, [4]), (71, [4]), (72, [28]), (73, [31]), (74, [113]), (75, [4]), (76, [3]), (77, [3]), (78, []), (79, []), (80, []), (81, []), (82, []), (83, []), (84, []), (85, [47]), (86, []), (87, [4]), (88, [4]), (89, [4]), (90, [4]), (91, [47, 4]), (92, [33]), (93, [47]), (94, [4]), (95, [47, 3]), (96, [4]), (97, [136]), (98, []), (99, [47, 4]), (100, []), (101, [47]), (102, [4]), (103, [49, 4]), (104, [4]), (105, []), (106, [4]), (107, [29, 4]), (108, [4]), (109, [4]), (110, [4]), (111, [4]), (112, [29, 4]), (113, [4]), (114, [4]), (115, [4]), (116, [113]), (117, [4]), (118, [4]), (119, [4]), (120, [29, 4]), (121, [3]), (122, [4]), (123, [29, 4]), (124, [29])]
def f3_ann : Nat → Option Ann := lookA []
def f3_jn : Nat → Option Ann := lookA [(5, ⟨[1, 2, 3], [], [], [], []⟩), (7, ⟨[1, 2, 3, 7, 8, 36], [], [], [], []⟩)]
def f4_ann : Nat → Option Ann := lookA [(18, ⟨[1, 10, 18, 19], [], [], [], []⟩)]
def f4_jn : Nat → Option Ann := lookA [(9, ⟨[1, 4, 9, 10, 11, 12, 13, 52], [], [], [], []⟩), (12, ⟨[1, 4, 9, 10], [], [], [], []⟩), (24, ⟨[1, 10, 18], [], [], [], []⟩)]
def f5_ann : Nat → Option Ann := lookA []
def f5_jn : Nat → Option Ann := lookA [(9, ⟨[2, 4, 10, 11, 12, 13, 53], [], [], [], []⟩)]
def f6_ann : Nat → Option Ann := lookA [(14, ⟨[3, 7, 9, 10, 11, 13], [], [], [], []⟩)]
def f6_jn : Nat → Option Ann := lookA [(18, ⟨[3, 7, 9, 10, 11], [], [], [], []⟩), (19, ⟨[3, 7, 9, 10, 11, 109], [], [], [], []⟩), (24, ⟨[3, 7, 11, 14, 128], [], [], [], []⟩)]
def f7_ann : Nat → Option Ann := lookA []
def f7_jn : Nat → Option Ann := lookA []
def f8_ann : Nat → Option Ann := lookA [(10, ⟨[1, 3, 4, 5, 6], [3, 4], [], [], []⟩), (16, ⟨[1, 3, 4, 5, 6, 7, 8], [3, 4, 7], [], [], []⟩), (21, ⟨[1, 3, 4, 5, 9], [3, 4], [], [], []⟩), (27, ⟨[1, 3, 4, 5, 9, 10, 11], [3, 4], [], [], []⟩)]
def f8_jn : Nat → Option Ann := lookA [(4, ⟨[1, 23], [], [], [], []⟩), (14, ⟨[1, 3, 4, 5, 6], [3, 4], [], [], []⟩), (20, ⟨[1, 3, 4, 5], [3, 4], [], [], []⟩), (30, ⟨[1, 3, 4, 5, 9, 10], [3, 4], [], [], []⟩), (32, ⟨[3, 5], [3], [], [], []⟩)]
def f9_ann : Nat → Option Ann := lookA [(9, ⟨[3, 7, 9], [], [], [], []⟩)]
def f9_jn : Nat → Option Ann := lookA []
def f10_ann : Nat → Option Ann := lookA [(17, ⟨[9, 12, 13, 14], [9, 12, 13], [], [], []⟩)]
def f10_jn : Nat → Option Ann := lookA [(17, ⟨[9, 12, 13, 14], [9, 12, 13], [], [], []⟩)]
def f11_ann : Nat → Option Ann := lookA []
def f11_jn : Nat → Option Ann := lookA []
def f12_ann : Nat → Option Ann := lookA []
def f12_jn : Nat → Option Ann := lookA []
def f13_ann : Nat → Option Ann := lookA [(5, ⟨[2, 6, 10], [], [(10, 21)], [6], []⟩)]
def f13_jn : Nat → Option Ann := lookA [(8, ⟨[6, 10], [], [], [6], []⟩)]
def f14_ann : Nat → Option Ann := lookA [(4, ⟨[1, 3], [], [], [], []⟩)]
def f14_jn : Nat → Option Ann := lookA []
def f15_ann : Nat → Option Ann := lookA [(4, ⟨[2, 3, 5], [], [], [], []⟩)]
def f15_jn : Nat → Option Ann := lookA []
def f16_ann : Nat → Option Ann := lookA [(3, ⟨[2, 3, 6, 7, 8], [], [], [6], []⟩)]
def f16_jn : Nat → Option Ann := lookA []
def f17_ann : Nat → Option Ann := lookA []
def f17_jn : Nat → Option Ann := lookA []
def f18_ann : Nat → Option Ann := lookA [(6, ⟨[2, 3, 36, 37, 38], [], [], [], []⟩)]
def f18_jn : Nat → Option Ann := lookA [(5, ⟨[2, 3], [], [], [], []⟩)]
def f19_ann : Nat → Option Ann := lookA []
def f19_jn : Nat → Option Ann := lookA [(6, ⟨[4, 6], [], [(6, 0), (6, 17), (6, 18), (6, 21)], [4], []⟩)]
def f20_ann : Nat → Option Ann := lookA []
def f20_jn : Nat → Option Ann := lookA []
def f21_ann : Nat → Option Ann := lookA [(4, ⟨[2, 3, 5], [], [], [], []⟩)]
def f21_jn : Nat → Option Ann := lookA []
def f22_ann : Nat → Option Ann := lookA []
def f22_jn : Nat → Option Ann := lookA []
def f23_ann : Nat → Option Ann := lookA [(4, ⟨[0, 1, 5], [], [], [], []⟩)]
def f23_jn : Nat → Option Ann := lookA []
def f24_ann : Nat → Option Ann := lookA []
def f24_jn : Nat → Option Ann := lookA [(7, ⟨[2, 6], [6], [], [], []⟩)]
def f25_ann : Nat → Option Ann := lookA [(13, ⟨[2, 6, 7, 8], [6, 7], [], [], []⟩)]
def f25_jn : Nat → Option Ann := lookA [(6, ⟨[2, 5, 6, 36], [6], [], [], []⟩), (8, ⟨[2, 5, 6, 44], [6], [], [], []⟩), (10, ⟨[2, 5, 6, 52], [6], [], [], []⟩), (13, ⟨[2, 6, 7, 8], [6, 7], [], [], []⟩)]
def f26_ann : Nat → Option Ann := lookA [(3, ⟨[1, 2, 5, 9, 10], [5], [], [], []⟩)]
def f26_jn : Nat → Option Ann := lookA []
def f27_ann : Nat → Option Ann := lookA [(3, ⟨[1, 2, 5, 6], [5], [], [], []⟩)]
def f27_jn : Nat → Option Ann := lookA []
def f28_ann : Nat → Option Ann := lookA [(4, ⟨[0, 1, 5], [], [], [], []⟩)]
def f28_jn : Nat → Option Ann := lookA []
def f29_ann : Nat → Option Ann := lookA [(3, ⟨[3, 11, 12, 13], [3, 11], [], [], []⟩)]
def f29_jn : Nat → Option Ann := lookA []
def f30_ann : Nat → Option Ann := lookA []
def f30_jn : Nat → Option Ann := lookA []
def f31_ann : Nat → Option Ann := lookA [(5, ⟨[3], [], [], [], []⟩)]
def f31_jn : Nat → Option Ann := lookA []
def f32_ann : Nat → Option Ann := lookA [(7, ⟨[1, 3, 4, 5, 6], [3, 4, 5, 6], [], [], []⟩)]
def f32_jn : Nat → Option Ann := lookA [(7, ⟨[1, 3, 4, 5, 6], [3, 4, 5, 6], [], [], []⟩)]
def f33_ann : Nat → Option Ann := lookA [(2, ⟨[0, 1, 5], [], [], [], []⟩)]
def f33_jn : Nat → Option Ann := lookA []
def f34_ann : Nat → Option Ann := lookA [(5, ⟨[1, 3, 4], [], [], [], []⟩), (10, ⟨[1, 3, 4, 5], [], [], [], []⟩), (17, ⟨[1, 3, 4, 5, 6, 7], [], [], [], []⟩)]
def f34_jn : Nat → Option Ann := lookA []
def f35_ann : Nat → Option Ann := lookA []
def f35_jn : Nat → Option Ann := lookA []
def f36_ann : Nat → Option Ann := lookA []
def f36_jn : Nat → Option Ann := lookA [(1, ⟨[0, 2], [], [], [], [(0, 21)]⟩)]
def f37_ann : Nat → Option Ann := lookA [(4, ⟨[2, 3, 5], [], [], [], []⟩), (10, ⟨[2, 3, 5, 6, 7], [], [], [], []⟩)]
def f37_jn : Nat → Option Ann := lookA []
def f38_ann : Nat → Option Ann := lookA [(4, ⟨[0, 1, 5], [], [], [], []⟩)]
def f38_jn : Nat → Option Ann := lookA []
def f39_ann : Nat → Option Ann := lookA []
def f39_jn : Nat → Option Ann := lookA []
def f40_ann : Nat → Option Ann := lookA []
def f40_jn : Nat → Option Ann := lookA [(21, ⟨[3, 4, 5], [], [], [4], []⟩)]
def f41_ann : Nat → Option Ann := lookA [(4, ⟨[1, 24, 25, 26], [], [], [], []⟩)]
def f41_jn : Nat → Option Ann := lookA []
def f42_ann : Nat → Option Ann := lookA []
def f42_jn : Nat → Option Ann := lookA []
def f43_ann : Nat → Option Ann := lookA []
def f43_jn : Nat → Option Ann := lookA []
def f44_ann : Nat → Option Ann := lookA [(3, ⟨[1, 2, 10, 11], [], [], [2], []⟩)]
def f44_jn : Nat → Option Ann := lookA [(7, ⟨[1, 2], [], [], [2], []⟩)]
def f45_ann : Nat → Option Ann := lookA []
def f45_jn : Nat → Option Ann := lookA []
def f46_ann : Nat → Option Ann := lookA []
def f46_jn : Nat → Option Ann := lookA [(6, ⟨[1, 4, 18], [4], [], [], []⟩)]
def f47_ann : Nat → Option Ann := lookA [(5, ⟨[0, 1, 5, 6], [], [], [], []⟩)]
def f47_jn : Nat → Option Ann := lookA [(11, ⟨[0, 5], [], [], [], []⟩)]
def f48_ann : Nat → Option Ann := lookA []
def f48_jn : Nat → Option Ann := lookA []
def f49_ann : Nat → Option Ann := lookA []
def f49_jn : Nat → Option Ann := lookA []
def f50_ann : Nat → Option Ann := lookA [(6, ⟨[1, 2, 5, 6], [5], [], [], []⟩), (9, ⟨[1, 2, 5, 6, 7], [5], [], [], []⟩), (13, ⟨[1, 2, 5, 6, 7, 8, 9], [5, 8], [], [], []⟩)]
def f50_jn : Nat → Option Ann := lookA []
def f51_ann : Nat → Option Ann := lookA []
def f51_jn : Nat → Option Ann := lookA []
def f52_ann : Nat → Option Ann := lookA []
def f52_jn : Nat → Option Ann := lookA []
def f53_ann : Nat → Option Ann := lookA [(1, ⟨[0, 2, 3], [], [], [], []⟩)]
def f53_jn : Nat → Option Ann := lookA []
def f54_ann : Nat → Option Ann := lookA []
def f54_jn : Nat → Option Ann := lookA []
def f55_ann : Nat → Option Ann := lookA []
def f55_jn : Nat → Option Ann := lookA []
def f56_ann : Nat → Option Ann := lookA []
def f56_jn : Nat → Option Ann := lookA []
def f57_ann : Nat → Option Ann := lookA []
def f57_jn : Nat → Option Ann := lookA []
def f58_ann : Nat → Option Ann := lookA []
def f58_jn : Nat → Option Ann := lookA []
def f59_ann : Nat → Option Ann := lookA []
def f59_jn : Nat → Option Ann := lookA [(9, ⟨[1, 5], [], [], [], []⟩)]
def f60_ann : Nat → Option Ann := lookA [(5, ⟨[2, 5, 6], [], [], [], []⟩), (10, ⟨[2, 5, 6, 7], [], [], [], []⟩)]
def f60_jn : Nat → Option Ann := lookA [(14, ⟨[2, 5], [], [], [], []⟩)]
def f61_ann : Nat → Option Ann := lookA []
def f61_jn : Nat → Option Ann := lookA [(4, ⟨[3, 4, 5, 7, 8, 9, 40], [], [], [], []⟩), (6, ⟨[3, 4, 5, 7, 8, 9, 40, 41], [], [], [], []⟩)]
def f62_ann : Nat → Option Ann := lookA []
def f62_jn : Nat → Option Ann := lookA [(7, ⟨[3, 4, 5, 7, 8, 9, 26, 51], [], [], [], []⟩), (14, ⟨[3, 4, 5, 7, 8, 9, 26, 72], [], [], [], []⟩)]
def f63_ann : Nat → Option Ann := lookA [(5, ⟨[1, 2, 3, 6, 8, 9], [], [(8, 3)], [6], []⟩)]
def f63_jn : Nat → Option Ann := lookA []
def f64_ann : Nat → Option Ann := lookA []
def f64_jn : Nat → Option Ann := lookA []
def f65_ann : Nat → Option Ann := lookA []
def f65_jn : Nat → Option Ann := lookA [(9, ⟨[5, 6, 7, 8, 45], [], [], [8], []⟩), (16, ⟨[5, 6, 7, 8, 79], [], [(6, 3)], [8], []⟩), (18, ⟨[5, 6, 7, 8, 96], [], [(5, 18), (6, 3)], [8], []⟩), (23, ⟨[5, 6, 8], [], [(6, 3)], [8], []⟩)]
def f66_ann : Nat → Option Ann := lookA []
def f66_jn : Nat → Option Ann := lookA [(12, ⟨[4, 6, 7], [], [], [6], []⟩)]
def f67_ann : Nat → Option Ann := lookA [(6, ⟨[2, 3, 4, 5, 8, 9, 10, 11], [10], [], [8], []⟩)]
def f67_jn : Nat → Option Ann := lookA [(9, ⟨[2, 4, 5, 8, 10], [10], [], [8], []⟩), (10, ⟨[5, 8, 12], [], [], [8], [(12, 3)]⟩)]
def f68_ann : Nat → Option Ann := lookA [(3, ⟨[2, 3, 4, 6, 7], [], [], [6], []⟩), (7, ⟨[2, 3, 4, 6, 8], [], [], [6], []⟩)]
def f68_jn : Nat → Option Ann := lookA [(9, ⟨[2, 3, 4, 6, 8], [], [], [6], []⟩), (13, ⟨[2, 4, 6], [], [], [6], []⟩)]
def f69_ann : Nat → Option Ann := lookA []
def f69_jn : Nat → Option Ann := lookA []
def f70_ann : Nat → Option Ann := lookA [(7, ⟨[5, 50, 51, 52], [], [], [], []⟩)]
def f70_jn : Nat → Option Ann := lookA []
def f71_ann : Nat → Option Ann := lookA []
def f71_jn : Nat → Option Ann := lookA []
def f72_ann : Nat → Option Ann := lookA []
def f72_jn : Nat → Option Ann := lookA []
def f73_ann : Nat → Option Ann := lookA []
def f73_jn : Nat → Option Ann := lookA []
def f74_ann : Nat → Option Ann := lookA []
def f74_jn : Nat → Option Ann := lookA []
def f75_ann : Nat → Option Ann := lookA []
def f75_jn : Nat → Option Ann := lookA []
def f76_ann : Nat → Option Ann := lookA [(2, ⟨[0, 1, 7, 8], [], [], [], []⟩)]
def f76_jn : Nat → Option Ann := lookA []
def f77_ann : Nat → Option Ann := lookA [(2, ⟨[0, 1, 7, 8], [], [], [], []⟩)]
def f77_jn : Nat → Option Ann := lookA []
def f78_ann : Nat → Option Ann := lookA []
def f78_jn : Nat → Option Ann := lookA []
def f79_ann : Nat → Option Ann := lookA []
def f79_jn : Nat → Option Ann := lookA []
def f80_ann : Nat → Option Ann := lookA []
def f80_jn : Nat → Option Ann := lookA []
def f81_ann : Nat → Option Ann := lookA [(4, ⟨[0, 1, 2, 8, 30, 31, 32], [8], [], [], []⟩)]
def f81_jn : Nat → Option Ann := lookA [(8, ⟨[0, 2, 8], [8], [], [], []⟩)]
def f82_ann : Nat → Option Ann := lookA []
def f82_jn : Nat → Option Ann := lookA []
def f83_ann : Nat → Option Ann := lookA []
def f83_jn : Nat → Option Ann := lookA []
def f84_ann : Nat → Option Ann := lookA []
def f84_jn : Nat → Option Ann := lookA []
def f85_ann : Nat → Option Ann := lookA []
def f85_jn : Nat → Option Ann := lookA []
def f86_ann : Nat → Option Ann := lookA [(3, ⟨[0, 1], [], [], [], []⟩)]
def f86_jn : Nat → Option Ann := lookA [(6, ⟨[0, 1, 4, 5, 35], [], [], [], []⟩)]
def f87_ann : Nat → Option Ann := lookA []
def f87_jn : Nat → Option Ann := lookA []
def f88_ann : Nat → Option Ann := lookA []
def f88_jn : Nat → Option Ann := lookA []
def f89_ann : Nat → Option Ann := lookA [(4, ⟨[3, 5, 9], [], [], [], []⟩)]
def f89_jn : Nat → Option Ann := lookA []
def f90_ann : Nat → Option Ann := lookA []
def f90_jn : Nat → Option Ann := lookA []
def f91_ann : Nat → Option Ann := lookA []
def f91_jn : Nat → Option Ann := lookA [(9, ⟨[2, 3, 4, 7, 51], [], [], [4], []⟩), (10, ⟨[2, 3, 4, 7], [], [], [4], []⟩), (14, ⟨[2, 3, 4, 6], [], [], [4], []⟩)]
def f92_ann : Nat → Option Ann := lookA []
def f92_jn : Nat → Option Ann := lookA []
def f93_ann : Nat → Option Ann := lookA []
def f93_jn : Nat → Option Ann := lookA []
def f94_ann : Nat → Option Ann := lookA []
def f94_jn : Nat → Option Ann := lookA []
def f95_ann : Nat → Option Ann := lookA []
def f95_jn : Nat → Option Ann := lookA []
def f96_ann : Nat → Option Ann := lookA [(4, ⟨[2, 3, 21, 22, 23], [], [], [], []⟩)]
def f96_jn : Nat → Option Ann := lookA [(9, ⟨[2, 3], [], [], [], []⟩)]
def f97_ann : Nat → Option Ann := lookA []
def f97_jn : Nat → Option Ann := lookA []
def f98_ann : Nat → Option Ann := lookA []
def f98_jn : Nat → Option Ann := lookA []
def f99_ann : Nat → Option Ann := lookA []
def f99_jn : Nat → Option Ann := lookA []
def f100_ann : Nat → Option Ann := lookA []
def f100_jn : Nat → Option Ann := lookA []
def f101_ann : Nat → Option Ann := lookA []
def f101_jn : Nat → Option Ann := lookA []
def f102_ann : Nat → Option Ann := lookA [(2, ⟨[0, 1, 13, 14, 15], [], [], [], []⟩)]
def f102_jn : Nat → Option Ann := lookA []
def f103_ann : Nat → Option Ann := lookA []
def f103_jn : Nat → Option Ann := lookA []
def f104_ann : Nat → Option Ann := lookA []
def f104_jn : Nat → Option Ann := lookA []
def f105_ann : Nat → Option Ann := lookA []
def f105_jn : Nat → Option Ann := lookA []
def f106_ann : Nat → Option Ann := lookA []
def f106_jn : Nat → Option Ann := lookA []
def f107_ann : Nat → Option Ann := lookA []
def f107_jn : Nat → Option Ann := lookA [(12, ⟨[0, 8, 9], [], [], [], []⟩), (14, ⟨[0], [], [], [], []⟩)]
def f108_ann : Nat → Option Ann := lookA [(2, ⟨[1, 2, 5], [], [], [], []⟩)]
def f108_jn : Nat → Option Ann := lookA []
def f109_ann : Nat → Option Ann := lookA []
def f109_jn : Nat → Option Ann := lookA []
def f110_ann : Nat → Option Ann := lookA []
def f110_jn : Nat → Option Ann := lookA []
def f111_ann : Nat → Option Ann := lookA []
def f111_jn : Nat → Option Ann := lookA []
def f112_ann : Nat → Option Ann := lookA []
def f112_jn : Nat → Option Ann := lookA []
def f113_ann : Nat → Option Ann := lookA []
def f113_jn : Nat → Option Ann := lookA []
def f114_ann : Nat → Option Ann := lookA []
def f114_jn : Nat → Option Ann := lookA []
def f115_ann : Nat → Option Ann := lookA [(2, ⟨[0, 5, 6, 7], [], [], [], []⟩)]
def f115_jn : Nat → Option Ann := lookA []
def f116_ann : Nat → Option Ann := lookA []
def f116_jn : Nat → Option Ann := lookA []
def f117_ann : Nat → Option Ann := lookA [(6, ⟨[4, 40, 41, 42], [], [], [], []⟩)]
def f117_jn : Nat → Option Ann := lookA []
def f118_ann : Nat → Option Ann := lookA []
def f118_jn : Nat → Option Ann := lookA []
def f119_ann : Nat → Option Ann := lookA []
def f119_jn : Nat → Option Ann := lookA []
def f120_ann : Nat → Option Ann := lookA []
def f120_jn : Nat → Option Ann := lookA []
def f121_ann : Nat → Option Ann := lookA [(2, ⟨[0, 1, 7, 8], [], [], [], []⟩)]
def f121_jn : Nat → Option Ann := lookA []
def f122_ann : Nat → Option Ann := lookA []
def f122_jn : Nat → Option Ann := lookA []
def f123_ann : Nat → Option Ann := lookA []
def f123_jn : Nat → Option Ann := lookA []
def f124_ann : Nat → Option Ann := lookA []
def f124_jn : Nat → Option Ann := lookA []
noncomputable def fns : FuncId → Option Func := fun f => bif f.beq 3 then some Try.f3 else bif f.beq 4 then some Try.f4 else bif f.beq 5 then some Try.f5 else bif f.beq 6 then some Try.f6 else bif f.beq 7 then some Try.f7 else bif f.beq 8 then some Try.f8 else bif f.beq 9 then some Try.f9 else bif f.beq 10 then some Try.f10 else bif f.beq 11 then some Try.f11 else bif f.beq 12 then some Try.f12 else bif f.beq 13 then some Try.f13 else bif f.beq 14 then some Try.f14 else bif f.beq 15 then some Try.f15 else bif f.beq 16 then some Try.f16 else bif f.beq 17 then some Try.f17 else bif f.beq 18 then some Try.f18 else bif f.beq 19 then some Try.f19 else bif f.beq 20 then some Try.f20 else bif f.beq 21 then some Try.f21 else bif f.beq 22 then some Try.f22 else bif f.beq 23 then some Try.f23 else bif f.beq 24 then some Try.f24 else bif f.beq 25 then some Try.f25 else bif f.beq 26 then some Try.f26 else bif f.beq 27 then some Try.f27 else bif f.beq 28 then some Try.f28 else bif f.beq 29 then some Try.f29 else bif f.beq 30 then some Try.f30 else bif f.beq 31 then some Try.f31 else bif f.beq 32 then some Try.f32 else bif f.beq 33 then some Try.f33 else bif f.beq 34 then some Try.f34 else bif f.beq 35 then some Try.f35 else bif f.beq 36 then some Try.f36 else bif f.beq 37 then some Try.f37 else bif f.beq 38 then some Try.f38 else bif f.beq 39 then some Try.f39 else bif f.beq 40 then some Try.f40 else bif f.beq 41 then some Try.f41 else bif f.beq 42 then some Try.f42 else bif f.beq 43 then some Try.f43 else bif f.beq 44 then some Try.f44 else bif f.beq 45 then some Try.f45 else bif f.beq 46 then some Try.f46 else bif f.beq 47 then some Try.f47 else bif f.beq 48 then some Try.f48 else bif f.beq 49 then some Try.f49 else bif f.beq 50 then some Try.f50 else bif f.beq 51 then some Try.f51 else bif f.beq 52 then some Try.f52 else bif f.beq 53 then some Try.f53 else bif f.beq 54 then some Try.f54 else bif f.beq 55 then some Try.f55 else bif f.beq 56 then some Try.f56 else bif f.beq 57 then some Try.f57 else bif f.beq 58 then some Try.f58 else bif f.beq 59 then some Try.f59 else bif f.beq 60 then some Try.f60 else bif f.beq 61 then some Try.f61 else bif f.beq 62 then some Try.f62 else bif f.beq 63 then some Try.f63 else bif f.beq 64 then some Try.f64 else bif f.beq 65 then some Try.f65 else bif f.beq 66 then some Try.f66 else bif f.beq 67 then some Try.f67 else bif f.beq 68 then some Try.f68 else bif f.beq 69 then some Try.f69 else bif f.beq 70 then some Try.f70 else bif f.beq 71 then some Try.f71 else bif f.beq 72 then some Try.f72 else bif f.beq 73 then some Try.f73 else bif f.beq 74 then some Try.f74 else bif f.beq 75 then some Try.f75 else bif f.beq 76 then some Try.f76 else bif f.beq 77 then some Try.f77 else bif f.beq 78 then some Try.f78 else bif f.beq 79 then some Try.f79 else bif f.beq 80 then some Try.f80 else bif f.beq 81 then some Try.f81 else bif f.beq 82 then some Try.f82 else bif f.beq 83 then some Try.f83 else bif f.beq 84 then some Try.f84 else bif f.beq 85 then some Try.f85 else bif f.beq 86 then some Try.f86 else bif f.beq 87 then some Try.f87 else bif f.beq 88 then some Try.f88 else bif f.beq 89 then some Try.f89 else bif f.beq 90 then some Try.f90 else bif f.beq 91 then some Try.f91 else bif f.beq 92 then some Try.f92 else bif f.beq 93 then some Try.f93 else bif f.beq 94 then some Try.f94 else bif f.beq 95 then some Try.f95 else bif f.beq 96 then some Try.f96 else bif f.beq 97 then some Try.f97 else bif f.beq 98 then some Try.f98 else bif f.beq 99 then some Try.f99 else bif f.beq 100 then some Try.f100 else bif f.beq 101 then some Try.f101 else bif f.beq 102 then some Try.f102 else bif f.beq 103 then some Try.f103 else bif f.beq 104 then some Try.f104 else bif f.beq 105 then some Try.f105 else bif f.beq 106 then some Try.f106 else bif f.beq 107 then some Try.f107 else bif f.beq 108 then some Try.f108 else bif f.beq 109 then some Try.f109 else bif f.beq 110 then some Try.f110 else bif f.beq 111 then some Try.f111 else bif f.beq 112 then some Try.f112 else bif f.beq 113 then some Try.f113 else bif f.beq 114 then some Try.f114 else bif f.beq 115 then some Try.f115 else bif f.beq 116 then some Try.f116 else bif f.beq 117 then some Try.f117 else bif f.beq 118 then some Try.f118 else bif f.beq 119 then some Try.f119 else bif f.beq 120 then some Try.f120 else bif f.beq 121 then some Try.f121 else bif f.beq 122 then some Try.f122 else bif f.beq 123 then some Try.f123 else bif f.beq 124 then some Try.f124 else none
def anns : FuncId → Nat → Option Ann := fun f => bif f.beq 3 then f3_ann else bif f.beq 4 then f4_ann else bif f.beq 5 then f5_ann else bif f.beq 6 then f6_ann else bif f.beq 7 then f7_ann else bif f.beq 8 then f8_ann else bif f.beq 9 then f9_ann else bif f.beq 10 then f10_ann else bif f.beq 11 then f11_ann else bif f.beq 12 then f12_ann else bif f.beq 13 then f13_ann else bif f.beq 14 then f14_ann else bif f.beq 15 then f15_ann else bif f.beq 16 then f16_ann else bif f.beq 17 then f17_ann else bif f.beq 18 then f18_ann else bif f.beq 19 then f19_ann else bif f.beq 20 then f20_ann else bif f.beq 21 then f21_ann else bif f.beq 22 then f22_ann else bif f.beq 23 then f23_ann else bif f.beq 24 then f24_ann else bif f.beq 25 then f25_ann else bif f.beq 26 then f26_ann else bif f.beq 27 then f27_ann else bif f.beq 28 then f28_ann else bif f.beq 29 then f29_ann else bif f.beq 30 then f30_ann else bif f.beq 31 then f31_ann else bif f.beq 32 then f32_ann else bif f.beq 33 then f33_ann else bif f.beq 34 then f34_ann else bif f.beq 35 then f35_ann else bif f.beq 36 then f36_ann else bif f.beq 37 then f37_ann else bif f.beq 38 then f38_ann else bif f.beq 39 then f39_ann else bif f.beq 40 then f40_ann else bif f.beq 41 then f41_ann else bif f.beq 42 then f42_ann else bif f.beq 43 then f43_ann else bif f.beq 44 then f44_ann else bif f.beq 45 then f45_ann else bif f.beq 46 then f46_ann else bif f.beq 47 then f47_ann else bif f.beq 48 then f48_ann else bif f.beq 49 then f49_ann else bif f.beq 50 then f50_ann else bif f.beq 51 then f51_ann else bif f.beq 52 then f52_ann else bif f.beq 53 then f53_ann else bif f.beq 54 then f54_ann else bif f.beq 55 then f55_ann else bif f.beq 56 then f56_ann else bif f.beq 57 then f57_ann else bif f.beq 58 then f58_ann else bif f.beq 59 then f59_ann else bif f.beq 60 then f60_ann else bif f.beq 61 then f61_ann else bif f.beq 62 then f62_ann else bif f.beq 63 then f63_ann else bif f.beq 64 then f64_ann else bif f.beq 65 then f65_ann else bif f.beq 66 then f66_ann else bif f.beq 67 then f67_ann else bif f.beq 68 then f68_ann else bif f.beq 69 then f69_ann else bif f.beq 70 then f70_ann else bif f.beq 71 then f71_ann else bif f.beq 72 then f72_ann else bif f.beq 73 then f73_ann else bif f.beq 74 then f74_ann else bif f.beq 75 then f75_ann else bif f.beq 76 then f76_ann else bif f.beq 77 then f77_ann else bif f.beq 78 then f78_ann else bif f.beq 79 then f79_ann else bif f.beq 80 then f80_ann else bif f.beq 81 then f81_ann else bif f.beq 82 then f82_ann else bif f.beq 83 then f83_ann else bif f.beq 84 then f84_ann else bif f.beq 85 then f85_ann else bif f.beq 86 then f86_ann else bif f.beq 87 then f87_ann else bif f.beq 88 then f88_ann else bif f.beq 89 then f89_ann else bif f.beq 90 then f90_ann else bif f.beq 91 then f91_ann else bif f.beq 92 then f92_ann else bif f.beq 93 then f93_ann else bif f.beq 94 then f94_ann else bif f.beq 95 then f95_ann else bif f.beq 96 then f96_ann else bif f.beq 97 then f97_ann else bif f.beq 98 then f98_ann else bif f.beq 99 then f99_ann else bif f.beq 100 then f100_ann else bif f.beq 101 then f101_ann else bif f.beq 102 then f102_ann else bif f.beq 103 then f103_ann else bif f.beq 104 then f104_ann else bif f.beq 105 then f105_ann else bif f.beq 106 then f106_ann else bif f.beq 107 then f107_ann else bif f.beq 108 then f108_ann else bif f.beq 109 then f109_ann else bif f.beq 110 then f110_ann else bif f.beq 111 then f111_ann else bif f.beq 112 then f112_ann else bif f.beq 113 then f113_ann else bif f.beq 114 then f114_ann else bif f.beq 115 then f115_ann else bif f.beq 116 then f116_ann else bif f.beq 117 then f117_ann else bif f.beq 118 then f118_ann else bif f.beq 119 then f119_ann else bif f.beq 120 then f120_ann else bif f.beq 121 then f121_ann else bif f.beq 122 then f122_ann else bif f.beq 123 then f123_ann else bif f.beq 124 then f124_ann else fun _ => none
def jns : FuncId → Nat → Option Ann := fun f => bif f.beq 3 then f3_jn else bif f.beq 4 then f4_jn else bif f.beq 5 then f5_jn else bif f.beq 6 then f6_jn else bif f.beq 7 then f7_jn else bif f.beq 8 then f8_jn else bif f.beq 9 then f9_jn else bif f.beq 10 then f10_jn else bif f.beq 11 then f11_jn else bif f.beq 12 then f12_jn else bif f.beq 13 then f13_jn else bif f.beq 14 then f14_jn else bif f.beq 15 then f15_jn else bif f.beq 16 then f16_jn else bif f.beq 17 then f17_jn else bif f.beq 18 then f18_jn else bif f.beq 19 then f19_jn else bif f.beq 20 then f20_jn else bif f.beq 21 then f21_jn else bif f.beq 22 then f22_jn else bif f.beq 23 then f23_jn else bif f.beq 24 then f24_jn else bif f.beq 25 then f25_jn else bif f.beq 26 then f26_jn else bif f.beq 27 then f27_jn else bif f.beq 28 then f28_jn else bif f.beq 29 then f29_jn else bif f.beq 30 then f30_jn else bif f.beq 31 then f31_jn else bif f.beq 32 then f32_jn else bif f.beq 33 then f33_jn else bif f.beq 34 then f34_jn else bif f.beq 35 then f35_jn else bif f.beq 36 then f36_jn else bif f.beq 37 then f37_jn else bif f.beq 38 then f38_jn else bif f.beq 39 then f39_jn else bif f.beq 40 then f40_jn else bif f.beq 41 then f41_jn else bif f.beq 42 then f42_jn else bif f.beq 43 then f43_jn else bif f.beq 44 then f44_jn else bif f.beq 45 then f45_jn else bif f.beq 46 then f46_jn else bif f.beq 47 then f47_jn else bif f.beq 48 then f48_jn else bif f.beq 49 then f49_jn else bif f.beq 50 then f50_jn else bif f.beq 51 then f51_jn else bif f.beq 52 then f52_jn else bif f.beq 53 then f53_jn else bif f.beq 54 then f54_jn else bif f.beq 55 then f55_jn else bif f.beq 56 then f56_jn else bif f.beq 57 then f57_jn else bif f.beq 58 then f58_jn else bif f.beq 59 then f59_jn else bif f.beq 60 then f60_jn else bif f.beq 61 then f61_jn else bif f.beq 62 then f62_jn else bif f.beq 63 then f63_jn else bif f.beq 64 then f64_jn else bif f.beq 65 then f65_jn else bif f.beq 66 then f66_jn else bif f.beq 67 then f67_jn else bif f.beq 68 then f68_jn else bif f.beq 69 then f69_jn else bif f.beq 70 then f70_jn else bif f.beq 71 then f71_jn else bif f.beq 72 then f72_jn else bif f.beq 73 then f73_jn else bif f.beq 74 then f74_jn else bif f.beq 75 then f75_jn else bif f.beq 76 then f76_jn else bif f.beq 77 then f77_jn else bif f.beq 78 then f78_jn else bif f.beq 79 then f79_jn else bif f.beq 80 then f80_jn else bif f.beq 81 then f81_jn else bif f.beq 82 then f82_jn else bif f.beq 83 then f83_jn else bif f.beq 84 then f84_jn else bif f.beq 85 then f85_jn else bif f.beq 86 then f86_jn else bif f.beq 87 then f87_jn else bif f.beq 88 then f88_jn else bif f.beq 89 then f89_jn else bif f.beq 90 then f90_jn else bif f.beq 91 then f91_jn else bif f.beq 92 then f92_jn else bif f.beq 93 then f93_jn else bif f.beq 94 then f94_jn else bif f.beq 95 then f95_jn else bif f.beq 96 then f96_jn else bif f.beq 97 then f97_jn else bif f.beq 98 then f98_jn else bif f.beq 99 then f99_jn else bif f.beq 100 then f100_jn else bif f.beq 101 then f101_jn else bif f.beq 102 then f102_jn else bif f.beq 103 then f103_jn else bif f.beq 104 then f104_jn else bif f.beq 105 then f105_jn else bif f.beq 106 then f106_jn else bif f.beq 107 then f107_jn else bif f.beq 108 then f108_jn else bif f.beq 109 then f109_jn else bif f.beq 110 then f110_jn else bif f.beq 111 then f111_jn else bif f.beq 112 then f112_jn else bif f.beq 113 then f113_jn else bif f.beq 114 then f114_jn else bif f.beq 115 then f115_jn else bif f.beq 116 then f116_jn else bif f.beq 117 then f117_jn else bif f.beq 118 then f118_jn else bif f.beq 119 then f119_jn else bif f.beq 120 then f120_jn else bif f.beq 121 then f121_jn else bif f.beq 122 then f122_jn else bif f.beq 123 then f123_jn else bif f.beq 124 then f124_jn else fun _ => none
def lent : FuncId → Option LentD := lookD [(36, ⟨73, [.sl, .sc, .sc, .sc, .sc, .sc, .sc, .sc, .sc, .sc, .sc, .sc, .sc, .sc, .sc, .sc, .sc, .sl, .sl, .sc, .sc, .sl]⟩)]
def selfT (t : TypeId) : Bool := memB t []
def ext : FuncId → Option (List TV → Option TV) := fun f => none
def opn (f : FuncId) : Bool := memB f [56, 58, 59, 79, 80, 81, 82, 83, 84, 86, 97, 98, 100, 102, 103, 105]
def lookK : List (Nat × List Nat) → Nat → Option (List Nat)
 | [], _ => none
 | (k, d) :: r, t => bif k.beq t then some d else lookK r t
def f36_kp : Nat → Option (List Nat) := lookK [(1, [0]), (3010, []), (4004, [])]
def f58_kp : Nat → Option (List Nat) := lookK [(2003, []), (4003, []), (6003, []), (8006, []), (13003, [])]
def f59_kp : Nat → Option (List Nat) := lookK [(3009, []), (11006, []), (13009, []), (15005, [])]
def f79_kp : Nat → Option (List Nat) := lookK [(1009, [1, 5])]
def f80_kp : Nat → Option (List Nat) := lookK [(1009, [1, 5])]
def f81_kp : Nat → Option (List Nat) := lookK [(1001, [])]
def f82_kp : Nat → Option (List Nat) := lookK [(2001, [])]
def f83_kp : Nat → Option (List Nat) := lookK [(3001, [])]
def f84_kp : Nat → Option (List Nat) := lookK [(1, [0, 1]), (2002, []), (3001, [0, 1])]
def f86_kp : Nat → Option (List Nat) := lookK [(1, [0, 1]), (1002, [0, 1]), (2002, []), (3001, [0, 1]), (4004, [0, 1, 4]), (6004, []), (7001, [0, 1])]
def f97_kp : Nat → Option (List Nat) := lookK [(2001, [])]
def f102_kp : Nat → Option (List Nat) := lookK [(4002, [0, 1, 13, 14, 15])]
def kps : FuncId → Nat → Option (List Nat) := fun f => bif f.beq 36 then f36_kp else bif f.beq 58 then f58_kp else bif f.beq 59 then f59_kp else bif f.beq 79 then f79_kp else bif f.beq 80 then f80_kp else bif f.beq 81 then f81_kp else bif f.beq 82 then f82_kp else bif f.beq 83 then f83_kp else bif f.beq 84 then f84_kp else bif f.beq 86 then f86_kp else bif f.beq 97 then f97_kp else bif f.beq 102 then f102_kp else fun _ => none
def peek : FuncId → Option (Nat × Nat) := fun f => bif f.beq 57 then some (21, 22) else none
noncomputable def prog : AProg := ⟨tab, pure, rts, fns, anns, jns, lent, selfT, ext, opn, kps, peek⟩
end Go.Ab.G7

import Derived.Test.YteppgaecdkkkeaaDoorB0
import Derived.Test.YteppgaecdkkkeaaDoorProg
set_option linter.unusedVariables false
namespace Go.Ab.D5
open Go.Ab Go.Proofs
def lookA : List (Nat × Ann) → Nat → Option Ann
  | [], _ => none
  | (k, d) :: r, t => bif k.beq t then some d else lookA r t
def z2 : List Value := [.int .i64 0]
def z3 : List Value := [.int .i64 0]
def z4 : List Value := [.bool false]
def z5 : List Value := [.int .u8 0]
def z6 : List Value := [.int .u8 0]
def z7 : List Value := [.int .i64 0, .int .i64 0, .bool false, .int .u8 0]
def z8 : List Value := [.int .i64 0, .int .i64 0, .bool false, .int .u8 0]
def z9 : List Value := [.string ⟨#[]⟩]
def z10 : List Value := [.string ⟨#[]⟩]
def z11 : List Value := [.string ⟨#[]⟩]
def z12 : List Value := [.int .u64 0]
def z13 : List Value := [.string ⟨#[]⟩, .int .u64 0]
def z14 : List Value := [.string ⟨#[]⟩, .int .u64 0]
def z15 : List Value := [.pointer none]
def z16 : List Value := [.pointer none]
def z17 : List Value := [.pointer none]
def z18 : List Value := [.pointer none]
def z19 : List Value := [.pointer none]
def z20 : List Value := [.nilIface]
def z21 : List Value := [.int .i32 0]
def z22 : List Value := [.slice none 0 0]
def z23 : List Value := [.slice none 0 0]
def z24 : List Value := [.slice none 0 0]
def z25 : List Value := [.int .u16 0]
def z26 : List Value := [.slice none 0 0]
def z27 : List Value := [.int .i64 0, .int .i64 0, .int .i64 0, .int .i64 0, .int .u16 0, .int .i64 0, .slice none 0 0]
def z28 : List Value := [.int .i64 0, .int .i64 0, .int .i64 0, .int .i64 0, .int .u16 0, .int .i64 0, .slice none 0 0]
def z29 : List Value := [.int .i64 0, .int .i64 0, .int .i64 0, .int .i64 0, .slice none 0 0, .int .i64 0, .int .i64 0, .int .i64 0]
def z30 : List Value := [.int .i64 0, .int .i64 0, .int .i64 0, .int .i64 0, .slice none 0 0, .int .i64 0, .int .i64 0, .int .i64 0]
def z31 : List Value := [.slice none 0 0]
def z32 : List Value := [.int .i64 0, .slice none 0 0, .bool false, .bool false]
def z33 : List Value := [.int .i64 0, .slice none 0 0, .bool false, .bool false]
def z34 : List Value := [.nilFunc]
def z35 : List Value := [.nilFunc]
def z36 : List Value := [.int .i64 0]
def z38 : List Value := [.nilFunc]
def z40 : List Value := [.nilFunc]
def z41 : List Value := [.nilFunc]
def z42 : List Value := [.nilFunc]
def z43 : List Value := [.nilFunc]
def z44 : List Value := [.nilFunc]
def z46 : List Value := [.nilFunc]
def z48 : List Value := [.nilFunc]
def z50 : List Value := [.nilFunc]
def z51 : List Value := [.nilFunc]
def z52 : List Value := [.nilFunc]
def z53 : List Value := [.nilFunc]
def z54 : List Value := [.slice none 0 0]
def z55 : List Value := [.bool false, .int .i64 0, .slice none 0 0, .bool false, .bool false, .slice none 0 0, .int .i64 0, .int .i64 0, .int .i64 0, .int .i64 0, .slice none 0 0, .int .i64 0, .int .i64 0, .int .i64 0]
def z56 : List Value := [.bool false, .int .i64 0, .slice none 0 0, .bool false, .bool false, .slice none 0 0, .int .i64 0, .int .i64 0, .int .i64 0, .int .i64 0, .slice none 0 0, .int .i64 0, .int .i64 0, .int .i64 0]
def z57 : List Value := [.slice none 0 0]
def z58 : List Value := [.int .i64 0, .int .i64 0, .slice none 0 0]
def z59 : List Value := [.int .i64 0, .int .i64 0, .slice none 0 0]
def z60 : List Value := [.pointer none]
def z61 : List Value := [.slice none 0 0]
def z62 : List Value := [.pointer none, .slice none 0 0]
def z63 : List Value := [.pointer none, .slice none 0 0]
def z64 : List Value := [.nilFunc]
def z65 : List Value := [.nilFunc]
def z66 : List Value := [.nilFunc]
def z67 : List Value := [.nilFunc]
def z68 : List Value := [.nilFunc]
def z69 : List Value := [.nilFunc]
def z70 : List Value := [.nilFunc]
def z71 : List Value := [.nilFunc]
def z72 : List Value := [.nilFunc]
def z74 : List Value := [.nilFunc]
def z75 : List Value := [.slice none 0 0]
def z76 : List Value := [.nilFunc]
def z77 : List Value := [.nilFunc]
def z78 : List Value := [.nilFunc]
def z79 : List Value := [.nilFunc]
def z80 : List Value := [.nilFunc]
def z81 : List Value := [.nilFunc]
def z82 : List Value := [.nilFunc]
def z83 : List Value := [.nilIface]
def z84 : List Value := [.nilIface]
def z86 : List Value := [.nilFunc]
def z87 : List Value := [.nilFunc]
def z88 : List Value := [.pointer none]
def z89 : List Value := [.int .i64 0]
def z90 : List Value := [.slice none 0 0, .int .i64 0]
def z91 : List Value := [.slice none 0 0, .int .i64 0]
def z93 : List Value := [.nilFunc]
def z94 : List Value := [.nilFunc]
def z95 : List Value := [.nilFunc]
def z96 : List Value := [.nilFunc]
def z97 : List Value := [.pointer none]
def z98 : List Value := [.slice none 0 0, .int .i64 0, .int .i64 0, .slice none 0 0]
def z99 : List Value := [.slice none 0 0, .int .i64 0, .int .i64 0, .slice none 0 0]
def z100 : List Value := [.nilFunc]
def z101 : List Value := [.nilFunc]
def z102 : List Value := [.nilFunc]
def z103 : List Value := [.nilFunc]
def z104 : List Value := [.pointer none]
def z105 : List Value := [.nilFunc]
def z106 : List Value := [.nilFunc]
def z107 : List Value := [.nilFunc]
def z108 : List Value := [.nilFunc]
def z109 : List Value := [.slice none 0 0]
def z110 : List Value := [.int .u64 0]
def z112 : List Value := [.nilFunc]
def z113 : List Value := [.nilFunc]
def z114 : List Value := [.nilFunc]
def z115 : List Value := [.nilFunc]
def z117 : List Value := [.nilFunc]
def z118 : List Value := [.nilFunc]
def z119 : List Value := [.nilFunc]
def z120 : List Value := [.nilFunc]
def z121 : List Value := [.nilFunc]
def z122 : List Value := [.nilFunc]
def z123 : List Value := [.nilFunc]
def z125 : List Value := [.nilFunc]
def z126 : List Value := [.nilFunc]
def z127 : List Value := [.pointer none]
def z128 : List Value := [.nilFunc]
def z129 : List Value := [.nilFunc]
def z130 : List Value := [.nilFunc]
def z131 : List Value := [.nilFunc]
def z132 : List Value := [.nilFunc]
def z133 : List Value := [.int .i64 0]
def z134 : List Value := [.nilFunc]
def z135 : List Value := [.nilFunc]
def z136 : List Value := [.nilFunc]
def z137 : List Value := [.nilFunc]
def z138 : List Value := [.int .u8 0, .int .u8 0, .int .u8 0, .int .u8 0, .int .u8 0, .int .u8 0, .int .u8 0, .int .u8 0, .int .u8 0, .int .u8 0, .int .u8 0, .int .u8 0, .int .u8 0, .int .u8 0, .int .u8 0, .int .u8 0, .int .u8 0, .int .u8 0, .int .u8 0, .int .u8 0, .int .u8 0, .int .u8 0, .int .u8 0, .int .u8 0]
def z139 : List Value := [.nilFunc]
def z140 : List Value := [.nilFunc]
def z142 : List Value := [.nilFunc]
def z143 : List Value := [.nilFunc]
def z144 : List Value := [.nilFunc]
def z145 : List Value := [.int .u64 0]
def z146 : List Value := [.pointer none]
def z148 : List Value := [.nilFunc]
def z149 : List Value := [.int .i64 0]
def z150 : List Value := [.nilFunc]
def z151 : List Value := [.nilFunc]
def z152 : List Value := [.pointer none]
def z153 : List Value := [.nilFunc]
def z154 : List Value := [.nilFunc]
def z155 : List Value := [.nilFunc]
def z156 : List Value := [.nilFunc]
def z157 : List Value := [.int .u64 0, .int .u64 0, .int .u64 0, .int .u64 0, .int .u64 0, .int .u64 0, .int .u64 0, .int .u64 0, .int .u64 0, .int .u64 0, .int .u64 0, .int .u64 0, .int .u64 0, .int .u64 0, .int .u64 0, .int .u64 0, .int .u64 0, .int .u64 0, .int .u64 0, .int .u64 0]
def z158 : List Value := [.int .u32 0]
def z159 : List Value := [.int .u8 0, .int .u8 0, .int .u8 0, .int .u8 0, .int .u8 0, .int .u8 0, .int .u8 0, .int .u8 0, .int .u8 0, .int .u8 0, .int .u8 0, .int .u8 0, .int .u8 0, .int .u8 0, .int .u8 0, .int .u8 0, .int .u8 0, .int .u8 0, .int .u8 0, .int .u8 0, .int .u8 0, .int .u8 0, .int .u8 0, .int .u8 0, .int .u8 0, .int .u8 0, .int .u8 0, .int .u8 0, .int .u8 0, .int .u8 0, .int .u8 0, .int .u8 0, .int .u8 0, .int .u8 0, .int .u8 0, .int .u8 0, .int .u8 0, .int .u8 0, .int .u8 0, .int .u8 0, .int .u8 0, .int .u8 0, .int .u8 0, .int .u8 0, .int .u8 0, .int .u8 0, .int .u8 0, .int .u8 0, .int .u8 0, .int .u8 0, .int .u8 0, .int .u8 0, .int .u8 0, .int .u8 0, .int .u8 0, .int .u8 0, .int .u8 0, .int .u8 0, .int .u8 0, .int .u8 0, .int .u8 0, .int .u8 0, .int .u8 0, .int .u8 0, .int .u8 0]
def z160 : List Value := [.nilFunc]
def z161 : List Value := [.nilFunc]
def z163 : List Value := [.nilFunc]
def z164 : List Value := [.nilFunc]
def z165 : List Value := [.string ⟨#[]⟩, .string ⟨#[]⟩, .nilIface]
def z166 : List Value := [.string ⟨#[]⟩, .string ⟨#[]⟩, .nilIface]
def z167 : List Value := [.nilFunc]
def z168 : List Value := [.nilFunc]
def z169 : List Value := [.nilFunc]
def z170 : List Value := [.int .u8 0, .int .u8 0, .int .u8 0, .int .u8 0, .int .u8 0, .int .u8 0, .int .u8 0, .int .u8 0, .int .u8 0, .int .u8 0, .int .u8 0, .int .u8 0, .int .u8 0, .int .u8 0, .int .u8 0, .int .u8 0, .int .u8 0, .int .u8 0, .int .u8 0, .int .u8 0, .int .u8 0, .int .u8 0, .int .u8 0, .int .u8 0, .int .u8 0, .int .u8 0, .int .u8 0, .int .u8 0, .int .u8 0, .int .u8 0, .int .u8 0, .int .u8 0, .int .u8 0, .int .u8 0, .int .u8 0, .int .u8 0, .int .u8 0, .int .u8 0, .int .u8 0, .int .u8 0, .int .u8 0, .int .u8 0, .int .u8 0, .int .u8 0, .int .u8 0, .int .u8 0, .int .u8 0, .int .u8 0, .int .u8 0, .int .u8 0, .int .u8 0, .int .u8 0, .int .u8 0, .int .u8 0, .int .u8 0, .int .u8 0, .int .u8 0, .int .u8 0, .int .u8 0, .int .u8 0, .int .u8 0, .int .u8 0, .int .u8 0, .int .u8 0, .int .u8 0, .int .u8 0, .int .u8 0, .int .u8 0, .int .u8 0, .int .u8 0, .int .u8 0, .int .u8 0, .int .u8 0, .int .u8 0, .int .u8 0, .int .u8 0, .int .u8 0, .int .u8 0, .int .u8 0, .int .u8 0, .int .u8 0, .int .u8 0, .int .u8 0, .int .u8 0, .int .u8 0, .int .u8 0, .int .u8 0, .int .u8 0, .int .u8 0, .int .u8 0, .int .u8 0, .int .u8 0, .int .u8 0, .int .u8 0, .int .u8 0, .int .u8 0, .int .u8 0, .int .u8 0, .int .u8 0, .int .u8 0, .int .u8 0, .int .u8 0, .int .u8 0, .int .u8 0, .int .u8 0, .int .u8 0, .int .u8 0, .int .u8 0, .int .u8 0, .int .u8 0, .int .u8 0, .int .u8 0, .int .u8 0, .int .u8 0, .int .u8 0, .int .u8 0, .int .u8 0, .int .u8 0, .int .u8 0, .int .u8 0, .int .u8 0, .int .u8 0, .int .u8 0, .int .u8 0, .int .u8 0, .int .u8 0, .int .u8 0, .int .u8 0, .int .u8 0, .int .u8 0, .int .u8 0, .int .u8 0, .int .u8 0, .int .u8 0, .int .u8 0, .int .u8 0, .int .u8 0, .int .u8 0, .int .u8 0, .int .u8 0, .int .u8 0, .int .u8 0, .int .u8 0, .int .u8 0, .int .u8 0, .int .u8 0, .int .u8 0, .int .u8 0, .int .u8 0, .int .u8 0, .int .u8 0, .int .u8 0, .int .u8 0, .int .u8 0, .int .u8 0, .int .u8 0, .int .u8 0, .int .u8 0, .int .u8 0, .int .u8 0, .int .u8 0, .int .u8 0, .int .u8 0, .int .u8 0, .int .u8 0, .int .u8 0, .int .u8 0, .int .u8 0, .int .u8 0, .int .u8 0, .int .u8 0, .int .u8 0, .int .u8 0, .int .u8 0, .int .u8 0, .int .u8 0, .int .u8 0, .int .u8 0, .int .u8 0, .int .u8 0, .int .u8 0, .int .u8 0, .int .u8 0, .int .u8 0, .int .u8 0, .int .u8 0, .int .u8 0, .int .u8 0, .int .u8 0, .int .u8 0, .int .u8 0, .int .u8 0, .int .u8 0, .int .u8 0, .int .u8 0, .int .u8 0, .int .u8 0, .int .u8 0, .int .u8 0, .int .u8 0, .int .u8 0, .int .u8 0, .int .u8 0, .int .u8 0, .int .u8 0, .int .u8 0, .int .u8 0, .int .u8 0, .int .u8 0, .int .u8 0, .int .u8 0, .int .u8 0, .int .u8 0, .int .u8 0, .int .u8 0, .int .u8 0, .int .u8 0, .int .u8 0, .int .u8 0, .int .u8 0, .int .u8 0, .int .u8 0, .int .u8 0, .int .u8 0, .int .u8 0, .int .u8 0, .int .u8 0, .int .u8 0, .int .u8 0, .int .u8 0, .int .u8 0, .int .u8 0, .int .u8 0, .int .u8 0, .int .u8 0, .int .u8 0, .int .u8 0, .int .u8 0, .int .u8 0, .int .u8 0, .int .u8 0, .int .u8 0, .int .u8 0, .int .u8 0, .int .u8 0, .int .u8 0, .int .u8 0, .int .u8 0, .int .u8 0, .int .u8 0, .int .u8 0, .int .u8 0, .int .u8 0, .int .u8 0, .int .u8 0, .int .u8 0]
def z171 : List Value := [.int .u8 0, .int .u8 0]
def z172 : List Value := [.int .u8 0, .int .u8 0]
def z173 : List Value := [.int .u8 0, .int .u8 0, .int .u8 0, .int .u8 0, .int .u8 0, .int .u8 0, .int .u8 0, .int .u8 0, .int .u8 0, .int .u8 0, .int .u8 0, .int .u8 0, .int .u8 0, .int .u8 0, .int .u8 0, .int .u8 0, .int .u8 0, .int .u8 0, .int .u8 0, .int .u8 0, .int .u8 0, .int .u8 0, .int .u8 0, .int .u8 0, .int .u8 0, .int .u8 0, .int .u8 0, .int .u8 0, .int .u8 0, .int .u8 0, .int .u8 0, .int .u8 0]
def z174 : List Value := [.pointer none]
def z175 : List Value := [.string ⟨#[]⟩]
def z176 : List Value := [.string ⟨#[]⟩]
def z177 : List Value := [.int .u8 0, .int .u8 0, .int .u8 0, .int .u8 0, .int .u8 0, .int .u8 0, .int .u8 0, .int .u8 0, .int .u8 0, .int .u8 0, .int .u8 0, .int .u8 0, .int .u8 0, .int .u8 0, .int .u8 0, .int .u8 0, .int .u8 0, .int .u8 0, .int .u8 0, .int .u8 0, .int .u8 0, .int .u8 0, .int .u8 0, .int .u8 0, .int .u8 0, .int .u8 0, .int .u8 0, .int .u8 0, .int .u8 0, .int .u8 0, .int .u8 0, .int .u8 0]
def z178 : List Value := [.int .u8 0, .int .u8 0, .int .u8 0, .int .u8 0, .int .u8 0, .int .u8 0, .int .u8 0, .int .u8 0, .int .u8 0, .int .u8 0, .int .u8 0, .int .u8 0, .int .u8 0, .int .u8 0, .int .u8 0, .int .u8 0, .int .u8 0, .int .u8 0, .int .u8 0, .int .u8 0, .int .u8 0, .int .u8 0, .int .u8 0, .int .u8 0, .int .u8 0, .int .u8 0, .int .u8 0, .int .u8 0, .int .u8 0, .int .u8 0, .int .u8 0, .int .u8 0, .int .u8 0, .int .u8 0, .int .u8 0, .int .u8 0, .int .u8 0, .int .u8 0, .int .u8 0, .int .u8 0, .int .u8 0, .int .u8 0, .int .u8 0, .int .u8 0, .int .u8 0, .int .u8 0, .int .u8 0, .int .u8 0, .int .u8 0, .int .u8 0, .int .u8 0, .int .u8 0, .int .u8 0, .int .u8 0, .int .u8 0, .int .u8 0, .int .u8 0, .int .u8 0, .int .u8 0, .int .u8 0, .int .u8 0, .int .u8 0, .int .u8 0, .int .u8 0]
def z179 : List Value := [.pointer none, .pointer none, .pointer none, .string ⟨#[]⟩]
def z180 : List Value := [.pointer none, .pointer none, .pointer none, .string ⟨#[]⟩]
def z181 : List Value := []
def z182 : List Value := []
def z183 : List Value := []
def z184 : List Value := [.int .u8 0]
def z185 : List Value := [.int .u8 0]
def z186 : List Value := [.nilFunc]
def z187 : List Value := [.int .i32 0]
def z188 : List Value := [.int .i32 0]
def z189 : List Value := [.int .u64 0, .int .u64 0, .int .u32 0, .int .u8 0, .int .u8 0, .int .u8 0, .int .u8 0, .nilFunc, .pointer none, .int .i32 0, .int .i32 0]
def z190 : List Value := [.int .u64 0, .int .u64 0, .int .u32 0, .int .u8 0, .int .u8 0, .int .u8 0, .int .u8 0, .nilFunc, .pointer none, .int .i32 0, .int .i32 0]
def tab : Tab := lookT [
  (2, ⟨1, 8, .int .i64, z2, []⟩),
  (3, ⟨1, 8, .int .i64, z3, []⟩),
  (4, ⟨1, 1, .bool, z4, []⟩),
  (5, ⟨1, 1, .int .u8, z5, []⟩),
  (6, ⟨1, 1, .int .u8, z6, []⟩),
  (7, ⟨4, 24, .struct, z7, [(0, 2), (1, 3), (2, 4), (3, 6)]⟩),
  (8, ⟨4, 24, .struct, z8, [(0, 2), (1, 3), (2, 4), (3, 6)]⟩),
  (9, ⟨1, 16, .str, z9, []⟩),
  (10, ⟨1, 16, .str, z10, []⟩),
  (11, ⟨1, 16, .str, z11, []⟩),
  (12, ⟨1, 8, .int .u64, z12, []⟩),
  (13, ⟨2, 24, .struct, z13, [(0, 9), (1, 12)]⟩),
  (14, ⟨2, 24, .struct, z14, [(0, 9), (1, 12)]⟩),
  (15, ⟨1, 8, .other, z15, []⟩),
  (16, ⟨1, 8, .other, z16, []⟩),
  (17, ⟨1, 8, .other, z17, []⟩),
  (18, ⟨1, 8, .struct, z18, [(0, 17)]⟩),
  (19, ⟨1, 8, .struct, z19, [(0, 17)]⟩),
  (20, ⟨1, 16, .other, z20, []⟩),
  (21, ⟨1, 4, .int .i32, z21, []⟩),
  (22, ⟨1, 24, .slice 59, z22, []⟩),
  (23, ⟨1, 24, .struct, z23, [(0, 22)]⟩),
  (24, ⟨1, 24, .struct, z24, [(0, 22)]⟩),
  (25, ⟨1, 2, .int .u16, z25, []⟩),
  (26, ⟨1, 24, .slice 3, z26, []⟩),
  (27, ⟨7, 72, .struct, z27, [(0, 3), (1, 3), (2, 3), (3, 3), (4, 25), (5, 3), (6, 26)]⟩),
  (28, ⟨7, 72, .struct, z28, [(0, 3), (1, 3), (2, 3), (3, 3), (4, 25), (5, 3), (6, 26)]⟩),
  (29, ⟨8, 80, .struct, z29, [(0, 3), (1, 3), (2, 3), (3, 3), (4, 26), (5, 3), (6, 3), (7, 3)]⟩),
  (30, ⟨8, 80, .struct, z30, [(0, 3), (1, 3), (2, 3), (3, 3), (4, 26), (5, 3), (6, 3), (7, 3)]⟩),
  (31, ⟨1, 24, .slice 25, z31, []⟩),
  (32, ⟨4, 40, .struct, z32, [(0, 3), (1, 31), (2, 4), (3, 4)]⟩),
  (33, ⟨4, 40, .struct, z33, [(0, 3), (1, 31), (2, 4), (3, 4)]⟩),
  (34, ⟨1, 8, .other, z34, []⟩),
  (35, ⟨1, 8, .other, z35, []⟩),
  (36, ⟨1, 8, .int .i64, z36, []⟩),
  (38, ⟨1, 8, .other, z38, []⟩),
  (40, ⟨1, 8, .other, z40, []⟩),
  (41, ⟨1, 8, .other, z41, []⟩),
  (42, ⟨1, 8, .other, z42, []⟩),
  (43, ⟨1, 8, .other, z43, []⟩),
  (44, ⟨1, 8, .other, z44, []⟩),
  (46, ⟨1, 8, .other, z46, []⟩),
  (48, ⟨1, 8, .other, z48, []⟩),
  (50, ⟨1, 8, .other, z50, []⟩),
  (51, ⟨1, 8, .other, z51, []⟩),
  (52, ⟨1, 8, .other, z52, []⟩),
  (53, ⟨1, 8, .other, z53, []⟩),
  (54, ⟨1, 24, .slice 28, z54, []⟩),
  (55, ⟨14, 152, .struct, z55, [(0, 4), (1, 33), (5, 54), (6, 30)]⟩),
  (56, ⟨14, 152, .struct, z56, [(0, 4), (1, 33), (5, 54), (6, 30)]⟩),
  (57, ⟨1, 24, .slice 56, z57, []⟩),
  (58, ⟨3, 40, .struct, z58, [(0, 3), (1, 3), (2, 57)]⟩),
  (59, ⟨3, 40, .struct, z59, [(0, 3), (1, 3), (2, 57)]⟩),
  (60, ⟨1, 8, .other, z60, []⟩),
  (61, ⟨1, 24, .slice 5, z61, []⟩),
  (62, ⟨2, 32, .struct, z62, [(0, 60), (1, 61)]⟩),
  (63, ⟨2, 32, .struct, z63, [(0, 60), (1, 61)]⟩),
  (64, ⟨1, 8, .other, z64, []⟩),
  (65, ⟨1, 8, .other, z65, []⟩),
  (66, ⟨1, 8, .other, z66, []⟩),
  (67, ⟨1, 8, .other, z67, []⟩),
  (68, ⟨1, 8, .other, z68, []⟩),
  (69, ⟨1, 8, .other, z69, []⟩),
  (70, ⟨1, 8, .other, z70, []⟩),
  (71, ⟨1, 8, .other, z71, []⟩),
  (72, ⟨1, 8, .other, z72, []⟩),
  (74, ⟨1, 8, .other, z74, []⟩),
  (75, ⟨1, 24, .slice 9, z75, []⟩),
  (76, ⟨1, 8, .other, z76, []⟩),
  (77, ⟨1, 8, .other, z77, []⟩),
  (78, ⟨1, 8, .other, z78, []⟩),
  (79, ⟨1, 8, .other, z79, []⟩),
  (80, ⟨1, 8, .other, z80, []⟩),
  (81, ⟨1, 8, .other, z81, []⟩),
  (82, ⟨1, 8, .other, z82, []⟩),
  (83, ⟨1, 16, .other, z83, []⟩),
  (84, ⟨1, 16, .other, z84, []⟩),
  (86, ⟨1, 8, .other, z86, []⟩),
  (87, ⟨1, 8, .other, z87, []⟩),
  (88, ⟨1, 8, .other, z88, []⟩),
  (89, ⟨1, 8, .int .i64, z89, []⟩),
  (90, ⟨2, 32, .struct, z90, [(0, 22), (1, 89)]⟩),
  (91, ⟨2, 32, .struct, z91, [(0, 22), (1, 89)]⟩),
  (93, ⟨1, 8, .other, z93, []⟩),
  (94, ⟨1, 8, .other, z94, []⟩),
  (95, ⟨1, 8, .other, z95, []⟩),
  (96, ⟨1, 8, .other, z96, []⟩),
  (97, ⟨1, 8, .other, z97, []⟩),
  (98, ⟨4, 64, .struct, z98, [(0, 22), (1, 59)]⟩),
  (99, ⟨4, 64, .struct, z99, [(0, 22), (1, 59)]⟩),
  (100, ⟨1, 8, .other, z100, []⟩),
  (101, ⟨1, 8, .other, z101, []⟩),
  (102, ⟨1, 8, .other, z102, []⟩),
  (103, ⟨1, 8, .other, z103, []⟩),
  (104, ⟨1, 8, .other, z104, []⟩),
  (105, ⟨1, 8, .other, z105, []⟩),
  (106, ⟨1, 8, .other, z106, []⟩),
  (107, ⟨1, 8, .other, z107, []⟩),
  (108, ⟨1, 8, .other, z108, []⟩),
  (109, ⟨1, 24, .slice 97, z109, []⟩),
  (110, ⟨1, 8, .int .u64, z110, []⟩),
  (112, ⟨1, 8, .other, z112, []⟩),
  (113, ⟨1, 8, .other, z113, []⟩),
  (114, ⟨1, 8, .other, z114, []⟩),
  (115, ⟨1, 8, .other, z115, []⟩),
  (117, ⟨1, 8, .other, z117, []⟩),
  (118, ⟨1, 8, .other, z118, []⟩),
  (119, ⟨1, 8, .other, z119, []⟩),
  (120, ⟨1, 8, .other, z120, []⟩),
  (121, ⟨1, 8, .other, z121, []⟩),
  (122, ⟨1, 8, .other, z122, []⟩),
  (123, ⟨1, 8, .other, z123, []⟩),
  (125, ⟨1, 8, .other, z125, []⟩),
  (126, ⟨1, 8, .other, z126, []⟩),
  (127, ⟨1, 8, .other, z127, []⟩),
  (128, ⟨1, 8, .other, z128, []⟩),
  (129, ⟨1, 8, .other, z129, []⟩),
  (130, ⟨1, 8, .other, z130, []⟩),
  (131, ⟨1, 8, .other, z131, []⟩),
  (132, ⟨1, 8, .other, z132, []⟩),
  (133, ⟨1, 8, .int .i64, z133, []⟩),
  (134, ⟨1, 8, .other, z134, []⟩),
  (135, ⟨1, 8, .other, z135, []⟩),
  (136, ⟨1, 8, .other, z136, []⟩),
  (137, ⟨1, 8, .other, z137, []⟩),
  (138, ⟨24, 24, .arr 24 5, z138, []⟩),
  (139, ⟨1, 8, .other, z139, []⟩),
  (140, ⟨1, 8, .other, z140, []⟩),
  (142, ⟨1, 8, .other, z142, []⟩),
  (143, ⟨1, 8, .other, z143, []⟩),
  (144, ⟨1, 8, .other, z144, []⟩),
  (145, ⟨1, 8, .int .u64, z145, []⟩),
  (146, ⟨1, 8, .other, z146, []⟩),
  (148, ⟨1, 8, .other, z148, []⟩),
  (149, ⟨1, 8, .int .i64, z149, []⟩),
  (150, ⟨1, 8, .other, z150, []⟩),
  (151, ⟨1, 8, .other, z151, []⟩),
  (152, ⟨1, 8, .other, z152, []⟩),
  (153, ⟨1, 8, .other, z153, []⟩),
  (154, ⟨1, 8, .other, z154, []⟩),
  (155, ⟨1, 8, .other, z155, []⟩),
  (156, ⟨1, 8, .other, z156, []⟩),
  (157, ⟨20, 160, .arr 20 110, z157, []⟩),
  (158, ⟨1, 4, .int .u32, z158, []⟩),
  (159, ⟨65, 65, .arr 65 5, z159, []⟩),
  (160, ⟨1, 8, .other, z160, []⟩),
  (161, ⟨1, 8, .other, z161, []⟩),
  (163, ⟨1, 8, .other, z163, []⟩),
  (164, ⟨1, 8, .other, z164, []⟩),
  (165, ⟨3, 48, .struct, z165, [(0, 9), (1, 9), (2, 84)]⟩),
  (166, ⟨3, 48, .struct, z166, [(0, 9), (1, 9), (2, 84)]⟩),
  (167, ⟨1, 8, .other, z167, []⟩),
  (168, ⟨1, 8, .other, z168, []⟩),
  (169, ⟨1, 8, .other, z169, []⟩),
  (170, ⟨256, 256, .arr 256 5, z170, []⟩),
  (171, ⟨2, 2, .struct, z171, [(0, 5), (1, 5)]⟩),
  (172, ⟨2, 2, .struct, z172, [(0, 5), (1, 5)]⟩),
  (173, ⟨32, 32, .arr 16 172, z173, []⟩),
  (174, ⟨1, 8, .other, z174, []⟩),
  (175, ⟨1, 16, .struct, z175, [(0, 9)]⟩),
  (176, ⟨1, 16, .struct, z176, [(0, 9)]⟩),
  (177, ⟨32, 32, .arr 32 5, z177, []⟩),
  (178, ⟨64, 64, .arr 64 5, z178, []⟩),
  (179, ⟨4, 40, .struct, z179, [(0, 17), (1, 17), (2, 17), (3, 9)]⟩),
  (180, ⟨4, 40, .struct, z180, [(0, 17), (1, 17), (2, 17), (3, 9)]⟩),
  (181, ⟨0, 0, .arr 0 16, z181, []⟩),
  (182, ⟨0, 0, .struct, z182, [(0, 181)]⟩),
  (183, ⟨0, 0, .struct, z183, [(0, 181)]⟩),
  (184, ⟨1, 1, .int .u8, z184, []⟩),
  (185, ⟨1, 1, .int .u8, z185, []⟩),
  (186, ⟨1, 8, .other, z186, []⟩),
  (187, ⟨1, 4, .int .i32, z187, []⟩),
  (188, ⟨1, 4, .int .i32, z188, []⟩),
  (189, ⟨11, 48, .struct, z189, [(0, 12), (1, 12), (2, 158), (3, 184), (4, 5), (5, 5), (6, 185), (7, 186), (8, 88), (9, 187), (10, 188)]⟩),
  (190, ⟨11, 48, .struct, z190, [(0, 12), (1, 12), (2, 158), (3, 184), (4, 5), (5, 5), (6, 185), (7, 186), (8, 88), (9, 187), (10, 188)]⟩)]
def pure (f : FuncId) : Bool := memB f [29, 31]
def lookL : List (Nat × List Nat) → Nat → List Nat
  | [], _ => []
  | (k, d) :: r, t => bif k.beq t then d else lookL r t
def rts : FuncId → List TypeId := lookL [(3, [4]), (5, [4]), (6, [4]), (7, [9, 36]), (8, [9, 3]), (9, [9]), (10, [9]), (11, [9]), (12, [9]), (13, [9]), (14, [9]), (21, [4]), (22, []), (23, [9]), (24, []), (27, [4]), (28, [9]), (29, [26]), (30, [9]), (31, [26]), (40, [4]), (44, [4]), (51, [4]), (54, [4]), (55, [4]), (56, [4]), (63, [4]), (64, [4]), (65, [4]), (68, [4]), (69, [4]), (70, [4]), (71, [4]), (81, [4]), (82, [4]), (83, [133]), (84, [4]), (85, [4]), (86, [133]), (87, [4]), (105, [4]), (116, [3]), (25, [3]), (26, [9]), (41, [3, 84]), (42, [84]), (43, [9])]
def f3_ann : Nat → Option Ann := lookA [(10, ⟨[5, 6, 7, 13], [], [], []⟩), (15, ⟨[5, 6, 7, 14], [], [], []⟩)]
def f3_jn : Nat → Option Ann := lookA [(14, ⟨[5, 6, 7], [], [], []⟩), (19, ⟨[5, 6, 7], [], [], []⟩)]
def f5_ann : Nat → Option Ann := lookA []
def f5_jn : Nat → Option Ann := lookA []
def f6_ann : Nat → Option Ann := lookA [(5, ⟨[1, 3, 4], [], [], []⟩), (10, ⟨[1, 3, 4, 5], [], [], []⟩), (17, ⟨[1, 3, 4, 5, 6, 7], [], [], []⟩)]
def f6_jn : Nat → Option Ann := lookA []
def f7_ann : Nat → Option Ann := lookA [(5, ⟨[4, 13, 14, 15], [], [(4, 1)], []⟩), (9, ⟨[4, 13, 14, 15, 27, 28, 29], [], [], []⟩)]
def f7_jn : Nat → Option Ann := lookA [(14, ⟨[4], [], [], []⟩)]
def f8_ann : Nat → Option Ann := lookA [(5, ⟨[1, 4, 5], [4], [], []⟩), (10, ⟨[1, 4, 5, 6, 7], [4], [], []⟩), (18, ⟨[1, 4, 5, 6, 7, 8, 10], [4], [], []⟩)]
def f8_jn : Nat → Option Ann := lookA [(16, ⟨[1, 4, 5, 6, 7, 8, 9], [4], [], []⟩), (21, ⟨[1, 4, 5, 6, 7, 8], [4], [], []⟩), (22, ⟨[4], [4], [], []⟩)]
def f9_ann : Nat → Option Ann := lookA []
def f9_jn : Nat → Option Ann := lookA []
def f10_ann : Nat → Option Ann := lookA []
def f10_jn : Nat → Option Ann := lookA []
def f11_ann : Nat → Option Ann := lookA []
def f11_jn : Nat → Option Ann := lookA []
def f12_ann : Nat → Option Ann := lookA []
def f12_jn : Nat → Option Ann := lookA []
def f13_ann : Nat → Option Ann := lookA []
def f13_jn : Nat → Option Ann := lookA []
def f14_ann : Nat → Option Ann := lookA [(3, ⟨[1, 3, 4], [], [], []⟩)]
def f14_jn : Nat → Option Ann := lookA [(7, ⟨[1, 3, 4], [], [], []⟩), (8, ⟨[1, 3], [], [], []⟩)]
def f21_ann : Nat → Option Ann := lookA [(4, ⟨[1, 24, 25, 26], [], [], []⟩)]
def f21_jn : Nat → Option Ann := lookA []
def f22_ann : Nat → Option Ann := lookA []
def f22_jn : Nat → Option Ann := lookA []
def f23_ann : Nat → Option Ann := lookA [(4, ⟨[5, 10, 11, 12], [], [], []⟩)]
def f23_jn : Nat → Option Ann := lookA []
def f24_ann : Nat → Option Ann := lookA [(5, ⟨[0, 3, 17, 18, 19], [], [], []⟩)]
def f24_jn : Nat → Option Ann := lookA [(4, ⟨[0, 3], [], [], []⟩), (9, ⟨[0, 3], [], [], []⟩)]
def f27_ann : Nat → Option Ann := lookA [(4, ⟨[1, 3], [], [], []⟩)]
def f27_jn : Nat → Option Ann := lookA []
def f28_ann : Nat → Option Ann := lookA []
def f28_jn : Nat → Option Ann := lookA []
def f29_ann : Nat → Option Ann := lookA []
def f29_jn : Nat → Option Ann := lookA []
def f30_ann : Nat → Option Ann := lookA [(3, ⟨[0, 3, 4], [], [], []⟩)]
def f30_jn : Nat → Option Ann := lookA []
def f31_ann : Nat → Option Ann := lookA [(3, ⟨[3, 9, 10, 11], [3], [], []⟩)]
def f31_jn : Nat → Option Ann := lookA []
def f40_ann : Nat → Option Ann := lookA [(7, ⟨[5, 50, 51, 52], [], [], []⟩)]
def f40_jn : Nat → Option Ann := lookA []
def f44_ann : Nat → Option Ann := lookA [(4, ⟨[2, 3, 5], [], [], []⟩), (10, ⟨[2, 3, 5, 6, 7], [], [], []⟩)]
def f44_jn : Nat → Option Ann := lookA []
def f51_ann : Nat → Option Ann := lookA [(4, ⟨[2, 3, 21, 22, 23], [], [], []⟩)]
def f51_jn : Nat → Option Ann := lookA [(9, ⟨[2, 3], [], [], []⟩)]
def f54_ann : Nat → Option Ann := lookA [(5, ⟨[2, 5, 6], [], [], []⟩), (10, ⟨[2, 5, 6, 7], [], [], []⟩)]
def f54_jn : Nat → Option Ann := lookA [(14, ⟨[2, 5], [], [], []⟩)]
def f55_ann : Nat → Option Ann := lookA []
def f55_jn : Nat → Option Ann := lookA [(4, ⟨[3, 4, 5, 7, 8, 9, 40], [], [], []⟩), (6, ⟨[3, 4, 5, 7, 8, 9, 40, 41], [], [], []⟩)]
def f56_ann : Nat → Option Ann := lookA []
def f56_jn : Nat → Option Ann := lookA [(7, ⟨[3, 4, 5, 7, 8, 9, 26, 51], [], [], []⟩), (14, ⟨[3, 4, 5, 7, 8, 9, 26, 72], [], [], []⟩)]
def f63_ann : Nat → Option Ann := lookA []
def f63_jn : Nat → Option Ann := lookA []
def f64_ann : Nat → Option Ann := lookA []
def f64_jn : Nat → Option Ann := lookA []
def f65_ann : Nat → Option Ann := lookA []
def f65_jn : Nat → Option Ann := lookA []
def f68_ann : Nat → Option Ann := lookA []
def f68_jn : Nat → Option Ann := lookA []
def f69_ann : Nat → Option Ann := lookA []
def f69_jn : Nat → Option Ann := lookA []
def f70_ann : Nat → Option Ann := lookA [(4, ⟨[3, 5, 9], [], [], []⟩)]
def f70_jn : Nat → Option Ann := lookA []
def f71_ann : Nat → Option Ann := lookA []
def f71_jn : Nat → Option Ann := lookA []
def f81_ann : Nat → Option Ann := lookA []
def f81_jn : Nat → Option Ann := lookA []
def f82_ann : Nat → Option Ann := lookA [(2, ⟨[0, 5, 6, 7], [], [], []⟩)]
def f82_jn : Nat → Option Ann := lookA []
def f83_ann : Nat → Option Ann := lookA []
def f83_jn : Nat → Option Ann := lookA []
def f84_ann : Nat → Option Ann := lookA []
def f84_jn : Nat → Option Ann := lookA []
def f85_ann : Nat → Option Ann := lookA [(6, ⟨[4, 40, 41, 42], [], [], []⟩)]
def f85_jn : Nat → Option Ann := lookA []
def f86_ann : Nat → Option Ann := lookA []
def f86_jn : Nat → Option Ann := lookA []
def f87_ann : Nat → Option Ann := lookA []
def f87_jn : Nat → Option Ann := lookA []
def f105_ann : Nat → Option Ann := lookA []
def f105_jn : Nat → Option Ann := lookA []
def f116_ann : Nat → Option Ann := lookA [(2, ⟨[0, 1, 7, 8], [], [], []⟩)]
def f116_jn : Nat → Option Ann := lookA []
noncomputable def fns : FuncId → Option Func := fun f => bif f.beq 3 then some Tryd.f3 else bif f.beq 5 then some Tryd.f5 else bif f.beq 6 then some Tryd.f6 else bif f.beq 7 then some Tryd.f7 else bif f.beq 8 then some Tryd.f8 else bif f.beq 9 then some Tryd.f9 else bif f.beq 10 then some Tryd.f10 else bif f.beq 11 then some Tryd.f11 else bif f.beq 12 then some Tryd.f12 else bif f.beq 13 then some Tryd.f13 else bif f.beq 14 then some Tryd.f14 else bif f.beq 21 then some Tryd.f21 else bif f.beq 22 then some Tryd.f22 else bif f.beq 23 then some Tryd.f23 else bif f.beq 24 then some Tryd.f24 else bif f.beq 27 then some Tryd.f27 else bif f.beq 28 then some Tryd.f28 else bif f.beq 29 then some Tryd.f29 else bif f.beq 30 then some Tryd.f30 else bif f.beq 31 then some Tryd.f31 else bif f.beq 40 then some Tryd.f40 else bif f.beq 44 then some Tryd.f44 else bif f.beq 51 then some Tryd.f51 else bif f.beq 54 then some Tryd.f54 else bif f.beq 55 then some Tryd.f55 else bif f.beq 56 then some Tryd.f56 else bif f.beq 63 then some Tryd.f63 else bif f.beq 64 then some Tryd.f64 else bif f.beq 65 then some Tryd.f65 else bif f.beq 68 then some Tryd.f68 else bif f.beq 69 then some Tryd.f69 else bif f.beq 70 then some Tryd.f70 else bif f.beq 71 then some Tryd.f71 else bif f.beq 81 then some Tryd.f81 else bif f.beq 82 then some Tryd.f82 else bif f.beq 83 then some Tryd.f83 else bif f.beq 84 then some Tryd.f84 else bif f.beq 85 then some Tryd.f85 else bif f.beq 86 then some Tryd.f86 else bif f.beq 87 then some Tryd.f87 else bif f.beq 105 then some Tryd.f105 else bif f.beq 116 then some Tryd.f116 else none
def anns : FuncId → Nat → Option Ann := fun f => bif f.beq 3 then f3_ann else bif f.beq 5 then f5_ann else bif f.beq 6 then f6_ann else bif f.beq 7 then f7_ann else bif f.beq 8 then f8_ann else bif f.beq 9 then f9_ann else bif f.beq 10 then f10_ann else bif f.beq 11 then f11_ann else bif f.beq 12 then f12_ann else bif f.beq 13 then f13_ann else bif f.beq 14 then f14_ann else bif f.beq 21 then f21_ann else bif f.beq 22 then f22_ann else bif f.beq 23 then f23_ann else bif f.beq 24 then f24_ann else bif f.beq 27 then f27_ann else bif f.beq 28 then f28_ann else bif f.beq 29 then f29_ann else bif f.beq 30 then f30_ann else bif f.beq 31 then f31_ann else bif f.beq 40 then f40_ann else bif f.beq 44 then f44_ann else bif f.beq 51 then f51_ann else bif f.beq 54 then f54_ann else bif f.beq 55 then f55_ann else bif f.beq 56 then f56_ann else bif f.beq 63 then f63_ann else bif f.beq 64 then f64_ann else bif f.beq 65 then f65_ann else bif f.beq 68 then f68_ann else bif f.beq 69 then f69_ann else bif f.beq 70 then f70_ann else bif f.beq 71 then f71_ann else bif f.beq 81 then f81_ann else bif f.beq 82 then f82_ann else bif f.beq 83 then f83_ann else bif f.beq 84 then f84_ann else bif f.beq 85 then f85_ann else bif f.beq 86 then f86_ann else bif f.beq 87 then f87_ann else bif f.beq 105 then f105_ann else bif f.beq 116 then f116_ann else fun _ => none
def jns : FuncId → Nat → Option Ann := fun f => bif f.beq 3 then f3_jn else bif f.beq 5 then f5_jn else bif f.beq 6 then f6_jn else bif f.beq 7 then f7_jn else bif f.beq 8 then f8_jn else bif f.beq 9 then f9_jn else bif f.beq 10 then f10_jn else bif f.beq 11 then f11_jn else bif f.beq 12 then f12_jn else bif f.beq 13 then f13_jn else bif f.beq 14 then f14_jn else bif f.beq 21 then f21_jn else bif f.beq 22 then f22_jn else bif f.beq 23 then f23_jn else bif f.beq 24 then f24_jn else bif f.beq 27 then f27_jn else bif f.beq 28 then f28_jn else bif f.beq 29 then f29_jn else bif f.beq 30 then f30_jn else bif f.beq 31 then f31_jn else bif f.beq 40 then f40_jn else bif f.beq 44 then f44_jn else bif f.beq 51 then f51_jn else bif f.beq 54 then f54_jn else bif f.beq 55 then f55_jn else bif f.beq 56 then f56_jn else bif f.beq 63 then f63_jn else bif f.beq 64 then f64_jn else bif f.beq 65 then f65_jn else bif f.beq 68 then f68_jn else bif f.beq 69 then f69_jn else bif f.beq 70 then f70_jn else bif f.beq 71 then f71_jn else bif f.beq 81 then f81_jn else bif f.beq 82 then f82_jn else bif f.beq 83 then f83_jn else bif f.beq 84 then f84_jn else bif f.beq 85 then f85_jn else bif f.beq 86 then f86_jn else bif f.beq 87 then f87_jn else bif f.beq 105 then f105_jn else bif f.beq 116 then f116_jn else fun _ => none
def lent : FuncId → Option LentD := lookD [(22, ⟨63, [.may, .bf 5]⟩), (24, ⟨63, [.may, .bf 5]⟩), (25, ⟨63, [.may, .bf 5]⟩), (26, ⟨63, [.may, .bf 5]⟩), (41, ⟨63, [.may, .bf 5]⟩), (42, ⟨63, [.may, .bf 5]⟩)]
def selfT (t : TypeId) : Bool := memB t [63]
def ext : FuncId → Option (List TV → Option TV) := fun f => bif f.beq 25 then some (xLen 5) else bif f.beq 26 then some (xString 5) else bif f.beq 41 then some (xWriteString 5) else bif f.beq 42 then some (xWriteByte 5) else bif f.beq 43 then some (xItoa) else none
noncomputable def prog : AProg := ⟨tab, pure, rts, fns, anns, jns, lent, selfT, ext⟩
end Go.Ab.D5

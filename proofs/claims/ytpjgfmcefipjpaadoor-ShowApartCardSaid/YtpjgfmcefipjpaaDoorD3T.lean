import Derived.Test.YtpjgfmcefipjpaaDoorB0
import Derived.Test.YtpjgfmcefipjpaaDoorProg
set_option linter.unusedVariables false
namespace Go.Ab.D3
open Go.Ab Go.Proofs
def lookA : List (Nat × Ann) → Nat → Option Ann
  | [], _ => none
  | (k, d) :: r, t => bif k.beq t then some d else lookA r t
def z2 : List Value := [.int .i64 0]
def z3 : List Value := [.int .i64 0]
def z4 : List Value := [.bool false]
def z5 : List Value := [.int .u8 0]
def z6 : List Value := [.int .u8 0]
def z7 : List Value := [.int .i64 0, .int .i64 0, .bool false, .int .u8 0]
def z8 : List Value := [.int .i64 0, .int .i64 0, .bool false, .int .u8 0]
def z9 : List Value := [.string ⟨#[]⟩]
def z10 : List Value := [.string ⟨#[]⟩]
def z11 : List Value := [.string ⟨#[]⟩]
def z12 : List Value := [.int .u64 0]
def z13 : List Value := [.string ⟨#[]⟩, .int .u64 0]
def z14 : List Value := [.string ⟨#[]⟩, .int .u64 0]
def z15 : List Value := [.pointer none]
def z16 : List Value := [.pointer none]
def z17 : List Value := [.pointer none]
def z18 : List Value := [.pointer none]
def z19 : List Value := [.pointer none]
def z20 : List Value := [.nilIface]
def z21 : List Value := [.int .i32 0]
def z22 : List Value := [.slice none 0 0]
def z23 : List Value := [.slice none 0 0]
def z24 : List Value := [.slice none 0 0]
def z25 : List Value := [.int .u16 0]
def z26 : List Value := [.slice none 0 0]
def z27 : List Value := [.int .i64 0, .int .i64 0, .int .i64 0, .int .i64 0, .int .u16 0, .int .i64 0, .slice none 0 0]
def z28 : List Value := [.int .i64 0, .int .i64 0, .int .i64 0, .int .i64 0, .int .u16 0, .int .i64 0, .slice none 0 0]
def z29 : List Value := [.int .i64 0, .int .i64 0, .int .i64 0, .int .i64 0, .slice none 0 0, .int .i64 0, .int .i64 0, .int .i64 0]
def z30 : List Value := [.int .i64 0, .int .i64 0, .int .i64 0, .int .i64 0, .slice none 0 0, .int .i64 0, .int .i64 0, .int .i64 0]
def z31 : List Value := [.slice none 0 0]
def z32 : List Value := [.int .i64 0, .slice none 0 0, .bool false, .bool false]
def z33 : List Value := [.int .i64 0, .slice none 0 0, .bool false, .bool false]
def z34 : List Value := [.nilFunc]
def z35 : List Value := [.nilFunc]
def z36 : List Value := [.int .i64 0]
def z38 : List Value := [.nilFunc]
def z40 : List Value := [.nilFunc]
def z41 : List Value := [.nilFunc]
def z42 : List Value := [.nilFunc]
def z43 : List Value := [.nilFunc]
def z44 : List Value := [.nilFunc]
def z45 : List Value := [.nilFunc]
def z46 : List Value := [.slice none 0 0]
def z47 : List Value := [.int .i64 0, .int .i64 0, .slice none 0 0]
def z48 : List Value := [.int .i64 0, .int .i64 0, .slice none 0 0]
def z49 : List Value := [.slice none 0 0]
def z50 : List Value := [.bool false, .int .i64 0, .slice none 0 0, .bool false, .bool false, .slice none 0 0, .int .i64 0, .int .i64 0, .int .i64 0, .int .i64 0, .slice none 0 0, .int .i64 0, .int .i64 0, .int .i64 0]
def z51 : List Value := [.bool false, .int .i64 0, .slice none 0 0, .bool false, .bool false, .slice none 0 0, .int .i64 0, .int .i64 0, .int .i64 0, .int .i64 0, .slice none 0 0, .int .i64 0, .int .i64 0, .int .i64 0]
def z53 : List Value := [.nilFunc]
def z55 : List Value := [.nilFunc]
def z57 : List Value := [.nilFunc]
def z58 : List Value := [.nilFunc]
def z59 : List Value := [.nilFunc]
def z60 : List Value := [.nilFunc]
def z61 : List Value := [.pointer none]
def z62 : List Value := [.slice none 0 0]
def z63 : List Value := [.pointer none, .slice none 0 0]
def z64 : List Value := [.pointer none, .slice none 0 0]
def z65 : List Value := [.nilFunc]
def z66 : List Value := [.nilFunc]
def z67 : List Value := [.nilFunc]
def z68 : List Value := [.nilFunc]
def z69 : List Value := [.nilFunc]
def z70 : List Value := [.nilFunc]
def z71 : List Value := [.nilFunc]
def z72 : List Value := [.nilFunc]
def z73 : List Value := [.nilFunc]
def z74 : List Value := [.nilFunc]
def z75 : List Value := [.nilFunc]
def z77 : List Value := [.nilFunc]
def z78 : List Value := [.slice none 0 0]
def z79 : List Value := [.nilFunc]
def z80 : List Value := [.nilFunc]
def z81 : List Value := [.nilFunc]
def z82 : List Value := [.nilFunc]
def z83 : List Value := [.nilFunc]
def z84 : List Value := [.nilFunc]
def z85 : List Value := [.nilFunc]
def z86 : List Value := [.nilIface]
def z87 : List Value := [.nilIface]
def z89 : List Value := [.nilFunc]
def z90 : List Value := [.nilFunc]
def z91 : List Value := [.pointer none]
def z92 : List Value := [.nilFunc]
def z93 : List Value := [.nilFunc]
def z94 : List Value := [.int .i64 0]
def z95 : List Value := [.slice none 0 0, .int .i64 0]
def z96 : List Value := [.slice none 0 0, .int .i64 0]
def z98 : List Value := [.nilFunc]
def z99 : List Value := [.nilFunc]
def z100 : List Value := [.nilFunc]
def z101 : List Value := [.nilFunc]
def z102 : List Value := [.pointer none]
def z103 : List Value := [.slice none 0 0, .int .i64 0, .int .i64 0, .slice none 0 0]
def z104 : List Value := [.slice none 0 0, .int .i64 0, .int .i64 0, .slice none 0 0]
def z105 : List Value := [.nilFunc]
def z106 : List Value := [.nilFunc]
def z107 : List Value := [.nilFunc]
def z108 : List Value := [.nilFunc]
def z109 : List Value := [.nilFunc]
def z110 : List Value := [.nilFunc]
def z111 : List Value := [.pointer none]
def z112 : List Value := [.nilFunc]
def z113 : List Value := [.nilFunc]
def z114 : List Value := [.nilFunc]
def z115 : List Value := [.nilFunc]
def z116 : List Value := [.slice none 0 0]
def z117 : List Value := [.int .u64 0]
def z119 : List Value := [.nilFunc]
def z120 : List Value := [.nilFunc]
def z121 : List Value := [.nilFunc]
def z122 : List Value := [.nilFunc]
def z124 : List Value := [.nilFunc]
def z125 : List Value := [.nilFunc]
def z126 : List Value := [.nilFunc]
def z127 : List Value := [.nilFunc]
def z128 : List Value := [.nilFunc]
def z129 : List Value := [.nilFunc]
def z130 : List Value := [.nilFunc]
def z131 : List Value := [.nilFunc]
def z133 : List Value := [.nilFunc]
def z134 : List Value := [.nilFunc]
def z135 : List Value := [.pointer none]
def z136 : List Value := [.nilFunc]
def z137 : List Value := [.nilFunc]
def z138 : List Value := [.nilFunc]
def z139 : List Value := [.nilFunc]
def z140 : List Value := [.nilFunc]
def z141 : List Value := [.int .i64 0]
def z142 : List Value := [.nilFunc]
def z143 : List Value := [.nilFunc]
def z144 : List Value := [.nilFunc]
def z145 : List Value := [.nilFunc]
def z146 : List Value := [.int .u8 0, .int .u8 0, .int .u8 0, .int .u8 0, .int .u8 0, .int .u8 0, .int .u8 0, .int .u8 0, .int .u8 0, .int .u8 0, .int .u8 0, .int .u8 0, .int .u8 0, .int .u8 0, .int .u8 0, .int .u8 0, .int .u8 0, .int .u8 0, .int .u8 0, .int .u8 0, .int .u8 0, .int .u8 0, .int .u8 0, .int .u8 0]
def z147 : List Value := [.nilFunc]
def z148 : List Value := [.nilFunc]
def z150 : List Value := [.nilFunc]
def z151 : List Value := [.nilFunc]
def z152 : List Value := [.nilFunc]
def z153 : List Value := [.int .u64 0]
def z154 : List Value := [.pointer none]
def z156 : List Value := [.nilFunc]
def z157 : List Value := [.int .i64 0]
def z158 : List Value := [.nilFunc]
def z159 : List Value := [.nilFunc]
def z160 : List Value := [.pointer none]
def z161 : List Value := [.nilFunc]
def z162 : List Value := [.nilFunc]
def z163 : List Value := [.nilFunc]
def z164 : List Value := [.nilFunc]
def z165 : List Value := [.int .u64 0, .int .u64 0, .int .u64 0, .int .u64 0, .int .u64 0, .int .u64 0, .int .u64 0, .int .u64 0, .int .u64 0, .int .u64 0, .int .u64 0, .int .u64 0, .int .u64 0, .int .u64 0, .int .u64 0, .int .u64 0, .int .u64 0, .int .u64 0, .int .u64 0, .int .u64 0]
def z166 : List Value := [.int .u32 0]
def z167 : List Value := [.int .u8 0, .int .u8 0, .int .u8 0, .int .u8 0, .int .u8 0, .int .u8 0, .int .u8 0, .int .u8 0, .int .u8 0, .int .u8 0, .int .u8 0, .int .u8 0, .int .u8 0, .int .u8 0, .int .u8 0, .int .u8 0, .int .u8 0, .int .u8 0, .int .u8 0, .int .u8 0, .int .u8 0, .int .u8 0, .int .u8 0, .int .u8 0, .int .u8 0, .int .u8 0, .int .u8 0, .int .u8 0, .int .u8 0, .int .u8 0, .int .u8 0, .int .u8 0, .int .u8 0, .int .u8 0, .int .u8 0, .int .u8 0, .int .u8 0, .int .u8 0, .int .u8 0, .int .u8 0, .int .u8 0, .int .u8 0, .int .u8 0, .int .u8 0, .int .u8 0, .int .u8 0, .int .u8 0, .int .u8 0, .int .u8 0, .int .u8 0, .int .u8 0, .int .u8 0, .int .u8 0, .int .u8 0, .int .u8 0, .int .u8 0, .int .u8 0, .int .u8 0, .int .u8 0, .int .u8 0, .int .u8 0, .int .u8 0, .int .u8 0, .int .u8 0, .int .u8 0]
def z168 : List Value := [.nilFunc]
def z169 : List Value := [.nilFunc]
def z171 : List Value := [.nilFunc]
def z172 : List Value := [.nilFunc]
def z173 : List Value := [.string ⟨#[]⟩, .string ⟨#[]⟩, .nilIface]
def z174 : List Value := [.string ⟨#[]⟩, .string ⟨#[]⟩, .nilIface]
def z175 : List Value := [.nilFunc]
def z176 : List Value := [.nilFunc]
def z177 : List Value := [.nilFunc]
def z178 : List Value := [.int .u8 0, .int .u8 0, .int .u8 0, .int .u8 0, .int .u8 0, .int .u8 0, .int .u8 0, .int .u8 0, .int .u8 0, .int .u8 0, .int .u8 0, .int .u8 0, .int .u8 0, .int .u8 0, .int .u8 0, .int .u8 0, .int .u8 0, .int .u8 0, .int .u8 0, .int .u8 0, .int .u8 0, .int .u8 0, .int .u8 0, .int .u8 0, .int .u8 0, .int .u8 0, .int .u8 0, .int .u8 0, .int .u8 0, .int .u8 0, .int .u8 0, .int .u8 0, .int .u8 0, .int .u8 0, .int .u8 0, .int .u8 0, .int .u8 0, .int .u8 0, .int .u8 0, .int .u8 0, .int .u8 0, .int .u8 0, .int .u8 0, .int .u8 0, .int .u8 0, .int .u8 0, .int .u8 0, .int .u8 0, .int .u8 0, .int .u8 0, .int .u8 0, .int .u8 0, .int .u8 0, .int .u8 0, .int .u8 0, .int .u8 0, .int .u8 0, .int .u8 0, .int .u8 0, .int .u8 0, .int .u8 0, .int .u8 0, .int .u8 0, .int .u8 0, .int .u8 0, .int .u8 0, .int .u8 0, .int .u8 0, .int .u8 0, .int .u8 0, .int .u8 0, .int .u8 0, .int .u8 0, .int .u8 0, .int .u8 0, .int .u8 0, .int .u8 0, .int .u8 0, .int .u8 0, .int .u8 0, .int .u8 0, .int .u8 0, .int .u8 0, .int .u8 0, .int .u8 0, .int .u8 0, .int .u8 0, .int .u8 0, .int .u8 0, .int .u8 0, .int .u8 0, .int .u8 0, .int .u8 0, .int .u8 0, .int .u8 0, .int .u8 0, .int .u8 0, .int .u8 0, .int .u8 0, .int .u8 0, .int .u8 0, .int .u8 0, .int .u8 0, .int .u8 0, .int .u8 0, .int .u8 0, .int .u8 0, .int .u8 0, .int .u8 0, .int .u8 0, .int .u8 0, .int .u8 0, .int .u8 0, .int .u8 0, .int .u8 0, .int .u8 0, .int .u8 0, .int .u8 0, .int .u8 0, .int .u8 0, .int .u8 0, .int .u8 0, .int .u8 0, .int .u8 0, .int .u8 0, .int .u8 0, .int .u8 0, .int .u8 0, .int .u8 0, .int .u8 0, .int .u8 0, .int .u8 0, .int .u8 0, .int .u8 0, .int .u8 0, .int .u8 0, .int .u8 0, .int .u8 0, .int .u8 0, .int .u8 0, .int .u8 0, .int .u8 0, .int .u8 0, .int .u8 0, .int .u8 0, .int .u8 0, .int .u8 0, .int .u8 0, .int .u8 0, .int .u8 0, .int .u8 0, .int .u8 0, .int .u8 0, .int .u8 0, .int .u8 0, .int .u8 0, .int .u8 0, .int .u8 0, .int .u8 0, .int .u8 0, .int .u8 0, .int .u8 0, .int .u8 0, .int .u8 0, .int .u8 0, .int .u8 0, .int .u8 0, .int .u8 0, .int .u8 0, .int .u8 0, .int .u8 0, .int .u8 0, .int .u8 0, .int .u8 0, .int .u8 0, .int .u8 0, .int .u8 0, .int .u8 0, .int .u8 0, .int .u8 0, .int .u8 0, .int .u8 0, .int .u8 0, .int .u8 0, .int .u8 0, .int .u8 0, .int .u8 0, .int .u8 0, .int .u8 0, .int .u8 0, .int .u8 0, .int .u8 0, .int .u8 0, .int .u8 0, .int .u8 0, .int .u8 0, .int .u8 0, .int .u8 0, .int .u8 0, .int .u8 0, .int .u8 0, .int .u8 0, .int .u8 0, .int .u8 0, .int .u8 0, .int .u8 0, .int .u8 0, .int .u8 0, .int .u8 0, .int .u8 0, .int .u8 0, .int .u8 0, .int .u8 0, .int .u8 0, .int .u8 0, .int .u8 0, .int .u8 0, .int .u8 0, .int .u8 0, .int .u8 0, .int .u8 0, .int .u8 0, .int .u8 0, .int .u8 0, .int .u8 0, .int .u8 0, .int .u8 0, .int .u8 0, .int .u8 0, .int .u8 0, .int .u8 0, .int .u8 0, .int .u8 0, .int .u8 0, .int .u8 0, .int .u8 0, .int .u8 0, .int .u8 0, .int .u8 0, .int .u8 0, .int .u8 0, .int .u8 0, .int .u8 0, .int .u8 0, .int .u8 0, .int .u8 0, .int .u8 0, .int .u8 0, .int .u8 0, .int .u8 0, .int .u8 0, .int .u8 0, .int .u8 0, .int .u8 0, .int .u8 0, .int .u8 0]
def z179 : List Value := [.int .u8 0, .int .u8 0]
def z180 : List Value := [.int .u8 0, .int .u8 0]
def z181 : List Value := [.int .u8 0, .int .u8 0, .int .u8 0, .int .u8 0, .int .u8 0, .int .u8 0, .int .u8 0, .int .u8 0, .int .u8 0, .int .u8 0, .int .u8 0, .int .u8 0, .int .u8 0, .int .u8 0, .int .u8 0, .int .u8 0, .int .u8 0, .int .u8 0, .int .u8 0, .int .u8 0, .int .u8 0, .int .u8 0, .int .u8 0, .int .u8 0, .int .u8 0, .int .u8 0, .int .u8 0, .int .u8 0, .int .u8 0, .int .u8 0, .int .u8 0, .int .u8 0]
def z182 : List Value := [.pointer none]
def z183 : List Value := [.string ⟨#[]⟩]
def z184 : List Value := [.string ⟨#[]⟩]
def z185 : List Value := [.int .u8 0, .int .u8 0, .int .u8 0, .int .u8 0, .int .u8 0, .int .u8 0, .int .u8 0, .int .u8 0, .int .u8 0, .int .u8 0, .int .u8 0, .int .u8 0, .int .u8 0, .int .u8 0, .int .u8 0, .int .u8 0, .int .u8 0, .int .u8 0, .int .u8 0, .int .u8 0, .int .u8 0, .int .u8 0, .int .u8 0, .int .u8 0, .int .u8 0, .int .u8 0, .int .u8 0, .int .u8 0, .int .u8 0, .int .u8 0, .int .u8 0, .int .u8 0]
def z186 : List Value := [.int .u8 0, .int .u8 0, .int .u8 0, .int .u8 0, .int .u8 0, .int .u8 0, .int .u8 0, .int .u8 0, .int .u8 0, .int .u8 0, .int .u8 0, .int .u8 0, .int .u8 0, .int .u8 0, .int .u8 0, .int .u8 0, .int .u8 0, .int .u8 0, .int .u8 0, .int .u8 0, .int .u8 0, .int .u8 0, .int .u8 0, .int .u8 0, .int .u8 0, .int .u8 0, .int .u8 0, .int .u8 0, .int .u8 0, .int .u8 0, .int .u8 0, .int .u8 0, .int .u8 0, .int .u8 0, .int .u8 0, .int .u8 0, .int .u8 0, .int .u8 0, .int .u8 0, .int .u8 0, .int .u8 0, .int .u8 0, .int .u8 0, .int .u8 0, .int .u8 0, .int .u8 0, .int .u8 0, .int .u8 0, .int .u8 0, .int .u8 0, .int .u8 0, .int .u8 0, .int .u8 0, .int .u8 0, .int .u8 0, .int .u8 0, .int .u8 0, .int .u8 0, .int .u8 0, .int .u8 0, .int .u8 0, .int .u8 0, .int .u8 0, .int .u8 0]
def z187 : List Value := [.pointer none, .pointer none, .pointer none, .string ⟨#[]⟩]
def z188 : List Value := [.pointer none, .pointer none, .pointer none, .string ⟨#[]⟩]
def z189 : List Value := []
def z190 : List Value := []
def z191 : List Value := []
def z192 : List Value := [.int .u8 0]
def z193 : List Value := [.int .u8 0]
def z194 : List Value := [.nilFunc]
def z195 : List Value := [.int .i32 0]
def z196 : List Value := [.int .i32 0]
def z197 : List Value := [.int .u64 0, .int .u64 0, .int .u32 0, .int .u8 0, .int .u8 0, .int .u8 0, .int .u8 0, .nilFunc, .pointer none, .int .i32 0, .int .i32 0]
def z198 : List Value := [.int .u64 0, .int .u64 0, .int .u32 0, .int .u8 0, .int .u8 0, .int .u8 0, .int .u8 0, .nilFunc, .pointer none, .int .i32 0, .int .i32 0]
def tab : Tab := lookT [
  (2, ⟨1, 8, .int .i64, z2, []⟩),
  (3, ⟨1, 8, .int .i64, z3, []⟩),
  (4, ⟨1, 1, .bool, z4, []⟩),
  (5, ⟨1, 1, .int .u8, z5, []⟩),
  (6, ⟨1, 1, .int .u8, z6, []⟩),
  (7, ⟨4, 24, .struct, z7, [(0, 2), (1, 3), (2, 4), (3, 6)]⟩),
  (8, ⟨4, 24, .struct, z8, [(0, 2), (1, 3), (2, 4), (3, 6)]⟩),
  (9, ⟨1, 16, .str, z9, []⟩),
  (10, ⟨1, 16, .str, z10, []⟩),
  (11, ⟨1, 16, .str, z11, []⟩),
  (12, ⟨1, 8, .int .u64, z12, []⟩),
  (13, ⟨2, 24, .struct, z13, [(0, 9), (1, 12)]⟩),
  (14, ⟨2, 24, .struct, z14, [(0, 9), (1, 12)]⟩),
  (15, ⟨1, 8, .other, z15, []⟩),
  (16, ⟨1, 8, .other, z16, []⟩),
  (17, ⟨1, 8, .other, z17, []⟩),
  (18, ⟨1, 8, .struct, z18, [(0, 17)]⟩),
  (19, ⟨1, 8, .struct, z19, [(0, 17)]⟩),
  (20, ⟨1, 16, .other, z20, []⟩),
  (21, ⟨1, 4, .int .i32, z21, []⟩),
  (22, ⟨1, 24, .slice 48, z22, []⟩),
  (23, ⟨1, 24, .struct, z23, [(0, 22)]⟩),
  (24, ⟨1, 24, .struct, z24, [(0, 22)]⟩),
  (25, ⟨1, 2, .int .u16, z25, []⟩),
  (26, ⟨1, 24, .slice 3, z26, []⟩),
  (27, ⟨7, 72, .struct, z27, [(0, 3), (1, 3), (2, 3), (3, 3), (4, 25), (5, 3), (6, 26)]⟩),
  (28, ⟨7, 72, .struct, z28, [(0, 3), (1, 3), (2, 3), (3, 3), (4, 25), (5, 3), (6, 26)]⟩),
  (29, ⟨8, 80, .struct, z29, [(0, 3), (1, 3), (2, 3), (3, 3), (4, 26), (5, 3), (6, 3), (7, 3)]⟩),
  (30, ⟨8, 80, .struct, z30, [(0, 3), (1, 3), (2, 3), (3, 3), (4, 26), (5, 3), (6, 3), (7, 3)]⟩),
  (31, ⟨1, 24, .slice 25, z31, []⟩),
  (32, ⟨4, 40, .struct, z32, [(0, 3), (1, 31), (2, 4), (3, 4)]⟩),
  (33, ⟨4, 40, .struct, z33, [(0, 3), (1, 31), (2, 4), (3, 4)]⟩),
  (34, ⟨1, 8, .other, z34, []⟩),
  (35, ⟨1, 8, .other, z35, []⟩),
  (36, ⟨1, 8, .int .i64, z36, []⟩),
  (38, ⟨1, 8, .other, z38, []⟩),
  (40, ⟨1, 8, .other, z40, []⟩),
  (41, ⟨1, 8, .other, z41, []⟩),
  (42, ⟨1, 8, .other, z42, []⟩),
  (43, ⟨1, 8, .other, z43, []⟩),
  (44, ⟨1, 8, .other, z44, []⟩),
  (45, ⟨1, 8, .other, z45, []⟩),
  (46, ⟨1, 24, .slice 51, z46, []⟩),
  (47, ⟨3, 40, .struct, z47, [(0, 3), (1, 3), (2, 46)]⟩),
  (48, ⟨3, 40, .struct, z48, [(0, 3), (1, 3), (2, 46)]⟩),
  (49, ⟨1, 24, .slice 28, z49, []⟩),
  (50, ⟨14, 152, .struct, z50, [(0, 4), (1, 33), (5, 49), (6, 30)]⟩),
  (51, ⟨14, 152, .struct, z51, [(0, 4), (1, 33), (5, 49), (6, 30)]⟩),
  (53, ⟨1, 8, .other, z53, []⟩),
  (55, ⟨1, 8, .other, z55, []⟩),
  (57, ⟨1, 8, .other, z57, []⟩),
  (58, ⟨1, 8, .other, z58, []⟩),
  (59, ⟨1, 8, .other, z59, []⟩),
  (60, ⟨1, 8, .other, z60, []⟩),
  (61, ⟨1, 8, .other, z61, []⟩),
  (62, ⟨1, 24, .slice 5, z62, []⟩),
  (63, ⟨2, 32, .struct, z63, [(0, 61), (1, 62)]⟩),
  (64, ⟨2, 32, .struct, z64, [(0, 61), (1, 62)]⟩),
  (65, ⟨1, 8, .other, z65, []⟩),
  (66, ⟨1, 8, .other, z66, []⟩),
  (67, ⟨1, 8, .other, z67, []⟩),
  (68, ⟨1, 8, .other, z68, []⟩),
  (69, ⟨1, 8, .other, z69, []⟩),
  (70, ⟨1, 8, .other, z70, []⟩),
  (71, ⟨1, 8, .other, z71, []⟩),
  (72, ⟨1, 8, .other, z72, []⟩),
  (73, ⟨1, 8, .other, z73, []⟩),
  (74, ⟨1, 8, .other, z74, []⟩),
  (75, ⟨1, 8, .other, z75, []⟩),
  (77, ⟨1, 8, .other, z77, []⟩),
  (78, ⟨1, 24, .slice 9, z78, []⟩),
  (79, ⟨1, 8, .other, z79, []⟩),
  (80, ⟨1, 8, .other, z80, []⟩),
  (81, ⟨1, 8, .other, z81, []⟩),
  (82, ⟨1, 8, .other, z82, []⟩),
  (83, ⟨1, 8, .other, z83, []⟩),
  (84, ⟨1, 8, .other, z84, []⟩),
  (85, ⟨1, 8, .other, z85, []⟩),
  (86, ⟨1, 16, .other, z86, []⟩),
  (87, ⟨1, 16, .other, z87, []⟩),
  (89, ⟨1, 8, .other, z89, []⟩),
  (90, ⟨1, 8, .other, z90, []⟩),
  (91, ⟨1, 8, .other, z91, []⟩),
  (92, ⟨1, 8, .other, z92, []⟩),
  (93, ⟨1, 8, .other, z93, []⟩),
  (94, ⟨1, 8, .int .i64, z94, []⟩),
  (95, ⟨2, 32, .struct, z95, [(0, 22), (1, 94)]⟩),
  (96, ⟨2, 32, .struct, z96, [(0, 22), (1, 94)]⟩),
  (98, ⟨1, 8, .other, z98, []⟩),
  (99, ⟨1, 8, .other, z99, []⟩),
  (100, ⟨1, 8, .other, z100, []⟩),
  (101, ⟨1, 8, .other, z101, []⟩),
  (102, ⟨1, 8, .other, z102, []⟩),
  (103, ⟨4, 64, .struct, z103, [(0, 22), (1, 48)]⟩),
  (104, ⟨4, 64, .struct, z104, [(0, 22), (1, 48)]⟩),
  (105, ⟨1, 8, .other, z105, []⟩),
  (106, ⟨1, 8, .other, z106, []⟩),
  (107, ⟨1, 8, .other, z107, []⟩),
  (108, ⟨1, 8, .other, z108, []⟩),
  (109, ⟨1, 8, .other, z109, []⟩),
  (110, ⟨1, 8, .other, z110, []⟩),
  (111, ⟨1, 8, .other, z111, []⟩),
  (112, ⟨1, 8, .other, z112, []⟩),
  (113, ⟨1, 8, .other, z113, []⟩),
  (114, ⟨1, 8, .other, z114, []⟩),
  (115, ⟨1, 8, .other, z115, []⟩),
  (116, ⟨1, 24, .slice 102, z116, []⟩),
  (117, ⟨1, 8, .int .u64, z117, []⟩),
  (119, ⟨1, 8, .other, z119, []⟩),
  (120, ⟨1, 8, .other, z120, []⟩),
  (121, ⟨1, 8, .other, z121, []⟩),
  (122, ⟨1, 8, .other, z122, []⟩),
  (124, ⟨1, 8, .other, z124, []⟩),
  (125, ⟨1, 8, .other, z125, []⟩),
  (126, ⟨1, 8, .other, z126, []⟩),
  (127, ⟨1, 8, .other, z127, []⟩),
  (128, ⟨1, 8, .other, z128, []⟩),
  (129, ⟨1, 8, .other, z129, []⟩),
  (130, ⟨1, 8, .other, z130, []⟩),
  (131, ⟨1, 8, .other, z131, []⟩),
  (133, ⟨1, 8, .other, z133, []⟩),
  (134, ⟨1, 8, .other, z134, []⟩),
  (135, ⟨1, 8, .other, z135, []⟩),
  (136, ⟨1, 8, .other, z136, []⟩),
  (137, ⟨1, 8, .other, z137, []⟩),
  (138, ⟨1, 8, .other, z138, []⟩),
  (139, ⟨1, 8, .other, z139, []⟩),
  (140, ⟨1, 8, .other, z140, []⟩),
  (141, ⟨1, 8, .int .i64, z141, []⟩),
  (142, ⟨1, 8, .other, z142, []⟩),
  (143, ⟨1, 8, .other, z143, []⟩),
  (144, ⟨1, 8, .other, z144, []⟩),
  (145, ⟨1, 8, .other, z145, []⟩),
  (146, ⟨24, 24, .arr 24 5, z146, []⟩),
  (147, ⟨1, 8, .other, z147, []⟩),
  (148, ⟨1, 8, .other, z148, []⟩),
  (150, ⟨1, 8, .other, z150, []⟩),
  (151, ⟨1, 8, .other, z151, []⟩),
  (152, ⟨1, 8, .other, z152, []⟩),
  (153, ⟨1, 8, .int .u64, z153, []⟩),
  (154, ⟨1, 8, .other, z154, []⟩),
  (156, ⟨1, 8, .other, z156, []⟩),
  (157, ⟨1, 8, .int .i64, z157, []⟩),
  (158, ⟨1, 8, .other, z158, []⟩),
  (159, ⟨1, 8, .other, z159, []⟩),
  (160, ⟨1, 8, .other, z160, []⟩),
  (161, ⟨1, 8, .other, z161, []⟩),
  (162, ⟨1, 8, .other, z162, []⟩),
  (163, ⟨1, 8, .other, z163, []⟩),
  (164, ⟨1, 8, .other, z164, []⟩),
  (165, ⟨20, 160, .arr 20 117, z165, []⟩),
  (166, ⟨1, 4, .int .u32, z166, []⟩),
  (167, ⟨65, 65, .arr 65 5, z167, []⟩),
  (168, ⟨1, 8, .other, z168, []⟩),
  (169, ⟨1, 8, .other, z169, []⟩),
  (171, ⟨1, 8, .other, z171, []⟩),
  (172, ⟨1, 8, .other, z172, []⟩),
  (173, ⟨3, 48, .struct, z173, [(0, 9), (1, 9), (2, 87)]⟩),
  (174, ⟨3, 48, .struct, z174, [(0, 9), (1, 9), (2, 87)]⟩),
  (175, ⟨1, 8, .other, z175, []⟩),
  (176, ⟨1, 8, .other, z176, []⟩),
  (177, ⟨1, 8, .other, z177, []⟩),
  (178, ⟨256, 256, .arr 256 5, z178, []⟩),
  (179, ⟨2, 2, .struct, z179, [(0, 5), (1, 5)]⟩),
  (180, ⟨2, 2, .struct, z180, [(0, 5), (1, 5)]⟩),
  (181, ⟨32, 32, .arr 16 180, z181, []⟩),
  (182, ⟨1, 8, .other, z182, []⟩),
  (183, ⟨1, 16, .struct, z183, [(0, 9)]⟩),
  (184, ⟨1, 16, .struct, z184, [(0, 9)]⟩),
  (185, ⟨32, 32, .arr 32 5, z185, []⟩),
  (186, ⟨64, 64, .arr 64 5, z186, []⟩),
  (187, ⟨4, 40, .struct, z187, [(0, 17), (1, 17), (2, 17), (3, 9)]⟩),
  (188, ⟨4, 40, .struct, z188, [(0, 17), (1, 17), (2, 17), (3, 9)]⟩),
  (189, ⟨0, 0, .arr 0 16, z189, []⟩),
  (190, ⟨0, 0, .struct, z190, [(0, 189)]⟩),
  (191, ⟨0, 0, .struct, z191, [(0, 189)]⟩),
  (192, ⟨1, 1, .int .u8, z192, []⟩),
  (193, ⟨1, 1, .int .u8, z193, []⟩),
  (194, ⟨1, 8, .other, z194, []⟩),
  (195, ⟨1, 4, .int .i32, z195, []⟩),
  (196, ⟨1, 4, .int .i32, z196, []⟩),
  (197, ⟨11, 48, .struct, z197, [(0, 12), (1, 12), (2, 166), (3, 192), (4, 5), (5, 5), (6, 193), (7, 194), (8, 91), (9, 195), (10, 196)]⟩),
  (198, ⟨11, 48, .struct, z198, [(0, 12), (1, 12), (2, 166), (3, 192), (4, 5), (5, 5), (6, 193), (7, 194), (8, 91), (9, 195), (10, 196)]⟩)]
def pure (f : FuncId) : Bool := memB f [32, 34]
def lookL : List (Nat × List Nat) → Nat → List Nat
  | [], _ => []
  | (k, d) :: r, t => bif k.beq t then d else lookL r t
def rts : FuncId → List TypeId := lookL [(3, [4]), (4, [4]), (5, [4]), (7, [4]), (8, [4]), (9, [9, 36]), (10, [9, 3]), (11, [9]), (12, [9]), (13, [9]), (14, [9]), (15, [9]), (16, [9]), (17, [4]), (24, [4]), (25, []), (26, [9]), (27, []), (30, [4]), (31, [9]), (32, [26]), (33, [9]), (34, [26]), (35, [4]), (36, [4]), (45, [4]), (49, [4]), (50, [4]), (51, [4]), (58, [4]), (61, [4]), (62, [4]), (63, [4]), (64, [4]), (65, [4]), (66, [4]), (67, [4]), (74, [4]), (75, [4]), (76, [4]), (79, [4]), (80, [4]), (81, [4]), (82, [4]), (83, [4]), (84, [4]), (94, [4]), (95, [4]), (96, [141]), (97, [4]), (98, [4]), (99, [141]), (100, [4]), (118, [4]), (129, [3]), (28, [3]), (29, [9]), (46, [3, 87]), (47, [87]), (48, [9])]
def f3_ann : Nat → Option Ann := lookA [(10, ⟨[5, 6, 7, 13], [], [], []⟩), (15, ⟨[5, 6, 7, 14], [], [], []⟩)]
def f3_jn : Nat → Option Ann := lookA [(14, ⟨[5, 6, 7], [], [], []⟩), (19, ⟨[5, 6, 7], [], [], []⟩)]
def f4_ann : Nat → Option Ann := lookA []
def f4_jn : Nat → Option Ann := lookA [(8, ⟨[2, 3, 5, 6, 7, 8, 34], [], [], []⟩)]
def f5_ann : Nat → Option Ann := lookA [(10, ⟨[1, 3, 5, 6], [], [], []⟩), (16, ⟨[1, 5, 7, 8], [], [], []⟩), (20, ⟨[1, 5, 7, 8, 9], [], [], []⟩)]
def f5_jn : Nat → Option Ann := lookA [(14, ⟨[1, 5], [], [], []⟩), (23, ⟨[5, 7], [], [], []⟩)]
def f7_ann : Nat → Option Ann := lookA []
def f7_jn : Nat → Option Ann := lookA []
def f8_ann : Nat → Option Ann := lookA [(5, ⟨[1, 3, 4], [], [], []⟩), (10, ⟨[1, 3, 4, 5], [], [], []⟩), (17, ⟨[1, 3, 4, 5, 6, 7], [], [], []⟩)]
def f8_jn : Nat → Option Ann := lookA []
def f9_ann : Nat → Option Ann := lookA [(5, ⟨[4, 13, 14, 15], [], [(4, 1)], []⟩), (9, ⟨[4, 13, 14, 15, 27, 28, 29], [], [], []⟩)]
def f9_jn : Nat → Option Ann := lookA [(14, ⟨[4], [], [], []⟩)]
def f10_ann : Nat → Option Ann := lookA [(5, ⟨[1, 4, 5], [4], [], []⟩), (10, ⟨[1, 4, 5, 6, 7], [4], [], []⟩), (18, ⟨[1, 4, 5, 6, 7, 8, 10], [4], [], []⟩)]
def f10_jn : Nat → Option Ann := lookA [(16, ⟨[1, 4, 5, 6, 7, 8, 9], [4], [], []⟩), (21, ⟨[1, 4, 5, 6, 7, 8], [4], [], []⟩), (22, ⟨[4], [4], [], []⟩)]
def f11_ann : Nat → Option Ann := lookA []
def f11_jn : Nat → Option Ann := lookA []
def f12_ann : Nat → Option Ann := lookA []
def f12_jn : Nat → Option Ann := lookA []
def f13_ann : Nat → Option Ann := lookA []
def f13_jn : Nat → Option Ann := lookA []
def f14_ann : Nat → Option Ann := lookA []
def f14_jn : Nat → Option Ann := lookA []
def f15_ann : Nat → Option Ann := lookA []
def f15_jn : Nat → Option Ann := lookA []
def f16_ann : Nat → Option Ann := lookA [(3, ⟨[1, 3, 4], [], [], []⟩)]
def f16_jn : Nat → Option Ann := lookA [(7, ⟨[1, 3, 4], [], [], []⟩), (8, ⟨[1, 3], [], [], []⟩)]
def f17_ann : Nat → Option Ann := lookA []
def f17_jn : Nat → Option Ann := lookA []
def f24_ann : Nat → Option Ann := lookA [(4, ⟨[1, 24, 25, 26], [], [], []⟩)]
def f24_jn : Nat → Option Ann := lookA []
def f25_ann : Nat → Option Ann := lookA []
def f25_jn : Nat → Option Ann := lookA []
def f26_ann : Nat → Option Ann := lookA [(4, ⟨[5, 10, 11, 12], [], [], []⟩)]
def f26_jn : Nat → Option Ann := lookA []
def f27_ann : Nat → Option Ann := lookA [(5, ⟨[0, 3, 17, 18, 19], [], [], []⟩)]
def f27_jn : Nat → Option Ann := lookA [(4, ⟨[0, 3], [], [], []⟩), (9, ⟨[0, 3], [], [], []⟩)]
def f30_ann : Nat → Option Ann := lookA [(4, ⟨[1, 3], [], [], []⟩)]
def f30_jn : Nat → Option Ann := lookA []
def f31_ann : Nat → Option Ann := lookA []
def f31_jn : Nat → Option Ann := lookA []
def f32_ann : Nat → Option Ann := lookA []
def f32_jn : Nat → Option Ann := lookA []
def f33_ann : Nat → Option Ann := lookA [(3, ⟨[0, 3, 4], [], [], []⟩)]
def f33_jn : Nat → Option Ann := lookA []
def f34_ann : Nat → Option Ann := lookA [(3, ⟨[3, 9, 10, 11], [3], [], []⟩)]
def f34_jn : Nat → Option Ann := lookA []
def f35_ann : Nat → Option Ann := lookA [(4, ⟨[1, 2, 15, 16, 17], [], [], []⟩)]
def f35_jn : Nat → Option Ann := lookA []
def f36_ann : Nat → Option Ann := lookA []
def f36_jn : Nat → Option Ann := lookA []
def f45_ann : Nat → Option Ann := lookA [(7, ⟨[5, 50, 51, 52], [], [], []⟩)]
def f45_jn : Nat → Option Ann := lookA []
def f49_ann : Nat → Option Ann := lookA [(4, ⟨[2, 3, 5], [], [], []⟩), (10, ⟨[2, 3, 5, 6, 7], [], [], []⟩)]
def f49_jn : Nat → Option Ann := lookA []
def f50_ann : Nat → Option Ann := lookA [(4, ⟨[1, 2, 15, 16, 17], [], [], []⟩)]
def f50_jn : Nat → Option Ann := lookA []
def f51_ann : Nat → Option Ann := lookA []
def f51_jn : Nat → Option Ann := lookA []
def f58_ann : Nat → Option Ann := lookA [(4, ⟨[2, 3, 21, 22, 23], [], [], []⟩)]
def f58_jn : Nat → Option Ann := lookA [(9, ⟨[2, 3], [], [], []⟩)]
def f61_ann : Nat → Option Ann := lookA [(5, ⟨[2, 5, 6], [], [], []⟩), (10, ⟨[2, 5, 6, 7], [], [], []⟩)]
def f61_jn : Nat → Option Ann := lookA [(14, ⟨[2, 5], [], [], []⟩)]
def f62_ann : Nat → Option Ann := lookA []
def f62_jn : Nat → Option Ann := lookA [(4, ⟨[3, 4, 5, 7, 8, 9, 40], [], [], []⟩), (6, ⟨[3, 4, 5, 7, 8, 9, 40, 41], [], [], []⟩)]
def f63_ann : Nat → Option Ann := lookA []
def f63_jn : Nat → Option Ann := lookA [(7, ⟨[3, 4, 5, 7, 8, 9, 26, 51], [], [], []⟩), (14, ⟨[3, 4, 5, 7, 8, 9, 26, 72], [], [], []⟩)]
def f64_ann : Nat → Option Ann := lookA []
def f64_jn : Nat → Option Ann := lookA []
def f65_ann : Nat → Option Ann := lookA [(4, ⟨[1, 2, 15, 16, 17], [], [], []⟩)]
def f65_jn : Nat → Option Ann := lookA []
def f66_ann : Nat → Option Ann := lookA []
def f66_jn : Nat → Option Ann := lookA []
def f67_ann : Nat → Option Ann := lookA []
def f67_jn : Nat → Option Ann := lookA []
def f74_ann : Nat → Option Ann := lookA []
def f74_jn : Nat → Option Ann := lookA []
def f75_ann : Nat → Option Ann := lookA []
def f75_jn : Nat → Option Ann := lookA []
def f76_ann : Nat → Option Ann := lookA []
def f76_jn : Nat → Option Ann := lookA []
def f79_ann : Nat → Option Ann := lookA []
def f79_jn : Nat → Option Ann := lookA []
def f80_ann : Nat → Option Ann := lookA []
def f80_jn : Nat → Option Ann := lookA []
def f81_ann : Nat → Option Ann := lookA [(4, ⟨[3, 5, 9], [], [], []⟩)]
def f81_jn : Nat → Option Ann := lookA []
def f82_ann : Nat → Option Ann := lookA []
def f82_jn : Nat → Option Ann := lookA []
def f83_ann : Nat → Option Ann := lookA [(4, ⟨[0, 1, 12, 13], [], [], []⟩)]
def f83_jn : Nat → Option Ann := lookA []
def f84_ann : Nat → Option Ann := lookA [(4, ⟨[0, 1, 12, 13], [], [], []⟩)]
def f84_jn : Nat → Option Ann := lookA []
def f94_ann : Nat → Option Ann := lookA []
def f94_jn : Nat → Option Ann := lookA []
def f95_ann : Nat → Option Ann := lookA [(2, ⟨[0, 5, 6, 7], [], [], []⟩)]
def f95_jn : Nat → Option Ann := lookA []
def f96_ann : Nat → Option Ann := lookA []
def f96_jn : Nat → Option Ann := lookA []
def f97_ann : Nat → Option Ann := lookA []
def f97_jn : Nat → Option Ann := lookA []
def f98_ann : Nat → Option Ann := lookA [(6, ⟨[4, 40, 41, 42], [], [], []⟩)]
def f98_jn : Nat → Option Ann := lookA []
def f99_ann : Nat → Option Ann := lookA []
def f99_jn : Nat → Option Ann := lookA []
def f100_ann : Nat → Option Ann := lookA []
def f100_jn : Nat → Option Ann := lookA []
def f118_ann : Nat → Option Ann := lookA []
def f118_jn : Nat → Option Ann := lookA []
def f129_ann : Nat → Option Ann := lookA [(2, ⟨[0, 1, 7, 8], [], [], []⟩)]
def f129_jn : Nat → Option Ann := lookA []
noncomputable def fns : FuncId → Option Func := fun f => bif f.beq 3 then some Tryd.f3 else bif f.beq 4 then some Tryd.f4 else bif f.beq 5 then some Tryd.f5 else bif f.beq 7 then some Tryd.f7 else bif f.beq 8 then some Tryd.f8 else bif f.beq 9 then some Tryd.f9 else bif f.beq 10 then some Tryd.f10 else bif f.beq 11 then some Tryd.f11 else bif f.beq 12 then some Tryd.f12 else bif f.beq 13 then some Tryd.f13 else bif f.beq 14 then some Tryd.f14 else bif f.beq 15 then some Tryd.f15 else bif f.beq 16 then some Tryd.f16 else bif f.beq 17 then some Tryd.f17 else bif f.beq 24 then some Tryd.f24 else bif f.beq 25 then some Tryd.f25 else bif f.beq 26 then some Tryd.f26 else bif f.beq 27 then some Tryd.f27 else bif f.beq 30 then some Tryd.f30 else bif f.beq 31 then some Tryd.f31 else bif f.beq 32 then some Tryd.f32 else bif f.beq 33 then some Tryd.f33 else bif f.beq 34 then some Tryd.f34 else bif f.beq 35 then some Tryd.f35 else bif f.beq 36 then some Tryd.f36 else bif f.beq 45 then some Tryd.f45 else bif f.beq 49 then some Tryd.f49 else bif f.beq 50 then some Tryd.f50 else bif f.beq 51 then some Tryd.f51 else bif f.beq 58 then some Tryd.f58 else bif f.beq 61 then some Tryd.f61 else bif f.beq 62 then some Tryd.f62 else bif f.beq 63 then some Tryd.f63 else bif f.beq 64 then some Tryd.f64 else bif f.beq 65 then some Tryd.f65 else bif f.beq 66 then some Tryd.f66 else bif f.beq 67 then some Tryd.f67 else bif f.beq 74 then some Tryd.f74 else bif f.beq 75 then some Tryd.f75 else bif f.beq 76 then some Tryd.f76 else bif f.beq 79 then some Tryd.f79 else bif f.beq 80 then some Tryd.f80 else bif f.beq 81 then some Tryd.f81 else bif f.beq 82 then some Tryd.f82 else bif f.beq 83 then some Tryd.f83 else bif f.beq 84 then some Tryd.f84 else bif f.beq 94 then some Tryd.f94 else bif f.beq 95 then some Tryd.f95 else bif f.beq 96 then some Tryd.f96 else bif f.beq 97 then some Tryd.f97 else bif f.beq 98 then some Tryd.f98 else bif f.beq 99 then some Tryd.f99 else bif f.beq 100 then some Tryd.f100 else bif f.beq 118 then some Tryd.f118 else bif f.beq 129 then some Tryd.f129 else none
def anns : FuncId → Nat → Option Ann := fun f => bif f.beq 3 then f3_ann else bif f.beq 4 then f4_ann else bif f.beq 5 then f5_ann else bif f.beq 7 then f7_ann else bif f.beq 8 then f8_ann else bif f.beq 9 then f9_ann else bif f.beq 10 then f10_ann else bif f.beq 11 then f11_ann else bif f.beq 12 then f12_ann else bif f.beq 13 then f13_ann else bif f.beq 14 then f14_ann else bif f.beq 15 then f15_ann else bif f.beq 16 then f16_ann else bif f.beq 17 then f17_ann else bif f.beq 24 then f24_ann else bif f.beq 25 then f25_ann else bif f.beq 26 then f26_ann else bif f.beq 27 then f27_ann else bif f.beq 30 then f30_ann else bif f.beq 31 then f31_ann else bif f.beq 32 then f32_ann else bif f.beq 33 then f33_ann else bif f.beq 34 then f34_ann else bif f.beq 35 then f35_ann else bif f.beq 36 then f36_ann else bif f.beq 45 then f45_ann else bif f.beq 49 then f49_ann else bif f.beq 50 then f50_ann else bif f.beq 51 then f51_ann else bif f.beq 58 then f58_ann else bif f.beq 61 then f61_ann else bif f.beq 62 then f62_ann else bif f.beq 63 then f63_ann else bif f.beq 64 then f64_ann else bif f.beq 65 then f65_ann else bif f.beq 66 then f66_ann else bif f.beq 67 then f67_ann else bif f.beq 74 then f74_ann else bif f.beq 75 then f75_ann else bif f.beq 76 then f76_ann else bif f.beq 79 then f79_ann else bif f.beq 80 then f80_ann else bif f.beq 81 then f81_ann else bif f.beq 82 then f82_ann else bif f.beq 83 then f83_ann else bif f.beq 84 then f84_ann else bif f.beq 94 then f94_ann else bif f.beq 95 then f95_ann else bif f.beq 96 then f96_ann else bif f.beq 97 then f97_ann else bif f.beq 98 then f98_ann else bif f.beq 99 then f99_ann else bif f.beq 100 then f100_ann else bif f.beq 118 then f118_ann else bif f.beq 129 then f129_ann else fun _ => none
def jns : FuncId → Nat → Option Ann := fun f => bif f.beq 3 then f3_jn else bif f.beq 4 then f4_jn else bif f.beq 5 then f5_jn else bif f.beq 7 then f7_jn else bif f.beq 8 then f8_jn else bif f.beq 9 then f9_jn else bif f.beq 10 then f10_jn else bif f.beq 11 then f11_jn else bif f.beq 12 then f12_jn else bif f.beq 13 then f13_jn else bif f.beq 14 then f14_jn else bif f.beq 15 then f15_jn else bif f.beq 16 then f16_jn else bif f.beq 17 then f17_jn else bif f.beq 24 then f24_jn else bif f.beq 25 then f25_jn else bif f.beq 26 then f26_jn else bif f.beq 27 then f27_jn else bif f.beq 30 then f30_jn else bif f.beq 31 then f31_jn else bif f.beq 32 then f32_jn else bif f.beq 33 then f33_jn else bif f.beq 34 then f34_jn else bif f.beq 35 then f35_jn else bif f.beq 36 then f36_jn else bif f.beq 45 then f45_jn else bif f.beq 49 then f49_jn else bif f.beq 50 then f50_jn else bif f.beq 51 then f51_jn else bif f.beq 58 then f58_jn else bif f.beq 61 then f61_jn else bif f.beq 62 then f62_jn else bif f.beq 63 then f63_jn else bif f.beq 64 then f64_jn else bif f.beq 65 then f65_jn else bif f.beq 66 then f66_jn else bif f.beq 67 then f67_jn else bif f.beq 74 then f74_jn else bif f.beq 75 then f75_jn else bif f.beq 76 then f76_jn else bif f.beq 79 then f79_jn else bif f.beq 80 then f80_jn else bif f.beq 81 then f81_jn else bif f.beq 82 then f82_jn else bif f.beq 83 then f83_jn else bif f.beq 84 then f84_jn else bif f.beq 94 then f94_jn else bif f.beq 95 then f95_jn else bif f.beq 96 then f96_jn else bif f.beq 97 then f97_jn else bif f.beq 98 then f98_jn else bif f.beq 99 then f99_jn else bif f.beq 100 then f100_jn else bif f.beq 118 then f118_jn else bif f.beq 129 then f129_jn else fun _ => none
def lent : FuncId → Option LentD := lookD [(25, ⟨64, [.may, .bf 5]⟩), (27, ⟨64, [.may, .bf 5]⟩), (28, ⟨64, [.may, .bf 5]⟩), (29, ⟨64, [.may, .bf 5]⟩), (46, ⟨64, [.may, .bf 5]⟩), (47, ⟨64, [.may, .bf 5]⟩)]
def selfT (t : TypeId) : Bool := memB t [64]
def ext : FuncId → Option (List TV → Option TV) := fun f => bif f.beq 28 then some (xLen 5) else bif f.beq 29 then some (xString 5) else bif f.beq 46 then some (xWriteString 5) else bif f.beq 47 then some (xWriteByte 5) else bif f.beq 48 then some (xItoa) else none
noncomputable def prog : AProg := ⟨tab, pure, rts, fns, anns, jns, lent, selfT, ext⟩
end Go.Ab.D3

import Derived.Test.YtaokcbfenabbgaaDoorHM0
import Derived.Lib.ItoaNum
import Derived.Lib.Split
import Derived.Lib.IndexMore
import Derived.Lib.ParseIntB
import Derived.Test.YtaokcbfenabbgaaDoorProg
import Derived.IntWalk
set_option linter.all false
section
namespace Go.Ab
def cw:List Value:=[.int .i64 0]
def kV:List Value:=[.bool false]
def cN:List Value:=[.string ⟨#[]⟩]
def zSl:List Value:=[.slice none 0 0]
def ug:List Value:=[.int .i64 0,.int .i64 0,.int .i64 0,.int .i64 0,.int .u16 0,.int .i64 0,.slice none 0 0]
def t9:List Value:=[.int .i64 0,.int .i64 0,.int .i64 0,.int .i64 0,.slice none 0 0,.int .i64 0,.int .i64 0,.int .i64 0]
def zH:List Value:=[.int .i64 0,.slice none 0 0,.bool false,.bool false]
end Go.Ab
end
section
namespace Go.Ab
def Dd:List (Nat × dm)->Nat->Option dm
 | [],_=>none
 | (k,d) :: r,t=>bif k.beq t then some d else Dd r t
def jF:Nat:=140737488355328
def ek (e:Nat):List TV->Option TV
 | [.tup [x,.buf s e'],.lit (.string t)]=>bif x.bq && e'.beq e && (s.size + t.size).ble jF then some (.tup [.tup [.lit (.int .i64 t.size),.lit .nilIface],.tup [mq,.buf (s ++ t) e]]) else none
 | _=>none
def gr (e:Nat):List TV->Option TV
 | [.tup [x,.buf s e'],.lit (.int .u8 c)]=>bif x.bq && e'.beq e && (s.size + 1).ble jF && decide (0<=c/\c < 256) then some (.tup [.lit .nilIface,.tup [mq,.buf (s.push c.toNat.toUInt8) e]]) else none
 | _=>none
def mf (e:Nat):List TV->Option TV
 | [.tup [x,.buf s e']]=>bif x.bq && e'.beq e && !(s.size.beq 0) then some (.tup [.lit (.string s),.tup [mq,.buf s e]]) else none
 | _=>none
def vm:List TV->Option TV
 | [.lit (.int .i64 n)]=>bif decide (-9223372036854775808<=n/\n<=9223372036854775807) then some (.lit (.string ⟨(Lib.itoa n).toArray⟩)) else none
 | _=>none
end Go.Ab
end
section
namespace Go.Ab
def l8 (l:List ByteArray):List (List TV):=l.map fun s=>[.lit (.string s)]
def C2:List TV->Option TV
 | [.lit (.string s), .lit (.string p)] => bif Nat.blt s.size 4294967281 then
   some (.tup [.lit (.string ⟨(Lib.cut s.data.toList p.data.toList).1.toArray⟩),.lit (.string ⟨(Lib.cut s.data.toList p.data.toList).2.1.toArray⟩),.lit (.bool (Lib.cut s.data.toList p.data.toList).2.2)]) else none
 | _=>none
def kr:List TV->Option TV
 | [.lit (.string s), .lit (.string p), .lit (.int .i64 n)] => bif Nat.blt s.size 4294967281 && (Nat.blt 0 p.size && decide (1 ≤ n ∧ n ≤ 9223372036854775807)) then
   some (.sl false 1 (l8 (Lib.splitB p 0 (min n.toNat (s.size + 1) - 1) s))) else none
 | _=>none
def se (s:ByteArray):Nat :=
 match Lib.parseUintB 16 s.data.toList with
 | .ok u=>u
 | .range=>65535
 | _=>0
def BL:List TV->Option TV
 | [.lit (.string s)]=>bif Nat.ble s.size 281474976710656 then some (.lit (.int .i64 (se s))) else none
 | _=>none
end Go.Ab
end
section
namespace Go.Ab.S13
open Go.Ab Go.Proofs
def Jk:AV:=AV.one CA.junk
def Sr (i:Nat):AV:=AV.one (CA.sref i 0 [])
def Pt (i:Nat):AV:=AV.one (CA.ptr i 0)
def Tr (w:TV):Option BC:=some (BC.tree [w])
def Ct (y:TV):Option BC:=some (BC.cells [CA.t y])
def Rj (n:Nat):List AV:=List.replicate n (AV.one CA.junk)
def Rz (n:Nat):List (Option BC):=List.replicate n none
def d9:List (Nat × Ann)->Nat->Option Ann
 | [],_=>none
 | (k,d) :: r,t=>bif k.beq t then some d else d9 r t
def z2:List Value:=[.int .i64 0]
def z3:List Value:=[.int .i64 0]
def z4:List Value:=[.bool false]
def z5:List Value:=[.int .u8 0]
def z6:List Value:=[.int .u8 0]
def z7:List Value:=[.int .i64 0,.int .i64 0,.bool false,.int .u8 0]
def z8:List Value:=[.int .i64 0,.int .i64 0,.bool false,.int .u8 0]
def z9:List Value:=[.string ⟨#[]⟩]
def z10:List Value:=[.string ⟨#[]⟩]
def z11:List Value:=[.string ⟨#[]⟩]
def z12:List Value:=[.int .u64 0]
def z13:List Value:=[.string ⟨#[]⟩,.int .u64 0]
def z14:List Value:=[.string ⟨#[]⟩,.int .u64 0]
def z15:List Value:=[.pointer none]
def z16:List Value:=[.pointer none]
def z17:List Value:=[.pointer none]
def z18:List Value:=[.pointer none]
def z19:List Value:=[.pointer none]
def z20:List Value:=[.nilIface]
def z21:List Value:=[.int .i32 0]
def z22:List Value:=[.int .u16 0]
def z23:List Value:=[.nilFunc]
def z24:List Value:=[.slice none 0 0]
def z25:List Value:=[.int .i64 0,.int .i64 0,.int .i64 0,.int .i64 0,.int .u16 0,.int .i64 0,.slice none 0 0]
def z26:List Value:=[.int .i64 0,.int .i64 0,.int .i64 0,.int .i64 0,.int .u16 0,.int .i64 0,.slice none 0 0]
def z28:List Value:=[.nilFunc]
def z29:List Value:=[.int .i64 0,.int .i64 0,.int .i64 0,.int .i64 0,.slice none 0 0,.int .i64 0,.int .i64 0,.int .i64 0]
def z30:List Value:=[.int .i64 0,.int .i64 0,.int .i64 0,.int .i64 0,.slice none 0 0,.int .i64 0,.int .i64 0,.int .i64 0]
def z32:List Value:=[.nilFunc]
def z33:List Value:=[.slice none 0 0]
def z34:List Value:=[.int .i64 0,.slice none 0 0,.bool false,.bool false]
def z35:List Value:=[.int .i64 0,.slice none 0 0,.bool false,.bool false]
def z37:List Value:=[.nilFunc]
def z38:List Value:=[.nilFunc]
def z39:List Value:=[.nilFunc]
def z40:List Value:=[.nilFunc]
def z41:List Value:=[.nilFunc]
def z42:List Value:=[.nilFunc]
def z43:List Value:=[.nilFunc]
def z44:List Value:=[.slice none 0 0]
def z45:List Value:=[.slice none 0 0]
def z46:List Value:=[.slice none 0 0]
def z47:List Value:=[.int .i64 0]
def z49:List Value:=[.nilFunc]
def z50:List Value:=[.slice none 0 0]
def z51:List Value:=[.int .i64 0,.int .i64 0,.slice none 0 0]
def z52:List Value:=[.int .i64 0,.int .i64 0,.slice none 0 0]
def z53:List Value:=[.slice none 0 0]
def z54:List Value:=[.bool false,.int .i64 0,.slice none 0 0,.bool false,.bool false,.slice none 0 0,.int .i64 0,.int .i64 0,.int .i64 0,.int .i64 0,.slice none 0 0,.int .i64 0,.int .i64 0,.int .i64 0]
def z55:List Value:=[.bool false,.int .i64 0,.slice none 0 0,.bool false,.bool false,.slice none 0 0,.int .i64 0,.int .i64 0,.int .i64 0,.int .i64 0,.slice none 0 0,.int .i64 0,.int .i64 0,.int .i64 0]
def z56:List Value:=[.slice none 0 0]
def z57:List Value:=[.nilFunc]
def z58:List Value:=[.nilFunc]
def z59:List Value:=[.nilFunc]
def z60:List Value:=[.nilFunc]
def z61:List Value:=[.nilFunc]
def z62:List Value:=[.nilFunc]
def z63:List Value:=[.nilFunc]
def z64:List Value:=[.nilFunc]
def z65:List Value:=[.nilFunc]
def z66:List Value:=[.int .i64 0]
def z67:List Value:=[.slice none 0 0,.int .i64 0]
def z68:List Value:=[.slice none 0 0,.int .i64 0]
def z70:List Value:=[.nilFunc]
def z71:List Value:=[.nilFunc]
def z72:List Value:=[.nilFunc]
def z73:List Value:=[.nilFunc]
def z74:List Value:=[.nilFunc]
def z75:List Value:=[.pointer none]
def z76:List Value:=[.pointer none]
def z77:List Value:=[.slice none 0 0]
def z78:List Value:=[.pointer none,.slice none 0 0]
def z79:List Value:=[.pointer none,.slice none 0 0]
def z80:List Value:=[.nilIface]
def z81:List Value:=[.nilIface]
def z83:List Value:=[.nilFunc]
def z84:List Value:=[.nilFunc]
def z85:List Value:=[.nilFunc]
def z86:List Value:=[.nilFunc]
def z87:List Value:=[.pointer none]
def z88:List Value:=[.nilFunc]
def z89:List Value:=[.nilFunc]
def z90:List Value:=[.nilFunc]
def z91:List Value:=[.nilFunc]
def z92:List Value:=[.nilFunc]
def z93:List Value:=[.slice none 0 0]
def z94:List Value:=[.int .u64 0]
def z96:List Value:=[.nilFunc]
def z97:List Value:=[.pointer none]
def z98:List Value:=[.nilFunc]
def z100:List Value:=[.nilFunc]
def z101:List Value:=[.nilFunc]
def z102:List Value:=[.pointer none]
def z103:List Value:=[.nilFunc]
def z104:List Value:=[.slice none 0 0,.int .i64 0,.int .i64 0,.slice none 0 0]
def z105:List Value:=[.slice none 0 0,.int .i64 0,.int .i64 0,.slice none 0 0]
def z106:List Value:=[.nilFunc]
def z107:List Value:=[.nilFunc]
def z108:List Value:=[.nilFunc]
def z110:List Value:=[.nilFunc]
def z111:List Value:=[.nilFunc]
def z112:List Value:=[.nilFunc]
def z113:List Value:=[.nilFunc]
def z114:List Value:=[.int .u64 0]
def z115:List Value:=[.pointer none]
def z116:List Value:=[.nilFunc]
def z117:List Value:=[.nilFunc]
def z118:List Value:=[.nilFunc]
def z120:List Value:=[.nilFunc]
def z121:List Value:=[.int .i64 0]
def z122:List Value:=[.nilFunc]
def z123:List Value:=[.nilFunc]
def z124:List Value:=[.pointer none]
def z125:List Value:=[.nilFunc]
def z126:List Value:=[.nilFunc]
def z127:List Value:=[.int .u8 0,.int .u8 0,.int .u8 0,.int .u8 0,.int .u8 0,.int .u8 0,.int .u8 0,.int .u8 0,.int .u8 0,.int .u8 0,.int .u8 0,.int .u8 0,.int .u8 0,.int .u8 0,.int .u8 0,.int .u8 0,.int .u8 0,.int .u8 0,.int .u8 0,.int .u8 0,.int .u8 0,.int .u8 0,.int .u8 0,.int .u8 0]
def z128:List Value:=[.nilFunc]
def z129:List Value:=[.nilFunc]
def z131:List Value:=[.nilFunc]
def z132:List Value:=[.int .u32 0]
def z134:List Value:=[.nilFunc]
def z135:List Value:=[.nilFunc]
def z136:List Value:=[.nilFunc]
def z137:List Value:=[.int .i64 0]
def z138:List Value:=[.nilFunc]
def z139:List Value:=[.nilFunc]
def z140:List Value:=[.nilFunc]
def z141:List Value:=[.nilFunc]
def z142:List Value:=[.nilFunc]
def z143:List Value:=[.string ⟨#[]⟩,.string ⟨#[]⟩,.nilIface]
def z144:List Value:=[.string ⟨#[]⟩,.string ⟨#[]⟩,.nilIface]
def z145:List Value:=[.nilFunc]
def z146:List Value:=[.nilFunc]
def z147:List Value:=[.int .u64 0,.int .u64 0,.int .u64 0,.int .u64 0,.int .u64 0,.int .u64 0,.int .u64 0,.int .u64 0,.int .u64 0,.int .u64 0,.int .u64 0,.int .u64 0,.int .u64 0,.int .u64 0,.int .u64 0,.int .u64 0,.int .u64 0,.int .u64 0,.int .u64 0,.int .u64 0]
def z148:List Value:=[.int .u8 0,.int .u8 0,.int .u8 0,.int .u8 0,.int .u8 0,.int .u8 0,.int .u8 0,.int .u8 0,.int .u8 0,.int .u8 0,.int .u8 0,.int .u8 0,.int .u8 0,.int .u8 0,.int .u8 0,.int .u8 0,.int .u8 0,.int .u8 0,.int .u8 0,.int .u8 0,.int .u8 0,.int .u8 0,.int .u8 0,.int .u8 0,.int .u8 0,.int .u8 0,.int .u8 0,.int .u8 0,.int .u8 0,.int .u8 0,.int .u8 0,.int .u8 0,.int .u8 0,.int .u8 0,.int .u8 0,.int .u8 0,.int .u8 0,.int .u8 0,.int .u8 0,.int .u8 0,.int .u8 0,.int .u8 0,.int .u8 0,.int .u8 0,.int .u8 0,.int .u8 0,.int .u8 0,.int .u8 0,.int .u8 0,.int .u8 0,.int .u8 0,.int .u8 0,.int .u8 0,.int .u8 0,.int .u8 0,.int .u8 0,.int .u8 0,.int .u8 0,.int .u8 0,.int .u8 0,.int .u8 0,.int .u8 0,.int .u8 0,.int .u8 0,.int .u8 0]
def z149:List Value:=[.nilFunc]
def z150:List Value:=[.nilFunc]
def z151:List Value:=[.nilFunc]
def z152:List Value:=[.int .u8 0,.int .u8 0,.int .u8 0,.int .u8 0,.int .u8 0,.int .u8 0,.int .u8 0,.int .u8 0,.int .u8 0,.int .u8 0,.int .u8 0,.int .u8 0,.int .u8 0,.int .u8 0,.int .u8 0,.int .u8 0,.int .u8 0,.int .u8 0,.int .u8 0,.int .u8 0,.int .u8 0,.int .u8 0,.int .u8 0,.int .u8 0,.int .u8 0,.int .u8 0,.int .u8 0,.int .u8 0,.int .u8 0,.int .u8 0,.int .u8 0,.int .u8 0,.int .u8 0,.int .u8 0,.int .u8 0,.int .u8 0,.int .u8 0,.int .u8 0,.int .u8 0,.int .u8 0,.int .u8 0,.int .u8 0,.int .u8 0,.int .u8 0,.int .u8 0,.int .u8 0,.int .u8 0,.int .u8 0,.int .u8 0,.int .u8 0,.int .u8 0,.int .u8 0,.int .u8 0,.int .u8 0,.int .u8 0,.int .u8 0,.int .u8 0,.int .u8 0,.int .u8 0,.int .u8 0,.int .u8 0,.int .u8 0,.int .u8 0,.int .u8 0,.int .u8 0,.int .u8 0,.int .u8 0,.int .u8 0,.int .u8 0,.int .u8 0,.int .u8 0,.int .u8 0,.int .u8 0,.int .u8 0,.int .u8 0,.int .u8 0,.int .u8 0,.int .u8 0,.int .u8 0,.int .u8 0,.int .u8 0,.int .u8 0,.int .u8 0,.int .u8 0,.int .u8 0,.int .u8 0,.int .u8 0,.int .u8 0,.int .u8 0,.int .u8 0,.int .u8 0,.int .u8 0,.int .u8 0,.int .u8 0,.int .u8 0,.int .u8 0,.int .u8 0,.int .u8 0,.int .u8 0,.int .u8 0,.int .u8 0,.int .u8 0,.int .u8 0,.int .u8 0,.int .u8 0,.int .u8 0,.int .u8 0,.int .u8 0,.int .u8 0,.int .u8 0,.int .u8 0,.int .u8 0,.int .u8 0,.int .u8 0,.int .u8 0,.int .u8 0,.int .u8 0,.int .u8 0,.int .u8 0,.int .u8 0,.int .u8 0,.int .u8 0,.int .u8 0,.int .u8 0,.int .u8 0,.int .u8 0,.int .u8 0,.int .u8 0,.int .u8 0,.int .u8 0,.int .u8 0,.int .u8 0,.int .u8 0,.int .u8 0,.int .u8 0,.int .u8 0,.int .u8 0,.int .u8 0,.int .u8 0,.int .u8 0,.int .u8 0,.int .u8 0,.int .u8 0,.int .u8 0,.int .u8 0,.int .u8 0,.int .u8 0,.int .u8 0,.int .u8 0,.int .u8 0,.int .u8 0,.int .u8 0,.int .u8 0,.int .u8 0,.int .u8 0,.int .u8 0,.int .u8 0,.int .u8 0,.int .u8 0,.int .u8 0,.int .u8 0,.int .u8 0,.int .u8 0,.int .u8 0,.int .u8 0,.int .u8 0,.int .u8 0,.int .u8 0,.int .u8 0,.int .u8 0,.int .u8 0,.int .u8 0,.int .u8 0,.int .u8 0,.int .u8 0,.int .u8 0,.int .u8 0,.int .u8 0,.int .u8 0,.int .u8 0,.int .u8 0,.int .u8 0,.int .u8 0,.int .u8 0,.int .u8 0,.int .u8 0,.int .u8 0,.int .u8 0,.int .u8 0,.int .u8 0,.int .u8 0,.int .u8 0,.int .u8 0,.int .u8 0,.int .u8 0,.int .u8 0,.int .u8 0,.int .u8 0,.int .u8 0,.int .u8 0,.int .u8 0,.int .u8 0,.int .u8 0,.int .u8 0,.int .u8 0,.int .u8 0,.int .u8 0,.int .u8 0,.int .u8 0,.int .u8 0,.int .u8 0,.int .u8 0,.int .u8 0,.int .u8 0,.int .u8 0,.int .u8 0,.int .u8 0,.int .u8 0,.int .u8 0,.int .u8 0,.int .u8 0,.int .u8 0,.int .u8 0,.int .u8 0,.int .u8 0,.int .u8 0,.int .u8 0,.int .u8 0,.int .u8 0,.int .u8 0,.int .u8 0,.int .u8 0,.int .u8 0,.int .u8 0,.int .u8 0,.int .u8 0,.int .u8 0,.int .u8 0,.int .u8 0,.int .u8 0,.int .u8 0,.int .u8 0,.int .u8 0,.int .u8 0,.int .u8 0,.int .u8 0,.int .u8 0,.int .u8 0,.int .u8 0,.int .u8 0,.int .u8 0,.int .u8 0,.int .u8 0,.int .u8 0,.int .u8 0,.int .u8 0]
def z153:List Value:=[.int .u8 0,.int .u8 0]
def z154:List Value:=[.int .u8 0,.int .u8 0]
def z155:List Value:=[.int .u8 0,.int .u8 0,.int .u8 0,.int .u8 0,.int .u8 0,.int .u8 0,.int .u8 0,.int .u8 0,.int .u8 0,.int .u8 0,.int .u8 0,.int .u8 0,.int .u8 0,.int .u8 0,.int .u8 0,.int .u8 0,.int .u8 0,.int .u8 0,.int .u8 0,.int .u8 0,.int .u8 0,.int .u8 0,.int .u8 0,.int .u8 0,.int .u8 0,.int .u8 0,.int .u8 0,.int .u8 0,.int .u8 0,.int .u8 0,.int .u8 0,.int .u8 0]
def z156:List Value:=[.pointer none]
def z157:List Value:=[.string ⟨#[]⟩]
def z158:List Value:=[.string ⟨#[]⟩]
def z159:List Value:=[.nilFunc]
def z160:List Value:=[.nilFunc]
def z161:List Value:=[.int .u8 0,.int .u8 0,.int .u8 0,.int .u8 0,.int .u8 0,.int .u8 0,.int .u8 0,.int .u8 0,.int .u8 0,.int .u8 0,.int .u8 0,.int .u8 0,.int .u8 0,.int .u8 0,.int .u8 0,.int .u8 0,.int .u8 0,.int .u8 0,.int .u8 0,.int .u8 0,.int .u8 0,.int .u8 0,.int .u8 0,.int .u8 0,.int .u8 0,.int .u8 0,.int .u8 0,.int .u8 0,.int .u8 0,.int .u8 0,.int .u8 0,.int .u8 0]
def z162:List Value:=[.int .u8 0,.int .u8 0,.int .u8 0,.int .u8 0,.int .u8 0,.int .u8 0,.int .u8 0,.int .u8 0,.int .u8 0,.int .u8 0,.int .u8 0,.int .u8 0,.int .u8 0,.int .u8 0,.int .u8 0,.int .u8 0,.int .u8 0,.int .u8 0,.int .u8 0,.int .u8 0,.int .u8 0,.int .u8 0,.int .u8 0,.int .u8 0,.int .u8 0,.int .u8 0,.int .u8 0,.int .u8 0,.int .u8 0,.int .u8 0,.int .u8 0,.int .u8 0,.int .u8 0,.int .u8 0,.int .u8 0,.int .u8 0,.int .u8 0,.int .u8 0,.int .u8 0,.int .u8 0,.int .u8 0,.int .u8 0,.int .u8 0,.int .u8 0,.int .u8 0,.int .u8 0,.int .u8 0,.int .u8 0,.int .u8 0,.int .u8 0,.int .u8 0,.int .u8 0,.int .u8 0,.int .u8 0,.int .u8 0,.int .u8 0,.int .u8 0,.int .u8 0,.int .u8 0,.int .u8 0,.int .u8 0,.int .u8 0,.int .u8 0,.int .u8 0]
def z163:List Value:=[.pointer none,.pointer none,.pointer none,.string ⟨#[]⟩]
def z164:List Value:=[.pointer none,.pointer none,.pointer none,.string ⟨#[]⟩]
def z165:List Value:=[]
def z166:List Value:=[]
def z167:List Value:=[]
def z168:List Value:=[.nilFunc]
def z169:List Value:=[.int .u8 0]
def z170:List Value:=[.int .u8 0]
def z171:List Value:=[.nilFunc]
def z172:List Value:=[.int .i32 0]
def z173:List Value:=[.int .i32 0]
def z174:List Value:=[.int .u64 0,.int .u64 0,.int .u32 0,.int .u8 0,.int .u8 0,.int .u8 0,.int .u8 0,.nilFunc,.pointer none,.int .i32 0,.int .i32 0]
def z175:List Value:=[.int .u64 0,.int .u64 0,.int .u32 0,.int .u8 0,.int .u8 0,.int .u8 0,.int .u8 0,.nilFunc,.pointer none,.int .i32 0,.int .i32 0]
def tab:Tab:=rq [
 (2,⟨1,8,.int .i64,z2,[]⟩),
 (3,⟨1,8,.int .i64,z3,[]⟩),
 (4,⟨1,1,.bool,z4,[]⟩),
 (5,⟨1,1,.int .u8,z5,[]⟩),
 (6,⟨1,1,.int .u8,z6,[]⟩),
 (7,⟨4,24,.struct,z7,[(0,2),(1,3),(2,4),(3,6)]⟩),
 (8,⟨4,24,.struct,z8,[(0,2),(1,3),(2,4),(3,6)]⟩),
 (9,⟨1,16,.str,z9,[]⟩),
 (10,⟨1,16,.str,z10,[]⟩),
 (11,⟨1,16,.str,z11,[]⟩),
 (12,⟨1,8,.int .u64,z12,[]⟩),
 (13,⟨2,24,.struct,z13,[(0,9),(1,12)]⟩),
 (14,⟨2,24,.struct,z14,[(0,9),(1,12)]⟩),
 (15,⟨1,8,.ptr,z15,[]⟩),
 (16,⟨1,8,.ptr,z16,[]⟩),
 (17,⟨1,8,.ptr,z17,[]⟩),
 (18,⟨1,8,.struct,z18,[(0,17)]⟩),
 (19,⟨1,8,.struct,z19,[(0,17)]⟩),
 (20,⟨1,16,.other,z20,[]⟩),
 (21,⟨1,4,.int .i32,z21,[]⟩),
 (22,⟨1,2,.int .u16,z22,[]⟩),
 (23,⟨1,8,.other,z23,[]⟩),
 (24,⟨1,24,.slice 3,z24,[]⟩),
 (25,⟨7,72,.struct,z25,[(0,3),(1,3),(2,3),(3,3),(4,22),(5,3),(6,24)]⟩),
 (26,⟨7,72,.struct,z26,[(0,3),(1,3),(2,3),(3,3),(4,22),(5,3),(6,24)]⟩),
 (28,⟨1,8,.other,z28,[]⟩),
 (29,⟨8,80,.struct,z29,[(0,3),(1,3),(2,3),(3,3),(4,24),(5,3),(6,3),(7,3)]⟩),
 (30,⟨8,80,.struct,z30,[(0,3),(1,3),(2,3),(3,3),(4,24),(5,3),(6,3),(7,3)]⟩),
 (32,⟨1,8,.other,z32,[]⟩),
 (33,⟨1,24,.slice 22,z33,[]⟩),
 (34,⟨4,40,.struct,z34,[(0,3),(1,33),(2,4),(3,4)]⟩),
 (35,⟨4,40,.struct,z35,[(0,3),(1,33),(2,4),(3,4)]⟩),
 (37,⟨1,8,.other,z37,[]⟩),
 (38,⟨1,8,.other,z38,[]⟩),
 (39,⟨1,8,.other,z39,[]⟩),
 (40,⟨1,8,.other,z40,[]⟩),
 (41,⟨1,8,.other,z41,[]⟩),
 (42,⟨1,8,.other,z42,[]⟩),
 (43,⟨1,8,.other,z43,[]⟩),
 (44,⟨1,24,.slice 52,z44,[]⟩),
 (45,⟨1,24,.struct,z45,[(0,44)]⟩),
 (46,⟨1,24,.struct,z46,[(0,44)]⟩),
 (47,⟨1,8,.int .i64,z47,[]⟩),
 (49,⟨1,8,.other,z49,[]⟩),
 (50,⟨1,24,.slice 55,z50,[]⟩),
 (51,⟨3,40,.struct,z51,[(0,3),(1,3),(2,50)]⟩),
 (52,⟨3,40,.struct,z52,[(0,3),(1,3),(2,50)]⟩),
 (53,⟨1,24,.slice 26,z53,[]⟩),
 (54,⟨14,152,.struct,z54,[(0,4),(1,35),(5,53),(6,30)]⟩),
 (55,⟨14,152,.struct,z55,[(0,4),(1,35),(5,53),(6,30)]⟩),
 (56,⟨1,24,.slice 9,z56,[]⟩),
 (57,⟨1,8,.other,z57,[]⟩),
 (58,⟨1,8,.other,z58,[]⟩),
 (59,⟨1,8,.other,z59,[]⟩),
 (60,⟨1,8,.other,z60,[]⟩),
 (61,⟨1,8,.other,z61,[]⟩),
 (62,⟨1,8,.other,z62,[]⟩),
 (63,⟨1,8,.other,z63,[]⟩),
 (64,⟨1,8,.other,z64,[]⟩),
 (65,⟨1,8,.other,z65,[]⟩),
 (66,⟨1,8,.int .i64,z66,[]⟩),
 (67,⟨2,32,.struct,z67,[(0,44),(1,66)]⟩),
 (68,⟨2,32,.struct,z68,[(0,44),(1,66)]⟩),
 (70,⟨1,8,.other,z70,[]⟩),
 (71,⟨1,8,.other,z71,[]⟩),
 (72,⟨1,8,.other,z72,[]⟩),
 (73,⟨1,8,.other,z73,[]⟩),
 (74,⟨1,8,.other,z74,[]⟩),
 (75,⟨1,8,.ptr,z75,[]⟩),
 (76,⟨1,8,.ptr,z76,[]⟩),
 (77,⟨1,24,.slice 5,z77,[]⟩),
 (78,⟨2,32,.struct,z78,[(0,76),(1,77)]⟩),
 (79,⟨2,32,.struct,z79,[(0,76),(1,77)]⟩),
 (80,⟨1,16,.other,z80,[]⟩),
 (81,⟨1,16,.other,z81,[]⟩),
 (83,⟨1,8,.other,z83,[]⟩),
 (84,⟨1,8,.other,z84,[]⟩),
 (85,⟨1,8,.other,z85,[]⟩),
 (86,⟨1,8,.other,z86,[]⟩),
 (87,⟨1,8,.ptr,z87,[]⟩),
 (88,⟨1,8,.other,z88,[]⟩),
 (89,⟨1,8,.other,z89,[]⟩),
 (90,⟨1,8,.other,z90,[]⟩),
 (91,⟨1,8,.other,z91,[]⟩),
 (92,⟨1,8,.other,z92,[]⟩),
 (93,⟨1,24,.slice 75,z93,[]⟩),
 (94,⟨1,8,.int .u64,z94,[]⟩),
 (96,⟨1,8,.other,z96,[]⟩),
 (97,⟨1,8,.ptr,z97,[]⟩),
 (98,⟨1,8,.other,z98,[]⟩),
 (100,⟨1,8,.other,z100,[]⟩),
 (101,⟨1,8,.other,z101,[]⟩),
 (102,⟨1,8,.ptr,z102,[]⟩),
 (103,⟨1,8,.other,z103,[]⟩),
 (104,⟨4,64,.struct,z104,[(0,44),(1,52)]⟩),
 (105,⟨4,64,.struct,z105,[(0,44),(1,52)]⟩),
 (106,⟨1,8,.other,z106,[]⟩),
 (107,⟨1,8,.other,z107,[]⟩),
 (108,⟨1,8,.other,z108,[]⟩),
 (110,⟨1,8,.other,z110,[]⟩),
 (111,⟨1,8,.other,z111,[]⟩),
 (112,⟨1,8,.other,z112,[]⟩),
 (113,⟨1,8,.other,z113,[]⟩),
 (114,⟨1,8,.int .u64,z114,[]⟩),
 (115,⟨1,8,.ptr,z115,[]⟩),
 (116,⟨1,8,.other,z116,[]⟩),
 (117,⟨1,8,.other,z117,[]⟩),
 (118,⟨1,8,.other,z118,[]⟩),
 (120,⟨1,8,.other,z120,[]⟩),
 (121,⟨1,8,.int .i64,z121,[]⟩),
 (122,⟨1,8,.other,z122,[]⟩),
 (123,⟨1,8,.other,z123,[]⟩),
 (124,⟨1,8,.ptr,z124,[]⟩),
 (125,⟨1,8,.other,z125,[]⟩),
 (126,⟨1,8,.other,z126,[]⟩),
 (127,⟨24,24,.arr 24 5,z127,[]⟩),
 (128,⟨1,8,.other,z128,[]⟩),
 (129,⟨1,8,.other,z129,[]⟩),
 (131,⟨1,8,.other,z131,[]⟩),
 (132,⟨1,4,.int .u32,z132,[]⟩),
 (134,⟨1,8,.other,z134,[]⟩),
 (135,⟨1,8,.other,z135,[]⟩),
 (136,⟨1,8,.other,z136,[]⟩),
 (137,⟨1,8,.int .i64,z137,[]⟩),
 (138,⟨1,8,.other,z138,[]⟩),
 (139,⟨1,8,.other,z139,[]⟩),
 (140,⟨1,8,.other,z140,[]⟩),
 (141,⟨1,8,.other,z141,[]⟩),
 (142,⟨1,8,.other,z142,[]⟩),
 (143,⟨3,48,.struct,z143,[(0,9),(1,9),(2,81)]⟩),
 (144,⟨3,48,.struct,z144,[(0,9),(1,9),(2,81)]⟩),
 (145,⟨1,8,.other,z145,[]⟩),
 (146,⟨1,8,.other,z146,[]⟩),
 (147,⟨20,160,.arr 20 94,z147,[]⟩),
 (148,⟨65,65,.arr 65 5,z148,[]⟩),
 (149,⟨1,8,.other,z149,[]⟩),
 (150,⟨1,8,.other,z150,[]⟩),
 (151,⟨1,8,.other,z151,[]⟩),
 (152,⟨256,256,.arr 256 5,z152,[]⟩),
 (153,⟨2,2,.struct,z153,[(0,5),(1,5)]⟩),
 (154,⟨2,2,.struct,z154,[(0,5),(1,5)]⟩),
 (155,⟨32,32,.arr 16 154,z155,[]⟩),
 (156,⟨1,8,.ptr,z156,[]⟩),
 (157,⟨1,16,.struct,z157,[(0,9)]⟩),
 (158,⟨1,16,.struct,z158,[(0,9)]⟩),
 (159,⟨1,8,.other,z159,[]⟩),
 (160,⟨1,8,.other,z160,[]⟩),
 (161,⟨32,32,.arr 32 5,z161,[]⟩),
 (162,⟨64,64,.arr 64 5,z162,[]⟩),
 (163,⟨4,40,.struct,z163,[(0,17),(1,17),(2,17),(3,9)]⟩),
 (164,⟨4,40,.struct,z164,[(0,17),(1,17),(2,17),(3,9)]⟩),
 (165,⟨0,0,.arr 0 16,z165,[]⟩),
 (166,⟨0,0,.struct,z166,[(0,165)]⟩),
 (167,⟨0,0,.struct,z167,[(0,165)]⟩),
 (168,⟨1,8,.other,z168,[]⟩),
 (169,⟨1,1,.int .u8,z169,[]⟩),
 (170,⟨1,1,.int .u8,z170,[]⟩),
 (171,⟨1,8,.other,z171,[]⟩),
 (172,⟨1,4,.int .i32,z172,[]⟩),
 (173,⟨1,4,.int .i32,z173,[]⟩),
 (174,⟨11,48,.struct,z174,[(0,12),(1,12),(2,132),(3,169),(4,5),(5,5),(6,170),(7,171),(8,97),(9,172),(10,173)]⟩),
 (175,⟨11,48,.struct,z175,[(0,12),(1,12),(2,132),(3,169),(4,5),(5,5),(6,170),(7,171),(8,97),(9,172),(10,173)]⟩)]
def pure (f:FuncId):Bool:=bu f [17,15,19,21,22]
def Dq:List (Nat × List Nat)->Nat->List Nat
 | [],_=>[]
 | (k,d) :: r,t=>bif k.beq t then d else Dq r t
def rts:FuncId->List TypeId:=Dq [(3,[4]),(4,[4]),(5,[26,4]),(6,[30,4]),(7,[35,4]),(8,[9]),(9,[9]),(10,[9]),(11,[4]),(12,[4]),(13,[46,47,3]),(14,[56]),(15,[26]),(16,[3]),(17,[30]),(18,[3]),(19,[35]),(20,[9]),(21,[24]),(22,[24]),(23,[4]),(25,[47]),(26,[4]),(27,[4]),(29,[24]),(36,[66]),(37,[4]),(38,[4]),(39,[4]),(45,[52,4]),(46,[]),(47,[102]),(48,[4]),(60,[4]),(61,[4]),(62,[4]),(78,[4]),(79,[4]),(80,[137]),(81,[4]),(82,[4]),(83,[137]),(84,[4]),(93,[4]),(96,[3]),(24,[9,9,4]),(28,[56]),(30,[3]),(31,[3,81]),(32,[81]),(33,[9]),(34,[9])]
def f3_jn:Nat->Option Ann:=d9 [(9,⟨[1,2,3,4],[],[],[],[]⟩)]
def f13_ann:Nat->Option Ann:=d9 [(6,⟨[2,5,6,7,8,9],[],[(5,0)],[2],[]⟩)]
def f13_jn:Nat->Option Ann:=d9 [(12,⟨[2,5,6,7],[],[],[2],[]⟩),(13,⟨[2,5,6,45],[],[],[2],[]⟩)]
def f15_jn:Nat->Option Ann:=d9 [(9,⟨[1,4,5,9,19],[],[],[4],[]⟩),(16,⟨[1,4,5,9,27],[],[],[4],[]⟩)]
def f17_jn:Nat->Option Ann:=d9 [(5,⟨[1,4,5,8,9],[],[],[4],[]⟩)]
def f19_ann:Nat->Option Ann:=d9 [(3,⟨[2,3,6,7,8],[],[(3,1)],[2],[]⟩)]
def f20_ann:Nat->Option Ann:=d9 [(4,⟨[5,10,11,12],[],[],[],[]⟩)]
def f22_ann:Nat->Option Ann:=d9 [(3,⟨[3,9,10,11],[3],[],[],[]⟩)]
def f23_ann:Nat->Option Ann:=d9 [(4,⟨[0,1,5],[],[],[],[]⟩)]
def f27_ann:Nat->Option Ann:=d9 [(4,⟨[1,24,25,26],[],[],[],[]⟩)]
def f29_ann:Nat->Option Ann:=d9 [(3,⟨[1,5,8,9,10],[5],[],[],[]⟩)]
def f37_jn:Nat->Option Ann:=d9 [(6,⟨[1,5,14],[],[],[],[]⟩),(9,⟨[1,23],[],[],[],[]⟩)]
def f38_jn:Nat->Option Ann:=d9 [(6,⟨[0,7,8],[],[],[],[(8,2)]⟩),(13,⟨[0,7,9],[],[],[],[(9,2)]⟩),(18,⟨[7,10,11],[],[],[],[(10,6)]⟩)]
def f39_ann:Nat->Option Ann:=d9 [(7,⟨[5,50,51,52],[],[],[],[]⟩)]
def f48_ann:Nat->Option Ann:=d9 [(4,⟨[2,3,21,22,23],[],[],[],[]⟩)]
def f48_jn:Nat->Option Ann:=d9 [(9,⟨[2,3],[],[],[],[]⟩)]
def f79_ann:Nat->Option Ann:=d9 [(2,⟨[0,5,6,7],[],[],[],[]⟩)]
def f82_ann:Nat->Option Ann:=d9 [(6,⟨[4,40,41,42],[],[],[],[]⟩)]
def f96_ann:Nat->Option Ann:=d9 [(2,⟨[0,1,7,8],[],[],[],[]⟩)]
noncomputable def fns:FuncId->Option Func:=fun f=>bif f.beq 3 then some Tryd.f3 else bif f.beq 4 then some Tryd.f4 else bif f.beq 5 then some Tryd.f5 else bif f.beq 6 then some Tryd.f6 else bif f.beq 7 then some Tryd.f7 else bif f.beq 8 then some Tryd.f8 else bif f.beq 9 then some Tryd.f9 else bif f.beq 10 then some Tryd.f10 else bif f.beq 11 then some Tryd.f11 else bif f.beq 12 then some Tryd.f12 else bif f.beq 13 then some Tryd.f13 else bif f.beq 14 then some Tryd.f14 else bif f.beq 15 then some Tryd.f15 else bif f.beq 16 then some Tryd.f16 else bif f.beq 17 then some Tryd.f17 else bif f.beq 18 then some Tryd.f18 else bif f.beq 19 then some Tryd.f19 else bif f.beq 20 then some Tryd.f20 else bif f.beq 21 then some Tryd.f21 else bif f.beq 22 then some Tryd.f22 else bif f.beq 23 then some Tryd.f23 else bif f.beq 25 then some Tryd.f25 else bif f.beq 26 then some Tryd.f26 else bif f.beq 27 then some Tryd.f27 else bif f.beq 29 then some Tryd.f29 else bif f.beq 36 then some Tryd.f36 else bif f.beq 37 then some Tryd.f37 else bif f.beq 38 then some Tryd.f38 else bif f.beq 39 then some Tryd.f39 else bif f.beq 45 then some Tryd.f45 else bif f.beq 46 then some Tryd.f46 else bif f.beq 47 then some Tryd.f47 else bif f.beq 48 then some Tryd.f48 else bif f.beq 60 then some Tryd.f60 else bif f.beq 61 then some Tryd.f61 else bif f.beq 62 then some Tryd.f62 else bif f.beq 78 then some Tryd.f78 else bif f.beq 79 then some Tryd.f79 else bif f.beq 80 then some Tryd.f80 else bif f.beq 81 then some Tryd.f81 else bif f.beq 82 then some Tryd.f82 else bif f.beq 83 then some Tryd.f83 else bif f.beq 84 then some Tryd.f84 else bif f.beq 93 then some Tryd.f93 else bif f.beq 96 then some Tryd.f96 else none
def anns:FuncId->Nat->Option Ann:=fun f=>bif f.beq 13 then f13_ann else bif f.beq 19 then f19_ann else bif f.beq 20 then f20_ann else bif f.beq 22 then f22_ann else bif f.beq 23 then f23_ann else bif f.beq 27 then f27_ann else bif f.beq 29 then f29_ann else bif f.beq 39 then f39_ann else bif f.beq 48 then f48_ann else bif f.beq 79 then f79_ann else bif f.beq 82 then f82_ann else bif f.beq 96 then f96_ann else fun _=>none
def jns:FuncId->Nat->Option Ann:=fun f=>bif f.beq 3 then f3_jn else bif f.beq 13 then f13_jn else bif f.beq 15 then f15_jn else bif f.beq 17 then f17_jn else bif f.beq 37 then f37_jn else bif f.beq 38 then f38_jn else bif f.beq 48 then f48_jn else fun _=>none
def lent:FuncId->Option dm:=Dd [(31,⟨79,[.may,.bf 5]⟩),(32,⟨79,[.may,.bf 5]⟩),(34,⟨79,[.may,.bf 5]⟩),(25,⟨68,[.sl,.sc]⟩),(38,⟨68,[.sl,.sc]⟩)]
def selfT (t:TypeId):Bool:=bu t [79]
def ext:FuncId->Option (List TV->Option TV):=fun f=>bif f.beq 24 then some (C2) else bif f.beq 28 then some (kr) else bif f.beq 30 then some (BL) else bif f.beq 31 then some (ek 5) else bif f.beq 32 then some (gr 5) else bif f.beq 33 then some (vm) else bif f.beq 34 then some (mf 5) else none
def opn (f:FuncId):Bool:=bu f [29,46,47]
def ww:List (Nat × List Nat)->Nat->Option (List Nat)
 | [],_=>none
 | (k,d) :: r,t=>bif k.beq t then some d else ww r t
def f15_kp:Nat->Option (List Nat):=ww [(5003,[4,5,6]),(9004,[4,5]),(16005,[4,5]),(18004,[4,5]),(20004,[4,5]),(22003,[4,5]),(24003,[4,5])]
def f17_kp:Nat->Option (List Nat):=ww [(5003,[4,5]),(7003,[4,5]),(9005,[4,5]),(11006,[4,5])]
def f38_kp:Nat->Option (List Nat):=ww [(9002,[7]),(13002,[7]),(17001,[7,10]),(20001,[2])]
def f45_kp:Nat->Option (List Nat):=ww [(2006,[0,2,4])]
def kps:FuncId->Nat->Option (List Nat):=fun f=>bif f.beq 15 then f15_kp else bif f.beq 17 then f17_kp else bif f.beq 38 then f38_kp else bif f.beq 45 then f45_kp else fun _=>none
def peek:FuncId->Option (Nat × Nat):=fun f=>none
def turn (f:FuncId):Bool:=bu f []
def mth:TypeId->String->Option (FuncId × Bool):=fun t s=>none
def eye (f:FuncId):Bool:=bu f []
def cold (t:TypeId):Bool:=bu t []
noncomputable def prog:AProg:=⟨tab,pure,rts,fns,anns,jns,lent,selfT,ext,opn,kps,peek,turn,mth,eye,cold⟩
end Go.Ab.S13
end
section
namespace Go.Ab
section
variable {R:Type} {C C':FuncId->List TV->Option TV} {J J':List Nat->ASt->Option R}
theorem Prg.cu (hC:∀ f xs v,C f xs=some v->C' f xs=some v) (hJ:∀ p st r,J p st=some r->J' p st=some r):∀ {p:Prg R} {r:R},p.run C J=some r->p.run C' J'=some r
 | .fail,r,h=>by simp [Prg.run] at h
 | .ret x,r,h=>h
 | .tv p k,r,h=>by
  cases p with
  | none=>simp [Prg.run] at h
  | some v=>exact Prg.cu hC hJ (p:=k v) h
 | .tvs p k,r,h=>by
  cases p with
  | none=>simp [Prg.run] at h
  | some v=>exact Prg.cu hC hJ (p:=k v) h
 | .rws p k,r,h=>by
  cases p with
  | none=>simp [Prg.run] at h
  | some v=>exact Prg.cu hC hJ (p:=k v) h
 | .nat p k,r,h=>by
  cases p with
  | none=>simp [Prg.run] at h
  | some v=>exact Prg.cu hC hJ (p:=k v) h
 | .chk b k,r,h=>by
  cases b with
  | false=>simp [Prg.run] at h
  | true=>exact Prg.cu hC hJ (p:=k) h
 | .ite b t e, r, h => by
  cases b with
  | none=>simp [Prg.run] at h
  | some b =>
   cases b with
   | true=>exact Prg.cu hC hJ (p:=t) h
   | false=>exact Prg.cu hC hJ (p:=e) h
 | .call f xs k, r, h => by
  simp only [Prg.run] at h ⊢
  cases hc:C f xs with
  | none=>rw [hc] at h; simp at h
  | some v =>
   rw [hc] at h
   rw [hC _ _ _ hc]
   exact Prg.cu hC hJ (p:=k v) h
 | .jmp p st,r,h=>hJ _ _ _ h
end
section
variable {A:AProg} {f g:FuncId}
theorem iE {C C':FuncId->List TV->Option TV} (hC:∀ f xs v,C f xs=some v->C' f xs=some v):∀ {m m':Nat},m<=m'->∀ {p:List Nat} {st:ASt} {r:TV},gM A C f m p st=some r->gM A C' f m' p st=some r
 | 0,_,_,_,_,_,h=>by simp [gM] at h
 | m + 1,0,hle,_,_,_,_=>by omega
 | m + 1,m' + 1,hle,p,st,r,h=>by
  simp only [gM] at h ⊢
  exact Prg.cu hC (fun p st r h=>iE hC (by omega) h) h
theorem eF:∀ {n n':Nat},n<=n'->∀ {f:FuncId} {args:List TV} {r:TV},acall A n f args=some r->acall A n' f args=some r
 | 0,_,_,_,_,_,h=>by simp [acall] at h
 | n + 1,0,hle,_,_,_,_=>by omega
 | n + 1, n' + 1, hle, f, args, r, h => by
  simp only [acall] at h ⊢
  have hC:∀ f xs v,acall A n f xs=some v->acall A n' f xs=some v:=fun f xs v h=>eF (by omega) h
  split at h
  ·rename_i g hg
   exact h
  ·exact Prg.cu hC (fun p st r h=>iE hC (by omega) h) h
def aC (A:AProg) (f:FuncId) (args:List TV) (r:TV):Prop:=∃ n,acall A n f args=some r
def aa (A:AProg) (f:FuncId) (p:Prg TV) (r:TV):Prop:=∃ n,p.run (acall A n) (gM A (acall A n) f n)=some r
variable {r:TV}
theorem aa.up {p:Prg TV} {n n':Nat} (h:p.run (acall A n) (gM A (acall A n) f n)=some r) (hle:n<=n'):p.run (acall A n') (gM A (acall A n') f n')=some r :=
 Prg.cu (fun _ _ _ h=>eF hle h) (fun _ _ _ h=>iE (fun _ _ _ h=>eF hle h) hle h) h
theorem aa.ret:aa A f (.ret r) r:=⟨0,rfl⟩
theorem rV {x:TV}:aa A f (.ret x) r ↔ x=r:=⟨fun ⟨n,h⟩=>by simpa [Prg.run] using h,fun h=>h ▸ aa.ret⟩
theorem CY {p:Option TV} {k:TV->Prg TV}:aa A f (.tv p k) r ↔ ∃ v,p=some v/\aa A f (k v) r:=by
 constructor
 ·rintro ⟨n,h⟩
  cases p with
  | none=>simp [Prg.run] at h
  | some v=>exact ⟨v,rfl,n,h⟩
 ·rintro ⟨v,rfl,n,h⟩; exact ⟨n,h⟩
theorem Al {p:Option (List TV)} {k:List TV->Prg TV}:aa A f (.tvs p k) r ↔ ∃ v,p=some v/\aa A f (k v) r:=by
 constructor
 ·rintro ⟨n,h⟩
  cases p with
  | none=>simp [Prg.run] at h
  | some v=>exact ⟨v,rfl,n,h⟩
 ·rintro ⟨v,rfl,n,h⟩; exact ⟨n,h⟩
theorem AA {p:Option (List (List TV))} {k:List (List TV)->Prg TV}:aa A f (.rws p k) r ↔ ∃ v,p=some v/\aa A f (k v) r:=by
 constructor
 ·rintro ⟨n,h⟩
  cases p with
  | none=>simp [Prg.run] at h
  | some v=>exact ⟨v,rfl,n,h⟩
 ·rintro ⟨v,rfl,n,h⟩; exact ⟨n,h⟩
theorem Br {p:Option Nat} {k:Nat->Prg TV}:aa A f (.nat p k) r ↔ ∃ v,p=some v/\aa A f (k v) r:=by
 constructor
 ·rintro ⟨n,h⟩
  cases p with
  | none=>simp [Prg.run] at h
  | some v=>exact ⟨v,rfl,n,h⟩
 ·rintro ⟨v,rfl,n,h⟩; exact ⟨n,h⟩
theorem Cb {b:Bool} {k:Prg TV}:aa A f (.chk b k) r ↔ b=true/\aa A f k r:=by
 constructor
 ·rintro ⟨n,h⟩
  cases b with
  | false=>simp [Prg.run] at h
  | true=>exact ⟨rfl,n,h⟩
 ·rintro ⟨rfl,n,h⟩; exact ⟨n,h⟩
theorem A0 {b:Option Bool} {t e:Prg TV}:aa A f (.ite b t e) r ↔ ∃ v,b=some v/\aa A f (bif v then t else e) r:=by
 constructor
 ·rintro ⟨n,h⟩
  cases b with
  | none=>simp [Prg.run] at h
  | some v=>refine ⟨v,rfl,n,?_⟩; cases v <;> exact h
 ·rintro ⟨v,rfl,n,h⟩; refine ⟨n,?_⟩; cases v <;> exact h
theorem zt {xs:List TV} {k:TV->Prg TV}:aa A f (.call g xs k) r ↔ ∃ v,aC A g xs v/\aa A f (k v) r:=by
 constructor
 ·rintro ⟨n,h⟩
  simp only [Prg.run] at h
  cases hc:acall A n g xs with
  | none=>rw [hc] at h; simp at h
  | some v=>rw [hc] at h; exact ⟨v,⟨n,hc⟩,n,h⟩
 ·rintro ⟨v,⟨n,hc⟩,m,h⟩
  refine ⟨max n m,?_⟩
  simp only [Prg.run]
  rw [eF (Nat.le_max_left n m) hc]
  exact aa.up h (Nat.le_max_right n m)
theorem BE {p:List Nat} {st:ASt}:aa A f (.jmp p st) r ↔ aa A f (eE A f p st) r:=by
 constructor
 ·rintro ⟨n,h⟩
  cases n with
  | zero=>simp [Prg.run,gM] at h
  | succ n =>
   refine ⟨n + 1,?_⟩
   simp only [Prg.run,gM] at h
   exact Prg.cu (fun _ _ _ h=>h) (fun _ _ _ h=>iE (fun _ _ _ h=>h) (Nat.le_succ n) h) h
 ·rintro ⟨n,h⟩
  refine ⟨n + 1,?_⟩
  simp only [Prg.run,gM]
  exact Prg.cu (fun _ _ _ h=>eF (Nat.le_succ n) h) (fun _ _ _ h=>iE (fun _ _ _ h=>eF (Nat.le_succ n) h) (Nat.le_refl n) h) h
theorem A3 {args:List TV} (hx:A.ext f=none):aC A f args r ↔ aa A f (bO A f args) r:=by
 constructor
 ·rintro ⟨n,h⟩
  cases n with
  | zero=>simp [acall] at h
  | succ n=>simp only [acall,hx] at h; exact ⟨n,h⟩
 ·rintro ⟨n,h⟩; exact ⟨n + 1,by simp only [acall,hx]; exact h⟩
theorem aC.ext {args:List TV} {g:List TV->Option TV} (hx:A.ext f=some g) (h:g args=some r):aC A f args r:=⟨1,by simp only [acall,hx]; exact h⟩
theorem aa.tv {p:Option TV} {k:TV->Prg TV} {v:TV} (h:p=some v) (hk:aa A f (k v) r):aa A f (.tv p k) r:=CY.2 ⟨v,h,hk⟩
theorem aa.tvs {p:Option (List TV)} {k:List TV->Prg TV} {v:List TV} (h:p=some v) (hk:aa A f (k v) r):aa A f (.tvs p k) r:=Al.2 ⟨v,h,hk⟩
theorem aa.rws {p:Option (List (List TV))} {k:List (List TV)->Prg TV} {v:List (List TV)} (h:p=some v) (hk:aa A f (k v) r):aa A f (.rws p k) r:=AA.2 ⟨v,h,hk⟩
theorem aa.nat {p:Option Nat} {k:Nat->Prg TV} {v:Nat} (h:p=some v) (hk:aa A f (k v) r):aa A f (.nat p k) r:=Br.2 ⟨v,h,hk⟩
theorem aa.chk {b:Bool} {k:Prg TV} (h:b=true) (hk:aa A f k r):aa A f (.chk b k) r:=Cb.2 ⟨h,hk⟩
theorem aa.ite {b:Option Bool} {t e:Prg TV} {v:Bool} (h:b=some v) (ht:v=true->aa A f t r) (he:v=false->aa A f e r):aa A f (.ite b t e) r:=by
 refine A0.2 ⟨v,h,?_⟩
 cases v with
 | true=>exact ht rfl
 | false=>exact he rfl
theorem aa.call {xs:List TV} {k:TV->Prg TV} {v:TV} (h:aC A g xs v) (hk:aa A f (k v) r):aa A f (.call g xs k) r:=zt.2 ⟨v,h,hk⟩
theorem aa.jmp {p:List Nat} {st:ASt} {q:Prg TV} (h:eE A f p st=q) (hk:aa A f q r):aa A f (.jmp p st) r:=BE.2 (h ▸ hk)
theorem aC.of {args:List TV} {q:Prg TV} (h:bO A f args=q) (hk:aa A f q r) (hx:A.ext f=none:=by rfl):aC A f args r:=(A3 hx).2 (h ▸ hk)
end
end Go.Ab
end
section
namespace Go.Ab
inductive F2 {α β:Type} (R:α->β->Prop):List α->List β->Prop
 | nil:F2 R [] []
 | cons {a b l m}:R a b->F2 R l m->F2 R (a :: l) (b :: m)
section
variable {α β γ:Type} {R S:α->β->Prop}
theorem F2.length {xs:List α} {l:List β} (h:F2 R xs l):xs.length=l.length:=by
 induction h with
 | nil=>rfl
 | cons _ _ ih=>simp [ih]
theorem F2.get {xs:List α} {l:List β} (h:F2 R xs l):∀ {i:Nat} {a:β},l[i]? = some a->∃ e,xs[i]? = some e/\R e a:=by
 induction h with
 | nil=>intro i a h; simp at h
 | cons hr _ ih =>
  intro i a h
  cases i with
  | zero=>simp at h; subst h; exact ⟨_,rfl,hr⟩
  | succ i=>simp at h; simpa using ih h
theorem F2.getL {xs:List α} {l:List β} (h:F2 R xs l):∀ {i:Nat} {e:α},xs[i]? = some e->∃ a,l[i]? = some a/\R e a:=by
 induction h with
 | nil=>intro i a h; simp at h
 | cons hr _ ih =>
  intro i a h
  cases i with
  | zero=>simp at h; subst h; exact ⟨_,rfl,hr⟩
  | succ i=>simp at h; simpa using ih h
theorem F2.append {xs ys:List α} {l m:List β} (h:F2 R xs l) (h':F2 R ys m):F2 R (xs ++ ys) (l ++ m):=by
 induction h with
 | nil=>exact h'
 | cons hr _ ih=>exact .cons hr ih
theorem F2.take {xs:List α} {l:List β} (h:F2 R xs l):∀ n,F2 R (xs.take n) (l.take n):=by
 induction h with
 | nil=>intro n; simp; exact .nil
 | cons hr _ ih=>intro n; cases n with
  | zero=>exact .nil
  | succ n=>exact .cons hr (ih n)
theorem F2.drop {xs:List α} {l:List β} (h:F2 R xs l):∀ n,F2 R (xs.drop n) (l.drop n):=by
 induction h with
 | nil=>intro n; simp; exact .nil
 | cons hr h ih=>intro n; cases n with
  | zero=>exact .cons hr h
  | succ n=>exact ih n
theorem F2.set {xs:List α} {l:List β} (h:F2 R xs l):∀ {i:Nat} {e:α} {a:β},R e a->F2 R (aq xs i e) (l.set i a):=by
 induction h with
 | nil=>intro i e a _; exact .nil
 | cons hr h ih=>intro i e a hea; cases i with
  | zero=>exact .cons hea h
  | succ i=>exact .cons hr (ih hea)
theorem F2.mapL {f:γ->α} {Q:γ->β->Prop} {xs:List γ} {l:List β} (h:F2 Q xs l) (hf:∀ x a,Q x a->R (f x) a):F2 R (xs.map f) l:=by
 induction h with
 | nil=>exact .nil
 | cons hr _ ih=>exact .cons (hf _ _ hr) ih
end
abbrev I (n:Int):TV:=.lit (.int .i64 n)
abbrev W (n:Int):TV:=.lit (.int .u16 n)
abbrev B (b:Bool):TV:=.lit (.bool b)
def inI (n:Int):Prop:=-9223372036854775808<=n/\n<=9223372036854775807
def inW (n:Int):Prop:=0<=n/\n<=65535
def RL {α:Type} (q:Option Bool) (s:Nat) (R:List TV->α->Prop) (x:TV) (l:List α):Prop :=
 (x=.lit aj/\l=[])\/∃ o xs,x=.sl o s xs/\(∀ b,q=some b->o=b)/\F2 R xs l/\xs.length<=9223372036854775807
theorem nz:∀ ys:List (List TV),rT ys=ys.map uz
 | []=>rfl
 | y :: ys=>by simp [rT,nz ys]
section
variable {α:Type} {q:Option Bool} {s:Nat} {R S:List TV->α->Prop} {x:TV} {l:List α}
theorem RL.nil:RL q s R (.lit aj) []:=.inl ⟨rfl,rfl⟩
theorem RL.sl {o:Bool} {xs:List (List TV)} (hq:∀ b,q=some b->o=b) (h:F2 R xs l) (hb:xs.length<=9223372036854775807):RL q s R (.sl o s xs) l:=.inr ⟨o,xs,rfl,hq,h,hb⟩
theorem RL.bnd (h:RL q s R x l):l.length<=9223372036854775807:=by
 rcases h with ⟨rfl,rfl⟩ | ⟨o,xs,rfl,hq,h,hb⟩
 ·simp
 ·rw [<- h.length]; exact hb
theorem RL.len {t:TypeId} (h:RL q s R x l):plen (.slice t) x=some (I l.length):=by
 rcases h with ⟨rfl,rfl⟩ | ⟨o,xs,rfl,hq,h,hb⟩
 ·rfl
 ·simp [plen,h.length]
theorem RL.slLen (h:RL q s R x l):Go.Ab.slLen x=some l.length:=by
 rcases h with ⟨rfl,rfl⟩ | ⟨o,xs,rfl,hq,h,hb⟩
 ·rfl
 ·simp [Go.Ab.slLen,h.length]
theorem RL.slSize (h:RL q s R x l):Go.Ab.slSize x s=true:=by
 rcases h with ⟨rfl,rfl⟩ | ⟨o,xs,rfl,hq,h,hb⟩
 ·rfl
 ·simp [Go.Ab.slSize]
theorem RL.isSl (h:RL q s R x l):x.isSl=true:=by
 rcases h with ⟨rfl,rfl⟩ | ⟨o,xs,rfl,hq,h,hb⟩ <;> rfl
theorem RL.idx (h:RL q s R x l) {k:IntKind} {i:Nat} {a:α} (hi:l[i]? = some a):∃ e,pidx s x (.lit (.int k i))=some e/\R e a:=by
 rcases h with ⟨rfl,rfl⟩ | ⟨o,xs,rfl,hq,h,hb⟩
 ·simp at hi
 ·obtain ⟨e,he,hr⟩:=h.get hi
  exact ⟨e,by simp [pidx,he],hr⟩
theorem RL.elems (h:RL q s R x l):∃ xs,pelems s x=some xs/\F2 R xs l:=by
 rcases h with ⟨rfl,rfl⟩ | ⟨o,xs,rfl,hq,h,hb⟩
 ·exact ⟨[],rfl,.nil⟩
 ·exact ⟨xs,by simp [pelems],h⟩
theorem RL.pel (h:RL q s R x l) {i:Nat} {a:α} (hi:l[i]? = some a):∃ e,Go.Ab.pel x i=some e/\R e a:=by
 rcases h with ⟨rfl,rfl⟩ | ⟨o,xs,rfl,hq,h,hb⟩
 ·simp at hi
 ·exact h.get hi
theorem RL.frz (h:RL q s R x l) (hm:∀ e a,R e a->S (uz e) a):RL (some false) s S (frz x) l:=by
 rcases h with ⟨rfl,rfl⟩ | ⟨o,xs,rfl,hq,h,hb⟩
 ·exact .nil
 ·refine .sl (by simp) ?_ ?_
  rotate_left
  ·rw [nz,List.length_map]; exact hb
  rw [nz]
  exact h.mapL hm
end
def RI1 (e:List TV) (n:Int):Prop:=e=[I n]/\inI n
def RW1 (e:List TV) (n:Int):Prop:=e=[W n]/\inW n
abbrev RInts (q:Option Bool):TV->List Int->Prop:=RL q 1 RI1
abbrev RWords (q:Option Bool):TV->List Int->Prop:=RL q 1 RW1
structure DIns where
 op:Int
 dst:Int
 a:Int
 b:Int
 k:Int
 f:Int
 args:List Int
structure DEnd where
 kind:Int
 a:Int
 dst:Int
 f:Int
 args:List Int
 to:Int
 els:Int
 pad:Int
structure DPad where
 dst:Int
 catches:List Int
 all:Bool
 cleanup:Bool
structure DBlock where
 landing:Bool
 pad:DPad
 ins:List DIns
 fin:DEnd
structure DFunc where
 params:Int
 regs:Int
 blocks:List DBlock
structure DMod where
 funcs:List DFunc
def DIns.ok (x:DIns):Prop:=inI x.op/\inI x.dst/\inI x.a/\inI x.b/\inW x.k/\inI x.f
def DEnd.ok (x:DEnd):Prop:=inI x.kind/\inI x.a/\inI x.dst/\inI x.f/\inI x.to/\inI x.els/\inI x.pad
def RIns (q:Option Bool) (e:List TV) (x:DIns):Prop:=∃ g,e=[I x.op,I x.dst,I x.a,I x.b,W x.k,I x.f,g]/\RInts q g x.args/\x.ok
def REnd (q:Option Bool) (e:List TV) (x:DEnd):Prop:=∃ g,e=[I x.kind,I x.a,I x.dst,I x.f,g,I x.to,I x.els,I x.pad]/\RInts q g x.args/\x.ok
def RPad (q:Option Bool) (e:List TV) (x:DPad):Prop:=∃ g,e=[I x.dst,g,B x.all,B x.cleanup]/\RWords q g x.catches/\inI x.dst
theorem RI1.frz {e:List TV} {n:Int} (h:RI1 e n):RI1 (uz e) n:=by obtain ⟨rfl,h⟩:=h; exact ⟨rfl,h⟩
theorem padd {a b:Int} (h:inI (a + b)):pbin (.int .i64) .add (I a) (I b)=some (I (a + b)):=by
 simp [pbin,ja,IntWalk.i64_in _ h]
theorem inc {k n:Nat} (h:k < n) (hn:n<=9223372036854775807):pbin (.int .i64) .add (I (k:Int)) (I (1:Int))=some (I ((k + 1:Nat):Int)):=by
 rw [padd (by constructor <;> omega)]; rfl
open Classical in
noncomputable def tt (p:Prop):Bool:=decide p
theorem uc {p:Prop}:tt p=true ↔ p:=by simp [tt]
theorem tt_eq {b:Bool} {p:Prop} (h:b=true ↔ p):b=tt p:=by
 cases b with
 | true=>exact (uc.2 (h.1 rfl)).symm
 | false =>
  cases hp:tt p with
  | false=>rfl
  | true=>exact absurd (h.2 (uc.1 hp)) (by simp)
theorem me {p p':Prop} (h:p ↔ p'):tt p=tt p':=by rw [propext h]
theorem uw {p:Prop} (h:p):tt p=true:=uc.2 h
theorem AC {p:Prop} (h:¬ p):tt p=false:=by
 cases hp:tt p with
 | false=>rfl
 | true=>exact absurd (uc.1 hp) h
section
variable {A:AProg} {f:FuncId}
theorem xf {b:Bool} {p:Prop} (h:b=true ↔ p):aa A f (.ret (B b)) (B (tt p)):=by rw [<- tt_eq h]; exact aa.ret
theorem wG {p:Prop} (h:¬ p):aa A f (.ret (B false)) (B (tt p)):=xf (by simp [h])
end
def eZ (k n:Nat) (P:Nat->Prop):Prop:=∀ i,k<=i->i < n->P i
theorem vP {n:Nat} {P:Nat->Prop}:eZ n n P:=fun i h1 h2=>by omega
theorem iX {k n:Nat} {P:Nat->Prop} (h:k < n):eZ k n P ↔ P k/\eZ (k + 1) n P:=by
 constructor
 ·intro ha; exact ⟨ha k (Nat.le_refl k) h,fun i h1 h2=>ha i (by omega) h2⟩
 ·rintro ⟨hp,ha⟩ i h1 h2
  by_cases hi:i=k
  ·subst hi; exact hp
  ·exact ha i (by omega) h2
theorem fX {n:Nat} {P:Nat->Prop}:eZ 0 n P ↔ ∀ i,i < n->P i:=⟨fun h i hi=>h i (Nat.zero_le i) hi,fun h i _ hi=>h i hi⟩
theorem uV {α:Type} {l m:List α} (h:l.length=m.length):l=m ↔ eZ 0 l.length fun i=>l[i]? = m[i]? := by
 rw [fX]
 constructor
 ·rintro rfl i _; rfl
 ·intro ha
  apply List.ext_getElem? 
  intro i
  by_cases hi:i < l.length
  ·exact ha i hi
  ·rw [DF (by omega),DF (by omega)]
end Go.Ab
namespace Go.Ab
theorem CL {A:AProg} {f:FuncId} {n:Nat} {P:Nat->Prop} {Q:Prop} {g:Nat->Prg TV} (hend:aa A f (g n) (B (tt Q)))
  (hstep:∀ k,k < n->∀ r,(¬ P k->r=B false)->(P k->aa A f (g (k + 1)) r)->aa A f (g k) r):∀ d k,k + d=n->aa A f (g k) (B (tt (eZ k n P/\Q))):=by
 intro d
 induction d with
 | zero =>
  intro k hk
  have hk:k=n:=by omega
  subst hk
  rw [show tt (eZ k k P/\Q)=tt Q from me ⟨fun h=>h.2,fun h=>⟨vP,h⟩⟩]
  exact hend
 | succ d ih =>
  intro k hk
  have hlt:k < n:=by omega
  refine hstep k hlt _ (fun hp=>?_) (fun hp=>?_)
  ·rw [AC]
   intro h
   exact hp ((iX hlt).1 h.1).1
  ·rw [show tt (eZ k n P/\Q)=tt (eZ (k + 1) n P/\Q) from me ⟨fun h=>⟨((iX hlt).1 h.1).2,h.2⟩,fun h=>⟨(iX hlt).2 ⟨hp,h.1⟩,h.2⟩⟩]
   exact ih (k + 1) (by omega)
theorem Ay {A:AProg} {f:FuncId} {n:Nat} {P:Nat->Prop} {g:Nat->Prg TV} (hend:aa A f (g n) (B true))
  (hstep:∀ k,k < n->∀ r,(¬ P k->r=B false)->(P k->aa A f (g (k + 1)) r)->aa A f (g k) r):aa A f (g 0) (B (tt (∀ i,i < n->P i))):=by
 have:=CL (Q:=True) (by rw [uw trivial]; exact hend) hstep n 0 (by omega)
 rw [show tt (∀ i,i < n->P i)=tt (eZ 0 n P/\True) from me ⟨fun h=>⟨fX.2 h,trivial⟩,fun h=>fX.1 h.1⟩]
 exact this
theorem bg {k n:Nat} (h:k < n):asBool (.lit (.bool (decide ((k:Int) < (n:Int)))))=some true:=by simp [asBool,h]
theorem cA {n:Nat}:asBool (.lit (.bool (decide ((n:Int) < (n:Int)))))=some false:=by simp [asBool]
theorem tW {α:Type} {l m:List α} (h:l.length=m.length):l=m ↔ ∀ i,i < l.length->l[i]? = m[i]? := by
 rw [uV h,fX]
end Go.Ab
namespace Go.Ab
end Go.Ab
end

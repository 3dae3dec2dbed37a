import Derived.Test.YtaokcbfenabbgaaGreatDoorGM0
import Derived.Lib.ItoaNum
import Derived.Lib.Split
import Derived.Lib.IndexMore
import Derived.Lib.ParseIntB
import Derived.Test.YtaokcbfenabbgaaGreatDoorProg
import Derived.IntWalk
set_option linter.all false
section
namespace Go.Ab
def bF:List Value:=[.int .i64 0]
def aM:List Value:=[.bool false]
def cp:List Value:=[.string ⟨#[]⟩]
def zSl:List Value:=[.slice none 0 0]
def ED:List Value:=[.int .i64 0,.int .i64 0,.int .i64 0,.int .i64 0,.int .u16 0,.int .i64 0,.slice none 0 0]
def xG:List Value:=[.int .i64 0,.int .i64 0,.int .i64 0,.int .i64 0,.slice none 0 0,.int .i64 0,.int .i64 0,.int .i64 0]
def EJ:List Value:=[.int .i64 0,.slice none 0 0,.bool false,.bool false]
def zFunc:List Value:=[.int .i64 0,.int .i64 0,.slice none 0 0]
end Go.Ab
end
section
namespace Go.Ab
def Gw:List (Nat × dN)->Nat->Option dN
 | [],_=>none
 | (k,d) :: r,t=>bif k.beq t then some d else Gw r t
def dH:Nat:=140737488355328
def eZ (e:Nat):List TV->Option TV
 | [.tup [x,.buf s e'],.lit (.string t)]=>bif x.aW && e'.beq e && (s.size + t.size).ble dH then some (.tup [.tup [.lit (.int .i64 t.size),.lit .nilIface],.tup [mA,.buf (s ++ t) e]]) else none
 | _=>none
def iD (e:Nat):List TV->Option TV
 | [.tup [x,.buf s e'],.lit (.int .u8 c)]=>bif x.aW && e'.beq e && (s.size + 1).ble dH && decide (0<=c/\c < 256) then some (.tup [.lit .nilIface,.tup [mA,.buf (s.push c.toNat.toUInt8) e]]) else none
 | _=>none
def nA (e:Nat):List TV->Option TV
 | [.tup [x,.buf s e']]=>bif x.aW && e'.beq e && !(s.size.beq 0) then some (.tup [.lit (.string s),.tup [mA,.buf s e]]) else none
 | _=>none
def D9 (e:Nat):List TV->Option TV
 | [.tup [x,.buf s e']]=>bif x.aW && e'.beq e then some (.tup [.lit (.int .i64 s.size),.tup [mA,.buf s e]]) else none
 | _=>none
def xK:List TV->Option TV
 | [.lit (.int .i64 n)]=>bif decide (-9223372036854775808<=n/\n<=9223372036854775807) then some (.lit (.string ⟨(Lib.itoa n).toArray⟩)) else none
 | _=>none
end Go.Ab
end
section
namespace Go.Ab
def oo (l:List ByteArray):List (List TV):=l.map fun s=>[.lit (.string s)]
def BZ:List TV->Option TV
 | [.lit (.string s), .lit (.string p)] => bif Nat.blt s.size 4294967281 then
   some (.tup [.lit (.string ⟨(Lib.cut s.data.toList p.data.toList).1.toArray⟩),.lit (.string ⟨(Lib.cut s.data.toList p.data.toList).2.1.toArray⟩),.lit (.bool (Lib.cut s.data.toList p.data.toList).2.2)]) else none
 | _=>none
def mu:List TV->Option TV
 | [.lit (.string s), .lit (.string p), .lit (.int .i64 n)] => bif Nat.blt s.size 4294967281 && (Nat.blt 0 p.size && decide (1 ≤ n ∧ n ≤ 9223372036854775807)) then
   some (.sl false 1 (oo (Lib.splitB p 0 (min n.toNat (s.size + 1) - 1) s))) else none
 | _=>none
def ul (s:ByteArray):Nat :=
 match Lib.parseUintB 16 s.data.toList with
 | .ok u=>u
 | .range=>65535
 | _=>0
def EQ:List TV->Option TV
 | [.lit (.string s)]=>bif Nat.ble s.size 281474976710656 then some (.lit (.int .i64 (ul s))) else none
 | _=>none
end Go.Ab
end
section
namespace Go.Ab.Z12
open Go.Ab Go.Proofs
def Jk:AV:=AV.one CA.junk
def Sr (i:Nat):AV:=AV.one (CA.sref i 0 [])
def Pt (i:Nat):AV:=AV.one (CA.ptr i 0)
def Tr (w:TV):Option BC:=some (BC.tree [w])
def Ct (y:TV):Option BC:=some (BC.cells [CA.t y])
def Rj (n:Nat):List AV:=List.replicate n (AV.one CA.junk)
def Rz (n:Nat):List (Option BC):=List.replicate n none
def cK:List (Nat × Ann)->Nat->Option Ann
 | [],_=>none
 | (k,d) :: r,t=>bif k.beq t then some d else cK r t
def z2:List Value:=[.int .i64 0]
def z3:List Value:=[.int .i64 0]
def z4:List Value:=[.bool false]
def z5:List Value:=[.int .u8 0]
def z6:List Value:=[.int .u8 0]
def z7:List Value:=[.int .i64 0,.int .i64 0,.bool false,.int .u8 0]
def z8:List Value:=[.int .i64 0,.int .i64 0,.bool false,.int .u8 0]
def z9:List Value:=[.string ⟨#[]⟩]
def z10:List Value:=[.string ⟨#[]⟩]
def z11:List Value:=[.string ⟨#[]⟩]
def z12:List Value:=[.int .u64 0]
def z13:List Value:=[.string ⟨#[]⟩,.int .u64 0]
def z14:List Value:=[.string ⟨#[]⟩,.int .u64 0]
def z15:List Value:=[.pointer none]
def z16:List Value:=[.pointer none]
def z17:List Value:=[.pointer none]
def z18:List Value:=[.pointer none]
def z19:List Value:=[.pointer none]
def z20:List Value:=[.nilIface]
def z21:List Value:=[.int .i32 0]
def z22:List Value:=[.nilFunc]
def z23:List Value:=[.int .u16 0]
def z24:List Value:=[.slice none 0 0]
def z25:List Value:=[.int .i64 0,.int .i64 0,.int .i64 0,.int .i64 0,.int .u16 0,.int .i64 0,.slice none 0 0]
def z26:List Value:=[.int .i64 0,.int .i64 0,.int .i64 0,.int .i64 0,.int .u16 0,.int .i64 0,.slice none 0 0]
def z28:List Value:=[.nilFunc]
def z29:List Value:=[.int .i64 0,.int .i64 0,.int .i64 0,.int .i64 0,.slice none 0 0,.int .i64 0,.int .i64 0,.int .i64 0]
def z30:List Value:=[.int .i64 0,.int .i64 0,.int .i64 0,.int .i64 0,.slice none 0 0,.int .i64 0,.int .i64 0,.int .i64 0]
def z32:List Value:=[.nilFunc]
def z33:List Value:=[.slice none 0 0]
def z34:List Value:=[.int .i64 0,.slice none 0 0,.bool false,.bool false]
def z35:List Value:=[.int .i64 0,.slice none 0 0,.bool false,.bool false]
def z37:List Value:=[.nilFunc]
def z38:List Value:=[.nilFunc]
def z39:List Value:=[.nilFunc]
def z40:List Value:=[.nilFunc]
def z41:List Value:=[.nilFunc]
def z42:List Value:=[.slice none 0 0]
def z43:List Value:=[.slice none 0 0]
def z44:List Value:=[.slice none 0 0]
def z45:List Value:=[.nilFunc]
def z46:List Value:=[.int .i64 0]
def z48:List Value:=[.nilFunc]
def z50:List Value:=[.nilFunc]
def z51:List Value:=[.nilFunc]
def z52:List Value:=[.nilFunc]
def z53:List Value:=[.slice none 0 0]
def z54:List Value:=[.int .i64 0,.int .i64 0,.slice none 0 0]
def z55:List Value:=[.int .i64 0,.int .i64 0,.slice none 0 0]
def z56:List Value:=[.slice none 0 0]
def z57:List Value:=[.bool false,.int .i64 0,.slice none 0 0,.bool false,.bool false,.slice none 0 0,.int .i64 0,.int .i64 0,.int .i64 0,.int .i64 0,.slice none 0 0,.int .i64 0,.int .i64 0,.int .i64 0]
def z58:List Value:=[.bool false,.int .i64 0,.slice none 0 0,.bool false,.bool false,.slice none 0 0,.int .i64 0,.int .i64 0,.int .i64 0,.int .i64 0,.slice none 0 0,.int .i64 0,.int .i64 0,.int .i64 0]
def z59:List Value:=[.slice none 0 0]
def z60:List Value:=[.nilFunc]
def z61:List Value:=[.nilFunc]
def z62:List Value:=[.nilFunc]
def z63:List Value:=[.nilFunc]
def z64:List Value:=[.nilFunc]
def z66:List Value:=[.nilFunc]
def z67:List Value:=[.int .i64 0,.int .i64 0,.int .i64 0,.int .i64 0,.int .i64 0,.int .i64 0,.int .i64 0,.int .i64 0,.int .i64 0,.int .i64 0,.int .i64 0,.int .i64 0,.int .i64 0,.int .i64 0]
def z68:List Value:=[.nilFunc]
def z69:List Value:=[.nilFunc]
def z70:List Value:=[.int .i64 0,.int .i64 0,.int .i64 0,.int .i64 0,.int .i64 0,.int .i64 0,.int .i64 0]
def z71:List Value:=[.nilFunc]
def z72:List Value:=[.nilFunc]
def z73:List Value:=[.nilFunc]
def z74:List Value:=[.pointer none]
def z75:List Value:=[.slice none 0 0]
def z76:List Value:=[.pointer none,.slice none 0 0]
def z77:List Value:=[.pointer none,.slice none 0 0]
def z78:List Value:=[.nilFunc]
def z79:List Value:=[.nilFunc]
def z80:List Value:=[.nilFunc]
def z81:List Value:=[.nilFunc]
def z82:List Value:=[.nilFunc]
def z83:List Value:=[.int .i64 0]
def z84:List Value:=[.slice none 0 0,.int .i64 0]
def z85:List Value:=[.slice none 0 0,.int .i64 0]
def z87:List Value:=[.nilFunc]
def z88:List Value:=[.nilFunc]
def z89:List Value:=[.nilFunc]
def z90:List Value:=[.nilFunc]
def z91:List Value:=[.nilFunc]
def z92:List Value:=[.pointer none]
def z93:List Value:=[.nilFunc]
def z94:List Value:=[.nilFunc]
def z95:List Value:=[.nilFunc]
def z96:List Value:=[.nilFunc]
def z97:List Value:=[.nilIface]
def z98:List Value:=[.nilIface]
def z100:List Value:=[.nilFunc]
def z101:List Value:=[.nilFunc]
def z102:List Value:=[.nilFunc]
def z103:List Value:=[.pointer none]
def z104:List Value:=[.pointer none]
def z105:List Value:=[.nilFunc]
def z106:List Value:=[.nilFunc]
def z107:List Value:=[.nilFunc]
def z108:List Value:=[.nilFunc]
def z109:List Value:=[.slice none 0 0]
def z110:List Value:=[.int .u64 0]
def z112:List Value:=[.nilFunc]
def z113:List Value:=[.slice none 0 0,.int .i64 0,.int .i64 0,.slice none 0 0]
def z114:List Value:=[.slice none 0 0,.int .i64 0,.int .i64 0,.slice none 0 0]
def z115:List Value:=[.nilFunc]
def z116:List Value:=[.nilFunc]
def z118:List Value:=[.nilFunc]
def z119:List Value:=[.nilFunc]
def z120:List Value:=[.pointer none]
def z121:List Value:=[.nilFunc]
def z122:List Value:=[.nilFunc]
def z123:List Value:=[.nilFunc]
def z124:List Value:=[.nilFunc]
def z125:List Value:=[.nilFunc]
def z126:List Value:=[.nilFunc]
def z128:List Value:=[.nilFunc]
def z129:List Value:=[.nilFunc]
def z130:List Value:=[.nilFunc]
def z131:List Value:=[.nilFunc]
def z132:List Value:=[.int .u64 0]
def z133:List Value:=[.pointer none]
def z135:List Value:=[.nilFunc]
def z136:List Value:=[.int .i64 0]
def z137:List Value:=[.nilFunc]
def z138:List Value:=[.pointer none]
def z139:List Value:=[.nilFunc]
def z140:List Value:=[.nilFunc]
def z141:List Value:=[.nilFunc]
def z142:List Value:=[.nilFunc]
def z143:List Value:=[.int .i64 0]
def z144:List Value:=[.nilFunc]
def z145:List Value:=[.nilFunc]
def z146:List Value:=[.nilFunc]
def z147:List Value:=[.nilFunc]
def z148:List Value:=[.int .u8 0,.int .u8 0,.int .u8 0,.int .u8 0,.int .u8 0,.int .u8 0,.int .u8 0,.int .u8 0,.int .u8 0,.int .u8 0,.int .u8 0,.int .u8 0,.int .u8 0,.int .u8 0,.int .u8 0,.int .u8 0,.int .u8 0,.int .u8 0,.int .u8 0,.int .u8 0,.int .u8 0,.int .u8 0,.int .u8 0,.int .u8 0]
def z149:List Value:=[.nilFunc]
def z150:List Value:=[.nilFunc]
def z152:List Value:=[.nilFunc]
def z153:List Value:=[.int .u32 0]
def z155:List Value:=[.nilFunc]
def z156:List Value:=[.nilFunc]
def z157:List Value:=[.string ⟨#[]⟩,.string ⟨#[]⟩,.nilIface]
def z158:List Value:=[.string ⟨#[]⟩,.string ⟨#[]⟩,.nilIface]
def z159:List Value:=[.nilFunc]
def z160:List Value:=[.nilFunc]
def z161:List Value:=[.nilFunc]
def z162:List Value:=[.int .u64 0,.int .u64 0,.int .u64 0,.int .u64 0,.int .u64 0,.int .u64 0,.int .u64 0,.int .u64 0,.int .u64 0,.int .u64 0,.int .u64 0,.int .u64 0,.int .u64 0,.int .u64 0,.int .u64 0,.int .u64 0,.int .u64 0,.int .u64 0,.int .u64 0,.int .u64 0]
def z163:List Value:=[.int .u8 0,.int .u8 0,.int .u8 0,.int .u8 0,.int .u8 0,.int .u8 0,.int .u8 0,.int .u8 0,.int .u8 0,.int .u8 0,.int .u8 0,.int .u8 0,.int .u8 0,.int .u8 0,.int .u8 0,.int .u8 0,.int .u8 0,.int .u8 0,.int .u8 0,.int .u8 0,.int .u8 0,.int .u8 0,.int .u8 0,.int .u8 0,.int .u8 0,.int .u8 0,.int .u8 0,.int .u8 0,.int .u8 0,.int .u8 0,.int .u8 0,.int .u8 0,.int .u8 0,.int .u8 0,.int .u8 0,.int .u8 0,.int .u8 0,.int .u8 0,.int .u8 0,.int .u8 0,.int .u8 0,.int .u8 0,.int .u8 0,.int .u8 0,.int .u8 0,.int .u8 0,.int .u8 0,.int .u8 0,.int .u8 0,.int .u8 0,.int .u8 0,.int .u8 0,.int .u8 0,.int .u8 0,.int .u8 0,.int .u8 0,.int .u8 0,.int .u8 0,.int .u8 0,.int .u8 0,.int .u8 0,.int .u8 0,.int .u8 0,.int .u8 0,.int .u8 0]
def z164:List Value:=[.nilFunc]
def z165:List Value:=[.nilFunc]
def z166:List Value:=[.int .u8 0,.int .u8 0,.int .u8 0,.int .u8 0,.int .u8 0,.int .u8 0,.int .u8 0,.int .u8 0,.int .u8 0,.int .u8 0,.int .u8 0,.int .u8 0,.int .u8 0,.int .u8 0,.int .u8 0,.int .u8 0,.int .u8 0,.int .u8 0,.int .u8 0,.int .u8 0,.int .u8 0,.int .u8 0,.int .u8 0,.int .u8 0,.int .u8 0,.int .u8 0,.int .u8 0,.int .u8 0,.int .u8 0,.int .u8 0,.int .u8 0,.int .u8 0,.int .u8 0,.int .u8 0,.int .u8 0,.int .u8 0,.int .u8 0,.int .u8 0,.int .u8 0,.int .u8 0,.int .u8 0,.int .u8 0,.int .u8 0,.int .u8 0,.int .u8 0,.int .u8 0,.int .u8 0,.int .u8 0,.int .u8 0,.int .u8 0,.int .u8 0,.int .u8 0,.int .u8 0,.int .u8 0,.int .u8 0,.int .u8 0,.int .u8 0,.int .u8 0,.int .u8 0,.int .u8 0,.int .u8 0,.int .u8 0,.int .u8 0,.int .u8 0,.int .u8 0,.int .u8 0,.int .u8 0,.int .u8 0,.int .u8 0,.int .u8 0,.int .u8 0,.int .u8 0,.int .u8 0,.int .u8 0,.int .u8 0,.int .u8 0,.int .u8 0,.int .u8 0,.int .u8 0,.int .u8 0,.int .u8 0,.int .u8 0,.int .u8 0,.int .u8 0,.int .u8 0,.int .u8 0,.int .u8 0,.int .u8 0,.int .u8 0,.int .u8 0,.int .u8 0,.int .u8 0,.int .u8 0,.int .u8 0,.int .u8 0,.int .u8 0,.int .u8 0,.int .u8 0,.int .u8 0,.int .u8 0,.int .u8 0,.int .u8 0,.int .u8 0,.int .u8 0,.int .u8 0,.int .u8 0,.int .u8 0,.int .u8 0,.int .u8 0,.int .u8 0,.int .u8 0,.int .u8 0,.int .u8 0,.int .u8 0,.int .u8 0,.int .u8 0,.int .u8 0,.int .u8 0,.int .u8 0,.int .u8 0,.int .u8 0,.int .u8 0,.int .u8 0,.int .u8 0,.int .u8 0,.int .u8 0,.int .u8 0,.int .u8 0,.int .u8 0,.int .u8 0,.int .u8 0,.int .u8 0,.int .u8 0,.int .u8 0,.int .u8 0,.int .u8 0,.int .u8 0,.int .u8 0,.int .u8 0,.int .u8 0,.int .u8 0,.int .u8 0,.int .u8 0,.int .u8 0,.int .u8 0,.int .u8 0,.int .u8 0,.int .u8 0,.int .u8 0,.int .u8 0,.int .u8 0,.int .u8 0,.int .u8 0,.int .u8 0,.int .u8 0,.int .u8 0,.int .u8 0,.int .u8 0,.int .u8 0,.int .u8 0,.int .u8 0,.int .u8 0,.int .u8 0,.int .u8 0,.int .u8 0,.int .u8 0,.int .u8 0,.int .u8 0,.int .u8 0,.int .u8 0,.int .u8 0,.int .u8 0,.int .u8 0,.int .u8 0,.int .u8 0,.int .u8 0,.int .u8 0,.int .u8 0,.int .u8 0,.int .u8 0,.int .u8 0,.int .u8 0,.int .u8 0,.int .u8 0,.int .u8 0,.int .u8 0,.int .u8 0,.int .u8 0,.int .u8 0,.int .u8 0,.int .u8 0,.int .u8 0,.int .u8 0,.int .u8 0,.int .u8 0,.int .u8 0,.int .u8 0,.int .u8 0,.int .u8 0,.int .u8 0,.int .u8 0,.int .u8 0,.int .u8 0,.int .u8 0,.int .u8 0,.int .u8 0,.int .u8 0,.int .u8 0,.int .u8 0,.int .u8 0,.int .u8 0,.int .u8 0,.int .u8 0,.int .u8 0,.int .u8 0,.int .u8 0,.int .u8 0,.int .u8 0,.int .u8 0,.int .u8 0,.int .u8 0,.int .u8 0,.int .u8 0,.int .u8 0,.int .u8 0,.int .u8 0,.int .u8 0,.int .u8 0,.int .u8 0,.int .u8 0,.int .u8 0,.int .u8 0,.int .u8 0,.int .u8 0,.int .u8 0,.int .u8 0,.int .u8 0,.int .u8 0,.int .u8 0,.int .u8 0,.int .u8 0,.int .u8 0,.int .u8 0,.int .u8 0,.int .u8 0,.int .u8 0,.int .u8 0,.int .u8 0,.int .u8 0,.int .u8 0,.int .u8 0,.int .u8 0,.int .u8 0,.int .u8 0,.int .u8 0,.int .u8 0]
def z167:List Value:=[.int .u8 0,.int .u8 0]
def z168:List Value:=[.int .u8 0,.int .u8 0]
def z169:List Value:=[.int .u8 0,.int .u8 0,.int .u8 0,.int .u8 0,.int .u8 0,.int .u8 0,.int .u8 0,.int .u8 0,.int .u8 0,.int .u8 0,.int .u8 0,.int .u8 0,.int .u8 0,.int .u8 0,.int .u8 0,.int .u8 0,.int .u8 0,.int .u8 0,.int .u8 0,.int .u8 0,.int .u8 0,.int .u8 0,.int .u8 0,.int .u8 0,.int .u8 0,.int .u8 0,.int .u8 0,.int .u8 0,.int .u8 0,.int .u8 0,.int .u8 0,.int .u8 0]
def z170:List Value:=[.pointer none]
def z171:List Value:=[.string ⟨#[]⟩]
def z172:List Value:=[.string ⟨#[]⟩]
def z173:List Value:=[.nilFunc]
def z174:List Value:=[.nilFunc]
def z175:List Value:=[.int .u8 0,.int .u8 0,.int .u8 0,.int .u8 0,.int .u8 0,.int .u8 0,.int .u8 0,.int .u8 0,.int .u8 0,.int .u8 0,.int .u8 0,.int .u8 0,.int .u8 0,.int .u8 0,.int .u8 0,.int .u8 0,.int .u8 0,.int .u8 0,.int .u8 0,.int .u8 0,.int .u8 0,.int .u8 0,.int .u8 0,.int .u8 0,.int .u8 0,.int .u8 0,.int .u8 0,.int .u8 0,.int .u8 0,.int .u8 0,.int .u8 0,.int .u8 0]
def z176:List Value:=[.int .u8 0,.int .u8 0,.int .u8 0,.int .u8 0,.int .u8 0,.int .u8 0,.int .u8 0,.int .u8 0,.int .u8 0,.int .u8 0,.int .u8 0,.int .u8 0,.int .u8 0,.int .u8 0,.int .u8 0,.int .u8 0,.int .u8 0,.int .u8 0,.int .u8 0,.int .u8 0,.int .u8 0,.int .u8 0,.int .u8 0,.int .u8 0,.int .u8 0,.int .u8 0,.int .u8 0,.int .u8 0,.int .u8 0,.int .u8 0,.int .u8 0,.int .u8 0,.int .u8 0,.int .u8 0,.int .u8 0,.int .u8 0,.int .u8 0,.int .u8 0,.int .u8 0,.int .u8 0,.int .u8 0,.int .u8 0,.int .u8 0,.int .u8 0,.int .u8 0,.int .u8 0,.int .u8 0,.int .u8 0,.int .u8 0,.int .u8 0,.int .u8 0,.int .u8 0,.int .u8 0,.int .u8 0,.int .u8 0,.int .u8 0,.int .u8 0,.int .u8 0,.int .u8 0,.int .u8 0,.int .u8 0,.int .u8 0,.int .u8 0,.int .u8 0]
def z177:List Value:=[.pointer none,.pointer none,.pointer none,.string ⟨#[]⟩]
def z178:List Value:=[.pointer none,.pointer none,.pointer none,.string ⟨#[]⟩]
def z179:List Value:=[]
def z180:List Value:=[]
def z181:List Value:=[]
def z182:List Value:=[.int .u8 0]
def z183:List Value:=[.int .u8 0]
def z184:List Value:=[.nilFunc]
def z185:List Value:=[.int .i32 0]
def z186:List Value:=[.int .i32 0]
def z187:List Value:=[.int .u64 0,.int .u64 0,.int .u32 0,.int .u8 0,.int .u8 0,.int .u8 0,.int .u8 0,.nilFunc,.pointer none,.int .i32 0,.int .i32 0]
def z188:List Value:=[.int .u64 0,.int .u64 0,.int .u32 0,.int .u8 0,.int .u8 0,.int .u8 0,.int .u8 0,.nilFunc,.pointer none,.int .i32 0,.int .i32 0]
def tab:Tab:=tM [
 (2,⟨1,8,.int .i64,z2,[]⟩),
 (3,⟨1,8,.int .i64,z3,[]⟩),
 (4,⟨1,1,.bool,z4,[]⟩),
 (5,⟨1,1,.int .u8,z5,[]⟩),
 (6,⟨1,1,.int .u8,z6,[]⟩),
 (7,⟨4,24,.struct,z7,[(0,2),(1,3),(2,4),(3,6)]⟩),
 (8,⟨4,24,.struct,z8,[(0,2),(1,3),(2,4),(3,6)]⟩),
 (9,⟨1,16,.str,z9,[]⟩),
 (10,⟨1,16,.str,z10,[]⟩),
 (11,⟨1,16,.str,z11,[]⟩),
 (12,⟨1,8,.int .u64,z12,[]⟩),
 (13,⟨2,24,.struct,z13,[(0,9),(1,12)]⟩),
 (14,⟨2,24,.struct,z14,[(0,9),(1,12)]⟩),
 (15,⟨1,8,.ptr,z15,[]⟩),
 (16,⟨1,8,.ptr,z16,[]⟩),
 (17,⟨1,8,.ptr,z17,[]⟩),
 (18,⟨1,8,.struct,z18,[(0,17)]⟩),
 (19,⟨1,8,.struct,z19,[(0,17)]⟩),
 (20,⟨1,16,.other,z20,[]⟩),
 (21,⟨1,4,.int .i32,z21,[]⟩),
 (22,⟨1,8,.other,z22,[]⟩),
 (23,⟨1,2,.int .u16,z23,[]⟩),
 (24,⟨1,24,.slice 3,z24,[]⟩),
 (25,⟨7,72,.struct,z25,[(0,3),(1,3),(2,3),(3,3),(4,23),(5,3),(6,24)]⟩),
 (26,⟨7,72,.struct,z26,[(0,3),(1,3),(2,3),(3,3),(4,23),(5,3),(6,24)]⟩),
 (28,⟨1,8,.other,z28,[]⟩),
 (29,⟨8,80,.struct,z29,[(0,3),(1,3),(2,3),(3,3),(4,24),(5,3),(6,3),(7,3)]⟩),
 (30,⟨8,80,.struct,z30,[(0,3),(1,3),(2,3),(3,3),(4,24),(5,3),(6,3),(7,3)]⟩),
 (32,⟨1,8,.other,z32,[]⟩),
 (33,⟨1,24,.slice 23,z33,[]⟩),
 (34,⟨4,40,.struct,z34,[(0,3),(1,33),(2,4),(3,4)]⟩),
 (35,⟨4,40,.struct,z35,[(0,3),(1,33),(2,4),(3,4)]⟩),
 (37,⟨1,8,.other,z37,[]⟩),
 (38,⟨1,8,.other,z38,[]⟩),
 (39,⟨1,8,.other,z39,[]⟩),
 (40,⟨1,8,.other,z40,[]⟩),
 (41,⟨1,8,.other,z41,[]⟩),
 (42,⟨1,24,.slice 55,z42,[]⟩),
 (43,⟨1,24,.struct,z43,[(0,42)]⟩),
 (44,⟨1,24,.struct,z44,[(0,42)]⟩),
 (45,⟨1,8,.other,z45,[]⟩),
 (46,⟨1,8,.int .i64,z46,[]⟩),
 (48,⟨1,8,.other,z48,[]⟩),
 (50,⟨1,8,.other,z50,[]⟩),
 (51,⟨1,8,.other,z51,[]⟩),
 (52,⟨1,8,.other,z52,[]⟩),
 (53,⟨1,24,.slice 58,z53,[]⟩),
 (54,⟨3,40,.struct,z54,[(0,3),(1,3),(2,53)]⟩),
 (55,⟨3,40,.struct,z55,[(0,3),(1,3),(2,53)]⟩),
 (56,⟨1,24,.slice 26,z56,[]⟩),
 (57,⟨14,152,.struct,z57,[(0,4),(1,35),(5,56),(6,30)]⟩),
 (58,⟨14,152,.struct,z58,[(0,4),(1,35),(5,56),(6,30)]⟩),
 (59,⟨1,24,.slice 9,z59,[]⟩),
 (60,⟨1,8,.other,z60,[]⟩),
 (61,⟨1,8,.other,z61,[]⟩),
 (62,⟨1,8,.other,z62,[]⟩),
 (63,⟨1,8,.other,z63,[]⟩),
 (64,⟨1,8,.other,z64,[]⟩),
 (66,⟨1,8,.other,z66,[]⟩),
 (67,⟨14,112,.arr 14 3,z67,[]⟩),
 (68,⟨1,8,.other,z68,[]⟩),
 (69,⟨1,8,.other,z69,[]⟩),
 (70,⟨7,56,.arr 7 3,z70,[]⟩),
 (71,⟨1,8,.other,z71,[]⟩),
 (72,⟨1,8,.other,z72,[]⟩),
 (73,⟨1,8,.other,z73,[]⟩),
 (74,⟨1,8,.ptr,z74,[]⟩),
 (75,⟨1,24,.slice 5,z75,[]⟩),
 (76,⟨2,32,.struct,z76,[(0,74),(1,75)]⟩),
 (77,⟨2,32,.struct,z77,[(0,74),(1,75)]⟩),
 (78,⟨1,8,.other,z78,[]⟩),
 (79,⟨1,8,.other,z79,[]⟩),
 (80,⟨1,8,.other,z80,[]⟩),
 (81,⟨1,8,.other,z81,[]⟩),
 (82,⟨1,8,.other,z82,[]⟩),
 (83,⟨1,8,.int .i64,z83,[]⟩),
 (84,⟨2,32,.struct,z84,[(0,42),(1,83)]⟩),
 (85,⟨2,32,.struct,z85,[(0,42),(1,83)]⟩),
 (87,⟨1,8,.other,z87,[]⟩),
 (88,⟨1,8,.other,z88,[]⟩),
 (89,⟨1,8,.other,z89,[]⟩),
 (90,⟨1,8,.other,z90,[]⟩),
 (91,⟨1,8,.other,z91,[]⟩),
 (92,⟨1,8,.ptr,z92,[]⟩),
 (93,⟨1,8,.other,z93,[]⟩),
 (94,⟨1,8,.other,z94,[]⟩),
 (95,⟨1,8,.other,z95,[]⟩),
 (96,⟨1,8,.other,z96,[]⟩),
 (97,⟨1,16,.other,z97,[]⟩),
 (98,⟨1,16,.other,z98,[]⟩),
 (100,⟨1,8,.other,z100,[]⟩),
 (101,⟨1,8,.other,z101,[]⟩),
 (102,⟨1,8,.other,z102,[]⟩),
 (103,⟨1,8,.ptr,z103,[]⟩),
 (104,⟨1,8,.ptr,z104,[]⟩),
 (105,⟨1,8,.other,z105,[]⟩),
 (106,⟨1,8,.other,z106,[]⟩),
 (107,⟨1,8,.other,z107,[]⟩),
 (108,⟨1,8,.other,z108,[]⟩),
 (109,⟨1,24,.slice 92,z109,[]⟩),
 (110,⟨1,8,.int .u64,z110,[]⟩),
 (112,⟨1,8,.other,z112,[]⟩),
 (113,⟨4,64,.struct,z113,[(0,42),(1,55)]⟩),
 (114,⟨4,64,.struct,z114,[(0,42),(1,55)]⟩),
 (115,⟨1,8,.other,z115,[]⟩),
 (116,⟨1,8,.other,z116,[]⟩),
 (118,⟨1,8,.other,z118,[]⟩),
 (119,⟨1,8,.other,z119,[]⟩),
 (120,⟨1,8,.ptr,z120,[]⟩),
 (121,⟨1,8,.other,z121,[]⟩),
 (122,⟨1,8,.other,z122,[]⟩),
 (123,⟨1,8,.other,z123,[]⟩),
 (124,⟨1,8,.other,z124,[]⟩),
 (125,⟨1,8,.other,z125,[]⟩),
 (126,⟨1,8,.other,z126,[]⟩),
 (128,⟨1,8,.other,z128,[]⟩),
 (129,⟨1,8,.other,z129,[]⟩),
 (130,⟨1,8,.other,z130,[]⟩),
 (131,⟨1,8,.other,z131,[]⟩),
 (132,⟨1,8,.int .u64,z132,[]⟩),
 (133,⟨1,8,.ptr,z133,[]⟩),
 (135,⟨1,8,.other,z135,[]⟩),
 (136,⟨1,8,.int .i64,z136,[]⟩),
 (137,⟨1,8,.other,z137,[]⟩),
 (138,⟨1,8,.ptr,z138,[]⟩),
 (139,⟨1,8,.other,z139,[]⟩),
 (140,⟨1,8,.other,z140,[]⟩),
 (141,⟨1,8,.other,z141,[]⟩),
 (142,⟨1,8,.other,z142,[]⟩),
 (143,⟨1,8,.int .i64,z143,[]⟩),
 (144,⟨1,8,.other,z144,[]⟩),
 (145,⟨1,8,.other,z145,[]⟩),
 (146,⟨1,8,.other,z146,[]⟩),
 (147,⟨1,8,.other,z147,[]⟩),
 (148,⟨24,24,.arr 24 5,z148,[]⟩),
 (149,⟨1,8,.other,z149,[]⟩),
 (150,⟨1,8,.other,z150,[]⟩),
 (152,⟨1,8,.other,z152,[]⟩),
 (153,⟨1,4,.int .u32,z153,[]⟩),
 (155,⟨1,8,.other,z155,[]⟩),
 (156,⟨1,8,.other,z156,[]⟩),
 (157,⟨3,48,.struct,z157,[(0,9),(1,9),(2,98)]⟩),
 (158,⟨3,48,.struct,z158,[(0,9),(1,9),(2,98)]⟩),
 (159,⟨1,8,.other,z159,[]⟩),
 (160,⟨1,8,.other,z160,[]⟩),
 (161,⟨1,8,.other,z161,[]⟩),
 (162,⟨20,160,.arr 20 110,z162,[]⟩),
 (163,⟨65,65,.arr 65 5,z163,[]⟩),
 (164,⟨1,8,.other,z164,[]⟩),
 (165,⟨1,8,.other,z165,[]⟩),
 (166,⟨256,256,.arr 256 5,z166,[]⟩),
 (167,⟨2,2,.struct,z167,[(0,5),(1,5)]⟩),
 (168,⟨2,2,.struct,z168,[(0,5),(1,5)]⟩),
 (169,⟨32,32,.arr 16 168,z169,[]⟩),
 (170,⟨1,8,.ptr,z170,[]⟩),
 (171,⟨1,16,.struct,z171,[(0,9)]⟩),
 (172,⟨1,16,.struct,z172,[(0,9)]⟩),
 (173,⟨1,8,.other,z173,[]⟩),
 (174,⟨1,8,.other,z174,[]⟩),
 (175,⟨32,32,.arr 32 5,z175,[]⟩),
 (176,⟨64,64,.arr 64 5,z176,[]⟩),
 (177,⟨4,40,.struct,z177,[(0,17),(1,17),(2,17),(3,9)]⟩),
 (178,⟨4,40,.struct,z178,[(0,17),(1,17),(2,17),(3,9)]⟩),
 (179,⟨0,0,.arr 0 16,z179,[]⟩),
 (180,⟨0,0,.struct,z180,[(0,179)]⟩),
 (181,⟨0,0,.struct,z181,[(0,179)]⟩),
 (182,⟨1,1,.int .u8,z182,[]⟩),
 (183,⟨1,1,.int .u8,z183,[]⟩),
 (184,⟨1,8,.other,z184,[]⟩),
 (185,⟨1,4,.int .i32,z185,[]⟩),
 (186,⟨1,4,.int .i32,z186,[]⟩),
 (187,⟨11,48,.struct,z187,[(0,12),(1,12),(2,153),(3,182),(4,5),(5,5),(6,183),(7,184),(8,103),(9,185),(10,186)]⟩),
 (188,⟨11,48,.struct,z188,[(0,12),(1,12),(2,153),(3,182),(4,5),(5,5),(6,183),(7,184),(8,103),(9,185),(10,186)]⟩)]
def pure (f:FuncId):Bool:=bN f [25,23,26,20,30,46,49]
def Gg:List (Nat × List Nat)->Nat->List Nat
 | [],_=>[]
 | (k,d) :: r,t=>bif k.beq t then d else Gg r t
def rts:FuncId->List TypeId:=Gg [(4,[4]),(5,[4]),(6,[26,4]),(8,[30,4]),(10,[35,4]),(12,[4]),(13,[4]),(14,[4]),(15,[4]),(16,[9,46]),(17,[44,46,3]),(18,[4]),(19,[59]),(20,[26]),(21,[3]),(22,[9]),(26,[30]),(27,[3]),(28,[9]),(30,[35]),(31,[9]),(33,[4]),(34,[4]),(35,[]),(36,[9]),(37,[]),(41,[46]),(42,[4]),(43,[4]),(45,[24]),(46,[24]),(49,[24]),(50,[4]),(55,[83]),(56,[4]),(57,[4]),(60,[4]),(64,[55,4]),(65,[]),(66,[120]),(72,[4]),(73,[4]),(74,[4]),(90,[4]),(91,[4]),(92,[143]),(93,[4]),(94,[4]),(95,[143]),(96,[4]),(106,[4]),(112,[3]),(38,[3]),(39,[9]),(40,[9,9,4]),(44,[59]),(48,[3]),(51,[3,98]),(52,[98]),(53,[9])]
def f4_jn:Nat->Option Ann:=cK [(10,⟨[1],[],[],[],[]⟩)]
def f14_ann:Nat->Option Ann:=cK [(4,⟨[2,3,5],[],[],[],[]⟩)]
def f15_ann:Nat->Option Ann:=cK [(5,⟨[1,3,4],[],[],[],[]⟩),(10,⟨[1,3,4,5],[],[],[],[]⟩),(17,⟨[1,3,4,5,6,7],[],[],[],[]⟩)]
def f16_ann:Nat->Option Ann:=cK [(5,⟨[4,13,14,15],[],[(4,1)],[],[]⟩),(9,⟨[4,13,14,15,27,28,29],[],[],[],[]⟩)]
def f16_jn:Nat->Option Ann:=cK [(14,⟨[4],[],[],[],[]⟩)]
def f17_ann:Nat->Option Ann:=cK [(6,⟨[2,5,6,7,8,9],[],[(5,0)],[2],[]⟩)]
def f17_jn:Nat->Option Ann:=cK [(12,⟨[2,5,6,7],[],[],[2],[]⟩),(13,⟨[2,5,6,45],[],[],[2],[]⟩)]
def f18_ann:Nat->Option Ann:=cK [(4,⟨[2,3,5],[],[],[],[]⟩)]
def f20_jn:Nat->Option Ann:=cK [(9,⟨[1,4,5,9,19],[],[],[4],[]⟩),(16,⟨[1,4,5,9,27],[],[],[4],[]⟩)]
def f26_jn:Nat->Option Ann:=cK [(5,⟨[1,4,5,8,9],[],[],[4],[]⟩)]
def f30_ann:Nat->Option Ann:=cK [(3,⟨[2,3,6,7,8],[],[(3,1)],[2],[]⟩)]
def f33_ann:Nat->Option Ann:=cK [(4,⟨[0,1,5],[],[],[],[]⟩)]
def f34_ann:Nat->Option Ann:=cK [(4,⟨[1,24,25,26],[],[],[],[]⟩)]
def f36_ann:Nat->Option Ann:=cK [(4,⟨[5,10,11,12],[],[],[],[]⟩)]
def f37_ann:Nat->Option Ann:=cK [(5,⟨[0,3,17,18,19],[],[],[],[]⟩)]
def f37_jn:Nat->Option Ann:=cK [(4,⟨[0,3],[],[],[],[]⟩),(9,⟨[0,3],[],[],[],[]⟩)]
def f43_ann:Nat->Option Ann:=cK [(4,⟨[2,3,5],[],[],[],[]⟩),(10,⟨[2,3,5,6,7,8],[],[],[],[]⟩)]
def f45_ann:Nat->Option Ann:=cK [(3,⟨[1,5,8,9,10],[5],[],[],[]⟩)]
def f49_ann:Nat->Option Ann:=cK [(3,⟨[3,9,10,11],[3],[],[],[]⟩)]
def f50_ann:Nat->Option Ann:=cK [(7,⟨[5,50,51,52],[],[],[],[]⟩)]
def f56_jn:Nat->Option Ann:=cK [(6,⟨[1,5,14],[],[],[],[]⟩),(9,⟨[1,23],[],[],[],[]⟩)]
def f57_jn:Nat->Option Ann:=cK [(6,⟨[0,7,8],[],[],[],[(8,2)]⟩),(13,⟨[0,7,9],[],[],[],[(9,2)]⟩),(18,⟨[7,10,11],[],[],[],[(10,6)]⟩)]
def f60_ann:Nat->Option Ann:=cK [(4,⟨[2,3,21,22,23],[],[],[],[]⟩)]
def f60_jn:Nat->Option Ann:=cK [(9,⟨[2,3],[],[],[],[]⟩)]
def f91_ann:Nat->Option Ann:=cK [(2,⟨[0,5,6,7],[],[],[],[]⟩)]
def f94_ann:Nat->Option Ann:=cK [(6,⟨[4,40,41,42],[],[],[],[]⟩)]
def f112_ann:Nat->Option Ann:=cK [(2,⟨[0,1,7,8],[],[],[],[]⟩)]
noncomputable def fns:FuncId->Option Func:=fun f=>bif f.beq 4 then some Tryz.f4 else bif f.beq 5 then some Tryz.f5 else bif f.beq 6 then some Tryz.f6 else bif f.beq 8 then some Tryz.f8 else bif f.beq 10 then some Tryz.f10 else bif f.beq 12 then some Tryz.f12 else bif f.beq 13 then some Tryz.f13 else bif f.beq 14 then some Tryz.f14 else bif f.beq 15 then some Tryz.f15 else bif f.beq 16 then some Tryz.f16 else bif f.beq 17 then some Tryz.f17 else bif f.beq 18 then some Tryz.f18 else bif f.beq 19 then some Tryz.f19 else bif f.beq 20 then some Tryz.f20 else bif f.beq 21 then some Tryz.f21 else bif f.beq 22 then some Tryz.f22 else bif f.beq 26 then some Tryz.f26 else bif f.beq 27 then some Tryz.f27 else bif f.beq 28 then some Tryz.f28 else bif f.beq 30 then some Tryz.f30 else bif f.beq 31 then some Tryz.f31 else bif f.beq 33 then some Tryz.f33 else bif f.beq 34 then some Tryz.f34 else bif f.beq 35 then some Tryz.f35 else bif f.beq 36 then some Tryz.f36 else bif f.beq 37 then some Tryz.f37 else bif f.beq 41 then some Tryz.f41 else bif f.beq 42 then some Tryz.f42 else bif f.beq 43 then some Tryz.f43 else bif f.beq 45 then some Tryz.f45 else bif f.beq 46 then some Tryz.f46 else bif f.beq 49 then some Tryz.f49 else bif f.beq 50 then some Tryz.f50 else bif f.beq 55 then some Tryz.f55 else bif f.beq 56 then some Tryz.f56 else bif f.beq 57 then some Tryz.f57 else bif f.beq 60 then some Tryz.f60 else bif f.beq 64 then some Tryz.f64 else bif f.beq 65 then some Tryz.f65 else bif f.beq 66 then some Tryz.f66 else bif f.beq 72 then some Tryz.f72 else bif f.beq 73 then some Tryz.f73 else bif f.beq 74 then some Tryz.f74 else bif f.beq 90 then some Tryz.f90 else bif f.beq 91 then some Tryz.f91 else bif f.beq 92 then some Tryz.f92 else bif f.beq 93 then some Tryz.f93 else bif f.beq 94 then some Tryz.f94 else bif f.beq 95 then some Tryz.f95 else bif f.beq 96 then some Tryz.f96 else bif f.beq 106 then some Tryz.f106 else bif f.beq 112 then some Tryz.f112 else none
def anns:FuncId->Nat->Option Ann:=fun f=>bif f.beq 14 then f14_ann else bif f.beq 15 then f15_ann else bif f.beq 16 then f16_ann else bif f.beq 17 then f17_ann else bif f.beq 18 then f18_ann else bif f.beq 30 then f30_ann else bif f.beq 33 then f33_ann else bif f.beq 34 then f34_ann else bif f.beq 36 then f36_ann else bif f.beq 37 then f37_ann else bif f.beq 43 then f43_ann else bif f.beq 45 then f45_ann else bif f.beq 49 then f49_ann else bif f.beq 50 then f50_ann else bif f.beq 60 then f60_ann else bif f.beq 91 then f91_ann else bif f.beq 94 then f94_ann else bif f.beq 112 then f112_ann else fun _=>none
def jns:FuncId->Nat->Option Ann:=fun f=>bif f.beq 4 then f4_jn else bif f.beq 16 then f16_jn else bif f.beq 17 then f17_jn else bif f.beq 20 then f20_jn else bif f.beq 26 then f26_jn else bif f.beq 37 then f37_jn else bif f.beq 56 then f56_jn else bif f.beq 57 then f57_jn else bif f.beq 60 then f60_jn else fun _=>none
def lent:FuncId->Option dN:=Gw [(35,⟨77,[.may,.bf 5]⟩),(37,⟨77,[.may,.bf 5]⟩),(38,⟨77,[.may,.bf 5]⟩),(39,⟨77,[.may,.bf 5]⟩),(51,⟨77,[.may,.bf 5]⟩),(52,⟨77,[.may,.bf 5]⟩),(41,⟨85,[.sl,.sc]⟩),(57,⟨85,[.sl,.sc]⟩)]
def selfT (t:TypeId):Bool:=bN t [77]
def ext:FuncId->Option (List TV->Option TV):=fun f=>bif f.beq 38 then some (D9 5) else bif f.beq 39 then some (nA 5) else bif f.beq 40 then some (BZ) else bif f.beq 44 then some (mu) else bif f.beq 48 then some (EQ) else bif f.beq 51 then some (eZ 5) else bif f.beq 52 then some (iD 5) else bif f.beq 53 then some (xK) else none
def opn (f:FuncId):Bool:=bN f [45,65,66]
def yj:List (Nat × List Nat)->Nat->Option (List Nat)
 | [],_=>none
 | (k,d) :: r,t=>bif k.beq t then some d else yj r t
def f20_kp:Nat->Option (List Nat):=yj [(5003,[4,5,6]),(9004,[4,5]),(16005,[4,5]),(18004,[4,5]),(20004,[4,5]),(22003,[4,5]),(24003,[4,5])]
def f26_kp:Nat->Option (List Nat):=yj [(5003,[4,5]),(7003,[4,5]),(9005,[4,5]),(11006,[4,5])]
def f57_kp:Nat->Option (List Nat):=yj [(9002,[7]),(13002,[7]),(17001,[7,10]),(20001,[2])]
def f64_kp:Nat->Option (List Nat):=yj [(2006,[0,2,4])]
def kps:FuncId->Nat->Option (List Nat):=fun f=>bif f.beq 20 then f20_kp else bif f.beq 26 then f26_kp else bif f.beq 57 then f57_kp else bif f.beq 64 then f64_kp else fun _=>none
def peek:FuncId->Option (Nat × Nat):=fun f=>none
def turn (f:FuncId):Bool:=bN f []
def mth:TypeId->String->Option (FuncId × Bool):=fun t s=>none
def eye (f:FuncId):Bool:=bN f []
def cold (t:TypeId):Bool:=bN t []
noncomputable def prog:AProg:=⟨tab,pure,rts,fns,anns,jns,lent,selfT,ext,opn,kps,peek,turn,mth,eye,cold⟩
end Go.Ab.Z12
end
section
namespace Go.Ab
section
variable {R:Type} {C C':FuncId->List TV->Option TV} {J J':List Nat->ASt->Option R}
theorem Prg.cU (hC:∀ f xs v,C f xs=some v->C' f xs=some v) (hJ:∀ p st r,J p st=some r->J' p st=some r):∀ {p:Prg R} {r:R},p.run C J=some r->p.run C' J'=some r
 | .fail,r,h=>by simp [Prg.run] at h
 | .ret x,r,h=>h
 | .tv p k,r,h=>by
  cases p with
  | none=>simp [Prg.run] at h
  | some v=>exact Prg.cU hC hJ (p:=k v) h
 | .tvs p k,r,h=>by
  cases p with
  | none=>simp [Prg.run] at h
  | some v=>exact Prg.cU hC hJ (p:=k v) h
 | .rws p k,r,h=>by
  cases p with
  | none=>simp [Prg.run] at h
  | some v=>exact Prg.cU hC hJ (p:=k v) h
 | .nat p k,r,h=>by
  cases p with
  | none=>simp [Prg.run] at h
  | some v=>exact Prg.cU hC hJ (p:=k v) h
 | .chk b k,r,h=>by
  cases b with
  | false=>simp [Prg.run] at h
  | true=>exact Prg.cU hC hJ (p:=k) h
 | .ite b t e, r, h => by
  cases b with
  | none=>simp [Prg.run] at h
  | some b =>
   cases b with
   | true=>exact Prg.cU hC hJ (p:=t) h
   | false=>exact Prg.cU hC hJ (p:=e) h
 | .call f xs k, r, h => by
  simp only [Prg.run] at h ⊢
  cases hc:C f xs with
  | none=>rw [hc] at h; simp at h
  | some v =>
   rw [hc] at h
   rw [hC _ _ _ hc]
   exact Prg.cU hC hJ (p:=k v) h
 | .jmp p st,r,h=>hJ _ _ _ h
end
section
variable {A:AProg} {f g:FuncId}
theorem jH {C C':FuncId->List TV->Option TV} (hC:∀ f xs v,C f xs=some v->C' f xs=some v):∀ {m m':Nat},m<=m'->∀ {p:List Nat} {st:ASt} {r:TV},iS A C f m p st=some r->iS A C' f m' p st=some r
 | 0,_,_,_,_,_,h=>by simp [iS] at h
 | m + 1,0,hle,_,_,_,_=>by omega
 | m + 1,m' + 1,hle,p,st,r,h=>by
  simp only [iS] at h ⊢
  exact Prg.cU hC (fun p st r h=>jH hC (by omega) h) h
theorem fP:∀ {n n':Nat},n<=n'->∀ {f:FuncId} {args:List TV} {r:TV},acall A n f args=some r->acall A n' f args=some r
 | 0,_,_,_,_,_,h=>by simp [acall] at h
 | n + 1,0,hle,_,_,_,_=>by omega
 | n + 1, n' + 1, hle, f, args, r, h => by
  simp only [acall] at h ⊢
  have hC:∀ f xs v,acall A n f xs=some v->acall A n' f xs=some v:=fun f xs v h=>fP (by omega) h
  split at h
  ·rename_i g hg
   exact h
  ·exact Prg.cU hC (fun p st r h=>jH hC (by omega) h) h
def aj (A:AProg) (f:FuncId) (args:List TV) (r:TV):Prop:=∃ n,acall A n f args=some r
def aa (A:AProg) (f:FuncId) (p:Prg TV) (r:TV):Prop:=∃ n,p.run (acall A n) (iS A (acall A n) f n)=some r
variable {r:TV}
theorem aa.up {p:Prg TV} {n n':Nat} (h:p.run (acall A n) (iS A (acall A n) f n)=some r) (hle:n<=n'):p.run (acall A n') (iS A (acall A n') f n')=some r :=
 Prg.cU (fun _ _ _ h=>fP hle h) (fun _ _ _ h=>jH (fun _ _ _ h=>fP hle h) hle h) h
theorem aa.ret:aa A f (.ret r) r:=⟨0,rfl⟩
theorem jS {x:TV}:aa A f (.ret x) r ↔ x=r:=⟨fun ⟨n,h⟩=>by simpa [Prg.run] using h,fun h=>h ▸ aa.ret⟩
theorem FL {p:Option TV} {k:TV->Prg TV}:aa A f (.tv p k) r ↔ ∃ v,p=some v/\aa A f (k v) r:=by
 constructor
 ·rintro ⟨n,h⟩
  cases p with
  | none=>simp [Prg.run] at h
  | some v=>exact ⟨v,rfl,n,h⟩
 ·rintro ⟨v,rfl,n,h⟩; exact ⟨n,h⟩
theorem EP {p:Option (List TV)} {k:List TV->Prg TV}:aa A f (.tvs p k) r ↔ ∃ v,p=some v/\aa A f (k v) r:=by
 constructor
 ·rintro ⟨n,h⟩
  cases p with
  | none=>simp [Prg.run] at h
  | some v=>exact ⟨v,rfl,n,h⟩
 ·rintro ⟨v,rfl,n,h⟩; exact ⟨n,h⟩
theorem Dp {p:Option (List (List TV))} {k:List (List TV)->Prg TV}:aa A f (.rws p k) r ↔ ∃ v,p=some v/\aa A f (k v) r:=by
 constructor
 ·rintro ⟨n,h⟩
  cases p with
  | none=>simp [Prg.run] at h
  | some v=>exact ⟨v,rfl,n,h⟩
 ·rintro ⟨v,rfl,n,h⟩; exact ⟨n,h⟩
theorem CP {p:Option Nat} {k:Nat->Prg TV}:aa A f (.nat p k) r ↔ ∃ v,p=some v/\aa A f (k v) r:=by
 constructor
 ·rintro ⟨n,h⟩
  cases p with
  | none=>simp [Prg.run] at h
  | some v=>exact ⟨v,rfl,n,h⟩
 ·rintro ⟨v,rfl,n,h⟩; exact ⟨n,h⟩
theorem C0 {b:Bool} {k:Prg TV}:aa A f (.chk b k) r ↔ b=true/\aa A f k r:=by
 constructor
 ·rintro ⟨n,h⟩
  cases b with
  | false=>simp [Prg.run] at h
  | true=>exact ⟨rfl,n,h⟩
 ·rintro ⟨rfl,n,h⟩; exact ⟨n,h⟩
theorem D4 {b:Option Bool} {t e:Prg TV}:aa A f (.ite b t e) r ↔ ∃ v,b=some v/\aa A f (bif v then t else e) r:=by
 constructor
 ·rintro ⟨n,h⟩
  cases b with
  | none=>simp [Prg.run] at h
  | some v=>refine ⟨v,rfl,n,?_⟩; cases v <;> exact h
 ·rintro ⟨v,rfl,n,h⟩; refine ⟨n,?_⟩; cases v <;> exact h
theorem BJ {xs:List TV} {k:TV->Prg TV}:aa A f (.call g xs k) r ↔ ∃ v,aj A g xs v/\aa A f (k v) r:=by
 constructor
 ·rintro ⟨n,h⟩
  simp only [Prg.run] at h
  cases hc:acall A n g xs with
  | none=>rw [hc] at h; simp at h
  | some v=>rw [hc] at h; exact ⟨v,⟨n,hc⟩,n,h⟩
 ·rintro ⟨v,⟨n,hc⟩,m,h⟩
  refine ⟨max n m,?_⟩
  simp only [Prg.run]
  rw [fP (Nat.le_max_left n m) hc]
  exact aa.up h (Nat.le_max_right n m)
theorem Eh {p:List Nat} {st:ASt}:aa A f (.jmp p st) r ↔ aa A f (fI A f p st) r:=by
 constructor
 ·rintro ⟨n,h⟩
  cases n with
  | zero=>simp [Prg.run,iS] at h
  | succ n =>
   refine ⟨n + 1,?_⟩
   simp only [Prg.run,iS] at h
   exact Prg.cU (fun _ _ _ h=>h) (fun _ _ _ h=>jH (fun _ _ _ h=>h) (Nat.le_succ n) h) h
 ·rintro ⟨n,h⟩
  refine ⟨n + 1,?_⟩
  simp only [Prg.run,iS]
  exact Prg.cU (fun _ _ _ h=>fP (Nat.le_succ n) h) (fun _ _ _ h=>jH (fun _ _ _ h=>fP (Nat.le_succ n) h) (Nat.le_refl n) h) h
theorem EO {args:List TV} (hx:A.ext f=none):aj A f args r ↔ aa A f (aB A f args) r:=by
 constructor
 ·rintro ⟨n,h⟩
  cases n with
  | zero=>simp [acall] at h
  | succ n=>simp only [acall,hx] at h; exact ⟨n,h⟩
 ·rintro ⟨n,h⟩; exact ⟨n + 1,by simp only [acall,hx]; exact h⟩
theorem aj.ext {args:List TV} {g:List TV->Option TV} (hx:A.ext f=some g) (h:g args=some r):aj A f args r:=⟨1,by simp only [acall,hx]; exact h⟩
theorem aa.tv {p:Option TV} {k:TV->Prg TV} {v:TV} (h:p=some v) (hk:aa A f (k v) r):aa A f (.tv p k) r:=FL.2 ⟨v,h,hk⟩
theorem aa.tvs {p:Option (List TV)} {k:List TV->Prg TV} {v:List TV} (h:p=some v) (hk:aa A f (k v) r):aa A f (.tvs p k) r:=EP.2 ⟨v,h,hk⟩
theorem aa.rws {p:Option (List (List TV))} {k:List (List TV)->Prg TV} {v:List (List TV)} (h:p=some v) (hk:aa A f (k v) r):aa A f (.rws p k) r:=Dp.2 ⟨v,h,hk⟩
theorem aa.nat {p:Option Nat} {k:Nat->Prg TV} {v:Nat} (h:p=some v) (hk:aa A f (k v) r):aa A f (.nat p k) r:=CP.2 ⟨v,h,hk⟩
theorem aa.chk {b:Bool} {k:Prg TV} (h:b=true) (hk:aa A f k r):aa A f (.chk b k) r:=C0.2 ⟨h,hk⟩
theorem aa.ite {b:Option Bool} {t e:Prg TV} {v:Bool} (h:b=some v) (ht:v=true->aa A f t r) (he:v=false->aa A f e r):aa A f (.ite b t e) r:=by
 refine D4.2 ⟨v,h,?_⟩
 cases v with
 | true=>exact ht rfl
 | false=>exact he rfl
theorem aa.call {xs:List TV} {k:TV->Prg TV} {v:TV} (h:aj A g xs v) (hk:aa A f (k v) r):aa A f (.call g xs k) r:=BJ.2 ⟨v,h,hk⟩
theorem aa.jmp {p:List Nat} {st:ASt} {q:Prg TV} (h:fI A f p st=q) (hk:aa A f q r):aa A f (.jmp p st) r:=Eh.2 (h ▸ hk)
theorem aj.of {args:List TV} {q:Prg TV} (h:aB A f args=q) (hk:aa A f q r) (hx:A.ext f=none:=by rfl):aj A f args r:=(EO hx).2 (h ▸ hk)
end
end Go.Ab
end
section
namespace Go.Ab
inductive F2 {α β:Type} (R:α->β->Prop):List α->List β->Prop
 | nil:F2 R [] []
 | cons {a b l m}:R a b->F2 R l m->F2 R (a :: l) (b :: m)
section
variable {α β γ:Type} {R S:α->β->Prop}
theorem F2.length {xs:List α} {l:List β} (h:F2 R xs l):xs.length=l.length:=by
 induction h with
 | nil=>rfl
 | cons _ _ ih=>simp [ih]
theorem F2.get {xs:List α} {l:List β} (h:F2 R xs l):∀ {i:Nat} {a:β},l[i]? = some a->∃ e,xs[i]? = some e/\R e a:=by
 induction h with
 | nil=>intro i a h; simp at h
 | cons hr _ ih =>
  intro i a h
  cases i with
  | zero=>simp at h; subst h; exact ⟨_,rfl,hr⟩
  | succ i=>simp at h; simpa using ih h
theorem F2.getL {xs:List α} {l:List β} (h:F2 R xs l):∀ {i:Nat} {e:α},xs[i]? = some e->∃ a,l[i]? = some a/\R e a:=by
 induction h with
 | nil=>intro i a h; simp at h
 | cons hr _ ih =>
  intro i a h
  cases i with
  | zero=>simp at h; subst h; exact ⟨_,rfl,hr⟩
  | succ i=>simp at h; simpa using ih h
theorem F2.mono (hm:∀ e a,R e a->S e a) {xs:List α} {l:List β} (h:F2 R xs l):F2 S xs l:=by
 induction h with
 | nil=>exact .nil
 | cons hr _ ih=>exact .cons (hm _ _ hr) ih
theorem F2.append {xs ys:List α} {l m:List β} (h:F2 R xs l) (h':F2 R ys m):F2 R (xs ++ ys) (l ++ m):=by
 induction h with
 | nil=>exact h'
 | cons hr _ ih=>exact .cons hr ih
theorem F2.take {xs:List α} {l:List β} (h:F2 R xs l):∀ n,F2 R (xs.take n) (l.take n):=by
 induction h with
 | nil=>intro n; simp; exact .nil
 | cons hr _ ih=>intro n; cases n with
  | zero=>exact .nil
  | succ n=>exact .cons hr (ih n)
theorem F2.drop {xs:List α} {l:List β} (h:F2 R xs l):∀ n,F2 R (xs.drop n) (l.drop n):=by
 induction h with
 | nil=>intro n; simp; exact .nil
 | cons hr h ih=>intro n; cases n with
  | zero=>exact .cons hr h
  | succ n=>exact ih n
theorem F2.set {xs:List α} {l:List β} (h:F2 R xs l):∀ {i:Nat} {e:α} {a:β},R e a->F2 R (ar xs i e) (l.set i a):=by
 induction h with
 | nil=>intro i e a _; exact .nil
 | cons hr h ih=>intro i e a hea; cases i with
  | zero=>exact .cons hea h
  | succ i=>exact .cons hr (ih hea)
theorem F2.mapL {f:γ->α} {Q:γ->β->Prop} {xs:List γ} {l:List β} (h:F2 Q xs l) (hf:∀ x a,Q x a->R (f x) a):F2 R (xs.map f) l:=by
 induction h with
 | nil=>exact .nil
 | cons hr _ ih=>exact .cons (hf _ _ hr) ih
end
abbrev I (n:Int):TV:=.lit (.int .i64 n)
abbrev W (n:Int):TV:=.lit (.int .u16 n)
abbrev B (b:Bool):TV:=.lit (.bool b)
def inI (n:Int):Prop:=-9223372036854775808<=n/\n<=9223372036854775807
def inW (n:Int):Prop:=0<=n/\n<=65535
def RL {α:Type} (q:Option Bool) (s:Nat) (R:List TV->α->Prop) (x:TV) (l:List α):Prop :=
 (x=.lit ah/\l=[])\/∃ o xs,x=.sl o s xs/\(∀ b,q=some b->o=b)/\F2 R xs l/\xs.length<=9223372036854775807
theorem pK:∀ ys:List (List TV),rZ ys=ys.map pG
 | []=>rfl
 | y :: ys=>by simp [rZ,pK ys]
section
variable {α:Type} {q:Option Bool} {s:Nat} {R S:List TV->α->Prop} {x:TV} {l:List α}
theorem RL.nil:RL q s R (.lit ah) []:=.inl ⟨rfl,rfl⟩
theorem RL.sl {o:Bool} {xs:List (List TV)} (hq:∀ b,q=some b->o=b) (h:F2 R xs l) (hb:xs.length<=9223372036854775807):RL q s R (.sl o s xs) l:=.inr ⟨o,xs,rfl,hq,h,hb⟩
theorem RL.bnd (h:RL q s R x l):l.length<=9223372036854775807:=by
 rcases h with ⟨rfl,rfl⟩ | ⟨o,xs,rfl,hq,h,hb⟩
 ·simp
 ·rw [<- h.length]; exact hb
theorem RL.weak (h:RL q s R x l) (hm:∀ e a,R e a->S e a):RL none s S x l:=by
 rcases h with ⟨rfl,rfl⟩ | ⟨o,xs,rfl,hq,h,hb⟩
 ·exact .nil
 ·exact .sl (by simp) (h.mono hm) hb
theorem RL.len {t:TypeId} (h:RL q s R x l):plen (.slice t) x=some (I l.length):=by
 rcases h with ⟨rfl,rfl⟩ | ⟨o,xs,rfl,hq,h,hb⟩
 ·rfl
 ·simp [plen,h.length]
theorem RL.slLen (h:RL q s R x l):Go.Ab.slLen x=some l.length:=by
 rcases h with ⟨rfl,rfl⟩ | ⟨o,xs,rfl,hq,h,hb⟩
 ·rfl
 ·simp [Go.Ab.slLen,h.length]
theorem RL.slSize (h:RL q s R x l):Go.Ab.slSize x s=true:=by
 rcases h with ⟨rfl,rfl⟩ | ⟨o,xs,rfl,hq,h,hb⟩
 ·rfl
 ·simp [Go.Ab.slSize]
theorem RL.isSl (h:RL q s R x l):x.isSl=true:=by
 rcases h with ⟨rfl,rfl⟩ | ⟨o,xs,rfl,hq,h,hb⟩ <;> rfl
theorem RL.idx (h:RL q s R x l) {k:IntKind} {i:Nat} {a:α} (hi:l[i]? = some a):∃ e,pidx s x (.lit (.int k i))=some e/\R e a:=by
 rcases h with ⟨rfl,rfl⟩ | ⟨o,xs,rfl,hq,h,hb⟩
 ·simp at hi
 ·obtain ⟨e,he,hr⟩:=h.get hi
  exact ⟨e,by simp [pidx,he],hr⟩
theorem RL.elems (h:RL q s R x l):∃ xs,pelems s x=some xs/\F2 R xs l:=by
 rcases h with ⟨rfl,rfl⟩ | ⟨o,xs,rfl,hq,h,hb⟩
 ·exact ⟨[],rfl,.nil⟩
 ·exact ⟨xs,by simp [pelems],h⟩
theorem RL.pel (h:RL q s R x l) {i:Nat} {a:α} (hi:l[i]? = some a):∃ e,Go.Ab.pel x i=some e/\R e a:=by
 rcases h with ⟨rfl,rfl⟩ | ⟨o,xs,rfl,hq,h,hb⟩
 ·simp at hi
 ·exact h.get hi
theorem RL.frz (h:RL q s R x l) (hm:∀ e a,R e a->S (pG e) a):RL (some false) s S (frz x) l:=by
 rcases h with ⟨rfl,rfl⟩ | ⟨o,xs,rfl,hq,h,hb⟩
 ·exact .nil
 ·refine .sl (by simp) ?_ ?_
  rotate_left
  ·rw [pK,List.length_map]; exact hb
  rw [pK]
  exact h.mapL hm
end
def RI1 (e:List TV) (n:Int):Prop:=e=[I n]/\inI n
def RW1 (e:List TV) (n:Int):Prop:=e=[W n]/\inW n
abbrev RInts (q:Option Bool):TV->List Int->Prop:=RL q 1 RI1
abbrev RWords (q:Option Bool):TV->List Int->Prop:=RL q 1 RW1
structure DIns where
 op:Int
 dst:Int
 a:Int
 b:Int
 k:Int
 f:Int
 args:List Int
structure DEnd where
 kind:Int
 a:Int
 dst:Int
 f:Int
 args:List Int
 to:Int
 els:Int
 pad:Int
structure DPad where
 dst:Int
 catches:List Int
 all:Bool
 cleanup:Bool
structure DBlock where
 landing:Bool
 pad:DPad
 ins:List DIns
 fin:DEnd
structure DFunc where
 params:Int
 regs:Int
 blocks:List DBlock
structure DMod where
 funcs:List DFunc
def DIns.ok (x:DIns):Prop:=inI x.op/\inI x.dst/\inI x.a/\inI x.b/\inW x.k/\inI x.f
def DEnd.ok (x:DEnd):Prop:=inI x.kind/\inI x.a/\inI x.dst/\inI x.f/\inI x.to/\inI x.els/\inI x.pad
def RIns (q:Option Bool) (e:List TV) (x:DIns):Prop:=∃ g,e=[I x.op,I x.dst,I x.a,I x.b,W x.k,I x.f,g]/\RInts q g x.args/\x.ok
def REnd (q:Option Bool) (e:List TV) (x:DEnd):Prop:=∃ g,e=[I x.kind,I x.a,I x.dst,I x.f,g,I x.to,I x.els,I x.pad]/\RInts q g x.args/\x.ok
def RPad (q:Option Bool) (e:List TV) (x:DPad):Prop:=∃ g,e=[I x.dst,g,B x.all,B x.cleanup]/\RWords q g x.catches/\inI x.dst
def RBlock (q:Option Bool) (e:List TV) (x:DBlock):Prop:=∃ c i g,e=[B x.landing,I x.pad.dst,c,B x.pad.all,B x.pad.cleanup,i,I x.fin.kind,I x.fin.a,I x.fin.dst,I x.fin.f,g,I x.fin.to,I x.fin.els,I x.fin.pad] /\
 RWords q c x.pad.catches/\inI x.pad.dst/\RL q 7 (RIns q) i x.ins/\RInts q g x.fin.args/\x.fin.ok
def RFunc (q:Option Bool) (e:List TV) (x:DFunc):Prop:=∃ b,e=[I x.params,I x.regs,b]/\RL q 14 (RBlock q) b x.blocks/\inI x.params/\inI x.regs
def RMod (q:Option Bool) (e:List TV) (x:DMod):Prop:=∃ b,e=[b]/\RL q 3 (RFunc q) b x.funcs
theorem RIns.weak {q:Option Bool} {e:List TV} {x:DIns} (h:RIns q e x):RIns none e x:=by
 obtain ⟨g,rfl,hg,ho⟩:=h
 exact ⟨g,rfl,hg.weak fun _ _ h=>h,ho⟩
theorem RI1.frz {e:List TV} {n:Int} (h:RI1 e n):RI1 (pG e) n:=by obtain ⟨rfl,h⟩:=h; exact ⟨rfl,h⟩
theorem RW1.frz {e:List TV} {n:Int} (h:RW1 e n):RW1 (pG e) n:=by obtain ⟨rfl,h⟩:=h; exact ⟨rfl,h⟩
theorem RIns.frz {q:Option Bool} {e:List TV} {x:DIns} (h:RIns q e x):RIns (some false) (pG e) x:=by
 obtain ⟨g,rfl,hg,ho⟩:=h
 exact ⟨Go.Ab.frz g,rfl,hg.frz fun _ _ h=>h.frz,ho⟩
theorem RBlock.frz {q:Option Bool} {e:List TV} {x:DBlock} (h:RBlock q e x):RBlock (some false) (pG e) x:=by
 obtain ⟨c,i,g,rfl,hc,hd,hi,hg,ho⟩:=h
 exact ⟨Go.Ab.frz c,Go.Ab.frz i,Go.Ab.frz g,rfl,hc.frz fun _ _ h=>h.frz,hd,hi.frz fun _ _ h=>h.frz,hg.frz fun _ _ h=>h.frz,ho⟩
theorem RFunc.frz {q:Option Bool} {e:List TV} {x:DFunc} (h:RFunc q e x):RFunc (some false) (pG e) x:=by
 obtain ⟨b,rfl,hb,ho⟩:=h
 exact ⟨Go.Ab.frz b,rfl,hb.frz fun _ _ h=>h.frz,ho⟩
theorem padd {a b:Int} (h:inI (a + b)):pbin (.int .i64) .add (I a) (I b)=some (I (a + b)):=by
 simp [pbin,fx,IntWalk.i64_in _ h]
theorem psub {a b:Int} (h:inI (a - b)):pbin (.int .i64) .sub (I a) (I b)=some (I (a - b)):=by
 simp [pbin,fx,IntWalk.i64_in _ h]
theorem inc {k n:Nat} (h:k < n) (hn:n<=9223372036854775807):pbin (.int .i64) .add (I (k:Int)) (I (1:Int))=some (I ((k + 1:Nat):Int)):=by
 rw [padd (by constructor <;> omega)]; rfl
open Classical in
noncomputable def tt (p:Prop):Bool:=decide p
theorem eY {p:Prop}:tt p=true ↔ p:=by simp [tt]
theorem tt_eq {b:Bool} {p:Prop} (h:b=true ↔ p):b=tt p:=by
 cases b with
 | true=>exact (eY.2 (h.1 rfl)).symm
 | false =>
  cases hp:tt p with
  | false=>rfl
  | true=>exact absurd (h.2 (eY.1 hp)) (by simp)
theorem cP {p p':Prop} (h:p ↔ p'):tt p=tt p':=by rw [propext h]
theorem q0 {p:Prop} (h:p):tt p=true:=eY.2 h
theorem sh {p:Prop} (h:¬ p):tt p=false:=by
 cases hp:tt p with
 | false=>rfl
 | true=>exact absurd (eY.1 hp) h
section
variable {A:AProg} {f:FuncId}
theorem fF {b:Bool} {p:Prop} (h:b=true ↔ p):aa A f (.ret (B b)) (B (tt p)):=by rw [<- tt_eq h]; exact aa.ret
theorem bI {p:Prop} (h:¬ p):aa A f (.ret (B false)) (B (tt p)):=fF (by simp [h])
end
def ft (k n:Nat) (P:Nat->Prop):Prop:=∀ i,k<=i->i < n->P i
theorem yh {n:Nat} {P:Nat->Prop}:ft n n P:=fun i h1 h2=>by omega
theorem ku {k n:Nat} {P:Nat->Prop} (h:k < n):ft k n P ↔ P k/\ft (k + 1) n P:=by
 constructor
 ·intro ha; exact ⟨ha k (Nat.le_refl k) h,fun i h1 h2=>ha i (by omega) h2⟩
 ·rintro ⟨hp,ha⟩ i h1 h2
  by_cases hi:i=k
  ·subst hi; exact hp
  ·exact ha i (by omega) h2
theorem fg {n:Nat} {P:Nat->Prop}:ft 0 n P ↔ ∀ i,i < n->P i:=⟨fun h i hi=>h i (Nat.zero_le i) hi,fun h i _ hi=>h i hi⟩
theorem yL {α:Type} {l m:List α} (h:l.length=m.length):l=m ↔ ft 0 l.length fun i=>l[i]? = m[i]? := by
 rw [fg]
 constructor
 ·rintro rfl i _; rfl
 ·intro ha
  apply List.ext_getElem? 
  intro i
  by_cases hi:i < l.length
  ·exact ha i hi
  ·rw [GP (by omega),GP (by omega)]
end Go.Ab
namespace Go.Ab
theorem Ay {A:AProg} {f:FuncId} {n:Nat} {P:Nat->Prop} {Q:Prop} {g:Nat->Prg TV} (hend:aa A f (g n) (B (tt Q)))
  (hstep:∀ k,k < n->∀ r,(¬ P k->r=B false)->(P k->aa A f (g (k + 1)) r)->aa A f (g k) r):∀ d k,k + d=n->aa A f (g k) (B (tt (ft k n P/\Q))):=by
 intro d
 induction d with
 | zero =>
  intro k hk
  have hk:k=n:=by omega
  subst hk
  rw [show tt (ft k k P/\Q)=tt Q from cP ⟨fun h=>h.2,fun h=>⟨yh,h⟩⟩]
  exact hend
 | succ d ih =>
  intro k hk
  have hlt:k < n:=by omega
  refine hstep k hlt _ (fun hp=>?_) (fun hp=>?_)
  ·rw [sh]
   intro h
   exact hp ((ku hlt).1 h.1).1
  ·rw [show tt (ft k n P/\Q)=tt (ft (k + 1) n P/\Q) from cP ⟨fun h=>⟨((ku hlt).1 h.1).2,h.2⟩,fun h=>⟨(ku hlt).2 ⟨hp,h.1⟩,h.2⟩⟩]
   exact ih (k + 1) (by omega)
theorem gm {A:AProg} {f:FuncId} {n:Nat} {P:Nat->Prop} {g:Nat->Prg TV} (hend:aa A f (g n) (B true))
  (hstep:∀ k,k < n->∀ r,(¬ P k->r=B false)->(P k->aa A f (g (k + 1)) r)->aa A f (g k) r):aa A f (g 0) (B (tt (∀ i,i < n->P i))):=by
 have:=Ay (Q:=True) (by rw [q0 trivial]; exact hend) hstep n 0 (by omega)
 rw [show tt (∀ i,i < n->P i)=tt (ft 0 n P/\True) from cP ⟨fun h=>⟨fg.2 h,trivial⟩,fun h=>fg.1 h.1⟩]
 exact this
theorem aE {k n:Nat} (h:k < n):asBool (.lit (.bool (decide ((k:Int) < (n:Int)))))=some true:=by simp [asBool,h]
theorem aP {n:Nat}:asBool (.lit (.bool (decide ((n:Int) < (n:Int)))))=some false:=by simp [asBool]
theorem d7 {α:Type} {l m:List α} (h:l.length=m.length):l=m ↔ ∀ i,i < l.length->l[i]? = m[i]? := by
 rw [yL h,fg]
end Go.Ab
namespace Go.Ab
theorem DF {A:AProg} {f:FuncId} {n:Nat} {P:Nat->Prop} {r:TV} {g:Nat->Prg TV} (hno:¬ (∀ i,i < n->P i)->r=B false) (hend:(∀ i,i < n->P i)->aa A f (g n) r)
  (hstep:∀ k,k < n->∀ r,(¬ P k->r=B false)->(P k->aa A f (g (k + 1)) r)->aa A f (g k) r):aa A f (g 0) r:=by
 have:∀ d k,k + d=n->(∀ i,i < k->P i)->aa A f (g k) r:=by
  intro d
  induction d with
  | zero =>
   intro k hk hp
   have hk:k=n:=by omega
   subst hk
   exact hend hp
  | succ d ih =>
   intro k hk hp
   have hlt:k < n:=by omega
   refine hstep k hlt _ (fun hq=>hno fun h=>hq (h k hlt)) (fun hq=>ih (k + 1) (by omega) fun i hi=>?_)
   by_cases h:i=k
   ·subst h; exact hq
   ·exact hp i (by omega)
 exact this n 0 (by omega) (fun i hi=>by omega)
end Go.Ab
end

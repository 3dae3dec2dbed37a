import Derived.Test.YtaokcbfenabbgaaGreatDoorJM0
import Derived.Lib.ItoaNum
import Derived.Lib.Split
import Derived.Lib.IndexMore
import Derived.Lib.ParseIntB
import Derived.Test.YtaokcbfenabbgaaGreatDoorProg
import Derived.IntWalk
set_option linter.all false
section
namespace Go.Ab
def aT:List Value:=[.int .i64 0]
def gm:List Value:=[.bool false]
def cq:List Value:=[.string ⟨#[]⟩]
def zSl:List Value:=[.slice none 0 0]
def xG:List Value:=[.int .i64 0,.int .i64 0,.int .i64 0,.int .i64 0,.int .u16 0,.int .i64 0,.slice none 0 0]
def wX:List Value:=[.int .i64 0,.int .i64 0,.int .i64 0,.int .i64 0,.slice none 0 0,.int .i64 0,.int .i64 0,.int .i64 0]
def xP:List Value:=[.int .i64 0,.slice none 0 0,.bool false,.bool false]
end Go.Ab
end
section
namespace Go.Ab
def DB:List (Nat × dn)->Nat->Option dn
 | [],_=>none
 | (k,d) :: r,t=>bif k.beq t then some d else DB r t
def jS:Nat:=140737488355328
def eA (e:Nat):List TV->Option TV
 | [.tup [x,.buf s e'],.lit (.string t)]=>bif x.bq && e'.beq e && (s.size + t.size).ble jS then some (.tup [.tup [.lit (.int .i64 t.size),.lit .nilIface],.tup [lS,.buf (s ++ t) e]]) else none
 | _=>none
def gX (e:Nat):List TV->Option TV
 | [.tup [x,.buf s e'],.lit (.int .u8 c)]=>bif x.bq && e'.beq e && (s.size + 1).ble jS && decide (0<=c/\c < 256) then some (.tup [.lit .nilIface,.tup [lS,.buf (s.push c.toNat.toUInt8) e]]) else none
 | _=>none
def mV (e:Nat):List TV->Option TV
 | [.tup [x,.buf s e']]=>bif x.bq && e'.beq e && !(s.size.beq 0) then some (.tup [.lit (.string s),.tup [lS,.buf s e]]) else none
 | _=>none
def xLen (e:Nat):List TV->Option TV
 | [.tup [x,.buf s e']]=>bif x.bq && e'.beq e then some (.tup [.lit (.int .i64 s.size),.tup [lS,.buf s e]]) else none
 | _=>none
def vz:List TV->Option TV
 | [.lit (.int .i64 n)]=>bif decide (-9223372036854775808<=n/\n<=9223372036854775807) then some (.lit (.string ⟨(Lib.itoa n).toArray⟩)) else none
 | _=>none
end Go.Ab
end
section
namespace Go.Ab
def mz (l:List ByteArray):List (List TV):=l.map fun s=>[.lit (.string s)]
def CV:List TV->Option TV
 | [.lit (.string s), .lit (.string p)] => bif Nat.blt s.size 4294967281 then
   some (.tup [.lit (.string ⟨(Lib.cut s.data.toList p.data.toList).1.toArray⟩),.lit (.string ⟨(Lib.cut s.data.toList p.data.toList).2.1.toArray⟩),.lit (.bool (Lib.cut s.data.toList p.data.toList).2.2)]) else none
 | _=>none
def kQ:List TV->Option TV
 | [.lit (.string s), .lit (.string p), .lit (.int .i64 n)] => bif Nat.blt s.size 4294967281 && (Nat.blt 0 p.size && decide (1 ≤ n ∧ n ≤ 9223372036854775807)) then
   some (.sl false 1 (mz (Lib.splitB p 0 (min n.toNat (s.size + 1) - 1) s))) else none
 | _=>none
def ss (s:ByteArray):Nat :=
 match Lib.parseUintB 16 s.data.toList with
 | .ok u=>u
 | .range=>65535
 | _=>0
def Cl:List TV->Option TV
 | [.lit (.string s)]=>bif Nat.ble s.size 281474976710656 then some (.lit (.int .i64 (ss s))) else none
 | _=>none
end Go.Ab
end
section
namespace Go.Ab.Z14
open Go.Ab Go.Proofs
def Jk:AV:=AV.one CA.junk
def Sr (i:Nat):AV:=AV.one (CA.sref i 0 [])
def Pt (i:Nat):AV:=AV.one (CA.ptr i 0)
def Tr (w:TV):Option BC:=some (BC.tree [w])
def Ct (y:TV):Option BC:=some (BC.cells [CA.t y])
def Rj (n:Nat):List AV:=List.replicate n (AV.one CA.junk)
def Rz (n:Nat):List (Option BC):=List.replicate n none
def ca:List (Nat × Ann)->Nat->Option Ann
 | [],_=>none
 | (k,d) :: r,t=>bif k.beq t then some d else ca r t
def z2:List Value:=[.int .i64 0]
def z3:List Value:=[.int .i64 0]
def z4:List Value:=[.bool false]
def z5:List Value:=[.int .u8 0]
def z6:List Value:=[.int .u8 0]
def z7:List Value:=[.int .i64 0,.int .i64 0,.bool false,.int .u8 0]
def z8:List Value:=[.int .i64 0,.int .i64 0,.bool false,.int .u8 0]
def z9:List Value:=[.string ⟨#[]⟩]
def z10:List Value:=[.string ⟨#[]⟩]
def z11:List Value:=[.string ⟨#[]⟩]
def z12:List Value:=[.int .u64 0]
def z13:List Value:=[.string ⟨#[]⟩,.int .u64 0]
def z14:List Value:=[.string ⟨#[]⟩,.int .u64 0]
def z15:List Value:=[.pointer none]
def z16:List Value:=[.pointer none]
def z17:List Value:=[.pointer none]
def z18:List Value:=[.pointer none]
def z19:List Value:=[.pointer none]
def z20:List Value:=[.nilIface]
def z21:List Value:=[.int .i32 0]
def z22:List Value:=[.nilFunc]
def z23:List Value:=[.int .u16 0]
def z24:List Value:=[.slice none 0 0]
def z25:List Value:=[.int .i64 0,.int .i64 0,.int .i64 0,.int .i64 0,.int .u16 0,.int .i64 0,.slice none 0 0]
def z26:List Value:=[.int .i64 0,.int .i64 0,.int .i64 0,.int .i64 0,.int .u16 0,.int .i64 0,.slice none 0 0]
def z28:List Value:=[.nilFunc]
def z29:List Value:=[.int .i64 0,.int .i64 0,.int .i64 0,.int .i64 0,.slice none 0 0,.int .i64 0,.int .i64 0,.int .i64 0]
def z30:List Value:=[.int .i64 0,.int .i64 0,.int .i64 0,.int .i64 0,.slice none 0 0,.int .i64 0,.int .i64 0,.int .i64 0]
def z32:List Value:=[.nilFunc]
def z33:List Value:=[.slice none 0 0]
def z34:List Value:=[.int .i64 0,.slice none 0 0,.bool false,.bool false]
def z35:List Value:=[.int .i64 0,.slice none 0 0,.bool false,.bool false]
def z37:List Value:=[.nilFunc]
def z38:List Value:=[.nilFunc]
def z39:List Value:=[.nilFunc]
def z40:List Value:=[.nilFunc]
def z41:List Value:=[.nilFunc]
def z42:List Value:=[.slice none 0 0]
def z43:List Value:=[.slice none 0 0]
def z44:List Value:=[.slice none 0 0]
def z45:List Value:=[.nilFunc]
def z46:List Value:=[.int .i64 0]
def z48:List Value:=[.nilFunc]
def z50:List Value:=[.nilFunc]
def z51:List Value:=[.nilFunc]
def z52:List Value:=[.nilFunc]
def z53:List Value:=[.slice none 0 0]
def z54:List Value:=[.int .i64 0,.int .i64 0,.slice none 0 0]
def z55:List Value:=[.int .i64 0,.int .i64 0,.slice none 0 0]
def z56:List Value:=[.slice none 0 0]
def z57:List Value:=[.bool false,.int .i64 0,.slice none 0 0,.bool false,.bool false,.slice none 0 0,.int .i64 0,.int .i64 0,.int .i64 0,.int .i64 0,.slice none 0 0,.int .i64 0,.int .i64 0,.int .i64 0]
def z58:List Value:=[.bool false,.int .i64 0,.slice none 0 0,.bool false,.bool false,.slice none 0 0,.int .i64 0,.int .i64 0,.int .i64 0,.int .i64 0,.slice none 0 0,.int .i64 0,.int .i64 0,.int .i64 0]
def z59:List Value:=[.slice none 0 0]
def z60:List Value:=[.nilFunc]
def z61:List Value:=[.nilFunc]
def z62:List Value:=[.nilFunc]
def z63:List Value:=[.nilFunc]
def z64:List Value:=[.nilFunc]
def z66:List Value:=[.nilFunc]
def z67:List Value:=[.int .i64 0,.int .i64 0,.int .i64 0,.int .i64 0,.int .i64 0,.int .i64 0,.int .i64 0,.int .i64 0,.int .i64 0,.int .i64 0,.int .i64 0,.int .i64 0,.int .i64 0,.int .i64 0]
def z68:List Value:=[.nilFunc]
def z69:List Value:=[.nilFunc]
def z70:List Value:=[.int .i64 0,.int .i64 0,.int .i64 0,.int .i64 0,.int .i64 0,.int .i64 0,.int .i64 0]
def z71:List Value:=[.nilFunc]
def z72:List Value:=[.nilFunc]
def z73:List Value:=[.nilFunc]
def z74:List Value:=[.pointer none]
def z75:List Value:=[.slice none 0 0]
def z76:List Value:=[.pointer none,.slice none 0 0]
def z77:List Value:=[.pointer none,.slice none 0 0]
def z78:List Value:=[.nilFunc]
def z79:List Value:=[.nilFunc]
def z80:List Value:=[.nilFunc]
def z81:List Value:=[.nilFunc]
def z82:List Value:=[.nilFunc]
def z83:List Value:=[.int .i64 0]
def z84:List Value:=[.slice none 0 0,.int .i64 0]
def z85:List Value:=[.slice none 0 0,.int .i64 0]
def z87:List Value:=[.nilFunc]
def z88:List Value:=[.nilFunc]
def z89:List Value:=[.nilFunc]
def z90:List Value:=[.nilFunc]
def z91:List Value:=[.nilFunc]
def z92:List Value:=[.pointer none]
def z93:List Value:=[.nilFunc]
def z94:List Value:=[.nilFunc]
def z95:List Value:=[.nilFunc]
def z96:List Value:=[.nilFunc]
def z97:List Value:=[.nilIface]
def z98:List Value:=[.nilIface]
def z100:List Value:=[.nilFunc]
def z101:List Value:=[.nilFunc]
def z102:List Value:=[.nilFunc]
def z103:List Value:=[.pointer none]
def z104:List Value:=[.pointer none]
def z105:List Value:=[.nilFunc]
def z106:List Value:=[.nilFunc]
def z107:List Value:=[.nilFunc]
def z108:List Value:=[.nilFunc]
def z109:List Value:=[.slice none 0 0]
def z110:List Value:=[.int .u64 0]
def z112:List Value:=[.nilFunc]
def z113:List Value:=[.slice none 0 0,.int .i64 0,.int .i64 0,.slice none 0 0]
def z114:List Value:=[.slice none 0 0,.int .i64 0,.int .i64 0,.slice none 0 0]
def z115:List Value:=[.nilFunc]
def z116:List Value:=[.nilFunc]
def z118:List Value:=[.nilFunc]
def z119:List Value:=[.nilFunc]
def z120:List Value:=[.pointer none]
def z121:List Value:=[.nilFunc]
def z122:List Value:=[.nilFunc]
def z123:List Value:=[.nilFunc]
def z124:List Value:=[.nilFunc]
def z125:List Value:=[.nilFunc]
def z126:List Value:=[.nilFunc]
def z128:List Value:=[.nilFunc]
def z129:List Value:=[.nilFunc]
def z130:List Value:=[.nilFunc]
def z131:List Value:=[.nilFunc]
def z132:List Value:=[.int .u64 0]
def z133:List Value:=[.pointer none]
def z135:List Value:=[.nilFunc]
def z136:List Value:=[.int .i64 0]
def z137:List Value:=[.nilFunc]
def z138:List Value:=[.pointer none]
def z139:List Value:=[.nilFunc]
def z140:List Value:=[.nilFunc]
def z141:List Value:=[.nilFunc]
def z142:List Value:=[.nilFunc]
def z143:List Value:=[.int .i64 0]
def z144:List Value:=[.nilFunc]
def z145:List Value:=[.nilFunc]
def z146:List Value:=[.nilFunc]
def z147:List Value:=[.nilFunc]
def z148:List Value:=[.int .u8 0,.int .u8 0,.int .u8 0,.int .u8 0,.int .u8 0,.int .u8 0,.int .u8 0,.int .u8 0,.int .u8 0,.int .u8 0,.int .u8 0,.int .u8 0,.int .u8 0,.int .u8 0,.int .u8 0,.int .u8 0,.int .u8 0,.int .u8 0,.int .u8 0,.int .u8 0,.int .u8 0,.int .u8 0,.int .u8 0,.int .u8 0]
def z149:List Value:=[.nilFunc]
def z150:List Value:=[.nilFunc]
def z152:List Value:=[.nilFunc]
def z153:List Value:=[.int .u32 0]
def z155:List Value:=[.nilFunc]
def z156:List Value:=[.nilFunc]
def z157:List Value:=[.string ⟨#[]⟩,.string ⟨#[]⟩,.nilIface]
def z158:List Value:=[.string ⟨#[]⟩,.string ⟨#[]⟩,.nilIface]
def z159:List Value:=[.nilFunc]
def z160:List Value:=[.nilFunc]
def z161:List Value:=[.nilFunc]
def z162:List Value:=[.int .u64 0,.int .u64 0,.int .u64 0,.int .u64 0,.int .u64 0,.int .u64 0,.int .u64 0,.int .u64 0,.int .u64 0,.int .u64 0,.int .u64 0,.int .u64 0,.int .u64 0,.int .u64 0,.int .u64 0,.int .u64 0,.int .u64 0,.int .u64 0,.int .u64 0,.int .u64 0]
def z163:List Value:=[.int .u8 0,.int .u8 0,.int .u8 0,.int .u8 0,.int .u8 0,.int .u8 0,.int .u8 0,.int .u8 0,.int .u8 0,.int .u8 0,.int .u8 0,.int .u8 0,.int .u8 0,.int .u8 0,.int .u8 0,.int .u8 0,.int .u8 0,.int .u8 0,.int .u8 0,.int .u8 0,.int .u8 0,.int .u8 0,.int .u8 0,.int .u8 0,.int .u8 0,.int .u8 0,.int .u8 0,.int .u8 0,.int .u8 0,.int .u8 0,.int .u8 0,.int .u8 0,.int .u8 0,.int .u8 0,.int .u8 0,.int .u8 0,.int .u8 0,.int .u8 0,.int .u8 0,.int .u8 0,.int .u8 0,.int .u8 0,.int .u8 0,.int .u8 0,.int .u8 0,.int .u8 0,.int .u8 0,.int .u8 0,.int .u8 0,.int .u8 0,.int .u8 0,.int .u8 0,.int .u8 0,.int .u8 0,.int .u8 0,.int .u8 0,.int .u8 0,.int .u8 0,.int .u8 0,.int .u8 0,.int .u8 0,.int .u8 0,.int .u8 0,.int .u8 0,.int .u8 0]
def z164:List Value:=[.nilFunc]
def z165:List Value:=[.nilFunc]
def z166:List Value:=[.int .u8 0,.int .u8 0,.int .u8 0,.int .u8 0,.int .u8 0,.int .u8 0,.int .u8 0,.int .u8 0,.int .u8 0,.int .u8 0,.int .u8 0,.int .u8 0,.int .u8 0,.int .u8 0,.int .u8 0,.int .u8 0,.int .u8 0,.int .u8 0,.int .u8 0,.int .u8 0,.int .u8 0,.int .u8 0,.int .u8 0,.int .u8 0,.int .u8 0,.int .u8 0,.int .u8 0,.int .u8 0,.int .u8 0,.int .u8 0,.int .u8 0,.int .u8 0,.int .u8 0,.int .u8 0,.int .u8 0,.int .u8 0,.int .u8 0,.int .u8 0,.int .u8 0,.int .u8 0,.int .u8 0,.int .u8 0,.int .u8 0,.int .u8 0,.int .u8 0,.int .u8 0,.int .u8 0,.int .u8 0,.int .u8 0,.int .u8 0,.int .u8 0,.int .u8 0,.int .u8 0,.int .u8 0,.int .u8 0,.int .u8 0,.int .u8 0,.int .u8 0,.int .u8 0,.int .u8 0,.int .u8 0,.int .u8 0,.int .u8 0,.int .u8 0,.int .u8 0,.int .u8 0,.int .u8 0,.int .u8 0,.int .u8 0,.int .u8 0,.int .u8 0,.int .u8 0,.int .u8 0,.int .u8 0,.int .u8 0,.int .u8 0,.int .u8 0,.int .u8 0,.int .u8 0,.int .u8 0,.int .u8 0,.int .u8 0,.int .u8 0,.int .u8 0,.int .u8 0,.int .u8 0,.int .u8 0,.int .u8 0,.int .u8 0,.int .u8 0,.int .u8 0,.int .u8 0,.int .u8 0,.int .u8 0,.int .u8 0,.int .u8 0,.int .u8 0,.int .u8 0,.int .u8 0,.int .u8 0,.int .u8 0,.int .u8 0,.int .u8 0,.int .u8 0,.int .u8 0,.int .u8 0,.int .u8 0,.int .u8 0,.int .u8 0,.int .u8 0,.int .u8 0,.int .u8 0,.int .u8 0,.int .u8 0,.int .u8 0,.int .u8 0,.int .u8 0,.int .u8 0,.int .u8 0,.int .u8 0,.int .u8 0,.int .u8 0,.int .u8 0,.int .u8 0,.int .u8 0,.int .u8 0,.int .u8 0,.int .u8 0,.int .u8 0,.int .u8 0,.int .u8 0,.int .u8 0,.int .u8 0,.int .u8 0,.int .u8 0,.int .u8 0,.int .u8 0,.int .u8 0,.int .u8 0,.int .u8 0,.int .u8 0,.int .u8 0,.int .u8 0,.int .u8 0,.int .u8 0,.int .u8 0,.int .u8 0,.int .u8 0,.int .u8 0,.int .u8 0,.int .u8 0,.int .u8 0,.int .u8 0,.int .u8 0,.int .u8 0,.int .u8 0,.int .u8 0,.int .u8 0,.int .u8 0,.int .u8 0,.int .u8 0,.int .u8 0,.int .u8 0,.int .u8 0,.int .u8 0,.int .u8 0,.int .u8 0,.int .u8 0,.int .u8 0,.int .u8 0,.int .u8 0,.int .u8 0,.int .u8 0,.int .u8 0,.int .u8 0,.int .u8 0,.int .u8 0,.int .u8 0,.int .u8 0,.int .u8 0,.int .u8 0,.int .u8 0,.int .u8 0,.int .u8 0,.int .u8 0,.int .u8 0,.int .u8 0,.int .u8 0,.int .u8 0,.int .u8 0,.int .u8 0,.int .u8 0,.int .u8 0,.int .u8 0,.int .u8 0,.int .u8 0,.int .u8 0,.int .u8 0,.int .u8 0,.int .u8 0,.int .u8 0,.int .u8 0,.int .u8 0,.int .u8 0,.int .u8 0,.int .u8 0,.int .u8 0,.int .u8 0,.int .u8 0,.int .u8 0,.int .u8 0,.int .u8 0,.int .u8 0,.int .u8 0,.int .u8 0,.int .u8 0,.int .u8 0,.int .u8 0,.int .u8 0,.int .u8 0,.int .u8 0,.int .u8 0,.int .u8 0,.int .u8 0,.int .u8 0,.int .u8 0,.int .u8 0,.int .u8 0,.int .u8 0,.int .u8 0,.int .u8 0,.int .u8 0,.int .u8 0,.int .u8 0,.int .u8 0,.int .u8 0,.int .u8 0,.int .u8 0,.int .u8 0,.int .u8 0,.int .u8 0,.int .u8 0,.int .u8 0,.int .u8 0,.int .u8 0,.int .u8 0,.int .u8 0,.int .u8 0,.int .u8 0,.int .u8 0,.int .u8 0,.int .u8 0,.int .u8 0,.int .u8 0,.int .u8 0,.int .u8 0]
def z167:List Value:=[.int .u8 0,.int .u8 0]
def z168:List Value:=[.int .u8 0,.int .u8 0]
def z169:List Value:=[.int .u8 0,.int .u8 0,.int .u8 0,.int .u8 0,.int .u8 0,.int .u8 0,.int .u8 0,.int .u8 0,.int .u8 0,.int .u8 0,.int .u8 0,.int .u8 0,.int .u8 0,.int .u8 0,.int .u8 0,.int .u8 0,.int .u8 0,.int .u8 0,.int .u8 0,.int .u8 0,.int .u8 0,.int .u8 0,.int .u8 0,.int .u8 0,.int .u8 0,.int .u8 0,.int .u8 0,.int .u8 0,.int .u8 0,.int .u8 0,.int .u8 0,.int .u8 0]
def z170:List Value:=[.pointer none]
def z171:List Value:=[.string ⟨#[]⟩]
def z172:List Value:=[.string ⟨#[]⟩]
def z173:List Value:=[.nilFunc]
def z174:List Value:=[.nilFunc]
def z175:List Value:=[.int .u8 0,.int .u8 0,.int .u8 0,.int .u8 0,.int .u8 0,.int .u8 0,.int .u8 0,.int .u8 0,.int .u8 0,.int .u8 0,.int .u8 0,.int .u8 0,.int .u8 0,.int .u8 0,.int .u8 0,.int .u8 0,.int .u8 0,.int .u8 0,.int .u8 0,.int .u8 0,.int .u8 0,.int .u8 0,.int .u8 0,.int .u8 0,.int .u8 0,.int .u8 0,.int .u8 0,.int .u8 0,.int .u8 0,.int .u8 0,.int .u8 0,.int .u8 0]
def z176:List Value:=[.int .u8 0,.int .u8 0,.int .u8 0,.int .u8 0,.int .u8 0,.int .u8 0,.int .u8 0,.int .u8 0,.int .u8 0,.int .u8 0,.int .u8 0,.int .u8 0,.int .u8 0,.int .u8 0,.int .u8 0,.int .u8 0,.int .u8 0,.int .u8 0,.int .u8 0,.int .u8 0,.int .u8 0,.int .u8 0,.int .u8 0,.int .u8 0,.int .u8 0,.int .u8 0,.int .u8 0,.int .u8 0,.int .u8 0,.int .u8 0,.int .u8 0,.int .u8 0,.int .u8 0,.int .u8 0,.int .u8 0,.int .u8 0,.int .u8 0,.int .u8 0,.int .u8 0,.int .u8 0,.int .u8 0,.int .u8 0,.int .u8 0,.int .u8 0,.int .u8 0,.int .u8 0,.int .u8 0,.int .u8 0,.int .u8 0,.int .u8 0,.int .u8 0,.int .u8 0,.int .u8 0,.int .u8 0,.int .u8 0,.int .u8 0,.int .u8 0,.int .u8 0,.int .u8 0,.int .u8 0,.int .u8 0,.int .u8 0,.int .u8 0,.int .u8 0]
def z177:List Value:=[.pointer none,.pointer none,.pointer none,.string ⟨#[]⟩]
def z178:List Value:=[.pointer none,.pointer none,.pointer none,.string ⟨#[]⟩]
def z179:List Value:=[]
def z180:List Value:=[]
def z181:List Value:=[]
def z182:List Value:=[.int .u8 0]
def z183:List Value:=[.int .u8 0]
def z184:List Value:=[.nilFunc]
def z185:List Value:=[.int .i32 0]
def z186:List Value:=[.int .i32 0]
def z187:List Value:=[.int .u64 0,.int .u64 0,.int .u32 0,.int .u8 0,.int .u8 0,.int .u8 0,.int .u8 0,.nilFunc,.pointer none,.int .i32 0,.int .i32 0]
def z188:List Value:=[.int .u64 0,.int .u64 0,.int .u32 0,.int .u8 0,.int .u8 0,.int .u8 0,.int .u8 0,.nilFunc,.pointer none,.int .i32 0,.int .i32 0]
def tab:Tab:=qm [
 (2,⟨1,8,.int .i64,z2,[]⟩),
 (3,⟨1,8,.int .i64,z3,[]⟩),
 (4,⟨1,1,.bool,z4,[]⟩),
 (5,⟨1,1,.int .u8,z5,[]⟩),
 (6,⟨1,1,.int .u8,z6,[]⟩),
 (7,⟨4,24,.struct,z7,[(0,2),(1,3),(2,4),(3,6)]⟩),
 (8,⟨4,24,.struct,z8,[(0,2),(1,3),(2,4),(3,6)]⟩),
 (9,⟨1,16,.str,z9,[]⟩),
 (10,⟨1,16,.str,z10,[]⟩),
 (11,⟨1,16,.str,z11,[]⟩),
 (12,⟨1,8,.int .u64,z12,[]⟩),
 (13,⟨2,24,.struct,z13,[(0,9),(1,12)]⟩),
 (14,⟨2,24,.struct,z14,[(0,9),(1,12)]⟩),
 (15,⟨1,8,.ptr,z15,[]⟩),
 (16,⟨1,8,.ptr,z16,[]⟩),
 (17,⟨1,8,.ptr,z17,[]⟩),
 (18,⟨1,8,.struct,z18,[(0,17)]⟩),
 (19,⟨1,8,.struct,z19,[(0,17)]⟩),
 (20,⟨1,16,.other,z20,[]⟩),
 (21,⟨1,4,.int .i32,z21,[]⟩),
 (22,⟨1,8,.other,z22,[]⟩),
 (23,⟨1,2,.int .u16,z23,[]⟩),
 (24,⟨1,24,.slice 3,z24,[]⟩),
 (25,⟨7,72,.struct,z25,[(0,3),(1,3),(2,3),(3,3),(4,23),(5,3),(6,24)]⟩),
 (26,⟨7,72,.struct,z26,[(0,3),(1,3),(2,3),(3,3),(4,23),(5,3),(6,24)]⟩),
 (28,⟨1,8,.other,z28,[]⟩),
 (29,⟨8,80,.struct,z29,[(0,3),(1,3),(2,3),(3,3),(4,24),(5,3),(6,3),(7,3)]⟩),
 (30,⟨8,80,.struct,z30,[(0,3),(1,3),(2,3),(3,3),(4,24),(5,3),(6,3),(7,3)]⟩),
 (32,⟨1,8,.other,z32,[]⟩),
 (33,⟨1,24,.slice 23,z33,[]⟩),
 (34,⟨4,40,.struct,z34,[(0,3),(1,33),(2,4),(3,4)]⟩),
 (35,⟨4,40,.struct,z35,[(0,3),(1,33),(2,4),(3,4)]⟩),
 (37,⟨1,8,.other,z37,[]⟩),
 (38,⟨1,8,.other,z38,[]⟩),
 (39,⟨1,8,.other,z39,[]⟩),
 (40,⟨1,8,.other,z40,[]⟩),
 (41,⟨1,8,.other,z41,[]⟩),
 (42,⟨1,24,.slice 55,z42,[]⟩),
 (43,⟨1,24,.struct,z43,[(0,42)]⟩),
 (44,⟨1,24,.struct,z44,[(0,42)]⟩),
 (45,⟨1,8,.other,z45,[]⟩),
 (46,⟨1,8,.int .i64,z46,[]⟩),
 (48,⟨1,8,.other,z48,[]⟩),
 (50,⟨1,8,.other,z50,[]⟩),
 (51,⟨1,8,.other,z51,[]⟩),
 (52,⟨1,8,.other,z52,[]⟩),
 (53,⟨1,24,.slice 58,z53,[]⟩),
 (54,⟨3,40,.struct,z54,[(0,3),(1,3),(2,53)]⟩),
 (55,⟨3,40,.struct,z55,[(0,3),(1,3),(2,53)]⟩),
 (56,⟨1,24,.slice 26,z56,[]⟩),
 (57,⟨14,152,.struct,z57,[(0,4),(1,35),(5,56),(6,30)]⟩),
 (58,⟨14,152,.struct,z58,[(0,4),(1,35),(5,56),(6,30)]⟩),
 (59,⟨1,24,.slice 9,z59,[]⟩),
 (60,⟨1,8,.other,z60,[]⟩),
 (61,⟨1,8,.other,z61,[]⟩),
 (62,⟨1,8,.other,z62,[]⟩),
 (63,⟨1,8,.other,z63,[]⟩),
 (64,⟨1,8,.other,z64,[]⟩),
 (66,⟨1,8,.other,z66,[]⟩),
 (67,⟨14,112,.arr 14 3,z67,[]⟩),
 (68,⟨1,8,.other,z68,[]⟩),
 (69,⟨1,8,.other,z69,[]⟩),
 (70,⟨7,56,.arr 7 3,z70,[]⟩),
 (71,⟨1,8,.other,z71,[]⟩),
 (72,⟨1,8,.other,z72,[]⟩),
 (73,⟨1,8,.other,z73,[]⟩),
 (74,⟨1,8,.ptr,z74,[]⟩),
 (75,⟨1,24,.slice 5,z75,[]⟩),
 (76,⟨2,32,.struct,z76,[(0,74),(1,75)]⟩),
 (77,⟨2,32,.struct,z77,[(0,74),(1,75)]⟩),
 (78,⟨1,8,.other,z78,[]⟩),
 (79,⟨1,8,.other,z79,[]⟩),
 (80,⟨1,8,.other,z80,[]⟩),
 (81,⟨1,8,.other,z81,[]⟩),
 (82,⟨1,8,.other,z82,[]⟩),
 (83,⟨1,8,.int .i64,z83,[]⟩),
 (84,⟨2,32,.struct,z84,[(0,42),(1,83)]⟩),
 (85,⟨2,32,.struct,z85,[(0,42),(1,83)]⟩),
 (87,⟨1,8,.other,z87,[]⟩),
 (88,⟨1,8,.other,z88,[]⟩),
 (89,⟨1,8,.other,z89,[]⟩),
 (90,⟨1,8,.other,z90,[]⟩),
 (91,⟨1,8,.other,z91,[]⟩),
 (92,⟨1,8,.ptr,z92,[]⟩),
 (93,⟨1,8,.other,z93,[]⟩),
 (94,⟨1,8,.other,z94,[]⟩),
 (95,⟨1,8,.other,z95,[]⟩),
 (96,⟨1,8,.other,z96,[]⟩),
 (97,⟨1,16,.other,z97,[]⟩),
 (98,⟨1,16,.other,z98,[]⟩),
 (100,⟨1,8,.other,z100,[]⟩),
 (101,⟨1,8,.other,z101,[]⟩),
 (102,⟨1,8,.other,z102,[]⟩),
 (103,⟨1,8,.ptr,z103,[]⟩),
 (104,⟨1,8,.ptr,z104,[]⟩),
 (105,⟨1,8,.other,z105,[]⟩),
 (106,⟨1,8,.other,z106,[]⟩),
 (107,⟨1,8,.other,z107,[]⟩),
 (108,⟨1,8,.other,z108,[]⟩),
 (109,⟨1,24,.slice 92,z109,[]⟩),
 (110,⟨1,8,.int .u64,z110,[]⟩),
 (112,⟨1,8,.other,z112,[]⟩),
 (113,⟨4,64,.struct,z113,[(0,42),(1,55)]⟩),
 (114,⟨4,64,.struct,z114,[(0,42),(1,55)]⟩),
 (115,⟨1,8,.other,z115,[]⟩),
 (116,⟨1,8,.other,z116,[]⟩),
 (118,⟨1,8,.other,z118,[]⟩),
 (119,⟨1,8,.other,z119,[]⟩),
 (120,⟨1,8,.ptr,z120,[]⟩),
 (121,⟨1,8,.other,z121,[]⟩),
 (122,⟨1,8,.other,z122,[]⟩),
 (123,⟨1,8,.other,z123,[]⟩),
 (124,⟨1,8,.other,z124,[]⟩),
 (125,⟨1,8,.other,z125,[]⟩),
 (126,⟨1,8,.other,z126,[]⟩),
 (128,⟨1,8,.other,z128,[]⟩),
 (129,⟨1,8,.other,z129,[]⟩),
 (130,⟨1,8,.other,z130,[]⟩),
 (131,⟨1,8,.other,z131,[]⟩),
 (132,⟨1,8,.int .u64,z132,[]⟩),
 (133,⟨1,8,.ptr,z133,[]⟩),
 (135,⟨1,8,.other,z135,[]⟩),
 (136,⟨1,8,.int .i64,z136,[]⟩),
 (137,⟨1,8,.other,z137,[]⟩),
 (138,⟨1,8,.ptr,z138,[]⟩),
 (139,⟨1,8,.other,z139,[]⟩),
 (140,⟨1,8,.other,z140,[]⟩),
 (141,⟨1,8,.other,z141,[]⟩),
 (142,⟨1,8,.other,z142,[]⟩),
 (143,⟨1,8,.int .i64,z143,[]⟩),
 (144,⟨1,8,.other,z144,[]⟩),
 (145,⟨1,8,.other,z145,[]⟩),
 (146,⟨1,8,.other,z146,[]⟩),
 (147,⟨1,8,.other,z147,[]⟩),
 (148,⟨24,24,.arr 24 5,z148,[]⟩),
 (149,⟨1,8,.other,z149,[]⟩),
 (150,⟨1,8,.other,z150,[]⟩),
 (152,⟨1,8,.other,z152,[]⟩),
 (153,⟨1,4,.int .u32,z153,[]⟩),
 (155,⟨1,8,.other,z155,[]⟩),
 (156,⟨1,8,.other,z156,[]⟩),
 (157,⟨3,48,.struct,z157,[(0,9),(1,9),(2,98)]⟩),
 (158,⟨3,48,.struct,z158,[(0,9),(1,9),(2,98)]⟩),
 (159,⟨1,8,.other,z159,[]⟩),
 (160,⟨1,8,.other,z160,[]⟩),
 (161,⟨1,8,.other,z161,[]⟩),
 (162,⟨20,160,.arr 20 110,z162,[]⟩),
 (163,⟨65,65,.arr 65 5,z163,[]⟩),
 (164,⟨1,8,.other,z164,[]⟩),
 (165,⟨1,8,.other,z165,[]⟩),
 (166,⟨256,256,.arr 256 5,z166,[]⟩),
 (167,⟨2,2,.struct,z167,[(0,5),(1,5)]⟩),
 (168,⟨2,2,.struct,z168,[(0,5),(1,5)]⟩),
 (169,⟨32,32,.arr 16 168,z169,[]⟩),
 (170,⟨1,8,.ptr,z170,[]⟩),
 (171,⟨1,16,.struct,z171,[(0,9)]⟩),
 (172,⟨1,16,.struct,z172,[(0,9)]⟩),
 (173,⟨1,8,.other,z173,[]⟩),
 (174,⟨1,8,.other,z174,[]⟩),
 (175,⟨32,32,.arr 32 5,z175,[]⟩),
 (176,⟨64,64,.arr 64 5,z176,[]⟩),
 (177,⟨4,40,.struct,z177,[(0,17),(1,17),(2,17),(3,9)]⟩),
 (178,⟨4,40,.struct,z178,[(0,17),(1,17),(2,17),(3,9)]⟩),
 (179,⟨0,0,.arr 0 16,z179,[]⟩),
 (180,⟨0,0,.struct,z180,[(0,179)]⟩),
 (181,⟨0,0,.struct,z181,[(0,179)]⟩),
 (182,⟨1,1,.int .u8,z182,[]⟩),
 (183,⟨1,1,.int .u8,z183,[]⟩),
 (184,⟨1,8,.other,z184,[]⟩),
 (185,⟨1,4,.int .i32,z185,[]⟩),
 (186,⟨1,4,.int .i32,z186,[]⟩),
 (187,⟨11,48,.struct,z187,[(0,12),(1,12),(2,153),(3,182),(4,5),(5,5),(6,183),(7,184),(8,103),(9,185),(10,186)]⟩),
 (188,⟨11,48,.struct,z188,[(0,12),(1,12),(2,153),(3,182),(4,5),(5,5),(6,183),(7,184),(8,103),(9,185),(10,186)]⟩)]
def pure (f:FuncId):Bool:=bD f [25,23,26,20,30,46,49]
def DH:List (Nat × List Nat)->Nat->List Nat
 | [],_=>[]
 | (k,d) :: r,t=>bif k.beq t then d else DH r t
def rts:FuncId->List TypeId:=DH [(3,[4]),(5,[4]),(6,[26,4]),(7,[26,4]),(8,[30,4]),(9,[30,4]),(10,[35,4]),(11,[35,4]),(12,[4]),(13,[4]),(14,[4]),(17,[44,46,3]),(19,[59]),(20,[26]),(21,[3]),(22,[9]),(23,[59]),(24,[3]),(25,[24,4]),(26,[30]),(27,[3]),(28,[9]),(29,[3]),(30,[35]),(31,[9]),(32,[3]),(33,[4]),(34,[4]),(36,[9]),(41,[46]),(42,[4]),(45,[24]),(46,[24]),(47,[3]),(49,[24]),(50,[4]),(55,[83]),(56,[4]),(57,[4]),(60,[4]),(64,[55,4]),(65,[]),(66,[120]),(72,[4]),(73,[4]),(74,[4]),(90,[4]),(91,[4]),(92,[143]),(93,[4]),(94,[4]),(95,[143]),(96,[4]),(106,[4]),(112,[3]),(39,[9]),(40,[9,9,4]),(44,[59]),(48,[3]),(51,[3,98]),(52,[98]),(53,[9])]
def f7_jn:Nat->Option Ann:=ca [(7,⟨[2,5,6],[],[],[2],[]⟩),(17,⟨[2,6,9,57,81],[],[],[2],[]⟩)]
def f9_jn:Nat->Option Ann:=ca [(7,⟨[2,5,6],[],[],[2],[]⟩),(11,⟨[2,6,9,57,58],[],[],[2],[]⟩)]
def f11_ann:Nat->Option Ann:=ca [(8,⟨[2,4,5,6],[4],[(5,1)],[2],[]⟩)]
def f11_jn:Nat->Option Ann:=ca [(7,⟨[2,4,5,6,41],[4],[],[2],[]⟩),(11,⟨[2,4,5,6],[4],[],[2],[]⟩),(13,⟨[2,4,5,6],[4],[(5,1)],[2],[]⟩),(16,⟨[2,4,5,6],[4],[],[2],[]⟩),(19,⟨[2,4,5,6],[4],[],[2],[]⟩)]
def f14_ann:Nat->Option Ann:=ca [(4,⟨[2,3,5],[],[],[],[]⟩)]
def f17_ann:Nat->Option Ann:=ca [(6,⟨[2,5,6,7,8,9],[],[(5,0)],[2],[]⟩)]
def f17_jn:Nat->Option Ann:=ca [(12,⟨[2,5,6,7],[],[],[2],[]⟩),(13,⟨[2,5,6,45],[],[],[2],[]⟩)]
def f20_jn:Nat->Option Ann:=ca [(9,⟨[1,4,5,9,19],[],[],[4],[]⟩),(16,⟨[1,4,5,9,27],[],[],[4],[]⟩)]
def f23_ann:Nat->Option Ann:=ca [(4,⟨[0,1,5,6,7],[5],[],[],[]⟩)]
def f23_jn:Nat->Option Ann:=ca [(7,⟨[0,1,5,6,7,24],[5],[],[],[]⟩)]
def f25_ann:Nat->Option Ann:=ca [(3,⟨[0,6,7],[6],[],[],[]⟩)]
def f26_jn:Nat->Option Ann:=ca [(5,⟨[1,4,5,8,9],[],[],[4],[]⟩)]
def f30_ann:Nat->Option Ann:=ca [(3,⟨[2,3,6,7,8],[],[(3,1)],[2],[]⟩)]
def f32_ann:Nat->Option Ann:=ca [(5,⟨[0,3,4],[],[],[],[]⟩)]
def f32_jn:Nat->Option Ann:=ca [(5,⟨[0,3,4],[],[],[],[]⟩),(10,⟨[3],[],[],[],[]⟩)]
def f33_ann:Nat->Option Ann:=ca [(4,⟨[0,1,5],[],[],[],[]⟩)]
def f34_ann:Nat->Option Ann:=ca [(4,⟨[1,24,25,26],[],[],[],[]⟩)]
def f36_ann:Nat->Option Ann:=ca [(4,⟨[5,10,11,12],[],[],[],[]⟩)]
def f45_ann:Nat->Option Ann:=ca [(3,⟨[1,5,8,9,10],[5],[],[],[]⟩)]
def f47_ann:Nat->Option Ann:=ca [(2,⟨[0,1,5],[],[],[],[]⟩)]
def f49_ann:Nat->Option Ann:=ca [(3,⟨[3,9,10,11],[3],[],[],[]⟩)]
def f50_ann:Nat->Option Ann:=ca [(7,⟨[5,50,51,52],[],[],[],[]⟩)]
def f56_jn:Nat->Option Ann:=ca [(6,⟨[1,5,14],[],[],[],[]⟩),(9,⟨[1,23],[],[],[],[]⟩)]
def f57_jn:Nat->Option Ann:=ca [(6,⟨[0,7,8],[],[],[],[(8,2)]⟩),(13,⟨[0,7,9],[],[],[],[(9,2)]⟩),(18,⟨[7,10,11],[],[],[],[(10,6)]⟩)]
def f60_ann:Nat->Option Ann:=ca [(4,⟨[2,3,21,22,23],[],[],[],[]⟩)]
def f60_jn:Nat->Option Ann:=ca [(9,⟨[2,3],[],[],[],[]⟩)]
def f91_ann:Nat->Option Ann:=ca [(2,⟨[0,5,6,7],[],[],[],[]⟩)]
def f94_ann:Nat->Option Ann:=ca [(6,⟨[4,40,41,42],[],[],[],[]⟩)]
def f112_ann:Nat->Option Ann:=ca [(2,⟨[0,1,7,8],[],[],[],[]⟩)]
noncomputable def fns:FuncId->Option Func:=fun f=>bif f.beq 3 then some Tryz.f3 else bif f.beq 5 then some Tryz.f5 else bif f.beq 6 then some Tryz.f6 else bif f.beq 7 then some Tryz.f7 else bif f.beq 8 then some Tryz.f8 else bif f.beq 9 then some Tryz.f9 else bif f.beq 10 then some Tryz.f10 else bif f.beq 11 then some Tryz.f11 else bif f.beq 12 then some Tryz.f12 else bif f.beq 13 then some Tryz.f13 else bif f.beq 14 then some Tryz.f14 else bif f.beq 17 then some Tryz.f17 else bif f.beq 19 then some Tryz.f19 else bif f.beq 20 then some Tryz.f20 else bif f.beq 21 then some Tryz.f21 else bif f.beq 22 then some Tryz.f22 else bif f.beq 23 then some Tryz.f23 else bif f.beq 24 then some Tryz.f24 else bif f.beq 25 then some Tryz.f25 else bif f.beq 26 then some Tryz.f26 else bif f.beq 27 then some Tryz.f27 else bif f.beq 28 then some Tryz.f28 else bif f.beq 29 then some Tryz.f29 else bif f.beq 30 then some Tryz.f30 else bif f.beq 31 then some Tryz.f31 else bif f.beq 32 then some Tryz.f32 else bif f.beq 33 then some Tryz.f33 else bif f.beq 34 then some Tryz.f34 else bif f.beq 36 then some Tryz.f36 else bif f.beq 41 then some Tryz.f41 else bif f.beq 42 then some Tryz.f42 else bif f.beq 45 then some Tryz.f45 else bif f.beq 46 then some Tryz.f46 else bif f.beq 47 then some Tryz.f47 else bif f.beq 49 then some Tryz.f49 else bif f.beq 50 then some Tryz.f50 else bif f.beq 55 then some Tryz.f55 else bif f.beq 56 then some Tryz.f56 else bif f.beq 57 then some Tryz.f57 else bif f.beq 60 then some Tryz.f60 else bif f.beq 64 then some Tryz.f64 else bif f.beq 65 then some Tryz.f65 else bif f.beq 66 then some Tryz.f66 else bif f.beq 72 then some Tryz.f72 else bif f.beq 73 then some Tryz.f73 else bif f.beq 74 then some Tryz.f74 else bif f.beq 90 then some Tryz.f90 else bif f.beq 91 then some Tryz.f91 else bif f.beq 92 then some Tryz.f92 else bif f.beq 93 then some Tryz.f93 else bif f.beq 94 then some Tryz.f94 else bif f.beq 95 then some Tryz.f95 else bif f.beq 96 then some Tryz.f96 else bif f.beq 106 then some Tryz.f106 else bif f.beq 112 then some Tryz.f112 else none
def anns:FuncId->Nat->Option Ann:=fun f=>bif f.beq 11 then f11_ann else bif f.beq 14 then f14_ann else bif f.beq 17 then f17_ann else bif f.beq 23 then f23_ann else bif f.beq 25 then f25_ann else bif f.beq 30 then f30_ann else bif f.beq 32 then f32_ann else bif f.beq 33 then f33_ann else bif f.beq 34 then f34_ann else bif f.beq 36 then f36_ann else bif f.beq 45 then f45_ann else bif f.beq 47 then f47_ann else bif f.beq 49 then f49_ann else bif f.beq 50 then f50_ann else bif f.beq 60 then f60_ann else bif f.beq 91 then f91_ann else bif f.beq 94 then f94_ann else bif f.beq 112 then f112_ann else fun _=>none
def jns:FuncId->Nat->Option Ann:=fun f=>bif f.beq 7 then f7_jn else bif f.beq 9 then f9_jn else bif f.beq 11 then f11_jn else bif f.beq 17 then f17_jn else bif f.beq 20 then f20_jn else bif f.beq 23 then f23_jn else bif f.beq 26 then f26_jn else bif f.beq 32 then f32_jn else bif f.beq 56 then f56_jn else bif f.beq 57 then f57_jn else bif f.beq 60 then f60_jn else fun _=>none
def lent:FuncId->Option dn:=DB [(38,⟨77,[.may,.bf 5]⟩),(39,⟨77,[.may,.bf 5]⟩),(51,⟨77,[.may,.bf 5]⟩),(52,⟨77,[.may,.bf 5]⟩),(41,⟨85,[.sl,.sc]⟩),(57,⟨85,[.sl,.sc]⟩)]
def selfT (t:TypeId):Bool:=bD t [77]
def ext:FuncId->Option (List TV->Option TV):=fun f=>bif f.beq 38 then some (xLen 5) else bif f.beq 39 then some (mV 5) else bif f.beq 40 then some (CV) else bif f.beq 44 then some (kQ) else bif f.beq 48 then some (Cl) else bif f.beq 51 then some (eA 5) else bif f.beq 52 then some (gX 5) else bif f.beq 53 then some (vz) else none
def opn (f:FuncId):Bool:=bD f [45,65,66]
def vm:List (Nat × List Nat)->Nat->Option (List Nat)
 | [],_=>none
 | (k,d) :: r,t=>bif k.beq t then some d else vm r t
def f20_kp:Nat->Option (List Nat):=vm [(5003,[4,5,6]),(9004,[4,5]),(16005,[4,5]),(18004,[4,5]),(20004,[4,5]),(22003,[4,5]),(24003,[4,5])]
def f26_kp:Nat->Option (List Nat):=vm [(5003,[4,5]),(7003,[4,5]),(9005,[4,5]),(11006,[4,5])]
def f57_kp:Nat->Option (List Nat):=vm [(9002,[7]),(13002,[7]),(17001,[7,10]),(20001,[2])]
def f64_kp:Nat->Option (List Nat):=vm [(2006,[0,2,4])]
def kps:FuncId->Nat->Option (List Nat):=fun f=>bif f.beq 20 then f20_kp else bif f.beq 26 then f26_kp else bif f.beq 57 then f57_kp else bif f.beq 64 then f64_kp else fun _=>none
def peek:FuncId->Option (Nat × Nat):=fun f=>none
def turn (f:FuncId):Bool:=bD f []
def mth:TypeId->String->Option (FuncId × Bool):=fun t s=>none
def eye (f:FuncId):Bool:=bD f []
def cold (t:TypeId):Bool:=bD t []
noncomputable def prog:AProg:=⟨tab,pure,rts,fns,anns,jns,lent,selfT,ext,opn,kps,peek,turn,mth,eye,cold⟩
end Go.Ab.Z14
end
section
namespace Go.Ab
section
variable {R:Type} {C C':FuncId->List TV->Option TV} {J J':List Nat->ASt->Option R}
theorem Prg.cC (hC:∀ f xs v,C f xs=some v->C' f xs=some v) (hJ:∀ p st r,J p st=some r->J' p st=some r):∀ {p:Prg R} {r:R},p.run C J=some r->p.run C' J'=some r
 | .fail,r,h=>by simp [Prg.run] at h
 | .ret x,r,h=>h
 | .tv p k,r,h=>by
  cases p with
  | none=>simp [Prg.run] at h
  | some v=>exact Prg.cC hC hJ (p:=k v) h
 | .tvs p k,r,h=>by
  cases p with
  | none=>simp [Prg.run] at h
  | some v=>exact Prg.cC hC hJ (p:=k v) h
 | .rws p k,r,h=>by
  cases p with
  | none=>simp [Prg.run] at h
  | some v=>exact Prg.cC hC hJ (p:=k v) h
 | .nat p k,r,h=>by
  cases p with
  | none=>simp [Prg.run] at h
  | some v=>exact Prg.cC hC hJ (p:=k v) h
 | .chk b k,r,h=>by
  cases b with
  | false=>simp [Prg.run] at h
  | true=>exact Prg.cC hC hJ (p:=k) h
 | .ite b t e, r, h => by
  cases b with
  | none=>simp [Prg.run] at h
  | some b =>
   cases b with
   | true=>exact Prg.cC hC hJ (p:=t) h
   | false=>exact Prg.cC hC hJ (p:=e) h
 | .call f xs k, r, h => by
  simp only [Prg.run] at h ⊢
  cases hc:C f xs with
  | none=>rw [hc] at h; simp at h
  | some v =>
   rw [hc] at h
   rw [hC _ _ _ hc]
   exact Prg.cC hC hJ (p:=k v) h
 | .jmp p st,r,h=>hJ _ _ _ h
end
section
variable {A:AProg} {f g:FuncId}
theorem i6 {C C':FuncId->List TV->Option TV} (hC:∀ f xs v,C f xs=some v->C' f xs=some v):∀ {m m':Nat},m<=m'->∀ {p:List Nat} {st:ASt} {r:TV},g9 A C f m p st=some r->g9 A C' f m' p st=some r
 | 0,_,_,_,_,_,h=>by simp [g9] at h
 | m + 1,0,hle,_,_,_,_=>by omega
 | m + 1,m' + 1,hle,p,st,r,h=>by
  simp only [g9] at h ⊢
  exact Prg.cC hC (fun p st r h=>i6 hC (by omega) h) h
theorem eP:∀ {n n':Nat},n<=n'->∀ {f:FuncId} {args:List TV} {r:TV},acall A n f args=some r->acall A n' f args=some r
 | 0,_,_,_,_,_,h=>by simp [acall] at h
 | n + 1,0,hle,_,_,_,_=>by omega
 | n + 1, n' + 1, hle, f, args, r, h => by
  simp only [acall] at h ⊢
  have hC:∀ f xs v,acall A n f xs=some v->acall A n' f xs=some v:=fun f xs v h=>eP (by omega) h
  split at h
  ·rename_i g hg
   exact h
  ·exact Prg.cC hC (fun p st r h=>i6 hC (by omega) h) h
def aw (A:AProg) (f:FuncId) (args:List TV) (r:TV):Prop:=∃ n,acall A n f args=some r
def aa (A:AProg) (f:FuncId) (p:Prg TV) (r:TV):Prop:=∃ n,p.run (acall A n) (g9 A (acall A n) f n)=some r
variable {r:TV}
theorem aa.up {p:Prg TV} {n n':Nat} (h:p.run (acall A n) (g9 A (acall A n) f n)=some r) (hle:n<=n'):p.run (acall A n') (g9 A (acall A n') f n')=some r :=
 Prg.cC (fun _ _ _ h=>eP hle h) (fun _ _ _ h=>i6 (fun _ _ _ h=>eP hle h) hle h) h
theorem aa.ret:aa A f (.ret r) r:=⟨0,rfl⟩
theorem qA {x:TV}:aa A f (.ret x) r ↔ x=r:=⟨fun ⟨n,h⟩=>by simpa [Prg.run] using h,fun h=>h ▸ aa.ret⟩
theorem CU {p:Option TV} {k:TV->Prg TV}:aa A f (.tv p k) r ↔ ∃ v,p=some v/\aa A f (k v) r:=by
 constructor
 ·rintro ⟨n,h⟩
  cases p with
  | none=>simp [Prg.run] at h
  | some v=>exact ⟨v,rfl,n,h⟩
 ·rintro ⟨v,rfl,n,h⟩; exact ⟨n,h⟩
theorem Bn {p:Option (List TV)} {k:List TV->Prg TV}:aa A f (.tvs p k) r ↔ ∃ v,p=some v/\aa A f (k v) r:=by
 constructor
 ·rintro ⟨n,h⟩
  cases p with
  | none=>simp [Prg.run] at h
  | some v=>exact ⟨v,rfl,n,h⟩
 ·rintro ⟨v,rfl,n,h⟩; exact ⟨n,h⟩
theorem BR {p:Option (List (List TV))} {k:List (List TV)->Prg TV}:aa A f (.rws p k) r ↔ ∃ v,p=some v/\aa A f (k v) r:=by
 constructor
 ·rintro ⟨n,h⟩
  cases p with
  | none=>simp [Prg.run] at h
  | some v=>exact ⟨v,rfl,n,h⟩
 ·rintro ⟨v,rfl,n,h⟩; exact ⟨n,h⟩
theorem BB {p:Option Nat} {k:Nat->Prg TV}:aa A f (.nat p k) r ↔ ∃ v,p=some v/\aa A f (k v) r:=by
 constructor
 ·rintro ⟨n,h⟩
  cases p with
  | none=>simp [Prg.run] at h
  | some v=>exact ⟨v,rfl,n,h⟩
 ·rintro ⟨v,rfl,n,h⟩; exact ⟨n,h⟩
theorem Cq {b:Bool} {k:Prg TV}:aa A f (.chk b k) r ↔ b=true/\aa A f k r:=by
 constructor
 ·rintro ⟨n,h⟩
  cases b with
  | false=>simp [Prg.run] at h
  | true=>exact ⟨rfl,n,h⟩
 ·rintro ⟨rfl,n,h⟩; exact ⟨n,h⟩
theorem Bx {b:Option Bool} {t e:Prg TV}:aa A f (.ite b t e) r ↔ ∃ v,b=some v/\aa A f (bif v then t else e) r:=by
 constructor
 ·rintro ⟨n,h⟩
  cases b with
  | none=>simp [Prg.run] at h
  | some v=>refine ⟨v,rfl,n,?_⟩; cases v <;> exact h
 ·rintro ⟨v,rfl,n,h⟩; refine ⟨n,?_⟩; cases v <;> exact h
theorem Ac {xs:List TV} {k:TV->Prg TV}:aa A f (.call g xs k) r ↔ ∃ v,aw A g xs v/\aa A f (k v) r:=by
 constructor
 ·rintro ⟨n,h⟩
  simp only [Prg.run] at h
  cases hc:acall A n g xs with
  | none=>rw [hc] at h; simp at h
  | some v=>rw [hc] at h; exact ⟨v,⟨n,hc⟩,n,h⟩
 ·rintro ⟨v,⟨n,hc⟩,m,h⟩
  refine ⟨max n m,?_⟩
  simp only [Prg.run]
  rw [eP (Nat.le_max_left n m) hc]
  exact aa.up h (Nat.le_max_right n m)
theorem BE {p:List Nat} {st:ASt}:aa A f (.jmp p st) r ↔ aa A f (eR A f p st) r:=by
 constructor
 ·rintro ⟨n,h⟩
  cases n with
  | zero=>simp [Prg.run,g9] at h
  | succ n =>
   refine ⟨n + 1,?_⟩
   simp only [Prg.run,g9] at h
   exact Prg.cC (fun _ _ _ h=>h) (fun _ _ _ h=>i6 (fun _ _ _ h=>h) (Nat.le_succ n) h) h
 ·rintro ⟨n,h⟩
  refine ⟨n + 1,?_⟩
  simp only [Prg.run,g9]
  exact Prg.cC (fun _ _ _ h=>eP (Nat.le_succ n) h) (fun _ _ _ h=>i6 (fun _ _ _ h=>eP (Nat.le_succ n) h) (Nat.le_refl n) h) h
theorem AP {args:List TV} (hx:A.ext f=none):aw A f args r ↔ aa A f (aY A f args) r:=by
 constructor
 ·rintro ⟨n,h⟩
  cases n with
  | zero=>simp [acall] at h
  | succ n=>simp only [acall,hx] at h; exact ⟨n,h⟩
 ·rintro ⟨n,h⟩; exact ⟨n + 1,by simp only [acall,hx]; exact h⟩
theorem aw.ext {args:List TV} {g:List TV->Option TV} (hx:A.ext f=some g) (h:g args=some r):aw A f args r:=⟨1,by simp only [acall,hx]; exact h⟩
theorem aa.tv {p:Option TV} {k:TV->Prg TV} {v:TV} (h:p=some v) (hk:aa A f (k v) r):aa A f (.tv p k) r:=CU.2 ⟨v,h,hk⟩
theorem aa.tvs {p:Option (List TV)} {k:List TV->Prg TV} {v:List TV} (h:p=some v) (hk:aa A f (k v) r):aa A f (.tvs p k) r:=Bn.2 ⟨v,h,hk⟩
theorem aa.rws {p:Option (List (List TV))} {k:List (List TV)->Prg TV} {v:List (List TV)} (h:p=some v) (hk:aa A f (k v) r):aa A f (.rws p k) r:=BR.2 ⟨v,h,hk⟩
theorem aa.nat {p:Option Nat} {k:Nat->Prg TV} {v:Nat} (h:p=some v) (hk:aa A f (k v) r):aa A f (.nat p k) r:=BB.2 ⟨v,h,hk⟩
theorem aa.chk {b:Bool} {k:Prg TV} (h:b=true) (hk:aa A f k r):aa A f (.chk b k) r:=Cq.2 ⟨h,hk⟩
theorem aa.ite {b:Option Bool} {t e:Prg TV} {v:Bool} (h:b=some v) (ht:v=true->aa A f t r) (he:v=false->aa A f e r):aa A f (.ite b t e) r:=by
 refine Bx.2 ⟨v,h,?_⟩
 cases v with
 | true=>exact ht rfl
 | false=>exact he rfl
theorem aa.call {xs:List TV} {k:TV->Prg TV} {v:TV} (h:aw A g xs v) (hk:aa A f (k v) r):aa A f (.call g xs k) r:=Ac.2 ⟨v,h,hk⟩
theorem aa.jmp {p:List Nat} {st:ASt} {q:Prg TV} (h:eR A f p st=q) (hk:aa A f q r):aa A f (.jmp p st) r:=BE.2 (h ▸ hk)
theorem aw.of {args:List TV} {q:Prg TV} (h:aY A f args=q) (hk:aa A f q r) (hx:A.ext f=none:=by rfl):aw A f args r:=(AP hx).2 (h ▸ hk)
end
end Go.Ab
end
section
namespace Go.Ab
inductive F2 {α β:Type} (R:α->β->Prop):List α->List β->Prop
 | nil:F2 R [] []
 | cons {a b l m}:R a b->F2 R l m->F2 R (a :: l) (b :: m)
section
variable {α β γ:Type} {R S:α->β->Prop}
theorem F2.length {xs:List α} {l:List β} (h:F2 R xs l):xs.length=l.length:=by
 induction h with
 | nil=>rfl
 | cons _ _ ih=>simp [ih]
theorem F2.get {xs:List α} {l:List β} (h:F2 R xs l):∀ {i:Nat} {a:β},l[i]? = some a->∃ e,xs[i]? = some e/\R e a:=by
 induction h with
 | nil=>intro i a h; simp at h
 | cons hr _ ih =>
  intro i a h
  cases i with
  | zero=>simp at h; subst h; exact ⟨_,rfl,hr⟩
  | succ i=>simp at h; simpa using ih h
theorem F2.getL {xs:List α} {l:List β} (h:F2 R xs l):∀ {i:Nat} {e:α},xs[i]? = some e->∃ a,l[i]? = some a/\R e a:=by
 induction h with
 | nil=>intro i a h; simp at h
 | cons hr _ ih =>
  intro i a h
  cases i with
  | zero=>simp at h; subst h; exact ⟨_,rfl,hr⟩
  | succ i=>simp at h; simpa using ih h
theorem F2.mono (hm:∀ e a,R e a->S e a) {xs:List α} {l:List β} (h:F2 R xs l):F2 S xs l:=by
 induction h with
 | nil=>exact .nil
 | cons hr _ ih=>exact .cons (hm _ _ hr) ih
theorem F2.append {xs ys:List α} {l m:List β} (h:F2 R xs l) (h':F2 R ys m):F2 R (xs ++ ys) (l ++ m):=by
 induction h with
 | nil=>exact h'
 | cons hr _ ih=>exact .cons hr ih
theorem F2.take {xs:List α} {l:List β} (h:F2 R xs l):∀ n,F2 R (xs.take n) (l.take n):=by
 induction h with
 | nil=>intro n; simp; exact .nil
 | cons hr _ ih=>intro n; cases n with
  | zero=>exact .nil
  | succ n=>exact .cons hr (ih n)
theorem F2.drop {xs:List α} {l:List β} (h:F2 R xs l):∀ n,F2 R (xs.drop n) (l.drop n):=by
 induction h with
 | nil=>intro n; simp; exact .nil
 | cons hr h ih=>intro n; cases n with
  | zero=>exact .cons hr h
  | succ n=>exact ih n
theorem F2.set {xs:List α} {l:List β} (h:F2 R xs l):∀ {i:Nat} {e:α} {a:β},R e a->F2 R (au xs i e) (l.set i a):=by
 induction h with
 | nil=>intro i e a _; exact .nil
 | cons hr h ih=>intro i e a hea; cases i with
  | zero=>exact .cons hea h
  | succ i=>exact .cons hr (ih hea)
theorem F2.mapL {f:γ->α} {Q:γ->β->Prop} {xs:List γ} {l:List β} (h:F2 Q xs l) (hf:∀ x a,Q x a->R (f x) a):F2 R (xs.map f) l:=by
 induction h with
 | nil=>exact .nil
 | cons hr _ ih=>exact .cons (hf _ _ hr) ih
end
abbrev I (n:Int):TV:=.lit (.int .i64 n)
abbrev W (n:Int):TV:=.lit (.int .u16 n)
abbrev B (b:Bool):TV:=.lit (.bool b)
def inI (n:Int):Prop:=-9223372036854775808<=n/\n<=9223372036854775807
def inW (n:Int):Prop:=0<=n/\n<=65535
def RL {α:Type} (q:Option Bool) (s:Nat) (R:List TV->α->Prop) (x:TV) (l:List α):Prop :=
 (x=.lit af/\l=[])\/∃ o xs,x=.sl o s xs/\(∀ b,q=some b->o=b)/\F2 R xs l/\xs.length<=9223372036854775807
theorem ot:∀ ys:List (List TV),qQ ys=ys.map uh
 | []=>rfl
 | y :: ys=>by simp [qQ,ot ys]
section
variable {α:Type} {q:Option Bool} {s:Nat} {R S:List TV->α->Prop} {x:TV} {l:List α}
theorem RL.nil:RL q s R (.lit af) []:=.inl ⟨rfl,rfl⟩
theorem RL.sl {o:Bool} {xs:List (List TV)} (hq:∀ b,q=some b->o=b) (h:F2 R xs l) (hb:xs.length<=9223372036854775807):RL q s R (.sl o s xs) l:=.inr ⟨o,xs,rfl,hq,h,hb⟩
theorem RL.bnd (h:RL q s R x l):l.length<=9223372036854775807:=by
 rcases h with ⟨rfl,rfl⟩ | ⟨o,xs,rfl,hq,h,hb⟩
 ·simp
 ·rw [<- h.length]; exact hb
theorem RL.weak (h:RL q s R x l) (hm:∀ e a,R e a->S e a):RL none s S x l:=by
 rcases h with ⟨rfl,rfl⟩ | ⟨o,xs,rfl,hq,h,hb⟩
 ·exact .nil
 ·exact .sl (by simp) (h.mono hm) hb
theorem RL.len {t:TypeId} (h:RL q s R x l):plen (.slice t) x=some (I l.length):=by
 rcases h with ⟨rfl,rfl⟩ | ⟨o,xs,rfl,hq,h,hb⟩
 ·rfl
 ·simp [plen,h.length]
theorem RL.slLen (h:RL q s R x l):Go.Ab.slLen x=some l.length:=by
 rcases h with ⟨rfl,rfl⟩ | ⟨o,xs,rfl,hq,h,hb⟩
 ·rfl
 ·simp [Go.Ab.slLen,h.length]
theorem RL.slSize (h:RL q s R x l):Go.Ab.slSize x s=true:=by
 rcases h with ⟨rfl,rfl⟩ | ⟨o,xs,rfl,hq,h,hb⟩
 ·rfl
 ·simp [Go.Ab.slSize]
theorem RL.isSl (h:RL q s R x l):x.isSl=true:=by
 rcases h with ⟨rfl,rfl⟩ | ⟨o,xs,rfl,hq,h,hb⟩ <;> rfl
theorem RL.idx (h:RL q s R x l) {k:IntKind} {i:Nat} {a:α} (hi:l[i]? = some a):∃ e,pidx s x (.lit (.int k i))=some e/\R e a:=by
 rcases h with ⟨rfl,rfl⟩ | ⟨o,xs,rfl,hq,h,hb⟩
 ·simp at hi
 ·obtain ⟨e,he,hr⟩:=h.get hi
  exact ⟨e,by simp [pidx,he],hr⟩
theorem RL.elems (h:RL q s R x l):∃ xs,pelems s x=some xs/\F2 R xs l:=by
 rcases h with ⟨rfl,rfl⟩ | ⟨o,xs,rfl,hq,h,hb⟩
 ·exact ⟨[],rfl,.nil⟩
 ·exact ⟨xs,by simp [pelems],h⟩
theorem RL.pel (h:RL q s R x l) {i:Nat} {a:α} (hi:l[i]? = some a):∃ e,Go.Ab.pel x i=some e/\R e a:=by
 rcases h with ⟨rfl,rfl⟩ | ⟨o,xs,rfl,hq,h,hb⟩
 ·simp at hi
 ·exact h.get hi
theorem RL.frz (h:RL q s R x l) (hm:∀ e a,R e a->S (uh e) a):RL (some false) s S (frz x) l:=by
 rcases h with ⟨rfl,rfl⟩ | ⟨o,xs,rfl,hq,h,hb⟩
 ·exact .nil
 ·refine .sl (by simp) ?_ ?_
  rotate_left
  ·rw [ot,List.length_map]; exact hb
  rw [ot]
  exact h.mapL hm
end
def RI1 (e:List TV) (n:Int):Prop:=e=[I n]/\inI n
def RW1 (e:List TV) (n:Int):Prop:=e=[W n]/\inW n
abbrev RInts (q:Option Bool):TV->List Int->Prop:=RL q 1 RI1
abbrev RWords (q:Option Bool):TV->List Int->Prop:=RL q 1 RW1
structure DIns where
 op:Int
 dst:Int
 a:Int
 b:Int
 k:Int
 f:Int
 args:List Int
structure DEnd where
 kind:Int
 a:Int
 dst:Int
 f:Int
 args:List Int
 to:Int
 els:Int
 pad:Int
structure DPad where
 dst:Int
 catches:List Int
 all:Bool
 cleanup:Bool
structure DBlock where
 landing:Bool
 pad:DPad
 ins:List DIns
 fin:DEnd
structure DFunc where
 params:Int
 regs:Int
 blocks:List DBlock
structure DMod where
 funcs:List DFunc
def DIns.ok (x:DIns):Prop:=inI x.op/\inI x.dst/\inI x.a/\inI x.b/\inW x.k/\inI x.f
def DEnd.ok (x:DEnd):Prop:=inI x.kind/\inI x.a/\inI x.dst/\inI x.f/\inI x.to/\inI x.els/\inI x.pad
def RIns (q:Option Bool) (e:List TV) (x:DIns):Prop:=∃ g,e=[I x.op,I x.dst,I x.a,I x.b,W x.k,I x.f,g]/\RInts q g x.args/\x.ok
def REnd (q:Option Bool) (e:List TV) (x:DEnd):Prop:=∃ g,e=[I x.kind,I x.a,I x.dst,I x.f,g,I x.to,I x.els,I x.pad]/\RInts q g x.args/\x.ok
def RPad (q:Option Bool) (e:List TV) (x:DPad):Prop:=∃ g,e=[I x.dst,g,B x.all,B x.cleanup]/\RWords q g x.catches/\inI x.dst
theorem RI1.frz {e:List TV} {n:Int} (h:RI1 e n):RI1 (uh e) n:=by obtain ⟨rfl,h⟩:=h; exact ⟨rfl,h⟩
theorem padd {a b:Int} (h:inI (a + b)):pbin (.int .i64) .add (I a) (I b)=some (I (a + b)):=by
 simp [pbin,fV,IntWalk.i64_in _ h]
theorem inc {k n:Nat} (h:k < n) (hn:n<=9223372036854775807):pbin (.int .i64) .add (I (k:Int)) (I (1:Int))=some (I ((k + 1:Nat):Int)):=by
 rw [padd (by constructor <;> omega)]; rfl
open Classical in
noncomputable def tt (p:Prop):Bool:=decide p
theorem u1 {p:Prop}:tt p=true ↔ p:=by simp [tt]
theorem tt_eq {b:Bool} {p:Prop} (h:b=true ↔ p):b=tt p:=by
 cases b with
 | true=>exact (u1.2 (h.1 rfl)).symm
 | false =>
  cases hp:tt p with
  | false=>rfl
  | true=>exact absurd (h.2 (u1.1 hp)) (by simp)
theorem kq {p p':Prop} (h:p ↔ p'):tt p=tt p':=by rw [propext h]
theorem yR {p:Prop} (h:p):tt p=true:=u1.2 h
theorem A9 {p:Prop} (h:¬ p):tt p=false:=by
 cases hp:tt p with
 | false=>rfl
 | true=>exact absurd (u1.1 hp) h
section
variable {A:AProg} {f:FuncId}
theorem xL {b:Bool} {p:Prop} (h:b=true ↔ p):aa A f (.ret (B b)) (B (tt p)):=by rw [<- tt_eq h]; exact aa.ret
theorem lH {p:Prop} (h:¬ p):aa A f (.ret (B false)) (B (tt p)):=xL (by simp [h])
end
def fd (k n:Nat) (P:Nat->Prop):Prop:=∀ i,k<=i->i < n->P i
theorem vQ {n:Nat} {P:Nat->Prop}:fd n n P:=fun i h1 h2=>by omega
theorem jw {k n:Nat} {P:Nat->Prop} (h:k < n):fd k n P ↔ P k/\fd (k + 1) n P:=by
 constructor
 ·intro ha; exact ⟨ha k (Nat.le_refl k) h,fun i h1 h2=>ha i (by omega) h2⟩
 ·rintro ⟨hp,ha⟩ i h1 h2
  by_cases hi:i=k
  ·subst hi; exact hp
  ·exact ha i (by omega) h2
theorem gw {n:Nat} {P:Nat->Prop}:fd 0 n P ↔ ∀ i,i < n->P i:=⟨fun h i hi=>h i (Nat.zero_le i) hi,fun h i _ hi=>h i hi⟩
theorem wD {α:Type} {l m:List α} (h:l.length=m.length):l=m ↔ fd 0 l.length fun i=>l[i]? = m[i]? := by
 rw [gw]
 constructor
 ·rintro rfl i _; rfl
 ·intro ha
  apply List.ext_getElem? 
  intro i
  by_cases hi:i < l.length
  ·exact ha i hi
  ·rw [D5 (by omega),D5 (by omega)]
end Go.Ab
namespace Go.Ab
theorem CJ {A:AProg} {f:FuncId} {n:Nat} {P:Nat->Prop} {Q:Prop} {g:Nat->Prg TV} (hend:aa A f (g n) (B (tt Q)))
  (hstep:∀ k,k < n->∀ r,(¬ P k->r=B false)->(P k->aa A f (g (k + 1)) r)->aa A f (g k) r):∀ d k,k + d=n->aa A f (g k) (B (tt (fd k n P/\Q))):=by
 intro d
 induction d with
 | zero =>
  intro k hk
  have hk:k=n:=by omega
  subst hk
  rw [show tt (fd k k P/\Q)=tt Q from kq ⟨fun h=>h.2,fun h=>⟨vQ,h⟩⟩]
  exact hend
 | succ d ih =>
  intro k hk
  have hlt:k < n:=by omega
  refine hstep k hlt _ (fun hp=>?_) (fun hp=>?_)
  ·rw [A9]
   intro h
   exact hp ((jw hlt).1 h.1).1
  ·rw [show tt (fd k n P/\Q)=tt (fd (k + 1) n P/\Q) from kq ⟨fun h=>⟨((jw hlt).1 h.1).2,h.2⟩,fun h=>⟨(jw hlt).2 ⟨hp,h.1⟩,h.2⟩⟩]
   exact ih (k + 1) (by omega)
theorem vI {A:AProg} {f:FuncId} {n:Nat} {P:Nat->Prop} {g:Nat->Prg TV} (hend:aa A f (g n) (B true))
  (hstep:∀ k,k < n->∀ r,(¬ P k->r=B false)->(P k->aa A f (g (k + 1)) r)->aa A f (g k) r):aa A f (g 0) (B (tt (∀ i,i < n->P i))):=by
 have:=CJ (Q:=True) (by rw [yR trivial]; exact hend) hstep n 0 (by omega)
 rw [show tt (∀ i,i < n->P i)=tt (fd 0 n P/\True) from kq ⟨fun h=>⟨gw.2 h,trivial⟩,fun h=>gw.1 h.1⟩]
 exact this
theorem aK {k n:Nat} (h:k < n):asBool (.lit (.bool (decide ((k:Int) < (n:Int)))))=some true:=by simp [asBool,h]
theorem bw {n:Nat}:asBool (.lit (.bool (decide ((n:Int) < (n:Int)))))=some false:=by simp [asBool]
theorem mD {α:Type} {l m:List α} (h:l.length=m.length):l=m ↔ ∀ i,i < l.length->l[i]? = m[i]? := by
 rw [wD h,gw]
end Go.Ab
namespace Go.Ab
end Go.Ab
end
section
set_option maxRecDepth 100000
namespace Go.Ab.Z14
open Go Go.Ab Go.Proofs
open Go.Ab.TV (hole cell comp isSl isSc isTup cellsL tup agg)
open Go.Ab.Prg (tv tvs rws nat chk call jmp ret)
def f3_M (x0:TV):Prg TV :=
 call 5 [] fun v0 =>
 chk (ab gm [v0] 0) (
 tv (pun .not v0) fun v1 =>
 Prg.ite (asBool v1) (
 ret (B false)) (
 tv (plen Kd.str x0) fun v2 =>
 tv (pmin false v2 (I 300)) fun v3 =>
 nat (al v3) fun n4 =>
 tv (pslice Kd.str 0 x0 none (some n4)) fun v5 =>
 call 6 [v5] fun v6 =>
 chk (isTup v6 2) (
 chk (Bool.and (TV.isAgg (comp v6 0) 7) (ab xG (cellsL true (comp v6 0)) 0)) (
 chk (ab gm [comp v6 1] 0) (
 call 7 [v5] fun v7 =>
 chk (isTup v7 2) (
 chk (Bool.and (TV.isAgg (comp v7 0) 7) (ab xG (cellsL true (comp v7 0)) 0)) (
 chk (ab gm [comp v7 1] 0) (
 call 8 [v5] fun v8 =>
 chk (isTup v8 2) (
 chk (Bool.and (TV.isAgg (comp v8 0) 8) (ab wX (cellsL true (comp v8 0)) 0)) (
 chk (ab gm [comp v8 1] 0) (
 call 9 [v5] fun v9 =>
 chk (isTup v9 2) (
 chk (Bool.and (TV.isAgg (comp v9 0) 8) (ab wX (cellsL true (comp v9 0)) 0)) (
 chk (ab gm [comp v9 1] 0) (
 call 10 [v5] fun v10 =>
 chk (isTup v10 2) (
 chk (Bool.and (TV.isAgg (comp v10 0) 4) (ab xP (cellsL true (comp v10 0)) 0)) (
 chk (ab gm [comp v10 1] 0) (
 call 11 [v5] fun v11 =>
 chk (isTup v11 2) (
 chk (Bool.and (TV.isAgg (comp v11 0) 4) (ab xP (cellsL true (comp v11 0)) 0)) (
 chk (ab gm [comp v11 1] 0) (
 call 12 [agg [cell (comp v6 0) 0,cell (comp v6 0) 1,cell (comp v6 0) 2,cell (comp v6 0) 3,cell (comp v6 0) 4,cell (comp v6 0) 5,frz (cell (comp v6 0) 6)],agg [cell (comp v7 0) 0,cell (comp v7 0) 1,cell (comp v7 0) 2,cell (comp v7 0) 3,cell (comp v7 0) 4,cell (comp v7 0) 5,frz (cell (comp v7 0) 6)]] fun v12 =>
 chk (ab gm [v12] 0) (
 Prg.ite (asBool v12) (
 tv (pbin Kd.bool .eql (comp v6 1) (comp v7 1)) fun v13 =>
 Prg.ite (asBool v13) (
 call 13 [agg [cell (comp v8 0) 0,cell (comp v8 0) 1,cell (comp v8 0) 2,cell (comp v8 0) 3,frz (cell (comp v8 0) 4),cell (comp v8 0) 5,cell (comp v8 0) 6,cell (comp v8 0) 7],agg [cell (comp v9 0) 0,cell (comp v9 0) 1,cell (comp v9 0) 2,cell (comp v9 0) 3,frz (cell (comp v9 0) 4),cell (comp v9 0) 5,cell (comp v9 0) 6,cell (comp v9 0) 7]] fun v14 =>
 chk (ab gm [v14] 0) (
 Prg.ite (asBool v14) (
 tv (pbin Kd.bool .eql (comp v8 1) (comp v9 1)) fun v15 =>
 Prg.ite (asBool v15) (
 call 14 [agg [cell (comp v10 0) 0,frz (cell (comp v10 0) 1),cell (comp v10 0) 2,cell (comp v10 0) 3],agg [cell (comp v11 0) 0,frz (cell (comp v11 0) 1),cell (comp v11 0) 2,cell (comp v11 0) 3]] fun v16 =>
 chk (ab gm [v16] 0) (
 Prg.ite (asBool v16) (
 tv (pbin Kd.bool .eql (comp v10 1) (comp v11 1)) fun v17 =>
 ret v17) (
 ret (B false)))) (
 ret (B false))) (
 ret (B false)))) (
 ret (B false))) (
 ret (B false)))))))))))))))))))))))
theorem f3_MR (x0:TV):aY prog 3 [x0]=f3_M x0:=by kernel_rfl
def f6_M (x0:TV):Prg TV :=
 call 19 [x0] fun v0 =>
 chk (ab zSl [v0] 0) (
 nat (slLen v0) fun n1 =>
 nat (al (I 0)) fun n2 =>
 chk (Bool.and (slSize v0 1) (Nat.blt n2 n1)) (
 tvs (pel v0 n2) fun e3 =>
 chk (ab cq e3 0) (
 call 21 [nth hole e3 0] fun v4 =>
 chk (ab aT [v4] 0) (
 nat (slLen v0) fun n5 =>
 nat (al (I 1)) fun n6 =>
 chk (Bool.and (Bool.and (slSize v0 1) (Nat.ble (Option.getD (some n6) 0) (Option.getD none n5))) (Nat.ble (Option.getD none n5) n5)) (
 tv (fX (Option.getD (some n6) 0) ((Option.getD none n5) - (Option.getD (some n6) 0)) v0) fun v7 =>
 call 20 [v4,frz v7] fun v8 =>
 chk (Bool.and (TV.isAgg v8 7) (ab xG (cellsL true v8) 0)) (
 tv (pbin (.int .i64) .eql (cell v8 0) (I 0)) fun v9 =>
 Prg.ite (asBool v9) (
 ret (tup [agg [I 0,I 0,I 0,I 0,W 0,I 0,TV.lit af],B false])) (
 tv (plen (.slice 3) (cell v8 6)) fun v10 =>
 tv (pbin (.int .i64) .gtr v10 (I 8)) fun v11 =>
 Prg.ite (asBool v11) (
 ret (tup [agg [I 0,I 0,I 0,I 0,W 0,I 0,TV.lit af],B false])) (
 call 22 [agg [cell v8 0,cell v8 1,cell v8 2,cell v8 3,cell v8 4,cell v8 5,frz (cell v8 6)]] fun v12 =>
 chk (ab cq [v12] 0) (
 tv (pbin Kd.str .neq v12 x0) fun v13 =>
 Prg.ite (asBool v13) (
 ret (tup [agg [I 0,I 0,I 0,I 0,W 0,I 0,TV.lit af],B false])) (
 ret (tup [agg [cell v8 0,cell v8 1,cell v8 2,cell v8 3,cell v8 4,cell v8 5,cell v8 6],B true])))))))))))
theorem f6_MR (x0:TV):aY prog 6 [x0]=f6_M x0:=by kernel_rfl
def f7_0_S  (x0 w1 w2:TV):ASt:=⟨[Jk,Jk,Pt 0,Jk,Jk,AV.tv x0,Sr 1] ++ Rj 121,[some (BC.cells [CA.junk,CA.junk,CA.junk,CA.junk,CA.junk,CA.junk,CA.junk]),some (BC.tree [w1,w2])] ++ Rz 150,[]⟩
def f7_1_S  (x0 x1 w2 w3 y4 y5 y6 y7 y8 y9 y10:TV):ASt:=⟨[Jk,Jk,Pt 0,Jk,Jk,Jk,Sr 1,Jk,Jk,Pt 2] ++ Rj 47 ++ [AV.tv x0] ++ Rj 23 ++ [AV.tv x1] ++ Rj 46,[some (BC.cells [CA.junk,CA.junk,CA.junk,CA.junk,CA.junk,CA.junk,CA.junk]),some (BC.tree [w2,w3]),some (BC.cells [CA.t y4,CA.t y5,CA.t y6,CA.t y7,CA.t y8,CA.t y9,CA.t y10])] ++ Rz 149,[]⟩
def f7_M (x0:TV):Prg TV :=
 call 23 [x0,TV.lit (Value.int IntKind.u8 (32:Int))] fun v0 =>
 chk (ab zSl [v0] 0) (
 nat (slLen v0) fun n1 =>
 nat (al (I 0)) fun n2 =>
 chk (Bool.and (slSize v0 1) (Nat.blt n2 n1)) (
 tvs (pel v0 n2) fun e3 =>
 chk (ab cq e3 0) (
 call 24 [nth hole e3 0] fun v4 =>
 chk (ab aT [v4] 0) (
 call 25 [frz v0,I 1] fun v5 =>
 chk (isTup v5 2) (
 chk (ab zSl [comp v5 0] 0) (
 chk (ab gm [comp v5 1] 0) (
 nat (al v4) fun n6 =>
 chk (Nat.blt n6 14) (
 tv (pnth n6 [I 0,I 2,I 2,I 3,I 3,I 3,I 3,I 3,I 3,I 2,I 2,I 0,I 1,I 1]) fun v7 =>
 tv (pbin (.int .i64) .eql v4 (I 0)) fun v8 =>
 Prg.ite (asBool v8) (
 ret (tup [agg [I 0,I 0,I 0,I 0,W 0,I 0,TV.lit af],B false])) (
 tv (pun .not (comp v5 1)) fun v9 =>
 Prg.ite (asBool v9) (
 ret (tup [agg [I 0,I 0,I 0,I 0,W 0,I 0,TV.lit af],B false])) (
 tv (pbin (.int .i64) .neq v4 (I 11)) fun v10 =>
 Prg.ite (asBool v10) (
 tv (plen (.slice 3) (comp v5 0)) fun v11 =>
 tv (pbin (.int .i64) .neq v11 v7) fun v12 =>
 Prg.ite (asBool v12) (
 ret (tup [agg [I 0,I 0,I 0,I 0,W 0,I 0,TV.lit af],B false])) (
 tv (pbin (.int .i64) .eql v4 (I 11)) fun v13 =>
 Prg.ite (asBool v13) (
 tv (plen (.slice 3) (comp v5 0)) fun v14 =>
 tv (pbin (.int .i64) .lss v14 (I 2)) fun v15 =>
 Prg.ite (asBool v15) (
 ret (tup [agg [I 0,I 0,I 0,I 0,W 0,I 0,TV.lit af],B false])) (
 tv (plen (.slice 3) (comp v5 0)) fun v16 =>
 tv (pbin (.int .i64) .gtr v16 (I 10)) fun v17 =>
 Prg.ite (asBool v17) (
 ret (tup [agg [I 0,I 0,I 0,I 0,W 0,I 0,TV.lit af],B false])) (
 jmp [1,1,1,1,1,1] (f7_0_S v4 (comp v5 0) hole)))) (
 jmp [1,1,1,1,1,1] (f7_0_S v4 (comp v5 0) hole)))) (
 tv (pbin (.int .i64) .eql v4 (I 11)) fun v18 =>
 Prg.ite (asBool v18) (
 tv (plen (.slice 3) (comp v5 0)) fun v19 =>
 tv (pbin (.int .i64) .lss v19 (I 2)) fun v20 =>
 Prg.ite (asBool v20) (
 ret (tup [agg [I 0,I 0,I 0,I 0,W 0,I 0,TV.lit af],B false])) (
 tv (plen (.slice 3) (comp v5 0)) fun v21 =>
 tv (pbin (.int .i64) .gtr v21 (I 10)) fun v22 =>
 Prg.ite (asBool v22) (
 ret (tup [agg [I 0,I 0,I 0,I 0,W 0,I 0,TV.lit af],B false])) (
 jmp [1,1,1,1,1,1] (f7_0_S v4 (comp v5 0) hole)))) (
 jmp [1,1,1,1,1,1] (f7_0_S v4 (comp v5 0) hole)))))))))))))
def f7_0  (x0 w1 w2:TV):Prg TV :=
 chk (TV.fS x0) (
 tv (pbin (.int .i64) .eql x0 (I 1)) fun v23 =>
 Prg.ite (asBool v23) (
 nat (slLen w1) fun n24 =>
 nat (al (I 0)) fun n25 =>
 chk (Bool.and (slSize w1 1) (Nat.blt n25 n24)) (
 tvs (pel w1 n25) fun e26 =>
 chk (ab aT e26 0) (
 nat (slLen w1) fun n27 =>
 nat (al (I 1)) fun n28 =>
 chk (Bool.and (slSize w1 1) (Nat.blt n28 n27)) (
 tvs (pel w1 n28) fun e29 =>
 chk (ab aT e29 0) (
 tv (pconv (.int .u16) (nth hole e29 0)) fun v30 =>
 ret (tup [agg [x0,nth hole e26 0,I 0,I 0,v30,I 0,TV.lit af],B true])))))) (
 tv (pbin (.int .i64) .eql x0 (I 2)) fun v31 =>
 Prg.ite (asBool v31) (
 jmp [1,1,1,0,1,0,1,1,1,1,1,1,1] (f7_1_S x0 v31 w1 w2 x0 (I 0) (I 0) (I 0) (W 0) (I 0) (TV.lit af))) (
 tv (pbin (.int .i64) .eql x0 (I 9)) fun v32 =>
 jmp [1,1,1,0,1,0,1,1,1,1,1,1,1] (f7_1_S x0 v32 w1 w2 x0 (I 0) (I 0) (I 0) (W 0) (I 0) (TV.lit af)))))
def f7_1  (x0 x1 w2 w3 y4 y5 y6 y7 y8 y9 y10:TV):Prg TV :=
 Prg.ite (asBool x1) (
 nat (slLen w2) fun n33 =>
 nat (al (I 0)) fun n34 =>
 chk (Bool.and (slSize w2 1) (Nat.blt n34 n33)) (
 tvs (pel w2 n34) fun e35 =>
 chk (ab aT e35 0) (
 nat (slLen w2) fun n36 =>
 nat (al (I 1)) fun n37 =>
 chk (Bool.and (slSize w2 1) (Nat.blt n37 n36)) (
 tvs (pel w2 n37) fun e38 =>
 chk (ab aT e38 0) (
 ret (tup [agg [y4,nth hole e35 0,nth hole e38 0,y7,y8,y9,y10],B true])))))) (
 tv (pbin (.int .i64) .eql x0 (I 10)) fun v39 =>
 Prg.ite (asBool v39) (
 nat (slLen w2) fun n40 =>
 nat (al (I 0)) fun n41 =>
 chk (Bool.and (slSize w2 1) (Nat.blt n41 n40)) (
 tvs (pel w2 n41) fun e42 =>
 chk (ab aT e42 0) (
 nat (slLen w2) fun n43 =>
 nat (al (I 1)) fun n44 =>
 chk (Bool.and (slSize w2 1) (Nat.blt n44 n43)) (
 tvs (pel w2 n44) fun e45 =>
 chk (ab aT e45 0) (
 ret (tup [agg [y4,y5,nth hole e42 0,nth hole e45 0,y8,y9,y10],B true])))))) (
 tv (pbin (.int .i64) .eql x0 (I 11)) fun v46 =>
 Prg.ite (asBool v46) (
 nat (slLen w2) fun n47 =>
 nat (al (I 0)) fun n48 =>
 chk (Bool.and (slSize w2 1) (Nat.blt n48 n47)) (
 tvs (pel w2 n48) fun e49 =>
 chk (ab aT e49 0) (
 nat (slLen w2) fun n50 =>
 nat (al (I 1)) fun n51 =>
 chk (Bool.and (slSize w2 1) (Nat.blt n51 n50)) (
 tvs (pel w2 n51) fun e52 =>
 chk (ab aT e52 0) (
 nat (slLen w2) fun n53 =>
 nat (al (I 2)) fun n54 =>
 chk (Bool.and (Bool.and (slSize w2 1) (Nat.ble (Option.getD (some n54) 0) (Option.getD none n53))) (Nat.ble (Option.getD none n53) n53)) (
 tv (fX (Option.getD (some n54) 0) ((Option.getD none n53) - (Option.getD (some n54) 0)) w2) fun v55 =>
 ret (tup [agg [y4,nth hole e49 0,y6,y7,y8,nth hole e52 0,v55],B true]))))))) (
 tv (pbin (.int .i64) .eql x0 (I 12)) fun v56 =>
 Prg.ite (asBool v56) (
 nat (slLen w2) fun n57 =>
 nat (al (I 0)) fun n58 =>
 chk (Bool.and (slSize w2 1) (Nat.blt n58 n57)) (
 tvs (pel w2 n58) fun e59 =>
 chk (ab aT e59 0) (
 ret (tup [agg [y4,y5,nth hole e59 0,y7,y8,y9,y10],B true])))) (
 tv (pbin (.int .i64) .eql x0 (I 13)) fun v60 =>
 Prg.ite (asBool v60) (
 nat (slLen w2) fun n61 =>
 nat (al (I 0)) fun n62 =>
 chk (Bool.and (slSize w2 1) (Nat.blt n62 n61)) (
 tvs (pel w2 n62) fun e63 =>
 chk (ab aT e63 0) (
 ret (tup [agg [y4,nth hole e63 0,y6,y7,y8,y9,y10],B true])))) (
 nat (slLen w2) fun n64 =>
 nat (al (I 0)) fun n65 =>
 chk (Bool.and (slSize w2 1) (Nat.blt n65 n64)) (
 tvs (pel w2 n65) fun e66 =>
 chk (ab aT e66 0) (
 nat (slLen w2) fun n67 =>
 nat (al (I 1)) fun n68 =>
 chk (Bool.and (slSize w2 1) (Nat.blt n68 n67)) (
 tvs (pel w2 n68) fun e69 =>
 chk (ab aT e69 0) (
 nat (slLen w2) fun n70 =>
 nat (al (I 2)) fun n71 =>
 chk (Bool.and (slSize w2 1) (Nat.blt n71 n70)) (
 tvs (pel w2 n71) fun e72 =>
 chk (ab aT e72 0) (
 ret (tup [agg [y4,nth hole e66 0,nth hole e69 0,nth hole e72 0,y8,y9,y10],B true]))))))))))))
theorem f7_MR (x0:TV):aY prog 7 [x0]=f7_M x0:=by kernel_rfl
theorem f7_0_J  {x0 w1 w2:TV} {r:TV} (h:aa prog 7 (f7_0 x0 w1 w2) r):aa prog 7 (.jmp [1,1,1,1,1,1] (f7_0_S x0 w1 w2)) r:=aa.jmp (by kernel_rfl) h
theorem f7_1_J  {x0 x1 w2 w3 y4 y5 y6 y7 y8 y9 y10:TV} {r:TV} (h:aa prog 7 (f7_1 x0 x1 w2 w3 y4 y5 y6 y7 y8 y9 y10) r):aa prog 7 (.jmp [1,1,1,0,1,0,1,1,1,1,1,1,1] (f7_1_S x0 x1 w2 w3 y4 y5 y6 y7 y8 y9 y10)) r:=aa.jmp (by kernel_rfl) h
def f8_M (x0:TV):Prg TV :=
 call 19 [x0] fun v0 =>
 chk (ab zSl [v0] 0) (
 nat (slLen v0) fun n1 =>
 nat (al (I 0)) fun n2 =>
 chk (Bool.and (slSize v0 1) (Nat.blt n2 n1)) (
 tvs (pel v0 n2) fun e3 =>
 chk (ab cq e3 0) (
 call 27 [nth hole e3 0] fun v4 =>
 chk (ab aT [v4] 0) (
 nat (slLen v0) fun n5 =>
 nat (al (I 1)) fun n6 =>
 chk (Bool.and (Bool.and (slSize v0 1) (Nat.ble (Option.getD (some n6) 0) (Option.getD none n5))) (Nat.ble (Option.getD none n5) n5)) (
 tv (fX (Option.getD (some n6) 0) ((Option.getD none n5) - (Option.getD (some n6) 0)) v0) fun v7 =>
 call 26 [v4,frz v7] fun v8 =>
 chk (Bool.and (TV.isAgg v8 8) (ab wX (cellsL true v8) 0)) (
 tv (pbin (.int .i64) .eql (cell v8 0) (I 0)) fun v9 =>
 Prg.ite (asBool v9) (
 ret (tup [agg [I 0,I 0,I 0,I 0,TV.lit af,I 0,I 0,I 0],B false])) (
 tv (plen (.slice 3) (cell v8 4)) fun v10 =>
 tv (pbin (.int .i64) .gtr v10 (I 8)) fun v11 =>
 Prg.ite (asBool v11) (
 ret (tup [agg [I 0,I 0,I 0,I 0,TV.lit af,I 0,I 0,I 0],B false])) (
 call 28 [agg [cell v8 0,cell v8 1,cell v8 2,cell v8 3,frz (cell v8 4),cell v8 5,cell v8 6,cell v8 7]] fun v12 =>
 chk (ab cq [v12] 0) (
 tv (pbin Kd.str .neq v12 x0) fun v13 =>
 Prg.ite (asBool v13) (
 ret (tup [agg [I 0,I 0,I 0,I 0,TV.lit af,I 0,I 0,I 0],B false])) (
 ret (tup [agg [cell v8 0,cell v8 1,cell v8 2,cell v8 3,cell v8 4,cell v8 5,cell v8 6,cell v8 7],B true])))))))))))
theorem f8_MR (x0:TV):aY prog 8 [x0]=f8_M x0:=by kernel_rfl
def f9_0_S  (x0 w1 w2:TV):ASt:=⟨[Jk,Jk,Pt 0,Jk,Jk,AV.tv x0,Sr 1] ++ Rj 100,[some (BC.cells [CA.junk,CA.junk,CA.junk,CA.junk,CA.junk,CA.junk,CA.junk,CA.junk]),some (BC.tree [w1,w2])] ++ Rz 129,[]⟩
def f9_1_S  (x0 x1 w2 w3 y4 y5 y6 y7 y8 y9 y10 y11:TV):ASt:=⟨[Jk,Jk,Pt 0,Jk,Jk,Jk,Sr 1,Jk,Jk,Pt 2] ++ Rj 47 ++ [AV.tv x0,AV.tv x1] ++ Rj 48,[some (BC.cells [CA.junk,CA.junk,CA.junk,CA.junk,CA.junk,CA.junk,CA.junk,CA.junk]),some (BC.tree [w2,w3]),some (BC.cells [CA.t y4,CA.t y5,CA.t y6,CA.t y7,CA.t y8,CA.t y9,CA.t y10,CA.t y11])] ++ Rz 128,[]⟩
def f9_M (x0:TV):Prg TV :=
 call 23 [x0,TV.lit (Value.int IntKind.u8 (32:Int))] fun v0 =>
 chk (ab zSl [v0] 0) (
 nat (slLen v0) fun n1 =>
 nat (al (I 0)) fun n2 =>
 chk (Bool.and (slSize v0 1) (Nat.blt n2 n1)) (
 tvs (pel v0 n2) fun e3 =>
 chk (ab cq e3 0) (
 call 29 [nth hole e3 0] fun v4 =>
 chk (ab aT [v4] 0) (
 call 25 [frz v0,I 1] fun v5 =>
 chk (isTup v5 2) (
 chk (ab zSl [comp v5 0] 0) (
 chk (ab gm [comp v5 1] 0) (
 nat (al v4) fun n6 =>
 chk (Nat.blt n6 7) (
 tv (pnth n6 [I 0,I 1,I 1,I 3,I 0,I 1,I 0]) fun v7 =>
 tv (pbin (.int .i64) .eql v4 (I 0)) fun v8 =>
 Prg.ite (asBool v8) (
 ret (tup [agg [I 0,I 0,I 0,I 0,TV.lit af,I 0,I 0,I 0],B false])) (
 tv (pun .not (comp v5 1)) fun v9 =>
 Prg.ite (asBool v9) (
 ret (tup [agg [I 0,I 0,I 0,I 0,TV.lit af,I 0,I 0,I 0],B false])) (
 tv (pbin (.int .i64) .neq v4 (I 4)) fun v10 =>
 Prg.ite (asBool v10) (
 tv (plen (.slice 3) (comp v5 0)) fun v11 =>
 tv (pbin (.int .i64) .neq v11 v7) fun v12 =>
 Prg.ite (asBool v12) (
 ret (tup [agg [I 0,I 0,I 0,I 0,TV.lit af,I 0,I 0,I 0],B false])) (
 tv (pbin (.int .i64) .eql v4 (I 4)) fun v13 =>
 Prg.ite (asBool v13) (
 tv (plen (.slice 3) (comp v5 0)) fun v14 =>
 tv (pbin (.int .i64) .lss v14 (I 4)) fun v15 =>
 Prg.ite (asBool v15) (
 ret (tup [agg [I 0,I 0,I 0,I 0,TV.lit af,I 0,I 0,I 0],B false])) (
 tv (plen (.slice 3) (comp v5 0)) fun v16 =>
 tv (pbin (.int .i64) .gtr v16 (I 12)) fun v17 =>
 Prg.ite (asBool v17) (
 ret (tup [agg [I 0,I 0,I 0,I 0,TV.lit af,I 0,I 0,I 0],B false])) (
 jmp [1,1,1,1,1,1] (f9_0_S v4 (comp v5 0) hole)))) (
 jmp [1,1,1,1,1,1] (f9_0_S v4 (comp v5 0) hole)))) (
 tv (pbin (.int .i64) .eql v4 (I 4)) fun v18 =>
 Prg.ite (asBool v18) (
 tv (plen (.slice 3) (comp v5 0)) fun v19 =>
 tv (pbin (.int .i64) .lss v19 (I 4)) fun v20 =>
 Prg.ite (asBool v20) (
 ret (tup [agg [I 0,I 0,I 0,I 0,TV.lit af,I 0,I 0,I 0],B false])) (
 tv (plen (.slice 3) (comp v5 0)) fun v21 =>
 tv (pbin (.int .i64) .gtr v21 (I 12)) fun v22 =>
 Prg.ite (asBool v22) (
 ret (tup [agg [I 0,I 0,I 0,I 0,TV.lit af,I 0,I 0,I 0],B false])) (
 jmp [1,1,1,1,1,1] (f9_0_S v4 (comp v5 0) hole)))) (
 jmp [1,1,1,1,1,1] (f9_0_S v4 (comp v5 0) hole)))))))))))))
def f9_0  (x0 w1 w2:TV):Prg TV :=
 chk (TV.fS x0) (
 tv (pbin (.int .i64) .eql x0 (I 1)) fun v23 =>
 Prg.ite (asBool v23) (
 jmp [1,0,1,0,1,1,1,1,1,1,1] (f9_1_S x0 v23 w1 w2 x0 (I 0) (I 0) (I 0) (TV.lit af) (I 0) (I 0) (I 0))) (
 tv (pbin (.int .i64) .eql x0 (I 5)) fun v24 =>
 jmp [1,0,1,0,1,1,1,1,1,1,1] (f9_1_S x0 v24 w1 w2 x0 (I 0) (I 0) (I 0) (TV.lit af) (I 0) (I 0) (I 0))))
def f9_1  (x0 x1 w2 w3 y4 y5 y6 y7 y8 y9 y10 y11:TV):Prg TV :=
 Prg.ite (asBool x1) (
 nat (slLen w2) fun n25 =>
 nat (al (I 0)) fun n26 =>
 chk (Bool.and (slSize w2 1) (Nat.blt n26 n25)) (
 tvs (pel w2 n26) fun e27 =>
 chk (ab aT e27 0) (
 ret (tup [agg [y4,nth hole e27 0,y6,y7,y8,y9,y10,y11],B true])))) (
 tv (pbin (.int .i64) .eql x0 (I 2)) fun v28 =>
 Prg.ite (asBool v28) (
 nat (slLen w2) fun n29 =>
 nat (al (I 0)) fun n30 =>
 chk (Bool.and (slSize w2 1) (Nat.blt n30 n29)) (
 tvs (pel w2 n30) fun e31 =>
 chk (ab aT e31 0) (
 ret (tup [agg [y4,y5,y6,y7,y8,nth hole e31 0,y10,y11],B true])))) (
 tv (pbin (.int .i64) .eql x0 (I 3)) fun v32 =>
 Prg.ite (asBool v32) (
 nat (slLen w2) fun n33 =>
 nat (al (I 0)) fun n34 =>
 chk (Bool.and (slSize w2 1) (Nat.blt n34 n33)) (
 tvs (pel w2 n34) fun e35 =>
 chk (ab aT e35 0) (
 nat (slLen w2) fun n36 =>
 nat (al (I 1)) fun n37 =>
 chk (Bool.and (slSize w2 1) (Nat.blt n37 n36)) (
 tvs (pel w2 n37) fun e38 =>
 chk (ab aT e38 0) (
 nat (slLen w2) fun n39 =>
 nat (al (I 2)) fun n40 =>
 chk (Bool.and (slSize w2 1) (Nat.blt n40 n39)) (
 tvs (pel w2 n40) fun e41 =>
 chk (ab aT e41 0) (
 ret (tup [agg [y4,nth hole e35 0,y6,y7,y8,nth hole e38 0,nth hole e41 0,y11],B true])))))))) (
 tv (pbin (.int .i64) .eql x0 (I 4)) fun v42 =>
 Prg.ite (asBool v42) (
 nat (slLen w2) fun n43 =>
 nat (al (I 0)) fun n44 =>
 chk (Bool.and (slSize w2 1) (Nat.blt n44 n43)) (
 tvs (pel w2 n44) fun e45 =>
 chk (ab aT e45 0) (
 nat (slLen w2) fun n46 =>
 nat (al (I 1)) fun n47 =>
 chk (Bool.and (slSize w2 1) (Nat.blt n47 n46)) (
 tvs (pel w2 n47) fun e48 =>
 chk (ab aT e48 0) (
 nat (slLen w2) fun n49 =>
 nat (al (I 2)) fun n50 =>
 chk (Bool.and (slSize w2 1) (Nat.blt n50 n49)) (
 tvs (pel w2 n50) fun e51 =>
 chk (ab aT e51 0) (
 nat (slLen w2) fun n52 =>
 nat (al (I 3)) fun n53 =>
 chk (Bool.and (slSize w2 1) (Nat.blt n53 n52)) (
 tvs (pel w2 n53) fun e54 =>
 chk (ab aT e54 0) (
 nat (slLen w2) fun n55 =>
 nat (al (I 4)) fun n56 =>
 chk (Bool.and (Bool.and (slSize w2 1) (Nat.ble (Option.getD (some n56) 0) (Option.getD none n55))) (Nat.ble (Option.getD none n55) n55)) (
 tv (fX (Option.getD (some n56) 0) ((Option.getD none n55) - (Option.getD (some n56) 0)) w2) fun v57 =>
 ret (tup [agg [y4,y5,nth hole e45 0,nth hole e48 0,v57,nth hole e51 0,y10,nth hole e54 0],B true]))))))))))) (
 ret (tup [agg [y4,y5,y6,y7,y8,y9,y10,y11],B true])))))
theorem f9_MR (x0:TV):aY prog 9 [x0]=f9_M x0:=by kernel_rfl
theorem f9_0_J  {x0 w1 w2:TV} {r:TV} (h:aa prog 9 (f9_0 x0 w1 w2) r):aa prog 9 (.jmp [1,1,1,1,1,1] (f9_0_S x0 w1 w2)) r:=aa.jmp (by kernel_rfl) h
theorem f9_1_J  {x0 x1 w2 w3 y4 y5 y6 y7 y8 y9 y10 y11:TV} {r:TV} (h:aa prog 9 (f9_1 x0 x1 w2 w3 y4 y5 y6 y7 y8 y9 y10 y11) r):aa prog 9 (.jmp [1,0,1,0,1,1,1,1,1,1,1] (f9_1_S x0 x1 w2 w3 y4 y5 y6 y7 y8 y9 y10 y11)) r:=aa.jmp (by kernel_rfl) h
def f10_M (x0:TV):Prg TV :=
 call 19 [x0] fun v0 =>
 chk (ab zSl [v0] 0) (
 nat (slLen v0) fun n1 =>
 nat (al (I 1)) fun n2 =>
 chk (Bool.and (Bool.and (slSize v0 1) (Nat.ble (Option.getD (some n2) 0) (Option.getD none n1))) (Nat.ble (Option.getD none n1) n1)) (
 tv (fX (Option.getD (some n2) 0) ((Option.getD none n1) - (Option.getD (some n2) 0)) v0) fun v3 =>
 call 30 [frz v3] fun v4 =>
 chk (Bool.and (TV.isAgg v4 4) (ab xP (cellsL true v4) 0)) (
 tv (plen (.slice 23) (cell v4 1)) fun v5 =>
 tv (pbin (.int .i64) .gtr v5 (I 8)) fun v6 =>
 Prg.ite (asBool v6) (
 ret (tup [agg [I 0,TV.lit af,B false,B false],B false])) (
 call 31 [agg [cell v4 0,frz (cell v4 1),cell v4 2,cell v4 3]] fun v7 =>
 chk (ab cq [v7] 0) (
 tv (pbin Kd.str .neq v7 x0) fun v8 =>
 Prg.ite (asBool v8) (
 ret (tup [agg [I 0,TV.lit af,B false,B false],B false])) (
 ret (tup [agg [cell v4 0,cell v4 1,cell v4 2,cell v4 3],B true])))))))
theorem f10_MR (x0:TV):aY prog 10 [x0]=f10_M x0:=by kernel_rfl
def f11_0_S  (x0 x1 w2 y3 y4 y5 y6:TV):ASt:=⟨[Jk,Jk,Pt 0,Jk,Sr 1,Pt 2,AV.tv x0] ++ Rj 34 ++ [AV.tv x1] ++ Rj 72,[some (BC.cells [CA.junk,CA.junk,CA.junk,CA.junk]),Tr w2,some (BC.cells [CA.t y3,CA.t y4,CA.t y5,CA.t y6])] ++ Rz 135,[]⟩
def f11_1_S  (x0 w1 y2 y3 y4 w5:TV):ASt:=⟨[Jk,Jk,Pt 0,Jk,Sr 1,Pt 2,AV.tv x0] ++ Rj 107,[some (BC.cells [CA.junk,CA.junk,CA.junk,CA.junk]),Tr w1,some (BC.cells [CA.t y2,CA.sref 3 0 [],CA.t y3,CA.t y4]),Tr w5] ++ Rz 134,[]⟩
def f11_2_S  (x0 w1 y2 y3 y4 w5:TV):ASt:=⟨[Jk,Jk,Pt 0,Jk,Sr 1,Pt 2,AV.tv x0] ++ Rj 107,[some (BC.cells [CA.junk,CA.junk,CA.junk,CA.junk]),Tr w1,some (BC.cells [CA.t y2,CA.sref 3 0 [],CA.t y3,CA.t y4]),Tr w5] ++ Rz 134,[]⟩
def f11_3_S  (x0 w1 y2 y3 y4 w5:TV):ASt:=⟨[Jk,Jk,Pt 0,Jk,Sr 1,Pt 2,AV.tv x0] ++ Rj 107,[some (BC.cells [CA.junk,CA.junk,CA.junk,CA.junk]),Tr w1,some (BC.cells [CA.t y2,CA.sref 3 0 [],CA.t y3,CA.t y4]),Tr w5] ++ Rz 134,[]⟩
def f11_4_S  (x0 w1 y2 y3 y4 w5:TV):ASt:=⟨[Jk,Jk,Pt 0,Jk,Sr 1,Pt 2,AV.tv x0] ++ Rj 107,[some (BC.cells [CA.junk,CA.junk,CA.junk,CA.junk]),Tr w1,some (BC.cells [CA.t y2,CA.sref 3 0 [],CA.t y3,CA.t y4]),Tr w5] ++ Rz 134,[]⟩
def f11_5_S  (x0 w1 y2 y3 y4 w5:TV):ASt:=⟨[Jk,Jk,Pt 0,Jk,Sr 1,Pt 2,AV.tv x0] ++ Rj 107,[some (BC.cells [CA.junk,CA.junk,CA.junk,CA.junk]),Tr w1,some (BC.cells [CA.t y2,CA.sref 3 0 [],CA.t y3,CA.t y4]),Tr w5] ++ Rz 134,[]⟩
def f11_M (x0:TV):Prg TV :=
 call 23 [x0,TV.lit (Value.int IntKind.u8 (32:Int))] fun v0 =>
 chk (ab zSl [v0] 0) (
 nat (slLen v0) fun n1 =>
 nat (al (I 0)) fun n2 =>
 chk (Bool.and (slSize v0 1) (Nat.blt n2 n1)) (
 tvs (pel v0 n2) fun e3 =>
 chk (ab cq e3 0) (
 tv (pbin Kd.str .neq (nth hole e3 0) (TV.lit (Value.string (ByteArray.mk (Array.mk [(112:UInt8),(97:UInt8),(100:UInt8)]))))) fun v4 =>
 Prg.ite (asBool v4) (
 ret (tup [agg [I 0,TV.lit af,B false,B false],B false])) (
 tv (plen (.slice 9) v0) fun v5 =>
 tv (pbin (.int .i64) .lss v5 (I 2)) fun v6 =>
 Prg.ite (asBool v6) (
 ret (tup [agg [I 0,TV.lit af,B false,B false],B false])) (
 nat (slLen v0) fun n7 =>
 nat (al (I 1)) fun n8 =>
 chk (Bool.and (slSize v0 1) (Nat.blt n8 n7)) (
 tvs (pel v0 n8) fun e9 =>
 chk (ab cq e9 0) (
 call 32 [nth hole e9 0] fun v10 =>
 chk (ab aT [v10] 0) (
 tv (pbin (.int .i64) .lss v10 (I 0)) fun v11 =>
 Prg.ite (asBool v11) (
 ret (tup [agg [I 0,TV.lit af,B false,B false],B false])) (
 nat (slLen v0) fun n12 =>
 nat (al (I 1)) fun n13 =>
 chk (Bool.and (slSize v0 1) (Nat.blt n13 n12)) (
 tvs (pel v0 n13) fun e14 =>
 chk (ab cq e14 0) (
 call 32 [nth hole e14 0] fun v15 =>
 chk (ab aT [v15] 0) (
 tv (plen (.slice 9) v0) fun v16 =>
 tv (pbin (.int .i64) .lss (I 2) v16) fun v17 =>
 Prg.ite (asBool v17) (
 nat (slLen v0) fun n18 =>
 nat (al (I 2)) fun n19 =>
 chk (Bool.and (slSize v0 1) (Nat.blt n19 n18)) (
 tvs (pel v0 n19) fun e20 =>
 chk (ab cq e20 0) (
 tv (pbin Kd.str .eql (nth hole e20 0) (TV.lit (Value.string (ByteArray.mk (Array.mk [(99:UInt8),(97:UInt8),(116:UInt8),(99:UInt8),(104:UInt8)]))))) fun v21 =>
 jmp [1,0,1,1,1,1,1] (f11_0_S (I 2) v21 v0 v15 (TV.lit af) (B false) (B false))))) (
 jmp [1,0,1,1,1,1,1] (f11_0_S (I 2) (B false) v0 v15 (TV.lit af) (B false) (B false)))))))))))))))
def f11_0  (x0 x1 w2 y3 y4 y5 y6:TV):Prg TV :=
 Prg.ite (asBool x1) (
 tv (pbin (.int .i64) .add x0 (I 1)) fun v22 =>
 chk (isSl y4) (
 jmp [0,0,0,1,0,1,0,1,1,1,1,1] (f11_1_S v22 w2 y3 y5 y6 y4))) (
 chk (isSl y4) (
 jmp [1,1,1,1,1,1] (f11_2_S x0 w2 y3 y5 y6 y4)))
def f11_1  (x0 w1 y2 y3 y4 w5:TV):Prg TV :=
 tv (plen (.slice 9) w1) fun v23 =>
 tv (pbin (.int .i64) .lss x0 v23) fun v24 =>
 Prg.ite (asBool v24) (
 nat (slLen w1) fun n25 =>
 nat (al x0) fun n26 =>
 chk (Bool.and (slSize w1 1) (Nat.blt n26 n25)) (
 tvs (pel w1 n26) fun e27 =>
 chk (ab cq e27 0) (
 call 32 [nth hole e27 0] fun v28 =>
 chk (ab aT [v28] 0) (
 tv (pbin (.int .i64) .geq v28 (I 0)) fun v29 =>
 Prg.ite (asBool v29) (
 nat (slLen w1) fun n30 =>
 nat (al x0) fun n31 =>
 chk (Bool.and (slSize w1 1) (Nat.blt n31 n30)) (
 tvs (pel w1 n31) fun e32 =>
 chk (ab cq e32 0) (
 call 32 [nth hole e32 0] fun v33 =>
 chk (ab aT [v33] 0) (
 tv (pconv (.int .u16) v33) fun v34 =>
 rws (pelems 1 (TV.sl true 1 (chunks 1 1 [v34]))) fun r35 =>
 tv (papp 1 w5 (iU r35)) fun v36 =>
 tv (pbin (.int .i64) .add x0 (I 1)) fun v37 =>
 jmp [0,0,0,1,0,1,0,1,1,1,1,1] (f11_1_S v37 w1 y2 y3 y4 v36))))) (
 jmp [1,1,0,1,0,1,1,1,1,1] (f11_3_S x0 w1 y2 y3 y4 w5)))))) (
 jmp [1,1,0,1,0,1,1,1,1,1] (f11_3_S x0 w1 y2 y3 y4 w5))
def f11_2  (x0 w1 y2 y3 y4 w5:TV):Prg TV :=
 tv (plen (.slice 9) w1) fun v38 =>
 tv (pbin (.int .i64) .lss x0 v38) fun v39 =>
 Prg.ite (asBool v39) (
 nat (slLen w1) fun n40 =>
 nat (al x0) fun n41 =>
 chk (Bool.and (slSize w1 1) (Nat.blt n41 n40)) (
 tvs (pel w1 n41) fun e42 =>
 chk (ab cq e42 0) (
 tv (pbin Kd.str .eql (nth hole e42 0) (TV.lit (Value.string (ByteArray.mk (Array.mk [(97:UInt8),(108:UInt8),(108:UInt8)]))))) fun v43 =>
 Prg.ite (asBool v43) (
 tv (pbin (.int .i64) .add x0 (I 1)) fun v44 =>
 jmp [1,1,1,1,1,1,1] (f11_4_S v44 w1 y2 (B true) y4 w5)) (
 jmp [1,1,1,1,1,1,1] (f11_4_S x0 w1 y2 y3 y4 w5))))) (
 jmp [1,1,1,1,1,1,1] (f11_4_S x0 w1 y2 y3 y4 w5))
def f11_3  (x0 w1 y2 y3 y4 w5:TV):Prg TV :=
 tv (plen (.slice 23) w5) fun v45 =>
 tv (pbin (.int .i64) .eql v45 (I 0)) fun v46 =>
 Prg.ite (asBool v46) (
 ret (tup [agg [I 0,TV.lit af,B false,B false],B false])) (
 tv (plen (.slice 23) w5) fun v47 =>
 tv (pbin (.int .i64) .gtr v47 (I 8)) fun v48 =>
 Prg.ite (asBool v48) (
 ret (tup [agg [I 0,TV.lit af,B false,B false],B false])) (
 jmp [1,1,1,1,1,1] (f11_2_S x0 w1 y2 y3 y4 w5)))
def f11_4  (x0 w1 y2 y3 y4 w5:TV):Prg TV :=
 tv (plen (.slice 9) w1) fun v49 =>
 tv (pbin (.int .i64) .lss x0 v49) fun v50 =>
 Prg.ite (asBool v50) (
 nat (slLen w1) fun n51 =>
 nat (al x0) fun n52 =>
 chk (Bool.and (slSize w1 1) (Nat.blt n52 n51)) (
 tvs (pel w1 n52) fun e53 =>
 chk (ab cq e53 0) (
 tv (pbin Kd.str .eql (nth hole e53 0) (TV.lit (Value.string (ByteArray.mk (Array.mk [(99:UInt8),(108:UInt8),(101:UInt8),(97:UInt8),(110:UInt8),(117:UInt8),(112:UInt8)]))))) fun v54 =>
 Prg.ite (asBool v54) (
 tv (pbin (.int .i64) .add x0 (I 1)) fun v55 =>
 jmp [1,1,1,1,1,1,1,1] (f11_5_S v55 w1 y2 y3 (B true) w5)) (
 jmp [1,1,1,1,1,1,1,1] (f11_5_S x0 w1 y2 y3 y4 w5))))) (
 jmp [1,1,1,1,1,1,1,1] (f11_5_S x0 w1 y2 y3 y4 w5))
def f11_5  (x0 w1 y2 y3 y4 w5:TV):Prg TV :=
 tv (plen (.slice 9) w1) fun v56 =>
 tv (pbin (.int .i64) .neq x0 v56) fun v57 =>
 Prg.ite (asBool v57) (
 ret (tup [agg [I 0,TV.lit af,B false,B false],B false])) (
 ret (tup [agg [y2,w5,y3,y4],B true]))
theorem f11_MR (x0:TV):aY prog 11 [x0]=f11_M x0:=by kernel_rfl
theorem f11_0_J  {x0 x1 w2 y3 y4 y5 y6:TV} {r:TV} (h:aa prog 11 (f11_0 x0 x1 w2 y3 y4 y5 y6) r):aa prog 11 (.jmp [1,0,1,1,1,1,1] (f11_0_S x0 x1 w2 y3 y4 y5 y6)) r:=aa.jmp (by kernel_rfl) h
theorem f11_1_J  {x0 w1 y2 y3 y4 w5:TV} {r:TV} (h:aa prog 11 (f11_1 x0 w1 y2 y3 y4 w5) r):aa prog 11 (.jmp [0,0,0,1,0,1,0,1,1,1,1,1] (f11_1_S x0 w1 y2 y3 y4 w5)) r:=aa.jmp (by kernel_rfl) h
theorem f11_2_J  {x0 w1 y2 y3 y4 w5:TV} {r:TV} (h:aa prog 11 (f11_2 x0 w1 y2 y3 y4 w5) r):aa prog 11 (.jmp [1,1,1,1,1,1] (f11_2_S x0 w1 y2 y3 y4 w5)) r:=aa.jmp (by kernel_rfl) h
theorem f11_3_J  {x0 w1 y2 y3 y4 w5:TV} {r:TV} (h:aa prog 11 (f11_3 x0 w1 y2 y3 y4 w5) r):aa prog 11 (.jmp [1,1,0,1,0,1,1,1,1,1] (f11_3_S x0 w1 y2 y3 y4 w5)) r:=aa.jmp (by kernel_rfl) h
theorem f11_4_J  {x0 w1 y2 y3 y4 w5:TV} {r:TV} (h:aa prog 11 (f11_4 x0 w1 y2 y3 y4 w5) r):aa prog 11 (.jmp [1,1,1,1,1,1,1] (f11_4_S x0 w1 y2 y3 y4 w5)) r:=aa.jmp (by kernel_rfl) h
theorem f11_5_J  {x0 w1 y2 y3 y4 w5:TV} {r:TV} (h:aa prog 11 (f11_5 x0 w1 y2 y3 y4 w5) r):aa prog 11 (.jmp [1,1,1,1,1,1,1,1] (f11_5_S x0 w1 y2 y3 y4 w5)) r:=aa.jmp (by kernel_rfl) h
end Go.Ab.Z14
end

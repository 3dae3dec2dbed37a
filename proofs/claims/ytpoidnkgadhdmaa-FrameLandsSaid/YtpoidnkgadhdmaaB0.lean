/- Functions of the library, told by what they answer. Definitions. -/
import Derived.Test.YtpoidnkgadhdmaaZ
import Derived.Lib.ItoaNum
namespace Go.Ab
def lookD : List (Nat × LentD) → Nat → Option LentD
  | [], _ => none
  | (k, d) :: r, t => bif k.beq t then some d else lookD r t
def roomB : Nat := 140737488355328
def xWriteString (e : Nat) : List TV → Option TV
  | [.tup [x, .buf s e'], .lit (.string t)] => bif x.isMay && e'.beq e && (s.size + t.size).ble roomB then some (.tup [.tup [.lit (.int .i64 t.size), .lit .nilIface], .tup [mayT, .buf (s ++ t) e]]) else none
  | _ => none
def xWriteByte (e : Nat) : List TV → Option TV
  | [.tup [x, .buf s e'], .lit (.int .u8 c)] => bif x.isMay && e'.beq e && (s.size + 1).ble roomB && decide (0 ≤ c ∧ c < 256) then some (.tup [.lit .nilIface, .tup [mayT, .buf (s.push c.toNat.toUInt8) e]]) else none
  | _ => none
def xString (e : Nat) : List TV → Option TV
  | [.tup [x, .buf s e']] => bif x.isMay && e'.beq e && !(s.size.beq 0) then some (.tup [.lit (.string s), .tup [mayT, .buf s e]]) else none
  | _ => none
def xLen (e : Nat) : List TV → Option TV
  | [.tup [x, .buf s e']] => bif x.isMay && e'.beq e then some (.tup [.lit (.int .i64 s.size), .tup [mayT, .buf s e]]) else none
  | _ => none
def xItoa : List TV → Option TV
  | [.lit (.int .i64 n)] => bif decide (-9223372036854775808 ≤ n ∧ n ≤ 9223372036854775807) then some (.lit (.string ⟨(Lib.itoa n).toArray⟩)) else none
  | _ => none

end Go.Ab

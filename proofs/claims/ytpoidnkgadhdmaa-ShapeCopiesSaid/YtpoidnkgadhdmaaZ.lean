/- What cells of a kind begin with, by the kind's own name. No condition. -/
import Derived.Test.YtpoidnkgadhdmaaM0
namespace Go.Ab
def zInt : List Value := [.int .i64 0]
def zWord : List Value := [.int .u16 0]
def zByte : List Value := [.int .u8 0]
def zU64 : List Value := [.int .u64 0]
def zI32 : List Value := [.int .i32 0]
def zBool : List Value := [.bool false]
def zStr : List Value := [.string ⟨#[]⟩]
def zSl : List Value := [.slice none 0 0]
def zIns : List Value := [.int .i64 0, .int .i64 0, .int .i64 0, .int .i64 0, .int .u16 0, .int .i64 0, .slice none 0 0]
def zEnd : List Value := [.int .i64 0, .int .i64 0, .int .i64 0, .int .i64 0, .slice none 0 0, .int .i64 0, .int .i64 0, .int .i64 0]
def zPad : List Value := [.int .i64 0, .slice none 0 0, .bool false, .bool false]
def zBlock : List Value := [.bool false, .int .i64 0, .slice none 0 0, .bool false, .bool false, .slice none 0 0, .int .i64 0, .int .i64 0, .int .i64 0, .int .i64 0, .slice none 0 0, .int .i64 0, .int .i64 0, .int .i64 0]
def zFunc : List Value := [.int .i64 0, .int .i64 0, .slice none 0 0]
end Go.Ab

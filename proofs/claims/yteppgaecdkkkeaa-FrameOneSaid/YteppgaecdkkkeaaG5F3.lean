
/- What the functions of layer 2 answer: when two are the same. No condition. -/
import Derived.Test.YteppgaecdkkkeaaF1
import Derived.Test.YteppgaecdkkkeaaG5Xa
import Derived.Test.YteppgaecdkkkeaaG5Xb
import Derived.Test.YteppgaecdkkkeaaG5Xc
import Derived.Test.YteppgaecdkkkeaaG5Xd
set_option linter.unusedVariables false
set_option maxRecDepth 10000
namespace Go.Ab.G5
open Go Go.Ab Go.Proofs

theorem ins_eq {a b : DIns} : a = b ↔ a.op = b.op ∧ a.dst = b.dst ∧ a.a = b.a ∧ a.b = b.b ∧ a.k = b.k ∧ a.f = b.f ∧ a.args = b.args := by
  cases a; cases b; simp
theorem end_eq {a b : DEnd} : a = b ↔ a.kind = b.kind ∧ a.a = b.a ∧ a.dst = b.dst ∧ a.f = b.f ∧ a.args = b.args ∧ a.to = b.to ∧ a.els = b.els ∧ a.pad = b.pad := by
  cases a; cases b; simp
theorem pad_eq {a b : DPad} : a = b ↔ a.dst = b.dst ∧ a.catches = b.catches ∧ a.all = b.all ∧ a.cleanup = b.cleanup := by
  cases a; cases b; simp
theorem block_eq {a b : DBlock} : a = b ↔ a.landing = b.landing ∧ a.pad = b.pad ∧ a.ins = b.ins ∧ a.fin = b.fin := by
  cases a; cases b; simp
theorem func_eq {a b : DFunc} : a = b ↔ a.params = b.params ∧ a.regs = b.regs ∧ a.blocks = b.blocks := by
  cases a; cases b; simp
theorem mod_eq {a b : DMod} : a = b ↔ a.funcs = b.funcs := by
  cases a; cases b; simp

/-! ### the document's -/
end Go.Ab.G5

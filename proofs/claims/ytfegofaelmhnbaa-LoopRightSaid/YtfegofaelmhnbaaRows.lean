/-
  No cell of these rows narrows 'for every input' (looked for: loops, veiled, ifaces, maps, wideKeys, modest, calm, conditions, laid).
  DERIVED. THE GIVEN ROWS OF THIS SEAT. 4 by the template 'for every input the law returns true; each argument reads behind the call as it read before'; 0 by the template 'total and deterministic' (their statements: YtfegofaelmhnbaaTotals.lean).
  GIVEN WITH THE SEED: the statements are not yours to turn. If you find one false, say at which input.
  Laid BY PROGRAM, IN A SANDBOX (cutbox-rows.mjs): the forced cells as the released guide's own fill.sh prints them over the translation 40d1b9292fd7d477… (all of the seat's roots in one cut). By AI agents, Wed Nov 11 2026. No macro, syntax, notation, axiom, sorry.
-/
import Derived.Test.YtfegofaelmhnbaaChecked
import GoSem.Claim
import GoSem.ClaimJoined
import GoSem.ClaimMapViews
import Derived.JoinedTies
import Derived.KernelRfl
namespace Go.Proofs.Ytfegofaelmhnbaa
/- THE CELL 'sum', in the pinned program and in every row, IS THE sha256 OF THE DUMP (.gsa) THAT YtfegofaelmhnbaaProg.lean LOADS. Nothing in Lean hashes anything: it is a label: what it is worth is what the hold of that sum in a sandbox is worth. -/
noncomputable def Try.pinned : Pinned := { name := "ytfegofaelmhnbaa", sum := "40d1b9292fd7d477dbf8b28a0de61b9b8587c9d1528a0c86532410ce9d120d1f", checked := Try.checked }
namespace Rows
def none {H : Type} : Left H := { results := [], args := [] }

/-- 'davitlaw09.LoopRight': WHATEVER THE INPUT: true; the input reads as it did. -/
def loopRightSpec : ChangeSpec := { name := "loopRight", fn := fun _ => fun
  | [d1, d2] => { results := [.lit (.bool true)], args := [d1, d2] }
  | _ => none }
def loopRightRow : OpenClaim := { program := "ytfegofaelmhnbaa", sum := "40d1b9292fd7d477dbf8b28a0de61b9b8587c9d1528a0c86532410ce9d120d1f", func := "davit/davitlaw09.LoopRight", spec := "loopRight", unfollowed := true, recurses := true, apart := false }
def LoopRightSaid : Prop := loopRightRow.holds Try.pinned (OpenSpec.ofChange loopRightSpec)

/-- ITS FALSE NEIGHBOUR: 'it returns false'. Refute it at one input. -/
def loopRightWrong : ChangeSpec := { name := "loopRight", fn := fun _ => fun
  | [d1, d2] => { results := [.lit (.bool false)], args := [d1, d2] }
  | _ => none }
def LoopRightWrongFalsely : Prop := loopRightRow.holds Try.pinned (OpenSpec.ofChange loopRightWrong)

/-- 'davitlaw09.LoopHeads': WHATEVER THE INPUT: true; the input reads as it did. -/
def loopHeadsSpec : ChangeSpec := { name := "loopHeads", fn := fun _ => fun
  | [d] => { results := [.lit (.bool true)], args := [d] }
  | _ => none }
def loopHeadsRow : OpenClaim := { program := "ytfegofaelmhnbaa", sum := "40d1b9292fd7d477dbf8b28a0de61b9b8587c9d1528a0c86532410ce9d120d1f", func := "davit/davitlaw09.LoopHeads", spec := "loopHeads", unfollowed := true, recurses := true, apart := false }
def LoopHeadsSaid : Prop := loopHeadsRow.holds Try.pinned (OpenSpec.ofChange loopHeadsSpec)

/-- ITS FALSE NEIGHBOUR: 'it returns false'. Refute it at one input. -/
def loopHeadsWrong : ChangeSpec := { name := "loopHeads", fn := fun _ => fun
  | [d] => { results := [.lit (.bool false)], args := [d] }
  | _ => none }
def LoopHeadsWrongFalsely : Prop := loopHeadsRow.holds Try.pinned (OpenSpec.ofChange loopHeadsWrong)

/-- 'davitlaw09.LoopNests': WHATEVER THE INPUT: true; the input reads as it did. -/
def loopNestsSpec : ChangeSpec := { name := "loopNests", fn := fun _ => fun
  | [d] => { results := [.lit (.bool true)], args := [d] }
  | _ => none }
def loopNestsRow : OpenClaim := { program := "ytfegofaelmhnbaa", sum := "40d1b9292fd7d477dbf8b28a0de61b9b8587c9d1528a0c86532410ce9d120d1f", func := "davit/davitlaw09.LoopNests", spec := "loopNests", unfollowed := true, recurses := true, apart := false }
def LoopNestsSaid : Prop := loopNestsRow.holds Try.pinned (OpenSpec.ofChange loopNestsSpec)

/-- ITS FALSE NEIGHBOUR: 'it returns false'. Refute it at one input. -/
def loopNestsWrong : ChangeSpec := { name := "loopNests", fn := fun _ => fun
  | [d] => { results := [.lit (.bool false)], args := [d] }
  | _ => none }
def LoopNestsWrongFalsely : Prop := loopNestsRow.holds Try.pinned (OpenSpec.ofChange loopNestsWrong)

/-- 'davitlaw09.LoopNone': WHATEVER THE INPUT: true; the input reads as it did. -/
def loopNoneSpec : ChangeSpec := { name := "loopNone", fn := fun _ => fun
  | [d1, d2] => { results := [.lit (.bool true)], args := [d1, d2] }
  | _ => none }
def loopNoneRow : OpenClaim := { program := "ytfegofaelmhnbaa", sum := "40d1b9292fd7d477dbf8b28a0de61b9b8587c9d1528a0c86532410ce9d120d1f", func := "davit/davitlaw09.LoopNone", spec := "loopNone", unfollowed := true, recurses := true, apart := false }
def LoopNoneSaid : Prop := loopNoneRow.holds Try.pinned (OpenSpec.ofChange loopNoneSpec)

/-- ITS FALSE NEIGHBOUR: 'it returns false'. Refute it at one input. -/
def loopNoneWrong : ChangeSpec := { name := "loopNone", fn := fun _ => fun
  | [d1, d2] => { results := [.lit (.bool false)], args := [d1, d2] }
  | _ => none }
def LoopNoneWrongFalsely : Prop := loopNoneRow.holds Try.pinned (OpenSpec.ofChange loopNoneWrong)

/- THE SECOND FORM. 'bulk': how many values and letters a reading holds, each counted each time it is reached (what is shared counts as often as it is met; a slice's spare places count too). A statement '..UptoSaid' is the law's where the arguments, and the package variables that the reading takes, are together of bulk at most 1048576: NARROWER than '..Said'. Prove '..Said' where nothing that the law and all that it calls make is longer than what came in: it says more and counts as full. Else prove '..UptoSaid'. A law counts once. -/
mutual
def uptoBulk {H : Type} : DataW H → Nat
  | .lit (.string bytes) => bytes.length + 1
  | .lit _ => 1
  | .nil => 1
  | .ptr d => uptoBulk d + 1
  | .slice elems spare => uptoBulkAll elems + uptoBulkAll spare + 1
  | .agg parts => uptoBulkAll parts + 1
  | .iface _ d => uptoBulk d + 1
  | .map entries => uptoBulkEntries entries + 1
  | .held _ => 1
def uptoBulkAll {H : Type} : List (DataW H) → Nat
  | [] => 0
  | d :: r => uptoBulk d + uptoBulkAll r
def uptoBulkEntries {H : Type} : List (Lit × DataW H) → Nat
  | [] => 0
  | x :: r => uptoBulkEntry x + uptoBulkEntries r
def uptoBulkEntry {H : Type} : Lit × DataW H → Nat
  | (.string bytes, d) => bytes.length + uptoBulk d + 1
  | (_, d) => uptoBulk d + 1
 end
def uptoSmall : (H : Type) → List (DataW H) → Bool := fun _ ds => decide (uptoBulkAll ds ≤ 1048576)
def OpenSpec.upto (s : _root_.Go.ChangeSpec) : _root_.Go.OpenSpec := { _root_.Go.OpenSpec.ofChange s with cond := some uptoSmall }

/-- 'davitlaw09.LoopRight', WHERE WHAT IT READS IS OF BULK AT MOST 1048576: true; the input reads as it did. -/
def loopRightUptoRow : OpenClaim := { program := "ytfegofaelmhnbaa", sum := "40d1b9292fd7d477dbf8b28a0de61b9b8587c9d1528a0c86532410ce9d120d1f", func := "davit/davitlaw09.LoopRight", spec := "loopRight", unfollowed := true, recurses := true, apart := false, narrowed := true }
def LoopRightUptoSaid : Prop := loopRightUptoRow.holds Try.pinned (OpenSpec.upto loopRightSpec)

/-- 'davitlaw09.LoopHeads', WHERE WHAT IT READS IS OF BULK AT MOST 1048576: true; the input reads as it did. -/
def loopHeadsUptoRow : OpenClaim := { program := "ytfegofaelmhnbaa", sum := "40d1b9292fd7d477dbf8b28a0de61b9b8587c9d1528a0c86532410ce9d120d1f", func := "davit/davitlaw09.LoopHeads", spec := "loopHeads", unfollowed := true, recurses := true, apart := false, narrowed := true }
def LoopHeadsUptoSaid : Prop := loopHeadsUptoRow.holds Try.pinned (OpenSpec.upto loopHeadsSpec)

/-- 'davitlaw09.LoopNests', WHERE WHAT IT READS IS OF BULK AT MOST 1048576: true; the input reads as it did. -/
def loopNestsUptoRow : OpenClaim := { program := "ytfegofaelmhnbaa", sum := "40d1b9292fd7d477dbf8b28a0de61b9b8587c9d1528a0c86532410ce9d120d1f", func := "davit/davitlaw09.LoopNests", spec := "loopNests", unfollowed := true, recurses := true, apart := false, narrowed := true }
def LoopNestsUptoSaid : Prop := loopNestsUptoRow.holds Try.pinned (OpenSpec.upto loopNestsSpec)

/-- 'davitlaw09.LoopNone', WHERE WHAT IT READS IS OF BULK AT MOST 1048576: true; the input reads as it did. -/
def loopNoneUptoRow : OpenClaim := { program := "ytfegofaelmhnbaa", sum := "40d1b9292fd7d477dbf8b28a0de61b9b8587c9d1528a0c86532410ce9d120d1f", func := "davit/davitlaw09.LoopNone", spec := "loopNone", unfollowed := true, recurses := true, apart := false, narrowed := true }
def LoopNoneUptoSaid : Prop := loopNoneUptoRow.holds Try.pinned (OpenSpec.upto loopNoneSpec)

end Rows
end Go.Proofs.Ytfegofaelmhnbaa

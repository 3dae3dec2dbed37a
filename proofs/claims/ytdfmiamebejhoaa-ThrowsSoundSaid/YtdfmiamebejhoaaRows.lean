/-
  No cell of these rows narrows 'for every input' (looked for: loops, veiled, ifaces, maps, wideKeys, modest, calm, conditions, laid).
  DERIVED. THE GIVEN ROWS OF THIS SEAT. 3 by the template 'for every input the law returns true; each argument reads behind the call as it read before'; 0 by the template 'total and deterministic' (their statements: YtdfmiamebejhoaaTotals.lean).
  GIVEN WITH THE SEED: the statements are not yours to turn. If you find one false, say at which input.
  Laid BY PROGRAM, IN A SANDBOX (cutbox-rows.mjs): the forced cells as the released guide's own fill.sh prints them over the translation 26934cb17e1b795c… (all of the seat's roots in one cut). By AI agents, Wed Nov 11 2026. No macro, syntax, notation, axiom, sorry.
-/
import Derived.Test.YtdfmiamebejhoaaChecked
import GoSem.Claim
import GoSem.ClaimJoined
import GoSem.ClaimMapViews
import Derived.JoinedTies
import Derived.KernelRfl
namespace Go.Proofs.Ytdfmiamebejhoaa
/- THE CELL 'sum', in the pinned program and in every row, IS THE sha256 OF THE DUMP (.gsa) THAT YtdfmiamebejhoaaProg.lean LOADS. Nothing in Lean hashes anything: it is a label: what it is worth is what the hold of that sum in a sandbox is worth. -/
noncomputable def Try.pinned : Pinned := { name := "ytdfmiamebejhoaa", sum := "26934cb17e1b795cf8b6edcf7cd445753b3e7d63132028c5882626393d69b84d", checked := Try.checked }
namespace Rows
def none {H : Type} : Left H := { results := [], args := [] }

/-- 'davitlaw12.ThrowsRight': WHATEVER THE INPUT: true; the input reads as it did. -/
def throwsRightSpec : ChangeSpec := { name := "throwsRight", fn := fun _ => fun
  | [d] => { results := [.lit (.bool true)], args := [d] }
  | _ => none }
def throwsRightRow : OpenClaim := { program := "ytdfmiamebejhoaa", sum := "26934cb17e1b795cf8b6edcf7cd445753b3e7d63132028c5882626393d69b84d", func := "davit/davitlaw12.ThrowsRight", spec := "throwsRight", unfollowed := true, recurses := true, apart := false }
def ThrowsRightSaid : Prop := throwsRightRow.holds Try.pinned (OpenSpec.ofChange throwsRightSpec)

/-- ITS FALSE NEIGHBOUR: 'it returns false'. Refute it at one input. -/
def throwsRightWrong : ChangeSpec := { name := "throwsRight", fn := fun _ => fun
  | [d] => { results := [.lit (.bool false)], args := [d] }
  | _ => none }
def ThrowsRightWrongFalsely : Prop := throwsRightRow.holds Try.pinned (OpenSpec.ofChange throwsRightWrong)

/-- 'davitlaw12.ThrowsSound': WHATEVER THE INPUT: true; the input reads as it did. -/
def throwsSoundSpec : ChangeSpec := { name := "throwsSound", fn := fun _ => fun
  | [d1, d2] => { results := [.lit (.bool true)], args := [d1, d2] }
  | _ => none }
def throwsSoundRow : OpenClaim := { program := "ytdfmiamebejhoaa", sum := "26934cb17e1b795cf8b6edcf7cd445753b3e7d63132028c5882626393d69b84d", func := "davit/davitlaw12.ThrowsSound", spec := "throwsSound", unfollowed := true, recurses := true, apart := false }
def ThrowsSoundSaid : Prop := throwsSoundRow.holds Try.pinned (OpenSpec.ofChange throwsSoundSpec)

/-- ITS FALSE NEIGHBOUR: 'it returns false'. Refute it at one input. -/
def throwsSoundWrong : ChangeSpec := { name := "throwsSound", fn := fun _ => fun
  | [d1, d2] => { results := [.lit (.bool false)], args := [d1, d2] }
  | _ => none }
def ThrowsSoundWrongFalsely : Prop := throwsSoundRow.holds Try.pinned (OpenSpec.ofChange throwsSoundWrong)

/-- 'davitlaw12.ThrowsMore': WHATEVER THE INPUT: true; the input reads as it did. -/
def throwsMoreSpec : ChangeSpec := { name := "throwsMore", fn := fun _ => fun
  | [d1, d2] => { results := [.lit (.bool true)], args := [d1, d2] }
  | _ => none }
def throwsMoreRow : OpenClaim := { program := "ytdfmiamebejhoaa", sum := "26934cb17e1b795cf8b6edcf7cd445753b3e7d63132028c5882626393d69b84d", func := "davit/davitlaw12.ThrowsMore", spec := "throwsMore", unfollowed := true, recurses := true, apart := false }
def ThrowsMoreSaid : Prop := throwsMoreRow.holds Try.pinned (OpenSpec.ofChange throwsMoreSpec)

/-- ITS FALSE NEIGHBOUR: 'it returns false'. Refute it at one input. -/
def throwsMoreWrong : ChangeSpec := { name := "throwsMore", fn := fun _ => fun
  | [d1, d2] => { results := [.lit (.bool false)], args := [d1, d2] }
  | _ => none }
def ThrowsMoreWrongFalsely : Prop := throwsMoreRow.holds Try.pinned (OpenSpec.ofChange throwsMoreWrong)

/- THE SECOND FORM. 'bulk': how many values and letters a reading holds, each counted each time it is reached (what is shared counts as often as it is met; a slice's spare places count too). A statement '..UptoSaid' is the law's where the arguments, and the package variables that the reading takes, are together of bulk at most 1048576: NARROWER than '..Said'. Prove '..Said' where nothing that the law and all that it calls make is longer than what came in: it says more and counts as full. Else prove '..UptoSaid'. A law counts once. -/
mutual
def uptoBulk {H : Type} : DataW H → Nat
  | .lit (.string bytes) => bytes.length + 1
  | .lit _ => 1
  | .nil => 1
  | .ptr d => uptoBulk d + 1
  | .slice elems spare => uptoBulkAll elems + uptoBulkAll spare + 1
  | .agg parts => uptoBulkAll parts + 1
  | .iface _ d => uptoBulk d + 1
  | .map entries => uptoBulkEntries entries + 1
  | .held _ => 1
def uptoBulkAll {H : Type} : List (DataW H) → Nat
  | [] => 0
  | d :: r => uptoBulk d + uptoBulkAll r
def uptoBulkEntries {H : Type} : List (Lit × DataW H) → Nat
  | [] => 0
  | x :: r => uptoBulkEntry x + uptoBulkEntries r
def uptoBulkEntry {H : Type} : Lit × DataW H → Nat
  | (.string bytes, d) => bytes.length + uptoBulk d + 1
  | (_, d) => uptoBulk d + 1
 end
def uptoSmall : (H : Type) → List (DataW H) → Bool := fun _ ds => decide (uptoBulkAll ds ≤ 1048576)
def OpenSpec.upto (s : _root_.Go.ChangeSpec) : _root_.Go.OpenSpec := { _root_.Go.OpenSpec.ofChange s with cond := some uptoSmall }

/-- 'davitlaw12.ThrowsRight', WHERE WHAT IT READS IS OF BULK AT MOST 1048576: true; the input reads as it did. -/
def throwsRightUptoRow : OpenClaim := { program := "ytdfmiamebejhoaa", sum := "26934cb17e1b795cf8b6edcf7cd445753b3e7d63132028c5882626393d69b84d", func := "davit/davitlaw12.ThrowsRight", spec := "throwsRight", unfollowed := true, recurses := true, apart := false, narrowed := true }
def ThrowsRightUptoSaid : Prop := throwsRightUptoRow.holds Try.pinned (OpenSpec.upto throwsRightSpec)

/-- 'davitlaw12.ThrowsSound', WHERE WHAT IT READS IS OF BULK AT MOST 1048576: true; the input reads as it did. -/
def throwsSoundUptoRow : OpenClaim := { program := "ytdfmiamebejhoaa", sum := "26934cb17e1b795cf8b6edcf7cd445753b3e7d63132028c5882626393d69b84d", func := "davit/davitlaw12.ThrowsSound", spec := "throwsSound", unfollowed := true, recurses := true, apart := false, narrowed := true }
def ThrowsSoundUptoSaid : Prop := throwsSoundUptoRow.holds Try.pinned (OpenSpec.upto throwsSoundSpec)

/-- 'davitlaw12.ThrowsMore', WHERE WHAT IT READS IS OF BULK AT MOST 1048576: true; the input reads as it did. -/
def throwsMoreUptoRow : OpenClaim := { program := "ytdfmiamebejhoaa", sum := "26934cb17e1b795cf8b6edcf7cd445753b3e7d63132028c5882626393d69b84d", func := "davit/davitlaw12.ThrowsMore", spec := "throwsMore", unfollowed := true, recurses := true, apart := false, narrowed := true }
def ThrowsMoreUptoSaid : Prop := throwsMoreUptoRow.holds Try.pinned (OpenSpec.upto throwsMoreSpec)

end Rows
end Go.Proofs.Ytdfmiamebejhoaa

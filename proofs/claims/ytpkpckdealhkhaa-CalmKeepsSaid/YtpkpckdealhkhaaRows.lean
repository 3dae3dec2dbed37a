/-
  No cell of these rows narrows 'for every input' (looked for: loops, veiled, ifaces, maps, wideKeys, modest, calm, conditions, laid).
  DERIVED. THE GIVEN ROWS OF THIS SEAT. 3 by the template 'for every input the law returns true; each argument reads behind the call as it read before'; 0 by the template 'total and deterministic' (their statements: YtpkpckdealhkhaaTotals.lean).
  GIVEN WITH THE SEED: the statements are not yours to turn. If you find one false, say at which input.
  Laid BY PROGRAM, IN A SANDBOX (cutbox-rows.mjs): the forced cells as the released guide's own fill.sh prints them over the translation 01ade9a7c64f5dea… (all of the seat's roots in one cut). By AI agents, Wed Nov 11 2026. No macro, syntax, notation, axiom, sorry.
-/
import Derived.Test.YtpkpckdealhkhaaChecked
import GoSem.Claim
import GoSem.ClaimJoined
import GoSem.ClaimMapViews
import Derived.JoinedTies
import Derived.KernelRfl
namespace Go.Proofs.Ytpkpckdealhkhaa
/- THE CELL 'sum', in the pinned program and in every row, IS THE sha256 OF THE DUMP (.gsa) THAT YtpkpckdealhkhaaProg.lean LOADS. Nothing in Lean hashes anything: it is a label: what it is worth is what the hold of that sum in a sandbox is worth. -/
noncomputable def Try.pinned : Pinned := { name := "ytpkpckdealhkhaa", sum := "01ade9a7c64f5dea58cc3cd0d280c11a387c926dee8109a3368697e5f796adc3", checked := Try.checked }
namespace Rows
def none {H : Type} : Left H := { results := [], args := [] }

/-- 'davitlaw14.CalmRight': WHATEVER THE INPUT: true; the input reads as it did. -/
def calmRightSpec : ChangeSpec := { name := "calmRight", fn := fun _ => fun
  | [d] => { results := [.lit (.bool true)], args := [d] }
  | _ => none }
def calmRightRow : OpenClaim := { program := "ytpkpckdealhkhaa", sum := "01ade9a7c64f5dea58cc3cd0d280c11a387c926dee8109a3368697e5f796adc3", func := "davit/davitlaw14.CalmRight", spec := "calmRight", unfollowed := true, recurses := true, apart := false }
def CalmRightSaid : Prop := calmRightRow.holds Try.pinned (OpenSpec.ofChange calmRightSpec)

/-- ITS FALSE NEIGHBOUR: 'it returns false'. Refute it at one input. -/
def calmRightWrong : ChangeSpec := { name := "calmRight", fn := fun _ => fun
  | [d] => { results := [.lit (.bool false)], args := [d] }
  | _ => none }
def CalmRightWrongFalsely : Prop := calmRightRow.holds Try.pinned (OpenSpec.ofChange calmRightWrong)

/-- 'davitlaw14.CalmKeeps': WHATEVER THE INPUT: true; the input reads as it did. -/
def calmKeepsSpec : ChangeSpec := { name := "calmKeeps", fn := fun _ => fun
  | [d1, d2, d3] => { results := [.lit (.bool true)], args := [d1, d2, d3] }
  | _ => none }
def calmKeepsRow : OpenClaim := { program := "ytpkpckdealhkhaa", sum := "01ade9a7c64f5dea58cc3cd0d280c11a387c926dee8109a3368697e5f796adc3", func := "davit/davitlaw14.CalmKeeps", spec := "calmKeeps", unfollowed := true, recurses := true, apart := false }
def CalmKeepsSaid : Prop := calmKeepsRow.holds Try.pinned (OpenSpec.ofChange calmKeepsSpec)

/-- ITS FALSE NEIGHBOUR: 'it returns false'. Refute it at one input. -/
def calmKeepsWrong : ChangeSpec := { name := "calmKeeps", fn := fun _ => fun
  | [d1, d2, d3] => { results := [.lit (.bool false)], args := [d1, d2, d3] }
  | _ => none }
def CalmKeepsWrongFalsely : Prop := calmKeepsRow.holds Try.pinned (OpenSpec.ofChange calmKeepsWrong)

/-- 'davitlaw14.CalmCounts': WHATEVER THE INPUT: true; the input reads as it did. -/
def calmCountsSpec : ChangeSpec := { name := "calmCounts", fn := fun _ => fun
  | [d] => { results := [.lit (.bool true)], args := [d] }
  | _ => none }
def calmCountsRow : OpenClaim := { program := "ytpkpckdealhkhaa", sum := "01ade9a7c64f5dea58cc3cd0d280c11a387c926dee8109a3368697e5f796adc3", func := "davit/davitlaw14.CalmCounts", spec := "calmCounts", unfollowed := true, recurses := true, apart := false }
def CalmCountsSaid : Prop := calmCountsRow.holds Try.pinned (OpenSpec.ofChange calmCountsSpec)

/-- ITS FALSE NEIGHBOUR: 'it returns false'. Refute it at one input. -/
def calmCountsWrong : ChangeSpec := { name := "calmCounts", fn := fun _ => fun
  | [d] => { results := [.lit (.bool false)], args := [d] }
  | _ => none }
def CalmCountsWrongFalsely : Prop := calmCountsRow.holds Try.pinned (OpenSpec.ofChange calmCountsWrong)

/- THE SECOND FORM. 'bulk': how many values and letters a reading holds, each counted each time it is reached (what is shared counts as often as it is met; a slice's spare places count too). A statement '..UptoSaid' is the law's where the arguments, and the package variables that the reading takes, are together of bulk at most 1048576: NARROWER than '..Said'. Prove '..Said' where nothing that the law and all that it calls make is longer than what came in: it says more and counts as full. Else prove '..UptoSaid'. A law counts once. -/
mutual
def uptoBulk {H : Type} : DataW H → Nat
  | .lit (.string bytes) => bytes.length + 1
  | .lit _ => 1
  | .nil => 1
  | .ptr d => uptoBulk d + 1
  | .slice elems spare => uptoBulkAll elems + uptoBulkAll spare + 1
  | .agg parts => uptoBulkAll parts + 1
  | .iface _ d => uptoBulk d + 1
  | .map entries => uptoBulkEntries entries + 1
  | .held _ => 1
def uptoBulkAll {H : Type} : List (DataW H) → Nat
  | [] => 0
  | d :: r => uptoBulk d + uptoBulkAll r
def uptoBulkEntries {H : Type} : List (Lit × DataW H) → Nat
  | [] => 0
  | x :: r => uptoBulkEntry x + uptoBulkEntries r
def uptoBulkEntry {H : Type} : Lit × DataW H → Nat
  | (.string bytes, d) => bytes.length + uptoBulk d + 1
  | (_, d) => uptoBulk d + 1
 end
def uptoSmall : (H : Type) → List (DataW H) → Bool := fun _ ds => decide (uptoBulkAll ds ≤ 1048576)
def OpenSpec.upto (s : _root_.Go.ChangeSpec) : _root_.Go.OpenSpec := { _root_.Go.OpenSpec.ofChange s with cond := some uptoSmall }

/-- 'davitlaw14.CalmRight', WHERE WHAT IT READS IS OF BULK AT MOST 1048576: true; the input reads as it did. -/
def calmRightUptoRow : OpenClaim := { program := "ytpkpckdealhkhaa", sum := "01ade9a7c64f5dea58cc3cd0d280c11a387c926dee8109a3368697e5f796adc3", func := "davit/davitlaw14.CalmRight", spec := "calmRight", unfollowed := true, recurses := true, apart := false, narrowed := true }
def CalmRightUptoSaid : Prop := calmRightUptoRow.holds Try.pinned (OpenSpec.upto calmRightSpec)

/-- 'davitlaw14.CalmKeeps', WHERE WHAT IT READS IS OF BULK AT MOST 1048576: true; the input reads as it did. -/
def calmKeepsUptoRow : OpenClaim := { program := "ytpkpckdealhkhaa", sum := "01ade9a7c64f5dea58cc3cd0d280c11a387c926dee8109a3368697e5f796adc3", func := "davit/davitlaw14.CalmKeeps", spec := "calmKeeps", unfollowed := true, recurses := true, apart := false, narrowed := true }
def CalmKeepsUptoSaid : Prop := calmKeepsUptoRow.holds Try.pinned (OpenSpec.upto calmKeepsSpec)

/-- 'davitlaw14.CalmCounts', WHERE WHAT IT READS IS OF BULK AT MOST 1048576: true; the input reads as it did. -/
def calmCountsUptoRow : OpenClaim := { program := "ytpkpckdealhkhaa", sum := "01ade9a7c64f5dea58cc3cd0d280c11a387c926dee8109a3368697e5f796adc3", func := "davit/davitlaw14.CalmCounts", spec := "calmCounts", unfollowed := true, recurses := true, apart := false, narrowed := true }
def CalmCountsUptoSaid : Prop := calmCountsUptoRow.holds Try.pinned (OpenSpec.upto calmCountsSpec)

end Rows
end Go.Proofs.Ytpkpckdealhkhaa

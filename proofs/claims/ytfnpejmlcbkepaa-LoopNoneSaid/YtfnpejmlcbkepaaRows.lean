/-
  No cell of these rows narrows 'for every input' (looked for: loops, veiled, ifaces, maps, wideKeys, modest, calm, conditions, laid).
  DERIVED. THE GIVEN ROWS OF THIS SEAT. 12 by the template 'for every input the law returns true; each argument reads behind the call as it read before'; 0 by the template 'total and deterministic' (their statements: YtfnpejmlcbkepaaTotals.lean).
  GIVEN WITH THE SEED: the statements are not yours to turn. If you find one false, say at which input.
  Laid BY PROGRAM, IN A SANDBOX (cutbox-rows.mjs): the forced cells as the released guide's own fill.sh prints them over the translation ff75932f00177e07… (all of the seat's roots in one cut). By AI agents, Wed Nov 11 2026. No macro, syntax, notation, axiom, sorry.
-/
import Derived.Test.YtfnpejmlcbkepaaChecked
import GoSem.Claim
import GoSem.ClaimJoined
import GoSem.ClaimMapViews
import Derived.JoinedTies
import Derived.KernelRfl
namespace Go.Proofs.Ytfnpejmlcbkepaa
/- THE CELL 'sum', in the pinned program and in every row, IS THE sha256 OF THE DUMP (.gsa) THAT YtfnpejmlcbkepaaProg.lean LOADS. Nothing in Lean hashes anything: it is a label: what it is worth is what the hold of that sum in a sandbox is worth. -/
noncomputable def Try.pinned : Pinned := { name := "ytfnpejmlcbkepaa", sum := "ff75932f00177e0778e586b35f20162e7f3298267cab81317f4ff94cdbce36ea", checked := Try.checked }
namespace Rows
def none {H : Type} : Left H := { results := [], args := [] }

/-- 'davitlaw07.FlowRight': WHATEVER THE INPUT: true; the input reads as it did. -/
def flowRightSpec : ChangeSpec := { name := "flowRight", fn := fun _ => fun
  | [d1, d2] => { results := [.lit (.bool true)], args := [d1, d2] }
  | _ => none }
def flowRightRow : OpenClaim := { program := "ytfnpejmlcbkepaa", sum := "ff75932f00177e0778e586b35f20162e7f3298267cab81317f4ff94cdbce36ea", func := "davit/davitlaw07.FlowRight", spec := "flowRight", unfollowed := true, recurses := true, apart := false }
def FlowRightSaid : Prop := flowRightRow.holds Try.pinned (OpenSpec.ofChange flowRightSpec)

/-- ITS FALSE NEIGHBOUR: 'it returns false'. Refute it at one input. -/
def flowRightWrong : ChangeSpec := { name := "flowRight", fn := fun _ => fun
  | [d1, d2] => { results := [.lit (.bool false)], args := [d1, d2] }
  | _ => none }
def FlowRightWrongFalsely : Prop := flowRightRow.holds Try.pinned (OpenSpec.ofChange flowRightWrong)

/-- 'davitlaw07.FlowOrder': WHATEVER THE INPUT: true; the input reads as it did. -/
def flowOrderSpec : ChangeSpec := { name := "flowOrder", fn := fun _ => fun
  | [d] => { results := [.lit (.bool true)], args := [d] }
  | _ => none }
def flowOrderRow : OpenClaim := { program := "ytfnpejmlcbkepaa", sum := "ff75932f00177e0778e586b35f20162e7f3298267cab81317f4ff94cdbce36ea", func := "davit/davitlaw07.FlowOrder", spec := "flowOrder", unfollowed := true, recurses := true, apart := false }
def FlowOrderSaid : Prop := flowOrderRow.holds Try.pinned (OpenSpec.ofChange flowOrderSpec)

/-- ITS FALSE NEIGHBOUR: 'it returns false'. Refute it at one input. -/
def flowOrderWrong : ChangeSpec := { name := "flowOrder", fn := fun _ => fun
  | [d] => { results := [.lit (.bool false)], args := [d] }
  | _ => none }
def FlowOrderWrongFalsely : Prop := flowOrderRow.holds Try.pinned (OpenSpec.ofChange flowOrderWrong)

/-- 'davitlaw07.FlowReaches': WHATEVER THE INPUT: true; the input reads as it did. -/
def flowReachesSpec : ChangeSpec := { name := "flowReaches", fn := fun _ => fun
  | [d1, d2, d3] => { results := [.lit (.bool true)], args := [d1, d2, d3] }
  | _ => none }
def flowReachesRow : OpenClaim := { program := "ytfnpejmlcbkepaa", sum := "ff75932f00177e0778e586b35f20162e7f3298267cab81317f4ff94cdbce36ea", func := "davit/davitlaw07.FlowReaches", spec := "flowReaches", unfollowed := true, recurses := true, apart := false }
def FlowReachesSaid : Prop := flowReachesRow.holds Try.pinned (OpenSpec.ofChange flowReachesSpec)

/-- ITS FALSE NEIGHBOUR: 'it returns false'. Refute it at one input. -/
def flowReachesWrong : ChangeSpec := { name := "flowReaches", fn := fun _ => fun
  | [d1, d2, d3] => { results := [.lit (.bool false)], args := [d1, d2, d3] }
  | _ => none }
def FlowReachesWrongFalsely : Prop := flowReachesRow.holds Try.pinned (OpenSpec.ofChange flowReachesWrong)

/-- 'davitlaw07.FlowMore': WHATEVER THE INPUT: true; the input reads as it did. -/
def flowMoreSpec : ChangeSpec := { name := "flowMore", fn := fun _ => fun
  | [d1, d2, d3] => { results := [.lit (.bool true)], args := [d1, d2, d3] }
  | _ => none }
def flowMoreRow : OpenClaim := { program := "ytfnpejmlcbkepaa", sum := "ff75932f00177e0778e586b35f20162e7f3298267cab81317f4ff94cdbce36ea", func := "davit/davitlaw07.FlowMore", spec := "flowMore", unfollowed := true, recurses := true, apart := false }
def FlowMoreSaid : Prop := flowMoreRow.holds Try.pinned (OpenSpec.ofChange flowMoreSpec)

/-- ITS FALSE NEIGHBOUR: 'it returns false'. Refute it at one input. -/
def flowMoreWrong : ChangeSpec := { name := "flowMore", fn := fun _ => fun
  | [d1, d2, d3] => { results := [.lit (.bool false)], args := [d1, d2, d3] }
  | _ => none }
def FlowMoreWrongFalsely : Prop := flowMoreRow.holds Try.pinned (OpenSpec.ofChange flowMoreWrong)

/-- 'davitlaw08.DomRight': WHATEVER THE INPUT: true; the input reads as it did. -/
def domRightSpec : ChangeSpec := { name := "domRight", fn := fun _ => fun
  | [d1, d2, d3] => { results := [.lit (.bool true)], args := [d1, d2, d3] }
  | _ => none }
def domRightRow : OpenClaim := { program := "ytfnpejmlcbkepaa", sum := "ff75932f00177e0778e586b35f20162e7f3298267cab81317f4ff94cdbce36ea", func := "davit/davitlaw08.DomRight", spec := "domRight", unfollowed := true, recurses := true, apart := false }
def DomRightSaid : Prop := domRightRow.holds Try.pinned (OpenSpec.ofChange domRightSpec)

/-- ITS FALSE NEIGHBOUR: 'it returns false'. Refute it at one input. -/
def domRightWrong : ChangeSpec := { name := "domRight", fn := fun _ => fun
  | [d1, d2, d3] => { results := [.lit (.bool false)], args := [d1, d2, d3] }
  | _ => none }
def DomRightWrongFalsely : Prop := domRightRow.holds Try.pinned (OpenSpec.ofChange domRightWrong)

/-- 'davitlaw08.DomOver': WHATEVER THE INPUT: true; the input reads as it did. -/
def domOverSpec : ChangeSpec := { name := "domOver", fn := fun _ => fun
  | [d1, d2, d3, d4, d5] => { results := [.lit (.bool true)], args := [d1, d2, d3, d4, d5] }
  | _ => none }
def domOverRow : OpenClaim := { program := "ytfnpejmlcbkepaa", sum := "ff75932f00177e0778e586b35f20162e7f3298267cab81317f4ff94cdbce36ea", func := "davit/davitlaw08.DomOver", spec := "domOver", unfollowed := true, recurses := true, apart := false }
def DomOverSaid : Prop := domOverRow.holds Try.pinned (OpenSpec.ofChange domOverSpec)

/-- ITS FALSE NEIGHBOUR: 'it returns false'. Refute it at one input. -/
def domOverWrong : ChangeSpec := { name := "domOver", fn := fun _ => fun
  | [d1, d2, d3, d4, d5] => { results := [.lit (.bool false)], args := [d1, d2, d3, d4, d5] }
  | _ => none }
def DomOverWrongFalsely : Prop := domOverRow.holds Try.pinned (OpenSpec.ofChange domOverWrong)

/-- 'davitlaw08.DomEdges': WHATEVER THE INPUT: true; the input reads as it did. -/
def domEdgesSpec : ChangeSpec := { name := "domEdges", fn := fun _ => fun
  | [d] => { results := [.lit (.bool true)], args := [d] }
  | _ => none }
def domEdgesRow : OpenClaim := { program := "ytfnpejmlcbkepaa", sum := "ff75932f00177e0778e586b35f20162e7f3298267cab81317f4ff94cdbce36ea", func := "davit/davitlaw08.DomEdges", spec := "domEdges", unfollowed := true, recurses := true, apart := false }
def DomEdgesSaid : Prop := domEdgesRow.holds Try.pinned (OpenSpec.ofChange domEdgesSpec)

/-- ITS FALSE NEIGHBOUR: 'it returns false'. Refute it at one input. -/
def domEdgesWrong : ChangeSpec := { name := "domEdges", fn := fun _ => fun
  | [d] => { results := [.lit (.bool false)], args := [d] }
  | _ => none }
def DomEdgesWrongFalsely : Prop := domEdgesRow.holds Try.pinned (OpenSpec.ofChange domEdgesWrong)

/-- 'davitlaw08.DomChain': WHATEVER THE INPUT: true; the input reads as it did. -/
def domChainSpec : ChangeSpec := { name := "domChain", fn := fun _ => fun
  | [d] => { results := [.lit (.bool true)], args := [d] }
  | _ => none }
def domChainRow : OpenClaim := { program := "ytfnpejmlcbkepaa", sum := "ff75932f00177e0778e586b35f20162e7f3298267cab81317f4ff94cdbce36ea", func := "davit/davitlaw08.DomChain", spec := "domChain", unfollowed := true, recurses := true, apart := false }
def DomChainSaid : Prop := domChainRow.holds Try.pinned (OpenSpec.ofChange domChainSpec)

/-- ITS FALSE NEIGHBOUR: 'it returns false'. Refute it at one input. -/
def domChainWrong : ChangeSpec := { name := "domChain", fn := fun _ => fun
  | [d] => { results := [.lit (.bool false)], args := [d] }
  | _ => none }
def DomChainWrongFalsely : Prop := domChainRow.holds Try.pinned (OpenSpec.ofChange domChainWrong)

/-- 'davitlaw09.LoopRight': WHATEVER THE INPUT: true; the input reads as it did. -/
def loopRightSpec : ChangeSpec := { name := "loopRight", fn := fun _ => fun
  | [d1, d2] => { results := [.lit (.bool true)], args := [d1, d2] }
  | _ => none }
def loopRightRow : OpenClaim := { program := "ytfnpejmlcbkepaa", sum := "ff75932f00177e0778e586b35f20162e7f3298267cab81317f4ff94cdbce36ea", func := "davit/davitlaw09.LoopRight", spec := "loopRight", unfollowed := true, recurses := true, apart := false }
def LoopRightSaid : Prop := loopRightRow.holds Try.pinned (OpenSpec.ofChange loopRightSpec)

/-- ITS FALSE NEIGHBOUR: 'it returns false'. Refute it at one input. -/
def loopRightWrong : ChangeSpec := { name := "loopRight", fn := fun _ => fun
  | [d1, d2] => { results := [.lit (.bool false)], args := [d1, d2] }
  | _ => none }
def LoopRightWrongFalsely : Prop := loopRightRow.holds Try.pinned (OpenSpec.ofChange loopRightWrong)

/-- 'davitlaw09.LoopHeads': WHATEVER THE INPUT: true; the input reads as it did. -/
def loopHeadsSpec : ChangeSpec := { name := "loopHeads", fn := fun _ => fun
  | [d] => { results := [.lit (.bool true)], args := [d] }
  | _ => none }
def loopHeadsRow : OpenClaim := { program := "ytfnpejmlcbkepaa", sum := "ff75932f00177e0778e586b35f20162e7f3298267cab81317f4ff94cdbce36ea", func := "davit/davitlaw09.LoopHeads", spec := "loopHeads", unfollowed := true, recurses := true, apart := false }
def LoopHeadsSaid : Prop := loopHeadsRow.holds Try.pinned (OpenSpec.ofChange loopHeadsSpec)

/-- ITS FALSE NEIGHBOUR: 'it returns false'. Refute it at one input. -/
def loopHeadsWrong : ChangeSpec := { name := "loopHeads", fn := fun _ => fun
  | [d] => { results := [.lit (.bool false)], args := [d] }
  | _ => none }
def LoopHeadsWrongFalsely : Prop := loopHeadsRow.holds Try.pinned (OpenSpec.ofChange loopHeadsWrong)

/-- 'davitlaw09.LoopNests': WHATEVER THE INPUT: true; the input reads as it did. -/
def loopNestsSpec : ChangeSpec := { name := "loopNests", fn := fun _ => fun
  | [d] => { results := [.lit (.bool true)], args := [d] }
  | _ => none }
def loopNestsRow : OpenClaim := { program := "ytfnpejmlcbkepaa", sum := "ff75932f00177e0778e586b35f20162e7f3298267cab81317f4ff94cdbce36ea", func := "davit/davitlaw09.LoopNests", spec := "loopNests", unfollowed := true, recurses := true, apart := false }
def LoopNestsSaid : Prop := loopNestsRow.holds Try.pinned (OpenSpec.ofChange loopNestsSpec)

/-- ITS FALSE NEIGHBOUR: 'it returns false'. Refute it at one input. -/
def loopNestsWrong : ChangeSpec := { name := "loopNests", fn := fun _ => fun
  | [d] => { results := [.lit (.bool false)], args := [d] }
  | _ => none }
def LoopNestsWrongFalsely : Prop := loopNestsRow.holds Try.pinned (OpenSpec.ofChange loopNestsWrong)

/-- 'davitlaw09.LoopNone': WHATEVER THE INPUT: true; the input reads as it did. -/
def loopNoneSpec : ChangeSpec := { name := "loopNone", fn := fun _ => fun
  | [d1, d2] => { results := [.lit (.bool true)], args := [d1, d2] }
  | _ => none }
def loopNoneRow : OpenClaim := { program := "ytfnpejmlcbkepaa", sum := "ff75932f00177e0778e586b35f20162e7f3298267cab81317f4ff94cdbce36ea", func := "davit/davitlaw09.LoopNone", spec := "loopNone", unfollowed := true, recurses := true, apart := false }
def LoopNoneSaid : Prop := loopNoneRow.holds Try.pinned (OpenSpec.ofChange loopNoneSpec)

/-- ITS FALSE NEIGHBOUR: 'it returns false'. Refute it at one input. -/
def loopNoneWrong : ChangeSpec := { name := "loopNone", fn := fun _ => fun
  | [d1, d2] => { results := [.lit (.bool false)], args := [d1, d2] }
  | _ => none }
def LoopNoneWrongFalsely : Prop := loopNoneRow.holds Try.pinned (OpenSpec.ofChange loopNoneWrong)

/- THE SECOND FORM. 'bulk': how many values and letters a reading holds, each counted each time it is reached (what is shared counts as often as it is met; a slice's spare places count too). A statement '..UptoSaid' is the law's where the arguments, and the package variables that the reading takes, are together of bulk at most 1048576: NARROWER than '..Said'. Prove '..Said' where nothing that the law and all that it calls make is longer than what came in: it says more and counts as full. Else prove '..UptoSaid'. A law counts once. -/
mutual
def uptoBulk {H : Type} : DataW H → Nat
  | .lit (.string bytes) => bytes.length + 1
  | .lit _ => 1
  | .nil => 1
  | .ptr d => uptoBulk d + 1
  | .slice elems spare => uptoBulkAll elems + uptoBulkAll spare + 1
  | .agg parts => uptoBulkAll parts + 1
  | .iface _ d => uptoBulk d + 1
  | .map entries => uptoBulkEntries entries + 1
  | .held _ => 1
def uptoBulkAll {H : Type} : List (DataW H) → Nat
  | [] => 0
  | d :: r => uptoBulk d + uptoBulkAll r
def uptoBulkEntries {H : Type} : List (Lit × DataW H) → Nat
  | [] => 0
  | x :: r => uptoBulkEntry x + uptoBulkEntries r
def uptoBulkEntry {H : Type} : Lit × DataW H → Nat
  | (.string bytes, d) => bytes.length + uptoBulk d + 1
  | (_, d) => uptoBulk d + 1
 end
def uptoSmall : (H : Type) → List (DataW H) → Bool := fun _ ds => decide (uptoBulkAll ds ≤ 1048576)
def OpenSpec.upto (s : _root_.Go.ChangeSpec) : _root_.Go.OpenSpec := { _root_.Go.OpenSpec.ofChange s with cond := some uptoSmall }

/-- 'davitlaw07.FlowRight', WHERE WHAT IT READS IS OF BULK AT MOST 1048576: true; the input reads as it did. -/
def flowRightUptoRow : OpenClaim := { program := "ytfnpejmlcbkepaa", sum := "ff75932f00177e0778e586b35f20162e7f3298267cab81317f4ff94cdbce36ea", func := "davit/davitlaw07.FlowRight", spec := "flowRight", unfollowed := true, recurses := true, apart := false, narrowed := true }
def FlowRightUptoSaid : Prop := flowRightUptoRow.holds Try.pinned (OpenSpec.upto flowRightSpec)

/-- 'davitlaw07.FlowOrder', WHERE WHAT IT READS IS OF BULK AT MOST 1048576: true; the input reads as it did. -/
def flowOrderUptoRow : OpenClaim := { program := "ytfnpejmlcbkepaa", sum := "ff75932f00177e0778e586b35f20162e7f3298267cab81317f4ff94cdbce36ea", func := "davit/davitlaw07.FlowOrder", spec := "flowOrder", unfollowed := true, recurses := true, apart := false, narrowed := true }
def FlowOrderUptoSaid : Prop := flowOrderUptoRow.holds Try.pinned (OpenSpec.upto flowOrderSpec)

/-- 'davitlaw07.FlowReaches', WHERE WHAT IT READS IS OF BULK AT MOST 1048576: true; the input reads as it did. -/
def flowReachesUptoRow : OpenClaim := { program := "ytfnpejmlcbkepaa", sum := "ff75932f00177e0778e586b35f20162e7f3298267cab81317f4ff94cdbce36ea", func := "davit/davitlaw07.FlowReaches", spec := "flowReaches", unfollowed := true, recurses := true, apart := false, narrowed := true }
def FlowReachesUptoSaid : Prop := flowReachesUptoRow.holds Try.pinned (OpenSpec.upto flowReachesSpec)

/-- 'davitlaw07.FlowMore', WHERE WHAT IT READS IS OF BULK AT MOST 1048576: true; the input reads as it did. -/
def flowMoreUptoRow : OpenClaim := { program := "ytfnpejmlcbkepaa", sum := "ff75932f00177e0778e586b35f20162e7f3298267cab81317f4ff94cdbce36ea", func := "davit/davitlaw07.FlowMore", spec := "flowMore", unfollowed := true, recurses := true, apart := false, narrowed := true }
def FlowMoreUptoSaid : Prop := flowMoreUptoRow.holds Try.pinned (OpenSpec.upto flowMoreSpec)

/-- 'davitlaw08.DomRight', WHERE WHAT IT READS IS OF BULK AT MOST 1048576: true; the input reads as it did. -/
def domRightUptoRow : OpenClaim := { program := "ytfnpejmlcbkepaa", sum := "ff75932f00177e0778e586b35f20162e7f3298267cab81317f4ff94cdbce36ea", func := "davit/davitlaw08.DomRight", spec := "domRight", unfollowed := true, recurses := true, apart := false, narrowed := true }
def DomRightUptoSaid : Prop := domRightUptoRow.holds Try.pinned (OpenSpec.upto domRightSpec)

/-- 'davitlaw08.DomOver', WHERE WHAT IT READS IS OF BULK AT MOST 1048576: true; the input reads as it did. -/
def domOverUptoRow : OpenClaim := { program := "ytfnpejmlcbkepaa", sum := "ff75932f00177e0778e586b35f20162e7f3298267cab81317f4ff94cdbce36ea", func := "davit/davitlaw08.DomOver", spec := "domOver", unfollowed := true, recurses := true, apart := false, narrowed := true }
def DomOverUptoSaid : Prop := domOverUptoRow.holds Try.pinned (OpenSpec.upto domOverSpec)

/-- 'davitlaw08.DomEdges', WHERE WHAT IT READS IS OF BULK AT MOST 1048576: true; the input reads as it did. -/
def domEdgesUptoRow : OpenClaim := { program := "ytfnpejmlcbkepaa", sum := "ff75932f00177e0778e586b35f20162e7f3298267cab81317f4ff94cdbce36ea", func := "davit/davitlaw08.DomEdges", spec := "domEdges", unfollowed := true, recurses := true, apart := false, narrowed := true }
def DomEdgesUptoSaid : Prop := domEdgesUptoRow.holds Try.pinned (OpenSpec.upto domEdgesSpec)

/-- 'davitlaw08.DomChain', WHERE WHAT IT READS IS OF BULK AT MOST 1048576: true; the input reads as it did. -/
def domChainUptoRow : OpenClaim := { program := "ytfnpejmlcbkepaa", sum := "ff75932f00177e0778e586b35f20162e7f3298267cab81317f4ff94cdbce36ea", func := "davit/davitlaw08.DomChain", spec := "domChain", unfollowed := true, recurses := true, apart := false, narrowed := true }
def DomChainUptoSaid : Prop := domChainUptoRow.holds Try.pinned (OpenSpec.upto domChainSpec)

/-- 'davitlaw09.LoopRight', WHERE WHAT IT READS IS OF BULK AT MOST 1048576: true; the input reads as it did. -/
def loopRightUptoRow : OpenClaim := { program := "ytfnpejmlcbkepaa", sum := "ff75932f00177e0778e586b35f20162e7f3298267cab81317f4ff94cdbce36ea", func := "davit/davitlaw09.LoopRight", spec := "loopRight", unfollowed := true, recurses := true, apart := false, narrowed := true }
def LoopRightUptoSaid : Prop := loopRightUptoRow.holds Try.pinned (OpenSpec.upto loopRightSpec)

/-- 'davitlaw09.LoopHeads', WHERE WHAT IT READS IS OF BULK AT MOST 1048576: true; the input reads as it did. -/
def loopHeadsUptoRow : OpenClaim := { program := "ytfnpejmlcbkepaa", sum := "ff75932f00177e0778e586b35f20162e7f3298267cab81317f4ff94cdbce36ea", func := "davit/davitlaw09.LoopHeads", spec := "loopHeads", unfollowed := true, recurses := true, apart := false, narrowed := true }
def LoopHeadsUptoSaid : Prop := loopHeadsUptoRow.holds Try.pinned (OpenSpec.upto loopHeadsSpec)

/-- 'davitlaw09.LoopNests', WHERE WHAT IT READS IS OF BULK AT MOST 1048576: true; the input reads as it did. -/
def loopNestsUptoRow : OpenClaim := { program := "ytfnpejmlcbkepaa", sum := "ff75932f00177e0778e586b35f20162e7f3298267cab81317f4ff94cdbce36ea", func := "davit/davitlaw09.LoopNests", spec := "loopNests", unfollowed := true, recurses := true, apart := false, narrowed := true }
def LoopNestsUptoSaid : Prop := loopNestsUptoRow.holds Try.pinned (OpenSpec.upto loopNestsSpec)

/-- 'davitlaw09.LoopNone', WHERE WHAT IT READS IS OF BULK AT MOST 1048576: true; the input reads as it did. -/
def loopNoneUptoRow : OpenClaim := { program := "ytfnpejmlcbkepaa", sum := "ff75932f00177e0778e586b35f20162e7f3298267cab81317f4ff94cdbce36ea", func := "davit/davitlaw09.LoopNone", spec := "loopNone", unfollowed := true, recurses := true, apart := false, narrowed := true }
def LoopNoneUptoSaid : Prop := loopNoneUptoRow.holds Try.pinned (OpenSpec.upto loopNoneSpec)

end Rows
end Go.Proofs.Ytfnpejmlcbkepaa

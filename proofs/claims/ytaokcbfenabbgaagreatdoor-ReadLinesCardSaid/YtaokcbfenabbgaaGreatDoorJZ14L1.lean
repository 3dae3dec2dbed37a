/-
  For any line the law ReadLines of layer 4 answers true (a line is the document's instruction,end or pad,or none),and its argument stays asz it was.
  Conditions: none beyond the given row's own; the tables that its row lists are tied to the program's text by the card.
-/
import Derived.Test.YtaokcbfenabbgaaGreatDoorJZ14B
import Derived.Test.YtaokcbfenabbgaaGreatDoorJZ14O
import Derived.Shelf.Vars
import Derived.Test.YtaokcbfenabbgaaGreatDoorRows
import Derived.Test.YtaokcbfenabbgaaGreatDoorTie
import Derived.Test.YtaokcbfenabbgaaGreatDoorCards
import Derived.WalkKit
import Derived.ProofKit
import Derived.OpenShut
import Derived.LaidMore
import Derived.Lib.LaidTab
import Derived.Stop.LaidErr
import Derived.SevenTiedAt
set_option linter.all false
namespace Go.Proofs.YtaokcbfenabbgaaGreatDoor.lawsLaid
open Go Go.Ab Go.ChangeShapes Go.WideShapes Go.ChangeAt Go.RowKit
set_option maxRecDepth 100000
theorem own:ownKnob Tryz.prog.godebug=none:=by kernel_rfl
theorem laid:laidOutB Tryz.prog=true:=by kernel_rfl
noncomputable def laidWorld (os:Os):World :=
 let w0:=World.doorLaid Tryz.prog 72 os
 { w0 with heap:=w0.heap.modify 4 fun
  | .cells _ t frozen=>.cells (Pinned.utf8FirstZ.map fun (z:Nat)=>Value.int .u8 (Int.ofNat z)).toArray t frozen
  | o=>o }
theorem door_met (os:Os) (args:Array Value):laidMetH Tryz.prog Rows.readLinesRow.laid ((laidWorld os).forCall (fun _ _=>0) ⟨#[],args,[]⟩).memory :=
 laidMetH_of_parts3 (fuel:=8) (laidMet_of_run' 8 (by kernel_rfl) (by kernel_rfl)) (by kernel_rfl) (by kernel_rfl)
theorem pow_tab:(Rows.laid_internal_strconv_uint64pow10:DataW Unit)=Lib.tabData .u64 Lib.pow10Tab:=by rfl
theorem lt_of_var {W:World} {n:String} {g:Nat} {x:Array Value} (hg:Tryz.prog.globalNamed n=some g) (h:W.var? Tryz.prog n=some x):g < W.heap.size:=by
 unfold World.var? at h
 rw [hg] at h
 simp only [Option.bind_some] at h
 cases hc:W.heap[g]? with
 | none=>rw [hc] at h; cases h
 | some o=>exact (Array.getElem?_eq_some_iff.1 hc).1
theorem star : "*" ++ "errors.errorString" = "*errors.errorString" := by decide
theorem row170 (u : TypeId) (h : Tryz.prog.typeName? 3 u = some "*errors.errorString") : u = 170 :=
 typeName_ptr_named (nm := "errors.errorString") (by rw [star]; kernel_rfl) (by kernel_rfl) (by decide) u (by rw [star]; exact h)
theorem wide_of {W:World} (h:laidMetH Tryz.prog Rows.readLinesRow.laid W) (hsh:W.ShapedOpen Tryz.prog):(m8 Tryz.prog).P W (fun b=>b < W.heap.size):=by
 rw [MakeChecks.laidMetH_plain _ _ _ (by kernel_rfl)] at h
 have h0 : laidMet Tryz.prog (("math/bits.deBruijn32tab", Rows.laid_math_bits_deBruijn32tab) :: ("math/bits.deBruijn64tab", Rows.laid_math_bits_deBruijn64tab) :: ("internal/strconv.uint64pow10", Rows.laid_internal_strconv_uint64pow10) :: ("unicode/utf8.acceptRanges", Rows.laid_unicode_utf8_acceptRanges) :: ("strconv.ErrRange", Rows.laid_strconv_ErrRange) :: ("strconv.ErrSyntax", Rows.laid_strconv_ErrSyntax) :: [("unicode/utf8.first", Rows.laid_unicode_utf8_first)]) W := h
 have h1:=h0.tail.tail
 have h3:=h1.tail.tail
 rw [pow_tab] at h1
 have h2:=Lib.tabIs_of_head (g:=3) (t:=162) (e:=110) (n:=20) (by kernel_rfl) (by kernel_rfl) Tryz.underlying162 Tryz.underlying110 (by kernel_rfl) (by kernel_rfl) h1
 obtain ⟨a0,s0,hv0,_,_,_⟩:=laid_sentinel h3 (g:=2) (by kernel_rfl) (by kernel_rfl) Tryz.underlying98 row170 Tryz.underlying170 Tryz.underlying172 rfl rfl Tryz.underlying9 (by kernel_rfl) (by kernel_rfl)
 obtain ⟨a1,s1,hv1,_,_,_⟩:=laid_sentinel h3.tail (g:=1) (by kernel_rfl) (by kernel_rfl) Tryz.underlying98 row170 Tryz.underlying170 Tryz.underlying172 rfl rfl Tryz.underlying9 (by kernel_rfl) (by kernel_rfl)
 refine ⟨⟨h2,fun g hg=>lt_of_var hg h2⟩,fun g hg=>?_,fun n hn g hg=>?_⟩
 ·have hg1 : Tryz.prog.globalNamed "internal/bytealg.MaxLen" = some 0 := by kernel_rfl
  obtain rfl:0=g:=Option.some.inj (hg1.symm.trans hg)
  obtain ⟨m,hm⟩:=cell_of_shapedOpen_int (P:=Tryz.prog) (g:=0) (t:=3) (zero:=#[.int .i64 0]) hsh (of_decide_eq_true (by kernel_rfl)) (by kernel_rfl) rfl (by kernel_rfl) (by kernel_rfl) Tryz.underlying3
  refine ⟨⟨m,hm⟩,?_⟩
  unfold World.cell? at hm
  cases hc:W.heap[0]? with
  | none=>simp [hc] at hm
  | some o=>exact (Array.getElem?_eq_some_iff.1 hc).1
 ·rcases hn with rfl | rfl
  ·exact ⟨⟨_,_,hv1⟩,lt_of_var hg hv1⟩
  ·exact ⟨⟨_,_,hv0⟩,lt_of_var hg hv0⟩
end Go.Proofs.YtaokcbfenabbgaaGreatDoor.lawsLaid
namespace Go.Proofs.YtaokcbfenabbgaaGreatDoor.readLines
open Go Go.Ab Go.ChangeShapes Go.WideShapes Go.ChangeAt Go.RowKit
set_option maxRecDepth 100000
open lawsLaid
theorem plain:∀ t ∈ Tryz.f3.params.toList,ct Tryz.prog 24 t=true/\Tryz.prog.readableRec t=true/\t < Tryz.prog.types.size:=by
 intro t ht
 rw [Tryz.params3] at ht
 simp only [List.mem_cons,List.mem_nil_iff,or_false] at ht
 rcases ht with rfl <;> exact ⟨by kernel_rfl,by kernel_rfl,by decide +kernel⟩
theorem v_str {x:TV} (h:Bt Tryz.prog 9 x):∃ t,x=Sb t:=by
 rcases h with ⟨⟨cs,rfl,h⟩,h2⟩ | ⟨h,_,_⟩
 ·rcases h2 with ⟨fs,h2⟩ | ⟨n,e,h2⟩ <;> (rw [Tryz.underlying9] at h2; cases h2)
 ·obtain ⟨s,h1,_⟩:=h.str_at Tryz.underlying9
  exact ⟨s.data.toList,by simpa using h1⟩
theorem core:∀ xs,uV Tryz.prog Tryz.f3.params.toList xs->∃ n,acall Z14.prog n 3 xs=some (.lit (.bool true)):=by
 intro xs h
 rw [Tryz.params3] at h
 match xs,h with
 | [x1],⟨h1,_⟩ =>
  obtain ⟨s,rfl⟩:=v_str h1
  exact Z14.rReadLines s
theorem lifted (os:Os) (started:os.Started) (H:Type) (enc:TypeId × Value->H) :
  ReturnsInHanded {} Tryz.checked os 3 .any (fun w args=>(Rows.readLinesSpec.pre enc Tryz.prog Tryz.f3 [] false w args/\laidMetH Tryz.prog Rows.readLinesRow.laid w)/\sizedMet enc Tryz.prog Tryz.f3 (OpenSpec.ofChange Rows.readLinesSpec) false w args)
   (Rows.readLinesSpec.post enc Tryz.prog Tryz.f3 false true false false):=by
 refine returnsInHanded_of_calls own started (by kernel_rfl)
  (ChangeSpec.witness_shaped (enc:=enc) (C:=Tryz.checked) (os:=os) (fn:=Tryz.f3) (X:=fun w _=>laidMetH Tryz.prog Rows.readLinesRow.laid w) false (laidWorld os) #[.string ⟨#[]⟩] 8 rfl (World.shaped_of_RefB (by kernel_rfl) (by kernel_rfl)) (by kernel_rfl) (by kernel_rfl) (by kernel_rfl) (door_met os _)) ?_
 intro w tape i _ hsh _ hok hpre hholds
 obtain ⟨_,_,_,fn',hfn',_,_,_,_,hval⟩:=hok
 obtain rfl:fn'=Tryz.f3:=Option.some.inj (hfn'.symm.trans Tryz.func3)
 obtain ⟨⟨⟨ds,gs,before,hw,_⟩,hx⟩,_⟩:=hpre
 have hW:=DataW.Whole.of_heap (w':=w.forCall tape i) (by rfl) hw
 have hL:laidMetH Tryz.prog Rows.readLinesRow.laid (w.forCall tape i):=hx.of_heap (by rfl)
 refine (Cs (A:=Go.Ab.Z14.prog) Go.Ab.Z14.ok (wide_of hL hsh) rfl (f:=Tryz.f3) laid plain (by kernel_rfl) Tryz.underlying4 rfl (fun ds hl=>by
  have hl:ds.length=1:=hl.trans (by rw [Tryz.params3]; rfl)
  match ds,hl with
  | [_],_=>rfl) core hval hW).mono ?_
 rintro e W' ⟨v,rfl,hp⟩
 exact ChangeSpec.post_blind hp
theorem over:Rows.readLinesRow.holds Tryz.pinned (OpenSpec.ofChange Rows.readLinesSpec) :=
 OpenClaim.holds_of_wide 3 Tryz.f3 rfl rfl rfl rfl rfl rfl rfl ⟨rfl,rfl,rfl,rfl,rfl⟩ rfl rfl rfl rfl rfl (by kernel_rfl) Tryz.func3 (by kernel_rfl)
  (of_decide_eq_true (by kernel_rfl)) (by unfold Func.isWrapper; first | (rw [if_pos (by decide +kernel)]; kernel_rfl) | (rw [if_neg (by decide +kernel)]; exact ⟨rfl,rfl⟩))
  (fun os started H enc _=>lifted os started H enc)
theorem tied:Claim7.holds Tryz.pinned (.plain (OpenSpec.ofChange Rows.readLinesSpec)) Rows.readLinesCard :=
 Claim7.holds_tied_plain_at .later [] [.data, .data, .data, .data, .sentinel, .sentinel, .pinned] true (true, "27e60ce8bf9cd9fb29ef05898d69f63232b23a29573782d13faf29a8df38d78a") true
  over (fun _ h=>by cases h) (by kernel_rfl) (fun _ h=>by cases h) readLines_row_tie rfl ⟨rfl,rfl⟩ (by kernel_rfl) rfl
  (fun f fn hf hfn => by
   obtain rfl : f = 3 := Option.some.inj ((show Tryz.prog.funcNamed "davit/davitlaw04.ReadLines" = some 3 by kernel_rfl).symm.trans hf) |>.symm
   obtain rfl:fn=Tryz.f3:=(Option.some.inj (Tryz.func3.symm.trans hfn)).symm
   exact ⟨by kernel_rfl,fun j t ht=>by
    rw [Tryz.params3] at ht
    have hm:t ∈ [9]:=by simpa using Array.mem_of_getElem? ht
    have hall:([9].all fun u=>!Tryz.prog.wantsStandIn u)=true:=by kernel_rfl
    exact (show Tryz.prog.wantsStandIn t=false by simpa using List.all_eq_true.1 hall t hm)⟩)
  (by kernel_rfl)
end Go.Proofs.YtaokcbfenabbgaaGreatDoor.readLines
namespace Go.Proofs.YtaokcbfenabbgaaGreatDoor
theorem readLines_holds:Rows.ReadLinesCardSaid:=readLines.tied
#print axioms readLines_holds
end Go.Proofs.YtaokcbfenabbgaaGreatDoor

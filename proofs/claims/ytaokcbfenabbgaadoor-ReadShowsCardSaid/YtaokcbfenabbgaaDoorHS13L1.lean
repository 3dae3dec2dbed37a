/-
  For any line,numbers and operation the law ReadShows of layer 4 answers true (what a line is read asz shows asz this line,and is read asz nothing else; what shows is read asz it was),and its arguments stay asz they were.
  Conditions: none beyond the given row's own; the tables that its row lists are tied to the program's text by the card.
-/
import Derived.Test.YtaokcbfenabbgaaDoorHM19
import Derived.Test.YtaokcbfenabbgaaDoorHS13Ty
import Derived.Shelf.Vars
import Derived.Test.YtaokcbfenabbgaaDoorRows
import Derived.Test.YtaokcbfenabbgaaDoorTie
import Derived.Test.YtaokcbfenabbgaaDoorCards
import Derived.WalkKit
import Derived.ProofKit
import Derived.OpenShut
import Derived.LaidMore
import Derived.Lib.LaidTab
import Derived.Stop.LaidErr
import Derived.SevenTiedAt
set_option linter.all false
namespace Go.Proofs.YtaokcbfenabbgaaDoor.lawsLaid
open Go Go.Ab Go.ChangeShapes Go.WideShapes Go.ChangeAt Go.RowKit
set_option maxRecDepth 100000
theorem own:ownKnob Tryd.prog.godebug=none:=by kernel_rfl
theorem laid:laidOutB Tryd.prog=true:=by kernel_rfl
noncomputable def laidWorld (os:Os):World :=
 let w0:=World.doorLaid Tryd.prog 72 os
 { w0 with heap:=w0.heap.modify 4 fun
  | .cells _ t frozen=>.cells (Pinned.utf8FirstZ.map fun (z:Nat)=>Value.int .u8 (Int.ofNat z)).toArray t frozen
  | o=>o }
theorem door_met (os:Os) (args:Array Value):laidMetH Tryd.prog Rows.readShowsRow.laid ((laidWorld os).forCall (fun _ _=>0) ⟨#[],args,[]⟩).memory :=
 laidMetH_of_parts3 (fuel:=8) (laidMet_of_run' 8 (by kernel_rfl) (by kernel_rfl)) (by kernel_rfl) (by kernel_rfl)
theorem pow_tab:(Rows.laid_internal_strconv_uint64pow10:DataW Unit)=Lib.tabData .u64 Lib.pow10Tab:=by rfl
theorem lt_of_var {W:World} {n:String} {g:Nat} {x:Array Value} (hg:Tryd.prog.globalNamed n=some g) (h:W.var? Tryd.prog n=some x):g < W.heap.size:=by
 unfold World.var? at h
 rw [hg] at h
 simp only [Option.bind_some] at h
 cases hc:W.heap[g]? with
 | none=>rw [hc] at h; cases h
 | some o=>exact (Array.getElem?_eq_some_iff.1 hc).1
theorem star : "*" ++ "errors.errorString" = "*errors.errorString" := by decide
theorem row156 (u : TypeId) (h : Tryd.prog.typeName? 3 u = some "*errors.errorString") : u = 156 :=
 typeName_ptr_named (nm := "errors.errorString") (by rw [star]; kernel_rfl) (by kernel_rfl) (by decide) u (by rw [star]; exact h)
theorem wide_of {W:World} (h:laidMetH Tryd.prog Rows.readShowsRow.laid W) (hsh:W.ShapedOpen Tryd.prog):(mi Tryd.prog).P W (fun b=>b < W.heap.size):=by
 rw [MakeChecks.laidMetH_plain _ _ _ (by kernel_rfl)] at h
 have h0 : laidMet Tryd.prog (("math/bits.deBruijn32tab", Rows.laid_math_bits_deBruijn32tab) :: ("math/bits.deBruijn64tab", Rows.laid_math_bits_deBruijn64tab) :: ("internal/strconv.uint64pow10", Rows.laid_internal_strconv_uint64pow10) :: ("unicode/utf8.acceptRanges", Rows.laid_unicode_utf8_acceptRanges) :: ("strconv.ErrRange", Rows.laid_strconv_ErrRange) :: ("strconv.ErrSyntax", Rows.laid_strconv_ErrSyntax) :: [("unicode/utf8.first", Rows.laid_unicode_utf8_first)]) W := h
 have h1:=h0.tail.tail
 have h3:=h1.tail.tail
 rw [pow_tab] at h1
 have h2:=Lib.tabIs_of_head (g:=3) (t:=147) (e:=94) (n:=20) (by kernel_rfl) (by kernel_rfl) Tryd.underlying147 Tryd.underlying94 (by kernel_rfl) (by kernel_rfl) h1
 obtain ⟨a0,s0,hv0,_,_,_⟩:=laid_sentinel h3 (g:=2) (by kernel_rfl) (by kernel_rfl) Tryd.underlying81 row156 Tryd.underlying156 Tryd.underlying158 rfl rfl Tryd.underlying9 (by kernel_rfl) (by kernel_rfl)
 obtain ⟨a1,s1,hv1,_,_,_⟩:=laid_sentinel h3.tail (g:=1) (by kernel_rfl) (by kernel_rfl) Tryd.underlying81 row156 Tryd.underlying156 Tryd.underlying158 rfl rfl Tryd.underlying9 (by kernel_rfl) (by kernel_rfl)
 refine ⟨⟨h2,fun g hg=>lt_of_var hg h2⟩,fun g hg=>?_,fun n hn g hg=>?_⟩
 ·have hg1 : Tryd.prog.globalNamed "internal/bytealg.MaxLen" = some 0 := by kernel_rfl
  obtain rfl:0=g:=Option.some.inj (hg1.symm.trans hg)
  obtain ⟨m,hm⟩:=cell_of_shapedOpen_int (P:=Tryd.prog) (g:=0) (t:=3) (zero:=#[.int .i64 0]) hsh (of_decide_eq_true (by kernel_rfl)) (by kernel_rfl) rfl (by kernel_rfl) (by kernel_rfl) Tryd.underlying3
  refine ⟨⟨m,hm⟩,?_⟩
  unfold World.cell? at hm
  cases hc:W.heap[0]? with
  | none=>simp [hc] at hm
  | some o=>exact (Array.getElem?_eq_some_iff.1 hc).1
 ·rcases hn with rfl | rfl
  ·exact ⟨⟨_,_,hv1⟩,lt_of_var hg hv1⟩
  ·exact ⟨⟨_,_,hv0⟩,lt_of_var hg hv0⟩
end Go.Proofs.YtaokcbfenabbgaaDoor.lawsLaid
namespace Go.Proofs.YtaokcbfenabbgaaDoor.readShows
open Go Go.Ab Go.ChangeShapes Go.WideShapes Go.ChangeAt Go.RowKit
set_option maxRecDepth 100000
open lawsLaid
theorem plain:∀ t ∈ Tryd.f3.params.toList,cn Tryd.prog 24 t=true/\Tryd.prog.readableRec t=true/\t < Tryd.prog.types.size:=by
 intro t ht
 rw [Tryd.params3] at ht
 simp only [List.mem_cons,List.mem_nil_iff,or_false] at ht
 rcases ht with rfl | rfl | rfl | rfl | rfl <;> exact ⟨by kernel_rfl,by kernel_rfl,by decide +kernel⟩
theorem wf_u8 {n:Int} (h:(Lit.int .u8 n).wf=true):0<=n/\n<=255:=by
 simp only [Lit.wf,Bool.and_eq_true,decide_eq_true_eq] at h
 have h1:=h.1
 have h2:=h.2
 constructor
 ·exact h1
 ·exact h2
theorem v_str {x:TV} (h:u6 Tryd.prog 9 x):∃ t,x=Sb t:=by
 rcases h with ⟨⟨cs,rfl,h⟩,h2⟩ | ⟨h,_,_⟩
 ·rcases h2 with ⟨fs,h2⟩ | ⟨n,e,h2⟩ <;> (rw [Tryd.underlying9] at h2; cases h2)
 ·obtain ⟨s,h1,_⟩:=h.str_at Tryd.underlying9
  exact ⟨s.data.toList,by simpa using h1⟩
theorem core:∀ xs,tZ Tryd.prog Tryd.f3.params.toList xs->∃ n,acall S13.prog n 3 xs=some (.lit (.bool true)):=by
 intro xs h
 rw [Tryd.params3] at h
 match xs,h with
 | [x1, x2, x3, x4, x5], ⟨h1, h2, h3, h4, h5, _⟩ =>
  obtain ⟨s,rfl⟩:=v_str h1
  obtain ⟨d,rfl,hd⟩:=S13.v_word h2
  obtain ⟨a,rfl,ha⟩:=S13.v_word h3
  obtain ⟨b,rfl,hb⟩:=S13.v_word h4
  obtain ⟨o,rfl,ho⟩:=S13.v_byte h5
  have h8:0<=o/\o < 256:=by
   have h9:=wf_u8 ho
   omega
  exact S13.rShows hd ha hb h8.1 h8.2
theorem lifted (os:Os) (started:os.Started) (H:Type) (enc:TypeId × Value->H) :
  ReturnsInHanded {} Tryd.checked os 3 .any (fun w args=>(Rows.readShowsSpec.pre enc Tryd.prog Tryd.f3 [] false w args/\laidMetH Tryd.prog Rows.readShowsRow.laid w)/\sizedMet enc Tryd.prog Tryd.f3 (OpenSpec.ofChange Rows.readShowsSpec) false w args)
   (Rows.readShowsSpec.post enc Tryd.prog Tryd.f3 false true false false):=by
 refine returnsInHanded_of_calls own started (by kernel_rfl)
  (ChangeSpec.witness_shaped (enc:=enc) (C:=Tryd.checked) (os:=os) (fn:=Tryd.f3) (X:=fun w _=>laidMetH Tryd.prog Rows.readShowsRow.laid w) false (laidWorld os) #[.string ⟨#[]⟩,.int .u16 0,.int .u16 0,.int .u16 0,.int .u8 0] 8 rfl (World.shaped_of_RefB (by kernel_rfl) (by kernel_rfl)) (by kernel_rfl) (by kernel_rfl) (by kernel_rfl) (door_met os _)) ?_
 intro w tape i _ hsh _ hok hpre hholds
 obtain ⟨_,_,_,fn',hfn',_,_,_,_,hval⟩:=hok
 obtain rfl:fn'=Tryd.f3:=Option.some.inj (hfn'.symm.trans Tryd.func3)
 obtain ⟨⟨⟨ds,gs,before,hw,_⟩,hx⟩,_⟩:=hpre
 have hW:=DataW.Whole.of_heap (w':=w.forCall tape i) (by rfl) hw
 have hL:laidMetH Tryd.prog Rows.readShowsRow.laid (w.forCall tape i):=hx.of_heap (by rfl)
 refine (BB (A:=Go.Ab.S13.prog) Go.Ab.S13.ok (wide_of hL hsh) rfl (f:=Tryd.f3) laid plain (by kernel_rfl) Tryd.underlying4 rfl (fun ds hl=>by
  have hl:ds.length=5:=hl.trans (by rw [Tryd.params3]; rfl)
  match ds,hl with
  | [_,_,_,_,_],_=>rfl) core hval hW).mono ?_
 rintro e W' ⟨v,rfl,hp⟩
 exact ChangeSpec.post_blind hp
theorem over:Rows.readShowsRow.holds Tryd.pinned (OpenSpec.ofChange Rows.readShowsSpec) :=
 OpenClaim.holds_of_wide 3 Tryd.f3 rfl rfl rfl rfl rfl rfl rfl ⟨rfl,rfl,rfl,rfl,rfl⟩ rfl rfl rfl rfl rfl (by kernel_rfl) Tryd.func3 (by kernel_rfl)
  (of_decide_eq_true (by kernel_rfl)) (by unfold Func.isWrapper; first | (rw [if_pos (by decide +kernel)]; kernel_rfl) | (rw [if_neg (by decide +kernel)]; exact ⟨rfl,rfl⟩))
  (fun os started H enc _=>lifted os started H enc)
theorem tied:Claim7.holds Tryd.pinned (.plain (OpenSpec.ofChange Rows.readShowsSpec)) Rows.readShowsCard :=
 Claim7.holds_tied_plain_at .later [] [.data, .data, .data, .data, .sentinel, .sentinel, .pinned] true (true, "ed9d3313eaec8265bd4a6063b3862d89decd8748c045c3302a0ddd486afcde4f") true
  over (fun _ h=>by cases h) (by kernel_rfl) (fun _ h=>by cases h) readShows_row_tie rfl ⟨rfl,rfl⟩ (by kernel_rfl) rfl
  (fun f fn hf hfn => by
   obtain rfl : f = 3 := Option.some.inj ((show Tryd.prog.funcNamed "davit/davitlaw04.ReadShows" = some 3 by kernel_rfl).symm.trans hf) |>.symm
   obtain rfl:fn=Tryd.f3:=(Option.some.inj (Tryd.func3.symm.trans hfn)).symm
   exact ⟨by kernel_rfl,fun j t ht=>by
    rw [Tryd.params3] at ht
    have hm:t ∈ [9,22,22,22,5]:=by simpa using Array.mem_of_getElem? ht
    have hall:([9,22,22,22,5].all fun u=>!Tryd.prog.wantsStandIn u)=true:=by kernel_rfl
    exact (show Tryd.prog.wantsStandIn t=false by simpa using List.all_eq_true.1 hall t hm)⟩)
  (by kernel_rfl)
end Go.Proofs.YtaokcbfenabbgaaDoor.readShows
namespace Go.Proofs.YtaokcbfenabbgaaDoor
theorem readShows_holds:Rows.ReadShowsCardSaid:=readShows.tied
#print axioms readShows_holds
end Go.Proofs.YtaokcbfenabbgaaDoor

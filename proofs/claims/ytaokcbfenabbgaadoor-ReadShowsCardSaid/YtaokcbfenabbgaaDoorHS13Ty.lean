import Derived.Test.YtaokcbfenabbgaaDoorHS13F193
import Derived.Lib.UnsafeStr
import Derived.WalkKit
import Derived.BigCall
import Derived.BigGuard
import Derived.Shelf.RegionOpenPlain
import Derived.Test.YtaokcbfenabbgaaDoorProg
import Derived.Test.YtaokcbfenabbgaaDoorIP
import Derived.Lib.Walk
import Derived.Lib.ParseIntBCases
import Derived.Lib.ConvBytes
import Derived.Test.YtaokcbfenabbgaaDoorHM19
import Derived.Test.YtaokcbfenabbgaaDoorHF1
set_option linter.all false
section
namespace Go.Ab.S13
open Go Go.Ab Go.Lib Go.RowKit Go.Proofs
section
variable {G:Laid}
theorem o6:(Tryd.prog.info? 79).map (·.size)=some 2:=by kernel_rfl
theorem vD:liesAt Tryd.prog Tryd.prog.depth 79 (2 / Tryd.prog.cellsOf 79) 0 79 1=true:=by kernel_rfl
theorem Bt:(Tryd.prog.info? 5).map (fun i=>(i.zero,i.size,i.bytes))=some (some (.int .u8 0),1,1):=by kernel_rfl
theorem yY:Tryd.prog.cellsOf 5=1:=by kernel_rfl
theorem neB5:79≠5:=by decide
theorem Dl:∃ i0,Tryd.prog.info? 5=some i0/\i0.zero=some (.int .u8 0)/\i0.size=1/\i0.bytes=1:=by
 have h:=Bt
 cases hi:Tryd.prog.info? 5 with
 | none=>rw [hi] at h; cases h
 | some i =>
  rw [hi] at h
  simp only [DG,Dv,Prod.mk.injEq] at h
  exact ⟨i,rfl,h.1,h.2.1,h.2.2⟩
set_option maxHeartbeats 1000000 in
set_option maxRecDepth 100000 in
theorem Ci (b:Nat) (w:World) (h0:w.cell? ⟨b,0,none⟩=some (.pointer (some ⟨b,0,none⟩))) :
  Calls Tryd.prog 42 #[.pointer (some ⟨b,0,none⟩)] w fun e w'=>e=.returned (.tuple #[])/\w'=w:=by
 obtain ⟨j,hj,_⟩:=Option.map_eq_some_iff.1 o6
 go_enter Tryd.func42,Tryd.ntmps42
 go_wp2
 rw [Lib.run_neq_ptr_same w _ Tryd.underlying76 hj]
 go_wp2
 go_end0
 exact ⟨rfl,rfl⟩
set_option maxHeartbeats 1000000 in
set_option maxRecDepth 100000 in
theorem AD (b:Nat) (w:World) (h0:w.cell? ⟨b,0,none⟩=some (.pointer none)) (hsh:w.shape? b=some (79,2)) (hfz:w.frozen? ⟨b,0,none⟩=false) :
  Calls Tryd.prog 42 #[.pointer (some ⟨b,0,none⟩)] w fun e w'=>e=.returned (.tuple #[])/\w'=w.setCell ⟨b,0,none⟩ (.pointer (some ⟨b,0,none⟩)):=by
 obtain ⟨j,hj,hjs⟩:=Option.map_eq_some_iff.1 o6
 go_enter Tryd.func42,Tryd.ntmps42
 go_wp2
 rw [Lib.run_to_unsafe w ⟨b,0,none⟩ Tryd.underlying76 Tryd.underlying109 hj (by rw [hjs]; decide) hsh (Nat.zero_lt_succ 1)]
 simp only [Result.andThen]
 rw [Oper.upon_value]
 go_wp2
 rw [run_callFunc_extern Tryd.func54 (by kernel_rfl) (by kernel_rfl) (by kernel_rfl) (e:=Extern.AbiNoEscape.same) (by kernel_rfl)]
 rw [Lib.run_noEscape]
 simp only [Result.andThen]
 rw [Oper.upon_value]
 go_wp2
 rw [Lib.run_from_unsafe w ⟨b,0,none⟩ Tryd.underlying109 Tryd.underlying76 hj hsh vD]
 simp only [Result.andThen]
 rw [Oper.upon_value]
 go_wp2
 go_end0
 exact ⟨rfl,rfl⟩
theorem oA {b:Nat} {p v:Value} {bs:List Value} {w:World} (h:Bld 79 5 b p v bs w) :
  Calls Tryd.prog 42 #[.pointer (some ⟨b,0,none⟩)] w fun e w'=>e=.returned (.tuple #[])/\Bld 79 5 b (.pointer (some ⟨b,0,none⟩)) v bs w'/\Exact b v w w'/\w'.heap.size=w.heap.size:=by
 have cell0:w.cell? ⟨b,0,none⟩=some p:=by rw [cell_of_heap h.heap]; rfl
 rcases h.first with rfl | rfl
 ·refine (AD b w cell0 (by simp [World.shape?,h.heap]) (frozen_of_heap h.heap 0)).mono ?_
  rintro e w' ⟨rfl,rfl⟩
  refine ⟨rfl,⟨.inr rfl,?_,?_,h.ne⟩,(Exact.refl b v w).setCell _,by simp [World.setCell]⟩
  ·simp [World.setCell,Array.getElem?_modify,h.heap]
  ·refine h.own.kept (row:=some b) ⟨rfl,rfl,rfl,by simp [World.setCell],fun k _ hk=>Below.heap_setCell _ _ _ _ (fun e=>hk (by simp [e]))⟩ (.inr h.ne)
 ·refine (Ci b w cell0).mono ?_
  rintro e w' ⟨rfl,rfl⟩
  exact ⟨rfl,h,Exact.refl _ _ _,rfl⟩
set_option maxHeartbeats 2000000 in
set_option maxRecDepth 100000 in
theorem vK {b:Nat} {p v:Value} {bs:List Value} {w:World} (h:Bld 79 5 b p v bs w) (c:Int) (hlen:bs.length + 1<=140737488355328) :
  Calls Tryd.prog 32 #[.pointer (some ⟨b,0,none⟩),.int .u8 c] w fun e w'=>e=.returned .nilIface/\∃ v',Bld 79 5 b (.pointer (some ⟨b,0,none⟩)) v' (bs ++ [.int .u8 c]) w'/\Exact b v w w'/\Next w v v':=by
 obtain ⟨i0,hi,hz0,hz1,hz2⟩:=Dl
 go_enter Tryd.func32,Tryd.ntmps32
 go_wp2_with (go_at_call 42; refine (oA h).mono ?_)
 rintro e w1 ⟨rfl,h1,hx1,hsz1⟩
 have hbk:=h1.heap
 have hown:=h1.own
 have hne:=h1.ne
 have c0:w1.cell? ⟨b,0,none⟩=some (.pointer (some ⟨b,0,none⟩)):=by rw [Lib.cell_of_heap hbk]; rfl
 have c1:w1.cell? ⟨b,1,none⟩=some v:=by rw [Lib.cell_of_heap hbk]; rfl
 have hlt1:b < w1.heap.size:=h1.lt
 clear h1 hsz1
 go_wp2_with (at_builtin; refine pg rfl _ _ 77 rfl 5 i0 (.int .u8 0) Tryd.underlying77 hi hz0 hz1 hz2 rfl _ _ _ rfl (hown.alloc _) ⟨w1.heap.size,0,none⟩ 1 1 [.int .u8 c] rfl rfl ?c1 ?c2 ?c3 ?c4 ?_)
 case c1 =>
  intro j u hj
  match j,hj with
  | 0,hj=>simp at hj; subst hj; simp [Addr.add]
 case c2=>intro u hu; simp at hu; subst hu; rfl
 case c3=>unfold maxLen; omega
 case c4=>omega
 intro v' w2 hown' hgrow hnext
 have hb2:w2.heap[b]? = some (.cells #[.pointer (some ⟨b,0,none⟩),v] 79 (0,0)):=by
  rw [hgrow.block b (by simp; omega) (fun e=>hne e.symm),Lib.alloc_old w1 _ b hlt1]
  exact hbk
 have d0:w2.cell? ⟨b,0,none⟩=some (.pointer (some ⟨b,0,none⟩)):=by rw [Lib.cell_of_heap hb2]; rfl
 have d1:w2.cell? ⟨b,1,none⟩=some v:=by rw [Lib.cell_of_heap hb2]; rfl
 have f1:w2.frozen? ⟨b,1,none⟩=false:=Lib.frozen_of_heap hb2 1
 obtain ⟨g,cap,rfl⟩:∃ g cap,v'=.slice (some ⟨g,0,none⟩) (bs.length + 1) cap:=by
  rcases hown'.2 with ⟨_,h0⟩ | ⟨g,cap,cur,fz,hv,_⟩
  ·omega
  ·exact ⟨g,cap,hv⟩
 go_wp2
 go_ret
 refine ⟨rfl,_,Bld.put hb2 (bs':=bs ++ [.int .u8 c]) (by simpa using hown') neB5,((hx1.alloc _).grown hgrow).setCell _,fun k hk=>(hnext k hk).imp id (fun h=>?_)⟩
 have:=hx1.size
 simp at h
 omega
set_option maxHeartbeats 2000000 in
set_option maxRecDepth 100000 in
theorem si {b:Nat} {p v:Value} {bs:List Value} {w:World} (h:Bld 79 5 b p v bs w) (s:ByteArray) (hlen:bs.length + s.size<=140737488355328) :
  Calls Tryd.prog 31 #[.pointer (some ⟨b,0,none⟩),.string s] w fun e w'=>e=.returned (.tuple #[.int .i64 s.size,.nilIface])/\∃ v',Bld 79 5 b (.pointer (some ⟨b,0,none⟩)) v' (bs ++ Lib.strCells s) w'/\Exact b v w w'/\Next w v v':=by
 obtain ⟨i0,hi,hz0,hz1,hz2⟩:=Dl
 go_enter Tryd.func31,Tryd.ntmps31
 go_wp2_with (go_at_call 42; refine (oA h).mono ?_)
 rintro e w1 ⟨rfl,h1,hx1,hsz1⟩
 have hbk:=h1.heap
 have hown:=h1.own
 have hne:=h1.ne
 have c0:w1.cell? ⟨b,0,none⟩=some (.pointer (some ⟨b,0,none⟩)):=by rw [Lib.cell_of_heap hbk]; rfl
 have c1:w1.cell? ⟨b,1,none⟩=some v:=by rw [Lib.cell_of_heap hbk]; rfl
 have hlt1:b < w1.heap.size:=h1.lt
 clear h1 hsz1
 go_wp2_with (at_builtin; refine pb rfl _ _ 77 9 rfl 5 i0 Tryd.underlying77 Tryd.underlying9 hi hz0 hz1 hz2 _ _ _ rfl hown s rfl ?c3 ?c4 ?_)
 case c3=>unfold maxLen; omega
 case c4=>omega
 intro v' w2 hown' hgrow hnext
 have hb2:w2.heap[b]? = some (.cells #[.pointer (some ⟨b,0,none⟩),v] 79 (0,0)):=by
  rw [hgrow.block b hlt1 (fun e=>hne e.symm)]
  exact hbk
 have d0:w2.cell? ⟨b,0,none⟩=some (.pointer (some ⟨b,0,none⟩)):=by rw [Lib.cell_of_heap hb2]; rfl
 have d1:w2.cell? ⟨b,1,none⟩=some v:=by rw [Lib.cell_of_heap hb2]; rfl
 have f1:w2.frozen? ⟨b,1,none⟩=false:=Lib.frozen_of_heap hb2 1
 obtain ⟨ao,n',cap,rfl⟩:∃ ao n' cap,v'=.slice ao n' cap:=by
  rcases hown'.2 with ⟨hv,_⟩ | ⟨g,cap,cur,fz,hv,_⟩
  ·exact ⟨_,_,_,hv⟩
  ·exact ⟨_,_,_,hv⟩
 go_wp2
 go_ret2
 refine ⟨rfl,_,Bld.put hb2 (bs':=bs ++ Lib.strCells s) (by simpa [Lib.strCells_length] using hown') neB5,(hx1.grown hgrow).setCell _,fun k hk=>(hnext k hk).imp id (fun h=>by have:=hx1.size; omega)⟩
set_option maxHeartbeats 1000000 in
set_option maxRecDepth 100000 in
theorem Bk {b:Nat} {p v:Value} {l:List UInt8} {w:World} (h:Bld 79 5 b p v (Lib.byteCells l) w) (h0:l≠[]) :
  Calls Tryd.prog 34 #[.pointer (some ⟨b,0,none⟩)] w fun e w'=>e=.returned (.string ⟨l.toArray⟩)/\Bld 79 5 b p v (Lib.byteCells l) w'/\Exact b v w w':=by
 have hbk:=h.heap
 have hown:=h.own
 have hne:=h.ne
 have hl0:l.length≠0:=by simpa using h0
 rw [Lib.byteCells_length] at hown
 obtain ⟨g,cap,cur,fz,rfl,hbg,hg,hfz,hnc,hcm,hcs,htake⟩:∃ g cap cur fz,v=.slice (some ⟨g,0,none⟩) l.length cap/\0<=g/\w.heap[g]? = some (.cells cur 5 fz)/\fz.2<=l.length * 1/\l.length<=cap/\cap<=maxLen/\cur.size=cap * 1/\cur.toList.take (l.length * 1)=Lib.byteCells l:=by
  rcases hown.2 with ⟨_,hz⟩ | ⟨g,cap,cur,fz,hv,r⟩
  ·exact absurd hz hl0
  ·exact ⟨g,cap,cur,fz,hv,r⟩
 have c1:w.drew.cell? ⟨b,1,none⟩=some (.slice (some ⟨g,0,none⟩) l.length cap):=by
  have:w.drew.heap[b]? = some (.cells #[p,.slice (some ⟨g,0,none⟩) l.length cap] 79 (0,0)):=hbk
  rw [Lib.cell_of_heap this]; rfl
 have hSD:(Builtin.unsafeSliceData_ #[77] 97 #[.slice (some ⟨g,0,none⟩) l.length cap]).run Tryd.prog w.drew=.ok (.pointer (some ⟨g,0,none⟩)) w.drew :=
  Lib.run_unsafeSliceData_row _ _ _ _ _ _ (by omega)
 have hUS:(Builtin.unsafeString_ #[97,3] 9 #[.pointer (some ⟨g,0,none⟩),.int .i64 l.length]).run Tryd.prog w.drew=.ok (.string ⟨l.toArray⟩) (w.drew.freeze ⟨g,0,none⟩ l.length):=by
  refine Lib.run_unsafeString_row w.drew 97 3 9 5 Tryd.underlying97 yY g cur.size (by have hg':w.drew.heap[g]? = some (.cells cur 5 fz):=hg; simp [World.shape?,hg']) l h0 (by omega) (by unfold maxLen at hcm; omega) ?_
  intro j x hx
  have:=hown.cells (g:=g) rfl j (.int .u8 x.toNat) (by simp [Lib.byteCells,hx])
  exact this
 have hgb:g≠b:=fun e=>hne (by rw [e]; rfl)
 have hkeep:Bld 79 5 b p (.slice (some ⟨g,0,none⟩) l.length cap) (Lib.byteCells l) (w.drew.freeze ⟨g,0,none⟩ l.length):=by
  have hF:=(h.at.drew).froze (g:=g) (cap:=cap) (by rw [Lib.byteCells_length]; exact c1)
  rw [Lib.byteCells_length] at hF
  obtain ⟨_,v1,q1,q2,q3⟩:=hF
  have hb2:(w.drew.freeze ⟨g,0,none⟩ l.length).heap[b]? = some (.cells #[p,.slice (some ⟨g,0,none⟩) l.length cap] 79 (0,0)):=by
   unfold World.freeze
   split
   ·exact hbk
   ·simp [Array.getElem?_modify,hgb]
    exact hbk
  rw [hb2] at q1
  simp only [Dv,Obj.cells.injEq,and_true] at q1
  have e1:Value.slice (some ⟨g,0,none⟩) l.length cap=v1:=by simpa using q1
  subst e1
  exact ⟨h.first,hb2,q2,q3⟩
 have hex:Exact b (.slice (some ⟨g,0,none⟩) l.length cap) w (w.drew.freeze ⟨g,0,none⟩ l.length):=((Exact.refl b _ w).drew).freeze rfl _
 clear h
 have mixed:Tryd.prog.follows .mixedOrders=true:=by kernel_rfl
 go_enter Tryd.func34,Tryd.ntmps34
 go_wp2
 go_region_o
 all_goals (go_wp2; go_ret; exact ⟨rfl,hkeep,hex⟩)
set_option maxHeartbeats 1000000 in
set_option maxRecDepth 100000 in
theorem o8 (henter:∀ vals w,(callFunc 31 vals).run Tryd.prog w=.ok (.enter 31 vals) w) {xs:List TV} {r:TV} (h:ek 5 xs=some r):oH Tryd.prog G ⟨79,[.may,.bf 5]⟩ 31 xs r:=by
 unfold ek at h
 split at h
 ·rename_i x s e' t
  cases hc:x.bq && e'.beq 5 && (s.size + t.size).ble jF with
  | false=>rw [hc] at h; cases h
  | true =>
   rw [hc] at h
   simp only [cond_true,Dv] at h
   simp only [Dw,Nat.ble_eq] at hc
   obtain ⟨⟨h1,h2⟩,h3⟩:=hc
   subst h
   rw [rd h1,(ar _ _).1 h2]
   refine qN (u:=.tuple #[.int .i64 t.size,.nilIface]) (fun w I=>.tup rfl (fun j c hj=>?_)) henter (fun b p v w I vals hB hsz h0 hargs=>?_)
   ·match j,hj with
    | 0,hj=>simp at hj; subst hj; exact .lit _
    | 1,hj=>simp at hj; subst hj; exact .lit _
   ·have:=BV (by simpa using hsz) h0 (aI (hargs 0 _ rfl))
    subst this
    refine (si hB t (by rw [strCells_length]; exact h3)).mono ?_
    rintro e w' ⟨rfl,v',q1,q2,q3⟩
    exact ⟨rfl,_,v',by rw [ut]; exact q1,q2,q3⟩
 ·cases h
theorem sk (henter:∀ vals w,(callFunc 32 vals).run Tryd.prog w=.ok (.enter 32 vals) w) {xs:List TV} {r:TV} (h:gr 5 xs=some r):oH Tryd.prog G ⟨79,[.may,.bf 5]⟩ 32 xs r:=by
 unfold gr at h
 split at h
 ·rename_i x s e' c
  cases hc:x.bq && e'.beq 5 && (s.size + 1).ble jF && decide (0<=c/\c < 256) with
  | false=>rw [hc] at h; cases h
  | true =>
   rw [hc] at h
   simp only [cond_true,Dv] at h
   simp only [Dw,Nat.ble_eq,decide_eq_true_eq] at hc
   obtain ⟨⟨⟨h1,h2⟩,h3⟩,h4,h5⟩:=hc
   subst h
   rw [rd h1,(ar _ _).1 h2]
   refine qN (u:=.nilIface) (fun w I=>.lit _) henter (fun b p v w I vals hB hsz h0 hargs=>?_)
   have:=BV (by simpa using hsz) h0 (aI (hargs 0 _ rfl))
   subst this
   refine (vK hB c (by rw [strCells_length]; exact h3)).mono ?_
   rintro e w' ⟨rfl,v',q1,q2,q3⟩
   refine ⟨rfl,.pointer (some ⟨b,0,none⟩),v',?_,q2,q3⟩
   rw [sd]
   have:((c.toNat.toUInt8).toNat:Int)=c:=by
    have:c.toNat < 256:=by omega
    simp [Nat.toUInt8,UInt8.toNat_ofNat',Nat.mod_eq_of_lt this]
    omega
   rw [this]
   exact q1
 ·cases h
theorem xo (henter:∀ vals w,(callFunc 34 vals).run Tryd.prog w=.ok (.enter 34 vals) w) {xs:List TV} {r:TV} (h:mf 5 xs=some r):oH Tryd.prog G ⟨79,[.may,.bf 5]⟩ 34 xs r:=by
 unfold mf at h
 split at h
 ·rename_i x s e'
  cases hc:x.bq && e'.beq 5 && !(s.size.beq 0) with
  | false=>rw [hc] at h; cases h
  | true =>
   rw [hc] at h
   simp only [cond_true,Dv] at h
   simp only [Dw,Bool.not_eq_true'] at hc
   obtain ⟨⟨h1,h2⟩,h3⟩:=hc
   subst h
   rw [rd h1,(ar _ _).1 h2]
   have hne:s.data.toList≠[]:=fun e=>by
    have h4:s.size=0:=by
     have h5:=congrArg List.length e
     rw [Array.length_toList] at h5
     exact h5
    rw [h4] at h3
    cases h3
   refine qN (u:=.string s) (fun w I=>.lit _) henter (fun b p v w I vals hB hsz h0 hargs=>?_)
   have:=Ai (by simpa using hsz) h0
   subst this
   refine (Bk (l:=s.data.toList) hB hne).mono ?_
   rintro e w' ⟨rfl,q1,q2⟩
   exact ⟨by simp,_,v,q1,q2,fun k hk=>.inl hk⟩
 ·cases h
end
end Go.Ab.S13
end
section
set_option maxRecDepth 100000
namespace Go.Ab.S13
open Go Go.Ab Go.Proofs Go.RowKit Go.Lib
theorem Bp (w:World) (e:TypeId) (s:ByteArray):Below w.heap.size w (bytesWorld w e s):=by
 refine ⟨rfl,rfl,rfl,by rw [bytesWorld_size]; omega,fun i hi=>bytesWorld_at_old w e s i hi⟩
theorem CC (s : ByteArray) (hlim : s.size ≤ 281474976710656) (w : World) (h1 : ∃ tp p, w.var? Tryd.prog "strconv.ErrSyntax" = some #[.iface tp p]) (h2 : ∃ tp p, w.var? Tryd.prog "strconv.ErrRange" = some #[.iface tp p]) :
  Calls Tryd.prog 41 #[.string s,.int .i64 10,.int .i64 16] w fun r w'=>(∃ e,r=.returned (.tuple #[.int .u64 (se s),e]))/\Below w.heap.size w w':=by
 unfold se
 cases hp:Lib.parseUintB 16 s.data.toList with
 | ok u =>
  refine (Any.strconv_ParseUint_10_at16_ok Tryd.laysPu14 s (by omega) u hp w).mono ?_
  rintro e w' ⟨rfl,h | h⟩
  ·subst h; exact ⟨⟨_,rfl⟩,Below.refl _ _⟩
  ·subst h; exact ⟨⟨_,rfl⟩,Bp w 5 s⟩
 | range =>
  obtain ⟨tp,p,hv⟩:=h2
  refine (Any.strconv_ParseUint_10_at16_range_var Tryd.laysPu14 s hlim hp tp p w hv).mono ?_
  rintro e w' ⟨N,rfl,_,_,hb⟩
  exact ⟨⟨_,rfl⟩,hb⟩
 | _ =>
  obtain ⟨tp,p,hv⟩:=h1
  refine (Any.strconv_ParseUint_10_at16_syntax_var Tryd.laysPu14 s hlim hp tp p w hv).mono ?_
  rintro e w' ⟨N,rfl,_,_,hb⟩
  exact ⟨⟨_,rfl⟩,hb⟩
theorem CZ (s:ByteArray):se s < 65536:=by
 unfold se
 cases hp:Lib.parseUintB 16 s.data.toList with
 | ok u =>
  have:=Lib.parseUintB_le hp
  show u < 65536
  omega
 | range=>decide
 | _=>decide
set_option maxHeartbeats 1000000 in
theorem vQ (s : ByteArray) (hlim : s.size ≤ 281474976710656) (w : World) (h1 : ∃ tp p, w.var? Tryd.prog "strconv.ErrSyntax" = some #[.iface tp p]) (h2 : ∃ tp p, w.var? Tryd.prog "strconv.ErrRange" = some #[.iface tp p]) :
  Calls Tryd.prog 30 #[.string s] w fun e w'=>e=.returned (.int .i64 (se s))/\Below w.heap.size w w':=by
 have hn:=CZ s
 generalize hu:se s=u at hn
 have hI:=CC s hlim w h1 h2
 rw [hu] at hI
 clear h1 h2
 go_enter Tryd.func30,Tryd.ntmps30
 go_wp2_with (go_at_call 41; refine hI.mono ?_; rintro e W1 ⟨⟨v,rfl⟩,hW⟩)
 go_ret
 exact ⟨rfl,hW⟩
theorem C0 {xs:List TV} {r:TV} (h:BL xs=some r):eK Tryd.prog (mi Tryd.prog) 30 xs r:=by
 unfold BL at h
 split at h
 ·rename_i s
  cases hc:Nat.ble s.size 281474976710656 with
  | false=>rw [hc] at h; cases h
  | true =>
   rw [hc] at h
   simp only [cond_true,Dv] at h
   subst h
   intro I w vals hG hlt hsz hargs
   have:=Ai (by simpa using hsz) (aI (hargs 0 _ rfl))
   subst this
   have e1:=(hG.2.2 _ (.inl rfl) _ Tryd.laysPu14.m0).1
   have e2:=(hG.2.2 _ (.inr rfl) _ Tryd.laysPu14.m1).1
   refine ⟨gG Tryd.func30 (by kernel_rfl) (by kernel_rfl) _ w,(vQ s (by simpa using hc) w e1 e2).mono ?_⟩
   rintro e w' ⟨rfl,hb⟩
   exact ⟨_,rfl,hb,I,fun _=>False,fun _ h=>h,fun b hb'=>Nat.lt_of_lt_of_le (hlt b hb') hb.size,fun _ _ h=>h,fun _ h=>h.elim,.fr (.lit _)⟩
 ·cases h
theorem BY {xs:List TV} {r:TV} (h:C2 xs=some r):eK Tryd.prog (mi Tryd.prog) 24 xs r:=Cx Tryd.laysM145 (gG Tryd.func24 (by kernel_rfl) (by kernel_rfl)) h
theorem wy {xs:List TV} {r:TV} (h:kr xs=some r):eK Tryd.prog (mi Tryd.prog) 28 xs r:=xA Tryd.laysM147 (gG Tryd.func28 (by kernel_rfl) (by kernel_rfl)) h
end Go.Ab.S13
end
section
set_option maxRecDepth 100000
namespace Go.Ab.S13
open Go Go.Ab Go.Proofs Go.Lib Go.RowKit
theorem ok_ty:∀ t d,tab t=some d->aM Tryd.prog t d:=by
 repeat refine AX (by kernel_rfl) ?_
 exact C6
theorem ok_fn:∀ f e,fns f=some e->Cm Tryd.prog f e :=
 ap Tryd.func3 (by kernel_rfl) (by kernel_rfl) (ap Tryd.func4 (by kernel_rfl) (by kernel_rfl) (ap Tryd.func5 (by kernel_rfl) (by kernel_rfl) (ap Tryd.func6 (by kernel_rfl) (by kernel_rfl) (ap Tryd.func7 (by kernel_rfl) (by kernel_rfl) (ap Tryd.func8 (by kernel_rfl) (by kernel_rfl) (ap Tryd.func9 (by kernel_rfl) (by kernel_rfl) (ap Tryd.func10 (by kernel_rfl) (by kernel_rfl) (ap Tryd.func11 (by kernel_rfl) (by kernel_rfl) (ap Tryd.func12 (by kernel_rfl) (by kernel_rfl) (ap Tryd.func13 (by kernel_rfl) (by kernel_rfl) (ap Tryd.func14 (by kernel_rfl) (by kernel_rfl) (ap Tryd.func15 (by kernel_rfl) (by kernel_rfl) (ap Tryd.func16 (by kernel_rfl) (by kernel_rfl) (ap Tryd.func17 (by kernel_rfl) (by kernel_rfl) (ap Tryd.func18 (by kernel_rfl) (by kernel_rfl) (ap Tryd.func19 (by kernel_rfl) (by kernel_rfl) (ap Tryd.func20 (by kernel_rfl) (by kernel_rfl) (ap Tryd.func21 (by kernel_rfl) (by kernel_rfl) (ap Tryd.func22 (by kernel_rfl) (by kernel_rfl) (ap Tryd.func23 (by kernel_rfl) (by kernel_rfl) (ap Tryd.func25 (by kernel_rfl) (by kernel_rfl) (ap Tryd.func26 (by kernel_rfl) (by kernel_rfl) (ap Tryd.func27 (by kernel_rfl) (by kernel_rfl) (ap Tryd.func29 (by kernel_rfl) (by kernel_rfl) (ap Tryd.func36 (by kernel_rfl) (by kernel_rfl) (ap Tryd.func37 (by kernel_rfl) (by kernel_rfl) (ap Tryd.func38 (by kernel_rfl) (by kernel_rfl) (ap Tryd.func39 (by kernel_rfl) (by kernel_rfl) (ap Tryd.func45 (by kernel_rfl) (by kernel_rfl) (ap Tryd.func46 (by kernel_rfl) (by kernel_rfl) (ap Tryd.func47 (by kernel_rfl) (by kernel_rfl) (ap Tryd.func48 (by kernel_rfl) (by kernel_rfl) (ap Tryd.func60 (by kernel_rfl) (by kernel_rfl) (ap Tryd.func61 (by kernel_rfl) (by kernel_rfl) (ap Tryd.func62 (by kernel_rfl) (by kernel_rfl) (ap Tryd.func78 (by kernel_rfl) (by kernel_rfl) (ap Tryd.func79 (by kernel_rfl) (by kernel_rfl) (ap Tryd.func80 (by kernel_rfl) (by kernel_rfl) (ap Tryd.func81 (by kernel_rfl) (by kernel_rfl) (ap Tryd.func82 (by kernel_rfl) (by kernel_rfl) (ap Tryd.func83 (by kernel_rfl) (by kernel_rfl) (ap Tryd.func84 (by kernel_rfl) (by kernel_rfl) (ap Tryd.func93 (by kernel_rfl) (by kernel_rfl) (ap Tryd.func96 (by kernel_rfl) (by kernel_rfl) (fn_nil)))))))))))))))))))))))))))))))))))))))))))))
theorem Ad (henter:∀ vals w,(callFunc 33 vals).run Tryd.prog w=.ok (.enter 33 vals) w) {xs:List TV} {r:TV} (h:vm xs=some r):eK Tryd.prog (Cr Tryd.prog) 33 xs r:=by
 unfold vm at h
 split at h
 ·rename_i n
  cases hc:decide (-9223372036854775808<=n/\n<=9223372036854775807) with
  | false=>rw [hc] at h; cases h
  | true =>
   rw [hc] at h
   simp only [cond_true,Dv] at h
   subst h
   simp only [decide_eq_true_eq] at hc
   intro I w vals hG hlt hsz hargs
   have:=Ai (by simpa using hsz) (aI (hargs 0 _ rfl))
   subst this
   refine ⟨henter _ w,(Any.strconv_Itoa Tryd.laysM171 n hc.1 hc.2 w hG.1).mono ?_⟩
   rintro e w' ⟨rfl,k,os,rfl⟩
   have hb:=wz w k os
   exact ⟨_,rfl,hb,I,fun _=>False,fun _ h=>h,fun b hb'=>Nat.lt_of_lt_of_le (hlt b hb') hb.size,fun _ _ h=>h,fun _ h=>h.elim,.fr (.lit _)⟩
 ·cases h
theorem ok_ext:∀ f g,ext f=some g->fT Tryd.prog (mi Tryd.prog) lent pure f g :=
 gI (fT.p rfl rfl fun h=>(BY h)) (gI (fT.p rfl rfl fun h=>(wy h)) (gI (fT.p rfl rfl fun h=>(C0 h)) (gI (fT.v rfl fun h=>o8 (gG Tryd.func31 (by kernel_rfl) (by kernel_rfl)) h) (gI (fT.v rfl fun h=>sk (gG Tryd.func32 (by kernel_rfl) (by kernel_rfl)) h) (gI (fT.p rfl rfl fun h=>(Ad (gG Tryd.func33 (by kernel_rfl) (by kernel_rfl)) h).wide) (gI (fT.v rfl fun h=>xo (gG Tryd.func34 (by kernel_rfl) (by kernel_rfl)) h) (CT)))))))
theorem ok:prog.Ok Tryd.prog (mi Tryd.prog):=⟨ok_ty,ok_fn,by kernel_rfl,fun f g xs r hg hr=>⟨fun h=>(by cases h),fun _=>⟨fun h=>(by cases h),fun _=>⟨fun _=>ok_ext f g hg xs r hr,fun c h=>(by cases h)⟩⟩⟩,fun _ _ _ _ h=>(by cases h)⟩
end Go.Ab.S13
end
section
set_option maxRecDepth 100000
namespace Go.Ab.S13
open Go Go.Ab Go.Proofs
theorem h_word {cs:List TV} (h:dD Tryd.prog 22 cs):∃ n,RW1 cs n:=by
 obtain ⟨n,rfl,hw⟩:=h.Cd Tryd.underlying22
 exact ⟨n,rfl,wf_u16 hw⟩
theorem CW {c:TV} (h:dD Tryd.prog 22 [c]):∃ n,c=W n/\inW n:=by
 obtain ⟨n,h1,h2⟩:=h_word h
 exact ⟨n,by simpa using h1,h2⟩
theorem v_word {x:TV} (h:u6 Tryd.prog 22 x):∃ n,x=W n/\inW n:=by
 rcases h with ⟨⟨cs,rfl,h⟩,h2⟩ | ⟨h,_,_⟩
 ·rcases h2 with ⟨fs,h2⟩ | ⟨n,e,h2⟩ <;> (rw [Tryd.underlying22] at h2; cases h2)
 ·exact CW h
theorem v_byte {x:TV} (h:u6 Tryd.prog 5 x):∃ n,x=.lit (.int .u8 n)/\(Lit.int .u8 n).wf=true:=by
 rcases h with ⟨⟨cs,rfl,h⟩,h2⟩ | ⟨h,_,_⟩
 ·rcases h2 with ⟨fs,h2⟩ | ⟨n,e,h2⟩ <;> (rw [Tryd.underlying5] at h2; cases h2)
 ·obtain ⟨n,h1,h2⟩:=h.Cd Tryd.underlying5
  exact ⟨n,by simpa using h1,h2⟩
end Go.Ab.S13
end

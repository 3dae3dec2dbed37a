import Derived.Test.YtaokcbfenabbgaaGreatDoorProg
import Derived.Test.YtaokcbfenabbgaaGreatDoorJZ14F193
import Derived.Test.YtaokcbfenabbgaaGreatDoorIP
import Derived.WalkKit
import Derived.Lib.Walk
import Derived.Lib.ParseIntBCases
import Derived.Lib.ConvBytes
import Derived.Test.YtaokcbfenabbgaaGreatDoorJZ14B
import Derived.Test.YtaokcbfenabbgaaGreatDoorJZ14Xa
set_option linter.all false
section
set_option maxRecDepth 100000
namespace Go.Ab.Z14
open Go Go.Ab Go.Proofs Go.RowKit Go.Lib
theorem Ay (w:World) (e:TypeId) (s:ByteArray):Below w.heap.size w (bytesWorld w e s):=by
 refine ⟨rfl,rfl,rfl,by rw [bytesWorld_size]; omega,fun i hi=>bytesWorld_at_old w e s i hi⟩
theorem Dk (s : ByteArray) (hlim : s.size ≤ 281474976710656) (w : World) (h1 : ∃ tp p, w.var? Tryz.prog "strconv.ErrSyntax" = some #[.iface tp p]) (h2 : ∃ tp p, w.var? Tryz.prog "strconv.ErrRange" = some #[.iface tp p]) :
  Calls Tryz.prog 59 #[.string s,.int .i64 10,.int .i64 16] w fun r w'=>(∃ e,r=.returned (.tuple #[.int .u64 (ss s),e]))/\Below w.heap.size w w':=by
 unfold ss
 cases hp:Lib.parseUintB 16 s.data.toList with
 | ok u =>
  refine (Any.strconv_ParseUint_10_at16_ok Tryz.laysPu14 s (by omega) u hp w).mono ?_
  rintro e w' ⟨rfl,h | h⟩
  ·subst h; exact ⟨⟨_,rfl⟩,Below.refl _ _⟩
  ·subst h; exact ⟨⟨_,rfl⟩,Ay w 5 s⟩
 | range =>
  obtain ⟨tp,p,hv⟩:=h2
  refine (Any.strconv_ParseUint_10_at16_range_var Tryz.laysPu14 s hlim hp tp p w hv).mono ?_
  rintro e w' ⟨N,rfl,_,_,hb⟩
  exact ⟨⟨_,rfl⟩,hb⟩
 | _ =>
  obtain ⟨tp,p,hv⟩:=h1
  refine (Any.strconv_ParseUint_10_at16_syntax_var Tryz.laysPu14 s hlim hp tp p w hv).mono ?_
  rintro e w' ⟨N,rfl,_,_,hb⟩
  exact ⟨⟨_,rfl⟩,hb⟩
theorem Da (s:ByteArray):ss s < 65536:=by
 unfold ss
 cases hp:Lib.parseUintB 16 s.data.toList with
 | ok u =>
  have:=Lib.parseUintB_le hp
  show u < 65536
  omega
 | range=>decide
 | _=>decide
set_option maxHeartbeats 1000000 in
theorem vj (s : ByteArray) (hlim : s.size ≤ 281474976710656) (w : World) (h1 : ∃ tp p, w.var? Tryz.prog "strconv.ErrSyntax" = some #[.iface tp p]) (h2 : ∃ tp p, w.var? Tryz.prog "strconv.ErrRange" = some #[.iface tp p]) :
  Calls Tryz.prog 48 #[.string s] w fun e w'=>e=.returned (.int .i64 (ss s))/\Below w.heap.size w w':=by
 have hn:=Da s
 generalize hu:ss s=u at hn
 have hI:=Dk s hlim w h1 h2
 rw [hu] at hI
 clear h1 h2
 go_enter Tryz.func48,Tryz.ntmps48
 go_wp2_with (go_at_call 59; refine hI.mono ?_; rintro e W1 ⟨⟨v,rfl⟩,hW⟩)
 go_ret
 exact ⟨rfl,hW⟩
theorem CM {xs:List TV} {r:TV} (h:Cl xs=some r):eM Tryz.prog (m8 Tryz.prog) 48 xs r:=by
 unfold Cl at h
 split at h
 ·rename_i s
  cases hc:Nat.ble s.size 281474976710656 with
  | false=>rw [hc] at h; cases h
  | true =>
   rw [hc] at h
   simp only [cond_true,DU] at h
   subst h
   intro I w vals hG hlt hsz hargs
   have:=xW (by simpa using hsz) (aL (hargs 0 _ rfl))
   subst this
   have e1:=(hG.2.2 _ (.inl rfl) _ Tryz.laysPu14.m0).1
   have e2:=(hG.2.2 _ (.inr rfl) _ Tryz.laysPu14.m1).1
   refine ⟨fE Tryz.func48 (by kernel_rfl) (by kernel_rfl) _ w,(vj s (by simpa using hc) w e1 e2).mono ?_⟩
   rintro e w' ⟨rfl,hb⟩
   exact ⟨_,rfl,hb,I,fun _=>False,fun _ h=>h,fun b hb'=>Nat.lt_of_lt_of_le (hlt b hb') hb.size,fun _ _ h=>h,fun _ h=>h.elim,.fr (.lit _)⟩
 ·cases h
theorem AO {xs:List TV} {r:TV} (h:CV xs=some r):eM Tryz.prog (m8 Tryz.prog) 40 xs r:=Dt Tryz.laysM145 (fE Tryz.func40 (by kernel_rfl) (by kernel_rfl)) h
theorem vY {xs:List TV} {r:TV} (h:kQ xs=some r):eM Tryz.prog (m8 Tryz.prog) 44 xs r:=xl Tryz.laysM147 (fE Tryz.func44 (by kernel_rfl) (by kernel_rfl)) h
end Go.Ab.Z14
end
section
set_option maxRecDepth 100000
namespace Go.Ab.Z14
open Go Go.Ab Go.Proofs Go.Lib Go.RowKit
theorem ok_ty:∀ t d,tab t=some d->aR Tryz.prog t d:=by
 repeat refine Bp (by kernel_rfl) ?_
 exact CX
theorem ok_fn:∀ f e,fns f=some e->Dc Tryz.prog f e :=
 am Tryz.func3 (by kernel_rfl) (by kernel_rfl) (am Tryz.func5 (by kernel_rfl) (by kernel_rfl) (am Tryz.func6 (by kernel_rfl) (by kernel_rfl) (am Tryz.func7 (by kernel_rfl) (by kernel_rfl) (am Tryz.func8 (by kernel_rfl) (by kernel_rfl) (am Tryz.func9 (by kernel_rfl) (by kernel_rfl) (am Tryz.func10 (by kernel_rfl) (by kernel_rfl) (am Tryz.func11 (by kernel_rfl) (by kernel_rfl) (am Tryz.func12 (by kernel_rfl) (by kernel_rfl) (am Tryz.func13 (by kernel_rfl) (by kernel_rfl) (am Tryz.func14 (by kernel_rfl) (by kernel_rfl) (am Tryz.func17 (by kernel_rfl) (by kernel_rfl) (am Tryz.func19 (by kernel_rfl) (by kernel_rfl) (am Tryz.func20 (by kernel_rfl) (by kernel_rfl) (am Tryz.func21 (by kernel_rfl) (by kernel_rfl) (am Tryz.func22 (by kernel_rfl) (by kernel_rfl) (am Tryz.func23 (by kernel_rfl) (by kernel_rfl) (am Tryz.func24 (by kernel_rfl) (by kernel_rfl) (am Tryz.func25 (by kernel_rfl) (by kernel_rfl) (am Tryz.func26 (by kernel_rfl) (by kernel_rfl) (am Tryz.func27 (by kernel_rfl) (by kernel_rfl) (am Tryz.func28 (by kernel_rfl) (by kernel_rfl) (am Tryz.func29 (by kernel_rfl) (by kernel_rfl) (am Tryz.func30 (by kernel_rfl) (by kernel_rfl) (am Tryz.func31 (by kernel_rfl) (by kernel_rfl) (am Tryz.func32 (by kernel_rfl) (by kernel_rfl) (am Tryz.func33 (by kernel_rfl) (by kernel_rfl) (am Tryz.func34 (by kernel_rfl) (by kernel_rfl) (am Tryz.func36 (by kernel_rfl) (by kernel_rfl) (am Tryz.func41 (by kernel_rfl) (by kernel_rfl) (am Tryz.func42 (by kernel_rfl) (by kernel_rfl) (am Tryz.func45 (by kernel_rfl) (by kernel_rfl) (am Tryz.func46 (by kernel_rfl) (by kernel_rfl) (am Tryz.func47 (by kernel_rfl) (by kernel_rfl) (am Tryz.func49 (by kernel_rfl) (by kernel_rfl) (am Tryz.func50 (by kernel_rfl) (by kernel_rfl) (am Tryz.func55 (by kernel_rfl) (by kernel_rfl) (am Tryz.func56 (by kernel_rfl) (by kernel_rfl) (am Tryz.func57 (by kernel_rfl) (by kernel_rfl) (am Tryz.func60 (by kernel_rfl) (by kernel_rfl) (am Tryz.func64 (by kernel_rfl) (by kernel_rfl) (am Tryz.func65 (by kernel_rfl) (by kernel_rfl) (am Tryz.func66 (by kernel_rfl) (by kernel_rfl) (am Tryz.func72 (by kernel_rfl) (by kernel_rfl) (am Tryz.func73 (by kernel_rfl) (by kernel_rfl) (am Tryz.func74 (by kernel_rfl) (by kernel_rfl) (am Tryz.func90 (by kernel_rfl) (by kernel_rfl) (am Tryz.func91 (by kernel_rfl) (by kernel_rfl) (am Tryz.func92 (by kernel_rfl) (by kernel_rfl) (am Tryz.func93 (by kernel_rfl) (by kernel_rfl) (am Tryz.func94 (by kernel_rfl) (by kernel_rfl) (am Tryz.func95 (by kernel_rfl) (by kernel_rfl) (am Tryz.func96 (by kernel_rfl) (by kernel_rfl) (am Tryz.func106 (by kernel_rfl) (by kernel_rfl) (am Tryz.func112 (by kernel_rfl) (by kernel_rfl) (fn_nil)))))))))))))))))))))))))))))))))))))))))))))))))))))))
theorem A5 (henter:∀ vals w,(callFunc 53 vals).run Tryz.prog w=.ok (.enter 53 vals) w) {xs:List TV} {r:TV} (h:vz xs=some r):eM Tryz.prog (Dv Tryz.prog) 53 xs r:=by
 unfold vz at h
 split at h
 ·rename_i n
  cases hc:decide (-9223372036854775808<=n/\n<=9223372036854775807) with
  | false=>rw [hc] at h; cases h
  | true =>
   rw [hc] at h
   simp only [cond_true,DU] at h
   subst h
   simp only [decide_eq_true_eq] at hc
   intro I w vals hG hlt hsz hargs
   have:=xW (by simpa using hsz) (aL (hargs 0 _ rfl))
   subst this
   refine ⟨henter _ w,(Any.strconv_Itoa Tryz.laysM171 n hc.1 hc.2 w hG.1).mono ?_⟩
   rintro e w' ⟨rfl,k,os,rfl⟩
   have hb:=wh w k os
   exact ⟨_,rfl,hb,I,fun _=>False,fun _ h=>h,fun b hb'=>Nat.lt_of_lt_of_le (hlt b hb') hb.size,fun _ _ h=>h,fun _ h=>h.elim,.fr (.lit _)⟩
 ·cases h
theorem ok_ext:∀ f g,ext f=some g->fR Tryz.prog (m8 Tryz.prog) lent pure f g :=
 fL (fR.v rfl fun h=>CW (fE Tryz.func38 (by kernel_rfl) (by kernel_rfl)) h) (fL (fR.v rfl fun h=>wT (fE Tryz.func39 (by kernel_rfl) (by kernel_rfl)) h) (fL (fR.p rfl rfl fun h=>(AO h)) (fL (fR.p rfl rfl fun h=>(vY h)) (fL (fR.p rfl rfl fun h=>(CM h)) (fL (fR.v rfl fun h=>pD (fE Tryz.func51 (by kernel_rfl) (by kernel_rfl)) h) (fL (fR.v rfl fun h=>sw (fE Tryz.func52 (by kernel_rfl) (by kernel_rfl)) h) (fL (fR.p rfl rfl fun h=>(A5 (fE Tryz.func53 (by kernel_rfl) (by kernel_rfl)) h).wide) (CP))))))))
theorem ok:prog.Ok Tryz.prog (m8 Tryz.prog):=⟨ok_ty,ok_fn,by kernel_rfl,fun f g xs r hg hr=>⟨fun h=>(by cases h),fun _=>⟨fun h=>(by cases h),fun _=>⟨fun _=>ok_ext f g hg xs r hr,fun c h=>(by cases h)⟩⟩⟩,fun _ _ _ _ h=>(by cases h)⟩
end Go.Ab.Z14
end

import Derived.Test.YthfcodidfelpoaaGM19
import Derived.Test.YthfcodidfelpoaaGD13T
set_option linter.all false
section
set_option maxRecDepth 100000
namespace Go.Ab.D13
open Go Go.Ab Go.Proofs Go.Lib Go.RowKit
theorem ok_ty:∀ t d,tab t=some d->ba Try.prog t d:=by
 repeat refine Bf (by kernel_rfl) ?_
 exact Da
theorem ok_fn:∀ f e,fns f=some e->Di Try.prog f e:=by
 refine ah Try.func3 (by kernel_rfl) (by kernel_rfl) ?_
 refine ah Try.func5 (by kernel_rfl) (by kernel_rfl) ?_
 refine ah Try.func6 (by kernel_rfl) (by kernel_rfl) ?_
 refine ah Try.func7 (by kernel_rfl) (by kernel_rfl) ?_
 refine ah Try.func8 (by kernel_rfl) (by kernel_rfl) ?_
 refine ah Try.func9 (by kernel_rfl) (by kernel_rfl) ?_
 refine ah Try.func10 (by kernel_rfl) (by kernel_rfl) ?_
 refine ah Try.func11 (by kernel_rfl) (by kernel_rfl) ?_
 refine ah Try.func12 (by kernel_rfl) (by kernel_rfl) ?_
 refine ah Try.func13 (by kernel_rfl) (by kernel_rfl) ?_
 refine ah Try.func14 (by kernel_rfl) (by kernel_rfl) ?_
 refine ah Try.func15 (by kernel_rfl) (by kernel_rfl) ?_
 refine ah Try.func16 (by kernel_rfl) (by kernel_rfl) ?_
 refine ah Try.func17 (by kernel_rfl) (by kernel_rfl) ?_
 refine ah Try.func18 (by kernel_rfl) (by kernel_rfl) ?_
 refine ah Try.func19 (by kernel_rfl) (by kernel_rfl) ?_
 refine ah Try.func20 (by kernel_rfl) (by kernel_rfl) ?_
 refine ah Try.func21 (by kernel_rfl) (by kernel_rfl) ?_
 refine ah Try.func22 (by kernel_rfl) (by kernel_rfl) ?_
 refine ah Try.func23 (by kernel_rfl) (by kernel_rfl) ?_
 refine ah Try.func24 (by kernel_rfl) (by kernel_rfl) ?_
 refine ah Try.func25 (by kernel_rfl) (by kernel_rfl) ?_
 refine ah Try.func26 (by kernel_rfl) (by kernel_rfl) ?_
 refine ah Try.func27 (by kernel_rfl) (by kernel_rfl) ?_
 refine ah Try.func28 (by kernel_rfl) (by kernel_rfl) ?_
 refine ah Try.func29 (by kernel_rfl) (by kernel_rfl) ?_
 refine ah Try.func30 (by kernel_rfl) (by kernel_rfl) ?_
 refine ah Try.func31 (by kernel_rfl) (by kernel_rfl) ?_
 refine ah Try.func32 (by kernel_rfl) (by kernel_rfl) ?_
 refine ah Try.func33 (by kernel_rfl) (by kernel_rfl) ?_
 refine ah Try.func34 (by kernel_rfl) (by kernel_rfl) ?_
 refine ah Try.func35 (by kernel_rfl) (by kernel_rfl) ?_
 refine ah Try.func36 (by kernel_rfl) (by kernel_rfl) ?_
 refine ah Try.func37 (by kernel_rfl) (by kernel_rfl) ?_
 refine ah Try.func38 (by kernel_rfl) (by kernel_rfl) ?_
 refine ah Try.func39 (by kernel_rfl) (by kernel_rfl) ?_
 refine ah Try.func40 (by kernel_rfl) (by kernel_rfl) ?_
 refine ah Try.func41 (by kernel_rfl) (by kernel_rfl) ?_
 refine ah Try.func42 (by kernel_rfl) (by kernel_rfl) ?_
 refine ah Try.func43 (by kernel_rfl) (by kernel_rfl) ?_
 refine ah Try.func44 (by kernel_rfl) (by kernel_rfl) ?_
 refine ah Try.func45 (by kernel_rfl) (by kernel_rfl) ?_
 refine ah Try.func46 (by kernel_rfl) (by kernel_rfl) ?_
 refine ah Try.func47 (by kernel_rfl) (by kernel_rfl) ?_
 refine ah Try.func48 (by kernel_rfl) (by kernel_rfl) ?_
 refine ah Try.func49 (by kernel_rfl) (by kernel_rfl) ?_
 refine ah Try.func50 (by kernel_rfl) (by kernel_rfl) ?_
 refine ah Try.func51 (by kernel_rfl) (by kernel_rfl) ?_
 refine ah Try.func52 (by kernel_rfl) (by kernel_rfl) ?_
 refine ah Try.func53 (by kernel_rfl) (by kernel_rfl) ?_
 refine ah Try.func54 (by kernel_rfl) (by kernel_rfl) ?_
 refine ah Try.func55 (by kernel_rfl) (by kernel_rfl) ?_
 refine ah Try.func56 (by kernel_rfl) (by kernel_rfl) ?_
 refine ah Try.func57 (by kernel_rfl) (by kernel_rfl) ?_
 refine ah Try.func58 (by kernel_rfl) (by kernel_rfl) ?_
 refine ah Try.func59 (by kernel_rfl) (by kernel_rfl) ?_
 refine ah Try.func60 (by kernel_rfl) (by kernel_rfl) ?_
 refine ah Try.func61 (by kernel_rfl) (by kernel_rfl) ?_
 refine ah Try.func62 (by kernel_rfl) (by kernel_rfl) ?_
 refine ah Try.func63 (by kernel_rfl) (by kernel_rfl) ?_
 refine ah Try.func64 (by kernel_rfl) (by kernel_rfl) ?_
 refine ah Try.func65 (by kernel_rfl) (by kernel_rfl) ?_
 refine ah Try.func66 (by kernel_rfl) (by kernel_rfl) ?_
 refine ah Try.func67 (by kernel_rfl) (by kernel_rfl) ?_
 refine ah Try.func68 (by kernel_rfl) (by kernel_rfl) ?_
 refine ah Try.func69 (by kernel_rfl) (by kernel_rfl) ?_
 refine ah Try.func70 (by kernel_rfl) (by kernel_rfl) ?_
 refine ah Try.func71 (by kernel_rfl) (by kernel_rfl) ?_
 refine ah Try.func72 (by kernel_rfl) (by kernel_rfl) ?_
 refine ah Try.func73 (by kernel_rfl) (by kernel_rfl) ?_
 refine ah Try.func74 (by kernel_rfl) (by kernel_rfl) ?_
 refine ah Try.func75 (by kernel_rfl) (by kernel_rfl) ?_
 refine ah Try.func76 (by kernel_rfl) (by kernel_rfl) ?_
 refine ah Try.func77 (by kernel_rfl) (by kernel_rfl) ?_
 refine ah Try.func78 (by kernel_rfl) (by kernel_rfl) ?_
 refine ah Try.func79 (by kernel_rfl) (by kernel_rfl) ?_
 exact fn_nil
def noG:Laid:=⟨fun _ _=>True,fun _ _ _=>trivial⟩
theorem ok:prog.Ok Try.prog noG:=⟨ok_ty,ok_fn,by kernel_rfl,fun f g xs r hg hr=>(by cases hg),fun _ _ _ _ h=>(by cases h)⟩
end Go.Ab.D13
end
section
set_option maxRecDepth 100000
namespace Go.Ab.D13
open Go Go.Ab Go.Proofs
theorem aF {cs:List TV} {n:Nat} (h:cs.length=n + 1):∃ c r,cs=c :: r/\r.length=n:=by
 cases cs with
 | nil=>simp at h
 | cons c r=>exact ⟨c,r,rfl,by simpa using h⟩
theorem mf {cs:List TV} (h:cs.length=0):cs=[]:=List.length_eq_zero_iff.1 h
theorem ie:Try.prog.cellsOf 3=1:=by kernel_rfl
theorem BN:Try.prog.cellsOf 48=1:=by kernel_rfl
theorem xy:Try.prog.cellsOf 4=1:=by kernel_rfl
theorem Ea:Try.prog.cellsOf 50=7:=by kernel_rfl
theorem Ek:Try.prog.cellsOf 44=8:=by kernel_rfl
theorem Ee:Try.prog.cellsOf 40=4:=by kernel_rfl
theorem zl:Try.prog.cellsOf 46=14:=by kernel_rfl
theorem Ce:Try.prog.cellsOf 27=3:=by kernel_rfl
theorem c_mod:Try.prog.cellsOf 24=1:=by kernel_rfl
theorem Cu:Try.prog.cellsOf 42=1:=by kernel_rfl
theorem C5:Try.prog.cellsOf 38=1:=by kernel_rfl
theorem c_inss:Try.prog.cellsOf 41=1:=by kernel_rfl
theorem A6:Try.prog.cellsOf 25=1:=by kernel_rfl
theorem DF:Try.prog.cellsOf 22=1:=by kernel_rfl
theorem Eh {cs:List TV} (h:bq Try.prog 3 cs):∃ n,RI1 cs n:=by
 obtain ⟨n,rfl,hw⟩:=h.CP Try.underlying3
 exact ⟨n,rfl,wf_i64 hw⟩
theorem Cb {cs:List TV} (h:bq Try.prog 48 cs):∃ n,RW1 cs n:=by
 obtain ⟨n,rfl,hw⟩:=h.CP Try.underlying48
 exact ⟨n,rfl,wf_u16 hw⟩
theorem fc {c:TV} (h:bq Try.prog 3 [c]):∃ n,c=I n/\inI n:=by
 obtain ⟨n,h1,h2⟩:=Eh h
 exact ⟨n,by simpa using h1,h2⟩
theorem DY {c:TV} (h:bq Try.prog 48 [c]):∃ n,c=W n/\inW n:=by
 obtain ⟨n,h1,h2⟩:=Cb h
 exact ⟨n,by simpa using h1,h2⟩
theorem vi {c:TV} (h:bq Try.prog 4 [c]):∃ b,c=B b:=by
 obtain ⟨b,h1⟩:=h.D1 Try.underlying4
 exact ⟨b,by simpa using h1⟩
theorem B8 {c:TV} (h:bq Try.prog 42 [c]):∃ l,RInts (some false) c l:=by
 obtain ⟨x,l,hx,hl⟩:=h.xj Try.underlying42 ie fun _ h=>Eh h
 simp at hx; subst hx
 exact ⟨l,hl⟩
theorem C4 {c:TV} (h:bq Try.prog 38 [c]):∃ l,RWords (some false) c l:=by
 obtain ⟨x,l,hx,hl⟩:=h.xj Try.underlying38 BN fun _ h=>Cb h
 simp at hx; subst hx
 exact ⟨l,hl⟩
theorem h_ins {cs:List TV} (h:bq Try.prog 50 cs):∃ a,RIns (some false) cs a:=by
 obtain ⟨hl,hf⟩:=h.iF Try.underlying50
 rw [Ea] at hl
 obtain ⟨c0,cs,rfl,k0⟩:=aF hl
 obtain ⟨c1,cs,rfl,k1⟩:=aF k0
 obtain ⟨c2,cs,rfl,k2⟩:=aF k1
 obtain ⟨c3,cs,rfl,k3⟩:=aF k2
 obtain ⟨c4,cs,rfl,k4⟩:=aF k3
 obtain ⟨c5,cs,rfl,k5⟩:=aF k4
 obtain ⟨c6,cs,rfl,k6⟩:=aF k5
 obtain rfl:=mf k6
 obtain ⟨n0,rfl,g0⟩:=fc (c:=c0) (by have:=hf 0 _ rfl; simpa [ie] using this)
 obtain ⟨n1,rfl,g1⟩:=fc (c:=c1) (by have:=hf 1 _ rfl; simpa [ie] using this)
 obtain ⟨n2,rfl,g2⟩:=fc (c:=c2) (by have:=hf 2 _ rfl; simpa [ie] using this)
 obtain ⟨n3,rfl,g3⟩:=fc (c:=c3) (by have:=hf 3 _ rfl; simpa [ie] using this)
 obtain ⟨n4,rfl,g4⟩:=DY (c:=c4) (by have:=hf 4 _ rfl; simpa [BN] using this)
 obtain ⟨n5,rfl,g5⟩:=fc (c:=c5) (by have:=hf 5 _ rfl; simpa [ie] using this)
 obtain ⟨l,hls⟩:=B8 (c:=c6) (by have:=hf 6 _ rfl; simpa [Cu] using this)
 exact ⟨⟨n0,n1,n2,n3,n4,n5,l⟩,_,rfl,hls,g0,g1,g2,g3,g4,g5⟩
theorem h_end {cs:List TV} (h:bq Try.prog 44 cs):∃ a,REnd (some false) cs a:=by
 obtain ⟨hl,hf⟩:=h.iF Try.underlying44
 rw [Ek] at hl
 obtain ⟨c0,cs,rfl,k0⟩:=aF hl
 obtain ⟨c1,cs,rfl,k1⟩:=aF k0
 obtain ⟨c2,cs,rfl,k2⟩:=aF k1
 obtain ⟨c3,cs,rfl,k3⟩:=aF k2
 obtain ⟨c4,cs,rfl,k4⟩:=aF k3
 obtain ⟨c5,cs,rfl,k5⟩:=aF k4
 obtain ⟨c6,cs,rfl,k6⟩:=aF k5
 obtain ⟨c7,cs,rfl,k7⟩:=aF k6
 obtain rfl:=mf k7
 obtain ⟨n0,rfl,g0⟩:=fc (c:=c0) (by have:=hf 0 _ rfl; simpa [ie] using this)
 obtain ⟨n1,rfl,g1⟩:=fc (c:=c1) (by have:=hf 1 _ rfl; simpa [ie] using this)
 obtain ⟨n2,rfl,g2⟩:=fc (c:=c2) (by have:=hf 2 _ rfl; simpa [ie] using this)
 obtain ⟨n3,rfl,g3⟩:=fc (c:=c3) (by have:=hf 3 _ rfl; simpa [ie] using this)
 obtain ⟨l,hls⟩:=B8 (c:=c4) (by have:=hf 4 _ rfl; simpa [Cu] using this)
 obtain ⟨n5,rfl,g5⟩:=fc (c:=c5) (by have:=hf 5 _ rfl; simpa [ie] using this)
 obtain ⟨n6,rfl,g6⟩:=fc (c:=c6) (by have:=hf 6 _ rfl; simpa [ie] using this)
 obtain ⟨n7,rfl,g7⟩:=fc (c:=c7) (by have:=hf 7 _ rfl; simpa [ie] using this)
 exact ⟨⟨n0,n1,n2,n3,l,n5,n6,n7⟩,_,rfl,hls,g0,g1,g2,g3,g5,g6,g7⟩
theorem h_pad {cs:List TV} (h:bq Try.prog 40 cs):∃ a,RPad (some false) cs a:=by
 obtain ⟨hl,hf⟩:=h.iF Try.underlying40
 rw [Ee] at hl
 obtain ⟨c0,cs,rfl,k0⟩:=aF hl
 obtain ⟨c1,cs,rfl,k1⟩:=aF k0
 obtain ⟨c2,cs,rfl,k2⟩:=aF k1
 obtain ⟨c3,cs,rfl,k3⟩:=aF k2
 obtain rfl:=mf k3
 obtain ⟨n0,rfl,g0⟩:=fc (c:=c0) (by have:=hf 0 _ rfl; simpa [ie] using this)
 obtain ⟨l,hls⟩:=C4 (c:=c1) (by have:=hf 1 _ rfl; simpa [C5] using this)
 obtain ⟨b2,rfl⟩:=vi (c:=c2) (by have:=hf 2 _ rfl; simpa [xy] using this)
 obtain ⟨b3,rfl⟩:=vi (c:=c3) (by have:=hf 3 _ rfl; simpa [xy] using this)
 exact ⟨⟨n0,l,b2,b3⟩,_,rfl,hls,g0⟩
theorem CW {cs:List TV} (h:bq Try.prog 46 cs):∃ a,RBlock (some false) cs a:=by
 obtain ⟨hl,hf⟩:=h.iF Try.underlying46
 rw [zl] at hl
 obtain ⟨c0,cs,rfl,k0⟩:=aF hl
 obtain ⟨c1,cs,rfl,k1⟩:=aF k0
 obtain ⟨c2,cs,rfl,k2⟩:=aF k1
 obtain ⟨c3,cs,rfl,k3⟩:=aF k2
 obtain ⟨c4,cs,rfl,k4⟩:=aF k3
 obtain ⟨c5,cs,rfl,k5⟩:=aF k4
 obtain ⟨c6,cs,rfl,k6⟩:=aF k5
 obtain ⟨c7,cs,rfl,k7⟩:=aF k6
 obtain ⟨c8,cs,rfl,k8⟩:=aF k7
 obtain ⟨c9,cs,rfl,k9⟩:=aF k8
 obtain ⟨c10,cs,rfl,k10⟩:=aF k9
 obtain ⟨c11,cs,rfl,k11⟩:=aF k10
 obtain ⟨c12,cs,rfl,k12⟩:=aF k11
 obtain ⟨c13,cs,rfl,k13⟩:=aF k12
 obtain rfl:=mf k13
 obtain ⟨b0,rfl⟩:=vi (c:=c0) (by have:=hf 0 _ rfl; simpa [xy] using this)
 obtain ⟨p,cc,hp,hpc,hpd⟩:=h_pad (cs:=[c1,c2,c3,c4]) (by have:=hf 1 _ rfl; simpa [Ee] using this)
 obtain ⟨x,is,hx,his⟩:=bq.xj (cs:=[c5]) (by have:=hf 2 _ rfl; simpa [c_inss] using this) Try.underlying41 Ea fun _ h=>h_ins h
 obtain ⟨e,gg,he,heg,heo⟩:=h_end (cs:=[c6,c7,c8,c9,c10,c11,c12,c13]) (by have:=hf 3 _ rfl; simpa [Ek] using this)
 simp at hp hx he
 obtain ⟨rfl,rfl,rfl,rfl⟩:=hp
 subst hx
 obtain ⟨rfl,rfl,rfl,rfl,rfl,rfl,rfl,rfl⟩:=he
 exact ⟨⟨b0,p,is,e⟩,_,_,_,rfl,hpc,hpd,his,heg,heo⟩
theorem Bt {cs:List TV} (h:bq Try.prog 27 cs):∃ a,RFunc (some false) cs a:=by
 obtain ⟨hl,hf⟩:=h.iF Try.underlying27
 rw [Ce] at hl
 obtain ⟨c0,cs,rfl,k0⟩:=aF hl
 obtain ⟨c1,cs,rfl,k1⟩:=aF k0
 obtain ⟨c2,cs,rfl,k2⟩:=aF k1
 obtain rfl:=mf k2
 obtain ⟨n0,rfl,g0⟩:=fc (c:=c0) (by have:=hf 0 _ rfl; simpa [ie] using this)
 obtain ⟨n1,rfl,g1⟩:=fc (c:=c1) (by have:=hf 1 _ rfl; simpa [ie] using this)
 obtain ⟨x,bs,hx,hbs⟩:=bq.xj (cs:=[c2]) (by have:=hf 2 _ rfl; simpa [A6] using this) Try.underlying25 zl fun _ h=>CW h
 simp at hx
 subst hx
 exact ⟨⟨n0,n1,bs⟩,_,rfl,hbs,g0,g1⟩
theorem h_mod {cs:List TV} (h:bq Try.prog 24 cs):∃ a,RMod (some false) cs a:=by
 obtain ⟨hl,hf⟩:=h.iF Try.underlying24
 rw [c_mod] at hl
 obtain ⟨c0,cs,rfl,k0⟩:=aF hl
 obtain rfl:=mf k0
 obtain ⟨x,fs,hx,hfs⟩:=bq.xj (cs:=[c0]) (by have:=hf 0 _ rfl; simpa [DF] using this) Try.underlying22 Ce fun _ h=>Bt h
 simp at hx
 subst hx
 exact ⟨⟨fs⟩,_,rfl,hfs⟩
theorem v_mod {x:TV} (h:yQ Try.prog 24 x):∃ cs m,x=.agg cs/\RMod (some false) cs m:=by
 rcases h with ⟨⟨cs,rfl,h⟩,_⟩ | ⟨_,h,_⟩
 ·obtain ⟨m,hm⟩:=h_mod h; exact ⟨cs,m,rfl,hm⟩
 ·exact absurd Try.underlying24 (h _)
theorem v_func {x:TV} (h:yQ Try.prog 27 x):∃ cs m,x=.agg cs/\RFunc (some false) cs m:=by
 rcases h with ⟨⟨cs,rfl,h⟩,_⟩ | ⟨_,h,_⟩
 ·obtain ⟨m,hm⟩:=Bt h; exact ⟨cs,m,rfl,hm⟩
 ·exact absurd Try.underlying27 (h _)
end Go.Ab.D13
end

import Derived.Test.YtpkpckdealhkhaaCM19
import Derived.Test.YtpkpckdealhkhaaCC14T
set_option linter.all false
section
set_option maxRecDepth 100000
namespace Go.Ab.C14
open Go Go.Ab Go.Proofs Go.Lib Go.RowKit
theorem ok_ty:∀ t d,tab t=some d->aN Try.prog t d:=by
 repeat refine yL (by kernel_rfl) ?_
 exact A6
theorem ok_fn:∀ f e,fns f=some e->BB Try.prog f e:=by
 refine am Try.func5 (by kernel_rfl) (by kernel_rfl) ?_
 refine am Try.func6 (by kernel_rfl) (by kernel_rfl) ?_
 refine am Try.func7 (by kernel_rfl) (by kernel_rfl) ?_
 refine am Try.func8 (by kernel_rfl) (by kernel_rfl) ?_
 refine am Try.func9 (by kernel_rfl) (by kernel_rfl) ?_
 refine am Try.func10 (by kernel_rfl) (by kernel_rfl) ?_
 refine am Try.func12 (by kernel_rfl) (by kernel_rfl) ?_
 refine am Try.func16 (by kernel_rfl) (by kernel_rfl) ?_
 refine am Try.func18 (by kernel_rfl) (by kernel_rfl) ?_
 refine am Try.func20 (by kernel_rfl) (by kernel_rfl) ?_
 refine am Try.func21 (by kernel_rfl) (by kernel_rfl) ?_
 refine am Try.func22 (by kernel_rfl) (by kernel_rfl) ?_
 refine am Try.func23 (by kernel_rfl) (by kernel_rfl) ?_
 refine am Try.func24 (by kernel_rfl) (by kernel_rfl) ?_
 refine am Try.func25 (by kernel_rfl) (by kernel_rfl) ?_
 refine am Try.func26 (by kernel_rfl) (by kernel_rfl) ?_
 refine am Try.func27 (by kernel_rfl) (by kernel_rfl) ?_
 refine am Try.func28 (by kernel_rfl) (by kernel_rfl) ?_
 refine am Try.func32 (by kernel_rfl) (by kernel_rfl) ?_
 refine am Try.func33 (by kernel_rfl) (by kernel_rfl) ?_
 refine am Try.func34 (by kernel_rfl) (by kernel_rfl) ?_
 refine am Try.func35 (by kernel_rfl) (by kernel_rfl) ?_
 refine am Try.func36 (by kernel_rfl) (by kernel_rfl) ?_
 refine am Try.func40 (by kernel_rfl) (by kernel_rfl) ?_
 refine am Try.func41 (by kernel_rfl) (by kernel_rfl) ?_
 refine am Try.func42 (by kernel_rfl) (by kernel_rfl) ?_
 refine am Try.func43 (by kernel_rfl) (by kernel_rfl) ?_
 refine am Try.func44 (by kernel_rfl) (by kernel_rfl) ?_
 refine am Try.func49 (by kernel_rfl) (by kernel_rfl) ?_
 refine am Try.func50 (by kernel_rfl) (by kernel_rfl) ?_
 refine am Try.func51 (by kernel_rfl) (by kernel_rfl) ?_
 refine am Try.func52 (by kernel_rfl) (by kernel_rfl) ?_
 refine am Try.func53 (by kernel_rfl) (by kernel_rfl) ?_
 refine am Try.func60 (by kernel_rfl) (by kernel_rfl) ?_
 refine am Try.func61 (by kernel_rfl) (by kernel_rfl) ?_
 refine am Try.func62 (by kernel_rfl) (by kernel_rfl) ?_
 refine am Try.func63 (by kernel_rfl) (by kernel_rfl) ?_
 refine am Try.func64 (by kernel_rfl) (by kernel_rfl) ?_
 refine am Try.func72 (by kernel_rfl) (by kernel_rfl) ?_
 refine am Try.func73 (by kernel_rfl) (by kernel_rfl) ?_
 refine am Try.func74 (by kernel_rfl) (by kernel_rfl) ?_
 refine am Try.func75 (by kernel_rfl) (by kernel_rfl) ?_
 refine am Try.func76 (by kernel_rfl) (by kernel_rfl) ?_
 refine am Try.func77 (by kernel_rfl) (by kernel_rfl) ?_
 refine am Try.func78 (by kernel_rfl) (by kernel_rfl) ?_
 refine am Try.func84 (by kernel_rfl) (by kernel_rfl) ?_
 refine am Try.func88 (by kernel_rfl) (by kernel_rfl) ?_
 exact fn_nil
def noG:Laid:=⟨fun _ _=>True,fun _ _ _=>trivial⟩
theorem ok:prog.Ok Try.prog noG:=⟨ok_ty,ok_fn,by kernel_rfl,fun f g xs r hg hr=>(by cases hg),fun _ _ _ _ h=>(by cases h)⟩
end Go.Ab.C14
end
section
set_option maxRecDepth 100000
namespace Go.Ab.C14
open Go Go.Ab Go.Proofs
theorem ao {cs:List TV} {n:Nat} (h:cs.length=n + 1):∃ c r,cs=c :: r/\r.length=n:=by
 cases cs with
 | nil=>simp at h
 | cons c r=>exact ⟨c,r,rfl,by simpa using h⟩
theorem ko {cs:List TV} (h:cs.length=0):cs=[]:=List.length_eq_zero_iff.1 h
theorem fH:Try.prog.cellsOf 3=1:=by kernel_rfl
theorem yx:Try.prog.cellsOf 53=1:=by kernel_rfl
theorem vj:Try.prog.cellsOf 4=1:=by kernel_rfl
theorem BN:Try.prog.cellsOf 55=7:=by kernel_rfl
theorem BU:Try.prog.cellsOf 46=8:=by kernel_rfl
theorem BR:Try.prog.cellsOf 42=4:=by kernel_rfl
theorem vW:Try.prog.cellsOf 48=14:=by kernel_rfl
theorem zq:Try.prog.cellsOf 40=3:=by kernel_rfl
theorem c_mod:Try.prog.cellsOf 24=1:=by kernel_rfl
theorem zv:Try.prog.cellsOf 44=1:=by kernel_rfl
theorem A5:Try.prog.cellsOf 33=1:=by kernel_rfl
theorem c_inss:Try.prog.cellsOf 43=1:=by kernel_rfl
theorem yZ:Try.prog.cellsOf 38=1:=by kernel_rfl
theorem Bt:Try.prog.cellsOf 22=1:=by kernel_rfl
theorem BV {cs:List TV} (h:a9 Try.prog 3 cs):∃ n,RI1 cs n:=by
 obtain ⟨n,rfl,hw⟩:=h.AL Try.underlying3
 exact ⟨n,rfl,wf_i64 hw⟩
theorem AF {cs:List TV} (h:a9 Try.prog 53 cs):∃ n,RW1 cs n:=by
 obtain ⟨n,rfl,hw⟩:=h.AL Try.underlying53
 exact ⟨n,rfl,wf_u16 hw⟩
theorem dN {c:TV} (h:a9 Try.prog 3 [c]):∃ n,c=I n/\inI n:=by
 obtain ⟨n,h1,h2⟩:=BV h
 exact ⟨n,by simpa using h1,h2⟩
theorem A4 {c:TV} (h:a9 Try.prog 53 [c]):∃ n,c=W n/\inW n:=by
 obtain ⟨n,h1,h2⟩:=AF h
 exact ⟨n,by simpa using h1,h2⟩
theorem sV {c:TV} (h:a9 Try.prog 4 [c]):∃ b,c=B b:=by
 obtain ⟨b,h1⟩:=h.BH Try.underlying4
 exact ⟨b,by simpa using h1⟩
theorem zh {c:TV} (h:a9 Try.prog 44 [c]):∃ l,RInts (some false) c l:=by
 obtain ⟨x,l,hx,hl⟩:=h.u6 Try.underlying44 fH fun _ h=>BV h
 simp at hx; subst hx
 exact ⟨l,hl⟩
theorem Bb {c:TV} (h:a9 Try.prog 33 [c]):∃ l,RWords (some false) c l:=by
 obtain ⟨x,l,hx,hl⟩:=h.u6 Try.underlying33 yx fun _ h=>AF h
 simp at hx; subst hx
 exact ⟨l,hl⟩
theorem h_ins {cs:List TV} (h:a9 Try.prog 55 cs):∃ a,RIns (some false) cs a:=by
 obtain ⟨hl,hf⟩:=h.gc Try.underlying55
 rw [BN] at hl
 obtain ⟨c0,cs,rfl,k0⟩:=ao hl
 obtain ⟨c1,cs,rfl,k1⟩:=ao k0
 obtain ⟨c2,cs,rfl,k2⟩:=ao k1
 obtain ⟨c3,cs,rfl,k3⟩:=ao k2
 obtain ⟨c4,cs,rfl,k4⟩:=ao k3
 obtain ⟨c5,cs,rfl,k5⟩:=ao k4
 obtain ⟨c6,cs,rfl,k6⟩:=ao k5
 obtain rfl:=ko k6
 obtain ⟨n0,rfl,g0⟩:=dN (c:=c0) (by have:=hf 0 _ rfl; simpa [fH] using this)
 obtain ⟨n1,rfl,g1⟩:=dN (c:=c1) (by have:=hf 1 _ rfl; simpa [fH] using this)
 obtain ⟨n2,rfl,g2⟩:=dN (c:=c2) (by have:=hf 2 _ rfl; simpa [fH] using this)
 obtain ⟨n3,rfl,g3⟩:=dN (c:=c3) (by have:=hf 3 _ rfl; simpa [fH] using this)
 obtain ⟨n4,rfl,g4⟩:=A4 (c:=c4) (by have:=hf 4 _ rfl; simpa [yx] using this)
 obtain ⟨n5,rfl,g5⟩:=dN (c:=c5) (by have:=hf 5 _ rfl; simpa [fH] using this)
 obtain ⟨l,hls⟩:=zh (c:=c6) (by have:=hf 6 _ rfl; simpa [zv] using this)
 exact ⟨⟨n0,n1,n2,n3,n4,n5,l⟩,_,rfl,hls,g0,g1,g2,g3,g4,g5⟩
theorem h_end {cs:List TV} (h:a9 Try.prog 46 cs):∃ a,REnd (some false) cs a:=by
 obtain ⟨hl,hf⟩:=h.gc Try.underlying46
 rw [BU] at hl
 obtain ⟨c0,cs,rfl,k0⟩:=ao hl
 obtain ⟨c1,cs,rfl,k1⟩:=ao k0
 obtain ⟨c2,cs,rfl,k2⟩:=ao k1
 obtain ⟨c3,cs,rfl,k3⟩:=ao k2
 obtain ⟨c4,cs,rfl,k4⟩:=ao k3
 obtain ⟨c5,cs,rfl,k5⟩:=ao k4
 obtain ⟨c6,cs,rfl,k6⟩:=ao k5
 obtain ⟨c7,cs,rfl,k7⟩:=ao k6
 obtain rfl:=ko k7
 obtain ⟨n0,rfl,g0⟩:=dN (c:=c0) (by have:=hf 0 _ rfl; simpa [fH] using this)
 obtain ⟨n1,rfl,g1⟩:=dN (c:=c1) (by have:=hf 1 _ rfl; simpa [fH] using this)
 obtain ⟨n2,rfl,g2⟩:=dN (c:=c2) (by have:=hf 2 _ rfl; simpa [fH] using this)
 obtain ⟨n3,rfl,g3⟩:=dN (c:=c3) (by have:=hf 3 _ rfl; simpa [fH] using this)
 obtain ⟨l,hls⟩:=zh (c:=c4) (by have:=hf 4 _ rfl; simpa [zv] using this)
 obtain ⟨n5,rfl,g5⟩:=dN (c:=c5) (by have:=hf 5 _ rfl; simpa [fH] using this)
 obtain ⟨n6,rfl,g6⟩:=dN (c:=c6) (by have:=hf 6 _ rfl; simpa [fH] using this)
 obtain ⟨n7,rfl,g7⟩:=dN (c:=c7) (by have:=hf 7 _ rfl; simpa [fH] using this)
 exact ⟨⟨n0,n1,n2,n3,l,n5,n6,n7⟩,_,rfl,hls,g0,g1,g2,g3,g5,g6,g7⟩
theorem h_pad {cs:List TV} (h:a9 Try.prog 42 cs):∃ a,RPad (some false) cs a:=by
 obtain ⟨hl,hf⟩:=h.gc Try.underlying42
 rw [BR] at hl
 obtain ⟨c0,cs,rfl,k0⟩:=ao hl
 obtain ⟨c1,cs,rfl,k1⟩:=ao k0
 obtain ⟨c2,cs,rfl,k2⟩:=ao k1
 obtain ⟨c3,cs,rfl,k3⟩:=ao k2
 obtain rfl:=ko k3
 obtain ⟨n0,rfl,g0⟩:=dN (c:=c0) (by have:=hf 0 _ rfl; simpa [fH] using this)
 obtain ⟨l,hls⟩:=Bb (c:=c1) (by have:=hf 1 _ rfl; simpa [A5] using this)
 obtain ⟨b2,rfl⟩:=sV (c:=c2) (by have:=hf 2 _ rfl; simpa [vj] using this)
 obtain ⟨b3,rfl⟩:=sV (c:=c3) (by have:=hf 3 _ rfl; simpa [vj] using this)
 exact ⟨⟨n0,l,b2,b3⟩,_,rfl,hls,g0⟩
theorem AU {cs:List TV} (h:a9 Try.prog 48 cs):∃ a,RBlock (some false) cs a:=by
 obtain ⟨hl,hf⟩:=h.gc Try.underlying48
 rw [vW] at hl
 obtain ⟨c0,cs,rfl,k0⟩:=ao hl
 obtain ⟨c1,cs,rfl,k1⟩:=ao k0
 obtain ⟨c2,cs,rfl,k2⟩:=ao k1
 obtain ⟨c3,cs,rfl,k3⟩:=ao k2
 obtain ⟨c4,cs,rfl,k4⟩:=ao k3
 obtain ⟨c5,cs,rfl,k5⟩:=ao k4
 obtain ⟨c6,cs,rfl,k6⟩:=ao k5
 obtain ⟨c7,cs,rfl,k7⟩:=ao k6
 obtain ⟨c8,cs,rfl,k8⟩:=ao k7
 obtain ⟨c9,cs,rfl,k9⟩:=ao k8
 obtain ⟨c10,cs,rfl,k10⟩:=ao k9
 obtain ⟨c11,cs,rfl,k11⟩:=ao k10
 obtain ⟨c12,cs,rfl,k12⟩:=ao k11
 obtain ⟨c13,cs,rfl,k13⟩:=ao k12
 obtain rfl:=ko k13
 obtain ⟨b0,rfl⟩:=sV (c:=c0) (by have:=hf 0 _ rfl; simpa [vj] using this)
 obtain ⟨p,cc,hp,hpc,hpd⟩:=h_pad (cs:=[c1,c2,c3,c4]) (by have:=hf 1 _ rfl; simpa [BR] using this)
 obtain ⟨x,is,hx,his⟩:=a9.u6 (cs:=[c5]) (by have:=hf 2 _ rfl; simpa [c_inss] using this) Try.underlying43 BN fun _ h=>h_ins h
 obtain ⟨e,gg,he,heg,heo⟩:=h_end (cs:=[c6,c7,c8,c9,c10,c11,c12,c13]) (by have:=hf 3 _ rfl; simpa [BU] using this)
 simp at hp hx he
 obtain ⟨rfl,rfl,rfl,rfl⟩:=hp
 subst hx
 obtain ⟨rfl,rfl,rfl,rfl,rfl,rfl,rfl,rfl⟩:=he
 exact ⟨⟨b0,p,is,e⟩,_,_,_,rfl,hpc,hpd,his,heg,heo⟩
theorem h_func {cs:List TV} (h:a9 Try.prog 40 cs):∃ a,RFunc (some false) cs a:=by
 obtain ⟨hl,hf⟩:=h.gc Try.underlying40
 rw [zq] at hl
 obtain ⟨c0,cs,rfl,k0⟩:=ao hl
 obtain ⟨c1,cs,rfl,k1⟩:=ao k0
 obtain ⟨c2,cs,rfl,k2⟩:=ao k1
 obtain rfl:=ko k2
 obtain ⟨n0,rfl,g0⟩:=dN (c:=c0) (by have:=hf 0 _ rfl; simpa [fH] using this)
 obtain ⟨n1,rfl,g1⟩:=dN (c:=c1) (by have:=hf 1 _ rfl; simpa [fH] using this)
 obtain ⟨x,bs,hx,hbs⟩:=a9.u6 (cs:=[c2]) (by have:=hf 2 _ rfl; simpa [yZ] using this) Try.underlying38 vW fun _ h=>AU h
 simp at hx
 subst hx
 exact ⟨⟨n0,n1,bs⟩,_,rfl,hbs,g0,g1⟩
theorem h_mod {cs:List TV} (h:a9 Try.prog 24 cs):∃ a,RMod (some false) cs a:=by
 obtain ⟨hl,hf⟩:=h.gc Try.underlying24
 rw [c_mod] at hl
 obtain ⟨c0,cs,rfl,k0⟩:=ao hl
 obtain rfl:=ko k0
 obtain ⟨x,fs,hx,hfs⟩:=a9.u6 (cs:=[c0]) (by have:=hf 0 _ rfl; simpa [Bt] using this) Try.underlying22 zq fun _ h=>h_func h
 simp at hx
 subst hx
 exact ⟨⟨fs⟩,_,rfl,hfs⟩
theorem v_mod {x:TV} (h:Ar Try.prog 24 x):∃ cs m,x=.agg cs/\RMod (some false) cs m:=by
 rcases h with ⟨⟨cs,rfl,h⟩,_⟩ | ⟨_,h,_⟩
 ·obtain ⟨m,hm⟩:=h_mod h; exact ⟨cs,m,rfl,hm⟩
 ·exact absurd Try.underlying24 (h _)
end Go.Ab.C14
end

import Derived.Test.YtpkpckdealhkhaaBM19
import Derived.Test.YtpkpckdealhkhaaBC14T
set_option linter.all false
section
set_option maxRecDepth 100000
namespace Go.Ab.C14
open Go Go.Ab Go.Proofs Go.Lib Go.RowKit
theorem ok_ty:∀t d,tab t=some d->aV Try.prog t d:=by
 repeat refine Aq (by kernel_rfl) ?_
 exact A0
theorem ok_fn:∀f e,fns f=some e->Bk Try.prog f e:=by
 refine ak Try.func3 (by kernel_rfl) (by kernel_rfl) ?_
 refine ak Try.func6 (by kernel_rfl) (by kernel_rfl) ?_
 refine ak Try.func7 (by kernel_rfl) (by kernel_rfl) ?_
 refine ak Try.func8 (by kernel_rfl) (by kernel_rfl) ?_
 refine ak Try.func9 (by kernel_rfl) (by kernel_rfl) ?_
 refine ak Try.func10 (by kernel_rfl) (by kernel_rfl) ?_
 refine ak Try.func11 (by kernel_rfl) (by kernel_rfl) ?_
 refine ak Try.func12 (by kernel_rfl) (by kernel_rfl) ?_
 refine ak Try.func13 (by kernel_rfl) (by kernel_rfl) ?_
 refine ak Try.func14 (by kernel_rfl) (by kernel_rfl) ?_
 refine ak Try.func16 (by kernel_rfl) (by kernel_rfl) ?_
 refine ak Try.func18 (by kernel_rfl) (by kernel_rfl) ?_
 refine ak Try.func20 (by kernel_rfl) (by kernel_rfl) ?_
 refine ak Try.func21 (by kernel_rfl) (by kernel_rfl) ?_
 refine ak Try.func22 (by kernel_rfl) (by kernel_rfl) ?_
 refine ak Try.func23 (by kernel_rfl) (by kernel_rfl) ?_
 refine ak Try.func24 (by kernel_rfl) (by kernel_rfl) ?_
 refine ak Try.func25 (by kernel_rfl) (by kernel_rfl) ?_
 refine ak Try.func26 (by kernel_rfl) (by kernel_rfl) ?_
 refine ak Try.func27 (by kernel_rfl) (by kernel_rfl) ?_
 refine ak Try.func28 (by kernel_rfl) (by kernel_rfl) ?_
 refine ak Try.func29 (by kernel_rfl) (by kernel_rfl) ?_
 refine ak Try.func30 (by kernel_rfl) (by kernel_rfl) ?_
 refine ak Try.func31 (by kernel_rfl) (by kernel_rfl) ?_
 refine ak Try.func32 (by kernel_rfl) (by kernel_rfl) ?_
 refine ak Try.func33 (by kernel_rfl) (by kernel_rfl) ?_
 refine ak Try.func34 (by kernel_rfl) (by kernel_rfl) ?_
 refine ak Try.func35 (by kernel_rfl) (by kernel_rfl) ?_
 refine ak Try.func36 (by kernel_rfl) (by kernel_rfl) ?_
 refine ak Try.func40 (by kernel_rfl) (by kernel_rfl) ?_
 refine ak Try.func41 (by kernel_rfl) (by kernel_rfl) ?_
 refine ak Try.func42 (by kernel_rfl) (by kernel_rfl) ?_
 refine ak Try.func43 (by kernel_rfl) (by kernel_rfl) ?_
 refine ak Try.func44 (by kernel_rfl) (by kernel_rfl) ?_
 refine ak Try.func45 (by kernel_rfl) (by kernel_rfl) ?_
 refine ak Try.func46 (by kernel_rfl) (by kernel_rfl) ?_
 refine ak Try.func47 (by kernel_rfl) (by kernel_rfl) ?_
 refine ak Try.func48 (by kernel_rfl) (by kernel_rfl) ?_
 refine ak Try.func49 (by kernel_rfl) (by kernel_rfl) ?_
 refine ak Try.func50 (by kernel_rfl) (by kernel_rfl) ?_
 refine ak Try.func51 (by kernel_rfl) (by kernel_rfl) ?_
 refine ak Try.func52 (by kernel_rfl) (by kernel_rfl) ?_
 refine ak Try.func53 (by kernel_rfl) (by kernel_rfl) ?_
 refine ak Try.func56 (by kernel_rfl) (by kernel_rfl) ?_
 refine ak Try.func57 (by kernel_rfl) (by kernel_rfl) ?_
 refine ak Try.func58 (by kernel_rfl) (by kernel_rfl) ?_
 refine ak Try.func59 (by kernel_rfl) (by kernel_rfl) ?_
 refine ak Try.func60 (by kernel_rfl) (by kernel_rfl) ?_
 refine ak Try.func61 (by kernel_rfl) (by kernel_rfl) ?_
 refine ak Try.func62 (by kernel_rfl) (by kernel_rfl) ?_
 refine ak Try.func63 (by kernel_rfl) (by kernel_rfl) ?_
 refine ak Try.func64 (by kernel_rfl) (by kernel_rfl) ?_
 refine ak Try.func72 (by kernel_rfl) (by kernel_rfl) ?_
 refine ak Try.func73 (by kernel_rfl) (by kernel_rfl) ?_
 refine ak Try.func74 (by kernel_rfl) (by kernel_rfl) ?_
 refine ak Try.func75 (by kernel_rfl) (by kernel_rfl) ?_
 refine ak Try.func76 (by kernel_rfl) (by kernel_rfl) ?_
 refine ak Try.func77 (by kernel_rfl) (by kernel_rfl) ?_
 refine ak Try.func78 (by kernel_rfl) (by kernel_rfl) ?_
 refine ak Try.func84 (by kernel_rfl) (by kernel_rfl) ?_
 refine ak Try.func88 (by kernel_rfl) (by kernel_rfl) ?_
 exact fn_nil
def noG:Laid:=⟨fun _ _=>True,fun _ _ _=>trivial⟩
theorem ok:prog.Ok Try.prog noG:=⟨ok_ty,ok_fn,by kernel_rfl,fun f g xs r hg hr=>(by cases hg),fun _ _ _ _ h=>(by cases h)⟩
end Go.Ab.C14
end
section
set_option maxRecDepth 100000
namespace Go.Ab.C14
open Go Go.Ab Go.Proofs
theorem au {cs:List TV} {n:Nat} (h:cs.length=n+1):∃c r,cs=c::r/\r.length=n:=by
 cases cs with
 | nil=>simp at h
 | cons c r=>exact⟨c,r,rfl,by simpa using h⟩
theorem kn {cs:List TV} (h:cs.length=0):cs=[]:=List.length_eq_zero_iff.1 h
theorem fZ:Try.prog.cellsOf 3=1:=by kernel_rfl
theorem yV:Try.prog.cellsOf 53=1:=by kernel_rfl
theorem vT:Try.prog.cellsOf 4=1:=by kernel_rfl
theorem Ce:Try.prog.cellsOf 55=7:=by kernel_rfl
theorem Cb:Try.prog.cellsOf 46=8:=by kernel_rfl
theorem B7:Try.prog.cellsOf 42=4:=by kernel_rfl
theorem xj:Try.prog.cellsOf 48=14:=by kernel_rfl
theorem Aj:Try.prog.cellsOf 40=3:=by kernel_rfl
theorem c_mod:Try.prog.cellsOf 24=1:=by kernel_rfl
theorem Ay:Try.prog.cellsOf 44=1:=by kernel_rfl
theorem A3:Try.prog.cellsOf 33=1:=by kernel_rfl
theorem c_inss:Try.prog.cellsOf 43=1:=by kernel_rfl
theorem zk:Try.prog.cellsOf 38=1:=by kernel_rfl
theorem Bq:Try.prog.cellsOf 22=1:=by kernel_rfl
theorem BZ {cs:List TV} (h:bi Try.prog 3 cs):∃n,RI1 cs n:=by
 obtain⟨n,rfl,hw⟩:=h.AU Try.underlying3
 exact⟨n,rfl,wf_i64 hw⟩
theorem zx {cs:List TV} (h:bi Try.prog 53 cs):∃n,RW1 cs n:=by
 obtain⟨n,rfl,hw⟩:=h.AU Try.underlying53
 exact⟨n,rfl,wf_u16 hw⟩
theorem ei {c:TV} (h:bi Try.prog 3 [c]):∃n,c=I n/\inI n:=by
 obtain⟨n,h1,h2⟩:=BZ h
 exact⟨n,by simpa using h1,h2⟩
theorem Bc {c:TV} (h:bi Try.prog 53 [c]):∃n,c=W n/\inW n:=by
 obtain⟨n,h1,h2⟩:=zx h
 exact⟨n,by simpa using h1,h2⟩
theorem th {c:TV} (h:bi Try.prog 4 [c]):∃b,c=B b:=by
 obtain⟨b,h1⟩:=h.BT Try.underlying4
 exact⟨b,by simpa using h1⟩
theorem zX {c:TV} (h:bi Try.prog 44 [c]):∃l,RInts (some false) c l:=by
 obtain⟨x,l,hx,hl⟩:=h.vA Try.underlying44 fZ fun _ h=>BZ h
 simp at hx;subst hx
 exact⟨l,hl⟩
theorem Bx {c:TV} (h:bi Try.prog 33 [c]):∃l,RWords (some false) c l:=by
 obtain⟨x,l,hx,hl⟩:=h.vA Try.underlying33 yV fun _ h=>zx h
 simp at hx;subst hx
 exact⟨l,hl⟩
theorem h_ins {cs:List TV} (h:bi Try.prog 55 cs):∃a,RIns (some false) cs a:=by
 obtain⟨hl,hf⟩:=h.gC Try.underlying55
 rw[Ce]at hl
 obtain⟨c0,cs,rfl,k0⟩:=au hl
 obtain⟨c1,cs,rfl,k1⟩:=au k0
 obtain⟨c2,cs,rfl,k2⟩:=au k1
 obtain⟨c3,cs,rfl,k3⟩:=au k2
 obtain⟨c4,cs,rfl,k4⟩:=au k3
 obtain⟨c5,cs,rfl,k5⟩:=au k4
 obtain⟨c6,cs,rfl,k6⟩:=au k5
 obtain rfl:=kn k6
 obtain⟨n0,rfl,g0⟩:=ei (c:=c0) (by have:=hf 0 _ rfl;simpa[fZ]using this)
 obtain⟨n1,rfl,g1⟩:=ei (c:=c1) (by have:=hf 1 _ rfl;simpa[fZ]using this)
 obtain⟨n2,rfl,g2⟩:=ei (c:=c2) (by have:=hf 2 _ rfl;simpa[fZ]using this)
 obtain⟨n3,rfl,g3⟩:=ei (c:=c3) (by have:=hf 3 _ rfl;simpa[fZ]using this)
 obtain⟨n4,rfl,g4⟩:=Bc (c:=c4) (by have:=hf 4 _ rfl;simpa[yV]using this)
 obtain⟨n5,rfl,g5⟩:=ei (c:=c5) (by have:=hf 5 _ rfl;simpa[fZ]using this)
 obtain⟨l,hls⟩:=zX (c:=c6) (by have:=hf 6 _ rfl;simpa[Ay]using this)
 exact⟨⟨n0,n1,n2,n3,n4,n5,l⟩,_,rfl,hls,g0,g1,g2,g3,g4,g5⟩
theorem h_end {cs:List TV} (h:bi Try.prog 46 cs):∃a,REnd (some false) cs a:=by
 obtain⟨hl,hf⟩:=h.gC Try.underlying46
 rw[Cb]at hl
 obtain⟨c0,cs,rfl,k0⟩:=au hl
 obtain⟨c1,cs,rfl,k1⟩:=au k0
 obtain⟨c2,cs,rfl,k2⟩:=au k1
 obtain⟨c3,cs,rfl,k3⟩:=au k2
 obtain⟨c4,cs,rfl,k4⟩:=au k3
 obtain⟨c5,cs,rfl,k5⟩:=au k4
 obtain⟨c6,cs,rfl,k6⟩:=au k5
 obtain⟨c7,cs,rfl,k7⟩:=au k6
 obtain rfl:=kn k7
 obtain⟨n0,rfl,g0⟩:=ei (c:=c0) (by have:=hf 0 _ rfl;simpa[fZ]using this)
 obtain⟨n1,rfl,g1⟩:=ei (c:=c1) (by have:=hf 1 _ rfl;simpa[fZ]using this)
 obtain⟨n2,rfl,g2⟩:=ei (c:=c2) (by have:=hf 2 _ rfl;simpa[fZ]using this)
 obtain⟨n3,rfl,g3⟩:=ei (c:=c3) (by have:=hf 3 _ rfl;simpa[fZ]using this)
 obtain⟨l,hls⟩:=zX (c:=c4) (by have:=hf 4 _ rfl;simpa[Ay]using this)
 obtain⟨n5,rfl,g5⟩:=ei (c:=c5) (by have:=hf 5 _ rfl;simpa[fZ]using this)
 obtain⟨n6,rfl,g6⟩:=ei (c:=c6) (by have:=hf 6 _ rfl;simpa[fZ]using this)
 obtain⟨n7,rfl,g7⟩:=ei (c:=c7) (by have:=hf 7 _ rfl;simpa[fZ]using this)
 exact⟨⟨n0,n1,n2,n3,l,n5,n6,n7⟩,_,rfl,hls,g0,g1,g2,g3,g5,g6,g7⟩
theorem h_pad {cs:List TV} (h:bi Try.prog 42 cs):∃a,RPad (some false) cs a:=by
 obtain⟨hl,hf⟩:=h.gC Try.underlying42
 rw[B7]at hl
 obtain⟨c0,cs,rfl,k0⟩:=au hl
 obtain⟨c1,cs,rfl,k1⟩:=au k0
 obtain⟨c2,cs,rfl,k2⟩:=au k1
 obtain⟨c3,cs,rfl,k3⟩:=au k2
 obtain rfl:=kn k3
 obtain⟨n0,rfl,g0⟩:=ei (c:=c0) (by have:=hf 0 _ rfl;simpa[fZ]using this)
 obtain⟨l,hls⟩:=Bx (c:=c1) (by have:=hf 1 _ rfl;simpa[A3]using this)
 obtain⟨b2,rfl⟩:=th (c:=c2) (by have:=hf 2 _ rfl;simpa[vT]using this)
 obtain⟨b3,rfl⟩:=th (c:=c3) (by have:=hf 3 _ rfl;simpa[vT]using this)
 exact⟨⟨n0,l,b2,b3⟩,_,rfl,hls,g0⟩
theorem Bu {cs:List TV} (h:bi Try.prog 48 cs):∃a,RBlock (some false) cs a:=by
 obtain⟨hl,hf⟩:=h.gC Try.underlying48
 rw[xj]at hl
 obtain⟨c0,cs,rfl,k0⟩:=au hl
 obtain⟨c1,cs,rfl,k1⟩:=au k0
 obtain⟨c2,cs,rfl,k2⟩:=au k1
 obtain⟨c3,cs,rfl,k3⟩:=au k2
 obtain⟨c4,cs,rfl,k4⟩:=au k3
 obtain⟨c5,cs,rfl,k5⟩:=au k4
 obtain⟨c6,cs,rfl,k6⟩:=au k5
 obtain⟨c7,cs,rfl,k7⟩:=au k6
 obtain⟨c8,cs,rfl,k8⟩:=au k7
 obtain⟨c9,cs,rfl,k9⟩:=au k8
 obtain⟨c10,cs,rfl,k10⟩:=au k9
 obtain⟨c11,cs,rfl,k11⟩:=au k10
 obtain⟨c12,cs,rfl,k12⟩:=au k11
 obtain⟨c13,cs,rfl,k13⟩:=au k12
 obtain rfl:=kn k13
 obtain⟨b0,rfl⟩:=th (c:=c0) (by have:=hf 0 _ rfl;simpa[vT]using this)
 obtain⟨p,cc,hp,hpc,hpd⟩:=h_pad (cs:=[c1,c2,c3,c4]) (by have:=hf 1 _ rfl;simpa[B7]using this)
 obtain⟨x,is,hx,his⟩:=bi.vA (cs:=[c5]) (by have:=hf 2 _ rfl;simpa[c_inss]using this) Try.underlying43 Ce fun _ h=>h_ins h
 obtain⟨e,gg,he,heg,heo⟩:=h_end (cs:=[c6,c7,c8,c9,c10,c11,c12,c13]) (by have:=hf 3 _ rfl;simpa[Cb]using this)
 simp at hp hx he
 obtain⟨rfl,rfl,rfl,rfl⟩:=hp
 subst hx
 obtain⟨rfl,rfl,rfl,rfl,rfl,rfl,rfl,rfl⟩:=he
 exact⟨⟨b0,p,is,e⟩,_,_,_,rfl,hpc,hpd,his,heg,heo⟩
theorem h_func {cs:List TV} (h:bi Try.prog 40 cs):∃a,RFunc (some false) cs a:=by
 obtain⟨hl,hf⟩:=h.gC Try.underlying40
 rw[Aj]at hl
 obtain⟨c0,cs,rfl,k0⟩:=au hl
 obtain⟨c1,cs,rfl,k1⟩:=au k0
 obtain⟨c2,cs,rfl,k2⟩:=au k1
 obtain rfl:=kn k2
 obtain⟨n0,rfl,g0⟩:=ei (c:=c0) (by have:=hf 0 _ rfl;simpa[fZ]using this)
 obtain⟨n1,rfl,g1⟩:=ei (c:=c1) (by have:=hf 1 _ rfl;simpa[fZ]using this)
 obtain⟨x,bs,hx,hbs⟩:=bi.vA (cs:=[c2]) (by have:=hf 2 _ rfl;simpa[zk]using this) Try.underlying38 xj fun _ h=>Bu h
 simp at hx
 subst hx
 exact⟨⟨n0,n1,bs⟩,_,rfl,hbs,g0,g1⟩
theorem h_mod {cs:List TV} (h:bi Try.prog 24 cs):∃a,RMod (some false) cs a:=by
 obtain⟨hl,hf⟩:=h.gC Try.underlying24
 rw[c_mod]at hl
 obtain⟨c0,cs,rfl,k0⟩:=au hl
 obtain rfl:=kn k0
 obtain⟨x,fs,hx,hfs⟩:=bi.vA (cs:=[c0]) (by have:=hf 0 _ rfl;simpa[Bq]using this) Try.underlying22 Aj fun _ h=>h_func h
 simp at hx
 subst hx
 exact⟨⟨fs⟩,_,rfl,hfs⟩
theorem v_mod {x:TV} (h:zC Try.prog 24 x):∃cs m,x=.agg cs/\RMod (some false) cs m:=by
 rcases h with⟨⟨cs,rfl,h⟩,_⟩|⟨_,h,_⟩
 ·obtain⟨m,hm⟩:=h_mod h;exact⟨cs,m,rfl,hm⟩
 ·exact absurd Try.underlying24 (h _)
end Go.Ab.C14
end

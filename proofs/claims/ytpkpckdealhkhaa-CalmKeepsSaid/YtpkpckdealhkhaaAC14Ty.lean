import Derived.Test.YtpkpckdealhkhaaAM19
import Derived.Test.YtpkpckdealhkhaaAC14T
set_option linter.all false
section
set_option maxRecDepth 100000
namespace Go.Ab.C14
open Go Go.Ab Go.Proofs Go.Lib Go.RowKit
theorem ok_ty:∀t d,tab t=some d->ba Try.prog t d:=by
 repeat refine D8 (by kernel_rfl) ?_
 exact Ev
theorem ok_fn:∀f e,fns f=some e->EM Try.prog f e:=by
 refine ak Try.func4 (by kernel_rfl) (by kernel_rfl) ?_
 refine ak Try.func6 (by kernel_rfl) (by kernel_rfl) ?_
 refine ak Try.func7 (by kernel_rfl) (by kernel_rfl) ?_
 refine ak Try.func8 (by kernel_rfl) (by kernel_rfl) ?_
 refine ak Try.func9 (by kernel_rfl) (by kernel_rfl) ?_
 refine ak Try.func10 (by kernel_rfl) (by kernel_rfl) ?_
 refine ak Try.func12 (by kernel_rfl) (by kernel_rfl) ?_
 refine ak Try.func13 (by kernel_rfl) (by kernel_rfl) ?_
 refine ak Try.func15 (by kernel_rfl) (by kernel_rfl) ?_
 refine ak Try.func16 (by kernel_rfl) (by kernel_rfl) ?_
 refine ak Try.func17 (by kernel_rfl) (by kernel_rfl) ?_
 refine ak Try.func18 (by kernel_rfl) (by kernel_rfl) ?_
 refine ak Try.func19 (by kernel_rfl) (by kernel_rfl) ?_
 refine ak Try.func20 (by kernel_rfl) (by kernel_rfl) ?_
 refine ak Try.func21 (by kernel_rfl) (by kernel_rfl) ?_
 refine ak Try.func22 (by kernel_rfl) (by kernel_rfl) ?_
 refine ak Try.func23 (by kernel_rfl) (by kernel_rfl) ?_
 refine ak Try.func24 (by kernel_rfl) (by kernel_rfl) ?_
 refine ak Try.func25 (by kernel_rfl) (by kernel_rfl) ?_
 refine ak Try.func26 (by kernel_rfl) (by kernel_rfl) ?_
 refine ak Try.func27 (by kernel_rfl) (by kernel_rfl) ?_
 refine ak Try.func28 (by kernel_rfl) (by kernel_rfl) ?_
 refine ak Try.func29 (by kernel_rfl) (by kernel_rfl) ?_
 refine ak Try.func32 (by kernel_rfl) (by kernel_rfl) ?_
 refine ak Try.func33 (by kernel_rfl) (by kernel_rfl) ?_
 refine ak Try.func34 (by kernel_rfl) (by kernel_rfl) ?_
 refine ak Try.func35 (by kernel_rfl) (by kernel_rfl) ?_
 refine ak Try.func36 (by kernel_rfl) (by kernel_rfl) ?_
 refine ak Try.func37 (by kernel_rfl) (by kernel_rfl) ?_
 refine ak Try.func38 (by kernel_rfl) (by kernel_rfl) ?_
 refine ak Try.func39 (by kernel_rfl) (by kernel_rfl) ?_
 refine ak Try.func40 (by kernel_rfl) (by kernel_rfl) ?_
 refine ak Try.func41 (by kernel_rfl) (by kernel_rfl) ?_
 refine ak Try.func42 (by kernel_rfl) (by kernel_rfl) ?_
 refine ak Try.func43 (by kernel_rfl) (by kernel_rfl) ?_
 refine ak Try.func44 (by kernel_rfl) (by kernel_rfl) ?_
 refine ak Try.func45 (by kernel_rfl) (by kernel_rfl) ?_
 refine ak Try.func46 (by kernel_rfl) (by kernel_rfl) ?_
 refine ak Try.func47 (by kernel_rfl) (by kernel_rfl) ?_
 refine ak Try.func49 (by kernel_rfl) (by kernel_rfl) ?_
 refine ak Try.func50 (by kernel_rfl) (by kernel_rfl) ?_
 refine ak Try.func51 (by kernel_rfl) (by kernel_rfl) ?_
 refine ak Try.func52 (by kernel_rfl) (by kernel_rfl) ?_
 refine ak Try.func53 (by kernel_rfl) (by kernel_rfl) ?_
 refine ak Try.func54 (by kernel_rfl) (by kernel_rfl) ?_
 refine ak Try.func55 (by kernel_rfl) (by kernel_rfl) ?_
 refine ak Try.func56 (by kernel_rfl) (by kernel_rfl) ?_
 refine ak Try.func57 (by kernel_rfl) (by kernel_rfl) ?_
 refine ak Try.func58 (by kernel_rfl) (by kernel_rfl) ?_
 refine ak Try.func59 (by kernel_rfl) (by kernel_rfl) ?_
 refine ak Try.func60 (by kernel_rfl) (by kernel_rfl) ?_
 refine ak Try.func61 (by kernel_rfl) (by kernel_rfl) ?_
 refine ak Try.func62 (by kernel_rfl) (by kernel_rfl) ?_
 refine ak Try.func63 (by kernel_rfl) (by kernel_rfl) ?_
 refine ak Try.func64 (by kernel_rfl) (by kernel_rfl) ?_
 refine ak Try.func65 (by kernel_rfl) (by kernel_rfl) ?_
 refine ak Try.func66 (by kernel_rfl) (by kernel_rfl) ?_
 refine ak Try.func67 (by kernel_rfl) (by kernel_rfl) ?_
 refine ak Try.func68 (by kernel_rfl) (by kernel_rfl) ?_
 refine ak Try.func69 (by kernel_rfl) (by kernel_rfl) ?_
 refine ak Try.func70 (by kernel_rfl) (by kernel_rfl) ?_
 refine ak Try.func71 (by kernel_rfl) (by kernel_rfl) ?_
 refine ak Try.func72 (by kernel_rfl) (by kernel_rfl) ?_
 refine ak Try.func73 (by kernel_rfl) (by kernel_rfl) ?_
 refine ak Try.func74 (by kernel_rfl) (by kernel_rfl) ?_
 refine ak Try.func75 (by kernel_rfl) (by kernel_rfl) ?_
 refine ak Try.func76 (by kernel_rfl) (by kernel_rfl) ?_
 refine ak Try.func77 (by kernel_rfl) (by kernel_rfl) ?_
 refine ak Try.func78 (by kernel_rfl) (by kernel_rfl) ?_
 refine ak Try.func79 (by kernel_rfl) (by kernel_rfl) ?_
 refine ak Try.func80 (by kernel_rfl) (by kernel_rfl) ?_
 refine ak Try.func81 (by kernel_rfl) (by kernel_rfl) ?_
 refine ak Try.func82 (by kernel_rfl) (by kernel_rfl) ?_
 refine ak Try.func83 (by kernel_rfl) (by kernel_rfl) ?_
 refine ak Try.func84 (by kernel_rfl) (by kernel_rfl) ?_
 refine ak Try.func85 (by kernel_rfl) (by kernel_rfl) ?_
 refine ak Try.func86 (by kernel_rfl) (by kernel_rfl) ?_
 refine ak Try.func87 (by kernel_rfl) (by kernel_rfl) ?_
 refine ak Try.func88 (by kernel_rfl) (by kernel_rfl) ?_
 exact fn_nil
def noG:Laid:=⟨fun _ _=>True,fun _ _ _=>trivial⟩
theorem ok:prog.Ok Try.prog noG:=⟨ok_ty,ok_fn,by kernel_rfl,fun f g xs r hg hr=>(by cases hg),fun _ _ _ _ h=>(by cases h)⟩
end Go.Ab.C14
end
section
set_option maxRecDepth 100000
namespace Go.Ab.C14
open Go Go.Ab Go.Proofs
theorem aC {cs:List TV} {n:Nat} (h:cs.length=n+1):∃c r,cs=c::r/\r.length=n:=by
 cases cs with
 | nil=>simp at h
 | cons c r=>exact⟨c,r,rfl,by simpa using h⟩
theorem mb {cs:List TV} (h:cs.length=0):cs=[]:=List.length_eq_zero_iff.1 h
theorem ip:Try.prog.cellsOf 3=1:=by kernel_rfl
theorem Dd:Try.prog.cellsOf 53=1:=by kernel_rfl
theorem yM:Try.prog.cellsOf 4=1:=by kernel_rfl
theorem FB:Try.prog.cellsOf 55=7:=by kernel_rfl
theorem Fx:Try.prog.cellsOf 46=8:=by kernel_rfl
theorem Fw:Try.prog.cellsOf 42=4:=by kernel_rfl
theorem Ak:Try.prog.cellsOf 48=14:=by kernel_rfl
theorem DC:Try.prog.cellsOf 40=3:=by kernel_rfl
theorem c_mod:Try.prog.cellsOf 24=1:=by kernel_rfl
theorem DF:Try.prog.cellsOf 44=1:=by kernel_rfl
theorem EI:Try.prog.cellsOf 33=1:=by kernel_rfl
theorem c_inss:Try.prog.cellsOf 43=1:=by kernel_rfl
theorem Cx:Try.prog.cellsOf 38=1:=by kernel_rfl
theorem EU:Try.prog.cellsOf 22=1:=by kernel_rfl
theorem Fq {cs:List TV} (h:bA Try.prog 3 cs):∃n,RI1 cs n:=by
 obtain⟨n,rfl,hw⟩:=h.zP Try.underlying3
 exact⟨n,rfl,wf_i64 hw⟩
theorem Dy {cs:List TV} (h:bA Try.prog 53 cs):∃n,RW1 cs n:=by
 obtain⟨n,rfl,hw⟩:=h.zP Try.underlying53
 exact⟨n,rfl,wf_u16 hw⟩
theorem ft {c:TV} (h:bA Try.prog 3 [c]):∃n,c=I n/\inI n:=by
 obtain⟨n,h1,h2⟩:=Fq h
 exact⟨n,by simpa using h1,h2⟩
theorem EN {c:TV} (h:bA Try.prog 53 [c]):∃n,c=W n/\inW n:=by
 obtain⟨n,h1,h2⟩:=Dy h
 exact⟨n,by simpa using h1,h2⟩
theorem wb {c:TV} (h:bA Try.prog 4 [c]):∃b,c=B b:=by
 obtain⟨b,h1⟩:=h.Fi Try.underlying4
 exact⟨b,by simpa using h1⟩
theorem CI {c:TV} (h:bA Try.prog 44 [c]):∃l,RInts (some false) c l:=by
 obtain⟨x,l,hx,hl⟩:=h.yG Try.underlying44 ip fun _ h=>Fq h
 simp at hx;subst hx
 exact⟨l,hl⟩
theorem zT {c:TV} (h:bA Try.prog 33 [c]):∃l,RWords (some false) c l:=by
 obtain⟨x,l,hx,hl⟩:=h.yG Try.underlying33 Dd fun _ h=>Dy h
 simp at hx;subst hx
 exact⟨l,hl⟩
theorem h_ins {cs:List TV} (h:bA Try.prog 55 cs):∃a,RIns (some false) cs a:=by
 obtain⟨hl,hf⟩:=h.iL Try.underlying55
 rw[FB]at hl
 obtain⟨c0,cs,rfl,k0⟩:=aC hl
 obtain⟨c1,cs,rfl,k1⟩:=aC k0
 obtain⟨c2,cs,rfl,k2⟩:=aC k1
 obtain⟨c3,cs,rfl,k3⟩:=aC k2
 obtain⟨c4,cs,rfl,k4⟩:=aC k3
 obtain⟨c5,cs,rfl,k5⟩:=aC k4
 obtain⟨c6,cs,rfl,k6⟩:=aC k5
 obtain rfl:=mb k6
 obtain⟨n0,rfl,g0⟩:=ft (c:=c0) (by have:=hf 0 _ rfl;simpa[ip]using this)
 obtain⟨n1,rfl,g1⟩:=ft (c:=c1) (by have:=hf 1 _ rfl;simpa[ip]using this)
 obtain⟨n2,rfl,g2⟩:=ft (c:=c2) (by have:=hf 2 _ rfl;simpa[ip]using this)
 obtain⟨n3,rfl,g3⟩:=ft (c:=c3) (by have:=hf 3 _ rfl;simpa[ip]using this)
 obtain⟨n4,rfl,g4⟩:=EN (c:=c4) (by have:=hf 4 _ rfl;simpa[Dd]using this)
 obtain⟨n5,rfl,g5⟩:=ft (c:=c5) (by have:=hf 5 _ rfl;simpa[ip]using this)
 obtain⟨l,hls⟩:=CI (c:=c6) (by have:=hf 6 _ rfl;simpa[DF]using this)
 exact⟨⟨n0,n1,n2,n3,n4,n5,l⟩,_,rfl,hls,g0,g1,g2,g3,g4,g5⟩
theorem h_end {cs:List TV} (h:bA Try.prog 46 cs):∃a,REnd (some false) cs a:=by
 obtain⟨hl,hf⟩:=h.iL Try.underlying46
 rw[Fx]at hl
 obtain⟨c0,cs,rfl,k0⟩:=aC hl
 obtain⟨c1,cs,rfl,k1⟩:=aC k0
 obtain⟨c2,cs,rfl,k2⟩:=aC k1
 obtain⟨c3,cs,rfl,k3⟩:=aC k2
 obtain⟨c4,cs,rfl,k4⟩:=aC k3
 obtain⟨c5,cs,rfl,k5⟩:=aC k4
 obtain⟨c6,cs,rfl,k6⟩:=aC k5
 obtain⟨c7,cs,rfl,k7⟩:=aC k6
 obtain rfl:=mb k7
 obtain⟨n0,rfl,g0⟩:=ft (c:=c0) (by have:=hf 0 _ rfl;simpa[ip]using this)
 obtain⟨n1,rfl,g1⟩:=ft (c:=c1) (by have:=hf 1 _ rfl;simpa[ip]using this)
 obtain⟨n2,rfl,g2⟩:=ft (c:=c2) (by have:=hf 2 _ rfl;simpa[ip]using this)
 obtain⟨n3,rfl,g3⟩:=ft (c:=c3) (by have:=hf 3 _ rfl;simpa[ip]using this)
 obtain⟨l,hls⟩:=CI (c:=c4) (by have:=hf 4 _ rfl;simpa[DF]using this)
 obtain⟨n5,rfl,g5⟩:=ft (c:=c5) (by have:=hf 5 _ rfl;simpa[ip]using this)
 obtain⟨n6,rfl,g6⟩:=ft (c:=c6) (by have:=hf 6 _ rfl;simpa[ip]using this)
 obtain⟨n7,rfl,g7⟩:=ft (c:=c7) (by have:=hf 7 _ rfl;simpa[ip]using this)
 exact⟨⟨n0,n1,n2,n3,l,n5,n6,n7⟩,_,rfl,hls,g0,g1,g2,g3,g5,g6,g7⟩
theorem h_pad {cs:List TV} (h:bA Try.prog 42 cs):∃a,RPad (some false) cs a:=by
 obtain⟨hl,hf⟩:=h.iL Try.underlying42
 rw[Fw]at hl
 obtain⟨c0,cs,rfl,k0⟩:=aC hl
 obtain⟨c1,cs,rfl,k1⟩:=aC k0
 obtain⟨c2,cs,rfl,k2⟩:=aC k1
 obtain⟨c3,cs,rfl,k3⟩:=aC k2
 obtain rfl:=mb k3
 obtain⟨n0,rfl,g0⟩:=ft (c:=c0) (by have:=hf 0 _ rfl;simpa[ip]using this)
 obtain⟨l,hls⟩:=zT (c:=c1) (by have:=hf 1 _ rfl;simpa[EI]using this)
 obtain⟨b2,rfl⟩:=wb (c:=c2) (by have:=hf 2 _ rfl;simpa[yM]using this)
 obtain⟨b3,rfl⟩:=wb (c:=c3) (by have:=hf 3 _ rfl;simpa[yM]using this)
 exact⟨⟨n0,l,b2,b3⟩,_,rfl,hls,g0⟩
theorem Fb {cs:List TV} (h:bA Try.prog 48 cs):∃a,RBlock (some false) cs a:=by
 obtain⟨hl,hf⟩:=h.iL Try.underlying48
 rw[Ak]at hl
 obtain⟨c0,cs,rfl,k0⟩:=aC hl
 obtain⟨c1,cs,rfl,k1⟩:=aC k0
 obtain⟨c2,cs,rfl,k2⟩:=aC k1
 obtain⟨c3,cs,rfl,k3⟩:=aC k2
 obtain⟨c4,cs,rfl,k4⟩:=aC k3
 obtain⟨c5,cs,rfl,k5⟩:=aC k4
 obtain⟨c6,cs,rfl,k6⟩:=aC k5
 obtain⟨c7,cs,rfl,k7⟩:=aC k6
 obtain⟨c8,cs,rfl,k8⟩:=aC k7
 obtain⟨c9,cs,rfl,k9⟩:=aC k8
 obtain⟨c10,cs,rfl,k10⟩:=aC k9
 obtain⟨c11,cs,rfl,k11⟩:=aC k10
 obtain⟨c12,cs,rfl,k12⟩:=aC k11
 obtain⟨c13,cs,rfl,k13⟩:=aC k12
 obtain rfl:=mb k13
 obtain⟨b0,rfl⟩:=wb (c:=c0) (by have:=hf 0 _ rfl;simpa[yM]using this)
 obtain⟨p,cc,hp,hpc,hpd⟩:=h_pad (cs:=[c1,c2,c3,c4]) (by have:=hf 1 _ rfl;simpa[Fw]using this)
 obtain⟨x,is,hx,his⟩:=bA.yG (cs:=[c5]) (by have:=hf 2 _ rfl;simpa[c_inss]using this) Try.underlying43 FB fun _ h=>h_ins h
 obtain⟨e,gg,he,heg,heo⟩:=h_end (cs:=[c6,c7,c8,c9,c10,c11,c12,c13]) (by have:=hf 3 _ rfl;simpa[Fx]using this)
 simp at hp hx he
 obtain⟨rfl,rfl,rfl,rfl⟩:=hp
 subst hx
 obtain⟨rfl,rfl,rfl,rfl,rfl,rfl,rfl,rfl⟩:=he
 exact⟨⟨b0,p,is,e⟩,_,_,_,rfl,hpc,hpd,his,heg,heo⟩
theorem h_func {cs:List TV} (h:bA Try.prog 40 cs):∃a,RFunc (some false) cs a:=by
 obtain⟨hl,hf⟩:=h.iL Try.underlying40
 rw[DC]at hl
 obtain⟨c0,cs,rfl,k0⟩:=aC hl
 obtain⟨c1,cs,rfl,k1⟩:=aC k0
 obtain⟨c2,cs,rfl,k2⟩:=aC k1
 obtain rfl:=mb k2
 obtain⟨n0,rfl,g0⟩:=ft (c:=c0) (by have:=hf 0 _ rfl;simpa[ip]using this)
 obtain⟨n1,rfl,g1⟩:=ft (c:=c1) (by have:=hf 1 _ rfl;simpa[ip]using this)
 obtain⟨x,bs,hx,hbs⟩:=bA.yG (cs:=[c2]) (by have:=hf 2 _ rfl;simpa[Cx]using this) Try.underlying38 Ak fun _ h=>Fb h
 simp at hx
 subst hx
 exact⟨⟨n0,n1,bs⟩,_,rfl,hbs,g0,g1⟩
theorem h_mod {cs:List TV} (h:bA Try.prog 24 cs):∃a,RMod (some false) cs a:=by
 obtain⟨hl,hf⟩:=h.iL Try.underlying24
 rw[c_mod]at hl
 obtain⟨c0,cs,rfl,k0⟩:=aC hl
 obtain rfl:=mb k0
 obtain⟨x,fs,hx,hfs⟩:=bA.yG (cs:=[c0]) (by have:=hf 0 _ rfl;simpa[EU]using this) Try.underlying22 DC fun _ h=>h_func h
 simp at hx
 subst hx
 exact⟨⟨fs⟩,_,rfl,hfs⟩
theorem v_mod {x:TV} (h:xy Try.prog 24 x):∃cs m,x=.agg cs/\RMod (some false) cs m:=by
 rcases h with⟨⟨cs,rfl,h⟩,_⟩|⟨_,h,_⟩
 ·obtain⟨m,hm⟩:=h_mod h;exact⟨cs,m,rfl,hm⟩
 ·exact absurd Try.underlying24 (h _)
theorem v_byte {x:TV} (h:xy Try.prog 5 x):∃n,x=.lit (.int .u8 n)/\(Lit.int .u8 n).wf=true:=by
 rcases h with⟨⟨cs,rfl,h⟩,h2⟩|⟨h,_,_⟩
 ·rcases h2 with⟨fs,h2⟩|⟨n,e,h2⟩<;>(rw[Try.underlying5]at h2;cases h2)
 ·obtain⟨n,h1,h2⟩:=h.zP Try.underlying5
  exact⟨n,by simpa using h1,h2⟩
theorem v_words {x:TV} (h:xy Try.prog 33 x):∃l,RWords (some false) x l:=by
 rcases h with⟨⟨cs,rfl,h⟩,h2⟩|⟨h,_,_⟩
 ·rcases h2 with⟨fs,h2⟩|⟨n,e,h2⟩<;>(rw[Try.underlying33]at h2;cases h2)
 ·exact zT h
end Go.Ab.C14
end

import Derived.Test.YtpkpckdealhkhaaAC14F46
import Derived.Test.YtpkpckdealhkhaaAC14F6
import Derived.OpenShut
import Derived.Test.YtpkpckdealhkhaaAC14F33
set_option linter.all false
section
set_option maxRecDepth 10000
namespace Go.Ab
theorem vZ {f:DFrame} {x:DIns}:(bR f x).1=f\/∃w,(bR f x).1=upF (iW f x.dst w):=by
 unfold bR
 cases cK f.regs x with
 | none=>exact .inl rfl
 | some w =>
  simp only
  split
  ·exact .inr ⟨w,rfl⟩
  ·exact .inl rfl
end Go.Ab
namespace Go.Ab.C14
open Go Go.Ab Go.Proofs
theorem sT {m:DMod} {s:DMach} {w:Int} (hM:cF m) (hQ:db m s):db m (aK m s w):=by
 unfold aK
 split
 ·exact hQ
 ·rename_i f hf
  split
  ·rename_i h1
   refine eE (s:={ s with stack:=[] }) (by simp) ⟨fun k f hk=>?_,fun k f g hk=>?_⟩ (by omega)
   ·simp at hk
   ·simp at hk
  ·rename_i h1
   have hF:=hQ.st.1 _ f hf
   have htop:jT { s with stack:=s.stack.take (s.stack.length-1) }=some f:=by
    simp only[jT,List.length_take]
    rw[List.getElem?_take,if_pos (by omega),<-hf]
    congr 1
    omega
   have hlen:({ s with stack:=s.stack.take (s.stack.length-1) }:DMach).stack.length<=32:=by
    have:=hQ.2.1
    simp;omega
   obtain⟨f2,hf2⟩:∃f,s.stack[s.stack.length-2+1]? = some f:=⟨_,FQ (by omega)⟩
   obtain⟨u,b,hu,hb,hlink⟩:=hQ.st.2 _ f f2 hf hf2
   have hbo:bg m f=some b:=by simp[bg,hu,hb]
   rw[hbo]
   simp only
   split
   ·rename_i hat
    have h4:b.fin.kind=4:=by
     rcases hlink with⟨_,h,_⟩|⟨h,_⟩
     ·exact h
     ·exact absurd hat h
    have hE:=(oC hM hu hb).2.2.2.2.1.1
    rw[h4]at hE
    have hg:=mw (f:=iW f b.fin.dst w) (mW hF) hu (hE rfl)
    exact cw hQ.1 hlen (hQ.st.take _) htop hg rfl
   ·rename_i hat
    split
    ·exact hQ
    ·rename_i x hx
     have hup:=pS (f:=iW f x.dst w) hM (mW hF) hbo (FP.1 hx).1
     exact cw hQ.1 hlen (hQ.st.take _) htop hup rfl
theorem BF {m:DMod} {s:DMach} {f:DFrame} {b:DBlock} {x:DIns} (hM:cF m) (hQ:db m s) (ht:jT s=some f) (hb:bg m f=some b) (hat:¬f.at_=b.ins.length) (hx:b.ins[f.at_.toNat]? = some x) (hI:li m.funcs f.regs.length x):db m (fP m s f x):=by
 have hF:=hQ.st.1 _ f ht
 have hlt:=(FP.1 hx).1
 have hup:∀n w,ca m (upF (iW f n w)):=fun n w=>pS (f:=iW f n w) hM (mW hF) hb hlt
 have hup0:ca m (upF f):=pS hM hF hb hlt
 unfold fP
 split
 ·rename_i h11
  have hc:=hI.2.2.2.2.2.1
  rw[h11]at hc
  refine oM hM hQ ht (hc rfl) fun g hg=>?_
  obtain⟨_,u,hu,_,_,b',hb',_⟩:=hF
  have:bg m f=some b':=by simp[bg,hu,hb']
  rw[hb]at this
  cases this
  exact⟨u,b,hu,hb',.inr ⟨hat,x,hx,h11,hg.symm⟩⟩
 split
 ·split
  ·rcases vZ (f:=f) (x:=x)with h|⟨w,h⟩
   ·rw[h];exact cw hQ.1 hQ.2.1 hQ.st ht hF rfl
   ·rw[h];exact cw hQ.1 hQ.2.1 hQ.st ht (hup _ _) rfl
  ·exact eE hQ.2.1 hQ.st (by omega)
 split
 ·split
  ·exact eE hQ.2.1 hQ.st (by omega)
  ·exact cw hQ.1 hQ.2.1 hQ.st ht (hup _ _) rfl
 split
 ·split
  ·exact eE hQ.2.1 hQ.st (by omega)
  ·exact cw (s:=fa s (reg f x.a).toNat (reg f x.b)) hQ.1 hQ.2.1 hQ.st ht hup0 rfl
 split
 ·exact cw (s:={ s with events:=s.events ++ [reg f x.a] }) hQ.1 hQ.2.1 hQ.st ht hup0 rfl
 split
 ·exact eE hQ.2.1 hQ.st (by omega)
 ·rename_i a l _
  exact cw (s:={ s with events:=s.events ++ [a+65536],inputs:=l }) hQ.1 hQ.2.1 hQ.st ht (hup _ _) rfl
theorem tR {m:DMod} {s:DMach} (hM:cF m) (hQ:db m s):db m (aI m s):=by
 unfold aI
 split
 ·exact hQ
 split
 ·exact hQ
 rename_i f ht
 have hF:=hQ.st.1 _ f ht
 have hF':=hF
 obtain⟨hf0,u,hu,hLr,hb0,b,hb,ha0,ha1⟩:=hF
 have hbo:bg m f=some b:=by simp[bg,hu,hb]
 rw[hbo]
 simp only
 have hE:=oC hM hu hb
 have hk:=wL hE.1
 split
 ·rename_i hat
  split
  ·exact sT hM hQ
  split
  ·rename_i h4
   have hc:=hE.2.2.2.1.1
   rw[h4]at hc
   exact oM hM hQ ht (hc rfl) fun g hg=>⟨u,b,hu,hb,.inl ⟨hat,h4,hg.symm⟩⟩
  split
  ·exact nX hQ
  split
  ·exact nX hQ
  split
  ·rename_i h3
   have hc:=hE.2.2.2.2.2.1.1
   rw[h3.1]at hc
   exact cw hQ.1 hQ.2.1 hQ.st ht (mw hF' hu (hc rfl)) rfl
  ·rename_i h1 h4 h5 h6 h3
   have h23:b.fin.kind=2\/b.fin.kind=3:=by omega
   have hc:=hE.2.2.2.2.1.1
   rcases h23 with h|h
   ·rw[h]at hc
    exact cw hQ.1 hQ.2.1 hQ.st ht (mw hF' hu (hc rfl)) rfl
   ·rw[h]at hc
    exact cw hQ.1 hQ.2.1 hQ.st ht (mw hF' hu (hc rfl)) rfl
 ·rename_i hat
  split
  ·exact hQ
  ·rename_i x hx
   have hI:=ri hM hu hb hx
   rw[<-hLr]at hI
   exact BF hM hQ ht hbo hat hx hI
theorem wW {m:DMod} {s:DMach}:(aI m s).events=s.events\/∃a,(aI m s).events=s.events ++ [a]:=by
 have hw:∀(t:DMach) f,(bJ t f).events=t.events:=fun _ _=>rfl
 have he:∀(t:DMach) a b,(d7 t a b).events=t.events:=fun _ _ _=>rfl
 have hc:∀n p,(bQ m s n p).events=s.events:=by
  intro n p
  unfold bQ
  split
  ·rfl
  ·split<;>rfl
 have hth:∀w,(bI m s w).events=s.events:=by
  intro w
  unfold bI
  split
  ·split
   ·rfl
   ·split<;>rfl
  ·rfl
 have han:∀w,(aK m s w).events=s.events:=by
  intro w
  unfold aK
  split
  ·rfl
  ·split
   ·rfl
   ·split
    ·rfl
    ·split
     ·rfl
     ·split<;>rfl
 have hi:∀f x,(fP m s f x).events=s.events\/∃a,(fP m s f x).events=s.events ++ [a]:=by
  intro f x
  unfold fP
  split
  ·exact .inl (hc _ _)
  split
  ·split
   ·exact .inl rfl
   ·exact .inl rfl
  split
  ·split
   ·exact .inl rfl
   ·exact .inl rfl
  split
  ·split
   ·exact .inl rfl
   ·exact .inl rfl
  split
  ·exact .inr ⟨_,rfl⟩
  split
  ·exact .inl rfl
  ·exact .inr ⟨_,rfl⟩
 unfold aI
 split
 ·exact .inl rfl
 split
 ·exact .inl rfl
 split
 ·exact .inl rfl
 split
 ·split
  ·exact .inl (han _)
  split
  ·exact .inl (hc _ _)
  split
  ·exact .inl (hth _)
  split
  ·exact .inl (hth _)
  split
  ·exact .inl rfl
  ·exact .inl rfl
 ·split
  ·exact .inl rfl
  ·exact hi _ _
end Go.Ab.C14
end
section
set_option maxRecDepth 10000
namespace Go.Ab
def fy (m:DMod) (inputs:List Int):DMach:=⟨[(ij m 0 []).getD fc],List.replicate 16 0,inputs,[],0,0⟩
theorem C2 {m:DMod} {l:List Int} (k:Nat):(fy m l).c k=0:=by
 simp only[DMach.c,fy,List.getD,List.getElem?_replicate]
 split<;>rfl
noncomputable def lS (m:DMod) (s:DMach):Nat->DMach
 | 0=>s
 | n+1=>if s.done=0 then lS m (aI m s) n else s
theorem RMach.frz' {s:DMach} {g i v:TV} (hg:RL none 5 (RFrame none) g s.stack) (hi:RWords none i s.inputs) (hv:RInts none v s.events) (ho:s.ok):RMach (ar s (Go.Ab.frz g) (Go.Ab.frz i) (Go.Ab.frz v)) s :=
 ⟨_,_,_,rfl,(hg.frz (S:=RFrame (some false)) fun _ _ h=>h.frz).weak fun _ _ h=>h.weak,(hi.frz (S:=RW1) fun _ _ h=>h.frz).weak fun _ _ h=>h,(hv.frz (S:=RI1) fun _ _ h=>h.frz).weak fun _ _ h=>h,ho⟩
end Go.Ab
namespace Go.Ab.C14
open Go Go.Ab Go.Proofs
theorem Fu {e e':List TV} {a b:DMach} (ha:RMach e a) (hb:RMach e' b):aj prog 38 [.agg e,.agg e'] (B (tt (a.events=b.events/\a.done=b.done/\a.value=b.value))):=by
 obtain⟨g,i,v,rfl,hg,hi,hv,ho⟩:=ha
 obtain⟨g',i',v',rfl,hg',hi',hv',ho'⟩:=hb
 refine aj.of (f38_MR _ _) ?_
 unfold f38_M
 refine aa.chk rfl (aa.chk rfl (aa.call (r14 hv hv') (aa.chk rfl (aa.ite rfl (fun h=>?_) fun h=>?_))))
 ·have h:=aG.1 h
  refine aa.tv rfl (aa.ite rfl (fun h2=>?_) fun h2=>?_)
  ·have h2:a.done=b.done:=by simpa[TV.cell,nth,ar]using h2
   refine aa.tv rfl ?_
   apply aH
   simp[h,h2]
  ·have h2:¬a.done=b.done:=by simpa[TV.cell,nth,ar]using h2
   exact aB fun h3=>h2 h3.2.1
 ·exact aB fun h2=>aw.1 h h2.1
theorem wh {q q':Option Bool} {x y:TV} {l m:List Int} (hx:RInts q x l) (hy:RInts q' y m):aj prog 39 [x,y] (B (tt (l.length<=m.length/\l=m.take l.length))):=by
 refine aj.of (f39_MR _ _) ?_
 unfold f39_M
 refine aa.tv hx.len (aa.tv hy.len (aa.tv rfl (aa.ite rfl (fun h=>?_) fun h=>?_)))
 ·have h:l.length<=m.length:=by simpa using h
  obtain⟨z,hz,hrz⟩:=hy.slice (t:=3) (lo:=none) (hi:=some l.length) (by simp) (by simpa using h)
  have hrz:RInts q' z (m.take l.length):=by simpa using hrz
  refine aa.tv hx.len (aa.nat (iY hx.bnd) (aa.tv hz (aa.call (r14 hx hrz) (aa.chk rfl ?_))))
  apply aH
  rw[aG]
  simp[h]
 ·have h:¬l.length<=m.length:=by simp at h;omega
  exact aB fun h2=>h h2.1
theorem rMNew {q q':Option Bool} {e:List TV} {x:TV} {m:DMod} {inputs:List Int} (hm:RMod q e m) (hM:cF m) (hx:RWords q' x inputs):∃e2,aj prog 54 [.agg e,x] (.agg e2)/\RMach e2 (fy m inputs):=by
 obtain⟨en,hrn,hfn⟩:=FA hm in0 (RL.nil:RWords none (.lit bc) []) hM
 obtain⟨y,rfl,hy⟩:=hm
 have hw:=hfn.weak
 generalize hF:(ij m 0 []).getD fc=f2 at hfn hw hrn
 obtain⟨yn,rfl,hyn,hof⟩:=hfn
 have hst:RL none 5 (RFrame none) (.sl true 5 [[I f2.f,I f2.block,I f2.at_,yn,W f2.fly]]) (fy m inputs).stack:=by
  show RL none 5 (RFrame none) _ [(ij m 0 []).getD fc]
  rw[hF]
  exact .sl (by simp) (.cons hw .nil) (by simp)
 refine⟨ar (fy m inputs) (.sl true 5 [[I f2.f,I f2.block,I f2.at_,yn,W f2.fly]]) x (.lit bc),?_,⟨_,_,_,rfl,hst,hx.weak fun _ _ h=>h,RL.nil,by simp[fy],fun k=>by rw[C2];exact wz,in0,wz⟩⟩
 refine aj.of (f54_MR _ _) ?_
 unfold f54_M
 refine aa.chk rfl (aa.call hrn (aa.chk rfl (aa.chk (dl hyn.isSl) (aa.chk rfl (aa.chk ?_ ?_)))))
 ·have:=hx.isSl
  rcases hx with⟨rfl,_⟩|⟨o,xs,rfl,_⟩<;>rfl
 ·simp only[ar,C2]
  exact aa.ret
theorem sD {m:DMod} {inputs:List Int} (hM:cF m):db m (fy m inputs):=by
 obtain⟨_,⟨u,hu,hp⟩,_⟩:=id hM
 obtain⟨hf,_⟩:=uP (n:=0) (args:=[]) hM (Int.le_refl 0) hu (by simp[hp])
 refine⟨⟨Int.le_refl 0,by show(0:Int)<=6;omega⟩,by simp[fy],fun _=>by simp[fy],fun k f hk=>?_,fun k f g hk hk'=>?_⟩
 ·have:=(FP.1 hk).1
  simp[fy]at this
  subst this
  simp[fy]at hk
  rw[<-hk]
  exact hf
 ·have:=(FP.1 hk').1
  simp[fy]at this
theorem C1 {q':Option Bool} {e:List TV} {x:TV} {m:DMod} {inputs:List Int} {fuel:Nat} (hm:RMod (some false) e m) (hM:cF m) (hx:RWords q' x inputs) (hfu:fuel<=4294967295) :
  ∃e2,aj prog 37 [.agg e,x,I (fuel:Int)] (.agg e2)/\RMach e2 (lS m (fy m inputs) fuel):=by
 obtain⟨e1,hr1,h1⟩:=rMNew hm hM hx
 have hm':=hm
 obtain⟨y,rfl,hy⟩:=hm
 have loop:∀d k (s:DMach) (g i v:TV),k+d=fuel->RL none 5 (RFrame none) g s.stack->RWords none i s.inputs->RInts none v s.events->s.ok->db m s->s.events.length<=k ->
   ∃e2,aa prog 37 (f37_0 (I (fuel:Int)) (I (k:Int)) y (W (s.c 0)) (W (s.c 1)) (W (s.c 2)) (W (s.c 3)) (W (s.c 4)) (W (s.c 5)) (W (s.c 6)) (W (s.c 7)) (W (s.c 8)) (W (s.c 9)) (W (s.c 10)) (W (s.c 11)) (W (s.c 12)) (W (s.c 13)) (W (s.c 14)) (W (s.c 15)) (I s.done) (W s.value) g TV.hole TV.hole TV.hole TV.hole TV.hole TV.hole TV.hole TV.hole TV.hole TV.hole TV.hole TV.hole TV.hole TV.hole TV.hole TV.hole i v TV.hole TV.hole) (.agg e2)/\RMach e2 (lS m s d):=by
  intro d
  induction d with
  | zero =>
   intro k s g i v hk hg hi hv ho hQ hev
   have hk:k=fuel:=by omega
   subst hk
   refine⟨_,?_,⟨g,i,v,rfl,hg,hi,hv,ho⟩⟩
   unfold f37_0
   refine aa.tv rfl (aa.ite aM nofun fun _=>?_)
   exact aa.ret
  | succ d ih =>
   intro k s g i v hk hg hi hv ho hQ hev
   have hlt:k<fuel:=by omega
   by_cases hd:s.done=0
   rotate_left
   ·have hT:lS m s (d+1)=s:=by simp[lS,hd]
    rw[hT]
    refine⟨_,?_,⟨g,i,v,rfl,hg,hi,hv,ho⟩⟩
    unfold f37_0
    refine aa.tv rfl (aa.ite (aQ hlt) (fun _=>?_) nofun)
    refine aa.tv rfl (aa.ite rfl (fun h=>?_) fun _=>aa.ret)
    simp at h;exact absurd h hd
   ·have hT:lS m s (d+1)=lS m (aI m s) d:=by simp[lS,hd]
    rw[hT]
    obtain⟨e3,hr3,h3⟩:=rStep hm' hM (RMach.frz' hg hi hv ho) hQ (by omega)
    have hQ3:=tR hM hQ
    have hev3:(aI m s).events.length<=k+1:=by
     rcases wW (m:=m) (s:=s)with h|⟨a,h⟩<;>rw[h]
     ·omega
     ·simp;omega
    generalize aI m s=s3 at h3 hQ3 hev3
    obtain⟨g3,i3,v3,rfl,hg3,hi3,hv3,ho3⟩:=h3
    obtain⟨e2,hr2,h2⟩:=ih (k+1) s3 g3 i3 v3 (by omega) hg3 hi3 hv3 ho3 hQ3 hev3
    refine⟨e2,?_,h2⟩
    unfold f37_0
    refine aa.tv rfl (aa.ite (aQ hlt) (fun _=>?_) nofun)
    refine aa.tv rfl (aa.ite rfl (fun _=>?_) fun h=>?_)
    rotate_left
    ·simp at h;exact absurd hd h
    exact aa.call hr3 (aa.chk (bD hg3.isSl hi3.isSl hv3.isSl) (aa.tv (inc hlt (by omega)) (f37_0_J hr2)))
 have hQ:=sD (inputs:=inputs) hM
 have hev:(fy m inputs).events.length<=0:=by simp[fy]
 generalize fy m inputs=s at h1 hQ hev
 obtain⟨g,i,v,rfl,hg,hi,hv,ho⟩:=h1
 obtain⟨e2,hr2,h2⟩:=loop fuel 0 s g i v (by omega) hg hi hv ho hQ hev
 refine⟨e2,?_,h2⟩
 refine aj.of (f37_MR _ _ _) ?_
 unfold f37_M
 exact aa.chk rfl (aa.call hr1 (aa.chk (bD hg.isSl hi.isSl hv.isSl) (f37_0_J hr2)))
end Go.Ab.C14
end
section
set_option maxRecDepth 10000
namespace Go.Ab
end Go.Ab
namespace Go.Ab.C14
open Go Go.Ab Go.Proofs
theorem rSmall {q q':Option Bool} {e:List TV} {x:TV} {m:DMod} {l:List Int} (hm:RMod q e m) (hx:RWords q' x l):∃b,aj prog 15 [.agg e,x] (B b)/\(b=true->ig m/\l.length<=30):=by
 obtain⟨b,hr,hb⟩:=r7 hm
 obtain⟨y,rfl,hy⟩:=hm
 cases b with
 | false =>
  refine⟨false,?_,nofun⟩
  refine aj.of (f15_MR _ _) ?_
  unfold f15_M
  exact aa.chk rfl (aa.call hr (aa.chk rfl (aa.ite rfl nofun fun _=>aa.ret)))
 | true =>
  refine⟨decide ((l.length:Int)<=30),?_,fun h=>⟨hb rfl,by simp at h;omega⟩⟩
  refine aj.of (f15_MR _ _) ?_
  unfold f15_M
  exact aa.chk rfl (aa.call hr (aa.chk rfl (aa.ite rfl (fun _=>aa.tv hx.len (aa.tv rfl aa.ret)) nofun)))
end Go.Ab.C14
end
section
set_option maxRecDepth 10000
namespace Go.Ab
theorem RMach.fit {e:List TV} {s:DMach} (h:RMach e s):(Bool.and ((TV.agg e).isAgg 21) (ab Dl ((TV.agg e).cellsL true) 0))=true:=by
 obtain⟨g,i,v,rfl,hg,hi,hv,ho⟩:=h
 exact bD hg.isSl hi.isSl hv.isSl
end Go.Ab
namespace Go.Ab.C14
open Go Go.Ab Go.Proofs
end Go.Ab.C14
end
section
set_option maxRecDepth 10000
namespace Go.Ab
theorem Eb {a:Int} (h0:0<=a) (h:a<=255):pconv (.int .i64) (.lit (.int .u8 a))=some (I a):=by
 simp only[pconv]
 rw[IntKind.wrap_i64]
 congr 3
 omega
end Go.Ab
namespace Go.Ab.C14
open Go Go.Ab Go.Proofs
end Go.Ab.C14
end
section
set_option maxRecDepth 10000
namespace Go.Ab
theorem ow (m:DMod) (s:DMach) (n:Int) (l:List Int):(bQ m s n l).events=s.events/\(bQ m s n l).cells=s.cells:=by
 unfold bQ
 split
 ·exact⟨rfl,rfl⟩
 ·split<;>exact⟨rfl,rfl⟩
theorem om (m:DMod) (s:DMach) (w:Int):(bI m s w).events=s.events/\(bI m s w).cells=s.cells:=by
 unfold bI
 split
 ·split
  ·exact⟨rfl,rfl⟩
  ·split<;>exact⟨rfl,rfl⟩
 ·exact⟨rfl,rfl⟩
theorem sI (m:DMod) (s:DMach) (w:Int):(aK m s w).events=s.events/\(aK m s w).cells=s.cells:=by
 unfold aK
 split
 ·exact⟨rfl,rfl⟩
 split
 ·exact⟨rfl,rfl⟩
 split
 ·exact⟨rfl,rfl⟩
 split
 ·exact⟨rfl,rfl⟩
 split<;>exact⟨rfl,rfl⟩
theorem oa {P:Nat->Prop}:∀{n k:Nat},d8 P n=some k->P k/\k<n:=by
 intro n
 induction n with
 | zero=>intro k h;cases h
 | succ n ih =>
  intro k h
  unfold d8 at h
  split at h
  ·cases h;exact⟨by assumption,by omega⟩
  ·have:=ih h
   exact⟨this.1,by omega⟩
def ln (s t:DMach):Prop:=s.events=t.events/\s.done=t.done/\s.value=t.value
def vP (A B:Nat->DMach) (fuel times:Nat):Prop :=
 (¬(A fuel).done=0->ln (A fuel) (B (fuel*times))) /\
 ((A fuel).done = 0 → (A fuel).events <+: (B (fuel * times)).events ∧
  (¬(B (fuel*times)).done=0/\¬(A (fuel*20)).done=0->ln (B (fuel*times)) (A (fuel*20))) /\
  (¬(¬(B (fuel*times)).done=0/\¬(A (fuel*20)).done=0)->(B (fuel*times)).events <+: (A (fuel*20)).events\/(A (fuel*20)).done=0/\(A (fuel*20)).events <+: (B (fuel*times)).events))
def ns (A:Nat->DMach):Prop:=(∀k,(A k).events <+: (A (k+1)).events)/\∀k,¬(A k).done=0->A (k+1)=A k
theorem ns.le {A:Nat->DMach} (h:ns A) {j k:Nat} (hjk:j<=k):(A j).events <+: (A k).events:=by
 induction hjk with
 | refl=>exact List.prefix_refl _
 | step _ ih=>exact ih.trans (h.1 _)
theorem ns.stop {A:Nat->DMach} (h:ns A) {j k:Nat} (hjk:j<=k) (hd:¬(A j).done=0):A k=A j:=by
 induction hjk with
 | refl=>rfl
 | step _ ih=>rw[h.2 _ (by rw[ih];exact hd),ih]
theorem ns.both {A:Nat->DMach} (h:ns A) {j k:Nat} (hj:¬(A j).done=0) (hk:¬(A k).done=0):A j=A k:=by
 rcases Nat.le_total j k with e|e
 ·exact(h.stop e hj).symm
 ·exact h.stop e hk
theorem CJ {A B:Nat->DMach} (hA:ns A) (hB:ns B) {times:Nat} (h1:∀k,∃j,j<=k*times/\ln (A k) (B j)) (h2:∀j,∃k,ln (B j) (A k)) (fuel:Nat):vP A B fuel times:=by
 obtain⟨j,hj,e1,e2,e3⟩:=h1 fuel
 refine⟨fun hd=>?_,fun hd=>⟨?_,fun⟨hb,ha⟩=>?_,fun hn=>?_⟩⟩
 ·rw[hB.stop hj (by rw[<-e2];exact hd)]
  exact⟨e1,e2,e3⟩
 ·rw[e1];exact hB.le hj
 ·obtain⟨k,g1,g2,g3⟩:=h2 (fuel*times)
  rw[hA.both ha (by rw[<-g2];exact hb:¬(A k).done=0)]
  exact⟨g1,g2,g3⟩
 ·obtain⟨k,g1,g2,g3⟩:=h2 (fuel*times)
  rw[g1]
  rcases Nat.le_total k (fuel*20)with e|e
  ·exact .inl (hA.le e)
  ·by_cases hd:(A (fuel*20)).done=0
   ·exact .inr ⟨hd,hA.le e⟩
   ·rw[hA.stop e hd]
    exact .inl (List.prefix_refl _)
theorem jI {m:DMod} {s:DMach} (h:¬s.done=0):aI m s=s:=by
 unfold aI
 rw[if_pos h]
theorem Bv (m:DMod) (s:DMach):s.events <+: (aI m s).events:=by
 have keep:∀{t:DMach},t.events=s.events->s.events <+: t.events:=fun h=>by rw[h];exact List.prefix_refl _
 unfold aI
 split
 ·exact keep rfl
 split
 ·exact keep rfl
 split
 ·exact keep rfl
 split
 ·split
  ·exact keep (sI m s _).1
  split
  ·exact keep (ow m s _ _).1
  split
  ·exact keep (om m s _).1
  split
  ·exact keep (om m s _).1
  split<;>exact keep rfl
 ·split
  ·exact keep rfl
  unfold fP
  split
  ·exact keep (ow m s _ _).1
  split
  ·split<;>exact keep rfl
  split
  ·split<;>exact keep rfl
  split
  ·split<;>exact keep rfl
  split
  ·exact List.prefix_append _ _
  ·split
   ·exact keep rfl
   ·exact List.prefix_append _ _
noncomputable def bO (m:DMod) (s:DMach):Nat->DMach
 | 0=>s
 | k+1=>aI m (bO m s k)
theorem uX (m:DMod) (s:DMach):ns (bO m s):=⟨fun k=>Bv m _,fun k h=>jI h⟩
theorem wJ (m:DMod) (s:DMach) (k:Nat):bO m s (k+1)=bO m (aI m s) k:=by
 induction k with
 | zero=>rfl
 | succ k ih=>show aI m (bO m s (k+1))=_;rw[ih];rfl
theorem u7 (m:DMod):∀(k:Nat) (s:DMach),lS m s k=bO m s k:=by
 intro k
 induction k with
 | zero=>intro s;rfl
 | succ k ih =>
  intro s
  rw[wJ]
  unfold lS
  by_cases hd:s.done=0
  ·rw[if_pos hd,ih]
  ·rw[if_neg hd,jI hd]
   have:∀k,bO m s k=s:=fun k=>by
    induction k with
    | zero=>rfl
    | succ k ih2=>show aI m (bO m s k)=s;rw[ih2,jI hd]
   rw[this]
end Go.Ab
namespace Go.Ab.C14
open Go Go.Ab Go.Proofs
theorem CD {m n:DMod} (hM:cF m) (h:∀u,m.funcs[0]? = some u->∃u',n.funcs[0]? = some u'/\u'.params=u.params/\u'.regs=u.regs) (l:List Int):fy n l=fy m l:=by
 obtain⟨u,hu,hp⟩:=hM.2.1
 obtain⟨u',hu',hp',hr⟩:=h u hu
 simp[fy,ij,hu,hu',hp,hp',hr]
end Go.Ab.C14
end
section
set_option maxRecDepth 10000
namespace Go.Ab.C14
open Go Go.Ab Go.Proofs
theorem r16 {e:List TV} {m:DMod} (he:RMod (some false) e m) (hs:ig m):∃e',aj prog 8 [.agg e] (.agg e')/\RMod (some true) e' m:=by
 obtain⟨x,rfl,hx⟩:=he
 obtain⟨hs1,hs2⟩:=hs
 obtain⟨x',h26,hx'⟩:=r26 hx (by omega)
 have outer : ∀ d k w, k + d = m.funcs.length → RP 3 (fun j e f => RFunc (if j < k then some true else some false) e f) w m.funcs → ∃ w', aa prog 8 (f8_0 (I m.funcs.length) (I k) w) (.agg [w']) ∧ RL (some true) 3 (RFunc (some true)) w' m.funcs := by
  intro d
  induction d with
  | zero =>
   intro k w hk hw
   have hk:k=m.funcs.length:=by omega
   subst hk
   have hw':RL (some true) 3 (RFunc (some true)) w m.funcs:=hw.Fk fun i e a hi h=>by simpa[hi]using h
   refine⟨w,?_,hw'⟩
   unfold f8_0
   refine aa.tv rfl (aa.ite aM nofun fun _=>?_)
   exact aa.chk (by simp[isOwn,bE,hw'.own fun _ _ h=>h.own]) aa.ret
  | succ d ih =>
   intro k w hk hw
   have hkb:k<m.funcs.length:=by omega
   have ha:m.funcs[k]? = some m.funcs[k]:=FQ hkb
   obtain⟨e,he,hr,hget,hset⟩:=hw.row ha
   simp only[Nat.lt_irrefl,if_false]at hr
   obtain⟨hsf1,hsf2⟩:=hs2 k hkb _ ha
   generalize hu:m.funcs[k]=f at *
   obtain⟨v,rfl,hv,hok⟩:=hr
   obtain⟨v',h27,hv'⟩:=r27 hv (by omega)
   have hbk:(k:Nat)<=9223372036854775807:=by omega
   have hlt:(Nat.blt k m.funcs.length)=true:=by simpa using hkb
   have inner:∀d j y,j+d=f.blocks.length->RP 14 (fun t e b=>RBlock (if t<j then some true else some false) e b) y f.blocks->∃w',aa prog 8 (f8_1 (I k) (I m.funcs.length) (I k) (I f.blocks.length) (I j) w y) (.agg [w'])/\RL (some true) 3 (RFunc (some true)) w' m.funcs:=by
    intro d
    induction d with
    | zero =>
     intro j y hj hy
     have hj:j=f.blocks.length:=by omega
     subst hj
     have hy':RL (some true) 14 (RBlock (some true)) y f.blocks:=hy.Fk fun i e a hi h=>by simpa[hi]using h
     have hw2:=hw.set (S:=fun j e x=>RFunc (if j<k+1 then some true else some false) e x) ha (e:=[I f.params,I f.regs,y]) (by simp;exact⟨y,rfl,hy',hok⟩) (fun j e c hj h=>by
      by_cases hjk:j<k
      ·simpa[hjk,show j<k+1 by omega]using h
      ·simpa[hjk,show ¬j<k+1 by omega]using h)
     obtain⟨w',hw',hrl⟩:=ih (k+1) _ (by omega) hw2
     refine⟨w',?_,hrl⟩
     unfold f8_1
     refine aa.tv rfl (aa.ite aM nofun fun _=>?_)
     refine f8_2_J ?_
     unfold f8_2
     refine aa.nat hw.slLen (aa.nat (bj hbk) (aa.chk (by rw[hw.slSize,hlt];rfl) (aa.tvs he (aa.chk (by simp[cL,ab,zSl,aF,hv.isSl,hy'.isSl]) (aa.tv (hset 2 [y]) (aa.tv (inc hkb hx.bnd) (f8_0_J hw')))))))
    | succ d ihi =>
     intro j y hj hy
     have hjb:j<f.blocks.length:=by omega
     have hab:f.blocks[j]? = some f.blocks[j]:=FQ hjb
     obtain⟨e2,he2,hr2,hget2,hset2⟩:=hy.row hab
     simp only[Nat.lt_irrefl,if_false]at hr2
     have hsb:=hsf2 j hjb _ hab
     generalize f.blocks[j]=b at *
     obtain⟨e3,h28,hr3⟩:=r28 hr2.frz hsb
     obtain⟨c,i,g,rfl,hc,hd,hi,hg,ho⟩:=hr2
     have hr4:=hr3
     obtain⟨c',i',g',rfl,hc',hd',hi',hg',ho'⟩:=hr3
     have hy2:=hy.set (S:=fun t e b=>RBlock (if t<j+1 then some true else some false) e b) hab (e:=[B b.landing,I b.pad.dst,c',B b.pad.all,B b.pad.cleanup,i',I b.fin.kind,I b.fin.a,I b.fin.dst,I b.fin.f,g',I b.fin.to,I b.fin.els,I b.fin.pad]) (by simp;exact hr4) (fun t e c ht h=>by
      by_cases htj:t<j
      ·simpa[htj,show t<j+1 by omega]using h
      ·simpa[htj,show ¬t<j+1 by omega]using h)
     obtain⟨w',hw',hrl⟩:=ihi (j+1) _ (by omega) hy2
     refine⟨w',?_,hrl⟩
     have hltb:(Nat.blt j f.blocks.length)=true:=by simpa using hjb
     have hf1:ab dK [B b.landing,I b.pad.dst,c,B b.pad.all,B b.pad.cleanup,i,I b.fin.kind,I b.fin.a,I b.fin.dst,I b.fin.f,g,I b.fin.to,I b.fin.els,I b.fin.pad] 0=true:=by
      simp[ab,dK,aF,TV.isSc,scV,hc.isSl,hi.isSl,hg.isSl]
     have hf2:ab dK [B b.landing,I b.pad.dst,c',B b.pad.all,B b.pad.cleanup,i',I b.fin.kind,I b.fin.a,I b.fin.dst,I b.fin.f,g',I b.fin.to,I b.fin.els,I b.fin.pad] 0=true:=by
      simp[ab,dK,aF,TV.isSc,scV,hc'.isSl,hi'.isSl,hg'.isSl]
     unfold f8_1
     refine aa.tv rfl (aa.ite (aQ hjb) (fun _=>?_) nofun)
     refine aa.nat hy.slLen (aa.nat (bj (by omega)) (aa.chk (by rw[hy.slSize,hltb];rfl) (aa.tvs he2 (aa.chk hf1 (aa.tv (hget2 2 c rfl) (aa.tv (hget2 5 i rfl) (aa.tv (hget2 10 g rfl) (aa.call h28 (aa.chk hf2 ?_)))))))))
     refine aa.nat hy.slLen (aa.nat (bj (by omega)) (aa.chk (by rw[hy.slSize,hltb];rfl) (aa.tvs he2 (aa.chk (by rw[uS hf1];exact hf2) (aa.tv (hset2 0 _) (aa.tv (inc hjb (by omega)) (f8_1_J hw')))))))
   obtain⟨w',hw',hrl⟩:=inner f.blocks.length 0 v' (by omega) (hv'.Fj fun i e a h=>by simpa using h)
   refine⟨w',?_,hrl⟩
   unfold f8_0
   refine aa.tv rfl (aa.ite (aQ hkb) (fun _=>?_) nofun)
   refine aa.nat hw.slLen (aa.nat (bj hbk) (aa.chk (by rw[hw.slSize,hlt];rfl) (aa.tvs he (aa.chk (by simp[cL,ab,zSl,aF,hv.isSl]) (aa.tv (hget 2 v rfl) (aa.chk hv.jb (aa.call h27 (aa.chk (by simp[ab,zSl,aF,hv'.isSl]) (aa.tv hv'.len (f8_1_J hw'))))))))))
 obtain⟨w',hw',hrl⟩:=outer m.funcs.length 0 x' (by omega) (hx'.Fj fun i e a h=>by simpa using h)
 refine⟨_,?_,⟨w',rfl,hrl⟩⟩
 refine aj.of (f8_MR _) ?_
 unfold f8_M
 exact aa.chk rfl (aa.call h26 (aa.chk (by simp[cL,ab,zSl,aF,hx'.isSl]) (aa.tv hx'.len (f8_0_J hw'))))
end Go.Ab.C14
end
section
set_option maxRecDepth 10000
namespace Go.Ab
theorem ya:∀(p:Way) (k j:Nat) (x y:TV),a8 p x=some y->a8 (p ++ [(k,j)]) x=a8 [(k,j)] y
 | [],k,j,x,y,h=>by simp[a8]at h;subst h;rfl
 | (a, b) :: p, k, j, x, y, h => by
  cases x with
  | sl o s xs =>
   simp only[a8,List.cons_append]at h ⊢
   cases hx:xs[a]? with
   | none=>simp[hx]at h
   | some e =>
    simp only[hx]at h ⊢
    cases he:e[b]? with
    | none=>simp[he]at h
    | some z =>
     simp only[he]at h ⊢
     exact ya p k j z y h
  | _=>simp[a8]at h
section
variable {α β:Type} {p:Way} {w y:TV} {s:Nat} {R:List TV->α->Prop} {Q:TV->β->Prop} {G:List α->DMod} {l:List α}
theorem RL.at (hy:RL (some true) s R y l) {k:Nat} {e:List TV} (he:Go.Ab.pel y k=some e):∃xs,y=.sl true s xs/\xs[k]? = some e/\F2 R xs l/\xs.length<=9223372036854775807:=by
 rcases hy with⟨rfl,rfl⟩|⟨o,xs,rfl,hq,h,hb⟩
 ·simp[Go.Ab.pel]at he
 ·have:o=true:=hq true rfl
  subst this
  exact⟨xs,rfl,he,h,hb⟩
end
end Go.Ab
namespace Go.Ab.C14
open Go Go.Ab Go.Proofs
end Go.Ab.C14
end
section
set_option maxRecDepth 10000
namespace Go.Ab
section
variable {α:Type} {s:Nat} {R:List TV->α->Prop} {y:TV} {l:List α}
theorem RL.FO (hy:RL (some true) s R y l) {i:Nat} {e:List TV} (he:Go.Ab.pel y i=some e) {d:Nat} {ys:List TV} {a:α} (hR:R (bH e d ys) a):∃y',ja [] y i d ys=some y'/\RL (some true) s R y' (l.set i a):=by
 obtain⟨xs,rfl,hk,hf,hb⟩:=hy.at he
 refine⟨.sl true s (ai xs i (bH e d ys)),by simp only[ja,a8,uR,hk,iA],.sl (by simp) (hf.set hR) (by rw[cI];exact hb)⟩
theorem RL.app (hy:RL (some true) s R y l) {e:List TV} {a:α} (hR:R e a) (hl:l.length+1<=4294967296):∃y',papp s y [e]=some y'/\RL (some true) s R y' (l ++ [a]):=by
 rcases hy with⟨rfl,rfl⟩|⟨o,xs,rfl,hq,h,hb⟩
 ·refine⟨.sl true s [e],by simp[papp,bc,room,Bc],.sl (by simp) (.cons hR .nil) (by simp)⟩
 ·have:o=true:=hq true rfl
  subst this
  have hxl:=h.length
  refine⟨.sl true s (xs ++ [e]),?_,.sl (by simp) (h.append (.cons hR .nil)) (by simp;omega)⟩
  simp[papp,room];omega
end
end Go.Ab
namespace Go.Ab.C14
open Go Go.Ab Go.Proofs
end Go.Ab.C14
end
section
set_option maxRecDepth 10000
namespace Go.Ab
inductive Thr (m:DMod):Nat->Prop
 | thr {n i:Nat} {u:DFunc} {b:DBlock} (hu:m.funcs[n]? = some u) (hb:u.blocks[i]? = some b) (h:b.fin.kind=5\/b.fin.kind=6):Thr m n
 | inv {n i:Nat} {u:DFunc} {b pb:DBlock} (hu:m.funcs[n]? = some u) (hb:u.blocks[i]? = some b) (h:b.fin.kind=4) (hp:u.blocks[b.fin.pad.toNat]? = some pb) (ha:pb.pad.all=false) (ht:Thr m b.fin.f.toNat):Thr m n
 | call {n i k:Nat} {u:DFunc} {b:DBlock} {x:DIns} (hu:m.funcs[n]? = some u) (hb:u.blocks[i]? = some b) (hx:b.ins[k]? = some x) (h:x.op=11) (ht:Thr m x.f.toNat):Thr m n
def tj (F:List Bool) (b:DBlock):Prop:=∃x∈b.ins,x.op=11/\F[x.f.toNat]? = some true
def invD (F:List Bool) (b:DBlock):Prop:=b.fin.kind=4/\F[b.fin.f.toNat]? = some true
def zA (F:List Bool) (u:DFunc) (b:DBlock):Prop:=(b.fin.kind=5\/b.fin.kind=6)\/tj F b\/(invD F b/\∃pb,u.blocks[b.fin.pad.toNat]? = some pb/\pb.pad.all=false)
def vJ (X:Nat->Prop) (F:List Bool):Prop:=∀k:Nat,F[k]? = some true->X k
def qM (D:List Bool->DFunc->DBlock->Prop) (F:List Bool) (u:DFunc):Prop:=∃b∈u.blocks,D F u b
def ClsL (m:DMod) (D:List Bool->DFunc->DBlock->Prop) (F:List Bool):Prop:=∀(n:Nat) u,m.funcs[n]? = some u->qM D F u->F[n]? = some true
structure zM (m:DMod) (D:List Bool->DFunc->DBlock->Prop) (X:Nat->Prop):Prop where
 up:∀F,vJ X F->∀(n:Nat) u,m.funcs[n]? = some u->qM D F u->X n
 dn:∀F,ClsL m D F->∀n,X n->F[n]? = some true
theorem BU {m:DMod} {X:Nat->Prop} {F:List Bool} {b:DBlock} (h:vJ X F) (hc:tj F b):∃(k:Nat) (x:DIns),b.ins[k]? = some x/\x.op=11/\X x.f.toNat:=by
 obtain⟨x,hx,h11,hF⟩:=hc
 obtain⟨k,hk,rfl⟩:=List.mem_iff_getElem.1 hx
 exact⟨k,_,FQ hk,h11,h _ hF⟩
theorem BW (m:DMod):zM m zA (Thr m):=by
 refine⟨fun F hs n u hu ⟨b,hb,h⟩=>?_,fun F hc n h=>?_⟩
 ·obtain⟨i,hi,rfl⟩:=List.mem_iff_getElem.1 hb
  have hbi:=FQ hi
  rcases h with h|h|⟨⟨h4,hF⟩,pb,hp,ha⟩
  ·exact .thr hu hbi h
  ·obtain⟨k,x,hx,h11,ht⟩:=BU (m:=m) hs h
   exact .call hu hbi hx h11 ht
  ·exact .inv hu hbi h4 hp ha (hs _ hF)
 ·induction h with
  | thr hu hb h=>exact hc _ _ hu ⟨_,FZ hb,.inl h⟩
  | inv hu hb h hp ha _ ih=>exact hc _ _ hu ⟨_,FZ hb,.inr (.inr ⟨⟨h,ih⟩,_,hp,ha⟩)⟩
  | call hu hb hx h _ ih=>exact hc _ _ hu ⟨_,FZ hb,.inr (.inl ⟨_,FZ hx,h,ih⟩)⟩
theorem mF (x:TV):t9 x x=true:=by
 unfold t9
 exact Bool.or_eq_true _ _ |>.mpr (.inr (@decide_eq_true _ (Classical.propDecidable _) rfl))
theorem E5 {M:List Bool} {g:Nat} (h:M[g]? = some false):(M.set g true).count false+1=M.count false:=by
 obtain⟨hlt,hg⟩:=FP.1 h
 have hpos:0<M.count false:=List.count_pos_iff.2 (FZ h)
 rw[List.count_set hlt]
 simp[hg]
 omega
structure wr (m:DMod) (D:List Bool->DFunc->DBlock->Prop) (X:Nat->Prop) (F0 F:List Bool) (g:Bool) (n:Nat):Prop where
 len:F.length=m.funcs.length
 snd:vJ X F
 no:g=false->F=F0/\∀(k:Nat) u,k<n->m.funcs[k]? = some u->qM D F u->F[k]? = some true
 yes:g=true->F.count false<F0.count false
theorem wr.start {m:DMod} {D:List Bool->DFunc->DBlock->Prop} {X:Nat->Prop} {F:List Bool} (hl:F.length=m.funcs.length) (hs:vJ X F):wr m D X F F false 0 :=
 ⟨hl,hs,fun _=>⟨rfl,fun k u h=>absurd h (Nat.not_lt_zero _)⟩,nofun⟩
theorem wr.hit {m:DMod} {D:List Bool->DFunc->DBlock->Prop} {X:Nat->Prop} {F0 F:List Bool} {g:Bool} {n:Nat} {u:DFunc} (hX:zM m D X) (h:wr m D X F0 F g n) (hn:F[n]? = some false) (hu:m.funcs[n]? = some u) (hh:qM D F u):wr m D X F0 (F.set n true) true (n+1):=by
 have hlt:=(FP.1 hn).1
 refine⟨by rw[List.length_set];exact h.len,fun k hk=>?_,nofun,fun _=>?_⟩
 ·by_cases e:k=n
  ·subst e;exact hX.up F h.snd _ u hu hh
  ·rw[List.getElem?_set_ne (Ne.symm e)]at hk
   exact h.snd k hk
 ·have:=E5 hn
  cases g with
  | true=>have:=h.yes rfl;omega
  | false=>have:=(h.no rfl).1;subst this;omega
theorem wr.miss {m:DMod} {D:List Bool->DFunc->DBlock->Prop} {X:Nat->Prop} {F0 F:List Bool} {g:Bool} {n:Nat} (h:wr m D X F0 F g n) (hn:F[n]? = some true\/∀u,m.funcs[n]? = some u->¬qM D F u):wr m D X F0 F g (n+1):=by
 refine⟨h.len,h.snd,fun hg=>⟨(h.no hg).1,fun k u hk hu hh=>?_⟩,h.yes⟩
 by_cases e:k=n
 ·subst e
  rcases hn with hn|hn
  ·exact hn
  ·exact absurd hh (hn u hu)
 ·exact(h.no hg).2 k u (by omega) hu hh
theorem zx {A:AProg} {f:FuncId} {m:DMod} {D:List Bool->DFunc->DBlock->Prop} {X:Nat->Prop} (hX:zM m D X) {P0:Bool->TV->Prg TV} {P1:Bool->Nat->TV->Prg TV}
  (h0t:∀w y,aa A f (P1 false 0 w) y->aa A f (P0 true w) y)
  (h0f:∀w F,RBools (some true) w F->aa A f (P0 false w) w)
  (h1e:∀g w y,aa A f (P0 g w) y->aa A f (P1 g m.funcs.length w) y)
  (h1s : ∀ g n w F c u y, F.length = m.funcs.length → RBools (some true) w F → F[n]? = some c → m.funcs[n]? = some u →
   ((c=true\/¬qM D F u)->aa A f (P1 g (n+1) w) y)->(∀w',ja [] w n 0 [B true]=some w'->c=false->qM D F u->aa A f (P1 true (n+1) w') y)->aa A f (P1 g n w) y) :
  ∀(d:Nat) (F:List Bool) (w:TV),F.count false<=d->F.length=m.funcs.length->vJ X F->RBools (some true) w F ->
   ∃y F',aa A f (P0 true w) y/\RBools (some true) y F'/\F'.length=m.funcs.length/\∀k:Nat,F'[k]? = some true ↔ X k:=by
 have fin:∀{w F},F.length=m.funcs.length->vJ X F->ClsL m D F->RBools (some true) w F->∃y F',aa A f (P0 false w) y/\RBools (some true) y F'/\F'.length=m.funcs.length/\∀k:Nat,F'[k]? = some true ↔ X k :=
  fun hl hs hc hw=>⟨_,_,h0f _ _ hw,hw,hl,fun k=>⟨hs k,hX.dn _ hc k⟩⟩
 have row:∀(F0:List Bool) (K:∀F w,F.count false<F0.count false->F.length=m.funcs.length->vJ X F->RBools (some true) w F->∃y F',aa A f (P0 true w) y/\RBools (some true) y F'/\F'.length=m.funcs.length/\∀k:Nat,F'[k]? = some true ↔ X k),
   ∀(d n:Nat) (F:List Bool) (g:Bool) (w:TV),n+d=m.funcs.length->wr m D X F0 F g n->RBools (some true) w F->∃y F',aa A f (P1 g n w) y/\RBools (some true) y F'/\F'.length=m.funcs.length/\∀k:Nat,F'[k]? = some true ↔ X k:=by
  intro F0 K d
  induction d with
  | zero =>
   intro n F g w hn hr hw
   have hn:n=m.funcs.length:=by omega
   subst hn
   cases g with
   | true =>
    obtain⟨y,F',h1,h2⟩:=K F w (hr.yes rfl) hr.len hr.snd hw
    exact⟨y,F',h1e _ _ _ h1,h2⟩
   | false =>
    obtain⟨y,F',h1,h2⟩:=fin hr.len hr.snd (fun k u hu hh=>(hr.no rfl).2 k u (FP.1 hu).1 hu hh) hw
    exact⟨y,F',h1e _ _ _ h1,h2⟩
  | succ d ih =>
   intro n F g w hn hr hw
   have hlt:n<m.funcs.length:=by omega
   have hu:=FQ hlt
   have hc:F[n]? = some (F[n]'(by rw[hr.len];exact hlt)):=FQ _
   generalize m.funcs[n]=u at hu
   generalize F[n]'(by rw[hr.len];exact hlt)=c at hc
   by_cases hm:c=true\/¬qM D F u
   ·obtain⟨y,F',h1,h2⟩:=ih (n+1) F g w (by omega) (hr.miss (hm.imp (fun e=>by rw[hc,e]) fun h v hv=>by rw[hu]at hv;cases hv;exact h)) hw
    exact⟨y,F',h1s g n w F c u y hr.len hw hc hu (fun _=>h1) (fun w' _ e hh=>by
     rcases hm with h|h
     ·rw[e]at h;cases h
     ·exact absurd hh h),h2⟩
   ·have hcf:c=false:=by
     cases c with
     | false=>rfl
     | true=>exact absurd (.inl rfl) hm
    subst hcf
    have hh:qM D F u:=Classical.byContradiction fun h=>hm (.inr h)
    obtain⟨e,he,hR⟩:=hw.pel hc
    cases hR
    obtain⟨w1,hs1,hw1⟩:=hw.FO he (d:=0) (ys:=[B true]) (a:=true) rfl
    obtain⟨y,F',h1,h2⟩:=ih (n+1) (F.set n true) true w1 (by omega) (hr.hit hX hc hu hh) hw1
    refine⟨y,F',h1s g n w F false u y hr.len hw hc hu (fun h=>absurd h hm) (fun w' hs' _ _=>?_),h2⟩
    rw[hs1]at hs'
    cases hs'
    exact h1
 intro d
 induction d with
 | zero =>
  intro F w hd hl hs hw
  obtain⟨y,F',h1,h2⟩:=row F (fun F' w' h=>by omega) m.funcs.length 0 F false w (by omega) (.start hl hs) hw
  exact⟨y,F',h0t _ _ h1,h2⟩
 | succ d ih =>
  intro F w hd hl hs hw
  obtain⟨y,F',h1,h2⟩:=row F (fun F' w' h hl' hs' hw'=>ih F' w' (by omega) hl' hs' hw') m.funcs.length 0 F false w (by omega) (.start hl hs) hw
  exact⟨y,F',h0t _ _ h1,h2⟩
end Go.Ab
end
section
set_option maxRecDepth 10000
namespace Go.Ab
theorem zp {P:Nat->Prop}:∀{n k:Nat},d8 P n=some k->∀j,k<j->j<n->¬P j:=by
 intro n
 induction n with
 | zero=>intro k h;cases h
 | succ n ih =>
  intro k h j h1 h2
  unfold d8 at h
  split at h
  ·cases h;omega
  ·rename_i hn
   by_cases e:j=n
   ·subst e;exact hn
   ·exact ih h j h1 (by omega)
end Go.Ab
namespace Go.Ab.C14
open Go Go.Ab Go.Proofs
end Go.Ab.C14
end

import Derived.Test.YtpkpckdealhkhaaAC14F46
import Derived.Test.YtpkpckdealhkhaaAC14F6
import Derived.OpenShut
import Derived.Test.YtpkpckdealhkhaaAC14F33
set_option linter.all false
section
set_option maxRecDepth 10000
namespace Go.Ab
theorem ww {f:DFrame} {x:DIns}:(bP f x).1=f\/∃w,(bP f x).1=upF (iV f x.dst w):=by
 unfold bP;cases cL f.regs x with
 | none=>exact .inl rfl
 | some w =>
  simp only;split
  ·exact .inr ⟨w,rfl⟩
  ·exact .inl rfl
end Go.Ab
namespace Go.Ab.C14
open Go Go.Ab Go.Proofs
theorem tD {m:DMod} {s:DMach} {w:Int} (hM:cB m) (hQ:db m s):db m (aN m s w):=by
 unfold aN;split
 ·exact hQ
 ·rename_i f hf
  split
  ·rename_i h1
   refine ez (s:={ s with stack:=[] }) (by simp) ⟨fun k f hk=>?_,fun k f g hk=>?_⟩ (by omega)
   ·simp at hk
   ·simp at hk
  ·rename_i h1
   have hF:=hQ.st.1 _ f hf;have htop:jG { s with stack:=s.stack.take (s.stack.length-1) }=some f:=by
    simp only[jG,List.length_take];rw[List.getElem?_take,if_pos (by omega),<-hf];congr 1;omega
   have hlen:({ s with stack:=s.stack.take (s.stack.length-1) }:DMach).stack.length<=32:=by
    have:=hQ.2.1;simp;omega
   obtain⟨f2,hf2⟩:∃f,s.stack[s.stack.length-2+1]? = some f:=⟨_,Gi (by omega)⟩;obtain⟨u,b,hu,hb,hlink⟩:=hQ.st.2 _ f f2 hf hf2;have hbo:bc m f=some b:=by simp[bc,hu,hb]
   rw[hbo];simp only;split
   ·rename_i hat
    have h4:b.fin.kind=4:=by
     rcases hlink with⟨_,h,_⟩|⟨h,_⟩
     ·exact h
     ·exact absurd hat h
    have hE:=(oN hM hu hb).2.2.2.2.1.1;rw[h4]at hE;have hg:=mf (f:=iV f b.fin.dst w) (nn hF) hu (hE rfl);exact cn hQ.1 hlen (hQ.st.take _) htop hg rfl
   ·rename_i hat
    split
    ·exact hQ
    ·rename_i x hx
     have hup:=o9 (f:=iV f x.dst w) hM (nn hF) hbo (Gg.1 hx).1;exact cn hQ.1 hlen (hQ.st.take _) htop hup rfl
theorem Cy {m:DMod} {s:DMach} {f:DFrame} {b:DBlock} {x:DIns} (hM:cB m) (hQ:db m s) (ht:jG s=some f) (hb:bc m f=some b) (hat:¬f.at_=b.ins.length) (hx:b.ins[f.at_.toNat]? = some x) (hI:lj m.funcs f.regs.length x):db m (fG m s f x):=by
 have hF:=hQ.st.1 _ f ht;have hlt:=(Gg.1 hx).1;have hup:∀n w,b7 m (upF (iV f n w)):=fun n w=>o9 (f:=iV f n w) hM (nn hF) hb hlt
 have hup0:b7 m (upF f):=o9 hM hF hb hlt;unfold fG;split
 ·rename_i h11
  have hc:=hI.2.2.2.2.2.1;rw[h11]at hc;refine oE hM hQ ht (hc rfl) fun g hg=>?_
  obtain⟨_,u,hu,_,_,b',hb',_⟩:=hF;have:bc m f=some b':=by simp[bc,hu,hb']
  rw[hb]at this;cases this;exact⟨u,b,hu,hb',.inr ⟨hat,x,hx,h11,hg.symm⟩⟩
 split
 ·split
  ·rcases ww (f:=f) (x:=x)with h|⟨w,h⟩
   ·rw[h];exact cn hQ.1 hQ.2.1 hQ.st ht hF rfl
   ·rw[h];exact cn hQ.1 hQ.2.1 hQ.st ht (hup _ _) rfl
  ·exact ez hQ.2.1 hQ.st (by omega)
 split
 ·split
  ·exact ez hQ.2.1 hQ.st (by omega)
  ·exact cn hQ.1 hQ.2.1 hQ.st ht (hup _ _) rfl
 split
 ·split
  ·exact ez hQ.2.1 hQ.st (by omega)
  ·exact cn (s:=eT s (reg f x.a).toNat (reg f x.b)) hQ.1 hQ.2.1 hQ.st ht hup0 rfl
 split
 ·exact cn (s:={ s with events:=s.events ++ [reg f x.a] }) hQ.1 hQ.2.1 hQ.st ht hup0 rfl
 split
 ·exact ez hQ.2.1 hQ.st (by omega)
 ·rename_i a l _
  exact cn (s:={ s with events:=s.events ++ [a+65536],inputs:=l }) hQ.1 hQ.2.1 hQ.st ht (hup _ _) rfl
theorem tf {m:DMod} {s:DMach} (hM:cB m) (hQ:db m s):db m (aI m s):=by
 unfold aI;split
 ·exact hQ
 split
 ·exact hQ
 rename_i f ht;have hF:=hQ.st.1 _ f ht;have hF':=hF;obtain⟨hf0,u,hu,hLr,hb0,b,hb,ha0,ha1⟩:=hF;have hbo:bc m f=some b:=by simp[bc,hu,hb]
 rw[hbo];simp only;have hE:=oN hM hu hb;have hk:=wX hE.1;split
 ·rename_i hat
  split
  ·exact tD hM hQ
  split
  ·rename_i h4
   have hc:=hE.2.2.2.1.1;rw[h4]at hc;exact oE hM hQ ht (hc rfl) fun g hg=>⟨u,b,hu,hb,.inl ⟨hat,h4,hg.symm⟩⟩
  split
  ·exact om hQ
  split
  ·exact om hQ
  split
  ·rename_i h3
   have hc:=hE.2.2.2.2.2.1.1;rw[h3.1]at hc;exact cn hQ.1 hQ.2.1 hQ.st ht (mf hF' hu (hc rfl)) rfl
  ·rename_i h1 h4 h5 h6 h3
   have h23:b.fin.kind=2\/b.fin.kind=3:=by omega
   have hc:=hE.2.2.2.2.1.1;rcases h23 with h|h
   ·rw[h]at hc
    exact cn hQ.1 hQ.2.1 hQ.st ht (mf hF' hu (hc rfl)) rfl
   ·rw[h]at hc
    exact cn hQ.1 hQ.2.1 hQ.st ht (mf hF' hu (hc rfl)) rfl
 ·rename_i hat
  split
  ·exact hQ
  ·rename_i x hx
   have hI:=q0 hM hu hb hx;rw[<-hLr]at hI;exact Cy hM hQ ht hbo hat hx hI
theorem xi {m:DMod} {s:DMach}:(aI m s).events=s.events\/∃a,(aI m s).events=s.events ++ [a]:=by
 have hw:∀(t:DMach) f,(bK t f).events=t.events:=fun _ _=>rfl
 have he:∀(t:DMach) a b,(dU t a b).events=t.events:=fun _ _ _=>rfl
 have hc:∀n p,(bN m s n p).events=s.events:=by
  intro n p;unfold bN;split
  ·rfl
  ·split<;>rfl
 have hth:∀w,(bR m s w).events=s.events:=by
  intro w;unfold bR;split
  ·split
   ·rfl
   ·split<;>rfl
  ·rfl
 have han:∀w,(aN m s w).events=s.events:=by
  intro w;unfold aN;split
  ·rfl
  ·split
   ·rfl
   ·split
    ·rfl
    ·split
     ·rfl
     ·split<;>rfl
 have hi:∀f x,(fG m s f x).events=s.events\/∃a,(fG m s f x).events=s.events ++ [a]:=by
  intro f x;unfold fG;split
  ·exact .inl (hc _ _)
  split
  ·split
   ·exact .inl rfl
   ·exact .inl rfl
  split
  ·split
   ·exact .inl rfl
   ·exact .inl rfl
  split
  ·split
   ·exact .inl rfl
   ·exact .inl rfl
  split
  ·exact .inr ⟨_,rfl⟩
  split
  ·exact .inl rfl
  ·exact .inr ⟨_,rfl⟩
 unfold aI;split
 ·exact .inl rfl
 split
 ·exact .inl rfl
 split
 ·exact .inl rfl
 split
 ·split
  ·exact .inl (han _)
  split
  ·exact .inl (hc _ _)
  split
  ·exact .inl (hth _)
  split
  ·exact .inl (hth _)
  split
  ·exact .inl rfl
  ·exact .inl rfl
 ·split
  ·exact .inl rfl
  ·exact hi _ _
end Go.Ab.C14
end
section
set_option maxRecDepth 10000
namespace Go.Ab
def fm (m:DMod) (inputs:List Int):DMach:=⟨[(il m 0 []).getD eX],List.replicate 16 0,inputs,[],0,0⟩
theorem Ee {m:DMod} {l:List Int} (k:Nat):(fm m l).c k=0:=by
 simp only[DMach.c,fm,List.getD,List.getElem?_replicate];split<;>rfl
noncomputable def lJ (m:DMod) (s:DMach):Nat->DMach
 | 0=>s
 | n+1=>if s.done=0 then lJ m (aI m s) n else s
theorem RMach.frz' {s:DMach} {g i v:TV} (hg:RL none 5 (RFrame none) g s.stack) (hi:RWords none i s.inputs) (hv:RInts none v s.events) (ho:s.ok):RMach (ar s (Go.Ab.frz g) (Go.Ab.frz i) (Go.Ab.frz v)) s :=
 ⟨_,_,_,rfl,(hg.frz (S:=RFrame (some false)) fun _ _ h=>h.frz).weak fun _ _ h=>h.weak,(hi.frz (S:=RW1) fun _ _ h=>h.frz).weak fun _ _ h=>h,(hv.frz (S:=RI1) fun _ _ h=>h.frz).weak fun _ _ h=>h,ho⟩
end Go.Ab
namespace Go.Ab.C14
open Go Go.Ab Go.Proofs
theorem FO {e e':List TV} {a b:DMach} (ha:RMach e a) (hb:RMach e' b):ai prog 38 [.agg e,.agg e'] (B (tt (a.events=b.events/\a.done=b.done/\a.value=b.value))):=by
 obtain⟨g,i,v,rfl,hg,hi,hv,ho⟩:=ha;obtain⟨g',i',v',rfl,hg',hi',hv',ho'⟩:=hb;refine ai.of (f38_MR _ _) ?_;unfold f38_M;refine aa.chk rfl (aa.chk rfl (aa.call (r14 hv hv') (aa.chk rfl (aa.ite rfl (fun h=>?_) fun h=>?_))))
 ·have h:=aF.1 h
  refine aa.tv rfl (aa.ite rfl (fun h2=>?_) fun h2=>?_)
  ·have h2:a.done=b.done:=by simpa[TV.cell,nth,ar]using h2
   refine aa.tv rfl ?_;apply aG;simp[h,h2]
  ·have h2:¬a.done=b.done:=by simpa[TV.cell,nth,ar]using h2
   exact az fun h3=>h2 h3.2.1
 ·exact az fun h2=>au.1 h h2.1
theorem vU {q q':Option Bool} {x y:TV} {l m:List Int} (hx:RInts q x l) (hy:RInts q' y m):ai prog 39 [x,y] (B (tt (l.length<=m.length/\l=m.take l.length))):=by
 refine ai.of (f39_MR _ _) ?_;unfold f39_M;refine aa.tv hx.len (aa.tv hy.len (aa.tv rfl (aa.ite rfl (fun h=>?_) fun h=>?_)))
 ·have h:l.length<=m.length:=by simpa using h
  obtain⟨z,hz,hrz⟩:=hy.slice (t:=3) (lo:=none) (hi:=some l.length) (by simp) (by simpa using h);have hrz:RInts q' z (m.take l.length):=by simpa using hrz
  refine aa.tv hx.len (aa.nat (i9 hx.bnd) (aa.tv hz (aa.call (r14 hx hrz) (aa.chk rfl ?_))));apply aG;rw[aF];simp[h]
 ·have h:¬l.length<=m.length:=by simp at h;omega
  exact az fun h2=>h h2.1
theorem rMNew {q q':Option Bool} {e:List TV} {x:TV} {m:DMod} {inputs:List Int} (hm:RMod q e m) (hM:cB m) (hx:RWords q' x inputs):∃e2,ai prog 54 [.agg e,x] (.agg e2)/\RMach e2 (fm m inputs):=by
 obtain⟨en,hrn,hfn⟩:=FL hm in0 (RL.nil:RWords none (.lit a9) []) hM;obtain⟨y,rfl,hy⟩:=hm;have hw:=hfn.weak;generalize hF:(il m 0 []).getD eX=f2 at hfn hw hrn;obtain⟨yn,rfl,hyn,hof⟩:=hfn;have hst:RL none 5 (RFrame none) (.sl true 5 [[I f2.f,I f2.block,I f2.at_,yn,W f2.fly]]) (fm m inputs).stack:=by
  show RL none 5 (RFrame none) _ [(il m 0 []).getD eX];rw[hF];exact .sl (by simp) (.cons hw .nil) (by simp)
 refine⟨ar (fm m inputs) (.sl true 5 [[I f2.f,I f2.block,I f2.at_,yn,W f2.fly]]) x (.lit a9),?_,⟨_,_,_,rfl,hst,hx.weak fun _ _ h=>h,RL.nil,by simp[fm],fun k=>by rw[Ee];exact wh,in0,wh⟩⟩;refine ai.of (f54_MR _ _) ?_;unfold f54_M;refine aa.chk rfl (aa.call hrn (aa.chk rfl (aa.chk (dg hyn.isSl) (aa.chk rfl (aa.chk ?_ ?_)))))
 ·have:=hx.isSl
  rcases hx with⟨rfl,_⟩|⟨o,xs,rfl,_⟩<;>rfl
 ·simp only[ar,Ee]
  exact aa.ret
theorem tn {m:DMod} {inputs:List Int} (hM:cB m):db m (fm m inputs):=by
 obtain⟨_,⟨u,hu,hp⟩,_⟩:=id hM;obtain⟨hf,_⟩:=uT (n:=0) (args:=[]) hM (Int.le_refl 0) hu (by simp[hp]);refine⟨⟨Int.le_refl 0,by show(0:Int)<=6;omega⟩,by simp[fm],fun _=>by simp[fm],fun k f hk=>?_,fun k f g hk hk'=>?_⟩
 ·have:=(Gg.1 hk).1
  simp[fm]at this;subst this;simp[fm]at hk;rw[<-hk];exact hf
 ·have:=(Gg.1 hk').1
  simp[fm]at this
theorem CJ {q':Option Bool} {e:List TV} {x:TV} {m:DMod} {inputs:List Int} {fuel:Nat} (hm:RMod (some false) e m) (hM:cB m) (hx:RWords q' x inputs) (hfu:fuel<=4294967295) :
  ∃e2,ai prog 37 [.agg e,x,I (fuel:Int)] (.agg e2)/\RMach e2 (lJ m (fm m inputs) fuel):=by
 obtain⟨e1,hr1,h1⟩:=rMNew hm hM hx;have hm':=hm;obtain⟨y,rfl,hy⟩:=hm;have loop:∀d k (s:DMach) (g i v:TV),k+d=fuel->RL none 5 (RFrame none) g s.stack->RWords none i s.inputs->RInts none v s.events->s.ok->db m s->s.events.length<=k ->
   ∃e2,aa prog 37 (f37_0 (I (fuel:Int)) (I (k:Int)) y (W (s.c 0)) (W (s.c 1)) (W (s.c 2)) (W (s.c 3)) (W (s.c 4)) (W (s.c 5)) (W (s.c 6)) (W (s.c 7)) (W (s.c 8)) (W (s.c 9)) (W (s.c 10)) (W (s.c 11)) (W (s.c 12)) (W (s.c 13)) (W (s.c 14)) (W (s.c 15)) (I s.done) (W s.value) g TV.hole TV.hole TV.hole TV.hole TV.hole TV.hole TV.hole TV.hole TV.hole TV.hole TV.hole TV.hole TV.hole TV.hole TV.hole TV.hole i v TV.hole TV.hole) (.agg e2)/\RMach e2 (lJ m s d):=by
  intro d;induction d with
  | zero =>
   intro k s g i v hk hg hi hv ho hQ hev;have hk:k=fuel:=by omega
   subst hk;refine⟨_,?_,⟨g,i,v,rfl,hg,hi,hv,ho⟩⟩;unfold f37_0;refine aa.tv rfl (aa.ite aO nofun fun _=>?_);exact aa.ret
  | succ d ih =>
   intro k s g i v hk hg hi hv ho hQ hev;have hlt:k<fuel:=by omega
   by_cases hd:s.done=0;rotate_left
   ·have hT:lJ m s (d+1)=s:=by simp[lJ,hd]
    rw[hT];refine⟨_,?_,⟨g,i,v,rfl,hg,hi,hv,ho⟩⟩;unfold f37_0;refine aa.tv rfl (aa.ite (aP hlt) (fun _=>?_) nofun);refine aa.tv rfl (aa.ite rfl (fun h=>?_) fun _=>aa.ret);simp at h;exact absurd h hd
   ·have hT:lJ m s (d+1)=lJ m (aI m s) d:=by simp[lJ,hd]
    rw[hT];obtain⟨e3,hr3,h3⟩:=rStep hm' hM (RMach.frz' hg hi hv ho) hQ (by omega);have hQ3:=tf hM hQ;have hev3:(aI m s).events.length<=k+1:=by
     rcases xi (m:=m) (s:=s)with h|⟨a,h⟩<;>rw[h]
     ·omega
     ·simp;omega
    generalize aI m s=s3 at h3 hQ3 hev3;obtain⟨g3,i3,v3,rfl,hg3,hi3,hv3,ho3⟩:=h3;obtain⟨e2,hr2,h2⟩:=ih (k+1) s3 g3 i3 v3 (by omega) hg3 hi3 hv3 ho3 hQ3 hev3;refine⟨e2,?_,h2⟩;unfold f37_0;refine aa.tv rfl (aa.ite (aP hlt) (fun _=>?_) nofun);refine aa.tv rfl (aa.ite rfl (fun _=>?_) fun h=>?_);rotate_left
    ·simp at h;exact absurd hd h
    exact aa.call hr3 (aa.chk (bD hg3.isSl hi3.isSl hv3.isSl) (aa.tv (inc hlt (by omega)) (f37_0_J hr2)))
 have hQ:=tn (inputs:=inputs) hM;have hev:(fm m inputs).events.length<=0:=by simp[fm]
 generalize fm m inputs=s at h1 hQ hev;obtain⟨g,i,v,rfl,hg,hi,hv,ho⟩:=h1;obtain⟨e2,hr2,h2⟩:=loop fuel 0 s g i v (by omega) hg hi hv ho hQ hev;refine⟨e2,?_,h2⟩;refine ai.of (f37_MR _ _ _) ?_;unfold f37_M;exact aa.chk rfl (aa.call hr1 (aa.chk (bD hg.isSl hi.isSl hv.isSl) (f37_0_J hr2)))
end Go.Ab.C14
end
section
set_option maxRecDepth 10000
namespace Go.Ab
end Go.Ab
namespace Go.Ab.C14
open Go Go.Ab Go.Proofs
theorem rSmall {q q':Option Bool} {e:List TV} {x:TV} {m:DMod} {l:List Int} (hm:RMod q e m) (hx:RWords q' x l):∃b,ai prog 15 [.agg e,x] (B b)/\(b=true->ib m/\l.length<=30):=by
 obtain⟨b,hr,hb⟩:=r7 hm;obtain⟨y,rfl,hy⟩:=hm;cases b with
 | false =>
  refine⟨false,?_,nofun⟩;refine ai.of (f15_MR _ _) ?_;unfold f15_M;exact aa.chk rfl (aa.call hr (aa.chk rfl (aa.ite rfl nofun fun _=>aa.ret)))
 | true =>
  refine⟨decide ((l.length:Int)<=30),?_,fun h=>⟨hb rfl,by simp at h;omega⟩⟩;refine ai.of (f15_MR _ _) ?_;unfold f15_M;exact aa.chk rfl (aa.call hr (aa.chk rfl (aa.ite rfl (fun _=>aa.tv hx.len (aa.tv rfl aa.ret)) nofun)))
end Go.Ab.C14
end
section
set_option maxRecDepth 10000
namespace Go.Ab
theorem RMach.fit {e:List TV} {s:DMach} (h:RMach e s):(Bool.and ((TV.agg e).isAgg 21) (ab EC ((TV.agg e).cellsL true) 0))=true:=by
 obtain⟨g,i,v,rfl,hg,hi,hv,ho⟩:=h;exact bD hg.isSl hi.isSl hv.isSl
end Go.Ab
namespace Go.Ab.C14
open Go Go.Ab Go.Proofs
end Go.Ab.C14
end
section
set_option maxRecDepth 10000
namespace Go.Ab
theorem Db {a:Int} (h0:0<=a) (h:a<=255):pconv (.int .i64) (.lit (.int .u8 a))=some (I a):=by
 simp only[pconv];rw[IntKind.wrap_i64];congr 3;omega
end Go.Ab
namespace Go.Ab.C14
open Go Go.Ab Go.Proofs
end Go.Ab.C14
end
section
set_option maxRecDepth 10000
namespace Go.Ab
theorem nS (m:DMod) (s:DMach) (n:Int) (l:List Int):(bN m s n l).events=s.events/\(bN m s n l).cells=s.cells:=by
 unfold bN;split
 ·exact⟨rfl,rfl⟩
 ·split<;>exact⟨rfl,rfl⟩
theorem nF (m:DMod) (s:DMach) (w:Int):(bR m s w).events=s.events/\(bR m s w).cells=s.cells:=by
 unfold bR;split
 ·split
  ·exact⟨rfl,rfl⟩
  ·split<;>exact⟨rfl,rfl⟩
 ·exact⟨rfl,rfl⟩
theorem tp (m:DMod) (s:DMach) (w:Int):(aN m s w).events=s.events/\(aN m s w).cells=s.cells:=by
 unfold aN;split
 ·exact⟨rfl,rfl⟩
 split
 ·exact⟨rfl,rfl⟩
 split
 ·exact⟨rfl,rfl⟩
 split
 ·exact⟨rfl,rfl⟩
 split<;>exact⟨rfl,rfl⟩
theorem nX {P:Nat->Prop}:∀{n k:Nat},dY P n=some k->P k/\k<n:=by
 intro n;induction n with
 | zero=>intro k h;cases h
 | succ n ih =>
  intro k h;unfold dY at h;split at h
  ·cases h;exact⟨by assumption,by omega⟩
  ·have:=ih h
   exact⟨this.1,by omega⟩
def lu (s t:DMach):Prop:=s.events=t.events/\s.done=t.done/\s.value=t.value
def wN (A B:Nat->DMach) (fuel times:Nat):Prop :=
 (¬(A fuel).done=0->lu (A fuel) (B (fuel*times))) /\
 ((A fuel).done = 0 → (A fuel).events <+: (B (fuel * times)).events ∧
  (¬(B (fuel*times)).done=0/\¬(A (fuel*20)).done=0->lu (B (fuel*times)) (A (fuel*20))) /\
  (¬(¬(B (fuel*times)).done=0/\¬(A (fuel*20)).done=0)->(B (fuel*times)).events <+: (A (fuel*20)).events\/(A (fuel*20)).done=0/\(A (fuel*20)).events <+: (B (fuel*times)).events))
def nH (A:Nat->DMach):Prop:=(∀k,(A k).events <+: (A (k+1)).events)/\∀k,¬(A k).done=0->A (k+1)=A k
theorem nH.le {A:Nat->DMach} (h:nH A) {j k:Nat} (hjk:j<=k):(A j).events <+: (A k).events:=by
 induction hjk with
 | refl=>exact List.prefix_refl _
 | step _ ih=>exact ih.trans (h.1 _)
theorem nH.stop {A:Nat->DMach} (h:nH A) {j k:Nat} (hjk:j<=k) (hd:¬(A j).done=0):A k=A j:=by
 induction hjk with
 | refl=>rfl
 | step _ ih=>rw[h.2 _ (by rw[ih];exact hd),ih]
theorem nH.both {A:Nat->DMach} (h:nH A) {j k:Nat} (hj:¬(A j).done=0) (hk:¬(A k).done=0):A j=A k:=by
 rcases Nat.le_total j k with e|e
 ·exact(h.stop e hj).symm
 ·exact h.stop e hk
theorem CD {A B:Nat->DMach} (hA:nH A) (hB:nH B) {times:Nat} (h1:∀k,∃j,j<=k*times/\lu (A k) (B j)) (h2:∀j,∃k,lu (B j) (A k)) (fuel:Nat):wN A B fuel times:=by
 obtain⟨j,hj,e1,e2,e3⟩:=h1 fuel;refine⟨fun hd=>?_,fun hd=>⟨?_,fun⟨hb,ha⟩=>?_,fun hn=>?_⟩⟩
 ·rw[hB.stop hj (by rw[<-e2];exact hd)]
  exact⟨e1,e2,e3⟩
 ·rw[e1];exact hB.le hj
 ·obtain⟨k,g1,g2,g3⟩:=h2 (fuel*times)
  rw[hA.both ha (by rw[<-g2];exact hb:¬(A k).done=0)];exact⟨g1,g2,g3⟩
 ·obtain⟨k,g1,g2,g3⟩:=h2 (fuel*times)
  rw[g1];rcases Nat.le_total k (fuel*20)with e|e
  ·exact .inl (hA.le e)
  ·by_cases hd:(A (fuel*20)).done=0
   ·exact .inr ⟨hd,hA.le e⟩
   ·rw[hA.stop e hd]
    exact .inl (List.prefix_refl _)
theorem jE {m:DMod} {s:DMach} (h:¬s.done=0):aI m s=s:=by
 unfold aI;rw[if_pos h]
theorem Cm (m:DMod) (s:DMach):s.events <+: (aI m s).events:=by
 have keep:∀{t:DMach},t.events=s.events->s.events <+: t.events:=fun h=>by rw[h];exact List.prefix_refl _
 unfold aI;split
 ·exact keep rfl
 split
 ·exact keep rfl
 split
 ·exact keep rfl
 split
 ·split
  ·exact keep (tp m s _).1
  split
  ·exact keep (nS m s _ _).1
  split
  ·exact keep (nF m s _).1
  split
  ·exact keep (nF m s _).1
  split<;>exact keep rfl
 ·split
  ·exact keep rfl
  unfold fG;split
  ·exact keep (nS m s _ _).1
  split
  ·split<;>exact keep rfl
  split
  ·split<;>exact keep rfl
  split
  ·split<;>exact keep rfl
  split
  ·exact List.prefix_append _ _
  ·split
   ·exact keep rfl
   ·exact List.prefix_append _ _
noncomputable def bL (m:DMod) (s:DMach):Nat->DMach
 | 0=>s
 | k+1=>aI m (bL m s k)
theorem vH (m:DMod) (s:DMach):nH (bL m s):=⟨fun k=>Cm m _,fun k h=>jE h⟩
theorem xb (m:DMod) (s:DMach) (k:Nat):bL m s (k+1)=bL m (aI m s) k:=by
 induction k with
 | zero=>rfl
 | succ k ih=>show aI m (bL m s (k+1))=_;rw[ih];rfl
theorem vC (m:DMod):∀(k:Nat) (s:DMach),lJ m s k=bL m s k:=by
 intro k;induction k with
 | zero=>intro s;rfl
 | succ k ih =>
  intro s;rw[xb];unfold lJ;by_cases hd:s.done=0
  ·rw[if_pos hd,ih]
  ·rw[if_neg hd,jE hd]
   have:∀k,bL m s k=s:=fun k=>by
    induction k with
    | zero=>rfl
    | succ k ih2=>show aI m (bL m s k)=s;rw[ih2,jE hd]
   rw[this]
end Go.Ab
namespace Go.Ab.C14
open Go Go.Ab Go.Proofs
theorem D7 {m n:DMod} (hM:cB m) (h:∀u,m.funcs[0]? = some u->∃u',n.funcs[0]? = some u'/\u'.params=u.params/\u'.regs=u.regs) (l:List Int):fm n l=fm m l:=by
 obtain⟨u,hu,hp⟩:=hM.2.1;obtain⟨u',hu',hp',hr⟩:=h u hu;simp[fm,il,hu,hu',hp,hp',hr]
end Go.Ab.C14
end
section
set_option maxRecDepth 10000
namespace Go.Ab.C14
open Go Go.Ab Go.Proofs
theorem r16 {e:List TV} {m:DMod} (he:RMod (some false) e m) (hs:ib m):∃e',ai prog 8 [.agg e] (.agg e')/\RMod (some true) e' m:=by
 obtain⟨x,rfl,hx⟩:=he;obtain⟨hs1,hs2⟩:=hs;obtain⟨x',h26,hx'⟩:=r26 hx (by omega);have outer : ∀ d k w, k + d = m.funcs.length → RP 3 (fun j e f => RFunc (if j < k then some true else some false) e f) w m.funcs → ∃ w', aa prog 8 (f8_0 (I m.funcs.length) (I k) w) (.agg [w']) ∧ RL (some true) 3 (RFunc (some true)) w' m.funcs := by
  intro d;induction d with
  | zero =>
   intro k w hk hw;have hk:k=m.funcs.length:=by omega
   subst hk;have hw':RL (some true) 3 (RFunc (some true)) w m.funcs:=hw.FH fun i e a hi h=>by simpa[hi]using h
   refine⟨w,?_,hw'⟩;unfold f8_0;refine aa.tv rfl (aa.ite aO nofun fun _=>?_);exact aa.chk (by simp[isOwn,bF,hw'.own fun _ _ h=>h.own]) aa.ret
  | succ d ih =>
   intro k w hk hw;have hkb:k<m.funcs.length:=by omega
   have ha:m.funcs[k]? = some m.funcs[k]:=Gi hkb;obtain⟨e,he,hr,hget,hset⟩:=hw.row ha;simp only[Nat.lt_irrefl,if_false]at hr;obtain⟨hsf1,hsf2⟩:=hs2 k hkb _ ha;generalize hu:m.funcs[k]=f at *;obtain⟨v,rfl,hv,hok⟩:=hr;obtain⟨v',h27,hv'⟩:=r27 hv (by omega);have hbk:(k:Nat)<=9223372036854775807:=by omega
   have hlt:(Nat.blt k m.funcs.length)=true:=by simpa using hkb
   have inner:∀d j y,j+d=f.blocks.length->RP 14 (fun t e b=>RBlock (if t<j then some true else some false) e b) y f.blocks->∃w',aa prog 8 (f8_1 (I k) (I m.funcs.length) (I k) (I f.blocks.length) (I j) w y) (.agg [w'])/\RL (some true) 3 (RFunc (some true)) w' m.funcs:=by
    intro d;induction d with
    | zero =>
     intro j y hj hy;have hj:j=f.blocks.length:=by omega
     subst hj;have hy':RL (some true) 14 (RBlock (some true)) y f.blocks:=hy.FH fun i e a hi h=>by simpa[hi]using h
     have hw2:=hw.set (S:=fun j e x=>RFunc (if j<k+1 then some true else some false) e x) ha (e:=[I f.params,I f.regs,y]) (by simp;exact⟨y,rfl,hy',hok⟩) (fun j e c hj h=>by
      by_cases hjk:j<k
      ·simpa[hjk,show j<k+1 by omega]using h
      ·simpa[hjk,show ¬j<k+1 by omega]using h)
     obtain⟨w',hw',hrl⟩:=ih (k+1) _ (by omega) hw2;refine⟨w',?_,hrl⟩;unfold f8_1;refine aa.tv rfl (aa.ite aO nofun fun _=>?_);refine f8_2_J ?_;unfold f8_2;refine aa.nat hw.slLen (aa.nat (bg hbk) (aa.chk (by rw[hw.slSize,hlt];rfl) (aa.tvs he (aa.chk (by simp[cK,ab,zSl,aD,hv.isSl,hy'.isSl]) (aa.tv (hset 2 [y]) (aa.tv (inc hkb hx.bnd) (f8_0_J hw')))))))
    | succ d ihi =>
     intro j y hj hy;have hjb:j<f.blocks.length:=by omega
     have hab:f.blocks[j]? = some f.blocks[j]:=Gi hjb;obtain⟨e2,he2,hr2,hget2,hset2⟩:=hy.row hab;simp only[Nat.lt_irrefl,if_false]at hr2;have hsb:=hsf2 j hjb _ hab;generalize f.blocks[j]=b at *;obtain⟨e3,h28,hr3⟩:=r28 hr2.frz hsb;obtain⟨c,i,g,rfl,hc,hd,hi,hg,ho⟩:=hr2;have hr4:=hr3;obtain⟨c',i',g',rfl,hc',hd',hi',hg',ho'⟩:=hr3;have hy2:=hy.set (S:=fun t e b=>RBlock (if t<j+1 then some true else some false) e b) hab (e:=[B b.landing,I b.pad.dst,c',B b.pad.all,B b.pad.cleanup,i',I b.fin.kind,I b.fin.a,I b.fin.dst,I b.fin.f,g',I b.fin.to,I b.fin.els,I b.fin.pad]) (by simp;exact hr4) (fun t e c ht h=>by
      by_cases htj:t<j
      ·simpa[htj,show t<j+1 by omega]using h
      ·simpa[htj,show ¬t<j+1 by omega]using h)
     obtain⟨w',hw',hrl⟩:=ihi (j+1) _ (by omega) hy2;refine⟨w',?_,hrl⟩;have hltb:(Nat.blt j f.blocks.length)=true:=by simpa using hjb
     have hf1:ab dv [B b.landing,I b.pad.dst,c,B b.pad.all,B b.pad.cleanup,i,I b.fin.kind,I b.fin.a,I b.fin.dst,I b.fin.f,g,I b.fin.to,I b.fin.els,I b.fin.pad] 0=true:=by
      simp[ab,dv,aD,TV.isSc,scV,hc.isSl,hi.isSl,hg.isSl]
     have hf2:ab dv [B b.landing,I b.pad.dst,c',B b.pad.all,B b.pad.cleanup,i',I b.fin.kind,I b.fin.a,I b.fin.dst,I b.fin.f,g',I b.fin.to,I b.fin.els,I b.fin.pad] 0=true:=by
      simp[ab,dv,aD,TV.isSc,scV,hc'.isSl,hi'.isSl,hg'.isSl]
     unfold f8_1;refine aa.tv rfl (aa.ite (aP hjb) (fun _=>?_) nofun);refine aa.nat hy.slLen (aa.nat (bg (by omega)) (aa.chk (by rw[hy.slSize,hltb];rfl) (aa.tvs he2 (aa.chk hf1 (aa.tv (hget2 2 c rfl) (aa.tv (hget2 5 i rfl) (aa.tv (hget2 10 g rfl) (aa.call h28 (aa.chk hf2 ?_)))))))));refine aa.nat hy.slLen (aa.nat (bg (by omega)) (aa.chk (by rw[hy.slSize,hltb];rfl) (aa.tvs he2 (aa.chk (by rw[uY hf1];exact hf2) (aa.tv (hset2 0 _) (aa.tv (inc hjb (by omega)) (f8_1_J hw')))))))
   obtain⟨w',hw',hrl⟩:=inner f.blocks.length 0 v' (by omega) (hv'.FG fun i e a h=>by simpa using h);refine⟨w',?_,hrl⟩;unfold f8_0;refine aa.tv rfl (aa.ite (aP hkb) (fun _=>?_) nofun);refine aa.nat hw.slLen (aa.nat (bg hbk) (aa.chk (by rw[hw.slSize,hlt];rfl) (aa.tvs he (aa.chk (by simp[cK,ab,zSl,aD,hv.isSl]) (aa.tv (hget 2 v rfl) (aa.chk hv.gx (aa.call h27 (aa.chk (by simp[ab,zSl,aD,hv'.isSl]) (aa.tv hv'.len (f8_1_J hw'))))))))))
 obtain⟨w',hw',hrl⟩:=outer m.funcs.length 0 x' (by omega) (hx'.FG fun i e a h=>by simpa using h);refine⟨_,?_,⟨w',rfl,hrl⟩⟩;refine ai.of (f8_MR _) ?_;unfold f8_M;exact aa.chk rfl (aa.call h26 (aa.chk (by simp[cK,ab,zSl,aD,hx'.isSl]) (aa.tv hx'.len (f8_0_J hw'))))
end Go.Ab.C14
end
section
set_option maxRecDepth 10000
namespace Go.Ab
theorem xC:∀(p:Way) (k j:Nat) (x y:TV),a7 p x=some y->a7 (p ++ [(k,j)]) x=a7 [(k,j)] y
 | [],k,j,x,y,h=>by simp[a7]at h;subst h;rfl
 | (a, b) :: p, k, j, x, y, h => by
  cases x with
  | sl o s xs =>
   simp only[a7,List.cons_append]at h ⊢;cases hx:xs[a]? with
   | none=>simp[hx]at h
   | some e =>
    simp only[hx]at h ⊢;cases he:e[b]? with
    | none=>simp[he]at h
    | some z =>
     simp only[he]at h ⊢;exact xC p k j z y h
  | _=>simp[a7]at h
section
variable {α β:Type} {p:Way} {w y:TV} {s:Nat} {R:List TV->α->Prop} {Q:TV->β->Prop} {G:List α->DMod} {l:List α}
theorem RL.at (hy:RL (some true) s R y l) {k:Nat} {e:List TV} (he:Go.Ab.pel y k=some e):∃xs,y=.sl true s xs/\xs[k]? = some e/\F2 R xs l/\xs.length<=9223372036854775807:=by
 rcases hy with⟨rfl,rfl⟩|⟨o,xs,rfl,hq,h,hb⟩
 ·simp[Go.Ab.pel]at he
 ·have:o=true:=hq true rfl
  subst this;exact⟨xs,rfl,he,h,hb⟩
end
end Go.Ab
namespace Go.Ab.C14
open Go Go.Ab Go.Proofs
end Go.Ab.C14
end
section
set_option maxRecDepth 10000
namespace Go.Ab
section
variable {α:Type} {s:Nat} {R:List TV->α->Prop} {y:TV} {l:List α}
theorem RL.Ge (hy:RL (some true) s R y l) {i:Nat} {e:List TV} (he:Go.Ab.pel y i=some e) {d:Nat} {ys:List TV} {a:α} (hR:R (bH e d ys) a):∃y',ja [] y i d ys=some y'/\RL (some true) s R y' (l.set i a):=by
 obtain⟨xs,rfl,hk,hf,hb⟩:=hy.at he;refine⟨.sl true s (ak xs i (bH e d ys)),by simp only[ja,a7,ux,hk,ix],.sl (by simp) (hf.set hR) (by rw[cF];exact hb)⟩
theorem RL.app (hy:RL (some true) s R y l) {e:List TV} {a:α} (hR:R e a) (hl:l.length+1<=4294967296):∃y',papp s y [e]=some y'/\RL (some true) s R y' (l ++ [a]):=by
 rcases hy with⟨rfl,rfl⟩|⟨o,xs,rfl,hq,h,hb⟩
 ·refine⟨.sl true s [e],by simp[papp,a9,room,BI],.sl (by simp) (.cons hR .nil) (by simp)⟩
 ·have:o=true:=hq true rfl
  subst this;have hxl:=h.length;refine⟨.sl true s (xs ++ [e]),?_,.sl (by simp) (h.append (.cons hR .nil)) (by simp;omega)⟩;simp[papp,room];omega
end
end Go.Ab
namespace Go.Ab.C14
open Go Go.Ab Go.Proofs
end Go.Ab.C14
end
section
set_option maxRecDepth 10000
namespace Go.Ab
inductive Thr (m:DMod):Nat->Prop
 | thr {n i:Nat} {u:DFunc} {b:DBlock} (hu:m.funcs[n]? = some u) (hb:u.blocks[i]? = some b) (h:b.fin.kind=5\/b.fin.kind=6):Thr m n
 | inv {n i:Nat} {u:DFunc} {b pb:DBlock} (hu:m.funcs[n]? = some u) (hb:u.blocks[i]? = some b) (h:b.fin.kind=4) (hp:u.blocks[b.fin.pad.toNat]? = some pb) (ha:pb.pad.all=false) (ht:Thr m b.fin.f.toNat):Thr m n
 | call {n i k:Nat} {u:DFunc} {b:DBlock} {x:DIns} (hu:m.funcs[n]? = some u) (hb:u.blocks[i]? = some b) (hx:b.ins[k]? = some x) (h:x.op=11) (ht:Thr m x.f.toNat):Thr m n
def s7 (F:List Bool) (b:DBlock):Prop:=∃x∈b.ins,x.op=11/\F[x.f.toNat]? = some true
def invD (F:List Bool) (b:DBlock):Prop:=b.fin.kind=4/\F[b.fin.f.toNat]? = some true
def zR (F:List Bool) (u:DFunc) (b:DBlock):Prop:=(b.fin.kind=5\/b.fin.kind=6)\/s7 F b\/(invD F b/\∃pb,u.blocks[b.fin.pad.toNat]? = some pb/\pb.pad.all=false)
def xE (X:Nat->Prop) (F:List Bool):Prop:=∀k:Nat,F[k]? = some true->X k
def tL (D:List Bool->DFunc->DBlock->Prop) (F:List Bool) (u:DFunc):Prop:=∃b∈u.blocks,D F u b
def ClsL (m:DMod) (D:List Bool->DFunc->DBlock->Prop) (F:List Bool):Prop:=∀(n:Nat) u,m.funcs[n]? = some u->tL D F u->F[n]? = some true
structure yS (m:DMod) (D:List Bool->DFunc->DBlock->Prop) (X:Nat->Prop):Prop where
 up:∀F,xE X F->∀(n:Nat) u,m.funcs[n]? = some u->tL D F u->X n
 dn:∀F,ClsL m D F->∀n,X n->F[n]? = some true
theorem Bv {m:DMod} {X:Nat->Prop} {F:List Bool} {b:DBlock} (h:xE X F) (hc:s7 F b):∃(k:Nat) (x:DIns),b.ins[k]? = some x/\x.op=11/\X x.f.toNat:=by
 obtain⟨x,hx,h11,hF⟩:=hc;obtain⟨k,hk,rfl⟩:=List.mem_iff_getElem.1 hx;exact⟨k,_,Gi hk,h11,h _ hF⟩
theorem Cp (m:DMod):yS m zR (Thr m):=by
 refine⟨fun F hs n u hu ⟨b,hb,h⟩=>?_,fun F hc n h=>?_⟩
 ·obtain⟨i,hi,rfl⟩:=List.mem_iff_getElem.1 hb
  have hbi:=Gi hi;rcases h with h|h|⟨⟨h4,hF⟩,pb,hp,ha⟩
  ·exact .thr hu hbi h
  ·obtain⟨k,x,hx,h11,ht⟩:=Bv (m:=m) hs h
   exact .call hu hbi hx h11 ht
  ·exact .inv hu hbi h4 hp ha (hs _ hF)
 ·induction h with
  | thr hu hb h=>exact hc _ _ hu ⟨_,Gr hb,.inl h⟩
  | inv hu hb h hp ha _ ih=>exact hc _ _ hu ⟨_,Gr hb,.inr (.inr ⟨⟨h,ih⟩,_,hp,ha⟩)⟩
  | call hu hb hx h _ ih=>exact hc _ _ hu ⟨_,Gr hb,.inr (.inl ⟨_,Gr hx,h,ih⟩)⟩
theorem mB (x:TV):ut x x=true:=by
 unfold ut;exact Bool.or_eq_true _ _ |>.mpr (.inr (@decide_eq_true _ (Classical.propDecidable _) rfl))
theorem E1 {M:List Bool} {g:Nat} (h:M[g]? = some false):(M.set g true).count false+1=M.count false:=by
 obtain⟨hlt,hg⟩:=Gg.1 h;have hpos:0<M.count false:=List.count_pos_iff.2 (Gr h);rw[List.count_set hlt];simp[hg];omega
structure wE (m:DMod) (D:List Bool->DFunc->DBlock->Prop) (X:Nat->Prop) (F0 F:List Bool) (g:Bool) (n:Nat):Prop where
 len:F.length=m.funcs.length
 snd:xE X F
 no:g=false->F=F0/\∀(k:Nat) u,k<n->m.funcs[k]? = some u->tL D F u->F[k]? = some true
 yes:g=true->F.count false<F0.count false
theorem wE.start {m:DMod} {D:List Bool->DFunc->DBlock->Prop} {X:Nat->Prop} {F:List Bool} (hl:F.length=m.funcs.length) (hs:xE X F):wE m D X F F false 0 :=
 ⟨hl,hs,fun _=>⟨rfl,fun k u h=>absurd h (Nat.not_lt_zero _)⟩,nofun⟩
theorem wE.hit {m:DMod} {D:List Bool->DFunc->DBlock->Prop} {X:Nat->Prop} {F0 F:List Bool} {g:Bool} {n:Nat} {u:DFunc} (hX:yS m D X) (h:wE m D X F0 F g n) (hn:F[n]? = some false) (hu:m.funcs[n]? = some u) (hh:tL D F u):wE m D X F0 (F.set n true) true (n+1):=by
 have hlt:=(Gg.1 hn).1;refine⟨by rw[List.length_set];exact h.len,fun k hk=>?_,nofun,fun _=>?_⟩
 ·by_cases e:k=n
  ·subst e;exact hX.up F h.snd _ u hu hh
  ·rw[List.getElem?_set_ne (Ne.symm e)]at hk
   exact h.snd k hk
 ·have:=E1 hn
  cases g with
  | true=>have:=h.yes rfl;omega
  | false=>have:=(h.no rfl).1;subst this;omega
theorem wE.miss {m:DMod} {D:List Bool->DFunc->DBlock->Prop} {X:Nat->Prop} {F0 F:List Bool} {g:Bool} {n:Nat} (h:wE m D X F0 F g n) (hn:F[n]? = some true\/∀u,m.funcs[n]? = some u->¬tL D F u):wE m D X F0 F g (n+1):=by
 refine⟨h.len,h.snd,fun hg=>⟨(h.no hg).1,fun k u hk hu hh=>?_⟩,h.yes⟩;by_cases e:k=n
 ·subst e
  rcases hn with hn|hn
  ·exact hn
  ·exact absurd hh (hn u hu)
 ·exact(h.no hg).2 k u (by omega) hu hh
theorem zk {A:AProg} {f:FuncId} {m:DMod} {D:List Bool->DFunc->DBlock->Prop} {X:Nat->Prop} (hX:yS m D X) {P0:Bool->TV->Prg TV} {P1:Bool->Nat->TV->Prg TV}
  (h0t:∀w y,aa A f (P1 false 0 w) y->aa A f (P0 true w) y)
  (h0f:∀w F,RBools (some true) w F->aa A f (P0 false w) w)
  (h1e:∀g w y,aa A f (P0 g w) y->aa A f (P1 g m.funcs.length w) y)
  (h1s : ∀ g n w F c u y, F.length = m.funcs.length → RBools (some true) w F → F[n]? = some c → m.funcs[n]? = some u →
   ((c=true\/¬tL D F u)->aa A f (P1 g (n+1) w) y)->(∀w',ja [] w n 0 [B true]=some w'->c=false->tL D F u->aa A f (P1 true (n+1) w') y)->aa A f (P1 g n w) y) :
  ∀(d:Nat) (F:List Bool) (w:TV),F.count false<=d->F.length=m.funcs.length->xE X F->RBools (some true) w F ->
   ∃y F',aa A f (P0 true w) y/\RBools (some true) y F'/\F'.length=m.funcs.length/\∀k:Nat,F'[k]? = some true ↔ X k:=by
 have fin:∀{w F},F.length=m.funcs.length->xE X F->ClsL m D F->RBools (some true) w F->∃y F',aa A f (P0 false w) y/\RBools (some true) y F'/\F'.length=m.funcs.length/\∀k:Nat,F'[k]? = some true ↔ X k :=
  fun hl hs hc hw=>⟨_,_,h0f _ _ hw,hw,hl,fun k=>⟨hs k,hX.dn _ hc k⟩⟩
 have row:∀(F0:List Bool) (K:∀F w,F.count false<F0.count false->F.length=m.funcs.length->xE X F->RBools (some true) w F->∃y F',aa A f (P0 true w) y/\RBools (some true) y F'/\F'.length=m.funcs.length/\∀k:Nat,F'[k]? = some true ↔ X k),
   ∀(d n:Nat) (F:List Bool) (g:Bool) (w:TV),n+d=m.funcs.length->wE m D X F0 F g n->RBools (some true) w F->∃y F',aa A f (P1 g n w) y/\RBools (some true) y F'/\F'.length=m.funcs.length/\∀k:Nat,F'[k]? = some true ↔ X k:=by
  intro F0 K d;induction d with
  | zero =>
   intro n F g w hn hr hw;have hn:n=m.funcs.length:=by omega
   subst hn;cases g with
   | true =>
    obtain⟨y,F',h1,h2⟩:=K F w (hr.yes rfl) hr.len hr.snd hw;exact⟨y,F',h1e _ _ _ h1,h2⟩
   | false =>
    obtain⟨y,F',h1,h2⟩:=fin hr.len hr.snd (fun k u hu hh=>(hr.no rfl).2 k u (Gg.1 hu).1 hu hh) hw;exact⟨y,F',h1e _ _ _ h1,h2⟩
  | succ d ih =>
   intro n F g w hn hr hw;have hlt:n<m.funcs.length:=by omega
   have hu:=Gi hlt;have hc:F[n]? = some (F[n]'(by rw[hr.len];exact hlt)):=Gi _;generalize m.funcs[n]=u at hu;generalize F[n]'(by rw[hr.len];exact hlt)=c at hc;by_cases hm:c=true\/¬tL D F u
   ·obtain⟨y,F',h1,h2⟩:=ih (n+1) F g w (by omega) (hr.miss (hm.imp (fun e=>by rw[hc,e]) fun h v hv=>by rw[hu]at hv;cases hv;exact h)) hw
    exact⟨y,F',h1s g n w F c u y hr.len hw hc hu (fun _=>h1) (fun w' _ e hh=>by
     rcases hm with h|h
     ·rw[e]at h;cases h
     ·exact absurd hh h),h2⟩
   ·have hcf:c=false:=by
     cases c with
     | false=>rfl
     | true=>exact absurd (.inl rfl) hm
    subst hcf;have hh:tL D F u:=Classical.byContradiction fun h=>hm (.inr h)
    obtain⟨e,he,hR⟩:=hw.pel hc;cases hR;obtain⟨w1,hs1,hw1⟩:=hw.Ge he (d:=0) (ys:=[B true]) (a:=true) rfl;obtain⟨y,F',h1,h2⟩:=ih (n+1) (F.set n true) true w1 (by omega) (hr.hit hX hc hu hh) hw1;refine⟨y,F',h1s g n w F false u y hr.len hw hc hu (fun h=>absurd h hm) (fun w' hs' _ _=>?_),h2⟩;rw[hs1]at hs';cases hs';exact h1
 intro d;induction d with
 | zero =>
  intro F w hd hl hs hw;obtain⟨y,F',h1,h2⟩:=row F (fun F' w' h=>by omega) m.funcs.length 0 F false w (by omega) (.start hl hs) hw;exact⟨y,F',h0t _ _ h1,h2⟩
 | succ d ih =>
  intro F w hd hl hs hw;obtain⟨y,F',h1,h2⟩:=row F (fun F' w' h hl' hs' hw'=>ih F' w' (by omega) hl' hs' hw') m.funcs.length 0 F false w (by omega) (.start hl hs) hw;exact⟨y,F',h0t _ _ h1,h2⟩
end Go.Ab
end
section
set_option maxRecDepth 10000
namespace Go.Ab
theorem ze {P:Nat->Prop}:∀{n k:Nat},dY P n=some k->∀j,k<j->j<n->¬P j:=by
 intro n;induction n with
 | zero=>intro k h;cases h
 | succ n ih =>
  intro k h j h1 h2;unfold dY at h;split at h
  ·cases h;omega
  ·rename_i hn
   by_cases e:j=n
   ·subst e;exact hn
   ·exact ih h j h1 (by omega)
end Go.Ab
namespace Go.Ab.C14
open Go Go.Ab Go.Proofs
end Go.Ab.C14
end

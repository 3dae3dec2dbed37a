import Derived.Test.YtpkpckdealhkhaaAM15
set_option linter.all false
namespace Go.Ab
open Go.RowKit
section
variable {P:Program} {E:Env} {C:Cal} {w0:Bs} {w w':World} {I0 I R:Nat->Prop} {g g':Gh} {st st':ASt} {a:Act} {ov:List Value} {look:Look} {T:Type} {J:List Nat->ASt->T->Prop} {rs:List (Nat × Nat)}
def mK:CA->Option (Nat × Nat)
 | .sref i r _=>some (i,r)
 | .swin i r _ _ _=>some (i,r)
 | _=>none
def uS (g:Gh) (look:Look) (i r b:Nat):Prop:=∃xs,look i=some (.tree xs)/\r<xs.length/\g.φ i r b
def CF (g:Gh) (look:Look) (rs:List (Nat × Nat)) (c:CA) (b:Nat):Prop:=∃i r,mK c=some (i,r)/\mH rs i r=true/\uS g look i r b
def I2 (g:Gh) (look:Look) (rs:List (Nat × Nat)) (b:Nat):Prop:=g.I b\/∃i r,mH rs i r=false/\uS g look i r b
theorem uS.foot {i r b:Nat} (h:uS g look i r b):Foot g look i b:=by
 obtain⟨xs,h1,h2,h3⟩:=h;exact .inr ⟨xs,r,h1,h2,h3⟩
theorem al.vS (hs:al w0 I0 R g st a ov w) {i r i' r' b:Nat} (h:uS g st.look i r b) (h':uS g st.look i' r' b):i=i'/\r=r':=by
 have:=hs.apart i i' b h.foot h'.foot;subst this;obtain⟨xs,h1,h2,h3⟩:=h;obtain⟨xs',h1',h2',h3'⟩:=h';rw[h1]at h1';cases h1';exact⟨rfl,hs.apartR i xs r r' b h1 h2 h2' h3 h3'⟩
theorem nk (hs:al w0 I0 R g st a ov w) {c:CA} {u:Value} {k:TV->Prg TV} {J:List Nat->ASt->TV->Prop} {e:TV} (hc:bG w g st.look c u) (h:(mJ st.look rs c k).goes C J e) :
  ∃x,(k x).goes C J e/\ap w (I2 g st.look rs) x u (CF g st.look rs c):=by
 have fin:∀{i r:Nat} {x:TV} {S:Nat->Prop} {xs:List TV},mK c=some (i,r)->st.look i=some (.tree xs)->r<xs.length->ap w g.I x u S->(∀b,S b->g.φ i r b)->(k (bif mH rs i r then x else frz x)).goes C J e ->
   ∃x,(k x).goes C J e/\ap w (I2 g st.look rs) x u (CF g st.look rs c):=by
  intro i r x S xs hr hl hrl hx hS hk;refine⟨_,hk,?_⟩;cases hp:mH rs i r with
  | true=>exact hx.mv (fun _ _=>rfl) (fun _ h=>.inl h) (fun _ _=>rfl) (fun b hb=>⟨i,r,hr,hp,xs,hl,hrl,hS b hb⟩)
  | false=>exact .fr (hx.frz (I':=I2 g st.look rs) (fun _ h=>.inl h) (fun b hb=>.inr ⟨i,r,hp,xs,hl,hrl,hS b hb⟩))
 cases c with
 | t x=>exact⟨x,h,.fr (hc.1.mv (fun _ _=>rfl) (fun _ h=>.inl h))⟩
 | sref i r p =>
  simp only[mJ,i8]at h;split at h
  ·rename_i x hx
   obtain⟨xs,h1,h2⟩:=aB hx;obtain⟨y,h3,h4⟩:=mE h;obtain⟨xs',x',nd,g1,g2,g3,g4⟩:=hc;rw[h1]at g1;cases g1;rw[h2]at g2;cases g2;obtain⟨_,S',r1,r2⟩:=hs.at h1 h2 g3 h3;exact fin rfl h1 (Gg.1 h2).1 r1 r2 h4
  ·exact h.elim
 | swin i r p lo len =>
  simp only[mJ,i8]at h;split at h
  ·rename_i x hx
   obtain⟨xs,h1,h2⟩:=aB hx;obtain⟨y,h3,z,h4,h5⟩:=mE h;obtain⟨xs',x',u0,nd,g1,g2,g3,g4,g5⟩:=hc;rw[h1]at g1;cases g1;rw[h2]at g2;cases g2;obtain⟨e1,S',r1,r2⟩:=hs.at h1 h2 g3 h3;exact fin rfl h1 (Gg.1 h2).1 (dG r1 e1 g5 h4) r2 h5
  ·exact h.elim
 | _=>exact h.elim
theorem tQ (hs:al w0 I0 R g st a ov w) {J:List Nat->ASt->TV->Prop}:∀{cs:List CA} {us:List Value} {k:List TV->Prg TV} {e:TV},CR w g st.look cs us->(Bd st.look rs cs k).goes C J e ->
  ∃ys,(k ys).goes C J e/\ys.length=cs.length/\∀(m:Nat) (c:CA) (y:TV) (u:Value),cs[m]? = some c->ys[m]? = some y->us[m]? = some u->ap w (I2 g st.look rs) y u (CF g st.look rs c)
 | [],us,k,e,hcr,h=>⟨[],h,rfl,fun m c y u hc=>by simp at hc⟩
 | c :: l, us, k, e, hcr, h => by
  obtain⟨u0,us',rfl⟩:∃u0 us',us=u0::us':=by
   cases us with
   | nil=>have:=hcr.1;simp at this
   | cons u0 us'=>exact⟨u0,us',rfl⟩
  have hc:=hcr.2 0 c u0 rfl rfl;have hcr':CR w g st.look l us':=⟨by have:=hcr.1;simpa using this,fun j c' u hc' hu'=>hcr.2 (j+1) c' u (by simpa using hc') (by simpa using hu')⟩;obtain⟨y,h1,h2⟩:=nk hs hc.1 h;obtain⟨ys,h3,h4,h5⟩:=tQ hs hcr' h1;refine⟨y::ys,h3,by simp[h4],fun m c' y' u hc' hy hu=>?_⟩;cases m with
  | zero=>simp at hc' hy hu;subst hc' hy hu;exact h2
  | succ m=>simp at hc' hy hu;exact h5 m c' y' u hc' hy hu
theorem bq (i r:Nat):∀(l l':List (Nat × Nat)),cN i r (l++l')=cN i r l+cN i r l'
 | [],l'=>by simp[cN]
 | (p,q)::l,l'=>by
  simp only[List.cons_append,cN,bq i r l l'];cases p.beq i&&q.beq r<;>simp<;>omega
theorem gU (c:CA) (l:List CA):dX (c::l)=dX [c]++dX l:=by cases c<;>rfl
theorem pE {i r:Nat} {c:CA} (h:mK c=some (i,r)):cN i r (dX [c])=1:=by
 cases c<;>simp[mK]at h<;>obtain⟨rfl,rfl⟩:=h<;>simp[dX,cN]
theorem j4 {i r:Nat} {c:CA} (h:mK c=some (i,r)):∀{cs:List CA} {m:Nat},cs[m]? = some c->1<=cN i r (dX cs)
 | [],m,hm=>by simp at hm
 | d::cs,0,hm=>by
  simp at hm;subst hm;rw[gU,bq,pE h];omega
 | d::cs,m+1,hm=>by
  rw[gU,bq];have:=j4 h (cs:=cs) (m:=m) (by simpa using hm);omega
theorem pi {i r:Nat} {c c':CA} (h:mK c=some (i,r)) (h':mK c'=some (i,r)):∀{cs:List CA} {m m':Nat},cs[m]? = some c->cs[m']? = some c'->m≠m'->2<=cN i r (dX cs)
 | [],m,m',hm,_,_=>by simp at hm
 | d::cs,0,0,_,_,hn=>absurd rfl hn
 | d::cs,0,m'+1,hm,hm',_=>by
  simp at hm;subst hm;rw[gU,bq,pE h];have:=j4 h' (cs:=cs) (m:=m') (by simpa using hm');omega
 | d::cs,m+1,0,hm,hm',_=>by
  simp at hm';subst hm';rw[gU,bq,pE h'];have:=j4 h (cs:=cs) (m:=m) (by simpa using hm);omega
 | d::cs,m+1,m'+1,hm,hm',hn=>by
  rw[gU,bq];have:=pi h h' (cs:=cs) (m:=m) (m':=m') (by simpa using hm) (by simpa using hm') (fun e=>hn (by rw[e]));omega
def lU:AV->List CA
 | .one c=>[c]
 | .agg cs=>cs
 | _=>[]
theorem oT (v:AV):v.Gc=dX (lU v):=by cases v<;>rfl
def VF (g:Gh) (look:Look) (rs:List (Nat × Nat)) (v:AV) (b:Nat):Prop:=∃(m:Nat) (c:CA),(lU v)[m]? = some c/\CF g look rs c b
theorem zA (hs:al w0 I0 R g st a ov w) {J:List Nat->ASt->TV->Prop} {v:AV} {u:Value} {k:TV->Prg TV} {e:TV} (hv:bM w g st.look v u) (hcnt:∀i r,cN i r (dX (lU v))<=cN i r rs) (h:(Ax st.look rs v k).goes C J e) :
  ∃x,(k x).goes C J e/\ap w (I2 g st.look rs) x u (VF g st.look rs v):=by
 cases v with
 | one c =>
  obtain⟨x,h1,h2⟩:=nk hs hv h;exact⟨x,h1,h2.mono (fun b hb=>⟨0,c,rfl,hb⟩)⟩
 | tv x=>exact⟨x,h,.fr (Rep.mv (fun _ _=>rfl) (fun _ h=>.inl h) hv)⟩
 | bl b =>
  have:u=.bool b:=hv;subst this;exact⟨_,h,.fr (.lit _)⟩
 | tups l=>exact h.elim
 | clo _ l=>exact h.elim
 | agg cs =>
  obtain⟨vs,rfl,hcr⟩:=hv;obtain⟨ys,h1,h2,h3⟩:=tQ hs hcr h;have hlen:vs.size=cs.length:=by have:=hcr.1;simpa using this
  refine⟨_,h1,.agg (fun m b=>∃c,cs[m]? = some c/\CF g st.look rs c b) (by rw[h2];exact hlen) (fun j hj=>?_) (fun j y hy=>?_) (fun m b hb=>?_) (fun m m' b hb hb'=>?_)⟩
  ·have hg:vs.toList[j]? = some vs[j]:=by simp[hj]
   have hc:cs[j]? = some (cs[j]'(by omega)):=Gi _;rw[Gx,Array.getElem?_eq_getElem hj];exact(hcr.2 j _ _ hc hg).2
  ·have hj:j<vs.size:=by have:=(Gg.1 hy).1;omega
   have hg:vs.toList[j]? = some vs[j]:=by simp[hj]
   have hc:cs[j]? = some (cs[j]'(by omega)):=Gi _;rw[Gx,Array.getElem?_eq_getElem hj];exact(h3 j _ y _ hc hy hg).mono (fun b hb=>⟨_,hc,hb⟩)
  ·obtain⟨c,h4,h5⟩:=hb
   exact⟨m,c,h4,h5⟩
  ·obtain⟨c,c1,i,r,c2,c3,c4⟩:=hb
   obtain⟨c',d1,i',r',d2,d3,d4⟩:=hb';obtain⟨e1,e2⟩:=hs.vS c4 d4;subst e1 e2;by_cases hmm:m=m'
   ·exact hmm
   ·have h5:=pi c2 d2 c1 d1 hmm
    have h6:=hcnt i r;simp only[lU]at h6;simp only[mH,Nat.ble_eq]at c3;omega
theorem mW (hs:al w0 I0 R g st a ov w) {J:List Nat->ASt->TV->Prop}:∀{vs:List AV} {us:List Value} {k:List TV->Prg TV} {e:TV},nJ w g st.look vs us->(∀i r,cN i r (cU vs)<=cN i r rs)->(gives st.look rs vs k).goes C J e ->
  ∃ys,(k ys).goes C J e/\ys.length=vs.length/\∀(m:Nat) (v:AV) (y:TV) (u:Value),vs[m]? = some v->ys[m]? = some y->us[m]? = some u->ap w (I2 g st.look rs) y u (VF g st.look rs v)
 | [],us,k,e,hcr,hcnt,h=>⟨[],h,rfl,fun m c y u hc=>by simp at hc⟩
 | v :: l, us, k, e, hcr, hcnt, h => by
  obtain⟨u0,us',rfl⟩:∃u0 us',us=u0::us':=by
   cases us with
   | nil=>have:=hcr.len;simp at this
   | cons u0 us'=>exact⟨u0,us',rfl⟩
  obtain⟨hv,hvs⟩:=hcr;have hc1:∀i r,cN i r (dX (lU v))<=cN i r rs:=fun i r=>by
   have:=hcnt i r;rw[cU,bq,oT]at this;omega
  have hc2:∀i r,cN i r (cU l)<=cN i r rs:=fun i r=>by
   have:=hcnt i r;rw[cU,bq]at this;omega
  obtain⟨y,h1,h2⟩:=zA hs hv hc1 h;obtain⟨ys,h3,h4,h5⟩:=mW hs hvs hc2 h1;refine⟨y::ys,h3,by simp[h4],fun m c' y' u hc' hy hu=>?_⟩;cases m with
  | zero=>simp at hc' hy hu;subst hc' hy hu;exact h2
  | succ m=>simp at hc' hy hu;exact h5 m c' y' u hc' hy hu
theorem p9 {i r:Nat} {c:CA} (h:mK c=some (i,r)):∀{vs:List AV} {v:AV} {j m:Nat},vs[j]? = some v->(lU v)[m]? = some c->1<=cN i r (cU vs)
 | [],v,j,m,hj,_=>by simp at hj
 | d::vs,v,0,m,hj,hm=>by
  simp at hj;subst hj;rw[cU,bq,oT];have:=j4 h hm;omega
 | d::vs,v,j+1,m,hj,hm=>by
  rw[cU,bq];have:=p9 h (vs:=vs) (j:=j) (by simpa using hj) hm;omega
theorem nv {i r:Nat} {c c':CA} (h:mK c=some (i,r)) (h':mK c'=some (i,r)):∀{vs:List AV} {v v':AV} {j j' m m':Nat},vs[j]? = some v->vs[j']? = some v'->(lU v)[m]? = some c->(lU v')[m']? = some c'->j≠j'->2<=cN i r (cU vs)
 | [],v,v',j,j',m,m',hj,_,_,_,_=>by simp at hj
 | d::vs,v,v',0,0,m,m',_,_,_,_,hn=>absurd rfl hn
 | d::vs,v,v',0,j'+1,m,m',hj,hj',hm,hm',_=>by
  simp at hj;subst hj;rw[cU,bq,oT];have:=j4 h hm;have:=p9 h' (vs:=vs) (j:=j') (by simpa using hj') hm';omega
 | d::vs,v,v',j+1,0,m,m',hj,hj',hm,hm',_=>by
  simp at hj';subst hj';rw[cU,bq,oT];have:=j4 h' hm';have:=p9 h (vs:=vs) (j:=j) (by simpa using hj) hm;omega
 | d::vs,v,v',j+1,j'+1,m,m',hj,hj',hm,hm',hn=>by
  rw[cU,bq];have:=nv h h' (vs:=vs) (j:=j) (j':=j') (by simpa using hj) (by simpa using hj') hm hm' (fun e=>hn (by rw[e]));omega
def Ans (w0:Bs) (I0:Nat->Prop) (x:TV) (v:Value) (w':World):Prop :=
 ∃I' S:Nat->Prop,(∀b,I0 b->I' b)/\(∀b,I' b->b<w'.heap.size)/\(∀b,¬w0.New b->I' b->I0 b)/\(∀b,S b->w0.New b/\b<w'.heap.size/\¬I' b)/\ap w' I' x v S
theorem uM (hT:∀t d,E.T t=some d->aW P t d) (hs:al w0 I0 NoR g st a ov w) {fn:Func} {pu:Bool} {J:List Nat->ASt->TV->Prop} {x:TV} (h:(CQ E.T pu fn.results.toList st).goes C J x) :
  ∃v,(results fn a.tmps).run P w=.ok v w/\Ans w0 I0 x v w:=by
 have hm:∀(vs:List Value),(fn.results.toList.mapM (kA a.tmps)).run P w=.ok vs w ->
   (results fn a.tmps).run P w=.ok (if h:vs.toArray.size=1 then vs.toArray[0]else .tuple vs.toArray) w:=by
  intro vs hv;rw[kr,Array.mapM_eq_mapM_toList,<-bind_pure_comp];simp only[Sem.run_bind,hv,Result.andThen_ok,Sem.run_pure]
 unfold CQ at h;split at h
 ·rename_i avs hav
  obtain⟨us,hrun,hreps⟩:=fO (P:=P) hT hs _ _ hav;obtain⟨ys,hk,hlen,hrep⟩:=mW hs hreps (fun _ _=>Nat.le_refl _) h;have hul:=hreps.len;obtain⟨rs',hrs'⟩:∃rs',rs'=cU avs:=⟨_,rfl⟩;rw[<-hrs']at hrep;have base:∀(S:Nat->Prop) (y:TV) (v:Value),(∀b,S b->∃(m:Nat) (v:AV),avs[m]? = some v/\VF g st.look rs' v b)->ap w (I2 g st.look rs') y v S->Ans w0 I0 y v w:=by
   intro S y v hS hr;refine⟨I2 g st.look rs',S,fun b hb=>.inl (hs.sub b hb),fun b hb=>?_,fun b hb hI=>?_,fun b hb=>?_,hr⟩
   ·rcases hb with hb|⟨i,r,_,hb⟩
    ·exact hs.lt b hb
    ·exact(hs.foot i b hb.foot).2.1
   ·rcases hI with h'|⟨i,r,_,h'⟩
    ·exact hs.old b hb h'
    ·exact absurd (hs.foot i b h'.foot).1 hb
   ·obtain⟨m,v,_,m',c,_,i,r,_,hp,hb'⟩:=hS b hb
    obtain⟨f1,f2,f3,_⟩:=hs.foot i b hb'.foot;refine⟨f1,f2,?_⟩;rintro(h'|⟨i',r',hp',h'⟩)
    ·exact f3 h'
    ·obtain⟨e1,e2⟩:=hs.vS hb' h'
     subst e1 e2;rw[hp]at hp';cases hp'
  have single:∀x0,ys=[x0]->∃v,(results fn a.tmps).run P w=.ok v w/\Ans w0 I0 x0 v w:=by
   intro x0 hy;subst hy;have hl1:us.length=1:=by rw[hul,<-hlen];rfl
   match us,hl1,hrun,hrep with
   | [u], _, hrun, hrep =>
    have hal:avs.length=1:=by rw[<-hlen];rfl
    match avs,hal,hrep,base with
    | [v],_,hrep,base =>
     refine⟨u,by simpa using hm [u] hrun,base _ x0 u (fun b hb=>⟨0,v,rfl,hb⟩) (hrep 0 v x0 u rfl rfl rfl)⟩
  have many:ys.length≠1->∃v,(results fn a.tmps).run P w=.ok v w/\Ans w0 I0 (.tup ys) v w:=by
   intro hn;have h1:¬us.toArray.size=1:=by simp;omega
   refine⟨.tuple us.toArray,by rw[hm us hrun,dif_neg h1],base (fun b=>∃(m:Nat) (v:AV),avs[m]? = some v/\VF g st.look rs' v b) _ _ (fun b hb=>hb) ?_⟩;refine .tup (fun m b=>∃v,avs[m]? = some v/\VF g st.look rs' v b) (by simp;omega) (fun j y hy=>?_) (fun m b ⟨v,h1,h2⟩=>⟨m,v,h1,h2⟩) (fun m m' b hb hb'=>?_)
   ·have hj:j<us.length:=by have:=(Gg.1 hy).1;omega
    have hju:us[j]? = some us[j]:=Gi hj;have hja:avs[j]? = some (avs[j]'(by omega)):=Gi _;have:us.toArray.getD j undef=us[j]:=by simp[hj]
    rw[this];exact(hrep j _ y _ hja hy hju).mono (fun b hb=>⟨_,hja,hb⟩)
   ·obtain⟨v,c1,q,c,c2,i,r,c3,c4,c5⟩:=hb
    obtain⟨v',d1,q',c',d2,i',r',d3,d4,d5⟩:=hb';obtain⟨e1,e2⟩:=hs.vS c5 d5;subst e1 e2;by_cases hmm:m=m'
    ·exact hmm
    ·have:=nv c3 d3 c1 d1 c2 d2 hmm
     simp only[mH,Nat.ble_eq,hrs']at c4;omega
  split at hk
  ·rename_i x0
   cases pu with
   | true =>
    simp only[cond_true]at hk;obtain⟨h1,h2⟩:=hk;have h2:x0=x:=h2;subst h2;exact single _ rfl
   | false =>
    simp only[cond_false]at hk;have h2:x0=x:=hk;subst h2;exact single _ rfl
  ·rename_i hne
   have hn:ys.length≠1:=fun e=>by
    match ys,e with
    | [y],_=>exact hne y rfl
   cases pu with
   | true =>
    simp only[cond_true]at hk;obtain⟨h1,h2⟩:=hk;have h2:TV.tup ys=x:=h2;subst h2;exact many hn
   | false =>
    simp only[cond_false]at hk;have h2:TV.tup ys=x:=hk;subst h2;exact many hn
 ·exact h.elim
theorem Cw {I:Nat->Prop} {G:Laid} (hG:G.P w I) (hlt:∀b,I b->b<w.heap.size) {ntmps:Nat} {args:List TV} {vals:Array Value} (hle:args.length<=ntmps) (hsz:vals.size=args.length) (hargs:∀(j:Nat) (x:TV),args[j]? = some x->Rep w I x (vals.getD j undef)) :
  Sim (Bs.of w (fun _=>False) G) I (jo ntmps args) { tmps:=vals++Array.replicate (ntmps-vals.size) undef,defers:=[] } [] w:=by
 have hlk:∀i,(jo ntmps args).look i=none:=fun i=>by
  simp only[jo,ASt.look,aS,List.getElem?_replicate];split<;>rfl
 have hnf:∀(g:Gh) i b,¬Foot g (jo ntmps args).look i b:=fun g i b h=>by
  rcases h with⟨cs,h,_⟩|⟨xs,r,h,_⟩<;>rw[hlk]at h<;>cases h
 refine⟨⟨I,fun _ _=>undef,fun _=>0,fun _ _ _=>False,⟨fun _=>none,fun _=>0⟩⟩,⟨Bs.Bel.refl _,fun _ h=>h,hlt,fun _ _ h=>h,by simp[jo,hsz],rfl,fun t v hv=>?_,rfl,(fun t v hv=>by simp[jo]at hv),(fun i cs hb=>by rw[hlk]at hb;cases hb),(fun i xs hb=>by rw[hlk]at hb;cases hb),
  (fun i b h=>(hnf _ i b h).elim),(fun i j b h=>(hnf _ i b h).elim),(fun i xs r r' b h=>by rw[hlk]at h;cases h),(fun b h=>h.elim),⟨fun b hb=>⟨hlt b hb,fun h=>h⟩,hG⟩,⟨(fun b ob h=>by cases h),rfl⟩⟩⟩
 simp only[jo,List.getElem?_append,List.length_map,Gn]at hv;by_cases ht:t<args.length
 ·simp only[ht,if_true]at hv
  rw[Gi ht]at hv;simp only[Gv,Gj]at hv;subst hv;have:=hargs t _ (Gi ht);have hg:(vals++Array.replicate (ntmps-vals.size) undef).getD t undef=vals.getD t undef:=by
   have:t<vals.size:=by omega
   rw[Gx,Array.getElem?_append_left this,<-Gx]
  simp only[hg];exact this
 ·simp only[ht,if_false,List.getElem?_replicate]at hv
  split at hv
  ·simp only[Gj]at hv
   subst hv;show(vals++Array.replicate (ntmps-vals.size) undef).getD t undef=undef;rw[Gx,Array.getElem?_append_right (by omega),Array.getElem?_replicate];split<;>rfl
  ·cases hv
theorem zJ (hT:∀t d,E.T t=some d->aW P t d) (hs:al w0 I0 NoR g st a ov w) {fn:Func} {J:List Nat->ASt->TV->Prop} {x:TV} (h:(resP E.T fn.results.toList st).goes C J x) :
  ∃v,(results fn a.tmps).run P w=.ok v w/\Rep w g.I x v:=by
 have hm:∀(vs:List Value),(fn.results.toList.mapM (kA a.tmps)).run P w=.ok vs w ->
   (results fn a.tmps).run P w=.ok (if h:vs.toArray.size=1 then vs.toArray[0]else .tuple vs.toArray) w:=by
  intro vs hv;rw[kr,Array.mapM_eq_mapM_toList,<-bind_pure_comp];simp only[Sem.run_bind,hv,Result.andThen_ok,Sem.run_pure]
 unfold resP at h;split at h
 ·rename_i v hav
  obtain⟨us,hrun,hreps⟩:=fO (P:=P) hT hs _ _ hav;have hl:=hreps.len
  match us,hl,hreps,hrun with
  | [u], _, ⟨hu, _⟩, hrun =>
   refine⟨u,by simpa using hm [u] hrun,?_⟩;split at h
   ·rename_i y hy
    have h:y=x:=h;subst h;exact cw hu hy
   ·split at h
    ·rename_i cs _
     split at h
     ·rename_i xs hxs
      have h:TV.agg xs=x:=h;subst h;obtain⟨vs,rfl,hl,hc⟩:=hu;have hcs:=dB hxs;subst hcs;have hvl:vs.size=xs.length:=by simpa using hl
      have hat:∀j,j<vs.size->vs.toList[j]? = some (vs.getD j undef):=fun j hj=>by
       rw[Gl,Array.getElem?_eq_getElem hj];simp[hj]
      refine .agg hvl (fun j hj=>?_) (fun j c hj=>?_)
      ·exact(hc j (.t (xs[j]'(by omega))) _ (by rw[Gn,Gi (by omega)];rfl) (hat j hj)).2
      ·have hj2:j<vs.size:=by have:=(Gg.1 hj).1;omega
       exact(hc j (.t c) _ (by rw[Gn,hj];rfl) (hat j hj2)).1.1
     ·exact h.elim
    ·exact h.elim
 ·exact h.elim
theorem zT {c:Nat × Nat} {x y:TV} {j:Nat} (h:(vY c x)[j]? = some y):j<c.2/\(y=.hole\/(j=c.1/\y=x)):=by
 unfold vY at h;rw[ah,List.getElem?_set]at h;split at h
 ·rename_i e
  split at h
  ·rename_i hl
   simp only[Gj]at h;exact⟨by simpa[<-e]using hl,.inr ⟨e.symm,h.symm⟩⟩
  ·cases h
 ·rw[List.getElem?_replicate]at h
  split at h
  ·rename_i hl
   simp only[Gj]at h;exact⟨hl,.inl h.symm⟩
  ·cases h
theorem zc {I:Nat->Prop} {G:Laid} (hG:G.P w I) (hlt:∀b,I b->b<w.heap.size) {c:Nat × Nat} {b:Nat} {vs:Array Value} {ty:TypeId} (hheap:w.heap[b]? = some (.cells vs ty (0,0))) (hone:∀u∈vs.toList,u.oneCell'=true)
  (hvs:vs.size=c.2) {x:TV} (hrx:Rep w I x (vs.getD c.1 undef)) {ntmps:Nat} {args:List TV} {vals:Array Value} (hle:args.length+1<=ntmps)
  (hsz:vals.size=args.length+1) (h0:vals.getD 0 undef=.pointer (some ⟨b,0,none⟩)) (hargs:∀(j:Nat) (x:TV),args[j]? = some x->Rep w I x (vals.getD (j+1) undef)) :
  Sim (Bs.of w (fun _=>False) G) I (iW c ntmps x args) { tmps:=vals++Array.replicate (ntmps-vals.size) undef,defers:=[] } [] w:=by
 have hlk:∀i,(iW c ntmps x args).look i=none:=fun i=>by
  simp only[iW,ASt.look,aS,List.getElem?_replicate];split<;>rfl
 have hnf:∀(g:Gh) i b,¬Foot g (iW c ntmps x args).look i b:=fun g i b h=>by
  rcases h with⟨cs,h,_⟩|⟨xs,r,h,_⟩<;>rw[hlk]at h<;>cases h
 have hp:bM w ⟨I,fun _ _=>undef,fun _=>0,fun _ _ _=>False,⟨fun k=>if k=b then some (.cells vs ty (0,0))else none,fun _=>0⟩⟩ (iW c ntmps x args).look (.one (.ref (vY c x) 0)) (.pointer (some ⟨b,0,none⟩)):=by
  refine⟨⟨b,0,none⟩,fun j=>vs.getD j undef,by simp[Addr.add],fun j y hj=>?_⟩;obtain⟨hj1,hj2⟩:=zT hj;have hjv:j<vs.size:=by omega
  have hg:vs[j]? = some (vs.getD j undef):=by rw[Array.getElem?_eq_getElem hjv];simp[hjv]
  refine⟨.inr ⟨.cells vs ty (0,0),by rw[eH];simp,fun w' hw'=>?_⟩,hone _ (by rw[<-Gl]at hg;exact Gr hg),?_⟩
  ·have hw2:w'.heap[b]? = some (.cells vs ty (0,0)):=by rw[eH]at hw';exact hw'
   rw[eH,cell_of_row w' b _ vs ty (0,0) hw2];simpa using hg
  ·rcases hj2 with rfl|⟨rfl,rfl⟩
   ·exact .hole _
   ·exact hrx
 refine⟨⟨I,fun _ _=>undef,fun _=>0,fun _ _ _=>False,⟨fun k=>if k=b then some (.cells vs ty (0,0))else none,fun _=>0⟩⟩,⟨Bs.Bel.refl _,fun _ h=>h,hlt,fun _ _ h=>h,by simp[iW,hsz];omega,rfl,fun t v hv=>?_,rfl,(fun t v hv=>by simp[iW]at hv),(fun i cs hb=>by rw[hlk]at hb;cases hb),(fun i xs hb=>by rw[hlk]at hb;cases hb),
  (fun i b h=>(hnf _ i b h).elim),(fun i j b h=>(hnf _ i b h).elim),(fun i xs r r' b h=>by rw[hlk]at h;cases h),(fun b h=>h.elim),⟨fun b hb=>⟨hlt b hb,fun h=>h⟩,hG⟩,⟨fun k ob hk=>?_,rfl⟩⟩⟩
 ·match t with
  | 0 =>
   simp[iW]at hv;subst hv;have hg:(vals++Array.replicate (ntmps-vals.size) undef).getD 0 undef=vals.getD 0 undef:=by
    have:0<vals.size:=by omega
    rw[Gx,Array.getElem?_append_left this,<-Gx]
   simp only[hg,h0];exact hp
  | t + 1 =>
   simp only[iW,List.getElem?_cons_succ,List.getElem?_append,List.length_map,Gn]at hv;by_cases ht:t<args.length
   ·simp only[ht,if_true]at hv
    rw[Gi ht]at hv;simp only[Gv,Gj]at hv;subst hv;have:=hargs t _ (Gi ht);have hg:(vals++Array.replicate (ntmps-vals.size) undef).getD (t+1) undef=vals.getD (t+1) undef:=by
     have:t+1<vals.size:=by omega
     rw[Gx,Array.getElem?_append_left this,<-Gx]
    simp only[hg];exact this
   ·simp only[ht,if_false,List.getElem?_replicate]at hv
    split at hv
    ·simp only[Gj]at hv
     subst hv;show(vals++Array.replicate (ntmps-vals.size) undef).getD (t+1) undef=undef;rw[Gx,Array.getElem?_append_right (by omega),Array.getElem?_replicate];split<;>rfl
    ·cases hv
 ·simp only at hk
  split at hk
  ·rename_i e
   simp only[Gj]at hk;subst e hk;exact⟨hheap,fun h=>h⟩
  ·cases hk
theorem zO {I:Nat->Prop} {G:Laid} (hG:G.P w I) (hlt:∀b,I b->b<w.heap.size) {b:Nat} {vs:Array Value} {ty:TypeId} (hheap:w.heap[b]? = some (.cells vs ty (0,0))) (hone:∀u∈vs.toList,u.oneCell'=true)
  {cs:List TV} (hvs:vs.size=cs.length) (hrc:∀(j:Nat) (c:TV),cs[j]? = some c->Rep w I c (vs.getD j undef)) {ntmps:Nat} {args:List TV} {vals:Array Value} (hle:args.length+1<=ntmps)
  (hsz:vals.size=args.length+1) (h0:vals.getD args.length undef=.pointer (some ⟨b,0,none⟩)) (hargs:∀(j:Nat) (x:TV),args[j]? = some x->Rep w I x (vals.getD j undef)) :
  Sim (Bs.of w (fun _=>False) G) I (kf ntmps cs args) { tmps:=vals++Array.replicate (ntmps-vals.size) undef,defers:=[] } [] w:=by
 have hlk:∀i,(kf ntmps cs args).look i=none:=fun i=>by
  simp only[kf,ASt.look,aS,List.getElem?_replicate];split<;>rfl
 have hnf:∀(g:Gh) i b,¬Foot g (kf ntmps cs args).look i b:=fun g i b h=>by
  rcases h with⟨cs,h,_⟩|⟨xs,r,h,_⟩<;>rw[hlk]at h<;>cases h
 have hp:bM w ⟨I,fun _ _=>undef,fun _=>0,fun _ _ _=>False,⟨fun k=>if k=b then some (.cells vs ty (0,0))else none,fun _=>0⟩⟩ (kf ntmps cs args).look (.one (.ref cs 0)) (.pointer (some ⟨b,0,none⟩)):=by
  refine⟨⟨b,0,none⟩,fun j=>vs.getD j undef,by simp[Addr.add],fun j y hj=>?_⟩;have hjv:j<vs.size:=by rw[hvs];exact(Gg.1 hj).1
  have hg:vs[j]? = some (vs.getD j undef):=by rw[Array.getElem?_eq_getElem hjv];simp[hjv]
  refine⟨.inr ⟨.cells vs ty (0,0),by rw[eH];simp,fun w' hw'=>?_⟩,hone _ (by rw[<-Gl]at hg;exact Gr hg),hrc j y hj⟩;have hw2:w'.heap[b]? = some (.cells vs ty (0,0)):=by rw[eH]at hw';exact hw'
  rw[eH,cell_of_row w' b _ vs ty (0,0) hw2];simpa using hg
 refine⟨⟨I,fun _ _=>undef,fun _=>0,fun _ _ _=>False,⟨fun k=>if k=b then some (.cells vs ty (0,0))else none,fun _=>0⟩⟩,⟨Bs.Bel.refl _,fun _ h=>h,hlt,fun _ _ h=>h,by simp[kf,hsz];omega,rfl,fun t v hv=>?_,rfl,(fun t v hv=>by simp[kf]at hv),(fun i cs hb=>by rw[hlk]at hb;cases hb),(fun i xs hb=>by rw[hlk]at hb;cases hb),
  (fun i b h=>(hnf _ i b h).elim),(fun i j b h=>(hnf _ i b h).elim),(fun i xs r r' b h=>by rw[hlk]at h;cases h),(fun b h=>h.elim),⟨fun b hb=>⟨hlt b hb,fun h=>h⟩,hG⟩,⟨fun k ob hk=>?_,rfl⟩⟩⟩
 ·simp only[kf]at hv
  by_cases ht:t<args.length
  ·rw[Gs (by simpa using ht),Gn,Gi ht]at hv
   simp only[Gv,Gj]at hv;subst hv;have:=hargs t _ (Gi ht);have hg:(vals++Array.replicate (ntmps-vals.size) undef).getD t undef=vals.getD t undef:=by
    have:t<vals.size:=by omega
    rw[Gx,Array.getElem?_append_left this,<-Gx]
   simp only[hg];exact this
  ·rw[Gt (by simpa using ht)]at hv
   simp only[List.length_map]at hv;by_cases ht2:t=args.length
   ·subst ht2
    rw[Nat.sub_self]at hv;simp only[List.getElem?_cons_zero,Gj]at hv;subst hv;have hg:(vals++Array.replicate (ntmps-vals.size) undef).getD args.length undef=vals.getD args.length undef:=by
     have:args.length<vals.size:=by omega
     rw[Gx,Array.getElem?_append_left this,<-Gx]
    simp only[hg,h0];exact hp
   ·rw[show t-args.length=(t-args.length-1)+1 by omega,List.getElem?_cons_succ,List.getElem?_replicate]at hv
    split at hv
    ·simp only[Gj]at hv
     subst hv;show(vals++Array.replicate (ntmps-vals.size) undef).getD t undef=undef;rw[Gx,Array.getElem?_append_right (by omega),Array.getElem?_replicate];split<;>rfl
    ·cases hv
 ·simp only at hk
  split at hk
  ·rename_i e
   simp only[Gj]at hk;subst e hk;exact⟨hheap,fun h=>h⟩
  ·cases hk
theorem sW (hs:al w0 I0 R g st a ov w) {i:Nat} {ty:TypeId} {J:List Nat->ASt->TV->Prop}:∀{cs:List CA} {us:List Value} {k:List TV->Prg TV} {e:TV},CR w g st.look cs us->(mR st.look rs i ty cs k).goes C J e ->
  ∃ys,(k ys).goes C J e/\ys.length=cs.length/\∀(m:Nat) (c:CA) (y:TV) (u:Value),cs[m]? = some c->ys[m]? = some y->us[m]? = some u->DV w (I2 g st.look rs) (g.β i) y u (CF g st.look rs c)/\(y.eK=true->xT w (g.β i) ty)
 | [],us,k,e,hcr,h=>⟨[],h,rfl,fun m c y u hc=>by simp at hc⟩
 | c :: l, us, k, e, hcr, h => by
  obtain⟨u0,us',rfl⟩:∃u0 us',us=u0::us':=by
   cases us with
   | nil=>have:=hcr.1;simp at this
   | cons u0 us'=>exact⟨u0,us',rfl⟩
  have hc:=hcr.2 0 c u0 rfl rfl;have hcr':CR w g st.look l us':=⟨by have:=hcr.1;simpa using this,fun j c' u hc' hu'=>hcr.2 (j+1) c' u (by simpa using hc') (by simpa using hu')⟩;have fin:∀(y:TV),(mR st.look rs i ty l fun xs=>k (y::xs)).goes C J e->DV w (I2 g st.look rs) (g.β i) y u0 (CF g st.look rs c)/\(y.eK=true->xT w (g.β i) ty) ->
    ∃ys,(k ys).goes C J e/\ys.length=(c::l).length/\∀(m:Nat) (c':CA) (y:TV) (u:Value),(c::l)[m]? = some c'->ys[m]? = some y->(u0::us')[m]? = some u->DV w (I2 g st.look rs) (g.β i) y u (CF g st.look rs c')/\(y.eK=true->xT w (g.β i) ty):=by
   intro y h hy;obtain⟨ys,h3,h4,h5⟩:=sW hs hcr' h;refine⟨y::ys,h3,by simp[h4],fun m c' y' u hc' hy' hu=>?_⟩;cases m with
   | zero=>simp at hc' hy' hu;subst hc' hy' hu;exact hy
   | succ m=>simp at hc' hy' hu;exact h5 m c' y' u hc' hy' hu
  have gen:(mJ st.look rs c fun x=>mR st.look rs i ty l fun xs=>k (x::xs)).goes C J e->∃ys,(k ys).goes C J e/\ys.length=(c::l).length/\∀(m:Nat) (c':CA) (y:TV) (u:Value),(c::l)[m]? = some c'->ys[m]? = some y->(u0::us')[m]? = some u->DV w (I2 g st.look rs) (g.β i) y u (CF g st.look rs c')/\(y.eK=true->xT w (g.β i) ty):=by
   intro h;obtain⟨y,h1,h2⟩:=nk hs hc.1 h;cases hm:y.eK with
   | false=>exact fin y h1 ⟨.inr ⟨hm,h2⟩,fun h=>by rw[hm]at h;cases h⟩
   | true =>
    have:y=.tup []:=by
     unfold TV.eK at hm;split at hm
     ·rfl
     ·cases hm
    subst this;obtain⟨vs,_,rfl,_⟩:=h2.tups;have:=hc.2;simp[Value.oneCell']at this
  cases c with
  | may j t =>
   simp only[mR]at h;cases hb:j.beq i&&t.beq ty with
   | false=>rw[hb]at h;exact h.elim
   | true =>
    rw[hb]at h;simp only[Gk,aC]at hb;obtain⟨rfl,rfl⟩:=hb;obtain⟨cs,h1,h2,h3⟩:=hc.1;exact fin Fg h ⟨.inl ⟨rfl,h3⟩,fun _=>h2⟩
  | t x=>exact gen h
  | ptr i off=>exact gen h
  | ref x off=>exact gen h
  | tptr i r p k j=>exact gen h
  | sref i r p=>exact gen h
  | swin i r p lo len=>exact gen h
  | aptr i off len n=>exact gen h
  | ifp ty i=>exact gen h
  | fn1 q i=>exact gen h
  | psl i n=>exact gen h
  | yl n=>exact gen h
  | undef=>exact gen h
  | junk=>exact gen h
def AnsL (w0:Bs) (I0:Nat->Prop) (ld:fx) (b:Nat) (x:TV) (v:Value) (w':World):Prop :=
 ∃r0 cs',x=.tup [r0,.tup cs']/\∃I' L' S:Nat->Prop,(∀b,I0 b->I' b)/\(∀b,I' b->b<w'.heap.size)/\(∀b,¬w0.New b->I' b->I0 b)/\(∀b,L' b->w0.New b/\b<w'.heap.size/\¬I' b)/\ap w' I' r0 v S/\B9 w' I' ld b cs' L'
theorem zX (hT:∀t d,E.T t=some d->aW P t d) {b:Nat} (hs:al w0 I0 NoR g st a [.pointer (some ⟨b,0,none⟩)] w) {fn:Func} {ld:fx} {J:List Nat->ASt->TV->Prop} {x:TV} (h:(CU E.T ld fn.results.toList st).goes C J x) :
  ∃v,(results fn a.tmps).run P w=.ok v w/\AnsL w0 I0 ld b x v w:=by
 have hm:∀(vs:List Value),(fn.results.toList.mapM (kA a.tmps)).run P w=.ok vs w ->
   (results fn a.tmps).run P w=.ok (if h:vs.toArray.size=1 then vs.toArray[0]else .tuple vs.toArray) w:=by
  intro vs hv;rw[kr,Array.mapM_eq_mapM_toList,<-bind_pure_comp];simp only[Sem.run_bind,hv,Result.andThen_ok,Sem.run_pure]
 unfold CU at h;split at h
 ·rename_i avs i hav hout
  split at h
  ·rename_i cs hl
   obtain⟨us,hrun,hreps⟩:=fO (P:=P) hT hs _ _ hav;obtain⟨rs',hrs'⟩:∃rs',rs'=cU avs++dX cs:=⟨_,rfl⟩;rw[<-hrs']at h;obtain⟨ys,hk,hlen,hrep⟩:=mW hs hreps (fun i r=>by rw[hrs',bq];omega) h;obtain⟨vs,ty,c1,c2⟩:=hs.cells i cs hl;obtain⟨zs,hk2,hzl,hzs⟩:=sW hs c2 hk;have hk2:TV.tup [qp ys,.tup zs]=x:=hk2;subst hk2;have hul:=hreps.len;have hβ:g.β i=b:=by
    have h0:=hs.outs 0 (.one (.ptr i 0)) (by rw[hout];rfl);obtain⟨_,_,hv⟩:=h0;simp at hv;exact hv.symm
   have hfi:Foot g st.look i (g.β i):=.inl ⟨cs,hl,rfl⟩;have hroot:∀c b',CF g st.look rs' c b'->w0.New b'/\b'<w.heap.size/\¬I2 g st.look rs' b'/\b'≠g.β i:=by
    rintro c b' ⟨i',r',_,hp,hb'⟩;obtain⟨f1,f2,f3,_⟩:=hs.foot i' b' hb'.foot;refine⟨f1,f2,?_,fun e=>?_⟩
    ·rintro(h'|⟨i'',r'',hp',h'⟩)
     ·exact f3 h'
     ·obtain⟨e1,e2⟩:=hs.vS hb' h'
      subst e1 e2;rw[hp]at hp';cases hp'
    ·subst e
     have:=hs.apart _ _ _ hb'.foot hfi;subst this;obtain⟨xs,h1,_⟩:=hb';rw[hl]at h1;cases h1
   have hvl:vs.size=cs.length:=by simpa using c2.1
   have hV:B9 w (I2 g st.look rs') ld b zs (fun b'=>b'=b\/∃c,c∈cs/\CF g st.look rs' c b'):=by
    refine⟨.inl rfl,vs,ty,fun m b'=>∃c,cs[m]? = some c/\CF g st.look rs' c b',by rw[<-hβ];exact c1,by rw[hzl,hvl],fun m y hy=>?_,fun m b' ⟨c,h1,h2⟩=>⟨.inr ⟨c,Gr h1,h2⟩,by rw[<-hβ];exact(hroot c b' h2).2.2.2⟩,fun m m' b' ⟨c,h1,h2⟩ ⟨c',h1',h2'⟩=>?_⟩
    ·have hml:m<cs.length:=by rw[<-hzl];exact(Gg.1 hy).1
     have hc:cs[m]? = some (cs[m]'hml):=Gi hml;have hu:vs.toList[m]? = some (vs.getD m undef):=by
      rw[Gl,Array.getElem?_eq_getElem (by omega)];simp[hvl,hml]
     obtain⟨z1,z2⟩:=hzs m _ y _ hc hy hu;rw[<-hβ];refine⟨?_,(c2.2 m _ _ hc hu).2,fun hmay=>?_⟩
     ·rcases z1 with z1|⟨z1,z3⟩
      ·exact .inl z1
      ·exact .inr ⟨z1,z3.mono (fun b' hb'=>⟨_,hc,hb'⟩)⟩
     ·obtain⟨us,fr,ht⟩:=z2 hmay
      rw[c1]at ht;cases ht;rfl
    ·obtain⟨i1,r1,e1,p1,q1⟩:=h2
     obtain⟨i2,r2,e2,p2,q2⟩:=h2';obtain⟨e3,e4⟩:=hs.vS q1 q2;subst e3 e4;by_cases hmm:m=m'
     ·exact hmm
     ·have h5:=pi e1 e2 h1 h1' hmm
      simp only[mH,Nat.ble_eq,hrs',bq]at p1;omega
   have base:∀(S:Nat->Prop) (v:Value),ap w (I2 g st.look rs') (qp ys) v S->AnsL w0 I0 ld b (.tup [qp ys,.tup zs]) v w:=by
    intro S v hr;refine⟨_,_,rfl,I2 g st.look rs',_,S,fun b hb=>.inl (hs.sub b hb),fun b hb=>?_,fun b hb hI=>?_,fun b' hb'=>?_,hr,hV⟩
    ·rcases hb with hb|⟨i,r,_,hb⟩
     ·exact hs.lt b hb
     ·exact(hs.foot i b hb.foot).2.1
    ·rcases hI with h'|⟨i,r,_,h'⟩
     ·exact hs.old b hb h'
     ·exact absurd (hs.foot i b h'.foot).1 hb
    ·rcases hb' with rfl|⟨c,_,hc⟩
     ·rw[<-hβ]
      obtain⟨f1,f2,f3,_⟩:=hs.foot i _ hfi;refine⟨f1,f2,?_⟩;rintro(h'|⟨i',r',_,h'⟩)
      ·exact f3 h'
      ·have:=hs.apart _ _ _ h'.foot hfi
       subst this;obtain⟨xs,h1,_⟩:=h';rw[hl]at h1;cases h1
     ·exact⟨(hroot c b' hc).1,(hroot c b' hc).2.1,(hroot c b' hc).2.2.1⟩
   have single:∀x0,ys=[x0]->∃v,(results fn a.tmps).run P w=.ok v w/\AnsL w0 I0 ld b (.tup [qp ys,.tup zs]) v w:=by
    intro x0 hy;have hl1:us.length=1:=by rw[hul,<-hlen,hy];rfl
    match us,hl1,hrun,hrep with
    | [u], _, hrun, hrep =>
     have hal:avs.length=1:=by rw[<-hlen,hy];rfl
     match avs,hal,hrep,base with
     | [v],_,hrep,base =>
      refine⟨u,by simpa using hm [u] hrun,base _ u (?_:ap w (I2 g st.look rs') (qp ys) u (VF g st.look rs' v))⟩;subst hy;exact hrep 0 v x0 u rfl rfl rfl
   by_cases hn:ys.length=1
   ·match ys,hn,single with
    | [x0],_,single=>exact single x0 rfl
   ·have h1:¬us.toArray.size=1:=by simp;omega
    have hone:qp ys=.tup ys:=by
     match ys,hn with
     | [],_=>rfl
     | [_],h=>exact absurd rfl h
     | _::_::_,_=>rfl
    refine⟨.tuple us.toArray,by rw[hm us hrun,dif_neg h1],base (fun b=>∃(m:Nat) (v:AV),avs[m]? = some v/\VF g st.look rs' v b) _ ?_⟩;rw[hone];refine .tup (fun m b=>∃v,avs[m]? = some v/\VF g st.look rs' v b) (by simp;omega) (fun j y hy=>?_) (fun m b ⟨v,h1,h2⟩=>⟨m,v,h1,h2⟩) (fun m m' b hb hb'=>?_)
    ·have hj:j<us.length:=by have:=(Gg.1 hy).1;omega
     have hju:us[j]? = some us[j]:=Gi hj;have hja:avs[j]? = some (avs[j]'(by omega)):=Gi _;have:us.toArray.getD j undef=us[j]:=by simp[hj]
     rw[this];exact(hrep j _ y _ hja hy hju).mono (fun b hb=>⟨_,hja,hb⟩)
    ·obtain⟨v,c1,q,c,c2,i,r,c3,c4,c5⟩:=hb
     obtain⟨v',d1,q',c',d2,i',r',d3,d4,d5⟩:=hb';obtain⟨e1,e2⟩:=hs.vS c5 d5;subst e1 e2;by_cases hmm:m=m'
     ·exact hmm
     ·have:=nv c3 d3 c1 d1 c2 d2 hmm
      simp only[mH,Nat.ble_eq,hrs',bq]at c4;omega
  ·exact h.elim
 ·exact h.elim
theorem yZ {I:Nat->Prop} {G:Laid} (hG:G.P w I) {ld:fx} {b:Nat} {cs:List TV} {L:Nat->Prop} (hlt:∀b,I b->b<w.heap.size) (hL:∀b,L b->b<w.heap.size/\¬I b) (hV:B9 w I ld b cs L) (hfit:oe ld.fl cs=true) {ntmps:Nat} {args:List TV} {vals:Array Value} (hle:args.length+1<=ntmps)
  (hsz:vals.size=args.length+1) (h0:vals.getD 0 undef=.pointer (some ⟨b,0,none⟩)) (hargs:∀(j:Nat) (x:TV),args[j]? = some x->Rep w I x (vals.getD (j+1) undef)) :
  Sim (Bs.of w L G) I (fS ld ntmps cs args) { tmps:=vals++Array.replicate (ntmps-vals.size) undef,defers:=[] } [.pointer (some ⟨b,0,none⟩)] w:=by
 obtain⟨hb,vs,ty,F,v1,v2,v3,v4,v5⟩:=hV;obtain⟨ffl,ffs⟩:=ku hfit;have hlk0:(fS ld ntmps cs args).look 0=some (.cells (gq 0 1 ld.ty ld.fl cs 0)):=rfl;have hlk1:(fS ld ntmps cs args).look 1=some (.tree (da ld.fl cs)):=rfl;have hlk:∀i x,(fS ld ntmps cs args).look i=some x->i=0\/i=1:=fun i x h=>by
  match i with
  | 0=>exact .inl rfl
  | 1=>exact .inr rfl
  | i+2 =>
   simp only[fS,ASt.look,aS,List.getElem?_cons_succ,List.getElem?_replicate]at h;split at h<;>simp at h
 have hrl:(da ld.fl cs).length=cs.length:=rY _ _ ffl;have hft:∀i x,Foot ⟨I,fun _ r=>vs.getD r undef,fun _=>b,fun _ r=>F r,⟨fun _=>none,fun _=>0⟩⟩ (fS ld ntmps cs args).look i x->(i=0/\x=b)\/(i=1/\∃r,F r x):=fun i x h=>by
  rcases h with⟨c,h1,h2⟩|⟨xs,r,h1,h2,h3⟩
  ·rcases hlk i _ h1 with rfl|rfl
   ·exact .inl ⟨rfl,h2⟩
   ·rw[hlk1]at h1;cases h1
  ·rcases hlk i _ h1 with rfl|rfl
   ·rw[hlk0]at h1;cases h1
   ·exact .inr ⟨rfl,r,h3⟩
 have hLb:∀i x,Foot ⟨I,fun _ r=>vs.getD r undef,fun _=>b,fun _ r=>F r,⟨fun _=>none,fun _=>0⟩⟩ (fS ld ntmps cs args).look i x->L x:=fun i x h=>by
  rcases hft i x h with⟨_,rfl⟩|⟨_,r,h⟩
  ·exact hb
  ·exact(v4 r x h).1
 have hp:bM w ⟨I,fun _ r=>vs.getD r undef,fun _=>b,fun _ r=>F r,⟨fun _=>none,fun _=>0⟩⟩ (fS ld ntmps cs args).look (.one (.ptr 0 0)) (.pointer (some ⟨b,0,none⟩)):=⟨_,hlk0,rfl⟩;refine⟨⟨I,fun _ r=>vs.getD r undef,fun _=>b,fun _ r=>F r,⟨fun _=>none,fun _=>0⟩⟩,⟨Bs.Bel.refl _,fun _ h=>h,hlt,fun _ _ h=>h,by simp[fS,hsz];omega,rfl,fun t v hv=>?_,rfl,fun t v hv=>?_,fun i c h=>?_,fun i xs h r x hx=>?_,
  fun i x h=>?_,fun i j x h1 h2=>?_,fun i xs r r' x h h1 h2 h3 h4=>v5 r r' x h3 h4,fun b h=>h.elim,⟨fun b hb'=>⟨hlt b hb',fun h=>(hL b h).2 hb'⟩,hG⟩,⟨(fun b ob h=>by cases h),rfl⟩⟩⟩
 ·match t with
  | 0 =>
   simp[fS]at hv;subst hv;have hg:(vals++Array.replicate (ntmps-vals.size) undef).getD 0 undef=vals.getD 0 undef:=by
    have:0<vals.size:=by omega
    rw[Gx,Array.getElem?_append_left this,<-Gx]
   simp only[hg,h0];exact hp
  | t + 1 =>
   simp only[fS,List.getElem?_cons_succ,List.getElem?_append,List.length_map,Gn]at hv;by_cases ht:t<args.length
   ·simp only[ht,if_true]at hv
    rw[Gi ht]at hv;simp only[Gv,Gj]at hv;subst hv;have:=hargs t _ (Gi ht);have hg:(vals++Array.replicate (ntmps-vals.size) undef).getD (t+1) undef=vals.getD (t+1) undef:=by
     have:t+1<vals.size:=by omega
     rw[Gx,Array.getElem?_append_left this,<-Gx]
    simp only[hg];exact this
   ·simp only[ht,if_false,List.getElem?_replicate]at hv
    split at hv
    ·simp only[Gj]at hv
     subst hv;show(vals++Array.replicate (ntmps-vals.size) undef).getD (t+1) undef=undef;rw[Gx,Array.getElem?_append_right (by omega),Array.getElem?_replicate];split<;>rfl
    ·cases hv
 ·match t with
  | 0=>simp[fS]at hv;subst hv;exact hp
  | t+1=>simp[fS]at hv
 ·rcases hlk i _ h with rfl|rfl
  ·rw[hlk0]at h
   cases h;refine⟨vs,ty,v1,sa (by simp[v2]) ffl ffs (fun k f' c hk hc hf=>?_)⟩;have hvk:vs.toList[k]? = some (vs.getD k undef):=by
    have:k<vs.size:=by rw[v2];exact(Gg.1 hc).1
    rw[Gl,Array.getElem?_eq_getElem this];simp[this]
   obtain⟨g1,g2',g3'⟩:=v3 k c hc;refine⟨_,hvk,g2',?_⟩;cases f' with
   | sc =>
    rcases g1 with⟨h8,_⟩|⟨_,h8⟩
    ·cases c<;>simp[nO,TV.isSc,TV.eK]at hf h8
    ·obtain⟨e1,e2⟩:=eE h8 hf
     exact⟨by rw[e1];exact .lit _,g2'⟩
   | any =>
    rcases g1 with⟨h8,_⟩|⟨_,h8⟩
    ·cases c<;>simp[nO,TV.gx,TV.eK]at hf h8
    ·exact⟨gP h8 hf,g2'⟩
   | sl =>
    rcases g1 with⟨h8,_⟩|⟨_,h8⟩
    ·cases c<;>simp[nO,TV.isSl,TV.eK]at hf h8
    ·exact⟨da ld.fl cs,c,c.nd,hlk1,jK _ _ k c .sl rfl hk hc,⟨rfl,rfl⟩,fE h8 hf⟩
   | bf e' =>
    rcases g1 with⟨h8,_⟩|⟨_,h8⟩
    ·rw[kz (f:=.bf e') rfl hf]at h8;cases h8
    ·exact⟨da ld.fl cs,c,c.nd,hlk1,jK _ _ k c (.bf e') rfl hk hc,⟨rfl,rfl⟩,rS h8 hf⟩
   | may =>
    rcases g1 with⟨_,h8⟩|⟨h8,_⟩
    ·exact⟨_,hlk0,⟨vs,(0,0),by rw[<-g3' hf];exact v1⟩,h8⟩
    ·rw[hf]at h8;cases h8
  ·rw[hlk1]at h;cases h
 ·rcases hlk i _ h with rfl|rfl
  ·rw[hlk0]at h;cases h
  ·rw[hlk1]at h
   cases h;rcases m0 _ _ ffl r x hx with rfl|⟨f6,h6,h6',h7⟩
   ·exact .fr (.hole _)
   ·rcases(v3 r x h7).1 with⟨h8,_⟩|⟨_,h8⟩
    ·rw[kz h6' (ffs r f6 x h6 h7)]at h8
     cases h8
    ·exact h8
 ·have:=hLb i x h
  exact⟨.inr this,(hL x this).1,(hL x this).2,fun h=>h.elim⟩
 ·rcases hft i x h1 with⟨rfl,e1⟩|⟨rfl,r,e1⟩<;>rcases hft j x h2 with⟨rfl,e2⟩|⟨rfl,r',e2⟩
  ·rfl
  ·exact absurd e1 (v4 r' x e2).2
  ·exact absurd e2 (v4 r x e1).2
  ·rfl
end
section
variable {E:Env} {C:Cal} {st:ASt} {T:Type} {J:List Nat->ASt->T->Prop} {r:T} {look:Look}
theorem A0 {c:CA} {k:TV->Prg T} (h:(i8 look c k).goes C J r):∃x,(k x).goes C J r:=by
 unfold i8 at h;split at h
 ·exact⟨_,h⟩
 ·split at h
  ·obtain⟨y,_,h⟩:=mE h;exact⟨y,h⟩
  ·exact h.elim
 ·split at h
  ·obtain⟨y,_,z,_,h⟩:=mE h;exact⟨z,h⟩
  ·exact h.elim
 ·exact h.elim
theorem vI {k:ASt->Prg T}:∀{l:List Nat} {st:ASt},(ph l st k).goes C J r->∃st',(k st').goes C J r
 | [],st,h=>⟨st,h⟩
 | s :: l, st, h => by
  have:∃st',(ph l st' k).goes C J r:=by
   unfold ph AF at h;split at h
   ·split at h
    ·exact⟨_,h⟩
    ·exact⟨_,h⟩
   ·exact⟨_,h⟩
   ·split at h
    ·obtain⟨y,_,h⟩:=h
     simp only[]at h;split at h
     ·exact⟨_,h⟩
     ·exact h.elim
    ·exact h.elim
   ·split at h
    ·obtain⟨_,h⟩:=h
     split at h
     ·exact⟨_,h⟩
     ·exact h.elim
    ·exact h.elim
  obtain⟨st',h'⟩:=this;exact vI h'
theorem xy {i c:Nat} {k:ASt->Prg T} (h:(vN st i c k).goes C J r):∃st',(k st').goes C J r:=by
 unfold vN at h;split at h
 ·split at h
  ·split at h
   ·split at h
    ·exact⟨_,h⟩
    ·exact⟨_,h⟩
   ·exact⟨_,h⟩
  ·exact⟨_,h⟩
 ·exact⟨_,h⟩
theorem pg {k : ASt → Prg T} : ∀ {l : List (Nat × Nat)} {st : ASt}, (iZ l st k).goes C J r → ∃ st', (k st').goes C J r
 | [],st,h=>⟨st,h⟩
 | (s, c) :: l, st, h => by
  have : ∃ st', (iZ l st' k).goes C J r := by
   simp only[iZ]at h;cases hb2:Nat.ble 2000 c with
   | true =>
    rw[hb2]at h;simp only[cond_true]at h;unfold wG As at h;split at h
    ·split at h
     ·split at h
      ·split at h
       ·obtain⟨_,_,_,_,h⟩:=h
        simp only[]at h;split at h
        ·split at h
         ·exact⟨_,h⟩
         ·exact h.elim
        ·exact h.elim
       ·exact h.elim
      ·exact⟨_,h⟩
     ·exact⟨_,h⟩
    ·exact⟨_,h⟩
   | false =>
   rw[hb2]at h;simp only[cond_false]at h;unfold AX at h;split at h
   ·split at h
    ·split at h
     ·exact xy (k:=fun st=>iZ l st k) h
     ·exact⟨_,h⟩
     ·split at h
      ·obtain⟨_,_,h⟩:=h
       simp only[]at h;split at h
       ·split at h
        ·exact xy (k:=fun st=>iZ l st k) h
        ·exact h.elim
       ·exact h.elim
      ·exact h.elim
     ·obtain⟨_,h⟩:=h
      split at h
      ·exact⟨_,h⟩
      ·exact h.elim
     ·exact h.elim
    ·exact h.elim
   ·exact h.elim
  obtain⟨st',h'⟩:=this;exact pg h'
theorem pre_ex {an:Option Ann} {k:ASt->Prg T} {st:ASt} (h:(preQ an k st).goes C J r):∃st',(k st').goes C J r:=by
 cases an with
 | none=>exact⟨_,h⟩
 | some an=>exact pg h
theorem rk {an:Ann} {k:ASt->Prg T} (h:(uN an st k).goes C J r):∃st',(k st').goes C J r:=by
 unfold uN at h;obtain⟨st1,h1⟩:=vI h;obtain⟨st2,h2⟩:=pg h1;unfold zW at h2;cases hc:ic (ip (ia an.keep (io (kH an.frz st2) an.kill)))&&(ip (ia an.keep (io (kH an.frz st2) an.kill))).length.ble dl&&dl.ble (ia an.keep (io (kH an.frz st2) an.kill)).boxes.length with
 | false=>rw[hc]at h2;exact h2.elim
 | true=>rw[hc]at h2;exact⟨_,h2⟩
theorem vP {ops:List Oper} {draw:Bool} {K:ASt->Prg T} (h:(kb E ops draw K st).goes C J r):∃st',(K st').goes C J r:=by
 unfold kb at h;cases draw with
 | false =>
  simp only[cond_false]at h;obtain⟨fin,h1,h⟩:=j3 h;exact⟨fin,h⟩
 | true =>
  simp only[cond_true]at h;cases hok:bC ops with
  | false=>rw[hok]at h;exact h.elim
  | true =>
   simp only[hok,cond_true]at h;obtain⟨fin,h1,h⟩:=j3 h;exact⟨fin,h⟩
theorem Cc {agg:Bool} {n:Nat} {x:AV} {k:List CA->Prg T} (h:(x.ba agg n k).goes C J r):∃cs,(k cs).goes C J r:=by
 unfold AV.ba at h;split at h
 ·rename_i c
  cases hc:c.kept with
  | true=>rw[hc]at h;exact⟨_,h⟩
  | false=>rw[hc]at h;exact h.elim
 ·exact⟨_,h.2⟩
 ·exact⟨_,h⟩
 ·exact⟨_,h⟩
 ·rename_i cs
  cases hc:cs.length.beq n with
  | true=>rw[hc]at h;exact⟨_,h⟩
  | false=>rw[hc]at h;exact h.elim
 ·exact⟨_,h.2⟩
 ·exact h.elim
theorem uQ:∀{ds:List TyD} {vs:List AV} {k:List (Bool × List CA)->Prg T},(tS ds vs k).goes C J r->∃l,(k l).goes C J r
 | [],[],k,h=>⟨_,h⟩
 | d::ds,v::vs,k,h=>by
  obtain⟨cs,h⟩:=Cc h;obtain⟨l,h⟩:=uQ h;exact⟨_,h⟩
 | [],v::vs,k,h=>h.elim
 | d::ds,[],k,h=>h.elim
theorem l8 {m:Nat} {k:ASt->Prg T} (h:(gu m st k).goes C J r):∃st2,(k st2).goes C J r:=by
 unfold gu at h;simp only[dQ,pD]at h;cases hc:ic (ip st)&&(ip st).length.ble dl&&dl.ble st.boxes.length with
 | false=>rw[hc]at h;exact h.elim
 | true=>rw[hc]at h;exact⟨_,h⟩
theorem Ao {f:FuncId} {fn:Func} {nt:Nat} {d:Option Tmp} {K:ASt->Prg T} {e:AEx} (h:(uB E f fn nt d K e st).goes C J r):∃st2,(K st2).goes C J r:=by
 have key:(match i6 E.T st fn.results.toList,mI E.T (E.rts f)with
  | some vs, some ds => bif nt.ble st.out.length then wl ds vs fun v =>
    gu fn.ntmps (ASt.put ⟨st.out.drop (st.out.length-nt),st.boxes,st.out.take (st.out.length-nt)⟩ d v) K else .fail
  | _,_=>.fail).goes C J r->∃st2,(K st2).goes C J r:=by
  intro h;split at h
  ·cases hle:nt.ble st.out.length with
   | false=>rw[hle]at h;exact h.elim
   | true =>
    rw[hle]at h;simp only[cond_true]at h;unfold wl at h;split at h
    ·exact l8 h
    ·obtain⟨l,h⟩:=uQ h
     exact l8 h
  ·exact h.elim
 cases e with
 | normal=>exact key h
 | ret=>exact key h
 | exit i=>exact h.elim
abbrev CV (E:Env) (L:Opn) (C:Cal) (J:List Nat->ASt->T->Prop) (r:T) (p:Prop) (n:Nat):Prop :=
 ∀(nt:Nat) (fi:FuncId) (ys:List Rng) (id:Nat) (rp:List Nat) (ops:List Oper) (draw:Bool) (K:ASt->Prg T) (st:ASt),(∀st',(K st').goes C J r->p)->(dE E L n nt fi ys id rp ops draw K st).goes C J r->p
abbrev CM (E:Env) (L:Opn) (C:Cal) (J:List Nat->ASt->T->Prop) (r:T) (p:Prop) (n:Nat):Prop :=
 ∀(nt:Nat) (fi:FuncId) (ys:List Rng) (rp:List Nat) (g:Operand) (ps:Array Tmp) (assign c:Code) (K:ASt->Prg T) (st:ASt),(∀st',(K st').goes C J r->p)->(dF E L n nt fi ys rp g ps assign c K st).goes C J r->p
theorem d7 {L:Opn} {n nt:Nat} {fi:FuncId} {ys:List Rng} {ann jn:Nat->Option Ann} {p:Prop} (hR:CV E L C J r p n) (hG:CM E L C J r p n) (hJ:∀rp st,J rp st r->p):∀(c:Code) (rp:List Nat) (K:AEx->ASt->Prg T) (st:ASt),(∀e st',(K e st').goes C J r->p)->(dq E (dE E L n nt fi ys) (dF E L n nt fi ys) ann jn rp c K st).goes C J r->p
 | .skip,rp,K,st,hK,h=>hK _ _ h
 | .region id ops draw,rp,K,st,hK,h=>by
  obtain⟨st1,h1⟩:=pre_ex h;exact hR nt fi ys id rp ops.toList draw (K .normal) st1 (fun st' h=>hK _ _ h) h1
 | .seq x y, rp, K, st, hK, h => by
  refine d7 hR hG hJ x (0::rp) _ st (fun e st' hk=>?_) h;cases e with
  | normal =>
   simp only[qd]at hk;cases han:iu jn y with
   | none=>rw[han]at hk;exact d7 hR hG hJ y (1::rp) K st' hK hk
   | some an=>rw[han]at hk;obtain⟨st2,h2⟩:=rk hk;exact hJ _ _ h2
  | ret=>exact hK _ _ hk
  | exit id=>exact hK _ _ hk
 | .cond c x y, rp, K, st, hK, h => by
  simp only[dq]at h;split at h
  ·rename_i v hv
   cases v with
   | true=>exact d7 hR hG hJ x (0::rp) K st hK h
   | false=>exact d7 hR hG hJ y (1::rp) K st hK h
  ·split at h
   ·obtain⟨b,_,h⟩:=h
    rcases h with⟨_,h⟩|⟨_,h⟩
    ·exact d7 hR hG hJ x (0::rp) K st hK h
    ·exact d7 hR hG hJ y (1::rp) K st hK h
   ·exact h.elim
 | .block id c, rp, K, st, hK, h => by
  refine d7 hR hG hJ c (0::rp) _ st (fun e st' hk=>?_) h;cases e with
  | normal=>exact hK _ _ hk
  | ret=>exact hK _ _ hk
  | exit i =>
   simp only[lN]at hk;cases hb:i.beq id<;>rw[hb]at hk<;>exact hK _ _ hk
 | .loop c,rp,K,st,hK,h=>by
  simp only[dq,u6]at h;cases han:iu ann c with
  | none=>rw[han]at h;exact h.elim
  | some an=>rw[han]at h;obtain⟨st2,h2⟩:=rk h;exact hJ _ _ h2
 | .exit id,rp,K,st,hK,h=>hK _ _ h
 | .ret,rp,K,st,hK,h=>hK _ _ h
 | .rangeFunc g ps assign c,rp,K,st,hK,h=>hG nt fi ys rp g ps assign c (K .normal) st (fun st' h=>hK _ _ h) h
 | .scope _,rp,K,st,hK,h=>h.elim
 | .label _,rp,K,st,hK,h=>h.elim
 | .goto _,rp,K,st,hK,h=>h.elim
 | .refuse _,rp,K,st,hK,h=>h.elim
theorem tK {y:Rng} {nt:Nat} {d:Option Tmp} {p:Prop} {K:ASt->Prg T} (hK:∀st',(K st').goes C J r->p) {e:AEx} {st:ASt} (h:(eS y nt d K e st).goes C J r):p:=by
 cases e with
 | ret=>exact h.elim
 | exit i=>exact h.elim
 | normal =>
  simp only[eS]at h;cases hle:nt.ble st.out.length with
  | false=>rw[hle]at h;exact h.elim
  | true =>
   rw[hle]at h;obtain⟨st2,h2⟩:=l8 h;exact hK _ h2
theorem Ar {fn:Func} {n nt:Nat} {p:Prop} {K:ASt->Prg T} (hK:∀st',(K st').goes C J r->p) {e:AEx} {st:ASt} (h:(xU fn n nt K e st).goes C J r):p:=by
 have key:(bif fn.results.size.beq 0&&nt.ble st.out.length then gu fn.ntmps ((st.aw (CA.unY n)).cut nt) K else .fail).goes C J r->p:=fun h=>by
  cases hle:fn.results.size.beq 0&&nt.ble st.out.length with
  | false=>rw[hle]at h;exact h.elim
  | true =>
   rw[hle]at h;obtain⟨st2,h2⟩:=l8 h;exact hK _ h2
 cases e with
 | ret=>exact key h
 | exit i=>exact h.elim
 | normal=>exact key h
theorem xz {p:Prop} {k:ASt->Prg T} (hk:∀st',(k st').goes C J r->p) {e:AEx} {st:ASt} (h:(pj k e st).goes C J r):p:=by
 cases e with
 | ret=>exact h.elim
 | exit i=>exact h.elim
 | normal=>exact hk _ h
theorem Av {draw:Bool} {all:List Oper} {j:Nat} {k:ASt->Prg T} {st:ASt} (h:(mP E draw all j k st).goes C J r):∃st2,(k st2).goes C J r:=by
 unfold mP at h;cases hb:d0 draw all j with
 | true=>rw[hb]at h;exact⟨_,h⟩
 | false =>
  rw[hb]at h;simp only[cond_false]at h;split at h
  ·unfold DY at h
   simp only[pD,dQ]at h;obtain⟨_,h⟩:=yq h;exact⟨_,(iB h).1⟩
  ·exact h.elim
theorem ni {L:Opn} {n:Nat} {p:Prop} (hR:CV E L C J r p n) (hG:CM E L C J r p n) (hJ:∀rp st,J rp st r->p) {nt:Nat} {fi:FuncId} {ys:List Rng} {id:Nat} {rp:List Nat} {draw:Bool} {all:List Oper} {K:ASt->Prg T} (hK:∀st',(K st').goes C J r->p) :
  ∀(l:List Oper) (j:Nat) (ex:List (List Nat)) (st:ASt),(eN E L (dE E L n) (dF E L n) nt fi ys id rp draw all K j l ex st).goes C J r->p
 | [],j,ex,st,h=>hK _ h
 | o :: rest, j, ex, st, h => by
  have plain:(opQ E all (lT draw ex all j o) (iy (eN E L (dE E L n) (dF E L n) nt fi ys id rp draw all K (j+1) rest ex)) st).goes C J r->p:=fun h=>by
   simp only[kN]at h;obtain⟨st1,h1,h2⟩:=ln h;exact ni hR hG hJ hK rest (j+1) ex st1 h2
  simp only[eN]at h;split at h
  ·rename_i y f fn rv cap hof
   cases hdn:ij all o st with
   | false=>rw[hdn]at h;exact plain h
   | true =>
   rw[hdn]at h;simp only[cond_true]at h;cases hb:d0 draw all j||(jm all j).isSome with
   | false=>rw[hb]at h;exact h.elim
   | true =>
    rw[hb]at h;simp only[cond_true]at h;unfold sY at h;split at h
    ·rename_i x xs hops
     cases hle:(rv.length+xs.length).beq fn.params.size&&(rv.length+xs.length+cap.length).ble fn.ntmps&&(st.slots.length.beq nt&&j.blt 1000)with
     | false=>rw[hle]at h;exact h.elim
     | true =>
      rw[hle]at h;simp only[cond_true,dQ]at h;refine d7 hR hG hJ _ _ _ _ (fun e st' hk=>?_) h;obtain⟨st2,h2⟩:=Ao hk;obtain⟨st3,h3⟩:=Av h2;exact ni hR hG hJ hK rest (j+1) _ st3 h3
    ·exact h.elim
  ·split at h
   ·rename_i m y hof
    cases hdn:ij all o st with
    | false=>rw[hdn]at h;exact plain h
    | true =>
    rw[hdn]at h;simp only[cond_true]at h;cases hb:!draw||(oL all j&&oL all (j+1))with
    | false=>rw[hb]at h;exact h.elim
    | true =>
     rw[hb]at h;simp only[cond_true]at h;unfold rQ at h;split at h
     ·rename_i x xs hops
      cases hle:xs.length.beq y.ps.size&&(st.slots.length.beq nt&&(j.blt 1000&&(!y.busy&&(y.off+y.nt).ble st.out.length)))with
      | false=>rw[hle]at h;exact h.elim
      | true =>
       rw[hle]at h;simp only[cond_true,dQ]at h;refine d7 hR hG hJ _ _ _ _ (fun e st' hk=>xz (fun st' hk=>?_) hk) h;refine d7 hR hG hJ _ _ _ _ (fun e st' hk=>tK (fun st2 h2=>?_) hk) hk;exact ni hR hG hJ hK rest (j+1) _ st2 h2
     ·exact h.elim
   ·exact plain h
theorem im {L:Opn} {p:Prop} (hJ:∀rp st,J rp st r->p):∀n,CV E L C J r p n/\CM E L C J r p n:=by
 intro n;induction n with
 | zero =>
  refine⟨?_,?_⟩
  ·intro nt fi ys id rp ops draw K st hK h
   simp only[dE]at h;obtain⟨st',h'⟩:=vP h;exact hK _ h'
  ·intro nt fi ys rp g ps assign c K st hK h
   simp only[dF]at h;exact h.elim
 | succ n ih =>
  refine⟨?_,?_⟩
  ·intro nt fi ys id rp ops draw K st hK h
   simp only[dE]at h;cases ha:rx L ops with
   | false=>rw[ha]at h;obtain⟨st',h'⟩:=vP h;exact hK _ h'
   | true =>
    rw[ha]at h;simp only[cond_true]at h;cases hd:!draw||bC ops with
    | false=>rw[hd]at h;exact h.elim
    | true=>rw[hd]at h;exact ni ih.1 ih.2 hJ hK ops 0 _ st h
  ·intro nt fi ys rp g ps assign c K st hK h
   simp only[dF,vb]at h;split at h
   ·split at h
    ·rename_i fn hfn
     rename_i cs _ _;cases hle:Nat.beq fn.params.size 1&&((cs.length+1).ble fn.ntmps&&(st.aw (CA.unY ys.length)).slots.length.beq nt)with
     | false=>rw[hle]at h;exact h.elim
     | true =>
      rw[hle]at h;simp only[cond_true,dQ]at h;exact d7 ih.1 ih.2 hJ _ _ _ _ (fun e st' hk=>Ar hK hk) h
    ·exact h.elim
   ·exact h.elim
theorem kY {L : Opn} {p : Prop} (hJ : ∀ rp st, J rp st r → p) : ∀ (q : List Nat) (n no nt : Nat) (fi : FuncId) (ys : List Rng) (rp : List Nat) (c : Code) (K : AEx → ASt → Prg T) (st : ASt), (∀ e st', (K e st').goes C J r → p) → (goQ E L q n no nt fi ys rp c K st).goes C J r → p
 | [],n,no,nt,fi,ys,rp,c,K,st,hK,h=>by
  rw[AP]at h;exact d7 (im hJ n).1 (im hJ n).2 hJ c rp K st hK h
 | x :: q, n, no, nt, fi, ys, rp, c, K, st, hK, h => by
  have hround:∀(c:Code) (e:AEx) (st':ASt),(s9 (iu (L.ann fi) c) (0::rp) K e st').goes C J r->p:=by
   intro c e st' hk;cases e with
   | normal =>
    simp only[s9,u6]at hk;cases han:iu (L.ann fi) c with
    | none=>rw[han]at hk;exact hk.elim
    | some an=>rw[han]at hk;obtain⟨st2,h2⟩:=rk hk;exact hJ _ _ h2
   | ret=>exact hK _ _ hk
   | exit id=>exact hK _ _ hk
  have hblock:∀(id:Nat) (e:AEx) (st':ASt),(lN id K e st').goes C J r->p:=by
   intro id e st' hk;cases e with
   | normal=>exact hK _ _ hk
   | ret=>exact hK _ _ hk
   | exit i =>
    simp only[lN]at hk;cases hb:i.beq id<;>rw[hb]at hk<;>exact hK _ _ hk
  have hthen:∀(y:Code) (e:AEx) (st':ASt),(qd (iu (L.jn fi) y) (1::rp) (dq E (dE E L n nt fi ys) (dF E L n nt fi ys) (L.ann fi) (L.jn fi) (1::rp) y K) K e st').goes C J r->p:=by
   intro y e st' hk;cases e with
   | normal =>
    simp only[qd]at hk;cases han:iu (L.jn fi) y with
    | none=>rw[han]at hk;exact d7 (im hJ n).1 (im hJ n).2 hJ y (1::rp) K st' hK hk
    | some an=>rw[han]at hk;obtain⟨st2,h2⟩:=rk hk;exact hJ _ _ h2
   | ret=>exact hK _ _ hk
   | exit id=>exact hK _ _ hk
  cases c with
  | seq a b =>
   cases x with
   | zero=>exact kY hJ q n no nt fi ys _ a _ st (hthen b) h
   | succ m=>exact kY hJ q n no nt fi ys _ b K st hK h
  | cond o a b =>
   cases x with
   | zero=>exact kY hJ q n no nt fi ys _ a K st hK h
   | succ m=>exact kY hJ q n no nt fi ys _ b K st hK h
  | block id c=>exact kY hJ q n no nt fi ys _ c _ st (hblock id) h
  | loop c=>exact kY hJ q n no nt fi ys _ c _ st (hround c) h
  | rangeFunc g ps assign c =>
   cases n with
   | zero=>exact h.elim
   | succ n =>
    rw[A9]at h;split at h
    ·exact kY hJ q n _ _ _ _ _ _ _ st (fun e st' hk=>Ar (fun st' h=>hK _ _ h) hk) h
    ·exact h.elim
  | region id ops draw =>
   cases n with
   | zero=>exact h.elim
   | succ n' =>
    rw[rd]at h;cases hx:(x%2).beq 0 with
    | true =>
     rw[hx]at h;simp only[cond_true]at h;split at h
     ·split at h
      ·rename_i o ho f fn hof
       cases hd:!draw||bC ops.toList with
       | false=>rw[hd]at h;exact h.elim
       | true =>
        rw[hd]at h;simp only[cond_true]at h;refine kY hJ q n' _ fn.ntmps f _ _ (cm fn) _ st (fun e st' hk=>?_) h;obtain⟨st2,h2⟩:=Ao hk;obtain⟨st3,h3⟩:=Av h2;exact ni (im hJ n').1 (im hJ n').2 hJ (fun st' h=>hK _ _ h) _ _ _ st3 h3
      ·exact h.elim
     ·exact h.elim
    | false =>
     rw[hx]at h;simp only[cond_false]at h;split at h
     ·split at h
      ·rename_i o ho y hy
       cases hd:!draw||bC ops.toList with
       | false=>rw[hd]at h;exact h.elim
       | true =>
        rw[hd]at h;simp only[cond_true]at h;cases hz:((x-3) / 2 / 1000%2).beq 0 with
        | true =>
         rw[hz]at h;simp only[cond_true]at h;refine kY hJ q n' _ _ _ _ _ _ _ st (fun e st' hk=>xz (fun st' hk=>?_) hk) h;refine d7 (im hJ n').1 (im hJ n').2 hJ _ _ _ _ (fun e st' hk=>tK (fun st2 h2=>?_) hk) hk;exact ni (im hJ n').1 (im hJ n').2 hJ (fun st' h=>hK _ _ h) _ _ _ st2 h2
        | false =>
         rw[hz]at h;simp only[cond_false]at h;refine kY hJ q n' _ _ _ _ _ _ _ st (fun e st' hk=>tK (fun st2 h2=>?_) hk) h;exact ni (im hJ n').1 (im hJ n').2 hJ (fun st' h=>hK _ _ h) _ _ _ st2 h2
      ·exact h.elim
     ·exact h.elim
  | _=>exact h.elim
end
section
variable {C:Cal} {J:List Nat->ASt->TV->Prop} {r:TV} {look:Look} {rs:List (Nat × Nat)}
theorem tF {c:CA} {k:TV->Prg TV} (h:(mJ look rs c k).goes C J r):∃x,(k x).goes C J r:=by
 unfold mJ at h;split at h
 ·exact⟨_,h⟩
 ·obtain⟨x,h⟩:=A0 h;exact⟨_,h⟩
 ·obtain⟨x,h⟩:=A0 h;exact⟨_,h⟩
 ·exact h.elim
theorem xq:∀{l:List CA} {k:List TV->Prg TV},(Bd look rs l k).goes C J r->∃x,(k x).goes C J r
 | [],k,h=>⟨_,h⟩
 | c::l,k,h=>by
  obtain⟨x,h⟩:=tF h;obtain⟨xs,h⟩:=xq h;exact⟨_,h⟩
theorem En {v:AV} {k:TV->Prg TV} (h:(Ax look rs v k).goes C J r):∃x,(k x).goes C J r:=by
 unfold Ax at h;split at h
 ·exact tF h
 ·exact⟨_,h⟩
 ·obtain⟨xs,h⟩:=xq h;exact⟨_,h⟩
 ·exact h.elim
 ·exact h.elim
 ·exact⟨_,h⟩
theorem t7:∀{l:List AV} {k:List TV->Prg TV},(gives look rs l k).goes C J r->∃x,(k x).goes C J r
 | [],k,h=>⟨_,h⟩
 | c::l,k,h=>by
  obtain⟨x,h⟩:=En h;obtain⟨xs,h⟩:=t7 h;exact⟨_,h⟩
theorem uf {i:Nat} {ty:TypeId}:∀{l:List CA} {k:List TV->Prg TV},(mR look rs i ty l k).goes C J r->∃x,(k x).goes C J r
 | [],k,h=>⟨_,h⟩
 | c :: l, k, h => by
  have gen:(mJ look rs c fun x=>mR look rs i ty l fun xs=>k (x::xs)).goes C J r->∃x,(k x).goes C J r:=fun h=>by
   obtain⟨x,h⟩:=tF h;obtain⟨xs,h⟩:=uf h;exact⟨_,h⟩
  cases c with
  | may j t =>
   simp only[mR]at h;cases hb:j.beq i&&t.beq ty with
   | false=>rw[hb]at h;exact h.elim
   | true=>rw[hb]at h;obtain⟨xs,h⟩:=uf h;exact⟨_,h⟩
  | t x=>exact gen h
  | ptr i off=>exact gen h
  | ref x off=>exact gen h
  | tptr i r p k j=>exact gen h
  | sref i r p=>exact gen h
  | swin i r p lo len=>exact gen h
  | aptr i off len n=>exact gen h
  | ifp ty i=>exact gen h
  | fn1 q i=>exact gen h
  | psl i n=>exact gen h
  | yl n=>exact gen h
  | undef=>exact gen h
  | junk=>exact gen h
theorem BH {T:Tab} {ld:fx} {vs:List ResultVar} {st:ASt} (h:(CU T ld vs st).goes C J r):∃r0 cs',r=.tup [r0,.tup cs']:=by
 unfold CU at h;split at h
 ·split at h
  ·obtain⟨ys,h⟩:=t7 h
   obtain⟨zs,h⟩:=uf h;have h:TV.tup [qp ys,.tup zs]=r:=h;exact⟨_,_,h.symm⟩
  ·exact h.elim
 ·exact h.elim
theorem Ff {T:Tab} {vs:List ResultVar} {st:ASt} (h:(CQ T true vs st).goes C J r):isOwn r=true:=by
 unfold CQ at h;split at h
 ·obtain⟨ys,h⟩:=t7 h
  split at h
  ·obtain⟨h1,h2⟩:=h
   have h2:_=r:=h2;subst h2;exact h1
  ·obtain⟨h1,h2⟩:=h
   have h2:_=r:=h2;subst h2;exact h1
 ·exact h.elim
end
structure AProg.Ok (P:Program) (G:Laid) (A:AProg):Prop where
 ty:∀t d,A.T t=some d->aW P t d
 fn : ∀ f fn, A.fns f = some fn → P.funcs[f]? = some fn ∧ (fn.name == "runtime.NumGoroutine") = false ∧ fn.body.isSome = true
 mixed:P.follows .mixedOrders=true
 ext:∀f g xs r,A.ext f=some g->g xs=some r->(A.turn f=true->AZ P G f xs r)/\(A.turn f=false->(A.eye f=true->A7 P G f xs r)/\(A.eye f=false->B0 P G A.env f xs r))
 mth:∀t name f d,A.mth t name=some (f,d)->FY P t name f d
section
variable {P:Program} {G:Laid} {A:AProg}
theorem qy:∀{l asz:List TV} {z:TV},tC l=some (asz,z)->l=asz ++ [z]
 | [],_,_,h=>by cases h
 | [x],_,_,h=>by simp only[tC,Gj,Prod.mk.injEq]at h;obtain⟨rfl,rfl⟩:=h;rfl
 | x :: y :: l, asz, z, h => by
  simp only[tC]at h;split at h
  ·rename_i asz' z' h1
   simp only[Gj,Prod.mk.injEq]at h;obtain⟨rfl,rfl⟩:=h;rw[qy h1];rfl
  ·cases h
theorem pQ {T:Tab} {ld:Option fx} {pk pu:Bool} {rs:List ResultVar} {C:Cal} {J:List Nat->ASt->TV->Prop} {e:AEx} {st:ASt} {x:TV} (h:(DX T ld pk pu rs e st).goes C J x):(e=.normal\/e=.ret)/\(EX T ld pk pu rs st).goes C J x:=by
 cases e with
 | normal=>exact⟨.inl rfl,h⟩
 | ret=>exact⟨.inr rfl,h⟩
 | exit id=>exact h.elim
theorem zm (hA:A.Ok P G) {C':FuncId->List TV->Option TV} (hC:yB P G A.env (fun f xs v=>C' f xs=some v)) {n:Nat} {f:FuncId} {args:List TV} {r:TV} (h:(ao A f args).run C' (iN A C' f n)=some r) :
  (A.turn f=true->AZ P G f args r)/\(A.turn f=false->(A.eye f=true->A7 P G f args r)/\(A.eye f=false->B0 P G A.env f args r)):=by
 have hgo:=dN h;unfold ao at hgo;cases hgate:A.turn f||(A.eye f&&((A.peek f).isSome||(A.lent f).isSome))with
 | true=>rw[hgate]at hgo;exact hgo.elim
 | false =>
 rw[hgate]at hgo;simp only[cond_false]at hgo;simp only[Bool.or_eq_false_iff,Bool.and_eq_false_iff]at hgate;obtain⟨htn,heg⟩:=hgate;refine⟨fun h=>(by rw[htn]at h;cases h),fun _=>?_⟩;obtain⟨fn,hf⟩:∃fn,A.fns f=some fn:=by
  cases hf:A.fns f with
  | some fn=>exact⟨fn,rfl⟩
  | none=>cases hpk:A.peek f<;>rw[hpk,hf]at hgo<;>exact hgo.elim
 rw[hf]at hgo;obtain⟨hfn,hname,hbody⟩:=hA.fn f fn hf;have hE:gc P G A.env (fun f xs v=>C' f xs=some v):=⟨hA.ty,hC⟩;have hL:qD P A.opens:=⟨fun g gn hg=>by
  simp only[AProg.opens]at hg;cases ho:A.opn g with
  | false=>rw[ho]at hg;cases hg
  | true=>rw[ho]at hg;exact hA.fn g gn hg,hA.mth⟩
 have key:∀(w0:Bs) (I0:Nat->Prop) (ov:List Value) (Z:Ending->World->Prop),w0.G=G->w0.ds=[]->w0.Ok I0->ov.length=pc A f->(∀(J:List Nat->ASt->TV->Prop) (st':ASt) (a:Act) (w:World),(EX A.T (A.lent f) (A.peek f).isSome (A.pure f) fn.results.toList st').goes (fun f xs v=>C' f xs=some v) J r->Sim w0 I0 st' a ov w->∃v,(results fn a.tmps).run P w=.ok v w/\Z (.returned v) w) ->
   ∀n rp c Q F st a w,At P A.opens I0 (cm fn) (bodyPostM (Rd none) 0 P fn Z) ⟨ov,fn.ntmps,f,w0,[],none⟩ rp c Q F->(fh A f rp st).goes (fun f xs v=>C' f xs=some v) (fun rp st r=>iN A C' f n rp st=some r) r->eD I0 F st a w->c.wpIn (Rd F.ro) 0 P Q a w:=by
  intro w0 I0 ov Z hwG hwd hwok hovl hZ;have h0:Fr.Ok I0 ⟨ov,fn.ntmps,f,w0,[],none⟩:=⟨⟨fun m y h=>by simp at h,fun m m' h=>by simp at h⟩,hwok,hwd,(fun l h=>by cases h),fun m h=>by simp at h⟩;have hend:∀(J:List Nat->ASt->TV->Prop) (e:AEx) (st':ASt) (a:Act) (w:World),(DX A.T (A.lent f) (A.peek f).isSome (A.pure f) fn.results.toList e st').goes (fun f xs v=>C' f xs=some v) J r->eD I0 ⟨ov,fn.ntmps,f,w0,[],none⟩ st' a w->bodyPostM (Rd none) 0 P fn Z (kT e) a w:=by
   intro J e st' a w hk hs;obtain⟨he,hr⟩:=pQ hk;refine oP h0 he hs (fun w2 B2 hE2 hd2 hs2=>?_);have hb:B2.Bel w2:=by obtain⟨g,hs⟩:=hs2;exact hs.below
   have hs3:Sim w0 I0 st' { tmps:=a.tmps,defers:=[] } ov w2:=kv hs2 ⟨hE2.bel w2 hb,hwok,Nat.le_refl _,fun b h _=>⟨hE2.new b h,rfl⟩,fun _ _=>rfl,hE2.out⟩ hE2.Y.symm rfl hwd.symm;exact hZ J st' { tmps:=a.tmps,defers:=[] } w2 hr hs3
  have piece:∀n,JOk P A.opens I0 (cm fn) (bodyPostM (Rd none) 0 P fn Z) ⟨ov,fn.ntmps,f,w0,[],none⟩ (fun rp st r=>iN A C' f n rp st=some r) r ->
    ∀rp c Q F st a w,At P A.opens I0 (cm fn) (bodyPostM (Rd none) 0 P fn Z) ⟨ov,fn.ntmps,f,w0,[],none⟩ rp c Q F->(fh A f rp st).goes (fun f xs v=>C' f xs=some v) (fun rp st r=>iN A C' f n rp st=some r) r->eD I0 F st a w->c.wpIn (Rd F.ro) 0 P Q a w:=by
   intro n hJ rp c Q F st a w hat hg hs;unfold fh at hg;rw[hf]at hg;simp only[]at hg;rw[<-hovl]at hg;exact DT hE h0 hwG hA.mixed hL hJ hat.toF uX [] _ st a w .top hg hs (hend _)
  have hJ:∀n,JOk P A.opens I0 (cm fn) (bodyPostM (Rd none) 0 P fn Z) ⟨ov,fn.ntmps,f,w0,[],none⟩ (fun rp st r=>iN A C' f n rp st=some r) r:=by
   intro n;induction n with
   | zero=>intro rp c Q F st a w _ h;simp[iN]at h
   | succ n ih =>
    intro rp c Q F st a w hat h hs;exact piece n ih rp c Q F st a w hat (dN h) hs
  exact fun n=>piece n (hJ n)
 have simx:∀{w0:Bs} {I0:Nat->Prop} {ov:List Value} {st:ASt} {a:Act} {w:World},w0.ds=[]->Sim w0 I0 st a ov w->eD I0 ⟨ov,fn.ntmps,f,w0,[],none⟩ st a w:=fun hd hs=>⟨_,.refl hd,(fun h=>by cases h),hs⟩
 have okof:∀{w0:Bs} {I0:Nat->Prop} {ov:List Value} {st:ASt} {a:Act} {w:World},Sim w0 I0 st a ov w->w0.Ok I0:=fun⟨g,hs⟩=>hs.base
 have enter:∀(w:World) (vals:Array Value),(callFunc f vals).run P w=.ok (.enter f vals) w:=fun w vals=>by
  cases hb:fn.body with
  | none=>rw[hb]at hbody;cases hbody
  | some c =>
   simp only[callFunc,Sem.run_bind,run_program,Result.andThen_ok,hfn,hname,hb];simp
 obtain⟨c,hb⟩:∃c,fn.body=some c:=by
  cases hb:fn.body with
  | none=>rw[hb]at hbody;cases hbody
  | some c=>exact⟨c,rfl⟩
 have hbo:cm fn=c:=by simp[cm,hb]
 cases hey:A.eye f with
 | true =>
  refine⟨fun _=>?_,fun h=>(by cases h)⟩;have hpl:A.peek f=none/\A.lent f=none:=by
   rcases heg with h|h
   ·rw[hey]at h;cases h
   ·simpa using h
  obtain⟨hpk,hln⟩:=hpl;rw[hpk,hln,hey]at hgo;simp only[cond_true]at hgo;split at hgo
  ·rename_i asz cs hsp
   have hargs0:=qy hsp;cases hle:asz.length.beq fn.params.size&&(asz.length+1).ble fn.ntmps with
   | false=>rw[hle]at hgo;exact hgo.elim
   | true =>
    rw[hle]at hgo;simp only[cond_true]at hgo;simp only[Gk,Nat.ble_eq]at hle;refine⟨asz,cs,hargs0,fun I w b vs ty vals hG hlt hheap hone hnI hvs hbs hrc hsz h0 hargs=>⟨enter w vals,fX.1 (callsIn_of_wp_marks (F:=Rd none) (n:=0) hfn hb trivial ?_)⟩⟩;have hst:=zO (ntmps:=fn.ntmps) hG hlt hheap hone hvs hrc hle.2 (by rw[hsz,hargs0];simp) h0 hargs;have hp:=key (Bs.of w (fun _=>False) G) I [] (fun e w'=>∃v,e=.returned v/\Below w.heap.size w w'/\∃I' S:Nat->Prop,(∀b,I b->I' b)/\(∀b,I' b->b<w'.heap.size)/\(∀b,b<w.heap.size->I' b->I b) /\
      (∀b,S b->w.heap.size<=b/\b<w'.heap.size/\¬I' b)/\ap w' I' r v S) rfl rfl (okof hst) (by simp only[pc,hpk,hln];rfl) (fun J st' a w' hr ⟨g,hs⟩=>by
     rw[hpk,hln]at hr;obtain⟨v,h1,I',S,h2,h3,h4,h5,h6⟩:=uM (P:=P) (E:=A.env) hA.ty hs hr;refine⟨v,h1,v,rfl,⟨hs.below.os,hs.below.tape,hs.below.output,hs.below.size,fun k hk=>hs.below.block k hk (fun h=>h)⟩,I',S,h2,h3,fun b hb=>h4 b (fun h=>h.elim (fun h=>by have:w.heap.size<=b:=h;omega) (fun h=>h)),fun b hb=>?_,h6⟩;obtain⟨q1,q2,q3⟩:=h5 b hb;exact⟨q1.elim (fun h=>h) (fun h=>h.elim),q2,q3⟩)
    exact hp n [] c _ ⟨[],fn.ntmps,f,Bs.of w (fun _=>False) G,[],none⟩ _ _ w (by rw[hbo];exact .top) hgo (simx rfl hst)
  ·exact hgo.elim
 | false =>
 refine⟨fun h=>(by cases h),fun _=>?_⟩;have hge:∀(p q:Prg TV),(bif A.eye f then p else q)=q:=fun p q=>by rw[hey];rfl
 simp only[hge]at hgo;show(A.peek f=none->(A.lent f=none->DB P G f args r/\(A.pure f=true->isOwn r=true))/\∀ld,A.lent f=some ld->FJ P G ld f args r)/\∀c,A.peek f=some c->F9 P G c f args r;cases hpk:A.peek f with
 | some c0 =>
  rw[hpk]at hgo;refine⟨fun h=>(by cases h),fun c1 hc1=>?_⟩;cases hc1;cases args with
  | nil=>exact hgo.elim
  | cons x rest =>
   have hgo:((bif (rest.length+1).beq fn.params.size&&(rest.length+1).ble fn.ntmps&&c0.1.blt c0.2 then fh A f [] (iW c0 fn.ntmps x rest)else .fail):Prg TV).goes (fun f xs v=>C' f xs=some v) (fun rp st r=>iN A C' f n rp st=some r) r:=hgo;cases hle:(rest.length+1).beq fn.params.size&&(rest.length+1).ble fn.ntmps&&c0.1.blt c0.2 with
   | false=>rw[hle]at hgo;exact hgo.elim
   | true =>
    rw[hle]at hgo;simp only[cond_true]at hgo;simp only[Gk,Nat.ble_eq]at hle;refine⟨x,rest,rfl,fun I w b vs ty vals hG hlt hheap hone hnI hvs hc hbs hrx hsz h0 hargs=>⟨enter w vals,fX.1 (callsIn_of_wp_marks (F:=Rd none) (n:=0) hfn hb trivial ?_)⟩⟩;have hst:=zc hG hlt hheap hone hvs hrx hle.1.2 (by simpa using hsz) h0 hargs;have hp:=key (Bs.of w (fun _=>False) G) I [] (fun e w'=>∃v,e=.returned v/\Below w.heap.size w w'/\∃I':Nat->Prop,(∀b,I b->I' b)/\(∀b,I' b->b<w'.heap.size)/\(∀b,b<w.heap.size->I' b->I b)/\Rep w' I' r v) rfl rfl (okof hst) (by simp only[pc,hpk];rfl) (fun J st' a w' hr ⟨g,hs⟩=>by
     rw[hpk]at hr;obtain⟨v,h1,h2⟩:=zJ (P:=P) (E:=A.env) hA.ty hs hr;exact⟨v,h1,v,rfl,⟨hs.below.os,hs.below.tape,hs.below.output,hs.below.size,fun k hk=>hs.below.block k hk (fun h=>h)⟩,g.I,hs.sub,hs.lt,fun b hb=>hs.old b (fun h=>h.elim (fun h=>by have:w.heap.size<=b:=h;omega) (fun h=>h)),h2⟩)
    exact hp n [] c _ ⟨[],fn.ntmps,f,Bs.of w (fun _=>False) G,[],none⟩ _ _ w (by rw[hbo];exact .top) hgo (simx rfl hst)
 | none =>
  rw[hpk]at hgo;simp only[]at hgo;refine⟨fun _=>⟨fun hln=>?_,fun ld hld=>?_⟩,fun c h=>(by cases h)⟩
  ·rw [hln] at hgo
   simp only[]at hgo;cases hle:args.length.beq fn.params.size&&args.length.ble fn.ntmps with
   | false=>rw[hle]at hgo;exact hgo.elim
   | true =>
    rw[hle]at hgo;simp only[cond_true]at hgo;simp only[Gk,Nat.ble_eq]at hle;refine⟨?_,?_⟩
    ·intro I w vals hG hlt hsz hargs
     refine⟨enter w vals,fX.1 (callsIn_of_wp_marks (F:=Rd none) (n:=0) hfn hb trivial ?_)⟩;have hst:=Cw hG hlt hle.2 hsz hargs;have hp:=key (Bs.of w (fun _=>False) G) I [] (fun e w'=>∃v,e=.returned v/\Below w.heap.size w w'/\∃I' S:Nat->Prop,(∀b,I b->I' b)/\(∀b,I' b->b<w'.heap.size)/\(∀b,b<w.heap.size->I' b->I b) /\
       (∀b,S b->w.heap.size<=b/\b<w'.heap.size/\¬I' b)/\ap w' I' r v S) rfl rfl (okof hst) (by simp only[pc,hpk,hln];rfl) (fun J st' a w' hr ⟨g,hs⟩=>by
      rw[hpk,hln]at hr;obtain⟨v,h1,I',S,h2,h3,h4,h5,h6⟩:=uM (P:=P) (E:=A.env) hA.ty hs hr;refine⟨v,h1,v,rfl,⟨hs.below.os,hs.below.tape,hs.below.output,hs.below.size,fun k hk=>hs.below.block k hk (fun h=>h)⟩,I',S,h2,h3,fun b hb=>h4 b (fun h=>h.elim (fun h=>by have:w.heap.size<=b:=h;omega) (fun h=>h)),fun b hb=>?_,h6⟩;obtain⟨q1,q2,q3⟩:=h5 b hb;exact⟨q1.elim (fun h=>h) (fun h=>h.elim),q2,q3⟩)
     exact hp n [] c _ ⟨[],fn.ntmps,f,Bs.of w (fun _=>False) G,[],none⟩ _ _ w (by rw[hbo];exact .top) hgo (simx rfl hst)
    ·intro hp
     have hend:∀(J:List Nat->ASt->TV->Prop) (e:AEx) (st':ASt),(DX A.T (A.lent f) (A.peek f).isSome (A.pure f) fn.results.toList e st').goes (fun f xs v=>C' f xs=some v) J r->isOwn r=true:=by
      intro J e st' hk;obtain⟨_,hr⟩:=pQ hk;rw[hp,hln,hpk]at hr;exact Ff hr
     have piece:∀(J:List Nat->ASt->TV->Prop),(∀rp st,J rp st r->isOwn r=true)->∀rp st,(fh A f rp st).goes (fun f xs v=>C' f xs=some v) J r->isOwn r=true:=by
      intro J hJ rp st hg;unfold fh at hg;rw[hf]at hg;exact kY hJ _ _ _ _ _ _ _ _ _ _ (hend J) hg
     have hJ:∀n,∀rp st,iN A C' f n rp st=some r->isOwn r=true:=by
      intro n;induction n with
      | zero=>intro rp st h;simp[iN]at h
      | succ n ih=>intro rp st h;exact piece _ ih rp st (dN h)
     exact piece _ (hJ n) _ _ hgo
  ·rw [hld] at hgo
   simp only[]at hgo;split at hgo
   ·rename_i cs rest
    cases hle:(rest.length+1).beq fn.params.size&&(rest.length+1).ble fn.ntmps with
    | false=>rw[hle]at hgo;exact hgo.elim
    | true =>
     rw[hle]at hgo;simp only[cond_true]at hgo;simp only[Gk,Nat.ble_eq]at hle;obtain⟨hfit,hgo⟩:=hgo;obtain⟨r0,cs',hr⟩:∃r0 cs',r=.tup [r0,.tup cs']:=by
      have hend:∀(J:List Nat->ASt->TV->Prop) (e:AEx) (st':ASt),(DX A.T (A.lent f) (A.peek f).isSome (A.pure f) fn.results.toList e st').goes (fun f xs v=>C' f xs=some v) J r->∃r0 cs',r=.tup [r0,.tup cs']:=by
       intro J e st' hk;obtain⟨_,hr⟩:=pQ hk;rw[hpk,hld]at hr;exact BH hr
      have piece:∀(J:List Nat->ASt->TV->Prop),(∀rp st,J rp st r->∃r0 cs',r=.tup [r0,.tup cs'])->∀rp st,(fh A f rp st).goes (fun f xs v=>C' f xs=some v) J r->∃r0 cs',r=.tup [r0,.tup cs']:=by
       intro J hJ rp st hg;unfold fh at hg;rw[hf]at hg;exact kY hJ _ _ _ _ _ _ _ _ _ _ (hend J) hg
      have hJ:∀n,∀rp st,iN A C' f n rp st=some r->∃r0 cs',r=.tup [r0,.tup cs']:=by
       intro n;induction n with
       | zero=>intro rp st h;simp[iN]at h
       | succ n ih=>intro rp st h;exact piece _ ih rp st (dN h)
      exact piece _ (hJ n) _ _ hgo
     refine⟨cs,rest,r0,cs',rfl,hr,fun I w b vals L hG hlt hL hV hsz h0 hargs=>⟨enter w vals,fX.1 (callsIn_of_wp_marks (F:=Rd none) (n:=0) hfn hb trivial ?_)⟩⟩;have hst:=yZ hG hlt hL hV hfit hle.2 (by simpa using hsz) h0 hargs;have hp:=key (Bs.of w L G) I [.pointer (some ⟨b,0,none⟩)] (fun e w'=>∃v,e=.returned v/\(Bs.of w L G).Bel w'/\∃I' L' S:Nat->Prop,(∀b,I b->I' b)/\(∀b,I' b->b<w'.heap.size)/\(∀b,¬(Bs.of w L G).New b->I' b->I b) /\
       (∀b,L' b->(Bs.of w L G).New b/\b<w'.heap.size/\¬I' b)/\ap w' I' r0 v S/\B9 w' I' ld b cs' L') rfl rfl (okof hst) (by simp only[pc,hpk,hld];rfl) (fun J st' a w' hr' ⟨g,hs⟩=>by
      rw[hpk,hld]at hr';obtain⟨v,h1,r1,cs1,h2,h3⟩:=zX (P:=P) (E:=A.env) hA.ty hs hr';rw[hr]at h2;cases h2;exact⟨v,h1,v,rfl,hs.below,h3⟩)
     exact hp n [] c _ ⟨[.pointer (some ⟨b,0,none⟩)],fn.ntmps,f,Bs.of w L G,[],none⟩ _ _ w (by rw[hbo];exact .top) hgo (simx rfl hst)
   ·exact hgo.elim
theorem qL (hA:A.Ok P G):∀n,yB P G A.env (fun f xs v=>acall A n f xs=some v)
 | 0=>fun f xs r h=>by simp[acall]at h
 | n + 1 => fun f xs r h => by
  have h:acall A (n+1) f xs=some r:=h;simp only[acall]at h;split at h
  ·rename_i g hg
   exact hA.ext f g xs r hg h
  ·exact zm hA (qL hA n) h
end
end Go.Ab

import Derived.Test.YtpkpckdealhkhaaAM15
import Derived.ProofKit
import Derived.OpenShut
import Derived.Carry
import Derived.Deep.Slices
import Derived.Test.YtpkpckdealhkhaaAC14T
set_option linter.all false
section
namespace Go.Ab
open Go.RowKit
section
variable {P:Program} {E:Env} {C:Cal} {w0:Bs} {w w':World} {I0 I R:Nat->Prop} {g g':Gh} {st st':ASt} {a:Act} {ov:List Value} {look:Look} {T:Type} {J:List Nat->ASt->T->Prop} {rs:List (Nat × Nat)}
def mN:CA->Option (Nat × Nat)
 | .sref i r _=>some (i,r)
 | .swin i r _ _ _=>some (i,r)
 | _=>none
def ui (g:Gh) (look:Look) (i r b:Nat):Prop:=∃xs,look i=some (.tree xs)/\r<xs.length/\g.φ i r b
def CF (g:Gh) (look:Look) (rs:List (Nat × Nat)) (c:CA) (b:Nat):Prop:=∃i r,mN c=some (i,r)/\qf rs i r=true/\ui g look i r b
def I2 (g:Gh) (look:Look) (rs:List (Nat × Nat)) (b:Nat):Prop:=g.I b\/∃i r,qf rs i r=false/\ui g look i r b
theorem ui.foot {i r b:Nat} (h:ui g look i r b):Foot g look i b:=by
 obtain⟨xs,h1,h2,h3⟩:=h
 exact .inr ⟨xs,r,h1,h2,h3⟩
theorem al.Er (hs:al w0 I0 R g st a ov w) {i r i' r' b:Nat} (h:ui g st.look i r b) (h':ui g st.look i' r' b):i=i'/\r=r':=by
 have:=hs.apart i i' b h.foot h'.foot
 subst this
 obtain⟨xs,h1,h2,h3⟩:=h
 obtain⟨xs',h1',h2',h3'⟩:=h'
 rw[h1]at h1'
 cases h1'
 exact⟨rfl,hs.apartR i xs r r' b h1 h2 h2' h3 h3'⟩
theorem tF (hs:al w0 I0 R g st a ov w) {c:CA} {u:Value} {k:TV->Prg TV} {J:List Nat->ASt->TV->Prop} {e:TV} (hc:bW w g st.look c u) (h:(sY st.look rs c k).goes C J e) :
  ∃x,(k x).goes C J e/\aq w (I2 g st.look rs) x u (CF g st.look rs c):=by
 have fin:∀{i r:Nat} {x:TV} {S:Nat->Prop} {xs:List TV},mN c=some (i,r)->st.look i=some (.tree xs)->r<xs.length->aq w g.I x u S->(∀b,S b->g.φ i r b)->(k (bif qf rs i r then x else frz x)).goes C J e ->
   ∃x,(k x).goes C J e/\aq w (I2 g st.look rs) x u (CF g st.look rs c):=by
  intro i r x S xs hr hl hrl hx hS hk
  refine⟨_,hk,?_⟩
  cases hp:qf rs i r with
  | true=>exact hx.mv (fun _ _=>rfl) (fun _ h=>.inl h) (fun _ _=>rfl) (fun b hb=>⟨i,r,hr,hp,xs,hl,hrl,hS b hb⟩)
  | false=>exact .fr (hx.frz (I':=I2 g st.look rs) (fun _ h=>.inl h) (fun b hb=>.inr ⟨i,r,hp,xs,hl,hrl,hS b hb⟩))
 cases c with
 | t x=>exact⟨x,h,.fr (hc.1.mv (fun _ _=>rfl) (fun _ h=>.inl h))⟩
 | sref i r p =>
  simp only[sY,iZ]at h
  split at h
  ·rename_i x hx
   obtain⟨xs,h1,h2⟩:=aD hx
   obtain⟨y,h3,h4⟩:=mj h
   obtain⟨xs',x',nd,g1,g2,g3,g4⟩:=hc
   rw[h1]at g1
   cases g1
   rw[h2]at g2
   cases g2
   obtain⟨_,S',r1,r2⟩:=hs.at h1 h2 g3 h3
   exact fin rfl h1 (FP.1 h2).1 r1 r2 h4
  ·exact h.elim
 | swin i r p lo len =>
  simp only[sY,iZ]at h
  split at h
  ·rename_i x hx
   obtain⟨xs,h1,h2⟩:=aD hx
   obtain⟨y,h3,z,h4,h5⟩:=mj h
   obtain⟨xs',x',u0,nd,g1,g2,g3,g4,g5⟩:=hc
   rw[h1]at g1
   cases g1
   rw[h2]at g2
   cases g2
   obtain⟨e1,S',r1,r2⟩:=hs.at h1 h2 g3 h3
   exact fin rfl h1 (FP.1 h2).1 (dI r1 e1 g5 h4) r2 h5
  ·exact h.elim
 | _=>exact h.elim
theorem sJ (hs:al w0 I0 R g st a ov w) {J:List Nat->ASt->TV->Prop}:∀{cs:List CA} {us:List Value} {k:List TV->Prg TV} {e:TV},CR w g st.look cs us->(AG st.look rs cs k).goes C J e ->
  ∃ys,(k ys).goes C J e/\ys.length=cs.length/\∀(m:Nat) (c:CA) (y:TV) (u:Value),cs[m]? = some c->ys[m]? = some y->us[m]? = some u->aq w (I2 g st.look rs) y u (CF g st.look rs c)
 | [],us,k,e,hcr,h=>⟨[],h,rfl,fun m c y u hc=>by simp at hc⟩
 | c :: l, us, k, e, hcr, h => by
  obtain⟨u0,us',rfl⟩:∃u0 us',us=u0::us':=by
   cases us with
   | nil=>have:=hcr.1;simp at this
   | cons u0 us'=>exact⟨u0,us',rfl⟩
  have hc:=hcr.2 0 c u0 rfl rfl
  have hcr':CR w g st.look l us':=⟨by have:=hcr.1;simpa using this,fun j c' u hc' hu'=>hcr.2 (j+1) c' u (by simpa using hc') (by simpa using hu')⟩
  obtain⟨y,h1,h2⟩:=tF hs hc.1 h
  obtain⟨ys,h3,h4,h5⟩:=sJ hs hcr' h1
  refine⟨y::ys,h3,by simp[h4],fun m c' y' u hc' hy hu=>?_⟩
  cases m with
  | zero=>simp at hc' hy hu;subst hc' hy hu;exact h2
  | succ m=>simp at hc' hy hu;exact h5 m c' y' u hc' hy hu
theorem ce (i r:Nat):∀(l l':List (Nat × Nat)),cN i r (l++l')=cN i r l+cN i r l'
 | [],l'=>by simp[cN]
 | (p,q)::l,l'=>by
  simp only[List.cons_append,cN,ce i r l l']
  cases p.beq i&&q.beq r<;>simp<;>omega
theorem gN (c:CA) (l:List CA):fq (c::l)=fq [c]++fq l:=by cases c<;>rfl
theorem pf {i r:Nat} {c:CA} (h:mN c=some (i,r)):cN i r (fq [c])=1:=by
 cases c<;>simp[mN]at h<;>obtain⟨rfl,rfl⟩:=h<;>simp[fq,cN]
theorem jO {i r:Nat} {c:CA} (h:mN c=some (i,r)):∀{cs:List CA} {m:Nat},cs[m]? = some c->1<=cN i r (fq cs)
 | [],m,hm=>by simp at hm
 | d::cs,0,hm=>by
  simp at hm
  subst hm
  rw[gN,ce,pf h]
  omega
 | d::cs,m+1,hm=>by
  rw[gN,ce]
  have:=jO h (cs:=cs) (m:=m) (by simpa using hm)
  omega
theorem uV {i r:Nat} {c c':CA} (h:mN c=some (i,r)) (h':mN c'=some (i,r)):∀{cs:List CA} {m m':Nat},cs[m]? = some c->cs[m']? = some c'->m≠m'->2<=cN i r (fq cs)
 | [],m,m',hm,_,_=>by simp at hm
 | d::cs,0,0,_,_,hn=>absurd rfl hn
 | d::cs,0,m'+1,hm,hm',_=>by
  simp at hm
  subst hm
  rw[gN,ce,pf h]
  have:=jO h' (cs:=cs) (m:=m') (by simpa using hm')
  omega
 | d::cs,m+1,0,hm,hm',_=>by
  simp at hm'
  subst hm'
  rw[gN,ce,pf h']
  have:=jO h (cs:=cs) (m:=m) (by simpa using hm)
  omega
 | d::cs,m+1,m'+1,hm,hm',hn=>by
  rw[gN,ce]
  have:=uV h h' (cs:=cs) (m:=m) (m':=m') (by simpa using hm) (by simpa using hm') (fun e=>hn (by rw[e]))
  omega
def lu:AV->List CA
 | .one c=>[c]
 | .agg cs=>cs
 | _=>[]
theorem nP (v:AV):v.FL=fq (lu v):=by cases v<;>rfl
def VF (g:Gh) (look:Look) (rs:List (Nat × Nat)) (v:AV) (b:Nat):Prop:=∃(m:Nat) (c:CA),(lu v)[m]? = some c/\CF g look rs c b
theorem zn (hs:al w0 I0 R g st a ov w) {J:List Nat->ASt->TV->Prop} {v:AV} {u:Value} {k:TV->Prg TV} {e:TV} (hv:bX w g st.look v u) (hcnt:∀i r,cN i r (fq (lu v))<=cN i r rs) (h:(AZ st.look rs v k).goes C J e) :
  ∃x,(k x).goes C J e/\aq w (I2 g st.look rs) x u (VF g st.look rs v):=by
 cases v with
 | one c =>
  obtain⟨x,h1,h2⟩:=tF hs hv h
  exact⟨x,h1,h2.mono (fun b hb=>⟨0,c,rfl,hb⟩)⟩
 | tv x=>exact⟨x,h,.fr (Rep.mv (fun _ _=>rfl) (fun _ h=>.inl h) hv)⟩
 | bl b =>
  have:u=.bool b:=hv
  subst this
  exact⟨_,h,.fr (.lit _)⟩
 | tups l=>exact h.elim
 | clo _ l=>exact h.elim
 | agg cs =>
  obtain⟨vs,rfl,hcr⟩:=hv
  obtain⟨ys,h1,h2,h3⟩:=sJ hs hcr h
  have hlen:vs.size=cs.length:=by have:=hcr.1;simpa using this
  refine⟨_,h1,.agg (fun m b=>∃c,cs[m]? = some c/\CF g st.look rs c b) (by rw[h2];exact hlen) (fun j hj=>?_) (fun j y hy=>?_) (fun m b hb=>?_) (fun m m' b hb hb'=>?_)⟩
  ·have hg:vs.toList[j]? = some vs[j]:=by simp[hj]
   have hc:cs[j]? = some (cs[j]'(by omega)):=FQ _
   rw[F8,Array.getElem?_eq_getElem hj]
   exact(hcr.2 j _ _ hc hg).2
  ·have hj:j<vs.size:=by have:=(FP.1 hy).1;omega
   have hg:vs.toList[j]? = some vs[j]:=by simp[hj]
   have hc:cs[j]? = some (cs[j]'(by omega)):=FQ _
   rw[F8,Array.getElem?_eq_getElem hj]
   exact(h3 j _ y _ hc hy hg).mono (fun b hb=>⟨_,hc,hb⟩)
  ·obtain⟨c,h4,h5⟩:=hb
   exact⟨m,c,h4,h5⟩
  ·obtain⟨c,c1,i,r,c2,c3,c4⟩:=hb
   obtain⟨c',d1,i',r',d2,d3,d4⟩:=hb'
   obtain⟨e1,e2⟩:=hs.Er c4 d4
   subst e1 e2
   by_cases hmm:m=m'
   ·exact hmm
   ·have h5:=uV c2 d2 c1 d1 hmm
    have h6:=hcnt i r
    simp only[lu]at h6
    simp only[qf,Nat.ble_eq]at c3
    omega
theorem tO (hs:al w0 I0 R g st a ov w) {J:List Nat->ASt->TV->Prop}:∀{vs:List AV} {us:List Value} {k:List TV->Prg TV} {e:TV},oQ w g st.look vs us->(∀i r,cN i r (ec vs)<=cN i r rs)->(gives st.look rs vs k).goes C J e ->
  ∃ys,(k ys).goes C J e/\ys.length=vs.length/\∀(m:Nat) (v:AV) (y:TV) (u:Value),vs[m]? = some v->ys[m]? = some y->us[m]? = some u->aq w (I2 g st.look rs) y u (VF g st.look rs v)
 | [],us,k,e,hcr,hcnt,h=>⟨[],h,rfl,fun m c y u hc=>by simp at hc⟩
 | v :: l, us, k, e, hcr, hcnt, h => by
  obtain⟨u0,us',rfl⟩:∃u0 us',us=u0::us':=by
   cases us with
   | nil=>have:=hcr.len;simp at this
   | cons u0 us'=>exact⟨u0,us',rfl⟩
  obtain⟨hv,hvs⟩:=hcr
  have hc1:∀i r,cN i r (fq (lu v))<=cN i r rs:=fun i r=>by
   have:=hcnt i r
   rw[ec,ce,nP]at this
   omega
  have hc2:∀i r,cN i r (ec l)<=cN i r rs:=fun i r=>by
   have:=hcnt i r
   rw[ec,ce]at this
   omega
  obtain⟨y,h1,h2⟩:=zn hs hv hc1 h
  obtain⟨ys,h3,h4,h5⟩:=tO hs hvs hc2 h1
  refine⟨y::ys,h3,by simp[h4],fun m c' y' u hc' hy hu=>?_⟩
  cases m with
  | zero=>simp at hc' hy hu;subst hc' hy hu;exact h2
  | succ m=>simp at hc' hy hu;exact h5 m c' y' u hc' hy hu
theorem pL {i r:Nat} {c:CA} (h:mN c=some (i,r)):∀{vs:List AV} {v:AV} {j m:Nat},vs[j]? = some v->(lu v)[m]? = some c->1<=cN i r (ec vs)
 | [],v,j,m,hj,_=>by simp at hj
 | d::vs,v,0,m,hj,hm=>by
  simp at hj
  subst hj
  rw[ec,ce,nP]
  have:=jO h hm
  omega
 | d::vs,v,j+1,m,hj,hm=>by
  rw[ec,ce]
  have:=pL h (vs:=vs) (j:=j) (by simpa using hj) hm
  omega
theorem ry {i r:Nat} {c c':CA} (h:mN c=some (i,r)) (h':mN c'=some (i,r)):∀{vs:List AV} {v v':AV} {j j' m m':Nat},vs[j]? = some v->vs[j']? = some v'->(lu v)[m]? = some c->(lu v')[m']? = some c'->j≠j'->2<=cN i r (ec vs)
 | [],v,v',j,j',m,m',hj,_,_,_,_=>by simp at hj
 | d::vs,v,v',0,0,m,m',_,_,_,_,hn=>absurd rfl hn
 | d::vs,v,v',0,j'+1,m,m',hj,hj',hm,hm',_=>by
  simp at hj
  subst hj
  rw[ec,ce,nP]
  have:=jO h hm
  have:=pL h' (vs:=vs) (j:=j') (by simpa using hj') hm'
  omega
 | d::vs,v,v',j+1,0,m,m',hj,hj',hm,hm',_=>by
  simp at hj'
  subst hj'
  rw[ec,ce,nP]
  have:=jO h' hm'
  have:=pL h (vs:=vs) (j:=j) (by simpa using hj) hm
  omega
 | d::vs,v,v',j+1,j'+1,m,m',hj,hj',hm,hm',hn=>by
  rw[ec,ce]
  have:=ry h h' (vs:=vs) (j:=j) (j':=j') (by simpa using hj) (by simpa using hj') hm hm' (fun e=>hn (by rw[e]))
  omega
def Ans (w0:Bs) (I0:Nat->Prop) (x:TV) (v:Value) (w':World):Prop :=
 ∃I' S:Nat->Prop,(∀b,I0 b->I' b)/\(∀b,I' b->b<w'.heap.size)/\(∀b,¬w0.New b->I' b->I0 b)/\(∀b,S b->w0.New b/\b<w'.heap.size/\¬I' b)/\aq w' I' x v S
theorem uA (hT:∀t d,E.T t=some d->ba P t d) (hs:al w0 I0 NoR g st a ov w) {fn:Func} {pu:Bool} {J:List Nat->ASt->TV->Prop} {x:TV} (h:(D5 E.T pu fn.results.toList st).goes C J x) :
  ∃v,(results fn a.tmps).run P w=.ok v w/\Ans w0 I0 x v w:=by
 have hm:∀(vs:List Value),(fn.results.toList.mapM (m8 a.tmps)).run P w=.ok vs w ->
   (results fn a.tmps).run P w=.ok (if h:vs.toArray.size=1 then vs.toArray[0]else .tuple vs.toArray) w:=by
  intro vs hv
  rw[s8,Array.mapM_eq_mapM_toList,<-bind_pure_comp]
  simp only[Sem.run_bind,hv,Result.andThen_ok,Sem.run_pure]
 unfold D5 at h
 split at h
 ·rename_i avs hav
  obtain⟨us,hrun,hreps⟩:=km (P:=P) hT hs _ _ hav
  obtain⟨ys,hk,hlen,hrep⟩:=tO hs hreps (fun _ _=>Nat.le_refl _) h
  have hul:=hreps.len
  obtain⟨rs',hrs'⟩:∃rs',rs'=ec avs:=⟨_,rfl⟩
  rw[<-hrs']at hrep
  have base:∀(S:Nat->Prop) (y:TV) (v:Value),(∀b,S b->∃(m:Nat) (v:AV),avs[m]? = some v/\VF g st.look rs' v b)->aq w (I2 g st.look rs') y v S->Ans w0 I0 y v w:=by
   intro S y v hS hr
   refine⟨I2 g st.look rs',S,fun b hb=>.inl (hs.sub b hb),fun b hb=>?_,fun b hb hI=>?_,fun b hb=>?_,hr⟩
   ·rcases hb with hb|⟨i,r,_,hb⟩
    ·exact hs.lt b hb
    ·exact(hs.foot i b hb.foot).2.1
   ·rcases hI with h'|⟨i,r,_,h'⟩
    ·exact hs.old b hb h'
    ·exact absurd (hs.foot i b h'.foot).1 hb
   ·obtain⟨m,v,_,m',c,_,i,r,_,hp,hb'⟩:=hS b hb
    obtain⟨f1,f2,f3,_⟩:=hs.foot i b hb'.foot
    refine⟨f1,f2,?_⟩
    rintro(h'|⟨i',r',hp',h'⟩)
    ·exact f3 h'
    ·obtain⟨e1,e2⟩:=hs.Er hb' h'
     subst e1 e2
     rw[hp]at hp'
     cases hp'
  have single:∀x0,ys=[x0]->∃v,(results fn a.tmps).run P w=.ok v w/\Ans w0 I0 x0 v w:=by
   intro x0 hy
   subst hy
   have hl1:us.length=1:=by rw[hul,<-hlen];rfl
   match us,hl1,hrun,hrep with
   | [u], _, hrun, hrep =>
    have hal:avs.length=1:=by rw[<-hlen];rfl
    match avs,hal,hrep,base with
    | [v],_,hrep,base =>
     refine⟨u,by simpa using hm [u] hrun,base _ x0 u (fun b hb=>⟨0,v,rfl,hb⟩) (hrep 0 v x0 u rfl rfl rfl)⟩
  have many:ys.length≠1->∃v,(results fn a.tmps).run P w=.ok v w/\Ans w0 I0 (.tup ys) v w:=by
   intro hn
   have h1:¬us.toArray.size=1:=by simp;omega
   refine⟨.tuple us.toArray,by rw[hm us hrun,dif_neg h1],base (fun b=>∃(m:Nat) (v:AV),avs[m]? = some v/\VF g st.look rs' v b) _ _ (fun b hb=>hb) ?_⟩
   refine .tup (fun m b=>∃v,avs[m]? = some v/\VF g st.look rs' v b) (by simp;omega) (fun j y hy=>?_) (fun m b ⟨v,h1,h2⟩=>⟨m,v,h1,h2⟩) (fun m m' b hb hb'=>?_)
   ·have hj:j<us.length:=by have:=(FP.1 hy).1;omega
    have hju:us[j]? = some us[j]:=FQ hj
    have hja:avs[j]? = some (avs[j]'(by omega)):=FQ _
    have:us.toArray.getD j undef=us[j]:=by simp[hj]
    rw[this]
    exact(hrep j _ y _ hja hy hju).mono (fun b hb=>⟨_,hja,hb⟩)
   ·obtain⟨v,c1,q,c,c2,i,r,c3,c4,c5⟩:=hb
    obtain⟨v',d1,q',c',d2,i',r',d3,d4,d5⟩:=hb'
    obtain⟨e1,e2⟩:=hs.Er c5 d5
    subst e1 e2
    by_cases hmm:m=m'
    ·exact hmm
    ·have:=ry c3 d3 c1 d1 c2 d2 hmm
     simp only[qf,Nat.ble_eq,hrs']at c4
     omega
  split at hk
  ·rename_i x0
   cases pu with
   | true =>
    simp only[cond_true]at hk
    obtain⟨h1,h2⟩:=hk
    have h2:x0=x:=h2
    subst h2
    exact single _ rfl
   | false =>
    simp only[cond_false]at hk
    have h2:x0=x:=hk
    subst h2
    exact single _ rfl
  ·rename_i hne
   have hn:ys.length≠1:=fun e=>by
    match ys,e with
    | [y],_=>exact hne y rfl
   cases pu with
   | true =>
    simp only[cond_true]at hk
    obtain⟨h1,h2⟩:=hk
    have h2:TV.tup ys=x:=h2
    subst h2
    exact many hn
   | false =>
    simp only[cond_false]at hk
    have h2:TV.tup ys=x:=hk
    subst h2
    exact many hn
 ·exact h.elim
theorem B7 {I:Nat->Prop} {G:Laid} (hG:G.P w I) (hlt:∀b,I b->b<w.heap.size) {ntmps:Nat} {args:List TV} {vals:Array Value} (hle:args.length<=ntmps) (hsz:vals.size=args.length) (hargs:∀(j:Nat) (x:TV),args[j]? = some x->Rep w I x (vals.getD j undef)) :
  Sim (Bs.of w (fun _=>False) G) I (jt ntmps args) { tmps:=vals++Array.replicate (ntmps-vals.size) undef,defers:=[] } [] w:=by
 have hlk:∀i,(jt ntmps args).look i=none:=fun i=>by
  simp only[jt,ASt.look,bi,List.getElem?_replicate]
  split<;>rfl
 have hnf:∀(g:Gh) i b,¬Foot g (jt ntmps args).look i b:=fun g i b h=>by
  rcases h with⟨cs,h,_⟩|⟨xs,r,h,_⟩<;>rw[hlk]at h<;>cases h
 refine⟨⟨I,fun _ _=>undef,fun _=>0,fun _ _ _=>False,⟨fun _=>none,fun _=>0⟩⟩,⟨Bs.Bel.refl _,fun _ h=>h,hlt,fun _ _ h=>h,by simp[jt,hsz],rfl,fun t v hv=>?_,rfl,(fun t v hv=>by simp[jt]at hv),(fun i cs hb=>by rw[hlk]at hb;cases hb),(fun i xs hb=>by rw[hlk]at hb;cases hb),
  (fun i b h=>(hnf _ i b h).elim),(fun i j b h=>(hnf _ i b h).elim),(fun i xs r r' b h=>by rw[hlk]at h;cases h),(fun b h=>h.elim),⟨fun b hb=>⟨hlt b hb,fun h=>h⟩,hG⟩,⟨(fun b ob h=>by cases h),rfl⟩⟩⟩
 simp only[jt,List.getElem?_append,List.length_map,FW]at hv
 by_cases ht:t<args.length
 ·simp only[ht,if_true]at hv
  rw[FQ ht]at hv
  simp only[F6,FR]at hv
  subst hv
  have:=hargs t _ (FQ ht)
  have hg:(vals++Array.replicate (ntmps-vals.size) undef).getD t undef=vals.getD t undef:=by
   have:t<vals.size:=by omega
   rw[F8,Array.getElem?_append_left this,<-F8]
  simp only[hg]
  exact this
 ·simp only[ht,if_false,List.getElem?_replicate]at hv
  split at hv
  ·simp only[FR]at hv
   subst hv
   show(vals++Array.replicate (ntmps-vals.size) undef).getD t undef=undef
   rw[F8,Array.getElem?_append_right (by omega),Array.getElem?_replicate]
   split<;>rfl
  ·cases hv
theorem zK {I:Nat->Prop} {G:Laid} (hG:G.P w I) (hlt:∀b,I b->b<w.heap.size) {b:Nat} {vs:Array Value} {ty:TypeId} (hheap:w.heap[b]? = some (.cells vs ty (0,0))) (hone:∀u∈vs.toList,u.oneCell'=true)
  {cs:List TV} (hvs:vs.size=cs.length) (hrc:∀(j:Nat) (c:TV),cs[j]? = some c->Rep w I c (vs.getD j undef)) {ntmps:Nat} {args:List TV} {vals:Array Value} (hle:args.length+1<=ntmps)
  (hsz:vals.size=args.length+1) (h0:vals.getD args.length undef=.pointer (some ⟨b,0,none⟩)) (hargs:∀(j:Nat) (x:TV),args[j]? = some x->Rep w I x (vals.getD j undef)) :
  Sim (Bs.of w (fun _=>False) G) I (kD ntmps cs args) { tmps:=vals++Array.replicate (ntmps-vals.size) undef,defers:=[] } [] w:=by
 have hlk:∀i,(kD ntmps cs args).look i=none:=fun i=>by
  simp only[kD,ASt.look,bi,List.getElem?_replicate]
  split<;>rfl
 have hnf:∀(g:Gh) i b,¬Foot g (kD ntmps cs args).look i b:=fun g i b h=>by
  rcases h with⟨cs,h,_⟩|⟨xs,r,h,_⟩<;>rw[hlk]at h<;>cases h
 have hp:bX w ⟨I,fun _ _=>undef,fun _=>0,fun _ _ _=>False,⟨fun k=>if k=b then some (.cells vs ty (0,0))else none,fun _=>0⟩⟩ (kD ntmps cs args).look (.one (.ref cs 0)) (.pointer (some ⟨b,0,none⟩)):=by
  refine⟨⟨b,0,none⟩,fun j=>vs.getD j undef,by simp[Addr.add],fun j y hj=>?_⟩
  have hjv:j<vs.size:=by rw[hvs];exact(FP.1 hj).1
  have hg:vs[j]? = some (vs.getD j undef):=by rw[Array.getElem?_eq_getElem hjv];simp[hjv]
  refine⟨.inr ⟨.cells vs ty (0,0),by rw[gH];simp,fun w' hw'=>?_⟩,hone _ (by rw[<-FU]at hg;exact FZ hg),hrc j y hj⟩
  have hw2:w'.heap[b]? = some (.cells vs ty (0,0)):=by rw[gH]at hw';exact hw'
  rw[gH,cell_of_row w' b _ vs ty (0,0) hw2]
  simpa using hg
 refine⟨⟨I,fun _ _=>undef,fun _=>0,fun _ _ _=>False,⟨fun k=>if k=b then some (.cells vs ty (0,0))else none,fun _=>0⟩⟩,⟨Bs.Bel.refl _,fun _ h=>h,hlt,fun _ _ h=>h,by simp[kD,hsz];omega,rfl,fun t v hv=>?_,rfl,(fun t v hv=>by simp[kD]at hv),(fun i cs hb=>by rw[hlk]at hb;cases hb),(fun i xs hb=>by rw[hlk]at hb;cases hb),
  (fun i b h=>(hnf _ i b h).elim),(fun i j b h=>(hnf _ i b h).elim),(fun i xs r r' b h=>by rw[hlk]at h;cases h),(fun b h=>h.elim),⟨fun b hb=>⟨hlt b hb,fun h=>h⟩,hG⟩,⟨fun k ob hk=>?_,rfl⟩⟩⟩
 ·simp only[kD]at hv
  by_cases ht:t<args.length
  ·rw[F3 (by simpa using ht),FW,FQ ht]at hv
   simp only[F6,FR]at hv
   subst hv
   have:=hargs t _ (FQ ht)
   have hg:(vals++Array.replicate (ntmps-vals.size) undef).getD t undef=vals.getD t undef:=by
    have:t<vals.size:=by omega
    rw[F8,Array.getElem?_append_left this,<-F8]
   simp only[hg]
   exact this
  ·rw[F4 (by simpa using ht)]at hv
   simp only[List.length_map]at hv
   by_cases ht2:t=args.length
   ·subst ht2
    rw[Nat.sub_self]at hv
    simp only[List.getElem?_cons_zero,FR]at hv
    subst hv
    have hg:(vals++Array.replicate (ntmps-vals.size) undef).getD args.length undef=vals.getD args.length undef:=by
     have:args.length<vals.size:=by omega
     rw[F8,Array.getElem?_append_left this,<-F8]
    simp only[hg,h0]
    exact hp
   ·rw[show t-args.length=(t-args.length-1)+1 by omega,List.getElem?_cons_succ,List.getElem?_replicate]at hv
    split at hv
    ·simp only[FR]at hv
     subst hv
     show(vals++Array.replicate (ntmps-vals.size) undef).getD t undef=undef
     rw[F8,Array.getElem?_append_right (by omega),Array.getElem?_replicate]
     split<;>rfl
    ·cases hv
 ·simp only at hk
  split at hk
  ·rename_i e
   simp only[FR]at hk
   subst e hk
   exact⟨hheap,fun h=>h⟩
  ·cases hk
end
section
variable {E:Env} {C:Cal} {st:ASt} {T:Type} {J:List Nat->ASt->T->Prop} {r:T} {look:Look}
theorem AC {c:CA} {k:TV->Prg T} (h:(iZ look c k).goes C J r):∃x,(k x).goes C J r:=by
 unfold iZ at h
 split at h
 ·exact⟨_,h⟩
 ·split at h
  ·obtain⟨y,_,h⟩:=mj h;exact⟨y,h⟩
  ·exact h.elim
 ·split at h
  ·obtain⟨y,_,z,_,h⟩:=mj h;exact⟨z,h⟩
  ·exact h.elim
 ·exact h.elim
theorem vc {k:ASt->Prg T}:∀{l:List Nat} {st:ASt},(pK l st k).goes C J r->∃st',(k st').goes C J r
 | [],st,h=>⟨st,h⟩
 | s :: l, st, h => by
  have:∃st',(pK l st' k).goes C J r:=by
   unfold pK Ac at h
   split at h
   ·split at h
    ·exact⟨_,h⟩
    ·exact⟨_,h⟩
   ·exact⟨_,h⟩
   ·split at h
    ·obtain⟨y,_,h⟩:=h
     simp only[]at h
     split at h
     ·exact⟨_,h⟩
     ·exact h.elim
    ·exact h.elim
   ·split at h
    ·obtain⟨_,h⟩:=h
     split at h
     ·exact⟨_,h⟩
     ·exact h.elim
    ·exact h.elim
  obtain⟨st',h'⟩:=this
  exact vc h'
theorem wS {i c:Nat} {k:ASt->Prg T} (h:(uF st i c k).goes C J r):∃st',(k st').goes C J r:=by
 unfold uF at h
 split at h
 ·split at h
  ·split at h
   ·split at h
    ·exact⟨_,h⟩
    ·exact⟨_,h⟩
   ·exact⟨_,h⟩
  ·exact⟨_,h⟩
 ·exact⟨_,h⟩
theorem pj {k : ASt → Prg T} : ∀ {l : List (Nat × Nat)} {st : ASt}, (iT l st k).goes C J r → ∃ st', (k st').goes C J r
 | [],st,h=>⟨st,h⟩
 | (s, c) :: l, st, h => by
  have : ∃ st', (iT l st' k).goes C J r := by
   simp only[iT]at h
   cases hb2:Nat.ble 2000 c with
   | true =>
    rw[hb2]at h
    simp only[cond_true]at h
    unfold vU An at h
    split at h
    ·split at h
     ·split at h
      ·split at h
       ·obtain⟨_,_,_,_,h⟩:=h
        simp only[]at h
        split at h
        ·split at h
         ·exact⟨_,h⟩
         ·exact h.elim
        ·exact h.elim
       ·exact h.elim
      ·exact⟨_,h⟩
     ·exact⟨_,h⟩
    ·exact⟨_,h⟩
   | false =>
   rw[hb2]at h
   simp only[cond_false]at h
   unfold Ah at h
   split at h
   ·split at h
    ·split at h
     ·exact wS (k:=fun st=>iT l st k) h
     ·exact⟨_,h⟩
     ·split at h
      ·obtain⟨_,_,h⟩:=h
       simp only[]at h
       split at h
       ·split at h
        ·exact wS (k:=fun st=>iT l st k) h
        ·exact h.elim
       ·exact h.elim
      ·exact h.elim
     ·obtain⟨_,h⟩:=h
      split at h
      ·exact⟨_,h⟩
      ·exact h.elim
     ·exact h.elim
    ·exact h.elim
   ·exact h.elim
  obtain⟨st',h'⟩:=this
  exact pj h'
theorem pre_ex {an:Option Ann} {k:ASt->Prg T} {st:ASt} (h:(preQ an k st).goes C J r):∃st',(k st').goes C J r:=by
 cases an with
 | none=>exact⟨_,h⟩
 | some an=>exact pj h
theorem rh {an:Ann} {k:ASt->Prg T} (h:(u5 an st k).goes C J r):∃st',(k st').goes C J r:=by
 unfold u5 at h
 obtain⟨st1,h1⟩:=vc h
 obtain⟨st2,h2⟩:=pj h1
 unfold yN at h2
 cases hc:ie (g8 (g9 an.keep (ia (ko an.frz st2) an.kill)))&&(g8 (g9 an.keep (ia (ko an.frz st2) an.kill))).length.ble dY&&dY.ble (g9 an.keep (ia (ko an.frz st2) an.kill)).boxes.length with
 | false=>rw[hc]at h2;exact h2.elim
 | true=>rw[hc]at h2;exact⟨_,h2⟩
theorem uW {ops:List Oper} {draw:Bool} {K:ASt->Prg T} (h:(kH E ops draw K st).goes C J r):∃st',(K st').goes C J r:=by
 unfold kH at h
 cases draw with
 | false =>
  simp only[cond_false]at h
  obtain⟨fin,h1,h⟩:=jE h
  exact⟨fin,h⟩
 | true =>
  simp only[cond_true]at h
  cases hok:bB ops with
  | false=>rw[hok]at h;exact h.elim
  | true =>
   simp only[hok,cond_true]at h
   obtain⟨fin,h1,h⟩:=jE h
   exact⟨fin,h⟩
theorem BX {agg:Bool} {n:Nat} {x:AV} {k:List CA->Prg T} (h:(x.bd agg n k).goes C J r):∃cs,(k cs).goes C J r:=by
 unfold AV.bd at h
 split at h
 ·rename_i c
  cases hc:c.kept with
  | true=>rw[hc]at h;exact⟨_,h⟩
  | false=>rw[hc]at h;exact h.elim
 ·exact⟨_,h.2⟩
 ·exact⟨_,h⟩
 ·exact⟨_,h⟩
 ·rename_i cs
  cases hc:cs.length.beq n with
  | true=>rw[hc]at h;exact⟨_,h⟩
  | false=>rw[hc]at h;exact h.elim
 ·exact⟨_,h.2⟩
 ·exact h.elim
theorem vz:∀{ds:List TyD} {vs:List AV} {k:List (Bool × List CA)->Prg T},(tA ds vs k).goes C J r->∃l,(k l).goes C J r
 | [],[],k,h=>⟨_,h⟩
 | d::ds,v::vs,k,h=>by
  obtain⟨cs,h⟩:=BX h
  obtain⟨l,h⟩:=vz h
  exact⟨_,h⟩
 | [],v::vs,k,h=>h.elim
 | d::ds,[],k,h=>h.elim
theorem mr {m:Nat} {k:ASt->Prg T} (h:(gi m st k).goes C J r):∃st2,(k st2).goes C J r:=by
 unfold gi at h
 simp only[dR,o0]at h
 cases hc:ie (g8 st)&&(g8 st).length.ble dY&&dY.ble st.boxes.length with
 | false=>rw[hc]at h;exact h.elim
 | true=>rw[hc]at h;exact⟨_,h⟩
theorem AP {f:FuncId} {fn:Func} {nt:Nat} {d:Option Tmp} {K:ASt->Prg T} {e:AEx} (h:(uM E f fn nt d K e st).goes C J r):∃st2,(K st2).goes C J r:=by
 have key:(match kf E.T st fn.results.toList,oP E.T (E.rts f)with
  | some vs, some ds => bif nt.ble st.out.length then wg ds vs fun v =>
    gi fn.ntmps (ASt.put ⟨st.out.drop (st.out.length-nt),st.boxes,st.out.take (st.out.length-nt)⟩ d v) K else .fail
  | _,_=>.fail).goes C J r->∃st2,(K st2).goes C J r:=by
  intro h
  split at h
  ·cases hle:nt.ble st.out.length with
   | false=>rw[hle]at h;exact h.elim
   | true =>
    rw[hle]at h
    simp only[cond_true]at h
    unfold wg at h
    split at h
    ·exact mr h
    ·obtain⟨l,h⟩:=vz h
     exact mr h
  ·exact h.elim
 cases e with
 | normal=>exact key h
 | ret=>exact key h
 | exit i=>exact h.elim
abbrev Dm (E:Env) (L:Opn) (C:Cal) (J:List Nat->ASt->T->Prop) (r:T) (p:Prop) (n:Nat):Prop :=
 ∀(nt:Nat) (fi:FuncId) (ys:List Rng) (id:Nat) (rp:List Nat) (ops:List Oper) (draw:Bool) (K:ASt->Prg T) (st:ASt),(∀st',(K st').goes C J r->p)->(dJ E L n nt fi ys id rp ops draw K st).goes C J r->p
abbrev Eg (E:Env) (L:Opn) (C:Cal) (J:List Nat->ASt->T->Prop) (r:T) (p:Prop) (n:Nat):Prop :=
 ∀(nt:Nat) (fi:FuncId) (ys:List Rng) (rp:List Nat) (g:Operand) (ps:Array Tmp) (assign c:Code) (K:ASt->Prg T) (st:ASt),(∀st',(K st').goes C J r->p)->(dA E L n nt fi ys rp g ps assign c K st).goes C J r->p
theorem eh {L:Opn} {n nt:Nat} {fi:FuncId} {ys:List Rng} {ann jn:Nat->Option Ann} {p:Prop} (hR:Dm E L C J r p n) (hG:Eg E L C J r p n) (hJ:∀rp st,J rp st r->p):∀(c:Code) (rp:List Nat) (K:AEx->ASt->Prg T) (st:ASt),(∀e st',(K e st').goes C J r->p)->(dv E (dJ E L n nt fi ys) (dA E L n nt fi ys) ann jn rp c K st).goes C J r->p
 | .skip,rp,K,st,hK,h=>hK _ _ h
 | .region id ops draw,rp,K,st,hK,h=>by
  obtain⟨st1,h1⟩:=pre_ex h
  exact hR nt fi ys id rp ops.toList draw (K .normal) st1 (fun st' h=>hK _ _ h) h1
 | .seq x y, rp, K, st, hK, h => by
  refine eh hR hG hJ x (0::rp) _ st (fun e st' hk=>?_) h
  cases e with
  | normal =>
   simp only[qq]at hk
   cases han:io jn y with
   | none=>rw[han]at hk;exact eh hR hG hJ y (1::rp) K st' hK hk
   | some an=>rw[han]at hk;obtain⟨st2,h2⟩:=rh hk;exact hJ _ _ h2
  | ret=>exact hK _ _ hk
  | exit id=>exact hK _ _ hk
 | .cond c x y, rp, K, st, hK, h => by
  simp only[dv]at h
  split at h
  ·rename_i v hv
   cases v with
   | true=>exact eh hR hG hJ x (0::rp) K st hK h
   | false=>exact eh hR hG hJ y (1::rp) K st hK h
  ·split at h
   ·obtain⟨b,_,h⟩:=h
    rcases h with⟨_,h⟩|⟨_,h⟩
    ·exact eh hR hG hJ x (0::rp) K st hK h
    ·exact eh hR hG hJ y (1::rp) K st hK h
   ·exact h.elim
 | .block id c, rp, K, st, hK, h => by
  refine eh hR hG hJ c (0::rp) _ st (fun e st' hk=>?_) h
  cases e with
  | normal=>exact hK _ _ hk
  | ret=>exact hK _ _ hk
  | exit i =>
   simp only[lJ]at hk
   cases hb:i.beq id<;>rw[hb]at hk<;>exact hK _ _ hk
 | .loop c,rp,K,st,hK,h=>by
  simp only[dv,uQ]at h
  cases han:io ann c with
  | none=>rw[han]at h;exact h.elim
  | some an=>rw[han]at h;obtain⟨st2,h2⟩:=rh h;exact hJ _ _ h2
 | .exit id,rp,K,st,hK,h=>hK _ _ h
 | .ret,rp,K,st,hK,h=>hK _ _ h
 | .rangeFunc g ps assign c,rp,K,st,hK,h=>hG nt fi ys rp g ps assign c (K .normal) st (fun st' h=>hK _ _ h) h
 | .scope _,rp,K,st,hK,h=>h.elim
 | .label _,rp,K,st,hK,h=>h.elim
 | .goto _,rp,K,st,hK,h=>h.elim
 | .refuse _,rp,K,st,hK,h=>h.elim
theorem sW {y:Rng} {nt:Nat} {d:Option Tmp} {p:Prop} {K:ASt->Prg T} (hK:∀st',(K st').goes C J r->p) {e:AEx} {st:ASt} (h:(eZ y nt d K e st).goes C J r):p:=by
 cases e with
 | ret=>exact h.elim
 | exit i=>exact h.elim
 | normal =>
  simp only[eZ]at h
  cases hle:nt.ble st.out.length with
  | false=>rw[hle]at h;exact h.elim
  | true =>
   rw[hle]at h
   obtain⟨st2,h2⟩:=mr h
   exact hK _ h2
theorem AQ {fn:Func} {n nt:Nat} {p:Prop} {K:ASt->Prg T} (hK:∀st',(K st').goes C J r->p) {e:AEx} {st:ASt} (h:(yh fn n nt K e st).goes C J r):p:=by
 have key:(bif fn.results.size.beq 0&&nt.ble st.out.length then gi fn.ntmps ((st.aE (CA.unY n)).cut nt) K else .fail).goes C J r->p:=fun h=>by
  cases hle:fn.results.size.beq 0&&nt.ble st.out.length with
  | false=>rw[hle]at h;exact h.elim
  | true =>
   rw[hle]at h
   obtain⟨st2,h2⟩:=mr h
   exact hK _ h2
 cases e with
 | ret=>exact key h
 | exit i=>exact h.elim
 | normal=>exact key h
theorem wT {p:Prop} {k:ASt->Prg T} (hk:∀st',(k st').goes C J r->p) {e:AEx} {st:ASt} (h:(ph k e st).goes C J r):p:=by
 cases e with
 | ret=>exact h.elim
 | exit i=>exact h.elim
 | normal=>exact hk _ h
theorem Ai {draw:Bool} {all:List Oper} {j:Nat} {k:ASt->Prg T} {st:ASt} (h:(mL E draw all j k st).goes C J r):∃st2,(k st2).goes C J r:=by
 unfold mL at h
 cases hb:dW draw all j with
 | true=>rw[hb]at h;exact⟨_,h⟩
 | false =>
  rw[hb]at h
  simp only[cond_false]at h
  split at h
  ·unfold CK at h
   simp only[o0,dR]at h
   obtain⟨_,h⟩:=xJ h
   exact⟨_,(iv h).1⟩
  ·exact h.elim
theorem nb {L:Opn} {n:Nat} {p:Prop} (hR:Dm E L C J r p n) (hG:Eg E L C J r p n) (hJ:∀rp st,J rp st r->p) {nt:Nat} {fi:FuncId} {ys:List Rng} {id:Nat} {rp:List Nat} {draw:Bool} {all:List Oper} {K:ASt->Prg T} (hK:∀st',(K st').goes C J r->p) :
  ∀(l:List Oper) (j:Nat) (ex:List (List Nat)) (st:ASt),(eV E L (dJ E L n) (dA E L n) nt fi ys id rp draw all K j l ex st).goes C J r->p
 | [],j,ex,st,h=>hK _ h
 | o :: rest, j, ex, st, h => by
  have plain:(opQ E all (lx draw ex all j o) (iw (eV E L (dJ E L n) (dA E L n) nt fi ys id rp draw all K (j+1) rest ex)) st).goes C J r->p:=fun h=>by
   simp only[kg]at h
   obtain⟨st1,h1,h2⟩:=lz h
   exact nb hR hG hJ hK rest (j+1) ex st1 h2
  simp only[eV]at h
  split at h
  ·rename_i y f fn rv cap hof
   cases hdn:ik all o st with
   | false=>rw[hdn]at h;exact plain h
   | true =>
   rw[hdn]at h
   simp only[cond_true]at h
   cases hb:dW draw all j||(ju all j).isSome with
   | false=>rw[hb]at h;exact h.elim
   | true =>
    rw[hb]at h
    simp only[cond_true]at h
    unfold tL at h
    split at h
    ·rename_i x xs hops
     cases hle:(rv.length+xs.length).beq fn.params.size&&(rv.length+xs.length+cap.length).ble fn.ntmps&&(st.slots.length.beq nt&&j.blt 1000)with
     | false=>rw[hle]at h;exact h.elim
     | true =>
      rw[hle]at h
      simp only[cond_true,dR]at h
      refine eh hR hG hJ _ _ _ _ (fun e st' hk=>?_) h
      obtain⟨st2,h2⟩:=AP hk
      obtain⟨st3,h3⟩:=Ai h2
      exact nb hR hG hJ hK rest (j+1) _ st3 h3
    ·exact h.elim
  ·split at h
   ·rename_i m y hof
    cases hdn:ik all o st with
    | false=>rw[hdn]at h;exact plain h
    | true =>
    rw[hdn]at h
    simp only[cond_true]at h
    cases hb:!draw||(oq all j&&oq all (j+1))with
    | false=>rw[hb]at h;exact h.elim
    | true =>
     rw[hb]at h
     simp only[cond_true]at h
     unfold tM at h
     split at h
     ·rename_i x xs hops
      cases hle:xs.length.beq y.ps.size&&(st.slots.length.beq nt&&(j.blt 1000&&(!y.busy&&(y.off+y.nt).ble st.out.length)))with
      | false=>rw[hle]at h;exact h.elim
      | true =>
       rw[hle]at h
       simp only[cond_true,dR]at h
       refine eh hR hG hJ _ _ _ _ (fun e st' hk=>wT (fun st' hk=>?_) hk) h
       refine eh hR hG hJ _ _ _ _ (fun e st' hk=>sW (fun st2 h2=>?_) hk) hk
       exact nb hR hG hJ hK rest (j+1) _ st2 h2
     ·exact h.elim
   ·exact plain h
theorem il {L:Opn} {p:Prop} (hJ:∀rp st,J rp st r->p):∀n,Dm E L C J r p n/\Eg E L C J r p n:=by
 intro n
 induction n with
 | zero =>
  refine⟨?_,?_⟩
  ·intro nt fi ys id rp ops draw K st hK h
   simp only[dJ]at h
   obtain⟨st',h'⟩:=uW h
   exact hK _ h'
  ·intro nt fi ys rp g ps assign c K st hK h
   simp only[dA]at h
   exact h.elim
 | succ n ih =>
  refine⟨?_,?_⟩
  ·intro nt fi ys id rp ops draw K st hK h
   simp only[dJ]at h
   cases ha:rl L ops with
   | false=>rw[ha]at h;obtain⟨st',h'⟩:=uW h;exact hK _ h'
   | true =>
    rw[ha]at h
    simp only[cond_true]at h
    cases hd:!draw||bB ops with
    | false=>rw[hd]at h;exact h.elim
    | true=>rw[hd]at h;exact nb ih.1 ih.2 hJ hK ops 0 _ st h
  ·intro nt fi ys rp g ps assign c K st hK h
   simp only[dA,uG]at h
   split at h
   ·split at h
    ·rename_i fn hfn
     rename_i cs _ _
     cases hle:Nat.beq fn.params.size 1&&((cs.length+1).ble fn.ntmps&&(st.aE (CA.unY ys.length)).slots.length.beq nt)with
     | false=>rw[hle]at h;exact h.elim
     | true =>
      rw[hle]at h
      simp only[cond_true,dR]at h
      exact eh ih.1 ih.2 hJ _ _ _ _ (fun e st' hk=>AQ hK hk) h
    ·exact h.elim
   ·exact h.elim
theorem lC {L : Opn} {p : Prop} (hJ : ∀ rp st, J rp st r → p) : ∀ (q : List Nat) (n no nt : Nat) (fi : FuncId) (ys : List Rng) (rp : List Nat) (c : Code) (K : AEx → ASt → Prg T) (st : ASt), (∀ e st', (K e st').goes C J r → p) → (goQ E L q n no nt fi ys rp c K st).goes C J r → p
 | [],n,no,nt,fi,ys,rp,c,K,st,hK,h=>by
  rw[AN]at h
  exact eh (il hJ n).1 (il hJ n).2 hJ c rp K st hK h
 | x :: q, n, no, nt, fi, ys, rp, c, K, st, hK, h => by
  have hround:∀(c:Code) (e:AEx) (st':ASt),(rq (io (L.ann fi) c) (0::rp) K e st').goes C J r->p:=by
   intro c e st' hk
   cases e with
   | normal =>
    simp only[rq,uQ]at hk
    cases han:io (L.ann fi) c with
    | none=>rw[han]at hk;exact hk.elim
    | some an=>rw[han]at hk;obtain⟨st2,h2⟩:=rh hk;exact hJ _ _ h2
   | ret=>exact hK _ _ hk
   | exit id=>exact hK _ _ hk
  have hblock:∀(id:Nat) (e:AEx) (st':ASt),(lJ id K e st').goes C J r->p:=by
   intro id e st' hk
   cases e with
   | normal=>exact hK _ _ hk
   | ret=>exact hK _ _ hk
   | exit i =>
    simp only[lJ]at hk
    cases hb:i.beq id<;>rw[hb]at hk<;>exact hK _ _ hk
  have hthen:∀(y:Code) (e:AEx) (st':ASt),(qq (io (L.jn fi) y) (1::rp) (dv E (dJ E L n nt fi ys) (dA E L n nt fi ys) (L.ann fi) (L.jn fi) (1::rp) y K) K e st').goes C J r->p:=by
   intro y e st' hk
   cases e with
   | normal =>
    simp only[qq]at hk
    cases han:io (L.jn fi) y with
    | none=>rw[han]at hk;exact eh (il hJ n).1 (il hJ n).2 hJ y (1::rp) K st' hK hk
    | some an=>rw[han]at hk;obtain⟨st2,h2⟩:=rh hk;exact hJ _ _ h2
   | ret=>exact hK _ _ hk
   | exit id=>exact hK _ _ hk
  cases c with
  | seq a b =>
   cases x with
   | zero=>exact lC hJ q n no nt fi ys _ a _ st (hthen b) h
   | succ m=>exact lC hJ q n no nt fi ys _ b K st hK h
  | cond o a b =>
   cases x with
   | zero=>exact lC hJ q n no nt fi ys _ a K st hK h
   | succ m=>exact lC hJ q n no nt fi ys _ b K st hK h
  | block id c=>exact lC hJ q n no nt fi ys _ c _ st (hblock id) h
  | loop c=>exact lC hJ q n no nt fi ys _ c _ st (hround c) h
  | rangeFunc g ps assign c =>
   cases n with
   | zero=>exact h.elim
   | succ n =>
    rw[Ag]at h
    split at h
    ·exact lC hJ q n _ _ _ _ _ _ _ st (fun e st' hk=>AQ (fun st' h=>hK _ _ h) hk) h
    ·exact h.elim
  | region id ops draw =>
   cases n with
   | zero=>exact h.elim
   | succ n' =>
    rw[qS]at h
    cases hx:(x%2).beq 0 with
    | true =>
     rw[hx]at h
     simp only[cond_true]at h
     split at h
     ·split at h
      ·rename_i o ho f fn hof
       cases hd:!draw||bB ops.toList with
       | false=>rw[hd]at h;exact h.elim
       | true =>
        rw[hd]at h
        simp only[cond_true]at h
        refine lC hJ q n' _ fn.ntmps f _ _ (cq fn) _ st (fun e st' hk=>?_) h
        obtain⟨st2,h2⟩:=AP hk
        obtain⟨st3,h3⟩:=Ai h2
        exact nb (il hJ n').1 (il hJ n').2 hJ (fun st' h=>hK _ _ h) _ _ _ st3 h3
      ·exact h.elim
     ·exact h.elim
    | false =>
     rw[hx]at h
     simp only[cond_false]at h
     split at h
     ·split at h
      ·rename_i o ho y hy
       cases hd:!draw||bB ops.toList with
       | false=>rw[hd]at h;exact h.elim
       | true =>
        rw[hd]at h
        simp only[cond_true]at h
        cases hz:((x-3) / 2 / 1000%2).beq 0 with
        | true =>
         rw[hz]at h
         simp only[cond_true]at h
         refine lC hJ q n' _ _ _ _ _ _ _ st (fun e st' hk=>wT (fun st' hk=>?_) hk) h
         refine eh (il hJ n').1 (il hJ n').2 hJ _ _ _ _ (fun e st' hk=>sW (fun st2 h2=>?_) hk) hk
         exact nb (il hJ n').1 (il hJ n').2 hJ (fun st' h=>hK _ _ h) _ _ _ st2 h2
        | false =>
         rw[hz]at h
         simp only[cond_false]at h
         refine lC hJ q n' _ _ _ _ _ _ _ st (fun e st' hk=>sW (fun st2 h2=>?_) hk) h
         exact nb (il hJ n').1 (il hJ n').2 hJ (fun st' h=>hK _ _ h) _ _ _ st2 h2
      ·exact h.elim
     ·exact h.elim
  | _=>exact h.elim
end
section
variable {C:Cal} {J:List Nat->ASt->TV->Prop} {r:TV} {look:Look} {rs:List (Nat × Nat)}
theorem yo {c:CA} {k:TV->Prg TV} (h:(sY look rs c k).goes C J r):∃x,(k x).goes C J r:=by
 unfold sY at h
 split at h
 ·exact⟨_,h⟩
 ·obtain⟨x,h⟩:=AC h;exact⟨_,h⟩
 ·obtain⟨x,h⟩:=AC h;exact⟨_,h⟩
 ·exact h.elim
theorem xG:∀{l:List CA} {k:List TV->Prg TV},(AG look rs l k).goes C J r->∃x,(k x).goes C J r
 | [],k,h=>⟨_,h⟩
 | c::l,k,h=>by
  obtain⟨x,h⟩:=yo h
  obtain⟨xs,h⟩:=xG h
  exact⟨_,h⟩
theorem DZ {v:AV} {k:TV->Prg TV} (h:(AZ look rs v k).goes C J r):∃x,(k x).goes C J r:=by
 unfold AZ at h
 split at h
 ·exact yo h
 ·exact⟨_,h⟩
 ·obtain⟨xs,h⟩:=xG h;exact⟨_,h⟩
 ·exact h.elim
 ·exact h.elim
 ·exact⟨_,h⟩
theorem xW:∀{l:List AV} {k:List TV->Prg TV},(gives look rs l k).goes C J r->∃x,(k x).goes C J r
 | [],k,h=>⟨_,h⟩
 | c::l,k,h=>by
  obtain⟨x,h⟩:=DZ h
  obtain⟨xs,h⟩:=xW h
  exact⟨_,h⟩
theorem EY {T:Tab} {vs:List ResultVar} {st:ASt} (h:(D5 T true vs st).goes C J r):isOwn r=true:=by
 unfold D5 at h
 split at h
 ·obtain⟨ys,h⟩:=xW h
  split at h
  ·obtain⟨h1,h2⟩:=h
   have h2:_=r:=h2
   subst h2
   exact h1
  ·obtain⟨h1,h2⟩:=h
   have h2:_=r:=h2
   subst h2
   exact h1
 ·exact h.elim
end
structure AProg.Ok (P:Program) (G:Laid) (A:AProg):Prop where
 ty:∀t d,A.T t=some d->ba P t d
 fn : ∀ f fn, A.fns f = some fn → P.funcs[f]? = some fn ∧ (fn.name == "runtime.NumGoroutine") = false ∧ fn.body.isSome = true
 mixed:P.follows .mixedOrders=true
 ext:∀f g xs r,A.ext f=some g->g xs=some r->(A.turn f=true->Ax P G f xs r)/\(A.turn f=false->(A.eye f=true->zS P G f xs r)/\(A.eye f=false->BM P G A.env f xs r))
 mth:∀t name f d,A.mth t name=some (f,d)->Fz P t name f d
section
variable {P:Program} {G:Laid} {A:AProg}
theorem qz:∀{l asz:List TV} {z:TV},sV l=some (asz,z)->l=asz ++ [z]
 | [],_,_,h=>by cases h
 | [x],_,_,h=>by simp only[sV,FR,Prod.mk.injEq]at h;obtain⟨rfl,rfl⟩:=h;rfl
 | x :: y :: l, asz, z, h => by
  simp only[sV]at h
  split at h
  ·rename_i asz' z' h1
   simp only[FR,Prod.mk.injEq]at h
   obtain⟨rfl,rfl⟩:=h
   rw[qz h1]
   rfl
  ·cases h
theorem uK {T:Tab} {ld:Option jq} {pk pu:Bool} {rs:List ResultVar} {C:Cal} {J:List Nat->ASt->TV->Prop} {e:AEx} {st:ASt} {x:TV} (h:(Ew T ld pk pu rs e st).goes C J x):(e=.normal\/e=.ret)/\(E4 T ld pk pu rs st).goes C J x:=by
 cases e with
 | normal=>exact⟨.inl rfl,h⟩
 | ret=>exact⟨.inr rfl,h⟩
 | exit id=>exact h.elim
theorem zO (hA:A.Ok P G) {C':FuncId->List TV->Option TV} (hC:xA P G A.env (fun f xs v=>C' f xs=some v)) {n:Nat} {f:FuncId} {args:List TV} {r:TV} (h:(ap A f args).run C' (jG A C' f n)=some r) :
  (A.turn f=true->Ax P G f args r)/\(A.turn f=false->(A.eye f=true->zS P G f args r)/\(A.eye f=false->BM P G A.env f args r)):=by
 have hgo:=eB h
 unfold ap at hgo
 cases hgate:A.turn f||(A.eye f&&((A.peek f).isSome||(A.lent f).isSome))with
 | true=>rw[hgate]at hgo;exact hgo.elim
 | false =>
 rw[hgate]at hgo
 simp only[cond_false]at hgo
 simp only[Bool.or_eq_false_iff,Bool.and_eq_false_iff]at hgate
 obtain⟨htn,heg⟩:=hgate
 refine⟨fun h=>(by rw[htn]at h;cases h),fun _=>?_⟩
 obtain⟨fn,hf⟩:∃fn,A.fns f=some fn:=by
  cases hf:A.fns f with
  | some fn=>exact⟨fn,rfl⟩
  | none=>cases hpk:A.peek f<;>rw[hpk,hf]at hgo<;>exact hgo.elim
 rw[hf]at hgo
 obtain⟨hfn,hname,hbody⟩:=hA.fn f fn hf
 have hE:gh P G A.env (fun f xs v=>C' f xs=some v):=⟨hA.ty,hC⟩
 have hL:pY P A.opens:=⟨fun g gn hg=>by
  simp only[AProg.opens]at hg
  cases ho:A.opn g with
  | false=>rw[ho]at hg;cases hg
  | true=>rw[ho]at hg;exact hA.fn g gn hg,hA.mth⟩
 have key:∀(w0:Bs) (I0:Nat->Prop) (ov:List Value) (Z:Ending->World->Prop),w0.G=G->w0.ds=[]->w0.Ok I0->ov.length=wv A f->(∀(J:List Nat->ASt->TV->Prop) (st':ASt) (a:Act) (w:World),(E4 A.T (A.lent f) (A.peek f).isSome (A.pure f) fn.results.toList st').goes (fun f xs v=>C' f xs=some v) J r->Sim w0 I0 st' a ov w->∃v,(results fn a.tmps).run P w=.ok v w/\Z (.returned v) w) ->
   ∀n rp c Q F st a w,At P A.opens I0 (cq fn) (bodyPostM (Rd none) 0 P fn Z) ⟨ov,fn.ntmps,f,w0,[],none⟩ rp c Q F->(jz A f rp st).goes (fun f xs v=>C' f xs=some v) (fun rp st r=>jG A C' f n rp st=some r) r->eK I0 F st a w->c.wpIn (Rd F.ro) 0 P Q a w:=by
  intro w0 I0 ov Z hwG hwd hwok hovl hZ
  have h0:Fr.Ok I0 ⟨ov,fn.ntmps,f,w0,[],none⟩:=⟨⟨fun m y h=>by simp at h,fun m m' h=>by simp at h⟩,hwok,hwd,(fun l h=>by cases h),fun m h=>by simp at h⟩
  have hend:∀(J:List Nat->ASt->TV->Prop) (e:AEx) (st':ASt) (a:Act) (w:World),(Ew A.T (A.lent f) (A.peek f).isSome (A.pure f) fn.results.toList e st').goes (fun f xs v=>C' f xs=some v) J r->eK I0 ⟨ov,fn.ntmps,f,w0,[],none⟩ st' a w->bodyPostM (Rd none) 0 P fn Z (kP e) a w:=by
   intro J e st' a w hk hs
   obtain⟨he,hr⟩:=uK hk
   refine nW h0 he hs (fun w2 B2 hE2 hd2 hs2=>?_)
   have hb:B2.Bel w2:=by obtain⟨g,hs⟩:=hs2;exact hs.below
   have hs3:Sim w0 I0 st' { tmps:=a.tmps,defers:=[] } ov w2:=kQ hs2 ⟨hE2.bel w2 hb,hwok,Nat.le_refl _,fun b h _=>⟨hE2.new b h,rfl⟩,fun _ _=>rfl,hE2.out⟩ hE2.Y.symm rfl hwd.symm
   exact hZ J st' { tmps:=a.tmps,defers:=[] } w2 hr hs3
  have piece:∀n,JOk P A.opens I0 (cq fn) (bodyPostM (Rd none) 0 P fn Z) ⟨ov,fn.ntmps,f,w0,[],none⟩ (fun rp st r=>jG A C' f n rp st=some r) r ->
    ∀rp c Q F st a w,At P A.opens I0 (cq fn) (bodyPostM (Rd none) 0 P fn Z) ⟨ov,fn.ntmps,f,w0,[],none⟩ rp c Q F->(jz A f rp st).goes (fun f xs v=>C' f xs=some v) (fun rp st r=>jG A C' f n rp st=some r) r->eK I0 F st a w->c.wpIn (Rd F.ro) 0 P Q a w:=by
   intro n hJ rp c Q F st a w hat hg hs
   unfold jz at hg
   rw[hf]at hg
   simp only[]at hg
   rw[<-hovl]at hg
   exact Dj hE h0 hwG hA.mixed hL hJ hat.toF uc [] _ st a w .top hg hs (hend _)
  have hJ:∀n,JOk P A.opens I0 (cq fn) (bodyPostM (Rd none) 0 P fn Z) ⟨ov,fn.ntmps,f,w0,[],none⟩ (fun rp st r=>jG A C' f n rp st=some r) r:=by
   intro n
   induction n with
   | zero=>intro rp c Q F st a w _ h;simp[jG]at h
   | succ n ih =>
    intro rp c Q F st a w hat h hs
    exact piece n ih rp c Q F st a w hat (eB h) hs
  exact fun n=>piece n (hJ n)
 have simx:∀{w0:Bs} {I0:Nat->Prop} {ov:List Value} {st:ASt} {a:Act} {w:World},w0.ds=[]->Sim w0 I0 st a ov w->eK I0 ⟨ov,fn.ntmps,f,w0,[],none⟩ st a w:=fun hd hs=>⟨_,.refl hd,(fun h=>by cases h),hs⟩
 have okof:∀{w0:Bs} {I0:Nat->Prop} {ov:List Value} {st:ASt} {a:Act} {w:World},Sim w0 I0 st a ov w->w0.Ok I0:=fun⟨g,hs⟩=>hs.base
 have enter:∀(w:World) (vals:Array Value),(callFunc f vals).run P w=.ok (.enter f vals) w:=fun w vals=>by
  cases hb:fn.body with
  | none=>rw[hb]at hbody;cases hbody
  | some c =>
   simp only[callFunc,Sem.run_bind,run_program,Result.andThen_ok,hfn,hname,hb]
   simp
 obtain⟨c,hb⟩:∃c,fn.body=some c:=by
  cases hb:fn.body with
  | none=>rw[hb]at hbody;cases hbody
  | some c=>exact⟨c,rfl⟩
 have hbo:cq fn=c:=by simp[cq,hb]
 cases hey:A.eye f with
 | true =>
  refine⟨fun _=>?_,fun h=>(by cases h)⟩
  have hpl:A.peek f=none/\A.lent f=none:=by
   rcases heg with h|h
   ·rw[hey]at h;cases h
   ·simpa using h
  obtain⟨hpk,hln⟩:=hpl
  rw[hpk,hln,hey]at hgo
  simp only[cond_true]at hgo
  split at hgo
  ·rename_i asz cs hsp
   have hargs0:=qz hsp
   cases hle:asz.length.beq fn.params.size&&(asz.length+1).ble fn.ntmps with
   | false=>rw[hle]at hgo;exact hgo.elim
   | true =>
    rw[hle]at hgo
    simp only[cond_true]at hgo
    simp only[FS,Nat.ble_eq]at hle
    refine⟨asz,cs,hargs0,fun I w b vs ty vals hG hlt hheap hone hnI hvs hbs hrc hsz h0 hargs=>⟨enter w vals,iS.1 (callsIn_of_wp_marks (F:=Rd none) (n:=0) hfn hb trivial ?_)⟩⟩
    have hst:=zK (ntmps:=fn.ntmps) hG hlt hheap hone hvs hrc hle.2 (by rw[hsz,hargs0];simp) h0 hargs
    have hp:=key (Bs.of w (fun _=>False) G) I [] (fun e w'=>∃v,e=.returned v/\Below w.heap.size w w'/\∃I' S:Nat->Prop,(∀b,I b->I' b)/\(∀b,I' b->b<w'.heap.size)/\(∀b,b<w.heap.size->I' b->I b) /\
      (∀b,S b->w.heap.size<=b/\b<w'.heap.size/\¬I' b)/\aq w' I' r v S) rfl rfl (okof hst) (by simp only[wv,hpk,hln];rfl) (fun J st' a w' hr ⟨g,hs⟩=>by
     rw[hpk,hln]at hr
     obtain⟨v,h1,I',S,h2,h3,h4,h5,h6⟩:=uA (P:=P) (E:=A.env) hA.ty hs hr
     refine⟨v,h1,v,rfl,⟨hs.below.os,hs.below.tape,hs.below.output,hs.below.size,fun k hk=>hs.below.block k hk (fun h=>h)⟩,I',S,h2,h3,fun b hb=>h4 b (fun h=>h.elim (fun h=>by have:w.heap.size<=b:=h;omega) (fun h=>h)),fun b hb=>?_,h6⟩
     obtain⟨q1,q2,q3⟩:=h5 b hb
     exact⟨q1.elim (fun h=>h) (fun h=>h.elim),q2,q3⟩)
    exact hp n [] c _ ⟨[],fn.ntmps,f,Bs.of w (fun _=>False) G,[],none⟩ _ _ w (by rw[hbo];exact .top) hgo (simx rfl hst)
  ·exact hgo.elim
 | false =>
 refine⟨fun h=>(by cases h),fun _=>?_⟩
 have hge:∀(p q:Prg TV),(bif A.eye f then p else q)=q:=fun p q=>by rw[hey];rfl
 simp only[hge]at hgo
 show(A.peek f=none->(A.lent f=none->CU P G f args r/\(A.pure f=true->isOwn r=true))/\∀ld,A.lent f=some ld->Fs P G ld f args r)/\∀c,A.peek f=some c->FF P G c f args r
 cases hpk:A.peek f with
 | some c0 =>
  rw[hpk]at hgo
  exact hgo.elim
 | none =>
  rw[hpk]at hgo
  simp only[]at hgo
  refine⟨fun _=>⟨fun hln=>?_,fun ld hld=>?_⟩,fun c h=>(by cases h)⟩
  ·rw [hln] at hgo
   simp only[]at hgo
   cases hle:args.length.beq fn.params.size&&args.length.ble fn.ntmps with
   | false=>rw[hle]at hgo;exact hgo.elim
   | true =>
    rw[hle]at hgo
    simp only[cond_true]at hgo
    simp only[FS,Nat.ble_eq]at hle
    refine⟨?_,?_⟩
    ·intro I w vals hG hlt hsz hargs
     refine⟨enter w vals,iS.1 (callsIn_of_wp_marks (F:=Rd none) (n:=0) hfn hb trivial ?_)⟩
     have hst:=B7 hG hlt hle.2 hsz hargs
     have hp:=key (Bs.of w (fun _=>False) G) I [] (fun e w'=>∃v,e=.returned v/\Below w.heap.size w w'/\∃I' S:Nat->Prop,(∀b,I b->I' b)/\(∀b,I' b->b<w'.heap.size)/\(∀b,b<w.heap.size->I' b->I b) /\
       (∀b,S b->w.heap.size<=b/\b<w'.heap.size/\¬I' b)/\aq w' I' r v S) rfl rfl (okof hst) (by simp only[wv,hpk,hln];rfl) (fun J st' a w' hr ⟨g,hs⟩=>by
      rw[hpk,hln]at hr
      obtain⟨v,h1,I',S,h2,h3,h4,h5,h6⟩:=uA (P:=P) (E:=A.env) hA.ty hs hr
      refine⟨v,h1,v,rfl,⟨hs.below.os,hs.below.tape,hs.below.output,hs.below.size,fun k hk=>hs.below.block k hk (fun h=>h)⟩,I',S,h2,h3,fun b hb=>h4 b (fun h=>h.elim (fun h=>by have:w.heap.size<=b:=h;omega) (fun h=>h)),fun b hb=>?_,h6⟩
      obtain⟨q1,q2,q3⟩:=h5 b hb
      exact⟨q1.elim (fun h=>h) (fun h=>h.elim),q2,q3⟩)
     exact hp n [] c _ ⟨[],fn.ntmps,f,Bs.of w (fun _=>False) G,[],none⟩ _ _ w (by rw[hbo];exact .top) hgo (simx rfl hst)
    ·intro hp
     have hend:∀(J:List Nat->ASt->TV->Prop) (e:AEx) (st':ASt),(Ew A.T (A.lent f) (A.peek f).isSome (A.pure f) fn.results.toList e st').goes (fun f xs v=>C' f xs=some v) J r->isOwn r=true:=by
      intro J e st' hk
      obtain⟨_,hr⟩:=uK hk
      rw[hp,hln,hpk]at hr
      exact EY hr
     have piece:∀(J:List Nat->ASt->TV->Prop),(∀rp st,J rp st r->isOwn r=true)->∀rp st,(jz A f rp st).goes (fun f xs v=>C' f xs=some v) J r->isOwn r=true:=by
      intro J hJ rp st hg
      unfold jz at hg
      rw[hf]at hg
      exact lC hJ _ _ _ _ _ _ _ _ _ _ (hend J) hg
     have hJ:∀n,∀rp st,jG A C' f n rp st=some r->isOwn r=true:=by
      intro n
      induction n with
      | zero=>intro rp st h;simp[jG]at h
      | succ n ih=>intro rp st h;exact piece _ ih rp st (eB h)
     exact piece _ (hJ n) _ _ hgo
  ·rw[hld]at hgo
   exact hgo.elim
theorem p6 (hA:A.Ok P G):∀n,xA P G A.env (fun f xs v=>acall A n f xs=some v)
 | 0=>fun f xs r h=>by simp[acall]at h
 | n + 1 => fun f xs r h => by
  have h:acall A (n+1) f xs=some r:=h
  simp only[acall]at h
  split at h
  ·rename_i g hg
   exact hA.ext f g xs r hg h
  ·exact zO hA (p6 hA n) h
end
end Go.Ab
end
section
namespace Go.Ab
open Go.RowKit Go.ChangeShapes Go.WideShapes
inductive bA (P:Program):TypeId->List TV->Prop
 | int {t:TypeId} {k:IntKind} {n:Int} (hu:P.underlying t=some (.int k)) (hw:(Lit.int k n).wf=true):bA P t [.lit (.int k n)]
 | bool {t:TypeId} {b:Bool} (hu:P.underlying t=some .bool):bA P t [.lit (.bool b)]
 | str {t:TypeId} {s:ByteArray} (hu:P.underlying t=some .string) (hl:s.size<=maxLen):bA P t [.lit (.string s)]
 | nil {t e:TypeId} (hu:P.underlying t=some (.slice e)):bA P t [.lit bc]
 | sl {t e:TypeId} {xs:List (List TV)} (hu:P.underlying t=some (.slice e)) (hl:xs.length<=maxLen) (h:∀(i:Nat) (x:List TV),xs[i]? = some x->bA P e x):bA P t [.sl false (P.cellsOf e) xs]
 | struct {t : TypeId} {fs : Array Field} {cs : List TV} (hu : P.underlying t = some (.struct fs)) (hl : cs.length = P.cellsOf t)
   (h:∀(i:Nat) (f:Field),fs[i]? = some f->bA P f.type ((cs.drop f.offset).take (P.cellsOf f.type))):bA P t cs
 | arr {t e:TypeId} {n:Nat} {cs:List TV} (hu:P.underlying t=some (.array n e)) (hl:cs.length=P.cellsOf t) (h:∀i,i<n->bA P e ((cs.drop (i*P.cellsOf e)).take (P.cellsOf e))):bA P t cs
def dg (P:Program):Nat->TypeId->Bool
 | 0,_=>false
 | n+1,t=>match P.underlying t with
  | some (.int _)=>P.cellsOf t==1
  | some .bool=>P.cellsOf t==1
  | some .string=>P.cellsOf t==1
  | some (.slice e)=>(P.cellsOf t==1&&decide (0<P.cellsOf e))&&dg P n e
  | some (.struct fs)=>fs.toList.all (fun f=>dg P n f.type)&&sideBySide P fs.toList 0 (P.cellsOf t)
  | some (.array m e)=>dg P n e&&(P.cellsOf t==m*P.cellsOf e)
  | _=>false
where
 sideBySide (P:Program):List Field->Nat->Nat->Bool
  | [],o,e=>o==e
  | f::fs,o,e=>f.offset==o&&sideBySide P fs (o+P.cellsOf f.type) e
section
variable {H:Type} {enc:TypeId × Value->H} {P:Program} {w:World} {spare:Nat->Bool} {held:Bool}
def dN (w:World) (I:Nat->Prop) (xs:List TV) (vs:List Value):Prop:=vs.length=xs.length/\∀(j:Nat) (x:TV) (v:Value),xs[j]? = some x->vs[j]? = some v->Rep w I x v/\v.oneCell'=true
theorem dN.append {I:Nat->Prop} {a b:List TV} {x y:List Value} (h1:dN w I a x) (h2:dN w I b y):dN w I (a++b) (x++y):=by
 refine⟨by simp[h1.1,h2.1],fun j c u hc hu=>?_⟩
 rw[List.getElem?_append]at hc hu
 rw[h1.1]at hu
 by_cases h:j<a.length
 ·simp only[h,if_true]at hc hu;exact h1.2 j c u hc hu
 ·simp only[h,if_false]at hc hu;exact h2.2 _ c u hc hu
theorem dN.one {I:Nat->Prop} {x:TV} {v:Value} (h:Rep w I x v) (h1:v.oneCell'=true):dN w I [x] [v]:=by
 refine⟨rfl,fun j c u hc hu=>?_⟩
 cases j with
 | zero=>simp at hc hu;subst hc hu;exact⟨h,h1⟩
 | succ j=>simp at hc
theorem EP {α:Type} [Inhabited α] {n:Nat} {p:Nat->α->Prop} (h:∀i,i<n->∃x,p i x):∃l:List α,l.length=n/\∀i x,l[i]? = some x->p i x:=by
 obtain⟨f,hf⟩:=Go.Deep.choose_lt h
 refine⟨(List.range n).map f,by simp,fun i x hx=>?_⟩
 have hi:i<n:=by have:=(FP.1 hx).1;simpa using this
 rw[FW,List.getElem?_range hi]at hx
 simp only[F6,FR]at hx
 subst hx
 exact hf i hi
theorem len1 {v:Value} {n:Nat} (h:n=1):[v].length=n:=by rw[h];rfl
theorem qR : ∀ (k : Nat) (t : TypeId) (fuel : Nat) (cs : List Value) (x : DataW H × List MemPlace), dg P k t = true → DataW.trod enc P w 0 spare held fuel t cs = some x →
  ∃xs:List TV,bA P t xs/\dN w (fun b=>b<w.heap.size) xs cs/\cs.length=P.cellsOf t
 | 0,t,fuel,cs,x,hp,h=>by simp[dg]at hp
 | k + 1, t, fuel, cs, x, hp, h => by
  simp only[dg]at hp
  cases hu:P.underlying t with
  | none=>simp[hu]at hp
  | some d =>
   simp only[hu]at hp
   cases d with
   | int kd =>
    obtain⟨n,rfl,_,hw⟩:=DataW.trod_int hu h
    exact⟨[.lit (.int kd n)],.int hu hw,.one (.lit _) rfl,len1 (by simpa using hp)⟩
   | bool =>
    obtain⟨b,rfl,_⟩:=DataW.trod_bool hu h
    exact⟨[.lit (.bool b)],.bool hu,.one (.lit _) rfl,len1 (by simpa using hp)⟩
   | string =>
    obtain⟨s,rfl,_,hl⟩:=DataW.trod_string hu h
    exact⟨[.lit (.string s)],.str hu hl,.one (.lit _) rfl,len1 (by simpa using hp)⟩
   | slice e =>
    simp only[FS]at hp
    have hc1:P.cellsOf t=1:=by simpa using hp.1.1
    have hpe:0<P.cellsOf e:=by simpa using hp.1.2
    rcases Go.Deep.open_slice hu h with⟨rfl,_⟩|⟨a,len,cap,m,n,D,Pl,rfl,_,hle,hcm,hm,_,hel⟩
    ·exact⟨[.lit bc],.nil hu,.one (.lit _) rfl,by rw[hc1];rfl⟩
    ·have hlm:len<=m:=by rw[hm];split<;>omega
     have each:∀i,i<len->∃p:List TV × List Value,bA P e p.1/\dN w (fun b=>b<w.heap.size) p.1 p.2/\p.2.length=P.cellsOf e/\∀j,j<P.cellsOf e->w.cell? (a.add (i*P.cellsOf e+j))=p.2[j]? := by
      intro i hi
      obtain⟨cs',hcs,ht⟩:=hel i (by omega)
      obtain⟨ys,h1,h2,h3⟩:=qR k e n cs' _ hp.2 ht
      obtain⟨_,hcl,hat⟩:=World.cells?_some hcs
      refine⟨(ys,cs'),h1,h2,h3,fun j hj=>?_⟩
      rw[<-hat j hj,Go.Ab.fd]
     obtain⟨l,hl,hprop⟩:=EP each
     have hsz:∀(i:Nat) (p:List TV × List Value),l[i]? = some p->p.1.length=P.cellsOf e/\p.2.length=P.cellsOf e:=fun i p hp'=>by
      obtain⟨_,h2,h3,_⟩:=hprop i p hp'
      exact⟨by rw[<-h2.1];exact h3,h3⟩
     refine⟨[.sl false (P.cellsOf e) (l.map (·.1))],.sl hu (by simp[hl];omega) (fun i y hy=>?_),.one ?_ rfl,by rw[hc1];rfl⟩
     ·rw[FW]at hy
      cases hli:l[i]? with
      | none=>simp[hli]at hy
      | some p=>simp only[hli,F6,FR]at hy;subst hy;exact(hprop i p hli).1
     ·have hll:(l.map (·.1)).length=len:=by simp[hl]
      have cellAt:∀q,q<len*P.cellsOf e->∃i j p,i<len/\j<P.cellsOf e/\q=i*P.cellsOf e+j/\l[i]? = some p/\∃u,p.2[j]? = some u/\w.cell? (a.add q)=some u/\u.oneCell'=true:=by
       intro q hq
       have hpos:0<P.cellsOf e:=hpe
       have hi:q / P.cellsOf e<len:=Nat.div_lt_of_lt_mul (by rw[Nat.mul_comm];exact hq)
       have hj:q%P.cellsOf e<P.cellsOf e:=Nat.mod_lt _ hpos
       have hq':q=q / P.cellsOf e*P.cellsOf e+q%P.cellsOf e:=by rw[Nat.mul_comm];exact(Nat.div_add_mod q _).symm
       have hli:l[q / P.cellsOf e]? = some (l[q / P.cellsOf e]'(by rw[hl];exact hi)):=FQ _
       obtain⟨_,h2,h3,h4⟩:=hprop _ _ hli
       have hu':(l[q / P.cellsOf e]'(by rw[hl];exact hi)).2[q%P.cellsOf e]? = some ((l[q / P.cellsOf e]'(by rw[hl];exact hi)).2[q%P.cellsOf e]'(by rw[h3];exact hj)):=FQ _
       have hx1:(l[q / P.cellsOf e]'(by rw[hl];exact hi)).1[q%P.cellsOf e]? = some ((l[q / P.cellsOf e]'(by rw[hl];exact hi)).1[q%P.cellsOf e]'(by rw[(hsz _ _ hli).1];exact hj)):=FQ _
       refine⟨_,_,_,hi,hj,hq',hli,_,hu',?_,(h2.2 _ _ _ hx1 hu').2⟩
       have:=h4 _ hj
       rw[<-hq']at this
       rw[this,hu']
      have key:Rep w (fun b=>b<w.heap.size) (.sl false (P.cellsOf e) (l.map (·.1))) (.slice (some a) (l.map (·.1)).length cap):=by
       refine .sl (fun q=>(w.cell? (a.add q)).getD undef) (fun hp'=>?_) (by rw[hll];exact hle) hcm (fun y hy=>?_) (fun q hq=>?_) (fun q hq=>?_) (fun i y hy j c hj=>?_)
       ·rw[hll]at hp'
        obtain⟨i,j,p,_,_,_,_,u,_,hu',_⟩:=cellAt 0 (Nat.mul_pos hp' hpe)
        have:=World.block_lt_of_cell? w _ hu'
        rwa[fG]at this
       ·obtain⟨p,hp1,rfl⟩:=List.mem_map.1 hy
        obtain⟨i,hi,rfl⟩:=List.mem_iff_getElem.1 hp1
        exact(hsz i _ (FQ hi)).1
       ·rw[hll]at hq
        obtain⟨i,j,p,_,_,_,_,u,_,hu',_⟩:=cellAt q hq
        rw[hu'];rfl
       ·rw[hll]at hq
        obtain⟨i,j,p,_,_,_,_,u,_,hu',h1⟩:=cellAt q hq
        rw[hu'];exact h1
       ·rw[FW]at hy
        cases hli:l[i]? with
        | none=>simp[hli]at hy
        | some p =>
         simp only[hli,F6,FR]at hy
         subst hy
         obtain⟨_,h2,h3,h4⟩:=hprop i p hli
         have hjs:j<P.cellsOf e:=by have:=(FP.1 hj).1;have:=(hsz i p hli).1;omega
         have hu':p.2[j]? = some (p.2[j]'(by omega)):=FQ _
         rw[h4 j hjs,hu']
         exact(h2.2 j c _ hj hu').1
      rw[hll]at key
      exact key
   | struct fs =>
    simp only[FS,List.all_eq_true]at hp
    obtain⟨hall,hside⟩:=hp
    obtain⟨ys,n,_,_,hlen,hyl,hf⟩:=DataW.trod_struct hu h
    have fields:∀(l:List Field) (o e:Nat),(∀f∈l,dg P k f.type=true/\∃y,DataW.trod enc P w 0 spare held n f.type ((cs.drop f.offset).take (P.cellsOf f.type))=some y)->dg.sideBySide P l o e=true->e=cs.length ->
      o<=e/\∃xs:List TV,dN w (fun b=>b<w.heap.size) xs (cs.drop o)/\∀(i:Nat) (f:Field),l[i]? = some f->o<=f.offset/\bA P f.type ((xs.drop (f.offset-o)).take (P.cellsOf f.type)):=by
     intro l
     induction l with
     | nil =>
      intro o e _ hs he
      have:o=e:=by simpa[dg.sideBySide]using hs
      subst this
      subst he
      exact⟨Nat.le_refl _,[],by simp[dN],fun i f hf=>by simp at hf⟩
     | cons f l ih =>
      intro o e hfs hs he
      simp only[dg.sideBySide,FS]at hs
      have hfo:f.offset=o:=by simpa using hs.1
      obtain⟨hle,xs,hxs,hty⟩:=ih (o+P.cellsOf f.type) e (fun g hg=>hfs g (FY _ hg)) hs.2 he
      obtain⟨hpf,y,hy⟩:=hfs f FX
      obtain⟨zs,hz1,hz2,hz3⟩:=qR k f.type n _ y hpf hy
      rw[hfo]at hz2 hz3
      have hzl:zs.length=P.cellsOf f.type:=by rw[<-hz2.1];exact hz3
      refine⟨by omega,zs++xs,?_,fun i g hg=>?_⟩
      ·have:cs.drop o=(cs.drop o).take (P.cellsOf f.type)++cs.drop (o+P.cellsOf f.type):=by
        rw[<-List.drop_drop,List.take_append_drop]
       rw[this]
       exact hz2.append hxs
      ·cases i with
       | zero =>
        simp at hg
        subst hg
        refine⟨by omega,?_⟩
        rw[hfo,Nat.sub_self,List.drop_zero,<-hzl,List.take_left]
        exact hz1
       | succ i =>
        simp at hg
        obtain⟨h1,h2⟩:=hty i g hg
        refine⟨by omega,?_⟩
        rw[List.drop_append,List.drop_eq_nil_of_le (by omega),List.nil_append]
        rw[hzl,show g.offset-o-P.cellsOf f.type=g.offset-(o+P.cellsOf f.type) by omega]
        exact h2
    obtain⟨_,xs,hxs,hty⟩:=fields fs.toList 0 (P.cellsOf t) (fun f hf'=>by
     obtain⟨i,hi,rfl⟩:=List.mem_iff_getElem.1 hf'
     refine⟨hall _ hf',?_⟩
     have hi':i<fs.size:=by simpa using hi
     have:=hf i _ (Array.getElem?_eq_getElem hi')
     rw[Array.getElem_toList,this]
     exact⟨_,FQ (by omega)⟩) hside hlen.symm
    simp only[List.drop_zero]at hxs
    exact⟨xs,.struct hu (by rw[<-hxs.1];exact hlen) (fun i f hf'=>by
     have:=(hty i f (by rw[FU];exact hf')).2
     simpa using this),hxs,hlen⟩
   | array m e =>
    simp only[FS]at hp
    have hct:P.cellsOf t=m*P.cellsOf e:=by simpa using hp.2
    obtain⟨ys,n,_,_,hlen,hyl,hf⟩:=DataW.trod_array hu h
    have parts : ∀ q, q ≤ m → ∃ xs : List TV, dN w (fun b => b < w.heap.size) xs (cs.take (q * P.cellsOf e)) ∧ ∀ i, i < q → bA P e ((xs.drop (i * P.cellsOf e)).take (P.cellsOf e)) := by
     intro q
     induction q with
     | zero=>intro _;exact⟨[],by simp[dN],fun i hi=>by omega⟩
     | succ q ih =>
      intro hq
      obtain⟨xs,h1,h2⟩:=ih (by omega)
      have hy:DataW.trod enc P w 0 spare held n e ((cs.drop (q*P.cellsOf e)).take (P.cellsOf e))=some (ys[q]'(by omega)):=by
       rw[hf q (by omega)];exact FQ _
      obtain⟨zs,hz1,hz2,hz3⟩:=qR k e n _ _ hp.1 hy
      have hzl:zs.length=P.cellsOf e:=by rw[<-hz2.1];exact hz3
      have hxl:xs.length=q*P.cellsOf e:=by
       rw[<-h1.1,List.length_take,hlen,hct]
       exact Nat.min_eq_left (Nat.mul_le_mul_right _ (by omega))
      refine⟨xs++zs,?_,fun i hi=>?_⟩
      ·have:cs.take ((q+1)*P.cellsOf e)=cs.take (q*P.cellsOf e)++(cs.drop (q*P.cellsOf e)).take (P.cellsOf e):=by
        rw[Nat.add_mul,Nat.one_mul,List.take_add]
       rw[this]
       exact h1.append hz2
      ·by_cases hiq:i<q
       ·have hle:i*P.cellsOf e+P.cellsOf e<=xs.length:=by
         rw[hxl]
         have:(i+1)*P.cellsOf e<=q*P.cellsOf e:=Nat.mul_le_mul_right _ hiq
         rw[Nat.add_mul]at this
         omega
        rw[List.drop_append_of_le_length (by omega),List.take_append_of_le_length (by simp;omega)]
        exact h2 i hiq
       ·have:i=q:=by omega
        subst this
        rw[<-hxl,List.drop_left,<-hzl,List.take_length]
        exact hz1
    obtain⟨xs,h1,h2⟩:=parts m (Nat.le_refl _)
    rw[<-hct,<-hlen,List.take_length]at h1
    exact⟨xs,.arr hu (by rw[<-h1.1];exact hlen) h2,h1,hlen⟩
   | _=>simp at hp
def xy (P:Program) (t:TypeId) (x:TV):Prop:=((∃cs,x=.agg cs/\bA P t cs)/\((∃fs,P.underlying t=some (.struct fs))\/∃n e,P.underlying t=some (.array n e)))\/(bA P t [x]/\(∀fs,P.underlying t≠some (.struct fs))/\∀n e,P.underlying t≠some (.array n e))
theorem C6 {k:Nat} {t:TypeId} {v:Value} {d:DataW H} {ps:List MemPlace} {r:Reach} {b0:Nat} (hp:dg P k t=true) (hv:Value.okWide P w r b0 t v) (h:DataW.Trod enc P w 0 spare held t v d ps) :
  ∃x,xy P t x/\Rep w (fun b=>b<w.heap.size) x v:=by
 obtain⟨fuel,hf⟩:=h
 obtain⟨xs,hty,hrep,hlen⟩:=qR k t fuel _ _ hp hf
 have agg:∀cs:Array Value,v=.agg cs->Rep w (fun b=>b<w.heap.size) (.agg xs) v:=fun cs hc=>by
  subst hc
  have hl:cs.size=xs.length:=by simpa[Value.cells]using hrep.1
  refine .agg hl (fun j hj=>?_) (fun j c hj=>?_)
  ·have h1:xs[j]? = some (xs[j]'(by omega)):=FQ _
   have h2:cs.toList[j]? = some (cs.getD j undef):=by rw[FU,Array.getElem?_eq_getElem hj];simp[hj]
   exact(hrep.2 j _ _ h1 h2).2
  ·have hj':j<cs.size:=by have:=(FP.1 hj).1;omega
   have h2:cs.toList[j]? = some (cs.getD j undef):=by rw[FU,Array.getElem?_eq_getElem hj'];simp[hj']
   exact(hrep.2 j _ _ hj h2).1
 have one:v.cells=#[v]->∃y,xs=[y]/\Rep w (fun b=>b<w.heap.size) y v:=fun hc=>by
  rw[hc]at hrep
  match xs,hrep with
  | [y],hrep=>exact⟨y,rfl,(hrep.2 0 y v rfl rfl).1⟩
  | [],hrep=>have:=hrep.1;simp at this
  | _::_::_,hrep=>have:=hrep.1;simp at this
 cases k with
 | zero=>simp[dg]at hp
 | succ k =>
  simp only[dg]at hp
  cases hu:P.underlying t with
  | none=>simp[hu]at hp
  | some desc =>
   simp only[hu]at hp
   cases desc with
   | int kd =>
    obtain⟨n,rfl⟩:=okWide_int hu hv
    obtain⟨y,rfl,hy⟩:=one rfl
    exact⟨y,.inr ⟨hty,by simp[hu],by simp[hu]⟩,hy⟩
   | bool =>
    obtain⟨n,rfl⟩:=okWide_bool hu hv
    obtain⟨y,rfl,hy⟩:=one rfl
    exact⟨y,.inr ⟨hty,by simp[hu],by simp[hu]⟩,hy⟩
   | string =>
    obtain⟨n,rfl⟩:=okWide_string hu hv
    obtain⟨y,rfl,hy⟩:=one rfl
    exact⟨y,.inr ⟨hty,by simp[hu],by simp[hu]⟩,hy⟩
   | slice e =>
    obtain⟨a,l,c,rfl⟩:=okWide_slice hu hv
    obtain⟨y,rfl,hy⟩:=one rfl
    exact⟨y,.inr ⟨hty,by simp[hu],by simp[hu]⟩,hy⟩
   | struct fs =>
    obtain⟨cs,rfl,_⟩:=okWide_struct hu hv
    exact⟨.agg xs,.inl ⟨⟨xs,rfl,hty⟩,.inl ⟨fs,hu⟩⟩,agg cs rfl⟩
   | array n e =>
    have hag:∃cs,v=.agg cs:=by
     unfold Value.okWide at hv
     simp only[hu]at hv
     cases v<;>simp_all
    obtain⟨cs,rfl⟩:=hag
    exact⟨.agg xs,.inl ⟨⟨xs,rfl,hty⟩,.inr ⟨n,e,hu⟩⟩,agg cs rfl⟩
   | _=>simp at hp
end
end Go.Ab
end
section
namespace Go.Ab
open Go.RowKit Go.ChangeShapes Go.WideShapes
def wG (P:Program):List TypeId->List TV->Prop
 | [],[]=>True
 | t::ts,x::xs=>xy P t x/\wG P ts xs
 | _,_=>False
section
variable {H:Type} {enc:TypeId × Value->H} {P:Program} {W W':World}
theorem oj:∀(ts:List TypeId) (vs:List Value) (ds:List (DataW H)) (ps:List MemPlace) {base:Nat},(∀t∈ts,dg P 24 t=true)->(∀(j:Nat) t v,ts[j]? = some t->vs[j]? = some v->Value.okWide P W .any base t v) ->
  DataW.TrodAll enc P W 0 (fun _=>true) true ts vs ds ps->∃xs,wG P ts xs/\xs.length=vs.length/\∀(j:Nat) (x:TV) (v:Value),xs[j]? = some x->vs[j]? = some v->Rep W (fun b=>b<W.heap.size) x v
 | [],vs,ds,ps,base,hp,hv,h=>by
  obtain⟨rfl,rfl,rfl⟩:=trodAll_nil h
  exact⟨[],trivial,rfl,fun j x v hx=>by simp at hx⟩
 | t::ts,vs,ds,ps,base,hp,hv,h=>by
  obtain⟨v,vs1,d,ds1,a,b,rfl,rfl,rfl,h1,h2⟩:=trodAll_cons h
  obtain⟨x,hx,hr⟩:=C6 (hp t FX) (hv 0 t v rfl rfl) h1
  obtain⟨xs,hxs,hl,hrs⟩:=oj ts vs1 ds1 b (fun t' ht'=>hp t' (FY _ ht')) (fun j t' v' h1' h2'=>hv (j+1) t' v' (by simpa using h1') (by simpa using h2')) h2
  refine⟨x::xs,⟨hx,hxs⟩,by simp[hl],fun j y u hy hu=>?_⟩
  cases j with
  | zero=>simp at hy hu;subst hy hu;exact hr
  | succ j=>simp at hy hu;exact hrs j y u hy hu
theorem mS (hl:laidOutB P=true) (hb:Below W.heap.size W W'):∀(ts:List TypeId) (vs:List Value) (ds:List (DataW H)) (ps:List MemPlace),(∀t∈ts,P.readableRec t=true/\t<P.types.size)->(∀p∈ps,p.block<W.heap.size) ->
  DataW.TrodAll enc P W 0 (fun _=>true) true ts vs ds ps->DataW.TrodAll enc P W' 0 (fun b=>decide (b<W.heap.size)) true ts vs ds ps
 | [],vs,ds,ps,hr,hlt,h=>by
  obtain⟨rfl,rfl,rfl⟩:=trodAll_nil h
  rfl
 | t::ts,vs,ds,ps,hr,hlt,h=>by
  obtain⟨v,vs1,d,ds1,a,b,rfl,rfl,rfl,h1,h2⟩:=trodAll_cons h
  exact⟨a,b,Below.trod hl (hr t FX).1 (hr t FX).2 h1 hb (fun p hp=>hlt p (List.mem_append_left _ hp)),mS hl hb ts vs1 ds1 b (fun t' ht'=>hr t' (FY _ ht')) (fun p hp=>hlt p (List.mem_append_right _ hp)) h2,rfl⟩
theorem Ck {A:AProg} {G:Laid} (hA:A.Ok P G) (hG:G.P W (fun b=>b<W.heap.size)) {fid:FuncId} (hln:(A.lent fid,A.peek fid,A.turn fid,A.eye fid)=(none,none,false,false)) {f:Func} (hlaid:laidOutB P=true) (hpar:∀t∈f.params.toList,dg P 24 t=true/\P.readableRec t=true/\t<P.types.size)
  {bt:TypeId} (hres:f.resultTypes=#[bt]) (hbt:P.underlying bt=some .bool) {s:ChangeSpec} (hvars:s.vars=[])
  (hs:∀ds:List (DataW H),ds.length=f.params.size->s.fn H ds={ results:=[.lit (.bool true)],args:=ds })
  (hlaw:∀xs,wG P f.params.toList xs->∃n,acall A n fid xs=some (.lit (.bool true)))
  {args:Array Value} {ds gs:List (DataW H)} {before:List MemPlace} {base:Nat} (hval:∀(j:Nat) t v,f.params[j]? = some t->args[j]? = some v->Value.okWide P W .any base t v)
  (hW:DataW.Whole enc P f.params.toList s.vars false W args.toList ds gs before) :
  Calls P fid args W fun e W'=>∃v,e=.returned v/\s.post enc P f false true false false W args v W':=by
 have hW':=hW
 obtain⟨p,q,hT,hV,hpq,hfz,hnd⟩:=hW
 rw[hvars]at hV
 have hgs:gs=[]/\q=[]:=trodVars_none hV
 obtain⟨hg0,hq0⟩:=hgs
 subst hg0 hq0
 rw[List.append_nil]at hpq
 subst hpq
 obtain⟨xs,hxs,hxl,hxr⟩:=oj f.params.toList args.toList ds before (fun t ht=>(hpar t ht).1) (fun j t v h1 h2=>hval j t v (by simpa using h1) (by simpa using h2)) hT
 obtain⟨n,hn⟩:=hlaw xs hxs
 have hc:=((((((p6 hA n fid xs _ hn).2 (Prod.mk.inj (Prod.mk.inj (Prod.mk.inj hln).2).2).1).2 (Prod.mk.inj (Prod.mk.inj (Prod.mk.inj hln).2).2).2).1 (Prod.mk.inj (Prod.mk.inj hln).2).1).1 (Prod.mk.inj hln).1).1 (fun b=>b<W.heap.size) W args hG (fun _ h=>h) (by simpa using hxl.symm) (fun j x hx=>by
  have hj:j<args.size:=by have:=(FP.1 hx).1;simp at hxl;omega
  exact hxr j x _ hx (by rw[FU,Array.getElem?_eq_getElem hj];simp[hj]))).2
 refine hc.mono ?_
 rintro e W' ⟨v,rfl,hb,I2,S,_,_,_,_,hv⟩
 have:=bq hv
 subst this
 have hlen:ds.length=f.params.size:=by
  have:∀(ts:List TypeId) (vs:List Value) (ds:List (DataW H)) (ps:List MemPlace),DataW.TrodAll enc P W 0 (fun _=>true) true ts vs ds ps->ds.length=ts.length:=by
   intro ts
   induction ts with
   | nil=>intro vs ds ps h;obtain⟨rfl,rfl,rfl⟩:=trodAll_nil h;rfl
   | cons t ts ih=>intro vs ds ps h;obtain⟨v,vs1,d,ds1,a,b,rfl,rfl,rfl,h1,h2⟩:=trodAll_cons h;simp[ih _ _ _ h2]
  simpa using this _ _ _ _ hT
 have hlt:∀p∈before,p.block<W.heap.size:=fun p hp=>hW'.lt p hp
 refine⟨_,rfl,ds,[],before,[],before,[],hW',?_,?_,?_,?_,fun h=>by cases h⟩
 ·rw[List.append_nil,hs ds hlen,hres]
  exact trodAll_cons_mk (shut_bool hbt true) rfl
 ·rw[List.append_nil,hs ds hlen]
  exact mS hlaid hb _ _ _ _ (fun t ht=>(hpar t ht).2) hlt hT
 ·rw[List.append_nil,hs ds hlen,hvars]
  rfl
 ·exact World.keptBut_mono (fun p hp=>⟨hp,.inr (.inl hp)⟩) (hb.frame (· ∈ before))
end
end Go.Ab
end
section
namespace Go.Ab
section
variable {P:Program}
theorem Ev:∀t e,sO [] t=some e->ba P t e:=fun t e h=>by simp[sO]at h
theorem D8 {l:List (Nat × TyD)} {k:Nat} {d:TyD} (h1:tyOf P k=some d) (h:∀t e,sO l t=some e->ba P t e):∀t e,sO ((k,d)::l) t=some e->ba P t e:=by
 intro t e he
 simp only[sO]at he
 cases hk:k.beq t with
 | true =>
  rw[hk]at he
  have:k=t:=Nat.eq_of_beq_eq_true hk
  subst this
  cases he
  exact ba.of h1
 | false=>rw[hk]at he;exact h t e he
def EM (P : Program) (f : FuncId) (fn : Func) : Prop := P.funcs[f]? = some fn ∧ (fn.name == "runtime.NumGoroutine") = false ∧ fn.body.isSome = true
theorem fn_nil:∀(f:FuncId) (e:Func),(none:Option Func)=some e->EM P f e:=fun f e h=>by cases h
theorem ak {g : FuncId → Option Func} {k : FuncId} {fn : Func} (h1 : P.funcs[k]? = some fn) (h2 : (fn.name == "runtime.NumGoroutine") = false) (h3 : fn.body.isSome = true) (h : ∀ f e, g f = some e → EM P f e) :
  ∀f e,(bif Nat.beq f k then some fn else g f)=some e->EM P f e:=by
 intro f e he
 cases hk:Nat.beq f k with
 | true =>
  rw[hk]at he
  have:f=k:=Nat.eq_of_beq_eq_true hk
  subst this
  cases he
  exact⟨h1,h2,h3⟩
 | false=>rw[hk]at he;exact h f e he
theorem bA.zP {t:TypeId} {k:IntKind} {cs:List TV} (h:bA P t cs) (hu:P.underlying t=some (.int k)):∃n,cs=[.lit (.int k n)]/\(Lit.int k n).wf=true:=by
 cases h with
 | int hu' hw=>rw[hu]at hu';cases hu';exact⟨_,rfl,hw⟩
 | bool hu'=>rw[hu]at hu';cases hu'
 | str hu'=>rw[hu]at hu';cases hu'
 | nil hu'=>rw[hu]at hu';cases hu'
 | sl hu'=>rw[hu]at hu';cases hu'
 | struct hu'=>rw[hu]at hu';cases hu'
 | arr hu'=>rw[hu]at hu';cases hu'
theorem bA.Fi {t:TypeId} {cs:List TV} (h:bA P t cs) (hu:P.underlying t=some .bool):∃b,cs=[.lit (.bool b)]:=by
 cases h with
 | int hu' hw=>rw[hu]at hu';cases hu'
 | bool hu'=>exact⟨_,rfl⟩
 | str hu'=>rw[hu]at hu';cases hu'
 | nil hu'=>rw[hu]at hu';cases hu'
 | sl hu'=>rw[hu]at hu';cases hu'
 | struct hu'=>rw[hu]at hu';cases hu'
 | arr hu'=>rw[hu]at hu';cases hu'
theorem F2.Em {α:Type} {R:List TV->α->Prop}:∀(xs:List (List TV)),(∀(i:Nat) x,xs[i]? = some x->∃a,R x a)->∃l,F2 R xs l
 | [],_=>⟨[],.nil⟩
 | x::xs,h=>by
  obtain⟨a,ha⟩:=h 0 x rfl
  obtain⟨l,hl⟩:=F2.Em xs fun i y hy=>h (i+1) y (by simpa using hy)
  exact⟨a::l,.cons ha hl⟩
theorem bA.yG {α:Type} {R:List TV->α->Prop} {t e:TypeId} {s:Nat} {cs:List TV} (h:bA P t cs) (hu:P.underlying t=some (.slice e)) (hs:P.cellsOf e=s) (hR:∀x,bA P e x->∃a,R x a):∃x l,cs=[x]/\RL (some false) s R x l:=by
 subst hs
 cases h with
 | int hu' hw=>rw[hu]at hu';cases hu'
 | bool hu'=>rw[hu]at hu';cases hu'
 | str hu' hl=>rw[hu]at hu';cases hu'
 | nil hu'=>exact⟨_,[],rfl,.nil⟩
 | sl hu' hl h =>
  rw[hu]at hu'
  cases hu'
  obtain⟨l,hl'⟩:=F2.Em _ fun i x hx=>hR x (h i x hx)
  exact⟨_,l,rfl,.sl (by simp) hl' (by have:maxLen=9223372036854775807:=rfl;omega)⟩
 | struct hu'=>rw[hu]at hu';cases hu'
 | arr hu'=>rw[hu]at hu';cases hu'
theorem bA.iL {t:TypeId} {fs:Array Field} {cs:List TV} (h:bA P t cs) (hu:P.underlying t=some (.struct fs)):cs.length=P.cellsOf t/\∀(i:Nat) (f:Field),fs[i]? = some f->bA P f.type ((cs.drop f.offset).take (P.cellsOf f.type)):=by
 cases h with
 | int hu' hw=>rw[hu]at hu';cases hu'
 | bool hu'=>rw[hu]at hu';cases hu'
 | str hu' hl=>rw[hu]at hu';cases hu'
 | nil hu'=>rw[hu]at hu';cases hu'
 | sl hu'=>rw[hu]at hu';cases hu'
 | struct hu' hl h=>rw[hu]at hu';cases hu';exact⟨hl,h⟩
 | arr hu'=>rw[hu]at hu';cases hu'
theorem wf_i64 {n:Int} (h:(Lit.int .i64 n).wf=true):inI n:=by
 simp only[Lit.wf,FS,decide_eq_true_eq]at h
 exact h
theorem wf_u16 {n:Int} (h:(Lit.int .u16 n).wf=true):inW n:=by
 simp only[Lit.wf,FS,decide_eq_true_eq]at h
 exact h
end
end Go.Ab
end

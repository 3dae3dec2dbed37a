import Derived.Test.YtpkpckdealhkhaaBM15
import Derived.ProofKit
import Derived.OpenShut
import Derived.Carry
import Derived.Deep.Slices
import Derived.Test.YtpkpckdealhkhaaBC14T
set_option linter.all false
section
namespace Go.Ab
open Go.RowKit
section
variable {P:Program} {E:Env} {C:Cal} {w0:Bs} {w w':World} {I0 I R:Nat->Prop} {g g':Gh} {st st':ASt} {a:Act} {ov:List Value} {look:Look} {T:Type} {J:List Nat->ASt->T->Prop} {rs:List (Nat × Nat)}
def kQ:CA->Option (Nat × Nat)
 | .sref i r _=>some (i,r)
 | .swin i r _ _ _=>some (i,r)
 | _=>none
def sR (g:Gh) (look:Look) (i r b:Nat):Prop:=∃xs,look i=some (.tree xs)/\r<xs.length/\g.φ i r b
def CF (g:Gh) (look:Look) (rs:List (Nat × Nat)) (c:CA) (b:Nat):Prop:=∃i r,kQ c=some (i,r)/\oA rs i r=true/\sR g look i r b
def I2 (g:Gh) (look:Look) (rs:List (Nat × Nat)) (b:Nat):Prop:=g.I b\/∃i r,oA rs i r=false/\sR g look i r b
theorem sR.foot {i r b:Nat} (h:sR g look i r b):Foot g look i b:=by
 obtain⟨xs,h1,h2,h3⟩:=h
 exact .inr ⟨xs,r,h1,h2,h3⟩
theorem aj.AX (hs:aj w0 I0 R g st a ov w) {i r i' r' b:Nat} (h:sR g st.look i r b) (h':sR g st.look i' r' b):i=i'/\r=r':=by
 have:=hs.apart i i' b h.foot h'.foot
 subst this
 obtain⟨xs,h1,h2,h3⟩:=h
 obtain⟨xs',h1',h2',h3'⟩:=h'
 rw[h1]at h1'
 cases h1'
 exact⟨rfl,hs.apartR i xs r r' b h1 h2 h2' h3 h3'⟩
theorem qY (hs:aj w0 I0 R g st a ov w) {c:CA} {u:Value} {k:TV->Prg TV} {J:List Nat->ASt->TV->Prop} {e:TV} (hc:bB w g st.look c u) (h:(pY st.look rs c k).goes C J e) :
  ∃x,(k x).goes C J e/\al w (I2 g st.look rs) x u (CF g st.look rs c):=by
 have fin:∀{i r:Nat} {x:TV} {S:Nat->Prop} {xs:List TV},kQ c=some (i,r)->st.look i=some (.tree xs)->r<xs.length->al w g.I x u S->(∀b,S b->g.φ i r b)->(k (bif oA rs i r then x else frz x)).goes C J e ->
   ∃x,(k x).goes C J e/\al w (I2 g st.look rs) x u (CF g st.look rs c):=by
  intro i r x S xs hr hl hrl hx hS hk
  refine⟨_,hk,?_⟩
  cases hp:oA rs i r with
  | true=>exact hx.mv (fun _ _=>rfl) (fun _ h=>.inl h) (fun _ _=>rfl) (fun b hb=>⟨i,r,hr,hp,xs,hl,hrl,hS b hb⟩)
  | false=>exact .fr (hx.frz (I':=I2 g st.look rs) (fun _ h=>.inl h) (fun b hb=>.inr ⟨i,r,hp,xs,hl,hrl,hS b hb⟩))
 cases c with
 | t x=>exact⟨x,h,.fr (hc.1.mv (fun _ _=>rfl) (fun _ h=>.inl h))⟩
 | sref i r p =>
  simp only[pY,gR]at h
  split at h
  ·rename_i x hx
   obtain⟨xs,h1,h2⟩:=aw hx
   obtain⟨y,h3,h4⟩:=kq h
   obtain⟨xs',x',nd,g1,g2,g3,g4⟩:=hc
   rw[h1]at g1
   cases g1
   rw[h2]at g2
   cases g2
   obtain⟨_,S',r1,r2⟩:=hs.at h1 h2 g3 h3
   exact fin rfl h1 (Ch.1 h2).1 r1 r2 h4
  ·exact h.elim
 | swin i r p lo len =>
  simp only[pY,gR]at h
  split at h
  ·rename_i x hx
   obtain⟨xs,h1,h2⟩:=aw hx
   obtain⟨y,h3,z,h4,h5⟩:=kq h
   obtain⟨xs',x',u0,nd,g1,g2,g3,g4,g5⟩:=hc
   rw[h1]at g1
   cases g1
   rw[h2]at g2
   cases g2
   obtain⟨e1,S',r1,r2⟩:=hs.at h1 h2 g3 h3
   exact fin rfl h1 (Ch.1 h2).1 (cK r1 e1 g5 h4) r2 h5
  ·exact h.elim
 | _=>exact h.elim
theorem qN (hs:aj w0 I0 R g st a ov w) {J:List Nat->ASt->TV->Prop}:∀{cs:List CA} {us:List Value} {k:List TV->Prg TV} {e:TV},CR w g st.look cs us->(xr st.look rs cs k).goes C J e ->
  ∃ys,(k ys).goes C J e/\ys.length=cs.length/\∀(m:Nat) (c:CA) (y:TV) (u:Value),cs[m]? = some c->ys[m]? = some y->us[m]? = some u->al w (I2 g st.look rs) y u (CF g st.look rs c)
 | [],us,k,e,hcr,h=>⟨[],h,rfl,fun m c y u hc=>by simp at hc⟩
 | c :: l, us, k, e, hcr, h => by
  obtain⟨u0,us',rfl⟩:∃u0 us',us=u0::us':=by
   cases us with
   | nil=>have:=hcr.1;simp at this
   | cons u0 us'=>exact⟨u0,us',rfl⟩
  have hc:=hcr.2 0 c u0 rfl rfl
  have hcr':CR w g st.look l us':=⟨by have:=hcr.1;simpa using this,fun j c' u hc' hu'=>hcr.2 (j+1) c' u (by simpa using hc') (by simpa using hu')⟩
  obtain⟨y,h1,h2⟩:=qY hs hc.1 h
  obtain⟨ys,h3,h4,h5⟩:=qN hs hcr' h1
  refine⟨y::ys,h3,by simp[h4],fun m c' y' u hc' hy hu=>?_⟩
  cases m with
  | zero=>simp at hc' hy hu;subst hc' hy hu;exact h2
  | succ m=>simp at hc' hy hu;exact h5 m c' y' u hc' hy hu
theorem bH (i r:Nat):∀(l l':List (Nat × Nat)),countP i r (l++l')=countP i r l+countP i r l'
 | [],l'=>by simp[countP]
 | (p,q)::l,l'=>by
  simp only[List.cons_append,countP,bH i r l l']
  cases p.beq i&&q.beq r<;>simp<;>omega
theorem fx (c:CA) (l:List CA):d6 (c::l)=d6 [c]++d6 l:=by cases c<;>rfl
theorem mM {i r:Nat} {c:CA} (h:kQ c=some (i,r)):countP i r (d6 [c])=1:=by
 cases c<;>simp[kQ]at h<;>obtain⟨rfl,rfl⟩:=h<;>simp[d6,countP]
theorem iE {i r:Nat} {c:CA} (h:kQ c=some (i,r)):∀{cs:List CA} {m:Nat},cs[m]? = some c->1<=countP i r (d6 cs)
 | [],m,hm=>by simp at hm
 | d::cs,0,hm=>by
  simp at hm
  subst hm
  rw[fx,bH,mM h]
  omega
 | d::cs,m+1,hm=>by
  rw[fx,bH]
  have:=iE h (cs:=cs) (m:=m) (by simpa using hm)
  omega
theorem sf {i r:Nat} {c c':CA} (h:kQ c=some (i,r)) (h':kQ c'=some (i,r)):∀{cs:List CA} {m m':Nat},cs[m]? = some c->cs[m']? = some c'->m≠m'->2<=countP i r (d6 cs)
 | [],m,m',hm,_,_=>by simp at hm
 | d::cs,0,0,_,_,hn=>absurd rfl hn
 | d::cs,0,m'+1,hm,hm',_=>by
  simp at hm
  subst hm
  rw[fx,bH,mM h]
  have:=iE h' (cs:=cs) (m:=m') (by simpa using hm')
  omega
 | d::cs,m+1,0,hm,hm',_=>by
  simp at hm'
  subst hm'
  rw[fx,bH,mM h']
  have:=iE h (cs:=cs) (m:=m) (by simpa using hm)
  omega
 | d::cs,m+1,m'+1,hm,hm',hn=>by
  rw[fx,bH]
  have:=sf h h' (cs:=cs) (m:=m) (m':=m') (by simpa using hm) (by simpa using hm') (fun e=>hn (by rw[e]))
  omega
def jG:AV->List CA
 | .one c=>[c]
 | .agg cs=>cs
 | _=>[]
theorem mj (v:AV):v.Cf=d6 (jG v):=by cases v<;>rfl
def VF (g:Gh) (look:Look) (rs:List (Nat × Nat)) (v:AV) (b:Nat):Prop:=∃(m:Nat) (c:CA),(jG v)[m]? = some c/\CF g look rs c b
theorem wq (hs:aj w0 I0 R g st a ov w) {J:List Nat->ASt->TV->Prop} {v:AV} {u:Value} {k:TV->Prg TV} {e:TV} (hv:bA w g st.look v u) (hcnt:∀i r,countP i r (d6 (jG v))<=countP i r rs) (h:(wz st.look rs v k).goes C J e) :
  ∃x,(k x).goes C J e/\al w (I2 g st.look rs) x u (VF g st.look rs v):=by
 cases v with
 | one c =>
  obtain⟨x,h1,h2⟩:=qY hs hv h
  exact⟨x,h1,h2.mono (fun b hb=>⟨0,c,rfl,hb⟩)⟩
 | tv x=>exact⟨x,h,.fr (Rep.mv (fun _ _=>rfl) (fun _ h=>.inl h) hv)⟩
 | bl b =>
  have:u=.bool b:=hv
  subst this
  exact⟨_,h,.fr (.lit _)⟩
 | tups l=>exact h.elim
 | clo _ l=>exact h.elim
 | agg cs =>
  obtain⟨vs,rfl,hcr⟩:=hv
  obtain⟨ys,h1,h2,h3⟩:=qN hs hcr h
  have hlen:vs.size=cs.length:=by have:=hcr.1;simpa using this
  refine⟨_,h1,.agg (fun m b=>∃c,cs[m]? = some c/\CF g st.look rs c b) (by rw[h2];exact hlen) (fun j hj=>?_) (fun j y hy=>?_) (fun m b hb=>?_) (fun m m' b hb hb'=>?_)⟩
  ·have hg:vs.toList[j]? = some vs[j]:=by simp[hj]
   have hc:cs[j]? = some (cs[j]'(by omega)):=Ci _
   rw[Cx,Array.getElem?_eq_getElem hj]
   exact(hcr.2 j _ _ hc hg).2
  ·have hj:j<vs.size:=by have:=(Ch.1 hy).1;omega
   have hg:vs.toList[j]? = some vs[j]:=by simp[hj]
   have hc:cs[j]? = some (cs[j]'(by omega)):=Ci _
   rw[Cx,Array.getElem?_eq_getElem hj]
   exact(h3 j _ y _ hc hy hg).mono (fun b hb=>⟨_,hc,hb⟩)
  ·obtain⟨c,h4,h5⟩:=hb
   exact⟨m,c,h4,h5⟩
  ·obtain⟨c,c1,i,r,c2,c3,c4⟩:=hb
   obtain⟨c',d1,i',r',d2,d3,d4⟩:=hb'
   obtain⟨e1,e2⟩:=hs.AX c4 d4
   subst e1 e2
   by_cases hmm:m=m'
   ·exact hmm
   ·have h5:=sf c2 d2 c1 d1 hmm
    have h6:=hcnt i r
    simp only[jG]at h6
    simp only[oA,Nat.ble_eq]at c3
    omega
theorem qW (hs:aj w0 I0 R g st a ov w) {J:List Nat->ASt->TV->Prop}:∀{vs:List AV} {us:List Value} {k:List TV->Prg TV} {e:TV},l7 w g st.look vs us->(∀i r,countP i r (dk vs)<=countP i r rs)->(gives st.look rs vs k).goes C J e ->
  ∃ys,(k ys).goes C J e/\ys.length=vs.length/\∀(m:Nat) (v:AV) (y:TV) (u:Value),vs[m]? = some v->ys[m]? = some y->us[m]? = some u->al w (I2 g st.look rs) y u (VF g st.look rs v)
 | [],us,k,e,hcr,hcnt,h=>⟨[],h,rfl,fun m c y u hc=>by simp at hc⟩
 | v :: l, us, k, e, hcr, hcnt, h => by
  obtain⟨u0,us',rfl⟩:∃u0 us',us=u0::us':=by
   cases us with
   | nil=>have:=hcr.len;simp at this
   | cons u0 us'=>exact⟨u0,us',rfl⟩
  obtain⟨hv,hvs⟩:=hcr
  have hc1:∀i r,countP i r (d6 (jG v))<=countP i r rs:=fun i r=>by
   have:=hcnt i r
   rw[dk,bH,mj]at this
   omega
  have hc2:∀i r,countP i r (dk l)<=countP i r rs:=fun i r=>by
   have:=hcnt i r
   rw[dk,bH]at this
   omega
  obtain⟨y,h1,h2⟩:=wq hs hv hc1 h
  obtain⟨ys,h3,h4,h5⟩:=qW hs hvs hc2 h1
  refine⟨y::ys,h3,by simp[h4],fun m c' y' u hc' hy hu=>?_⟩
  cases m with
  | zero=>simp at hc' hy hu;subst hc' hy hu;exact h2
  | succ m=>simp at hc' hy hu;exact h5 m c' y' u hc' hy hu
theorem mL {i r:Nat} {c:CA} (h:kQ c=some (i,r)):∀{vs:List AV} {v:AV} {j m:Nat},vs[j]? = some v->(jG v)[m]? = some c->1<=countP i r (dk vs)
 | [],v,j,m,hj,_=>by simp at hj
 | d::vs,v,0,m,hj,hm=>by
  simp at hj
  subst hj
  rw[dk,bH,mj]
  have:=iE h hm
  omega
 | d::vs,v,j+1,m,hj,hm=>by
  rw[dk,bH]
  have:=mL h (vs:=vs) (j:=j) (by simpa using hj) hm
  omega
theorem qA {i r:Nat} {c c':CA} (h:kQ c=some (i,r)) (h':kQ c'=some (i,r)):∀{vs:List AV} {v v':AV} {j j' m m':Nat},vs[j]? = some v->vs[j']? = some v'->(jG v)[m]? = some c->(jG v')[m']? = some c'->j≠j'->2<=countP i r (dk vs)
 | [],v,v',j,j',m,m',hj,_,_,_,_=>by simp at hj
 | d::vs,v,v',0,0,m,m',_,_,_,_,hn=>absurd rfl hn
 | d::vs,v,v',0,j'+1,m,m',hj,hj',hm,hm',_=>by
  simp at hj
  subst hj
  rw[dk,bH,mj]
  have:=iE h hm
  have:=mL h' (vs:=vs) (j:=j') (by simpa using hj') hm'
  omega
 | d::vs,v,v',j+1,0,m,m',hj,hj',hm,hm',_=>by
  simp at hj'
  subst hj'
  rw[dk,bH,mj]
  have:=iE h' hm'
  have:=mL h (vs:=vs) (j:=j) (by simpa using hj) hm
  omega
 | d::vs,v,v',j+1,j'+1,m,m',hj,hj',hm,hm',hn=>by
  rw[dk,bH]
  have:=qA h h' (vs:=vs) (j:=j) (j':=j') (by simpa using hj) (by simpa using hj') hm hm' (fun e=>hn (by rw[e]))
  omega
def Ans (w0:Bs) (I0:Nat->Prop) (x:TV) (v:Value) (w':World):Prop :=
 ∃I' S:Nat->Prop,(∀b,I0 b->I' b)/\(∀b,I' b->b<w'.heap.size)/\(∀b,¬w0.New b->I' b->I0 b)/\(∀b,S b->w0.New b/\b<w'.heap.size/\¬I' b)/\al w' I' x v S
theorem rT (hT:∀t d,E.T t=some d->aV P t d) (hs:aj w0 I0 NoR g st a ov w) {fn:Func} {pu:Bool} {J:List Nat->ASt->TV->Prop} {x:TV} (h:(zY E.T pu fn.results.toList st).goes C J x) :
  ∃v,(results fn a.tmps).run P w=.ok v w/\Ans w0 I0 x v w:=by
 have hm:∀(vs:List Value),(fn.results.toList.mapM (lr a.tmps)).run P w=.ok vs w ->
   (results fn a.tmps).run P w=.ok (if h:vs.toArray.size=1 then vs.toArray[0]else .tuple vs.toArray) w:=by
  intro vs hv
  rw[pZ,Array.mapM_eq_mapM_toList,<-bind_pure_comp]
  simp only[Sem.run_bind,hv,Result.andThen_ok,Sem.run_pure]
 unfold zY at h
 split at h
 ·rename_i avs hav
  obtain⟨us,hrun,hreps⟩:=jk (P:=P) hT hs _ _ hav
  obtain⟨ys,hk,hlen,hrep⟩:=qW hs hreps (fun _ _=>Nat.le_refl _) h
  have hul:=hreps.len
  obtain⟨rs',hrs'⟩:∃rs',rs'=dk avs:=⟨_,rfl⟩
  rw[<-hrs']at hrep
  have base:∀(S:Nat->Prop) (y:TV) (v:Value),(∀b,S b->∃(m:Nat) (v:AV),avs[m]? = some v/\VF g st.look rs' v b)->al w (I2 g st.look rs') y v S->Ans w0 I0 y v w:=by
   intro S y v hS hr
   refine⟨I2 g st.look rs',S,fun b hb=>.inl (hs.sub b hb),fun b hb=>?_,fun b hb hI=>?_,fun b hb=>?_,hr⟩
   ·rcases hb with hb|⟨i,r,_,hb⟩
    ·exact hs.lt b hb
    ·exact(hs.foot i b hb.foot).2.1
   ·rcases hI with h'|⟨i,r,_,h'⟩
    ·exact hs.old b hb h'
    ·exact absurd (hs.foot i b h'.foot).1 hb
   ·obtain⟨m,v,_,m',c,_,i,r,_,hp,hb'⟩:=hS b hb
    obtain⟨f1,f2,f3,_⟩:=hs.foot i b hb'.foot
    refine⟨f1,f2,?_⟩
    rintro(h'|⟨i',r',hp',h'⟩)
    ·exact f3 h'
    ·obtain⟨e1,e2⟩:=hs.AX hb' h'
     subst e1 e2
     rw[hp]at hp'
     cases hp'
  have single:∀x0,ys=[x0]->∃v,(results fn a.tmps).run P w=.ok v w/\Ans w0 I0 x0 v w:=by
   intro x0 hy
   subst hy
   have hl1:us.length=1:=by rw[hul,<-hlen];rfl
   match us,hl1,hrun,hrep with
   | [u], _, hrun, hrep =>
    have hal:avs.length=1:=by rw[<-hlen];rfl
    match avs,hal,hrep,base with
    | [v],_,hrep,base =>
     refine⟨u,by simpa using hm [u] hrun,base _ x0 u (fun b hb=>⟨0,v,rfl,hb⟩) (hrep 0 v x0 u rfl rfl rfl)⟩
  have many:ys.length≠1->∃v,(results fn a.tmps).run P w=.ok v w/\Ans w0 I0 (.tup ys) v w:=by
   intro hn
   have h1:¬us.toArray.size=1:=by simp;omega
   refine⟨.tuple us.toArray,by rw[hm us hrun,dif_neg h1],base (fun b=>∃(m:Nat) (v:AV),avs[m]? = some v/\VF g st.look rs' v b) _ _ (fun b hb=>hb) ?_⟩
   refine .tup (fun m b=>∃v,avs[m]? = some v/\VF g st.look rs' v b) (by simp;omega) (fun j y hy=>?_) (fun m b ⟨v,h1,h2⟩=>⟨m,v,h1,h2⟩) (fun m m' b hb hb'=>?_)
   ·have hj:j<us.length:=by have:=(Ch.1 hy).1;omega
    have hju:us[j]? = some us[j]:=Ci hj
    have hja:avs[j]? = some (avs[j]'(by omega)):=Ci _
    have:us.toArray.getD j undef=us[j]:=by simp[hj]
    rw[this]
    exact(hrep j _ y _ hja hy hju).mono (fun b hb=>⟨_,hja,hb⟩)
   ·obtain⟨v,c1,q,c,c2,i,r,c3,c4,c5⟩:=hb
    obtain⟨v',d1,q',c',d2,i',r',d3,d4,d5⟩:=hb'
    obtain⟨e1,e2⟩:=hs.AX c5 d5
    subst e1 e2
    by_cases hmm:m=m'
    ·exact hmm
    ·have:=qA c3 d3 c1 d1 c2 d2 hmm
     simp only[oA,Nat.ble_eq,hrs']at c4
     omega
  split at hk
  ·rename_i x0
   cases pu with
   | true =>
    simp only[cond_true]at hk
    obtain⟨h1,h2⟩:=hk
    have h2:x0=x:=h2
    subst h2
    exact single _ rfl
   | false =>
    simp only[cond_false]at hk
    have h2:x0=x:=hk
    subst h2
    exact single _ rfl
  ·rename_i hne
   have hn:ys.length≠1:=fun e=>by
    match ys,e with
    | [y],_=>exact hne y rfl
   cases pu with
   | true =>
    simp only[cond_true]at hk
    obtain⟨h1,h2⟩:=hk
    have h2:TV.tup ys=x:=h2
    subst h2
    exact many hn
   | false =>
    simp only[cond_false]at hk
    have h2:TV.tup ys=x:=hk
    subst h2
    exact many hn
 ·exact h.elim
theorem xU {I:Nat->Prop} {G:Laid} (hG:G.P w I) (hlt:∀b,I b->b<w.heap.size) {ntmps:Nat} {args:List TV} {vals:Array Value} (hle:args.length<=ntmps) (hsz:vals.size=args.length) (hargs:∀(j:Nat) (x:TV),args[j]? = some x->Rep w I x (vals.getD j undef)) :
  Sim (Bs.of w (fun _=>False) G) I (gU ntmps args) { tmps:=vals++Array.replicate (ntmps-vals.size) undef,defers:=[] } [] w:=by
 have hlk:∀i,(gU ntmps args).look i=none:=fun i=>by
  simp only[gU,ASt.look,a7,List.getElem?_replicate]
  split<;>rfl
 have hnf:∀(g:Gh) i b,¬Foot g (gU ntmps args).look i b:=fun g i b h=>by
  rcases h with⟨cs,h,_⟩|⟨xs,r,h,_⟩<;>rw[hlk]at h<;>cases h
 refine⟨⟨I,fun _ _=>undef,fun _=>0,fun _ _ _=>False,⟨fun _=>none,fun _=>0⟩⟩,⟨Bs.Bel.refl _,fun _ h=>h,hlt,fun _ _ h=>h,by simp[gU,hsz],rfl,fun t v hv=>?_,rfl,(fun t v hv=>by simp[gU]at hv),(fun i cs hb=>by rw[hlk]at hb;cases hb),(fun i xs hb=>by rw[hlk]at hb;cases hb),
  (fun i b h=>(hnf _ i b h).elim),(fun i j b h=>(hnf _ i b h).elim),(fun i xs r r' b h=>by rw[hlk]at h;cases h),(fun b h=>h.elim),⟨fun b hb=>⟨hlt b hb,fun h=>h⟩,hG⟩,⟨(fun b ob h=>by cases h),rfl⟩⟩⟩
 simp only[gU,List.getElem?_append,List.length_map,Cn]at hv
 by_cases ht:t<args.length
 ·simp only[ht,if_true]at hv
  rw[Ci ht]at hv
  simp only[Cv,Cj]at hv
  subst hv
  have:=hargs t _ (Ci ht)
  have hg:(vals++Array.replicate (ntmps-vals.size) undef).getD t undef=vals.getD t undef:=by
   have:t<vals.size:=by omega
   rw[Cx,Array.getElem?_append_left this,<-Cx]
  simp only[hg]
  exact this
 ·simp only[ht,if_false,List.getElem?_replicate]at hv
  split at hv
  ·simp only[Cj]at hv
   subst hv
   show(vals++Array.replicate (ntmps-vals.size) undef).getD t undef=undef
   rw[Cx,Array.getElem?_append_right (by omega),Array.getElem?_replicate]
   split<;>rfl
  ·cases hv
theorem wo {I:Nat->Prop} {G:Laid} (hG:G.P w I) (hlt:∀b,I b->b<w.heap.size) {b:Nat} {vs:Array Value} {ty:TypeId} (hheap:w.heap[b]? = some (.cells vs ty (0,0))) (hone:∀u∈vs.toList,u.oneCell'=true)
  {cs:List TV} (hvs:vs.size=cs.length) (hrc:∀(j:Nat) (c:TV),cs[j]? = some c->Rep w I c (vs.getD j undef)) {ntmps:Nat} {args:List TV} {vals:Array Value} (hle:args.length+1<=ntmps)
  (hsz:vals.size=args.length+1) (h0:vals.getD args.length undef=.pointer (some ⟨b,0,none⟩)) (hargs:∀(j:Nat) (x:TV),args[j]? = some x->Rep w I x (vals.getD j undef)) :
  Sim (Bs.of w (fun _=>False) G) I (jr ntmps cs args) { tmps:=vals++Array.replicate (ntmps-vals.size) undef,defers:=[] } [] w:=by
 have hlk:∀i,(jr ntmps cs args).look i=none:=fun i=>by
  simp only[jr,ASt.look,a7,List.getElem?_replicate]
  split<;>rfl
 have hnf:∀(g:Gh) i b,¬Foot g (jr ntmps cs args).look i b:=fun g i b h=>by
  rcases h with⟨cs,h,_⟩|⟨xs,r,h,_⟩<;>rw[hlk]at h<;>cases h
 have hp:bA w ⟨I,fun _ _=>undef,fun _=>0,fun _ _ _=>False,⟨fun k=>if k=b then some (.cells vs ty (0,0))else none,fun _=>0⟩⟩ (jr ntmps cs args).look (.one (.ref cs 0)) (.pointer (some ⟨b,0,none⟩)):=by
  refine⟨⟨b,0,none⟩,fun j=>vs.getD j undef,by simp[Addr.add],fun j y hj=>?_⟩
  have hjv:j<vs.size:=by rw[hvs];exact(Ch.1 hj).1
  have hg:vs[j]? = some (vs.getD j undef):=by rw[Array.getElem?_eq_getElem hjv];simp[hjv]
  refine⟨.inr ⟨.cells vs ty (0,0),by rw[fc];simp,fun w' hw'=>?_⟩,hone _ (by rw[<-Cl]at hg;exact Cq hg),hrc j y hj⟩
  have hw2:w'.heap[b]? = some (.cells vs ty (0,0)):=by rw[fc]at hw';exact hw'
  rw[fc,cell_of_row w' b _ vs ty (0,0) hw2]
  simpa using hg
 refine⟨⟨I,fun _ _=>undef,fun _=>0,fun _ _ _=>False,⟨fun k=>if k=b then some (.cells vs ty (0,0))else none,fun _=>0⟩⟩,⟨Bs.Bel.refl _,fun _ h=>h,hlt,fun _ _ h=>h,by simp[jr,hsz];omega,rfl,fun t v hv=>?_,rfl,(fun t v hv=>by simp[jr]at hv),(fun i cs hb=>by rw[hlk]at hb;cases hb),(fun i xs hb=>by rw[hlk]at hb;cases hb),
  (fun i b h=>(hnf _ i b h).elim),(fun i j b h=>(hnf _ i b h).elim),(fun i xs r r' b h=>by rw[hlk]at h;cases h),(fun b h=>h.elim),⟨fun b hb=>⟨hlt b hb,fun h=>h⟩,hG⟩,⟨fun k ob hk=>?_,rfl⟩⟩⟩
 ·simp only[jr]at hv
  by_cases ht:t<args.length
  ·rw[Cr (by simpa using ht),Cn,Ci ht]at hv
   simp only[Cv,Cj]at hv
   subst hv
   have:=hargs t _ (Ci ht)
   have hg:(vals++Array.replicate (ntmps-vals.size) undef).getD t undef=vals.getD t undef:=by
    have:t<vals.size:=by omega
    rw[Cx,Array.getElem?_append_left this,<-Cx]
   simp only[hg]
   exact this
  ·rw[Cs (by simpa using ht)]at hv
   simp only[List.length_map]at hv
   by_cases ht2:t=args.length
   ·subst ht2
    rw[Nat.sub_self]at hv
    simp only[List.getElem?_cons_zero,Cj]at hv
    subst hv
    have hg:(vals++Array.replicate (ntmps-vals.size) undef).getD args.length undef=vals.getD args.length undef:=by
     have:args.length<vals.size:=by omega
     rw[Cx,Array.getElem?_append_left this,<-Cx]
    simp only[hg,h0]
    exact hp
   ·rw[show t-args.length=(t-args.length-1)+1 by omega,List.getElem?_cons_succ,List.getElem?_replicate]at hv
    split at hv
    ·simp only[Cj]at hv
     subst hv
     show(vals++Array.replicate (ntmps-vals.size) undef).getD t undef=undef
     rw[Cx,Array.getElem?_append_right (by omega),Array.getElem?_replicate]
     split<;>rfl
    ·cases hv
 ·simp only at hk
  split at hk
  ·rename_i e
   simp only[Cj]at hk
   subst e hk
   exact⟨hheap,fun h=>h⟩
  ·cases hk
end
section
variable {E:Env} {C:Cal} {st:ASt} {T:Type} {J:List Nat->ASt->T->Prop} {r:T} {look:Look}
theorem wY {c:CA} {k:TV->Prg T} (h:(gR look c k).goes C J r):∃x,(k x).goes C J r:=by
 unfold gR at h
 split at h
 ·exact⟨_,h⟩
 ·split at h
  ·obtain⟨y,_,h⟩:=kq h;exact⟨y,h⟩
  ·exact h.elim
 ·split at h
  ·obtain⟨y,_,z,_,h⟩:=kq h;exact⟨z,h⟩
  ·exact h.elim
 ·exact h.elim
theorem rW {k:ASt->Prg T}:∀{l:List Nat} {st:ASt},(m8 l st k).goes C J r->∃st',(k st').goes C J r
 | [],st,h=>⟨st,h⟩
 | s :: l, st, h => by
  have:∃st',(m8 l st' k).goes C J r:=by
   unfold m8 xk at h
   split at h
   ·split at h
    ·exact⟨_,h⟩
    ·exact⟨_,h⟩
   ·exact⟨_,h⟩
   ·split at h
    ·obtain⟨y,_,h⟩:=h
     simp only[]at h
     split at h
     ·exact⟨_,h⟩
     ·exact h.elim
    ·exact h.elim
   ·split at h
    ·obtain⟨_,h⟩:=h
     split at h
     ·exact⟨_,h⟩
     ·exact h.elim
    ·exact h.elim
  obtain⟨st',h'⟩:=this
  exact rW h'
theorem vx {i c:Nat} {k:ASt->Prg T} (h:(sH st i c k).goes C J r):∃st',(k st').goes C J r:=by
 unfold sH at h
 split at h
 ·split at h
  ·split at h
   ·split at h
    ·exact⟨_,h⟩
    ·exact⟨_,h⟩
   ·exact⟨_,h⟩
  ·exact⟨_,h⟩
 ·exact⟨_,h⟩
theorem nh {k : ASt → Prg T} : ∀ {l : List (Nat × Nat)} {st : ASt}, (gQ l st k).goes C J r → ∃ st', (k st').goes C J r
 | [],st,h=>⟨st,h⟩
 | (s, c) :: l, st, h => by
  have : ∃ st', (gQ l st' k).goes C J r := by
   simp only[gQ]at h
   cases hb2:Nat.ble 2000 c with
   | true =>
    rw[hb2]at h
    simp only[cond_true]at h
    unfold tI ww at h
    split at h
    ·split at h
     ·split at h
      ·split at h
       ·obtain⟨_,_,_,_,h⟩:=h
        simp only[]at h
        split at h
        ·split at h
         ·exact⟨_,h⟩
         ·exact h.elim
        ·exact h.elim
       ·exact h.elim
      ·exact⟨_,h⟩
     ·exact⟨_,h⟩
    ·exact⟨_,h⟩
   | false =>
   rw[hb2]at h
   simp only[cond_false]at h
   unfold wM at h
   split at h
   ·split at h
    ·split at h
     ·exact vx (k:=fun st=>gQ l st k) h
     ·exact⟨_,h⟩
     ·split at h
      ·obtain⟨_,_,h⟩:=h
       simp only[]at h
       split at h
       ·split at h
        ·exact vx (k:=fun st=>gQ l st k) h
        ·exact h.elim
       ·exact h.elim
      ·exact h.elim
     ·obtain⟨_,h⟩:=h
      split at h
      ·exact⟨_,h⟩
      ·exact h.elim
     ·exact h.elim
    ·exact h.elim
   ·exact h.elim
  obtain⟨st',h'⟩:=this
  exact nh h'
theorem pre_ex {an:Option Ann} {k:ASt->Prg T} {st:ASt} (h:(preQ an k st).goes C J r):∃st',(k st').goes C J r:=by
 cases an with
 | none=>exact⟨_,h⟩
 | some an=>exact nh h
theorem o8 {an:Ann} {k:ASt->Prg T} (h:(sU an st k).goes C J r):∃st',(k st').goes C J r:=by
 unfold sU at h
 obtain⟨st1,h1⟩:=rW h
 obtain⟨st2,h2⟩:=nh h1
 unfold vO at h2
 cases hc:fS (fO (fQ an.keep (fL (iY an.frz st2) an.kill)))&&(fO (fQ an.keep (fL (iY an.frz st2) an.kill))).length.ble dh&&dh.ble (fQ an.keep (fL (iY an.frz st2) an.kill)).boxes.length with
 | false=>rw[hc]at h2;exact h2.elim
 | true=>rw[hc]at h2;exact⟨_,h2⟩
theorem rZ {ops:List Oper} {draw:Bool} {K:ASt->Prg T} (h:(jc E ops draw K st).goes C J r):∃st',(K st').goes C J r:=by
 unfold jc at h
 cases draw with
 | false =>
  simp only[cond_false]at h
  obtain⟨fin,h1,h⟩:=iJ h
  exact⟨fin,h⟩
 | true =>
  simp only[cond_true]at h
  cases hok:bk ops with
  | false=>rw[hok]at h;exact h.elim
  | true =>
   simp only[hok,cond_true]at h
   obtain⟨fin,h1,h⟩:=iJ h
   exact⟨fin,h⟩
theorem xT {agg:Bool} {n:Nat} {x:AV} {k:List CA->Prg T} (h:(x.aX agg n k).goes C J r):∃cs,(k cs).goes C J r:=by
 unfold AV.aX at h
 split at h
 ·rename_i c
  cases hc:c.kept with
  | true=>rw[hc]at h;exact⟨_,h⟩
  | false=>rw[hc]at h;exact h.elim
 ·exact⟨_,h.2⟩
 ·exact⟨_,h⟩
 ·exact⟨_,h⟩
 ·rename_i cs
  cases hc:cs.length.beq n with
  | true=>rw[hc]at h;exact⟨_,h⟩
  | false=>rw[hc]at h;exact h.elim
 ·exact⟨_,h.2⟩
 ·exact h.elim
theorem sw:∀{ds:List TyD} {vs:List AV} {k:List (Bool × List CA)->Prg T},(pf ds vs k).goes C J r->∃l,(k l).goes C J r
 | [],[],k,h=>⟨_,h⟩
 | d::ds,v::vs,k,h=>by
  obtain⟨cs,h⟩:=xT h
  obtain⟨l,h⟩:=sw h
  exact⟨_,h⟩
 | [],v::vs,k,h=>h.elim
 | d::ds,[],k,h=>h.elim
theorem kM {m:Nat} {k:ASt->Prg T} (h:(eS m st k).goes C J r):∃st2,(k st2).goes C J r:=by
 unfold eS at h
 simp only[da,mT]at h
 cases hc:fS (fO st)&&(fO st).length.ble dh&&dh.ble st.boxes.length with
 | false=>rw[hc]at h;exact h.elim
 | true=>rw[hc]at h;exact⟨_,h⟩
theorem wA {f:FuncId} {fn:Func} {nt:Nat} {d:Option Tmp} {K:ASt->Prg T} {e:AEx} (h:(rU E f fn nt d K e st).goes C J r):∃st2,(K st2).goes C J r:=by
 have key:(match jd E.T st fn.results.toList,mG E.T (E.rts f)with
  | some vs, some ds => bif nt.ble st.out.length then tZ ds vs fun v =>
    eS fn.ntmps (ASt.put ⟨st.out.drop (st.out.length-nt),st.boxes,st.out.take (st.out.length-nt)⟩ d v) K else .fail
  | _,_=>.fail).goes C J r->∃st2,(K st2).goes C J r:=by
  intro h
  split at h
  ·cases hle:nt.ble st.out.length with
   | false=>rw[hle]at h;exact h.elim
   | true =>
    rw[hle]at h
    simp only[cond_true]at h
    unfold tZ at h
    split at h
    ·exact kM h
    ·obtain⟨l,h⟩:=sw h
     exact kM h
  ·exact h.elim
 cases e with
 | normal=>exact key h
 | ret=>exact key h
 | exit i=>exact h.elim
abbrev zT (E:Env) (L:Opn) (C:Cal) (J:List Nat->ASt->T->Prop) (r:T) (p:Prop) (n:Nat):Prop :=
 ∀(nt:Nat) (fi:FuncId) (ys:List Rng) (id:Nat) (rp:List Nat) (ops:List Oper) (draw:Bool) (K:ASt->Prg T) (st:ASt),(∀st',(K st').goes C J r->p)->(cR E L n nt fi ys id rp ops draw K st).goes C J r->p
abbrev Ad (E:Env) (L:Opn) (C:Cal) (J:List Nat->ASt->T->Prop) (r:T) (p:Prop) (n:Nat):Prop :=
 ∀(nt:Nat) (fi:FuncId) (ys:List Rng) (rp:List Nat) (g:Operand) (ps:Array Tmp) (assign c:Code) (K:ASt->Prg T) (st:ASt),(∀st',(K st').goes C J r->p)->(cM E L n nt fi ys rp g ps assign c K st).goes C J r->p
theorem dj {L:Opn} {n nt:Nat} {fi:FuncId} {ys:List Rng} {ann jn:Nat->Option Ann} {p:Prop} (hR:zT E L C J r p n) (hG:Ad E L C J r p n) (hJ:∀rp st,J rp st r->p):∀(c:Code) (rp:List Nat) (K:AEx->ASt->Prg T) (st:ASt),(∀e st',(K e st').goes C J r->p)->(cH E (cR E L n nt fi ys) (cM E L n nt fi ys) ann jn rp c K st).goes C J r->p
 | .skip,rp,K,st,hK,h=>hK _ _ h
 | .region id ops draw,rp,K,st,hK,h=>by
  obtain⟨st1,h1⟩:=pre_ex h
  exact hR nt fi ys id rp ops.toList draw (K .normal) st1 (fun st' h=>hK _ _ h) h1
 | .seq x y, rp, K, st, hK, h => by
  refine dj hR hG hJ x (0::rp) _ st (fun e st' hk=>?_) h
  cases e with
  | normal =>
   simp only[om]at hk
   cases han:f5 jn y with
   | none=>rw[han]at hk;exact dj hR hG hJ y (1::rp) K st' hK hk
   | some an=>rw[han]at hk;obtain⟨st2,h2⟩:=o8 hk;exact hJ _ _ h2
  | ret=>exact hK _ _ hk
  | exit id=>exact hK _ _ hk
 | .cond c x y, rp, K, st, hK, h => by
  simp only[cH]at h
  split at h
  ·rename_i v hv
   cases v with
   | true=>exact dj hR hG hJ x (0::rp) K st hK h
   | false=>exact dj hR hG hJ y (1::rp) K st hK h
  ·split at h
   ·obtain⟨b,_,h⟩:=h
    rcases h with⟨_,h⟩|⟨_,h⟩
    ·exact dj hR hG hJ x (0::rp) K st hK h
    ·exact dj hR hG hJ y (1::rp) K st hK h
   ·exact h.elim
 | .block id c, rp, K, st, hK, h => by
  refine dj hR hG hJ c (0::rp) _ st (fun e st' hk=>?_) h
  cases e with
  | normal=>exact hK _ _ hk
  | ret=>exact hK _ _ hk
  | exit i =>
   simp only[kb]at hk
   cases hb:i.beq id<;>rw[hb]at hk<;>exact hK _ _ hk
 | .loop c,rp,K,st,hK,h=>by
  simp only[cH,sE]at h
  cases han:f5 ann c with
  | none=>rw[han]at h;exact h.elim
  | some an=>rw[han]at h;obtain⟨st2,h2⟩:=o8 h;exact hJ _ _ h2
 | .exit id,rp,K,st,hK,h=>hK _ _ h
 | .ret,rp,K,st,hK,h=>hK _ _ h
 | .rangeFunc g ps assign c,rp,K,st,hK,h=>hG nt fi ys rp g ps assign c (K .normal) st (fun st' h=>hK _ _ h) h
 | .scope _,rp,K,st,hK,h=>h.elim
 | .label _,rp,K,st,hK,h=>h.elim
 | .goto _,rp,K,st,hK,h=>h.elim
 | .refuse _,rp,K,st,hK,h=>h.elim
theorem qK {y:Rng} {nt:Nat} {d:Option Tmp} {p:Prop} {K:ASt->Prg T} (hK:∀st',(K st').goes C J r->p) {e:AEx} {st:ASt} (h:(dV y nt d K e st).goes C J r):p:=by
 cases e with
 | ret=>exact h.elim
 | exit i=>exact h.elim
 | normal =>
  simp only[dV]at h
  cases hle:nt.ble st.out.length with
  | false=>rw[hle]at h;exact h.elim
  | true =>
   rw[hle]at h
   obtain⟨st2,h2⟩:=kM h
   exact hK _ h2
theorem wG {fn:Func} {n nt:Nat} {p:Prop} {K:ASt->Prg T} (hK:∀st',(K st').goes C J r->p) {e:AEx} {st:ASt} (h:(uo fn n nt K e st).goes C J r):p:=by
 have key:(bif fn.results.size.beq 0&&nt.ble st.out.length then eS fn.ntmps ((st.aA (CA.unY n)).cut nt) K else .fail).goes C J r->p:=fun h=>by
  cases hle:fn.results.size.beq 0&&nt.ble st.out.length with
  | false=>rw[hle]at h;exact h.elim
  | true =>
   rw[hle]at h
   obtain⟨st2,h2⟩:=kM h
   exact hK _ h2
 cases e with
 | ret=>exact key h
 | exit i=>exact h.elim
 | normal=>exact key h
theorem uz {p:Prop} {k:ASt->Prg T} (hk:∀st',(k st').goes C J r->p) {e:AEx} {st:ASt} (h:(nB k e st).goes C J r):p:=by
 cases e with
 | ret=>exact h.elim
 | exit i=>exact h.elim
 | normal=>exact hk _ h
theorem wN {draw:Bool} {all:List Oper} {j:Nat} {k:ASt->Prg T} {st:ASt} (h:(kZ E draw all j k st).goes C J r):∃st2,(k st2).goes C J r:=by
 unfold kZ at h
 cases hb:dc draw all j with
 | true=>rw[hb]at h;exact⟨_,h⟩
 | false =>
  rw[hb]at h
  simp only[cond_false]at h
  split at h
  ·unfold yR at h
   simp only[mT,da]at h
   obtain⟨_,h⟩:=vy h
   exact⟨_,(gm h).1⟩
  ·exact h.elim
theorem lc {L:Opn} {n:Nat} {p:Prop} (hR:zT E L C J r p n) (hG:Ad E L C J r p n) (hJ:∀rp st,J rp st r->p) {nt:Nat} {fi:FuncId} {ys:List Rng} {id:Nat} {rp:List Nat} {draw:Bool} {all:List Oper} {K:ASt->Prg T} (hK:∀st',(K st').goes C J r->p) :
  ∀(l:List Oper) (j:Nat) (ex:List (List Nat)) (st:ASt),(dO E L (cR E L n) (cM E L n) nt fi ys id rp draw all K j l ex st).goes C J r->p
 | [],j,ex,st,h=>hK _ h
 | o :: rest, j, ex, st, h => by
  have plain:(opQ E all (jL draw ex all j o) (gf (dO E L (cR E L n) (cM E L n) nt fi ys id rp draw all K (j+1) rest ex)) st).goes C J r->p:=fun h=>by
   simp only[iN]at h
   obtain⟨st1,h1,h2⟩:=jR h
   exact lc hR hG hJ hK rest (j+1) ex st1 h2
  simp only[dO]at h
  split at h
  ·rename_i y f fn rv cap hof
   cases hdn:fT all o st with
   | false=>rw[hdn]at h;exact plain h
   | true =>
   rw[hdn]at h
   simp only[cond_true]at h
   cases hb:dc draw all j||(ia all j).isSome with
   | false=>rw[hb]at h;exact h.elim
   | true =>
    rw[hb]at h
    simp only[cond_true]at h
    unfold qr at h
    split at h
    ·rename_i x xs hops
     cases hle:(rv.length+xs.length).beq fn.params.size&&(rv.length+xs.length+cap.length).ble fn.ntmps&&(st.slots.length.beq nt&&j.blt 1000)with
     | false=>rw[hle]at h;exact h.elim
     | true =>
      rw[hle]at h
      simp only[cond_true,da]at h
      refine dj hR hG hJ _ _ _ _ (fun e st' hk=>?_) h
      obtain⟨st2,h2⟩:=wA hk
      obtain⟨st3,h3⟩:=wN h2
      exact lc hR hG hJ hK rest (j+1) _ st3 h3
    ·exact h.elim
  ·split at h
   ·rename_i m y hof
    cases hdn:fT all o st with
    | false=>rw[hdn]at h;exact plain h
    | true =>
    rw[hdn]at h
    simp only[cond_true]at h
    cases hb:!draw||(mA all j&&mA all (j+1))with
    | false=>rw[hb]at h;exact h.elim
    | true =>
     rw[hb]at h
     simp only[cond_true]at h
     unfold qR at h
     split at h
     ·rename_i x xs hops
      cases hle:xs.length.beq y.ps.size&&(st.slots.length.beq nt&&(j.blt 1000&&(!y.busy&&(y.off+y.nt).ble st.out.length)))with
      | false=>rw[hle]at h;exact h.elim
      | true =>
       rw[hle]at h
       simp only[cond_true,da]at h
       refine dj hR hG hJ _ _ _ _ (fun e st' hk=>uz (fun st' hk=>?_) hk) h
       refine dj hR hG hJ _ _ _ _ (fun e st' hk=>qK (fun st2 h2=>?_) hk) hk
       exact lc hR hG hJ hK rest (j+1) _ st2 h2
     ·exact h.elim
   ·exact plain h
theorem fR {L:Opn} {p:Prop} (hJ:∀rp st,J rp st r->p):∀n,zT E L C J r p n/\Ad E L C J r p n:=by
 intro n
 induction n with
 | zero =>
  refine⟨?_,?_⟩
  ·intro nt fi ys id rp ops draw K st hK h
   simp only[cR]at h
   obtain⟨st',h'⟩:=rZ h
   exact hK _ h'
  ·intro nt fi ys rp g ps assign c K st hK h
   simp only[cM]at h
   exact h.elim
 | succ n ih =>
  refine⟨?_,?_⟩
  ·intro nt fi ys id rp ops draw K st hK h
   simp only[cR]at h
   cases ha:o6 L ops with
   | false=>rw[ha]at h;obtain⟨st',h'⟩:=rZ h;exact hK _ h'
   | true =>
    rw[ha]at h
    simp only[cond_true]at h
    cases hd:!draw||bk ops with
    | false=>rw[hd]at h;exact h.elim
    | true=>rw[hd]at h;exact lc ih.1 ih.2 hJ hK ops 0 _ st h
  ·intro nt fi ys rp g ps assign c K st hK h
   simp only[cM,ss]at h
   split at h
   ·split at h
    ·rename_i fn hfn
     rename_i cs _ _
     cases hle:Nat.beq fn.params.size 1&&((cs.length+1).ble fn.ntmps&&(st.aA (CA.unY ys.length)).slots.length.beq nt)with
     | false=>rw[hle]at h;exact h.elim
     | true =>
      rw[hle]at h
      simp only[cond_true,da]at h
      exact dj ih.1 ih.2 hJ _ _ _ _ (fun e st' hk=>wG hK hk) h
    ·exact h.elim
   ·exact h.elim
theorem jM {L : Opn} {p : Prop} (hJ : ∀ rp st, J rp st r → p) : ∀ (q : List Nat) (n no nt : Nat) (fi : FuncId) (ys : List Rng) (rp : List Nat) (c : Code) (K : AEx → ASt → Prg T) (st : ASt), (∀ e st', (K e st').goes C J r → p) → (goQ E L q n no nt fi ys rp c K st).goes C J r → p
 | [],n,no,nt,fi,ys,rp,c,K,st,hK,h=>by
  rw[wH]at h
  exact dj (fR hJ n).1 (fR hJ n).2 hJ c rp K st hK h
 | x :: q, n, no, nt, fi, ys, rp, c, K, st, hK, h => by
  have hround:∀(c:Code) (e:AEx) (st':ASt),(qC (f5 (L.ann fi) c) (0::rp) K e st').goes C J r->p:=by
   intro c e st' hk
   cases e with
   | normal =>
    simp only[qC,sE]at hk
    cases han:f5 (L.ann fi) c with
    | none=>rw[han]at hk;exact hk.elim
    | some an=>rw[han]at hk;obtain⟨st2,h2⟩:=o8 hk;exact hJ _ _ h2
   | ret=>exact hK _ _ hk
   | exit id=>exact hK _ _ hk
  have hblock:∀(id:Nat) (e:AEx) (st':ASt),(kb id K e st').goes C J r->p:=by
   intro id e st' hk
   cases e with
   | normal=>exact hK _ _ hk
   | ret=>exact hK _ _ hk
   | exit i =>
    simp only[kb]at hk
    cases hb:i.beq id<;>rw[hb]at hk<;>exact hK _ _ hk
  have hthen:∀(y:Code) (e:AEx) (st':ASt),(om (f5 (L.jn fi) y) (1::rp) (cH E (cR E L n nt fi ys) (cM E L n nt fi ys) (L.ann fi) (L.jn fi) (1::rp) y K) K e st').goes C J r->p:=by
   intro y e st' hk
   cases e with
   | normal =>
    simp only[om]at hk
    cases han:f5 (L.jn fi) y with
    | none=>rw[han]at hk;exact dj (fR hJ n).1 (fR hJ n).2 hJ y (1::rp) K st' hK hk
    | some an=>rw[han]at hk;obtain⟨st2,h2⟩:=o8 hk;exact hJ _ _ h2
   | ret=>exact hK _ _ hk
   | exit id=>exact hK _ _ hk
  cases c with
  | seq a b =>
   cases x with
   | zero=>exact jM hJ q n no nt fi ys _ a _ st (hthen b) h
   | succ m=>exact jM hJ q n no nt fi ys _ b K st hK h
  | cond o a b =>
   cases x with
   | zero=>exact jM hJ q n no nt fi ys _ a K st hK h
   | succ m=>exact jM hJ q n no nt fi ys _ b K st hK h
  | block id c=>exact jM hJ q n no nt fi ys _ c _ st (hblock id) h
  | loop c=>exact jM hJ q n no nt fi ys _ c _ st (hround c) h
  | rangeFunc g ps assign c =>
   cases n with
   | zero=>exact h.elim
   | succ n =>
    rw[xz]at h
    split at h
    ·exact jM hJ q n _ _ _ _ _ _ _ st (fun e st' hk=>wG (fun st' h=>hK _ _ h) hk) h
    ·exact h.elim
  | region id ops draw =>
   cases n with
   | zero=>exact h.elim
   | succ n' =>
    rw[pc]at h
    cases hx:(x%2).beq 0 with
    | true =>
     rw[hx]at h
     simp only[cond_true]at h
     split at h
     ·split at h
      ·rename_i o ho f fn hof
       cases hd:!draw||bk ops.toList with
       | false=>rw[hd]at h;exact h.elim
       | true =>
        rw[hd]at h
        simp only[cond_true]at h
        refine jM hJ q n' _ fn.ntmps f _ _ (bT fn) _ st (fun e st' hk=>?_) h
        obtain⟨st2,h2⟩:=wA hk
        obtain⟨st3,h3⟩:=wN h2
        exact lc (fR hJ n').1 (fR hJ n').2 hJ (fun st' h=>hK _ _ h) _ _ _ st3 h3
      ·exact h.elim
     ·exact h.elim
    | false =>
     rw[hx]at h
     simp only[cond_false]at h
     split at h
     ·split at h
      ·rename_i o ho y hy
       cases hd:!draw||bk ops.toList with
       | false=>rw[hd]at h;exact h.elim
       | true =>
        rw[hd]at h
        simp only[cond_true]at h
        cases hz:((x-3) / 2 / 1000%2).beq 0 with
        | true =>
         rw[hz]at h
         simp only[cond_true]at h
         refine jM hJ q n' _ _ _ _ _ _ _ st (fun e st' hk=>uz (fun st' hk=>?_) hk) h
         refine dj (fR hJ n').1 (fR hJ n').2 hJ _ _ _ _ (fun e st' hk=>qK (fun st2 h2=>?_) hk) hk
         exact lc (fR hJ n').1 (fR hJ n').2 hJ (fun st' h=>hK _ _ h) _ _ _ st2 h2
        | false =>
         rw[hz]at h
         simp only[cond_false]at h
         refine jM hJ q n' _ _ _ _ _ _ _ st (fun e st' hk=>qK (fun st2 h2=>?_) hk) h
         exact lc (fR hJ n').1 (fR hJ n').2 hJ (fun st' h=>hK _ _ h) _ _ _ st2 h2
      ·exact h.elim
     ·exact h.elim
  | _=>exact h.elim
end
section
variable {C:Cal} {J:List Nat->ASt->TV->Prop} {r:TV} {look:Look} {rs:List (Nat × Nat)}
theorem ub {c:CA} {k:TV->Prg TV} (h:(pY look rs c k).goes C J r):∃x,(k x).goes C J r:=by
 unfold pY at h
 split at h
 ·exact⟨_,h⟩
 ·obtain⟨x,h⟩:=wY h;exact⟨_,h⟩
 ·obtain⟨x,h⟩:=wY h;exact⟨_,h⟩
 ·exact h.elim
theorem u7:∀{l:List CA} {k:List TV->Prg TV},(xr look rs l k).goes C J r->∃x,(k x).goes C J r
 | [],k,h=>⟨_,h⟩
 | c::l,k,h=>by
  obtain⟨x,h⟩:=ub h
  obtain⟨xs,h⟩:=u7 h
  exact⟨_,h⟩
theorem Af {v:AV} {k:TV->Prg TV} (h:(wz look rs v k).goes C J r):∃x,(k x).goes C J r:=by
 unfold wz at h
 split at h
 ·exact ub h
 ·exact⟨_,h⟩
 ·obtain⟨xs,h⟩:=u7 h;exact⟨_,h⟩
 ·exact h.elim
 ·exact h.elim
 ·exact⟨_,h⟩
theorem uK:∀{l:List AV} {k:List TV->Prg TV},(gives look rs l k).goes C J r->∃x,(k x).goes C J r
 | [],k,h=>⟨_,h⟩
 | c::l,k,h=>by
  obtain⟨x,h⟩:=Af h
  obtain⟨xs,h⟩:=uK h
  exact⟨_,h⟩
theorem Bm {T:Tab} {vs:List ResultVar} {st:ASt} (h:(zY T true vs st).goes C J r):bX r=true:=by
 unfold zY at h
 split at h
 ·obtain⟨ys,h⟩:=uK h
  split at h
  ·obtain⟨h1,h2⟩:=h
   have h2:_=r:=h2
   subst h2
   exact h1
  ·obtain⟨h1,h2⟩:=h
   have h2:_=r:=h2
   subst h2
   exact h1
 ·exact h.elim
end
structure AProg.Ok (P:Program) (G:Laid) (A:AProg):Prop where
 ty:∀t d,A.T t=some d->aV P t d
 fn : ∀ f fn, A.fns f = some fn → P.funcs[f]? = some fn ∧ (fn.name == "runtime.NumGoroutine") = false ∧ fn.body.isSome = true
 mixed:P.follows .mixedOrders=true
 ext:∀f g xs r,A.ext f=some g->g xs=some r->(A.turn f=true->wP P G f xs r)/\(A.turn f=false->(A.eye f=true->wR P G f xs r)/\(A.eye f=false->xX P G A.env f xs r))
 mth:∀t name f d,A.mth t name=some (f,d)->BV P t name f d
section
variable {P:Program} {G:Laid} {A:AProg}
theorem nV:∀{l asz:List TV} {z:TV},pQ l=some (asz,z)->l=asz ++ [z]
 | [],_,_,h=>by cases h
 | [x],_,_,h=>by simp only[pQ,Cj,Prod.mk.injEq]at h;obtain⟨rfl,rfl⟩:=h;rfl
 | x :: y :: l, asz, z, h => by
  simp only[pQ]at h
  split at h
  ·rename_i asz' z' h1
   simp only[Cj,Prod.mk.injEq]at h
   obtain⟨rfl,rfl⟩:=h
   rw[nV h1]
   rfl
  ·cases h
theorem rM {T:Tab} {ld:Option gV} {pk pu:Bool} {rs:List ResultVar} {C:Cal} {J:List Nat->ASt->TV->Prop} {e:AEx} {st:ASt} {x:TV} (h:(BG T ld pk pu rs e st).goes C J x):(e=.normal\/e=.ret)/\(A2 T ld pk pu rs st).goes C J x:=by
 cases e with
 | normal=>exact⟨.inl rfl,h⟩
 | ret=>exact⟨.inr rfl,h⟩
 | exit id=>exact h.elim
theorem ws (hA:A.Ok P G) {C':FuncId->List TV->Option TV} (hC:uh P G A.env (fun f xs v=>C' f xs=some v)) {n:Nat} {f:FuncId} {args:List TV} {r:TV} (h:(ar A f args).run C' (iH A C' f n)=some r) :
  (A.turn f=true->wP P G f args r)/\(A.turn f=false->(A.eye f=true->wR P G f args r)/\(A.eye f=false->xX P G A.env f args r)):=by
 have hgo:=dB h
 unfold ar at hgo
 cases hgate:A.turn f||(A.eye f&&((A.peek f).isSome||(A.lent f).isSome))with
 | true=>rw[hgate]at hgo;exact hgo.elim
 | false =>
 rw[hgate]at hgo
 simp only[cond_false]at hgo
 simp only[Bool.or_eq_false_iff,Bool.and_eq_false_iff]at hgate
 obtain⟨htn,heg⟩:=hgate
 refine⟨fun h=>(by rw[htn]at h;cases h),fun _=>?_⟩
 obtain⟨fn,hf⟩:∃fn,A.fns f=some fn:=by
  cases hf:A.fns f with
  | some fn=>exact⟨fn,rfl⟩
  | none=>cases hpk:A.peek f<;>rw[hpk,hf]at hgo<;>exact hgo.elim
 rw[hf]at hgo
 obtain⟨hfn,hname,hbody⟩:=hA.fn f fn hf
 have hE:eN P G A.env (fun f xs v=>C' f xs=some v):=⟨hA.ty,hC⟩
 have hL:nX P A.opens:=⟨fun g gn hg=>by
  simp only[AProg.opens]at hg
  cases ho:A.opn g with
  | false=>rw[ho]at hg;cases hg
  | true=>rw[ho]at hg;exact hA.fn g gn hg,hA.mth⟩
 have key:∀(w0:Bs) (I0:Nat->Prop) (ov:List Value) (Z:Ending->World->Prop),w0.G=G->w0.ds=[]->w0.Ok I0->ov.length=tq A f->(∀(J:List Nat->ASt->TV->Prop) (st':ASt) (a:Act) (w:World),(A2 A.T (A.lent f) (A.peek f).isSome (A.pure f) fn.results.toList st').goes (fun f xs v=>C' f xs=some v) J r->Sim w0 I0 st' a ov w->∃v,(results fn a.tmps).run P w=.ok v w/\Z (.returned v) w) ->
   ∀n rp c Q F st a w,At P A.opens I0 (bT fn) (bodyPostM (Rd none) 0 P fn Z) ⟨ov,fn.ntmps,f,w0,[],none⟩ rp c Q F->(io A f rp st).goes (fun f xs v=>C' f xs=some v) (fun rp st r=>iH A C' f n rp st=some r) r->dL I0 F st a w->c.wpIn (Rd F.ro) 0 P Q a w:=by
  intro w0 I0 ov Z hwG hwd hwok hovl hZ
  have h0:Fr.Ok I0 ⟨ov,fn.ntmps,f,w0,[],none⟩:=⟨⟨fun m y h=>by simp at h,fun m m' h=>by simp at h⟩,hwok,hwd,(fun l h=>by cases h),fun m h=>by simp at h⟩
  have hend:∀(J:List Nat->ASt->TV->Prop) (e:AEx) (st':ASt) (a:Act) (w:World),(BG A.T (A.lent f) (A.peek f).isSome (A.pure f) fn.results.toList e st').goes (fun f xs v=>C' f xs=some v) J r->dL I0 ⟨ov,fn.ntmps,f,w0,[],none⟩ st' a w->bodyPostM (Rd none) 0 P fn Z (iX e) a w:=by
   intro J e st' a w hk hs
   obtain⟨he,hr⟩:=rM hk
   refine lU h0 he hs (fun w2 B2 hE2 hd2 hs2=>?_)
   have hb:B2.Bel w2:=by obtain⟨g,hs⟩:=hs2;exact hs.below
   have hs3:Sim w0 I0 st' { tmps:=a.tmps,defers:=[] } ov w2:=i5 hs2 ⟨hE2.bel w2 hb,hwok,Nat.le_refl _,fun b h _=>⟨hE2.new b h,rfl⟩,fun _ _=>rfl,hE2.out⟩ hE2.Y.symm rfl hwd.symm
   exact hZ J st' { tmps:=a.tmps,defers:=[] } w2 hr hs3
  have piece:∀n,JOk P A.opens I0 (bT fn) (bodyPostM (Rd none) 0 P fn Z) ⟨ov,fn.ntmps,f,w0,[],none⟩ (fun rp st r=>iH A C' f n rp st=some r) r ->
    ∀rp c Q F st a w,At P A.opens I0 (bT fn) (bodyPostM (Rd none) 0 P fn Z) ⟨ov,fn.ntmps,f,w0,[],none⟩ rp c Q F->(io A f rp st).goes (fun f xs v=>C' f xs=some v) (fun rp st r=>iH A C' f n rp st=some r) r->dL I0 F st a w->c.wpIn (Rd F.ro) 0 P Q a w:=by
   intro n hJ rp c Q F st a w hat hg hs
   unfold io at hg
   rw[hf]at hg
   simp only[]at hg
   rw[<-hovl]at hg
   exact Az hE h0 hwG hA.mixed hL hJ hat.toF sJ [] _ st a w .top hg hs (hend _)
  have hJ:∀n,JOk P A.opens I0 (bT fn) (bodyPostM (Rd none) 0 P fn Z) ⟨ov,fn.ntmps,f,w0,[],none⟩ (fun rp st r=>iH A C' f n rp st=some r) r:=by
   intro n
   induction n with
   | zero=>intro rp c Q F st a w _ h;simp[iH]at h
   | succ n ih =>
    intro rp c Q F st a w hat h hs
    exact piece n ih rp c Q F st a w hat (dB h) hs
  exact fun n=>piece n (hJ n)
 have simx:∀{w0:Bs} {I0:Nat->Prop} {ov:List Value} {st:ASt} {a:Act} {w:World},w0.ds=[]->Sim w0 I0 st a ov w->dL I0 ⟨ov,fn.ntmps,f,w0,[],none⟩ st a w:=fun hd hs=>⟨_,.refl hd,(fun h=>by cases h),hs⟩
 have okof:∀{w0:Bs} {I0:Nat->Prop} {ov:List Value} {st:ASt} {a:Act} {w:World},Sim w0 I0 st a ov w->w0.Ok I0:=fun⟨g,hs⟩=>hs.base
 have enter:∀(w:World) (vals:Array Value),(callFunc f vals).run P w=.ok (.enter f vals) w:=fun w vals=>by
  cases hb:fn.body with
  | none=>rw[hb]at hbody;cases hbody
  | some c =>
   simp only[callFunc,Sem.run_bind,run_program,Result.andThen_ok,hfn,hname,hb]
   simp
 obtain⟨c,hb⟩:∃c,fn.body=some c:=by
  cases hb:fn.body with
  | none=>rw[hb]at hbody;cases hbody
  | some c=>exact⟨c,rfl⟩
 have hbo:bT fn=c:=by simp[bT,hb]
 cases hey:A.eye f with
 | true =>
  refine⟨fun _=>?_,fun h=>(by cases h)⟩
  have hpl:A.peek f=none/\A.lent f=none:=by
   rcases heg with h|h
   ·rw[hey]at h;cases h
   ·simpa using h
  obtain⟨hpk,hln⟩:=hpl
  rw[hpk,hln,hey]at hgo
  simp only[cond_true]at hgo
  split at hgo
  ·rename_i asz cs hsp
   have hargs0:=nV hsp
   cases hle:asz.length.beq fn.params.size&&(asz.length+1).ble fn.ntmps with
   | false=>rw[hle]at hgo;exact hgo.elim
   | true =>
    rw[hle]at hgo
    simp only[cond_true]at hgo
    simp only[Ck,Nat.ble_eq]at hle
    refine⟨asz,cs,hargs0,fun I w b vs ty vals hG hlt hheap hone hnI hvs hbs hrc hsz h0 hargs=>⟨enter w vals,gL.1 (callsIn_of_wp_marks (F:=Rd none) (n:=0) hfn hb trivial ?_)⟩⟩
    have hst:=wo (ntmps:=fn.ntmps) hG hlt hheap hone hvs hrc hle.2 (by rw[hsz,hargs0];simp) h0 hargs
    have hp:=key (Bs.of w (fun _=>False) G) I [] (fun e w'=>∃v,e=.returned v/\Below w.heap.size w w'/\∃I' S:Nat->Prop,(∀b,I b->I' b)/\(∀b,I' b->b<w'.heap.size)/\(∀b,b<w.heap.size->I' b->I b) /\
      (∀b,S b->w.heap.size<=b/\b<w'.heap.size/\¬I' b)/\al w' I' r v S) rfl rfl (okof hst) (by simp only[tq,hpk,hln];rfl) (fun J st' a w' hr ⟨g,hs⟩=>by
     rw[hpk,hln]at hr
     obtain⟨v,h1,I',S,h2,h3,h4,h5,h6⟩:=rT (P:=P) (E:=A.env) hA.ty hs hr
     refine⟨v,h1,v,rfl,⟨hs.below.os,hs.below.tape,hs.below.output,hs.below.size,fun k hk=>hs.below.block k hk (fun h=>h)⟩,I',S,h2,h3,fun b hb=>h4 b (fun h=>h.elim (fun h=>by have:w.heap.size<=b:=h;omega) (fun h=>h)),fun b hb=>?_,h6⟩
     obtain⟨q1,q2,q3⟩:=h5 b hb
     exact⟨q1.elim (fun h=>h) (fun h=>h.elim),q2,q3⟩)
    exact hp n [] c _ ⟨[],fn.ntmps,f,Bs.of w (fun _=>False) G,[],none⟩ _ _ w (by rw[hbo];exact .top) hgo (simx rfl hst)
  ·exact hgo.elim
 | false =>
 refine⟨fun h=>(by cases h),fun _=>?_⟩
 have hge:∀(p q:Prg TV),(bif A.eye f then p else q)=q:=fun p q=>by rw[hey];rfl
 simp only[hge]at hgo
 show(A.peek f=none->(A.lent f=none->AA P G f args r/\(A.pure f=true->bX r=true))/\∀ld,A.lent f=some ld->B0 P G ld f args r)/\∀c,A.peek f=some c->Ca P G c f args r
 cases hpk:A.peek f with
 | some c0 =>
  rw[hpk]at hgo
  exact hgo.elim
 | none =>
  rw[hpk]at hgo
  simp only[]at hgo
  refine⟨fun _=>⟨fun hln=>?_,fun ld hld=>?_⟩,fun c h=>(by cases h)⟩
  ·rw [hln] at hgo
   simp only[]at hgo
   cases hle:args.length.beq fn.params.size&&args.length.ble fn.ntmps with
   | false=>rw[hle]at hgo;exact hgo.elim
   | true =>
    rw[hle]at hgo
    simp only[cond_true]at hgo
    simp only[Ck,Nat.ble_eq]at hle
    refine⟨?_,?_⟩
    ·intro I w vals hG hlt hsz hargs
     refine⟨enter w vals,gL.1 (callsIn_of_wp_marks (F:=Rd none) (n:=0) hfn hb trivial ?_)⟩
     have hst:=xU hG hlt hle.2 hsz hargs
     have hp:=key (Bs.of w (fun _=>False) G) I [] (fun e w'=>∃v,e=.returned v/\Below w.heap.size w w'/\∃I' S:Nat->Prop,(∀b,I b->I' b)/\(∀b,I' b->b<w'.heap.size)/\(∀b,b<w.heap.size->I' b->I b) /\
       (∀b,S b->w.heap.size<=b/\b<w'.heap.size/\¬I' b)/\al w' I' r v S) rfl rfl (okof hst) (by simp only[tq,hpk,hln];rfl) (fun J st' a w' hr ⟨g,hs⟩=>by
      rw[hpk,hln]at hr
      obtain⟨v,h1,I',S,h2,h3,h4,h5,h6⟩:=rT (P:=P) (E:=A.env) hA.ty hs hr
      refine⟨v,h1,v,rfl,⟨hs.below.os,hs.below.tape,hs.below.output,hs.below.size,fun k hk=>hs.below.block k hk (fun h=>h)⟩,I',S,h2,h3,fun b hb=>h4 b (fun h=>h.elim (fun h=>by have:w.heap.size<=b:=h;omega) (fun h=>h)),fun b hb=>?_,h6⟩
      obtain⟨q1,q2,q3⟩:=h5 b hb
      exact⟨q1.elim (fun h=>h) (fun h=>h.elim),q2,q3⟩)
     exact hp n [] c _ ⟨[],fn.ntmps,f,Bs.of w (fun _=>False) G,[],none⟩ _ _ w (by rw[hbo];exact .top) hgo (simx rfl hst)
    ·intro hp
     have hend:∀(J:List Nat->ASt->TV->Prop) (e:AEx) (st':ASt),(BG A.T (A.lent f) (A.peek f).isSome (A.pure f) fn.results.toList e st').goes (fun f xs v=>C' f xs=some v) J r->bX r=true:=by
      intro J e st' hk
      obtain⟨_,hr⟩:=rM hk
      rw[hp,hln,hpk]at hr
      exact Bm hr
     have piece:∀(J:List Nat->ASt->TV->Prop),(∀rp st,J rp st r->bX r=true)->∀rp st,(io A f rp st).goes (fun f xs v=>C' f xs=some v) J r->bX r=true:=by
      intro J hJ rp st hg
      unfold io at hg
      rw[hf]at hg
      exact jM hJ _ _ _ _ _ _ _ _ _ _ (hend J) hg
     have hJ:∀n,∀rp st,iH A C' f n rp st=some r->bX r=true:=by
      intro n
      induction n with
      | zero=>intro rp st h;simp[iH]at h
      | succ n ih=>intro rp st h;exact piece _ ih rp st (dB h)
     exact piece _ (hJ n) _ _ hgo
  ·rw[hld]at hgo
   exact hgo.elim
theorem nS (hA:A.Ok P G):∀n,uh P G A.env (fun f xs v=>acall A n f xs=some v)
 | 0=>fun f xs r h=>by simp[acall]at h
 | n + 1 => fun f xs r h => by
  have h:acall A (n+1) f xs=some r:=h
  simp only[acall]at h
  split at h
  ·rename_i g hg
   exact hA.ext f g xs r hg h
  ·exact ws hA (nS hA n) h
end
end Go.Ab
end
section
namespace Go.Ab
open Go.RowKit Go.ChangeShapes Go.WideShapes
inductive bi (P:Program):TypeId->List TV->Prop
 | int {t:TypeId} {k:IntKind} {n:Int} (hu:P.underlying t=some (.int k)) (hw:(Lit.int k n).wf=true):bi P t [.lit (.int k n)]
 | bool {t:TypeId} {b:Bool} (hu:P.underlying t=some .bool):bi P t [.lit (.bool b)]
 | str {t:TypeId} {s:ByteArray} (hu:P.underlying t=some .string) (hl:s.size<=maxLen):bi P t [.lit (.string s)]
 | nil {t e:TypeId} (hu:P.underlying t=some (.slice e)):bi P t [.lit bj]
 | sl {t e:TypeId} {xs:List (List TV)} (hu:P.underlying t=some (.slice e)) (hl:xs.length<=maxLen) (h:∀(i:Nat) (x:List TV),xs[i]? = some x->bi P e x):bi P t [.sl false (P.cellsOf e) xs]
 | struct {t : TypeId} {fs : Array Field} {cs : List TV} (hu : P.underlying t = some (.struct fs)) (hl : cs.length = P.cellsOf t)
   (h:∀(i:Nat) (f:Field),fs[i]? = some f->bi P f.type ((cs.drop f.offset).take (P.cellsOf f.type))):bi P t cs
 | arr {t e:TypeId} {n:Nat} {cs:List TV} (hu:P.underlying t=some (.array n e)) (hl:cs.length=P.cellsOf t) (h:∀i,i<n->bi P e ((cs.drop (i*P.cellsOf e)).take (P.cellsOf e))):bi P t cs
def cB (P:Program):Nat->TypeId->Bool
 | 0,_=>false
 | n+1,t=>match P.underlying t with
  | some (.int _)=>P.cellsOf t==1
  | some .bool=>P.cellsOf t==1
  | some .string=>P.cellsOf t==1
  | some (.slice e)=>(P.cellsOf t==1&&decide (0<P.cellsOf e))&&cB P n e
  | some (.struct fs)=>fs.toList.all (fun f=>cB P n f.type)&&sideBySide P fs.toList 0 (P.cellsOf t)
  | some (.array m e)=>cB P n e&&(P.cellsOf t==m*P.cellsOf e)
  | _=>false
where
 sideBySide (P:Program):List Field->Nat->Nat->Bool
  | [],o,e=>o==e
  | f::fs,o,e=>f.offset==o&&sideBySide P fs (o+P.cellsOf f.type) e
section
variable {H:Type} {enc:TypeId × Value->H} {P:Program} {w:World} {spare:Nat->Bool} {held:Bool}
def cV (w:World) (I:Nat->Prop) (xs:List TV) (vs:List Value):Prop:=vs.length=xs.length/\∀(j:Nat) (x:TV) (v:Value),xs[j]? = some x->vs[j]? = some v->Rep w I x v/\v.oneCell'=true
theorem cV.append {I:Nat->Prop} {a b:List TV} {x y:List Value} (h1:cV w I a x) (h2:cV w I b y):cV w I (a++b) (x++y):=by
 refine⟨by simp[h1.1,h2.1],fun j c u hc hu=>?_⟩
 rw[List.getElem?_append]at hc hu
 rw[h1.1]at hu
 by_cases h:j<a.length
 ·simp only[h,if_true]at hc hu;exact h1.2 j c u hc hu
 ·simp only[h,if_false]at hc hu;exact h2.2 _ c u hc hu
theorem cV.one {I:Nat->Prop} {x:TV} {v:Value} (h:Rep w I x v) (h1:v.oneCell'=true):cV w I [x] [v]:=by
 refine⟨rfl,fun j c u hc hu=>?_⟩
 cases j with
 | zero=>simp at hc hu;subst hc hu;exact⟨h,h1⟩
 | succ j=>simp at hc
theorem Ba {α:Type} [Inhabited α] {n:Nat} {p:Nat->α->Prop} (h:∀i,i<n->∃x,p i x):∃l:List α,l.length=n/\∀i x,l[i]? = some x->p i x:=by
 obtain⟨f,hf⟩:=Go.Deep.choose_lt h
 refine⟨(List.range n).map f,by simp,fun i x hx=>?_⟩
 have hi:i<n:=by have:=(Ch.1 hx).1;simpa using this
 rw[Cn,List.getElem?_range hi]at hx
 simp only[Cv,Cj]at hx
 subst hx
 exact hf i hi
theorem len1 {v:Value} {n:Nat} (h:n=1):[v].length=n:=by rw[h];rfl
theorem oM : ∀ (k : Nat) (t : TypeId) (fuel : Nat) (cs : List Value) (x : DataW H × List MemPlace), cB P k t = true → DataW.trod enc P w 0 spare held fuel t cs = some x →
  ∃xs:List TV,bi P t xs/\cV w (fun b=>b<w.heap.size) xs cs/\cs.length=P.cellsOf t
 | 0,t,fuel,cs,x,hp,h=>by simp[cB]at hp
 | k + 1, t, fuel, cs, x, hp, h => by
  simp only[cB]at hp
  cases hu:P.underlying t with
  | none=>simp[hu]at hp
  | some d =>
   simp only[hu]at hp
   cases d with
   | int kd =>
    obtain⟨n,rfl,_,hw⟩:=DataW.trod_int hu h
    exact⟨[.lit (.int kd n)],.int hu hw,.one (.lit _) rfl,len1 (by simpa using hp)⟩
   | bool =>
    obtain⟨b,rfl,_⟩:=DataW.trod_bool hu h
    exact⟨[.lit (.bool b)],.bool hu,.one (.lit _) rfl,len1 (by simpa using hp)⟩
   | string =>
    obtain⟨s,rfl,_,hl⟩:=DataW.trod_string hu h
    exact⟨[.lit (.string s)],.str hu hl,.one (.lit _) rfl,len1 (by simpa using hp)⟩
   | slice e =>
    simp only[Ck]at hp
    have hc1:P.cellsOf t=1:=by simpa using hp.1.1
    have hpe:0<P.cellsOf e:=by simpa using hp.1.2
    rcases Go.Deep.open_slice hu h with⟨rfl,_⟩|⟨a,len,cap,m,n,D,Pl,rfl,_,hle,hcm,hm,_,hel⟩
    ·exact⟨[.lit bj],.nil hu,.one (.lit _) rfl,by rw[hc1];rfl⟩
    ·have hlm:len<=m:=by rw[hm];split<;>omega
     have each:∀i,i<len->∃p:List TV × List Value,bi P e p.1/\cV w (fun b=>b<w.heap.size) p.1 p.2/\p.2.length=P.cellsOf e/\∀j,j<P.cellsOf e->w.cell? (a.add (i*P.cellsOf e+j))=p.2[j]? := by
      intro i hi
      obtain⟨cs',hcs,ht⟩:=hel i (by omega)
      obtain⟨ys,h1,h2,h3⟩:=oM k e n cs' _ hp.2 ht
      obtain⟨_,hcl,hat⟩:=World.cells?_some hcs
      refine⟨(ys,cs'),h1,h2,h3,fun j hj=>?_⟩
      rw[<-hat j hj,Go.Ab.dT]
     obtain⟨l,hl,hprop⟩:=Ba each
     have hsz:∀(i:Nat) (p:List TV × List Value),l[i]? = some p->p.1.length=P.cellsOf e/\p.2.length=P.cellsOf e:=fun i p hp'=>by
      obtain⟨_,h2,h3,_⟩:=hprop i p hp'
      exact⟨by rw[<-h2.1];exact h3,h3⟩
     refine⟨[.sl false (P.cellsOf e) (l.map (·.1))],.sl hu (by simp[hl];omega) (fun i y hy=>?_),.one ?_ rfl,by rw[hc1];rfl⟩
     ·rw[Cn]at hy
      cases hli:l[i]? with
      | none=>simp[hli]at hy
      | some p=>simp only[hli,Cv,Cj]at hy;subst hy;exact(hprop i p hli).1
     ·have hll:(l.map (·.1)).length=len:=by simp[hl]
      have cellAt:∀q,q<len*P.cellsOf e->∃i j p,i<len/\j<P.cellsOf e/\q=i*P.cellsOf e+j/\l[i]? = some p/\∃u,p.2[j]? = some u/\w.cell? (a.add q)=some u/\u.oneCell'=true:=by
       intro q hq
       have hpos:0<P.cellsOf e:=hpe
       have hi:q / P.cellsOf e<len:=Nat.div_lt_of_lt_mul (by rw[Nat.mul_comm];exact hq)
       have hj:q%P.cellsOf e<P.cellsOf e:=Nat.mod_lt _ hpos
       have hq':q=q / P.cellsOf e*P.cellsOf e+q%P.cellsOf e:=by rw[Nat.mul_comm];exact(Nat.div_add_mod q _).symm
       have hli:l[q / P.cellsOf e]? = some (l[q / P.cellsOf e]'(by rw[hl];exact hi)):=Ci _
       obtain⟨_,h2,h3,h4⟩:=hprop _ _ hli
       have hu':(l[q / P.cellsOf e]'(by rw[hl];exact hi)).2[q%P.cellsOf e]? = some ((l[q / P.cellsOf e]'(by rw[hl];exact hi)).2[q%P.cellsOf e]'(by rw[h3];exact hj)):=Ci _
       have hx1:(l[q / P.cellsOf e]'(by rw[hl];exact hi)).1[q%P.cellsOf e]? = some ((l[q / P.cellsOf e]'(by rw[hl];exact hi)).1[q%P.cellsOf e]'(by rw[(hsz _ _ hli).1];exact hj)):=Ci _
       refine⟨_,_,_,hi,hj,hq',hli,_,hu',?_,(h2.2 _ _ _ hx1 hu').2⟩
       have:=h4 _ hj
       rw[<-hq']at this
       rw[this,hu']
      have key:Rep w (fun b=>b<w.heap.size) (.sl false (P.cellsOf e) (l.map (·.1))) (.slice (some a) (l.map (·.1)).length cap):=by
       refine .sl (fun q=>(w.cell? (a.add q)).getD undef) (fun hp'=>?_) (by rw[hll];exact hle) hcm (fun y hy=>?_) (fun q hq=>?_) (fun q hq=>?_) (fun i y hy j c hj=>?_)
       ·rw[hll]at hp'
        obtain⟨i,j,p,_,_,_,_,u,_,hu',_⟩:=cellAt 0 (Nat.mul_pos hp' hpe)
        have:=World.block_lt_of_cell? w _ hu'
        rwa[ek]at this
       ·obtain⟨p,hp1,rfl⟩:=List.mem_map.1 hy
        obtain⟨i,hi,rfl⟩:=List.mem_iff_getElem.1 hp1
        exact(hsz i _ (Ci hi)).1
       ·rw[hll]at hq
        obtain⟨i,j,p,_,_,_,_,u,_,hu',_⟩:=cellAt q hq
        rw[hu'];rfl
       ·rw[hll]at hq
        obtain⟨i,j,p,_,_,_,_,u,_,hu',h1⟩:=cellAt q hq
        rw[hu'];exact h1
       ·rw[Cn]at hy
        cases hli:l[i]? with
        | none=>simp[hli]at hy
        | some p =>
         simp only[hli,Cv,Cj]at hy
         subst hy
         obtain⟨_,h2,h3,h4⟩:=hprop i p hli
         have hjs:j<P.cellsOf e:=by have:=(Ch.1 hj).1;have:=(hsz i p hli).1;omega
         have hu':p.2[j]? = some (p.2[j]'(by omega)):=Ci _
         rw[h4 j hjs,hu']
         exact(h2.2 j c _ hj hu').1
      rw[hll]at key
      exact key
   | struct fs =>
    simp only[Ck,List.all_eq_true]at hp
    obtain⟨hall,hside⟩:=hp
    obtain⟨ys,n,_,_,hlen,hyl,hf⟩:=DataW.trod_struct hu h
    have fields:∀(l:List Field) (o e:Nat),(∀f∈l,cB P k f.type=true/\∃y,DataW.trod enc P w 0 spare held n f.type ((cs.drop f.offset).take (P.cellsOf f.type))=some y)->cB.sideBySide P l o e=true->e=cs.length ->
      o<=e/\∃xs:List TV,cV w (fun b=>b<w.heap.size) xs (cs.drop o)/\∀(i:Nat) (f:Field),l[i]? = some f->o<=f.offset/\bi P f.type ((xs.drop (f.offset-o)).take (P.cellsOf f.type)):=by
     intro l
     induction l with
     | nil =>
      intro o e _ hs he
      have:o=e:=by simpa[cB.sideBySide]using hs
      subst this
      subst he
      exact⟨Nat.le_refl _,[],by simp[cV],fun i f hf=>by simp at hf⟩
     | cons f l ih =>
      intro o e hfs hs he
      simp only[cB.sideBySide,Ck]at hs
      have hfo:f.offset=o:=by simpa using hs.1
      obtain⟨hle,xs,hxs,hty⟩:=ih (o+P.cellsOf f.type) e (fun g hg=>hfs g (Cp _ hg)) hs.2 he
      obtain⟨hpf,y,hy⟩:=hfs f Co
      obtain⟨zs,hz1,hz2,hz3⟩:=oM k f.type n _ y hpf hy
      rw[hfo]at hz2 hz3
      have hzl:zs.length=P.cellsOf f.type:=by rw[<-hz2.1];exact hz3
      refine⟨by omega,zs++xs,?_,fun i g hg=>?_⟩
      ·have:cs.drop o=(cs.drop o).take (P.cellsOf f.type)++cs.drop (o+P.cellsOf f.type):=by
        rw[<-List.drop_drop,List.take_append_drop]
       rw[this]
       exact hz2.append hxs
      ·cases i with
       | zero =>
        simp at hg
        subst hg
        refine⟨by omega,?_⟩
        rw[hfo,Nat.sub_self,List.drop_zero,<-hzl,List.take_left]
        exact hz1
       | succ i =>
        simp at hg
        obtain⟨h1,h2⟩:=hty i g hg
        refine⟨by omega,?_⟩
        rw[List.drop_append,List.drop_eq_nil_of_le (by omega),List.nil_append]
        rw[hzl,show g.offset-o-P.cellsOf f.type=g.offset-(o+P.cellsOf f.type) by omega]
        exact h2
    obtain⟨_,xs,hxs,hty⟩:=fields fs.toList 0 (P.cellsOf t) (fun f hf'=>by
     obtain⟨i,hi,rfl⟩:=List.mem_iff_getElem.1 hf'
     refine⟨hall _ hf',?_⟩
     have hi':i<fs.size:=by simpa using hi
     have:=hf i _ (Array.getElem?_eq_getElem hi')
     rw[Array.getElem_toList,this]
     exact⟨_,Ci (by omega)⟩) hside hlen.symm
    simp only[List.drop_zero]at hxs
    exact⟨xs,.struct hu (by rw[<-hxs.1];exact hlen) (fun i f hf'=>by
     have:=(hty i f (by rw[Cl];exact hf')).2
     simpa using this),hxs,hlen⟩
   | array m e =>
    simp only[Ck]at hp
    have hct:P.cellsOf t=m*P.cellsOf e:=by simpa using hp.2
    obtain⟨ys,n,_,_,hlen,hyl,hf⟩:=DataW.trod_array hu h
    have parts : ∀ q, q ≤ m → ∃ xs : List TV, cV w (fun b => b < w.heap.size) xs (cs.take (q * P.cellsOf e)) ∧ ∀ i, i < q → bi P e ((xs.drop (i * P.cellsOf e)).take (P.cellsOf e)) := by
     intro q
     induction q with
     | zero=>intro _;exact⟨[],by simp[cV],fun i hi=>by omega⟩
     | succ q ih =>
      intro hq
      obtain⟨xs,h1,h2⟩:=ih (by omega)
      have hy:DataW.trod enc P w 0 spare held n e ((cs.drop (q*P.cellsOf e)).take (P.cellsOf e))=some (ys[q]'(by omega)):=by
       rw[hf q (by omega)];exact Ci _
      obtain⟨zs,hz1,hz2,hz3⟩:=oM k e n _ _ hp.1 hy
      have hzl:zs.length=P.cellsOf e:=by rw[<-hz2.1];exact hz3
      have hxl:xs.length=q*P.cellsOf e:=by
       rw[<-h1.1,List.length_take,hlen,hct]
       exact Nat.min_eq_left (Nat.mul_le_mul_right _ (by omega))
      refine⟨xs++zs,?_,fun i hi=>?_⟩
      ·have:cs.take ((q+1)*P.cellsOf e)=cs.take (q*P.cellsOf e)++(cs.drop (q*P.cellsOf e)).take (P.cellsOf e):=by
        rw[Nat.add_mul,Nat.one_mul,List.take_add]
       rw[this]
       exact h1.append hz2
      ·by_cases hiq:i<q
       ·have hle:i*P.cellsOf e+P.cellsOf e<=xs.length:=by
         rw[hxl]
         have:(i+1)*P.cellsOf e<=q*P.cellsOf e:=Nat.mul_le_mul_right _ hiq
         rw[Nat.add_mul]at this
         omega
        rw[List.drop_append_of_le_length (by omega),List.take_append_of_le_length (by simp;omega)]
        exact h2 i hiq
       ·have:i=q:=by omega
        subst this
        rw[<-hxl,List.drop_left,<-hzl,List.take_length]
        exact hz1
    obtain⟨xs,h1,h2⟩:=parts m (Nat.le_refl _)
    rw[<-hct,<-hlen,List.take_length]at h1
    exact⟨xs,.arr hu (by rw[<-h1.1];exact hlen) h2,h1,hlen⟩
   | _=>simp at hp
def zC (P:Program) (t:TypeId) (x:TV):Prop:=((∃cs,x=.agg cs/\bi P t cs)/\((∃fs,P.underlying t=some (.struct fs))\/∃n e,P.underlying t=some (.array n e)))\/(bi P t [x]/\(∀fs,P.underlying t≠some (.struct fs))/\∀n e,P.underlying t≠some (.array n e))
theorem zD {k:Nat} {t:TypeId} {v:Value} {d:DataW H} {ps:List MemPlace} {r:Reach} {b0:Nat} (hp:cB P k t=true) (hv:Value.okWide P w r b0 t v) (h:DataW.Trod enc P w 0 spare held t v d ps) :
  ∃x,zC P t x/\Rep w (fun b=>b<w.heap.size) x v:=by
 obtain⟨fuel,hf⟩:=h
 obtain⟨xs,hty,hrep,hlen⟩:=oM k t fuel _ _ hp hf
 have agg:∀cs:Array Value,v=.agg cs->Rep w (fun b=>b<w.heap.size) (.agg xs) v:=fun cs hc=>by
  subst hc
  have hl:cs.size=xs.length:=by simpa[Value.cells]using hrep.1
  refine .agg hl (fun j hj=>?_) (fun j c hj=>?_)
  ·have h1:xs[j]? = some (xs[j]'(by omega)):=Ci _
   have h2:cs.toList[j]? = some (cs.getD j undef):=by rw[Cl,Array.getElem?_eq_getElem hj];simp[hj]
   exact(hrep.2 j _ _ h1 h2).2
  ·have hj':j<cs.size:=by have:=(Ch.1 hj).1;omega
   have h2:cs.toList[j]? = some (cs.getD j undef):=by rw[Cl,Array.getElem?_eq_getElem hj'];simp[hj']
   exact(hrep.2 j _ _ hj h2).1
 have one:v.cells=#[v]->∃y,xs=[y]/\Rep w (fun b=>b<w.heap.size) y v:=fun hc=>by
  rw[hc]at hrep
  match xs,hrep with
  | [y],hrep=>exact⟨y,rfl,(hrep.2 0 y v rfl rfl).1⟩
  | [],hrep=>have:=hrep.1;simp at this
  | _::_::_,hrep=>have:=hrep.1;simp at this
 cases k with
 | zero=>simp[cB]at hp
 | succ k =>
  simp only[cB]at hp
  cases hu:P.underlying t with
  | none=>simp[hu]at hp
  | some desc =>
   simp only[hu]at hp
   cases desc with
   | int kd =>
    obtain⟨n,rfl⟩:=okWide_int hu hv
    obtain⟨y,rfl,hy⟩:=one rfl
    exact⟨y,.inr ⟨hty,by simp[hu],by simp[hu]⟩,hy⟩
   | bool =>
    obtain⟨n,rfl⟩:=okWide_bool hu hv
    obtain⟨y,rfl,hy⟩:=one rfl
    exact⟨y,.inr ⟨hty,by simp[hu],by simp[hu]⟩,hy⟩
   | string =>
    obtain⟨n,rfl⟩:=okWide_string hu hv
    obtain⟨y,rfl,hy⟩:=one rfl
    exact⟨y,.inr ⟨hty,by simp[hu],by simp[hu]⟩,hy⟩
   | slice e =>
    obtain⟨a,l,c,rfl⟩:=okWide_slice hu hv
    obtain⟨y,rfl,hy⟩:=one rfl
    exact⟨y,.inr ⟨hty,by simp[hu],by simp[hu]⟩,hy⟩
   | struct fs =>
    obtain⟨cs,rfl,_⟩:=okWide_struct hu hv
    exact⟨.agg xs,.inl ⟨⟨xs,rfl,hty⟩,.inl ⟨fs,hu⟩⟩,agg cs rfl⟩
   | array n e =>
    have hag:∃cs,v=.agg cs:=by
     unfold Value.okWide at hv
     simp only[hu]at hv
     cases v<;>simp_all
    obtain⟨cs,rfl⟩:=hag
    exact⟨.agg xs,.inl ⟨⟨xs,rfl,hty⟩,.inr ⟨n,e,hu⟩⟩,agg cs rfl⟩
   | _=>simp at hp
end
end Go.Ab
end
section
namespace Go.Ab
open Go.RowKit Go.ChangeShapes Go.WideShapes
def tw (P:Program):List TypeId->List TV->Prop
 | [],[]=>True
 | t::ts,x::xs=>zC P t x/\tw P ts xs
 | _,_=>False
section
variable {H:Type} {enc:TypeId × Value->H} {P:Program} {W W':World}
theorem mB:∀(ts:List TypeId) (vs:List Value) (ds:List (DataW H)) (ps:List MemPlace) {base:Nat},(∀t∈ts,cB P 24 t=true)->(∀(j:Nat) t v,ts[j]? = some t->vs[j]? = some v->Value.okWide P W .any base t v) ->
  DataW.TrodAll enc P W 0 (fun _=>true) true ts vs ds ps->∃xs,tw P ts xs/\xs.length=vs.length/\∀(j:Nat) (x:TV) (v:Value),xs[j]? = some x->vs[j]? = some v->Rep W (fun b=>b<W.heap.size) x v
 | [],vs,ds,ps,base,hp,hv,h=>by
  obtain⟨rfl,rfl,rfl⟩:=trodAll_nil h
  exact⟨[],trivial,rfl,fun j x v hx=>by simp at hx⟩
 | t::ts,vs,ds,ps,base,hp,hv,h=>by
  obtain⟨v,vs1,d,ds1,a,b,rfl,rfl,rfl,h1,h2⟩:=trodAll_cons h
  obtain⟨x,hx,hr⟩:=zD (hp t Co) (hv 0 t v rfl rfl) h1
  obtain⟨xs,hxs,hl,hrs⟩:=mB ts vs1 ds1 b (fun t' ht'=>hp t' (Cp _ ht')) (fun j t' v' h1' h2'=>hv (j+1) t' v' (by simpa using h1') (by simpa using h2')) h2
  refine⟨x::xs,⟨hx,hxs⟩,by simp[hl],fun j y u hy hu=>?_⟩
  cases j with
  | zero=>simp at hy hu;subst hy hu;exact hr
  | succ j=>simp at hy hu;exact hrs j y u hy hu
theorem kS (hl:laidOutB P=true) (hb:Below W.heap.size W W'):∀(ts:List TypeId) (vs:List Value) (ds:List (DataW H)) (ps:List MemPlace),(∀t∈ts,P.readableRec t=true/\t<P.types.size)->(∀p∈ps,p.block<W.heap.size) ->
  DataW.TrodAll enc P W 0 (fun _=>true) true ts vs ds ps->DataW.TrodAll enc P W' 0 (fun b=>decide (b<W.heap.size)) true ts vs ds ps
 | [],vs,ds,ps,hr,hlt,h=>by
  obtain⟨rfl,rfl,rfl⟩:=trodAll_nil h
  rfl
 | t::ts,vs,ds,ps,hr,hlt,h=>by
  obtain⟨v,vs1,d,ds1,a,b,rfl,rfl,rfl,h1,h2⟩:=trodAll_cons h
  exact⟨a,b,Below.trod hl (hr t Co).1 (hr t Co).2 h1 hb (fun p hp=>hlt p (List.mem_append_left _ hp)),kS hl hb ts vs1 ds1 b (fun t' ht'=>hr t' (Cp _ ht')) (fun p hp=>hlt p (List.mem_append_right _ hp)) h2,rfl⟩
theorem zW {A:AProg} {G:Laid} (hA:A.Ok P G) (hG:G.P W (fun b=>b<W.heap.size)) {fid:FuncId} (hln:(A.lent fid,A.peek fid,A.turn fid,A.eye fid)=(none,none,false,false)) {f:Func} (hlaid:laidOutB P=true) (hpar:∀t∈f.params.toList,cB P 24 t=true/\P.readableRec t=true/\t<P.types.size)
  {bt:TypeId} (hres:f.resultTypes=#[bt]) (hbt:P.underlying bt=some .bool) {s:ChangeSpec} (hvars:s.vars=[])
  (hs:∀ds:List (DataW H),ds.length=f.params.size->s.fn H ds={ results:=[.lit (.bool true)],args:=ds })
  (hlaw:∀xs,tw P f.params.toList xs->∃n,acall A n fid xs=some (.lit (.bool true)))
  {args:Array Value} {ds gs:List (DataW H)} {before:List MemPlace} {base:Nat} (hval:∀(j:Nat) t v,f.params[j]? = some t->args[j]? = some v->Value.okWide P W .any base t v)
  (hW:DataW.Whole enc P f.params.toList s.vars false W args.toList ds gs before) :
  Calls P fid args W fun e W'=>∃v,e=.returned v/\s.post enc P f false true false false W args v W':=by
 have hW':=hW
 obtain⟨p,q,hT,hV,hpq,hfz,hnd⟩:=hW
 rw[hvars]at hV
 have hgs:gs=[]/\q=[]:=trodVars_none hV
 obtain⟨hg0,hq0⟩:=hgs
 subst hg0 hq0
 rw[List.append_nil]at hpq
 subst hpq
 obtain⟨xs,hxs,hxl,hxr⟩:=mB f.params.toList args.toList ds before (fun t ht=>(hpar t ht).1) (fun j t v h1 h2=>hval j t v (by simpa using h1) (by simpa using h2)) hT
 obtain⟨n,hn⟩:=hlaw xs hxs
 have hc:=((((((nS hA n fid xs _ hn).2 (Prod.mk.inj (Prod.mk.inj (Prod.mk.inj hln).2).2).1).2 (Prod.mk.inj (Prod.mk.inj (Prod.mk.inj hln).2).2).2).1 (Prod.mk.inj (Prod.mk.inj hln).2).1).1 (Prod.mk.inj hln).1).1 (fun b=>b<W.heap.size) W args hG (fun _ h=>h) (by simpa using hxl.symm) (fun j x hx=>by
  have hj:j<args.size:=by have:=(Ch.1 hx).1;simp at hxl;omega
  exact hxr j x _ hx (by rw[Cl,Array.getElem?_eq_getElem hj];simp[hj]))).2
 refine hc.mono ?_
 rintro e W' ⟨v,rfl,hb,I2,S,_,_,_,_,hv⟩
 have:=a9 hv
 subst this
 have hlen:ds.length=f.params.size:=by
  have:∀(ts:List TypeId) (vs:List Value) (ds:List (DataW H)) (ps:List MemPlace),DataW.TrodAll enc P W 0 (fun _=>true) true ts vs ds ps->ds.length=ts.length:=by
   intro ts
   induction ts with
   | nil=>intro vs ds ps h;obtain⟨rfl,rfl,rfl⟩:=trodAll_nil h;rfl
   | cons t ts ih=>intro vs ds ps h;obtain⟨v,vs1,d,ds1,a,b,rfl,rfl,rfl,h1,h2⟩:=trodAll_cons h;simp[ih _ _ _ h2]
  simpa using this _ _ _ _ hT
 have hlt:∀p∈before,p.block<W.heap.size:=fun p hp=>hW'.lt p hp
 refine⟨_,rfl,ds,[],before,[],before,[],hW',?_,?_,?_,?_,fun h=>by cases h⟩
 ·rw[List.append_nil,hs ds hlen,hres]
  exact trodAll_cons_mk (shut_bool hbt true) rfl
 ·rw[List.append_nil,hs ds hlen]
  exact kS hlaid hb _ _ _ _ (fun t ht=>(hpar t ht).2) hlt hT
 ·rw[List.append_nil,hs ds hlen,hvars]
  rfl
 ·exact World.keptBut_mono (fun p hp=>⟨hp,.inr (.inl hp)⟩) (hb.frame (· ∈ before))
end
end Go.Ab
end
section
namespace Go.Ab
section
variable {P:Program}
theorem A0:∀t e,pD [] t=some e->aV P t e:=fun t e h=>by simp[pD]at h
theorem Aq {l:List (Nat × TyD)} {k:Nat} {d:TyD} (h1:tyOf P k=some d) (h:∀t e,pD l t=some e->aV P t e):∀t e,pD ((k,d)::l) t=some e->aV P t e:=by
 intro t e he
 simp only[pD]at he
 cases hk:k.beq t with
 | true =>
  rw[hk]at he
  have:k=t:=Nat.eq_of_beq_eq_true hk
  subst this
  cases he
  exact aV.of h1
 | false=>rw[hk]at he;exact h t e he
def Bk (P : Program) (f : FuncId) (fn : Func) : Prop := P.funcs[f]? = some fn ∧ (fn.name == "runtime.NumGoroutine") = false ∧ fn.body.isSome = true
theorem fn_nil:∀(f:FuncId) (e:Func),(none:Option Func)=some e->Bk P f e:=fun f e h=>by cases h
theorem ak {g : FuncId → Option Func} {k : FuncId} {fn : Func} (h1 : P.funcs[k]? = some fn) (h2 : (fn.name == "runtime.NumGoroutine") = false) (h3 : fn.body.isSome = true) (h : ∀ f e, g f = some e → Bk P f e) :
  ∀f e,(bif Nat.beq f k then some fn else g f)=some e->Bk P f e:=by
 intro f e he
 cases hk:Nat.beq f k with
 | true =>
  rw[hk]at he
  have:f=k:=Nat.eq_of_beq_eq_true hk
  subst this
  cases he
  exact⟨h1,h2,h3⟩
 | false=>rw[hk]at he;exact h f e he
theorem bi.AU {t:TypeId} {k:IntKind} {cs:List TV} (h:bi P t cs) (hu:P.underlying t=some (.int k)):∃n,cs=[.lit (.int k n)]/\(Lit.int k n).wf=true:=by
 cases h with
 | int hu' hw=>rw[hu]at hu';cases hu';exact⟨_,rfl,hw⟩
 | bool hu'=>rw[hu]at hu';cases hu'
 | str hu'=>rw[hu]at hu';cases hu'
 | nil hu'=>rw[hu]at hu';cases hu'
 | sl hu'=>rw[hu]at hu';cases hu'
 | struct hu'=>rw[hu]at hu';cases hu'
 | arr hu'=>rw[hu]at hu';cases hu'
theorem bi.BT {t:TypeId} {cs:List TV} (h:bi P t cs) (hu:P.underlying t=some .bool):∃b,cs=[.lit (.bool b)]:=by
 cases h with
 | int hu' hw=>rw[hu]at hu';cases hu'
 | bool hu'=>exact⟨_,rfl⟩
 | str hu'=>rw[hu]at hu';cases hu'
 | nil hu'=>rw[hu]at hu';cases hu'
 | sl hu'=>rw[hu]at hu';cases hu'
 | struct hu'=>rw[hu]at hu';cases hu'
 | arr hu'=>rw[hu]at hu';cases hu'
theorem F2.AW {α:Type} {R:List TV->α->Prop}:∀(xs:List (List TV)),(∀(i:Nat) x,xs[i]? = some x->∃a,R x a)->∃l,F2 R xs l
 | [],_=>⟨[],.nil⟩
 | x::xs,h=>by
  obtain⟨a,ha⟩:=h 0 x rfl
  obtain⟨l,hl⟩:=F2.AW xs fun i y hy=>h (i+1) y (by simpa using hy)
  exact⟨a::l,.cons ha hl⟩
theorem bi.vA {α:Type} {R:List TV->α->Prop} {t e:TypeId} {s:Nat} {cs:List TV} (h:bi P t cs) (hu:P.underlying t=some (.slice e)) (hs:P.cellsOf e=s) (hR:∀x,bi P e x->∃a,R x a):∃x l,cs=[x]/\RL (some false) s R x l:=by
 subst hs
 cases h with
 | int hu' hw=>rw[hu]at hu';cases hu'
 | bool hu'=>rw[hu]at hu';cases hu'
 | str hu' hl=>rw[hu]at hu';cases hu'
 | nil hu'=>exact⟨_,[],rfl,.nil⟩
 | sl hu' hl h =>
  rw[hu]at hu'
  cases hu'
  obtain⟨l,hl'⟩:=F2.AW _ fun i x hx=>hR x (h i x hx)
  exact⟨_,l,rfl,.sl (by simp) hl' (by have:maxLen=9223372036854775807:=rfl;omega)⟩
 | struct hu'=>rw[hu]at hu';cases hu'
 | arr hu'=>rw[hu]at hu';cases hu'
theorem bi.gC {t:TypeId} {fs:Array Field} {cs:List TV} (h:bi P t cs) (hu:P.underlying t=some (.struct fs)):cs.length=P.cellsOf t/\∀(i:Nat) (f:Field),fs[i]? = some f->bi P f.type ((cs.drop f.offset).take (P.cellsOf f.type)):=by
 cases h with
 | int hu' hw=>rw[hu]at hu';cases hu'
 | bool hu'=>rw[hu]at hu';cases hu'
 | str hu' hl=>rw[hu]at hu';cases hu'
 | nil hu'=>rw[hu]at hu';cases hu'
 | sl hu'=>rw[hu]at hu';cases hu'
 | struct hu' hl h=>rw[hu]at hu';cases hu';exact⟨hl,h⟩
 | arr hu'=>rw[hu]at hu';cases hu'
theorem wf_i64 {n:Int} (h:(Lit.int .i64 n).wf=true):inI n:=by
 simp only[Lit.wf,Ck,decide_eq_true_eq]at h
 exact h
theorem wf_u16 {n:Int} (h:(Lit.int .u16 n).wf=true):inW n:=by
 simp only[Lit.wf,Ck,decide_eq_true_eq]at h
 exact h
end
end Go.Ab
end

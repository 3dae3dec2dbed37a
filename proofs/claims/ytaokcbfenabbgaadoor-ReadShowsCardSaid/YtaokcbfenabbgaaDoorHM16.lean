import Derived.Test.YtaokcbfenabbgaaDoorHM15
set_option linter.all false
namespace Go.Ab
open Go.RowKit
section
variable {P:Program} {E:Env} {C:Cal} {w0:Bs} {w w':World} {I0 I R:Nat->Prop} {g g':Gh} {st st':ASt} {a:Act} {ov:List Value} {look:Look} {T:Type} {J:List Nat->ASt->T->Prop} {rs:List (Nat × Nat)}
def kZ:CA->Option (Nat × Nat)
 | .sref i r _=>some (i,r)
 | .swin i r _ _ _=>some (i,r)
 | _=>none
def sB (g:Gh) (look:Look) (i r b:Nat):Prop:=∃ xs,look i=some (.tree xs)/\r < xs.length/\g.φ i r b
def CF (g:Gh) (look:Look) (rs:List (Nat × Nat)) (c:CA) (b:Nat):Prop:=∃ i r,kZ c=some (i,r)/\kY rs i r=true/\sB g look i r b
def I2 (g:Gh) (look:Look) (rs:List (Nat × Nat)) (b:Nat):Prop:=g.I b\/∃ i r,kY rs i r=false/\sB g look i r b
theorem sB.foot {i r b:Nat} (h:sB g look i r b):Foot g look i b:=by
 obtain ⟨xs,h1,h2,h3⟩:=h
 exact .inr ⟨xs,r,h1,h2,h3⟩
theorem ai.tT (hs:ai w0 I0 R g st a ov w) {i r i' r' b:Nat} (h:sB g st.look i r b) (h':sB g st.look i' r' b):i=i'/\r=r':=by
 have:=hs.apart i i' b h.foot h'.foot
 subst this
 obtain ⟨xs,h1,h2,h3⟩:=h
 obtain ⟨xs',h1',h2',h3'⟩:=h'
 rw [h1] at h1'
 cases h1'
 exact ⟨rfl,hs.apartR i xs r r' b h1 h2 h2' h3 h3'⟩
theorem ln (hs:ai w0 I0 R g st a ov w) {c:CA} {u:Value} {k:TV->Prg TV} {J:List Nat->ASt->TV->Prop} {e:TV} (hc:bi w g st.look c u) (h:(k8 st.look rs c k).goes C J e) :
  ∃ x,(k x).goes C J e/\ak w (I2 g st.look rs) x u (CF g st.look rs c):=by
 have fin:∀ {i r:Nat} {x:TV} {S:Nat->Prop} {xs:List TV},kZ c=some (i,r)->st.look i=some (.tree xs)->r < xs.length->ak w g.I x u S->(∀ b,S b->g.φ i r b)->(k (bif kY rs i r then x else frz x)).goes C J e ->
   ∃ x,(k x).goes C J e/\ak w (I2 g st.look rs) x u (CF g st.look rs c):=by
  intro i r x S xs hr hl hrl hx hS hk
  refine ⟨_,hk,?_⟩
  cases hp:kY rs i r with
  | true=>exact hx.mv (fun _ _=>rfl) (fun _ h=>.inl h) (fun _ _=>rfl) (fun b hb=>⟨i,r,hr,hp,xs,hl,hrl,hS b hb⟩)
  | false=>exact .fr (hx.frz (I':=I2 g st.look rs) (fun _ h=>.inl h) (fun b hb=>.inr ⟨i,r,hp,xs,hl,hrl,hS b hb⟩))
 cases c with
 | t x=>exact ⟨x,h,.fr (hc.1.mv (fun _ _=>rfl) (fun _ h=>.inl h))⟩
 | sref i r p =>
  simp only [k8,gD] at h
  split at h
  ·rename_i x hx
   obtain ⟨xs,h1,h2⟩:=au hx
   obtain ⟨y,h3,h4⟩:=kA h
   obtain ⟨xs',x',nd,g1,g2,g3,g4⟩:=hc
   rw [h1] at g1
   cases g1
   rw [h2] at g2
   cases g2
   obtain ⟨_,S',r1,r2⟩:=hs.at h1 h2 g3 h3
   exact fin rfl h1 (Dt.1 h2).1 r1 r2 h4
  ·exact h.elim
 | swin i r p lo len =>
  simp only [k8,gD] at h
  split at h
  ·rename_i x hx
   obtain ⟨xs,h1,h2⟩:=au hx
   obtain ⟨y,h3,z,h4,h5⟩:=kA h
   obtain ⟨xs',x',u0,nd,g1,g2,g3,g4,g5⟩:=hc
   rw [h1] at g1
   cases g1
   rw [h2] at g2
   cases g2
   obtain ⟨e1,S',r1,r2⟩:=hs.at h1 h2 g3 h3
   exact fin rfl h1 (Dt.1 h2).1 (cI r1 e1 g5 h4) r2 h5
  ·exact h.elim
 | _=>exact h.elim
theorem rJ (hs:ai w0 I0 R g st a ov w) {J:List Nat->ASt->TV->Prop}:∀ {cs:List CA} {us:List Value} {k:List TV->Prg TV} {e:TV},CR w g st.look cs us->(yg st.look rs cs k).goes C J e ->
  ∃ ys,(k ys).goes C J e/\ys.length=cs.length/\∀ (m:Nat) (c:CA) (y:TV) (u:Value),cs[m]? = some c->ys[m]? = some y->us[m]? = some u->ak w (I2 g st.look rs) y u (CF g st.look rs c)
 | [],us,k,e,hcr,h=>⟨[],h,rfl,fun m c y u hc=>by simp at hc⟩
 | c :: l, us, k, e, hcr, h => by
  obtain ⟨u0,us',rfl⟩:∃ u0 us',us=u0 :: us':=by
   cases us with
   | nil=>have:=hcr.1; simp at this
   | cons u0 us'=>exact ⟨u0,us',rfl⟩
  have hc:=hcr.2 0 c u0 rfl rfl
  have hcr':CR w g st.look l us':=⟨by have:=hcr.1; simpa using this,fun j c' u hc' hu'=>hcr.2 (j + 1) c' u (by simpa using hc') (by simpa using hu')⟩
  obtain ⟨y,h1,h2⟩:=ln hs hc.1 h
  obtain ⟨ys,h3,h4,h5⟩:=rJ hs hcr' h1
  refine ⟨y :: ys,h3,by simp [h4],fun m c' y' u hc' hy hu=>?_⟩
  cases m with
  | zero=>simp at hc' hy hu; subst hc' hy hu; exact h2
  | succ m=>simp at hc' hy hu; exact h5 m c' y' u hc' hy hu
theorem aY (i r:Nat):∀ (l l':List (Nat × Nat)),b8 i r (l ++ l')=b8 i r l + b8 i r l'
 | [],l'=>by simp [b8]
 | (p,q) :: l,l'=>by
  simp only [List.cons_append,b8,aY i r l l']
  cases p.beq i && q.beq r <;> simp <;> omega
theorem fh (c:CA) (l:List CA):cX (c :: l)=cX [c] ++ cX l:=by cases c <;> rfl
theorem ny {i r:Nat} {c:CA} (h:kZ c=some (i,r)):b8 i r (cX [c])=1:=by
 cases c <;> simp [kZ] at h <;> obtain ⟨rfl,rfl⟩:=h <;> simp [cX,b8]
theorem iL {i r:Nat} {c:CA} (h:kZ c=some (i,r)):∀ {cs:List CA} {m:Nat},cs[m]? = some c->1<=b8 i r (cX cs)
 | [],m,hm=>by simp at hm
 | d :: cs,0,hm=>by
  simp at hm
  subst hm
  rw [fh,aY,ny h]
  omega
 | d :: cs,m + 1,hm=>by
  rw [fh,aY]
  have:=iL h (cs:=cs) (m:=m) (by simpa using hm)
  omega
theorem nn {i r:Nat} {c c':CA} (h:kZ c=some (i,r)) (h':kZ c'=some (i,r)):∀ {cs:List CA} {m m':Nat},cs[m]? = some c->cs[m']? = some c'->m≠m'->2<=b8 i r (cX cs)
 | [],m,m',hm,_,_=>by simp at hm
 | d :: cs,0,0,_,_,hn=>absurd rfl hn
 | d :: cs,0,m' + 1,hm,hm',_=>by
  simp at hm
  subst hm
  rw [fh,aY,ny h]
  have:=iL h' (cs:=cs) (m:=m') (by simpa using hm')
  omega
 | d :: cs,m + 1,0,hm,hm',_=>by
  simp at hm'
  subst hm'
  rw [fh,aY,ny h']
  have:=iL h (cs:=cs) (m:=m) (by simpa using hm)
  omega
 | d :: cs,m + 1,m' + 1,hm,hm',hn=>by
  rw [fh,aY]
  have:=nn h h' (cs:=cs) (m:=m) (m':=m') (by simpa using hm) (by simpa using hm') (fun e=>hn (by rw [e]))
  omega
def ko:AV->List CA
 | .one c=>[c]
 | .agg cs=>cs
 | _=>[]
theorem mN (v:AV):v.Dr=cX (ko v):=by cases v <;> rfl
def VF (g:Gh) (look:Look) (rs:List (Nat × Nat)) (v:AV) (b:Nat):Prop:=∃ (m:Nat) (c:CA),(ko v)[m]? = some c/\CF g look rs c b
theorem xv (hs:ai w0 I0 R g st a ov w) {J:List Nat->ASt->TV->Prop} {v:AV} {u:Value} {k:TV->Prg TV} {e:TV} (hv:bm w g st.look v u) (hcnt:∀ i r,b8 i r (cX (ko v))<=b8 i r rs) (h:(xN st.look rs v k).goes C J e) :
  ∃ x,(k x).goes C J e/\ak w (I2 g st.look rs) x u (VF g st.look rs v):=by
 cases v with
 | one c =>
  obtain ⟨x,h1,h2⟩:=ln hs hv h
  exact ⟨x,h1,h2.mono (fun b hb=>⟨0,c,rfl,hb⟩)⟩
 | tv x=>exact ⟨x,h,.fr (Rep.mv (fun _ _=>rfl) (fun _ h=>.inl h) hv)⟩
 | bl b =>
  have:u=.bool b:=hv
  subst this
  exact ⟨_,h,.fr (.lit _)⟩
 | tups l=>exact h.elim
 | clo _ l=>exact h.elim
 | agg cs =>
  obtain ⟨vs,rfl,hcr⟩:=hv
  obtain ⟨ys,h1,h2,h3⟩:=rJ hs hcr h
  have hlen:vs.size=cs.length:=by have:=hcr.1; simpa using this
  refine ⟨_,h1,.agg (fun m b=>∃ c,cs[m]? = some c/\CF g st.look rs c b) (by rw [h2]; exact hlen) (fun j hj=>?_) (fun j y hy=>?_) (fun m b hb=>?_) (fun m m' b hb hb'=>?_)⟩
  ·have hg:vs.toList[j]? = some vs[j]:=by simp [hj]
   have hc:cs[j]? = some (cs[j]'(by omega)):=Du _
   rw [DI,Array.getElem?_eq_getElem hj]
   exact (hcr.2 j _ _ hc hg).2
  ·have hj:j < vs.size:=by have:=(Dt.1 hy).1; omega
   have hg:vs.toList[j]? = some vs[j]:=by simp [hj]
   have hc:cs[j]? = some (cs[j]'(by omega)):=Du _
   rw [DI,Array.getElem?_eq_getElem hj]
   exact (h3 j _ y _ hc hy hg).mono (fun b hb=>⟨_,hc,hb⟩)
  ·obtain ⟨c,h4,h5⟩:=hb
   exact ⟨m,c,h4,h5⟩
  ·obtain ⟨c,c1,i,r,c2,c3,c4⟩:=hb
   obtain ⟨c',d1,i',r',d2,d3,d4⟩:=hb'
   obtain ⟨e1,e2⟩:=hs.tT c4 d4
   subst e1 e2
   by_cases hmm:m=m'
   ·exact hmm
   ·have h5:=nn c2 d2 c1 d1 hmm
    have h6:=hcnt i r
    simp only [ko] at h6
    simp only [kY,Nat.ble_eq] at c3
    omega
theorem lJ (hs:ai w0 I0 R g st a ov w) {J:List Nat->ASt->TV->Prop}:∀ {vs:List AV} {us:List Value} {k:List TV->Prg TV} {e:TV},lW w g st.look vs us->(∀ i r,b8 i r (cf vs)<=b8 i r rs)->(gives st.look rs vs k).goes C J e ->
  ∃ ys,(k ys).goes C J e/\ys.length=vs.length/\∀ (m:Nat) (v:AV) (y:TV) (u:Value),vs[m]? = some v->ys[m]? = some y->us[m]? = some u->ak w (I2 g st.look rs) y u (VF g st.look rs v)
 | [],us,k,e,hcr,hcnt,h=>⟨[],h,rfl,fun m c y u hc=>by simp at hc⟩
 | v :: l, us, k, e, hcr, hcnt, h => by
  obtain ⟨u0,us',rfl⟩:∃ u0 us',us=u0 :: us':=by
   cases us with
   | nil=>have:=hcr.len; simp at this
   | cons u0 us'=>exact ⟨u0,us',rfl⟩
  obtain ⟨hv,hvs⟩:=hcr
  have hc1:∀ i r,b8 i r (cX (ko v))<=b8 i r rs:=fun i r=>by
   have:=hcnt i r
   rw [cf,aY,mN] at this
   omega
  have hc2:∀ i r,b8 i r (cf l)<=b8 i r rs:=fun i r=>by
   have:=hcnt i r
   rw [cf,aY] at this
   omega
  obtain ⟨y,h1,h2⟩:=xv hs hv hc1 h
  obtain ⟨ys,h3,h4,h5⟩:=lJ hs hvs hc2 h1
  refine ⟨y :: ys,h3,by simp [h4],fun m c' y' u hc' hy hu=>?_⟩
  cases m with
  | zero=>simp at hc' hy hu; subst hc' hy hu; exact h2
  | succ m=>simp at hc' hy hu; exact h5 m c' y' u hc' hy hu
theorem nV {i r:Nat} {c:CA} (h:kZ c=some (i,r)):∀ {vs:List AV} {v:AV} {j m:Nat},vs[j]? = some v->(ko v)[m]? = some c->1<=b8 i r (cf vs)
 | [],v,j,m,hj,_=>by simp at hj
 | d :: vs,v,0,m,hj,hm=>by
  simp at hj
  subst hj
  rw [cf,aY,mN]
  have:=iL h hm
  omega
 | d :: vs,v,j + 1,m,hj,hm=>by
  rw [cf,aY]
  have:=nV h (vs:=vs) (j:=j) (by simpa using hj) hm
  omega
theorem lE {i r:Nat} {c c':CA} (h:kZ c=some (i,r)) (h':kZ c'=some (i,r)):∀ {vs:List AV} {v v':AV} {j j' m m':Nat},vs[j]? = some v->vs[j']? = some v'->(ko v)[m]? = some c->(ko v')[m']? = some c'->j≠j'->2<=b8 i r (cf vs)
 | [],v,v',j,j',m,m',hj,_,_,_,_=>by simp at hj
 | d :: vs,v,v',0,0,m,m',_,_,_,_,hn=>absurd rfl hn
 | d :: vs,v,v',0,j' + 1,m,m',hj,hj',hm,hm',_=>by
  simp at hj
  subst hj
  rw [cf,aY,mN]
  have:=iL h hm
  have:=nV h' (vs:=vs) (j:=j') (by simpa using hj') hm'
  omega
 | d :: vs,v,v',j + 1,0,m,m',hj,hj',hm,hm',_=>by
  simp at hj'
  subst hj'
  rw [cf,aY,mN]
  have:=iL h' hm'
  have:=nV h (vs:=vs) (j:=j) (by simpa using hj) hm
  omega
 | d :: vs,v,v',j + 1,j' + 1,m,m',hj,hj',hm,hm',hn=>by
  rw [cf,aY]
  have:=lE h h' (vs:=vs) (j:=j) (j':=j') (by simpa using hj) (by simpa using hj') hm hm' (fun e=>hn (by rw [e]))
  omega
def Ans (w0:Bs) (I0:Nat->Prop) (x:TV) (v:Value) (w':World):Prop :=
 ∃ I' S:Nat->Prop,(∀ b,I0 b->I' b)/\(∀ b,I' b->b < w'.heap.size)/\(∀ b,¬ w0.New b->I' b->I0 b)/\(∀ b,S b->w0.New b/\b < w'.heap.size/\¬ I' b)/\ak w' I' x v S
theorem tD (hT:∀ t d,E.T t=some d->aM P t d) (hs:ai w0 I0 NoR g st a ov w) {fn:Func} {pu:Bool} {J:List Nat->ASt->TV->Prop} {x:TV} (h:(BN E.T pu fn.results.toList st).goes C J x) :
  ∃ v,(results fn a.tmps).run P w=.ok v w/\Ans w0 I0 x v w:=by
 have hm:∀ (vs:List Value),(fn.results.toList.mapM (kg a.tmps)).run P w=.ok vs w ->
   (results fn a.tmps).run P w=.ok (if h:vs.toArray.size=1 then vs.toArray[0] else .tuple vs.toArray) w:=by
  intro vs hv
  rw [lr,Array.mapM_eq_mapM_toList,<- bind_pure_comp]
  simp only [Sem.run_bind,hv,Result.andThen_ok,Sem.run_pure]
 unfold BN at h
 split at h
 ·rename_i avs hav
  obtain ⟨us,hrun,hreps⟩:=gc (P:=P) hT hs _ _ hav
  obtain ⟨ys,hk,hlen,hrep⟩:=lJ hs hreps (fun _ _=>Nat.le_refl _) h
  have hul:=hreps.len
  obtain ⟨rs',hrs'⟩:∃ rs',rs'=cf avs:=⟨_,rfl⟩
  rw [<- hrs'] at hrep
  have base:∀ (S:Nat->Prop) (y:TV) (v:Value),(∀ b,S b->∃ (m:Nat) (v:AV),avs[m]? = some v/\VF g st.look rs' v b)->ak w (I2 g st.look rs') y v S->Ans w0 I0 y v w:=by
   intro S y v hS hr
   refine ⟨I2 g st.look rs',S,fun b hb=>.inl (hs.sub b hb),fun b hb=>?_,fun b hb hI=>?_,fun b hb=>?_,hr⟩
   ·rcases hb with hb | ⟨i,r,_,hb⟩
    ·exact hs.lt b hb
    ·exact (hs.foot i b hb.foot).2.1
   ·rcases hI with h' | ⟨i,r,_,h'⟩
    ·exact hs.old b hb h'
    ·exact absurd (hs.foot i b h'.foot).1 hb
   ·obtain ⟨m,v,_,m',c,_,i,r,_,hp,hb'⟩:=hS b hb
    obtain ⟨f1,f2,f3,_⟩:=hs.foot i b hb'.foot
    refine ⟨f1,f2,?_⟩
    rintro (h' | ⟨i',r',hp',h'⟩)
    ·exact f3 h'
    ·obtain ⟨e1,e2⟩:=hs.tT hb' h'
     subst e1 e2
     rw [hp] at hp'
     cases hp'
  have single:∀ x0,ys=[x0]->∃ v,(results fn a.tmps).run P w=.ok v w/\Ans w0 I0 x0 v w:=by
   intro x0 hy
   subst hy
   have hl1:us.length=1:=by rw [hul,<- hlen]; rfl
   match us,hl1,hrun,hrep with
   | [u], _, hrun, hrep =>
    have hal:avs.length=1:=by rw [<- hlen]; rfl
    match avs,hal,hrep,base with
    | [v],_,hrep,base =>
     refine ⟨u,by simpa using hm [u] hrun,base _ x0 u (fun b hb=>⟨0,v,rfl,hb⟩) (hrep 0 v x0 u rfl rfl rfl)⟩
  have many:ys.length≠1->∃ v,(results fn a.tmps).run P w=.ok v w/\Ans w0 I0 (.tup ys) v w:=by
   intro hn
   have h1:¬ us.toArray.size=1:=by simp; omega
   refine ⟨.tuple us.toArray,by rw [hm us hrun,dif_neg h1],base (fun b=>∃ (m:Nat) (v:AV),avs[m]? = some v/\VF g st.look rs' v b) _ _ (fun b hb=>hb) ?_⟩
   refine .tup (fun m b=>∃ v,avs[m]? = some v/\VF g st.look rs' v b) (by simp; omega) (fun j y hy=>?_) (fun m b ⟨v,h1,h2⟩=>⟨m,v,h1,h2⟩) (fun m m' b hb hb'=>?_)
   ·have hj:j < us.length:=by have:=(Dt.1 hy).1; omega
    have hju:us[j]? = some us[j]:=Du hj
    have hja:avs[j]? = some (avs[j]'(by omega)):=Du _
    have:us.toArray.getD j undef=us[j]:=by simp [hj]
    rw [this]
    exact (hrep j _ y _ hja hy hju).mono (fun b hb=>⟨_,hja,hb⟩)
   ·obtain ⟨v,c1,q,c,c2,i,r,c3,c4,c5⟩:=hb
    obtain ⟨v',d1,q',c',d2,i',r',d3,d4,d5⟩:=hb'
    obtain ⟨e1,e2⟩:=hs.tT c5 d5
    subst e1 e2
    by_cases hmm:m=m'
    ·exact hmm
    ·have:=lE c3 d3 c1 d1 c2 d2 hmm
     simp only [kY,Nat.ble_eq,hrs'] at c4
     omega
  split at hk
  ·rename_i x0
   cases pu with
   | true =>
    simp only [cond_true] at hk
    obtain ⟨h1,h2⟩:=hk
    have h2:x0=x:=h2
    subst h2
    exact single _ rfl
   | false =>
    simp only [cond_false] at hk
    have h2:x0=x:=hk
    subst h2
    exact single _ rfl
  ·rename_i hne
   have hn:ys.length≠1:=fun e=>by
    match ys,e with
    | [y],_=>exact hne y rfl
   cases pu with
   | true =>
    simp only [cond_true] at hk
    obtain ⟨h1,h2⟩:=hk
    have h2:TV.tup ys=x:=h2
    subst h2
    exact many hn
   | false =>
    simp only [cond_false] at hk
    have h2:TV.tup ys=x:=hk
    subst h2
    exact many hn
 ·exact h.elim
theorem zk {I:Nat->Prop} {G:Laid} (hG:G.P w I) (hlt:∀ b,I b->b < w.heap.size) {ntmps:Nat} {args:List TV} {vals:Array Value} (hle:args.length<=ntmps) (hsz:vals.size=args.length) (hargs:∀ (j:Nat) (x:TV),args[j]? = some x->Rep w I x (vals.getD j undef)) :
  Sim (Bs.of w (fun _=>False) G) I (gW ntmps args) { tmps:=vals ++ Array.replicate (ntmps - vals.size) undef,defers:=[] } [] w:=by
 have hlk:∀ i,(gW ntmps args).look i=none:=fun i=>by
  simp only [gW,ASt.look,aP,List.getElem?_replicate]
  split <;> rfl
 have hnf:∀ (g:Gh) i b,¬ Foot g (gW ntmps args).look i b:=fun g i b h=>by
  rcases h with ⟨cs,h,_⟩ | ⟨xs,r,h,_⟩ <;> rw [hlk] at h <;> cases h
 refine ⟨⟨I,fun _ _=>undef,fun _=>0,fun _ _ _=>False,⟨fun _=>none,fun _=>0⟩⟩,⟨Bs.Bel.refl _,fun _ h=>h,hlt,fun _ _ h=>h,by simp [gW,hsz],rfl,fun t v hv=>?_,rfl,(fun t v hv=>by simp [gW] at hv),(fun i cs hb=>by rw [hlk] at hb; cases hb),(fun i xs hb=>by rw [hlk] at hb; cases hb),
  (fun i b h=>(hnf _ i b h).elim),(fun i j b h=>(hnf _ i b h).elim),(fun i xs r r' b h=>by rw [hlk] at h; cases h),(fun b h=>h.elim),⟨fun b hb=>⟨hlt b hb,fun h=>h⟩,hG⟩,⟨(fun b ob h=>by cases h),rfl⟩⟩⟩
 simp only [gW,List.getElem?_append,List.length_map,Dz] at hv
 by_cases ht:t < args.length
 ·simp only [ht,if_true] at hv
  rw [Du ht] at hv
  simp only [DG,Dv] at hv
  subst hv
  have:=hargs t _ (Du ht)
  have hg:(vals ++ Array.replicate (ntmps - vals.size) undef).getD t undef=vals.getD t undef:=by
   have:t < vals.size:=by omega
   rw [DI,Array.getElem?_append_left this,<- DI]
  simp only [hg]
  exact this
 ·simp only [ht,if_false,List.getElem?_replicate] at hv
  split at hv
  ·simp only [Dv] at hv
   subst hv
   show (vals ++ Array.replicate (ntmps - vals.size) undef).getD t undef=undef
   rw [DI,Array.getElem?_append_right (by omega),Array.getElem?_replicate]
   split <;> rfl
  ·cases hv
theorem wJ {I:Nat->Prop} {G:Laid} (hG:G.P w I) (hlt:∀ b,I b->b < w.heap.size) {b:Nat} {vs:Array Value} {ty:TypeId} (hheap:w.heap[b]? = some (.cells vs ty (0,0))) (hone:∀ u ∈ vs.toList,u.oneCell'=true)
  {cs:List TV} (hvs:vs.size=cs.length) (hrc:∀ (j:Nat) (c:TV),cs[j]? = some c->Rep w I c (vs.getD j undef)) {ntmps:Nat} {args:List TV} {vals:Array Value} (hle:args.length + 1<=ntmps)
  (hsz:vals.size=args.length + 1) (h0:vals.getD args.length undef=.pointer (some ⟨b,0,none⟩)) (hargs:∀ (j:Nat) (x:TV),args[j]? = some x->Rep w I x (vals.getD j undef)) :
  Sim (Bs.of w (fun _=>False) G) I (ji ntmps cs args) { tmps:=vals ++ Array.replicate (ntmps - vals.size) undef,defers:=[] } [] w:=by
 have hlk:∀ i,(ji ntmps cs args).look i=none:=fun i=>by
  simp only [ji,ASt.look,aP,List.getElem?_replicate]
  split <;> rfl
 have hnf:∀ (g:Gh) i b,¬ Foot g (ji ntmps cs args).look i b:=fun g i b h=>by
  rcases h with ⟨cs,h,_⟩ | ⟨xs,r,h,_⟩ <;> rw [hlk] at h <;> cases h
 have hp:bm w ⟨I,fun _ _=>undef,fun _=>0,fun _ _ _=>False,⟨fun k=>if k=b then some (.cells vs ty (0,0)) else none,fun _=>0⟩⟩ (ji ntmps cs args).look (.one (.ref cs 0)) (.pointer (some ⟨b,0,none⟩)):=by
  refine ⟨⟨b,0,none⟩,fun j=>vs.getD j undef,by simp [Addr.add],fun j y hj=>?_⟩
  have hjv:j < vs.size:=by rw [hvs]; exact (Dt.1 hj).1
  have hg:vs[j]? = some (vs.getD j undef):=by rw [Array.getElem?_eq_getElem hjv]; simp [hjv]
  refine ⟨.inr ⟨.cells vs ty (0,0),by rw [eY]; simp,fun w' hw'=>?_⟩,hone _ (by rw [<- Dx] at hg; exact DC hg),hrc j y hj⟩
  have hw2:w'.heap[b]? = some (.cells vs ty (0,0)):=by rw [eY] at hw'; exact hw'
  rw [eY,cell_of_row w' b _ vs ty (0,0) hw2]
  simpa using hg
 refine ⟨⟨I,fun _ _=>undef,fun _=>0,fun _ _ _=>False,⟨fun k=>if k=b then some (.cells vs ty (0,0)) else none,fun _=>0⟩⟩,⟨Bs.Bel.refl _,fun _ h=>h,hlt,fun _ _ h=>h,by simp [ji,hsz]; omega,rfl,fun t v hv=>?_,rfl,(fun t v hv=>by simp [ji] at hv),(fun i cs hb=>by rw [hlk] at hb; cases hb),(fun i xs hb=>by rw [hlk] at hb; cases hb),
  (fun i b h=>(hnf _ i b h).elim),(fun i j b h=>(hnf _ i b h).elim),(fun i xs r r' b h=>by rw [hlk] at h; cases h),(fun b h=>h.elim),⟨fun b hb=>⟨hlt b hb,fun h=>h⟩,hG⟩,⟨fun k ob hk=>?_,rfl⟩⟩⟩
 ·simp only [ji] at hv
  by_cases ht:t < args.length
  ·rw [DD (by simpa using ht),Dz,Du ht] at hv
   simp only [DG,Dv] at hv
   subst hv
   have:=hargs t _ (Du ht)
   have hg:(vals ++ Array.replicate (ntmps - vals.size) undef).getD t undef=vals.getD t undef:=by
    have:t < vals.size:=by omega
    rw [DI,Array.getElem?_append_left this,<- DI]
   simp only [hg]
   exact this
  ·rw [DE (by simpa using ht)] at hv
   simp only [List.length_map] at hv
   by_cases ht2:t=args.length
   ·subst ht2
    rw [Nat.sub_self] at hv
    simp only [List.getElem?_cons_zero,Dv] at hv
    subst hv
    have hg:(vals ++ Array.replicate (ntmps - vals.size) undef).getD args.length undef=vals.getD args.length undef:=by
     have:args.length < vals.size:=by omega
     rw [DI,Array.getElem?_append_left this,<- DI]
    simp only [hg,h0]
    exact hp
   ·rw [show t - args.length=(t - args.length - 1) + 1 by omega,List.getElem?_cons_succ,List.getElem?_replicate] at hv
    split at hv
    ·simp only [Dv] at hv
     subst hv
     show (vals ++ Array.replicate (ntmps - vals.size) undef).getD t undef=undef
     rw [DI,Array.getElem?_append_right (by omega),Array.getElem?_replicate]
     split <;> rfl
    ·cases hv
 ·simp only at hk
  split at hk
  ·rename_i e
   simp only [Dv] at hk
   subst e hk
   exact ⟨hheap,fun h=>h⟩
  ·cases hk
theorem rW (hs:ai w0 I0 R g st a ov w) {i:Nat} {ty:TypeId} {J:List Nat->ASt->TV->Prop}:∀ {cs:List CA} {us:List Value} {k:List TV->Prg TV} {e:TV},CR w g st.look cs us->(lb st.look rs i ty cs k).goes C J e ->
  ∃ ys,(k ys).goes C J e/\ys.length=cs.length/\∀ (m:Nat) (c:CA) (y:TV) (u:Value),cs[m]? = some c->ys[m]? = some y->us[m]? = some u->BH w (I2 g st.look rs) (g.β i) y u (CF g st.look rs c)/\(y.bq=true->vo w (g.β i) ty)
 | [],us,k,e,hcr,h=>⟨[],h,rfl,fun m c y u hc=>by simp at hc⟩
 | c :: l, us, k, e, hcr, h => by
  obtain ⟨u0,us',rfl⟩:∃ u0 us',us=u0 :: us':=by
   cases us with
   | nil=>have:=hcr.1; simp at this
   | cons u0 us'=>exact ⟨u0,us',rfl⟩
  have hc:=hcr.2 0 c u0 rfl rfl
  have hcr':CR w g st.look l us':=⟨by have:=hcr.1; simpa using this,fun j c' u hc' hu'=>hcr.2 (j + 1) c' u (by simpa using hc') (by simpa using hu')⟩
  have fin:∀ (y:TV),(lb st.look rs i ty l fun xs=>k (y :: xs)).goes C J e->BH w (I2 g st.look rs) (g.β i) y u0 (CF g st.look rs c)/\(y.bq=true->vo w (g.β i) ty) ->
    ∃ ys,(k ys).goes C J e/\ys.length=(c :: l).length/\∀ (m:Nat) (c':CA) (y:TV) (u:Value),(c :: l)[m]? = some c'->ys[m]? = some y->(u0 :: us')[m]? = some u->BH w (I2 g st.look rs) (g.β i) y u (CF g st.look rs c')/\(y.bq=true->vo w (g.β i) ty):=by
   intro y h hy
   obtain ⟨ys,h3,h4,h5⟩:=rW hs hcr' h
   refine ⟨y :: ys,h3,by simp [h4],fun m c' y' u hc' hy' hu=>?_⟩
   cases m with
   | zero=>simp at hc' hy' hu; subst hc' hy' hu; exact hy
   | succ m=>simp at hc' hy' hu; exact h5 m c' y' u hc' hy' hu
  have gen:(k8 st.look rs c fun x=>lb st.look rs i ty l fun xs=>k (x :: xs)).goes C J e->∃ ys,(k ys).goes C J e/\ys.length=(c :: l).length/\∀ (m:Nat) (c':CA) (y:TV) (u:Value),(c :: l)[m]? = some c'->ys[m]? = some y->(u0 :: us')[m]? = some u->BH w (I2 g st.look rs) (g.β i) y u (CF g st.look rs c')/\(y.bq=true->vo w (g.β i) ty):=by
   intro h
   obtain ⟨y,h1,h2⟩:=ln hs hc.1 h
   cases hm:y.bq with
   | false=>exact fin y h1 ⟨.inr ⟨hm,h2⟩,fun h=>by rw [hm] at h; cases h⟩
   | true =>
    have:y=.tup []:=by
     unfold TV.bq at hm
     split at hm
     ·rfl
     ·cases hm
    subst this
    obtain ⟨vs,_,rfl,_⟩:=h2.tups
    have:=hc.2
    simp [Value.oneCell'] at this
  cases c with
  | may j t =>
   simp only [lb] at h
   cases hb:j.beq i && t.beq ty with
   | false=>rw [hb] at h; exact h.elim
   | true =>
    rw [hb] at h
    simp only [Dw,ar] at hb
    obtain ⟨rfl,rfl⟩:=hb
    obtain ⟨cs,h1,h2,h3⟩:=hc.1
    exact fin mq h ⟨.inl ⟨rfl,h3⟩,fun _=>h2⟩
  | t x=>exact gen h
  | ptr i off=>exact gen h
  | ref x off=>exact gen h
  | tptr i r p k j=>exact gen h
  | sref i r p=>exact gen h
  | swin i r p lo len=>exact gen h
  | aptr i off len n=>exact gen h
  | ifp ty i=>exact gen h
  | fn1 q i=>exact gen h
  | psl i n=>exact gen h
  | yl n=>exact gen h
  | undef=>exact gen h
  | junk=>exact gen h
def AnsL (w0:Bs) (I0:Nat->Prop) (ld:dm) (b:Nat) (x:TV) (v:Value) (w':World):Prop :=
 ∃ r0 cs',x=.tup [r0,.tup cs']/\∃ I' L' S:Nat->Prop,(∀ b,I0 b->I' b)/\(∀ b,I' b->b < w'.heap.size)/\(∀ b,¬ w0.New b->I' b->I0 b)/\(∀ b,L' b->w0.New b/\b < w'.heap.size/\¬ I' b)/\ak w' I' r0 v S/\yR w' I' ld b cs' L'
theorem xy (hT:∀ t d,E.T t=some d->aM P t d) {b:Nat} (hs:ai w0 I0 NoR g st a [.pointer (some ⟨b,0,none⟩)] w) {fn:Func} {ld:dm} {J:List Nat->ASt->TV->Prop} {x:TV} (h:(AO E.T ld fn.results.toList st).goes C J x) :
  ∃ v,(results fn a.tmps).run P w=.ok v w/\AnsL w0 I0 ld b x v w:=by
 have hm:∀ (vs:List Value),(fn.results.toList.mapM (kg a.tmps)).run P w=.ok vs w ->
   (results fn a.tmps).run P w=.ok (if h:vs.toArray.size=1 then vs.toArray[0] else .tuple vs.toArray) w:=by
  intro vs hv
  rw [lr,Array.mapM_eq_mapM_toList,<- bind_pure_comp]
  simp only [Sem.run_bind,hv,Result.andThen_ok,Sem.run_pure]
 unfold AO at h
 split at h
 ·rename_i avs i hav hout
  split at h
  ·rename_i cs hl
   obtain ⟨us,hrun,hreps⟩:=gc (P:=P) hT hs _ _ hav
   obtain ⟨rs',hrs'⟩:∃ rs',rs'=cf avs ++ cX cs:=⟨_,rfl⟩
   rw [<- hrs'] at h
   obtain ⟨ys,hk,hlen,hrep⟩:=lJ hs hreps (fun i r=>by rw [hrs',aY]; omega) h
   obtain ⟨vs,ty,c1,c2⟩:=hs.cells i cs hl
   obtain ⟨zs,hk2,hzl,hzs⟩:=rW hs c2 hk
   have hk2:TV.tup [ow ys,.tup zs]=x:=hk2
   subst hk2
   have hul:=hreps.len
   have hβ:g.β i=b:=by
    have h0:=hs.outs 0 (.one (.ptr i 0)) (by rw [hout]; rfl)
    obtain ⟨_,_,hv⟩:=h0
    simp at hv
    exact hv.symm
   have hfi:Foot g st.look i (g.β i):=.inl ⟨cs,hl,rfl⟩
   have hroot:∀ c b',CF g st.look rs' c b'->w0.New b'/\b' < w.heap.size/\¬ I2 g st.look rs' b'/\b'≠g.β i:=by
    rintro c b' ⟨i',r',_,hp,hb'⟩
    obtain ⟨f1,f2,f3,_⟩:=hs.foot i' b' hb'.foot
    refine ⟨f1,f2,?_,fun e=>?_⟩
    ·rintro (h' | ⟨i'',r'',hp',h'⟩)
     ·exact f3 h'
     ·obtain ⟨e1,e2⟩:=hs.tT hb' h'
      subst e1 e2
      rw [hp] at hp'
      cases hp'
    ·subst e
     have:=hs.apart _ _ _ hb'.foot hfi
     subst this
     obtain ⟨xs,h1,_⟩:=hb'
     rw [hl] at h1
     cases h1
   have hvl:vs.size=cs.length:=by simpa using c2.1
   have hV:yR w (I2 g st.look rs') ld b zs (fun b'=>b'=b\/∃ c,c ∈ cs/\CF g st.look rs' c b'):=by
    refine ⟨.inl rfl,vs,ty,fun m b'=>∃ c,cs[m]? = some c/\CF g st.look rs' c b',by rw [<- hβ]; exact c1,by rw [hzl,hvl],fun m y hy=>?_,fun m b' ⟨c,h1,h2⟩=>⟨.inr ⟨c,DC h1,h2⟩,by rw [<- hβ]; exact (hroot c b' h2).2.2.2⟩,fun m m' b' ⟨c,h1,h2⟩ ⟨c',h1',h2'⟩=>?_⟩
    ·have hml:m < cs.length:=by rw [<- hzl]; exact (Dt.1 hy).1
     have hc:cs[m]? = some (cs[m]'hml):=Du hml
     have hu:vs.toList[m]? = some (vs.getD m undef):=by
      rw [Dx,Array.getElem?_eq_getElem (by omega)]; simp [hvl,hml]
     obtain ⟨z1,z2⟩:=hzs m _ y _ hc hy hu
     rw [<- hβ]
     refine ⟨?_,(c2.2 m _ _ hc hu).2,fun hmay=>?_⟩
     ·rcases z1 with z1 | ⟨z1,z3⟩
      ·exact .inl z1
      ·exact .inr ⟨z1,z3.mono (fun b' hb'=>⟨_,hc,hb'⟩)⟩
     ·obtain ⟨us,fr,ht⟩:=z2 hmay
      rw [c1] at ht
      cases ht
      rfl
    ·obtain ⟨i1,r1,e1,p1,q1⟩:=h2
     obtain ⟨i2,r2,e2,p2,q2⟩:=h2'
     obtain ⟨e3,e4⟩:=hs.tT q1 q2
     subst e3 e4
     by_cases hmm:m=m'
     ·exact hmm
     ·have h5:=nn e1 e2 h1 h1' hmm
      simp only [kY,Nat.ble_eq,hrs',aY] at p1
      omega
   have base:∀ (S:Nat->Prop) (v:Value),ak w (I2 g st.look rs') (ow ys) v S->AnsL w0 I0 ld b (.tup [ow ys,.tup zs]) v w:=by
    intro S v hr
    refine ⟨_,_,rfl,I2 g st.look rs',_,S,fun b hb=>.inl (hs.sub b hb),fun b hb=>?_,fun b hb hI=>?_,fun b' hb'=>?_,hr,hV⟩
    ·rcases hb with hb | ⟨i,r,_,hb⟩
     ·exact hs.lt b hb
     ·exact (hs.foot i b hb.foot).2.1
    ·rcases hI with h' | ⟨i,r,_,h'⟩
     ·exact hs.old b hb h'
     ·exact absurd (hs.foot i b h'.foot).1 hb
    ·rcases hb' with rfl | ⟨c,_,hc⟩
     ·rw [<- hβ]
      obtain ⟨f1,f2,f3,_⟩:=hs.foot i _ hfi
      refine ⟨f1,f2,?_⟩
      rintro (h' | ⟨i',r',_,h'⟩)
      ·exact f3 h'
      ·have:=hs.apart _ _ _ h'.foot hfi
       subst this
       obtain ⟨xs,h1,_⟩:=h'
       rw [hl] at h1
       cases h1
     ·exact ⟨(hroot c b' hc).1,(hroot c b' hc).2.1,(hroot c b' hc).2.2.1⟩
   have single:∀ x0,ys=[x0]->∃ v,(results fn a.tmps).run P w=.ok v w/\AnsL w0 I0 ld b (.tup [ow ys,.tup zs]) v w:=by
    intro x0 hy
    have hl1:us.length=1:=by rw [hul,<- hlen,hy]; rfl
    match us,hl1,hrun,hrep with
    | [u], _, hrun, hrep =>
     have hal:avs.length=1:=by rw [<- hlen,hy]; rfl
     match avs,hal,hrep,base with
     | [v],_,hrep,base =>
      refine ⟨u,by simpa using hm [u] hrun,base _ u (?_:ak w (I2 g st.look rs') (ow ys) u (VF g st.look rs' v))⟩
      subst hy
      exact hrep 0 v x0 u rfl rfl rfl
   by_cases hn:ys.length=1
   ·match ys,hn,single with
    | [x0],_,single=>exact single x0 rfl
   ·have h1:¬ us.toArray.size=1:=by simp; omega
    have hone:ow ys=.tup ys:=by
     match ys,hn with
     | [],_=>rfl
     | [_],h=>exact absurd rfl h
     | _ :: _ :: _,_=>rfl
    refine ⟨.tuple us.toArray,by rw [hm us hrun,dif_neg h1],base (fun b=>∃ (m:Nat) (v:AV),avs[m]? = some v/\VF g st.look rs' v b) _ ?_⟩
    rw [hone]
    refine .tup (fun m b=>∃ v,avs[m]? = some v/\VF g st.look rs' v b) (by simp; omega) (fun j y hy=>?_) (fun m b ⟨v,h1,h2⟩=>⟨m,v,h1,h2⟩) (fun m m' b hb hb'=>?_)
    ·have hj:j < us.length:=by have:=(Dt.1 hy).1; omega
     have hju:us[j]? = some us[j]:=Du hj
     have hja:avs[j]? = some (avs[j]'(by omega)):=Du _
     have:us.toArray.getD j undef=us[j]:=by simp [hj]
     rw [this]
     exact (hrep j _ y _ hja hy hju).mono (fun b hb=>⟨_,hja,hb⟩)
    ·obtain ⟨v,c1,q,c,c2,i,r,c3,c4,c5⟩:=hb
     obtain ⟨v',d1,q',c',d2,i',r',d3,d4,d5⟩:=hb'
     obtain ⟨e1,e2⟩:=hs.tT c5 d5
     subst e1 e2
     by_cases hmm:m=m'
     ·exact hmm
     ·have:=lE c3 d3 c1 d1 c2 d2 hmm
      simp only [kY,Nat.ble_eq,hrs',aY] at c4
      omega
  ·exact h.elim
 ·exact h.elim
theorem wF {I:Nat->Prop} {G:Laid} (hG:G.P w I) {ld:dm} {b:Nat} {cs:List TV} {L:Nat->Prop} (hlt:∀ b,I b->b < w.heap.size) (hL:∀ b,L b->b < w.heap.size/\¬ I b) (hV:yR w I ld b cs L) (hfit:mM ld.fl cs=true) {ntmps:Nat} {args:List TV} {vals:Array Value} (hle:args.length + 1<=ntmps)
  (hsz:vals.size=args.length + 1) (h0:vals.getD 0 undef=.pointer (some ⟨b,0,none⟩)) (hargs:∀ (j:Nat) (x:TV),args[j]? = some x->Rep w I x (vals.getD (j + 1) undef)) :
  Sim (Bs.of w L G) I (eA ld ntmps cs args) { tmps:=vals ++ Array.replicate (ntmps - vals.size) undef,defers:=[] } [.pointer (some ⟨b,0,none⟩)] w:=by
 obtain ⟨hb,vs,ty,F,v1,v2,v3,v4,v5⟩:=hV
 obtain ⟨ffl,ffs⟩:=i8 hfit
 have hlk0:(eA ld ntmps cs args).look 0=some (.cells (eM 0 1 ld.ty ld.fl cs 0)):=rfl
 have hlk1:(eA ld ntmps cs args).look 1=some (.tree (cj ld.fl cs)):=rfl
 have hlk:∀ i x,(eA ld ntmps cs args).look i=some x->i=0\/i=1:=fun i x h=>by
  match i with
  | 0=>exact .inl rfl
  | 1=>exact .inr rfl
  | i + 2 =>
   simp only [eA,ASt.look,aP,List.getElem?_cons_succ,List.getElem?_replicate] at h
   split at h <;> simp at h
 have hrl:(cj ld.fl cs).length=cs.length:=ra _ _ ffl
 have hft:∀ i x,Foot ⟨I,fun _ r=>vs.getD r undef,fun _=>b,fun _ r=>F r,⟨fun _=>none,fun _=>0⟩⟩ (eA ld ntmps cs args).look i x->(i=0/\x=b)\/(i=1/\∃ r,F r x):=fun i x h=>by
  rcases h with ⟨c,h1,h2⟩ | ⟨xs,r,h1,h2,h3⟩
  ·rcases hlk i _ h1 with rfl | rfl
   ·exact .inl ⟨rfl,h2⟩
   ·rw [hlk1] at h1; cases h1
  ·rcases hlk i _ h1 with rfl | rfl
   ·rw [hlk0] at h1; cases h1
   ·exact .inr ⟨rfl,r,h3⟩
 have hLb:∀ i x,Foot ⟨I,fun _ r=>vs.getD r undef,fun _=>b,fun _ r=>F r,⟨fun _=>none,fun _=>0⟩⟩ (eA ld ntmps cs args).look i x->L x:=fun i x h=>by
  rcases hft i x h with ⟨_,rfl⟩ | ⟨_,r,h⟩
  ·exact hb
  ·exact (v4 r x h).1
 have hp:bm w ⟨I,fun _ r=>vs.getD r undef,fun _=>b,fun _ r=>F r,⟨fun _=>none,fun _=>0⟩⟩ (eA ld ntmps cs args).look (.one (.ptr 0 0)) (.pointer (some ⟨b,0,none⟩)):=⟨_,hlk0,rfl⟩
 refine ⟨⟨I,fun _ r=>vs.getD r undef,fun _=>b,fun _ r=>F r,⟨fun _=>none,fun _=>0⟩⟩,⟨Bs.Bel.refl _,fun _ h=>h,hlt,fun _ _ h=>h,by simp [eA,hsz]; omega,rfl,fun t v hv=>?_,rfl,fun t v hv=>?_,fun i c h=>?_,fun i xs h r x hx=>?_,
  fun i x h=>?_,fun i j x h1 h2=>?_,fun i xs r r' x h h1 h2 h3 h4=>v5 r r' x h3 h4,fun b h=>h.elim,⟨fun b hb'=>⟨hlt b hb',fun h=>(hL b h).2 hb'⟩,hG⟩,⟨(fun b ob h=>by cases h),rfl⟩⟩⟩
 ·match t with
  | 0 =>
   simp [eA] at hv
   subst hv
   have hg:(vals ++ Array.replicate (ntmps - vals.size) undef).getD 0 undef=vals.getD 0 undef:=by
    have:0 < vals.size:=by omega
    rw [DI,Array.getElem?_append_left this,<- DI]
   simp only [hg,h0]
   exact hp
  | t + 1 =>
   simp only [eA,List.getElem?_cons_succ,List.getElem?_append,List.length_map,Dz] at hv
   by_cases ht:t < args.length
   ·simp only [ht,if_true] at hv
    rw [Du ht] at hv
    simp only [DG,Dv] at hv
    subst hv
    have:=hargs t _ (Du ht)
    have hg:(vals ++ Array.replicate (ntmps - vals.size) undef).getD (t + 1) undef=vals.getD (t + 1) undef:=by
     have:t + 1 < vals.size:=by omega
     rw [DI,Array.getElem?_append_left this,<- DI]
    simp only [hg]
    exact this
   ·simp only [ht,if_false,List.getElem?_replicate] at hv
    split at hv
    ·simp only [Dv] at hv
     subst hv
     show (vals ++ Array.replicate (ntmps - vals.size) undef).getD (t + 1) undef=undef
     rw [DI,Array.getElem?_append_right (by omega),Array.getElem?_replicate]
     split <;> rfl
    ·cases hv
 ·match t with
  | 0=>simp [eA] at hv; subst hv; exact hp
  | t + 1=>simp [eA] at hv
 ·rcases hlk i _ h with rfl | rfl
  ·rw [hlk0] at h
   cases h
   refine ⟨vs,ty,v1,pK (by simp [v2]) ffl ffs (fun k f' c hk hc hf=>?_)⟩
   have hvk:vs.toList[k]? = some (vs.getD k undef):=by
    have:k < vs.size:=by rw [v2]; exact (Dt.1 hc).1
    rw [Dx,Array.getElem?_eq_getElem this]; simp [this]
   obtain ⟨g1,g2',g3'⟩:=v3 k c hc
   refine ⟨_,hvk,g2',?_⟩
   cases f' with
   | sc =>
    rcases g1 with ⟨h8,_⟩ | ⟨_,h8⟩
    ·cases c <;> simp [mT,TV.isSc,TV.bq] at hf h8
    ·obtain ⟨e1,e2⟩:=dA h8 hf
     exact ⟨by rw [e1]; exact .lit _,g2'⟩
   | any =>
    rcases g1 with ⟨h8,_⟩ | ⟨_,h8⟩
    ·cases c <;> simp [mT,TV.ik,TV.bq] at hf h8
    ·exact ⟨e8 h8 hf,g2'⟩
   | sl =>
    rcases g1 with ⟨h8,_⟩ | ⟨_,h8⟩
    ·cases c <;> simp [mT,TV.isSl,TV.bq] at hf h8
    ·exact ⟨cj ld.fl cs,c,c.nd,hlk1,iC _ _ k c .sl rfl hk hc,⟨rfl,rfl⟩,d7 h8 hf⟩
   | bf e' =>
    rcases g1 with ⟨h8,_⟩ | ⟨_,h8⟩
    ·rw [jp (f:=.bf e') rfl hf] at h8; cases h8
    ·exact ⟨cj ld.fl cs,c,c.nd,hlk1,iC _ _ k c (.bf e') rfl hk hc,⟨rfl,rfl⟩,qj h8 hf⟩
   | may =>
    rcases g1 with ⟨_,h8⟩ | ⟨h8,_⟩
    ·exact ⟨_,hlk0,⟨vs,(0,0),by rw [<- g3' hf]; exact v1⟩,h8⟩
    ·rw [hf] at h8; cases h8
  ·rw [hlk1] at h; cases h
 ·rcases hlk i _ h with rfl | rfl
  ·rw [hlk0] at h; cases h
  ·rw [hlk1] at h
   cases h
   rcases lm _ _ ffl r x hx with rfl | ⟨f6,h6,h6',h7⟩
   ·exact .fr (.hole _)
   ·rcases (v3 r x h7).1 with ⟨h8,_⟩ | ⟨_,h8⟩
    ·rw [jp h6' (ffs r f6 x h6 h7)] at h8
     cases h8
    ·exact h8
 ·have:=hLb i x h
  exact ⟨.inr this,(hL x this).1,(hL x this).2,fun h=>h.elim⟩
 ·rcases hft i x h1 with ⟨rfl,e1⟩ | ⟨rfl,r,e1⟩ <;> rcases hft j x h2 with ⟨rfl,e2⟩ | ⟨rfl,r',e2⟩
  ·rfl
  ·exact absurd e1 (v4 r' x e2).2
  ·exact absurd e2 (v4 r x e1).2
  ·rfl
end
section
variable {E:Env} {C:Cal} {st:ASt} {T:Type} {J:List Nat->ASt->T->Prop} {r:T} {look:Look}
theorem yh {c:CA} {k:TV->Prg T} (h:(gD look c k).goes C J r):∃ x,(k x).goes C J r:=by
 unfold gD at h
 split at h
 ·exact ⟨_,h⟩
 ·split at h
  ·obtain ⟨y,_,h⟩:=kA h; exact ⟨y,h⟩
  ·exact h.elim
 ·split at h
  ·obtain ⟨y,_,z,_,h⟩:=kA h; exact ⟨z,h⟩
  ·exact h.elim
 ·exact h.elim
theorem sC {k:ASt->Prg T}:∀ {l:List Nat} {st:ASt},(nL l st k).goes C J r->∃ st',(k st').goes C J r
 | [],st,h=>⟨st,h⟩
 | s :: l, st, h => by
  have:∃ st',(nL l st' k).goes C J r:=by
   unfold nL yf at h
   split at h
   ·split at h
    ·exact ⟨_,h⟩
    ·exact ⟨_,h⟩
   ·exact ⟨_,h⟩
   ·split at h
    ·obtain ⟨y,_,h⟩:=h
     simp only [] at h
     split at h
     ·exact ⟨_,h⟩
     ·exact h.elim
    ·exact h.elim
   ·split at h
    ·obtain ⟨_,h⟩:=h
     split at h
     ·exact ⟨_,h⟩
     ·exact h.elim
    ·exact h.elim
  obtain ⟨st',h'⟩:=this
  exact sC h'
theorem uT {i c:Nat} {k:ASt->Prg T} (h:(sQ st i c k).goes C J r):∃ st',(k st').goes C J r:=by
 unfold sQ at h
 split at h
 ·split at h
  ·split at h
   ·split at h
    ·exact ⟨_,h⟩
    ·exact ⟨_,h⟩
   ·exact ⟨_,h⟩
  ·exact ⟨_,h⟩
 ·exact ⟨_,h⟩
theorem sE {k : ASt → Prg T} : ∀ {l : List (Nat × Nat)} {st : ASt}, (ke l st k).goes C J r → ∃ st', (k st').goes C J r
 | [],st,h=>⟨st,h⟩
 | (s, c) :: l, st, h => by
  have : ∃ st', (ke l st' k).goes C J r := by
   unfold ke xW at h
   split at h
   ·split at h
    ·split at h
     ·exact uT (k:=fun st=>ke l st k) h
     ·exact ⟨_,h⟩
     ·split at h
      ·obtain ⟨_,_,h⟩:=h
       simp only [] at h
       split at h
       ·split at h
        ·exact uT (k:=fun st=>ke l st k) h
        ·exact h.elim
       ·exact h.elim
      ·exact h.elim
     ·obtain ⟨_,h⟩:=h
      split at h
      ·exact ⟨_,h⟩
      ·exact h.elim
     ·exact h.elim
    ·exact h.elim
   ·exact h.elim
  obtain ⟨st',h'⟩:=this
  exact sE h'
theorem pG {an:Ann} {k:ASt->Prg T} (h:(sT an st k).goes C J r):∃ st',(k st').goes C J r:=by
 unfold sT at h
 obtain ⟨st1,h1⟩:=sC h
 obtain ⟨st2,h2⟩:=sE h1
 unfold xj at h2
 cases hc:fO (fL (fG an.keep (fK (jh an.frz st2) an.kill))) && (fL (fG an.keep (fK (jh an.frz st2) an.kill))).length.ble cD && cD.ble (fG an.keep (fK (jh an.frz st2) an.kill)).boxes.length with
 | false=>rw [hc] at h2; exact h2.elim
 | true=>rw [hc] at h2; exact ⟨_,h2⟩
theorem tP {ops:List Oper} {draw:Bool} {K:ASt->Prg T} (h:(jd E ops draw K st).goes C J r):∃ st',(K st').goes C J r:=by
 unfold jd at h
 cases draw with
 | false =>
  simp only [cond_false] at h
  obtain ⟨fin,h1,h⟩:=iF h
  exact ⟨fin,h⟩
 | true =>
  simp only [cond_true] at h
  cases hok:ba ops with
  | false=>rw [hok] at h; exact h.elim
  | true =>
   simp only [hok,cond_true] at h
   obtain ⟨fin,h1,h⟩:=iF h
   exact ⟨fin,h⟩
theorem zO {agg:Bool} {n:Nat} {x:AV} {k:List CA->Prg T} (h:(x.aO agg n k).goes C J r):∃ cs,(k cs).goes C J r:=by
 unfold AV.aO at h
 split at h
 ·rename_i c
  cases hc:c.kept with
  | true=>rw [hc] at h; exact ⟨_,h⟩
  | false=>rw [hc] at h; exact h.elim
 ·exact ⟨_,h.2⟩
 ·exact ⟨_,h⟩
 ·exact ⟨_,h⟩
 ·rename_i cs
  cases hc:cs.length.beq n with
  | true=>rw [hc] at h; exact ⟨_,h⟩
  | false=>rw [hc] at h; exact h.elim
 ·exact ⟨_,h.2⟩
 ·exact h.elim
theorem tE:∀ {ds:List TyD} {vs:List AV} {k:List (Bool × List CA)->Prg T},(rC ds vs k).goes C J r->∃ l,(k l).goes C J r
 | [],[],k,h=>⟨_,h⟩
 | d :: ds,v :: vs,k,h=>by
  obtain ⟨cs,h⟩:=zO h
  obtain ⟨l,h⟩:=tE h
  exact ⟨_,h⟩
 | [],v :: vs,k,h=>h.elim
 | d :: ds,[],k,h=>h.elim
theorem kO {m:Nat} {k:ASt->Prg T} (h:(eD m st k).goes C J r):∃ st2,(k st2).goes C J r:=by
 unfold eD at h
 simp only [cR,rD] at h
 cases hc:fO (fL st) && (fL st).length.ble cD && cD.ble st.boxes.length with
 | false=>rw [hc] at h; exact h.elim
 | true=>rw [hc] at h; exact ⟨_,h⟩
theorem xV {f:FuncId} {fn:Func} {nt:Nat} {d:Option Tmp} {K:ASt->Prg T} {e:AEx} (h:(sV E f fn nt d K e st).goes C J r):∃ st2,(K st2).goes C J r:=by
 have key:(match g9 E.T st fn.results.toList,lh E.T (E.rts f) with
  | some vs, some ds => bif nt.ble st.out.length then uF ds vs fun v =>
    eD fn.ntmps (ASt.put ⟨st.out.drop (st.out.length - nt),st.boxes,st.out.take (st.out.length - nt)⟩ d v) K else .fail
  | _,_=>.fail).goes C J r->∃ st2,(K st2).goes C J r:=by
  intro h
  split at h
  ·cases hle:nt.ble st.out.length with
   | false=>rw [hle] at h; exact h.elim
   | true =>
    rw [hle] at h
    simp only [cond_true] at h
    unfold uF at h
    split at h
    ·exact kO h
    ·obtain ⟨l,h⟩:=tE h
     exact kO h
  ·exact h.elim
 cases e with
 | normal=>exact key h
 | ret=>exact key h
 | exit i=>exact h.elim
abbrev BX (E:Env) (L:Opn) (C:Cal) (J:List Nat->ASt->T->Prop) (r:T) (p:Prop) (n:Nat):Prop :=
 ∀ (nt:Nat) (fi:FuncId) (ys:List Rng) (id:Nat) (rp:List Nat) (ops:List Oper) (draw:Bool) (K:ASt->Prg T) (st:ASt),(∀ st',(K st').goes C J r->p)->(cG E L n nt fi ys id rp ops draw K st).goes C J r->p
abbrev BO (E:Env) (L:Opn) (C:Cal) (J:List Nat->ASt->T->Prop) (r:T) (p:Prop) (n:Nat):Prop :=
 ∀ (nt:Nat) (fi:FuncId) (ys:List Rng) (rp:List Nat) (g:Operand) (ps:Array Tmp) (assign c:Code) (K:ASt->Prg T) (st:ASt),(∀ st',(K st').goes C J r->p)->(cH E L n nt fi ys rp g ps assign c K st).goes C J r->p
theorem db {L:Opn} {n nt:Nat} {fi:FuncId} {ys:List Rng} {ann jn:Nat->Option Ann} {p:Prop} (hR:BX E L C J r p n) (hG:BO E L C J r p n) (hJ:∀ rp st,J rp st r->p):∀ (c:Code) (rp:List Nat) (K:AEx->ASt->Prg T) (st:ASt),(∀ e st',(K e st').goes C J r->p)->(cz E (cG E L n nt fi ys) (cH E L n nt fi ys) ann jn rp c K st).goes C J r->p
 | .skip,rp,K,st,hK,h=>hK _ _ h
 | .region id ops draw,rp,K,st,hK,h=>hR nt fi ys id rp ops.toList draw (K .normal) st (fun st' h=>hK _ _ h) h
 | .seq x y, rp, K, st, hK, h => by
  refine db hR hG hJ x (0 :: rp) _ st (fun e st' hk=>?_) h
  cases e with
  | normal =>
   simp only [oL] at hk
   cases han:fR jn y with
   | none=>rw [han] at hk; exact db hR hG hJ y (1 :: rp) K st' hK hk
   | some an=>rw [han] at hk; obtain ⟨st2,h2⟩:=pG hk; exact hJ _ _ h2
  | ret=>exact hK _ _ hk
  | exit id=>exact hK _ _ hk
 | .cond c x y, rp, K, st, hK, h => by
  simp only [cz] at h
  split at h
  ·rename_i v hv
   cases v with
   | true=>exact db hR hG hJ x (0 :: rp) K st hK h
   | false=>exact db hR hG hJ y (1 :: rp) K st hK h
  ·split at h
   ·obtain ⟨b,_,h⟩:=h
    rcases h with ⟨_,h⟩ | ⟨_,h⟩
    ·exact db hR hG hJ x (0 :: rp) K st hK h
    ·exact db hR hG hJ y (1 :: rp) K st hK h
   ·exact h.elim
 | .block id c, rp, K, st, hK, h => by
  refine db hR hG hJ c (0 :: rp) _ st (fun e st' hk=>?_) h
  cases e with
  | normal=>exact hK _ _ hk
  | ret=>exact hK _ _ hk
  | exit i =>
   simp only [ki] at hk
   cases hb:i.beq id <;> rw [hb] at hk <;> exact hK _ _ hk
 | .loop c,rp,K,st,hK,h=>by
  simp only [cz,sU] at h
  cases han:fR ann c with
  | none=>rw [han] at h; exact h.elim
  | some an=>rw [han] at h; obtain ⟨st2,h2⟩:=pG h; exact hJ _ _ h2
 | .exit id,rp,K,st,hK,h=>hK _ _ h
 | .ret,rp,K,st,hK,h=>hK _ _ h
 | .rangeFunc g ps assign c,rp,K,st,hK,h=>hG nt fi ys rp g ps assign c (K .normal) st (fun st' h=>hK _ _ h) h
 | .scope _,rp,K,st,hK,h=>h.elim
 | .label _,rp,K,st,hK,h=>h.elim
 | .goto _,rp,K,st,hK,h=>h.elim
 | .refuse _,rp,K,st,hK,h=>h.elim
theorem qh {y:Rng} {nt:Nat} {d:Option Tmp} {p:Prop} {K:ASt->Prg T} (hK:∀ st',(K st').goes C J r->p) {e:AEx} {st:ASt} (h:(dM y nt d K e st).goes C J r):p:=by
 cases e with
 | ret=>exact h.elim
 | exit i=>exact h.elim
 | normal =>
  simp only [dM] at h
  cases hle:nt.ble st.out.length with
  | false=>rw [hle] at h; exact h.elim
  | true =>
   rw [hle] at h
   obtain ⟨st2,h2⟩:=kO h
   exact hK _ h2
theorem xZ {fn:Func} {n nt:Nat} {p:Prop} {K:ASt->Prg T} (hK:∀ st',(K st').goes C J r->p) {e:AEx} {st:ASt} (h:(vq fn n nt K e st).goes C J r):p:=by
 have key:(bif fn.results.size.beq 0 && nt.ble st.out.length then eD fn.ntmps ((st.am (CA.unY n)).cut nt) K else .fail).goes C J r->p:=fun h=>by
  cases hle:fn.results.size.beq 0 && nt.ble st.out.length with
  | false=>rw [hle] at h; exact h.elim
  | true =>
   rw [hle] at h
   obtain ⟨st2,h2⟩:=kO h
   exact hK _ h2
 cases e with
 | ret=>exact key h
 | exit i=>exact h.elim
 | normal=>exact key h
theorem vG {p:Prop} {k:ASt->Prg T} (hk:∀ st',(k st').goes C J r->p) {e:AEx} {st:ASt} (h:(nH k e st).goes C J r):p:=by
 cases e with
 | ret=>exact h.elim
 | exit i=>exact h.elim
 | normal=>exact hk _ h
theorem yx {draw:Bool} {all:List Oper} {j:Nat} {k:ASt->Prg T} {st:ASt} (h:(k9 E draw all j k st).goes C J r):∃ st2,(k st2).goes C J r:=by
 unfold k9 at h
 cases hb:cW draw all j with
 | true=>rw [hb] at h; exact ⟨_,h⟩
 | false =>
  rw [hb] at h
  simp only [cond_false] at h
  split at h
  ·split at h
   ·split at h
    ·unfold Ae at h
     simp only [rD,cR] at h
     obtain ⟨_,h⟩:=uX h
     obtain ⟨st3,_,h2⟩:=ip h
     obtain ⟨_,h3⟩:=h2
     exact ⟨_,h3⟩
    ·exact h.elim
   ·exact h.elim
  ·exact h.elim
theorem lv {L:Opn} {n:Nat} {p:Prop} (hR:BX E L C J r p n) (hG:BO E L C J r p n) (hJ:∀ rp st,J rp st r->p) {nt:Nat} {fi:FuncId} {ys:List Rng} {id:Nat} {rp:List Nat} {draw:Bool} {all:List Oper} {K:ASt->Prg T} (hK:∀ st',(K st').goes C J r->p) :
  ∀ (l:List Oper) (j:Nat) (ex:List (List Nat)) (st:ASt),(dE E L (cG E L n) (cH E L n) nt fi ys id rp draw all K j l ex st).goes C J r->p
 | [],j,ex,st,h=>hK _ h
 | o :: rest, j, ex, st, h => by
  have plain:(opQ E all (iW draw ex all j o) (fU (dE E L (cG E L n) (cH E L n) nt fi ys id rp draw all K (j + 1) rest ex)) st).goes C J r->p:=fun h=>by
   simp only [iS] at h
   obtain ⟨st1,h1,h2⟩:=ip h
   exact lv hR hG hJ hK rest (j + 1) ex st1 h2
  simp only [dE] at h
  split at h
  ·rename_i y f fn rv cap hof
   cases hdn:fI all o st with
   | false=>rw [hdn] at h; exact plain h
   | true =>
   rw [hdn] at h
   simp only [cond_true] at h
   cases hb:cW draw all j || (fZ all j).isSome with
   | false=>rw [hb] at h; exact h.elim
   | true =>
    rw [hb] at h
    simp only [cond_true] at h
    unfold rH at h
    split at h
    ·rename_i x xs hops
     cases hle:(rv.length + xs.length).beq fn.params.size && (rv.length + xs.length + cap.length).ble fn.ntmps && (st.slots.length.beq nt && j.blt 1000) with
     | false=>rw [hle] at h; exact h.elim
     | true =>
      rw [hle] at h
      simp only [cond_true,cR] at h
      refine db hR hG hJ _ _ _ _ (fun e st' hk=>?_) h
      obtain ⟨st2,h2⟩:=xV hk
      obtain ⟨st3,h3⟩:=yx h2
      exact lv hR hG hJ hK rest (j + 1) _ st3 h3
    ·exact h.elim
  ·split at h
   ·rename_i m y hof
    cases hdn:fI all o st with
    | false=>rw [hdn] at h; exact plain h
    | true =>
    rw [hdn] at h
    simp only [cond_true] at h
    cases hb:!draw || (mb all j && mb all (j + 1)) with
    | false=>rw [hb] at h; exact h.elim
    | true =>
     rw [hb] at h
     simp only [cond_true] at h
     unfold q0 at h
     split at h
     ·rename_i x xs hops
      cases hle:xs.length.beq y.ps.size && (st.slots.length.beq nt && (j.blt 1000 && (!y.busy && (y.off + y.nt).ble st.out.length))) with
      | false=>rw [hle] at h; exact h.elim
      | true =>
       rw [hle] at h
       simp only [cond_true,cR] at h
       refine db hR hG hJ _ _ _ _ (fun e st' hk=>vG (fun st' hk=>?_) hk) h
       refine db hR hG hJ _ _ _ _ (fun e st' hk=>qh (fun st2 h2=>?_) hk) hk
       exact lv hR hG hJ hK rest (j + 1) _ st2 h2
     ·exact h.elim
   ·exact plain h
theorem fM {L:Opn} {p:Prop} (hJ:∀ rp st,J rp st r->p):∀ n,BX E L C J r p n/\BO E L C J r p n:=by
 intro n
 induction n with
 | zero =>
  refine ⟨?_,?_⟩
  ·intro nt fi ys id rp ops draw K st hK h
   simp only [cG] at h
   obtain ⟨st',h'⟩:=tP h
   exact hK _ h'
  ·intro nt fi ys rp g ps assign c K st hK h
   simp only [cH] at h
   exact h.elim
 | succ n ih =>
  refine ⟨?_,?_⟩
  ·intro nt fi ys id rp ops draw K st hK h
   simp only [cG] at h
   cases ha:pB L ops with
   | false=>rw [ha] at h; obtain ⟨st',h'⟩:=tP h; exact hK _ h'
   | true =>
    rw [ha] at h
    simp only [cond_true] at h
    cases hd:!draw || ba ops with
    | false=>rw [hd] at h; exact h.elim
    | true=>rw [hd] at h; exact lv ih.1 ih.2 hJ hK ops 0 _ st h
  ·intro nt fi ys rp g ps assign c K st hK h
   simp only [cH,sq] at h
   split at h
   ·split at h
    ·rename_i fn hfn
     rename_i cs _ _
     cases hle:Nat.beq fn.params.size 1 && ((cs.length + 1).ble fn.ntmps && (st.am (CA.unY ys.length)).slots.length.beq nt) with
     | false=>rw [hle] at h; exact h.elim
     | true =>
      rw [hle] at h
      simp only [cond_true,cR] at h
      exact db ih.1 ih.2 hJ _ _ _ _ (fun e st' hk=>xZ hK hk) h
    ·exact h.elim
   ·exact h.elim
theorem jG {L : Opn} {p : Prop} (hJ : ∀ rp st, J rp st r → p) : ∀ (q : List Nat) (n no nt : Nat) (fi : FuncId) (ys : List Rng) (rp : List Nat) (c : Code) (K : AEx → ASt → Prg T) (st : ASt), (∀ e st', (K e st').goes C J r → p) → (goQ E L q n no nt fi ys rp c K st).goes C J r → p
 | [],n,no,nt,fi,ys,rp,c,K,st,hK,h=>by
  rw [yw] at h
  exact db (fM hJ n).1 (fM hJ n).2 hJ c rp K st hK h
 | x :: q, n, no, nt, fi, ys, rp, c, K, st, hK, h => by
  have hround:∀ (c:Code) (e:AEx) (st':ASt),(qX (fR (L.ann fi) c) (0 :: rp) K e st').goes C J r->p:=by
   intro c e st' hk
   cases e with
   | normal =>
    simp only [qX,sU] at hk
    cases han:fR (L.ann fi) c with
    | none=>rw [han] at hk; exact hk.elim
    | some an=>rw [han] at hk; obtain ⟨st2,h2⟩:=pG hk; exact hJ _ _ h2
   | ret=>exact hK _ _ hk
   | exit id=>exact hK _ _ hk
  have hblock:∀ (id:Nat) (e:AEx) (st':ASt),(ki id K e st').goes C J r->p:=by
   intro id e st' hk
   cases e with
   | normal=>exact hK _ _ hk
   | ret=>exact hK _ _ hk
   | exit i =>
    simp only [ki] at hk
    cases hb:i.beq id <;> rw [hb] at hk <;> exact hK _ _ hk
  have hthen:∀ (y:Code) (e:AEx) (st':ASt),(oL (fR (L.jn fi) y) (1 :: rp) (cz E (cG E L n nt fi ys) (cH E L n nt fi ys) (L.ann fi) (L.jn fi) (1 :: rp) y K) K e st').goes C J r->p:=by
   intro y e st' hk
   cases e with
   | normal =>
    simp only [oL] at hk
    cases han:fR (L.jn fi) y with
    | none=>rw [han] at hk; exact db (fM hJ n).1 (fM hJ n).2 hJ y (1 :: rp) K st' hK hk
    | some an=>rw [han] at hk; obtain ⟨st2,h2⟩:=pG hk; exact hJ _ _ h2
   | ret=>exact hK _ _ hk
   | exit id=>exact hK _ _ hk
  cases c with
  | seq a b =>
   cases x with
   | zero=>exact jG hJ q n no nt fi ys _ a _ st (hthen b) h
   | succ m=>exact jG hJ q n no nt fi ys _ b K st hK h
  | cond o a b =>
   cases x with
   | zero=>exact jG hJ q n no nt fi ys _ a K st hK h
   | succ m=>exact jG hJ q n no nt fi ys _ b K st hK h
  | block id c=>exact jG hJ q n no nt fi ys _ c _ st (hblock id) h
  | loop c=>exact jG hJ q n no nt fi ys _ c _ st (hround c) h
  | rangeFunc g ps assign c =>
   cases n with
   | zero=>exact h.elim
   | succ n =>
    rw [x6] at h
    split at h
    ·exact jG hJ q n _ _ _ _ _ _ _ st (fun e st' hk=>xZ (fun st' h=>hK _ _ h) hk) h
    ·exact h.elim
  | region id ops draw =>
   cases n with
   | zero=>exact h.elim
   | succ n' =>
    rw [pz] at h
    cases hx:(x % 2).beq 0 with
    | true =>
     rw [hx] at h
     simp only [cond_true] at h
     split at h
     ·split at h
      ·rename_i o ho f fn hof
       cases hd:!draw || ba ops.toList with
       | false=>rw [hd] at h; exact h.elim
       | true =>
        rw [hd] at h
        simp only [cond_true] at h
        refine jG hJ q n' _ fn.ntmps f _ _ (bG fn) _ st (fun e st' hk=>?_) h
        obtain ⟨st2,h2⟩:=xV hk
        obtain ⟨st3,h3⟩:=yx h2
        exact lv (fM hJ n').1 (fM hJ n').2 hJ (fun st' h=>hK _ _ h) _ _ _ st3 h3
      ·exact h.elim
     ·exact h.elim
    | false =>
     rw [hx] at h
     simp only [cond_false] at h
     split at h
     ·split at h
      ·rename_i o ho y hy
       cases hd:!draw || ba ops.toList with
       | false=>rw [hd] at h; exact h.elim
       | true =>
        rw [hd] at h
        simp only [cond_true] at h
        cases hz:((x - 3) / 2 / 1000 % 2).beq 0 with
        | true =>
         rw [hz] at h
         simp only [cond_true] at h
         refine jG hJ q n' _ _ _ _ _ _ _ st (fun e st' hk=>vG (fun st' hk=>?_) hk) h
         refine db (fM hJ n').1 (fM hJ n').2 hJ _ _ _ _ (fun e st' hk=>qh (fun st2 h2=>?_) hk) hk
         exact lv (fM hJ n').1 (fM hJ n').2 hJ (fun st' h=>hK _ _ h) _ _ _ st2 h2
        | false =>
         rw [hz] at h
         simp only [cond_false] at h
         refine jG hJ q n' _ _ _ _ _ _ _ st (fun e st' hk=>qh (fun st2 h2=>?_) hk) h
         exact lv (fM hJ n').1 (fM hJ n').2 hJ (fun st' h=>hK _ _ h) _ _ _ st2 h2
      ·exact h.elim
     ·exact h.elim
  | _=>exact h.elim
end
section
variable {C:Cal} {J:List Nat->ASt->TV->Prop} {r:TV} {look:Look} {rs:List (Nat × Nat)}
theorem pO {c:CA} {k:TV->Prg TV} (h:(k8 look rs c k).goes C J r):∃ x,(k x).goes C J r:=by
 unfold k8 at h
 split at h
 ·exact ⟨_,h⟩
 ·obtain ⟨x,h⟩:=yh h; exact ⟨_,h⟩
 ·obtain ⟨x,h⟩:=yh h; exact ⟨_,h⟩
 ·exact h.elim
theorem wD:∀ {l:List CA} {k:List TV->Prg TV},(yg look rs l k).goes C J r->∃ x,(k x).goes C J r
 | [],k,h=>⟨_,h⟩
 | c :: l,k,h=>by
  obtain ⟨x,h⟩:=pO h
  obtain ⟨xs,h⟩:=wD h
  exact ⟨_,h⟩
theorem AW {v:AV} {k:TV->Prg TV} (h:(xN look rs v k).goes C J r):∃ x,(k x).goes C J r:=by
 unfold xN at h
 split at h
 ·exact pO h
 ·exact ⟨_,h⟩
 ·obtain ⟨xs,h⟩:=wD h; exact ⟨_,h⟩
 ·exact h.elim
 ·exact h.elim
 ·exact ⟨_,h⟩
theorem qo:∀ {l:List AV} {k:List TV->Prg TV},(gives look rs l k).goes C J r->∃ x,(k x).goes C J r
 | [],k,h=>⟨_,h⟩
 | c :: l,k,h=>by
  obtain ⟨x,h⟩:=AW h
  obtain ⟨xs,h⟩:=qo h
  exact ⟨_,h⟩
theorem pP {i:Nat} {ty:TypeId}:∀ {l:List CA} {k:List TV->Prg TV},(lb look rs i ty l k).goes C J r->∃ x,(k x).goes C J r
 | [],k,h=>⟨_,h⟩
 | c :: l, k, h => by
  have gen:(k8 look rs c fun x=>lb look rs i ty l fun xs=>k (x :: xs)).goes C J r->∃ x,(k x).goes C J r:=fun h=>by
   obtain ⟨x,h⟩:=pO h
   obtain ⟨xs,h⟩:=pP h
   exact ⟨_,h⟩
  cases c with
  | may j t =>
   simp only [lb] at h
   cases hb:j.beq i && t.beq ty with
   | false=>rw [hb] at h; exact h.elim
   | true=>rw [hb] at h; obtain ⟨xs,h⟩:=pP h; exact ⟨_,h⟩
  | t x=>exact gen h
  | ptr i off=>exact gen h
  | ref x off=>exact gen h
  | tptr i r p k j=>exact gen h
  | sref i r p=>exact gen h
  | swin i r p lo len=>exact gen h
  | aptr i off len n=>exact gen h
  | ifp ty i=>exact gen h
  | fn1 q i=>exact gen h
  | psl i n=>exact gen h
  | yl n=>exact gen h
  | undef=>exact gen h
  | junk=>exact gen h
theorem zN {T:Tab} {ld:dm} {vs:List ResultVar} {st:ASt} (h:(AO T ld vs st).goes C J r):∃ r0 cs',r=.tup [r0,.tup cs']:=by
 unfold AO at h
 split at h
 ·split at h
  ·obtain ⟨ys,h⟩:=qo h
   obtain ⟨zs,h⟩:=pP h
   have h:TV.tup [ow ys,.tup zs]=r:=h
   exact ⟨_,_,h.symm⟩
  ·exact h.elim
 ·exact h.elim
theorem CE {T:Tab} {vs:List ResultVar} {st:ASt} (h:(BN T true vs st).goes C J r):aB r=true:=by
 unfold BN at h
 split at h
 ·obtain ⟨ys,h⟩:=qo h
  split at h
  ·obtain ⟨h1,h2⟩:=h
   have h2:_=r:=h2
   subst h2
   exact h1
  ·obtain ⟨h1,h2⟩:=h
   have h2:_=r:=h2
   subst h2
   exact h1
 ·exact h.elim
end
structure AProg.Ok (P:Program) (G:Laid) (A:AProg):Prop where
 ty:∀ t d,A.T t=some d->aM P t d
 fn : ∀ f fn, A.fns f = some fn → P.funcs[f]? = some fn ∧ (fn.name == "runtime.NumGoroutine") = false ∧ fn.body.isSome = true
 mixed:P.follows .mixedOrders=true
 ext:∀ f g xs r,A.ext f=some g->g xs=some r->(A.turn f=true->yk P G f xs r)/\(A.turn f=false->(A.eye f=true->yn P G f xs r)/\(A.eye f=false->zJ P G A.env f xs r))
 mth:∀ t name f d,A.mth t name=some (f,d)->Df P t name f d
section
variable {P:Program} {G:Laid} {A:AProg}
theorem o5:∀ {l asz:List TV} {z:TV},rS l=some (asz,z)->l=asz ++ [z]
 | [],_,_,h=>by cases h
 | [x],_,_,h=>by simp only [rS,Dv,Prod.mk.injEq] at h; obtain ⟨rfl,rfl⟩:=h; rfl
 | x :: y :: l, asz, z, h => by
  simp only [rS] at h
  split at h
  ·rename_i asz' z' h1
   simp only [Dv,Prod.mk.injEq] at h
   obtain ⟨rfl,rfl⟩:=h
   rw [o5 h1]
   rfl
  ·cases h
theorem nN {T:Tab} {ld:Option dm} {pk pu:Bool} {rs:List ResultVar} {C:Cal} {J:List Nat->ASt->TV->Prop} {e:AEx} {st:ASt} {x:TV} (h:(AH T ld pk pu rs e st).goes C J x):(e=.normal\/e=.ret)/\(Cy T ld pk pu rs st).goes C J x:=by
 cases e with
 | normal=>exact ⟨.inl rfl,h⟩
 | ret=>exact ⟨.inr rfl,h⟩
 | exit id=>exact h.elim
theorem wT (hA:A.Ok P G) {C':FuncId->List TV->Option TV} (hC:vX P G A.env (fun f xs v=>C' f xs=some v)) {n:Nat} {f:FuncId} {args:List TV} {r:TV} (h:(bO A f args).run C' (gM A C' f n)=some r) :
  (A.turn f=true->yk P G f args r)/\(A.turn f=false->(A.eye f=true->yn P G f args r)/\(A.eye f=false->zJ P G A.env f args r)):=by
 have hgo:=cO h
 unfold bO at hgo
 cases hgate:A.turn f || (A.eye f && ((A.peek f).isSome || (A.lent f).isSome)) with
 | true=>rw [hgate] at hgo; exact hgo.elim
 | false =>
 rw [hgate] at hgo
 simp only [cond_false] at hgo
 simp only [Bool.or_eq_false_iff,Bool.and_eq_false_iff] at hgate
 obtain ⟨htn,heg⟩:=hgate
 refine ⟨fun h=>(by rw [htn] at h; cases h),fun _=>?_⟩
 obtain ⟨fn,hf⟩:∃ fn,A.fns f=some fn:=by
  cases hf:A.fns f with
  | some fn=>exact ⟨fn,rfl⟩
  | none=>cases hpk:A.peek f <;> rw [hpk,hf] at hgo <;> exact hgo.elim
 rw [hf] at hgo
 obtain ⟨hfn,hname,hbody⟩:=hA.fn f fn hf
 have hE:fk P G A.env (fun f xs v=>C' f xs=some v):=⟨hA.ty,hC⟩
 have hL:oM P A.opens:=⟨fun g gn hg=>by
  simp only [AProg.opens] at hg
  cases ho:A.opn g with
  | false=>rw [ho] at hg; cases hg
  | true=>rw [ho] at hg; exact hA.fn g gn hg,hA.mth⟩
 have key:∀ (w0:Bs) (I0:Nat->Prop) (ov:List Value) (Z:Ending->World->Prop),w0.G=G->w0.ds=[]->w0.Ok I0->ov.length=qe A f->(∀ (J:List Nat->ASt->TV->Prop) (st':ASt) (a:Act) (w:World),(Cy A.T (A.lent f) (A.peek f).isSome (A.pure f) fn.results.toList st').goes (fun f xs v=>C' f xs=some v) J r->Sim w0 I0 st' a ov w->∃ v,(results fn a.tmps).run P w=.ok v w/\Z (.returned v) w) ->
   ∀ n rp c Q F st a w,At P A.opens I0 (bG fn) (bodyPostM (Rd none) 0 P fn Z) ⟨ov,fn.ntmps,f,w0,[],none⟩ rp c Q F->(eE A f rp st).goes (fun f xs v=>C' f xs=some v) (fun rp st r=>gM A C' f n rp st=some r) r->dB I0 F st a w->c.wpIn (Rd F.ro) 0 P Q a w:=by
  intro w0 I0 ov Z hwG hwd hwok hovl hZ
  have h0:Fr.Ok I0 ⟨ov,fn.ntmps,f,w0,[],none⟩:=⟨⟨fun m y h=>by simp at h,fun m m' h=>by simp at h⟩,hwok,hwd,(fun l h=>by cases h),fun m h=>by simp at h⟩
  have hend:∀ (J:List Nat->ASt->TV->Prop) (e:AEx) (st':ASt) (a:Act) (w:World),(AH A.T (A.lent f) (A.peek f).isSome (A.pure f) fn.results.toList e st').goes (fun f xs v=>C' f xs=some v) J r->dB I0 ⟨ov,fn.ntmps,f,w0,[],none⟩ st' a w->bodyPostM (Rd none) 0 P fn Z (jl e) a w:=by
   intro J e st' a w hk hs
   obtain ⟨he,hr⟩:=nN hk
   refine mJ h0 he hs (fun w2 B2 hE2 hd2 hs2=>?_)
   have hb:B2.Bel w2:=by obtain ⟨g,hs⟩:=hs2; exact hs.below
   have hs3:Sim w0 I0 st' { tmps:=a.tmps,defers:=[] } ov w2:=iZ hs2 ⟨hE2.bel w2 hb,hwok,Nat.le_refl _,fun b h _=>⟨hE2.new b h,rfl⟩,fun _ _=>rfl,hE2.out⟩ hE2.Y.symm rfl hwd.symm
   exact hZ J st' { tmps:=a.tmps,defers:=[] } w2 hr hs3
  have piece:∀ n,JOk P A.opens I0 (bG fn) (bodyPostM (Rd none) 0 P fn Z) ⟨ov,fn.ntmps,f,w0,[],none⟩ (fun rp st r=>gM A C' f n rp st=some r) r ->
    ∀ rp c Q F st a w,At P A.opens I0 (bG fn) (bodyPostM (Rd none) 0 P fn Z) ⟨ov,fn.ntmps,f,w0,[],none⟩ rp c Q F->(eE A f rp st).goes (fun f xs v=>C' f xs=some v) (fun rp st r=>gM A C' f n rp st=some r) r->dB I0 F st a w->c.wpIn (Rd F.ro) 0 P Q a w:=by
   intro n hJ rp c Q F st a w hat hg hs
   unfold eE at hg
   rw [hf] at hg
   simp only [] at hg
   rw [<- hovl] at hg
   exact BI hE h0 hwG hA.mixed hL hJ hat.toF tr [] _ st a w .top hg hs (hend _)
  have hJ:∀ n,JOk P A.opens I0 (bG fn) (bodyPostM (Rd none) 0 P fn Z) ⟨ov,fn.ntmps,f,w0,[],none⟩ (fun rp st r=>gM A C' f n rp st=some r) r:=by
   intro n
   induction n with
   | zero=>intro rp c Q F st a w _ h; simp [gM] at h
   | succ n ih =>
    intro rp c Q F st a w hat h hs
    exact piece n ih rp c Q F st a w hat (cO h) hs
  exact fun n=>piece n (hJ n)
 have simx:∀ {w0:Bs} {I0:Nat->Prop} {ov:List Value} {st:ASt} {a:Act} {w:World},w0.ds=[]->Sim w0 I0 st a ov w->dB I0 ⟨ov,fn.ntmps,f,w0,[],none⟩ st a w:=fun hd hs=>⟨_,.refl hd,(fun h=>by cases h),hs⟩
 have okof:∀ {w0:Bs} {I0:Nat->Prop} {ov:List Value} {st:ASt} {a:Act} {w:World},Sim w0 I0 st a ov w->w0.Ok I0:=fun ⟨g,hs⟩=>hs.base
 have enter:∀ (w:World) (vals:Array Value),(callFunc f vals).run P w=.ok (.enter f vals) w:=fun w vals=>by
  cases hb:fn.body with
  | none=>rw [hb] at hbody; cases hbody
  | some c =>
   simp only [callFunc,Sem.run_bind,run_program,Result.andThen_ok,hfn,hname,hb]
   simp
 obtain ⟨c,hb⟩:∃ c,fn.body=some c:=by
  cases hb:fn.body with
  | none=>rw [hb] at hbody; cases hbody
  | some c=>exact ⟨c,rfl⟩
 have hbo:bG fn=c:=by simp [bG,hb]
 cases hey:A.eye f with
 | true =>
  refine ⟨fun _=>?_,fun h=>(by cases h)⟩
  have hpl:A.peek f=none/\A.lent f=none:=by
   rcases heg with h | h
   ·rw [hey] at h; cases h
   ·simpa using h
  obtain ⟨hpk,hln⟩:=hpl
  rw [hpk,hln,hey] at hgo
  simp only [cond_true] at hgo
  split at hgo
  ·rename_i asz cs hsp
   have hargs0:=o5 hsp
   cases hle:asz.length.beq fn.params.size && (asz.length + 1).ble fn.ntmps with
   | false=>rw [hle] at hgo; exact hgo.elim
   | true =>
    rw [hle] at hgo
    simp only [cond_true] at hgo
    simp only [Dw,Nat.ble_eq] at hle
    refine ⟨asz,cs,hargs0,fun I w b vs ty vals hG hlt hheap hone hnI hvs hbs hrc hsz h0 hargs=>⟨enter w vals,fm.1 (callsIn_of_wp_marks (F:=Rd none) (n:=0) hfn hb trivial ?_)⟩⟩
    have hst:=wJ (ntmps:=fn.ntmps) hG hlt hheap hone hvs hrc hle.2 (by rw [hsz,hargs0]; simp) h0 hargs
    have hp:=key (Bs.of w (fun _=>False) G) I [] (fun e w'=>∃ v,e=.returned v/\Below w.heap.size w w'/\∃ I' S:Nat->Prop,(∀ b,I b->I' b)/\(∀ b,I' b->b < w'.heap.size)/\(∀ b,b < w.heap.size->I' b->I b) /\
      (∀ b,S b->w.heap.size<=b/\b < w'.heap.size/\¬ I' b)/\ak w' I' r v S) rfl rfl (okof hst) (by simp only [qe,hpk,hln]; rfl) (fun J st' a w' hr ⟨g,hs⟩=>by
     rw [hpk,hln] at hr
     obtain ⟨v,h1,I',S,h2,h3,h4,h5,h6⟩:=tD (P:=P) (E:=A.env) hA.ty hs hr
     refine ⟨v,h1,v,rfl,⟨hs.below.os,hs.below.tape,hs.below.output,hs.below.size,fun k hk=>hs.below.block k hk (fun h=>h)⟩,I',S,h2,h3,fun b hb=>h4 b (fun h=>h.elim (fun h=>by have:w.heap.size<=b:=h; omega) (fun h=>h)),fun b hb=>?_,h6⟩
     obtain ⟨q1,q2,q3⟩:=h5 b hb
     exact ⟨q1.elim (fun h=>h) (fun h=>h.elim),q2,q3⟩)
    exact hp n [] c _ ⟨[],fn.ntmps,f,Bs.of w (fun _=>False) G,[],none⟩ _ _ w (by rw [hbo]; exact .top) hgo (simx rfl hst)
  ·exact hgo.elim
 | false =>
 refine ⟨fun h=>(by cases h),fun _=>?_⟩
 have hge:∀ (p q:Prg TV),(bif A.eye f then p else q)=q:=fun p q=>by rw [hey]; rfl
 simp only [hge] at hgo
 show (A.peek f=none->(A.lent f=none->eK P G f args r/\(A.pure f=true->aB r=true))/\∀ ld,A.lent f=some ld->oH P G ld f args r)/\∀ c,A.peek f=some c->Dk P G c f args r
 cases hpk:A.peek f with
 | some c0 =>
  rw [hpk] at hgo
  exact hgo.elim
 | none =>
  rw [hpk] at hgo
  simp only [] at hgo
  refine ⟨fun _=>⟨fun hln=>?_,fun ld hld=>?_⟩,fun c h=>(by cases h)⟩
  ·rw [hln] at hgo
   simp only [] at hgo
   cases hle:args.length.beq fn.params.size && args.length.ble fn.ntmps with
   | false=>rw [hle] at hgo; exact hgo.elim
   | true =>
    rw [hle] at hgo
    simp only [cond_true] at hgo
    simp only [Dw,Nat.ble_eq] at hle
    refine ⟨?_,?_⟩
    ·intro I w vals hG hlt hsz hargs
     refine ⟨enter w vals,fm.1 (callsIn_of_wp_marks (F:=Rd none) (n:=0) hfn hb trivial ?_)⟩
     have hst:=zk hG hlt hle.2 hsz hargs
     have hp:=key (Bs.of w (fun _=>False) G) I [] (fun e w'=>∃ v,e=.returned v/\Below w.heap.size w w'/\∃ I' S:Nat->Prop,(∀ b,I b->I' b)/\(∀ b,I' b->b < w'.heap.size)/\(∀ b,b < w.heap.size->I' b->I b) /\
       (∀ b,S b->w.heap.size<=b/\b < w'.heap.size/\¬ I' b)/\ak w' I' r v S) rfl rfl (okof hst) (by simp only [qe,hpk,hln]; rfl) (fun J st' a w' hr ⟨g,hs⟩=>by
      rw [hpk,hln] at hr
      obtain ⟨v,h1,I',S,h2,h3,h4,h5,h6⟩:=tD (P:=P) (E:=A.env) hA.ty hs hr
      refine ⟨v,h1,v,rfl,⟨hs.below.os,hs.below.tape,hs.below.output,hs.below.size,fun k hk=>hs.below.block k hk (fun h=>h)⟩,I',S,h2,h3,fun b hb=>h4 b (fun h=>h.elim (fun h=>by have:w.heap.size<=b:=h; omega) (fun h=>h)),fun b hb=>?_,h6⟩
      obtain ⟨q1,q2,q3⟩:=h5 b hb
      exact ⟨q1.elim (fun h=>h) (fun h=>h.elim),q2,q3⟩)
     exact hp n [] c _ ⟨[],fn.ntmps,f,Bs.of w (fun _=>False) G,[],none⟩ _ _ w (by rw [hbo]; exact .top) hgo (simx rfl hst)
    ·intro hp
     have hend:∀ (J:List Nat->ASt->TV->Prop) (e:AEx) (st':ASt),(AH A.T (A.lent f) (A.peek f).isSome (A.pure f) fn.results.toList e st').goes (fun f xs v=>C' f xs=some v) J r->aB r=true:=by
      intro J e st' hk
      obtain ⟨_,hr⟩:=nN hk
      rw [hp,hln,hpk] at hr
      exact CE hr
     have piece:∀ (J:List Nat->ASt->TV->Prop),(∀ rp st,J rp st r->aB r=true)->∀ rp st,(eE A f rp st).goes (fun f xs v=>C' f xs=some v) J r->aB r=true:=by
      intro J hJ rp st hg
      unfold eE at hg
      rw [hf] at hg
      exact jG hJ _ _ _ _ _ _ _ _ _ _ (hend J) hg
     have hJ:∀ n,∀ rp st,gM A C' f n rp st=some r->aB r=true:=by
      intro n
      induction n with
      | zero=>intro rp st h; simp [gM] at h
      | succ n ih=>intro rp st h; exact piece _ ih rp st (cO h)
     exact piece _ (hJ n) _ _ hgo
  ·rw [hld] at hgo
   simp only [] at hgo
   split at hgo
   ·rename_i cs rest
    cases hle:(rest.length + 1).beq fn.params.size && (rest.length + 1).ble fn.ntmps with
    | false=>rw [hle] at hgo; exact hgo.elim
    | true =>
     rw [hle] at hgo
     simp only [cond_true] at hgo
     simp only [Dw,Nat.ble_eq] at hle
     obtain ⟨hfit,hgo⟩:=hgo
     obtain ⟨r0,cs',hr⟩:∃ r0 cs',r=.tup [r0,.tup cs']:=by
      have hend:∀ (J:List Nat->ASt->TV->Prop) (e:AEx) (st':ASt),(AH A.T (A.lent f) (A.peek f).isSome (A.pure f) fn.results.toList e st').goes (fun f xs v=>C' f xs=some v) J r->∃ r0 cs',r=.tup [r0,.tup cs']:=by
       intro J e st' hk
       obtain ⟨_,hr⟩:=nN hk
       rw [hpk,hld] at hr
       exact zN hr
      have piece:∀ (J:List Nat->ASt->TV->Prop),(∀ rp st,J rp st r->∃ r0 cs',r=.tup [r0,.tup cs'])->∀ rp st,(eE A f rp st).goes (fun f xs v=>C' f xs=some v) J r->∃ r0 cs',r=.tup [r0,.tup cs']:=by
       intro J hJ rp st hg
       unfold eE at hg
       rw [hf] at hg
       exact jG hJ _ _ _ _ _ _ _ _ _ _ (hend J) hg
      have hJ:∀ n,∀ rp st,gM A C' f n rp st=some r->∃ r0 cs',r=.tup [r0,.tup cs']:=by
       intro n
       induction n with
       | zero=>intro rp st h; simp [gM] at h
       | succ n ih=>intro rp st h; exact piece _ ih rp st (cO h)
      exact piece _ (hJ n) _ _ hgo
     refine ⟨cs,rest,r0,cs',rfl,hr,fun I w b vals L hG hlt hL hV hsz h0 hargs=>⟨enter w vals,fm.1 (callsIn_of_wp_marks (F:=Rd none) (n:=0) hfn hb trivial ?_)⟩⟩
     have hst:=wF hG hlt hL hV hfit hle.2 (by simpa using hsz) h0 hargs
     have hp:=key (Bs.of w L G) I [.pointer (some ⟨b,0,none⟩)] (fun e w'=>∃ v,e=.returned v/\(Bs.of w L G).Bel w'/\∃ I' L' S:Nat->Prop,(∀ b,I b->I' b)/\(∀ b,I' b->b < w'.heap.size)/\(∀ b,¬ (Bs.of w L G).New b->I' b->I b) /\
       (∀ b,L' b->(Bs.of w L G).New b/\b < w'.heap.size/\¬ I' b)/\ak w' I' r0 v S/\yR w' I' ld b cs' L') rfl rfl (okof hst) (by simp only [qe,hpk,hld]; rfl) (fun J st' a w' hr' ⟨g,hs⟩=>by
      rw [hpk,hld] at hr'
      obtain ⟨v,h1,r1,cs1,h2,h3⟩:=xy (P:=P) (E:=A.env) hA.ty hs hr'
      rw [hr] at h2
      cases h2
      exact ⟨v,h1,v,rfl,hs.below,h3⟩)
     exact hp n [] c _ ⟨[.pointer (some ⟨b,0,none⟩)],fn.ntmps,f,Bs.of w L G,[],none⟩ _ _ w (by rw [hbo]; exact .top) hgo (simx rfl hst)
   ·exact hgo.elim
theorem oY (hA:A.Ok P G):∀ n,vX P G A.env (fun f xs v=>acall A n f xs=some v)
 | 0=>fun f xs r h=>by simp [acall] at h
 | n + 1 => fun f xs r h => by
  have h:acall A (n + 1) f xs=some r:=h
  simp only [acall] at h
  split at h
  ·rename_i g hg
   exact hA.ext f g xs r hg h
  ·exact wT hA (oY hA n) h
end
end Go.Ab

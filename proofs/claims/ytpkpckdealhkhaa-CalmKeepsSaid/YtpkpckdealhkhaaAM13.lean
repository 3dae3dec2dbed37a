import Derived.Test.YtpkpckdealhkhaaAM12
set_option linter.all false
section
namespace Go.Ab
open Go.RowKit
section
variable {P:Program} {E:Env} {C:Cal} {w0:Bs} {w w':World} {I0 I R:Nat->Prop} {g g':Gh} {st st':ASt} {a:Act} {ov:List Value} {look:Look} {Q:Exit->Act->World->Prop} {id:Nat}
variable {dst:Option Tmp} {type:TypeId} {pos:String} {after:Array Edge} {guard:Option (Nat × Bool)}
theorem oO (id r0:Nat) (x:TV) (agg:Bool):∀(zs:List Value) (j m:Nat),(eW id r0 zs x agg j)[m]? = (zs[m]?).map fun z=>bif aF z then CA.sref id (r0+(j+m)) []else .t (bif agg then x.cell (j+m)else x)
 | [],j,m=>by simp[eW]
 | z::zs,j,0=>by simp[eW]
 | z::zs,j,m+1=>by
  simp only[eW,List.getElem?_cons_succ,oO id r0 x agg zs (j+1) m]
  rw[show j+1+m=j+(m+1) by omega]
theorem nV (id r0:Nat) (x:TV) (agg:Bool):∀(zs:List Value) (j:Nat),(eW id r0 zs x agg j).length=zs.length
 | [],j=>rfl
 | z::zs,j=>by simp[eW,nV id r0 x agg zs (j+1)]
theorem kr (x:TV) (agg:Bool):∀(zs:List Value) (j m:Nat),(dO zs x agg j)[m]? = (zs[m]?).map fun z=>bif aF z then(bif agg then x.cell (j+m)else x)else .hole
 | [],j,m=>by simp[dO]
 | z::zs,j,0=>by simp[dO]
 | z::zs,j,m+1=>by
  simp only[dO,List.getElem?_cons_succ,kr x agg zs (j+1) m]
  rw[show j+1+m=j+(m+1) by omega]
theorem fQ (x:TV) (agg:Bool):∀(zs:List Value) (j:Nat),(dO zs x agg j).length=zs.length
 | [],j=>rfl
 | z::zs,j=>by simp[dO,fQ x agg zs (j+1)]
theorem aq.aggs {cs:List TV} {v:Value} {S:Nat->Prop} (h:aq w I (.agg cs) v S):∃(vs:Array Value) (F:Nat->Nat->Prop),v=.agg vs/\vs.size=cs.length/\(∀j,j<vs.size->(vs.getD j undef).oneCell'=true) /\
  (∀(j:Nat) (c:TV),cs[j]? = some c->aq w I c (vs.getD j undef) (F j))/\(∀j b,F j b->S b)/\∀k k' b,F k b->F k' b->k=k':=by
 cases h with
 | fr h =>
  cases h with
  | agg hl h1 hr=>exact⟨_,fun _ _=>False,rfl,hl,h1,fun j c hj=>.fr (hr j c hj),fun _ _ h=>h.elim,fun _ _ _ h=>h.elim⟩
 | agg F hl h1 hr hF hd=>exact⟨_,F,rfl,hl,h1,hr,hF,hd⟩
theorem aq.tups {cs:List TV} {v:Value} {S:Nat->Prop} (h:aq w I (.tup cs) v S):∃(vs:Array Value) (F:Nat->Nat->Prop),v=.tuple vs/\vs.size=cs.length /\
  (∀(j:Nat) (c:TV),cs[j]? = some c->aq w I c (vs.getD j undef) (F j))/\(∀j b,F j b->S b)/\∀k k' b,F k b->F k' b->k=k':=by
 cases h with
 | fr h =>
  cases h with
  | tup hl hr=>exact⟨_,fun _ _=>False,rfl,hl,fun j c hj=>.fr (hr j c hj),fun _ _ h=>h.elim,fun _ _ _ h=>h.elim⟩
 | tup F hl hr hF hd=>exact⟨_,F,rfl,hl,hr,hF,hd⟩
theorem lY {T:Type} {t:TypeId} {d:TyD} (ht:ba P t d) {x:TV} {v:Value} {S:Nat->Prop} (hx:aq w I x v S) {k:Prg T} {e:T} (h:(pt d x k).hits C e) :
  k.hits C e/\∃(us:List Value) (F:Nat->Nat->Prop),us.length=d.zero.length/\(∀r y,(dO d.zero x d.kd.isAgg 0)[r]? = some y->aq w I y (us.getD r undef) (F r))/\(∀r b,F r b->S b)/\(∀r r' b,F r b->F r' b->r=r') /\
   (∀m z,d.zero[m]? = some z->aF z=true->nY (us.getD m undef)) /\
   ∀(g':Gh) (look':Look) (id r0:Nat),(∀m z,d.zero[m]? = some z->aF z=true->bW w g' look' (.sref id (r0+m) []) (us.getD m undef))->lP w g' look' d.kd.isAgg (eW id r0 d.zero x d.kd.isAgg 0) v:=by
 unfold pt at h
 cases hk:d.kd.isAgg with
 | true =>
  simp only[hk,cond_true]at h
  obtain⟨h1,h⟩:=h
  refine⟨h,?_⟩
  simp only[FS]at h1
  obtain⟨h1,h2⟩:=h1
  cases x with
  | agg cs =>
   simp only[TV.isAgg,az]at h1
   obtain⟨vs,F,rfl,hl,hone,hr,hF,hd⟩:=hx.aggs
   have hcell:∀m z,d.zero[m]? = some z->∃c,cs[m]? = some c/\(TV.agg cs).cell m=c/\(aF z=true->c.isSl=true)/\(aF z=false->c.isSc=true):=fun m z hz=>by
    obtain⟨c,c1,c2,c3⟩:=gL h2 m z hz
    simp only[TV.cellsL,Nat.zero_add]at c1
    exact⟨c,c1,by simp only[TV.cell];exact b7 c1,c2,c3⟩
   have hgd:∀m,vs.toList.getD m undef=vs.getD m undef:=fun m=>by simp[F8,F7]
   refine⟨vs.toList,F,by simp[hl,h1,ht.zlen],fun r y hy=>?_,hF,hd,fun m z hz hs=>?_,fun g' look' id r0 hrep=>⟨vs,rfl,by rw[nV];simp[hl,h1,ht.zlen],fun j c u hc hu=>?_⟩⟩
   ·rw[kr]at hy
    cases hz:d.zero[r]? with
    | none=>simp[hz]at hy
    | some z =>
     obtain⟨c,c1,c2,c3,c4⟩:=hcell r z hz
     simp only[hz,F6,FR,cond_true,Nat.zero_add]at hy
     rw[hgd]
     cases hs:aF z with
     | true =>
      simp only[hs,cond_true]at hy
      rw[<-hy,c2]
      exact hr r c c1
     | false =>
      simp only[hs,cond_false]at hy
      rw[<-hy]
      exact .fr (.hole _)
   ·obtain⟨c,c1,c2,c3,c4⟩:=hcell m z hz
    rw[hgd]
    obtain⟨a,n,cap,e⟩:=iJ (hr m c c1) (c3 hs)
    exact⟨a,n,cap,e⟩
   ·have hju:j<vs.size:=by have:=(FP.1 hu).1;simpa using this
    have hgu:vs.getD j undef=u:=by rw[<-hgd,F7,hu];rfl
    refine⟨?_,by rw[<-hgu];exact hone j hju⟩
    rw[oO]at hc
    cases hz:d.zero[j]? with
    | none=>simp[hz]at hc
    | some z =>
     obtain⟨c',c1,c2,c3,c4⟩:=hcell j z hz
     simp only[hz,F6,FR,cond_true,Nat.zero_add]at hc
     cases hs:aF z with
     | true =>
      simp only[hs,cond_true]at hc
      rw[<-hc,<-hgu,<-hgd]
      exact hrep j z hz hs
     | false =>
      simp only[hs,cond_false]at hc
      rw[<-hc,c2]
      obtain⟨e1,e2⟩:=gu (hr j c' c1) (c4 hs)
      rw[e1,hgu]
      rw[hgu]at e2
      exact⟨.lit _,qO e2⟩
  | _=>simp[TV.isAgg]at h1
 | false =>
  simp only[hk,cond_false]at h
  obtain⟨h1,h⟩:=h
  refine⟨h,?_⟩
  have hz1:d.zero.length=1:=by rw[ht.zlen,ht.one hk]
  obtain⟨z0,hz0⟩:∃z0,d.zero=[z0]:=by
   cases hd:d.zero with
   | nil=>simp[hd]at hz1
   | cons z l=>simp[hd]at hz1;exact⟨z,by rw[hz1]⟩
  obtain⟨c,c1,c2,c3⟩:=gL h1 0 z0 (by rw[hz0];rfl)
  simp[TV.cellsL]at c1
  subst c1
  have hone:v.oneCell'=true:=by
   cases hs:aF z0 with
   | true=>obtain⟨a,n,cap,e⟩:=iJ hx (c2 hs);rw[e];rfl
   | false=>exact qO (gu hx (c3 hs)).2
  refine⟨[v],fun r b=>r=0/\S b,by rw[hz0];rfl,fun r y hy=>?_,fun r b h=>h.2,fun r r' b h h'=>by rw[h.1,h'.1],fun m z hz hs=>?_,fun g' look' id r0 hrep=>⟨_,by rw[hz0];rfl,?_,hone⟩⟩
  ·rw[kr,hz0]at hy
   cases r with
   | zero =>
    simp at hy
    cases hs:aF z0 with
    | true=>simp[hs]at hy;subst hy;exact hx.mono (fun b hb=>⟨rfl,hb⟩)
    | false=>simp[hs]at hy;subst hy;exact .fr (.hole _)
   | succ r=>simp at hy
  ·rw[hz0]at hz
   cases m with
   | zero=>simp at hz;subst hz;obtain⟨a,n,cap,e⟩:=iJ hx (c2 hs);exact⟨a,n,cap,e⟩
   | succ m=>simp at hz
  ·have hr0:=hrep 0 z0 (by rw[hz0];rfl)
   cases hs:aF z0 with
   | true =>
    simpa using hr0 hs
   | false =>
    obtain⟨e1,e2⟩:=gu hx (c3 hs)
    simp only[cond_false]
    rw[e1]
    exact⟨.lit _,hone⟩
theorem kJ {T:Type} {x:TV} {vals:Nat->Value} {G:Nat->Nat->Prop} (hG:∀k k' b,G k b->G k' b->k=k') {k:Prg T} {e:T}:∀(ds:List TyD) (j:Nat),(∀d∈ds,∃t,ba P t d)->(∀m,m<ds.length->aq w I (x.comp (j+m)) (vals (j+m)) (G (j+m)))->(me x ds j k).hits C e ->
  k.hits C e/\∃(us:List Value) (F:Nat->Nat->Prop),us.length=(br x ds j).length/\(∀r y,(br x ds j)[r]? = some y->aq w I y (us.getD r undef) (F r))/\(∀r b,F r b->∃m,j<=m/\G m b)/\(∀r r' b,F r b->F r' b->r=r') /\
   ∀(g':Gh) (look':Look) (id r0:Nat),(j5 ds=true->∃xs,look' id=some (.tree xs)/\∀r y,(br x ds j)[r]? = some y->xs[r0+r]? = some y/\g'.ρ id (r0+r)=us.getD r undef) ->
    ∀m b c,(ew id x ds j r0)[m]? = some (b,c)->lP w g' look' b c (vals (j+m))
 | [],j,hd,hr,h=>⟨h,[],fun _ _=>False,rfl,fun r y hy=>by simp[br]at hy,fun _ _ h=>h.elim,fun _ _ _ h=>h.elim,fun g' look' id r0 _ m b c hc=>by simp[ew]at hc⟩
 | d :: ds, j, hd, hr, h => by
  obtain⟨t,ht⟩:=hd d (by simp)
  have h0:=hr 0 (by simp)
  simp only[Nat.add_zero]at h0
  obtain⟨h1,us1,F1,a1,a2,a3,a4,a5,a6⟩:=lY ht h0 h
  obtain⟨h2,us2,F2,b1,b2,b3,b4,b5⟩:=kJ hG ds (j+1) (fun d' hm=>hd d' (FY _ hm)) (fun m hm=>by
   have:=hr (m+1) (by simp;omega)
   rwa[show j+(m+1)=j+1+m by omega]at this) h1
  have hlen:us1.length=(dO d.zero (x.comp j) d.kd.isAgg 0).length:=by rw[fQ,a1]
  have getL:∀r,r<us1.length->(us1++us2).getD r undef=us1.getD r undef:=fun r hr=>by simp[F7,F3 hr]
  have getR:∀r,us1.length<=r->(us1++us2).getD r undef=us2.getD (r-us1.length) undef:=fun r hr=>by simp[F7,F4 hr]
  refine⟨h2,us1++us2,fun r b=>if r<us1.length then F1 r b else F2 (r-us1.length) b,by simp[br,hlen,b1],fun r y hy=>?_,fun r b hb=>?_,fun r r' b hb hb'=>?_,fun g' look' id r0 hroot m bb c hc=>?_⟩
  ·simp only[br]at hy
   by_cases hlt:r<us1.length
   ·rw[F3 (by omega)]at hy
    rw[getL r hlt]
    simp only[hlt,if_true]
    exact a2 r y hy
   ·rw[F4 (by omega),<-hlen]at hy
    rw[getR r (by omega)]
    simp only[hlt,if_false]
    exact b2 _ y hy
  ·by_cases hlt:r<us1.length
   ·simp only[hlt,if_true]at hb
    exact⟨j,Nat.le_refl _,a3 r b hb⟩
   ·simp only[hlt,if_false]at hb
    obtain⟨m,m1,m2⟩:=b3 _ b hb
    exact⟨m,by omega,m2⟩
  ·by_cases hlt:r<us1.length
   ·simp only[hlt,if_true]at hb
    by_cases hlt':r'<us1.length
    ·simp only[hlt',if_true]at hb'
     exact a4 r r' b hb hb'
    ·simp only[hlt',if_false]at hb'
     obtain⟨m,m1,m2⟩:=b3 _ b hb'
     have:=hG j m b (a3 r b hb) m2
     omega
   ·simp only[hlt,if_false]at hb
    by_cases hlt':r'<us1.length
    ·simp only[hlt',if_true]at hb'
     obtain⟨m,m1,m2⟩:=b3 _ b hb
     have:=hG j m b (a3 r' b hb') m2
     omega
    ·simp only[hlt',if_false]at hb'
     have:=b4 _ _ b hb hb'
     omega
  ·cases m with
   | zero =>
    simp only[ew,List.getElem?_cons_zero,FR,Prod.mk.injEq]at hc
    obtain⟨rfl,rfl⟩:=hc
    refine a6 g' look' id r0 (fun q z hz hs=>?_)
    have hsl:ir d.zero=true:=by
     cases hh:ir d.zero with
     | true=>rfl
     | false=>rw[gY hh q z hz]at hs;cases hs
    obtain⟨xs,l1,l2⟩:=hroot (by simp[j5,hsl])
    have hql:q<us1.length:=by rw[a1];exact(FP.1 hz).1
    obtain⟨y,hy⟩:∃y,(br x (d::ds) j)[q]? = some y:=⟨_,FQ (by simp[br,<-hlen];omega)⟩
    obtain⟨l3,l4⟩:=l2 q y hy
    rw[getL q hql]at l4
    exact⟨xs,y,y.nd,l1,l3,⟨l4.symm,rfl⟩,a5 q z hz hs⟩
   | succ m =>
    simp only[ew,List.getElem?_cons_succ]at hc
    have:=b5 g' look' id (r0+d.zero.length) (fun hany=>by
     obtain⟨xs,l1,l2⟩:=hroot (by simp only[j5,hany];cases ir d.zero<;>rfl)
     refine⟨xs,l1,fun r y hy=>?_⟩
     obtain⟨l3,l4⟩:=l2 (d.zero.length+r) y (by simp only[br];rw[F4 (by rw[fQ];omega),fQ];simpa using hy)
     rw[getR _ (by omega)]at l4
     rw[Nat.add_assoc]
     exact⟨l3,by rw[l4];congr 1;omega⟩) m bb c hc
    rwa[show j+1+m=j+(m+1) by omega]at this
theorem m0 (id:Nat) (x:TV):∀(ds:List TyD) (j r0:Nat),(ew id x ds j r0).length=ds.length
 | [],j,r0=>rfl
 | d::ds,j,r0=>by simp[ew,m0 id x ds]
theorem vq {ps:List Prim} {st1:ASt} (hs:al w0 I0 R g st1 a ov w) (h1:ae dst ps st=some st1) (ho:st1.out.length=st.out.length) {ds:List TyD} (hds:∀d∈ds,∃t,ba P t d) {v:TV} {u:Value} {S:Nat->Prop}
  (hv:(∀b,S b->R b)->aq w g.I v u S\/(j5 ds=false/\∃I S,aq w I v u S)) (hSR:∀b,S b->R b) {e:Eff} (hh:(Bt (st.nid dst) ds v ps).hits C e) (ha:e.app st dst=some st'):Sim w0 I0 st' (a.put dst u) ov w:=by
 have hv:=hv hSR
 have new:∀(xs:List TV) (av:AV) (us:List Value) (F:Nat->Nat->Prop),(cU ps (.tree xs) av).app st dst=some st'->(∀r y,xs[r]? = some y->aq w g.I y (us.getD r undef) (F r))->(∀r b,F r b->S b)->(∀r r' b,F r b->F r' b->r=r') ->
   (∀g' look',look' (st.nid dst)=some (.tree xs)->(∀r,g'.ρ (st.nid dst) r=us.getD r undef)->bX w g' look' av u)->Sim w0 I0 st' (a.put dst u) ov w:=by
  intro xs av us F ha hr hF hd hav
  obtain⟨d,rfl,n1,n2,rfl⟩:=mB ha h1 ho
  obtain⟨s1,s2⟩:=hs.mI (xs:=xs) n2 n1 hs.below (Nat.le_refl _) (fun _ _ _=>rfl) (fun r=>us.getD r undef) F hr (fun r b _ hb=>.inl (hSR b (hF r b hb))) (fun r r' b _ _ h h'=>hd r r' b h h')
  refine⟨_,s1.put (some d) (hav _ _ ?_ (fun r=>by simp[Gh.kb]))⟩
  rw[ag,if_pos ⟨rfl,n2⟩]
 have plain:∀(av:AV),(match ps with | []=>Eff.val av|_=>.gen ps av).app st dst=some st'->(∀g' look',bX w g' look' av u)->Sim w0 I0 st' (a.put dst u) ov w:=by
  intro av ha hav
  have:st'=st1.put dst av:=by
   cases ps with
   | nil =>
    simp only[ae,FR]at h1
    subst h1
    simp only[Eff.app,FR]at ha
    exact ha.symm
   | cons p l =>
    simp only[Eff.app,h1,FR]at ha
    exact ha.symm
  subst this
  exact⟨_,(hs.weaken (R':=NoR) (fun _ h=>h.elim)).put dst (hav _ _)⟩
 have single:∀d:TyD,ds=[d]->Sim w0 I0 st' (a.put dst u) ov w:=by
  intro d e1
  subst e1
  obtain⟨t,ht⟩:=hds d (by simp)
  simp only[Bt]at hh
  rcases hv with hv|⟨hany,I',S',hv⟩
  ·obtain⟨hh,us,F,q1,q2,q3,q4,q5,q6⟩:=lY ht hv hh
   split at hh
   ·rename_i av hav
    cases hsl:ir d.zero with
    | true =>
     simp only[hsl,cond_true]at hh
     cases hh
     refine new _ av us F ha q2 q3 q4 (fun g' look' hl hρ=>bV hav (q6 g' look' _ 0 (fun m z hz hs=>?_)))
     have hlt:m<(dO d.zero v d.kd.isAgg 0).length:=by rw[fQ];exact(FP.1 hz).1
     exact⟨_,_,_,hl,by rw[Nat.zero_add];exact FQ hlt,⟨by rw[Nat.zero_add,hρ],rfl⟩,q5 m z hz hs⟩
    | false =>
     simp only[hsl,cond_false]at hh
     cases hh
     exact plain av ha (fun g' look'=>bV hav (q6 g' look' _ 0 (fun m z hz hs=>by rw[gY hsl m z hz]at hs;cases hs)))
   ·exact hh.elim
  ·obtain⟨hh,us,F,q1,q2,q3,q4,q5,q6⟩:=lY ht hv hh
   have hsl:ir d.zero=false:=by
    simp only[j5]at hany
    cases hsl:ir d.zero with
    | true=>simp[hsl]at hany
    | false=>rfl
   split at hh
   ·rename_i av hav
    simp only[hsl,cond_false]at hh
    cases hh
    exact plain av ha (fun g' look'=>bV hav (q6 g' look' _ 0 (fun m z hz hs=>by rw[gY hsl m z hz]at hs;cases hs)))
   ·exact hh.elim
 have many:(Prg.chk (v.isTup ds.length) (me v ds 0 (bif j5 ds then .ret (cU ps (.tree (br v ds 0)) (.tups (ew (st.nid dst) v ds 0 0)))
   else .ret (match ps with | []=>.val (.tups (ew (st.nid dst) v ds 0 0))|_=>.gen ps (.tups (ew (st.nid dst) v ds 0 0)))))).hits C e->Sim w0 I0 st' (a.put dst u) ov w:=by
  rintro⟨htup,hh⟩
  cases v with
  | tup cs =>
   simp only[TV.isTup,az]at htup
   have parts:∀(I' S':Nat->Prop),aq w I' (.tup cs) u S'->∃(vs:Array Value) (G:Nat->Nat->Prop),u=.tuple vs/\vs.size=ds.length/\(∀m,m<ds.length->aq w I' ((TV.tup cs).comp (0+m)) (vs.getD (0+m) undef) (G (0+m)))/\(∀m b,G m b->S' b)/\(∀k k' b,G k b->G k' b->k=k'):=by
    intro I' S' hv
    obtain⟨vs,G,e1,e2,e3,e4,e5⟩:=hv.tups
    refine⟨vs,G,e1,by rw[e2,htup],fun m hm=>?_,e4,e5⟩
    have hm':m<cs.length:=by omega
    rw[Nat.zero_add]
    have:(TV.tup cs).comp m=cs[m]:=by simp only[TV.comp];exact b7 (FQ hm')
    rw[this]
    exact e3 m _ (FQ hm')
   rcases hv with hv|⟨hany,I',S',hv⟩
   ·obtain⟨vs,G,rfl,p1,p2,p3,p4⟩:=parts _ _ hv
    obtain⟨hh,us,F,q1,q2,q3,q4,q5⟩:=kJ (vals:=fun m=>vs.getD m undef) (G:=G) p4 ds 0 hds p2 hh
    have tup:∀g' look' ,(j5 ds=true->∃xs,look' (st.nid dst)=some (.tree xs)/\∀r y,(br (.tup cs) ds 0)[r]? = some y->xs[0+r]? = some y/\g'.ρ (st.nid dst) (0+r)=us.getD r undef)->bX w g' look' (.tups (ew (st.nid dst) (.tup cs) ds 0 0)) (.tuple vs):=by
     intro g' look' hroot
     refine⟨vs,rfl,by rw[m0,p1],fun j b c hj=>?_⟩
     have:=q5 g' look' _ 0 hroot j b c hj
     rwa[Nat.zero_add]at this
    cases hany:j5 ds with
    | true =>
     simp only[hany,cond_true]at hh
     cases hh
     refine new _ _ us F ha q2 (fun r b hb=>by obtain⟨m,_,hm⟩:=q3 r b hb;exact p3 m b hm) q4 (fun g' look' hl hρ=>tup g' look' (fun _=>⟨_,hl,fun r y hy=>?_⟩))
     rw[Nat.zero_add]
     exact⟨hy,hρ r⟩
    | false =>
     simp only[hany,cond_false]at hh
     cases hh
     exact plain _ ha (fun g' look'=>tup g' look' (fun h=>by rw[hany]at h;cases h))
   ·obtain⟨vs,G,rfl,p1,p2,p3,p4⟩:=parts _ _ hv
    obtain⟨hh,us,F,q1,q2,q3,q4,q5⟩:=kJ (vals:=fun m=>vs.getD m undef) (G:=G) p4 ds 0 hds p2 hh
    simp only[hany,cond_false]at hh
    cases hh
    refine plain _ ha (fun g' look'=>⟨vs,rfl,by rw[m0,p1],fun j b c hj=>?_⟩)
    have:=q5 g' look' _ 0 (fun h=>by rw[hany]at h;cases h) j b c hj
    rwa[Nat.zero_add]at this
  | _=>simp[TV.isTup]at htup
 match ds,hh,single,many with
 | [],hh,_,many=>exact many hh
 | [d],hh,single,_=>exact single d rfl
 | d::d'::l,hh,_,many=>exact many hh
theorem xP (hE:∀t d,E.T t=some d->ba P t d):∀{ts:List TypeId} {ds:List TyD},oP E.T ts=some ds->∀d∈ds,∃t,ba P t d
 | [],ds,h=>by simp[oP]at h;subst h;simp
 | t :: ts, ds, h => by
  simp only[oP]at h
  split at h
  ·rename_i d ds' h1 h2
   cases h
   intro d' hm
   rcases List.mem_cons.1 hm with hm|hm
   ·subst hm;exact⟨t,hE _ _ h1⟩
   ·exact xP hE h2 d' hm
  ·cases h
def BM (P:Program) (G:Laid) (E:Env) (f:FuncId) (xs:List TV) (r:TV):Prop:=(E.peek f=none->(E.lent f=none->CU P G f xs r/\(E.pure f=true->isOwn r=true))/\∀ld,E.lent f=some ld->Fs P G ld f xs r)/\∀c,E.peek f=some c->FF P G c f xs r
def xA (P:Program) (G:Laid) (E:Env) (C:Cal):Prop:=∀f xs r,C f xs r->(E.turn f=true->Ax P G f xs r)/\(E.turn f=false->(E.eye f=true->zS P G f xs r)/\(E.eye f=false->BM P G E f xs r))
theorem rB:∀(l:List CA) (j:Nat),(unMays l)[j]? = (l[j]?).map CA.FM
 | [],j=>by simp[unMays]
 | c::l,0=>rfl
 | c::l,j+1=>by simp[unMays,rB l j]
theorem zB (l:List CA):(unMays l).length=l.length:=by
 induction l with
 | nil=>rfl
 | cons c l ih=>simp[unMays,ih]
theorem CR.unMays {cs:List CA} {vs:List Value} (h:CR w g look cs vs):CR w g look (Ab.unMays cs) vs:=by
 refine⟨by rw[zB];exact h.1,fun j c u hc hu=>?_⟩
 rw[rB]at hc
 cases hj:cs[j]? with
 | none=>simp[hj]at hc
 | some c' =>
  simp only[hj,F6,FR]at hc
  subst hc
  obtain⟨h1,h2⟩:=h.2 j c' u hj hu
  refine⟨?_,h2⟩
  cases c' with
  | may i ty=>exact⟨.hole _,h2⟩
  | _=>exact h1
theorem xT {f:FuncId} (hN:∀xs r,C f xs r->BM P w0.G E f xs r) (hE:∀t d,E.T t=some d->ba P t d) (hlk:∀i b,look i=some b->st.look i=some b) (hs:al w0 I0 NoR g st a ov w)  {ld:jq} (hpk:E.peek f=none) (hld:E.lent f=some ld) {args:Array Operand} {tys:Array TypeId} {cal:Operand} {e:Eff}
  (hres:∀vals:Array Value,vals=args.map a.eval->(callFunc f vals).run P w=.ok (.enter f vals) w->(execOp a.eval ⟨dst,.call ⟨.value cal,args,tys⟩,type,pos,after,guard⟩).run P w=.ok (.enter f vals) w)
  (hh:(xq E (st.nid dst) look f ld (args.toList.map st.ev)).hits C e) (ha:e.app st dst=some st'):Good P w0 I0 ov ⟨dst,.call ⟨.value cal,args,tys⟩,type,pos,after,guard⟩ st' a w Q:=by
 exact False.elim hh
theorem xE {f:FuncId} (hN:∀xs r,C f xs r->BM P w0.G E f xs r) (hlk:∀i b,look i=some b->st.look i=some b) (hs:al w0 I0 NoR g st a ov w)  {c:Nat × Nat} (hpk:E.peek f=some c) {args:Array Operand} {tys:Array TypeId} {cal:Operand} {e:Eff}
  (hres:∀vals:Array Value,vals=args.map a.eval->(callFunc f vals).run P w=.ok (.enter f vals) w->(execOp a.eval ⟨dst,.call ⟨.value cal,args,tys⟩,type,pos,after,guard⟩).run P w=.ok (.enter f vals) w)
  (hh:(wM look f c (args.toList.map st.ev)).hits C e) (ha:e.app st dst=some st'):Good P w0 I0 ov ⟨dst,.call ⟨.value cal,args,tys⟩,type,pos,after,guard⟩ st' a w Q:=by
 exact False.elim hh
theorem xc {f:FuncId} (hN:∀xs r,C f xs r->BM P w0.G E f xs r) (hE:∀t d,E.T t=some d->ba P t d) (hlk:∀i b,look i=some b->st.look i=some b) (hs:al w0 I0 NoR g st a ov w)  {args:Array Operand} {tys:Array TypeId} {cal:Operand} {e:Eff}
  (hres:∀vals:Array Value,vals=args.map a.eval->(callFunc f vals).run P w=.ok (.enter f vals) w->(execOp a.eval ⟨dst,.call ⟨.value cal,args,tys⟩,type,pos,after,guard⟩).run P w=.ok (.enter f vals) w)
  (hh:(mO E (st.nid dst) look f (args.toList.map st.ev)).hits C e) (ha:e.app st dst=some st'):Good P w0 I0 ov ⟨dst,.call ⟨.value cal,args,tys⟩,type,pos,after,guard⟩ st' a w Q:=by
 cases hpk:E.peek f with
 | some c =>
  simp only[mO,hpk]at hh
  exact xE hN hlk hs hpk hres hh ha
 | none =>
 cases hnl:E.lent f with
 | some ld =>
  simp only[mO,hpk,hnl]at hh
  exact xT hN hE hlk hs hpk hnl hres hh ha
 | none =>
 have hevs:=hs.evs args.toList
 have hgd:∀m,(args.toList.map a.eval).getD m undef=(args.map a.eval).getD m undef:=fun m=>by simp[F8,F7]
 have wpc:∀{next:Act->World->Prop} {xs:List TV} {r:TV} (I':Nat->Prop),C f xs r->xs.length=(args.toList.map st.ev).length->w0.G.P w I'->(∀b,I' b->b<w.heap.size)->(∀(j:Nat) (x:TV),xs[j]? = some x->Rep w I' x ((args.toList.map a.eval).getD j undef)) ->
   (∀v w' I2 S,Below w.heap.size w w'->(∀b,I' b->I2 b)->(∀b,I2 b->b<w'.heap.size)->(∀b,b<w.heap.size->I2 b->I' b)->(∀b,S b->w.heap.size<=b/\b<w'.heap.size/\¬I2 b)->aq w' I2 r v S->next (a.put dst v) w') ->
   Oper.wp P ⟨dst,.call ⟨.value cal,args,tys⟩,type,pos,after,guard⟩ a w next Q:=by
  intro next xs r I' hc hl hG hlt hrep hn
  obtain⟨hcf,hcalls⟩:=(((hN xs r hc).1 hpk).1 hnl).1 I' w (args.map a.eval) hG hlt (by rw[hl];simp) (fun j x hx=>by rw[<-hgd];exact hrep j x hx)
  unfold Oper.wp
  rw[hres _ rfl hcf]
  simp only[Oper.upon]
  refine hcalls.mono ?_
  rintro e w' ⟨v,rfl,hb,I2,S,h1,h2,h3,h4,h5⟩
  exact hn v w' I2 S hb h1 h2 h3 h4 h5
 simp only[mO,hpk,hnl]at hh
 split at hh
 ·rename_i ds hds
  have htys:=xP hE hds
  cases hp:E.pure f || !j5 ds with
  | true =>
   simp only[hp,cond_true]at hh
   obtain⟨xs,⟨r,hc,hh⟩,hl,hrep⟩:=na hlk hs hevs hh
   refine wpc (fun b=>b<w.heap.size) hc hl (hs.laid hs.lt) (fun _ h=>h) (hrep _ ⟨hs.lt,fun i b h=>(hs.foot i b h).2.1⟩) (fun v w' I2 S hb i1 i2 i3 i4 hv=>?_)
   have hnI:∀b,S b->¬g.I b:=fun b hb h=>by have:=hs.lt b h;have:=(i4 b hb).1;omega
   have hg:=hs.grow hb (I':=g.I) (R':=S) (fun _ h=>h) (fun b h=>Nat.lt_of_lt_of_le (hs.lt b h) hb.size) (fun _ _ h=>h) (fun b h=>.inr ⟨(i4 b h).1,(i4 b h).2.1,hnI b h⟩)
   refine vq (ps:=[]) hg rfl rfl htys (fun _=>?_) (fun _ h=>h) hh ha
   cases hpu:E.pure f with
   | true=>exact .inl (hv.own ((((hN xs r hc).1 hpk).1 hnl).2 hpu))
   | false =>
    simp only[hpu,Bool.false_or,Bool.not_eq_true']at hp
    exact .inr ⟨hp,_,_,hv⟩
  | false =>
   simp only[hp,cond_false]at hh
   obtain⟨xs,rs,hh,hroots,hl,hrep⟩:=sP hlk hs hevs hh
   cases hn:gk rs with
   | false=>simp[hn,Prg.hits]at hh
   | true =>
    simp only[hn,cond_true]at hh
    obtain⟨r,hc,hh⟩:=hh
    obtain⟨st1,g1,f1,f2,f3,f4,_⟩:=nO (dst:=dst) rs hs hroots hn
    refine wpc g1.I hc hl (f2.laid (fun _ h=>h)) f2.lt (hrep _ f3) (fun v w' I2 S hb i1 i2 i3 i4 hv=>?_)
    have hg:=f2.grow hb (I':=I2) (R':=S) i1 i2 i3 (fun b h=>.inr (i4 b h))
    exact vq (ps:=yc rs) hg f1 f4 htys (fun _=>.inl hv) (fun _ h=>h) hh ha
 ·exact hh.elim
theorem xr {f:FuncId} (hT:∀xs r,C f xs r->Ax P w0.G f xs r) (hlk:∀i b,look i=some b->st.look i=some b) (hs:al w0 I0 NoR g st a ov w) {args:Array Operand} {tys:Array TypeId} {cal:Operand} {e:Eff}
  (hres:∀vals:Array Value,vals=args.map a.eval->(callFunc f vals).run P w=.ok (.enter f vals) w->(execOp a.eval ⟨dst,.call ⟨.value cal,args,tys⟩,type,pos,after,guard⟩).run P w=.ok (.enter f vals) w)
  (hh:(th look f (args.toList.map st.ev)).hits C e) (ha:e.app st dst=some st'):Good P w0 I0 ov ⟨dst,.call ⟨.value cal,args,tys⟩,type,pos,after,guard⟩ st' a w Q:=by
 exact False.elim hh
theorem Fh (hC:xA P w0.G E C) (hE:∀t d,E.T t=some d->ba P t d) (hlk:∀i b,look i=some b->st.look i=some b) (hs:al w0 I0 NoR g st a ov w) {f:FuncId} {args:Array Operand} {tys:Array TypeId} {fv:AV} {e:Eff}
  (hh:(opL E (st.nid dst) look (.call ⟨.value (.func f),args,tys⟩) (fv::args.toList.map st.ev)).hits C e) (ha:e.app st dst=some st'):Good P w0 I0 ov ⟨dst,.call ⟨.value (.func f),args,tys⟩,type,pos,after,guard⟩ st' a w Q:=by
 have hres:∀vals:Array Value,vals=args.map a.eval->(callFunc f vals).run P w=.ok (.enter f vals) w->(execOp a.eval ⟨dst,.call ⟨.value (.func f),args,tys⟩,type,pos,after,guard⟩).run P w=.ok (.enter f vals) w:=fun vals hv hcf=>by
  subst hv
  simp only[execOp,resolve,Act.eval,Deferred.ofValue,Sem.run_bind,Sem.run_pure,Result.andThen_ok,invoke]
  simpa using hcf
 simp only[opL]at hh
 cases htn:E.turn f with
 | true =>
  rw[htn]at hh
  exact xr (fun xs r hc=>(hC f xs r hc).1 htn) hlk hs hres hh ha
 | false =>
 rw[htn]at hh
 cases hen:E.eye f with
 | true=>rw[hen]at hh;exact hh.elim
 | false =>
 rw[hen]at hh
 exact xc (fun xs r hc=>((hC f xs r hc).2 htn).2 hen) hE hlk hs hres hh ha
theorem B9 {x:TV} {f:Nat} (h:fnOf x=some f):x=.lit (.func (.func f) #[] #[]):=by
 unfold fnOf at h
 split at h
 ·rename_i g ts fs
  cases hb:ts.size.beq 0&&fs.size.beq 0 with
  | false=>simp[hb]at h
  | true =>
   simp only[hb,cond_true,FR]at h
   subst h
   simp only[FS]at hb
   have h1:=(az _ _).1 hb.1
   have h2:=(az _ _).1 hb.2
   rw[Array.eq_empty_of_size_eq_zero h1,Array.eq_empty_of_size_eq_zero h2]
 ·cases h
theorem yU {f:FuncId} {i:Nat} (hT:E.eye f=true->E.turn f=false->∀xs r,C f xs r->zS P w0.G f xs r) (hE:∀t d,E.T t=some d->ba P t d) (hlk:∀i b,look i=some b->st.look i=some b) (hs:al w0 I0 NoR g st a ov w) {args:Array Operand} {tys:Array TypeId} {cal:Operand} {pv:Value} {e:Eff}
  (hpv:∃cs,st.look i=some (.cells cs)/\pv=.pointer (some ⟨g.β i,0,none⟩))
  (hres:∀vals:Array Value,vals=args.map a.eval ++ #[pv]->(callFunc f vals).run P w=.ok (.enter f vals) w->(execOp a.eval ⟨dst,.call ⟨.value cal,args,tys⟩,type,pos,after,guard⟩).run P w=.ok (.enter f vals) w)
  (hh:(El E (st.nid dst) look f i (args.toList.map st.ev)).hits C e) (ha:e.app st dst=some st'):Good P w0 I0 ov ⟨dst,.call ⟨.value cal,args,tys⟩,type,pos,after,guard⟩ st' a w Q:=by
 exact False.elim hh
theorem op_dyn (hC:xA P w0.G E C) (hE:∀t d,E.T t=some d->ba P t d) (hlk:∀i b,look i=some b->st.look i=some b) (hs:al w0 I0 NoR g st a ov w) {t:Tmp} {args:Array Operand} {tys:Array TypeId} {e:Eff}
  (hh:(opL E (st.nid dst) look (.call ⟨.value (.tmp t),args,tys⟩) (st.ev (.tmp t)::args.toList.map st.ev)).hits C e) (ha:e.app st dst=some st'):Good P w0 I0 ov ⟨dst,.call ⟨.value (.tmp t),args,tys⟩,type,pos,after,guard⟩ st' a w Q:=by
 simp only[opL]at hh
 split at hh
 ·rename_i x hx
  obtain⟨f,hf,hh⟩:=hh
  have:=B9 hf
  subst this
  have hev:a.eval (.tmp t)=.func (.func f) #[] #[]:=bM (cG (hs.ev (.tmp t)) hx)
  obtain⟨hln,hh⟩:=hh
  simp only[FS]at hln
  have hnl:E.lent f=none:=by simpa using hln.1.1
  have hpk:E.peek f=none:=by simpa using hln.1.2
  have h2:E.turn f=false/\E.eye f=false:=by simpa using hln.2
  obtain⟨htn,hen⟩:=h2
  obtain⟨xs,⟨r,hc,h1,hh⟩,hl,hrep⟩:=na hlk hs (hs.evs args.toList) hh
  have hgd:∀m,(args.toList.map a.eval).getD m undef=(args.map a.eval).getD m undef:=fun m=>by simp[F8,F7]
  obtain⟨hcf,hcalls⟩:=(((((hC f xs r hc).2 htn).2 hen).1 hpk).1 hnl).1 (fun b=>b<w.heap.size) w (args.map a.eval) (hs.laid hs.lt) (fun _ h=>h) (by rw[hl];simp) (fun j x hx=>by rw[<-hgd];exact hrep _ ⟨hs.lt,fun i b h=>(hs.foot i b h).2.1⟩ j x hx)
  have hrun:(execOp a.eval ⟨dst,.call ⟨.value (.tmp t),args,tys⟩,type,pos,after,guard⟩).run P w=.ok (.enter f (args.map a.eval)) w:=by
   simp only[execOp,resolve,hev,Deferred.ofValue,Sem.run_bind,Sem.run_pure,Result.andThen_ok,invoke]
   simpa using hcf
  rw[zV hh]at ha
  simp only[Eff.app,FR]at ha
  subst ha
  unfold Good Oper.wp
  rw[hrun]
  simp only[Oper.upon]
  refine hcalls.mono ?_
  rintro e w' ⟨v,rfl,hb,I2,S,i1,i2,i3,i4,hv⟩
  have hg:=hs.grow hb (I':=g.I) (R':=NoR) (fun _ h=>h) (fun b h=>Nat.lt_of_lt_of_le (hs.lt b h) hb.size) (fun _ _ h=>h) (fun b h=>h.elim)
  obtain⟨e1,e2⟩:=gu hv h1
  refine⟨_,hg.put dst (v:=.one (.t r)) ?_⟩
  rw[e1]
  exact⟨.lit _,qO e2⟩
 ·split at hh
  ·rename_i f i hfv
   have hr0:=hs.ev (.tmp t)
   rw[hfv]at hr0
   obtain⟨cs,hl,hev⟩:=hr0
   refine yU (pv:=.pointer (some ⟨g.β i,0,none⟩)) (fun he hte xs r hc=>((hC f xs r hc).2 hte).1 he) hE hlk hs ⟨cs,hl,rfl⟩ (fun vals hv hcf=>?_) hh ha
   ·subst hv
    simp only[execOp,resolve,hev,Deferred.ofValue,Sem.run_bind,Sem.run_pure,Result.andThen_ok,invoke]
    simpa using hcf
  ·exact hh.elim
theorem Ao {t:TypeId} {d:TyD} (h:ba P t d) (hk:d.kd.kY=true):∃desc,P.underlying t=some desc/\∀ms,desc≠.interface ms:=by
 obtain⟨desc,h1,h2,_⟩:=h.und
 refine⟨desc,h1,fun ms e=>?_⟩
 subst e
 simp only[o5]at h2
 rw[<-h2]at hk
 cases hk
theorem uk {t:TypeId} {d:TyD} (h:ba P t d) (hk:d.kd.kY=true) (v:Value):(Instr.makeInterface t v).run P w=.ok (.iface t v) w:=by
 obtain⟨desc,h1,h2⟩:=Ao h hk
 simp only[Instr.makeInterface,Sem.run_bind,aT h1,Result.andThen_ok]
 cases desc<;>first|rfl|exact absurd rfl (h2 _)
theorem CY {t xt:TypeId} {d:TyD} (h:ba P t d) (hk:d.kd.kY=true) (v:Value):(Instr.typeAssert (.iface t v) xt t false).run P w=.ok v w:=by
 obtain⟨desc,h1,h2⟩:=Ao h hk
 simp only[Instr.typeAssert,Sem.run_bind,aT h1,Result.andThen_ok]
 cases desc<;>first|(simp;done)|exact absurd rfl (h2 _)
theorem op_ifc (hE:∀t d,E.T t=some d->ba P t d) (hs:al w0 I0 NoR g st a ov w) {t:TypeId} {x:Operand} {e:Eff} (hh:(opL E id look (.makeInterface t x) [st.ev x]).hits C e) (ha:e.app st dst=some st') :
  Good P w0 I0 ov ⟨dst,.makeInterface t x,type,pos,after,guard⟩ st' a w Q:=by
 simp only[opL]at hh
 have hx:=hs.ev x
 split at hh
 ·rename_i d hT
  have ht:=hE _ _ hT
  unfold DT at hh
  cases hk:d.kd.kY with
  | false=>rw[hk]at hh;exact hh.elim
  | true =>
   rw[hk]at hh
   simp only[cond_true]at hh
   split at hh
   ·rename_i i hxi
    rw[hxi]at hx
    obtain⟨cs,hl,hv⟩:=hx
    cases hh
    exact aR hs (v:=.one (.ifp t i)) (u:=.iface t (.pointer (some ⟨g.β i,0,none⟩))) (by simp[execOp,hv,uk ht hk]) ⟨cs,hl,rfl⟩ ha
   ·split at hh
    ·rename_i y hy
     have hr:=cG hx hy
     obtain⟨v,hv,hh⟩:=hh
     unfold pifc at hv
     split at hv
     ·split at hv
      ·simp only[FR]at hv
       subst hv
       have he:=bM hr
       exact cO hs (by simp[execOp,he,uk ht hk]) (.lit _) rfl hh ha
      ·cases hv
     ·cases hv
    ·exact hh.elim
 ·exact hh.elim
theorem ES (hE:∀t d,E.T t=some d->ba P t d) (hs:al w0 I0 NoR g st a ov w) {t xt:TypeId} {x:Operand} {ok:Bool} {e:Eff} (hh:(opL E id look (.typeAssert x xt t ok) [st.ev x]).hits C e) (ha:e.app st dst=some st') :
  Good P w0 I0 ov ⟨dst,.typeAssert x xt t ok,type,pos,after,guard⟩ st' a w Q:=by
 cases ok with
 | true=>simp[opL,Prg.hits]at hh
 | false =>
 simp only[opL]at hh
 have hx:=hs.ev x
 split at hh
 ·rename_i d hT
  have ht:=hE _ _ hT
  unfold ue at hh
  cases hk:d.kd.kY with
  | false=>rw[hk]at hh;exact hh.elim
  | true =>
   rw[hk]at hh
   simp only[cond_true]at hh
   split at hh
   ·rename_i y hy
    have hr:=cG hx hy
    obtain⟨v,hv,hh⟩:=hh
    unfold pasrt at hv
    split at hv
    ·split at hv
     ·rename_i hc
      obtain⟨rfl,hsc⟩:=hc
      simp only[FR]at hv
      subst hv
      have he:=bM hr
      exact cO hs (by simp only[execOp,he];simp only[Sem.run_bind,CY ht hk,Result.andThen_ok,Sem.run_pure]) (.lit _) (qO hsc) hh ha
     ·cases hv
    ·cases hv
   ·exact hh.elim
 ·exact hh.elim
theorem Fd (hE:∀t d,E.T t=some d->ba P t d) (hlk:∀i b,look i=some b->st.look i=some b) (hs:al w0 I0 NoR g st a ov w) {t:TypeId} {len:Nat} {parts:Array (Nat × Operand)} {e:Eff}
  (hh:(CH E t len parts ((Op.buildSlice t len parts).operands.toList.map st.ev)).hits C e) (ha:e.app st dst=some st'):Good P w0 I0 ov ⟨dst,.buildSlice t len parts,type,pos,after,guard⟩ st' a w Q:=by
 exact False.elim hh
end
end Go.Ab
end
section
namespace Go.Ab
open Go.RowKit
structure gh (P:Program) (G:Laid) (E:Env) (C:Cal):Prop where
 ty:∀t d,E.T t=some d->ba P t d
 call:xA P G E C
section
variable {P:Program} {E:Env} {C:Cal} {w0:Bs} {w w':World} {I0 I R:Nat->Prop} {g g':Gh} {st st':ASt} {a:Act} {ov:List Value} {look:Look} {Q:Exit->Act->World->Prop} {id:Nat}
theorem Dq (hE:gh P w0.G E C) (hlk:∀i b,look i=some b->st.look i=some b) (hs:al w0 I0 NoR g st a ov w) {o:Oper} {e:Eff} (hh:(opL E (st.nid o.dst) look o.op (o.op.operands.toList.map st.ev)).hits C e) (ha:e.app st o.dst=some st') :
  Good P w0 I0 ov o st' a w Q:=by
 obtain⟨dst,op,type,pos,after,guard⟩:=o
 cases op with
 | move x=>exact EQ hs hh ha
 | assign x=>exact BB hs hh ha
 | pick c x y=>exact EG hs hh ha
 | alloc t=>exact Cl hE.ty hs hh ha
 | box t x=>exact op_box hE.ty hs hh ha
 | build t parts=>exact DG hE.ty hs hh ha
 | makeFunc fn first cap=>exact xH hs hh ha
 | buildSlice t len parts =>
  simp only[opL]at hh
  cases hc:E.cold t && !(len.beq 0)with
  | true=>rw[hc]at hh;exact Fd hE.ty hlk hs hh ha
  | false=>rw[hc]at hh;exact tZ hE.ty hlk hs hh ha
 | load t x=>exact EX hE.ty hlk hs hh ha
 | store t x y=>exact C0 hE.ty hlk hs hh ha
 | nilCheck x=>exact yd hs hh ha
 | binOp op xt x y yt=>exact op_bin hE.ty hlk hs hh ha
 | unOp op xt x=>exact op_un hs hh ha
 | convert xt dt x=>exact zN hE.ty hlk hs hh ha
 | makeSlice t x y=>exact vS hE.ty hs hh ha
 | makeInterface t x=>exact op_ifc hE.ty hs hh ha
 | typeAssert x xt t ok=>exact ES hE.ty hs hh ha
 | slice t x lo hi mx=>exact Ea hE.ty hlk hs hh ha
 | fieldAddr t x f=>exact vO hE.ty hs hh ha
 | field t x f=>exact Ee hE.ty hs hh ha
 | indexAddr t x y=>exact wi hE.ty hlk hs hh ha
 | index t x y=>exact DL hE.ty hs hh ha
 | extract x j=>exact zv hs hh ha
 | call c =>
  obtain⟨callee,args,tys⟩:=c
  cases callee with
  | builtin b =>
   have hops:(Op.call ⟨.builtin b,args,tys⟩).operands.toList=args.toList:=by simp[Op.operands,Call.operands]
   simp only[hops]at hh
   simp only[opL]at hh
   unfold eD at hh
   split at hh
   ·rename_i x ty hargs htys
    obtain⟨ox,rfl,hox⟩:=list1 hargs
    have:=arr1 htys
    subst this
    split at hh
    ·rename_i d hT
     rw[<-hox]at hh
     exact ze hlk hs (hE.ty _ _ hT) hh ha
    ·exact hh.elim
   ·rename_i s x ty ty' hargs htys
    obtain⟨os,ox,rfl,hos,hox⟩:=list2 hargs
    have:=arr2 htys
    subst this
    split at hh
    ·rename_i e1 d hel
     cases hb:Nat.beq ty ty' with
     | false =>
      simp only[hb,cond_false]at hh
      split at hh
      ·rename_i hu
       exact hh.elim
      ·exact hh.elim
     | true =>
      simp only[hb,cond_true]at hh
      have:=(az _ _).1 hb
      subst this
      rw[<-hos,<-hox]at hh
      exact tX hE.ty hlk hs hel hh ha
    ·exact hh.elim
   ·rename_i s x ty ty' hargs htys
    obtain⟨os,ox,rfl,hos,hox⟩:=list2 hargs
    have:=arr2 htys
    subst this
    split at hh
    ·rename_i e1 d hel
     cases hb:Nat.beq ty ty' with
     | false=>simp[hb,Prg.hits]at hh
     | true =>
      simp only[hb,cond_true]at hh
      have:=(az _ _).1 hb
      subst this
      rw[<-hos,<-hox]at hh
      exact xC hE.ty hlk hs hel hh ha
    ·exact hh.elim
   ·rename_i s ty hargs htys
    obtain⟨os,rfl,hos⟩:=list1 hargs
    have:=arr1 htys
    subst this
    split at hh
    ·rename_i e1 d hel
     exact hh.elim
    ·exact hh.elim
   ·rename_i x y hargs
    obtain⟨ox,oy,rfl,hox,hoy⟩:=list2 hargs
    rw[<-hox,<-hoy]at hh
    exact s6 hs hh ha
   ·rename_i x y hargs
    obtain⟨ox,oy,rfl,hox,hoy⟩:=list2 hargs
    rw[<-hox,<-hoy]at hh
    exact s6 hs hh ha
   ·exact hh.elim
  | value f =>
   cases f with
   | func f =>
    have hops:(Op.call ⟨.value (.func f),args,tys⟩).operands.toList=.func f::args.toList:=by simp[Op.operands,Call.operands]
    simp only[hops,List.map_cons]at hh
    exact Fh hE.call hE.ty hlk hs hh ha
   | tmp t =>
    have hops:(Op.call ⟨.value (.tmp t),args,tys⟩).operands.toList=.tmp t::args.toList:=by simp[Op.operands,Call.operands]
    simp only[hops,List.map_cons]at hh
    exact op_dyn hE.call hE.ty hlk hs hh ha
   | _=>simp[opL,Prg.hits]at hh
  | invoke r m=>simp[opL,Prg.hits]at hh
 | _=>simp[opL,Prg.hits]at hh
def AV.nf:AV->AV
 | .one (.t (.lit (.bool b)))=>.bl b
 | .tv (.lit (.bool b))=>.bl b
 | v=>v
def Eff.nfE:Eff->Eff
 | .val v=>.val v.nf
 | .new b v=>.new b v.nf
 | .upd i b v=>.upd i b v.nf
 | .gen ps v=>.gen ps v.nf
def ASt.nfS (st:ASt):ASt:=⟨st.slots.map AV.nf,st.boxes,st.out⟩
theorem aL (v:AV):v.nf=v\/∃b,v.nf=.bl b/\(v=.one (.t (.lit (.bool b)))\/v=.tv (.lit (.bool b))):=by
 unfold AV.nf
 split
 ·exact .inr ⟨_,rfl,.inl rfl⟩
 ·exact .inr ⟨_,rfl,.inr rfl⟩
 ·exact .inl rfl
theorem vk (v:AV):v.nf.nf=v.nf:=by
 rcases aL v with h|⟨b,h,_⟩
 ·rw[h,h]
 ·rw[h];rfl
theorem iq (v:AV):v.nf.tv? = v.tv? := by
 rcases aL v with h|⟨b,h,rfl|rfl⟩
 ·rw[h]
 ·rfl
 ·rfl
theorem CE {v:AV} {u:Value}:bX w g look v.nf u ↔ bX w g look v u:=by
 rcases aL v with h|⟨b,h,rfl|rfl⟩
 ·rw[h]
 ·rw[h]
  constructor
  ·intro h'
   have:u=.bool b:=h'
   subst this
   exact⟨.lit _,rfl⟩
  ·intro h'
   exact bM h'.1
 ·rw[h]
  constructor
  ·intro h'
   have:u=.bool b:=h'
   subst this
   exact .lit _
  ·intro h'
   exact bM h'
theorem mi (v:AV):v.nf.d9=v.d9:=by
 rcases aL v with h|⟨b,h,rfl|rfl⟩
 ·rw[h]
 ·rw[h];rfl
 ·rw[h];rfl
theorem cr (e:Eff):dC e.nfE=dC e:=by cases e<;>simp only[Eff.nfE,dC,mi]
theorem oI (e:Eff):e.nfE.plain=e.plain:=by cases e<;>rfl
theorem xe (base:Nat) (own:List (List Nat × List Nat)) (e:Eff):e.nfE.mT base own=e.mT base own:=by cases e<;>rfl
theorem x5 {S:Type} {agg:Bool} {n:Nat} {v:AV} {k k':List CA->Prg S} {e:S} (hk:∀cs,(k cs).hits C e->(k' cs).hits C e) (h:(v.bd agg n k).hits C e):(v.bd agg n k').hits C e:=by
 unfold AV.bd at h ⊢
 split at h
 ·rename_i c
  cases hc:c.kept with
  | true=>rw[hc]at h;exact hk _ h
  | false=>rw[hc]at h;exact h.elim
 ·exact⟨h.1,hk _ h.2⟩
 ·exact hk _ h
 ·exact hk _ h
 ·rename_i cs
  cases hc:cs.length.beq n with
  | true=>rw[hc]at h;exact hk _ h
  | false=>rw[hc]at h;exact h.elim
 ·exact⟨h.1,hk _ h.2⟩
 ·exact h.elim
theorem fM {S:Type} {agg:Bool} {n:Nat} {v:AV} {k:List CA->Prg S} {e:S} (h:(v.bd agg n k).hits C e):(v.nf.bd agg n k).hits C e:=by
 rcases aL v with h1|⟨b,h1,rfl|rfl⟩
 ·rwa[h1]
 ·rw[h1]
  cases agg with
  | false=>exact h
  | true=>exact h.elim
 ·rw[h1]
  cases agg with
  | false=>exact h.2
  | true=>exact(by simp[AV.bd,TV.isAgg,Prg.hits]at h)
theorem lD {S:Type} {e:S}:∀{vs:List AV} {k:List CA->Prg S},(kx vs k).hits C e->(kx (vs.map AV.nf) k).hits C e
 | [],k,h=>h
 | x :: vs, k, h => by
  simp only[kx,List.map_cons]at h ⊢
  refine fM ?_
  unfold AV.bd at h ⊢
  split at h
  ·rename_i c _
   cases hc:c.kept with
   | false=>simp[hc,Prg.hits]at h
   | true=>simp only[hc,cond_true]at h ⊢;exact lD h
  ·exact⟨h.1,lD h.2⟩
  ·exact lD h
  ·exact lD h
  ·rename_i cs' hb;cases hb
  ·rename_i cs' hb;cases hb
  ·exact h.elim
theorem jL {f:FuncId} {e:Eff}:∀{vs:List AV} {k:List CA->List CA},(kx vs fun cs=>(.ret (.val (.clo f (k cs))):Out)).hits C e->∃cs,e=.val (.clo f cs)
 | [],k,h=>⟨_,h.symm⟩
 | x :: vs, k, h => by
  simp only[kx]at h
  unfold AV.bd at h
  split at h
  ·rename_i c _
   cases hc:c.kept with
   | false=>simp[hc,Prg.hits]at h
   | true=>simp only[hc,cond_true]at h;exact jL (k:=fun cs=>k (_++cs)) h
  ·exact jL (k:=fun cs=>k (_++cs)) h.2
  ·exact jL (k:=fun cs=>k (_++cs)) h
  ·exact jL (k:=fun cs=>k (_++cs)) h
  ·rename_i hb;cases hb
  ·rename_i hb;cases hb
  ·exact h.elim
theorem vF {S:Type} {at_:Nat->Option (Nat × Bool × Nat)} {k:List CA->Prg S} {e:S}:∀{is:List Nat} {vs:List AV} {cs:List CA},(cp at_ is vs cs k).hits C e->(cp at_ is (vs.map AV.nf) cs k).hits C e
 | [],[],cs,h=>h
 | i :: is, x :: vs, cs, h => by
  simp only[cp,List.map_cons]at h ⊢
  split at h
  ·rename_i off agg n hat
   have key:∀ps,((bif (off+ps.length).ble cs.length&&ps.length.beq n then cp at_ is vs (bH cs off ps) k else .fail):Prg S).hits C e->((bif (off+ps.length).ble cs.length&&ps.length.beq n then cp at_ is (vs.map AV.nf) (bH cs off ps) k else .fail):Prg S).hits C e:=by
    intro ps hp
    cases hb:(off+ps.length).ble cs.length&&ps.length.beq n with
    | false=>simp[hb,Prg.hits]at hp
    | true=>simp only[hb,cond_true]at hp ⊢;exact vF hp
   refine fM ?_
   unfold AV.bd at h ⊢
   split at h
   ·rename_i c
    cases hc:c.kept with
    | false=>simp[hc,Prg.hits]at h
    | true=>simp only[hc,cond_true]at h ⊢;exact key _ h
   ·exact⟨h.1,key _ h.2⟩
   ·exact key _ h
   ·exact key _ h
   ·rename_i cs'
    have:=key cs'
    cases hc:cs'.length.beq n with
    | false=>simp[hc,Prg.hits]at h
    | true=>simp only[hc,cond_true]at h this ⊢;exact this h
   ·exact⟨h.1,key _ h.2⟩
   ·exact h.elim
  ·exact h.elim
 | [],_::_,cs,h=>h.elim
 | _::_,[],cs,h=>h.elim
theorem AM {S:Type} {v:AV} {k:TV->Prg S}:tC look v.nf k=tC look v k:=by
 rcases aL v with h|⟨b,h,rfl|rfl⟩
 ·rw[h]
 ·rfl
 ·rfl
theorem CL {S:Type} {v:AV} {k:TV->Prg S}:rC look v.nf k=rC look v k:=by
 rcases aL v with h|⟨b,h,rfl|rfl⟩
 ·rw[h]
 ·rfl
 ·rfl
theorem DJ {S:Type} {v:AV} {k:TV->List (Nat × Nat)->Prg S}:tr look v.nf k=tr look v k:=by
 rcases aL v with h|⟨b,h,rfl|rfl⟩
 ·rw[h]
 ·rfl
 ·rfl
theorem rF {S:Type}:∀{vs:List AV} {k:List TV->Prg S},lends look (vs.map AV.nf) k=lends look vs k
 | [],k=>rfl
 | v::vs,k=>by simp only[List.map_cons,lends,CL,rF]
theorem xX {S:Type}:∀{vs:List AV} {k:List TV->List (Nat × Nat)->Prg S},hands look (vs.map AV.nf) k=hands look vs k
 | [],k=>rfl
 | v::vs,k=>by simp only[List.map_cons,hands,DJ,xX]
theorem DX {E:Env} {id:Nat} {look:Look} {f:FuncId} {ld:jq} (vs:List AV):xq E id look f ld (vs.map AV.nf)=xq E id look f ld vs:=by
 rfl
theorem Do {look:Look} {f:FuncId} {c:Nat × Nat} (vs:List AV):wM look f c (vs.map AV.nf)=wM look f c vs:=by
 rfl
theorem Dc {look:Look} {f:FuncId} (vs:List AV):th look f (vs.map AV.nf)=th look f vs:=by
 rfl
theorem E0 {E:Env} {id:Nat} {look:Look} {f:FuncId} {i:Nat} (vs:List AV):El E id look f i (vs.map AV.nf)=El E id look f i vs:=by
 rfl
theorem EL (d:TyD) (t:TypeId) (v:AV):DT d t v.nf=DT d t v:=by
 rcases aL v with h|⟨b,h,rfl|rfl⟩
 ·rw[h]
 ·rfl
 ·rfl
theorem D9 (d:TyD) (t:TypeId) (v:AV):ue d t v.nf=ue d t v:=by
 simp only[ue,iq]
theorem By {S:Type} {v:Option AV} {k:Option Nat->Prg S}:fU (v.map AV.nf) k=fU v k:=by
 cases v with
 | none=>rfl
 | some v=>simp only[fU,F6,iq]
theorem uN (v:AV):rJ v.nf=rJ v:=by
 rcases aL v with h|⟨b,h,rfl|rfl⟩
 ·rw[h]
 ·rfl
 ·rfl
theorem AO {S:Type} {d:TyD} {dest:Option Nat} {v:AV} {k:List (List TV)->List Prim->Prg S}:yi look d dest v.nf k=yi look d dest v k:=by
 rcases aL v with h|⟨b,h,rfl|rfl⟩
 ·rw[h]
 ·rfl
 ·rfl
theorem mg {kd:Kd} {sz:Nat} {x:AV} {lo hi:Option AV}:iQ look kd sz x.nf (lo.map AV.nf) (hi.map AV.nf)=iQ look kd sz x lo hi:=by
 simp only[iQ,iq,By]
 rcases aL x with h|⟨b,h,rfl|rfl⟩
 ·rw[h]
  cases lo<;>rfl
 ·rfl
 ·rfl
theorem Dw (v:AV):uh v.nf=uh v:=by
 rcases aL v with h|⟨b,h,rfl|rfl⟩
 ·rw[h]
 ·rfl
 ·rfl
theorem Ex {look:Look} {kd:Kd} (v:AV):wZ look kd v.nf=wZ look kd v:=by
 rcases aL v with h|⟨b,h,rfl|rfl⟩
 ·rw[h]
 ·rw[h];cases kd<;>rfl
 ·rw[h];cases kd<;>rfl
theorem opL_nf {op : Op} {vs : List AV} {e : Eff} (h : (opL E id look op vs).hits C e) : ∃ e', (opL E id look op (vs.map AV.nf)).hits C e' ∧ e'.nfE = e.nfE := by
 cases op with
 | move x =>
  rcases vs with _|⟨v,_|⟨v',r⟩⟩<;>first|exact h.elim|skip
  cases h
  exact⟨_,rfl,by simp[Eff.nfE,vk]⟩
 | assign x =>
  rcases vs with _|⟨v,_|⟨v',r⟩⟩<;>first|exact h.elim|skip
  cases h
  exact⟨_,rfl,by simp[Eff.nfE,vk]⟩
 | pick c x y =>
  rcases vs with _|⟨v,_|⟨v',_|⟨v'',_|⟨v3,r⟩⟩⟩⟩<;>first|exact h.elim|skip
  simp only[opL]at h
  split at h
  ·rename_i b
   cases h
   refine⟨_,rfl,?_⟩
   cases b<;>simp[Eff.nfE,vk]
  ·rename_i v
   obtain⟨b,hb,h⟩:=h
   have hv:v=.lit (.bool b):=by
    unfold asBool at hb
    split at hb
    ·cases hb;rfl
    ·cases hb
   subst hv
   rcases h with⟨rfl,h⟩|⟨rfl,h⟩<;>(cases h;exact⟨_,rfl,by simp[Eff.nfE,vk]⟩)
  ·rename_i v
   obtain⟨b,hb,h⟩:=h
   have hv:v=.lit (.bool b):=by
    unfold asBool at hb
    split at hb
    ·cases hb;rfl
    ·cases hb
   subst hv
   rcases h with⟨rfl,h⟩|⟨rfl,h⟩<;>(cases h;exact⟨_,rfl,by simp[Eff.nfE,vk]⟩)
  ·exact h.elim
 | alloc t =>
  rcases vs with _|⟨v,r⟩<;>first|exact h.elim|exact⟨e,h,rfl⟩
 | box t x =>
  rcases vs with _|⟨v,_|⟨v',r⟩⟩<;>first|exact h.elim|skip
  refine⟨e,?_,rfl⟩
  simp only[opL,List.map_cons,List.map_nil]at h ⊢
  split at h
  ·exact fM h
  ·exact h.elim
 | makeFunc fn first cap =>
  cases fn with
  | func f =>
   have:∃cs,e=.val (.clo f cs):=by
    simp only[opL]at h
    cases hb:first.size.beq 0 with
    | false=>simp[hb,Prg.hits]at h
    | true =>
     simp only[hb,cond_true]at h
     exact jL (k:=fun l=>l) h
   obtain⟨cs,rfl⟩:=this
   refine⟨_,?_,rfl⟩
   simp only[opL]at h ⊢
   cases hb:first.size.beq 0 with
   | false=>simp[hb,Prg.hits]at h
   | true=>simp only[hb,cond_true]at h ⊢;exact lD h
  | _=>exact h.elim
 | build t parts =>
  refine⟨e,?_,rfl⟩
  simp only[opL]at h ⊢
  split at h
  ·rename_i d hd
   cases hb:lQ E.T d.kd with
   | false=>simp[hb,Prg.hits]at h
   | true=>simp only[hb,cond_true]at h ⊢;exact vF h
  ·exact h.elim
 | buildSlice t len parts =>
  refine⟨e,?_,rfl⟩
  simp only[opL]at h ⊢
  cases hc:E.cold t && !(len.beq 0)with
  | true =>
   rw[hc]at h
   simp only[cond_true]at h ⊢
   exact h.elim
  | false =>
   rw[hc]at h
   simp only[cond_false]at h ⊢
   unfold iV at h ⊢
   split at h
   ·exact vF h
   ·exact h.elim
 | load t x =>
  rcases vs with _|⟨v,_|⟨v',r⟩⟩<;>first|exact h.elim|skip
  refine⟨e,?_,rfl⟩
  rcases aL v with h1|⟨b,h1,rfl|rfl⟩
  ·simpa only[List.map_cons,List.map_nil,h1]using h
  ·simp only[opL]at h;split at h<;>exact h.elim
  ·simp only[opL]at h;split at h<;>exact h.elim
 | store t x y =>
  rcases vs with _|⟨v,_|⟨v',_|⟨v'',r⟩⟩⟩<;>first|exact h.elim|skip
  refine⟨e,?_,rfl⟩
  simp only[opL,List.map_cons,List.map_nil]at h ⊢
  split at h
  ·rcases aL v with h1|⟨b,h1,rfl|rfl⟩
   ·rw[h1]
    unfold wc at h ⊢
    split at h
    ·rename_i e0 _ _ i0 off0 len0 n0
     cases hk0:e0.kd.isAgg with
     | true=>rw[hk0]at h;exact h.elim
     | false =>
      rw[hk0]at h
      simp only[cond_false]at h ⊢
      split at h
      ·exact fM h
      ·exact h.elim
    ·exact fM h
    ·exact fM h
    ·exact h.elim
   ·exact h.elim
   ·exact h.elim
  ·exact h.elim
 | nilCheck x =>
  rcases vs with _|⟨v,_|⟨v',r⟩⟩<;>first|exact h.elim|skip
  refine⟨e,?_,rfl⟩
  rcases aL v with h1|⟨b,h1,rfl|rfl⟩
  ·simpa only[List.map_cons,List.map_nil,h1]using h
  ·exact h.elim
  ·exact h.elim
 | binOp op xt x y yt =>
  rcases vs with _|⟨v,_|⟨v',_|⟨v'',r⟩⟩⟩<;>first|exact h.elim|skip
  refine⟨e,?_,rfl⟩
  simp only[opL,List.map_cons,List.map_nil]at h ⊢
  split at h
  ·unfold EH at h ⊢
   split at h
   ·split at h
    ·exact fM (x5 (fun cs h=>fM h) h)
    ·exact h.elim
   ·simp only[E9,Dw]at h ⊢
    exact h
   ·simp only[E6,AM,iq]at h ⊢
    exact h
  ·exact h.elim
 | unOp op xt x =>
  rcases vs with _|⟨v,_|⟨v',r⟩⟩<;>first|exact h.elim|skip
  rcases aL v with h1|⟨b,h1,h2⟩
  ·refine⟨e,?_,rfl⟩
   simpa only[List.map_cons,List.map_nil,h1]using h
  ·have hv:∃t,(opL E id look (.unOp op xt x) [v]).hits C e->(Prg.tv (pun op (.lit (.bool b))) vt).hits C e:=⟨(),by rcases h2 with rfl|rfl<;>intro h<;>cases op<;>exact h⟩
   obtain⟨_,hv⟩:=hv
   obtain⟨z,hz,hh⟩:=hv h
   cases op with
   | not =>
    simp only[pun,FR]at hz
    subst hz
    cases hh
    refine⟨.val (.bl !b),?_,rfl⟩
    simp only[List.map_cons,List.map_nil,h1]
    rfl
   | _=>simp[pun]at hz
 | convert xt dt x =>
  rcases vs with _|⟨v,_|⟨v',r⟩⟩<;>first|exact h.elim|skip
  refine⟨e,?_,rfl⟩
  simp only[opL,List.map_cons,List.map_nil,As,iq,AM]at h ⊢
  exact h
 | makeSlice t x y =>
  rcases vs with _|⟨v,_|⟨v',_|⟨v'',r⟩⟩⟩<;>first|exact h.elim|skip
  refine⟨e,?_,rfl⟩
  simp only[opL,List.map_cons,List.map_nil,iq]at h ⊢
  exact h
 | slice t x lo hi mx =>
  refine⟨e,?_,rfl⟩
  cases mx with
  | some m=>rcases vs with _|⟨v,r⟩<;>exact h.elim
  | none =>
   rcases vs with _|⟨v,r⟩
   ·exact h.elim
   ·simp only [opL, List.map_cons] at h ⊢
    split at h
    ·rename_i d hT
     split at h
     ·rename_i sz hsz
      cases lo with
      | none =>
       cases hi with
       | none =>
        rcases r with _|⟨l,r⟩
        ·have:=mg (look:=look) (kd:=d.kd) (sz:=sz) (x:=v) (lo:=none) (hi:=none)
         simp only[Option.map_none]at this
         simp only[List.map_nil]
         rw[this];exact h
        ·exact h.elim
       | some hh =>
        rcases r with _|⟨l,_|⟨l',r⟩⟩
        ·exact h.elim
        ·have:=mg (look:=look) (kd:=d.kd) (sz:=sz) (x:=v) (lo:=none) (hi:=some l)
         simp only[Option.map_none,F6]at this
         simp only[List.map_cons,List.map_nil]
         rw[this];exact h
        ·exact h.elim
      | some ll =>
       cases hi with
       | none =>
        rcases r with _|⟨l,_|⟨l',r⟩⟩
        ·exact h.elim
        ·have:=mg (look:=look) (kd:=d.kd) (sz:=sz) (x:=v) (lo:=some l) (hi:=none)
         simp only[Option.map_none,F6]at this
         simp only[List.map_cons,List.map_nil]
         rw[this];exact h
        ·exact h.elim
       | some hh =>
        rcases r with _|⟨l,_|⟨l',_|⟨l'',r⟩⟩⟩
        ·exact h.elim
        ·exact h.elim
        ·have:=mg (look:=look) (kd:=d.kd) (sz:=sz) (x:=v) (lo:=some l) (hi:=some l')
         simp only[F6]at this
         simp only[List.map_cons,List.map_nil]
         rw[this];exact h
        ·exact h.elim
     ·exact h.elim
    ·exact h.elim
 | fieldAddr t x f =>
  rcases vs with _|⟨v,_|⟨v',r⟩⟩<;>first|exact h.elim|skip
  refine⟨e,?_,rfl⟩
  rcases aL v with h1|⟨b,h1,rfl|rfl⟩
  ·simpa only[List.map_cons,List.map_nil,h1]using h
  ·simp only[opL]at h
   split at h
   ·rename_i hv
    cases hv
    split at h
    ·rename_i n _ _
     cases hb:Nat.blt 0 n<;>simp[hb,CA.add,Prg.hits]at h
    ·exact h.elim
   ·exact h.elim
  ·simp only[opL]at h
   split at h
   ·rename_i hv;cases hv
   ·exact h.elim
 | field t x f =>
  rcases vs with _|⟨v,_|⟨v',r⟩⟩<;>first|exact h.elim|skip
  refine⟨e,?_,rfl⟩
  rcases aL v with h1|⟨b,h1,rfl|rfl⟩
  ·simpa only[List.map_cons,List.map_nil,h1]using h
  ·simp only[opL]at h
   split at h
   ·split at h<;>exact h.elim
   ·exact h.elim
  ·simp only[opL]at h
   split at h
   ·split at h
    ·simp[vY,TV.isAgg,Prg.hits]at h
    ·exact h.elim
   ·exact h.elim
 | indexAddr t x y =>
  rcases vs with _|⟨v,_|⟨v',_|⟨v'',r⟩⟩⟩<;>first|exact h.elim|skip
  refine⟨e,?_,rfl⟩
  simp only[opL,List.map_cons,List.map_nil]at h ⊢
  split at h
  ·rcases aL v with h1|⟨b,h1,rfl|rfl⟩
   ·simp only[h1,pH,iq]at h ⊢;exact h
   ·simp only[pH,iq]at h ⊢;exact h
   ·simp only[pH,iq]at h ⊢;exact h
  ·unfold qY at h ⊢
   rw[iq]
   rcases aL v with h1|⟨b,h1,rfl|rfl⟩
   ·rw[h1];exact h
   ·split at h
    ·split at h<;>first|exact h.elim|(rename_i hx _;cases hx)
    ·exact h.elim
   ·split at h
    ·split at h<;>first|exact h.elim|(rename_i hx _;cases hx)
    ·exact h.elim
 | index t x y =>
  rcases vs with _|⟨v,_|⟨v',_|⟨v'',r⟩⟩⟩<;>first|exact h.elim|skip
  refine⟨e,?_,rfl⟩
  simp only[opL,List.map_cons,List.map_nil,iq]at h ⊢
  split at h
  ·exact h
  ·unfold rn at h ⊢
   rw[iq]
   rcases aL v with h1|⟨b,h1,rfl|rfl⟩
   ·rw[h1];exact h
   ·split at h
    ·split at h<;>first|exact h.elim|(rename_i hx _;cases hx)
    ·exact h.elim
   ·split at h
    ·split at h<;>first|exact h.elim|(rename_i hx _;cases hx)
    ·exact h.elim
 | extract x j =>
  rcases vs with _|⟨v,_|⟨v',r⟩⟩<;>first|exact h.elim|skip
  refine⟨e,?_,rfl⟩
  rcases aL v with h1|⟨b,h1,rfl|rfl⟩
  ·simpa only[List.map_cons,List.map_nil,h1]using h
  ·exact h.elim
  ·exact h.elim
 | call c =>
  refine⟨e,?_,rfl⟩
  obtain⟨callee,args,tys⟩:=c
  cases callee with
  | builtin b =>
   simp only[opL]at h ⊢
   unfold eD at h
   split at h
   ·rename_i x ty htys
    simp only[htys,eD,List.map_cons,List.map_nil]
    split at h
    ·rename_i d hd
     have key:∀kd,(wZ look kd x).hits C e->(wZ look kd x.nf).hits C e:=fun kd h=>by rw[Ex];exact h
     exact key _ h
    ·exact h.elim
   ·rename_i s x ty ty' htys
    simp only[htys,eD,List.map_cons,List.map_nil]
    split at h
    ·rename_i _ d hel
     cases hb:Nat.beq ty ty' with
     | false =>
      simp only[hb,cond_false]at h ⊢
      split at h
      ·rename_i hu
       exact h.elim
      ·exact h.elim
     | true =>
      simp only[hb,cond_true]at h ⊢
      unfold nM at h ⊢
      rw[AO,uN]
      rcases aL s with h1|⟨b,h1,rfl|rfl⟩
      ·rw[h1];exact h
      ·exact h
      ·exact h
    ·exact h.elim
   ·rename_i s x ty ty' htys
    simp only[htys,eD,List.map_cons,List.map_nil]
    split at h
    ·rename_i _ d hel
     cases hb:Nat.beq ty ty' with
     | false=>simp[hb,Prg.hits]at h
     | true =>
      simp only[hb,cond_true]at h ⊢
      unfold Aw at h ⊢
      rw[AO,uN]
      rcases aL s with h1|⟨b,h1,rfl|rfl⟩
      ·rw[h1];exact h
      ·exact h
      ·exact h
    ·exact h.elim
   ·rename_i s ty htys
    simp only[htys,eD,List.map_cons,List.map_nil]
    split at h
    ·exact h.elim
    ·exact h.elim
   ·simp only[eD,List.map_cons,List.map_nil,wR,iq]at h ⊢
    exact h
   ·simp only[eD,List.map_cons,List.map_nil,wR,iq]at h ⊢
    exact h
   ·exact h.elim
  | value f =>
   cases f with
   | func f =>
    rcases vs with _|⟨v,r⟩
    ·exact h.elim
    ·simp only[opL,List.map_cons,mO,rF,xX,DX,Do,Dc]at h ⊢
     exact h
   | tmp t =>
    rcases vs with _|⟨v,r⟩
    ·exact h.elim
    ·simp only[opL,List.map_cons,iq,rF,E0]at h ⊢
     rcases aL v with h1|⟨b,h1,rfl|rfl⟩
     ·rw[h1];exact h
     ·exact h
     ·exact h
   | _=>exact h.elim
  | invoke r m=>exact h.elim
 | makeInterface t x =>
  rcases vs with _|⟨v,_|⟨v',r⟩⟩<;>first|exact h.elim|skip
  refine⟨e,?_,rfl⟩
  simp only[opL,List.map_cons,List.map_nil,EL]at h ⊢
  exact h
 | typeAssert x xt t ok =>
  rcases vs with _|⟨v,_|⟨v',r⟩⟩<;>cases ok<;>first|exact h.elim|skip
  refine⟨e,?_,rfl⟩
  simp only[opL,List.map_cons,List.map_nil,D9]at h ⊢
  exact h
 | _=>exact h.elim
theorem lG (st:ASt):st.nfS.look=st.look:=rfl
theorem nQ (st:ASt):st.nfS.base=st.base:=rfl
theorem wj (st:ASt) (d:Option Tmp):st.nfS.nid d=st.nid d:=by cases d<;>rfl
theorem kw (st:ASt) (d:Option Tmp) (v:AV):(st.put d v).nfS=st.nfS.put d v.nf:=by
 cases d with
 | none=>rfl
 | some d=>simp[ASt.nfS,ASt.put,ah,List.map_set]
theorem rA (st:ASt) (i:Nat) (b:Option BC):(st.ac i b).nfS=st.nfS.ac i b:=rfl
theorem oN (st:ASt) (t:Nat):nth (.one .junk) st.nfS.slots t=(nth (.one .junk) st.slots t).nf:=by
 simp only[ASt.nfS,bi,FW]
 cases st.slots[t]? <;> rfl
theorem B0 (ps:List Nat) (st:ASt) (d:Option Nat) (e:Eff):ct ps st.nfS d e.nfE=ct ps st d e:=by
 unfold ct
 congr 1
 funext k
 cases d with
 | none=>rw[nQ,cr]
 | some d=>simp only[nQ,cr,oN,mi]
theorem oB (k s:Nat):∀(l:List AV) (n:Nat),fL k s n (l.map AV.nf)=fL k s n l
 | [],n=>rfl
 | v::l,n=>by simp only[List.map_cons,fL,mi,oB k s l (n+1)]
theorem xg {k:Nat} {v:AV} (h:jJ k v=true):jJ k v.nf=true:=by
 unfold jJ at h
 split at h
 ·exact h
 ·cases h
theorem i8 {e:Eff} {i:Nat} {y:TV} (h:jP e=some (i,y)):e=.gen [.drop i 0 [] false,.root i 0 y] (.one (.sref i 0 [])):=by
 unfold jP at h
 split at h
 ·rename_i i' j y' k
  cases hb:i'.beq j&&i'.beq k with
  | false=>rw[hb]at h;cases h
  | true =>
   simp only[hb,cond_true,FR,Prod.mk.injEq]at h
   simp only[FS]at hb
   obtain⟨rfl,rfl⟩:=h
   rw[<-(az _ _).1 hb.1,<-(az _ _).1 hb.2]
 ·cases h
theorem mP (i:Nat) (y:TV):jP (.gen [.drop i 0 [] false,.root i 0 y] (.one (.sref i 0 [])))=some (i,y):=by
 simp only[jP,(az i i).2 rfl,Bool.and_self,cond_true]
theorem A5 {o:Item} {st:ASt} {e:Eff} (h:dj o st e=true):dj o st.nfS e.nfE=true:=by
 unfold dj at h ⊢
 split at h
 ·rename_i s i y h1 h2
  have:=i8 h2
  subst this
  simp only[FS]at h
  simp only[h1,Eff.nfE,AV.nf,mP,FS]
  refine⟨⟨⟨⟨⟨h.1.1.1.1.1,?_⟩,h.1.1.1.2⟩,?_⟩,h.1.2⟩,h.2⟩
  ·rw[oN];exact xg h.1.1.1.1.2
  ·rw[show st.nfS.slots=st.slots.map AV.nf from rfl,oB];exact h.1.1.2
 ·cases h
theorem rQ (st:ASt) (x:Operand):st.nfS.ev x=(st.ev x).nf:=by
 cases x with
 | tmp t=>exact oN st t
 | const v =>
  cases v with
  | bool b=>rfl
  | _=>first|rfl|(simp only[ASt.ev];cases Value.oneCell' _<;>rfl)
 | global g=>rfl
 | func f=>rfl
theorem rU:∀(l:List AV),cX (l.map AV.nf)=cX l
 | []=>rfl
 | v::l=>by simp only[List.map_cons,cX,iq,rU l]
theorem kE (e:Eff):iH e.nfE=iH e:=by
 cases e with
 | new b v=>cases b<;>rfl
 | _=>rfl
theorem BZ {i:Item} {st:ASt} {e:Eff}:hH i st.nfS e.nfE=hH i st e:=by
 unfold hH
 have:i.o.op.operands.toList.map st.nfS.ev=(i.o.op.operands.toList.map st.ev).map AV.nf:=by
  rw[List.map_map]
  exact List.map_congr_left fun x _=>rQ st x
 rw[this,rU,kE,cr]
 rfl
theorem xm:∀(l:List AV),gf (l.map AV.nf)=gf l
 | []=>rfl
 | v::l=>by simp only[List.map_cons,gf,mi,xm l]
theorem pM (e:Eff):l6 e.nfE=l6 e:=by cases e<;>rfl
theorem zo (e:Eff):drE e.nfE=drE e:=by cases e<;>rfl
theorem sU (k:Nat) (e:Eff):uq k e.nfE=uq k e:=by cases e<;>rfl
theorem rj (v:AV):(v.nf.b8 CA.deep).d9=(v.b8 CA.deep).d9:=by
 rcases aL v with h|⟨b,h,rfl|rfl⟩
 ·rw[h]
 ·rw[h];rfl
 ·rw[h];rfl
theorem xw:∀(l:List AV),gf (cg CA.deep (l.map AV.nf))=gf (cg CA.deep l)
 | []=>rfl
 | v::l=>by simp only[List.map_cons,cg,gf,rj,xw l]
theorem qa (e:Eff):nD e.nfE=nD e:=by
 cases e with
 | val v=>exact rj v
 | new b v=>exact cr (.new b v)
 | upd i b v=>exact cr (.upd i b v)
 | gen ps v=>exact cr (.gen ps v)
theorem Bd {i:Item} {st:ASt} {e:Eff}:cD i st.nfS e.nfE=cD i st e:=by
 unfold cD
 simp only[pM,zo,sU]
 rfl
theorem Cc {i:Item} {st:ASt} {e:Eff}:di i st.nfS e.nfE=di i st e:=by
 unfold di
 have hd:∀d b,jw st.nfS d b=jw st d b:=fun d b=>by
  cases d with
  | none=>rfl
  | some d =>
   have:=rQ st (.tmp d)
   simp only[ASt.ev]at this
   simp only[jw,this,mi]
 have hd2:∀d b,gU st.nfS d b=gU st d b:=fun d b=>by
  cases d with
  | none=>rfl
  | some d =>
   have:=rQ st (.tmp d)
   simp only[ASt.ev]at this
   simp only[gU,this,rj]
 simp only[hd,hd2,cr,qa]
 have:i.o.op.operands.toList.map st.nfS.ev=(i.o.op.operands.toList.map st.ev).map AV.nf:=by
  rw[List.map_map]
  exact List.map_congr_left fun x _=>rQ st x
 rw[this,xm,xw]
 rfl
theorem okE_nf {i:Item} {st:ASt} {e:Eff} (h:okE i st e=true):okE i st.nfS e.nfE=true:=by
 unfold okE at h ⊢
 rw[Bool.or_eq_true]at h ⊢
 rcases h with h|h
 ·rw[Bd];exact .inl h
 refine .inr ?_
 rw[Bool.or_eq_true]at h ⊢
 rcases h with h|h
 ·rw[oI,xe,nQ,B0,BZ,Cc];exact .inl h
 ·exact .inr (A5 h)
theorem ww (hs:Sim w0 I0 st a ov w):Sim w0 I0 st.nfS a ov w:=by
 obtain⟨g,hs⟩:=hs
 refine⟨g,hs.below,hs.sub,hs.lt,hs.old,by simp[ASt.nfS,hs.len],hs.defers,fun t v hv=>?_,hs.olen,hs.outs,hs.cells,hs.trees,hs.foot,hs.apart,hs.apartR,hs.res,hs.base,hs.out⟩
 simp only[ASt.nfS,FW]at hv
 cases hsl:st.slots[t]? with
 | none=>simp[hsl]at hv
 | some u =>
  simp only[hsl,F6,FR]at hv
  subst hv
  exact CE.2 (hs.slots t u hsl)
theorem eM (hs:Sim w0 I0 st.nfS a ov w):Sim w0 I0 st a ov w:=by
 obtain⟨g,hs⟩:=hs
 refine⟨g,hs.below,hs.sub,hs.lt,hs.old,by have:=hs.len;simpa[ASt.nfS]using this,hs.defers,fun t v hv=>?_,hs.olen,hs.outs,hs.cells,hs.trees,hs.foot,hs.apart,hs.apartR,hs.res,hs.base,hs.out⟩
 exact CE.1 (hs.slots t v.nf (by simp[ASt.nfS,hv]))
theorem nx (i r:Nat) (js:List Nat) (b:Bool) (v:AV):(v.b8 (CA.drop i r js b)).nf=v.nf.b8 (CA.drop i r js b):=by
 rcases aL v with h|⟨b,h,rfl|rfl⟩
 ·rw[h]
  cases v with
  | one c =>
   have key:∀c:CA,c.drop i r js b=c\/c.drop i r js b=.junk:=fun c=>by
    rcases gG i r js b c with⟨h,_⟩|h
    ·exact .inl h
    ·exact .inr h
   simp only[AV.b8]
   rcases key c with h'|h'
   ·rw[h',h]
   ·rw[h'];rfl
  | tv x=>exact h
  | _=>rfl
 ·rfl
 ·rfl
theorem Ef (st:ASt) (i r:Nat) (js:List Nat) (b:Bool):(st.aE (CA.drop i r js b)).nfS=st.nfS.aE (CA.drop i r js b):=by
 simp only[ASt.nfS,ASt.aE]
 congr 1
 apply List.ext_getElem?
 intro t
 simp only[FW,mG]
 cases st.slots[t]? with
 | none=>rfl
 | some v=>simp[nx]
theorem p8 (i:Nat) (v:AV):(v.b8 (CA.unM i)).nf=v.nf.b8 (CA.unM i):=by
 cases v with
 | one c =>
  cases c with
  | t x =>
   cases x with
   | lit u=>cases u<;>rfl
   | _=>rfl
  | may j ty =>
   simp only[AV.b8,CA.unM,AV.nf]
   cases j.beq i<;>rfl
  | _=>rfl
 | tv x =>
  cases x with
  | lit u=>cases u<;>rfl
  | _=>rfl
 | _=>rfl
theorem EW (st:ASt) (i:Nat):(st.aE (CA.unM i)).nfS=st.nfS.aE (CA.unM i):=by
 simp only[ASt.aE,ASt.nfS]
 congr 1
 induction st.slots with
 | nil=>rfl
 | cons v l ih=>simp only[cg,List.map_cons,p8,ih]
theorem vd {i:Nat} {b:BC} (h:st.bC i b=some st'):st.nfS.bC i b=some st'.nfS:=by
 obtain⟨h1,h2,rfl⟩:=bu h
 have h2':i.blt st.nfS.boxes.length=true:=by simpa[ASt.nfS]using h2
 simp only[ASt.bC,lG,h1,h2',cond_true,rA]
theorem qG {d:Option Tmp}:∀{ps:List Prim} {st st':ASt},ae d ps st=some st'->ae d ps st.nfS=some st'.nfS
 | [],st,st',h=>by simp only[ae,FR]at h;subst h;rfl
 | p :: ps, st, st', h => by
  simp only[ae]at h ⊢
  cases h1:p.app st d with
  | none=>simp[h1]at h
  | some s1 =>
   simp only[h1]at h
   have:p.app st.nfS d=some s1.nfS:=by
    cases p with
    | drop i r js b =>
     simp only[Prim.app,FR]at h1 ⊢
     subst h1
     rw[Ef]
    | root i r x =>
     simp only[Prim.app,lG]at h1 ⊢
     split at h1
     ·rename_i b hb
      simp only[FR]at h1
      subst h1
      rfl
     ·cases h1
    | frz i r =>
     simp only[Prim.app,lG]at h1 ⊢
     split at h1
     ·rename_i x hx
      split at h1
      ·rename_i b hb
       simp only[FR]at h1
       subst h1
       rfl
      ·cases h1
     ·cases h1
    | unmay i =>
     simp only[Prim.app,FR]at h1 ⊢
     subst h1
     rw[EW]
    | newB b =>
     cases d with
     | none=>simp[Prim.app]at h1
     | some d =>
      simp only[Prim.app]at h1 ⊢
      rw[wj]
      exact vd h1
    | setB i cs =>
     simp only[Prim.app,lG]at h1 ⊢
     split at h1
     ·simp only[FR]at h1
      subst h1
      rfl
     ·cases h1
   rw[this]
   exact qG h
theorem app_nf {e:Eff} {d:Option Tmp} (h:e.app st d=some st'):e.nfE.app st.nfS d=some st'.nfS:=by
 cases e with
 | val v =>
  simp only[Eff.app,Eff.nfE,FR]at h ⊢
  subst h
  rw[kw]
 | new b v =>
  cases d with
  | none=>simp[Eff.app]at h
  | some d =>
   simp only[Eff.app,Eff.nfE]at h ⊢
   rw[wj]
   split at h
   ·rename_i s1 hs1
    simp only[FR]at h
    subst h
    rw[vd hs1]
    simp only[kw]
   ·cases h
 | upd i b v =>
  simp only[Eff.app,Eff.nfE,FR]at h ⊢
  subst h
  rw[kw,rA]
 | gen ps v =>
  simp only[Eff.app,Eff.nfE]at h ⊢
  split at h
  ·rename_i s1 hs1
   simp only[FR]at h
   subst h
   rw[qG hs1]
   simp only[kw]
  ·cases h
theorem ku {d:Option Tmp} {v:AV} (hs:Sim w0 I0 (st.put d v) a ov w):Sim w0 I0 (st.put d v.nf) a ov w:=by
 apply eM
 have:=ww hs
 rw[kw]at this ⊢
 rwa[vk]
theorem Aq {e:Eff} {d:Option Tmp} (h:e.nfE.app st d=some st'):∃st1,e.app st d=some st1/\∀w0 I0 a ov w,Sim w0 I0 st1 a ov w->Sim w0 I0 st' a ov w:=by
 cases e with
 | val v =>
  simp only[Eff.app,Eff.nfE,FR]at h ⊢
  subst h
  exact⟨_,rfl,fun w0 I0 a ov w hs=>ku hs⟩
 | new b v =>
  cases d with
  | none=>simp[Eff.app,Eff.nfE]at h
  | some d =>
   simp only[Eff.app,Eff.nfE]at h ⊢
   split at h
   ·rename_i s1 hs1
    simp only[FR]at h
    subst h
    exact⟨_,rfl,fun w0 I0 a ov w hs=>ku hs⟩
   ·cases h
 | upd i b v =>
  simp only[Eff.app,Eff.nfE,FR]at h ⊢
  subst h
  exact⟨_,rfl,fun w0 I0 a ov w hs=>ku hs⟩
 | gen ps v =>
  simp only[Eff.app,Eff.nfE]at h ⊢
  split at h
  ·rename_i s1 hs1
   simp only[FR]at h
   subst h
   exact⟨_,rfl,fun w0 I0 a ov w hs=>ku hs⟩
  ·cases h
end
end Go.Ab
end

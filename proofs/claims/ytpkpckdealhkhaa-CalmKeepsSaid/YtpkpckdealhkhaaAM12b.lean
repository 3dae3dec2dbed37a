import Derived.Test.YtpkpckdealhkhaaAM12
set_option linter.all false
namespace Go.Ab
open Go.RowKit
section
variable {P:Program} {E:Env} {C:Cal} {w0:Bs} {w w':World} {I0 I R:Nat->Prop} {g g':Gh} {st st':ASt} {a:Act} {ov:List Value} {look:Look} {Q:Exit->Act->World->Prop} {id:Nat}
variable {dst:Option Tmp} {type:TypeId} {pos:String} {after:Array Edge} {guard:Option (Nat × Bool)}
theorem oU (id r0:Nat) (x:TV) (agg:Bool):∀(zs:List Value) (j m:Nat),(ei id r0 zs x agg j)[m]? = (zs[m]?).map fun z=>bif aD z then CA.sref id (r0+(j+m)) []else .t (bif agg then x.cell (j+m)else x)
 | [],j,m=>by simp[ei]
 | z::zs,j,0=>by simp[ei]
 | z::zs,j,m+1=>by
  simp only[ei,List.getElem?_cons_succ,oU id r0 x agg zs (j+1) m];rw[show j+1+m=j+(m+1) by omega]
theorem nY (id r0:Nat) (x:TV) (agg:Bool):∀(zs:List Value) (j:Nat),(ei id r0 zs x agg j).length=zs.length
 | [],j=>rfl
 | z::zs,j=>by simp[ei,nY id r0 x agg zs (j+1)]
theorem kn (x:TV) (agg:Bool):∀(zs:List Value) (j m:Nat),(dL zs x agg j)[m]? = (zs[m]?).map fun z=>bif aD z then(bif agg then x.cell (j+m)else x)else .hole
 | [],j,m=>by simp[dL]
 | z::zs,j,0=>by simp[dL]
 | z::zs,j,m+1=>by
  simp only[dL,List.getElem?_cons_succ,kn x agg zs (j+1) m];rw[show j+1+m=j+(m+1) by omega]
theorem fP (x:TV) (agg:Bool):∀(zs:List Value) (j:Nat),(dL zs x agg j).length=zs.length
 | [],j=>rfl
 | z::zs,j=>by simp[dL,fP x agg zs (j+1)]
theorem ap.aggs {cs:List TV} {v:Value} {S:Nat->Prop} (h:ap w I (.agg cs) v S):∃(vs:Array Value) (F:Nat->Nat->Prop),v=.agg vs/\vs.size=cs.length/\(∀j,j<vs.size->(vs.getD j undef).oneCell'=true) /\
  (∀(j:Nat) (c:TV),cs[j]? = some c->ap w I c (vs.getD j undef) (F j))/\(∀j b,F j b->S b)/\∀k k' b,F k b->F k' b->k=k':=by
 cases h with
 | fr h =>
  cases h with
  | agg hl h1 hr=>exact⟨_,fun _ _=>False,rfl,hl,h1,fun j c hj=>.fr (hr j c hj),fun _ _ h=>h.elim,fun _ _ _ h=>h.elim⟩
 | agg F hl h1 hr hF hd=>exact⟨_,F,rfl,hl,h1,hr,hF,hd⟩
theorem ap.tups {cs:List TV} {v:Value} {S:Nat->Prop} (h:ap w I (.tup cs) v S):∃(vs:Array Value) (F:Nat->Nat->Prop),v=.tuple vs/\vs.size=cs.length /\
  (∀(j:Nat) (c:TV),cs[j]? = some c->ap w I c (vs.getD j undef) (F j))/\(∀j b,F j b->S b)/\∀k k' b,F k b->F k' b->k=k':=by
 cases h with
 | fr h =>
  cases h with
  | tup hl hr=>exact⟨_,fun _ _=>False,rfl,hl,fun j c hj=>.fr (hr j c hj),fun _ _ h=>h.elim,fun _ _ _ h=>h.elim⟩
 | tup F hl hr hF hd=>exact⟨_,F,rfl,hl,hr,hF,hd⟩
theorem lR {T:Type} {t:TypeId} {d:TyD} (ht:aW P t d) {x:TV} {v:Value} {S:Nat->Prop} (hx:ap w I x v S) {k:Prg T} {e:T} (h:(jA d x k).hits C e) :
  k.hits C e/\∃(us:List Value) (F:Nat->Nat->Prop),us.length=d.zero.length/\(∀r y,(dL d.zero x d.kd.isAgg 0)[r]? = some y->ap w I y (us.getD r undef) (F r))/\(∀r b,F r b->S b)/\(∀r r' b,F r b->F r' b->r=r') /\
   (∀m z,d.zero[m]? = some z->aD z=true->nh (us.getD m undef)) /\
   ∀(g':Gh) (look':Look) (id r0:Nat),(∀m z,d.zero[m]? = some z->aD z=true->bG w g' look' (.sref id (r0+m) []) (us.getD m undef))->lP w g' look' d.kd.isAgg (ei id r0 d.zero x d.kd.isAgg 0) v:=by
 unfold jA at h;cases hk:d.kd.isAgg with
 | true =>
  simp only[hk,cond_true]at h;obtain⟨h1,h⟩:=h;refine⟨h,?_⟩;simp only[Gk]at h1;obtain⟨h1,h2⟩:=h1;cases x with
  | agg cs =>
   simp only[TV.isAgg,aC]at h1;obtain⟨vs,F,rfl,hl,hone,hr,hF,hd⟩:=hx.aggs;have hcell:∀m z,d.zero[m]? = some z->∃c,cs[m]? = some c/\(TV.agg cs).cell m=c/\(aD z=true->c.isSl=true)/\(aD z=false->c.isSc=true):=fun m z hz=>by
    obtain⟨c,c1,c2,c3⟩:=gR h2 m z hz;simp only[TV.cellsL,Nat.zero_add]at c1;exact⟨c,c1,by simp only[TV.cell];exact bX c1,c2,c3⟩
   have hgd:∀m,vs.toList.getD m undef=vs.getD m undef:=fun m=>by simp[Gx,Gw]
   refine⟨vs.toList,F,by simp[hl,h1,ht.zlen],fun r y hy=>?_,hF,hd,fun m z hz hs=>?_,fun g' look' id r0 hrep=>⟨vs,rfl,by rw[nY];simp[hl,h1,ht.zlen],fun j c u hc hu=>?_⟩⟩
   ·rw[kn]at hy
    cases hz:d.zero[r]? with
    | none=>simp[hz]at hy
    | some z =>
     obtain⟨c,c1,c2,c3,c4⟩:=hcell r z hz;simp only[hz,Gv,Gj,cond_true,Nat.zero_add]at hy;rw[hgd];cases hs:aD z with
     | true =>
      simp only[hs,cond_true]at hy;rw[<-hy,c2];exact hr r c c1
     | false =>
      simp only[hs,cond_false]at hy;rw[<-hy];exact .fr (.hole _)
   ·obtain⟨c,c1,c2,c3,c4⟩:=hcell m z hz
    rw[hgd];obtain⟨a,n,cap,e⟩:=fE (hr m c c1) (c3 hs);exact⟨a,n,cap,e⟩
   ·have hju:j<vs.size:=by have:=(Gg.1 hu).1;simpa using this
    have hgu:vs.getD j undef=u:=by rw[<-hgd,Gw,hu];rfl
    refine⟨?_,by rw[<-hgu];exact hone j hju⟩;rw[oU]at hc;cases hz:d.zero[j]? with
    | none=>simp[hz]at hc
    | some z =>
     obtain⟨c',c1,c2,c3,c4⟩:=hcell j z hz;simp only[hz,Gv,Gj,cond_true,Nat.zero_add]at hc;cases hs:aD z with
     | true =>
      simp only[hs,cond_true]at hc;rw[<-hc,<-hgu,<-hgd];exact hrep j z hz hs
     | false =>
      simp only[hs,cond_false]at hc;rw[<-hc,c2];obtain⟨e1,e2⟩:=eE (hr j c' c1) (c4 hs);rw[e1,hgu];rw[hgu]at e2;exact⟨.lit _,rj e2⟩
  | _=>simp[TV.isAgg]at h1
 | false =>
  simp only[hk,cond_false]at h;obtain⟨h1,h⟩:=h;refine⟨h,?_⟩;have hz1:d.zero.length=1:=by rw[ht.zlen,ht.one hk]
  obtain⟨z0,hz0⟩:∃z0,d.zero=[z0]:=by
   cases hd:d.zero with
   | nil=>simp[hd]at hz1
   | cons z l=>simp[hd]at hz1;exact⟨z,by rw[hz1]⟩
  obtain⟨c,c1,c2,c3⟩:=gR h1 0 z0 (by rw[hz0];rfl);simp[TV.cellsL]at c1;subst c1;have hone:v.oneCell'=true:=by
   cases hs:aD z0 with
   | true=>obtain⟨a,n,cap,e⟩:=fE hx (c2 hs);rw[e];rfl
   | false=>exact rj (eE hx (c3 hs)).2
  refine⟨[v],fun r b=>r=0/\S b,by rw[hz0];rfl,fun r y hy=>?_,fun r b h=>h.2,fun r r' b h h'=>by rw[h.1,h'.1],fun m z hz hs=>?_,fun g' look' id r0 hrep=>⟨_,by rw[hz0];rfl,?_,hone⟩⟩
  ·rw[kn,hz0]at hy
   cases r with
   | zero =>
    simp at hy;cases hs:aD z0 with
    | true=>simp[hs]at hy;subst hy;exact hx.mono (fun b hb=>⟨rfl,hb⟩)
    | false=>simp[hs]at hy;subst hy;exact .fr (.hole _)
   | succ r=>simp at hy
  ·rw[hz0]at hz
   cases m with
   | zero=>simp at hz;subst hz;obtain⟨a,n,cap,e⟩:=fE hx (c2 hs);exact⟨a,n,cap,e⟩
   | succ m=>simp at hz
  ·have hr0:=hrep 0 z0 (by rw[hz0];rfl)
   cases hs:aD z0 with
   | true =>
    simpa using hr0 hs
   | false =>
    obtain⟨e1,e2⟩:=eE hx (c3 hs);simp only[cond_false];rw[e1];exact⟨.lit _,hone⟩
theorem ka {T:Type} {x:TV} {vals:Nat->Value} {G:Nat->Nat->Prop} (hG:∀k k' b,G k b->G k' b->k=k') {k:Prg T} {e:T}:∀(ds:List TyD) (j:Nat),(∀d∈ds,∃t,aW P t d)->(∀m,m<ds.length->ap w I (x.comp (j+m)) (vals (j+m)) (G (j+m)))->(gG x ds j k).hits C e ->
  k.hits C e/\∃(us:List Value) (F:Nat->Nat->Prop),us.length=(br x ds j).length/\(∀r y,(br x ds j)[r]? = some y->ap w I y (us.getD r undef) (F r))/\(∀r b,F r b->∃m,j<=m/\G m b)/\(∀r r' b,F r b->F r' b->r=r') /\
   ∀(g':Gh) (look':Look) (id r0:Nat),(gZ ds=true->∃xs,look' id=some (.tree xs)/\∀r y,(br x ds j)[r]? = some y->xs[r0+r]? = some y/\g'.ρ id (r0+r)=us.getD r undef) ->
    ∀m b c,(d6 id x ds j r0)[m]? = some (b,c)->lP w g' look' b c (vals (j+m))
 | [],j,hd,hr,h=>⟨h,[],fun _ _=>False,rfl,fun r y hy=>by simp[br]at hy,fun _ _ h=>h.elim,fun _ _ _ h=>h.elim,fun g' look' id r0 _ m b c hc=>by simp[d6]at hc⟩
 | d :: ds, j, hd, hr, h => by
  obtain⟨t,ht⟩:=hd d (by simp);have h0:=hr 0 (by simp);simp only[Nat.add_zero]at h0;obtain⟨h1,us1,F1,a1,a2,a3,a4,a5,a6⟩:=lR ht h0 h;obtain⟨h2,us2,F2,b1,b2,b3,b4,b5⟩:=ka hG ds (j+1) (fun d' hm=>hd d' (Gq _ hm)) (fun m hm=>by
   have:=hr (m+1) (by simp;omega);rwa[show j+(m+1)=j+1+m by omega]at this) h1
  have hlen:us1.length=(dL d.zero (x.comp j) d.kd.isAgg 0).length:=by rw[fP,a1]
  have getL:∀r,r<us1.length->(us1++us2).getD r undef=us1.getD r undef:=fun r hr=>by simp[Gw,Gs hr]
  have getR:∀r,us1.length<=r->(us1++us2).getD r undef=us2.getD (r-us1.length) undef:=fun r hr=>by simp[Gw,Gt hr]
  refine⟨h2,us1++us2,fun r b=>if r<us1.length then F1 r b else F2 (r-us1.length) b,by simp[br,hlen,b1],fun r y hy=>?_,fun r b hb=>?_,fun r r' b hb hb'=>?_,fun g' look' id r0 hroot m bb c hc=>?_⟩
  ·simp only[br]at hy
   by_cases hlt:r<us1.length
   ·rw[Gs (by omega)]at hy
    rw[getL r hlt];simp only[hlt,if_true];exact a2 r y hy
   ·rw[Gt (by omega),<-hlen]at hy
    rw[getR r (by omega)];simp only[hlt,if_false];exact b2 _ y hy
  ·by_cases hlt:r<us1.length
   ·simp only[hlt,if_true]at hb
    exact⟨j,Nat.le_refl _,a3 r b hb⟩
   ·simp only[hlt,if_false]at hb
    obtain⟨m,m1,m2⟩:=b3 _ b hb;exact⟨m,by omega,m2⟩
  ·by_cases hlt:r<us1.length
   ·simp only[hlt,if_true]at hb
    by_cases hlt':r'<us1.length
    ·simp only[hlt',if_true]at hb'
     exact a4 r r' b hb hb'
    ·simp only[hlt',if_false]at hb'
     obtain⟨m,m1,m2⟩:=b3 _ b hb';have:=hG j m b (a3 r b hb) m2;omega
   ·simp only[hlt,if_false]at hb
    by_cases hlt':r'<us1.length
    ·simp only[hlt',if_true]at hb'
     obtain⟨m,m1,m2⟩:=b3 _ b hb;have:=hG j m b (a3 r' b hb') m2;omega
    ·simp only[hlt',if_false]at hb'
     have:=b4 _ _ b hb hb';omega
  ·cases m with
   | zero =>
    simp only[d6,List.getElem?_cons_zero,Gj,Prod.mk.injEq]at hc;obtain⟨rfl,rfl⟩:=hc;refine a6 g' look' id r0 (fun q z hz hs=>?_);have hsl:gI d.zero=true:=by
     cases hh:gI d.zero with
     | true=>rfl
     | false=>rw[gV hh q z hz]at hs;cases hs
    obtain⟨xs,l1,l2⟩:=hroot (by simp[gZ,hsl]);have hql:q<us1.length:=by rw[a1];exact(Gg.1 hz).1
    obtain⟨y,hy⟩:∃y,(br x (d::ds) j)[q]? = some y:=⟨_,Gi (by simp[br,<-hlen];omega)⟩;obtain⟨l3,l4⟩:=l2 q y hy;rw[getL q hql]at l4;exact⟨xs,y,y.nd,l1,l3,⟨l4.symm,rfl⟩,a5 q z hz hs⟩
   | succ m =>
    simp only[d6,List.getElem?_cons_succ]at hc;have:=b5 g' look' id (r0+d.zero.length) (fun hany=>by
     obtain⟨xs,l1,l2⟩:=hroot (by simp only[gZ,hany];cases gI d.zero<;>rfl);refine⟨xs,l1,fun r y hy=>?_⟩;obtain⟨l3,l4⟩:=l2 (d.zero.length+r) y (by simp only[br];rw[Gt (by rw[fP];omega),fP];simpa using hy);rw[getR _ (by omega)]at l4;rw[Nat.add_assoc];exact⟨l3,by rw[l4];congr 1;omega⟩) m bb c hc
    rwa[show j+1+m=j+(m+1) by omega]at this
theorem nw (id:Nat) (x:TV):∀(ds:List TyD) (j r0:Nat),(d6 id x ds j r0).length=ds.length
 | [],j,r0=>rfl
 | d::ds,j,r0=>by simp[d6,nw id x ds]
theorem pf {ps:List Prim} {st1:ASt} (hs:al w0 I0 R g st1 a ov w) (h1:ae dst ps st=some st1) (ho:st1.out.length=st.out.length) {ds:List TyD} (hds:∀d∈ds,∃t,aW P t d) {v:TV} {u:Value} {S:Nat->Prop}
  (hv:(∀b,S b->R b)->ap w g.I v u S\/(gZ ds=false/\∃I S,ap w I v u S)) (hSR:∀b,S b->R b) {e:Eff} (hh:(wI (st.nid dst) ds v ps).hits C e) (ha:e.app st dst=some st'):Sim w0 I0 st' (a.put dst u) ov w:=by
 have hv:=hv hSR;have new:∀(xs:List TV) (av:AV) (us:List Value) (F:Nat->Nat->Prop),(cV ps (.tree xs) av).app st dst=some st'->(∀r y,xs[r]? = some y->ap w g.I y (us.getD r undef) (F r))->(∀r b,F r b->S b)->(∀r r' b,F r b->F r' b->r=r') ->
   (∀g' look',look' (st.nid dst)=some (.tree xs)->(∀r,g'.ρ (st.nid dst) r=us.getD r undef)->bM w g' look' av u)->Sim w0 I0 st' (a.put dst u) ov w:=by
  intro xs av us F ha hr hF hd hav;obtain⟨d,rfl,n1,n2,rfl⟩:=mA ha h1 ho;obtain⟨s1,s2⟩:=hs.kW (xs:=xs) n2 n1 hs.below (Nat.le_refl _) (fun _ _ _=>rfl) (fun r=>us.getD r undef) F hr (fun r b _ hb=>.inl (hSR b (hF r b hb))) (fun r r' b _ _ h h'=>hd r r' b h h');refine⟨_,s1.put (some d) (hav _ _ ?_ (fun r=>by simp[Gh.jb]))⟩;rw[ag,if_pos ⟨rfl,n2⟩]
 have plain:∀(av:AV),(match ps with | []=>Eff.val av|_=>.gen ps av).app st dst=some st'->(∀g' look',bM w g' look' av u)->Sim w0 I0 st' (a.put dst u) ov w:=by
  intro av ha hav;have:st'=st1.put dst av:=by
   cases ps with
   | nil =>
    simp only[ae,Gj]at h1;subst h1;simp only[Eff.app,Gj]at ha;exact ha.symm
   | cons p l =>
    simp only[Eff.app,h1,Gj]at ha;exact ha.symm
  subst this;exact⟨_,(hs.weaken (R':=NoR) (fun _ h=>h.elim)).put dst (hav _ _)⟩
 have single:∀d:TyD,ds=[d]->Sim w0 I0 st' (a.put dst u) ov w:=by
  intro d e1;subst e1;obtain⟨t,ht⟩:=hds d (by simp);simp only[wI]at hh;rcases hv with hv|⟨hany,I',S',hv⟩
  ·obtain⟨hh,us,F,q1,q2,q3,q4,q5,q6⟩:=lR ht hv hh
   split at hh
   ·rename_i av hav
    cases hsl:gI d.zero with
    | true =>
     simp only[hsl,cond_true]at hh;cases hh;refine new _ av us F ha q2 q3 q4 (fun g' look' hl hρ=>bS hav (q6 g' look' _ 0 (fun m z hz hs=>?_)));have hlt:m<(dL d.zero v d.kd.isAgg 0).length:=by rw[fP];exact(Gg.1 hz).1
     exact⟨_,_,_,hl,by rw[Nat.zero_add];exact Gi hlt,⟨by rw[Nat.zero_add,hρ],rfl⟩,q5 m z hz hs⟩
    | false =>
     simp only[hsl,cond_false]at hh;cases hh;exact plain av ha (fun g' look'=>bS hav (q6 g' look' _ 0 (fun m z hz hs=>by rw[gV hsl m z hz]at hs;cases hs)))
   ·exact hh.elim
  ·obtain⟨hh,us,F,q1,q2,q3,q4,q5,q6⟩:=lR ht hv hh
   have hsl:gI d.zero=false:=by
    simp only[gZ]at hany;cases hsl:gI d.zero with
    | true=>simp[hsl]at hany
    | false=>rfl
   split at hh
   ·rename_i av hav
    simp only[hsl,cond_false]at hh;cases hh;exact plain av ha (fun g' look'=>bS hav (q6 g' look' _ 0 (fun m z hz hs=>by rw[gV hsl m z hz]at hs;cases hs)))
   ·exact hh.elim
 have many:(Prg.chk (v.isTup ds.length) (gG v ds 0 (bif gZ ds then .ret (cV ps (.tree (br v ds 0)) (.tups (d6 (st.nid dst) v ds 0 0)))
   else .ret (match ps with | []=>.val (.tups (d6 (st.nid dst) v ds 0 0))|_=>.gen ps (.tups (d6 (st.nid dst) v ds 0 0)))))).hits C e->Sim w0 I0 st' (a.put dst u) ov w:=by
  rintro⟨htup,hh⟩;cases v with
  | tup cs =>
   simp only[TV.isTup,aC]at htup;have parts:∀(I' S':Nat->Prop),ap w I' (.tup cs) u S'->∃(vs:Array Value) (G:Nat->Nat->Prop),u=.tuple vs/\vs.size=ds.length/\(∀m,m<ds.length->ap w I' ((TV.tup cs).comp (0+m)) (vs.getD (0+m) undef) (G (0+m)))/\(∀m b,G m b->S' b)/\(∀k k' b,G k b->G k' b->k=k'):=by
    intro I' S' hv;obtain⟨vs,G,e1,e2,e3,e4,e5⟩:=hv.tups;refine⟨vs,G,e1,by rw[e2,htup],fun m hm=>?_,e4,e5⟩;have hm':m<cs.length:=by omega
    rw[Nat.zero_add];have:(TV.tup cs).comp m=cs[m]:=by simp only[TV.comp];exact bX (Gi hm')
    rw[this];exact e3 m _ (Gi hm')
   rcases hv with hv|⟨hany,I',S',hv⟩
   ·obtain⟨vs,G,rfl,p1,p2,p3,p4⟩:=parts _ _ hv
    obtain⟨hh,us,F,q1,q2,q3,q4,q5⟩:=ka (vals:=fun m=>vs.getD m undef) (G:=G) p4 ds 0 hds p2 hh;have tup:∀g' look' ,(gZ ds=true->∃xs,look' (st.nid dst)=some (.tree xs)/\∀r y,(br (.tup cs) ds 0)[r]? = some y->xs[0+r]? = some y/\g'.ρ (st.nid dst) (0+r)=us.getD r undef)->bM w g' look' (.tups (d6 (st.nid dst) (.tup cs) ds 0 0)) (.tuple vs):=by
     intro g' look' hroot;refine⟨vs,rfl,by rw[nw,p1],fun j b c hj=>?_⟩;have:=q5 g' look' _ 0 hroot j b c hj;rwa[Nat.zero_add]at this
    cases hany:gZ ds with
    | true =>
     simp only[hany,cond_true]at hh;cases hh;refine new _ _ us F ha q2 (fun r b hb=>by obtain⟨m,_,hm⟩:=q3 r b hb;exact p3 m b hm) q4 (fun g' look' hl hρ=>tup g' look' (fun _=>⟨_,hl,fun r y hy=>?_⟩));rw[Nat.zero_add];exact⟨hy,hρ r⟩
    | false =>
     simp only[hany,cond_false]at hh;cases hh;exact plain _ ha (fun g' look'=>tup g' look' (fun h=>by rw[hany]at h;cases h))
   ·obtain⟨vs,G,rfl,p1,p2,p3,p4⟩:=parts _ _ hv
    obtain⟨hh,us,F,q1,q2,q3,q4,q5⟩:=ka (vals:=fun m=>vs.getD m undef) (G:=G) p4 ds 0 hds p2 hh;simp only[hany,cond_false]at hh;cases hh;refine plain _ ha (fun g' look'=>⟨vs,rfl,by rw[nw,p1],fun j b c hj=>?_⟩);have:=q5 g' look' _ 0 (fun h=>by rw[hany]at h;cases h) j b c hj;rwa[Nat.zero_add]at this
  | _=>simp[TV.isTup]at htup
 match ds,hh,single,many with
 | [],hh,_,many=>exact many hh
 | [d],hh,single,_=>exact single d rfl
 | d::d'::l,hh,_,many=>exact many hh
theorem tO (hE:∀t d,E.T t=some d->aW P t d):∀{ts:List TypeId} {ds:List TyD},mI E.T ts=some ds->∀d∈ds,∃t,aW P t d
 | [],ds,h=>by simp[mI]at h;subst h;simp
 | t :: ts, ds, h => by
  simp only[mI]at h;split at h
  ·rename_i d ds' h1 h2
   cases h;intro d' hm;rcases List.mem_cons.1 hm with hm|hm
   ·subst hm;exact⟨t,hE _ _ h1⟩
   ·exact tO hE h2 d' hm
  ·cases h
def B0 (P:Program) (G:Laid) (E:Env) (f:FuncId) (xs:List TV) (r:TV):Prop:=(E.peek f=none->(E.lent f=none->DB P G f xs r/\(E.pure f=true->isOwn r=true))/\∀ld,E.lent f=some ld->FJ P G ld f xs r)/\∀c,E.peek f=some c->F9 P G c f xs r
def yB (P:Program) (G:Laid) (E:Env) (C:Cal):Prop:=∀f xs r,C f xs r->(E.turn f=true->AZ P G f xs r)/\(E.turn f=false->(E.eye f=true->A7 P G f xs r)/\(E.eye f=false->B0 P G E f xs r))
theorem ui:∀(l:List CA) (j:Nat),(unMays l)[j]? = (l[j]?).map CA.Gf
 | [],j=>by simp[unMays]
 | c::l,0=>rfl
 | c::l,j+1=>by simp[unMays,ui l j]
theorem rZ (l:List CA):(unMays l).length=l.length:=by
 induction l with
 | nil=>rfl
 | cons c l ih=>simp[unMays,ih]
theorem vc (l:List CA):(junks l).length=l.length:=by
 induction l with
 | nil=>rfl
 | cons c l ih=>simp[junks,ih]
theorem ma:∀(l:List CA),∀c∈junks l,c=.junk
 | []=>by simp[junks]
 | c::l=>by simp only[junks,List.mem_cons];rintro c (rfl|h);rfl;exact ma l c h
theorem CR.unMays {cs:List CA} {vs:List Value} (h:CR w g look cs vs):CR w g look (Ab.unMays cs) vs:=by
 refine⟨by rw[rZ];exact h.1,fun j c u hc hu=>?_⟩;rw[ui]at hc;cases hj:cs[j]? with
 | none=>simp[hj]at hc
 | some c' =>
  simp only[hj,Gv,Gj]at hc;subst hc;obtain⟨h1,h2⟩:=h.2 j c' u hj hu;refine⟨?_,h2⟩;cases c' with
  | may i ty=>exact⟨.hole _,h2⟩
  | _=>exact h1
def nO (f:Fl) (x:TV):Prop:=match f with | .sc=>x.isSc=true | .sl=>x.isSl=true | .may=>x.eK=true | .bf e=>x.yP e=true | .any=>x.gx=true
theorem xk {x:TV} {e:Nat} (h:x.yP e=true):∃s,x=.buf s e:=by
 cases x with
 | buf s e'=>exact⟨s,by rw[(aC _ _).1 h]⟩
 | _=>simp[TV.yP]at h
theorem rS {w:World} {I:Nat->Prop} {x:TV} {e:Nat} {v:Value} {S:Nat->Prop} (h:ap w I x v S) (hx:x.yP e=true):nh v:=by
 obtain⟨s,rfl⟩:=xk hx;cases h with
 | fr h=>cases h;exact⟨_,_,_,rfl⟩
 | buf h _ =>
  rcases h.2 with⟨rfl,_⟩|⟨g,cap,cur,fz,rfl,_⟩
  ·exact⟨_,_,_,rfl⟩
  ·exact⟨_,_,_,rfl⟩
theorem ku:∀{fl:List Fl} {xs:List TV},oe fl xs=true->fl.length=xs.length/\∀(k:Nat) (f:Fl) (x:TV),fl[k]? = some f->xs[k]? = some x->nO f x
 | [],[],_=>⟨rfl,fun k f x hf=>by simp at hf⟩
 | [],_::_,h=>by simp[oe]at h
 | _::_,[],h=>by simp[oe]at h
 | f::fl,x::xs,h=>by
  simp only[oe,Gk]at h;obtain⟨h1,h2⟩:=ku h.2;refine⟨by simp[h1],fun k f' x' hf hx=>?_⟩;cases k with
  | zero=>simp at hf hx;subst hf hx;cases f<;>exact h.1
  | succ k=>simp at hf hx;exact h2 k f' x' hf hx
theorem qQ {i:Nat} {ty:TypeId}:∀{fl:List Fl} {cs:List CA},ns i ty fl cs=true->fl.length=cs.length/\∀(k:Nat) (c:CA),cs[k]? = some c->fl[k]? = some .may->c=.may i ty
 | [],[],_=>⟨rfl,fun k c hc=>by simp at hc⟩
 | [],_::_,h=>by simp[ns]at h
 | _::_,[],h=>by simp[ns]at h
 | f :: fl, c :: cs, h => by
  simp only[ns,Gk]at h;obtain⟨h1,h2⟩:=qQ h.2;refine⟨by simp[h1],fun k c' hc hf=>?_⟩;cases k with
  | zero =>
   simp at hf hc;subst hf hc;have h0:=h.1;cases c with
   | may j t =>
    simp only[Gk,aC]at h0;rw[h0.1,h0.2]
   | _=>simp at h0
  | succ k=>simp at hf hc;exact h2 k c' hc hf
theorem sH:∀(fl:List Fl) (xs:List TV),fl.length=xs.length->∀(k:Nat) (c:TV),(jx fl xs)[k]? = some c->(fl[k]? = some .may/\c=Fg)\/(∃f,fl[k]? = some f/\f≠.may/\xs[k]? = some c) \/
  (∃e x,fl[k]? = some (.bf e)/\c=.buf .empty e/\xs[k]? = some x/\kM x=true)
 | [],[],_,k,c,h=>by simp[jx]at h
 | [],_::_,h,_,_,_=>by simp at h
 | _::_,[],h,_,_,_=>by simp at h
 | f :: fl, x :: xs, hl, 0, c, h => by
  cases f with
  | bf e =>
   cases hn:kM x<;>simp[jx,FP,hn]at h<;>subst h<;>simp[hn]
  | _=>simp[jx]at h<;>subst h<;>simp
 | f::fl,x::xs,hl,k+1,c,h=>by
  simp only[jx,List.getElem?_cons_succ]at h;simpa using sH fl xs (by simpa using hl) k c h
theorem m7:∀(fl:List Fl) (xs:List TV),fl.length=xs.length->(jx fl xs).length=xs.length
 | [],[],_=>rfl
 | [],_::_,h=>by simp at h
 | _::_,[],h=>by simp at h
 | f::fl,x::xs,hl=>by simp[jx,m7 fl xs (by simpa using hl)]
theorem xP {f:Fl} {x:TV} (h:nO f x) (hf:f≠.may):x.eK=false:=by
 cases f with
 | may=>exact absurd rfl hf
 | sc=>cases x<;>simp[nO,TV.isSc,TV.eK]at h ⊢
 | sl=>cases x<;>simp[nO,TV.isSl,TV.eK]at h ⊢
 | bf e=>obtain⟨s,rfl⟩:=xk h;rfl
 | any=>cases x<;>simp[nO,TV.gx,TV.eK]at h ⊢
theorem qc (v:TV):∀(n j k:Nat),(gF v n j)[k]? = if k<n then some (v.comp (j+k))else none
 | 0,j,k=>by simp[gF]
 | n+1,j,0=>by simp[gF]
 | n+1,j,k+1=>by
  simp only[gF,List.getElem?_cons_succ,qc v n (j+1) k];by_cases h:k<n
  ·rw[if_pos h,if_pos (by omega),show j+1+k=j+(k+1) by omega]
  ·rw[if_neg h,if_neg (by omega)]
theorem BA (cs:List TV):gF (.tup cs) cs.length 0=cs:=by
 apply List.ext_getElem?;intro k;rw[qc];by_cases h:k<cs.length
 ·rw[if_pos h,Nat.zero_add]
  simp[TV.comp,aS,Gi h]
 ·rw[if_neg h,Gu (by omega)]
theorem tI:∀{l l':List (Nat × Nat)},dh (l++l')=true->dh l=true/\dh l'=true/\∀i r,(i,r)∈l'->g9 i r l=false
 | [],l',h=>⟨rfl,h,fun i r _=>rfl⟩
 | (i,r)::l,l',h=>by
  simp only[List.cons_append,dh,Gk,Bool.not_eq_true']at h;obtain⟨h1,h2,h3⟩:=tI h.2;have hn:=h.1;rw[bZ]at hn;refine⟨by simp only[dh,Gk,Bool.not_eq_true'];exact⟨by rw[bZ];exact fun hm=>hn (List.mem_append_left _ hm),h1⟩,h2,fun i' r' hm=>?_⟩;rw[bZ];intro h4;rcases List.mem_cons.1 h4 with h4|h4
  ·cases h4;exact hn (List.mem_append_right _ hm)
  ·have:=h3 i' r' hm;rw[bZ]at this;exact this h4
theorem sq {T T':Type} {d:TyD} {x:TV} {k:Prg T} {e:T} (h:(jA d x k).hits C e):k.hits C e/\∀(k':Prg T') (e':T'),k'.hits C e'->(jA d x k').hits C e':=by
 unfold jA at h ⊢;cases hd:d.kd.isAgg with
 | true =>
  rw[hd]at h;obtain⟨h1,h2⟩:=h;exact⟨h2,fun k' e' h'=>⟨h1,h'⟩⟩
 | false =>
  rw[hd]at h;obtain⟨h1,h2⟩:=h;exact⟨h2,fun k' e' h'=>⟨h1,h'⟩⟩
theorem qw {T T':Type} {x:TV} {k:Prg T} {e:T}:∀{ds:List TyD} {j:Nat},(gG x ds j k).hits C e->k.hits C e/\∀(k':Prg T') (e':T'),k'.hits C e'->(gG x ds j k').hits C e'
 | [],j,h=>⟨h,fun k' e' h'=>h'⟩
 | d::l,j,h=>by
  obtain⟨h1,h2⟩:=sq (T':=T') h;obtain⟨h3,h4⟩:=qw (T':=T') h1;exact⟨h3,fun k' e' h'=>h2 _ _ (h4 k' e' h')⟩
theorem Ch {id:Nat} {ds:List TyD} {v:TV} {k:AV->Out} {e:Eff} (hsl:gZ ds=false) (h:(CE id ds v k).hits C e):∃av,(wI id ds v []).hits C (.val av)/\(k av).hits C e:=by
 unfold CE at h;split at h
 ·rename_i d
  have hd:gI d.zero=false:=by simpa[gZ]using hsl
  obtain⟨h1,h2⟩:=sq (T':=Eff) h;split at h1
  ·rename_i av hav
   refine⟨av,?_,h1⟩;unfold wI;refine h2 _ _ ?_;rw[hav];simp only[hd,cond_false];rfl
  ·exact h1.elim
 ·rename_i hne
  obtain⟨h1,h2⟩:=h;obtain⟨h3,h4⟩:=qw (T':=Eff) h2;refine⟨_,?_,h3⟩;unfold wI;split
  ·rename_i d;exact absurd rfl (hne d)
  ·refine⟨h1,h4 _ _ ?_⟩
   simp only[hsl,cond_false];rfl
def Fl.rooted:Fl->Bool
 | .sl=>true
 | .bf _=>true
 | _=>false
theorem m0:∀(fl:List Fl) (xs:List TV),fl.length=xs.length->∀(k:Nat) (y:TV),(da fl xs)[k]? = some y->y=.hole\/(∃f,fl[k]? = some f/\f.rooted=true/\xs[k]? = some y)
 | [],[],_,k,c,h=>by simp[da]at h
 | [],_::_,h,_,_,_=>by simp at h
 | _::_,[],h,_,_,_=>by simp at h
 | f::fl,x::xs,hl,0,c,h=>by
  cases f<;>simp[da]at h<;>subst h<;>simp[Fl.rooted]
 | f::fl,x::xs,hl,k+1,c,h=>by
  simp only[da,List.getElem?_cons_succ]at h;simpa using m0 fl xs (by simpa using hl) k c h
theorem jK:∀(fl:List Fl) (xs:List TV) (k:Nat) (c:TV) (f:Fl),f.rooted=true->fl[k]? = some f->xs[k]? = some c->(da fl xs)[k]? = some c
 | [],_,k,c,_,_,h,_=>by simp at h
 | _::_,[],k,c,_,_,_,h=>by simp at h
 | f::fl,x::xs,0,c,f',hf,h,h'=>by simp at h h';subst h h';cases f<;>simp[Fl.rooted]at hf<;>rfl
 | f::fl,x::xs,k+1,c,f',hf,h,h'=>by
  simp only[da,List.getElem?_cons_succ]at h h' ⊢;exact jK fl xs k c f' hf h h'
theorem kz {f:Fl} {x:TV} (hf:f.rooted=true) (h:nO f x):x.eK=false:=xP h (fun e=>by rw[e]at hf;cases hf)
theorem rY:∀(fl:List Fl) (xs:List TV),fl.length=xs.length->(da fl xs).length=xs.length
 | [],[],_=>rfl
 | [],_::_,h=>by simp at h
 | _::_,[],h=>by simp at h
 | f::fl,x::xs,hl=>by simp[da,rY fl xs (by simpa using hl)]
def F3 (i t:Nat) (ty:TypeId) (f:Fl) (x:TV) (r:Nat):CA:=match f with | .sc=>.t x | .sl=>.sref t r [] | .may=>.may i ty | .bf _=>.sref t r [] | .any=>.t x
theorem tU (i t:Nat) (ty:TypeId):∀(fl:List Fl) (xs:List TV),fl.length=xs.length->∀(r k:Nat) (d:CA),(gq i t ty fl xs r)[k]? = some d->∃f c,fl[k]? = some f/\xs[k]? = some c/\d=F3 i t ty f c (r+k)
 | [],[],_,r,k,d,h=>by simp[gq]at h
 | [],_::_,h,_,_,_,_=>by simp at h
 | _::_,[],h,_,_,_,_=>by simp at h
 | f::fl,x::xs,hl,r,0,d,h=>by
  simp[gq]at h;subst h;exact⟨f,x,rfl,rfl,by cases f<;>rfl⟩
 | f::fl,x::xs,hl,r,k+1,d,h=>by
  simp only[gq,List.getElem?_cons_succ]at h ⊢;obtain⟨f',c,h1,h2,h3⟩:=tU i t ty fl xs (by simpa using hl) (r+1) k d h;exact⟨f',c,h1,h2,by rw[h3,show r+1+k=r+(k+1) by omega]⟩
theorem uc (i t:Nat) (ty:TypeId):∀(fl:List Fl) (xs:List TV),fl.length=xs.length->∀r,(gq i t ty fl xs r).length=xs.length
 | [],[],_,r=>rfl
 | [],_::_,h,_=>by simp at h
 | _::_,[],h,_=>by simp at h
 | f::fl,x::xs,hl,r=>by simp[gq,uc i t ty fl xs (by simpa using hl)]
theorem sa {i t:Nat} {ty:TypeId} {fl:List Fl} {xs:List TV} {vs:List Value} (hv:vs.length=xs.length) (hl:fl.length=xs.length) (hok:∀(k:Nat) (f:Fl) (x:TV),fl[k]? = some f->xs[k]? = some x->nO f x)
  (h:∀(k:Nat) (f:Fl) (c:TV),fl[k]? = some f->xs[k]? = some c->nO f c->∃v,vs[k]? = some v/\v.oneCell'=true/\bG w g look (F3 i t ty f c k) v):CR w g look (gq i t ty fl xs 0) vs:=by
 refine⟨by rw[uc _ _ _ _ _ hl];exact hv,fun k d u hd hu=>?_⟩;obtain⟨f,c,h1,h2,h3⟩:=tU i t ty fl xs hl 0 k d hd;obtain⟨v,h4,h5,h6⟩:=h k f c h1 h2 (hok k f c h1 h2);rw[hu]at h4;cases h4;rw[Nat.zero_add]at h3;rw[h3];exact⟨h6,h5⟩
theorem xa {f : FuncId} (hN : ∀ xs r, C f xs r → B0 P w0.G E f xs r) (hE : ∀ t d, E.T t = some d → aW P t d) (hlk : ∀ i b, look i = some b → st.look i = some b) (hs : al w0 I0 NoR g st a ov w)  {ld : fx} (hpk : E.peek f = none) (hld : E.lent f = some ld) {args : Array Operand} {tys : Array TypeId} {cal : Operand} {e : Eff}
  (hres:∀vals:Array Value,vals=args.map a.eval->(callFunc f vals).run P w=.ok (.enter f vals) w->(execOp a.eval ⟨dst,.call ⟨.value cal,args,tys⟩,type,pos,after,guard⟩).run P w=.ok (.enter f vals) w)
  (hh:(ow E (st.nid dst) look f ld (args.toList.map st.ev)).hits C e) (ha:e.app st dst=some st'):Good P w0 I0 ov ⟨dst,.call ⟨.value cal,args,tys⟩,type,pos,after,guard⟩ st' a w Q:=by
 have hgd:∀m,(args.toList.map a.eval).getD m undef=(args.map a.eval).getD m undef:=fun m=>by simp[Gx,Gw]
 unfold ow at hh;split at hh
 ·rename_i i rest hargs
  obtain⟨x0,xs0,hal,hx0,hrest⟩:∃x0 xs0,args.toList=x0::xs0/\st.ev x0=.one (.ptr i 0)/\xs0.map st.ev=rest:=by
   cases hal:args.toList with
   | nil=>rw[hal]at hargs;simp at hargs
   | cons x0 xs0=>rw[hal]at hargs;simp only[List.map_cons,List.cons.injEq]at hargs;exact⟨x0,xs0,rfl,hargs.1,hargs.2⟩
  split at hh
  ·rename_i cs ds hl hds
   cases hchk0:gZ ds || !ns i ld.ty ld.fl cs with
   | true=>rw[hchk0]at hh;exact hh.elim
   | false =>
    rw[hchk0]at hh;simp only[cond_false]at hh;simp only[Bool.or_eq_false_iff,Bool.not_eq_false']at hchk0;obtain⟨hnsl,hmf⟩:=hchk0;subst hrest;obtain⟨xs,rs,hh,hroots,hlen,hrep⟩:=nq hlk hs (hs.evs xs0) hh;have hl2:=hlk i _ hl;obtain⟨vs,ty,hheap,hcr⟩:=hs.cells i cs hl2;obtain⟨gd,hh,hgl,hgdk⟩:=jk hlk hs hcr.unMays hh;rw[rZ]at hgl;cases hchk1:dh (gd.flatMap Gd.ts++rs)with
    | false=>rw[hchk1]at hh;exact hh.elim
    | true =>
     rw[hchk1]at hh;simp only[cond_true]at hh;have hnd:=hchk1;obtain⟨hfit,hh⟩:=hh;obtain⟨hnd1,hnd2,hnd3⟩:=tI hnd;obtain⟨r,hc,hchk2,hh⟩:=hh;obtain⟨av,hans,hh⟩:=Ch hnsl hh;cases hh;obtain⟨mfl,mfs⟩:=qQ hmf;have hfl:ld.fl.length=(gd.map Gd.y).length:=by rw[mfl];simp[hgl]
     obtain⟨ffl,ffs⟩:=ku hfit;obtain⟨st2,g2,R2,F,p1,p2,p3,p4,p5,p6,p7,p8⟩:=dA (dst:=dst) gd hs (by rw[hcr.1,hgl]) hgdk hnd1;have hroots2:Roots st2.look rs:=fun k q hm=>by
      obtain⟨ys,y,r1,r2⟩:=hroots k q hm;obtain⟨ys1,r3,r4,_⟩:=p4.root k q ys y (hnd3 k q hm) r1 r2;exact⟨ys1,y,r3,r4⟩
     obtain⟨st3,g3,q1,q2,q3,q4,q5⟩:=kg (dst:=dst) rs p2 hroots2 hnd2;obtain⟨cs1,c1,c2,c3⟩:=p4.cells i cs hl2;obtain⟨c4,c5⟩:=q5 i cs1 c1;have hβ:g3.β i=g.β i:=c5.trans c3;have hI3:∀b,g.I b->g3.I b:=fun b hb=>q3.1 b (by rw[p3];exact hb)
     have hH:ik g rs g3.I:=⟨hI3,fun k q hm b hb=>by
      obtain⟨ys,y,r1,r2⟩:=hroots k q hm;obtain⟨_,_,_,_,r3⟩:=p4.root k q ys y (hnd3 k q hm) r1 r2;exact q3.2 k q hm b (by rw[r3];exact hb)⟩
     have hfi3:Foot g3 st3.look i (g.β i):=.inl ⟨cs1,c4,hβ.symm⟩;have hheap3:w.heap[g3.β i]? = some (.cells vs ty (0,0)):=by rw[hβ];exact hheap
     have hvl:vs.size=cs.length:=by simpa using hcr.1
     have hone:∀u∈vs.toList,u.oneCell'=true:=fun u hu=>by
      obtain⟨m,hm,rfl⟩:=List.mem_iff_getElem.1 hu;exact(hcr.2 m (cs[m]'(by have:=hcr.1;omega)) _ (Gi _) (Gi hm)).2
     have j1:=q2.eC c4 (cs':=junks cs) (vs':=vs) (ty:=ty) q2.below (Nat.le_refl _) (fun _ _=>rfl) hheap3 ⟨_,_,hheap3⟩ ⟨by rw[vc];exact hcr.1,fun j c u hc' hu=>by
      have:=ma cs c (Gr hc');subst this;exact⟨trivial,hone u (Gr hu)⟩⟩
     have hlk4:(st3.ac i (some (.cells (junks cs)))).look i=some (.cells (junks cs)):=by rw[ag,if_pos ⟨rfl,fQ c4⟩]
     obtain⟨ys,args',r0,cs',e1,e2,hcv⟩:=((hN _ r hc).1 hpk).2 ld hld;simp only[List.cons.injEq,TV.tup.injEq]at e1;obtain⟨e1,e3⟩:=e1;subst e1 e3 e2;simp only[Gk]at hchk2;obtain⟨⟨_,hcl⟩,hfit2⟩:=hchk2;have hcl:cs'.length=ld.fl.length:=by simpa[TV.isTup,TV.comp,nth]using hcl
     have hcomp:gF ((TV.tup [r0,.tup cs']).comp 1) ld.fl.length 0=cs':=by
      rw[<-hcl];exact BA cs'
     rw[hcomp]at hfit2 ha;obtain⟨ffl2,ffs2⟩:=ku hfit2;have hty:∀k,ld.fl[k]? = some Fl.may->ty=ld.ty/\(vs.getD k undef=.pointer none\/vs.getD k undef=.pointer (some ⟨g.β i,0,none⟩)):=fun k hk=>by
      have hkl:k<cs.length:=by rw[<-mfl];exact(Gg.1 hk).1
      have hck:cs[k]? = some (cs[k]'hkl):=Gi hkl;have he:=mfs k _ hck hk;have hvk:vs.toList[k]? = some (vs.getD k undef):=by
       rw[Gl,Array.getElem?_eq_getElem (by omega)];simp[hvl,hkl]
      have:=(hcr.2 k _ _ hck hvk).1;rw[he]at this;obtain⟨_,_,⟨us,fr,ht⟩,hv⟩:=this;rw[hheap]at ht;cases ht;exact⟨rfl,hv⟩
     have hFi:∀k b,F k b->b≠g.β i:=fun k b hb e=>(q2.foot i _ hfi3).2.2.2 (by rw[<-e];exact(p7 k b hb).1)
     have hvals:(args.map a.eval).size=xs.length+1:=by
      have:args.size=args.toList.length:=by simp
      rw[Array.size_map,this,hal];simp[hlen]
     obtain⟨hcf,hcalls⟩:=hcv g3.I w (g.β i) (args.map a.eval) (fun b=>b=g.β i\/∃k,F k b) (q2.laid (fun _ h=>h)) q2.lt (fun b hb=>by
       rcases hb with rfl|⟨k,hb⟩
       ·exact⟨(q2.foot i _ hfi3).2.1,(q2.foot i _ hfi3).2.2.1⟩
       ·exact⟨(q2.res b (p7 k b hb).1).2.1,(q2.res b (p7 k b hb).1).2.2⟩)
      ⟨.inl rfl, vs, ty, F, hheap, by rw [m7 _ _ hfl, hvl]; simp [hgl], fun k c hk => by
       have hkl:k<cs.length:=by
        have:=(Gg.1 hk).1;rw[m7 _ _ hfl]at this;simpa[hgl]using this
       have hvk:vs.toList[k]? = some (vs.getD k undef):=by
        rw[Gl,Array.getElem?_eq_getElem (by omega)];simp[hvl,hkl]
       have hok:(vs.getD k undef).oneCell'=true:=hone _ (Gr hvk);rcases sH _ _ hfl k c hk with⟨h1,rfl⟩|⟨f',h1,h2,h3⟩|⟨e',x',h1,rfl,h3,h4⟩
       ·exact⟨.inl ⟨rfl,(hty k h1).2⟩,hok,fun _=>(hty k h1).1⟩
       ·have hm:=xP (ffs k f' c h1 hk) h2
        rw[Gn]at h3;cases hgk:gd[k]? with
        | none=>simp[hgk]at h3
        | some d =>
         simp only[hgk,Gv,Gj]at h3;subst h3;refine⟨.inr ⟨hm,(p6 k d _ hgk hvk).1.mv (fun _ _=>rfl) hI3 (fun _ _=>rfl) (fun _ h=>h)⟩,hok,fun h=>by rw[hm]at h;cases h⟩
       ·rw[Gn]at h3
        cases hgk:gd[k]? with
        | none=>simp[hgk]at h3
        | some d =>
         simp only[hgk,Gv,Gj]at h3;subst h3;have hv:=xr h4 (p6 k d _ hgk hvk).1;rw[hv];exact⟨.inr ⟨rfl,.fr (.buf e' rfl)⟩,rfl,fun h=>by cases h⟩,
       fun k b hb=>⟨.inr ⟨k,hb⟩,hFi k b hb⟩,p8⟩
      (by rw [hvals]; simp) (by
       have:(args.map a.eval).getD 0 undef=a.eval x0:=by rw[<-hgd,hal];rfl
       rw[this];have hr0:=hs.ev x0;rw[hx0]at hr0;obtain⟨_,_,hv⟩:=hr0;exact hv)
      (fun j x hx => by
       rw[<-hgd,hal];exact hrep g3.I hH j x hx)
     unfold Good Oper.wp;rw[hres _ rfl hcf];simp only[Oper.upon];refine hcalls.mono ?_;rintro e w' ⟨v,rfl,hbel,I',L',S,i1,i2,i3,i4,hr0,hrv⟩;obtain⟨hLb,vs',ty',F',h1',h2',h3',h4',h5'⟩:=hrv;have hone':∀u∈vs'.toList,u.oneCell'=true:=fun u hu=>by
      obtain⟨m,hm,rfl⟩:=List.mem_iff_getElem.1 hu;have hm':m<vs'.size:=by simpa using hm
      have:=(h3' m (cs'[m]'(by omega)) (Gi _)).2.1;simpa[hm']using this
     have gb:=j1.FI (R':=fun b=>∃k,F' k b) (I':=I') (L:=fun b=>b=g.β i\/∃k,F k b) (vs:=vs') (ty:=ty') hlk4 (ma cs) (fun b hb=>by
       rcases hb with rfl|⟨k,hb⟩
       ·exact .inl hβ.symm
       ·exact .inr (p7 k b hb).1) hbel (by rw[hβ];exact h1') (by rw[vc,h2',hcl,mfl]) hone' i1 i2 i3 (by rw[hβ];exact(i4 _ hLb).2.2) (fun b hb=>by
        obtain⟨k,hb⟩:=hb;obtain⟨f1,f2⟩:=h4' k b hb;obtain⟨f3,f4,f5⟩:=i4 b f1;refine⟨?_,f4,f5,by rw[hβ];exact f2⟩;rcases f3 with f3|f3|⟨k',f3⟩
        ·exact .inr f3
        ·exact absurd f3 f2
        ·exact .inl (p7 k' b f3).1)
     have ho3:st3.out.length=st.out.length:=q4.trans p4.out;obtain⟨s4,hs4⟩:∃s4,s4=(st3.ac i (some (.cells (junks cs)))).aw (CA.unM i):=⟨_,rfl⟩;rw[<-hs4]at gb;have hlk4':s4.look i=some (.cells (junks cs)):=by
      rw[hs4,aK,hlk4];simp only[Gv,BC.bz,jw (ma cs)]
     simp only[Eff.app,cz,p1,Option.bind_some,q1]at ha;simp only[ae,Prim.app,c4]at ha;rw[<-hs4]at ha;cases dst with
     | none=>simp at ha
     | some d =>
      simp only[]at ha;have hnid:s4.nid (some d)=st.nid (some d):=by
       have:s4.out.length=st.out.length:=by
        rw[hs4];simp only[ASt.aw,bm];exact ho3
       simp only[ASt.nid,this]
      rw[hnid]at ha;cases hab:s4.bv (st.nid (some d)) (.tree (da ld.fl cs'))with
      | none=>simp[hab]at ha
      | some s5 =>
       obtain⟨n1,n2,n3⟩:=bi hab;subst n3;rw[hab]at ha;have hne:st.nid (some d)≠i:=fun e=>by rw[e,hlk4']at n1;cases n1
       have hlk5:(s4.ac (st.nid (some d)) (some (.tree (da ld.fl cs')))).look i=some (.cells (junks cs)):=by
        rw[ag,if_neg (fun h=>hne h.1)];exact hlk4'
       simp only[hlk5,Gj]at ha;obtain⟨t1,t2⟩:=gb.kW (xs:=da ld.fl cs') n2 n1 gb.below (Nat.le_refl _) (fun _ _ _=>rfl) (fun k=>vs'.getD k undef) F' (fun k y hy=>by
         rcases m0 _ _ ffl2 k y hy with rfl|⟨f6,h6,h6',h7⟩
         ·exact .fr (.hole _)
         ·rcases(h3' k y h7).1 with⟨h8,_⟩|⟨_,h8⟩
          ·rw[kz h6' (ffs2 k f6 y h6 h7)]at h8
           cases h8
          ·exact h8) (fun k b _ hb=>.inl ⟨k,hb⟩) (fun k k' b _ _ h h'=>h5' k k' b h h')
       have t3:=t1.eC hlk5 (cs':=gq i (st.nid (some d)) ld.ty ld.fl cs' 0) (vs':=vs') (ty:=ty') t1.below (Nat.le_refl _) (fun _ _=>rfl) (by
         show w'.heap[g3.β i]? = _;rw[hβ];exact h1') ⟨vs',(0,0),by
         show w'.heap[g3.β i]? = _;rw[hβ];exact h1'⟩ (sa (by simp[h2']) ffl2 ffs2 (fun k f' c hk hc hf=>?_))
       ·subst ha
        have hsn:(((s4.ac (st.nid (some d)) (some (.tree (da ld.fl cs')))).ac i (some (.cells (gq i (st.nid (some d)) ld.ty ld.fl cs' 0)))).nid (some d))=st.nid (some d):=hnid;exact pf (ps:=[]) t3 rfl rfl (tO hE hds) (S:=fun _=>False) (fun _=>.inr ⟨hnsl,_,_,hr0⟩) (fun _ h=>h.elim) (by rw[hsn];exact hans) rfl
       ·have hvk:vs'.toList[k]? = some (vs'.getD k undef):=by
         have:k<vs'.size:=by rw[h2'];exact(Gg.1 hc).1
         rw[Gl,Array.getElem?_eq_getElem this];simp[this]
        obtain⟨g1,g2',g3'⟩:=h3' k c hc;refine⟨_,hvk,g2',?_⟩;cases f' with
        | sc =>
         rcases g1 with⟨h8,_⟩|⟨_,h8⟩
         ·cases c<;>simp[nO,TV.isSc,TV.eK]at hf h8
         ·obtain⟨e1,e2⟩:=eE h8 hf
          exact⟨by rw[e1];exact .lit _,g2'⟩
        | any =>
         rcases g1 with⟨h8,_⟩|⟨_,h8⟩
         ·cases c<;>simp[nO,TV.gx,TV.eK]at hf h8
         ·exact⟨gP h8 hf,g2'⟩
        | sl =>
         rcases g1 with⟨h8,_⟩|⟨_,h8⟩
         ·cases c<;>simp[nO,TV.isSl,TV.eK]at hf h8
         ·refine⟨da ld.fl cs',c,c.nd,by rw[ag,if_pos ⟨rfl,n2⟩],jK _ _ k c .sl rfl hk hc,⟨by simp[Gh.jb],rfl⟩,fE h8 hf⟩
        | bf e' =>
         rcases g1 with⟨h8,_⟩|⟨_,h8⟩
         ·rw[kz (f:=.bf e') rfl hf]at h8;cases h8
         ·refine⟨da ld.fl cs',c,c.nd,by rw[ag,if_pos ⟨rfl,n2⟩],jK _ _ k c (.bf e') rfl hk hc,⟨by simp[Gh.jb],rfl⟩,rS h8 hf⟩
        | may =>
         rcases g1 with⟨h8m,h8⟩|⟨h8,_⟩
         ·refine⟨_,hlk5,⟨vs',(0,0),?_⟩,?_⟩
          ·show w'.heap[g3.β i]? = _
           rw[hβ,<-g3' h8m];exact h1'
          ·show _\/_=Value.pointer (some ⟨g3.β i,0,none⟩)
           rw[hβ];exact h8
         ·rw[hf]at h8;cases h8
  ·exact hh.elim
 ·exact hh.elim
theorem lf_rep {I':Nat->Prop} {x:TV} {v:Value} (h:Rep w I x v):Rep w I' x.lf v:=by
 cases h with
 | lit v=>exact .lit v
 | _=>exact .hole _
theorem Ae:∀(l:List TV) (j:Nat),(lfL l)[j]? = (l[j]?).map TV.lf
 | [],j=>by simp[lfL]
 | c::l,0=>rfl
 | c::l,j+1=>by simp[lfL,Ae l j]
theorem zD (l:List TV):(lfL l).length=l.length:=by
 induction l with
 | nil=>rfl
 | cons c l ih=>simp[lfL,ih]
theorem BT {I':Nat->Prop} {x:TV} {v:Value} (h:Rep w I x v):Rep w I' (Ea x) v:=by
 cases h with
 | lit v=>exact .lit v
 | agg hl h1 hr =>
  refine .agg (by rw[zD];exact hl) h1 (fun j c hj=>?_);rw[Ae]at hj;rename_i cs vs;cases hc:cs[j]? with
  | none=>rw[hc]at hj;cases hj
  | some y =>
   rw[hc]at hj;simp only[Gv,Gj]at hj;subst hj;exact lf_rep (hr j y hc)
 | _=>exact .hole _
theorem vA:∀(l:List TV) (j:Nat),(qf l)[j]? = (l[j]?).map Ea
 | [],j=>by simp[qf]
 | c::l,0=>rfl
 | c::l,j+1=>by simp[qf,vA l j]
theorem vX (l:List TV):(qf l).length=l.length:=by
 induction l with
 | nil=>rfl
 | cons c l ih=>simp[qf,ih]
theorem xv {f:FuncId} (hN:∀xs r,C f xs r->B0 P w0.G E f xs r) (hlk:∀i b,look i=some b->st.look i=some b) (hs:al w0 I0 NoR g st a ov w)  {c:Nat × Nat} (hpk:E.peek f=some c) {args:Array Operand} {tys:Array TypeId} {cal:Operand} {e:Eff}
  (hres:∀vals:Array Value,vals=args.map a.eval->(callFunc f vals).run P w=.ok (.enter f vals) w->(execOp a.eval ⟨dst,.call ⟨.value cal,args,tys⟩,type,pos,after,guard⟩).run P w=.ok (.enter f vals) w)
  (hh:(oj look f c (args.toList.map st.ev)).hits C e) (ha:e.app st dst=some st'):Good P w0 I0 ov ⟨dst,.call ⟨.value cal,args,tys⟩,type,pos,after,guard⟩ st' a w Q:=by
 have hgd:∀m,(args.toList.map a.eval).getD m undef=(args.map a.eval).getD m undef:=fun m=>by simp[Gx,Gw]
 unfold oj at hh;split at hh
 ·rename_i i rest hargs
  obtain⟨x0,xs0,hal,hx0,hrest⟩:∃x0 xs0,args.toList=x0::xs0/\st.ev x0=.one (.ptr i 0)/\xs0.map st.ev=rest:=by
   cases hal:args.toList with
   | nil=>rw[hal]at hargs;simp at hargs
   | cons x0 xs0=>rw[hal]at hargs;simp only[List.map_cons,List.cons.injEq]at hargs;exact⟨x0,xs0,rfl,hargs.1,hargs.2⟩
  split at hh
  ·rename_i cs hl
   split at hh
   ·rename_i x hc
    subst hrest;have hcn:cs.length=c.2:=by
     cases hb:cs.length.beq c.2 with
     | true=>exact(aC _ _).1 hb
     | false=>rw[hb]at hh;exact hh.elim
    rw[hcn,Nat.beq_refl]at hh;simp only[cond_true]at hh;obtain⟨xs,⟨r,hcall,hh⟩,hlen,hrep⟩:=kx hlk hs (hs.evs xs0) hh;cases hh;have hl2:=hlk i _ hl;obtain⟨vs,ty,hheap,hcr⟩:=hs.cells i cs hl2;have hvl:vs.size=cs.length:=by simpa using hcr.1
    have hcl:c.1<cs.length:=by
     rcases Nat.lt_or_ge c.1 cs.length with h'|h'
     ·exact h'
     ·rw[aS,Gu h']at hc;cases hc
    have hcc:cs[c.1]? = some (.t x):=by rw[aS,Gi hcl]at hc;rw[Gi hcl];simpa using hc
    have hvk:vs.toList[c.1]? = some (vs.getD c.1 undef):=by
     rw[Gl,Array.getElem?_eq_getElem (by omega)];simp[hvl,hcl]
    have hrx:=(hcr.2 c.1 _ _ hcc hvk).1.1;have hfi:Foot g st.look i (g.β i):=.inl ⟨cs,hl2,rfl⟩;have hone:∀u∈vs.toList,u.oneCell'=true:=fun u hu=>by
     obtain⟨m,hm,rfl⟩:=List.mem_iff_getElem.1 hu;exact(hcr.2 m (cs[m]'(by have:=hcr.1;omega)) _ (Gi _) (Gi hm)).2
    have hvals:(args.map a.eval).size=(x::qf xs).length:=by
     have:args.size=args.toList.length:=by simp
     rw[Array.size_map,this,hal];simp[hlen,vX]
    obtain⟨x',args',e1,hcp⟩:=(hN _ r hcall).2 c hpk;simp only[List.cons.injEq]at e1;obtain⟨rfl,rfl⟩:=e1;obtain⟨hcf,hcalls⟩:=hcp g.I w (g.β i) vs ty (args.map a.eval) (hs.laid (fun _ h=>h)) hs.lt hheap hone (hs.foot i _ hfi).2.2.1 (by omega) (by omega) (hs.foot i _ hfi).2.1 hrx hvals (by
      have:(args.map a.eval).getD 0 undef=a.eval x0:=by rw[<-hgd,hal];rfl
      rw[this];have hr0:=hs.ev x0;rw[hx0]at hr0;obtain⟨_,_,hv⟩:=hr0;exact hv) (fun j y hy=>by
      rw[<-hgd,hal];rw[vA]at hy;cases hz:xs[j]? with
      | none=>rw[hz]at hy;cases hy
      | some z =>
       rw[hz]at hy;simp only[Gv,Gj]at hy;subst hy;exact BT (hrep _ ⟨hs.lt,fun i b h=>(hs.foot i b h).2.1⟩ j z hz))
    simp only[Eff.app,Gj]at ha;subst ha;unfold Good Oper.wp;rw[hres _ rfl hcf];simp only[Oper.upon];refine hcalls.mono ?_;rintro e w' ⟨v,rfl,hb,I2,i1,i2,i3,hv⟩;have hg:=hs.grow hb (I':=I2) (R':=NoR) i1 i2 i3 (fun b h=>h.elim);exact⟨_,hg.put dst (v:=.tv r) hv⟩
   ·exact hh.elim
  ·exact hh.elim
 ·exact hh.elim
theorem xh {f:FuncId} (hN:∀xs r,C f xs r->B0 P w0.G E f xs r) (hE:∀t d,E.T t=some d->aW P t d) (hlk:∀i b,look i=some b->st.look i=some b) (hs:al w0 I0 NoR g st a ov w)  {args:Array Operand} {tys:Array TypeId} {cal:Operand} {e:Eff}
  (hres:∀vals:Array Value,vals=args.map a.eval->(callFunc f vals).run P w=.ok (.enter f vals) w->(execOp a.eval ⟨dst,.call ⟨.value cal,args,tys⟩,type,pos,after,guard⟩).run P w=.ok (.enter f vals) w)
  (hh:(mN E (st.nid dst) look f (args.toList.map st.ev)).hits C e) (ha:e.app st dst=some st'):Good P w0 I0 ov ⟨dst,.call ⟨.value cal,args,tys⟩,type,pos,after,guard⟩ st' a w Q:=by
 cases hpk:E.peek f with
 | some c =>
  simp only[mN,hpk]at hh;exact xv hN hlk hs hpk hres hh ha
 | none =>
 cases hnl:E.lent f with
 | some ld =>
  simp only[mN,hpk,hnl]at hh;exact xa hN hE hlk hs hpk hnl hres hh ha
 | none =>
 have hevs:=hs.evs args.toList;have hgd:∀m,(args.toList.map a.eval).getD m undef=(args.map a.eval).getD m undef:=fun m=>by simp[Gx,Gw]
 have wpc:∀{next:Act->World->Prop} {xs:List TV} {r:TV} (I':Nat->Prop),C f xs r->xs.length=(args.toList.map st.ev).length->w0.G.P w I'->(∀b,I' b->b<w.heap.size)->(∀(j:Nat) (x:TV),xs[j]? = some x->Rep w I' x ((args.toList.map a.eval).getD j undef)) ->
   (∀v w' I2 S,Below w.heap.size w w'->(∀b,I' b->I2 b)->(∀b,I2 b->b<w'.heap.size)->(∀b,b<w.heap.size->I2 b->I' b)->(∀b,S b->w.heap.size<=b/\b<w'.heap.size/\¬I2 b)->ap w' I2 r v S->next (a.put dst v) w') ->
   Oper.wp P ⟨dst,.call ⟨.value cal,args,tys⟩,type,pos,after,guard⟩ a w next Q:=by
  intro next xs r I' hc hl hG hlt hrep hn;obtain⟨hcf,hcalls⟩:=(((hN xs r hc).1 hpk).1 hnl).1 I' w (args.map a.eval) hG hlt (by rw[hl];simp) (fun j x hx=>by rw[<-hgd];exact hrep j x hx);unfold Oper.wp;rw[hres _ rfl hcf];simp only[Oper.upon];refine hcalls.mono ?_;rintro e w' ⟨v,rfl,hb,I2,S,h1,h2,h3,h4,h5⟩;exact hn v w' I2 S hb h1 h2 h3 h4 h5
 simp only[mN,hpk,hnl]at hh;split at hh
 ·rename_i ds hds
  have htys:=tO hE hds;cases hp:E.pure f || !gZ ds with
  | true =>
   simp only[hp,cond_true]at hh;obtain⟨xs,⟨r,hc,hh⟩,hl,hrep⟩:=kx hlk hs hevs hh;refine wpc (fun b=>b<w.heap.size) hc hl (hs.laid hs.lt) (fun _ h=>h) (hrep _ ⟨hs.lt,fun i b h=>(hs.foot i b h).2.1⟩) (fun v w' I2 S hb i1 i2 i3 i4 hv=>?_);have hnI:∀b,S b->¬g.I b:=fun b hb h=>by have:=hs.lt b h;have:=(i4 b hb).1;omega
   have hg:=hs.grow hb (I':=g.I) (R':=S) (fun _ h=>h) (fun b h=>Nat.lt_of_lt_of_le (hs.lt b h) hb.size) (fun _ _ h=>h) (fun b h=>.inr ⟨(i4 b h).1,(i4 b h).2.1,hnI b h⟩);refine pf (ps:=[]) hg rfl rfl htys (fun _=>?_) (fun _ h=>h) hh ha;cases hpu:E.pure f with
   | true=>exact .inl (hv.own ((((hN xs r hc).1 hpk).1 hnl).2 hpu))
   | false =>
    simp only[hpu,Bool.false_or,Bool.not_eq_true']at hp;exact .inr ⟨hp,_,_,hv⟩
  | false =>
   simp only[hp,cond_false]at hh;obtain⟨xs,rs,hh,hroots,hl,hrep⟩:=nq hlk hs hevs hh;cases hn:dh rs with
   | false=>simp[hn,Prg.hits]at hh
   | true =>
    simp only[hn,cond_true]at hh;obtain⟨r,hc,hh⟩:=hh;obtain⟨st1,g1,f1,f2,f3,f4,_⟩:=kg (dst:=dst) rs hs hroots hn;refine wpc g1.I hc hl (f2.laid (fun _ h=>h)) f2.lt (hrep _ f3) (fun v w' I2 S hb i1 i2 i3 i4 hv=>?_);have hg:=f2.grow hb (I':=I2) (R':=S) i1 i2 i3 (fun b h=>.inr (i4 b h));exact pf (ps:=uL rs) hg f1 f4 htys (fun _=>.inl hv) (fun _ h=>h) hh ha
 ·exact hh.elim
theorem yJ {f:FuncId} (hT:∀xs r,C f xs r->AZ P w0.G f xs r) (hlk:∀i b,look i=some b->st.look i=some b) (hs:al w0 I0 NoR g st a ov w) {args:Array Operand} {tys:Array TypeId} {cal:Operand} {e:Eff}
  (hres:∀vals:Array Value,vals=args.map a.eval->(callFunc f vals).run P w=.ok (.enter f vals) w->(execOp a.eval ⟨dst,.call ⟨.value cal,args,tys⟩,type,pos,after,guard⟩).run P w=.ok (.enter f vals) w)
  (hh:(sK look f (args.toList.map st.ev)).hits C e) (ha:e.app st dst=some st'):Good P w0 I0 ov ⟨dst,.call ⟨.value cal,args,tys⟩,type,pos,after,guard⟩ st' a w Q:=by
 exact False.elim hh
theorem EY (hC:yB P w0.G E C) (hE:∀t d,E.T t=some d->aW P t d) (hlk:∀i b,look i=some b->st.look i=some b) (hs:al w0 I0 NoR g st a ov w) {f:FuncId} {args:Array Operand} {tys:Array TypeId} {fv:AV} {e:Eff}
  (hh:(opL E (st.nid dst) look (.call ⟨.value (.func f),args,tys⟩) (fv::args.toList.map st.ev)).hits C e) (ha:e.app st dst=some st'):Good P w0 I0 ov ⟨dst,.call ⟨.value (.func f),args,tys⟩,type,pos,after,guard⟩ st' a w Q:=by
 have hres:∀vals:Array Value,vals=args.map a.eval->(callFunc f vals).run P w=.ok (.enter f vals) w->(execOp a.eval ⟨dst,.call ⟨.value (.func f),args,tys⟩,type,pos,after,guard⟩).run P w=.ok (.enter f vals) w:=fun vals hv hcf=>by
  subst hv;simp only[execOp,resolve,Act.eval,Deferred.ofValue,Sem.run_bind,Sem.run_pure,Result.andThen_ok,invoke];simpa using hcf
 simp only[opL]at hh;cases htn:E.turn f with
 | true =>
  rw[htn]at hh;exact yJ (fun xs r hc=>(hC f xs r hc).1 htn) hlk hs hres hh ha
 | false =>
 rw[htn]at hh;cases hen:E.eye f with
 | true=>rw[hen]at hh;exact hh.elim
 | false =>
 rw[hen]at hh;exact xh (fun xs r hc=>((hC f xs r hc).2 htn).2 hen) hE hlk hs hres hh ha
theorem Bp {x:TV} {f:Nat} (h:fnOf x=some f):x=.lit (.func (.func f) #[] #[]):=by
 unfold fnOf at h;split at h
 ·rename_i g ts fs
  cases hb:ts.size.beq 0&&fs.size.beq 0 with
  | false=>simp[hb]at h
  | true =>
   simp only[hb,cond_true,Gj]at h;subst h;simp only[Gk]at hb;have h1:=(aC _ _).1 hb.1;have h2:=(aC _ _).1 hb.2;rw[Array.eq_empty_of_size_eq_zero h1,Array.eq_empty_of_size_eq_zero h2]
 ·cases h
theorem zl {f:FuncId} {i:Nat} (hT:E.eye f=true->E.turn f=false->∀xs r,C f xs r->A7 P w0.G f xs r) (hE:∀t d,E.T t=some d->aW P t d) (hlk:∀i b,look i=some b->st.look i=some b) (hs:al w0 I0 NoR g st a ov w) {args:Array Operand} {tys:Array TypeId} {cal:Operand} {pv:Value} {e:Eff}
  (hpv:∃cs,st.look i=some (.cells cs)/\pv=.pointer (some ⟨g.β i,0,none⟩))
  (hres:∀vals:Array Value,vals=args.map a.eval ++ #[pv]->(callFunc f vals).run P w=.ok (.enter f vals) w->(execOp a.eval ⟨dst,.call ⟨.value cal,args,tys⟩,type,pos,after,guard⟩).run P w=.ok (.enter f vals) w)
  (hh:(DP E (st.nid dst) look f i (args.toList.map st.ev)).hits C e) (ha:e.app st dst=some st'):Good P w0 I0 ov ⟨dst,.call ⟨.value cal,args,tys⟩,type,pos,after,guard⟩ st' a w Q:=by
 exact False.elim hh
theorem op_dyn (hC:yB P w0.G E C) (hE:∀t d,E.T t=some d->aW P t d) (hlk:∀i b,look i=some b->st.look i=some b) (hs:al w0 I0 NoR g st a ov w) {t:Tmp} {args:Array Operand} {tys:Array TypeId} {e:Eff}
  (hh:(opL E (st.nid dst) look (.call ⟨.value (.tmp t),args,tys⟩) (st.ev (.tmp t)::args.toList.map st.ev)).hits C e) (ha:e.app st dst=some st'):Good P w0 I0 ov ⟨dst,.call ⟨.value (.tmp t),args,tys⟩,type,pos,after,guard⟩ st' a w Q:=by
 simp only[opL]at hh;split at hh
 ·rename_i x hx
  obtain⟨f,hf,hh⟩:=hh;have:=Bp hf;subst this;have hev:a.eval (.tmp t)=.func (.func f) #[] #[]:=bO (cw (hs.ev (.tmp t)) hx);obtain⟨hln,hh⟩:=hh;simp only[Gk]at hln;have hnl:E.lent f=none:=by simpa using hln.1.1
  have hpk:E.peek f=none:=by simpa using hln.1.2
  have h2:E.turn f=false/\E.eye f=false:=by simpa using hln.2
  obtain⟨htn,hen⟩:=h2;obtain⟨xs,⟨r,hc,h1,hh⟩,hl,hrep⟩:=kx hlk hs (hs.evs args.toList) hh;have hgd:∀m,(args.toList.map a.eval).getD m undef=(args.map a.eval).getD m undef:=fun m=>by simp[Gx,Gw]
  obtain⟨hcf,hcalls⟩:=(((((hC f xs r hc).2 htn).2 hen).1 hpk).1 hnl).1 (fun b=>b<w.heap.size) w (args.map a.eval) (hs.laid hs.lt) (fun _ h=>h) (by rw[hl];simp) (fun j x hx=>by rw[<-hgd];exact hrep _ ⟨hs.lt,fun i b h=>(hs.foot i b h).2.1⟩ j x hx);have hrun:(execOp a.eval ⟨dst,.call ⟨.value (.tmp t),args,tys⟩,type,pos,after,guard⟩).run P w=.ok (.enter f (args.map a.eval)) w:=by
   simp only[execOp,resolve,hev,Deferred.ofValue,Sem.run_bind,Sem.run_pure,Result.andThen_ok,invoke];simpa using hcf
  rw[AK hh]at ha;simp only[Eff.app,Gj]at ha;subst ha;unfold Good Oper.wp;rw[hrun];simp only[Oper.upon];refine hcalls.mono ?_;rintro e w' ⟨v,rfl,hb,I2,S,i1,i2,i3,i4,hv⟩;have hg:=hs.grow hb (I':=g.I) (R':=NoR) (fun _ h=>h) (fun b h=>Nat.lt_of_lt_of_le (hs.lt b h) hb.size) (fun _ _ h=>h) (fun b h=>h.elim);obtain⟨e1,e2⟩:=eE hv h1;refine⟨_,hg.put dst (v:=.one (.t r)) ?_⟩;rw[e1];exact⟨.lit _,rj e2⟩
 ·split at hh
  ·rename_i f i hfv
   have hr0:=hs.ev (.tmp t);rw[hfv]at hr0;obtain⟨cs,hl,hev⟩:=hr0;refine zl (pv:=.pointer (some ⟨g.β i,0,none⟩)) (fun he hte xs r hc=>((hC f xs r hc).2 hte).1 he) hE hlk hs ⟨cs,hl,rfl⟩ (fun vals hv hcf=>?_) hh ha
   ·subst hv
    simp only[execOp,resolve,hev,Deferred.ofValue,Sem.run_bind,Sem.run_pure,Result.andThen_ok,invoke];simpa using hcf
  ·exact hh.elim
theorem AS {t:TypeId} {d:TyD} (h:aW P t d) (hk:d.kd.kV=true):∃desc,P.underlying t=some desc/\∀ms,desc≠.interface ms:=by
 obtain⟨desc,h1,h2,_⟩:=h.und;refine⟨desc,h1,fun ms e=>?_⟩;subst e;simp only[pI]at h2;rw[<-h2]at hk;cases hk
theorem uC {t:TypeId} {d:TyD} (h:aW P t d) (hk:d.kd.kV=true) (v:Value):(Instr.makeInterface t v).run P w=.ok (.iface t v) w:=by
 obtain⟨desc,h1,h2⟩:=AS h hk;simp only[Instr.makeInterface,Sem.run_bind,aR h1,Result.andThen_ok];cases desc<;>first|rfl|exact absurd rfl (h2 _)
theorem C7 {t xt:TypeId} {d:TyD} (h:aW P t d) (hk:d.kd.kV=true) (v:Value):(Instr.typeAssert (.iface t v) xt t false).run P w=.ok v w:=by
 obtain⟨desc,h1,h2⟩:=AS h hk;simp only[Instr.typeAssert,Sem.run_bind,aR h1,Result.andThen_ok];cases desc<;>first|(simp;done)|exact absurd rfl (h2 _)
theorem op_ifc (hE:∀t d,E.T t=some d->aW P t d) (hs:al w0 I0 NoR g st a ov w) {t:TypeId} {x:Operand} {e:Eff} (hh:(opL E id look (.makeInterface t x) [st.ev x]).hits C e) (ha:e.app st dst=some st') :
  Good P w0 I0 ov ⟨dst,.makeInterface t x,type,pos,after,guard⟩ st' a w Q:=by
 simp only[opL]at hh;have hx:=hs.ev x;split at hh
 ·rename_i d hT
  have ht:=hE _ _ hT;unfold Dq at hh;cases hk:d.kd.kV with
  | false=>rw[hk]at hh;exact hh.elim
  | true =>
   rw[hk]at hh;simp only[cond_true]at hh;split at hh
   ·rename_i i hxi
    rw[hxi]at hx;obtain⟨cs,hl,hv⟩:=hx;cases hh;exact aQ hs (v:=.one (.ifp t i)) (u:=.iface t (.pointer (some ⟨g.β i,0,none⟩))) (by simp[execOp,hv,uC ht hk]) ⟨cs,hl,rfl⟩ ha
   ·split at hh
    ·rename_i y hy
     have hr:=cw hx hy;obtain⟨v,hv,hh⟩:=hh;unfold pifc at hv;split at hv
     ·split at hv
      ·simp only[Gj]at hv
       subst hv;have he:=bO hr;exact cP hs (by simp[execOp,he,uC ht hk]) (.lit _) rfl hh ha
      ·cases hv
     ·cases hv
    ·exact hh.elim
 ·exact hh.elim
theorem Fb (hE:∀t d,E.T t=some d->aW P t d) (hs:al w0 I0 NoR g st a ov w) {t xt:TypeId} {x:Operand} {ok:Bool} {e:Eff} (hh:(opL E id look (.typeAssert x xt t ok) [st.ev x]).hits C e) (ha:e.app st dst=some st') :
  Good P w0 I0 ov ⟨dst,.typeAssert x xt t ok,type,pos,after,guard⟩ st' a w Q:=by
 cases ok with
 | true=>simp[opL,Prg.hits]at hh
 | false =>
 simp only[opL]at hh;have hx:=hs.ev x;split at hh
 ·rename_i d hT
  have ht:=hE _ _ hT;unfold vL at hh;cases hk:d.kd.kV with
  | false=>rw[hk]at hh;exact hh.elim
  | true =>
   rw[hk]at hh;simp only[cond_true]at hh;split at hh
   ·rename_i y hy
    have hr:=cw hx hy;obtain⟨v,hv,hh⟩:=hh;unfold pasrt at hv;split at hv
    ·split at hv
     ·rename_i hc
      obtain⟨rfl,hsc⟩:=hc;simp only[Gj]at hv;subst hv;have he:=bO hr;exact cP hs (by simp only[execOp,he];simp only[Sem.run_bind,C7 ht hk,Result.andThen_ok,Sem.run_pure]) (.lit _) (rj hsc) hh ha
     ·cases hv
    ·cases hv
   ·exact hh.elim
 ·exact hh.elim
theorem Fk (hE:∀t d,E.T t=some d->aW P t d) (hlk:∀i b,look i=some b->st.look i=some b) (hs:al w0 I0 NoR g st a ov w) {t:TypeId} {len:Nat} {parts:Array (Nat × Operand)} {e:Eff}
  (hh:(Dy E t len parts ((Op.buildSlice t len parts).operands.toList.map st.ev)).hits C e) (ha:e.app st dst=some st'):Good P w0 I0 ov ⟨dst,.buildSlice t len parts,type,pos,after,guard⟩ st' a w Q:=by
 exact False.elim hh
end
end Go.Ab

import Derived.Test.YthfcodidfelpoaaAM12
set_option linter.all false
namespace Go.Ab
open Go.RowKit
section
variable {P:Program} {E:Env} {C:Cal} {w0:Bs} {w w':World} {I0 I R:Nat->Prop} {g g':Gh} {st st':ASt} {a:Act} {ov:List Value} {look:Look} {Q:Exit->Act->World->Prop} {id:Nat}
variable {dst:Option Tmp} {type:TypeId} {pos:String} {after:Array Edge} {guard:Option (Nat × Bool)}
theorem ph (id r0:Nat) (x:TV) (agg:Bool):∀ (zs:List Value) (j m:Nat),(ei id r0 zs x agg j)[m]? = (zs[m]?).map fun z=>bif aC z then CA.sref id (r0 + (j + m)) [] else .t (bif agg then x.cell (j + m) else x)
 | [],j,m=>by simp [ei]
 | z :: zs,j,0=>by simp [ei]
 | z :: zs,j,m + 1=>by
  simp only [ei,List.getElem?_cons_succ,ph id r0 x agg zs (j + 1) m]
  rw [show j + 1 + m=j + (m + 1) by omega]
theorem o8 (id r0:Nat) (x:TV) (agg:Bool):∀ (zs:List Value) (j:Nat),(ei id r0 zs x agg j).length=zs.length
 | [],j=>rfl
 | z :: zs,j=>by simp [ei,o8 id r0 x agg zs (j + 1)]
theorem kS (x:TV) (agg:Bool):∀ (zs:List Value) (j m:Nat),(dE zs x agg j)[m]? = (zs[m]?).map fun z=>bif aC z then (bif agg then x.cell (j + m) else x) else .hole
 | [],j,m=>by simp [dE]
 | z :: zs,j,0=>by simp [dE]
 | z :: zs,j,m + 1=>by
  simp only [dE,List.getElem?_cons_succ,kS x agg zs (j + 1) m]
  rw [show j + 1 + m=j + (m + 1) by omega]
theorem gf (x:TV) (agg:Bool):∀ (zs:List Value) (j:Nat),(dE zs x agg j).length=zs.length
 | [],j=>rfl
 | z :: zs,j=>by simp [dE,gf x agg zs (j + 1)]
theorem al.aggs {cs:List TV} {v:Value} {S:Nat->Prop} (h:al w I (.agg cs) v S):∃ (vs:Array Value) (F:Nat->Nat->Prop),v=.agg vs/\vs.size=cs.length/\(∀ j,j < vs.size->(vs.getD j undef).oneCell'=true) /\
  (∀ (j:Nat) (c:TV),cs[j]? = some c->al w I c (vs.getD j undef) (F j))/\(∀ j b,F j b->S b)/\∀ k k' b,F k b->F k' b->k=k':=by
 cases h with
 | fr h =>
  cases h with
  | agg hl h1 hr=>exact ⟨_,fun _ _=>False,rfl,hl,h1,fun j c hj=>.fr (hr j c hj),fun _ _ h=>h.elim,fun _ _ _ h=>h.elim⟩
 | agg F hl h1 hr hF hd=>exact ⟨_,F,rfl,hl,h1,hr,hF,hd⟩
theorem al.tups {cs:List TV} {v:Value} {S:Nat->Prop} (h:al w I (.tup cs) v S):∃ (vs:Array Value) (F:Nat->Nat->Prop),v=.tuple vs/\vs.size=cs.length /\
  (∀ (j:Nat) (c:TV),cs[j]? = some c->al w I c (vs.getD j undef) (F j))/\(∀ j b,F j b->S b)/\∀ k k' b,F k b->F k' b->k=k':=by
 cases h with
 | fr h =>
  cases h with
  | tup hl hr=>exact ⟨_,fun _ _=>False,rfl,hl,fun j c hj=>.fr (hr j c hj),fun _ _ h=>h.elim,fun _ _ _ h=>h.elim⟩
 | tup F hl hr hF hd=>exact ⟨_,F,rfl,hl,hr,hF,hd⟩
theorem lX {T:Type} {t:TypeId} {d:TyD} (ht:aV P t d) {x:TV} {v:Value} {S:Nat->Prop} (hx:al w I x v S) {k:Prg T} {e:T} (h:(jA d x k).hits C e) :
  k.hits C e/\∃ (us:List Value) (F:Nat->Nat->Prop),us.length=d.zero.length/\(∀ r y,(dE d.zero x d.kd.isAgg 0)[r]? = some y->al w I y (us.getD r undef) (F r))/\(∀ r b,F r b->S b)/\(∀ r r' b,F r b->F r' b->r=r') /\
   (∀ m z,d.zero[m]? = some z->aC z=true->nI (us.getD m undef)) /\
   ∀ (g':Gh) (look':Look) (id r0:Nat),(∀ m z,d.zero[m]? = some z->aC z=true->bE w g' look' (.sref id (r0 + m) []) (us.getD m undef))->l6 w g' look' d.kd.isAgg (ei id r0 d.zero x d.kd.isAgg 0) v:=by
 unfold jA at h
 cases hk:d.kd.isAgg with
 | true =>
  simp only [hk,cond_true] at h
  obtain ⟨h1,h⟩:=h
  refine ⟨h,?_⟩
  simp only [FH] at h1
  obtain ⟨h1,h2⟩:=h1
  cases x with
  | agg cs =>
   simp only [TV.isAgg,ap] at h1
   obtain ⟨vs,F,rfl,hl,hone,hr,hF,hd⟩:=hx.aggs
   have hcell:∀ m z,d.zero[m]? = some z->∃ c,cs[m]? = some c/\(TV.agg cs).cell m=c/\(aC z=true->c.isSl=true)/\(aC z=false->c.isSc=true):=fun m z hz=>by
    obtain ⟨c,c1,c2,c3⟩:=ij h2 m z hz
    simp only [TV.cellsL,Nat.zero_add] at c1
    exact ⟨c,c1,by simp only [TV.cell]; exact bT c1,c2,c3⟩
   have hgd:∀ m,vs.toList.getD m undef=vs.getD m undef:=fun m=>by simp [FU,FS]
   refine ⟨vs.toList,F,by simp [hl,h1,ht.zlen],fun r y hy=>?_,hF,hd,fun m z hz hs=>?_,fun g' look' id r0 hrep=>⟨vs,rfl,by rw [o8]; simp [hl,h1,ht.zlen],fun j c u hc hu=>?_⟩⟩
   ·rw [kS] at hy
    cases hz:d.zero[r]? with
    | none=>simp [hz] at hy
    | some z =>
     obtain ⟨c,c1,c2,c3,c4⟩:=hcell r z hz
     simp only [hz,FR,FG,cond_true,Nat.zero_add] at hy
     rw [hgd]
     cases hs:aC z with
     | true =>
      simp only [hs,cond_true] at hy
      rw [<- hy,c2]
      exact hr r c c1
     | false =>
      simp only [hs,cond_false] at hy
      rw [<- hy]
      exact .fr (.hole _)
   ·obtain ⟨c,c1,c2,c3,c4⟩:=hcell m z hz
    rw [hgd]
    obtain ⟨a,n,cap,e⟩:=fO (hr m c c1) (c3 hs)
    exact ⟨a,n,cap,e⟩
   ·have hju:j < vs.size:=by have:=(FE.1 hu).1; simpa using this
    have hgu:vs.getD j undef=u:=by rw [<- hgd,FS,hu]; rfl
    refine ⟨?_,by rw [<- hgu]; exact hone j hju⟩
    rw [ph] at hc
    cases hz:d.zero[j]? with
    | none=>simp [hz] at hc
    | some z =>
     obtain ⟨c',c1,c2,c3,c4⟩:=hcell j z hz
     simp only [hz,FR,FG,cond_true,Nat.zero_add] at hc
     cases hs:aC z with
     | true =>
      simp only [hs,cond_true] at hc
      rw [<- hc,<- hgu,<- hgd]
      exact hrep j z hz hs
     | false =>
      simp only [hs,cond_false] at hc
      rw [<- hc,c2]
      obtain ⟨e1,e2⟩:=eP (hr j c' c1) (c4 hs)
      rw [e1,hgu]
      rw [hgu] at e2
      exact ⟨.lit _,rB e2⟩
  | _=>simp [TV.isAgg] at h1
 | false =>
  simp only [hk,cond_false] at h
  obtain ⟨h1,h⟩:=h
  refine ⟨h,?_⟩
  have hz1:d.zero.length=1:=by rw [ht.zlen,ht.one hk]
  obtain ⟨z0,hz0⟩:∃ z0,d.zero=[z0]:=by
   cases hd:d.zero with
   | nil=>simp [hd] at hz1
   | cons z l=>simp [hd] at hz1; exact ⟨z,by rw [hz1]⟩
  obtain ⟨c,c1,c2,c3⟩:=ij h1 0 z0 (by rw [hz0]; rfl)
  simp [TV.cellsL] at c1
  subst c1
  have hone:v.oneCell'=true:=by
   cases hs:aC z0 with
   | true=>obtain ⟨a,n,cap,e⟩:=fO hx (c2 hs); rw [e]; rfl
   | false=>exact rB (eP hx (c3 hs)).2
  refine ⟨[v],fun r b=>r=0/\S b,by rw [hz0]; rfl,fun r y hy=>?_,fun r b h=>h.2,fun r r' b h h'=>by rw [h.1,h'.1],fun m z hz hs=>?_,fun g' look' id r0 hrep=>⟨_,by rw [hz0]; rfl,?_,hone⟩⟩
  ·rw [kS,hz0] at hy
   cases r with
   | zero =>
    simp at hy
    cases hs:aC z0 with
    | true=>simp [hs] at hy; subst hy; exact hx.mono (fun b hb=>⟨rfl,hb⟩)
    | false=>simp [hs] at hy; subst hy; exact .fr (.hole _)
   | succ r=>simp at hy
  ·rw [hz0] at hz
   cases m with
   | zero=>simp at hz; subst hz; obtain ⟨a,n,cap,e⟩:=fO hx (c2 hs); exact ⟨a,n,cap,e⟩
   | succ m=>simp at hz
  ·have hr0:=hrep 0 z0 (by rw [hz0]; rfl)
   cases hs:aC z0 with
   | true =>
    simpa using hr0 hs
   | false =>
    obtain ⟨e1,e2⟩:=eP hx (c3 hs)
    simp only [cond_false]
    rw [e1]
    exact ⟨.lit _,hone⟩
theorem kz {T:Type} {x:TV} {vals:Nat->Value} {G:Nat->Nat->Prop} (hG:∀ k k' b,G k b->G k' b->k=k') {k:Prg T} {e:T}:∀ (ds:List TyD) (j:Nat),(∀ d ∈ ds,∃ t,aV P t d)->(∀ m,m < ds.length->al w I (x.comp (j + m)) (vals (j + m)) (G (j + m)))->(gQ x ds j k).hits C e ->
  k.hits C e/\∃ (us:List Value) (F:Nat->Nat->Prop),us.length=(bn x ds j).length/\(∀ r y,(bn x ds j)[r]? = some y->al w I y (us.getD r undef) (F r))/\(∀ r b,F r b->∃ m,j<=m/\G m b)/\(∀ r r' b,F r b->F r' b->r=r') /\
   ∀ (g':Gh) (look':Look) (id r0:Nat),(gS ds=true->∃ xs,look' id=some (.tree xs)/\∀ r y,(bn x ds j)[r]? = some y->xs[r0 + r]? = some y/\g'.ρ id (r0 + r)=us.getD r undef) ->
    ∀ m b c,(dN id x ds j r0)[m]? = some (b,c)->l6 w g' look' b c (vals (j + m))
 | [],j,hd,hr,h=>⟨h,[],fun _ _=>False,rfl,fun r y hy=>by simp [bn] at hy,fun _ _ h=>h.elim,fun _ _ _ h=>h.elim,fun g' look' id r0 _ m b c hc=>by simp [dN] at hc⟩
 | d :: ds, j, hd, hr, h => by
  obtain ⟨t,ht⟩:=hd d (by simp)
  have h0:=hr 0 (by simp)
  simp only [Nat.add_zero] at h0
  obtain ⟨h1,us1,F1,a1,a2,a3,a4,a5,a6⟩:=lX ht h0 h
  obtain ⟨h2,us2,F2,b1,b2,b3,b4,b5⟩:=kz hG ds (j + 1) (fun d' hm=>hd d' (FM _ hm)) (fun m hm=>by
   have:=hr (m + 1) (by simp; omega)
   rwa [show j + (m + 1)=j + 1 + m by omega] at this) h1
  have hlen:us1.length=(dE d.zero (x.comp j) d.kd.isAgg 0).length:=by rw [gf,a1]
  have getL:∀ r,r < us1.length->(us1 ++ us2).getD r undef=us1.getD r undef:=fun r hr=>by simp [FS,FO hr]
  have getR:∀ r,us1.length<=r->(us1 ++ us2).getD r undef=us2.getD (r - us1.length) undef:=fun r hr=>by simp [FS,FP hr]
  refine ⟨h2,us1 ++ us2,fun r b=>if r < us1.length then F1 r b else F2 (r - us1.length) b,by simp [bn,hlen,b1],fun r y hy=>?_,fun r b hb=>?_,fun r r' b hb hb'=>?_,fun g' look' id r0 hroot m bb c hc=>?_⟩
  ·simp only [bn] at hy
   by_cases hlt:r < us1.length
   ·rw [FO (by omega)] at hy
    rw [getL r hlt]
    simp only [hlt,if_true]
    exact a2 r y hy
   ·rw [FP (by omega),<- hlen] at hy
    rw [getR r (by omega)]
    simp only [hlt,if_false]
    exact b2 _ y hy
  ·by_cases hlt:r < us1.length
   ·simp only [hlt,if_true] at hb
    exact ⟨j,Nat.le_refl _,a3 r b hb⟩
   ·simp only [hlt,if_false] at hb
    obtain ⟨m,m1,m2⟩:=b3 _ b hb
    exact ⟨m,by omega,m2⟩
  ·by_cases hlt:r < us1.length
   ·simp only [hlt,if_true] at hb
    by_cases hlt':r' < us1.length
    ·simp only [hlt',if_true] at hb'
     exact a4 r r' b hb hb'
    ·simp only [hlt',if_false] at hb'
     obtain ⟨m,m1,m2⟩:=b3 _ b hb'
     have:=hG j m b (a3 r b hb) m2
     omega
   ·simp only [hlt,if_false] at hb
    by_cases hlt':r' < us1.length
    ·simp only [hlt',if_true] at hb'
     obtain ⟨m,m1,m2⟩:=b3 _ b hb
     have:=hG j m b (a3 r' b hb') m2
     omega
    ·simp only [hlt',if_false] at hb'
     have:=b4 _ _ b hb hb'
     omega
  ·cases m with
   | zero =>
    simp only [dN,List.getElem?_cons_zero,FG,Prod.mk.injEq] at hc
    obtain ⟨rfl,rfl⟩:=hc
    refine a6 g' look' id r0 (fun q z hz hs=>?_)
    have hsl:gZ d.zero=true:=by
     cases hh:gZ d.zero with
     | true=>rfl
     | false=>rw [ii hh q z hz] at hs; cases hs
    obtain ⟨xs,l1,l2⟩:=hroot (by simp [gS,hsl])
    have hql:q < us1.length:=by rw [a1]; exact (FE.1 hz).1
    obtain ⟨y,hy⟩:∃ y,(bn x (d :: ds) j)[q]? = some y:=⟨_,FF (by simp [bn,<- hlen]; omega)⟩
    obtain ⟨l3,l4⟩:=l2 q y hy
    rw [getL q hql] at l4
    exact ⟨xs,y,y.nd,l1,l3,⟨l4.symm,rfl⟩,a5 q z hz hs⟩
   | succ m =>
    simp only [dN,List.getElem?_cons_succ] at hc
    have:=b5 g' look' id (r0 + d.zero.length) (fun hany=>by
     obtain ⟨xs,l1,l2⟩:=hroot (by simp only [gS,hany]; cases gZ d.zero <;> rfl)
     refine ⟨xs,l1,fun r y hy=>?_⟩
     obtain ⟨l3,l4⟩:=l2 (d.zero.length + r) y (by simp only [bn]; rw [FP (by rw [gf]; omega),gf]; simpa using hy)
     rw [getR _ (by omega)] at l4
     rw [Nat.add_assoc]
     exact ⟨l3,by rw [l4]; congr 1; omega⟩) m bb c hc
    rwa [show j + 1 + m=j + (m + 1) by omega] at this
theorem nC (id:Nat) (x:TV):∀ (ds:List TyD) (j r0:Nat),(dN id x ds j r0).length=ds.length
 | [],j,r0=>rfl
 | d :: ds,j,r0=>by simp [dN,nC id x ds]
theorem mC {ps:List Prim} {st1:ASt} (hs:ai w0 I0 R g st1 a ov w) (h1:ae dst ps st=some st1) (ho:st1.out.length=st.out.length) {ds:List TyD} (hds:∀ d ∈ ds,∃ t,aV P t d) {v:TV} {u:Value} {S:Nat->Prop}
  (hv:(∀ b,S b->R b)->al w g.I v u S\/(gS ds=false/\∃ I S,al w I v u S)) (hSR:∀ b,S b->R b) {e:Eff} (hh:(um (st.nid dst) ds v ps).hits C e) (ha:e.app st dst=some st'):Sim w0 I0 st' (a.put dst u) ov w:=by
 have hv:=hv hSR
 have new:∀ (xs:List TV) (av:AV) (us:List Value) (F:Nat->Nat->Prop),(cM ps (.tree xs) av).app st dst=some st'->(∀ r y,xs[r]? = some y->al w g.I y (us.getD r undef) (F r))->(∀ r b,F r b->S b)->(∀ r r' b,F r b->F r' b->r=r') ->
   (∀ g' look',look' (st.nid dst)=some (.tree xs)->(∀ r,g'.ρ (st.nid dst) r=us.getD r undef)->bL w g' look' av u)->Sim w0 I0 st' (a.put dst u) ov w:=by
  intro xs av us F ha hr hF hd hav
  obtain ⟨d,rfl,n1,n2,rfl⟩:=j3 ha h1 ho
  obtain ⟨s1,s2⟩:=hs.lw (xs:=xs) n2 n1 hs.below (Nat.le_refl _) (fun _ _ _=>rfl) (fun r=>us.getD r undef) F hr (fun r b _ hb=>.inl (hSR b (hF r b hb))) (fun r r' b _ _ h h'=>hd r r' b h h')
  refine ⟨_,s1.put (some d) (hav _ _ ?_ (fun r=>by simp [Gh.ko]))⟩
  rw [ag,if_pos ⟨rfl,n2⟩]
 have plain:∀ (av:AV),(match ps with | []=>Eff.val av | _=>.gen ps av).app st dst=some st'->(∀ g' look',bL w g' look' av u)->Sim w0 I0 st' (a.put dst u) ov w:=by
  intro av ha hav
  have:st'=st1.put dst av:=by
   cases ps with
   | nil =>
    simp only [ae,FG] at h1
    subst h1
    simp only [Eff.app,FG] at ha
    exact ha.symm
   | cons p l =>
    simp only [Eff.app,h1,FG] at ha
    exact ha.symm
  subst this
  exact ⟨_,(hs.weaken (R':=NoR) (fun _ h=>h.elim)).put dst (hav _ _)⟩
 have single:∀ d:TyD,ds=[d]->Sim w0 I0 st' (a.put dst u) ov w:=by
  intro d e1
  subst e1
  obtain ⟨t,ht⟩:=hds d (by simp)
  simp only [um] at hh
  rcases hv with hv | ⟨hany,I',S',hv⟩
  ·obtain ⟨hh,us,F,q1,q2,q3,q4,q5,q6⟩:=lX ht hv hh
   split at hh
   ·rename_i av hav
    cases hsl:gZ d.zero with
    | true =>
     simp only [hsl,cond_true] at hh
     cases hh
     refine new _ av us F ha q2 q3 q4 (fun g' look' hl hρ=>bQ hav (q6 g' look' _ 0 (fun m z hz hs=>?_)))
     have hlt:m < (dE d.zero v d.kd.isAgg 0).length:=by rw [gf]; exact (FE.1 hz).1
     exact ⟨_,_,_,hl,by rw [Nat.zero_add]; exact FF hlt,⟨by rw [Nat.zero_add,hρ],rfl⟩,q5 m z hz hs⟩
    | false =>
     simp only [hsl,cond_false] at hh
     cases hh
     exact plain av ha (fun g' look'=>bQ hav (q6 g' look' _ 0 (fun m z hz hs=>by rw [ii hsl m z hz] at hs; cases hs)))
   ·exact hh.elim
  ·obtain ⟨hh,us,F,q1,q2,q3,q4,q5,q6⟩:=lX ht hv hh
   have hsl:gZ d.zero=false:=by
    simp only [gS] at hany
    cases hsl:gZ d.zero with
    | true=>simp [hsl] at hany
    | false=>rfl
   split at hh
   ·rename_i av hav
    simp only [hsl,cond_false] at hh
    cases hh
    exact plain av ha (fun g' look'=>bQ hav (q6 g' look' _ 0 (fun m z hz hs=>by rw [ii hsl m z hz] at hs; cases hs)))
   ·exact hh.elim
 have many:(Prg.chk (v.isTup ds.length) (gQ v ds 0 (bif gS ds then .ret (cM ps (.tree (bn v ds 0)) (.tups (dN (st.nid dst) v ds 0 0)))
   else .ret (match ps with | []=>.val (.tups (dN (st.nid dst) v ds 0 0)) | _=>.gen ps (.tups (dN (st.nid dst) v ds 0 0)))))).hits C e->Sim w0 I0 st' (a.put dst u) ov w:=by
  rintro ⟨htup,hh⟩
  cases v with
  | tup cs =>
   simp only [TV.isTup,ap] at htup
   have parts:∀ (I' S':Nat->Prop),al w I' (.tup cs) u S'->∃ (vs:Array Value) (G:Nat->Nat->Prop),u=.tuple vs/\vs.size=ds.length/\(∀ m,m < ds.length->al w I' ((TV.tup cs).comp (0 + m)) (vs.getD (0 + m) undef) (G (0 + m)))/\(∀ m b,G m b->S' b)/\(∀ k k' b,G k b->G k' b->k=k'):=by
    intro I' S' hv
    obtain ⟨vs,G,e1,e2,e3,e4,e5⟩:=hv.tups
    refine ⟨vs,G,e1,by rw [e2,htup],fun m hm=>?_,e4,e5⟩
    have hm':m < cs.length:=by omega
    rw [Nat.zero_add]
    have:(TV.tup cs).comp m=cs[m]:=by simp only [TV.comp]; exact bT (FF hm')
    rw [this]
    exact e3 m _ (FF hm')
   rcases hv with hv | ⟨hany,I',S',hv⟩
   ·obtain ⟨vs,G,rfl,p1,p2,p3,p4⟩:=parts _ _ hv
    obtain ⟨hh,us,F,q1,q2,q3,q4,q5⟩:=kz (vals:=fun m=>vs.getD m undef) (G:=G) p4 ds 0 hds p2 hh
    have tup:∀ g' look' ,(gS ds=true->∃ xs,look' (st.nid dst)=some (.tree xs)/\∀ r y,(bn (.tup cs) ds 0)[r]? = some y->xs[0 + r]? = some y/\g'.ρ (st.nid dst) (0 + r)=us.getD r undef)->bL w g' look' (.tups (dN (st.nid dst) (.tup cs) ds 0 0)) (.tuple vs):=by
     intro g' look' hroot
     refine ⟨vs,rfl,by rw [nC,p1],fun j b c hj=>?_⟩
     have:=q5 g' look' _ 0 hroot j b c hj
     rwa [Nat.zero_add] at this
    cases hany:gS ds with
    | true =>
     simp only [hany,cond_true] at hh
     cases hh
     refine new _ _ us F ha q2 (fun r b hb=>by obtain ⟨m,_,hm⟩:=q3 r b hb; exact p3 m b hm) q4 (fun g' look' hl hρ=>tup g' look' (fun _=>⟨_,hl,fun r y hy=>?_⟩))
     rw [Nat.zero_add]
     exact ⟨hy,hρ r⟩
    | false =>
     simp only [hany,cond_false] at hh
     cases hh
     exact plain _ ha (fun g' look'=>tup g' look' (fun h=>by rw [hany] at h; cases h))
   ·obtain ⟨vs,G,rfl,p1,p2,p3,p4⟩:=parts _ _ hv
    obtain ⟨hh,us,F,q1,q2,q3,q4,q5⟩:=kz (vals:=fun m=>vs.getD m undef) (G:=G) p4 ds 0 hds p2 hh
    simp only [hany,cond_false] at hh
    cases hh
    refine plain _ ha (fun g' look'=>⟨vs,rfl,by rw [nC,p1],fun j b c hj=>?_⟩)
    have:=q5 g' look' _ 0 (fun h=>by rw [hany] at h; cases h) j b c hj
    rwa [Nat.zero_add] at this
  | _=>simp [TV.isTup] at htup
 match ds,hh,single,many with
 | [],hh,_,many=>exact many hh
 | [d],hh,single,_=>exact single d rfl
 | d :: d' :: l,hh,_,many=>exact many hh
theorem oo (hE:∀ t d,E.T t=some d->aV P t d):∀ {ts:List TypeId} {ds:List TyD},lS E.T ts=some ds->∀ d ∈ ds,∃ t,aV P t d
 | [],ds,h=>by simp [lS] at h; subst h; simp
 | t :: ts, ds, h => by
  simp only [lS] at h
  split at h
  ·rename_i d ds' h1 h2
   cases h
   intro d' hm
   rcases List.mem_cons.1 hm with hm | hm
   ·subst hm; exact ⟨t,hE _ _ h1⟩
   ·exact oo hE h2 d' hm
  ·cases h
def Bl (P:Program) (G:Laid) (E:Env) (f:FuncId) (xs:List TV) (r:TV):Prop:=(E.peek f=none->(E.lent f=none->Da P G f xs r/\(E.pure f=true->bp r=true))/\∀ ld,E.lent f=some ld->Ff P G ld f xs r)/\∀ c,E.peek f=some c->Fs P G c f xs r
def yi (P:Program) (G:Laid) (E:Env) (C:Cal):Prop:=∀ f xs r,C f xs r->(E.turn f=true->Aq P G f xs r)/\(E.turn f=false->(E.eye f=true->Ay P G f xs r)/\(E.eye f=false->Bl P G E f xs r))
theorem rP:∀ (l:List CA) (j:Nat),(unMays l)[j]? = (l[j]?).map CA.FD
 | [],j=>by simp [unMays]
 | c :: l,0=>rfl
 | c :: l,j + 1=>by simp [unMays,rP l j]
theorem tf (l:List CA):(unMays l).length=l.length:=by
 induction l with
 | nil=>rfl
 | cons c l ih=>simp [unMays,ih]
theorem vj (l:List CA):(junks l).length=l.length:=by
 induction l with
 | nil=>rfl
 | cons c l ih=>simp [junks,ih]
theorem mz:∀ (l:List CA),∀ c ∈ junks l,c=.junk
 | []=>by simp [junks]
 | c :: l=>by simp only [junks,List.mem_cons]; rintro c (rfl | h); rfl; exact mz l c h
theorem CR.unMays {cs:List CA} {vs:List Value} (h:CR w g look cs vs):CR w g look (Ab.unMays cs) vs:=by
 refine ⟨by rw [tf]; exact h.1,fun j c u hc hu=>?_⟩
 rw [rP] at hc
 cases hj:cs[j]? with
 | none=>simp [hj] at hc
 | some c' =>
  simp only [hj,FR,FG] at hc
  subst hc
  obtain ⟨h1,h2⟩:=h.2 j c' u hj hu
  refine ⟨?_,h2⟩
  cases c' with
  | may i ty=>exact ⟨.hole _,h2⟩
  | _=>exact h1
def oq (f:Fl) (x:TV):Prop:=match f with | .sc=>x.isSc=true | .sl=>x.isSl=true | .may=>x.eV=true | .bf e=>x.yE e=true | .any=>x.fH=true
theorem xj {x:TV} {e:Nat} (h:x.yE e=true):∃ s,x=.buf s e:=by
 cases x with
 | buf s e'=>exact ⟨s,by rw [(ap _ _).1 h]⟩
 | _=>simp [TV.yE] at h
theorem sZ {w:World} {I:Nat->Prop} {x:TV} {e:Nat} {v:Value} {S:Nat->Prop} (h:al w I x v S) (hx:x.yE e=true):nI v:=by
 obtain ⟨s,rfl⟩:=xj hx
 cases h with
 | fr h=>cases h; exact ⟨_,_,_,rfl⟩
 | buf h _ =>
  rcases h.2 with ⟨rfl,_⟩ | ⟨g,cap,cur,fz,rfl,_⟩
  ·exact ⟨_,_,_,rfl⟩
  ·exact ⟨_,_,_,rfl⟩
theorem kt:∀ {fl:List Fl} {xs:List TV},pg fl xs=true->fl.length=xs.length/\∀ (k:Nat) (f:Fl) (x:TV),fl[k]? = some f->xs[k]? = some x->oq f x
 | [],[],_=>⟨rfl,fun k f x hf=>by simp at hf⟩
 | [],_ :: _,h=>by simp [pg] at h
 | _ :: _,[],h=>by simp [pg] at h
 | f :: fl,x :: xs,h=>by
  simp only [pg,FH] at h
  obtain ⟨h1,h2⟩:=kt h.2
  refine ⟨by simp [h1],fun k f' x' hf hx=>?_⟩
  cases k with
  | zero=>simp at hf hx; subst hf hx; cases f <;> exact h.1
  | succ k=>simp at hf hx; exact h2 k f' x' hf hx
theorem qv {i:Nat} {ty:TypeId}:∀ {fl:List Fl} {cs:List CA},nw i ty fl cs=true->fl.length=cs.length/\∀ (k:Nat) (c:CA),cs[k]? = some c->fl[k]? = some .may->c=.may i ty
 | [],[],_=>⟨rfl,fun k c hc=>by simp at hc⟩
 | [],_ :: _,h=>by simp [nw] at h
 | _ :: _,[],h=>by simp [nw] at h
 | f :: fl, c :: cs, h => by
  simp only [nw,FH] at h
  obtain ⟨h1,h2⟩:=qv h.2
  refine ⟨by simp [h1],fun k c' hc hf=>?_⟩
  cases k with
  | zero =>
   simp at hf hc
   subst hf hc
   have h0:=h.1
   cases c with
   | may j t =>
    simp only [FH,ap] at h0
    rw [h0.1,h0.2]
   | _=>simp at h0
  | succ k=>simp at hf hc; exact h2 k c' hc hf
theorem tz:∀ (fl:List Fl) (xs:List TV),fl.length=xs.length->∀ (k:Nat) (c:TV),(jx fl xs)[k]? = some c->(fl[k]? = some .may/\c=E7)\/(∃ f,fl[k]? = some f/\f≠.may/\xs[k]? = some c) \/
  (∃ e x,fl[k]? = some (.bf e)/\c=.buf .empty e/\xs[k]? = some x/\kC x=true)
 | [],[],_,k,c,h=>by simp [jx] at h
 | [],_ :: _,h,_,_,_=>by simp at h
 | _ :: _,[],h,_,_,_=>by simp at h
 | f :: fl, x :: xs, hl, 0, c, h => by
  cases f with
  | bf e =>
   cases hn:kC x <;> simp [jx,Fp,hn] at h <;> subst h <;> simp [hn]
  | _=>simp [jx] at h <;> subst h <;> simp
 | f :: fl,x :: xs,hl,k + 1,c,h=>by
  simp only [jx,List.getElem?_cons_succ] at h
  simpa using tz fl xs (by simpa using hl) k c h
theorem nE:∀ (fl:List Fl) (xs:List TV),fl.length=xs.length->(jx fl xs).length=xs.length
 | [],[],_=>rfl
 | [],_ :: _,h=>by simp at h
 | _ :: _,[],h=>by simp at h
 | f :: fl,x :: xs,hl=>by simp [jx,nE fl xs (by simpa using hl)]
theorem wZ {f:Fl} {x:TV} (h:oq f x) (hf:f≠.may):x.eV=false:=by
 cases f with
 | may=>exact absurd rfl hf
 | sc=>cases x <;> simp [oq,TV.isSc,TV.eV] at h ⊢
 | sl=>cases x <;> simp [oq,TV.isSl,TV.eV] at h ⊢
 | bf e=>obtain ⟨s,rfl⟩:=xj h; rfl
 | any=>cases x <;> simp [oq,TV.fH,TV.eV] at h ⊢
theorem qU (v:TV):∀ (n j k:Nat),(gN v n j)[k]? = if k < n then some (v.comp (j + k)) else none
 | 0,j,k=>by simp [gN]
 | n + 1,j,0=>by simp [gN]
 | n + 1,j,k + 1=>by
  simp only [gN,List.getElem?_cons_succ,qU v n (j + 1) k]
  by_cases h:k < n
  ·rw [if_pos h,if_pos (by omega),show j + 1 + k=j + (k + 1) by omega]
  ·rw [if_neg h,if_neg (by omega)]
theorem BZ (cs:List TV):gN (.tup cs) cs.length 0=cs:=by
 apply List.ext_getElem?
 intro k
 rw [qU]
 by_cases h:k < cs.length
 ·rw [if_pos h,Nat.zero_add]
  simp [TV.comp,aS,FF h]
 ·rw [if_neg h,FQ (by omega)]
theorem rW:∀ {l l':List (Nat × Nat)},df (l ++ l')=true->df l=true/\df l'=true/\∀ i r,(i,r) ∈ l'->ia i r l=false
 | [],l',h=>⟨rfl,h,fun i r _=>rfl⟩
 | (i,r) :: l,l',h=>by
  simp only [List.cons_append,df,FH,Bool.not_eq_true'] at h
  obtain ⟨h1,h2,h3⟩:=rW h.2
  have hn:=h.1
  rw [bX] at hn
  refine ⟨by simp only [df,FH,Bool.not_eq_true']; exact ⟨by rw [bX]; exact fun hm=>hn (List.mem_append_left _ hm),h1⟩,h2,fun i' r' hm=>?_⟩
  rw [bX]
  intro h4
  rcases List.mem_cons.1 h4 with h4 | h4
  ·cases h4; exact hn (List.mem_append_right _ hm)
  ·have:=h3 i' r' hm; rw [bX] at this; exact this h4
theorem tO {T T':Type} {d:TyD} {x:TV} {k:Prg T} {e:T} (h:(jA d x k).hits C e):k.hits C e/\∀ (k':Prg T') (e':T'),k'.hits C e'->(jA d x k').hits C e':=by
 unfold jA at h ⊢
 cases hd:d.kd.isAgg with
 | true =>
  rw [hd] at h
  obtain ⟨h1,h2⟩:=h
  exact ⟨h2,fun k' e' h'=>⟨h1,h'⟩⟩
 | false =>
  rw [hd] at h
  obtain ⟨h1,h2⟩:=h
  exact ⟨h2,fun k' e' h'=>⟨h1,h'⟩⟩
theorem qq {T T':Type} {x:TV} {k:Prg T} {e:T}:∀ {ds:List TyD} {j:Nat},(gQ x ds j k).hits C e->k.hits C e/\∀ (k':Prg T') (e':T'),k'.hits C e'->(gQ x ds j k').hits C e'
 | [],j,h=>⟨h,fun k' e' h'=>h'⟩
 | d :: l,j,h=>by
  obtain ⟨h1,h2⟩:=tO (T':=T') h
  obtain ⟨h3,h4⟩:=qq (T':=T') h1
  exact ⟨h3,fun k' e' h'=>h2 _ _ (h4 k' e' h')⟩
theorem AW {id:Nat} {ds:List TyD} {v:TV} {k:AV->Out} {e:Eff} (hsl:gS ds=false) (h:(Dr id ds v k).hits C e):∃ av,(um id ds v []).hits C (.val av)/\(k av).hits C e:=by
 unfold Dr at h
 split at h
 ·rename_i d
  have hd:gZ d.zero=false:=by simpa [gS] using hsl
  obtain ⟨h1,h2⟩:=tO (T':=Eff) h
  split at h1
  ·rename_i av hav
   refine ⟨av,?_,h1⟩
   unfold um
   refine h2 _ _ ?_
   rw [hav]
   simp only [hd,cond_false]
   rfl
  ·exact h1.elim
 ·rename_i hne
  obtain ⟨h1,h2⟩:=h
  obtain ⟨h3,h4⟩:=qq (T':=Eff) h2
  refine ⟨_,?_,h3⟩
  unfold um
  split
  ·rename_i d; exact absurd rfl (hne d)
  ·refine ⟨h1,h4 _ _ ?_⟩
   simp only [hsl,cond_false]
   rfl
def Fl.rooted:Fl->Bool
 | .sl=>true
 | .bf _=>true
 | _=>false
theorem nW:∀ (fl:List Fl) (xs:List TV),fl.length=xs.length->∀ (k:Nat) (y:TV),(cP fl xs)[k]? = some y->y=.hole\/(∃ f,fl[k]? = some f/\f.rooted=true/\xs[k]? = some y)
 | [],[],_,k,c,h=>by simp [cP] at h
 | [],_ :: _,h,_,_,_=>by simp at h
 | _ :: _,[],h,_,_,_=>by simp at h
 | f :: fl,x :: xs,hl,0,c,h=>by
  cases f <;> simp [cP] at h <;> subst h <;> simp [Fl.rooted]
 | f :: fl,x :: xs,hl,k + 1,c,h=>by
  simp only [cP,List.getElem?_cons_succ] at h
  simpa using nW fl xs (by simpa using hl) k c h
theorem ke:∀ (fl:List Fl) (xs:List TV) (k:Nat) (c:TV) (f:Fl),f.rooted=true->fl[k]? = some f->xs[k]? = some c->(cP fl xs)[k]? = some c
 | [],_,k,c,_,_,h,_=>by simp at h
 | _ :: _,[],k,c,_,_,_,h=>by simp at h
 | f :: fl,x :: xs,0,c,f',hf,h,h'=>by simp at h h'; subst h h'; cases f <;> simp [Fl.rooted] at hf <;> rfl
 | f :: fl,x :: xs,k + 1,c,f',hf,h,h'=>by
  simp only [cP,List.getElem?_cons_succ] at h h' ⊢
  exact ke fl xs k c f' hf h h'
theorem kQ {f:Fl} {x:TV} (hf:f.rooted=true) (h:oq f x):x.eV=false:=wZ h (fun e=>by rw [e] at hf; cases hf)
theorem sL:∀ (fl:List Fl) (xs:List TV),fl.length=xs.length->(cP fl xs).length=xs.length
 | [],[],_=>rfl
 | [],_ :: _,h=>by simp at h
 | _ :: _,[],h=>by simp at h
 | f :: fl,x :: xs,hl=>by simp [cP,sL fl xs (by simpa using hl)]
def Fe (i t:Nat) (ty:TypeId) (f:Fl) (x:TV) (r:Nat):CA:=match f with | .sc=>.t x | .sl=>.sref t r [] | .may=>.may i ty | .bf _=>.sref t r [] | .any=>.t x
theorem rS (i t:Nat) (ty:TypeId):∀ (fl:List Fl) (xs:List TV),fl.length=xs.length->∀ (r k:Nat) (d:CA),(gF i t ty fl xs r)[k]? = some d->∃ f c,fl[k]? = some f/\xs[k]? = some c/\d=Fe i t ty f c (r + k)
 | [],[],_,r,k,d,h=>by simp [gF] at h
 | [],_ :: _,h,_,_,_,_=>by simp at h
 | _ :: _,[],h,_,_,_,_=>by simp at h
 | f :: fl,x :: xs,hl,r,0,d,h=>by
  simp [gF] at h
  subst h
  exact ⟨f,x,rfl,rfl,by cases f <;> rfl⟩
 | f :: fl,x :: xs,hl,r,k + 1,d,h=>by
  simp only [gF,List.getElem?_cons_succ] at h ⊢
  obtain ⟨f',c,h1,h2,h3⟩:=rS i t ty fl xs (by simpa using hl) (r + 1) k d h
  exact ⟨f',c,h1,h2,by rw [h3,show r + 1 + k=r + (k + 1) by omega]⟩
theorem tY (i t:Nat) (ty:TypeId):∀ (fl:List Fl) (xs:List TV),fl.length=xs.length->∀ r,(gF i t ty fl xs r).length=xs.length
 | [],[],_,r=>rfl
 | [],_ :: _,h,_=>by simp at h
 | _ :: _,[],h,_=>by simp at h
 | f :: fl,x :: xs,hl,r=>by simp [gF,tY i t ty fl xs (by simpa using hl)]
theorem sE {i t:Nat} {ty:TypeId} {fl:List Fl} {xs:List TV} {vs:List Value} (hv:vs.length=xs.length) (hl:fl.length=xs.length) (hok:∀ (k:Nat) (f:Fl) (x:TV),fl[k]? = some f->xs[k]? = some x->oq f x)
  (h:∀ (k:Nat) (f:Fl) (c:TV),fl[k]? = some f->xs[k]? = some c->oq f c->∃ v,vs[k]? = some v/\v.oneCell'=true/\bE w g look (Fe i t ty f c k) v):CR w g look (gF i t ty fl xs 0) vs:=by
 refine ⟨by rw [tY _ _ _ _ _ hl]; exact hv,fun k d u hd hu=>?_⟩
 obtain ⟨f,c,h1,h2,h3⟩:=rS i t ty fl xs hl 0 k d hd
 obtain ⟨v,h4,h5,h6⟩:=h k f c h1 h2 (hok k f c h1 h2)
 rw [hu] at h4
 cases h4
 rw [Nat.zero_add] at h3
 rw [h3]
 exact ⟨h6,h5⟩
theorem xI {f : FuncId} (hN : ∀ xs r, C f xs r → Bl P w0.G E f xs r) (hE : ∀ t d, E.T t = some d → aV P t d) (hlk : ∀ i b, look i = some b → st.look i = some b) (hs : ai w0 I0 NoR g st a ov w)  {ld : fI} (hpk : E.peek f = none) (hld : E.lent f = some ld) {args : Array Operand} {tys : Array TypeId} {cal : Operand} {e : Eff}
  (hres:∀ vals:Array Value,vals=args.map a.eval->(callFunc f vals).run P w=.ok (.enter f vals) w->(execOp a.eval ⟨dst,.call ⟨.value cal,args,tys⟩,type,pos,after,guard⟩).run P w=.ok (.enter f vals) w)
  (hh:(oO E (st.nid dst) look f ld (args.toList.map st.ev)).hits C e) (ha:e.app st dst=some st'):Good P w0 I0 ov ⟨dst,.call ⟨.value cal,args,tys⟩,type,pos,after,guard⟩ st' a w Q:=by
 have hgd:∀ m,(args.toList.map a.eval).getD m undef=(args.map a.eval).getD m undef:=fun m=>by simp [FU,FS]
 unfold oO at hh
 split at hh
 ·rename_i i rest hargs
  obtain ⟨x0,xs0,hal,hx0,hrest⟩:∃ x0 xs0,args.toList=x0 :: xs0/\st.ev x0=.one (.ptr i 0)/\xs0.map st.ev=rest:=by
   cases hal:args.toList with
   | nil=>rw [hal] at hargs; simp at hargs
   | cons x0 xs0=>rw [hal] at hargs; simp only [List.map_cons,List.cons.injEq] at hargs; exact ⟨x0,xs0,rfl,hargs.1,hargs.2⟩
  split at hh
  ·rename_i cs ds hl hds
   cases hchk0:gS ds || !nw i ld.ty ld.fl cs with
   | true=>rw [hchk0] at hh; exact hh.elim
   | false =>
    rw [hchk0] at hh
    simp only [cond_false] at hh
    simp only [Bool.or_eq_false_iff,Bool.not_eq_false'] at hchk0
    obtain ⟨hnsl,hmf⟩:=hchk0
    subst hrest
    obtain ⟨xs,rs,hh,hroots,hlen,hrep⟩:=ny hlk hs (hs.evs xs0) hh
    have hl2:=hlk i _ hl
    obtain ⟨vs,ty,hheap,hcr⟩:=hs.cells i cs hl2
    obtain ⟨gd,hh,hgl,hgdk⟩:=ju hlk hs hcr.unMays hh
    rw [tf] at hgl
    cases hchk1:df (gd.flatMap Gd.ts ++ rs) with
    | false=>rw [hchk1] at hh; exact hh.elim
    | true =>
     rw [hchk1] at hh
     simp only [cond_true] at hh
     have hnd:=hchk1
     obtain ⟨hfit,hh⟩:=hh
     obtain ⟨hnd1,hnd2,hnd3⟩:=rW hnd
     obtain ⟨r,hc,hchk2,hh⟩:=hh
     obtain ⟨av,hans,hh⟩:=AW hnsl hh
     cases hh
     obtain ⟨mfl,mfs⟩:=qv hmf
     have hfl:ld.fl.length=(gd.map Gd.y).length:=by rw [mfl]; simp [hgl]
     obtain ⟨ffl,ffs⟩:=kt hfit
     obtain ⟨st2,g2,R2,F,p1,p2,p3,p4,p5,p6,p7,p8⟩:=dm (dst:=dst) gd hs (by rw [hcr.1,hgl]) hgdk hnd1
     have hroots2:Roots st2.look rs:=fun k q hm=>by
      obtain ⟨ys,y,r1,r2⟩:=hroots k q hm
      obtain ⟨ys1,r3,r4,_⟩:=p4.root k q ys y (hnd3 k q hm) r1 r2
      exact ⟨ys1,y,r3,r4⟩
     obtain ⟨st3,g3,q1,q2,q3,q4,q5⟩:=kO (dst:=dst) rs p2 hroots2 hnd2
     obtain ⟨cs1,c1,c2,c3⟩:=p4.cells i cs hl2
     obtain ⟨c4,c5⟩:=q5 i cs1 c1
     have hβ:g3.β i=g.β i:=c5.trans c3
     have hI3:∀ b,g.I b->g3.I b:=fun b hb=>q3.1 b (by rw [p3]; exact hb)
     have hH:ir g rs g3.I:=⟨hI3,fun k q hm b hb=>by
      obtain ⟨ys,y,r1,r2⟩:=hroots k q hm
      obtain ⟨_,_,_,_,r3⟩:=p4.root k q ys y (hnd3 k q hm) r1 r2
      exact q3.2 k q hm b (by rw [r3]; exact hb)⟩
     have hfi3:Foot g3 st3.look i (g.β i):=.inl ⟨cs1,c4,hβ.symm⟩
     have hheap3:w.heap[g3.β i]? = some (.cells vs ty (0,0)):=by rw [hβ]; exact hheap
     have hvl:vs.size=cs.length:=by simpa using hcr.1
     have hone:∀ u ∈ vs.toList,u.oneCell'=true:=fun u hu=>by
      obtain ⟨m,hm,rfl⟩:=List.mem_iff_getElem.1 hu
      exact (hcr.2 m (cs[m]'(by have:=hcr.1; omega)) _ (FF _) (FF hm)).2
     have j1:=q2.fa c4 (cs':=junks cs) (vs':=vs) (ty:=ty) q2.below (Nat.le_refl _) (fun _ _=>rfl) hheap3 ⟨_,_,hheap3⟩ ⟨by rw [vj]; exact hcr.1,fun j c u hc' hu=>by
      have:=mz cs c (FN hc')
      subst this
      exact ⟨trivial,hone u (FN hu)⟩⟩
     have hlk4:(st3.ac i (some (.cells (junks cs)))).look i=some (.cells (junks cs)):=by rw [ag,if_pos ⟨rfl,gp c4⟩]
     obtain ⟨ys,args',r0,cs',e1,e2,hcv⟩:=((hN _ r hc).1 hpk).2 ld hld
     simp only [List.cons.injEq,TV.tup.injEq] at e1
     obtain ⟨e1,e3⟩:=e1
     subst e1 e3 e2
     simp only [FH] at hchk2
     obtain ⟨⟨_,hcl⟩,hfit2⟩:=hchk2
     have hcl:cs'.length=ld.fl.length:=by simpa [TV.isTup,TV.comp,nth] using hcl
     have hcomp:gN ((TV.tup [r0,.tup cs']).comp 1) ld.fl.length 0=cs':=by
      rw [<- hcl]
      exact BZ cs'
     rw [hcomp] at hfit2 ha
     obtain ⟨ffl2,ffs2⟩:=kt hfit2
     have hty:∀ k,ld.fl[k]? = some Fl.may->ty=ld.ty/\(vs.getD k undef=.pointer none\/vs.getD k undef=.pointer (some ⟨g.β i,0,none⟩)):=fun k hk=>by
      have hkl:k < cs.length:=by rw [<- mfl]; exact (FE.1 hk).1
      have hck:cs[k]? = some (cs[k]'hkl):=FF hkl
      have he:=mfs k _ hck hk
      have hvk:vs.toList[k]? = some (vs.getD k undef):=by
       rw [FI,Array.getElem?_eq_getElem (by omega)]; simp [hvl,hkl]
      have:=(hcr.2 k _ _ hck hvk).1
      rw [he] at this
      obtain ⟨_,_,⟨us,fr,ht⟩,hv⟩:=this
      rw [hheap] at ht
      cases ht
      exact ⟨rfl,hv⟩
     have hFi:∀ k b,F k b->b≠g.β i:=fun k b hb e=>(q2.foot i _ hfi3).2.2.2 (by rw [<- e]; exact (p7 k b hb).1)
     have hvals:(args.map a.eval).size=xs.length + 1:=by
      have:args.size=args.toList.length:=by simp
      rw [Array.size_map,this,hal]
      simp [hlen]
     obtain ⟨hcf,hcalls⟩:=hcv g3.I w (g.β i) (args.map a.eval) (fun b=>b=g.β i\/∃ k,F k b) (q2.laid (fun _ h=>h)) q2.lt (fun b hb=>by
       rcases hb with rfl | ⟨k,hb⟩
       ·exact ⟨(q2.foot i _ hfi3).2.1,(q2.foot i _ hfi3).2.2.1⟩
       ·exact ⟨(q2.res b (p7 k b hb).1).2.1,(q2.res b (p7 k b hb).1).2.2⟩)
      ⟨.inl rfl, vs, ty, F, hheap, by rw [nE _ _ hfl, hvl]; simp [hgl], fun k c hk => by
       have hkl:k < cs.length:=by
        have:=(FE.1 hk).1
        rw [nE _ _ hfl] at this
        simpa [hgl] using this
       have hvk:vs.toList[k]? = some (vs.getD k undef):=by
        rw [FI,Array.getElem?_eq_getElem (by omega)]; simp [hvl,hkl]
       have hok:(vs.getD k undef).oneCell'=true:=hone _ (FN hvk)
       rcases tz _ _ hfl k c hk with ⟨h1,rfl⟩ | ⟨f',h1,h2,h3⟩ | ⟨e',x',h1,rfl,h3,h4⟩
       ·exact ⟨.inl ⟨rfl,(hty k h1).2⟩,hok,fun _=>(hty k h1).1⟩
       ·have hm:=wZ (ffs k f' c h1 hk) h2
        rw [FK] at h3
        cases hgk:gd[k]? with
        | none=>simp [hgk] at h3
        | some d =>
         simp only [hgk,FR,FG] at h3
         subst h3
         refine ⟨.inr ⟨hm,(p6 k d _ hgk hvk).1.mv (fun _ _=>rfl) hI3 (fun _ _=>rfl) (fun _ h=>h)⟩,hok,fun h=>by rw [hm] at h; cases h⟩
       ·rw [FK] at h3
        cases hgk:gd[k]? with
        | none=>simp [hgk] at h3
        | some d =>
         simp only [hgk,FR,FG] at h3
         subst h3
         have hv:=yg h4 (p6 k d _ hgk hvk).1
         rw [hv]
         exact ⟨.inr ⟨rfl,.fr (.buf e' rfl)⟩,rfl,fun h=>by cases h⟩,
       fun k b hb=>⟨.inr ⟨k,hb⟩,hFi k b hb⟩,p8⟩
      (by rw [hvals]; simp) (by
       have:(args.map a.eval).getD 0 undef=a.eval x0:=by rw [<- hgd,hal]; rfl
       rw [this]
       have hr0:=hs.ev x0
       rw [hx0] at hr0
       obtain ⟨_,_,hv⟩:=hr0
       exact hv)
      (fun j x hx => by
       rw [<- hgd,hal]
       exact hrep g3.I hH j x hx)
     unfold Good Oper.wp
     rw [hres _ rfl hcf]
     simp only [Oper.upon]
     refine hcalls.mono ?_
     rintro e w' ⟨v,rfl,hbel,I',L',S,i1,i2,i3,i4,hr0,hrv⟩
     obtain ⟨hLb,vs',ty',F',h1',h2',h3',h4',h5'⟩:=hrv
     have hone':∀ u ∈ vs'.toList,u.oneCell'=true:=fun u hu=>by
      obtain ⟨m,hm,rfl⟩:=List.mem_iff_getElem.1 hu
      have hm':m < vs'.size:=by simpa using hm
      have:=(h3' m (cs'[m]'(by omega)) (FF _)).2.1
      simpa [hm'] using this
     have gb:=j1.Fa (R':=fun b=>∃ k,F' k b) (I':=I') (L:=fun b=>b=g.β i\/∃ k,F k b) (vs:=vs') (ty:=ty') hlk4 (mz cs) (fun b hb=>by
       rcases hb with rfl | ⟨k,hb⟩
       ·exact .inl hβ.symm
       ·exact .inr (p7 k b hb).1) hbel (by rw [hβ]; exact h1') (by rw [vj,h2',hcl,mfl]) hone' i1 i2 i3 (by rw [hβ]; exact (i4 _ hLb).2.2) (fun b hb=>by
        obtain ⟨k,hb⟩:=hb
        obtain ⟨f1,f2⟩:=h4' k b hb
        obtain ⟨f3,f4,f5⟩:=i4 b f1
        refine ⟨?_,f4,f5,by rw [hβ]; exact f2⟩
        rcases f3 with f3 | f3 | ⟨k',f3⟩
        ·exact .inr f3
        ·exact absurd f3 f2
        ·exact .inl (p7 k' b f3).1)
     have ho3:st3.out.length=st.out.length:=q4.trans p4.out
     obtain ⟨s4,hs4⟩:∃ s4,s4=(st3.ac i (some (.cells (junks cs)))).au (CA.unM i):=⟨_,rfl⟩
     rw [<- hs4] at gb
     have hlk4':s4.look i=some (.cells (junks cs)):=by
      rw [hs4,aI,hlk4]
      simp only [FR,BC.bq,jz (mz cs)]
     simp only [Eff.app,cq,p1,Option.bind_some,q1] at ha
     simp only [ae,Prim.app,c4] at ha
     rw [<- hs4] at ha
     cases dst with
     | none=>simp at ha
     | some d =>
      simp only [] at ha
      have hnid:s4.nid (some d)=st.nid (some d):=by
       have:s4.out.length=st.out.length:=by
        rw [hs4]
        simp only [ASt.au,bi]
        exact ho3
       simp only [ASt.nid,this]
      rw [hnid] at ha
      cases hab:s4.bz (st.nid (some d)) (.tree (cP ld.fl cs')) with
      | none=>simp [hab] at ha
      | some s5 =>
       obtain ⟨n1,n2,n3⟩:=bm hab
       subst n3
       rw [hab] at ha
       have hne:st.nid (some d)≠i:=fun e=>by rw [e,hlk4'] at n1; cases n1
       have hlk5:(s4.ac (st.nid (some d)) (some (.tree (cP ld.fl cs')))).look i=some (.cells (junks cs)):=by
        rw [ag,if_neg (fun h=>hne h.1)]; exact hlk4'
       simp only [hlk5,FG] at ha
       obtain ⟨t1,t2⟩:=gb.lw (xs:=cP ld.fl cs') n2 n1 gb.below (Nat.le_refl _) (fun _ _ _=>rfl) (fun k=>vs'.getD k undef) F' (fun k y hy=>by
         rcases nW _ _ ffl2 k y hy with rfl | ⟨f6,h6,h6',h7⟩
         ·exact .fr (.hole _)
         ·rcases (h3' k y h7).1 with ⟨h8,_⟩ | ⟨_,h8⟩
          ·rw [kQ h6' (ffs2 k f6 y h6 h7)] at h8
           cases h8
          ·exact h8) (fun k b _ hb=>.inl ⟨k,hb⟩) (fun k k' b _ _ h h'=>h5' k k' b h h')
       have t3:=t1.fa hlk5 (cs':=gF i (st.nid (some d)) ld.ty ld.fl cs' 0) (vs':=vs') (ty:=ty') t1.below (Nat.le_refl _) (fun _ _=>rfl) (by
         show w'.heap[g3.β i]? = _
         rw [hβ]; exact h1') ⟨vs',(0,0),by
         show w'.heap[g3.β i]? = _
         rw [hβ]; exact h1'⟩ (sE (by simp [h2']) ffl2 ffs2 (fun k f' c hk hc hf=>?_))
       ·subst ha
        have hsn:(((s4.ac (st.nid (some d)) (some (.tree (cP ld.fl cs')))).ac i (some (.cells (gF i (st.nid (some d)) ld.ty ld.fl cs' 0)))).nid (some d))=st.nid (some d):=hnid
        exact mC (ps:=[]) t3 rfl rfl (oo hE hds) (S:=fun _=>False) (fun _=>.inr ⟨hnsl,_,_,hr0⟩) (fun _ h=>h.elim) (by rw [hsn]; exact hans) rfl
       ·have hvk:vs'.toList[k]? = some (vs'.getD k undef):=by
         have:k < vs'.size:=by rw [h2']; exact (FE.1 hc).1
         rw [FI,Array.getElem?_eq_getElem this]; simp [this]
        obtain ⟨g1,g2',g3'⟩:=h3' k c hc
        refine ⟨_,hvk,g2',?_⟩
        cases f' with
        | sc =>
         rcases g1 with ⟨h8,_⟩ | ⟨_,h8⟩
         ·cases c <;> simp [oq,TV.isSc,TV.eV] at hf h8
         ·obtain ⟨e1,e2⟩:=eP h8 hf
          exact ⟨by rw [e1]; exact .lit _,g2'⟩
        | any =>
         rcases g1 with ⟨h8,_⟩ | ⟨_,h8⟩
         ·cases c <;> simp [oq,TV.fH,TV.eV] at hf h8
         ·exact ⟨g9 h8 hf,g2'⟩
        | sl =>
         rcases g1 with ⟨h8,_⟩ | ⟨_,h8⟩
         ·cases c <;> simp [oq,TV.isSl,TV.eV] at hf h8
         ·refine ⟨cP ld.fl cs',c,c.nd,by rw [ag,if_pos ⟨rfl,n2⟩],ke _ _ k c .sl rfl hk hc,⟨by simp [Gh.ko],rfl⟩,fO h8 hf⟩
        | bf e' =>
         rcases g1 with ⟨h8,_⟩ | ⟨_,h8⟩
         ·rw [kQ (f:=.bf e') rfl hf] at h8; cases h8
         ·refine ⟨cP ld.fl cs',c,c.nd,by rw [ag,if_pos ⟨rfl,n2⟩],ke _ _ k c (.bf e') rfl hk hc,⟨by simp [Gh.ko],rfl⟩,sZ h8 hf⟩
        | may =>
         rcases g1 with ⟨h8m,h8⟩ | ⟨h8,_⟩
         ·refine ⟨_,hlk5,⟨vs',(0,0),?_⟩,?_⟩
          ·show w'.heap[g3.β i]? = _
           rw [hβ,<- g3' h8m]; exact h1'
          ·show _\/_=Value.pointer (some ⟨g3.β i,0,none⟩)
           rw [hβ]; exact h8
         ·rw [hf] at h8; cases h8
  ·exact hh.elim
 ·exact hh.elim
theorem lf_rep {I':Nat->Prop} {x:TV} {v:Value} (h:Rep w I x v):Rep w I' x.lf v:=by
 cases h with
 | lit v=>exact .lit v
 | _=>exact .hole _
theorem AH:∀ (l:List TV) (j:Nat),(lfL l)[j]? = (l[j]?).map TV.lf
 | [],j=>by simp [lfL]
 | c :: l,0=>rfl
 | c :: l,j + 1=>by simp [lfL,AH l j]
theorem yK (l:List TV):(lfL l).length=l.length:=by
 induction l with
 | nil=>rfl
 | cons c l ih=>simp [lfL,ih]
theorem pP {I':Nat->Prop} {x:TV} {v:Value} (h:Rep w I x v):Rep w I' (qu x) v:=by
 cases h with
 | lit v=>exact .lit v
 | agg hl h1 hr =>
  refine .agg (by rw [yK]; exact hl) h1 (fun j c hj=>?_)
  rw [AH] at hj
  rename_i cs vs
  cases hc:cs[j]? with
  | none=>rw [hc] at hj; cases hj
  | some y =>
   rw [hc] at hj
   simp only [FR,FG] at hj
   subst hj
   exact lf_rep (hr j y hc)
 | _=>exact .hole _
theorem mM:∀ (l:List TV) (j:Nat),(iy l)[j]? = (l[j]?).map qu
 | [],j=>by simp [iy]
 | c :: l,0=>rfl
 | c :: l,j + 1=>by simp [iy,mM l j]
theorem iH (l:List TV):(iy l).length=l.length:=by
 induction l with
 | nil=>rfl
 | cons c l ih=>simp [iy,ih]
theorem yx {f:FuncId} (hN:∀ xs r,C f xs r->Bl P w0.G E f xs r) (hlk:∀ i b,look i=some b->st.look i=some b) (hs:ai w0 I0 NoR g st a ov w)  {c:Nat × Nat} (hpk:E.peek f=some c) {args:Array Operand} {tys:Array TypeId} {cal:Operand} {e:Eff}
  (hres:∀ vals:Array Value,vals=args.map a.eval->(callFunc f vals).run P w=.ok (.enter f vals) w->(execOp a.eval ⟨dst,.call ⟨.value cal,args,tys⟩,type,pos,after,guard⟩).run P w=.ok (.enter f vals) w)
  (hh:(pb look f c (args.toList.map st.ev)).hits C e) (ha:e.app st dst=some st'):Good P w0 I0 ov ⟨dst,.call ⟨.value cal,args,tys⟩,type,pos,after,guard⟩ st' a w Q:=by
 have hgd:∀ m,(args.toList.map a.eval).getD m undef=(args.map a.eval).getD m undef:=fun m=>by simp [FU,FS]
 unfold pb at hh
 split at hh
 ·rename_i i rest hargs
  obtain ⟨x0,xs0,hal,hx0,hrest⟩:∃ x0 xs0,args.toList=x0 :: xs0/\st.ev x0=.one (.ptr i 0)/\xs0.map st.ev=rest:=by
   cases hal:args.toList with
   | nil=>rw [hal] at hargs; simp at hargs
   | cons x0 xs0=>rw [hal] at hargs; simp only [List.map_cons,List.cons.injEq] at hargs; exact ⟨x0,xs0,rfl,hargs.1,hargs.2⟩
  split at hh
  ·rename_i cs hl
   split at hh
   ·rename_i x hc
    subst hrest
    have hcn:cs.length=c.2:=by
     cases hb:cs.length.beq c.2 with
     | true=>exact (ap _ _).1 hb
     | false=>rw [hb] at hh; exact hh.elim
    rw [hcn,Nat.beq_refl] at hh
    simp only [cond_true] at hh
    obtain ⟨xs,⟨r,hcall,hh⟩,hlen,hrep⟩:=fq hlk hs (hs.evs xs0) hh
    cases hh
    have hl2:=hlk i _ hl
    obtain ⟨vs,ty,hheap,hcr⟩:=hs.cells i cs hl2
    have hvl:vs.size=cs.length:=by simpa using hcr.1
    have hcl:c.1 < cs.length:=by
     rcases Nat.lt_or_ge c.1 cs.length with h' | h'
     ·exact h'
     ·rw [aS,FQ h'] at hc; cases hc
    have hcc:cs[c.1]? = some (.t x):=by rw [aS,FF hcl] at hc; rw [FF hcl]; simpa using hc
    have hvk:vs.toList[c.1]? = some (vs.getD c.1 undef):=by
     rw [FI,Array.getElem?_eq_getElem (by omega)]; simp [hvl,hcl]
    have hrx:=(hcr.2 c.1 _ _ hcc hvk).1.1
    have hfi:Foot g st.look i (g.β i):=.inl ⟨cs,hl2,rfl⟩
    have hone:∀ u ∈ vs.toList,u.oneCell'=true:=fun u hu=>by
     obtain ⟨m,hm,rfl⟩:=List.mem_iff_getElem.1 hu
     exact (hcr.2 m (cs[m]'(by have:=hcr.1; omega)) _ (FF _) (FF hm)).2
    have hvals:(args.map a.eval).size=(x :: iy xs).length:=by
     have:args.size=args.toList.length:=by simp
     rw [Array.size_map,this,hal]
     simp [hlen,iH]
    obtain ⟨x',args',e1,hcp⟩:=(hN _ r hcall).2 c hpk
    simp only [List.cons.injEq] at e1
    obtain ⟨rfl,rfl⟩:=e1
    obtain ⟨hcf,hcalls⟩:=hcp g.I w (g.β i) vs ty (args.map a.eval) (hs.laid (fun _ h=>h)) hs.lt hheap hone (hs.foot i _ hfi).2.2.1 (by omega) (by omega) (hs.foot i _ hfi).2.1 hrx hvals (by
      have:(args.map a.eval).getD 0 undef=a.eval x0:=by rw [<- hgd,hal]; rfl
      rw [this]
      have hr0:=hs.ev x0
      rw [hx0] at hr0
      obtain ⟨_,_,hv⟩:=hr0
      exact hv) (fun j y hy=>by
      rw [<- hgd,hal]
      rw [mM] at hy
      cases hz:xs[j]? with
      | none=>rw [hz] at hy; cases hy
      | some z =>
       rw [hz] at hy
       simp only [FR,FG] at hy
       subst hy
       exact pP (hrep _ ⟨hs.lt,fun i b h=>(hs.foot i b h).2.1⟩ j z hz))
    simp only [Eff.app,FG] at ha
    subst ha
    unfold Good Oper.wp
    rw [hres _ rfl hcf]
    simp only [Oper.upon]
    refine hcalls.mono ?_
    rintro e w' ⟨v,rfl,hb,I2,i1,i2,i3,hv⟩
    have hg:=hs.grow hb (I':=I2) (R':=NoR) i1 i2 i3 (fun b h=>h.elim)
    exact ⟨_,hg.put dst (v:=.tv r) hv⟩
   ·exact hh.elim
  ·exact hh.elim
 ·exact hh.elim
theorem xG {f:FuncId} (hN:∀ xs r,C f xs r->Bl P w0.G E f xs r) (hE:∀ t d,E.T t=some d->aV P t d) (hlk:∀ i b,look i=some b->st.look i=some b) (hs:ai w0 I0 NoR g st a ov w)  {args:Array Operand} {tys:Array TypeId} {cal:Operand} {e:Eff}
  (hres:∀ vals:Array Value,vals=args.map a.eval->(callFunc f vals).run P w=.ok (.enter f vals) w->(execOp a.eval ⟨dst,.call ⟨.value cal,args,tys⟩,type,pos,after,guard⟩).run P w=.ok (.enter f vals) w)
  (hh:(ni E (st.nid dst) look f (args.toList.map st.ev)).hits C e) (ha:e.app st dst=some st'):Good P w0 I0 ov ⟨dst,.call ⟨.value cal,args,tys⟩,type,pos,after,guard⟩ st' a w Q:=by
 cases hpk:E.peek f with
 | some c =>
  simp only [ni,hpk] at hh
  exact yx hN hlk hs hpk hres hh ha
 | none =>
 cases hnl:E.lent f with
 | some ld =>
  simp only [ni,hpk,hnl] at hh
  exact xI hN hE hlk hs hpk hnl hres hh ha
 | none =>
 have hevs:=hs.evs args.toList
 have hgd:∀ m,(args.toList.map a.eval).getD m undef=(args.map a.eval).getD m undef:=fun m=>by simp [FU,FS]
 have wpc:∀ {next:Act->World->Prop} {xs:List TV} {r:TV} (I':Nat->Prop),C f xs r->xs.length=(args.toList.map st.ev).length->w0.G.P w I'->(∀ b,I' b->b < w.heap.size)->(∀ (j:Nat) (x:TV),xs[j]? = some x->Rep w I' x ((args.toList.map a.eval).getD j undef)) ->
   (∀ v w' I2 S,Below w.heap.size w w'->(∀ b,I' b->I2 b)->(∀ b,I2 b->b < w'.heap.size)->(∀ b,b < w.heap.size->I2 b->I' b)->(∀ b,S b->w.heap.size<=b/\b < w'.heap.size/\¬ I2 b)->al w' I2 r v S->next (a.put dst v) w') ->
   Oper.wp P ⟨dst,.call ⟨.value cal,args,tys⟩,type,pos,after,guard⟩ a w next Q:=by
  intro next xs r I' hc hl hG hlt hrep hn
  obtain ⟨hcf,hcalls⟩:=(((hN xs r hc).1 hpk).1 hnl).1 I' w (args.map a.eval) hG hlt (by rw [hl]; simp) (fun j x hx=>by rw [<- hgd]; exact hrep j x hx)
  unfold Oper.wp
  rw [hres _ rfl hcf]
  simp only [Oper.upon]
  refine hcalls.mono ?_
  rintro e w' ⟨v,rfl,hb,I2,S,h1,h2,h3,h4,h5⟩
  exact hn v w' I2 S hb h1 h2 h3 h4 h5
 simp only [ni,hpk,hnl] at hh
 split at hh
 ·rename_i ds hds
  have htys:=oo hE hds
  cases hp:E.pure f || !gS ds with
  | true =>
   simp only [hp,cond_true] at hh
   obtain ⟨xs,⟨r,hc,hh⟩,hl,hrep⟩:=fq hlk hs hevs hh
   refine wpc (fun b=>b < w.heap.size) hc hl (hs.laid hs.lt) (fun _ h=>h) (hrep _ ⟨hs.lt,fun i b h=>(hs.foot i b h).2.1⟩) (fun v w' I2 S hb i1 i2 i3 i4 hv=>?_)
   have hnI:∀ b,S b->¬ g.I b:=fun b hb h=>by have:=hs.lt b h; have:=(i4 b hb).1; omega
   have hg:=hs.grow hb (I':=g.I) (R':=S) (fun _ h=>h) (fun b h=>Nat.lt_of_lt_of_le (hs.lt b h) hb.size) (fun _ _ h=>h) (fun b h=>.inr ⟨(i4 b h).1,(i4 b h).2.1,hnI b h⟩)
   refine mC (ps:=[]) hg rfl rfl htys (fun _=>?_) (fun _ h=>h) hh ha
   cases hpu:E.pure f with
   | true=>exact .inl (hv.own ((((hN xs r hc).1 hpk).1 hnl).2 hpu))
   | false =>
    simp only [hpu,Bool.false_or,Bool.not_eq_true'] at hp
    exact .inr ⟨hp,_,_,hv⟩
  | false =>
   simp only [hp,cond_false] at hh
   obtain ⟨xs,rs,hh,hroots,hl,hrep⟩:=ny hlk hs hevs hh
   cases hn:df rs with
   | false=>simp [hn,Prg.hits] at hh
   | true =>
    simp only [hn,cond_true] at hh
    obtain ⟨r,hc,hh⟩:=hh
    obtain ⟨st1,g1,f1,f2,f3,f4,_⟩:=kO (dst:=dst) rs hs hroots hn
    refine wpc g1.I hc hl (f2.laid (fun _ h=>h)) f2.lt (hrep _ f3) (fun v w' I2 S hb i1 i2 i3 i4 hv=>?_)
    have hg:=f2.grow hb (I':=I2) (R':=S) i1 i2 i3 (fun b h=>.inr (i4 b h))
    exact mC (ps:=uX rs) hg f1 f4 htys (fun _=>.inl hv) (fun _ h=>h) hh ha
 ·exact hh.elim
theorem xy {f:FuncId} (hT:∀ xs r,C f xs r->Aq P w0.G f xs r) (hlk:∀ i b,look i=some b->st.look i=some b) (hs:ai w0 I0 NoR g st a ov w) {args:Array Operand} {tys:Array TypeId} {cal:Operand} {e:Eff}
  (hres:∀ vals:Array Value,vals=args.map a.eval->(callFunc f vals).run P w=.ok (.enter f vals) w->(execOp a.eval ⟨dst,.call ⟨.value cal,args,tys⟩,type,pos,after,guard⟩).run P w=.ok (.enter f vals) w)
  (hh:(l9 look f (args.toList.map st.ev)).hits C e) (ha:e.app st dst=some st'):Good P w0 I0 ov ⟨dst,.call ⟨.value cal,args,tys⟩,type,pos,after,guard⟩ st' a w Q:=by
 have hgd:∀ m,(args.toList.map a.eval).getD m undef=(args.map a.eval).getD m undef:=fun m=>by simp [FU,FS]
 have key : ∀ (x0 : Operand) (xs0 : List Operand) (i r : Nat) (p : Way) (x z z1 y1 x1 v : TV) (lo : Nat) (xs : List TV), args.toList = x0 :: xs0 → bG look i r = some x → aN p x = some z → C f (z1 :: iy xs) v → pput lo z v = some y1 → fD p x y1 = some x1 → xs.length = (xs0.map st.ev).length →
   (∀ I2,Wide g st.look I2->∀ (m:Nat) (y:TV),xs[m]? = some y->Rep w I2 y ((xs0.map a.eval).getD m undef))->e=.gen [.drop i r (aM p) true,.root i r x1] (.tups []) ->
   (∃ nd u,Node w p x (g.ρ i r) u nd/\((lo=0/\z1=z/\a.eval x0=u)\/∃ len,eY lo len z=some z1/\ue nd lo len u (a.eval x0))) ->
   Good P w0 I0 ov ⟨dst,.call ⟨.value cal,args,tys⟩,type,pos,after,guard⟩ st' a w Q:=by
  intro x0 xs0 i r p x z z1 y1 x1 v lo xs hal hx hz hc hp hset hlen hrep he hnode
  subst he
  obtain ⟨ts,h1,h2⟩:=aw hx
  obtain ⟨nd,u,hnode,hwin⟩:=hnode
  have t1:=hlk _ _ h1
  have hrl:r < ts.length:=(FE.1 h2).1
  have hfr:∀ b,g.φ i r b->Foot g st.look i b:=fun b hb=>.inr ⟨ts,r,t1,hrl,hb⟩
  obtain ⟨v0,Sy,s1,s2,s3,s4,s5⟩:=(hs.trees i ts t1 r x h2).sub hz
  obtain ⟨e1,e2⟩:=Node.unique hnode s3
  subst e1 e2
  have hlm:(st.au (CA.drop i r (aM p) true)).look i=some (.tree ts):=by rw [aI,t1]; rfl
  have happ:ae dst [.drop i r (aM p) true,.root i r x1] st=some ((st.au (CA.drop i r (aM p) true)).ac i (some (.tree (ak ts r x1)))):=by
   simp only [ae,Prim.app,cu hlm]
  simp only [Eff.app,happ,FG] at ha
  subst ha
  have fin:∀ (w':World) (S':Nat->Prop),al w' g.I y1 u S'->y1.nd=z.nd->w0.Bel w'->w.heap.size<=w'.heap.size->(∀ b,b < w.heap.size->¬ Sy b->w'.heap[b]? = w.heap[b]?)->(∀ b,S' b->Sy b) ->
    Sim w0 I0 (((st.au (CA.drop i r (aM p) true)).ac i (some (.tree (ak ts r x1)))).put dst (.tups [])) (a.put dst (.tuple #[])) ov w':=by
   intro w' S' hr hnd hw hsz hblk hS
   have hfx:∀ b,g.φ i r b->b < w.heap.size:=fun b hb=>(hs.foot i b (hfr b hb)).2.1
   obtain ⟨m1,m2⟩:=s5 w' g.I y1 x1 S' hset (fun b hb=>hblk b (hs.lt b hb) (fun h=>(hs.foot i b (hfr b (s2 b h))).2.2.1 hb)) (fun _ h=>h) (fun b hb hn=>hblk b (hfx b hb) hn) hr (fun b hb hb2=>hS b hb)
   obtain ⟨q1,q2⟩:=hs.eS t1 h2 (CA.drop i r (aM p) true) (fun q=>leads true (aM p) q=false) (fj i r (aM p) true) (R':=NoR) (I':=g.I) m1
    (fun q v' nd ho _ hn => m2 q v' nd (fun q' hq' hn' => by
     cases q' with
     | nil=>exact ⟨hn'.1,by rw [hn'.2,hnd]⟩
     | cons kj q'=>rw [hq',iG p _ (by simp)] at ho; cases ho) hn)
    hw hsz (fun b hb hn _=>hblk b hb (fun h=>hn (s2 b h)))
    (fun b hb => by
     rcases hb with h | h
     ·exact .inl h.1
     ·exact .inl (s2 b (hS b h)))
    (fun b hb => hb.elim) (fun _ h => h) (fun _ h => .inl h) (fun b hb hS' => by
     rcases hS' with h | h
     ·exact (hs.foot i b (hfr b h.1)).2.2.1 hb
     ·exact (hs.foot i b (hfr b (s2 b (hS b h)))).2.2.1 hb)
   exact ⟨_,q1.put dst (v:=.tups []) ⟨#[],rfl,rfl,fun j b c hj=>by simp at hj⟩⟩
  have hv0:(args.map a.eval).getD 0 undef=a.eval x0:=by rw [<- hgd,hal]; rfl
  have hvs:(args.map a.eval).size=(z1 :: iy xs).length:=by
   have:args.size=args.toList.length:=by simp
   rw [Array.size_map,this,hal]
   simp [hlen,iH]
  have hrest:∀ (I2:Nat->Prop) (j:Nat) (y:TV),(iy xs)[j]? = some y->Rep w I2 y ((args.map a.eval).getD (j + 1) undef):=fun I2 j y hy=>by
   rw [<- hgd,hal]
   rw [mM] at hy
   cases hq:xs[j]? with
   | none=>rw [hq] at hy; cases hy
   | some q =>
    rw [hq] at hy
    simp only [FR,FG] at hy
    subst hy
    have:=hrep _ ⟨hs.lt,fun i b h=>(hs.foot i b h).2.1⟩ j q hq
    exact pP this
  have hnI:∀ b,Sy b->¬ g.I b:=fun b hb=>(hs.foot i b (hfr b (s2 b hb))).2.2.1
  have hSl:∀ b,Sy b->b < w.heap.size:=fun b hb=>(hs.foot i b (hfr b (s2 b hb))).2.1
  have hNew:∀ b,Sy b->w0.New b:=fun b hb=>(hs.foot i b (hfr b (s2 b hb))).1
  obtain ⟨zz,asz,ez,hcase⟩:=hT _ _ hc
  simp only [List.cons.injEq] at ez
  obtain ⟨rfl,rfl⟩:=ez
  rcases hcase with ⟨rfl,rfl,hcall⟩ | ⟨rows,rows',rfl,rfl,hrl2,hcall⟩
  ·-- none
   have hzn:z=.lit aF/\y1=.lit aF/\lo=0/\a.eval x0=aF:=by
    unfold pput at hp
    split at hp
    ·rename_i heq; cases heq
    ·split at hp
     ·rename_i hlo
      simp only [FG] at hp
      refine ⟨rfl,hp.symm,hlo,?_⟩
      have hu:u=aF:=aY s1
      rcases hwin with ⟨_,_,h⟩ | ⟨len,_,h⟩
      ·rw [h,hu]
      ·have h:lo=0/\len=0/\u=aF/\a.eval x0=aF:=h
       exact h.2.2.2
     ·cases hp
    ·cases hp
   obtain ⟨rfl,rfl,rfl,hv⟩:=hzn
   obtain ⟨hcf,hcalls⟩:=hcall g.I w (args.map a.eval) hvs (by rw [hv0,hv]) (hrest g.I)
   unfold Good Oper.wp
   rw [hres _ rfl hcf]
   simp only [Oper.upon]
   refine hcalls.mono ?_
   rintro e w' ⟨rfl,hb⟩
   exact fin w' Sy (s1.mv (fun b hb'=>hb.block b (hs.lt b hb')) (fun _ h=>h) (fun b hb'=>hb.block b (hSl b hb')) (fun _ h=>h)) rfl (hs.below.step hb) hb.size (fun b h _=>hb.block b h) (fun _ h=>h)
  ·have hz0:∃ ys,z=.sl true 1 ys/\y1=.sl true 1 (ys.take lo ++ (rows' ++ ys.drop (lo + rows'.length)))/\lo + rows'.length<=ys.length:=by
    unfold pput at hp
    split at hp
    ·rename_i s xs1 s' ws heq1
     cases heq1
     split at hp
     ·rename_i hc1
      obtain ⟨rfl,hc1⟩:=hc1
      simp only [FG] at hp
      exact ⟨xs1,rfl,hp.symm,hc1⟩
     ·cases hp
    ·rename_i heq; cases heq
    ·cases hp
   obtain ⟨ys,rfl,rfl,hfits⟩:=hz0
   obtain ⟨a0,cap,vs,ty,us,F,w1,w2,w3,w4,w5,w6,w7⟩:=s1.turned hnI hSl hs.lt
   have hw:∃ (a1:Addr) (cap1:Nat),a.eval x0=.slice (some a1) rows.length cap1/\a1.block=a0.block/\a1.spot=none/\(rows.length=0\/a1.off=a0.off + lo)/\(a1.off=a0.off + lo\/a1.off=a0.off)/\rows=(ys.drop lo).take rows.length:=by
    rcases hwin with ⟨rfl,e1,e2⟩ | ⟨len,e1,e2⟩
    ·simp only [TV.sl.injEq,true_and] at e1
     subst e1
     exact ⟨a0,cap,by rw [e2,w1],rfl,w3.spot,.inr rfl,.inl rfl,by simp⟩
    ·simp only [eY] at e1
     split at e1
     ·rename_i hle
      simp only [FG,TV.sl.injEq,true_and] at e1
      have hlen2:rows.length=len:=by rw [<- e1]; simp; omega
      have e2:lo + len<=ys.length/\a.eval x0=cut 1 lo len u:=e2
      rw [w1] at e2
      simp only [cut,Nat.mul_one] at e2
      have hcap:=w3.le
      by_cases hcl:cap=lo
      ·rw [if_pos hcl] at e2
       exact ⟨a0,_,by rw [e2.2,hlen2],rfl,w3.spot,.inl (by omega),.inr rfl,by rw [hlen2]; exact e1.symm⟩
      ·rw [if_neg hcl] at e2
       refine ⟨_,_,by rw [e2.2,hlen2],eN _ _,Dw w3.spot _,.inr ?_,.inl ?_,by rw [hlen2]; exact e1.symm⟩
       all_goals (rw [oT a0 w3.spot])
     ·cases e1
   obtain ⟨a1,cap1,hv,hb1,hsp1,ho1,ho2,hrows⟩:=hw
   have hrl:=w3.len
   rw [Nat.mul_one] at hrl
   have hfit:=w3.fit
   rw [Nat.mul_one] at hfit
   have hcap:=w3.le
   have hrg:∀ k,k < rows.length->rows[k]? = ys[lo + k]? := fun k hk=>by
    conv=>lhs; rw [hrows]
    rw [List.getElem?_take_of_lt hk,List.getElem?_drop]
   have husl:((us.drop lo).take rows.length).length=rows.length:=by simp; omega
   have husg:∀ k,k < rows.length->((us.drop lo).take rows.length)[k]? = us[lo + k]? := fun k hk=>by rw [List.getElem?_take_of_lt hk,List.getElem?_drop]
   obtain ⟨hcf,hcalls⟩:=hcall g.I w a1 cap1 ((us.drop lo).take rows.length) vs ty (fun k=>F (lo + k)) (args.map a.eval) (hs.laid (fun _ h=>h)) hs.lt (by rw [hb1]; exact w3.heap) hsp1 (by rw [hb1]; exact hnI _ w2)
    (by omega) husl (fun k hk => by
     rw [husg k hk]
     rcases ho1 with h | h
     ·omega
     ·rw [h,Nat.add_assoc]
      exact w3.cells (lo + k) (by omega))
    (fun q hq=>w3.one q (List.mem_of_mem_drop (List.mem_of_mem_take hq)))
    (fun q hq => by
     obtain ⟨m,hm⟩:=List.mem_iff_getElem?.1 hq
     rw [hrg m (FE.1 hm).1] at hm
     exact w4 q (FN hm))
    (fun k q c hk hc1 => by
     have hkl:k < rows.length:=(FE.1 hk).1
     rw [hrg k hkl] at hk
     have:=w5 (lo + k) q c hk hc1
     rwa [FS,husg k hkl,<- FS])
    (fun k b hb => by
     obtain ⟨k1,k2⟩:=w6 _ b hb
     rw [hb1]
     exact ⟨k2,hSl b k1,hnI b k1⟩) hvs (by rw [hv0,hv]) (hrest g.I)
   unfold Good Oper.wp
   rw [hres _ rfl hcf]
   simp only [Oper.upon]
   refine hcalls.mono ?_
   rintro e w' ⟨rfl,o1,o2,o3,hsz,hblk,us',σ,u1,u2,u3,u4⟩
   rw [hb1] at u2 hblk
   rw [husl] at u1
   have hheap:w'.heap[a0.block]? = some (.cells (spl vs.toList (a0.off + lo) us').toArray ty (0,0)):=by
    rw [u2]
    rcases ho1 with h | h
    ·have:us'=[]:=List.eq_nil_of_length_eq_zero (by omega)
     subst this
     simp [spl]
    ·rw [h]
   have hfin:=w7 lo rows.length σ us' w' rows' (by omega) (fun k hk=>by
    obtain ⟨z1,z2,z3⟩:=u3 k hk
    refine ⟨z1,by rw [z2,husg _ z1],by rw [z3,hrg _ z1]⟩) u4 u1 hrl2 hheap hblk
   rw [<- hrl2] at hfin
   refine fin w' Sy hfin ?_ (hs.below.but o1 o2 o3 hsz (fun b hb hn=>hblk b hb (fun e=>hn (by rw [e]; exact hNew _ w2)))) hsz (fun b hb hn=>hblk b hb (fun e=>hn (by rw [e]; exact w2))) (fun _ h=>h)
   simp only [TV.nd]
   congr 2
   simp
   omega
 unfold l9 at hh
 split at hh
 ·rename_i i r p rest hargs
  obtain ⟨x0,xs0,hal,hx0,hrest⟩:∃ x0 xs0,args.toList=x0 :: xs0/\st.ev x0=.one (.sref i r p)/\xs0.map st.ev=rest:=by
   cases hal:args.toList with
   | nil=>rw [hal] at hargs; simp at hargs
   | cons x0 xs0=>rw [hal] at hargs; simp only [List.map_cons,List.cons.injEq] at hargs; exact ⟨x0,xs0,rfl,hargs.1,hargs.2⟩
  split at hh
  ·rename_i x hx
   obtain ⟨z,hz,hh⟩:=cz hh
   subst hrest
   obtain ⟨xs,⟨v,hc,y1,hp,hh⟩,hlen,hrep⟩:=fq hlk hs (hs.evs xs0) hh
   obtain ⟨x1,hset,hh⟩:=mW hh
   cases hh
   have hr0:=hs.ev x0
   rw [hx0] at hr0
   obtain ⟨ts,x',nd,g1,g2,g3,_⟩:=hr0
   obtain ⟨ts',h1,h2⟩:=aw hx
   rw [hlk _ _ h1] at g1
   cases g1
   rw [h2] at g2
   cases g2
   exact key x0 xs0 i r p x z z y1 x1 v 0 xs hal hx hz hc hp hset hlen hrep rfl ⟨nd,_,g3,.inl ⟨rfl,rfl,rfl⟩⟩
  ·exact hh.elim
 ·rename_i i r p lo len rest hargs
  obtain ⟨x0,xs0,hal,hx0,hrest⟩:∃ x0 xs0,args.toList=x0 :: xs0/\st.ev x0=.one (.swin i r p lo len)/\xs0.map st.ev=rest:=by
   cases hal:args.toList with
   | nil=>rw [hal] at hargs; simp at hargs
   | cons x0 xs0=>rw [hal] at hargs; simp only [List.map_cons,List.cons.injEq] at hargs; exact ⟨x0,xs0,rfl,hargs.1,hargs.2⟩
  split at hh
  ·rename_i x hx
   obtain ⟨z,hz,hh⟩:=cz hh
   obtain ⟨z1,hw,hh⟩:=hh
   subst hrest
   obtain ⟨xs,⟨v,hc,y1,hp,hh⟩,hlen,hrep⟩:=fq hlk hs (hs.evs xs0) hh
   obtain ⟨x1,hset,hh⟩:=mW hh
   cases hh
   have hr0:=hs.ev x0
   rw [hx0] at hr0
   obtain ⟨ts,x',u,nd,g1,g2,g3,_,g5⟩:=hr0
   obtain ⟨ts',h1,h2⟩:=aw hx
   rw [hlk _ _ h1] at g1
   cases g1
   rw [h2] at g2
   cases g2
   exact key x0 xs0 i r p x z z1 y1 x1 v lo xs hal hx hz hc hp hset hlen hrep rfl ⟨nd,u,g3,.inr ⟨len,hw,g5⟩⟩
  ·exact hh.elim
 ·exact hh.elim
theorem E8 (hC:yi P w0.G E C) (hE:∀ t d,E.T t=some d->aV P t d) (hlk:∀ i b,look i=some b->st.look i=some b) (hs:ai w0 I0 NoR g st a ov w) {f:FuncId} {args:Array Operand} {tys:Array TypeId} {fv:AV} {e:Eff}
  (hh:(opL E (st.nid dst) look (.call ⟨.value (.func f),args,tys⟩) (fv :: args.toList.map st.ev)).hits C e) (ha:e.app st dst=some st'):Good P w0 I0 ov ⟨dst,.call ⟨.value (.func f),args,tys⟩,type,pos,after,guard⟩ st' a w Q:=by
 have hres:∀ vals:Array Value,vals=args.map a.eval->(callFunc f vals).run P w=.ok (.enter f vals) w->(execOp a.eval ⟨dst,.call ⟨.value (.func f),args,tys⟩,type,pos,after,guard⟩).run P w=.ok (.enter f vals) w:=fun vals hv hcf=>by
  subst hv
  simp only [execOp,resolve,Act.eval,Deferred.ofValue,Sem.run_bind,Sem.run_pure,Result.andThen_ok,invoke]
  simpa using hcf
 simp only [opL] at hh
 cases htn:E.turn f with
 | true =>
  rw [htn] at hh
  exact xy (fun xs r hc=>(hC f xs r hc).1 htn) hlk hs hres hh ha
 | false =>
 rw [htn] at hh
 cases hen:E.eye f with
 | true=>rw [hen] at hh; exact hh.elim
 | false =>
 rw [hen] at hh
 exact xG (fun xs r hc=>((hC f xs r hc).2 htn).2 hen) hE hlk hs hres hh ha
theorem BI {x:TV} {f:Nat} (h:fnOf x=some f):x=.lit (.func (.func f) #[] #[]):=by
 unfold fnOf at h
 split at h
 ·rename_i g ts fs
  cases hb:ts.size.beq 0 && fs.size.beq 0 with
  | false=>simp [hb] at h
  | true =>
   simp only [hb,cond_true,FG] at h
   subst h
   simp only [FH] at hb
   have h1:=(ap _ _).1 hb.1
   have h2:=(ap _ _).1 hb.2
   rw [Array.eq_empty_of_size_eq_zero h1,Array.eq_empty_of_size_eq_zero h2]
 ·cases h
theorem yV {f:FuncId} {i:Nat} (hT:E.eye f=true->E.turn f=false->∀ xs r,C f xs r->Ay P w0.G f xs r) (hE:∀ t d,E.T t=some d->aV P t d) (hlk:∀ i b,look i=some b->st.look i=some b) (hs:ai w0 I0 NoR g st a ov w) {args:Array Operand} {tys:Array TypeId} {cal:Operand} {pv:Value} {e:Eff}
  (hpv:∃ cs,st.look i=some (.cells cs)/\pv=.pointer (some ⟨g.β i,0,none⟩))
  (hres:∀ vals:Array Value,vals=args.map a.eval ++ #[pv]->(callFunc f vals).run P w=.ok (.enter f vals) w->(execOp a.eval ⟨dst,.call ⟨.value cal,args,tys⟩,type,pos,after,guard⟩).run P w=.ok (.enter f vals) w)
  (hh:(xq E (st.nid dst) look f i (args.toList.map st.ev)).hits C e) (ha:e.app st dst=some st'):Good P w0 I0 ov ⟨dst,.call ⟨.value cal,args,tys⟩,type,pos,after,guard⟩ st' a w Q:=by
 unfold xq at hh
 cases he2:E.eye f && !E.turn f with
 | false=>rw [he2] at hh; exact hh.elim
 | true =>
 rw [he2] at hh
 simp only [cond_true] at hh
 obtain ⟨he,hte⟩:E.eye f=true/\E.turn f=false:=by simpa using he2
 split at hh
 ·rename_i cs ds hl hds
  split at hh
  ·rename_i xs hpl
   have hcs:=co hpl
   subst hcs
   obtain ⟨ys,⟨r,hc,hh⟩,hlen,hrep⟩:=fq hlk hs (hs.evs args.toList) hh
   have hl2:=hlk i _ hl
   obtain ⟨vs,ty,hheap,hcr⟩:=hs.cells i _ hl2
   have hvl:vs.size=xs.length:=by simpa using hcr.1
   have hfi:Foot g st.look i (g.β i):=.inl ⟨_,hl2,rfl⟩
   obtain ⟨asz,cs',e1,hcc⟩:=hT he hte _ r hc
   obtain ⟨rfl,e3⟩:iy ys=asz/\xs=cs':=by
    have:=List.append_inj' e1 rfl
    refine ⟨this.1,?_⟩
    have:=this.2
    simpa using this
   subst e3
   obtain ⟨cs2,_,hpv⟩:=hpv
   subst hpv
   have hal:(iy ys).length=args.size:=by rw [iH,hlen]; simp
   have hone:∀ u ∈ vs.toList,u.oneCell'=true:=fun u hu=>by
    obtain ⟨m,hm,rfl⟩:=List.mem_iff_getElem.1 hu
    have hm2:m < (xs.map CA.t).length:=by simp; rw [<- hvl]; simpa using hm
    exact (hcr.2 m _ _ (FF hm2) (FF hm)).2
   obtain ⟨hcf,hcalls⟩:=hcc g.I w (g.β i) vs ty (args.map a.eval ++ #[.pointer (some ⟨g.β i,0,none⟩)]) (hs.laid (fun _ h=>h)) hs.lt hheap hone (hs.foot i _ hfi).2.2.1 hvl (hs.foot i _ hfi).2.1
    (fun j c hj => by
     have hjl:j < vs.size:=by rw [hvl]; exact (FE.1 hj).1
     have h1:(xs.map CA.t)[j]? = some (.t c):=by rw [FK,hj]; rfl
     have h2:vs.toList[j]? = some (vs.getD j undef):=by rw [FI,Array.getElem?_eq_getElem hjl]; simp [hjl]
     exact (hcr.2 j _ _ h1 h2).1.1)
    (by simp [iH,hlen])
    (by
     rw [hal,FU,Array.getElem?_append_right (by simp)]
     simp)
    (fun j y hy => by
     have hj:j < args.size:=by rw [<- hal]; exact (FE.1 hy).1
     have e2:(args.map a.eval ++ #[Value.pointer (some ⟨g.β i,0,none⟩)]).getD j undef=(args.toList.map a.eval).getD j undef:=by
      rw [FU,Array.getElem?_append_left (by simpa using hj),FS]
      simp
     rw [e2]
     rw [mM] at hy
     cases hq:ys[j]? with
     | none=>rw [hq] at hy; cases hy
     | some q =>
      rw [hq] at hy
      simp only [FR,FG] at hy
      subst hy
      have:=hrep _ ⟨hs.lt,fun i b h=>(hs.foot i b h).2.1⟩ j q hq
      exact pP this)
   unfold Good Oper.wp
   rw [hres _ rfl hcf]
   simp only [Oper.upon]
   refine hcalls.mono ?_
   rintro e w' ⟨v,rfl,hb,I2,S,i1,i2,i3,i4,hv⟩
   have hg:=hs.grow hb (I':=I2) (R':=S) i1 i2 i3 (fun b h=>.inr (i4 b h))
   exact mC (ps:=[]) hg rfl rfl (oo hE hds) (fun _=>.inl hv) (fun _ h=>h) hh ha
  ·exact hh.elim
 ·exact hh.elim
theorem op_dyn (hC:yi P w0.G E C) (hE:∀ t d,E.T t=some d->aV P t d) (hlk:∀ i b,look i=some b->st.look i=some b) (hs:ai w0 I0 NoR g st a ov w) {t:Tmp} {args:Array Operand} {tys:Array TypeId} {e:Eff}
  (hh:(opL E (st.nid dst) look (.call ⟨.value (.tmp t),args,tys⟩) (st.ev (.tmp t) :: args.toList.map st.ev)).hits C e) (ha:e.app st dst=some st'):Good P w0 I0 ov ⟨dst,.call ⟨.value (.tmp t),args,tys⟩,type,pos,after,guard⟩ st' a w Q:=by
 simp only [opL] at hh
 split at hh
 ·rename_i x hx
  obtain ⟨f,hf,hh⟩:=hh
  have:=BI hf
  subst this
  have hev:a.eval (.tmp t)=.func (.func f) #[] #[]:=bC (cj (hs.ev (.tmp t)) hx)
  obtain ⟨hln,hh⟩:=hh
  simp only [FH] at hln
  have hnl:E.lent f=none:=by simpa using hln.1.1
  have hpk:E.peek f=none:=by simpa using hln.1.2
  have h2:E.turn f=false/\E.eye f=false:=by simpa using hln.2
  obtain ⟨htn,hen⟩:=h2
  obtain ⟨xs,⟨r,hc,h1,hh⟩,hl,hrep⟩:=fq hlk hs (hs.evs args.toList) hh
  have hgd:∀ m,(args.toList.map a.eval).getD m undef=(args.map a.eval).getD m undef:=fun m=>by simp [FU,FS]
  obtain ⟨hcf,hcalls⟩:=(((((hC f xs r hc).2 htn).2 hen).1 hpk).1 hnl).1 (fun b=>b < w.heap.size) w (args.map a.eval) (hs.laid hs.lt) (fun _ h=>h) (by rw [hl]; simp) (fun j x hx=>by rw [<- hgd]; exact hrep _ ⟨hs.lt,fun i b h=>(hs.foot i b h).2.1⟩ j x hx)
  have hrun:(execOp a.eval ⟨dst,.call ⟨.value (.tmp t),args,tys⟩,type,pos,after,guard⟩).run P w=.ok (.enter f (args.map a.eval)) w:=by
   simp only [execOp,resolve,hev,Deferred.ofValue,Sem.run_bind,Sem.run_pure,Result.andThen_ok,invoke]
   simpa using hcf
  rw [AJ hh] at ha
  simp only [Eff.app,FG] at ha
  subst ha
  unfold Good Oper.wp
  rw [hrun]
  simp only [Oper.upon]
  refine hcalls.mono ?_
  rintro e w' ⟨v,rfl,hb,I2,S,i1,i2,i3,i4,hv⟩
  have hg:=hs.grow hb (I':=g.I) (R':=NoR) (fun _ h=>h) (fun b h=>Nat.lt_of_lt_of_le (hs.lt b h) hb.size) (fun _ _ h=>h) (fun b h=>h.elim)
  obtain ⟨e1,e2⟩:=eP hv h1
  refine ⟨_,hg.put dst (v:=.one (.t r)) ?_⟩
  rw [e1]
  exact ⟨.lit _,rB e2⟩
 ·split at hh
  ·rename_i f i hfv
   have hr0:=hs.ev (.tmp t)
   rw [hfv] at hr0
   obtain ⟨cs,hl,hev⟩:=hr0
   refine yV (pv:=.pointer (some ⟨g.β i,0,none⟩)) (fun he hte xs r hc=>((hC f xs r hc).2 hte).1 he) hE hlk hs ⟨cs,hl,rfl⟩ (fun vals hv hcf=>?_) hh ha
   ·subst hv
    simp only [execOp,resolve,hev,Deferred.ofValue,Sem.run_bind,Sem.run_pure,Result.andThen_ok,invoke]
    simpa using hcf
  ·exact hh.elim
theorem Al {t:TypeId} {d:TyD} (h:aV P t d) (hk:d.kd.lv=true):∃ desc,P.underlying t=some desc/\∀ ms,desc≠.interface ms:=by
 obtain ⟨desc,h1,h2,_⟩:=h.und
 refine ⟨desc,h1,fun ms e=>?_⟩
 subst e
 simp only [qo] at h2
 rw [<- h2] at hk
 cases hk
theorem uF {t:TypeId} {d:TyD} (h:aV P t d) (hk:d.kd.lv=true) (v:Value):(Instr.makeInterface t v).run P w=.ok (.iface t v) w:=by
 obtain ⟨desc,h1,h2⟩:=Al h hk
 simp only [Instr.makeInterface,Sem.run_bind,aL h1,Result.andThen_ok]
 cases desc <;> first | rfl | exact absurd rfl (h2 _)
theorem DX {t xt:TypeId} {d:TyD} (h:aV P t d) (hk:d.kd.lv=true) (v:Value):(Instr.typeAssert (.iface t v) xt t false).run P w=.ok v w:=by
 obtain ⟨desc,h1,h2⟩:=Al h hk
 simp only [Instr.typeAssert,Sem.run_bind,aL h1,Result.andThen_ok]
 cases desc <;> first | (simp; done) | exact absurd rfl (h2 _)
theorem op_ifc (hE:∀ t d,E.T t=some d->aV P t d) (hs:ai w0 I0 NoR g st a ov w) {t:TypeId} {x:Operand} {e:Eff} (hh:(opL E id look (.makeInterface t x) [st.ev x]).hits C e) (ha:e.app st dst=some st') :
  Good P w0 I0 ov ⟨dst,.makeInterface t x,type,pos,after,guard⟩ st' a w Q:=by
 simp only [opL] at hh
 have hx:=hs.ev x
 split at hh
 ·rename_i d hT
  have ht:=hE _ _ hT
  unfold Df at hh
  cases hk:d.kd.lv with
  | false=>rw [hk] at hh; exact hh.elim
  | true =>
   rw [hk] at hh
   simp only [cond_true] at hh
   split at hh
   ·rename_i i hxi
    rw [hxi] at hx
    obtain ⟨cs,hl,hv⟩:=hx
    cases hh
    exact aR hs (v:=.one (.ifp t i)) (u:=.iface t (.pointer (some ⟨g.β i,0,none⟩))) (by simp [execOp,hv,uF ht hk]) ⟨cs,hl,rfl⟩ ha
   ·split at hh
    ·rename_i y hy
     have hr:=cj hx hy
     obtain ⟨v,hv,hh⟩:=hh
     unfold pifc at hv
     split at hv
     ·split at hv
      ·simp only [FG] at hv
       subst hv
       have he:=bC hr
       exact cF hs (by simp [execOp,he,uF ht hk]) (.lit _) rfl hh ha
      ·cases hv
     ·cases hv
    ·exact hh.elim
 ·exact hh.elim
theorem EV (hE:∀ t d,E.T t=some d->aV P t d) (hs:ai w0 I0 NoR g st a ov w) {t xt:TypeId} {x:Operand} {ok:Bool} {e:Eff} (hh:(opL E id look (.typeAssert x xt t ok) [st.ev x]).hits C e) (ha:e.app st dst=some st') :
  Good P w0 I0 ov ⟨dst,.typeAssert x xt t ok,type,pos,after,guard⟩ st' a w Q:=by
 cases ok with
 | true=>simp [opL,Prg.hits] at hh
 | false =>
 simp only [opL] at hh
 have hx:=hs.ev x
 split at hh
 ·rename_i d hT
  have ht:=hE _ _ hT
  unfold u9 at hh
  cases hk:d.kd.lv with
  | false=>rw [hk] at hh; exact hh.elim
  | true =>
   rw [hk] at hh
   simp only [cond_true] at hh
   split at hh
   ·rename_i y hy
    have hr:=cj hx hy
    obtain ⟨v,hv,hh⟩:=hh
    unfold pasrt at hv
    split at hv
    ·split at hv
     ·rename_i hc
      obtain ⟨rfl,hsc⟩:=hc
      simp only [FG] at hv
      subst hv
      have he:=bC hr
      exact cF hs (by simp only [execOp,he]; simp only [Sem.run_bind,DX ht hk,Result.andThen_ok,Sem.run_pure]) (.lit _) (rB hsc) hh ha
     ·cases hv
    ·cases hv
   ·exact hh.elim
 ·exact hh.elim
theorem EO (hE:∀ t d,E.T t=some d->aV P t d) (hlk:∀ i b,look i=some b->st.look i=some b) (hs:ai w0 I0 NoR g st a ov w) {t:TypeId} {len:Nat} {parts:Array (Nat × Operand)} {e:Eff}
  (hh:(th E t len parts ((Op.buildSlice t len parts).operands.toList.map st.ev)).hits C e) (ha:e.app st dst=some st'):Good P w0 I0 ov ⟨dst,.buildSlice t len parts,type,pos,after,guard⟩ st' a w Q:=by
 unfold th at hh
 split at hh
 ·rename_i et d hel
  obtain ⟨dt,hT,hk,hTe⟩:=dh hel
  have ht:=hE _ _ hT
  have hte:=hE _ _ hTe
  have hu:=cn ht hk
  have hops:(Op.buildSlice t len parts).operands.toList.map st.ev=parts.toList.map fun p=>st.ev p.2:=by simp [Op.operands]
  rw [hops] at hh
  obtain ⟨z,hz,hzc⟩:=lN (w:=w) hte
  have hzl:z.cells.size=d.size:=by have:=hte.zlen; rw [<- hzc] at this; simpa using this
  obtain ⟨Z,hZ⟩:∃ Z:Array Value,Z=(Array.range (len * d.size)).map ((if len * d.size=0 then #[] else z.cells)[· % (if len * d.size=0 then #[] else z.cells).size]!):=⟨_,rfl⟩
  have hZl:Z.toList=(List.replicate len d.zero).flatten:=by
   rw [hZ]
   by_cases h0:len * d.size=0
   ·rw [h0]
    have:(List.replicate len d.zero).flatten=[]:=List.eq_nil_of_length_eq_zero (by rw [bo,hte.zlen,h0])
    rw [this]; simp
   ·rw [if_neg h0,<- hzc,<- hzl]
    have h1:0 < z.cells.size:=by
     rcases Nat.eq_zero_or_pos z.cells.size with h | h
     ·rw [<- hzl,h] at h0; simp at h0
     ·exact h
    exact tR z.cells len h1
  have hcr0:CR w g st.look ((List.replicate len d.zero).flatten.map fun v=>.t (.lit v)) Z.toList:=by
   rw [hZl]
   exact CR.lits (fun v hv=>by
    obtain ⟨l,hl,hv'⟩:=List.mem_flatten.1 hv
    rw [List.eq_of_mem_replicate hl] at hv'
    exact hte.zone v hv')
  obtain ⟨cs,cells,hh,hfill,hcr⟩:=dX (place:=fun i=>some (i * d.size,d.size)) (fun i off agg n hi=>by
   simp only [FG,Prod.mk.injEq] at hi
   obtain ⟨rfl,_,rfl⟩:=hi
   rfl) hs parts.toList _ Z hcr0 hh
  split at hh
  ·rename_i ys hpl
   have:=co hpl
   subst this
   cases hc:(len * d.size).ble 16777216 && ys.length.beq (len * d.size) && Nat.blt 0 d.size with
   | false=>rw [hc] at hh; exact hh.elim
   | true =>
   rw [hc] at hh
   simp only [cond_true] at hh
   cases hh
   simp only [FH] at hc
   obtain ⟨⟨hc1,hc2⟩,hc3⟩:=hc
   have hc1:len * d.size<=16777216:=by simpa using hc1
   have hc2:ys.length=len * d.size:=by simpa using hc2
   have hc3:0 < d.size:=by simpa using hc3
   have hrun:(execOp a.eval ⟨dst,.buildSlice t len parts,type,pos,after,guard⟩).run P w=.ok (.value (.slice (some ⟨w.heap.size,0,none⟩) len len)) (w.alloc (.cells cells et)):=by
    have hpl:(parts.map fun (p:Nat × Operand)=>(p.1,a.eval p.2)).toList=parts.toList.map fun p=>(p.1,a.eval p.2):=by simp
    have hnot':¬ 16777216 < len * d.size:=by omega
    simp only [execOp,Instr.buildSlice,Sem.run_bind,aL hu,Result.andThen_ok,ca hte]
    by_cases h0:len * d.size=0
    ·have hZ2:Array.map (fun x=>(default:Value)) (Array.range (len * d.size))=Z:=by rw [hZ]; simp [h0]
     simp [h0,newRow]
     rw [h0] at hZ2
     rw [<- hZ2] at hfill
     simp [hfill]
    ·have hZ':Array.map (fun x=>z.cells[x % z.cells.size]!) (Array.range (len * d.size))=Z:=by rw [hZ]; simp [h0]
     simp [hnot',h0,newRow,hz,hZ',hfill]
   have hn63:len<=maxLen:=by
    have:len * 1<=len * d.size:=Nat.mul_le_mul_left _ hc3
    simp only [maxLen]; omega
   obtain ⟨k1,k2,k3⟩:=lP d.size len ys hc2
   have hcl:cells.size=ys.length:=by have:=hcr.1; simpa using this
   have hold:∀ b,b < w.heap.size->(w.alloc (.cells cells et)).heap[b]? = w.heap[b]? := (cw w _).block
   have hs1:=hs.grow (cw w (.cells cells et)) (I':=fun b=>g.I b\/b=w.heap.size) (R':=NoR) (fun _ h=>.inl h) (fun b h=>by
    rcases h with h | h
    ·exact Nat.lt_of_lt_of_le (hs.lt b h) (cw w _).size
    ·subst h; simp) (fun b hb h=>h.elim (fun h=>h) (fun h=>by omega)) (fun b h=>h.elim)
   obtain ⟨dd,h0,h1,h2,h3⟩:=j3 (ps:=[]) (st:=st) ha rfl rfl
   obtain ⟨s2,m2⟩:=hs1.lw (xs:=[.hole]) h2 h1 hs1.below (Nat.le_refl _) (fun _ _ _=>rfl) (fun _=>undef) (fun _ _=>False) (fun r x hx=>by
    cases r with
    | zero=>simp at hx; subst hx; exact .fr (.hole _)
    | succ r=>simp at hx) (fun r b _ h=>h.elim) (fun r r' b _ _ h=>h.elim)
   subst h0
   rw [h3]
   have hrep:Rep (w.alloc (.cells cells et)) (fun b=>g.I b\/b=w.heap.size) (.sl false d.size (chunks d.size len ys)) (.slice (some ⟨w.heap.size,0,none⟩) (chunks d.size len ys).length len):=by
    have hcell:∀ k,k < cells.size->cells[k]? = some (cells.getD k undef):=fun k hk=>by rw [Array.getElem?_eq_getElem hk]; simp [hk]
    refine .sl (fun k=>cells.getD k undef) (fun _=>.inr rfl) (by rw [k1]; exact Nat.le_refl _) hn63 k2 (fun k hk=>?_) (fun k hk=>?_) (fun q x hx j c hj=>?_)
    ·rw [k1] at hk
     rw [dT,cell_of_row _ _ _ cells et (0,0) (heap_alloc_new w _),Nat.zero_add]
     exact hcell k (by omega)
    ·rw [k1] at hk
     have hk2:k < (ys.map CA.t).length:=by simp; omega
     exact (hcr.2 k _ _ (FF hk2) (by rw [FI]; exact hcell k (by omega))).2
    ·have hf:=cY k2 hx hj
     rw [k3] at hf
     have hk:q * d.size + j < ys.length:=(FE.1 hf).1
     have:=(hcr.2 (q * d.size + j) (.t c) _ (by rw [FK,hf]; rfl) (by rw [FI]; exact hcell _ (by omega))).1.1
     exact this.mv (fun b hb=>hold b (hs.lt b hb)) (fun _ h=>.inl h)
   rw [k1] at hrep
   exact gh hrun ⟨_,s2.put (some dd) (v:=.one (.t (.sl false d.size (chunks d.size len ys)))) ⟨hrep,rfl⟩⟩
  ·exact hh.elim
 ·exact hh.elim
end
end Go.Ab

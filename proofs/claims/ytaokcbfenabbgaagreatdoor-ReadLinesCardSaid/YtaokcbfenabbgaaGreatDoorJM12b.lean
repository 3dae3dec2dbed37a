import Derived.Test.YtaokcbfenabbgaaGreatDoorJM12
set_option linter.all false
namespace Go.Ab
open Go.RowKit
section
variable {P:Program} {E:Env} {C:Cal} {w0:Bs} {w w':World} {I0 I R:Nat->Prop} {g g':Gh} {st st':ASt} {a:Act} {ov:List Value} {look:Look} {Q:Exit->Act->World->Prop} {id:Nat}
variable {dst:Option Tmp} {type:TypeId} {pos:String} {after:Array Edge} {guard:Option (Nat × Bool)}
theorem m9 (id r0:Nat) (x:TV) (agg:Bool):∀ (zs:List Value) (j m:Nat),(dg id r0 zs x agg j)[m]? = (zs[m]?).map fun z=>bif aG z then CA.sref id (r0 + (j + m)) [] else .t (bif agg then x.cell (j + m) else x)
 | [],j,m=>by simp [dg]
 | z :: zs,j,0=>by simp [dg]
 | z :: zs,j,m + 1=>by
  simp only [dg,List.getElem?_cons_succ,m9 id r0 x agg zs (j + 1) m]
  rw [show j + 1 + m=j + (m + 1) by omega]
theorem nk (id r0:Nat) (x:TV) (agg:Bool):∀ (zs:List Value) (j:Nat),(dg id r0 zs x agg j).length=zs.length
 | [],j=>rfl
 | z :: zs,j=>by simp [dg,nk id r0 x agg zs (j + 1)]
theorem jH (x:TV) (agg:Bool):∀ (zs:List Value) (j m:Nat),(cP zs x agg j)[m]? = (zs[m]?).map fun z=>bif aG z then (bif agg then x.cell (j + m) else x) else .hole
 | [],j,m=>by simp [cP]
 | z :: zs,j,0=>by simp [cP]
 | z :: zs,j,m + 1=>by
  simp only [cP,List.getElem?_cons_succ,jH x agg zs (j + 1) m]
  rw [show j + 1 + m=j + (m + 1) by omega]
theorem eD (x:TV) (agg:Bool):∀ (zs:List Value) (j:Nat),(cP zs x agg j).length=zs.length
 | [],j=>rfl
 | z :: zs,j=>by simp [cP,eD x agg zs (j + 1)]
theorem ak.aggs {cs:List TV} {v:Value} {S:Nat->Prop} (h:ak w I (.agg cs) v S):∃ (vs:Array Value) (F:Nat->Nat->Prop),v=.agg vs/\vs.size=cs.length/\(∀ j,j < vs.size->(vs.getD j undef).oneCell'=true) /\
  (∀ (j:Nat) (c:TV),cs[j]? = some c->ak w I c (vs.getD j undef) (F j))/\(∀ j b,F j b->S b)/\∀ k k' b,F k b->F k' b->k=k':=by
 cases h with
 | fr h =>
  cases h with
  | agg hl h1 hr=>exact ⟨_,fun _ _=>False,rfl,hl,h1,fun j c hj=>.fr (hr j c hj),fun _ _ h=>h.elim,fun _ _ _ h=>h.elim⟩
 | agg F hl h1 hr hF hd=>exact ⟨_,F,rfl,hl,h1,hr,hF,hd⟩
theorem ak.tups {cs:List TV} {v:Value} {S:Nat->Prop} (h:ak w I (.tup cs) v S):∃ (vs:Array Value) (F:Nat->Nat->Prop),v=.tuple vs/\vs.size=cs.length /\
  (∀ (j:Nat) (c:TV),cs[j]? = some c->ak w I c (vs.getD j undef) (F j))/\(∀ j b,F j b->S b)/\∀ k k' b,F k b->F k' b->k=k':=by
 cases h with
 | fr h =>
  cases h with
  | tup hl hr=>exact ⟨_,fun _ _=>False,rfl,hl,fun j c hj=>.fr (hr j c hj),fun _ _ h=>h.elim,fun _ _ _ h=>h.elim⟩
 | tup F hl hr hF hd=>exact ⟨_,F,rfl,hl,hr,hF,hd⟩
theorem j4 {T:Type} {t:TypeId} {d:TyD} (ht:aR P t d) {x:TV} {v:Value} {S:Nat->Prop} (hx:ak w I x v S) {k:Prg T} {e:T} (h:(ip d x k).hits C e) :
  k.hits C e/\∃ (us:List Value) (F:Nat->Nat->Prop),us.length=d.zero.length/\(∀ r y,(cP d.zero x d.kd.isAgg 0)[r]? = some y->ak w I y (us.getD r undef) (F r))/\(∀ r b,F r b->S b)/\(∀ r r' b,F r b->F r' b->r=r') /\
   (∀ m z,d.zero[m]? = some z->aG z=true->lI (us.getD m undef)) /\
   ∀ (g':Gh) (look':Look) (id r0:Nat),(∀ m z,d.zero[m]? = some z->aG z=true->bm w g' look' (.sref id (r0 + m) []) (us.getD m undef))->kg w g' look' d.kd.isAgg (dg id r0 d.zero x d.kd.isAgg 0) v:=by
 unfold ip at h
 cases hk:d.kd.isAgg with
 | true =>
  simp only [hk,cond_true] at h
  obtain ⟨h1,h⟩:=h
  refine ⟨h,?_⟩
  simp only [DV] at h1
  obtain ⟨h1,h2⟩:=h1
  cases x with
  | agg cs =>
   simp only [TV.isAgg,ar] at h1
   obtain ⟨vs,F,rfl,hl,hone,hr,hF,hd⟩:=hx.aggs
   have hcell:∀ m z,d.zero[m]? = some z->∃ c,cs[m]? = some c/\(TV.agg cs).cell m=c/\(aG z=true->c.isSl=true)/\(aG z=false->c.isSc=true):=fun m z hz=>by
    obtain ⟨c,c1,c2,c3⟩:=fD h2 m z hz
    simp only [TV.cellsL,Nat.zero_add] at c1
    exact ⟨c,c1,by simp only [TV.cell]; exact bz c1,c2,c3⟩
   have hgd:∀ m,vs.toList.getD m undef=vs.getD m undef:=fun m=>by simp [D8,D7]
   refine ⟨vs.toList,F,by simp [hl,h1,ht.zlen],fun r y hy=>?_,hF,hd,fun m z hz hs=>?_,fun g' look' id r0 hrep=>⟨vs,rfl,by rw [nk]; simp [hl,h1,ht.zlen],fun j c u hc hu=>?_⟩⟩
   ·rw [jH] at hy
    cases hz:d.zero[r]? with
    | none=>simp [hz] at hy
    | some z =>
     obtain ⟨c,c1,c2,c3,c4⟩:=hcell r z hz
     simp only [hz,D6,DU,cond_true,Nat.zero_add] at hy
     rw [hgd]
     cases hs:aG z with
     | true =>
      simp only [hs,cond_true] at hy
      rw [<- hy,c2]
      exact hr r c c1
     | false =>
      simp only [hs,cond_false] at hy
      rw [<- hy]
      exact .fr (.hole _)
   ·obtain ⟨c,c1,c2,c3,c4⟩:=hcell m z hz
    rw [hgd]
    obtain ⟨a,n,cap,e⟩:=eh (hr m c c1) (c3 hs)
    exact ⟨a,n,cap,e⟩
   ·have hju:j < vs.size:=by have:=(DS.1 hu).1; simpa using this
    have hgu:vs.getD j undef=u:=by rw [<- hgd,D7,hu]; rfl
    refine ⟨?_,by rw [<- hgu]; exact hone j hju⟩
    rw [m9] at hc
    cases hz:d.zero[j]? with
    | none=>simp [hz] at hc
    | some z =>
     obtain ⟨c',c1,c2,c3,c4⟩:=hcell j z hz
     simp only [hz,D6,DU,cond_true,Nat.zero_add] at hc
     cases hs:aG z with
     | true =>
      simp only [hs,cond_true] at hc
      rw [<- hc,<- hgu,<- hgd]
      exact hrep j z hz hs
     | false =>
      simp only [hs,cond_false] at hc
      rw [<- hc,c2]
      obtain ⟨e1,e2⟩:=dE (hr j c' c1) (c4 hs)
      rw [e1,hgu]
      rw [hgu] at e2
      exact ⟨.lit _,pH e2⟩
  | _=>simp [TV.isAgg] at h1
 | false =>
  simp only [hk,cond_false] at h
  obtain ⟨h1,h⟩:=h
  refine ⟨h,?_⟩
  have hz1:d.zero.length=1:=by rw [ht.zlen,ht.one hk]
  obtain ⟨z0,hz0⟩:∃ z0,d.zero=[z0]:=by
   cases hd:d.zero with
   | nil=>simp [hd] at hz1
   | cons z l=>simp [hd] at hz1; exact ⟨z,by rw [hz1]⟩
  obtain ⟨c,c1,c2,c3⟩:=fD h1 0 z0 (by rw [hz0]; rfl)
  simp [TV.cellsL] at c1
  subst c1
  have hone:v.oneCell'=true:=by
   cases hs:aG z0 with
   | true=>obtain ⟨a,n,cap,e⟩:=eh hx (c2 hs); rw [e]; rfl
   | false=>exact pH (dE hx (c3 hs)).2
  refine ⟨[v],fun r b=>r=0/\S b,by rw [hz0]; rfl,fun r y hy=>?_,fun r b h=>h.2,fun r r' b h h'=>by rw [h.1,h'.1],fun m z hz hs=>?_,fun g' look' id r0 hrep=>⟨_,by rw [hz0]; rfl,?_,hone⟩⟩
  ·rw [jH,hz0] at hy
   cases r with
   | zero =>
    simp at hy
    cases hs:aG z0 with
    | true=>simp [hs] at hy; subst hy; exact hx.mono (fun b hb=>⟨rfl,hb⟩)
    | false=>simp [hs] at hy; subst hy; exact .fr (.hole _)
   | succ r=>simp at hy
  ·rw [hz0] at hz
   cases m with
   | zero=>simp at hz; subst hz; obtain ⟨a,n,cap,e⟩:=eh hx (c2 hs); exact ⟨a,n,cap,e⟩
   | succ m=>simp at hz
  ·have hr0:=hrep 0 z0 (by rw [hz0]; rfl)
   cases hs:aG z0 with
   | true =>
    simpa using hr0 hs
   | false =>
    obtain ⟨e1,e2⟩:=dE hx (c3 hs)
    simp only [cond_false]
    rw [e1]
    exact ⟨.lit _,hone⟩
theorem jr {T:Type} {x:TV} {vals:Nat->Value} {G:Nat->Nat->Prop} (hG:∀ k k' b,G k b->G k' b->k=k') {k:Prg T} {e:T}:∀ (ds:List TyD) (j:Nat),(∀ d ∈ ds,∃ t,aR P t d)->(∀ m,m < ds.length->ak w I (x.comp (j + m)) (vals (j + m)) (G (j + m)))->(eZ x ds j k).hits C e ->
  k.hits C e/\∃ (us:List Value) (F:Nat->Nat->Prop),us.length=(bc x ds j).length/\(∀ r y,(bc x ds j)[r]? = some y->ak w I y (us.getD r undef) (F r))/\(∀ r b,F r b->∃ m,j<=m/\G m b)/\(∀ r r' b,F r b->F r' b->r=r') /\
   ∀ (g':Gh) (look':Look) (id r0:Nat),(fK ds=true->∃ xs,look' id=some (.tree xs)/\∀ r y,(bc x ds j)[r]? = some y->xs[r0 + r]? = some y/\g'.ρ id (r0 + r)=us.getD r undef) ->
    ∀ m b c,(da id x ds j r0)[m]? = some (b,c)->kg w g' look' b c (vals (j + m))
 | [],j,hd,hr,h=>⟨h,[],fun _ _=>False,rfl,fun r y hy=>by simp [bc] at hy,fun _ _ h=>h.elim,fun _ _ _ h=>h.elim,fun g' look' id r0 _ m b c hc=>by simp [da] at hc⟩
 | d :: ds, j, hd, hr, h => by
  obtain ⟨t,ht⟩:=hd d (by simp)
  have h0:=hr 0 (by simp)
  simp only [Nat.add_zero] at h0
  obtain ⟨h1,us1,F1,a1,a2,a3,a4,a5,a6⟩:=j4 ht h0 h
  obtain ⟨h2,us2,F2,b1,b2,b3,b4,b5⟩:=jr hG ds (j + 1) (fun d' hm=>hd d' (D0 _ hm)) (fun m hm=>by
   have:=hr (m + 1) (by simp; omega)
   rwa [show j + (m + 1)=j + 1 + m by omega] at this) h1
  have hlen:us1.length=(cP d.zero (x.comp j) d.kd.isAgg 0).length:=by rw [eD,a1]
  have getL:∀ r,r < us1.length->(us1 ++ us2).getD r undef=us1.getD r undef:=fun r hr=>by simp [D7,D3 hr]
  have getR:∀ r,us1.length<=r->(us1 ++ us2).getD r undef=us2.getD (r - us1.length) undef:=fun r hr=>by simp [D7,D4 hr]
  refine ⟨h2,us1 ++ us2,fun r b=>if r < us1.length then F1 r b else F2 (r - us1.length) b,by simp [bc,hlen,b1],fun r y hy=>?_,fun r b hb=>?_,fun r r' b hb hb'=>?_,fun g' look' id r0 hroot m bb c hc=>?_⟩
  ·simp only [bc] at hy
   by_cases hlt:r < us1.length
   ·rw [D3 (by omega)] at hy
    rw [getL r hlt]
    simp only [hlt,if_true]
    exact a2 r y hy
   ·rw [D4 (by omega),<- hlen] at hy
    rw [getR r (by omega)]
    simp only [hlt,if_false]
    exact b2 _ y hy
  ·by_cases hlt:r < us1.length
   ·simp only [hlt,if_true] at hb
    exact ⟨j,Nat.le_refl _,a3 r b hb⟩
   ·simp only [hlt,if_false] at hb
    obtain ⟨m,m1,m2⟩:=b3 _ b hb
    exact ⟨m,by omega,m2⟩
  ·by_cases hlt:r < us1.length
   ·simp only [hlt,if_true] at hb
    by_cases hlt':r' < us1.length
    ·simp only [hlt',if_true] at hb'
     exact a4 r r' b hb hb'
    ·simp only [hlt',if_false] at hb'
     obtain ⟨m,m1,m2⟩:=b3 _ b hb'
     have:=hG j m b (a3 r b hb) m2
     omega
   ·simp only [hlt,if_false] at hb
    by_cases hlt':r' < us1.length
    ·simp only [hlt',if_true] at hb'
     obtain ⟨m,m1,m2⟩:=b3 _ b hb
     have:=hG j m b (a3 r' b hb') m2
     omega
    ·simp only [hlt',if_false] at hb'
     have:=b4 _ _ b hb hb'
     omega
  ·cases m with
   | zero =>
    simp only [da,List.getElem?_cons_zero,DU,Prod.mk.injEq] at hc
    obtain ⟨rfl,rfl⟩:=hc
    refine a6 g' look' id r0 (fun q z hz hs=>?_)
    have hsl:fH d.zero=true:=by
     cases hh:fH d.zero with
     | true=>rfl
     | false=>rw [fQ hh q z hz] at hs; cases hs
    obtain ⟨xs,l1,l2⟩:=hroot (by simp [fK,hsl])
    have hql:q < us1.length:=by rw [a1]; exact (DS.1 hz).1
    obtain ⟨y,hy⟩:∃ y,(bc x (d :: ds) j)[q]? = some y:=⟨_,DT (by simp [bc,<- hlen]; omega)⟩
    obtain ⟨l3,l4⟩:=l2 q y hy
    rw [getL q hql] at l4
    exact ⟨xs,y,y.nd,l1,l3,⟨l4.symm,rfl⟩,a5 q z hz hs⟩
   | succ m =>
    simp only [da,List.getElem?_cons_succ] at hc
    have:=b5 g' look' id (r0 + d.zero.length) (fun hany=>by
     obtain ⟨xs,l1,l2⟩:=hroot (by simp only [fK,hany]; cases fH d.zero <;> rfl)
     refine ⟨xs,l1,fun r y hy=>?_⟩
     obtain ⟨l3,l4⟩:=l2 (d.zero.length + r) y (by simp only [bc]; rw [D4 (by rw [eD]; omega),eD]; simpa using hy)
     rw [getR _ (by omega)] at l4
     rw [Nat.add_assoc]
     exact ⟨l3,by rw [l4]; congr 1; omega⟩) m bb c hc
    rwa [show j + 1 + m=j + (m + 1) by omega] at this
theorem l5 (id:Nat) (x:TV):∀ (ds:List TyD) (j r0:Nat),(da id x ds j r0).length=ds.length
 | [],j,r0=>rfl
 | d :: ds,j,r0=>by simp [da,l5 id x ds]
theorem oo {ps:List Prim} {st1:ASt} (hs:aj w0 I0 R g st1 a ov w) (h1:ae dst ps st=some st1) (ho:st1.out.length=st.out.length) {ds:List TyD} (hds:∀ d ∈ ds,∃ t,aR P t d) {v:TV} {u:Value} {S:Nat->Prop}
  (hv:(∀ b,S b->R b)->ak w g.I v u S\/(fK ds=false/\∃ I S,ak w I v u S)) (hSR:∀ b,S b->R b) {e:Eff} (hh:(ui (st.nid dst) ds v ps).hits C e) (ha:e.app st dst=some st'):Sim w0 I0 st' (a.put dst u) ov w:=by
 have hv:=hv hSR
 have new:∀ (xs:List TV) (av:AV) (us:List Value) (F:Nat->Nat->Prop),(ci ps (.tree xs) av).app st dst=some st'->(∀ r y,xs[r]? = some y->ak w g.I y (us.getD r undef) (F r))->(∀ r b,F r b->S b)->(∀ r r' b,F r b->F r' b->r=r') ->
   (∀ g' look',look' (st.nid dst)=some (.tree xs)->(∀ r,g'.ρ (st.nid dst) r=us.getD r undef)->br w g' look' av u)->Sim w0 I0 st' (a.put dst u) ov w:=by
  intro xs av us F ha hr hF hd hav
  obtain ⟨d,rfl,n1,n2,rfl⟩:=kW ha h1 ho
  obtain ⟨s1,s2⟩:=hs.li (xs:=xs) n2 n1 hs.below (Nat.le_refl _) (fun _ _ _=>rfl) (fun r=>us.getD r undef) F hr (fun r b _ hb=>.inl (hSR b (hF r b hb))) (fun r r' b _ _ h h'=>hd r r' b h h')
  refine ⟨_,s1.put (some d) (hav _ _ ?_ (fun r=>by simp [Gh.i7]))⟩
  rw [ah,if_pos ⟨rfl,n2⟩]
 have plain:∀ (av:AV),(match ps with | []=>Eff.val av | _=>.gen ps av).app st dst=some st'->(∀ g' look',br w g' look' av u)->Sim w0 I0 st' (a.put dst u) ov w:=by
  intro av ha hav
  have:st'=st1.put dst av:=by
   cases ps with
   | nil =>
    simp only [ae,DU] at h1
    subst h1
    simp only [Eff.app,DU] at ha
    exact ha.symm
   | cons p l =>
    simp only [Eff.app,h1,DU] at ha
    exact ha.symm
  subst this
  exact ⟨_,(hs.weaken (R':=NoR) (fun _ h=>h.elim)).put dst (hav _ _)⟩
 have single:∀ d:TyD,ds=[d]->Sim w0 I0 st' (a.put dst u) ov w:=by
  intro d e1
  subst e1
  obtain ⟨t,ht⟩:=hds d (by simp)
  simp only [ui] at hh
  rcases hv with hv | ⟨hany,I',S',hv⟩
  ·obtain ⟨hh,us,F,q1,q2,q3,q4,q5,q6⟩:=j4 ht hv hh
   split at hh
   ·rename_i av hav
    cases hsl:fH d.zero with
    | true =>
     simp only [hsl,cond_true] at hh
     cases hh
     refine new _ av us F ha q2 q3 q4 (fun g' look' hl hρ=>bv hav (q6 g' look' _ 0 (fun m z hz hs=>?_)))
     have hlt:m < (cP d.zero v d.kd.isAgg 0).length:=by rw [eD]; exact (DS.1 hz).1
     exact ⟨_,_,_,hl,by rw [Nat.zero_add]; exact DT hlt,⟨by rw [Nat.zero_add,hρ],rfl⟩,q5 m z hz hs⟩
    | false =>
     simp only [hsl,cond_false] at hh
     cases hh
     exact plain av ha (fun g' look'=>bv hav (q6 g' look' _ 0 (fun m z hz hs=>by rw [fQ hsl m z hz] at hs; cases hs)))
   ·exact hh.elim
  ·obtain ⟨hh,us,F,q1,q2,q3,q4,q5,q6⟩:=j4 ht hv hh
   have hsl:fH d.zero=false:=by
    simp only [fK] at hany
    cases hsl:fH d.zero with
    | true=>simp [hsl] at hany
    | false=>rfl
   split at hh
   ·rename_i av hav
    simp only [hsl,cond_false] at hh
    cases hh
    exact plain av ha (fun g' look'=>bv hav (q6 g' look' _ 0 (fun m z hz hs=>by rw [fQ hsl m z hz] at hs; cases hs)))
   ·exact hh.elim
 have many:(Prg.chk (v.isTup ds.length) (eZ v ds 0 (bif fK ds then .ret (ci ps (.tree (bc v ds 0)) (.tups (da (st.nid dst) v ds 0 0)))
   else .ret (match ps with | []=>.val (.tups (da (st.nid dst) v ds 0 0)) | _=>.gen ps (.tups (da (st.nid dst) v ds 0 0)))))).hits C e->Sim w0 I0 st' (a.put dst u) ov w:=by
  rintro ⟨htup,hh⟩
  cases v with
  | tup cs =>
   simp only [TV.isTup,ar] at htup
   have parts:∀ (I' S':Nat->Prop),ak w I' (.tup cs) u S'->∃ (vs:Array Value) (G:Nat->Nat->Prop),u=.tuple vs/\vs.size=ds.length/\(∀ m,m < ds.length->ak w I' ((TV.tup cs).comp (0 + m)) (vs.getD (0 + m) undef) (G (0 + m)))/\(∀ m b,G m b->S' b)/\(∀ k k' b,G k b->G k' b->k=k'):=by
    intro I' S' hv
    obtain ⟨vs,G,e1,e2,e3,e4,e5⟩:=hv.tups
    refine ⟨vs,G,e1,by rw [e2,htup],fun m hm=>?_,e4,e5⟩
    have hm':m < cs.length:=by omega
    rw [Nat.zero_add]
    have:(TV.tup cs).comp m=cs[m]:=by simp only [TV.comp]; exact bz (DT hm')
    rw [this]
    exact e3 m _ (DT hm')
   rcases hv with hv | ⟨hany,I',S',hv⟩
   ·obtain ⟨vs,G,rfl,p1,p2,p3,p4⟩:=parts _ _ hv
    obtain ⟨hh,us,F,q1,q2,q3,q4,q5⟩:=jr (vals:=fun m=>vs.getD m undef) (G:=G) p4 ds 0 hds p2 hh
    have tup:∀ g' look' ,(fK ds=true->∃ xs,look' (st.nid dst)=some (.tree xs)/\∀ r y,(bc (.tup cs) ds 0)[r]? = some y->xs[0 + r]? = some y/\g'.ρ (st.nid dst) (0 + r)=us.getD r undef)->br w g' look' (.tups (da (st.nid dst) (.tup cs) ds 0 0)) (.tuple vs):=by
     intro g' look' hroot
     refine ⟨vs,rfl,by rw [l5,p1],fun j b c hj=>?_⟩
     have:=q5 g' look' _ 0 hroot j b c hj
     rwa [Nat.zero_add] at this
    cases hany:fK ds with
    | true =>
     simp only [hany,cond_true] at hh
     cases hh
     refine new _ _ us F ha q2 (fun r b hb=>by obtain ⟨m,_,hm⟩:=q3 r b hb; exact p3 m b hm) q4 (fun g' look' hl hρ=>tup g' look' (fun _=>⟨_,hl,fun r y hy=>?_⟩))
     rw [Nat.zero_add]
     exact ⟨hy,hρ r⟩
    | false =>
     simp only [hany,cond_false] at hh
     cases hh
     exact plain _ ha (fun g' look'=>tup g' look' (fun h=>by rw [hany] at h; cases h))
   ·obtain ⟨vs,G,rfl,p1,p2,p3,p4⟩:=parts _ _ hv
    obtain ⟨hh,us,F,q1,q2,q3,q4,q5⟩:=jr (vals:=fun m=>vs.getD m undef) (G:=G) p4 ds 0 hds p2 hh
    simp only [hany,cond_false] at hh
    cases hh
    refine plain _ ha (fun g' look'=>⟨vs,rfl,by rw [l5,p1],fun j b c hj=>?_⟩)
    have:=q5 g' look' _ 0 (fun h=>by rw [hany] at h; cases h) j b c hj
    rwa [Nat.zero_add] at this
  | _=>simp [TV.isTup] at htup
 match ds,hh,single,many with
 | [],hh,_,many=>exact many hh
 | [d],hh,single,_=>exact single d rfl
 | d :: d' :: l,hh,_,many=>exact many hh
theorem sk (hE:∀ t d,E.T t=some d->aR P t d):∀ {ts:List TypeId} {ds:List TyD},lz E.T ts=some ds->∀ d ∈ ds,∃ t,aR P t d
 | [],ds,h=>by simp [lz] at h; subst h; simp
 | t :: ts, ds, h => by
  simp only [lz] at h
  split at h
  ·rename_i d ds' h1 h2
   cases h
   intro d' hm
   rcases List.mem_cons.1 hm with hm | hm
   ·subst hm; exact ⟨t,hE _ _ h1⟩
   ·exact sk hE h2 d' hm
  ·cases h
def Ad (P:Program) (G:Laid) (E:Env) (f:FuncId) (xs:List TV) (r:TV):Prop:=(E.peek f=none->(E.lent f=none->eM P G f xs r/\(E.pure f=true->aD r=true))/\∀ ld,E.lent f=some ld->na P G ld f xs r)/\∀ c,E.peek f=some c->DJ P G c f xs r
def wt (P:Program) (G:Laid) (E:Env) (C:Cal):Prop:=∀ f xs r,C f xs r->(E.turn f=true->yG P G f xs r)/\(E.turn f=false->(E.eye f=true->xZ P G f xs r)/\(E.eye f=false->Ad P G E f xs r))
theorem qN:∀ (l:List CA) (j:Nat),(unMays l)[j]? = (l[j]?).map CA.DQ
 | [],j=>by simp [unMays]
 | c :: l,0=>rfl
 | c :: l,j + 1=>by simp [unMays,qN l j]
theorem qf (l:List CA):(unMays l).length=l.length:=by
 induction l with
 | nil=>rfl
 | cons c l ih=>simp [unMays,ih]
theorem tK (l:List CA):(junks l).length=l.length:=by
 induction l with
 | nil=>rfl
 | cons c l ih=>simp [junks,ih]
theorem k7:∀ (l:List CA),∀ c ∈ junks l,c=.junk
 | []=>by simp [junks]
 | c :: l=>by simp only [junks,List.mem_cons]; rintro c (rfl | h); rfl; exact k7 l c h
theorem CR.unMays {cs:List CA} {vs:List Value} (h:CR w g look cs vs):CR w g look (Ab.unMays cs) vs:=by
 refine ⟨by rw [qf]; exact h.1,fun j c u hc hu=>?_⟩
 rw [qN] at hc
 cases hj:cs[j]? with
 | none=>simp [hj] at hc
 | some c' =>
  simp only [hj,D6,DU] at hc
  subst hc
  obtain ⟨h1,h2⟩:=h.2 j c' u hj hu
  refine ⟨?_,h2⟩
  cases c' with
  | may i ty=>exact ⟨.hole _,h2⟩
  | _=>exact h1
def mE (f:Fl) (x:TV):Prop:=match f with | .sc=>x.isSc=true | .sl=>x.isSl=true | .may=>x.bq=true | .bf e=>x.jZ e=true | .any=>x.iz=true
theorem vK {x:TV} {e:Nat} (h:x.jZ e=true):∃ s,x=.buf s e:=by
 cases x with
 | buf s e'=>exact ⟨s,by rw [(ar _ _).1 h]⟩
 | _=>simp [TV.jZ] at h
theorem qF {w:World} {I:Nat->Prop} {x:TV} {e:Nat} {v:Value} {S:Nat->Prop} (h:ak w I x v S) (hx:x.jZ e=true):lI v:=by
 obtain ⟨s,rfl⟩:=vK hx
 cases h with
 | fr h=>cases h; exact ⟨_,_,_,rfl⟩
 | buf h _ =>
  rcases h.2 with ⟨rfl,_⟩ | ⟨g,cap,cur,fz,rfl,_⟩
  ·exact ⟨_,_,_,rfl⟩
  ·exact ⟨_,_,_,rfl⟩
theorem jP:∀ {fl:List Fl} {xs:List TV},mI fl xs=true->fl.length=xs.length/\∀ (k:Nat) (f:Fl) (x:TV),fl[k]? = some f->xs[k]? = some x->mE f x
 | [],[],_=>⟨rfl,fun k f x hf=>by simp at hf⟩
 | [],_ :: _,h=>by simp [mI] at h
 | _ :: _,[],h=>by simp [mI] at h
 | f :: fl,x :: xs,h=>by
  simp only [mI,DV] at h
  obtain ⟨h1,h2⟩:=jP h.2
  refine ⟨by simp [h1],fun k f' x' hf hx=>?_⟩
  cases k with
  | zero=>simp at hf hx; subst hf hx; cases f <;> exact h.1
  | succ k=>simp at hf hx; exact h2 k f' x' hf hx
theorem o5 {i:Nat} {ty:TypeId}:∀ {fl:List Fl} {cs:List CA},ma i ty fl cs=true->fl.length=cs.length/\∀ (k:Nat) (c:CA),cs[k]? = some c->fl[k]? = some .may->c=.may i ty
 | [],[],_=>⟨rfl,fun k c hc=>by simp at hc⟩
 | [],_ :: _,h=>by simp [ma] at h
 | _ :: _,[],h=>by simp [ma] at h
 | f :: fl, c :: cs, h => by
  simp only [ma,DV] at h
  obtain ⟨h1,h2⟩:=o5 h.2
  refine ⟨by simp [h1],fun k c' hc hf=>?_⟩
  cases k with
  | zero =>
   simp at hf hc
   subst hf hc
   have h0:=h.1
   cases c with
   | may j t =>
    simp only [DV,ar] at h0
    rw [h0.1,h0.2]
   | _=>simp at h0
  | succ k=>simp at hf hc; exact h2 k c' hc hf
theorem rT:∀ (fl:List Fl) (xs:List TV),fl.length=xs.length->∀ (k:Nat) (c:TV),(iy fl xs)[k]? = some c->(fl[k]? = some .may/\c=lS)\/(∃ f,fl[k]? = some f/\f≠.may/\xs[k]? = some c) \/
  (∃ e x,fl[k]? = some (.bf e)/\c=.buf .empty e/\xs[k]? = some x/\jA x=true)
 | [],[],_,k,c,h=>by simp [iy] at h
 | [],_ :: _,h,_,_,_=>by simp at h
 | _ :: _,[],h,_,_,_=>by simp at h
 | f :: fl, x :: xs, hl, 0, c, h => by
  cases f with
  | bf e =>
   cases hn:jA x <;> simp [iy,pj,hn] at h <;> subst h <;> simp [hn]
  | _=>simp [iy] at h <;> subst h <;> simp
 | f :: fl,x :: xs,hl,k + 1,c,h=>by
  simp only [iy,List.getElem?_cons_succ] at h
  simpa using rT fl xs (by simpa using hl) k c h
theorem lP:∀ (fl:List Fl) (xs:List TV),fl.length=xs.length->(iy fl xs).length=xs.length
 | [],[],_=>rfl
 | [],_ :: _,h=>by simp at h
 | _ :: _,[],h=>by simp at h
 | f :: fl,x :: xs,hl=>by simp [iy,lP fl xs (by simpa using hl)]
theorem vF {f:Fl} {x:TV} (h:mE f x) (hf:f≠.may):x.bq=false:=by
 cases f with
 | may=>exact absurd rfl hf
 | sc=>cases x <;> simp [mE,TV.isSc,TV.bq] at h ⊢
 | sl=>cases x <;> simp [mE,TV.isSl,TV.bq] at h ⊢
 | bf e=>obtain ⟨s,rfl⟩:=vK h; rfl
 | any=>cases x <;> simp [mE,TV.iz,TV.bq] at h ⊢
theorem o7 (v:TV):∀ (n j k:Nat),(eY v n j)[k]? = if k < n then some (v.comp (j + k)) else none
 | 0,j,k=>by simp [eY]
 | n + 1,j,0=>by simp [eY]
 | n + 1,j,k + 1=>by
  simp only [eY,List.getElem?_cons_succ,o7 v n (j + 1) k]
  by_cases h:k < n
  ·rw [if_pos h,if_pos (by omega),show j + 1 + k=j + (k + 1) by omega]
  ·rw [if_neg h,if_neg (by omega)]
theorem zO (cs:List TV):eY (.tup cs) cs.length 0=cs:=by
 apply List.ext_getElem?
 intro k
 rw [o7]
 by_cases h:k < cs.length
 ·rw [if_pos h,Nat.zero_add]
  simp [TV.comp,aV,DT h]
 ·rw [if_neg h,D5 (by omega)]
theorem qK:∀ {l l':List (Nat × Nat)},cu (l ++ l')=true->cu l=true/\cu l'=true/\∀ i r,(i,r) ∈ l'->fI i r l=false
 | [],l',h=>⟨rfl,h,fun i r _=>rfl⟩
 | (i,r) :: l,l',h=>by
  simp only [List.cons_append,cu,DV,Bool.not_eq_true'] at h
  obtain ⟨h1,h2,h3⟩:=qK h.2
  have hn:=h.1
  rw [bC] at hn
  refine ⟨by simp only [cu,DV,Bool.not_eq_true']; exact ⟨by rw [bC]; exact fun hm=>hn (List.mem_append_left _ hm),h1⟩,h2,fun i' r' hm=>?_⟩
  rw [bC]
  intro h4
  rcases List.mem_cons.1 h4 with h4 | h4
  ·cases h4; exact hn (List.mem_append_right _ hm)
  ·have:=h3 i' r' hm; rw [bC] at this; exact this h4
theorem rS {T T':Type} {d:TyD} {x:TV} {k:Prg T} {e:T} (h:(ip d x k).hits C e):k.hits C e/\∀ (k':Prg T') (e':T'),k'.hits C e'->(ip d x k').hits C e':=by
 unfold ip at h ⊢
 cases hd:d.kd.isAgg with
 | true =>
  rw [hd] at h
  obtain ⟨h1,h2⟩:=h
  exact ⟨h2,fun k' e' h'=>⟨h1,h'⟩⟩
 | false =>
  rw [hd] at h
  obtain ⟨h1,h2⟩:=h
  exact ⟨h2,fun k' e' h'=>⟨h1,h'⟩⟩
theorem oN {T T':Type} {x:TV} {k:Prg T} {e:T}:∀ {ds:List TyD} {j:Nat},(eZ x ds j k).hits C e->k.hits C e/\∀ (k':Prg T') (e':T'),k'.hits C e'->(eZ x ds j k').hits C e'
 | [],j,h=>⟨h,fun k' e' h'=>h'⟩
 | d :: l,j,h=>by
  obtain ⟨h1,h2⟩:=rS (T':=T') h
  obtain ⟨h3,h4⟩:=oN (T':=T') h1
  exact ⟨h3,fun k' e' h'=>h2 _ _ (h4 k' e' h')⟩
theorem zi {id:Nat} {ds:List TyD} {v:TV} {k:AV->Out} {e:Eff} (hsl:fK ds=false) (h:(A1 id ds v k).hits C e):∃ av,(ui id ds v []).hits C (.val av)/\(k av).hits C e:=by
 unfold A1 at h
 split at h
 ·rename_i d
  have hd:fH d.zero=false:=by simpa [fK] using hsl
  obtain ⟨h1,h2⟩:=rS (T':=Eff) h
  split at h1
  ·rename_i av hav
   refine ⟨av,?_,h1⟩
   unfold ui
   refine h2 _ _ ?_
   rw [hav]
   simp only [hd,cond_false]
   rfl
  ·exact h1.elim
 ·rename_i hne
  obtain ⟨h1,h2⟩:=h
  obtain ⟨h3,h4⟩:=oN (T':=Eff) h2
  refine ⟨_,?_,h3⟩
  unfold ui
  split
  ·rename_i d; exact absurd rfl (hne d)
  ·refine ⟨h1,h4 _ _ ?_⟩
   simp only [hsl,cond_false]
   rfl
def Fl.rooted:Fl->Bool
 | .sl=>true
 | .bf _=>true
 | _=>false
theorem lL:∀ (fl:List Fl) (xs:List TV),fl.length=xs.length->∀ (k:Nat) (y:TV),(cp fl xs)[k]? = some y->y=.hole\/(∃ f,fl[k]? = some f/\f.rooted=true/\xs[k]? = some y)
 | [],[],_,k,c,h=>by simp [cp] at h
 | [],_ :: _,h,_,_,_=>by simp at h
 | _ :: _,[],h,_,_,_=>by simp at h
 | f :: fl,x :: xs,hl,0,c,h=>by
  cases f <;> simp [cp] at h <;> subst h <;> simp [Fl.rooted]
 | f :: fl,x :: xs,hl,k + 1,c,h=>by
  simp only [cp,List.getElem?_cons_succ] at h
  simpa using lL fl xs (by simpa using hl) k c h
theorem iR:∀ (fl:List Fl) (xs:List TV) (k:Nat) (c:TV) (f:Fl),f.rooted=true->fl[k]? = some f->xs[k]? = some c->(cp fl xs)[k]? = some c
 | [],_,k,c,_,_,h,_=>by simp at h
 | _ :: _,[],k,c,_,_,_,h=>by simp at h
 | f :: fl,x :: xs,0,c,f',hf,h,h'=>by simp at h h'; subst h h'; cases f <;> simp [Fl.rooted] at hf <;> rfl
 | f :: fl,x :: xs,k + 1,c,f',hf,h,h'=>by
  simp only [cp,List.getElem?_cons_succ] at h h' ⊢
  exact iR fl xs k c f' hf h h'
theorem jG {f:Fl} {x:TV} (hf:f.rooted=true) (h:mE f x):x.bq=false:=vF h (fun e=>by rw [e] at hf; cases hf)
theorem qk:∀ (fl:List Fl) (xs:List TV),fl.length=xs.length->(cp fl xs).length=xs.length
 | [],[],_=>rfl
 | [],_ :: _,h=>by simp at h
 | _ :: _,[],h=>by simp at h
 | f :: fl,x :: xs,hl=>by simp [cp,qk fl xs (by simpa using hl)]
def DN (i t:Nat) (ty:TypeId) (f:Fl) (x:TV) (r:Nat):CA:=match f with | .sc=>.t x | .sl=>.sref t r [] | .may=>.may i ty | .bf _=>.sref t r [] | .any=>.t x
theorem rN (i t:Nat) (ty:TypeId):∀ (fl:List Fl) (xs:List TV),fl.length=xs.length->∀ (r k:Nat) (d:CA),(eT i t ty fl xs r)[k]? = some d->∃ f c,fl[k]? = some f/\xs[k]? = some c/\d=DN i t ty f c (r + k)
 | [],[],_,r,k,d,h=>by simp [eT] at h
 | [],_ :: _,h,_,_,_,_=>by simp at h
 | _ :: _,[],h,_,_,_,_=>by simp at h
 | f :: fl,x :: xs,hl,r,0,d,h=>by
  simp [eT] at h
  subst h
  exact ⟨f,x,rfl,rfl,by cases f <;> rfl⟩
 | f :: fl,x :: xs,hl,r,k + 1,d,h=>by
  simp only [eT,List.getElem?_cons_succ] at h ⊢
  obtain ⟨f',c,h1,h2,h3⟩:=rN i t ty fl xs (by simpa using hl) (r + 1) k d h
  exact ⟨f',c,h1,h2,by rw [h3,show r + 1 + k=r + (k + 1) by omega]⟩
theorem rj (i t:Nat) (ty:TypeId):∀ (fl:List Fl) (xs:List TV),fl.length=xs.length->∀ r,(eT i t ty fl xs r).length=xs.length
 | [],[],_,r=>rfl
 | [],_ :: _,h,_=>by simp at h
 | _ :: _,[],h,_=>by simp at h
 | f :: fl,x :: xs,hl,r=>by simp [eT,rj i t ty fl xs (by simpa using hl)]
theorem qr {i t:Nat} {ty:TypeId} {fl:List Fl} {xs:List TV} {vs:List Value} (hv:vs.length=xs.length) (hl:fl.length=xs.length) (hok:∀ (k:Nat) (f:Fl) (x:TV),fl[k]? = some f->xs[k]? = some x->mE f x)
  (h:∀ (k:Nat) (f:Fl) (c:TV),fl[k]? = some f->xs[k]? = some c->mE f c->∃ v,vs[k]? = some v/\v.oneCell'=true/\bm w g look (DN i t ty f c k) v):CR w g look (eT i t ty fl xs 0) vs:=by
 refine ⟨by rw [rj _ _ _ _ _ hl]; exact hv,fun k d u hd hu=>?_⟩
 obtain ⟨f,c,h1,h2,h3⟩:=rN i t ty fl xs hl 0 k d hd
 obtain ⟨v,h4,h5,h6⟩:=h k f c h1 h2 (hok k f c h1 h2)
 rw [hu] at h4
 cases h4
 rw [Nat.zero_add] at h3
 rw [h3]
 exact ⟨h6,h5⟩
theorem wi {f : FuncId} (hN : ∀ xs r, C f xs r → Ad P w0.G E f xs r) (hE : ∀ t d, E.T t = some d → aR P t d) (hlk : ∀ i b, look i = some b → st.look i = some b) (hs : aj w0 I0 NoR g st a ov w)  {ld : dn} (hpk : E.peek f = none) (hld : E.lent f = some ld) {args : Array Operand} {tys : Array TypeId} {cal : Operand} {e : Eff}
  (hres:∀ vals:Array Value,vals=args.map a.eval->(callFunc f vals).run P w=.ok (.enter f vals) w->(execOp a.eval ⟨dst,.call ⟨.value cal,args,tys⟩,type,pos,after,guard⟩).run P w=.ok (.enter f vals) w)
  (hh:(nA E (st.nid dst) look f ld (args.toList.map st.ev)).hits C e) (ha:e.app st dst=some st'):Good P w0 I0 ov ⟨dst,.call ⟨.value cal,args,tys⟩,type,pos,after,guard⟩ st' a w Q:=by
 have hgd:∀ m,(args.toList.map a.eval).getD m undef=(args.map a.eval).getD m undef:=fun m=>by simp [D8,D7]
 unfold nA at hh
 split at hh
 ·rename_i i rest hargs
  obtain ⟨x0,xs0,hal,hx0,hrest⟩:∃ x0 xs0,args.toList=x0 :: xs0/\st.ev x0=.one (.ptr i 0)/\xs0.map st.ev=rest:=by
   cases hal:args.toList with
   | nil=>rw [hal] at hargs; simp at hargs
   | cons x0 xs0=>rw [hal] at hargs; simp only [List.map_cons,List.cons.injEq] at hargs; exact ⟨x0,xs0,rfl,hargs.1,hargs.2⟩
  split at hh
  ·rename_i cs ds hl hds
   cases hchk0:fK ds || !ma i ld.ty ld.fl cs with
   | true=>rw [hchk0] at hh; exact hh.elim
   | false =>
    rw [hchk0] at hh
    simp only [cond_false] at hh
    simp only [Bool.or_eq_false_iff,Bool.not_eq_false'] at hchk0
    obtain ⟨hnsl,hmf⟩:=hchk0
    subst hrest
    obtain ⟨xs,rs,hh,hroots,hlen,hrep⟩:=lJ hlk hs (hs.evs xs0) hh
    have hl2:=hlk i _ hl
    obtain ⟨vs,ty,hheap,hcr⟩:=hs.cells i cs hl2
    obtain ⟨gd,hh,hgl,hgdk⟩:=il hlk hs hcr.unMays hh
    rw [qf] at hgl
    cases hchk1:cu (gd.flatMap Gd.ts ++ rs) with
    | false=>rw [hchk1] at hh; exact hh.elim
    | true =>
     rw [hchk1] at hh
     simp only [cond_true] at hh
     have hnd:=hchk1
     obtain ⟨hfit,hh⟩:=hh
     obtain ⟨hnd1,hnd2,hnd3⟩:=qK hnd
     obtain ⟨r,hc,hchk2,hh⟩:=hh
     obtain ⟨av,hans,hh⟩:=zi hnsl hh
     cases hh
     obtain ⟨mfl,mfs⟩:=o5 hmf
     have hfl:ld.fl.length=(gd.map Gd.y).length:=by rw [mfl]; simp [hgl]
     obtain ⟨ffl,ffs⟩:=jP hfit
     obtain ⟨st2,g2,R2,F,p1,p2,p3,p4,p5,p6,p7,p8⟩:=cJ (dst:=dst) gd hs (by rw [hcr.1,hgl]) hgdk hnd1
     have hroots2:Roots st2.look rs:=fun k q hm=>by
      obtain ⟨ys,y,r1,r2⟩:=hroots k q hm
      obtain ⟨ys1,r3,r4,_⟩:=p4.root k q ys y (hnd3 k q hm) r1 r2
      exact ⟨ys1,y,r3,r4⟩
     obtain ⟨st3,g3,q1,q2,q3,q4,q5⟩:=ja (dst:=dst) rs p2 hroots2 hnd2
     obtain ⟨cs1,c1,c2,c3⟩:=p4.cells i cs hl2
     obtain ⟨c4,c5⟩:=q5 i cs1 c1
     have hβ:g3.β i=g.β i:=c5.trans c3
     have hI3:∀ b,g.I b->g3.I b:=fun b hb=>q3.1 b (by rw [p3]; exact hb)
     have hH:fT g rs g3.I:=⟨hI3,fun k q hm b hb=>by
      obtain ⟨ys,y,r1,r2⟩:=hroots k q hm
      obtain ⟨_,_,_,_,r3⟩:=p4.root k q ys y (hnd3 k q hm) r1 r2
      exact q3.2 k q hm b (by rw [r3]; exact hb)⟩
     have hfi3:Foot g3 st3.look i (g.β i):=.inl ⟨cs1,c4,hβ.symm⟩
     have hheap3:w.heap[g3.β i]? = some (.cells vs ty (0,0)):=by rw [hβ]; exact hheap
     have hvl:vs.size=cs.length:=by simpa using hcr.1
     have hone:∀ u ∈ vs.toList,u.oneCell'=true:=fun u hu=>by
      obtain ⟨m,hm,rfl⟩:=List.mem_iff_getElem.1 hu
      exact (hcr.2 m (cs[m]'(by have:=hcr.1; omega)) _ (DT _) (DT hm)).2
     have j1:=q2.dN c4 (cs':=junks cs) (vs':=vs) (ty:=ty) q2.below (Nat.le_refl _) (fun _ _=>rfl) hheap3 ⟨_,_,hheap3⟩ ⟨by rw [tK]; exact hcr.1,fun j c u hc' hu=>by
      have:=k7 cs c (D1 hc')
      subst this
      exact ⟨trivial,hone u (D1 hu)⟩⟩
     have hlk4:(st3.ac i (some (.cells (junks cs)))).look i=some (.cells (junks cs)):=by rw [ah,if_pos ⟨rfl,ep c4⟩]
     obtain ⟨ys,args',r0,cs',e1,e2,hcv⟩:=((hN _ r hc).1 hpk).2 ld hld
     simp only [List.cons.injEq,TV.tup.injEq] at e1
     obtain ⟨e1,e3⟩:=e1
     subst e1 e3 e2
     simp only [DV] at hchk2
     obtain ⟨⟨_,hcl⟩,hfit2⟩:=hchk2
     have hcl:cs'.length=ld.fl.length:=by simpa [TV.isTup,TV.comp,nth] using hcl
     have hcomp:eY ((TV.tup [r0,.tup cs']).comp 1) ld.fl.length 0=cs':=by
      rw [<- hcl]
      exact zO cs'
     rw [hcomp] at hfit2 ha
     obtain ⟨ffl2,ffs2⟩:=jP hfit2
     have hty:∀ k,ld.fl[k]? = some Fl.may->ty=ld.ty/\(vs.getD k undef=.pointer none\/vs.getD k undef=.pointer (some ⟨g.β i,0,none⟩)):=fun k hk=>by
      have hkl:k < cs.length:=by rw [<- mfl]; exact (DS.1 hk).1
      have hck:cs[k]? = some (cs[k]'hkl):=DT hkl
      have he:=mfs k _ hck hk
      have hvk:vs.toList[k]? = some (vs.getD k undef):=by
       rw [DW,Array.getElem?_eq_getElem (by omega)]; simp [hvl,hkl]
      have:=(hcr.2 k _ _ hck hvk).1
      rw [he] at this
      obtain ⟨_,_,⟨us,fr,ht⟩,hv⟩:=this
      rw [hheap] at ht
      cases ht
      exact ⟨rfl,hv⟩
     have hFi:∀ k b,F k b->b≠g.β i:=fun k b hb e=>(q2.foot i _ hfi3).2.2.2 (by rw [<- e]; exact (p7 k b hb).1)
     have hvals:(args.map a.eval).size=xs.length + 1:=by
      have:args.size=args.toList.length:=by simp
      rw [Array.size_map,this,hal]
      simp [hlen]
     obtain ⟨hcf,hcalls⟩:=hcv g3.I w (g.β i) (args.map a.eval) (fun b=>b=g.β i\/∃ k,F k b) (q2.laid (fun _ h=>h)) q2.lt (fun b hb=>by
       rcases hb with rfl | ⟨k,hb⟩
       ·exact ⟨(q2.foot i _ hfi3).2.1,(q2.foot i _ hfi3).2.2.1⟩
       ·exact ⟨(q2.res b (p7 k b hb).1).2.1,(q2.res b (p7 k b hb).1).2.2⟩)
      ⟨.inl rfl, vs, ty, F, hheap, by rw [lP _ _ hfl, hvl]; simp [hgl], fun k c hk => by
       have hkl:k < cs.length:=by
        have:=(DS.1 hk).1
        rw [lP _ _ hfl] at this
        simpa [hgl] using this
       have hvk:vs.toList[k]? = some (vs.getD k undef):=by
        rw [DW,Array.getElem?_eq_getElem (by omega)]; simp [hvl,hkl]
       have hok:(vs.getD k undef).oneCell'=true:=hone _ (D1 hvk)
       rcases rT _ _ hfl k c hk with ⟨h1,rfl⟩ | ⟨f',h1,h2,h3⟩ | ⟨e',x',h1,rfl,h3,h4⟩
       ·exact ⟨.inl ⟨rfl,(hty k h1).2⟩,hok,fun _=>(hty k h1).1⟩
       ·have hm:=vF (ffs k f' c h1 hk) h2
        rw [DY] at h3
        cases hgk:gd[k]? with
        | none=>simp [hgk] at h3
        | some d =>
         simp only [hgk,D6,DU] at h3
         subst h3
         refine ⟨.inr ⟨hm,(p6 k d _ hgk hvk).1.mv (fun _ _=>rfl) hI3 (fun _ _=>rfl) (fun _ h=>h)⟩,hok,fun h=>by rw [hm] at h; cases h⟩
       ·rw [DY] at h3
        cases hgk:gd[k]? with
        | none=>simp [hgk] at h3
        | some d =>
         simp only [hgk,D6,DU] at h3
         subst h3
         have hv:=vx h4 (p6 k d _ hgk hvk).1
         rw [hv]
         exact ⟨.inr ⟨rfl,.fr (.buf e' rfl)⟩,rfl,fun h=>by cases h⟩,
       fun k b hb=>⟨.inr ⟨k,hb⟩,hFi k b hb⟩,p8⟩
      (by rw [hvals]; simp) (by
       have:(args.map a.eval).getD 0 undef=a.eval x0:=by rw [<- hgd,hal]; rfl
       rw [this]
       have hr0:=hs.ev x0
       rw [hx0] at hr0
       obtain ⟨_,_,hv⟩:=hr0
       exact hv)
      (fun j x hx => by
       rw [<- hgd,hal]
       exact hrep g3.I hH j x hx)
     unfold Good Oper.wp
     rw [hres _ rfl hcf]
     simp only [Oper.upon]
     refine hcalls.mono ?_
     rintro e w' ⟨v,rfl,hbel,I',L',S,i1,i2,i3,i4,hr0,hrv⟩
     obtain ⟨hLb,vs',ty',F',h1',h2',h3',h4',h5'⟩:=hrv
     have hone':∀ u ∈ vs'.toList,u.oneCell'=true:=fun u hu=>by
      obtain ⟨m,hm,rfl⟩:=List.mem_iff_getElem.1 hu
      have hm':m < vs'.size:=by simpa using hm
      have:=(h3' m (cs'[m]'(by omega)) (DT _)).2.1
      simpa [hm'] using this
     have gb:=j1.DA (R':=fun b=>∃ k,F' k b) (I':=I') (L:=fun b=>b=g.β i\/∃ k,F k b) (vs:=vs') (ty:=ty') hlk4 (k7 cs) (fun b hb=>by
       rcases hb with rfl | ⟨k,hb⟩
       ·exact .inl hβ.symm
       ·exact .inr (p7 k b hb).1) hbel (by rw [hβ]; exact h1') (by rw [tK,h2',hcl,mfl]) hone' i1 i2 i3 (by rw [hβ]; exact (i4 _ hLb).2.2) (fun b hb=>by
        obtain ⟨k,hb⟩:=hb
        obtain ⟨f1,f2⟩:=h4' k b hb
        obtain ⟨f3,f4,f5⟩:=i4 b f1
        refine ⟨?_,f4,f5,by rw [hβ]; exact f2⟩
        rcases f3 with f3 | f3 | ⟨k',f3⟩
        ·exact .inr f3
        ·exact absurd f3 f2
        ·exact .inl (p7 k' b f3).1)
     have ho3:st3.out.length=st.out.length:=q4.trans p4.out
     obtain ⟨s4,hs4⟩:∃ s4,s4=(st3.ac i (some (.cells (junks cs)))).aq (CA.unM i):=⟨_,rfl⟩
     rw [<- hs4] at gb
     have hlk4':s4.look i=some (.cells (junks cs)):=by
      rw [hs4,aF,hlk4]
      simp only [D6,BC.be,iv (k7 cs)]
     simp only [Eff.app,bT,p1,Option.bind_some,q1] at ha
     simp only [ae,Prim.app,c4] at ha
     rw [<- hs4] at ha
     cases dst with
     | none=>simp at ha
     | some d =>
      simp only [] at ha
      have hnid:s4.nid (some d)=st.nid (some d):=by
       have:s4.out.length=st.out.length:=by
        rw [hs4]
        simp only [ASt.aq,aZ]
        exact ho3
       simp only [ASt.nid,this]
      rw [hnid] at ha
      cases hab:s4.bi (st.nid (some d)) (.tree (cp ld.fl cs')) with
      | none=>simp [hab] at ha
      | some s5 =>
       obtain ⟨n1,n2,n3⟩:=bd hab
       subst n3
       rw [hab] at ha
       have hne:st.nid (some d)≠i:=fun e=>by rw [e,hlk4'] at n1; cases n1
       have hlk5:(s4.ac (st.nid (some d)) (some (.tree (cp ld.fl cs')))).look i=some (.cells (junks cs)):=by
        rw [ah,if_neg (fun h=>hne h.1)]; exact hlk4'
       simp only [hlk5,DU] at ha
       obtain ⟨t1,t2⟩:=gb.li (xs:=cp ld.fl cs') n2 n1 gb.below (Nat.le_refl _) (fun _ _ _=>rfl) (fun k=>vs'.getD k undef) F' (fun k y hy=>by
         rcases lL _ _ ffl2 k y hy with rfl | ⟨f6,h6,h6',h7⟩
         ·exact .fr (.hole _)
         ·rcases (h3' k y h7).1 with ⟨h8,_⟩ | ⟨_,h8⟩
          ·rw [jG h6' (ffs2 k f6 y h6 h7)] at h8
           cases h8
          ·exact h8) (fun k b _ hb=>.inl ⟨k,hb⟩) (fun k k' b _ _ h h'=>h5' k k' b h h')
       have t3:=t1.dN hlk5 (cs':=eT i (st.nid (some d)) ld.ty ld.fl cs' 0) (vs':=vs') (ty:=ty') t1.below (Nat.le_refl _) (fun _ _=>rfl) (by
         show w'.heap[g3.β i]? = _
         rw [hβ]; exact h1') ⟨vs',(0,0),by
         show w'.heap[g3.β i]? = _
         rw [hβ]; exact h1'⟩ (qr (by simp [h2']) ffl2 ffs2 (fun k f' c hk hc hf=>?_))
       ·subst ha
        have hsn:(((s4.ac (st.nid (some d)) (some (.tree (cp ld.fl cs')))).ac i (some (.cells (eT i (st.nid (some d)) ld.ty ld.fl cs' 0)))).nid (some d))=st.nid (some d):=hnid
        exact oo (ps:=[]) t3 rfl rfl (sk hE hds) (S:=fun _=>False) (fun _=>.inr ⟨hnsl,_,_,hr0⟩) (fun _ h=>h.elim) (by rw [hsn]; exact hans) rfl
       ·have hvk:vs'.toList[k]? = some (vs'.getD k undef):=by
         have:k < vs'.size:=by rw [h2']; exact (DS.1 hc).1
         rw [DW,Array.getElem?_eq_getElem this]; simp [this]
        obtain ⟨g1,g2',g3'⟩:=h3' k c hc
        refine ⟨_,hvk,g2',?_⟩
        cases f' with
        | sc =>
         rcases g1 with ⟨h8,_⟩ | ⟨_,h8⟩
         ·cases c <;> simp [mE,TV.isSc,TV.bq] at hf h8
         ·obtain ⟨e1,e2⟩:=dE h8 hf
          exact ⟨by rw [e1]; exact .lit _,g2'⟩
        | any =>
         rcases g1 with ⟨h8,_⟩ | ⟨_,h8⟩
         ·cases c <;> simp [mE,TV.iz,TV.bq] at hf h8
         ·exact ⟨fw h8 hf,g2'⟩
        | sl =>
         rcases g1 with ⟨h8,_⟩ | ⟨_,h8⟩
         ·cases c <;> simp [mE,TV.isSl,TV.bq] at hf h8
         ·refine ⟨cp ld.fl cs',c,c.nd,by rw [ah,if_pos ⟨rfl,n2⟩],iR _ _ k c .sl rfl hk hc,⟨by simp [Gh.i7],rfl⟩,eh h8 hf⟩
        | bf e' =>
         rcases g1 with ⟨h8,_⟩ | ⟨_,h8⟩
         ·rw [jG (f:=.bf e') rfl hf] at h8; cases h8
         ·refine ⟨cp ld.fl cs',c,c.nd,by rw [ah,if_pos ⟨rfl,n2⟩],iR _ _ k c (.bf e') rfl hk hc,⟨by simp [Gh.i7],rfl⟩,qF h8 hf⟩
        | may =>
         rcases g1 with ⟨h8m,h8⟩ | ⟨h8,_⟩
         ·refine ⟨_,hlk5,⟨vs',(0,0),?_⟩,?_⟩
          ·show w'.heap[g3.β i]? = _
           rw [hβ,<- g3' h8m]; exact h1'
          ·show _\/_=Value.pointer (some ⟨g3.β i,0,none⟩)
           rw [hβ]; exact h8
         ·rw [hf] at h8; cases h8
  ·exact hh.elim
 ·exact hh.elim
theorem wy {f:FuncId} (hN:∀ xs r,C f xs r->Ad P w0.G E f xs r) (hlk:∀ i b,look i=some b->st.look i=some b) (hs:aj w0 I0 NoR g st a ov w)  {c:Nat × Nat} (hpk:E.peek f=some c) {args:Array Operand} {tys:Array TypeId} {cal:Operand} {e:Eff}
  (hres:∀ vals:Array Value,vals=args.map a.eval->(callFunc f vals).run P w=.ok (.enter f vals) w->(execOp a.eval ⟨dst,.call ⟨.value cal,args,tys⟩,type,pos,after,guard⟩).run P w=.ok (.enter f vals) w)
  (hh:(vi look f c (args.toList.map st.ev)).hits C e) (ha:e.app st dst=some st'):Good P w0 I0 ov ⟨dst,.call ⟨.value cal,args,tys⟩,type,pos,after,guard⟩ st' a w Q:=by
 exact False.elim hh
theorem wm {f:FuncId} (hN:∀ xs r,C f xs r->Ad P w0.G E f xs r) (hE:∀ t d,E.T t=some d->aR P t d) (hlk:∀ i b,look i=some b->st.look i=some b) (hs:aj w0 I0 NoR g st a ov w)  {args:Array Operand} {tys:Array TypeId} {cal:Operand} {e:Eff}
  (hres:∀ vals:Array Value,vals=args.map a.eval->(callFunc f vals).run P w=.ok (.enter f vals) w->(execOp a.eval ⟨dst,.call ⟨.value cal,args,tys⟩,type,pos,after,guard⟩).run P w=.ok (.enter f vals) w)
  (hh:(lp E (st.nid dst) look f (args.toList.map st.ev)).hits C e) (ha:e.app st dst=some st'):Good P w0 I0 ov ⟨dst,.call ⟨.value cal,args,tys⟩,type,pos,after,guard⟩ st' a w Q:=by
 cases hpk:E.peek f with
 | some c =>
  simp only [lp,hpk] at hh
  exact wy hN hlk hs hpk hres hh ha
 | none =>
 cases hnl:E.lent f with
 | some ld =>
  simp only [lp,hpk,hnl] at hh
  exact wi hN hE hlk hs hpk hnl hres hh ha
 | none =>
 have hevs:=hs.evs args.toList
 have hgd:∀ m,(args.toList.map a.eval).getD m undef=(args.map a.eval).getD m undef:=fun m=>by simp [D8,D7]
 have wpc:∀ {next:Act->World->Prop} {xs:List TV} {r:TV} (I':Nat->Prop),C f xs r->xs.length=(args.toList.map st.ev).length->w0.G.P w I'->(∀ b,I' b->b < w.heap.size)->(∀ (j:Nat) (x:TV),xs[j]? = some x->Rep w I' x ((args.toList.map a.eval).getD j undef)) ->
   (∀ v w' I2 S,Below w.heap.size w w'->(∀ b,I' b->I2 b)->(∀ b,I2 b->b < w'.heap.size)->(∀ b,b < w.heap.size->I2 b->I' b)->(∀ b,S b->w.heap.size<=b/\b < w'.heap.size/\¬ I2 b)->ak w' I2 r v S->next (a.put dst v) w') ->
   Oper.wp P ⟨dst,.call ⟨.value cal,args,tys⟩,type,pos,after,guard⟩ a w next Q:=by
  intro next xs r I' hc hl hG hlt hrep hn
  obtain ⟨hcf,hcalls⟩:=(((hN xs r hc).1 hpk).1 hnl).1 I' w (args.map a.eval) hG hlt (by rw [hl]; simp) (fun j x hx=>by rw [<- hgd]; exact hrep j x hx)
  unfold Oper.wp
  rw [hres _ rfl hcf]
  simp only [Oper.upon]
  refine hcalls.mono ?_
  rintro e w' ⟨v,rfl,hb,I2,S,h1,h2,h3,h4,h5⟩
  exact hn v w' I2 S hb h1 h2 h3 h4 h5
 simp only [lp,hpk,hnl] at hh
 split at hh
 ·rename_i ds hds
  have htys:=sk hE hds
  cases hp:E.pure f || !fK ds with
  | true =>
   simp only [hp,cond_true] at hh
   obtain ⟨xs,⟨r,hc,hh⟩,hl,hrep⟩:=lV hlk hs hevs hh
   refine wpc (fun b=>b < w.heap.size) hc hl (hs.laid hs.lt) (fun _ h=>h) (hrep _ ⟨hs.lt,fun i b h=>(hs.foot i b h).2.1⟩) (fun v w' I2 S hb i1 i2 i3 i4 hv=>?_)
   have hnI:∀ b,S b->¬ g.I b:=fun b hb h=>by have:=hs.lt b h; have:=(i4 b hb).1; omega
   have hg:=hs.grow hb (I':=g.I) (R':=S) (fun _ h=>h) (fun b h=>Nat.lt_of_lt_of_le (hs.lt b h) hb.size) (fun _ _ h=>h) (fun b h=>.inr ⟨(i4 b h).1,(i4 b h).2.1,hnI b h⟩)
   refine oo (ps:=[]) hg rfl rfl htys (fun _=>?_) (fun _ h=>h) hh ha
   cases hpu:E.pure f with
   | true=>exact .inl (hv.own ((((hN xs r hc).1 hpk).1 hnl).2 hpu))
   | false =>
    simp only [hpu,Bool.false_or,Bool.not_eq_true'] at hp
    exact .inr ⟨hp,_,_,hv⟩
  | false =>
   simp only [hp,cond_false] at hh
   obtain ⟨xs,rs,hh,hroots,hl,hrep⟩:=lJ hlk hs hevs hh
   cases hn:cu rs with
   | false=>simp [hn,Prg.hits] at hh
   | true =>
    simp only [hn,cond_true] at hh
    obtain ⟨r,hc,hh⟩:=hh
    obtain ⟨st1,g1,f1,f2,f3,f4,_⟩:=ja (dst:=dst) rs hs hroots hn
    refine wpc g1.I hc hl (f2.laid (fun _ h=>h)) f2.lt (hrep _ f3) (fun v w' I2 S hb i1 i2 i3 i4 hv=>?_)
    have hg:=f2.grow hb (I':=I2) (R':=S) i1 i2 i3 (fun b h=>.inr (i4 b h))
    exact oo (ps:=t8 rs) hg f1 f4 htys (fun _=>.inl hv) (fun _ h=>h) hh ha
 ·exact hh.elim
theorem vU {f:FuncId} (hT:∀ xs r,C f xs r->yG P w0.G f xs r) (hlk:∀ i b,look i=some b->st.look i=some b) (hs:aj w0 I0 NoR g st a ov w) {args:Array Operand} {tys:Array TypeId} {cal:Operand} {e:Eff}
  (hres:∀ vals:Array Value,vals=args.map a.eval->(callFunc f vals).run P w=.ok (.enter f vals) w->(execOp a.eval ⟨dst,.call ⟨.value cal,args,tys⟩,type,pos,after,guard⟩).run P w=.ok (.enter f vals) w)
  (hh:(qV look f (args.toList.map st.ev)).hits C e) (ha:e.app st dst=some st'):Good P w0 I0 ov ⟨dst,.call ⟨.value cal,args,tys⟩,type,pos,after,guard⟩ st' a w Q:=by
 exact False.elim hh
theorem CN (hC:wt P w0.G E C) (hE:∀ t d,E.T t=some d->aR P t d) (hlk:∀ i b,look i=some b->st.look i=some b) (hs:aj w0 I0 NoR g st a ov w) {f:FuncId} {args:Array Operand} {tys:Array TypeId} {fv:AV} {e:Eff}
  (hh:(opL E (st.nid dst) look (.call ⟨.value (.func f),args,tys⟩) (fv :: args.toList.map st.ev)).hits C e) (ha:e.app st dst=some st'):Good P w0 I0 ov ⟨dst,.call ⟨.value (.func f),args,tys⟩,type,pos,after,guard⟩ st' a w Q:=by
 have hres:∀ vals:Array Value,vals=args.map a.eval->(callFunc f vals).run P w=.ok (.enter f vals) w->(execOp a.eval ⟨dst,.call ⟨.value (.func f),args,tys⟩,type,pos,after,guard⟩).run P w=.ok (.enter f vals) w:=fun vals hv hcf=>by
  subst hv
  simp only [execOp,resolve,Act.eval,Deferred.ofValue,Sem.run_bind,Sem.run_pure,Result.andThen_ok,invoke]
  simpa using hcf
 simp only [opL] at hh
 cases htn:E.turn f with
 | true =>
  rw [htn] at hh
  exact vU (fun xs r hc=>(hC f xs r hc).1 htn) hlk hs hres hh ha
 | false =>
 rw [htn] at hh
 cases hen:E.eye f with
 | true=>rw [hen] at hh; exact hh.elim
 | false =>
 rw [hen] at hh
 exact wm (fun xs r hc=>((hC f xs r hc).2 htn).2 hen) hE hlk hs hres hh ha
theorem zA {x:TV} {f:Nat} (h:fnOf x=some f):x=.lit (.func (.func f) #[] #[]):=by
 unfold fnOf at h
 split at h
 ·rename_i g ts fs
  cases hb:ts.size.beq 0 && fs.size.beq 0 with
  | false=>simp [hb] at h
  | true =>
   simp only [hb,cond_true,DU] at h
   subst h
   simp only [DV] at hb
   have h1:=(ar _ _).1 hb.1
   have h2:=(ar _ _).1 hb.2
   rw [Array.eq_empty_of_size_eq_zero h1,Array.eq_empty_of_size_eq_zero h2]
 ·cases h
theorem xO {f:FuncId} {i:Nat} (hT:E.eye f=true->E.turn f=false->∀ xs r,C f xs r->xZ P w0.G f xs r) (hE:∀ t d,E.T t=some d->aR P t d) (hlk:∀ i b,look i=some b->st.look i=some b) (hs:aj w0 I0 NoR g st a ov w) {args:Array Operand} {tys:Array TypeId} {cal:Operand} {pv:Value} {e:Eff}
  (hpv:∃ cs,st.look i=some (.cells cs)/\pv=.pointer (some ⟨g.β i,0,none⟩))
  (hres:∀ vals:Array Value,vals=args.map a.eval ++ #[pv]->(callFunc f vals).run P w=.ok (.enter f vals) w->(execOp a.eval ⟨dst,.call ⟨.value cal,args,tys⟩,type,pos,after,guard⟩).run P w=.ok (.enter f vals) w)
  (hh:(Cn E (st.nid dst) look f i (args.toList.map st.ev)).hits C e) (ha:e.app st dst=some st'):Good P w0 I0 ov ⟨dst,.call ⟨.value cal,args,tys⟩,type,pos,after,guard⟩ st' a w Q:=by
 exact False.elim hh
theorem op_dyn (hC:wt P w0.G E C) (hE:∀ t d,E.T t=some d->aR P t d) (hlk:∀ i b,look i=some b->st.look i=some b) (hs:aj w0 I0 NoR g st a ov w) {t:Tmp} {args:Array Operand} {tys:Array TypeId} {e:Eff}
  (hh:(opL E (st.nid dst) look (.call ⟨.value (.tmp t),args,tys⟩) (st.ev (.tmp t) :: args.toList.map st.ev)).hits C e) (ha:e.app st dst=some st'):Good P w0 I0 ov ⟨dst,.call ⟨.value (.tmp t),args,tys⟩,type,pos,after,guard⟩ st' a w Q:=by
 simp only [opL] at hh
 split at hh
 ·rename_i x hx
  obtain ⟨f,hf,hh⟩:=hh
  have:=zA hf
  subst this
  have hev:a.eval (.tmp t)=.func (.func f) #[] #[]:=aL (bX (hs.ev (.tmp t)) hx)
  obtain ⟨hln,hh⟩:=hh
  simp only [DV] at hln
  have hnl:E.lent f=none:=by simpa using hln.1.1
  have hpk:E.peek f=none:=by simpa using hln.1.2
  have h2:E.turn f=false/\E.eye f=false:=by simpa using hln.2
  obtain ⟨htn,hen⟩:=h2
  obtain ⟨xs,⟨r,hc,h1,hh⟩,hl,hrep⟩:=lV hlk hs (hs.evs args.toList) hh
  have hgd:∀ m,(args.toList.map a.eval).getD m undef=(args.map a.eval).getD m undef:=fun m=>by simp [D8,D7]
  obtain ⟨hcf,hcalls⟩:=(((((hC f xs r hc).2 htn).2 hen).1 hpk).1 hnl).1 (fun b=>b < w.heap.size) w (args.map a.eval) (hs.laid hs.lt) (fun _ h=>h) (by rw [hl]; simp) (fun j x hx=>by rw [<- hgd]; exact hrep _ ⟨hs.lt,fun i b h=>(hs.foot i b h).2.1⟩ j x hx)
  have hrun:(execOp a.eval ⟨dst,.call ⟨.value (.tmp t),args,tys⟩,type,pos,after,guard⟩).run P w=.ok (.enter f (args.map a.eval)) w:=by
   simp only [execOp,resolve,hev,Deferred.ofValue,Sem.run_bind,Sem.run_pure,Result.andThen_ok,invoke]
   simpa using hcf
  rw [yH hh] at ha
  simp only [Eff.app,DU] at ha
  subst ha
  unfold Good Oper.wp
  rw [hrun]
  simp only [Oper.upon]
  refine hcalls.mono ?_
  rintro e w' ⟨v,rfl,hb,I2,S,i1,i2,i3,i4,hv⟩
  have hg:=hs.grow hb (I':=g.I) (R':=NoR) (fun _ h=>h) (fun b h=>Nat.lt_of_lt_of_le (hs.lt b h) hb.size) (fun _ _ h=>h) (fun b h=>h.elim)
  obtain ⟨e1,e2⟩:=dE hv h1
  refine ⟨_,hg.put dst (v:=.one (.t r)) ?_⟩
  rw [e1]
  exact ⟨.lit _,pH e2⟩
 ·split at hh
  ·rename_i f i hfv
   have hr0:=hs.ev (.tmp t)
   rw [hfv] at hr0
   obtain ⟨cs,hl,hev⟩:=hr0
   refine xO (pv:=.pointer (some ⟨g.β i,0,none⟩)) (fun he hte xs r hc=>((hC f xs r hc).2 hte).1 he) hE hlk hs ⟨cs,hl,rfl⟩ (fun vals hv hcf=>?_) hh ha
   ·subst hv
    simp only [execOp,resolve,hev,Deferred.ofValue,Sem.run_bind,Sem.run_pure,Result.andThen_ok,invoke]
    simpa using hcf
  ·exact hh.elim
theorem yB {t:TypeId} {d:TyD} (h:aR P t d) (hk:d.kd.jR=true):∃ desc,P.underlying t=some desc/\∀ ms,desc≠.interface ms:=by
 obtain ⟨desc,h1,h2,_⟩:=h.und
 refine ⟨desc,h1,fun ms e=>?_⟩
 subst e
 simp only [ow] at h2
 rw [<- h2] at hk
 cases hk
theorem tL {t:TypeId} {d:TyD} (h:aR P t d) (hk:d.kd.jR=true) (v:Value):(Instr.makeInterface t v).run P w=.ok (.iface t v) w:=by
 obtain ⟨desc,h1,h2⟩:=yB h hk
 simp only [Instr.makeInterface,Sem.run_bind,aM h1,Result.andThen_ok]
 cases desc <;> first | rfl | exact absurd rfl (h2 _)
theorem Bh {t xt:TypeId} {d:TyD} (h:aR P t d) (hk:d.kd.jR=true) (v:Value):(Instr.typeAssert (.iface t v) xt t false).run P w=.ok v w:=by
 obtain ⟨desc,h1,h2⟩:=yB h hk
 simp only [Instr.typeAssert,Sem.run_bind,aM h1,Result.andThen_ok]
 cases desc <;> first | (simp; done) | exact absurd rfl (h2 _)
theorem op_ifc (hE:∀ t d,E.T t=some d->aR P t d) (hs:aj w0 I0 NoR g st a ov w) {t:TypeId} {x:Operand} {e:Eff} (hh:(opL E id look (.makeInterface t x) [st.ev x]).hits C e) (ha:e.app st dst=some st') :
  Good P w0 I0 ov ⟨dst,.makeInterface t x,type,pos,after,guard⟩ st' a w Q:=by
 simp only [opL] at hh
 have hx:=hs.ev x
 split at hh
 ·rename_i d hT
  have ht:=hE _ _ hT
  unfold A7 at hh
  cases hk:d.kd.jR with
  | false=>rw [hk] at hh; exact hh.elim
  | true =>
   rw [hk] at hh
   simp only [cond_true] at hh
   split at hh
   ·rename_i i hxi
    rw [hxi] at hx
    obtain ⟨cs,hl,hv⟩:=hx
    cases hh
    exact aJ hs (v:=.one (.ifp t i)) (u:=.iface t (.pointer (some ⟨g.β i,0,none⟩))) (by simp [execOp,hv,tL ht hk]) ⟨cs,hl,rfl⟩ ha
   ·split at hh
    ·rename_i y hy
     have hr:=bX hx hy
     obtain ⟨v,hv,hh⟩:=hh
     unfold pifc at hv
     split at hv
     ·split at hv
      ·simp only [DU] at hv
       subst hv
       have he:=aL hr
       exact cc hs (by simp [execOp,he,tL ht hk]) (.lit _) rfl hh ha
      ·cases hv
     ·cases hv
    ·exact hh.elim
 ·exact hh.elim
theorem Dg (hE:∀ t d,E.T t=some d->aR P t d) (hs:aj w0 I0 NoR g st a ov w) {t xt:TypeId} {x:Operand} {ok:Bool} {e:Eff} (hh:(opL E id look (.typeAssert x xt t ok) [st.ev x]).hits C e) (ha:e.app st dst=some st') :
  Good P w0 I0 ov ⟨dst,.typeAssert x xt t ok,type,pos,after,guard⟩ st' a w Q:=by
 cases ok with
 | true=>simp [opL,Prg.hits] at hh
 | false =>
 simp only [opL] at hh
 have hx:=hs.ev x
 split at hh
 ·rename_i d hT
  have ht:=hE _ _ hT
  unfold ta at hh
  cases hk:d.kd.jR with
  | false=>rw [hk] at hh; exact hh.elim
  | true =>
   rw [hk] at hh
   simp only [cond_true] at hh
   split at hh
   ·rename_i y hy
    have hr:=bX hx hy
    obtain ⟨v,hv,hh⟩:=hh
    unfold pasrt at hv
    split at hv
    ·split at hv
     ·rename_i hc
      obtain ⟨rfl,hsc⟩:=hc
      simp only [DU] at hv
      subst hv
      have he:=aL hr
      exact cc hs (by simp only [execOp,he]; simp only [Sem.run_bind,Bh ht hk,Result.andThen_ok,Sem.run_pure]) (.lit _) (pH hsc) hh ha
     ·cases hv
    ·cases hv
   ·exact hh.elim
 ·exact hh.elim
theorem Dd (hE:∀ t d,E.T t=some d->aR P t d) (hlk:∀ i b,look i=some b->st.look i=some b) (hs:aj w0 I0 NoR g st a ov w) {t:TypeId} {len:Nat} {parts:Array (Nat × Operand)} {e:Eff}
  (hh:(Cr E t len parts ((Op.buildSlice t len parts).operands.toList.map st.ev)).hits C e) (ha:e.app st dst=some st'):Good P w0 I0 ov ⟨dst,.buildSlice t len parts,type,pos,after,guard⟩ st' a w Q:=by
 exact False.elim hh
end
end Go.Ab

import Derived.Test.YtpkpckdealhkhaaAM13d
set_option linter.all false
section
namespace Go.Ab
open Go.RowKit
section
variable {P:Program} {E:Env} {C:Cal} {w0:Bs} {w w':World} {I0 I R:Nat->Prop} {g g':Gh} {st st':ASt} {a:Act} {ov:List Value} {look look':Look} {Q:Exit->Act->World->Prop} {T:Type} {J:List Nat->ASt->T->Prop}
theorem mj {p:Way} {x:TV} {k:TV->Prg T} {e:T} (h:(qJ p x k).goes C J e):∃y,a8 p x=some y/\(k y).goes C J e:=by
 unfold qJ at h
 split at h
 ·exact⟨x,rfl,h⟩
 ·exact h
theorem al.slot (hs:al w0 I0 R g st a ov w) (s:Nat):bX w g st.look (nth (.one .junk) st.slots s) (a.tmps.getD s undef):=hs.ev (.tmp s)
theorem Aj {x:TV} {v:Value} (h:Rep w I x v) (hx:x.isSl=true):nY v:=by
 obtain⟨b,n,c,e⟩:=iJ (S:=NoR) (.fr h) hx
 exact⟨b,n,c,e⟩
theorem pV {s:Nat} {v:AV} {u:Value} (hu:a.tmps.getD s undef=u) (hs:al w0 I0 R g st (a.put (some s) u) ov w):al w0 I0 R g st a ov w:=by
 rwa[xz hu]at hs
theorem se:∀{m r:Nat} {x y:TV},(cE m [x])[r]? = some y->y=.hole\/y=x
 | 0,0,x,y,h=>by simp[cE]at h;exact .inr h.symm
 | 0,r+1,x,y,h=>by simp[cE]at h
 | m+1,0,x,y,h=>by simp[cE]at h;exact .inl h.symm
 | m+1,r+1,x,y,h=>by simp only[cE,List.getElem?_cons_succ]at h;exact se h
theorem lF:∀{m r:Nat} {x y:TV},(cE m [x])[r]? = some y->y=.hole\/(y=x/\r=m)
 | 0,0,x,y,h=>by simp[cE]at h;exact .inr ⟨h.symm,rfl⟩
 | 0,r+1,x,y,h=>by simp[cE]at h
 | m+1,0,x,y,h=>by simp[cE]at h;exact .inl h.symm
 | m+1,r+1,x,y,h=>by
  simp only[cE,List.getElem?_cons_succ]at h
  rcases lF h with h|⟨h,e⟩
  ·exact .inl h
  ·exact .inr ⟨h,congrArg (· + 1) e⟩
theorem mu:∀(m:Nat) (x:TV),(cE m [x])[m]? = some x
 | 0,x=>rfl
 | m+1,x=>by simp only[cE,List.getElem?_cons_succ];exact mu m x
theorem sf {i r idx:Nat} {st1:ASt} (hs:al w0 I0 (fun _=>False) g st a ov w) (hm:jK st i r idx=some st1):∃g1,al w0 I0 (fun _=>False) g1 st1 a ov w/\g1.β=g.β /\
  (∀v,bW w g st.look (.sref i r []) v->bW w g1 st1.look (.sref (eU 0 st.boxes) idx []) v):=by
 unfold jK at hm
 split at hm
 ·rename_i xs h1
  cases hlo:va xs r idx with
  | true=>rw[hlo]at hm;cases hm
  | false =>
   simp only[hlo,cond_false]at hm
   split at hm
   ·rename_i x h2
    have hrl:r<xs.length:=(FP.1 h2).1
    have hfr:∀b,g.φ i r b->Foot g st.look i b:=fun b hb=>.inr ⟨xs,r,h1,hrl,hb⟩
    obtain⟨n1,n2,rfl⟩:=bu hm
    obtain⟨q1,q2⟩:=hs.gc h1 h2 (CA.drop i r [] false) (fun p=>leads false [] p=false) (gG i r [] false) (w':=w) (x':=.hole) (u':=undef) (S':=fun _=>False) (R':=g.φ i r) (I':=g.I) (.fr (.hole _))
     (fun p v nd ho _ _=>by rw[iG]at ho;cases ho) hs.below (Nat.le_refl _) (fun _ _ _ _=>rfl) (fun _ h=>h.elim) (fun b hb=>⟨.inr hb,fun h=>h,(hs.foot i b (hfr b hb)).2.2.1⟩) (fun _ h=>h) (fun _ h=>.inl h) (fun b hb hS=>hS)
    obtain⟨t1,t2⟩:=q1.mI (xs:=cE idx [x]) n2 n1 q1.below (Nat.le_refl _) (fun _ _ _=>rfl) (fun _=>g.ρ i r) (fun k b=>k=idx/\g.φ i r b) (fun k y hy=>by
     rcases lF hy with rfl|⟨rfl,rfl⟩
     ·exact .fr (.hole _)
     ·exact(hs.trees i xs h1 r _ h2).mono (fun b hb=>⟨rfl,hb⟩)) (fun k b _ h=>.inl h.2) (fun k k' b _ _ h h'=>h.1.trans h'.1.symm)
    refine⟨_,t1,rfl,fun v hv=>?_⟩
    obtain⟨xs',x',nd,e1,e2,e3,e4⟩:=hv
    rw[h1]at e1
    cases e1
    rw[h2]at e2
    cases e2
    exact⟨cE idx [x],x,nd,by rw[ag,if_pos ⟨rfl,n2⟩],mu _ _,by simpa[Gh.kb]using e3,e4⟩
   ·cases hm
 ·cases hm
theorem xk {s:Nat} {k:ASt->Prg T} {r:T} (hs:Sim w0 I0 st a ov w) (h:(Ac st s k).goes C J r):∃st',(k st').goes C J r/\Sim w0 I0 st' a ov w:=by
 obtain⟨g,hs⟩:=hs
 unfold Ac at h
 have hsl:=hs.slot s
 split at h
 ·rename_i i q hv
  rw[hv]at hsl
  cases hm:jK st i q 0 with
  | none=>rw[hm]at h;exact⟨st,h,g,hs⟩
  | some st1 =>
   rw[hm]at h
   obtain⟨g1,t1,_,t2⟩:=sf hs hm
   exact⟨_,h,g1,pV (v:=.one .junk) rfl (t1.put (some s) (v:=.one (.sref _ 0 [])) (u:=a.tmps.getD s undef) (t2 _ hsl))⟩
 ·exact⟨st,h,g,hs⟩
 ·rename_i i q lo len hv
  rw[hv]at hsl
  split at h
  ·rename_i x hx
   obtain⟨xs,h1,h2⟩:=aD hx
   obtain⟨xs',x',u,nd,g1,g2,g3,g4,g5⟩:=hsl
   rw[h1]at g1
   cases g1
   rw[h2]at g2
   cases g2
   obtain⟨y,hy,h⟩:=h
   simp only[]at h
   split at h
   ·rename_i b hb
    have hlm:(st.aE (CA.drop i q [] false)).look i=some (.tree xs):=by rw[aS,h1];rfl
    have hb':b=.tree (ai xs q y):=by
     simp only[co,hlm,FR]at hb
     exact hb.symm
    subst hb'
    have hrl:q<xs.length:=(FP.1 h2).1
    have hfr:∀b,g.φ i q b->Foot g st.look i b:=fun b hb=>.inr ⟨xs,q,h1,hrl,hb⟩
    have hr:=hs.trees i xs h1 q x h2
    rw[<-g3.1]at hr
    have hrep:=dI hr g3.2 g5 hy
    obtain⟨q1,q2⟩:=hs.gc h1 h2 (CA.drop i q [] false) (fun p=>leads false [] p=false) (gG i q [] false) (w':=w) (x':=y) (u':=a.tmps.getD s undef) (S':=g.φ i q) (R':=NoR) (I':=g.I) hrep
     (fun p v nd ho _ _=>by rw[iG]at ho;cases ho) hs.below (Nat.le_refl _) (fun _ _ _ _=>rfl) (fun _ h=>.inl h) (fun b hb=>hb.elim) (fun _ h=>h) (fun _ h=>.inl h) (fun b hb hS=>(hs.foot i b (hfr b hS)).2.2.1 hb)
    refine⟨_,h,_,pV (v:=.one .junk) rfl (q1.put (some s) (v:=.one (.sref i q [])) (u:=a.tmps.getD s undef) ?_)⟩
    refine⟨ai xs q y,y,y.nd,by rw[ag,if_pos ⟨rfl,by rw[fk];exact gF h1⟩],by rw[ah];simp[hrl],⟨by simp[Gh.df],rfl⟩,?_⟩
    obtain⟨a0,l0,c0,e0⟩:=g4
    subst e0
    cases hnd:nd with
    | none=>rw[hnd]at g5;rw[g5.2.2.2];exact⟨_,_,_,rfl⟩
    | some sn =>
     obtain⟨sz,n⟩:=sn
     rw[hnd]at g5
     rw[g5.2]
     cases a0 with
     | none=>exact⟨_,_,_,rfl⟩
     | some a0=>exact⟨_,_,_,rfl⟩
   ·exact h.elim
  ·exact h.elim
 ·split at h
  ·rename_i x hx
   obtain⟨h1,h⟩:=h
   split at h
   ·rename_i st1 hst
    obtain⟨n1,n2,rfl⟩:=bu hst
    have hrep:=cG hsl hx
    obtain⟨q1,q2⟩:=hs.mI (xs:=[x]) n2 n1 hs.below (Nat.le_refl _) (fun _ _ _=>rfl) (fun _=>a.tmps.getD s undef) (fun _ _=>False) (fun r y hy=>by
     cases r with
     | zero=>simp at hy;subst hy;exact .fr hrep
     | succ r=>simp at hy) (fun _ _ _ h=>h.elim) (fun _ _ _ _ _ h=>h.elim)
    refine⟨_,h,_,pV (v:=.one .junk) rfl (q1.put (some s) (v:=.one (.sref _ 0 [])) (u:=a.tmps.getD s undef) ?_)⟩
    exact⟨[x],x,x.nd,by rw[ag,if_pos ⟨rfl,n2⟩],rfl,⟨by simp[Gh.kb],rfl⟩,Aj hrep h1⟩
   ·exact h.elim
  ·exact h.elim
theorem ot {k:ASt->Prg T} {r:T}:∀{l:List Nat} {st:ASt},Sim w0 I0 st a ov w->(pK l st k).goes C J r->∃st',(k st').goes C J r/\Sim w0 I0 st' a ov w
 | [],st,hs,h=>⟨st,h,hs⟩
 | s::l,st,hs,h=>by
  obtain⟨st1,h1,h2⟩:=xk hs h
  exact ot h2 h1
theorem qg {i c:Nat} {k:ASt->Prg T} {r:T} (hs:Sim w0 I0 st a ov w) (h:(uF st i c k).goes C J r):∃st',(k st').goes C J r/\Sim w0 I0 st' a ov w:=by
 obtain⟨g,hs⟩:=hs
 unfold uF at h
 split at h
 ·rename_i cs hl
  split at h
  ·rename_i i' q hc
   cases hm:jK st i' q (m7 cs c)with
   | none=>rw[hm]at h;exact⟨st,h,g,hs⟩
   | some st1 =>
    simp only[hm]at h
    obtain⟨vs,ty,c1,c2⟩:=hs.cells i cs hl
    have hcl:c<cs.length:=by
     rcases Nat.lt_or_ge c cs.length with h'|h'
     ·exact h'
     ·rw[bi,F5 h']at hc;cases hc
    have hcc:cs[c]? = some (.sref i' q []):=by rw[bi,FQ hcl]at hc;rw[FQ hcl];simpa using hc
    have hvl:c<vs.toList.length:=by rw[c2.1];exact hcl
    obtain⟨u,hu⟩:∃u,vs.toList[c]? = some u:=⟨_,FQ hvl⟩
    obtain⟨hrc,hone⟩:=c2.2 c _ u hcc hu
    obtain⟨g1,t1,tb,t2⟩:=sf hs hm
    split at h
    ·rename_i cs' hl1
     obtain⟨vs1,ty1,d1,d2⟩:=t1.cells i cs' hl1
     rw[tb,c1]at d1
     cases d1
     have c1':w.heap[g1.β i]? = some (.cells vs ty (0,0)):=by rw[tb];exact c1
     refine⟨_,h,_,t1.gd hl1 (vs':=vs) (ty:=ty) t1.below (Nat.le_refl _) (fun _ _=>rfl) c1' ⟨_,_,c1'⟩ ?_⟩
     refine⟨by rw[ah,List.length_set];exact d2.1,fun j d v hd hv=>?_⟩
     rw[ah,List.getElem?_set]at hd
     by_cases hcj:c=j
     ·subst hcj
      have hcl':c<cs'.length:=by rw[<-d2.1];exact hvl
      simp only[if_true,hcl',FR]at hd
      subst hd
      rw[hu]at hv
      cases hv
      exact⟨t2 _ hrc,hone⟩
     ·simp only[hcj,if_false]at hd
      exact d2.2 j d v hd hv
    ·exact⟨st,h,g,hs⟩
  ·exact⟨st,h,g,hs⟩
 ·exact⟨st,h,g,hs⟩
theorem x6 {s c : Nat} {k : ASt → Prg T} {r : T} (hs : Sim w0 I0 st a ov w) (h : (Ah st s c k).goes C J r) : ∃ st', (k st').goes C J r ∧ Sim w0 I0 st' a ov w := by
 have hs0:=hs
 obtain⟨g,hs⟩:=hs
 unfold Ah at h
 split at h
 ·rename_i i off hv
  split at h
  ·rename_i cs hl
   split at h
   ·exact qg hs0 h
   ·exact⟨st,h,g,hs⟩
   ·rename_i i' q lo len hc
    obtain⟨vs,ty,c1,c2⟩:=hs.cells i cs hl
    have hcl:c<cs.length:=by
     rcases Nat.lt_or_ge c cs.length with h'|h'
     ·exact h'
     ·rw[bi,F5 h']at hc;cases hc
    have hcc:cs[c]? = some (.swin i' q [] lo len):=by rw[bi,FQ hcl]at hc;rw[FQ hcl];simpa using hc
    have hvl:c<vs.toList.length:=by rw[c2.1];exact hcl
    obtain⟨u,hu⟩:∃u,vs.toList[c]? = some u:=⟨_,FQ hvl⟩
    obtain⟨hrc,hone⟩:=c2.2 c _ u hcc hu
    split at h
    ·rename_i x hx
     obtain⟨xs,h1,h2⟩:=aD hx
     obtain⟨xs',x',u',nd,g1,g2,g3,g4,g5⟩:=hrc
     rw[h1]at g1
     cases g1
     rw[h2]at g2
     cases g2
     obtain⟨y,hy,h⟩:=h
     simp only[]at h
     split at h
     ·rename_i b hb
      have hlm:(st.aE (CA.drop i' q [] false)).look i'=some (.tree xs):=by rw[aS,h1];rfl
      have hb':b=.tree (ai xs q y):=by
       simp only[co,hlm,FR]at hb
       exact hb.symm
      subst hb'
      have hrl:q<xs.length:=(FP.1 h2).1
      have hfr:∀b,g.φ i' q b->Foot g st.look i' b:=fun b hb=>.inr ⟨xs,q,h1,hrl,hb⟩
      have hr:=hs.trees i' xs h1 q x h2
      rw[<-g3.1]at hr
      have hrep:=dI hr g3.2 g5 hy
      obtain⟨q1,q2⟩:=hs.gc h1 h2 (CA.drop i' q [] false) (fun p=>leads false [] p=false) (gG i' q [] false) (w':=w) (x':=y) (u':=u) (S':=g.φ i' q) (R':=NoR) (I':=g.I) hrep
       (fun p v nd ho _ _=>by rw[iG]at ho;cases ho) hs.below (Nat.le_refl _) (fun _ _ _ _=>rfl) (fun _ h=>.inl h) (fun b hb=>hb.elim) (fun _ h=>h) (fun _ h=>.inl h) (fun b hb hS=>(hs.foot i' b (hfr b hS)).2.2.1 hb)
      split at h
      ·rename_i cs' hl1
       obtain⟨vs1,ty1,d1,d2⟩:=q1.cells i cs' hl1
       have c1':w.heap[(g.df g.I i' q u (g.φ i' q)).β i]? = some (.cells vs ty (0,0)):=c1
       rw[c1']at d1
       cases d1
       refine qg ⟨_,q1.gd hl1 (vs':=vs) (ty:=ty) q1.below (Nat.le_refl _) (fun _ _=>rfl) c1' ⟨_,_,c1'⟩ ?_⟩ h
       refine⟨by rw[ah,List.length_set];exact d2.1,fun j d v hd hv=>?_⟩
       rw[ah,List.getElem?_set]at hd
       by_cases hcj:c=j
       ·subst hcj
        have hcl':c<cs'.length:=by rw[<-d2.1];exact hvl
        simp only[if_true,hcl',FR]at hd
        subst hd
        rw[hu]at hv
        cases hv
        refine⟨⟨ai xs q y,y,y.nd,by rw[ag,if_pos ⟨rfl,by rw[fk];exact gF h1⟩],by rw[ah];simp[hrl],⟨by simp[Gh.df],rfl⟩,?_⟩,hone⟩
        obtain⟨a0,l0,c0,e0⟩:=g4
        subst e0
        cases hnd:nd with
        | none=>rw[hnd]at g5;rw[g5.2.2.2];exact⟨_,_,_,rfl⟩
        | some sn =>
         obtain⟨sz,n⟩:=sn
         rw[hnd]at g5
         rw[g5.2]
         cases a0 with
         | none=>exact⟨_,_,_,rfl⟩
         | some a0=>exact⟨_,_,_,rfl⟩
       ·simp only[hcj,if_false]at hd
        exact d2.2 j d v hd hv
      ·exact h.elim
     ·exact h.elim
    ·exact h.elim
   ·rename_i x hc
    obtain⟨h1,h⟩:=h
    split at h
    ·rename_i st1 hst
     obtain⟨n1,n2,rfl⟩:=bu hst
     obtain⟨vs,ty,c1,c2⟩:=hs.cells i cs hl
     have hcl:c<cs.length:=by
      rcases Nat.lt_or_ge c cs.length with h'|h'
      ·exact h'
      ·rw[bi,F5 h']at hc;cases hc
     have hcc:cs[c]? = some (.t x):=by rw[bi,FQ hcl]at hc;rw[FQ hcl];simpa using hc
     have hvl:c<vs.toList.length:=by rw[c2.1];exact hcl
     obtain⟨u,hu⟩:∃u,vs.toList[c]? = some u:=⟨_,FQ hvl⟩
     have hrep:=(c2.2 c _ u hcc hu).1.1
     have hone:=(c2.2 c _ u hcc hu).2
     obtain⟨q1,q2⟩:=hs.mI (xs:=cE (m7 cs c) [x]) n2 n1 hs.below (Nat.le_refl _) (fun _ _ _=>rfl) (fun _=>u) (fun _ _=>False) (fun r y hy=>by
      rcases se hy with rfl|rfl
      ·exact .fr (.hole _)
      ·exact .fr hrep) (fun _ _ _ h=>h.elim) (fun _ _ _ _ _ h=>h.elim)
     have hne:eU 0 st.boxes≠i:=fun e=>by rw[e,hl]at n1;cases n1
     have hl1:(st.ac (eU 0 st.boxes) (some (.tree (cE (m7 cs c) [x])))).look i=some (.cells cs):=by rw[ag,if_neg (fun h=>hne h.1)];exact hl
     refine⟨_,h,_,q1.gd hl1 (vs':=vs) (ty:=ty) q1.below (Nat.le_refl _) (fun _ _=>rfl) c1 ⟨_,_,c1⟩ ?_⟩
     refine⟨by rw[ah,List.length_set];exact c2.1,fun j d v hd hv=>?_⟩
     rw[ah,List.getElem?_set]at hd
     by_cases hcj:c=j
     ·subst hcj
      simp only[if_true,hcl,FR]at hd
      subst hd
      rw[hu]at hv
      cases hv
      exact⟨⟨cE (m7 cs c) [x],x,x.nd,by rw[ag,if_pos ⟨rfl,n2⟩],mu _ _,⟨by simp[Gh.kb],rfl⟩,Aj hrep h1⟩,hone⟩
     ·simp only[hcj,if_false]at hd
      have:=c2.2 j d v hd hv
      exact⟨bW.mv q2 (by cases d<;>trivial) this.1,this.2⟩
    ·exact h.elim
   ·exact h.elim
  ·exact h.elim
 ·exact h.elim
theorem xu {i c:Nat} {k:ASt->Prg T} {r:T} (hs:Sim w0 I0 st a ov w) (h:(An st i c k).goes C J r):∃st',(k st').goes C J r/\Sim w0 I0 st' a ov w:=by
 have hs0:=hs
 obtain⟨g,hs⟩:=hs
 unfold An at h
 split at h
 ·rename_i cs hl
  split at h
  ·rename_i i' q p0 p hc
   obtain⟨vs,ty,c1,c2⟩:=hs.cells i cs hl
   have hcl:c<cs.length:=by
    rcases Nat.lt_or_ge c cs.length with h'|h'
    ·exact h'
    ·rw[bi,F5 h']at hc;cases hc
   have hcc:cs[c]? = some (.sref i' q (p0::p)):=by rw[bi,FQ hcl]at hc;rw[FQ hcl];simpa using hc
   have hvl:c<vs.toList.length:=by rw[c2.1];exact hcl
   obtain⟨u,hu⟩:∃u,vs.toList[c]? = some u:=⟨_,FQ hvl⟩
   obtain⟨hrc,hone⟩:=c2.2 c _ u hcc hu
   split at h
   ·rename_i x hx
    obtain⟨xs,h1,h2⟩:=aD hx
    obtain⟨xs',x',nd,g1,g2,g3,g4⟩:=hrc
    rw[h1]at g1
    cases g1
    rw[h2]at g2
    cases g2
    obtain⟨y,hy,x1,hx1,h⟩:=h
    obtain⟨st1,gg,Sy,t1,t2,t3,t4,t5,hrep⟩:=pZ (dst:=none) hs h1 h2 hy hx1 g3
    simp only[t1]at h
    obtain⟨cs1,k1,k2,k3⟩:=t4.cells i cs hl
    split at h
    ·rename_i cs1' st2 e1 hst
     rw[k1]at e1
     cases e1
     obtain⟨n1,n2,rfl⟩:=bu hst
     obtain⟨q1,q2⟩:=t2.mI (xs:=cE (m7 cs c) [y]) n2 n1 t2.below (Nat.le_refl _) (fun _ _ _=>rfl) (fun _=>u) (fun k b=>k=m7 cs c/\Sy b) (fun k z hz=>by
      rcases lF hz with rfl|⟨rfl,rfl⟩
      ·exact .fr (.hole _)
      ·rw[t3];exact hrep.mono (fun b hb=>⟨rfl,hb⟩)) (fun k b _ h=>.inl (.inr h.2)) (fun k k' b _ _ h h'=>h.1.trans h'.1.symm)
     have hne:eU 0 st.boxes≠i:=fun e=>by rw[e,k1]at n1;cases n1
     have hl1:(st1.ac (eU 0 st.boxes) (some (.tree (cE (m7 cs c) [y])))).look i=some (.cells cs1):=by rw[ag,if_neg (fun h=>hne h.1)];exact k1
     obtain⟨vs1,ty1,d1,d2⟩:=q1.cells i cs1 hl1
     have c1':w.heap[(gg.kb (eU 0 st.boxes) (fun _=>u) (fun k b=>k=m7 cs c/\Sy b)).β i]? = some (.cells vs ty (0,0)):=by
      show w.heap[gg.β i]? = _
      rw[k3]
      exact c1
     rw[c1']at d1
     cases d1
     refine⟨_,h,_,q1.gd hl1 (vs':=vs) (ty:=ty) q1.below (Nat.le_refl _) (fun _ _=>rfl) c1' ⟨_,_,c1'⟩ ?_⟩
     refine⟨by rw[ah,List.length_set];exact d2.1,fun j d v hd hv=>?_⟩
     rw[ah,List.getElem?_set]at hd
     by_cases hcj:c=j
     ·subst hcj
      have hcl':c<cs1.length:=by rw[k2];exact hcl
      simp only[if_true,hcl',FR]at hd
      subst hd
      rw[hu]at hv
      cases hv
      exact⟨⟨cE (m7 cs c) [y],y,y.nd,by rw[ag,if_pos ⟨rfl,n2⟩],mu _ _,⟨by simp[Gh.kb],rfl⟩,g4⟩,hone⟩
     ·simp only[hcj,if_false]at hd
      exact d2.2 j d v hd hv
    ·exact h.elim
   ·exact h.elim
  ·exact⟨st,h,g,hs⟩
 ·exact⟨st,h,g,hs⟩
theorem wn {s c:Nat} {k:ASt->Prg T} {r:T} (hs:Sim w0 I0 st a ov w) (h:(vU st s c k).goes C J r):∃st',(k st').goes C J r/\Sim w0 I0 st' a ov w:=by
 unfold vU at h
 split at h
 ·exact xu hs h
 ·exact⟨st,h,hs⟩
theorem iz {k:ASt->Prg T} {r:T}:∀{l:List (Nat × Nat)} {st:ASt},Sim w0 I0 st a ov w->(iT l st k).goes C J r->∃st',(k st').goes C J r/\Sim w0 I0 st' a ov w
 | [],st,hs,h=>⟨st,h,hs⟩
 | (s, c) :: l, st, hs, h => by
  simp only[iT]at h
  cases hb:Nat.ble 2000 c with
  | true =>
   rw[hb]at h
   obtain⟨st1,h1,h2⟩:=wn hs h
   exact iz h2 h1
  | false =>
   rw[hb]at h
   obtain⟨st1,h1,h2⟩:=x6 hs h
   exact iz h2 h1
theorem B8 {an:Option Ann} {k:ASt->Prg T} {r:T} {st:ASt} (hs:Sim w0 I0 st a ov w) (h:(preQ an k st).goes C J r):∃st',(k st').goes C J r/\Sim w0 I0 st' a ov w:=by
 cases an with
 | none=>exact⟨st,h,hs⟩
 | some an=>exact iz hs h
theorem yF {s c:Nat} (hs:Sim w0 I0 st a ov w):Sim w0 I0 (Cz st s c) a ov w:=by
 obtain⟨g,hs⟩:=hs
 unfold Cz
 generalize hc0:c%1000=c'
 split
 ·rename_i i off hv
  split
  ·rename_i cs hl
   split
   ·rename_i i' q hc
    split
    ·rename_i xs hx
     split
     ·rename_i x h2
      cases hcool:Nat.ble 1000 c with
      | true =>
       obtain⟨g',h⟩:=hs.cool hx h2
       exact⟨g',h⟩
      | false =>
      clear hc0 hcool
      rename_i c0
      generalize c'=c at *
      obtain⟨vs,ty,c1,c2⟩:=hs.cells i cs hl
      have hcl:c<cs.length:=by
       rcases Nat.lt_or_ge c cs.length with h'|h'
       ·exact h'
       ·rw[bi,F5 h']at hc;cases hc
      have hcc:cs[c]? = some (.sref i' q []):=by rw[bi,FQ hcl]at hc;rw[FQ hcl];simpa using hc
      have hvl:c<vs.toList.length:=by rw[c2.1];exact hcl
      obtain⟨u,hu⟩:∃u,vs.toList[c]? = some u:=⟨_,FQ hvl⟩
      obtain⟨hrc,hone⟩:=c2.2 c _ u hcc hu
      obtain⟨xs',x',nd,e1,e2,e3,e4⟩:=hrc
      rw[hx]at e1
      cases e1
      rw[h2]at e2
      cases e2
      obtain⟨f1,f2,f3⟩:=hs.freeze hx h2
      have hne:i'≠i:=fun e=>by rw[e,hl]at hx;cases hx
      have hl1:(st.ac i' (some (.tree (ai xs q (frz x))))).look i=some (.cells cs):=by rw[ag,if_neg (fun h=>hne h.1)];exact hl
      refine⟨_,f2.gd hl1 (vs':=vs) (ty:=ty) f2.below (Nat.le_refl _) (fun _ _=>rfl) c1 ⟨_,_,c1⟩ ?_⟩
      refine⟨by rw[ah,List.length_set];exact c2.1,fun j d v hd hv=>?_⟩
      rw[ah,List.getElem?_set]at hd
      by_cases hcj:c=j
      ·subst hcj
       simp only[if_true,hcl,FR]at hd
       subst hd
       rw[hu]at hv
       cases hv
       rw[<-e3.1]at f1
       exact⟨⟨f1,hone⟩,hone⟩
      ·simp only[hcj,if_false]at hd
       have:=c2.2 j d v hd hv
       exact⟨f3 _ _ this.1,this.2⟩
     ·exact⟨g,hs⟩
    ·exact⟨g,hs⟩
   ·exact⟨g,hs⟩
  ·exact⟨g,hs⟩
 ·rename_i i' q hv
  split
  ·rename_i xs hx
   split
   ·rename_i x h2
    cases hcool:Nat.ble 1000 c with
    | true=>exact⟨g,hs⟩
    | false =>
    simp only[cond_false]
    have hsl:st.slots[s]? = some (.one (.sref i' q [])):=by
     rcases Nat.lt_or_ge s st.slots.length with h'|h'
     ·rw[bi,FQ h']at hv;rw[FQ h'];simpa using hv
     ·rw[bi,F5 h']at hv;cases hv
    obtain⟨xs',x',nd,e1,e2,e3,e4⟩:=hs.slots s _ hsl
    rw[hx]at e1
    cases e1
    rw[h2]at e2
    cases e2
    obtain⟨f1,f2,f3⟩:=hs.freeze hx h2
    have hone:(a.tmps.getD s undef).oneCell'=true:=sE e4
    have:=f2.put (some s) (v:=.one (.t (frz x))) (u:=a.tmps.getD s undef) ⟨by rw[e3.1];exact f1,hone⟩
    rw[xz rfl]at this
    exact⟨_,this⟩
   ·exact⟨g,hs⟩
  ·exact⟨g,hs⟩
 ·exact⟨g,hs⟩
theorem oD:∀{l:List (Nat × Nat)} {st:ASt},Sim w0 I0 st a ov w->Sim w0 I0 (ko l st) a ov w
 | [],st,hs=>hs
 | (s,c)::l,st,hs=>oD (l:=l) (yF hs)
theorem kA:∀{l:List Nat} {st:ASt},Sim w0 I0 st a ov w->Sim w0 I0 (ia st l) a ov w
 | [],st,hs=>hs
 | s :: l, st, hs => by
  simp only[ia]
  split
  ·rename_i i off hv
   split
   ·rename_i cs hl
    refine kA ?_
    obtain⟨g,hs⟩:=hs
    obtain⟨vs,ty,c1,c2⟩:=hs.cells i cs hl
    refine⟨g,hs.gd hl (vs':=vs) (ty:=ty) hs.below (Nat.le_refl _) (fun _ _=>rfl) c1 ⟨_,_,c1⟩ ⟨by rw[nB];exact c2.1,fun j d v hd hv=>?_⟩⟩
    rw[rT]at hd
    cases hj:cs[j]? with
    | none=>simp[hj]at hd
    | some c' =>
     simp only[hj,F6,FR]at hd
     subst hd
     exact⟨trivial,(c2.2 j c' v hj hv).2⟩
   ·exact kA hs
  ·exact kA hs
theorem nS {α:Type} (d:α) (ks:List Nat):∀(l:List α) (n k:Nat),(gW d ks n l)[k]? = (l[k]?).map fun x=>bif bF (n+k) ks then x else d
 | [],n,k=>by simp[gW]
 | x::l,n,0=>by simp[gW]
 | x::l,n,k+1=>by
  simp only[gW,List.getElem?_cons_succ,nS d ks l (n+1) k]
  rw[show n+1+k=n+(k+1) by omega]
theorem nU {α:Type} (d:α) (ks:List Nat):∀(l:List α) (n:Nat),(gW d ks n l).length=l.length
 | [],n=>rfl
 | x::l,n=>by simp[gW,nU d ks l (n+1)]
theorem un {ks:List Nat} {R:Nat->Prop} (hs:al w0 I0 R g st a ov w):al w0 I0 R g (g9 ks st) a ov w:=by
 refine⟨hs.below,hs.sub,hs.lt,hs.old,by simp only[g9,nU];exact hs.len,hs.defers,fun t v hv=>?_,hs.olen,hs.outs,hs.cells,hs.trees,hs.foot,hs.apart,hs.apartR,hs.res,hs.base,hs.out⟩
 simp only[g9,nS,Nat.zero_add]at hv
 cases hsl:st.slots[t]? with
 | none=>simp[hsl]at hv
 | some u =>
  simp only[hsl,F6,FR]at hv
  cases hm:bF t ks with
  | false=>simp only[hm,cond_false]at hv;subst hv;exact trivial
  | true =>
   simp only[hm,cond_true]at hv
   subst hv
   exact hs.slots t u hsl
theorem za {ks:List Nat} (hs:Sim w0 I0 st a ov w):Sim w0 I0 (g9 ks st) a ov w:=by
 obtain⟨g,hs⟩:=hs
 exact⟨g,un hs⟩
theorem aW {i:Nat}:∀{L:List Nat} {n k:Nat},j4 i n L=some k->n<=k/\L[k-n]? = some i
 | [],n,k,h=>by simp[j4]at h
 | b :: L, n, k, h => by
  simp only[j4]at h
  cases hb:b.beq i with
  | true =>
   simp only[hb,cond_true,FR]at h
   subst h
   have:=(az _ _).1 hb
   subst this
   simp
  | false =>
   simp only[hb,cond_false]at h
   obtain⟨h1,h2⟩:=aW h
   refine⟨by omega,?_⟩
   rw[show k-n=(k-(n+1))+1 by omega,List.getElem?_cons_succ]
   exact h2
theorem nj:∀{L:List Nat},ie L=true->∀(k k' i:Nat),L[k]? = some i->L[k']? = some i->k=k'
 | [],_,k,k',i,h,_=>by simp at h
 | b :: L, hn, k, k', i, h, h' => by
  simp only[ie,FS,Bool.not_eq_true']at hn
  have hnot:∀q,L[q]? = some b->False:=fun q hq=>by
   have:=(bL b L).2 (FZ hq)
   rw[this]at hn
   cases hn.1
  cases k with
  | zero =>
   cases k' with
   | zero=>rfl
   | succ k'=>simp at h h';subst h;exact(hnot k' h').elim
  | succ k =>
   cases k' with
   | zero=>simp at h h';subst h';exact(hnot k h).elim
   | succ k'=>simp at h h';rw[nj hn.2 k k' i h h']
theorem pO (look:Look) (f:CA->CA):∀(L:List Nat) (k:Nat),(oG look f L)[k]? = (L[k]?).map fun i=>(look i).map (BC.bS f)
 | [],k=>by simp[oG]
 | i::L,0=>by simp only[oG,List.getElem?_cons_zero,F6];cases look i<;>rfl
 | i::L,k+1=>by simp[oG,pO look f L k]
theorem pr (look:Look) (f:CA->CA):∀(L:List Nat),(oG look f L).length=L.length
 | []=>rfl
 | i::L=>by simp[oG,pr look f L]
theorem pg:∀(l:List AV) (k:Nat),(qh l)[k]? = (l[k]?).map AV.asTV
 | [],k=>by simp[qh]
 | v::l,0=>rfl
 | v::l,k+1=>by simp[qh,pg l k]
theorem pc:∀l:List AV,(qh l).length=l.length
 | []=>rfl
 | v::l=>by simp[qh,pc l]
theorem yf {v:AV} {u:Value} (h:bX w g look v u):bX w g look v.asTV u:=by
 cases v with
 | one c=>cases c<;>first|exact h|exact h.1
 | bl b=>have:u=.bool b:=h;subst this;exact Rep.lit _
 | _=>exact h
theorem Bq {L:List Nat} (hn:ie L=true) (hs:Sim w0 I0 st a ov w):Sim w0 I0 (jd L st) a ov w:=by
 obtain⟨g,hs⟩:=hs
 have hlook:∀k,(jd L st).look k=(L[k]?).bind fun i=>(st.look i).map (BC.bS (CA.ren L)):=fun k=>by
  simp only[jd,ASt.look,bi,List.getElem?_append,pr,pO]
  by_cases hk:k<L.length
  ·rw[if_pos hk,FQ hk]
   rfl
  ·have hL:L[k]? = none:=F5 (by omega)
   rw[if_neg hk,hL,List.getElem?_replicate]
   split<;>rfl
 obtain⟨g',hg'⟩:∃g':Gh,g'=⟨g.I,fun k=>g.ρ (nth 0 L k),fun k=>g.β (nth 0 L k),fun k=>g.φ (nth 0 L k),g.O⟩:=⟨_,rfl⟩
 have hat:∀{k i:Nat},L[k]? = some i->nth 0 L k=i:=fun h=>b7 h
 have eI:g'.I=g.I:=by rw[hg']
 have eO:g'.O=g.O:=by rw[hg']
 have hlk:∀{k i:Nat} {b:BC},L[k]? = some i->st.look i=some b->(jd L st).look k=some (b.bS (CA.ren L)):=fun{k i b} h1 h2=>by rw[hlook,h1];simp[h2]
 have inv:∀{k:Nat} {b:BC},(jd L st).look k=some b->∃i b0,L[k]? = some i/\st.look i=some b0/\b=b0.bS (CA.ren L):=fun{k b} h=>by
  rw[hlook]at h
  cases hk:L[k]? with
  | none=>simp[hk]at h
  | some i =>
   simp only[hk,Option.bind_some]at h
   cases hb:st.look i with
   | none=>simp[hb]at h
   | some b0=>simp only[hb,F6,FR]at h;exact⟨i,b0,rfl,hb,h.symm⟩
 have hf:∀c v,bW w g st.look c v->bW w g' (jd L st).look (c.ren L) v:=by
  intro c v h
  cases c with
  | t x=>exact⟨by rw[eI];exact h.1,h.2⟩
  | ptr i off =>
   simp only[CA.ren]
   split
   ·rename_i k hk
    replace hk:L[k]? = some i:=(aW hk).2
    obtain⟨cs,h1,h2⟩:=h
    exact⟨_,hlk hk h1,by rw[hg'];simp only[];rw[hat hk];exact h2⟩
   ·trivial
  | ref x off =>
   obtain⟨ad,cell,h1,h3⟩:=h
   exact⟨ad,cell,h1,fun j c hj=>⟨(h3 j c hj).1.mv (fun _ _=>rfl) (fun b hb=>by rw[eI];exact hb) eO,(h3 j c hj).2.1,by rw[eI];exact(h3 j c hj).2.2⟩⟩
  | tptr i r p k j =>
   simp only[CA.ren]
   split
   ·rename_i m hm
    replace hm:L[m]? = some i:=(aW hm).2
    obtain⟨xs,x,ad,l,cap,s,n,h1,h2,h3,h4,h5⟩:=h
    refine⟨xs,x,ad,l,cap,s,n,hlk hm h1,h2,?_,h4,h5⟩
    rw[hg'];simp only[];rw[hat hm];exact h3
   ·trivial
  | sref i r p =>
   simp only[CA.ren]
   split
   ·rename_i m hm
    replace hm:L[m]? = some i:=(aW hm).2
    obtain⟨xs,x,nd,h1,h2,h3,h4⟩:=h
    refine⟨xs,x,nd,hlk hm h1,h2,?_,h4⟩
    rw[hg'];simp only[];rw[hat hm];exact h3
   ·trivial
  | swin i r p lo len =>
   simp only[CA.ren]
   split
   ·rename_i m hm
    replace hm:L[m]? = some i:=(aW hm).2
    obtain⟨xs,x,u,nd,h1,h2,h3,h4,h5⟩:=h
    refine⟨xs,x,u,nd,hlk hm h1,h2,?_,h4,h5⟩
    rw[hg'];simp only[];rw[hat hm];exact h3
   ·trivial
  | yl n=>show v=.func (.yield (g'.O.y n)) #[] #[];rw[eO];exact h
  | ifp ty i =>
   simp only[CA.ren]
   split
   ·rename_i k hk
    replace hk:L[k]? = some i:=(aW hk).2
    obtain⟨cs,h1,h2⟩:=h
    exact⟨_,hlk hk h1,by rw[hg'];simp only[];rw[hat hk];exact h2⟩
   ·trivial
  | fn1 q i =>
   simp only[CA.ren]
   split
   ·rename_i k hk
    replace hk:L[k]? = some i:=(aW hk).2
    obtain⟨cs,h1,h2⟩:=h
    exact⟨_,hlk hk h1,by rw[hg'];simp only[];rw[hat hk];exact h2⟩
   ·trivial
  | psl i n =>
   simp only[CA.ren]
   split
   ·rename_i k hk
    replace hk:L[k]? = some i:=(aW hk).2
    obtain⟨cs,h1,h2⟩:=h
    exact⟨_,hlk hk h1,by rw[hg'];simp only[];rw[hat hk];exact h2⟩
   ·trivial
  | aptr i off len n =>
   simp only[CA.ren]
   split
   ·rename_i k hk
    replace hk:L[k]? = some i:=(aW hk).2
    obtain⟨cs,h1,h2,h3⟩:=h
    exact⟨_,hlk hk h1,h2,by rw[hg'];simp only[];rw[hat hk];exact h3⟩
   ·trivial
  | may i ty =>
   simp only[CA.ren]
   split
   ·rename_i k hk
    replace hk:L[k]? = some i:=(aW hk).2
    obtain⟨cs,h1,h2,h3⟩:=h
    refine⟨_,hlk hk h1,?_,?_⟩
    ·rw[hg'];simp only[];rw[hat hk];exact h2
    ·rw[hg'];simp only[];rw[hat hk];exact h3
   ·trivial
  | undef=>exact h
  | junk=>exact h
 have foot:∀{k b:Nat},Foot g' (jd L st).look k b->∃i,L[k]? = some i/\Foot g st.look i b:=by
  rintro k b (⟨cs,h1,h2⟩|⟨xs,r,h1,h2,h3⟩)
  ·obtain⟨i,b0,i1,i2,i3⟩:=inv h1
   refine⟨i,i1,?_⟩
   rw[hg']at h2
   simp only[]at h2
   rw[hat i1]at h2
   cases b0 with
   | cells cs0=>exact .inl ⟨cs0,i2,h2⟩
   | tree xs=>simp[BC.bS]at i3
  ·obtain⟨i,b0,i1,i2,i3⟩:=inv h1
   refine⟨i,i1,?_⟩
   rw[hg']at h3
   simp only[]at h3
   rw[hat i1]at h3
   cases b0 with
   | cells cs0=>simp[BC.bS]at i3
   | tree xs0=>simp only[BC.bS,BC.tree.injEq]at i3;subst i3;exact .inr ⟨xs,r,i2,h2,h3⟩
 refine⟨g',hs.below,by rw[eI];exact hs.sub,by rw[eI];exact hs.lt,by rw[eI];exact hs.old,by simp only[jd,pc,bT];exact hs.len,hs.defers,fun t v hv=>?_,by simp only[jd,pc,bT];exact hs.olen,?_,fun k cs hl=>?_,fun k xs hl r x hx=>?_,
  fun k b hb=>?_,fun k k' b hb hb'=>?_,fun k xs r r' b hl h1 h2 h3 h4=>?_,fun b hb=>hb.elim,hs.base,by rw[eO];exact hs.out⟩
 ·simp only[jd,pg]at hv
  cases hm:(cg (CA.ren L) st.slots)[t]? with
  | none=>simp[hm]at hv
  | some u =>
   simp only[hm,F6,FR]at hv
   subst hv
   exact yf (fO (w':=w) (g':=g') (st':=jd L st) hf (fun _ _=>rfl) (fun b hb=>by rw[eI];exact hb) (l:=st.slots) (vs:=fun t=>a.tmps.getD t undef) hs.slots t u hm)
 ·intro t v hv
  simp only[jd,pg]at hv
  cases hm:(cg (CA.ren L) st.out)[t]? with
  | none=>simp[hm]at hv
  | some u =>
   simp only[hm,F6,FR]at hv
   subst hv
   exact yf (fO (w':=w) (g':=g') (st':=jd L st) hf (fun _ _=>rfl) (fun b hb=>by rw[eI];exact hb) (l:=st.out) (vs:=fun t=>ov.getD t undef) hs.outs t u hm)
 ·obtain⟨i,b0,i1,i2,i3⟩:=inv hl
  cases b0 with
  | tree xs=>simp[BC.bS]at i3
  | cells cs0 =>
   simp only[BC.bS,BC.cells.injEq]at i3
   subst i3
   obtain⟨vs,ty,c1,c2⟩:=hs.cells i cs0 i2
   refine⟨vs,ty,?_,c2.mapC hf⟩
   rw[hg'];simp only[];rw[hat i1];exact c1
 ·obtain⟨i,b0,i1,i2,i3⟩:=inv hl
  cases b0 with
  | cells cs0=>simp[BC.bS]at i3
  | tree xs0 =>
   simp only[BC.bS,BC.tree.injEq]at i3
   subst i3
   have:=hs.trees i xs i2 r x hx
   rw[hg'];simp only[];rw[hat i1];exact this
 ·obtain⟨i,i1,i2⟩:=foot hb
  rw[eI]
  exact hs.foot i b i2
 ·obtain⟨i,i1,i2⟩:=foot hb
  obtain⟨j,j1,j2⟩:=foot hb'
  have:=hs.apart i j b i2 j2
  subst this
  exact nj hn k k' i i1 j1
 ·obtain⟨i,b0,i1,i2,i3⟩:=inv hl
  cases b0 with
  | cells cs0=>simp[BC.bS]at i3
  | tree xs0 =>
   simp only[BC.bS,BC.tree.injEq]at i3
   subst i3
   rw[hg']at h3 h4
   simp only[]at h3 h4
   rw[hat i1]at h3 h4
   exact hs.apartR i xs r r' b i2 h1 h2 h3 h4
theorem kS {an:Ann} {k:ASt->Prg T} {r:T} (hs:Sim w0 I0 st a ov w) (h:(u5 an st k).goes C J r):∃st',(k st').goes C J r/\Sim w0 I0 st' a ov w:=by
 unfold u5 at h
 obtain⟨st1,h1,hs1⟩:=ot hs h
 obtain⟨st2,h2,hs2⟩:=iz hs1 h1
 unfold yN at h2
 cases hc:ie (g8 (g9 an.keep (ia (ko an.frz st2) an.kill)))&&(g8 (g9 an.keep (ia (ko an.frz st2) an.kill))).length.ble dY&&dY.ble (g9 an.keep (ia (ko an.frz st2) an.kill)).boxes.length with
 | false=>rw[hc]at h2;exact h2.elim
 | true =>
  rw[hc]at h2
  simp only[FS]at hc
  exact⟨_,h2,Bq hc.1.1 (za (kA (oD hs2)))⟩
end
end Go.Ab
end
section
namespace Go.Ab
open Go.RowKit
theorem lV {a b:Nat} (h:a<b):a.blt b=true:=by simpa using h
theorem mR {a b:Nat} (h:b<=a):a.blt b=false:=by
  cases hb:a.blt b with
  | false=>rfl
  | true => have : a < b := by simpa using hb
            omega
theorem oS {a b:Nat} (h:a.blt b=true):a<b:=by simpa using h
theorem oZ {a b:Nat} (h:a.blt b=false):b<=a:=by
 rcases Nat.lt_or_ge a b with h'|h'
 ·rw[lV h']at h;cases h
 ·exact h'
def gJ (n m:Nat):Array Bool:=((List.range n).map fun i=>i.blt m).toArray
theorem fD (n m:Nat):(gJ n m).size=n:=by simp[gJ]
theorem cA {n m i:Nat} (h:i<n) (d:Bool):(gJ n m).getD i d=i.blt m:=by
 simp[gJ,h]
theorem Bx (n:Nat):gJ n 0=Array.replicate n false:=by
 apply Array.ext
 ·simp[gJ]
 ·intro i h1 h2
  have:i.blt 0=false:=mR (Nat.zero_le _)
  simpa[gJ]using this
theorem uO {n m:Nat} {listed:Array Bool} (hsz:listed.size=n) (h1:∀i,i<n->i<m->listed.getD i true=true) (h2:∀i,i<n->m<=i->listed.getD i true=false):listed=gJ n m:=by
 apply Array.ext
 ·rw[hsz,fD]
 ·intro i hi1 hi2
  have hin:i<n:=by omega
  have e1:listed.getD i true=listed[i]:=by simp[hi1]
  have e2:(gJ n m).getD i true=(gJ n m)[i]:=by simp[hi2]
  rw[<-e1,<-e2,cA hin]
  by_cases hm:i<m
  ·rw[h1 i hin hm,lV hm]
  ·rw[h2 i hin (by omega),mR (by omega)]
theorem su {bs:List Nat} {k:Nat}:∀{l:List Oper} {i:Nat},nA bs k i l=true->∀j,j<l.length->k<=i+j->∀q,q<k->(nth 0 bs (i+j)).testBit q=true
 | [],i,_,j,hj,_,q,_=>by simp at hj
 | o :: l, i, h, j, hj, hk, q, hq => by
  simp only[nA]at h
  cases hb:i.blt k with
  | true =>
   simp only[hb,cond_true]at h
   have hik:i<k:=by simpa using hb
   cases j with
   | zero=>omega
   | succ j =>
    have:=su h j (by simpa using hj) (by omega) q hq
    rwa[show i+1+j=i+(j+1) by omega]at this
  | false =>
   simp only[hb,cond_false,FS]at h
   obtain⟨h0,h⟩:=h
   cases j with
   | zero =>
    have h1:(nth 0 bs i) &&& (2 ^ k-1)=2 ^ k-1:=(az _ _).1 h0
    have h2:((nth 0 bs i) &&& (2 ^ k-1)).testBit q=true:=by
     rw[h1,Nat.testBit_two_pow_sub_one]
     simpa using hq
    rw[Nat.testBit_and]at h2
    simp only[FS]at h2
    simpa using h2.1
   | succ j =>
    have hik:k<=i:=oZ hb
    have:=su h j (by simpa using hj) (by omega) q hq
    rwa[show i+1+j=i+(j+1) by omega]at this
theorem zi {ops:List Oper} {k:Nat} (h:oq ops k=true) {i:Nat} (hi:i<ops.length) (hk:k<=i) {q:Nat} (hq:q<k):(nth 0 (behind ops) i).testBit q=true:=by
 have:=su h i hi (by omega) q hq
 rwa[Nat.zero_add]at this
section
variable {P:Program} {E:Env} {C:Cal} {w0:Bs} {I0:Nat->Prop} {ov:List Value} {Q:Exit->Act->World->Prop} {ex:List (List Nat)}
theorem iu {ops:Array Oper} (hok:bB ops.toList=true) {listed:Array Bool} (hsz:listed.size=ops.size)
  (hcl:∀(k:Nat) (o:Oper),ops[k]? = some o->listed.getD k true=true->∀e∈o.after,Region.binds .any e=true->listed.getD e.on false=true) :
  ∀(k:Nat) (ok_:Oper),ops[k]? = some ok_->(∀e∈ok_.after,Region.binds .any e=true->listed.getD e.on false=true)->∀q,(nth 0 (behind ops.toList) k).testBit q=true->listed.getD q true=true:=by
 intro k
 induction k using Nat.strongRecOn with
 | _ k ihk =>
  intro ok_ hk hed q hq
  rw[mo (by rw[FU];exact hk)]at hq
  obtain⟨e,he,hbn,hor⟩:=j9 hq
  have hl:=hed e (by simpa using he) hbn
  have hlt2:=bw ((cY ops.toList 0 hok k ok_ (by rw[FU];exact hk)).1) e he hbn
  simp only[Nat.zero_add]at hlt2
  have hks:k<ops.size:=(FV.1 hk).1
  have hl':listed.getD e.on true=true:=by
   have:e.on<listed.size:=by omega
   simpa[this]using hl
  rcases hor with h|h
  ·rw[<-h];exact hl'
  ·have hnt:nth 0 ((behind ops.toList).take k) e.on=nth 0 (behind ops.toList) e.on:=by rw[bi,bi,List.getElem?_take_of_lt hlt2]
   rw[hnt]at h
   have hon:ops[e.on]? = some (ops[e.on]'(by omega)):=Array.getElem?_eq_getElem (by omega)
   exact ihk e.on hlt2 _ hon (hcl e.on _ hon hl') q h
theorem ye {ops:Array Oper} (hok:bB ops.toList=true) {listed:Array Bool} (hsz:listed.size=ops.size) {i:Nat} (hi:i<ops.size) (h0:listed.getD i true=false) (hmin:∀j,j<i->listed.getD j true=true) :
  i∈Region.ready .any ops listed:=by
 rw[mem_ready]
 refine⟨h0,ops[i]'hi,Array.getElem?_eq_getElem hi,fun e he hb=>?_⟩
 have hlt:=bw ((cY ops.toList 0 hok i _ (by rw[FU];exact Array.getElem?_eq_getElem hi)).1) e (by simpa using he) hb
 simp only[Nat.zero_add]at hlt
 have:=hmin e.on hlt
 have hlt2:e.on<listed.size:=by omega
 simpa[hlt2]using this
theorem yA {U:List Nat} {m:Nat}:∀{k:Nat},qP U m k=true->∀q,q<k->q∉U->m.testBit q=true
 | 0,_,q,hq,_=>by omega
 | k + 1, h, q, hq, hne => by
  simp only[qP,FS,Bool.or_eq_true,bL]at h
  rcases Nat.lt_or_ge q k with h1|h1
  ·exact yA h.2 q h1 hne
  ·have:q=k:=by omega
   subst this
   exact h.1.resolve_left hne
theorem pF {bs U:List Nat} {k:Nat}:∀{l:List Oper} {i:Nat},lI bs U k i l=true->∀j,j<l.length->k<=i+j->∀q,q<k->q∉U->(nth 0 bs (i+j)).testBit q=true
 | [],i,_,j,hj,_,q,_,_=>by simp at hj
 | o :: l, i, h, j, hj, hk, q, hq, hne => by
  simp only[lI]at h
  cases hb:i.blt k with
  | true =>
   simp only[hb,cond_true]at h
   have hik:i<k:=by simpa using hb
   cases j with
   | zero=>omega
   | succ j =>
    have:=pF h j (by simpa using hj) (by omega) q hq hne
    rwa[show i+1+j=i+(j+1) by omega]at this
  | false =>
   simp only[hb,cond_false,FS]at h
   obtain⟨h0,h⟩:=h
   cases j with
   | zero=>exact yA h0 q hq hne
   | succ j =>
    have hik:k<=i:=oZ hb
    have:=pF h j (by simpa using hj) (by omega) q hq hne
    rwa[show i+1+j=i+(j+1) by omega]at this
theorem wA {ops:List Oper} {U:List Nat} {k:Nat} (h:tf ops U k=true) {i:Nat} (hi:i<ops.length) (hk:k<=i) {q:Nat} (hq:q<k) (hne:q∉U):(nth 0 (behind ops) i).testBit q=true:=by
 have:=pF h i hi (by omega) q hq hne
 rwa[Nat.zero_add]at this
theorem ud {bs U:List Nat} {k:Nat}:∀{l:List Oper} {i:Nat},nH bs U k i l=true->∀j,j<l.length->i+j<k->i+j∉U->∀u∈U,(nth 0 bs (i+j)).testBit u=false
 | [],i,_,j,hj,_,_,_,_=>by simp at hj
 | o :: l, i, h, j, hj, hk, hn, u, hu => by
  simp only[nH]at h
  rw[lV (show i<k by omega)]at h
  simp only[cond_true,FS,Bool.or_eq_true,bL,List.all_eq_true,Bool.not_eq_true']at h
  cases j with
  | zero=>exact h.1.resolve_left hn u hu
  | succ j =>
   have:=ud h.2 j (by simpa using hj) (by omega) (by rwa[show i+1+j=i+(j+1) by omega]) u hu
   rwa[show i+1+j=i+(j+1) by omega]at this
def oU (all:List Oper) (c:Oper) (u:Nat):Prop:=∃o d,all[u]? = some o/\lv o=true/\o.dst=some d/\d∉dZ c.op.operands.toList/\c.dst≠some d
structure zl (all:List Oper) (j:Nat) (U:List Nat) (c:Oper):Prop where
 hj:all[j]? = some c
 b1:tf all U j=true
 b2:tf all U (j+1)=true
 none_:∀i,i<all.length->i<=j->i∉U->∀u∈U,(nth 0 (behind all) i).testBit u=false
 grd:c.guard=none
 lt:∀u∈U,u<j
 ld:∀u∈U,oU all c u
theorem yz {all:List Oper} {j:Nat} {U:List Nat} (h:ju all j=some U):∃c,zl all j U c/\∃p:Nat->Bool,U=(List.range j).filter p:=by
 unfold ju at h
 split at h
 ·rename_i c hc
  rw[o0]at h
  cases hk:yW all j ((List.range j).filter fun q=>!(waited (behind all) q j 0 all)) c with
  | false=>rw[hk]at h;cases h
  | true =>
   rw[hk]at h
   simp only[cond_true,FR]at h
   subst h
   simp only[yW,FS,List.all_eq_true]at hk
   obtain⟨⟨k2,k3⟩,k4,k5,k6⟩:=hk
   refine⟨c,⟨hc,k2,k3,fun i hi hij hn u hu=>?_,by simpa using k5,fun u hu=>?_,fun u hu=>?_⟩,_,rfl⟩
   ·have:=ud k4 i hi (by omega) (by rwa[Nat.zero_add]) u hu
    rwa[Nat.zero_add]at this
   ·simpa using(List.mem_filter.1 hu).1
   ·have k:=k6 u hu
    split at k
    ·rename_i o ho
     simp only[FS]at k
     obtain⟨k1,k⟩:=k
     split at k
     ·rename_i d hd
      simp only[FS,dV,Bool.not_eq_true']at k
      refine⟨o,d,ho,k1,hd,fun hm=>?_,fun e=>?_⟩
      ·rw[<-bL]at hm
       rw[hm]at k
       cases k.1
      ·rw[e]at k
       simp[unlike]at k
     ·cases k
    ·cases k
 ·cases h
def xF (ops:Array Oper) (listed:Array Bool):Prop:=∀(k:Nat) (o:Oper),ops[k]? = some o->listed.getD k true=true->∀e∈o.after,Region.binds .any e=true->listed.getD e.on false=true
theorem BS {ro:Option Nat} (hE:gh P w0.G E C) {ops:Array Oper} (hok:bB ops.toList=true) {m:Nat} (hm:m<=ops.size) {U:List Nat} (hbar:∀i,m<=i->i<ops.size->∀q,q<m->q∉U->(nth 0 (behind ops.toList) i).testBit q=true) (hbar2:∀i,m<i->i<ops.size->(nth 0 (behind ops.toList) i).testBit m=true)
  {fin:ASt} {fe:Nat} (hQ:∀a w,Sim w0 I0 fin a ov w->wpAnyIn (Rd ro) 0 P .any ops Q fe (gJ ops.size m) a w)
  (hL : m < ops.size → ∀ (listed : Array Bool) (st : ASt) (a : Act) (w : World), listed.size = ops.size → xF ops listed → (∀ k, m ≤ k → k < ops.size → listed.getD k true = false) → (∀ q ∈ unlisted m listed, q ∈ U) → unlisted m listed ≠ [] →
   da E C ex ops.toList (unlisted m listed) st fin->Sim w0 I0 st a ov w->wpOpIn (Rd ro) 0 P ops Q m (fun a' w'=>wpAnyIn (Rd ro) 0 P .any ops Q ((unlisted m listed).length-1+fe) (listed.setIfInBounds m true) a' w') a w) :
  ∀(n:Nat) (listed:Array Bool) (st:ASt) (a:Act) (w:World),listed.size=ops.size->(unlisted m listed).length=n ->
   (∀(k:Nat) (o:Oper),ops[k]? = some o->listed.getD k true=true->∀e∈o.after,Region.binds .any e=true->listed.getD e.on false=true) ->
   (∀k,m<=k->k<ops.size->listed.getD k true=false) ->
   da E C ex ops.toList (unlisted m listed) st fin->Sim w0 I0 st a ov w->wpAnyIn (Rd ro) 0 P .any ops Q (n+fe) listed a w:=by
 intro n
 induction n with
 | zero =>
  intro listed st a w hsz hlen hcl hup h hs
  have hnil:unlisted m listed=[]:=List.eq_nil_of_length_eq_zero hlen
  rw[hnil]at h
  cases h
  have:listed=gJ ops.size m:=uO hsz (fun i hi him=>by
   cases hb:listed.getD i true with
   | true=>rfl
   | false =>
    exfalso
    have:i∈unlisted m listed:=by simp only[unlisted,List.mem_filter,List.mem_range,Bool.not_eq_true'];exact⟨him,hb⟩
    rw[hnil]at this
    cases this) (fun i hi him=>hup i him hi)
  rw[this,Nat.zero_add]
  exact hQ a w hs
 | succ n ih =>
  intro listed st a w hsz hlen hcl hup h hs
  rw[show n+1+fe=(n+fe)+1 by omega]
  obtain⟨i0,l0,hu⟩:∃i0 l0,unlisted m listed=i0::l0:=by
   cases hu:unlisted m listed with
   | nil=>rw[hu]at hlen;cases hlen
   | cons i l=>exact⟨i,l,rfl⟩
  have hsortedA:(unlisted m listed).Pairwise (· < ·):=List.Pairwise.filter _ List.pairwise_lt_range
  have hmem0:i0∈unlisted m listed:=by rw[hu];exact FX
  have hmem0':=hmem0
  simp only[unlisted,List.mem_filter,List.mem_range,Bool.not_eq_true']at hmem0'
  have hmin:∀j,j<i0->listed.getD j true=true:=by
   intro j hj
   cases hb:listed.getD j true with
   | true=>rfl
   | false =>
    exfalso
    have hjm:j∈unlisted m listed:=by
     simp only[unlisted,List.mem_filter,List.mem_range,Bool.not_eq_true']
     exact⟨by omega,hb⟩
    rw[hu]at hjm hsortedA
    rcases List.mem_cons.1 hjm with h|h
    ·omega
    ·have:=(List.pairwise_cons.1 hsortedA).1 j h
     omega
  have hr0:i0∈Region.ready .any ops listed:=ye hok hsz (by omega) hmem0'.2 hmin
  refine⟨fun hr=>(by rw[hr]at hr0;cases hr0),fun i hi=>?_⟩
  rw[mem_ready]at hi
  obtain⟨h0,o,ho,hedges⟩:=hi
  have hlt:i<ops.size:=(FV.1 ho).1
  by_cases him:i<m
  case neg =>
   have hmi:m<=i:=by omega
   have hall:∀q∈unlisted m listed,q∈U:=fun q hq=>by
    simp only[unlisted,List.mem_filter,List.mem_range,Bool.not_eq_true']at hq
    apply Classical.byContradiction
    intro hne
    have:=iu hok hsz hcl i o ho hedges q (hbar i hmi hlt q hq.1 hne)
    rw[hq.2]at this
    cases this
   have himm:i=m:=by
    rcases Nat.lt_or_ge m i with h'|h'
    ·exfalso
     have:=iu hok hsz hcl i o ho hedges m (hbar2 i h' hlt)
     rw[(by
      have:=hup m (Nat.le_refl _) (by omega)
      exact this:listed.getD m true=false)]at this
     cases this
    ·omega
   subst himm
   have:=hL hlt listed st a w hsz hcl hup hall (by rw[hu];simp) h hs
   rwa[hlen,Nat.add_sub_cancel]at this
  have hmem:i∈unlisted m listed:=by
   simp only[unlisted,List.mem_filter,List.mem_range,Bool.not_eq_true']
   exact⟨him,h0⟩
  obtain⟨pre,post,hsplit⟩:=List.append_of_mem hmem
  have hsorted:=hsortedA
  rw[hsplit]at hsorted h
  have hpre:∀j∈pre,j<i/\(nth 0 (behind ops.toList) i).testBit j=false:=by
   intro j hj
   refine⟨(List.pairwise_append.1 hsorted).2.2 j hj i FX,?_⟩
   cases hb:(nth 0 (behind ops.toList) i).testBit j with
   | false=>rfl
   | true =>
    exfalso
    have h1:=iu hok hsz hcl i o ho hedges j hb
    have:j∈unlisted m listed:=by rw[hsplit];exact List.mem_append_left _ hj
    simp only[unlisted,List.mem_filter,List.mem_range,Bool.not_eq_true']at this
    rw[this.2]at h1
    cases h1
  obtain⟨s1,k1,k2⟩:=m6 pre i o post st fin (by rw[FU];exact ho) hpre hok h
  refine wpOpIn_mono (fun a' w' hs'=>?_) (mA hE (i:=af ex ops.toList (behind ops.toList) i o) ho hs k1)
  have hil:i<listed.size:=by omega
  have hnew:unlisted m (listed.setIfInBounds i true)=pre++post:=by
   have hnd:(pre++i::post).Nodup:=hsorted.imp (fun h=>Nat.ne_of_lt h)
   have:unlisted m (listed.setIfInBounds i true)=(unlisted m listed).filter (fun j=>j≠i):=by
    simp only[unlisted,List.filter_filter]
    apply List.filter_congr
    intro j hj
    by_cases hji:j=i
    ·subst hji
     simp[hil]
    ·have:(listed.setIfInBounds i true).getD j true=listed.getD j true:=getD_set_ne true (fun e=>hji e.symm)
     rw[this]
     simp[hji]
   rw[this,hsplit,List.filter_append,List.filter_cons]
   have hni:i∉pre/\i∉post:=by
    rw[List.nodup_append]at hnd
    refine⟨fun hm=>hnd.2.2 i hm i FX rfl,(List.nodup_cons.1 hnd.2.1).1⟩
   simp only[ne_eq,not_true_eq_false,decide_false,Bool.false_eq_true,if_false]
   rw[List.filter_eq_self.2 (fun j hj=>by simp;rintro rfl;exact hni.1 hj),List.filter_eq_self.2 (fun j hj=>by simp;rintro rfl;exact hni.2 hj)]
  refine ih (listed.setIfInBounds i true) s1 a' w' (by simpa using hsz) ?_ ?_ ?_ (by rw[hnew];exact k2) hs'
  ·rw[hnew]
   rw[hsplit]at hlen
   simp at hlen ⊢
   omega
  ·intro k ok_ hk hl e he hb
   by_cases hki:k=i
   ·subst hki
    rw[ho]at hk
    cases hk
    exact getD_set_true (hedges e he hb)
   ·rw[getD_set_ne true (fun e=>hki e.symm)]at hl
    exact getD_set_true (hcl k ok_ hk hl e he hb)
  ·intro k hk hks
   rw[getD_set_ne true (by omega)]
   exact hup k hk hks
theorem yw {acc:List Nat}:∀{es:List Edge} {e:Edge},e∈es->Region.binds .any e=true->(gw acc es).testBit e.on=true
 | [],e,h,_=>by cases h
 | e' :: es, e, h, hb => by
  simp only[gw]
  rcases List.mem_cons.1 h with rfl|h
  ·rw[hb]
   simp only[cond_true,Nat.testBit_or,Nat.testBit_two_pow_self,Bool.or_true,Bool.true_or]
  ·have:=yw (acc:=acc) h hb
   cases Region.binds .any e' with
   | false=>exact this
   | true=>simp only[cond_true,Nat.testBit_or,this,Bool.true_or]
theorem mK {ops:List Oper}:∀{l l':List Nat} {s s1 s2:ASt},da E C ex ops l s s1->da E C ex ops l' s1 s2->da E C ex ops (l++l') s s2
 | [],_,_,_,_,h,h'=>by cases h;exact h'
 | i::l,_,_,_,_,h,h'=>by cases h with|cons ho h r=>exact .cons ho h (mK r h')
theorem tW {n j m:Nat} {listed:Array Bool} (hsz:listed.size=n) (hup:∀k,j<=k->k<n->listed.getD k true=false) (hj:j+1<=m) (hm:m<=n):unlisted m (listed.setIfInBounds j true)=unlisted j listed++List.range' (j+1) (m-(j+1)):=by
 have e1:m=j+(1+(m-(j+1))):=by omega
 unfold unlisted
 conv=>lhs;rw[e1,List.range_add,List.range_add]
 simp only[List.map_append,List.filter_append]
 have h1:(List.range j).filter (fun i=>!(listed.setIfInBounds j true).getD i true)=(List.range j).filter (fun i=>!listed.getD i true):=by
  apply List.filter_congr
  intro i hi
  have:i<j:=by simpa using hi
  rw[getD_set_ne true (by omega)]
 have h2:((List.range 1).map (j + ·)).filter (fun i=>!(listed.setIfInBounds j true).getD i true)=[]:=by
  rw[show(List.range 1).map (j + ·)=[j] from rfl,List.filter_cons,F8,Array.getElem?_setIfInBounds_self_of_lt (by omega)]
  rfl
 have h4:(((List.range (m-(j+1))).map (1 + ·)).map (j + ·)).filter (fun i=>!(listed.setIfInBounds j true).getD i true)=List.range' (j+1) (m-(j+1)):=by
  rw[List.filter_eq_self.2,List.range'_eq_map_range,List.map_map]
  ·apply List.map_congr_left
   intro k hk
   simp only[Function.comp]
   omega
  ·intro i hi
   simp only[List.mem_map,List.mem_range]at hi
   obtain⟨k1,⟨k2,hk2,rfl⟩,rfl⟩:=hi
   rw[getD_set_ne true (by omega),hup _ (by omega) (by omega)]
   rfl
 rw[h1,h2,h4]
 rfl
theorem jA {n j m:Nat} (hj:j<=m) (hm:m<=n):unlisted m (gJ n j)=[]++List.range' j (m-j):=by
 have e1:m=j+(m-j):=by omega
 unfold unlisted
 conv=>lhs;rw[e1,List.range_add,List.filter_append]
 have h1:(List.range j).filter (fun i=>!(gJ n j).getD i true)=[]:=by
  rw[List.filter_eq_nil_iff]
  intro i hi
  have:i<j:=by simpa using hi
  rw[cA (by omega),lV this]
  simp
 have h2:((List.range (m-j)).map (j + ·)).filter (fun i=>!(gJ n j).getD i true)=(List.range (m-j)).map (j + ·):=by
  rw[List.filter_eq_self]
  intro i hi
  simp only[List.mem_map,List.mem_range]at hi
  obtain⟨k,hk,rfl⟩:=hi
  rw[cA (by omega),mR (by omega)]
  rfl
 rw[h1,h2,List.range'_eq_map_range]
theorem rI {i:Item} {ops:List Oper} {st st':ASt} {d:Tmp} (hl:lv i.o=true) (hd:i.o.dst=some d) (h:OpN E C ops i st st'):∃e,
  (opL E (st.nid (some d)) (banned (aZ i.ban st.base) st.look) i.o.op (i.o.op.operands.toList.map st.ev)).hits C e/\e.nfE.app st (some d)=some st':=by
 have hg:i.o.guard=none:=by
  simp only[lv,FS,Option.isNone_iff_eq_none]at hl
  exact hl.1
 rcases h with⟨_,e,h1,_,h3⟩|⟨b,hb,hne,_⟩
 ·rw[hd]at h1 h3
  exact⟨e,h1,h3⟩
 ·rw[aN (by rw[hg];rfl)]at hb
  exact absurd (Option.some.inj hb).symm hne
theorem Db (hE:gh P w0.G E C) {i:Item} {ops:List Oper} {st st':ASt} {a:Act} {w:World} {d:Tmp} (hl:lv i.o=true) (hd:i.o.dst=some d) (hs:Sim w0 I0 st a ov w) (h:OpN E C ops i st st'):∃val,Sim w0 I0 st' (a.put (some d) val) ov w:=by
 obtain⟨e,h1,h3⟩:=rI hl hd h
 obtain⟨g,hs⟩:=hs
 obtain⟨st1,h4,h5⟩:=Aq h3
 have fin:∀{o:Oper},o.dst=some d->qy P w0 I0 ov o st1 a w->∃val,Sim w0 I0 st' (a.put (some d) val) ov w:=fun{o} ho ⟨u,_,hsim⟩=>⟨u,h5 _ _ _ _ _ (by rwa[ho]at hsim)⟩
 simp only[lv,FS]at hl
 have hl:=hl.2
 revert h1 hl
 cases i.o.op with
 | load t x=>intro h1 _;exact fin (o:=⟨some d,.load t x,i.o.type,i.o.pos,i.o.after,i.o.guard⟩) rfl (Dx hE.ty (oV _ st) hs (by simpa[Op.operands]using h1) h4)
 | fieldAddr t x f=>intro h1 _;exact fin (o:=⟨some d,.fieldAddr t x f,i.o.type,i.o.pos,i.o.after,i.o.guard⟩) rfl (uD hE.ty hs (by simpa[Op.operands]using h1) h4)
 | move x =>
  intro h1 _
  have he:e=.val (st.ev x):=by simp only[Op.operands]at h1;exact h1.symm
  subst he
  exact fin (o:=⟨some d,.move x,i.o.type,i.o.pos,i.o.after,i.o.guard⟩) rfl (lm hs (u:=a.eval x) (by simp[execOp]) (hs.ev x) h4)
 | _=>intro _ hl;cases hl
def uT (a:Act) (vals:List (Tmp × Value)):Act:=vals.foldl (fun a p=>a.put (some p.1) p.2) a
theorem vl (hE:gh P w0.G E C) {ops:List Oper} {c:Oper} {w:World}:∀{S:List Nat} {st st':ASt} {a:Act},(∀u∈S,oU ops c u)->Sim w0 I0 st a ov w->da E C ex ops S st st'->∃vals:List (Tmp × Value),vals.map (fun p=>some p.1)=d0 ops S/\Sim w0 I0 st' (uT a vals) ov w
 | [],_,_,_,_,hs,h=>by cases h;exact⟨[],rfl,hs⟩
 | u::S,st,st',a,hl,hs,h=>by
  cases h with
  | cons ho h r =>
  obtain⟨o,d,h1,h2,h3,_⟩:=hl u FX
  rw[ho]at h1
  cases h1
  obtain⟨v,hs1⟩:=Db hE (i:=af ex ops (behind ops) u _) h2 h3 hs h
  obtain⟨vals,h4,h5⟩:=vl hE (fun u hu=>hl u (FY _ hu)) hs1 r
  exact⟨(d,v)::vals,by simp only[List.map_cons,h4,d0,ho,Option.bind_some,h3],h5⟩
theorem eqV_eq {v u:Value} (h:eqV v u=true):v=u:=by
 unfold eqV at h
 split at h
 ·rename_i a b
  have hb:Int.beq' a b=true:=by
   revert h
   cases Int.beq' a b with
   | true=>intro _;rfl
   | false=>intro h;cases h
  rw[show a=b from by simpa[Int.beq'_eq]using hb]
 ·rename_i a b
  have hb:Int.beq' a b=true:=by
   revert h
   cases Int.beq' a b with
   | true=>intro _;rfl
   | false=>intro h;cases h
  rw[show a=b from by simpa[Int.beq'_eq]using hb]
 ·rename_i a b
  have hb:Int.beq' a b=true:=by
   revert h
   cases Int.beq' a b with
   | true=>intro _;rfl
   | false=>intro h;cases h
  rw[show a=b from by simpa[Int.beq'_eq]using hb]
 ·rename_i a b
  rw[show a=b from by simpa using h]
 ·rfl
 ·cases h
mutual
theorem CO:∀(x y:TV),eqT x y=true->x=y
 | .lit v,.lit u,h=>by rw[eqV_eq (v:=v) (u:=u) (by simpa only[eqT]using h)]
 | .sl o s xs,.sl o' s' xs',h=>by
  simp only[eqT,FS,az]at h
  rw[show o=o' from by simpa using h.1,h.2.1,xh xs xs' h.2.2]
 | .agg cs,.agg cs',h=>by rw[wD cs cs' (by simpa only[eqT]using h)]
 | .hole,.hole,_=>rfl
 | .lit _,.sl _ _ _,h=>by cases h
 | .lit _,.agg _,h=>by cases h
 | .lit _,.tup _,h=>by cases h
 | .lit _,.buf _ _,h=>by cases h
 | .lit _,.hole,h=>by cases h
 | .sl _ _ _,.lit _,h=>by cases h
 | .sl _ _ _,.agg _,h=>by cases h
 | .sl _ _ _,.tup _,h=>by cases h
 | .sl _ _ _,.buf _ _,h=>by cases h
 | .sl _ _ _,.hole,h=>by cases h
 | .agg _,.lit _,h=>by cases h
 | .agg _,.sl _ _ _,h=>by cases h
 | .agg _,.tup _,h=>by cases h
 | .agg _,.buf _ _,h=>by cases h
 | .agg _,.hole,h=>by cases h
 | .tup _,_,h=>by cases h
 | .buf _ _,_,h=>by cases h
 | .hole,.lit _,h=>by cases h
 | .hole,.sl _ _ _,h=>by cases h
 | .hole,.agg _,h=>by cases h
 | .hole,.tup _,h=>by cases h
 | .hole,.buf _ _,h=>by cases h
theorem wD:∀(x y:List TV),C4 x y=true->x=y
 | [],[],_=>rfl
 | x::l,y::r,h=>by
  simp only[C4,FS]at h
  rw[CO x y h.1,wD l r h.2]
 | [],_::_,h=>by cases h
 | _::_,[],h=>by cases h
theorem xh:∀(x y:List (List TV)),Ar x y=true->x=y
 | [],[],_=>rfl
 | x::l,y::r,h=>by
  simp only[Ar,FS]at h
  rw[wD x y h.1,xh l r h.2]
 | [],_::_,h=>by cases h
 | _::_,[],h=>by cases h
end
theorem AI {x y:TV} (h:t9 x y=true):x=y:=by
 unfold t9 at h
 rcases Bool.or_eq_true _ _ |>.mp h with h|h
 ·exact CO x y h
 ·exact @of_decide_eq_true _ (Classical.propDecidable _) h
theorem AX:∀{p q:List (Nat × Nat)},EK p q=true->p=q
 | [],[],_=>rfl
 | a::p,b::q,h=>by
  simp only[EK,FS,az]at h
  rw[show a=b from Prod.ext h.1 h.2.1,AX h.2.2]
 | [],_::_,h=>by cases h
 | _::_,[],h=>by cases h
theorem AL {a b:CA} (h:Es a b=true):a=b/\a≠.junk:=by
 unfold Es at h
 split at h
 ·simp only[FS,az]at h
  obtain⟨rfl,rfl⟩:=h
  exact⟨rfl,by simp⟩
 ·simp only[FS,az]at h
  obtain⟨rfl,rfl,h⟩:=h
  exact⟨by rw[AX h],by simp⟩
 ·rw[AI h]
  exact⟨rfl,by simp⟩
 ·cases h
theorem zW:∀{l r:List CA},EO l r=true->l=r
 | [],[],_=>rfl
 | a::l,b::r,h=>by
  simp only[EO,FS]at h
  rw[(AL h.1).1,zW h.2]
 | [],_::_,h=>by cases h
 | _::_,[],h=>by cases h
theorem EJ {p q:AV} (h:eqAV p q=true):p=q/\p≠.one .junk:=by
 unfold eqAV at h
 split at h
 ·have h:=AL h
  exact⟨by rw[h.1],fun e=>h.2 (AV.one.inj e)⟩
 ·rw[zW h]
  exact⟨rfl,by simp⟩
 ·rw[AI h]
  exact⟨rfl,by simp⟩
 ·cases h
theorem wP (ds:List (Option Tmp)) (st:ASt):(gC ds st).boxes=st.boxes/\(gC ds st).out=st.out/\(gC ds st).slots.length=st.slots.length/\∀k,some k∉ds->(gC ds st).slots[k]? = st.slots[k]? := by
 induction ds with
 | nil=>exact⟨rfl,rfl,rfl,fun _ _=>rfl⟩
 | cons d ds ih =>
  obtain⟨h1,h2,h3,h4⟩:=ih
  cases d with
  | none=>exact⟨h1,h2,h3,fun k hk=>h4 k (fun h=>hk (FY _ h))⟩
  | some d =>
   have e:gC (some d::ds) st=(gC ds st).put (some d) (.one .junk):=rfl
   rw[e]
   generalize gC ds st=z at h1 h2 h3 h4
   refine⟨h1,h2,by simp only[ASt.put,ah,List.length_set,h3],fun k hk=>?_⟩
   simp only[List.mem_cons,not_or]at hk
   simp only[ASt.put,ah]
   rw[List.getElem?_set_ne (fun e=>hk.1 (by rw[e])),h4 k hk.2]
theorem Cf {i:Item} {ops:List Oper} {s s':ASt} {d:Tmp} (hl:lv i.o=true) (hd:i.o.dst=some d) (h:OpN E C ops i s s'):∃v,s'=s.put (some d) v:=by
 obtain⟨e,h1,h3⟩:=rI hl hd h
 have hv:dc e:=by
  simp only[lv,FS]at hl
  have hl:=hl.2
  revert h1 hl
  cases i.o.op with
  | load t x=>intro h1 _;exact Prg.All.hits (Dp (op:=.load t x) rfl _) h1
  | fieldAddr t x f=>intro h1 _;exact Prg.All.hits (Am (op:=.fieldAddr t x f) rfl _) h1
  | move x=>intro h1 _;exact Prg.All.hits (Am (op:=.move x) rfl _) h1
  | _=>intro _ hl;cases hl
 obtain⟨v,rfl⟩:=hv
 simp only[Eff.nfE,Eff.app,FR]at h3
 exact⟨_,h3.symm⟩
theorem wI {ops:List Oper} {c:Oper}:∀{S:List Nat} {s s':ASt},(∀u∈S,oU ops c u)->da E C ex ops S s s'->s'.boxes=s.boxes/\s'.out=s.out/\s'.slots.length=s.slots.length/\∀k,some k∉d0 ops S->s'.slots[k]? = s.slots[k]?
 | [],_,_,_,h=>by cases h;exact⟨rfl,rfl,rfl,fun _ _=>rfl⟩
 | u::S,s,s',hl,h=>by
  cases h with
  | cons ho h r =>
  obtain⟨o,d,h1,h2,h3,_⟩:=hl u FX
  rw[ho]at h1
  cases h1
  obtain⟨v,rfl⟩:=Cf (i:=af ex ops (behind ops) u _) h2 h3 h
  obtain⟨k1,k2,k3,k4⟩:=wI (fun u hu=>hl u (FY _ hu)) r
  refine⟨k1,k2,by rw[k3];simp[ASt.put,ah],fun k hk=>?_⟩
  simp only[d0,List.map_cons,List.mem_cons,not_or,ho,Option.bind_some,h3]at hk
  rw[k4 k hk.2]
  simp only[ASt.put,ah]
  exact List.getElem?_set_ne (fun e=>hk.1 (by rw[e]))
theorem Bn {ops:List Oper} {c:Oper} {S:List Nat} {st2 st3:ASt} (hl:∀u∈S,oU ops c u) (h:da E C ex ops S (gC (d0 ops S) st2).nfS st3.nfS) (heq:wy (d0 ops S) st2 st3=true):st3.nfS=st2.nfS:=by
 obtain⟨k1,k2,k3,k4⟩:=wI hl h
 obtain⟨c1,c2,c3,c4⟩:=wP (d0 ops S) st2
 have e1:st3.nfS.boxes=st2.nfS.boxes:=by rw[k1];exact c1
 have e2:st3.nfS.out=st2.nfS.out:=by rw[k2];exact c2
 have e3:st3.nfS.slots=st2.nfS.slots:=by
  have hlen:st3.slots.length=st2.slots.length:=by simpa[ASt.nfS,c3]using k3
  apply List.ext_getElem?
  intro k
  by_cases hk:some k∈d0 ops S
  ·simp only[wy,List.all_eq_true]at heq
   have:=(EJ (heq _ hk)).1
   simp only[ASt.nfS,FW]
   rcases Nat.lt_or_ge k st2.slots.length with h1|h1
   ·rw[bi,bi,FQ h1,FQ (by omega)]at this
    rw[FQ h1,FQ (by omega)]
    simpa using congrArg AV.nf this
   ·rw[F5 h1,F5 (by omega)]
  ·rw[k4 k hk]
   simp only[ASt.nfS,FW,c4 k hk]
 cases hA:st3.nfS
 cases hB:st2.nfS
 rw[hA,hB]at e1 e2 e3
 simp only at e1 e2 e3
 rw[e1,e2,e3]
theorem nw {R:Type} {J:List Nat->ASt->R->Prop} {r:R} {all:List Oper}:∀{S:List Nat} {K:ASt->Prg R} {st:ASt},(qT E all ex S K st).goes C J r->∃st',da E C ex all S st.nfS st'.nfS/\(K st').goes C J r
 | [],_,st,h=>⟨st,.nil _,h⟩
 | u :: S, K, st, h => by
  simp only[qT]at h
  split at h
  ·rename_i o ho
   obtain⟨st1,h1,h2⟩:=lz h
   obtain⟨st',h3,h4⟩:=nw h2
   exact⟨st',.cons ho h1 h3,h4⟩
  ·exact h.elim
theorem iv {R:Type} {J:List Nat->ASt->R->Prop} {r:R} {all:List Oper} {st:ASt} {k:Prg R}:∀{L:List (List Nat)},(rm E all ex st k L).goes C J r->k.goes C J r/\∀S∈L,S≠[]->∃st3,da E C ex all S (gC (d0 all S) st).nfS st3.nfS/\wy (d0 all S) st st3=true
 | [],h=>⟨h,fun _ h=>by cases h⟩
 | []::L,h=>by
  obtain⟨h1,h2⟩:=iv (L:=L) h
  refine⟨h1,fun S hS hne=>?_⟩
  rcases List.mem_cons.1 hS with rfl|hS
  ·exact absurd rfl hne
  ·exact h2 S hS hne
 | (u::S')::L,h=>by
  obtain⟨st3,h1,h2⟩:=nw h
  obtain⟨h3,h4⟩:=h2
  obtain⟨h5,h6⟩:=iv (L:=L) h4
  refine⟨h5,fun S hS hne=>?_⟩
  rcases List.mem_cons.1 hS with rfl|hS
  ·exact⟨st3,h1,h3⟩
  ·exact h6 S hS hne
theorem u6 {p:Nat->Bool}:∀{U:List Nat},U.filter p∈tT U
 | []=>by simp[tT]
 | u::U=>by
  have:=u6 (p:=p) (U:=U)
  simp only[tT,List.filter_cons,List.mem_append,List.mem_map]
  cases p u with
  | true=>exact .inr ⟨_,this,rfl⟩
  | false=>exact .inl this
theorem E2 {j:Nat} {U:List Nat} {listed:Array Bool} (hU:∃p:Nat->Bool,U=(List.range j).filter p) (h:∀q∈unlisted j listed,q∈U):unlisted j listed∈tT U:=by
 have:unlisted j listed=U.filter fun i=>!listed.getD i true:=by
  obtain⟨p,rfl⟩:=hU
  rw[List.filter_filter]
  unfold unlisted
  apply List.filter_congr
  intro i hi
  cases hb:listed.getD i true with
  | true=>rfl
  | false =>
   have:=h i (by simp only[unlisted,List.mem_filter,hb];exact⟨hi,rfl⟩)
   rw[List.mem_filter]at this
   rw[this.2]
   rfl
 rw[this]
 exact u6
end
end Go.Ab
end

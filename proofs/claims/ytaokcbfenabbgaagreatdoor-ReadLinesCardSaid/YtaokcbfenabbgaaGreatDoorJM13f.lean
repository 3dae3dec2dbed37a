import Derived.Test.YtaokcbfenabbgaaGreatDoorJM13d
set_option linter.all false
section
namespace Go.Ab
open Go.RowKit
section
variable {P:Program} {E:Env} {C:Cal} {w0:Bs} {w w':World} {I0 I R:Nat->Prop} {g g':Gh} {st st':ASt} {a:Act} {ov:List Value} {look look':Look} {Q:Exit->Act->World->Prop} {T:Type} {J:List Nat->ASt->T->Prop}
theorem kH {p:Way} {x:TV} {k:TV->Prg T} {e:T} (h:(pE p x k).goes C J e):∃ y,dC p x=some y/\(k y).goes C J e:=by
 unfold pE at h
 split at h
 ·exact ⟨x,rfl,h⟩
 ·exact h
theorem aj.slot (hs:aj w0 I0 R g st a ov w) (s:Nat):br w g st.look (nth (.one .junk) st.slots s) (a.tmps.getD s undef):=hs.ev (.tmp s)
theorem yV {x:TV} {v:Value} (h:Rep w I x v) (hx:x.isSl=true):lI v:=by
 obtain ⟨b,n,c,e⟩:=eh (S:=NoR) (.fr h) hx
 exact ⟨b,n,c,e⟩
theorem oC {s:Nat} {v:AV} {u:Value} (hu:a.tmps.getD s undef=u) (hs:aj w0 I0 R g st (a.put (some s) u) ov w):aj w0 I0 R g st a ov w:=by
 rwa [wb hu] at hs
theorem rr:∀ {m r:Nat} {x y:TV},(cA m [x])[r]? = some y->y=.hole\/y=x
 | 0,0,x,y,h=>by simp [cA] at h; exact .inr h.symm
 | 0,r + 1,x,y,h=>by simp [cA] at h
 | m + 1,0,x,y,h=>by simp [cA] at h; exact .inl h.symm
 | m + 1,r + 1,x,y,h=>by simp only [cA,List.getElem?_cons_succ] at h; exact rr h
theorem pc:∀ {m r:Nat} {x y:TV},(cA m [x])[r]? = some y->y=.hole\/(y=x/\r=m)
 | 0,0,x,y,h=>by simp [cA] at h; exact .inr ⟨h.symm,rfl⟩
 | 0,r + 1,x,y,h=>by simp [cA] at h
 | m + 1,0,x,y,h=>by simp [cA] at h; exact .inl h.symm
 | m + 1,r + 1,x,y,h=>by
  simp only [cA,List.getElem?_cons_succ] at h
  rcases pc h with h | ⟨h,e⟩
  ·exact .inl h
  ·exact .inr ⟨h,congrArg (· + 1) e⟩
theorem nG:∀ (m:Nat) (x:TV),(cA m [x])[m]? = some x
 | 0,x=>rfl
 | m + 1,x=>by simp only [cA,List.getElem?_cons_succ]; exact nG m x
theorem rt {i r idx:Nat} {st1:ASt} (hs:aj w0 I0 (fun _=>False) g st a ov w) (hm:iM st i r idx=some st1):∃ g1,aj w0 I0 (fun _=>False) g1 st1 a ov w/\g1.β=g.β /\
  (∀ v,bm w g st.look (.sref i r []) v->bm w g1 st1.look (.sref (gU 0 st.boxes) idx []) v):=by
 unfold iM at hm
 split at hm
 ·rename_i xs h1
  cases hlo:tq xs r idx with
  | true=>rw [hlo] at hm; cases hm
  | false =>
   simp only [hlo,cond_false] at hm
   split at hm
   ·rename_i x h2
    have hrl:r < xs.length:=(DS.1 h2).1
    have hfr:∀ b,g.φ i r b->Foot g st.look i b:=fun b hb=>.inr ⟨xs,r,h1,hrl,hb⟩
    obtain ⟨n1,n2,rfl⟩:=bd hm
    obtain ⟨q1,q2⟩:=hs.eG h1 h2 (CA.drop i r [] false) (fun p=>leads false [] p=false) (eX i r [] false) (w':=w) (x':=.hole) (u':=undef) (S':=fun _=>False) (R':=g.φ i r) (I':=g.I) (.fr (.hole _))
     (fun p v nd ho _ _=>by rw [gD] at ho; cases ho) hs.below (Nat.le_refl _) (fun _ _ _ _=>rfl) (fun _ h=>h.elim) (fun b hb=>⟨.inr hb,fun h=>h,(hs.foot i b (hfr b hb)).2.2.1⟩) (fun _ h=>h) (fun _ h=>.inl h) (fun b hb hS=>hS)
    obtain ⟨t1,t2⟩:=q1.li (xs:=cA idx [x]) n2 n1 q1.below (Nat.le_refl _) (fun _ _ _=>rfl) (fun _=>g.ρ i r) (fun k b=>k=idx/\g.φ i r b) (fun k y hy=>by
     rcases pc hy with rfl | ⟨rfl,rfl⟩
     ·exact .fr (.hole _)
     ·exact (hs.trees i xs h1 r _ h2).mono (fun b hb=>⟨rfl,hb⟩)) (fun k b _ h=>.inl h.2) (fun k k' b _ _ h h'=>h.1.trans h'.1.symm)
    refine ⟨_,t1,rfl,fun v hv=>?_⟩
    obtain ⟨xs',x',nd,e1,e2,e3,e4⟩:=hv
    rw [h1] at e1
    cases e1
    rw [h2] at e2
    cases e2
    exact ⟨cA idx [x],x,nd,by rw [ah,if_pos ⟨rfl,n2⟩],nG _ _,by simpa [Gh.i7] using e3,e4⟩
   ·cases hm
 ·cases hm
theorem wq {s:Nat} {k:ASt->Prg T} {r:T} (hs:Sim w0 I0 st a ov w) (h:(yq st s k).goes C J r):∃ st',(k st').goes C J r/\Sim w0 I0 st' a ov w:=by
 obtain ⟨g,hs⟩:=hs
 unfold yq at h
 have hsl:=hs.slot s
 split at h
 ·rename_i i q hv
  rw [hv] at hsl
  cases hm:iM st i q 0 with
  | none=>rw [hm] at h; exact ⟨st,h,g,hs⟩
  | some st1 =>
   rw [hm] at h
   obtain ⟨g1,t1,_,t2⟩:=rt hs hm
   exact ⟨_,h,g1,oC (v:=.one .junk) rfl (t1.put (some s) (v:=.one (.sref _ 0 [])) (u:=a.tmps.getD s undef) (t2 _ hsl))⟩
 ·exact ⟨st,h,g,hs⟩
 ·rename_i i q lo len hv
  rw [hv] at hsl
  split at h
  ·rename_i x hx
   obtain ⟨xs,h1,h2⟩:=az hx
   obtain ⟨xs',x',u,nd,g1,g2,g3,g4,g5⟩:=hsl
   rw [h1] at g1
   cases g1
   rw [h2] at g2
   cases g2
   obtain ⟨y,hy,h⟩:=h
   simp only [] at h
   split at h
   ·rename_i b hb
    have hlm:(st.aq (CA.drop i q [] false)).look i=some (.tree xs):=by rw [aF,h1]; rfl
    have hb':b=.tree (au xs q y):=by
     simp only [bS,hlm,DU] at hb
     exact hb.symm
    subst hb'
    have hrl:q < xs.length:=(DS.1 h2).1
    have hfr:∀ b,g.φ i q b->Foot g st.look i b:=fun b hb=>.inr ⟨xs,q,h1,hrl,hb⟩
    have hr:=hs.trees i xs h1 q x h2
    rw [<- g3.1] at hr
    have hrep:=cK hr g3.2 g5 hy
    obtain ⟨q1,q2⟩:=hs.eG h1 h2 (CA.drop i q [] false) (fun p=>leads false [] p=false) (eX i q [] false) (w':=w) (x':=y) (u':=a.tmps.getD s undef) (S':=g.φ i q) (R':=NoR) (I':=g.I) hrep
     (fun p v nd ho _ _=>by rw [gD] at ho; cases ho) hs.below (Nat.le_refl _) (fun _ _ _ _=>rfl) (fun _ h=>.inl h) (fun b hb=>hb.elim) (fun _ h=>h) (fun _ h=>.inl h) (fun b hb hS=>(hs.foot i b (hfr b hS)).2.2.1 hb)
    refine ⟨_,h,_,oC (v:=.one .junk) rfl (q1.put (some s) (v:=.one (.sref i q [])) (u:=a.tmps.getD s undef) ?_)⟩
    refine ⟨au xs q y,y,y.nd,by rw [ah,if_pos ⟨rfl,by rw [dX]; exact ep h1⟩],by rw [ai]; simp [hrl],⟨by simp [Gh.cr],rfl⟩,?_⟩
    obtain ⟨a0,l0,c0,e0⟩:=g4
    subst e0
    cases hnd:nd with
    | none=>rw [hnd] at g5; rw [g5.2.2.2]; exact ⟨_,_,_,rfl⟩
    | some sn =>
     obtain ⟨sz,n⟩:=sn
     rw [hnd] at g5
     rw [g5.2]
     cases a0 with
     | none=>exact ⟨_,_,_,rfl⟩
     | some a0=>exact ⟨_,_,_,rfl⟩
   ·exact h.elim
  ·exact h.elim
 ·split at h
  ·rename_i x hx
   obtain ⟨h1,h⟩:=h
   split at h
   ·rename_i st1 hst
    obtain ⟨n1,n2,rfl⟩:=bd hst
    have hrep:=bX hsl hx
    obtain ⟨q1,q2⟩:=hs.li (xs:=[x]) n2 n1 hs.below (Nat.le_refl _) (fun _ _ _=>rfl) (fun _=>a.tmps.getD s undef) (fun _ _=>False) (fun r y hy=>by
     cases r with
     | zero=>simp at hy; subst hy; exact .fr hrep
     | succ r=>simp at hy) (fun _ _ _ h=>h.elim) (fun _ _ _ _ _ h=>h.elim)
    refine ⟨_,h,_,oC (v:=.one .junk) rfl (q1.put (some s) (v:=.one (.sref _ 0 [])) (u:=a.tmps.getD s undef) ?_)⟩
    exact ⟨[x],x,x.nd,by rw [ah,if_pos ⟨rfl,n2⟩],rfl,⟨by simp [Gh.i7],rfl⟩,yV hrep h1⟩
   ·exact h.elim
  ·exact h.elim
theorem mi {k:ASt->Prg T} {r:T}:∀ {l:List Nat} {st:ASt},Sim w0 I0 st a ov w->(nJ l st k).goes C J r->∃ st',(k st').goes C J r/\Sim w0 I0 st' a ov w
 | [],st,hs,h=>⟨st,h,hs⟩
 | s :: l,st,hs,h=>by
  obtain ⟨st1,h1,h2⟩:=wq hs h
  exact mi h2 h1
theorem o3 {i c:Nat} {k:ASt->Prg T} {r:T} (hs:Sim w0 I0 st a ov w) (h:(ua st i c k).goes C J r):∃ st',(k st').goes C J r/\Sim w0 I0 st' a ov w:=by
 obtain ⟨g,hs⟩:=hs
 unfold ua at h
 split at h
 ·rename_i cs hl
  split at h
  ·rename_i i' q hc
   cases hm:iM st i' q (vA cs c) with
   | none=>rw [hm] at h; exact ⟨st,h,g,hs⟩
   | some st1 =>
    simp only [hm] at h
    obtain ⟨vs,ty,c1,c2⟩:=hs.cells i cs hl
    have hcl:c < cs.length:=by
     rcases Nat.lt_or_ge c cs.length with h' | h'
     ·exact h'
     ·rw [aV,D5 h'] at hc; cases hc
    have hcc:cs[c]? = some (.sref i' q []):=by rw [aV,DT hcl] at hc; rw [DT hcl]; simpa using hc
    have hvl:c < vs.toList.length:=by rw [c2.1]; exact hcl
    obtain ⟨u,hu⟩:∃ u,vs.toList[c]? = some u:=⟨_,DT hvl⟩
    obtain ⟨hrc,hone⟩:=c2.2 c _ u hcc hu
    obtain ⟨g1,t1,tb,t2⟩:=rt hs hm
    split at h
    ·rename_i cs' hl1
     obtain ⟨vs1,ty1,d1,d2⟩:=t1.cells i cs' hl1
     rw [tb,c1] at d1
     cases d1
     have c1':w.heap[g1.β i]? = some (.cells vs ty (0,0)):=by rw [tb]; exact c1
     refine ⟨_,h,_,t1.dN hl1 (vs':=vs) (ty:=ty) t1.below (Nat.le_refl _) (fun _ _=>rfl) c1' ⟨_,_,c1'⟩ ?_⟩
     refine ⟨by rw [ai,List.length_set]; exact d2.1,fun j d v hd hv=>?_⟩
     rw [ai,List.getElem?_set] at hd
     by_cases hcj:c=j
     ·subst hcj
      have hcl':c < cs'.length:=by rw [<- d2.1]; exact hvl
      simp only [if_true,hcl',DU] at hd
      subst hd
      rw [hu] at hv
      cases hv
      exact ⟨t2 _ hrc,hone⟩
     ·simp only [hcj,if_false] at hd
      exact d2.2 j d v hd hv
    ·exact ⟨st,h,g,hs⟩
  ·exact ⟨st,h,g,hs⟩
 ·exact ⟨st,h,g,hs⟩
theorem vT {s c : Nat} {k : ASt → Prg T} {r : T} (hs : Sim w0 I0 st a ov w) (h : (yP st s c k).goes C J r) : ∃ st', (k st').goes C J r ∧ Sim w0 I0 st' a ov w := by
 have hs0:=hs
 obtain ⟨g,hs⟩:=hs
 unfold yP at h
 split at h
 ·rename_i i off hv
  split at h
  ·rename_i cs hl
   split at h
   ·exact o3 hs0 h
   ·exact ⟨st,h,g,hs⟩
   ·rename_i i' q lo len hc
    obtain ⟨vs,ty,c1,c2⟩:=hs.cells i cs hl
    have hcl:c < cs.length:=by
     rcases Nat.lt_or_ge c cs.length with h' | h'
     ·exact h'
     ·rw [aV,D5 h'] at hc; cases hc
    have hcc:cs[c]? = some (.swin i' q [] lo len):=by rw [aV,DT hcl] at hc; rw [DT hcl]; simpa using hc
    have hvl:c < vs.toList.length:=by rw [c2.1]; exact hcl
    obtain ⟨u,hu⟩:∃ u,vs.toList[c]? = some u:=⟨_,DT hvl⟩
    obtain ⟨hrc,hone⟩:=c2.2 c _ u hcc hu
    split at h
    ·rename_i x hx
     obtain ⟨xs,h1,h2⟩:=az hx
     obtain ⟨xs',x',u',nd,g1,g2,g3,g4,g5⟩:=hrc
     rw [h1] at g1
     cases g1
     rw [h2] at g2
     cases g2
     obtain ⟨y,hy,h⟩:=h
     simp only [] at h
     split at h
     ·rename_i b hb
      have hlm:(st.aq (CA.drop i' q [] false)).look i'=some (.tree xs):=by rw [aF,h1]; rfl
      have hb':b=.tree (au xs q y):=by
       simp only [bS,hlm,DU] at hb
       exact hb.symm
      subst hb'
      have hrl:q < xs.length:=(DS.1 h2).1
      have hfr:∀ b,g.φ i' q b->Foot g st.look i' b:=fun b hb=>.inr ⟨xs,q,h1,hrl,hb⟩
      have hr:=hs.trees i' xs h1 q x h2
      rw [<- g3.1] at hr
      have hrep:=cK hr g3.2 g5 hy
      obtain ⟨q1,q2⟩:=hs.eG h1 h2 (CA.drop i' q [] false) (fun p=>leads false [] p=false) (eX i' q [] false) (w':=w) (x':=y) (u':=u) (S':=g.φ i' q) (R':=NoR) (I':=g.I) hrep
       (fun p v nd ho _ _=>by rw [gD] at ho; cases ho) hs.below (Nat.le_refl _) (fun _ _ _ _=>rfl) (fun _ h=>.inl h) (fun b hb=>hb.elim) (fun _ h=>h) (fun _ h=>.inl h) (fun b hb hS=>(hs.foot i' b (hfr b hS)).2.2.1 hb)
      split at h
      ·rename_i cs' hl1
       obtain ⟨vs1,ty1,d1,d2⟩:=q1.cells i cs' hl1
       have c1':w.heap[(g.cr g.I i' q u (g.φ i' q)).β i]? = some (.cells vs ty (0,0)):=c1
       rw [c1'] at d1
       cases d1
       refine o3 ⟨_,q1.dN hl1 (vs':=vs) (ty:=ty) q1.below (Nat.le_refl _) (fun _ _=>rfl) c1' ⟨_,_,c1'⟩ ?_⟩ h
       refine ⟨by rw [ai,List.length_set]; exact d2.1,fun j d v hd hv=>?_⟩
       rw [ai,List.getElem?_set] at hd
       by_cases hcj:c=j
       ·subst hcj
        have hcl':c < cs'.length:=by rw [<- d2.1]; exact hvl
        simp only [if_true,hcl',DU] at hd
        subst hd
        rw [hu] at hv
        cases hv
        refine ⟨⟨au xs q y,y,y.nd,by rw [ah,if_pos ⟨rfl,by rw [dX]; exact ep h1⟩],by rw [ai]; simp [hrl],⟨by simp [Gh.cr],rfl⟩,?_⟩,hone⟩
        obtain ⟨a0,l0,c0,e0⟩:=g4
        subst e0
        cases hnd:nd with
        | none=>rw [hnd] at g5; rw [g5.2.2.2]; exact ⟨_,_,_,rfl⟩
        | some sn =>
         obtain ⟨sz,n⟩:=sn
         rw [hnd] at g5
         rw [g5.2]
         cases a0 with
         | none=>exact ⟨_,_,_,rfl⟩
         | some a0=>exact ⟨_,_,_,rfl⟩
       ·simp only [hcj,if_false] at hd
        exact d2.2 j d v hd hv
      ·exact h.elim
     ·exact h.elim
    ·exact h.elim
   ·rename_i x hc
    obtain ⟨h1,h⟩:=h
    split at h
    ·rename_i st1 hst
     obtain ⟨n1,n2,rfl⟩:=bd hst
     obtain ⟨vs,ty,c1,c2⟩:=hs.cells i cs hl
     have hcl:c < cs.length:=by
      rcases Nat.lt_or_ge c cs.length with h' | h'
      ·exact h'
      ·rw [aV,D5 h'] at hc; cases hc
     have hcc:cs[c]? = some (.t x):=by rw [aV,DT hcl] at hc; rw [DT hcl]; simpa using hc
     have hvl:c < vs.toList.length:=by rw [c2.1]; exact hcl
     obtain ⟨u,hu⟩:∃ u,vs.toList[c]? = some u:=⟨_,DT hvl⟩
     have hrep:=(c2.2 c _ u hcc hu).1.1
     have hone:=(c2.2 c _ u hcc hu).2
     obtain ⟨q1,q2⟩:=hs.li (xs:=cA (vA cs c) [x]) n2 n1 hs.below (Nat.le_refl _) (fun _ _ _=>rfl) (fun _=>u) (fun _ _=>False) (fun r y hy=>by
      rcases rr hy with rfl | rfl
      ·exact .fr (.hole _)
      ·exact .fr hrep) (fun _ _ _ h=>h.elim) (fun _ _ _ _ _ h=>h.elim)
     have hne:gU 0 st.boxes≠i:=fun e=>by rw [e,hl] at n1; cases n1
     have hl1:(st.ac (gU 0 st.boxes) (some (.tree (cA (vA cs c) [x])))).look i=some (.cells cs):=by rw [ah,if_neg (fun h=>hne h.1)]; exact hl
     refine ⟨_,h,_,q1.dN hl1 (vs':=vs) (ty:=ty) q1.below (Nat.le_refl _) (fun _ _=>rfl) c1 ⟨_,_,c1⟩ ?_⟩
     refine ⟨by rw [ai,List.length_set]; exact c2.1,fun j d v hd hv=>?_⟩
     rw [ai,List.getElem?_set] at hd
     by_cases hcj:c=j
     ·subst hcj
      simp only [if_true,hcl,DU] at hd
      subst hd
      rw [hu] at hv
      cases hv
      exact ⟨⟨cA (vA cs c) [x],x,x.nd,by rw [ah,if_pos ⟨rfl,n2⟩],nG _ _,⟨by simp [Gh.i7],rfl⟩,yV hrep h1⟩,hone⟩
     ·simp only [hcj,if_false] at hd
      have:=c2.2 j d v hd hv
      exact ⟨bm.mv q2 (by cases d <;> trivial) this.1,this.2⟩
    ·exact h.elim
   ·exact h.elim
  ·exact h.elim
 ·exact h.elim
theorem mM {k:ASt->Prg T} {r:T}:∀ {l:List (Nat × Nat)} {st:ASt},Sim w0 I0 st a ov w->(kn l st k).goes C J r->∃ st',(k st').goes C J r/\Sim w0 I0 st' a ov w
 | [],st,hs,h=>⟨st,h,hs⟩
 | (s,c) :: l,st,hs,h=>by
  obtain ⟨st1,h1,h2⟩:=vT hs h
  exact mM h2 h1
theorem vc {s c:Nat} (hs:Sim w0 I0 st a ov w):Sim w0 I0 (BZ st s c) a ov w:=by
 obtain ⟨g,hs⟩:=hs
 unfold BZ
 generalize hc0:c % 1000=c'
 split
 ·rename_i i off hv
  split
  ·rename_i cs hl
   split
   ·rename_i i' q hc
    split
    ·rename_i xs hx
     split
     ·rename_i x h2
      cases hcool:Nat.ble 1000 c with
      | true =>
       obtain ⟨g',h⟩:=hs.cool hx h2
       exact ⟨g',h⟩
      | false =>
      clear hc0 hcool
      rename_i c0
      generalize c'=c at *
      obtain ⟨vs,ty,c1,c2⟩:=hs.cells i cs hl
      have hcl:c < cs.length:=by
       rcases Nat.lt_or_ge c cs.length with h' | h'
       ·exact h'
       ·rw [aV,D5 h'] at hc; cases hc
      have hcc:cs[c]? = some (.sref i' q []):=by rw [aV,DT hcl] at hc; rw [DT hcl]; simpa using hc
      have hvl:c < vs.toList.length:=by rw [c2.1]; exact hcl
      obtain ⟨u,hu⟩:∃ u,vs.toList[c]? = some u:=⟨_,DT hvl⟩
      obtain ⟨hrc,hone⟩:=c2.2 c _ u hcc hu
      obtain ⟨xs',x',nd,e1,e2,e3,e4⟩:=hrc
      rw [hx] at e1
      cases e1
      rw [h2] at e2
      cases e2
      obtain ⟨f1,f2,f3⟩:=hs.freeze hx h2
      have hne:i'≠i:=fun e=>by rw [e,hl] at hx; cases hx
      have hl1:(st.ac i' (some (.tree (au xs q (frz x))))).look i=some (.cells cs):=by rw [ah,if_neg (fun h=>hne h.1)]; exact hl
      refine ⟨_,f2.dN hl1 (vs':=vs) (ty:=ty) f2.below (Nat.le_refl _) (fun _ _=>rfl) c1 ⟨_,_,c1⟩ ?_⟩
      refine ⟨by rw [ai,List.length_set]; exact c2.1,fun j d v hd hv=>?_⟩
      rw [ai,List.getElem?_set] at hd
      by_cases hcj:c=j
      ·subst hcj
       simp only [if_true,hcl,DU] at hd
       subst hd
       rw [hu] at hv
       cases hv
       rw [<- e3.1] at f1
       exact ⟨⟨f1,hone⟩,hone⟩
      ·simp only [hcj,if_false] at hd
       have:=c2.2 j d v hd hv
       exact ⟨f3 _ _ this.1,this.2⟩
     ·exact ⟨g,hs⟩
    ·exact ⟨g,hs⟩
   ·exact ⟨g,hs⟩
  ·exact ⟨g,hs⟩
 ·rename_i i' q hv
  split
  ·rename_i xs hx
   split
   ·rename_i x h2
    cases hcool:Nat.ble 1000 c with
    | true=>exact ⟨g,hs⟩
    | false =>
    simp only [cond_false]
    have hsl:st.slots[s]? = some (.one (.sref i' q [])):=by
     rcases Nat.lt_or_ge s st.slots.length with h' | h'
     ·rw [aV,DT h'] at hv; rw [DT h']; simpa using hv
     ·rw [aV,D5 h'] at hv; cases hv
    obtain ⟨xs',x',nd,e1,e2,e3,e4⟩:=hs.slots s _ hsl
    rw [hx] at e1
    cases e1
    rw [h2] at e2
    cases e2
    obtain ⟨f1,f2,f3⟩:=hs.freeze hx h2
    have hone:(a.tmps.getD s undef).oneCell'=true:=p9 e4
    have:=f2.put (some s) (v:=.one (.t (frz x))) (u:=a.tmps.getD s undef) ⟨by rw [e3.1]; exact f1,hone⟩
    rw [wb rfl] at this
    exact ⟨_,this⟩
   ·exact ⟨g,hs⟩
  ·exact ⟨g,hs⟩
 ·exact ⟨g,hs⟩
theorem nu:∀ {l:List (Nat × Nat)} {st:ASt},Sim w0 I0 st a ov w->Sim w0 I0 (jB l st) a ov w
 | [],st,hs=>hs
 | (s,c) :: l,st,hs=>nu (l:=l) (vc hs)
theorem jx:∀ {l:List Nat} {st:ASt},Sim w0 I0 st a ov w->Sim w0 I0 (gc st l) a ov w
 | [],st,hs=>hs
 | s :: l, st, hs => by
  simp only [gc]
  split
  ·rename_i i off hv
   split
   ·rename_i cs hl
    refine jx ?_
    obtain ⟨g,hs⟩:=hs
    obtain ⟨vs,ty,c1,c2⟩:=hs.cells i cs hl
    refine ⟨g,hs.dN hl (vs':=vs) (ty:=ty) hs.below (Nat.le_refl _) (fun _ _=>rfl) c1 ⟨_,_,c1⟩ ⟨by rw [mS]; exact c2.1,fun j d v hd hv=>?_⟩⟩
    rw [rG] at hd
    cases hj:cs[j]? with
    | none=>simp [hj] at hd
    | some c' =>
     simp only [hj,D6,DU] at hd
     subst hd
     exact ⟨trivial,(c2.2 j c' v hj hv).2⟩
   ·exact jx hs
  ·exact jx hs
theorem mT {α:Type} (d:α) (ks:List Nat):∀ (l:List α) (n k:Nat),(ft d ks n l)[k]? = (l[k]?).map fun x=>bif bD (n + k) ks then x else d
 | [],n,k=>by simp [ft]
 | x :: l,n,0=>by simp [ft]
 | x :: l,n,k + 1=>by
  simp only [ft,List.getElem?_cons_succ,mT d ks l (n + 1) k]
  rw [show n + 1 + k=n + (k + 1) by omega]
theorem nb {α:Type} (d:α) (ks:List Nat):∀ (l:List α) (n:Nat),(ft d ks n l).length=l.length
 | [],n=>rfl
 | x :: l,n=>by simp [ft,nb d ks l (n + 1)]
theorem tH {ks:List Nat} {R:Nat->Prop} (hs:aj w0 I0 R g st a ov w):aj w0 I0 R g (gh ks st) a ov w:=by
 refine ⟨hs.below,hs.sub,hs.lt,hs.old,by simp only [gh,nb]; exact hs.len,hs.defers,fun t v hv=>?_,hs.olen,hs.outs,hs.cells,hs.trees,hs.foot,hs.apart,hs.apartR,hs.res,hs.base,hs.out⟩
 simp only [gh,mT,Nat.zero_add] at hv
 cases hsl:st.slots[t]? with
 | none=>simp [hsl] at hv
 | some u =>
  simp only [hsl,D6,DU] at hv
  cases hm:bD t ks with
  | false=>simp only [hm,cond_false] at hv; subst hv; exact trivial
  | true =>
   simp only [hm,cond_true] at hv
   subst hv
   exact hs.slots t u hsl
theorem xI {ks:List Nat} (hs:Sim w0 I0 st a ov w):Sim w0 I0 (gh ks st) a ov w:=by
 obtain ⟨g,hs⟩:=hs
 exact ⟨g,tH hs⟩
theorem aN {i:Nat}:∀ {L:List Nat} {n k:Nat},iI i n L=some k->n<=k/\L[k - n]? = some i
 | [],n,k,h=>by simp [iI] at h
 | b :: L, n, k, h => by
  simp only [iI] at h
  cases hb:b.beq i with
  | true =>
   simp only [hb,cond_true,DU] at h
   subst h
   have:=(ar _ _).1 hb
   subst this
   simp
  | false =>
   simp only [hb,cond_false] at h
   obtain ⟨h1,h2⟩:=aN h
   refine ⟨by omega,?_⟩
   rw [show k - n=(k - (n + 1)) + 1 by omega,List.getElem?_cons_succ]
   exact h2
theorem lK:∀ {L:List Nat},gf L=true->∀ (k k' i:Nat),L[k]? = some i->L[k']? = some i->k=k'
 | [],_,k,k',i,h,_=>by simp at h
 | b :: L, hn, k, k', i, h, h' => by
  simp only [gf,DV,Bool.not_eq_true'] at hn
  have hnot:∀ q,L[q]? = some b->False:=fun q hq=>by
   have:=(bN b L).2 (D1 hq)
   rw [this] at hn
   cases hn.1
  cases k with
  | zero =>
   cases k' with
   | zero=>rfl
   | succ k'=>simp at h h'; subst h; exact (hnot k' h').elim
  | succ k =>
   cases k' with
   | zero=>simp at h h'; subst h'; exact (hnot k h).elim
   | succ k'=>simp at h h'; rw [lK hn.2 k k' i h h']
theorem n9 (look:Look) (f:CA->CA):∀ (L:List Nat) (k:Nat),(mo look f L)[k]? = (L[k]?).map fun i=>(look i).map (BC.be f)
 | [],k=>by simp [mo]
 | i :: L,0=>by simp only [mo,List.getElem?_cons_zero,D6]; cases look i <;> rfl
 | i :: L,k + 1=>by simp [mo,n9 look f L k]
theorem nF (look:Look) (f:CA->CA):∀ (L:List Nat),(mo look f L).length=L.length
 | []=>rfl
 | i :: L=>by simp [mo,nF look f L]
theorem nS:∀ (l:List AV) (k:Nat),(oU l)[k]? = (l[k]?).map AV.asTV
 | [],k=>by simp [oU]
 | v :: l,0=>rfl
 | v :: l,k + 1=>by simp [oU,nS l k]
theorem nN:∀ l:List AV,(oU l).length=l.length
 | []=>rfl
 | v :: l=>by simp [oU,nN l]
theorem wr {v:AV} {u:Value} (h:br w g look v u):br w g look v.asTV u:=by
 cases v with
 | one c=>cases c <;> first | exact h | exact h.1
 | bl b=>have:u=.bool b:=h; subst this; exact Rep.lit _
 | _=>exact h
theorem zC {L:List Nat} (hn:gf L=true) (hs:Sim w0 I0 st a ov w):Sim w0 I0 (ia L st) a ov w:=by
 obtain ⟨g,hs⟩:=hs
 have hlook:∀ k,(ia L st).look k=(L[k]?).bind fun i=>(st.look i).map (BC.be (CA.ren L)):=fun k=>by
  simp only [ia,ASt.look,aV,List.getElem?_append,nF,n9]
  by_cases hk:k < L.length
  ·rw [if_pos hk,DT hk]
   rfl
  ·have hL:L[k]? = none:=D5 (by omega)
   rw [if_neg hk,hL,List.getElem?_replicate]
   split <;> rfl
 obtain ⟨g',hg'⟩:∃ g':Gh,g'=⟨g.I,fun k=>g.ρ (nth 0 L k),fun k=>g.β (nth 0 L k),fun k=>g.φ (nth 0 L k),g.O⟩:=⟨_,rfl⟩
 have hat:∀ {k i:Nat},L[k]? = some i->nth 0 L k=i:=fun h=>bz h
 have eI:g'.I=g.I:=by rw [hg']
 have eO:g'.O=g.O:=by rw [hg']
 have hlk:∀ {k i:Nat} {b:BC},L[k]? = some i->st.look i=some b->(ia L st).look k=some (b.be (CA.ren L)):=fun {k i b} h1 h2=>by rw [hlook,h1]; simp [h2]
 have inv:∀ {k:Nat} {b:BC},(ia L st).look k=some b->∃ i b0,L[k]? = some i/\st.look i=some b0/\b=b0.be (CA.ren L):=fun {k b} h=>by
  rw [hlook] at h
  cases hk:L[k]? with
  | none=>simp [hk] at h
  | some i =>
   simp only [hk,Option.bind_some] at h
   cases hb:st.look i with
   | none=>simp [hb] at h
   | some b0=>simp only [hb,D6,DU] at h; exact ⟨i,b0,rfl,hb,h.symm⟩
 have hf:∀ c v,bm w g st.look c v->bm w g' (ia L st).look (c.ren L) v:=by
  intro c v h
  cases c with
  | t x=>exact ⟨by rw [eI]; exact h.1,h.2⟩
  | ptr i off =>
   simp only [CA.ren]
   split
   ·rename_i k hk
    replace hk:L[k]? = some i:=(aN hk).2
    obtain ⟨cs,h1,h2⟩:=h
    exact ⟨_,hlk hk h1,by rw [hg']; simp only []; rw [hat hk]; exact h2⟩
   ·trivial
  | ref x off =>
   obtain ⟨ad,cell,h1,h3⟩:=h
   exact ⟨ad,cell,h1,fun j c hj=>⟨(h3 j c hj).1.mv (fun _ _=>rfl) (fun b hb=>by rw [eI]; exact hb) eO,(h3 j c hj).2.1,by rw [eI]; exact (h3 j c hj).2.2⟩⟩
  | tptr i r p k j =>
   simp only [CA.ren]
   split
   ·rename_i m hm
    replace hm:L[m]? = some i:=(aN hm).2
    obtain ⟨xs,x,ad,l,cap,s,n,h1,h2,h3,h4,h5⟩:=h
    refine ⟨xs,x,ad,l,cap,s,n,hlk hm h1,h2,?_,h4,h5⟩
    rw [hg']; simp only []; rw [hat hm]; exact h3
   ·trivial
  | sref i r p =>
   simp only [CA.ren]
   split
   ·rename_i m hm
    replace hm:L[m]? = some i:=(aN hm).2
    obtain ⟨xs,x,nd,h1,h2,h3,h4⟩:=h
    refine ⟨xs,x,nd,hlk hm h1,h2,?_,h4⟩
    rw [hg']; simp only []; rw [hat hm]; exact h3
   ·trivial
  | swin i r p lo len =>
   simp only [CA.ren]
   split
   ·rename_i m hm
    replace hm:L[m]? = some i:=(aN hm).2
    obtain ⟨xs,x,u,nd,h1,h2,h3,h4,h5⟩:=h
    refine ⟨xs,x,u,nd,hlk hm h1,h2,?_,h4,h5⟩
    rw [hg']; simp only []; rw [hat hm]; exact h3
   ·trivial
  | yl n=>show v=.func (.yield (g'.O.y n)) #[] #[]; rw [eO]; exact h
  | ifp ty i =>
   simp only [CA.ren]
   split
   ·rename_i k hk
    replace hk:L[k]? = some i:=(aN hk).2
    obtain ⟨cs,h1,h2⟩:=h
    exact ⟨_,hlk hk h1,by rw [hg']; simp only []; rw [hat hk]; exact h2⟩
   ·trivial
  | fn1 q i =>
   simp only [CA.ren]
   split
   ·rename_i k hk
    replace hk:L[k]? = some i:=(aN hk).2
    obtain ⟨cs,h1,h2⟩:=h
    exact ⟨_,hlk hk h1,by rw [hg']; simp only []; rw [hat hk]; exact h2⟩
   ·trivial
  | psl i n =>
   simp only [CA.ren]
   split
   ·rename_i k hk
    replace hk:L[k]? = some i:=(aN hk).2
    obtain ⟨cs,h1,h2⟩:=h
    exact ⟨_,hlk hk h1,by rw [hg']; simp only []; rw [hat hk]; exact h2⟩
   ·trivial
  | aptr i off len n =>
   simp only [CA.ren]
   split
   ·rename_i k hk
    replace hk:L[k]? = some i:=(aN hk).2
    obtain ⟨cs,h1,h2,h3⟩:=h
    exact ⟨_,hlk hk h1,h2,by rw [hg']; simp only []; rw [hat hk]; exact h3⟩
   ·trivial
  | may i ty =>
   simp only [CA.ren]
   split
   ·rename_i k hk
    replace hk:L[k]? = some i:=(aN hk).2
    obtain ⟨cs,h1,h2,h3⟩:=h
    refine ⟨_,hlk hk h1,?_,?_⟩
    ·rw [hg']; simp only []; rw [hat hk]; exact h2
    ·rw [hg']; simp only []; rw [hat hk]; exact h3
   ·trivial
  | undef=>exact h
  | junk=>exact h
 have foot:∀ {k b:Nat},Foot g' (ia L st).look k b->∃ i,L[k]? = some i/\Foot g st.look i b:=by
  rintro k b (⟨cs,h1,h2⟩ | ⟨xs,r,h1,h2,h3⟩)
  ·obtain ⟨i,b0,i1,i2,i3⟩:=inv h1
   refine ⟨i,i1,?_⟩
   rw [hg'] at h2
   simp only [] at h2
   rw [hat i1] at h2
   cases b0 with
   | cells cs0=>exact .inl ⟨cs0,i2,h2⟩
   | tree xs=>simp [BC.be] at i3
  ·obtain ⟨i,b0,i1,i2,i3⟩:=inv h1
   refine ⟨i,i1,?_⟩
   rw [hg'] at h3
   simp only [] at h3
   rw [hat i1] at h3
   cases b0 with
   | cells cs0=>simp [BC.be] at i3
   | tree xs0=>simp only [BC.be,BC.tree.injEq] at i3; subst i3; exact .inr ⟨xs,r,i2,h2,h3⟩
 refine ⟨g',hs.below,by rw [eI]; exact hs.sub,by rw [eI]; exact hs.lt,by rw [eI]; exact hs.old,by simp only [ia,nN,aZ]; exact hs.len,hs.defers,fun t v hv=>?_,by simp only [ia,nN,aZ]; exact hs.olen,?_,fun k cs hl=>?_,fun k xs hl r x hx=>?_,
  fun k b hb=>?_,fun k k' b hb hb'=>?_,fun k xs r r' b hl h1 h2 h3 h4=>?_,fun b hb=>hb.elim,hs.base,by rw [eO]; exact hs.out⟩
 ·simp only [ia,nS] at hv
  cases hm:(b8 (CA.ren L) st.slots)[t]? with
  | none=>simp [hm] at hv
  | some u =>
   simp only [hm,D6,DU] at hv
   subst hv
   exact wr (cW (w':=w) (g':=g') (st':=ia L st) hf (fun _ _=>rfl) (fun b hb=>by rw [eI]; exact hb) (l:=st.slots) (vs:=fun t=>a.tmps.getD t undef) hs.slots t u hm)
 ·intro t v hv
  simp only [ia,nS] at hv
  cases hm:(b8 (CA.ren L) st.out)[t]? with
  | none=>simp [hm] at hv
  | some u =>
   simp only [hm,D6,DU] at hv
   subst hv
   exact wr (cW (w':=w) (g':=g') (st':=ia L st) hf (fun _ _=>rfl) (fun b hb=>by rw [eI]; exact hb) (l:=st.out) (vs:=fun t=>ov.getD t undef) hs.outs t u hm)
 ·obtain ⟨i,b0,i1,i2,i3⟩:=inv hl
  cases b0 with
  | tree xs=>simp [BC.be] at i3
  | cells cs0 =>
   simp only [BC.be,BC.cells.injEq] at i3
   subst i3
   obtain ⟨vs,ty,c1,c2⟩:=hs.cells i cs0 i2
   refine ⟨vs,ty,?_,c2.mapC hf⟩
   rw [hg']; simp only []; rw [hat i1]; exact c1
 ·obtain ⟨i,b0,i1,i2,i3⟩:=inv hl
  cases b0 with
  | cells cs0=>simp [BC.be] at i3
  | tree xs0 =>
   simp only [BC.be,BC.tree.injEq] at i3
   subst i3
   have:=hs.trees i xs i2 r x hx
   rw [hg']; simp only []; rw [hat i1]; exact this
 ·obtain ⟨i,i1,i2⟩:=foot hb
  rw [eI]
  exact hs.foot i b i2
 ·obtain ⟨i,i1,i2⟩:=foot hb
  obtain ⟨j,j1,j2⟩:=foot hb'
  have:=hs.apart i j b i2 j2
  subst this
  exact lK hn k k' i i1 j1
 ·obtain ⟨i,b0,i1,i2,i3⟩:=inv hl
  cases b0 with
  | cells cs0=>simp [BC.be] at i3
  | tree xs0 =>
   simp only [BC.be,BC.tree.injEq] at i3
   subst i3
   rw [hg'] at h3 h4
   simp only [] at h3 h4
   rw [hat i1] at h3 h4
   exact hs.apartR i xs r r' b i2 h1 h2 h3 h4
theorem jM {an:Ann} {k:ASt->Prg T} {r:T} (hs:Sim w0 I0 st a ov w) (h:(t9 an st k).goes C J r):∃ st',(k st').goes C J r/\Sim w0 I0 st' a ov w:=by
 unfold t9 at h
 obtain ⟨st1,h1,hs1⟩:=mi hs h
 obtain ⟨st2,h2,hs2⟩:=mM hs1 h1
 unfold wW at h2
 cases hc:gf (fU (gh an.keep (gc (jB an.frz st2) an.kill))) && (fU (gh an.keep (gc (jB an.frz st2) an.kill))).length.ble cL && cL.ble (gh an.keep (gc (jB an.frz st2) an.kill)).boxes.length with
 | false=>rw [hc] at h2; exact h2.elim
 | true =>
  rw [hc] at h2
  simp only [DV] at hc
  exact ⟨_,h2,zC hc.1.1 (xI (jx (nu hs2)))⟩
end
end Go.Ab
end
section
namespace Go.Ab
open Go.RowKit
theorem gL {a b:Nat} (h:a < b):a.blt b=true:=by simpa using h
theorem iN {a b:Nat} (h:b<=a):a.blt b=false:=by
  cases hb:a.blt b with
  | false=>rfl
  | true => have : a < b := by simpa using hb
            omega
theorem iJ {a b:Nat} (h:a.blt b=true):a < b:=by simpa using h
theorem nV {a b:Nat} (h:a.blt b=false):b<=a:=by
 rcases Nat.lt_or_ge a b with h' | h'
 ·rw [gL h'] at h; cases h
 ·exact h'
def co (n m:Nat):Array Bool:=((List.range n).map fun i=>i.blt m).toArray
theorem bV (n m:Nat):(co n m).size=n:=by simp [co]
theorem bk {n m i:Nat} (h:i < n) (d:Bool):(co n m).getD i d=i.blt m:=by
 simp [co,h]
theorem An (n:Nat):co n 0=Array.replicate n false:=by
 apply Array.ext
 ·simp [co]
 ·intro i h1 h2
  have:i.blt 0=false:=iN (Nat.zero_le _)
  simpa [co] using this
theorem tQ {n m:Nat} {listed:Array Bool} (hsz:listed.size=n) (h1:∀ i,i < n->i < m->listed.getD i true=true) (h2:∀ i,i < n->m<=i->listed.getD i true=false):listed=co n m:=by
 apply Array.ext
 ·rw [hsz,bV]
 ·intro i hi1 hi2
  have hin:i < n:=by omega
  have e1:listed.getD i true=listed[i]:=by simp [hi1]
  have e2:(co n m).getD i true=(co n m)[i]:=by simp [hi2]
  rw [<- e1,<- e2,bk hin]
  by_cases hm:i < m
  ·rw [h1 i hin hm,gL hm]
  ·rw [h2 i hin (by omega),iN (by omega)]
theorem qD {bs:List Nat} {k:Nat}:∀ {l:List Oper} {i:Nat},np bs k i l=true->∀ j,j < l.length->k<=i + j->∀ q,q < k->(nth 0 bs (i + j)).testBit q=true
 | [],i,_,j,hj,_,q,_=>by simp at hj
 | o :: l, i, h, j, hj, hk, q, hq => by
  simp only [np] at h
  cases hb:i.blt k with
  | true =>
   simp only [hb,cond_true] at h
   have hik:i < k:=by simpa using hb
   cases j with
   | zero=>omega
   | succ j =>
    have:=qD h j (by simpa using hj) (by omega) q hq
    rwa [show i + 1 + j=i + (j + 1) by omega] at this
  | false =>
   simp only [hb,cond_false,DV] at h
   obtain ⟨h0,h⟩:=h
   cases j with
   | zero =>
    have h1:(nth 0 bs i) &&& (2 ^ k - 1)=2 ^ k - 1:=(ar _ _).1 h0
    have h2:((nth 0 bs i) &&& (2 ^ k - 1)).testBit q=true:=by
     rw [h1,Nat.testBit_two_pow_sub_one]
     simpa using hq
    rw [Nat.testBit_and] at h2
    simp only [DV] at h2
    simpa using h2.1
   | succ j =>
    have hik:k<=i:=nV hb
    have:=qD h j (by simpa using hj) (by omega) q hq
    rwa [show i + 1 + j=i + (j + 1) by omega] at this
theorem xd {ops:List Oper} {k:Nat} (h:mj ops k=true) {i:Nat} (hi:i < ops.length) (hk:k<=i) {q:Nat} (hq:q < k):(nth 0 (behind ops) i).testBit q=true:=by
 have:=qD h i hi (by omega) q hq
 rwa [Nat.zero_add] at this
section
variable {P:Program} {E:Env} {C:Cal} {w0:Bs} {I0:Nat->Prop} {ov:List Value} {Q:Exit->Act->World->Prop} {ex:List (List Nat)}
theorem gu {ops:Array Oper} (hok:bh ops.toList=true) {listed:Array Bool} (hsz:listed.size=ops.size)
  (hcl:∀ (k:Nat) (o:Oper),ops[k]? = some o->listed.getD k true=true->∀ e ∈ o.after,Region.binds .any e=true->listed.getD e.on false=true) :
  ∀ (k:Nat) (ok_:Oper),ops[k]? = some ok_->(∀ e ∈ ok_.after,Region.binds .any e=true->listed.getD e.on false=true)->∀ q,(nth 0 (behind ops.toList) k).testBit q=true->listed.getD q true=true:=by
 intro k
 induction k using Nat.strongRecOn with
 | _ k ihk =>
  intro ok_ hk hed q hq
  rw [kU (by rw [DW]; exact hk)] at hq
  obtain ⟨e,he,hbn,hor⟩:=iA hq
  have hl:=hed e (by simpa using he) hbn
  have hlt2:=bu ((cI ops.toList 0 hok k ok_ (by rw [DW]; exact hk)).1) e he hbn
  simp only [Nat.zero_add] at hlt2
  have hks:k < ops.size:=(DX.1 hk).1
  have hl':listed.getD e.on true=true:=by
   have:e.on < listed.size:=by omega
   simpa [this] using hl
  rcases hor with h | h
  ·rw [<- h]; exact hl'
  ·have hnt:nth 0 ((behind ops.toList).take k) e.on=nth 0 (behind ops.toList) e.on:=by rw [aV,aV,List.getElem?_take_of_lt hlt2]
   rw [hnt] at h
   have hon:ops[e.on]? = some (ops[e.on]'(by omega)):=Array.getElem?_eq_getElem (by omega)
   exact ihk e.on hlt2 _ hon (hcl e.on _ hon hl') q h
theorem vR {ops:Array Oper} (hok:bh ops.toList=true) {listed:Array Bool} (hsz:listed.size=ops.size) {i:Nat} (hi:i < ops.size) (h0:listed.getD i true=false) (hmin:∀ j,j < i->listed.getD j true=true) :
  i ∈ Region.ready .any ops listed:=by
 rw [mem_ready]
 refine ⟨h0,ops[i]'hi,Array.getElem?_eq_getElem hi,fun e he hb=>?_⟩
 have hlt:=bu ((cI ops.toList 0 hok i _ (by rw [DW]; exact Array.getElem?_eq_getElem hi)).1) e (by simpa using he) hb
 simp only [Nat.zero_add] at hlt
 have:=hmin e.on hlt
 have hlt2:e.on < listed.size:=by omega
 simpa [hlt2] using this
theorem wn {u m:Nat}:∀ {k:Nat},pG u m k=true->∀ q,q < k->q≠u->m.testBit q=true
 | 0,_,q,hq,_=>by omega
 | k + 1, h, q, hq, hne => by
  simp only [pG,DV,Bool.or_eq_true,ar] at h
  rcases Nat.lt_or_ge q k with h1 | h1
  ·exact wn h.2 q h1 hne
  ·have:q=k:=by omega
   subst this
   rcases h.1 with h2 | h2
   ·exact absurd h2 hne
   ·exact h2
theorem oA {bs:List Nat} {u k:Nat}:∀ {l:List Oper} {i:Nat},kB bs u k i l=true->∀ j,j < l.length->k<=i + j->∀ q,q < k->q≠u->(nth 0 bs (i + j)).testBit q=true
 | [],i,_,j,hj,_,q,_,_=>by simp at hj
 | o :: l, i, h, j, hj, hk, q, hq, hne => by
  simp only [kB] at h
  cases hb:i.blt k with
  | true =>
   simp only [hb,cond_true] at h
   have hik:i < k:=by simpa using hb
   cases j with
   | zero=>omega
   | succ j =>
    have:=oA h j (by simpa using hj) (by omega) q hq hne
    rwa [show i + 1 + j=i + (j + 1) by omega] at this
  | false =>
   simp only [hb,cond_false,DV] at h
   obtain ⟨h0,h⟩:=h
   cases j with
   | zero=>exact wn h0 q hq hne
   | succ j =>
    have hik:k<=i:=nV hb
    have:=oA h j (by simpa using hj) (by omega) q hq hne
    rwa [show i + 1 + j=i + (j + 1) by omega] at this
theorem uP {ops:List Oper} {u k:Nat} (h:qT ops u k=true) {i:Nat} (hi:i < ops.length) (hk:k<=i) {q:Nat} (hq:q < k) (hne:q≠u):(nth 0 (behind ops) i).testBit q=true:=by
 have:=oA h i hi (by omega) q hq hne
 rwa [Nat.zero_add] at this
theorem sZ {bs:List Nat} {u k:Nat}:∀ {l:List Oper} {i:Nat},mr bs u k i l=true->∀ j,j < l.length->i + j < k->(nth 0 bs (i + j)).testBit u=false
 | [],i,_,j,hj,_=>by simp at hj
 | o :: l, i, h, j, hj, hk => by
  simp only [mr] at h
  rw [gL (show i < k by omega)] at h
  simp only [cond_true,DV,Bool.not_eq_true'] at h
  cases j with
  | zero=>exact h.1
  | succ j =>
   have:=sZ h.2 j (by simpa using hj) (by omega)
   rwa [show i + 1 + j=i + (j + 1) by omega] at this
structure u6 (all:List Oper) (j u:Nat) (om c:Oper) (d:Tmp):Prop where
 lt:u < j
 hu:all[u]? = some om
 hj:all[j]? = some c
 ld:oc om=true
 dst:om.dst=some d
 b1:qT all u j=true
 b2:qT all u (j + 1)=true
 none_:∀ i,i < all.length->i<=j->(nth 0 (behind all) i).testBit u=false
 grd:c.guard=none
 free:d ∉ eQ c.op.operands.toList
 ne:c.dst≠some d
theorem sJ {all:List Oper} {j:Nat} {c:Oper} (hj:all[j]? = some c):∀ {l:List Oper} {i:Nat},l=all.drop i->∀ {u:Nat},mR all j c i l=some u->∃ om d,u6 all j u om c d
 | [],i,hl,u,h=>by cases h
 | o :: l, i, hl, u, h => by
  simp only [mR] at h
  cases hb:i.blt j with
  | false=>rw [hb] at h; cases h
  | true =>
   rw [hb] at h
   simp only [cond_true] at h
   cases hk:xr all j i o c with
   | false =>
    rw [hk] at h
    exact sJ hj (by have:=congrArg List.tail hl; simpa using this) h
   | true =>
    rw [hk] at h
    simp only [cond_true,DU] at h
    subst h
    have ho:all[i]? = some o:=by
     have:(all.drop i)[0]? = some o:=by rw [<- hl]; rfl
     simpa using this
    simp only [xr,DV] at hk
    obtain ⟨⟨k1,k2,k3⟩,k4,k5,k6⟩:=hk
    cases hd:o.dst with
    | none=>rw [hd] at k6; cases k6
    | some d =>
     rw [hd] at k6
     simp only [DV,eW,Bool.not_eq_true'] at k6
     refine ⟨o,d,iJ hb,ho,hj,k1,hd,k2,k3,fun q hq hqj=>?_,by simpa using k5,fun hm=>?_,fun e=>?_⟩
     ·have:=sZ k4 q hq (by omega)
      rwa [Nat.zero_add] at this
     ·rw [<- bN] at hm
      rw [hm] at k6
      cases k6.1
     ·rw [e] at k6
      simp [unlike] at k6
theorem Cg {all:List Oper} {j u:Nat} (h:gq all j=some u):∃ om c d,u6 all j u om c d:=by
 unfold gq at h
 split at h
 ·rename_i c hc
  obtain ⟨om,d,h1⟩:=sJ hc (by simp) h
  exact ⟨om,c,d,h1⟩
 ·cases h
theorem zZ {ro : Option Nat} (hE : fJ P w0.G E C) {ops : Array Oper} (hok : bh ops.toList = true) {m : Nat} (hm : m ≤ ops.size) {uo : Option Nat} (hbar : ∀ i, m ≤ i → i < ops.size → ∀ q, q < m → uo ≠ some q → (nth 0 (behind ops.toList) i).testBit q = true) (hbar2 : ∀ i, m < i → i < ops.size → (nth 0 (behind ops.toList) i).testBit m = true)
  {fin:ASt} {fe:Nat} (hQ:∀ a w,Sim w0 I0 fin a ov w->wpAnyIn (Rd ro) 0 P .any ops Q fe (co ops.size m) a w)
  (hL:∀ u,uo=some u->u < m->m < ops.size->∀ st a w,d8 E C ex ops.toList [u] st fin->Sim w0 I0 st a ov w->wpOpIn (Rd ro) 0 P ops Q m (fun a' w'=>wpAnyIn (Rd ro) 0 P .any ops Q fe ((co ops.size (m + 1)).setIfInBounds u false) a' w') a w) :
  ∀ (n:Nat) (listed:Array Bool) (st:ASt) (a:Act) (w:World),listed.size=ops.size->(unlisted m listed).length=n ->
   (∀ (k:Nat) (o:Oper),ops[k]? = some o->listed.getD k true=true->∀ e ∈ o.after,Region.binds .any e=true->listed.getD e.on false=true) ->
   (∀ k,m<=k->k < ops.size->listed.getD k true=false) ->
   d8 E C ex ops.toList (unlisted m listed) st fin->Sim w0 I0 st a ov w->wpAnyIn (Rd ro) 0 P .any ops Q (n + fe) listed a w:=by
 intro n
 induction n with
 | zero =>
  intro listed st a w hsz hlen hcl hup h hs
  have hnil:unlisted m listed=[]:=List.eq_nil_of_length_eq_zero hlen
  rw [hnil] at h
  cases h
  have:listed=co ops.size m:=tQ hsz (fun i hi him=>by
   cases hb:listed.getD i true with
   | true=>rfl
   | false =>
    exfalso
    have:i ∈ unlisted m listed:=by simp only [unlisted,List.mem_filter,List.mem_range,Bool.not_eq_true']; exact ⟨him,hb⟩
    rw [hnil] at this
    cases this) (fun i hi him=>hup i him hi)
  rw [this,Nat.zero_add]
  exact hQ a w hs
 | succ n ih =>
  intro listed st a w hsz hlen hcl hup h hs
  rw [show n + 1 + fe=(n + fe) + 1 by omega]
  obtain ⟨i0,l0,hu⟩:∃ i0 l0,unlisted m listed=i0 :: l0:=by
   cases hu:unlisted m listed with
   | nil=>rw [hu] at hlen; cases hlen
   | cons i l=>exact ⟨i,l,rfl⟩
  have hsortedA:(unlisted m listed).Pairwise (· < ·):=List.Pairwise.filter _ List.pairwise_lt_range
  have hmem0:i0 ∈ unlisted m listed:=by rw [hu]; exact DZ
  have hmem0':=hmem0
  simp only [unlisted,List.mem_filter,List.mem_range,Bool.not_eq_true'] at hmem0'
  have hmin:∀ j,j < i0->listed.getD j true=true:=by
   intro j hj
   cases hb:listed.getD j true with
   | true=>rfl
   | false =>
    exfalso
    have hjm:j ∈ unlisted m listed:=by
     simp only [unlisted,List.mem_filter,List.mem_range,Bool.not_eq_true']
     exact ⟨by omega,hb⟩
    rw [hu] at hjm hsortedA
    rcases List.mem_cons.1 hjm with h | h
    ·omega
    ·have:=(List.pairwise_cons.1 hsortedA).1 j h
     omega
  have hr0:i0 ∈ Region.ready .any ops listed:=vR hok hsz (by omega) hmem0'.2 hmin
  refine ⟨fun hr=>(by rw [hr] at hr0; cases hr0),fun i hi=>?_⟩
  rw [mem_ready] at hi
  obtain ⟨h0,o,ho,hedges⟩:=hi
  have hlt:i < ops.size:=(DX.1 ho).1
  by_cases him:i < m
  case neg =>
   have hmi:m<=i:=by omega
   have hall:∀ q ∈ unlisted m listed,uo=some q:=fun q hq=>by
    simp only [unlisted,List.mem_filter,List.mem_range,Bool.not_eq_true'] at hq
    apply Classical.byContradiction
    intro hne
    have:=gu hok hsz hcl i o ho hedges q (hbar i hmi hlt q hq.1 hne)
    rw [hq.2] at this
    cases this
   have himm:i=m:=by
    rcases Nat.lt_or_ge m i with h' | h'
    ·exfalso
     have:=gu hok hsz hcl i o ho hedges m (hbar2 i h' hlt)
     rw [(by
      have:=hup m (Nat.le_refl _) (by omega)
      exact this:listed.getD m true=false)] at this
     cases this
    ·omega
   subst himm
   have hu0:uo=some i0:=hall i0 hmem0
   have hl0:l0=[]:=by
    cases l0 with
    | nil=>rfl
    | cons i1 l1 =>
     exfalso
     have h1:uo=some i1:=hall i1 (by rw [hu]; simp)
     rw [hu0] at h1
     cases h1
     rw [hu] at hsortedA
     have:=(List.pairwise_cons.1 hsortedA).1 i0 DZ
     omega
   subst hl0
   rw [hu] at h
   have hn0:n=0:=by rw [hu] at hlen; simpa using hlen.symm
   subst hn0
   have heq : listed.setIfInBounds i true = (co ops.size (i + 1)).setIfInBounds i0 false := by
    apply Array.ext
    ·simp [bV,hsz]
    ·intro q hq1 hq2
     have hqn:q < ops.size:=by simpa [hsz] using hq1
     have hqU:q < (co ops.size (i + 1)).size:=by rw [bV]; exact hqn
     have eU:(co ops.size (i + 1))[q]=q.blt (i + 1):=by
      have:=bk (m:=i + 1) hqn true
      rw [D8,Array.getElem?_eq_getElem hqU] at this
      simpa using this
     have hqL:q < listed.size:=by rw [hsz]; exact hqn
     have eL:listed.getD q true=listed[q]:=by simp [hqL]
     rw [Array.getElem_setIfInBounds hqL,Array.getElem_setIfInBounds hqU]
     by_cases h1:i=q
     ·subst h1
      rw [if_pos rfl,if_neg (by omega),eU,gL (by omega)]
     ·rw [if_neg h1]
      by_cases h2:i0=q
      ·subst h2
       rw [if_pos rfl,<- eL]
       exact hmem0'.2
      ·rw [if_neg h2,eU,<- eL]
       rcases Nat.lt_or_ge q i with h3 | h3
       ·rw [gL (by omega)]
        cases hb:listed.getD q true with
        | true=>rfl
        | false =>
         exfalso
         have:q ∈ unlisted i listed:=by simp only [unlisted,List.mem_filter,List.mem_range,Bool.not_eq_true']; exact ⟨h3,hb⟩
         rw [hu] at this
         simp at this
         exact h2 this.symm
       ·rw [iN (by omega)]
        exact hup q h3 hqn
   rw [heq,Nat.zero_add]
   exact hL i0 hu0 hmem0'.1 hlt st a w h hs
  have hmem:i ∈ unlisted m listed:=by
   simp only [unlisted,List.mem_filter,List.mem_range,Bool.not_eq_true']
   exact ⟨him,h0⟩
  obtain ⟨pre,post,hsplit⟩:=List.append_of_mem hmem
  have hsorted:=hsortedA
  rw [hsplit] at hsorted h
  have hpre:∀ j ∈ pre,j < i/\(nth 0 (behind ops.toList) i).testBit j=false:=by
   intro j hj
   refine ⟨(List.pairwise_append.1 hsorted).2.2 j hj i DZ,?_⟩
   cases hb:(nth 0 (behind ops.toList) i).testBit j with
   | false=>rfl
   | true =>
    exfalso
    have h1:=gu hok hsz hcl i o ho hedges j hb
    have:j ∈ unlisted m listed:=by rw [hsplit]; exact List.mem_append_left _ hj
    simp only [unlisted,List.mem_filter,List.mem_range,Bool.not_eq_true'] at this
    rw [this.2] at h1
    cases h1
  obtain ⟨s1,k1,k2⟩:=lF pre i o post st fin (by rw [DW]; exact ho) hpre hok h
  refine wpOpIn_mono (fun a' w' hs'=>?_) (kP hE (i:=ag ex ops.toList (behind ops.toList) i o) ho hs k1)
  have hil:i < listed.size:=by omega
  have hnew:unlisted m (listed.setIfInBounds i true)=pre ++ post:=by
   have hnd:(pre ++ i :: post).Nodup:=hsorted.imp (fun h=>Nat.ne_of_lt h)
   have:unlisted m (listed.setIfInBounds i true)=(unlisted m listed).filter (fun j=>j≠i):=by
    simp only [unlisted,List.filter_filter]
    apply List.filter_congr
    intro j hj
    by_cases hji:j=i
    ·subst hji
     simp [hil]
    ·have:(listed.setIfInBounds i true).getD j true=listed.getD j true:=getD_set_ne true (fun e=>hji e.symm)
     rw [this]
     simp [hji]
   rw [this,hsplit,List.filter_append,List.filter_cons]
   have hni:i ∉ pre/\i ∉ post:=by
    rw [List.nodup_append] at hnd
    refine ⟨fun hm=>hnd.2.2 i hm i DZ rfl,(List.nodup_cons.1 hnd.2.1).1⟩
   simp only [ne_eq,not_true_eq_false,decide_false,Bool.false_eq_true,if_false]
   rw [List.filter_eq_self.2 (fun j hj=>by simp; rintro rfl; exact hni.1 hj),List.filter_eq_self.2 (fun j hj=>by simp; rintro rfl; exact hni.2 hj)]
  refine ih (listed.setIfInBounds i true) s1 a' w' (by simpa using hsz) ?_ ?_ ?_ (by rw [hnew]; exact k2) hs'
  ·rw [hnew]
   rw [hsplit] at hlen
   simp at hlen ⊢
   omega
  ·intro k ok_ hk hl e he hb
   by_cases hki:k=i
   ·subst hki
    rw [ho] at hk
    cases hk
    exact getD_set_true (hedges e he hb)
   ·rw [getD_set_ne true (fun e=>hki e.symm)] at hl
    exact getD_set_true (hcl k ok_ hk hl e he hb)
  ·intro k hk hks
   rw [getD_set_ne true (by omega)]
   exact hup k hk hks
theorem vu {acc:List Nat}:∀ {es:List Edge} {e:Edge},e ∈ es->Region.binds .any e=true->(eN acc es).testBit e.on=true
 | [],e,h,_=>by cases h
 | e' :: es, e, h, hb => by
  simp only [eN]
  rcases List.mem_cons.1 h with rfl | h
  ·rw [hb]
   simp only [cond_true,Nat.testBit_or,Nat.testBit_two_pow_self,Bool.or_true,Bool.true_or]
  ·have:=vu (acc:=acc) h hb
   cases Region.binds .any e' with
   | false=>exact this
   | true=>simp only [cond_true,Nat.testBit_or,this,Bool.true_or]
theorem lr {ops:List Oper}:∀ {l l':List Nat} {s s1 s2:ASt},d8 E C ex ops l s s1->d8 E C ex ops l' s1 s2->d8 E C ex ops (l ++ l') s s2
 | [],_,_,_,_,h,h'=>by cases h; exact h'
 | i :: l,_,_,_,_,h,h'=>by cases h with | cons ho h r=>exact .cons ho h (lr r h')
theorem sG {n j u m:Nat} (hu:u < j) (hj:j<=m) (hm:m<=n):unlisted m ((co n j).setIfInBounds u false)=[u] ++ List.range' j (m - j):=by
 have g:∀ i,i < n->((co n j).setIfInBounds u false).getD i true=(if i=u then false else i.blt j):=fun i hi=>by
  by_cases h:i=u
  ·subst h
   rw [if_pos rfl,D8,Array.getElem?_setIfInBounds_self_of_lt (by rw [bV]; exact hi)]
   rfl
  ·rw [if_neg h,<- bk hi true,D8,D8,Array.getElem?_setIfInBounds_ne (fun e=>h e.symm)]
 have e1:m=u + (1 + (j - (u + 1)) + (m - j)):=by omega
 unfold unlisted
 conv=>lhs; rw [e1,List.range_add,List.range_add,List.range_add]
 simp only [List.map_append,List.filter_append]
 have h1:(List.range u).filter (fun i=>!((co n j).setIfInBounds u false).getD i true)=[]:=by
  rw [List.filter_eq_nil_iff]
  intro i hi
  have:i < u:=by simpa using hi
  rw [g i (by omega),if_neg (by omega),gL (by omega)]
  simp
 have h2:((List.range 1).map (u + ·)).filter (fun i=>!((co n j).setIfInBounds u false).getD i true)=[u]:=by
  have:=g u (by omega)
  rw [if_pos rfl] at this
  rw [show (List.range 1).map (u + ·)=[u] from rfl,List.filter_cons,this]
  rfl
 have h3:(((List.range (j - (u + 1))).map (1 + ·)).map (u + ·)).filter (fun i=>!((co n j).setIfInBounds u false).getD i true)=[]:=by
  rw [List.filter_eq_nil_iff]
  intro i hi
  simp only [List.mem_map,List.mem_range] at hi
  obtain ⟨k1,⟨k2,hk2,rfl⟩,rfl⟩:=hi
  rw [g _ (by omega),if_neg (by omega),gL (by omega)]
  simp
 have h4:(((List.range (m - j)).map (1 + (j - (u + 1)) + ·)).map (u + ·)).filter (fun i=>!((co n j).setIfInBounds u false).getD i true)=List.range' j (m - j):=by
  rw [List.filter_eq_self.2,List.range'_eq_map_range,List.map_map]
  ·apply List.map_congr_left
   intro k hk
   simp only [Function.comp]
   omega
  ·intro i hi
   simp only [List.mem_map,List.mem_range] at hi
   obtain ⟨k1,⟨k2,hk2,rfl⟩,rfl⟩:=hi
   rw [g _ (by omega),if_neg (by omega),iN (by omega)]
   rfl
 rw [h1,h2,h3,h4]
 simp
theorem iu {n j m:Nat} (hj:j<=m) (hm:m<=n):unlisted m (co n j)=[] ++ List.range' j (m - j):=by
 have e1:m=j + (m - j):=by omega
 unfold unlisted
 conv=>lhs; rw [e1,List.range_add,List.filter_append]
 have h1:(List.range j).filter (fun i=>!(co n j).getD i true)=[]:=by
  rw [List.filter_eq_nil_iff]
  intro i hi
  have:i < j:=by simpa using hi
  rw [bk (by omega),gL this]
  simp
 have h2:((List.range (m - j)).map (j + ·)).filter (fun i=>!(co n j).getD i true)=(List.range (m - j)).map (j + ·):=by
  rw [List.filter_eq_self]
  intro i hi
  simp only [List.mem_map,List.mem_range] at hi
  obtain ⟨k,hk,rfl⟩:=hi
  rw [bk (by omega),iN (by omega)]
  rfl
 rw [h1,h2,List.range'_eq_map_range]
theorem q9 {i:Item} {ops:List Oper} {st st':ASt} (hl:oc i.o=true) (h:OpN E C ops i st st'):∃ t x d e,i.o.op=.load t x/\i.o.dst=some d /\
  (opL E (st.nid (some d)) (banned (bj i.ban st.base) st.look) (.load t x) [st.ev x]).hits C e/\e.nfE.app st (some d)=some st':=by
 unfold oc at hl
 split at hl
 ·rename_i t x hop
  simp only [DV,Option.isNone_iff_eq_none] at hl
  obtain ⟨hg,hd⟩:=hl
  obtain ⟨d,hd⟩:=Option.isSome_iff_exists.1 hd
  rcases h with ⟨_,e,h1,_,h3⟩ | ⟨b,hb,hne,_⟩
  ·rw [hd,hop] at h1
   rw [hd] at h3
   exact ⟨t,x,d,e,hop,hd,by simpa [Op.operands] using h1,h3⟩
  ·rw [aX (by rw [hg]; rfl)] at hb
   exact absurd (Option.some.inj hb).symm hne
 ·cases hl
theorem AY (hE:fJ P w0.G E C) {i:Item} {ops:List Oper} {st st':ASt} {a:Act} {w:World} (hl:oc i.o=true) (hs:Sim w0 I0 st a ov w) (h:OpN E C ops i st st'):∃ d val,i.o.dst=some d/\Sim w0 I0 st' (a.put (some d) val) ov w:=by
 obtain ⟨t,x,d,e,hop,hd,h1,h3⟩:=q9 hl h
 obtain ⟨g,hs⟩:=hs
 obtain ⟨st1,h4,h5⟩:=xY h3
 obtain ⟨u,hrun,hsim⟩:=BQ (dst:=some d) (type:=i.o.type) (pos:=i.o.pos) (after:=i.o.after) (guard:=i.o.guard) hE.ty (nI _ st) hs h1 h4
 exact ⟨d,u,hd,h5 _ _ _ _ _ hsim⟩
theorem eqV_eq {v u:Value} (h:eqV v u=true):v=u:=by
 unfold eqV at h
 split at h
 ·rename_i a b
  have hb:Int.beq' a b=true:=by
   revert h
   cases Int.beq' a b with
   | true=>intro _; rfl
   | false=>intro h; cases h
  rw [show a=b from by simpa [Int.beq'_eq] using hb]
 ·rename_i a b
  have hb:Int.beq' a b=true:=by
   revert h
   cases Int.beq' a b with
   | true=>intro _; rfl
   | false=>intro h; cases h
  rw [show a=b from by simpa [Int.beq'_eq] using hb]
 ·rename_i a b
  have hb:Int.beq' a b=true:=by
   revert h
   cases Int.beq' a b with
   | true=>intro _; rfl
   | false=>intro h; cases h
  rw [show a=b from by simpa [Int.beq'_eq] using hb]
 ·rename_i a b
  rw [show a=b from by simpa using h]
 ·rfl
 ·cases h
mutual
theorem B6:∀ (x y:TV),eqT x y=true->x=y
 | .lit v,.lit u,h=>by rw [eqV_eq (v:=v) (u:=u) (by simpa only [eqT] using h)]
 | .sl o s xs,.sl o' s' xs',h=>by
  simp only [eqT,DV,ar] at h
  rw [show o=o' from by simpa using h.1,h.2.1,vg xs xs' h.2.2]
 | .agg cs,.agg cs',h=>by rw [ux cs cs' (by simpa only [eqT] using h)]
 | .hole,.hole,_=>rfl
 | .lit _,.sl _ _ _,h=>by cases h
 | .lit _,.agg _,h=>by cases h
 | .lit _,.tup _,h=>by cases h
 | .lit _,.buf _ _,h=>by cases h
 | .lit _,.hole,h=>by cases h
 | .sl _ _ _,.lit _,h=>by cases h
 | .sl _ _ _,.agg _,h=>by cases h
 | .sl _ _ _,.tup _,h=>by cases h
 | .sl _ _ _,.buf _ _,h=>by cases h
 | .sl _ _ _,.hole,h=>by cases h
 | .agg _,.lit _,h=>by cases h
 | .agg _,.sl _ _ _,h=>by cases h
 | .agg _,.tup _,h=>by cases h
 | .agg _,.buf _ _,h=>by cases h
 | .agg _,.hole,h=>by cases h
 | .tup _,_,h=>by cases h
 | .buf _ _,_,h=>by cases h
 | .hole,.lit _,h=>by cases h
 | .hole,.sl _ _ _,h=>by cases h
 | .hole,.agg _,h=>by cases h
 | .hole,.tup _,h=>by cases h
 | .hole,.buf _ _,h=>by cases h
theorem ux:∀ (x y:List TV),Cv x y=true->x=y
 | [],[],_=>rfl
 | x :: l,y :: r,h=>by
  simp only [Cv,DV] at h
  rw [B6 x y h.1,ux l r h.2]
 | [],_ :: _,h=>by cases h
 | _ :: _,[],h=>by cases h
theorem vg:∀ (x y:List (List TV)),yM x y=true->x=y
 | [],[],_=>rfl
 | x :: l,y :: r,h=>by
  simp only [yM,DV] at h
  rw [ux x y h.1,vg l r h.2]
 | [],_ :: _,h=>by cases h
 | _ :: _,[],h=>by cases h
end
theorem Dl {x y:TV} (h:eqTV x y=true):x=y:=by
 unfold eqTV at h
 rcases Bool.or_eq_true _ _ |>.mp h with h | h
 ·exact B6 x y h
 ·exact @of_decide_eq_true _ (Classical.propDecidable _) h
theorem yU {a b:CA} (h:Do a b=true):a=b/\a≠.junk:=by
 unfold Do at h
 split at h
 ·simp only [DV,ar] at h
  obtain ⟨rfl,rfl⟩:=h
  exact ⟨rfl,by simp⟩
 ·simp only [DV,ar] at h
  obtain ⟨rfl,rfl⟩:=h
  exact ⟨rfl,by simp⟩
 ·rw [Dl h]
  exact ⟨rfl,by simp⟩
 ·cases h
theorem yD:∀ {l r:List CA},Dy l r=true->l=r
 | [],[],_=>rfl
 | a :: l,b :: r,h=>by
  simp only [Dy,DV] at h
  rw [(yU h.1).1,yD h.2]
 | [],_ :: _,h=>by cases h
 | _ :: _,[],h=>by cases h
theorem De {p q:AV} (h:C1 p q=true):p=q/\p≠.one .junk:=by
 unfold C1 at h
 split at h
 ·have h:=yU h
  exact ⟨by rw [h.1],fun e=>h.2 (AV.one.inj e)⟩
 ·rw [yD h]
  exact ⟨rfl,by simp⟩
 ·cases h
theorem zM {i:Item} {ops:List Oper} {st2 st3:ASt} {d:Tmp} (hl:oc i.o=true) (hd:i.o.dst=some d) (h:OpN E C ops i (st2.put (some d) (.one .junk)).nfS st3.nfS) (heq:C1 (nth (.one .junk) st3.slots d) (nth (.one .junk) st2.slots d)=true):st3.nfS=st2.nfS:=by
 obtain ⟨t,x,d',e,hop,hd',h1,h3⟩:=q9 hl h
 rw [hd] at hd'
 cases hd'
 obtain ⟨v,rfl⟩:=Prg.All.hits (AS (op:=.load t x) rfl _) h1
 simp only [Eff.nfE,Eff.app,DU] at h3
 have hq:nth (.one .junk) st3.slots d=nth (.one .junk) st2.slots d/\nth (.one .junk) st3.slots d≠.one .junk:=by
  revert heq
  generalize nth (.one .junk) st3.slots d=p
  generalize nth (.one .junk) st2.slots d=q
  intro heq
  exact De heq
 have e1:nth (.one .junk) st3.nfS.slots d=(nth (.one .junk) st2.slots d).nf:=by rw [kv,hq.1]
 rw [<- h3,hU] at e1 ⊢
 have hlen:d < st2.nfS.slots.length:=by
  rcases Nat.lt_or_ge d st2.nfS.slots.length with h' | h'
  ·exact h'
  ·exfalso
   apply hq.2
   rw [hq.1]
   have:st2.slots.length<=d:=by simpa [ASt.nfS] using h'
   rw [aV,D5 this]
   rfl
 simp only [ASt.put,ai,List.set_set] at e1 ⊢
 rw [aV,List.getElem?_set_self hlen] at e1
 simp only [Option.getD_some] at e1
 have e2:st2.nfS.slots.set d v.nf=st2.nfS.slots:=by
  apply List.ext_getElem?
  intro k
  rw [List.getElem?_set]
  by_cases hk:d=k
  ·subst hk
   rw [if_pos rfl,if_pos hlen,e1,<- kv,aV,DT hlen]
   rfl
  ·rw [if_neg hk]
 rw [e2]
end
end Go.Ab
end

import Derived.Test.YtaokcbfenabbgaaDoorHM13d
set_option linter.all false
section
namespace Go.Ab
open Go.RowKit
section
variable {P:Program} {E:Env} {C:Cal} {w0:Bs} {w w':World} {I0 I R:Nat->Prop} {g g':Gh} {st st':ASt} {a:Act} {ov:List Value} {look look':Look} {Q:Exit->Act->World->Prop} {T:Type} {J:List Nat->ASt->T->Prop}
theorem kA {p:Way} {x:TV} {k:TV->Prg T} {e:T} (h:(pa p x k).goes C J e):∃ y,dw p x=some y/\(k y).goes C J e:=by
 unfold pa at h
 split at h
 ·exact ⟨x,rfl,h⟩
 ·exact h
theorem ai.slot (hs:ai w0 I0 R g st a ov w) (s:Nat):bm w g st.look (nth (.one .junk) st.slots s) (a.tmps.getD s undef):=hs.ev (.tmp s)
theorem yH {x:TV} {v:Value} (h:Rep w I x v) (hx:x.isSl=true):lI v:=by
 obtain ⟨b,n,c,e⟩:=d7 (S:=NoR) (.fr h) hx
 exact ⟨b,n,c,e⟩
theorem nw {s:Nat} {v:AV} {u:Value} (hu:a.tmps.getD s undef=u) (hs:ai w0 I0 R g st (a.put (some s) u) ov w):ai w0 I0 R g st a ov w:=by
 rwa [wu hu] at hs
theorem qW:∀ {m r:Nat} {x y:TV},(cq m [x])[r]? = some y->y=.hole\/y=x
 | 0,0,x,y,h=>by simp [cq] at h; exact .inr h.symm
 | 0,r + 1,x,y,h=>by simp [cq] at h
 | m + 1,0,x,y,h=>by simp [cq] at h; exact .inl h.symm
 | m + 1,r + 1,x,y,h=>by simp only [cq,List.getElem?_cons_succ] at h; exact qW h
theorem oT:∀ {m r:Nat} {x y:TV},(cq m [x])[r]? = some y->y=.hole\/(y=x/\r=m)
 | 0,0,x,y,h=>by simp [cq] at h; exact .inr ⟨h.symm,rfl⟩
 | 0,r + 1,x,y,h=>by simp [cq] at h
 | m + 1,0,x,y,h=>by simp [cq] at h; exact .inl h.symm
 | m + 1,r + 1,x,y,h=>by
  simp only [cq,List.getElem?_cons_succ] at h
  rcases oT h with h | ⟨h,e⟩
  ·exact .inl h
  ·exact .inr ⟨h,congrArg (· + 1) e⟩
theorem nD:∀ (m:Nat) (x:TV),(cq m [x])[m]? = some x
 | 0,x=>rfl
 | m + 1,x=>by simp only [cq,List.getElem?_cons_succ]; exact nD m x
theorem qb {i r idx:Nat} {st1:ASt} (hs:ai w0 I0 (fun _=>False) g st a ov w) (hm:iJ st i r idx=some st1):∃ g1,ai w0 I0 (fun _=>False) g1 st1 a ov w/\g1.β=g.β /\
  (∀ v,bi w g st.look (.sref i r []) v->bi w g1 st1.look (.sref (gw 0 st.boxes) idx []) v):=by
 unfold iJ at hm
 split at hm
 ·rename_i xs h1
  cases hlo:sN xs r idx with
  | true=>rw [hlo] at hm; cases hm
  | false =>
   simp only [hlo,cond_false] at hm
   split at hm
   ·rename_i x h2
    have hrl:r < xs.length:=(Dt.1 h2).1
    have hfr:∀ b,g.φ i r b->Foot g st.look i b:=fun b hb=>.inr ⟨xs,r,h1,hrl,hb⟩
    obtain ⟨n1,n2,rfl⟩:=aZ hm
    obtain ⟨q1,q2⟩:=hs.eB h1 h2 (CA.drop i r [] false) (fun p=>leads false [] p=false) (eW i r [] false) (w':=w) (x':=.hole) (u':=undef) (S':=fun _=>False) (R':=g.φ i r) (I':=g.I) (.fr (.hole _))
     (fun p v nd ho _ _=>by rw [gh] at ho; cases ho) hs.below (Nat.le_refl _) (fun _ _ _ _=>rfl) (fun _ h=>h.elim) (fun b hb=>⟨.inr hb,fun h=>h,(hs.foot i b (hfr b hb)).2.2.1⟩) (fun _ h=>h) (fun _ h=>.inl h) (fun b hb hS=>hS)
    obtain ⟨t1,t2⟩:=q1.kS (xs:=cq idx [x]) n2 n1 q1.below (Nat.le_refl _) (fun _ _ _=>rfl) (fun _=>g.ρ i r) (fun k b=>k=idx/\g.φ i r b) (fun k y hy=>by
     rcases oT hy with rfl | ⟨rfl,rfl⟩
     ·exact .fr (.hole _)
     ·exact (hs.trees i xs h1 r _ h2).mono (fun b hb=>⟨rfl,hb⟩)) (fun k b _ h=>.inl h.2) (fun k k' b _ _ h h'=>h.1.trans h'.1.symm)
    refine ⟨_,t1,rfl,fun v hv=>?_⟩
    obtain ⟨xs',x',nd,e1,e2,e3,e4⟩:=hv
    rw [h1] at e1
    cases e1
    rw [h2] at e2
    cases e2
    exact ⟨cq idx [x],x,nd,by rw [ag,if_pos ⟨rfl,n2⟩],nD _ _,by simpa [Gh.iN] using e3,e4⟩
   ·cases hm
 ·cases hm
theorem wh {s:Nat} {k:ASt->Prg T} {r:T} (hs:Sim w0 I0 st a ov w) (h:(yf st s k).goes C J r):∃ st',(k st').goes C J r/\Sim w0 I0 st' a ov w:=by
 obtain ⟨g,hs⟩:=hs
 unfold yf at h
 have hsl:=hs.slot s
 split at h
 ·rename_i i q hv
  rw [hv] at hsl
  cases hm:iJ st i q 0 with
  | none=>rw [hm] at h; exact ⟨st,h,g,hs⟩
  | some st1 =>
   rw [hm] at h
   obtain ⟨g1,t1,_,t2⟩:=qb hs hm
   exact ⟨_,h,g1,nw (v:=.one .junk) rfl (t1.put (some s) (v:=.one (.sref _ 0 [])) (u:=a.tmps.getD s undef) (t2 _ hsl))⟩
 ·exact ⟨st,h,g,hs⟩
 ·rename_i i q lo len hv
  rw [hv] at hsl
  split at h
  ·rename_i x hx
   obtain ⟨xs,h1,h2⟩:=au hx
   obtain ⟨xs',x',u,nd,g1,g2,g3,g4,g5⟩:=hsl
   rw [h1] at g1
   cases g1
   rw [h2] at g2
   cases g2
   obtain ⟨y,hy,h⟩:=h
   simp only [] at h
   split at h
   ·rename_i b hb
    have hlm:(st.am (CA.drop i q [] false)).look i=some (.tree xs):=by rw [aA,h1]; rfl
    have hb':b=.tree (aq xs q y):=by
     simp only [bP,hlm,Dv] at hb
     exact hb.symm
    subst hb'
    have hrl:q < xs.length:=(Dt.1 h2).1
    have hfr:∀ b,g.φ i q b->Foot g st.look i b:=fun b hb=>.inr ⟨xs,q,h1,hrl,hb⟩
    have hr:=hs.trees i xs h1 q x h2
    rw [<- g3.1] at hr
    have hrep:=cI hr g3.2 g5 hy
    obtain ⟨q1,q2⟩:=hs.eB h1 h2 (CA.drop i q [] false) (fun p=>leads false [] p=false) (eW i q [] false) (w':=w) (x':=y) (u':=a.tmps.getD s undef) (S':=g.φ i q) (R':=NoR) (I':=g.I) hrep
     (fun p v nd ho _ _=>by rw [gh] at ho; cases ho) hs.below (Nat.le_refl _) (fun _ _ _ _=>rfl) (fun _ h=>.inl h) (fun b hb=>hb.elim) (fun _ h=>h) (fun _ h=>.inl h) (fun b hb hS=>(hs.foot i b (hfr b hS)).2.2.1 hb)
    refine ⟨_,h,_,nw (v:=.one .junk) rfl (q1.put (some s) (v:=.one (.sref i q [])) (u:=a.tmps.getD s undef) ?_)⟩
    refine ⟨aq xs q y,y,y.nd,by rw [ag,if_pos ⟨rfl,by rw [dU]; exact ew h1⟩],by rw [ah]; simp [hrl],⟨by simp [Gh.cm],rfl⟩,?_⟩
    obtain ⟨a0,l0,c0,e0⟩:=g4
    subst e0
    cases hnd:nd with
    | none=>rw [hnd] at g5; rw [g5.2.2.2]; exact ⟨_,_,_,rfl⟩
    | some sn =>
     obtain ⟨sz,n⟩:=sn
     rw [hnd] at g5
     rw [g5.2]
     cases a0 with
     | none=>exact ⟨_,_,_,rfl⟩
     | some a0=>exact ⟨_,_,_,rfl⟩
   ·exact h.elim
  ·exact h.elim
 ·split at h
  ·rename_i x hx
   obtain ⟨h1,h⟩:=h
   split at h
   ·rename_i st1 hst
    obtain ⟨n1,n2,rfl⟩:=aZ hst
    have hrep:=bS hsl hx
    obtain ⟨q1,q2⟩:=hs.kS (xs:=[x]) n2 n1 hs.below (Nat.le_refl _) (fun _ _ _=>rfl) (fun _=>a.tmps.getD s undef) (fun _ _=>False) (fun r y hy=>by
     cases r with
     | zero=>simp at hy; subst hy; exact .fr hrep
     | succ r=>simp at hy) (fun _ _ _ h=>h.elim) (fun _ _ _ _ _ h=>h.elim)
    refine ⟨_,h,_,nw (v:=.one .junk) rfl (q1.put (some s) (v:=.one (.sref _ 0 [])) (u:=a.tmps.getD s undef) ?_)⟩
    exact ⟨[x],x,x.nd,by rw [ag,if_pos ⟨rfl,n2⟩],rfl,⟨by simp [Gh.iN],rfl⟩,yH hrep h1⟩
   ·exact h.elim
  ·exact h.elim
theorem mZ {k:ASt->Prg T} {r:T}:∀ {l:List Nat} {st:ASt},Sim w0 I0 st a ov w->(nL l st k).goes C J r->∃ st',(k st').goes C J r/\Sim w0 I0 st' a ov w
 | [],st,hs,h=>⟨st,h,hs⟩
 | s :: l,st,hs,h=>by
  obtain ⟨st1,h1,h2⟩:=wh hs h
  exact mZ h2 h1
theorem oF {i c:Nat} {k:ASt->Prg T} {r:T} (hs:Sim w0 I0 st a ov w) (h:(sQ st i c k).goes C J r):∃ st',(k st').goes C J r/\Sim w0 I0 st' a ov w:=by
 obtain ⟨g,hs⟩:=hs
 unfold sQ at h
 split at h
 ·rename_i cs hl
  split at h
  ·rename_i i' q hc
   cases hm:iJ st i' q (u7 cs c) with
   | none=>rw [hm] at h; exact ⟨st,h,g,hs⟩
   | some st1 =>
    simp only [hm] at h
    obtain ⟨vs,ty,c1,c2⟩:=hs.cells i cs hl
    have hcl:c < cs.length:=by
     rcases Nat.lt_or_ge c cs.length with h' | h'
     ·exact h'
     ·rw [aP,DF h'] at hc; cases hc
    have hcc:cs[c]? = some (.sref i' q []):=by rw [aP,Du hcl] at hc; rw [Du hcl]; simpa using hc
    have hvl:c < vs.toList.length:=by rw [c2.1]; exact hcl
    obtain ⟨u,hu⟩:∃ u,vs.toList[c]? = some u:=⟨_,Du hvl⟩
    obtain ⟨hrc,hone⟩:=c2.2 c _ u hcc hu
    obtain ⟨g1,t1,tb,t2⟩:=qb hs hm
    split at h
    ·rename_i cs' hl1
     obtain ⟨vs1,ty1,d1,d2⟩:=t1.cells i cs' hl1
     rw [tb,c1] at d1
     cases d1
     have c1':w.heap[g1.β i]? = some (.cells vs ty (0,0)):=by rw [tb]; exact c1
     refine ⟨_,h,_,t1.dI hl1 (vs':=vs) (ty:=ty) t1.below (Nat.le_refl _) (fun _ _=>rfl) c1' ⟨_,_,c1'⟩ ?_⟩
     refine ⟨by rw [ah,List.length_set]; exact d2.1,fun j d v hd hv=>?_⟩
     rw [ah,List.getElem?_set] at hd
     by_cases hcj:c=j
     ·subst hcj
      have hcl':c < cs'.length:=by rw [<- d2.1]; exact hvl
      simp only [if_true,hcl',Dv] at hd
      subst hd
      rw [hu] at hv
      cases hv
      exact ⟨t2 _ hrc,hone⟩
     ·simp only [hcj,if_false] at hd
      exact d2.2 j d v hd hv
    ·exact ⟨st,h,g,hs⟩
  ·exact ⟨st,h,g,hs⟩
 ·exact ⟨st,h,g,hs⟩
theorem vi {s c : Nat} {k : ASt → Prg T} {r : T} (hs : Sim w0 I0 st a ov w) (h : (xW st s c k).goes C J r) : ∃ st', (k st').goes C J r ∧ Sim w0 I0 st' a ov w := by
 have hs0:=hs
 obtain ⟨g,hs⟩:=hs
 unfold xW at h
 split at h
 ·rename_i i off hv
  split at h
  ·rename_i cs hl
   split at h
   ·exact oF hs0 h
   ·exact ⟨st,h,g,hs⟩
   ·rename_i i' q lo len hc
    obtain ⟨vs,ty,c1,c2⟩:=hs.cells i cs hl
    have hcl:c < cs.length:=by
     rcases Nat.lt_or_ge c cs.length with h' | h'
     ·exact h'
     ·rw [aP,DF h'] at hc; cases hc
    have hcc:cs[c]? = some (.swin i' q [] lo len):=by rw [aP,Du hcl] at hc; rw [Du hcl]; simpa using hc
    have hvl:c < vs.toList.length:=by rw [c2.1]; exact hcl
    obtain ⟨u,hu⟩:∃ u,vs.toList[c]? = some u:=⟨_,Du hvl⟩
    obtain ⟨hrc,hone⟩:=c2.2 c _ u hcc hu
    split at h
    ·rename_i x hx
     obtain ⟨xs,h1,h2⟩:=au hx
     obtain ⟨xs',x',u',nd,g1,g2,g3,g4,g5⟩:=hrc
     rw [h1] at g1
     cases g1
     rw [h2] at g2
     cases g2
     obtain ⟨y,hy,h⟩:=h
     simp only [] at h
     split at h
     ·rename_i b hb
      have hlm:(st.am (CA.drop i' q [] false)).look i'=some (.tree xs):=by rw [aA,h1]; rfl
      have hb':b=.tree (aq xs q y):=by
       simp only [bP,hlm,Dv] at hb
       exact hb.symm
      subst hb'
      have hrl:q < xs.length:=(Dt.1 h2).1
      have hfr:∀ b,g.φ i' q b->Foot g st.look i' b:=fun b hb=>.inr ⟨xs,q,h1,hrl,hb⟩
      have hr:=hs.trees i' xs h1 q x h2
      rw [<- g3.1] at hr
      have hrep:=cI hr g3.2 g5 hy
      obtain ⟨q1,q2⟩:=hs.eB h1 h2 (CA.drop i' q [] false) (fun p=>leads false [] p=false) (eW i' q [] false) (w':=w) (x':=y) (u':=u) (S':=g.φ i' q) (R':=NoR) (I':=g.I) hrep
       (fun p v nd ho _ _=>by rw [gh] at ho; cases ho) hs.below (Nat.le_refl _) (fun _ _ _ _=>rfl) (fun _ h=>.inl h) (fun b hb=>hb.elim) (fun _ h=>h) (fun _ h=>.inl h) (fun b hb hS=>(hs.foot i' b (hfr b hS)).2.2.1 hb)
      split at h
      ·rename_i cs' hl1
       obtain ⟨vs1,ty1,d1,d2⟩:=q1.cells i cs' hl1
       have c1':w.heap[(g.cm g.I i' q u (g.φ i' q)).β i]? = some (.cells vs ty (0,0)):=c1
       rw [c1'] at d1
       cases d1
       refine oF ⟨_,q1.dI hl1 (vs':=vs) (ty:=ty) q1.below (Nat.le_refl _) (fun _ _=>rfl) c1' ⟨_,_,c1'⟩ ?_⟩ h
       refine ⟨by rw [ah,List.length_set]; exact d2.1,fun j d v hd hv=>?_⟩
       rw [ah,List.getElem?_set] at hd
       by_cases hcj:c=j
       ·subst hcj
        have hcl':c < cs'.length:=by rw [<- d2.1]; exact hvl
        simp only [if_true,hcl',Dv] at hd
        subst hd
        rw [hu] at hv
        cases hv
        refine ⟨⟨aq xs q y,y,y.nd,by rw [ag,if_pos ⟨rfl,by rw [dU]; exact ew h1⟩],by rw [ah]; simp [hrl],⟨by simp [Gh.cm],rfl⟩,?_⟩,hone⟩
        obtain ⟨a0,l0,c0,e0⟩:=g4
        subst e0
        cases hnd:nd with
        | none=>rw [hnd] at g5; rw [g5.2.2.2]; exact ⟨_,_,_,rfl⟩
        | some sn =>
         obtain ⟨sz,n⟩:=sn
         rw [hnd] at g5
         rw [g5.2]
         cases a0 with
         | none=>exact ⟨_,_,_,rfl⟩
         | some a0=>exact ⟨_,_,_,rfl⟩
       ·simp only [hcj,if_false] at hd
        exact d2.2 j d v hd hv
      ·exact h.elim
     ·exact h.elim
    ·exact h.elim
   ·rename_i x hc
    obtain ⟨h1,h⟩:=h
    split at h
    ·rename_i st1 hst
     obtain ⟨n1,n2,rfl⟩:=aZ hst
     obtain ⟨vs,ty,c1,c2⟩:=hs.cells i cs hl
     have hcl:c < cs.length:=by
      rcases Nat.lt_or_ge c cs.length with h' | h'
      ·exact h'
      ·rw [aP,DF h'] at hc; cases hc
     have hcc:cs[c]? = some (.t x):=by rw [aP,Du hcl] at hc; rw [Du hcl]; simpa using hc
     have hvl:c < vs.toList.length:=by rw [c2.1]; exact hcl
     obtain ⟨u,hu⟩:∃ u,vs.toList[c]? = some u:=⟨_,Du hvl⟩
     have hrep:=(c2.2 c _ u hcc hu).1.1
     have hone:=(c2.2 c _ u hcc hu).2
     obtain ⟨q1,q2⟩:=hs.kS (xs:=cq (u7 cs c) [x]) n2 n1 hs.below (Nat.le_refl _) (fun _ _ _=>rfl) (fun _=>u) (fun _ _=>False) (fun r y hy=>by
      rcases qW hy with rfl | rfl
      ·exact .fr (.hole _)
      ·exact .fr hrep) (fun _ _ _ h=>h.elim) (fun _ _ _ _ _ h=>h.elim)
     have hne:gw 0 st.boxes≠i:=fun e=>by rw [e,hl] at n1; cases n1
     have hl1:(st.ac (gw 0 st.boxes) (some (.tree (cq (u7 cs c) [x])))).look i=some (.cells cs):=by rw [ag,if_neg (fun h=>hne h.1)]; exact hl
     refine ⟨_,h,_,q1.dI hl1 (vs':=vs) (ty:=ty) q1.below (Nat.le_refl _) (fun _ _=>rfl) c1 ⟨_,_,c1⟩ ?_⟩
     refine ⟨by rw [ah,List.length_set]; exact c2.1,fun j d v hd hv=>?_⟩
     rw [ah,List.getElem?_set] at hd
     by_cases hcj:c=j
     ·subst hcj
      simp only [if_true,hcl,Dv] at hd
      subst hd
      rw [hu] at hv
      cases hv
      exact ⟨⟨cq (u7 cs c) [x],x,x.nd,by rw [ag,if_pos ⟨rfl,n2⟩],nD _ _,⟨by simp [Gh.iN],rfl⟩,yH hrep h1⟩,hone⟩
     ·simp only [hcj,if_false] at hd
      have:=c2.2 j d v hd hv
      exact ⟨bi.mv q2 (by cases d <;> trivial) this.1,this.2⟩
    ·exact h.elim
   ·exact h.elim
  ·exact h.elim
 ·exact h.elim
theorem mo {k:ASt->Prg T} {r:T}:∀ {l:List (Nat × Nat)} {st:ASt},Sim w0 I0 st a ov w->(ke l st k).goes C J r->∃ st',(k st').goes C J r/\Sim w0 I0 st' a ov w
 | [],st,hs,h=>⟨st,h,hs⟩
 | (s,c) :: l,st,hs,h=>by
  obtain ⟨st1,h1,h2⟩:=vi hs h
  exact mo h2 h1
theorem wm {s c:Nat} (hs:Sim w0 I0 st a ov w):Sim w0 I0 (B4 st s c) a ov w:=by
 obtain ⟨g,hs⟩:=hs
 unfold B4
 generalize hc0:c % 1000=c'
 split
 ·rename_i i off hv
  split
  ·rename_i cs hl
   split
   ·rename_i i' q hc
    split
    ·rename_i xs hx
     split
     ·rename_i x h2
      cases hcool:Nat.ble 1000 c with
      | true =>
       obtain ⟨g',h⟩:=hs.cool hx h2
       exact ⟨g',h⟩
      | false =>
      clear hc0 hcool
      rename_i c0
      generalize c'=c at *
      obtain ⟨vs,ty,c1,c2⟩:=hs.cells i cs hl
      have hcl:c < cs.length:=by
       rcases Nat.lt_or_ge c cs.length with h' | h'
       ·exact h'
       ·rw [aP,DF h'] at hc; cases hc
      have hcc:cs[c]? = some (.sref i' q []):=by rw [aP,Du hcl] at hc; rw [Du hcl]; simpa using hc
      have hvl:c < vs.toList.length:=by rw [c2.1]; exact hcl
      obtain ⟨u,hu⟩:∃ u,vs.toList[c]? = some u:=⟨_,Du hvl⟩
      obtain ⟨hrc,hone⟩:=c2.2 c _ u hcc hu
      obtain ⟨xs',x',nd,e1,e2,e3,e4⟩:=hrc
      rw [hx] at e1
      cases e1
      rw [h2] at e2
      cases e2
      obtain ⟨f1,f2,f3⟩:=hs.freeze hx h2
      have hne:i'≠i:=fun e=>by rw [e,hl] at hx; cases hx
      have hl1:(st.ac i' (some (.tree (aq xs q (frz x))))).look i=some (.cells cs):=by rw [ag,if_neg (fun h=>hne h.1)]; exact hl
      refine ⟨_,f2.dI hl1 (vs':=vs) (ty:=ty) f2.below (Nat.le_refl _) (fun _ _=>rfl) c1 ⟨_,_,c1⟩ ?_⟩
      refine ⟨by rw [ah,List.length_set]; exact c2.1,fun j d v hd hv=>?_⟩
      rw [ah,List.getElem?_set] at hd
      by_cases hcj:c=j
      ·subst hcj
       simp only [if_true,hcl,Dv] at hd
       subst hd
       rw [hu] at hv
       cases hv
       rw [<- e3.1] at f1
       exact ⟨⟨f1,hone⟩,hone⟩
      ·simp only [hcj,if_false] at hd
       have:=c2.2 j d v hd hv
       exact ⟨f3 _ _ this.1,this.2⟩
     ·exact ⟨g,hs⟩
    ·exact ⟨g,hs⟩
   ·exact ⟨g,hs⟩
  ·exact ⟨g,hs⟩
 ·rename_i i' q hv
  split
  ·rename_i xs hx
   split
   ·rename_i x h2
    cases hcool:Nat.ble 1000 c with
    | true=>exact ⟨g,hs⟩
    | false =>
    simp only [cond_false]
    have hsl:st.slots[s]? = some (.one (.sref i' q [])):=by
     rcases Nat.lt_or_ge s st.slots.length with h' | h'
     ·rw [aP,Du h'] at hv; rw [Du h']; simpa using hv
     ·rw [aP,DF h'] at hv; cases hv
    obtain ⟨xs',x',nd,e1,e2,e3,e4⟩:=hs.slots s _ hsl
    rw [hx] at e1
    cases e1
    rw [h2] at e2
    cases e2
    obtain ⟨f1,f2,f3⟩:=hs.freeze hx h2
    have hone:(a.tmps.getD s undef).oneCell'=true:=qw e4
    have:=f2.put (some s) (v:=.one (.t (frz x))) (u:=a.tmps.getD s undef) ⟨by rw [e3.1]; exact f1,hone⟩
    rw [wu rfl] at this
    exact ⟨_,this⟩
   ·exact ⟨g,hs⟩
  ·exact ⟨g,hs⟩
 ·exact ⟨g,hs⟩
theorem mm:∀ {l:List (Nat × Nat)} {st:ASt},Sim w0 I0 st a ov w->Sim w0 I0 (jh l st) a ov w
 | [],st,hs=>hs
 | (s,c) :: l,st,hs=>mm (l:=l) (wm hs)
theorem jz:∀ {l:List Nat} {st:ASt},Sim w0 I0 st a ov w->Sim w0 I0 (fK st l) a ov w
 | [],st,hs=>hs
 | s :: l, st, hs => by
  simp only [fK]
  split
  ·rename_i i off hv
   split
   ·rename_i cs hl
    refine jz ?_
    obtain ⟨g,hs⟩:=hs
    obtain ⟨vs,ty,c1,c2⟩:=hs.cells i cs hl
    refine ⟨g,hs.dI hl (vs':=vs) (ty:=ty) hs.below (Nat.le_refl _) (fun _ _=>rfl) c1 ⟨_,_,c1⟩ ⟨by rw [mg]; exact c2.1,fun j d v hd hv=>?_⟩⟩
    rw [pH] at hd
    cases hj:cs[j]? with
    | none=>simp [hj] at hd
    | some c' =>
     simp only [hj,DG,Dv] at hd
     subst hd
     exact ⟨trivial,(c2.2 j c' v hj hv).2⟩
   ·exact jz hs
  ·exact jz hs
theorem mO {α:Type} (d:α) (ks:List Nat):∀ (l:List α) (n k:Nat),(fa d ks n l)[k]? = (l[k]?).map fun x=>bif bu (n + k) ks then x else d
 | [],n,k=>by simp [fa]
 | x :: l,n,0=>by simp [fa]
 | x :: l,n,k + 1=>by
  simp only [fa,List.getElem?_cons_succ,mO d ks l (n + 1) k]
  rw [show n + 1 + k=n + (k + 1) by omega]
theorem mC {α:Type} (d:α) (ks:List Nat):∀ (l:List α) (n:Nat),(fa d ks n l).length=l.length
 | [],n=>rfl
 | x :: l,n=>by simp [fa,mC d ks l (n + 1)]
theorem tC {ks:List Nat} {R:Nat->Prop} (hs:ai w0 I0 R g st a ov w):ai w0 I0 R g (fG ks st) a ov w:=by
 refine ⟨hs.below,hs.sub,hs.lt,hs.old,by simp only [fG,mC]; exact hs.len,hs.defers,fun t v hv=>?_,hs.olen,hs.outs,hs.cells,hs.trees,hs.foot,hs.apart,hs.apartR,hs.res,hs.base,hs.out⟩
 simp only [fG,mO,Nat.zero_add] at hv
 cases hsl:st.slots[t]? with
 | none=>simp [hsl] at hv
 | some u =>
  simp only [hsl,DG,Dv] at hv
  cases hm:bu t ks with
  | false=>simp only [hm,cond_false] at hv; subst hv; exact trivial
  | true =>
   simp only [hm,cond_true] at hv
   subst hv
   exact hs.slots t u hsl
theorem xm {ks:List Nat} (hs:Sim w0 I0 st a ov w):Sim w0 I0 (fG ks st) a ov w:=by
 obtain ⟨g,hs⟩:=hs
 exact ⟨g,tC hs⟩
theorem aJ {i:Nat}:∀ {L:List Nat} {n k:Nat},iD i n L=some k->n<=k/\L[k - n]? = some i
 | [],n,k,h=>by simp [iD] at h
 | b :: L, n, k, h => by
  simp only [iD] at h
  cases hb:b.beq i with
  | true =>
   simp only [hb,cond_true,Dv] at h
   subst h
   have:=(ar _ _).1 hb
   subst this
   simp
  | false =>
   simp only [hb,cond_false] at h
   obtain ⟨h1,h2⟩:=aJ h
   refine ⟨by omega,?_⟩
   rw [show k - n=(k - (n + 1)) + 1 by omega,List.getElem?_cons_succ]
   exact h2
theorem lN:∀ {L:List Nat},fO L=true->∀ (k k' i:Nat),L[k]? = some i->L[k']? = some i->k=k'
 | [],_,k,k',i,h,_=>by simp at h
 | b :: L, hn, k, k', i, h, h' => by
  simp only [fO,Dw,Bool.not_eq_true'] at hn
  have hnot:∀ q,L[q]? = some b->False:=fun q hq=>by
   have:=(bI b L).2 (DC hq)
   rw [this] at hn
   cases hn.1
  cases k with
  | zero =>
   cases k' with
   | zero=>rfl
   | succ k'=>simp at h h'; subst h; exact (hnot k' h').elim
  | succ k =>
   cases k' with
   | zero=>simp at h h'; subst h'; exact (hnot k h).elim
   | succ k'=>simp at h h'; rw [lN hn.2 k k' i h h']
theorem nT (look:Look) (f:CA->CA):∀ (L:List Nat) (k:Nat),(mW look f L)[k]? = (L[k]?).map fun i=>(look i).map (BC.a8 f)
 | [],k=>by simp [mW]
 | i :: L,0=>by simp only [mW,List.getElem?_cons_zero,DG]; cases look i <;> rfl
 | i :: L,k + 1=>by simp [mW,nT look f L k]
theorem od (look:Look) (f:CA->CA):∀ (L:List Nat),(mW look f L).length=L.length
 | []=>rfl
 | i :: L=>by simp [mW,od look f L]
theorem nX:∀ (l:List AV) (k:Nat),(oD l)[k]? = (l[k]?).map AV.asTV
 | [],k=>by simp [oD]
 | v :: l,0=>rfl
 | v :: l,k + 1=>by simp [oD,nX l k]
theorem nk:∀ l:List AV,(oD l).length=l.length
 | []=>rfl
 | v :: l=>by simp [oD,nk l]
theorem vg {v:AV} {u:Value} (h:bm w g look v u):bm w g look v.asTV u:=by
 cases v with
 | one c=>cases c <;> first | exact h | exact h.1
 | bl b=>have:u=.bool b:=h; subst this; exact Rep.lit _
 | _=>exact h
theorem zQ {L:List Nat} (hn:fO L=true) (hs:Sim w0 I0 st a ov w):Sim w0 I0 (gR L st) a ov w:=by
 obtain ⟨g,hs⟩:=hs
 have hlook:∀ k,(gR L st).look k=(L[k]?).bind fun i=>(st.look i).map (BC.a8 (CA.ren L)):=fun k=>by
  simp only [gR,ASt.look,aP,List.getElem?_append,od,nT]
  by_cases hk:k < L.length
  ·rw [if_pos hk,Du hk]
   rfl
  ·have hL:L[k]? = none:=DF (by omega)
   rw [if_neg hk,hL,List.getElem?_replicate]
   split <;> rfl
 obtain ⟨g',hg'⟩:∃ g':Gh,g'=⟨g.I,fun k=>g.ρ (nth 0 L k),fun k=>g.β (nth 0 L k),fun k=>g.φ (nth 0 L k),g.O⟩:=⟨_,rfl⟩
 have hat:∀ {k i:Nat},L[k]? = some i->nth 0 L k=i:=fun h=>bp h
 have eI:g'.I=g.I:=by rw [hg']
 have eO:g'.O=g.O:=by rw [hg']
 have hlk:∀ {k i:Nat} {b:BC},L[k]? = some i->st.look i=some b->(gR L st).look k=some (b.a8 (CA.ren L)):=fun {k i b} h1 h2=>by rw [hlook,h1]; simp [h2]
 have inv:∀ {k:Nat} {b:BC},(gR L st).look k=some b->∃ i b0,L[k]? = some i/\st.look i=some b0/\b=b0.a8 (CA.ren L):=fun {k b} h=>by
  rw [hlook] at h
  cases hk:L[k]? with
  | none=>simp [hk] at h
  | some i =>
   simp only [hk,Option.bind_some] at h
   cases hb:st.look i with
   | none=>simp [hb] at h
   | some b0=>simp only [hb,DG,Dv] at h; exact ⟨i,b0,rfl,hb,h.symm⟩
 have hf:∀ c v,bi w g st.look c v->bi w g' (gR L st).look (c.ren L) v:=by
  intro c v h
  cases c with
  | t x=>exact ⟨by rw [eI]; exact h.1,h.2⟩
  | ptr i off =>
   simp only [CA.ren]
   split
   ·rename_i k hk
    replace hk:L[k]? = some i:=(aJ hk).2
    obtain ⟨cs,h1,h2⟩:=h
    exact ⟨_,hlk hk h1,by rw [hg']; simp only []; rw [hat hk]; exact h2⟩
   ·trivial
  | ref x off =>
   obtain ⟨ad,cell,h1,h3⟩:=h
   exact ⟨ad,cell,h1,fun j c hj=>⟨(h3 j c hj).1.mv (fun _ _=>rfl) (fun b hb=>by rw [eI]; exact hb) eO,(h3 j c hj).2.1,by rw [eI]; exact (h3 j c hj).2.2⟩⟩
  | tptr i r p k j =>
   simp only [CA.ren]
   split
   ·rename_i m hm
    replace hm:L[m]? = some i:=(aJ hm).2
    obtain ⟨xs,x,ad,l,cap,s,n,h1,h2,h3,h4,h5⟩:=h
    refine ⟨xs,x,ad,l,cap,s,n,hlk hm h1,h2,?_,h4,h5⟩
    rw [hg']; simp only []; rw [hat hm]; exact h3
   ·trivial
  | sref i r p =>
   simp only [CA.ren]
   split
   ·rename_i m hm
    replace hm:L[m]? = some i:=(aJ hm).2
    obtain ⟨xs,x,nd,h1,h2,h3,h4⟩:=h
    refine ⟨xs,x,nd,hlk hm h1,h2,?_,h4⟩
    rw [hg']; simp only []; rw [hat hm]; exact h3
   ·trivial
  | swin i r p lo len =>
   simp only [CA.ren]
   split
   ·rename_i m hm
    replace hm:L[m]? = some i:=(aJ hm).2
    obtain ⟨xs,x,u,nd,h1,h2,h3,h4,h5⟩:=h
    refine ⟨xs,x,u,nd,hlk hm h1,h2,?_,h4,h5⟩
    rw [hg']; simp only []; rw [hat hm]; exact h3
   ·trivial
  | yl n=>show v=.func (.yield (g'.O.y n)) #[] #[]; rw [eO]; exact h
  | ifp ty i =>
   simp only [CA.ren]
   split
   ·rename_i k hk
    replace hk:L[k]? = some i:=(aJ hk).2
    obtain ⟨cs,h1,h2⟩:=h
    exact ⟨_,hlk hk h1,by rw [hg']; simp only []; rw [hat hk]; exact h2⟩
   ·trivial
  | fn1 q i =>
   simp only [CA.ren]
   split
   ·rename_i k hk
    replace hk:L[k]? = some i:=(aJ hk).2
    obtain ⟨cs,h1,h2⟩:=h
    exact ⟨_,hlk hk h1,by rw [hg']; simp only []; rw [hat hk]; exact h2⟩
   ·trivial
  | psl i n =>
   simp only [CA.ren]
   split
   ·rename_i k hk
    replace hk:L[k]? = some i:=(aJ hk).2
    obtain ⟨cs,h1,h2⟩:=h
    exact ⟨_,hlk hk h1,by rw [hg']; simp only []; rw [hat hk]; exact h2⟩
   ·trivial
  | aptr i off len n =>
   simp only [CA.ren]
   split
   ·rename_i k hk
    replace hk:L[k]? = some i:=(aJ hk).2
    obtain ⟨cs,h1,h2,h3⟩:=h
    exact ⟨_,hlk hk h1,h2,by rw [hg']; simp only []; rw [hat hk]; exact h3⟩
   ·trivial
  | may i ty =>
   simp only [CA.ren]
   split
   ·rename_i k hk
    replace hk:L[k]? = some i:=(aJ hk).2
    obtain ⟨cs,h1,h2,h3⟩:=h
    refine ⟨_,hlk hk h1,?_,?_⟩
    ·rw [hg']; simp only []; rw [hat hk]; exact h2
    ·rw [hg']; simp only []; rw [hat hk]; exact h3
   ·trivial
  | undef=>exact h
  | junk=>exact h
 have foot:∀ {k b:Nat},Foot g' (gR L st).look k b->∃ i,L[k]? = some i/\Foot g st.look i b:=by
  rintro k b (⟨cs,h1,h2⟩ | ⟨xs,r,h1,h2,h3⟩)
  ·obtain ⟨i,b0,i1,i2,i3⟩:=inv h1
   refine ⟨i,i1,?_⟩
   rw [hg'] at h2
   simp only [] at h2
   rw [hat i1] at h2
   cases b0 with
   | cells cs0=>exact .inl ⟨cs0,i2,h2⟩
   | tree xs=>simp [BC.a8] at i3
  ·obtain ⟨i,b0,i1,i2,i3⟩:=inv h1
   refine ⟨i,i1,?_⟩
   rw [hg'] at h3
   simp only [] at h3
   rw [hat i1] at h3
   cases b0 with
   | cells cs0=>simp [BC.a8] at i3
   | tree xs0=>simp only [BC.a8,BC.tree.injEq] at i3; subst i3; exact .inr ⟨xs,r,i2,h2,h3⟩
 refine ⟨g',hs.below,by rw [eI]; exact hs.sub,by rw [eI]; exact hs.lt,by rw [eI]; exact hs.old,by simp only [gR,nk,aU]; exact hs.len,hs.defers,fun t v hv=>?_,by simp only [gR,nk,aU]; exact hs.olen,?_,fun k cs hl=>?_,fun k xs hl r x hx=>?_,
  fun k b hb=>?_,fun k k' b hb hb'=>?_,fun k xs r r' b hl h1 h2 h3 h4=>?_,fun b hb=>hb.elim,hs.base,by rw [eO]; exact hs.out⟩
 ·simp only [gR,nX] at hv
  cases hm:(bV (CA.ren L) st.slots)[t]? with
  | none=>simp [hm] at hv
  | some u =>
   simp only [hm,DG,Dv] at hv
   subst hv
   exact vg (cS (w':=w) (g':=g') (st':=gR L st) hf (fun _ _=>rfl) (fun b hb=>by rw [eI]; exact hb) (l:=st.slots) (vs:=fun t=>a.tmps.getD t undef) hs.slots t u hm)
 ·intro t v hv
  simp only [gR,nX] at hv
  cases hm:(bV (CA.ren L) st.out)[t]? with
  | none=>simp [hm] at hv
  | some u =>
   simp only [hm,DG,Dv] at hv
   subst hv
   exact vg (cS (w':=w) (g':=g') (st':=gR L st) hf (fun _ _=>rfl) (fun b hb=>by rw [eI]; exact hb) (l:=st.out) (vs:=fun t=>ov.getD t undef) hs.outs t u hm)
 ·obtain ⟨i,b0,i1,i2,i3⟩:=inv hl
  cases b0 with
  | tree xs=>simp [BC.a8] at i3
  | cells cs0 =>
   simp only [BC.a8,BC.cells.injEq] at i3
   subst i3
   obtain ⟨vs,ty,c1,c2⟩:=hs.cells i cs0 i2
   refine ⟨vs,ty,?_,c2.mapC hf⟩
   rw [hg']; simp only []; rw [hat i1]; exact c1
 ·obtain ⟨i,b0,i1,i2,i3⟩:=inv hl
  cases b0 with
  | cells cs0=>simp [BC.a8] at i3
  | tree xs0 =>
   simp only [BC.a8,BC.tree.injEq] at i3
   subst i3
   have:=hs.trees i xs i2 r x hx
   rw [hg']; simp only []; rw [hat i1]; exact this
 ·obtain ⟨i,i1,i2⟩:=foot hb
  rw [eI]
  exact hs.foot i b i2
 ·obtain ⟨i,i1,i2⟩:=foot hb
  obtain ⟨j,j1,j2⟩:=foot hb'
  have:=hs.apart i j b i2 j2
  subst this
  exact lN hn k k' i i1 j1
 ·obtain ⟨i,b0,i1,i2,i3⟩:=inv hl
  cases b0 with
  | cells cs0=>simp [BC.a8] at i3
  | tree xs0 =>
   simp only [BC.a8,BC.tree.injEq] at i3
   subst i3
   rw [hg'] at h3 h4
   simp only [] at h3 h4
   rw [hat i1] at h3 h4
   exact hs.apartR i xs r r' b i2 h1 h2 h3 h4
theorem jA {an:Ann} {k:ASt->Prg T} {r:T} (hs:Sim w0 I0 st a ov w) (h:(sT an st k).goes C J r):∃ st',(k st').goes C J r/\Sim w0 I0 st' a ov w:=by
 unfold sT at h
 obtain ⟨st1,h1,hs1⟩:=mZ hs h
 obtain ⟨st2,h2,hs2⟩:=mo hs1 h1
 unfold xj at h2
 cases hc:fO (fL (fG an.keep (fK (jh an.frz st2) an.kill))) && (fL (fG an.keep (fK (jh an.frz st2) an.kill))).length.ble cD && cD.ble (fG an.keep (fK (jh an.frz st2) an.kill)).boxes.length with
 | false=>rw [hc] at h2; exact h2.elim
 | true =>
  rw [hc] at h2
  simp only [Dw] at hc
  exact ⟨_,h2,zQ hc.1.1 (xm (jz (mm hs2)))⟩
end
end Go.Ab
end
section
namespace Go.Ab
open Go.RowKit
theorem gB {a b:Nat} (h:a < b):a.blt b=true:=by simpa using h
theorem iI {a b:Nat} (h:b<=a):a.blt b=false:=by
  cases hb:a.blt b with
  | false=>rfl
  | true => have : a < b := by simpa using hb
            omega
theorem io {a b:Nat} (h:a.blt b=true):a < b:=by simpa using h
theorem oa {a b:Nat} (h:a.blt b=false):b<=a:=by
 rcases Nat.lt_or_ge a b with h' | h'
 ·rw [gB h'] at h; cases h
 ·exact h'
def ck (n m:Nat):Array Bool:=((List.range n).map fun i=>i.blt m).toArray
theorem bR (n m:Nat):(ck n m).size=n:=by simp [ck]
theorem be {n m i:Nat} (h:i < n) (d:Bool):(ck n m).getD i d=i.blt m:=by
 simp [ck,h]
theorem zS (n:Nat):ck n 0=Array.replicate n false:=by
 apply Array.ext
 ·simp [ck]
 ·intro i h1 h2
  have:i.blt 0=false:=iI (Nat.zero_le _)
  simpa [ck] using this
theorem tG {n m:Nat} {listed:Array Bool} (hsz:listed.size=n) (h1:∀ i,i < n->i < m->listed.getD i true=true) (h2:∀ i,i < n->m<=i->listed.getD i true=false):listed=ck n m:=by
 apply Array.ext
 ·rw [hsz,bR]
 ·intro i hi1 hi2
  have hin:i < n:=by omega
  have e1:listed.getD i true=listed[i]:=by simp [hi1]
  have e2:(ck n m).getD i true=(ck n m)[i]:=by simp [hi2]
  rw [<- e1,<- e2,be hin]
  by_cases hm:i < m
  ·rw [h1 i hin hm,gB hm]
  ·rw [h2 i hin (by omega),iI (by omega)]
theorem pL {bs:List Nat} {k:Nat}:∀ {l:List Oper} {i:Nat},mL bs k i l=true->∀ j,j < l.length->k<=i + j->∀ q,q < k->(nth 0 bs (i + j)).testBit q=true
 | [],i,_,j,hj,_,q,_=>by simp at hj
 | o :: l, i, h, j, hj, hk, q, hq => by
  simp only [mL] at h
  cases hb:i.blt k with
  | true =>
   simp only [hb,cond_true] at h
   have hik:i < k:=by simpa using hb
   cases j with
   | zero=>omega
   | succ j =>
    have:=pL h j (by simpa using hj) (by omega) q hq
    rwa [show i + 1 + j=i + (j + 1) by omega] at this
  | false =>
   simp only [hb,cond_false,Dw] at h
   obtain ⟨h0,h⟩:=h
   cases j with
   | zero =>
    have h1:(nth 0 bs i) &&& (2 ^ k - 1)=2 ^ k - 1:=(ar _ _).1 h0
    have h2:((nth 0 bs i) &&& (2 ^ k - 1)).testBit q=true:=by
     rw [h1,Nat.testBit_two_pow_sub_one]
     simpa using hq
    rw [Nat.testBit_and] at h2
    simp only [Dw] at h2
    simpa using h2.1
   | succ j =>
    have hik:k<=i:=oa hb
    have:=pL h j (by simpa using hj) (by omega) q hq
    rwa [show i + 1 + j=i + (j + 1) by omega] at this
theorem xw {ops:List Oper} {k:Nat} (h:mb ops k=true) {i:Nat} (hi:i < ops.length) (hk:k<=i) {q:Nat} (hq:q < k):(nth 0 (behind ops) i).testBit q=true:=by
 have:=pL h i hi (by omega) q hq
 rwa [Nat.zero_add] at this
section
variable {P:Program} {E:Env} {C:Cal} {w0:Bs} {I0:Nat->Prop} {ov:List Value} {Q:Exit->Act->World->Prop} {ex:List (List Nat)}
theorem gf {ops:Array Oper} (hok:ba ops.toList=true) {listed:Array Bool} (hsz:listed.size=ops.size)
  (hcl:∀ (k:Nat) (o:Oper),ops[k]? = some o->listed.getD k true=true->∀ e ∈ o.after,Region.binds .any e=true->listed.getD e.on false=true) :
  ∀ (k:Nat) (ok_:Oper),ops[k]? = some ok_->(∀ e ∈ ok_.after,Region.binds .any e=true->listed.getD e.on false=true)->∀ q,(nth 0 (behind ops.toList) k).testBit q=true->listed.getD q true=true:=by
 intro k
 induction k using Nat.strongRecOn with
 | _ k ihk =>
  intro ok_ hk hed q hq
  rw [kM (by rw [Dx]; exact hk)] at hq
  obtain ⟨e,he,hbn,hor⟩:=iA hq
  have hl:=hed e (by simpa using he) hbn
  have hlt2:=bn ((cL ops.toList 0 hok k ok_ (by rw [Dx]; exact hk)).1) e he hbn
  simp only [Nat.zero_add] at hlt2
  have hks:k < ops.size:=(Dy.1 hk).1
  have hl':listed.getD e.on true=true:=by
   have:e.on < listed.size:=by omega
   simpa [this] using hl
  rcases hor with h | h
  ·rw [<- h]; exact hl'
  ·have hnt:nth 0 ((behind ops.toList).take k) e.on=nth 0 (behind ops.toList) e.on:=by rw [aP,aP,List.getElem?_take_of_lt hlt2]
   rw [hnt] at h
   have hon:ops[e.on]? = some (ops[e.on]'(by omega)):=Array.getElem?_eq_getElem (by omega)
   exact ihk e.on hlt2 _ hon (hcl e.on _ hon hl') q h
theorem wn {ops:Array Oper} (hok:ba ops.toList=true) {listed:Array Bool} (hsz:listed.size=ops.size) {i:Nat} (hi:i < ops.size) (h0:listed.getD i true=false) (hmin:∀ j,j < i->listed.getD j true=true) :
  i ∈ Region.ready .any ops listed:=by
 rw [mem_ready]
 refine ⟨h0,ops[i]'hi,Array.getElem?_eq_getElem hi,fun e he hb=>?_⟩
 have hlt:=bn ((cL ops.toList 0 hok i _ (by rw [Dx]; exact Array.getElem?_eq_getElem hi)).1) e (by simpa using he) hb
 simp only [Nat.zero_add] at hlt
 have:=hmin e.on hlt
 have hlt2:e.on < listed.size:=by omega
 simpa [hlt2] using this
theorem wl {u m:Nat}:∀ {k:Nat},pq u m k=true->∀ q,q < k->q≠u->m.testBit q=true
 | 0,_,q,hq,_=>by omega
 | k + 1, h, q, hq, hne => by
  simp only [pq,Dw,Bool.or_eq_true,ar] at h
  rcases Nat.lt_or_ge q k with h1 | h1
  ·exact wl h.2 q h1 hne
  ·have:q=k:=by omega
   subst this
   rcases h.1 with h2 | h2
   ·exact absurd h2 hne
   ·exact h2
theorem nF {bs:List Nat} {u k:Nat}:∀ {l:List Oper} {i:Nat},jT bs u k i l=true->∀ j,j < l.length->k<=i + j->∀ q,q < k->q≠u->(nth 0 bs (i + j)).testBit q=true
 | [],i,_,j,hj,_,q,_,_=>by simp at hj
 | o :: l, i, h, j, hj, hk, q, hq, hne => by
  simp only [jT] at h
  cases hb:i.blt k with
  | true =>
   simp only [hb,cond_true] at h
   have hik:i < k:=by simpa using hb
   cases j with
   | zero=>omega
   | succ j =>
    have:=nF h j (by simpa using hj) (by omega) q hq hne
    rwa [show i + 1 + j=i + (j + 1) by omega] at this
  | false =>
   simp only [hb,cond_false,Dw] at h
   obtain ⟨h0,h⟩:=h
   cases j with
   | zero=>exact wl h0 q hq hne
   | succ j =>
    have hik:k<=i:=oa hb
    have:=nF h j (by simpa using hj) (by omega) q hq hne
    rwa [show i + 1 + j=i + (j + 1) by omega] at this
theorem tV {ops:List Oper} {u k:Nat} (h:ql ops u k=true) {i:Nat} (hi:i < ops.length) (hk:k<=i) {q:Nat} (hq:q < k) (hne:q≠u):(nth 0 (behind ops) i).testBit q=true:=by
 have:=nF h i hi (by omega) q hq hne
 rwa [Nat.zero_add] at this
theorem tg {bs:List Nat} {u k:Nat}:∀ {l:List Oper} {i:Nat},mV bs u k i l=true->∀ j,j < l.length->i + j < k->(nth 0 bs (i + j)).testBit u=false
 | [],i,_,j,hj,_=>by simp at hj
 | o :: l, i, h, j, hj, hk => by
  simp only [mV] at h
  rw [gB (show i < k by omega)] at h
  simp only [cond_true,Dw,Bool.not_eq_true'] at h
  cases j with
  | zero=>exact h.1
  | succ j =>
   have:=tg h.2 j (by simpa using hj) (by omega)
   rwa [show i + 1 + j=i + (j + 1) by omega] at this
structure ur (all:List Oper) (j u:Nat) (om c:Oper) (d:Tmp):Prop where
 lt:u < j
 hu:all[u]? = some om
 hj:all[j]? = some c
 ld:nI om=true
 dst:om.dst=some d
 b1:ql all u j=true
 b2:ql all u (j + 1)=true
 none_:∀ i,i < all.length->i<=j->(nth 0 (behind all) i).testBit u=false
 grd:c.guard=none
 free:d ∉ eC c.op.operands.toList
 ne:c.dst≠some d
theorem s9 {all:List Oper} {j:Nat} {c:Oper} (hj:all[j]? = some c):∀ {l:List Oper} {i:Nat},l=all.drop i->∀ {u:Nat},md all j c i l=some u->∃ om d,ur all j u om c d
 | [],i,hl,u,h=>by cases h
 | o :: l, i, hl, u, h => by
  simp only [md] at h
  cases hb:i.blt j with
  | false=>rw [hb] at h; cases h
  | true =>
   rw [hb] at h
   simp only [cond_true] at h
   cases hk:xE all j i o c with
   | false =>
    rw [hk] at h
    exact s9 hj (by have:=congrArg List.tail hl; simpa using this) h
   | true =>
    rw [hk] at h
    simp only [cond_true,Dv] at h
    subst h
    have ho:all[i]? = some o:=by
     have:(all.drop i)[0]? = some o:=by rw [<- hl]; rfl
     simpa using this
    simp only [xE,Dw] at hk
    obtain ⟨⟨k1,k2,k3⟩,k4,k5,k6⟩:=hk
    cases hd:o.dst with
    | none=>rw [hd] at k6; cases k6
    | some d =>
     rw [hd] at k6
     simp only [Dw,eG,Bool.not_eq_true'] at k6
     refine ⟨o,d,io hb,ho,hj,k1,hd,k2,k3,fun q hq hqj=>?_,by simpa using k5,fun hm=>?_,fun e=>?_⟩
     ·have:=tg k4 q hq (by omega)
      rwa [Nat.zero_add] at this
     ·rw [<- bI] at hm
      rw [hm] at k6
      cases k6.1
     ·rw [e] at k6
      simp [unlike] at k6
theorem A8 {all:List Oper} {j u:Nat} (h:fZ all j=some u):∃ om c d,ur all j u om c d:=by
 unfold fZ at h
 split at h
 ·rename_i c hc
  obtain ⟨om,d,h1⟩:=s9 hc (by simp) h
  exact ⟨om,c,d,h1⟩
 ·cases h
theorem zr {ro : Option Nat} (hE : fk P w0.G E C) {ops : Array Oper} (hok : ba ops.toList = true) {m : Nat} (hm : m ≤ ops.size) {uo : Option Nat} (hbar : ∀ i, m ≤ i → i < ops.size → ∀ q, q < m → uo ≠ some q → (nth 0 (behind ops.toList) i).testBit q = true) (hbar2 : ∀ i, m < i → i < ops.size → (nth 0 (behind ops.toList) i).testBit m = true)
  {fin:ASt} {fe:Nat} (hQ:∀ a w,Sim w0 I0 fin a ov w->wpAnyIn (Rd ro) 0 P .any ops Q fe (ck ops.size m) a w)
  (hL:∀ u,uo=some u->u < m->m < ops.size->∀ st a w,dR E C ex ops.toList [u] st fin->Sim w0 I0 st a ov w->wpOpIn (Rd ro) 0 P ops Q m (fun a' w'=>wpAnyIn (Rd ro) 0 P .any ops Q fe ((ck ops.size (m + 1)).setIfInBounds u false) a' w') a w) :
  ∀ (n:Nat) (listed:Array Bool) (st:ASt) (a:Act) (w:World),listed.size=ops.size->(unlisted m listed).length=n ->
   (∀ (k:Nat) (o:Oper),ops[k]? = some o->listed.getD k true=true->∀ e ∈ o.after,Region.binds .any e=true->listed.getD e.on false=true) ->
   (∀ k,m<=k->k < ops.size->listed.getD k true=false) ->
   dR E C ex ops.toList (unlisted m listed) st fin->Sim w0 I0 st a ov w->wpAnyIn (Rd ro) 0 P .any ops Q (n + fe) listed a w:=by
 intro n
 induction n with
 | zero =>
  intro listed st a w hsz hlen hcl hup h hs
  have hnil:unlisted m listed=[]:=List.eq_nil_of_length_eq_zero hlen
  rw [hnil] at h
  cases h
  have:listed=ck ops.size m:=tG hsz (fun i hi him=>by
   cases hb:listed.getD i true with
   | true=>rfl
   | false =>
    exfalso
    have:i ∈ unlisted m listed:=by simp only [unlisted,List.mem_filter,List.mem_range,Bool.not_eq_true']; exact ⟨him,hb⟩
    rw [hnil] at this
    cases this) (fun i hi him=>hup i him hi)
  rw [this,Nat.zero_add]
  exact hQ a w hs
 | succ n ih =>
  intro listed st a w hsz hlen hcl hup h hs
  rw [show n + 1 + fe=(n + fe) + 1 by omega]
  obtain ⟨i0,l0,hu⟩:∃ i0 l0,unlisted m listed=i0 :: l0:=by
   cases hu:unlisted m listed with
   | nil=>rw [hu] at hlen; cases hlen
   | cons i l=>exact ⟨i,l,rfl⟩
  have hsortedA:(unlisted m listed).Pairwise (· < ·):=List.Pairwise.filter _ List.pairwise_lt_range
  have hmem0:i0 ∈ unlisted m listed:=by rw [hu]; exact DA
  have hmem0':=hmem0
  simp only [unlisted,List.mem_filter,List.mem_range,Bool.not_eq_true'] at hmem0'
  have hmin:∀ j,j < i0->listed.getD j true=true:=by
   intro j hj
   cases hb:listed.getD j true with
   | true=>rfl
   | false =>
    exfalso
    have hjm:j ∈ unlisted m listed:=by
     simp only [unlisted,List.mem_filter,List.mem_range,Bool.not_eq_true']
     exact ⟨by omega,hb⟩
    rw [hu] at hjm hsortedA
    rcases List.mem_cons.1 hjm with h | h
    ·omega
    ·have:=(List.pairwise_cons.1 hsortedA).1 j h
     omega
  have hr0:i0 ∈ Region.ready .any ops listed:=wn hok hsz (by omega) hmem0'.2 hmin
  refine ⟨fun hr=>(by rw [hr] at hr0; cases hr0),fun i hi=>?_⟩
  rw [mem_ready] at hi
  obtain ⟨h0,o,ho,hedges⟩:=hi
  have hlt:i < ops.size:=(Dy.1 ho).1
  by_cases him:i < m
  case neg =>
   have hmi:m<=i:=by omega
   have hall:∀ q ∈ unlisted m listed,uo=some q:=fun q hq=>by
    simp only [unlisted,List.mem_filter,List.mem_range,Bool.not_eq_true'] at hq
    apply Classical.byContradiction
    intro hne
    have:=gf hok hsz hcl i o ho hedges q (hbar i hmi hlt q hq.1 hne)
    rw [hq.2] at this
    cases this
   have himm:i=m:=by
    rcases Nat.lt_or_ge m i with h' | h'
    ·exfalso
     have:=gf hok hsz hcl i o ho hedges m (hbar2 i h' hlt)
     rw [(by
      have:=hup m (Nat.le_refl _) (by omega)
      exact this:listed.getD m true=false)] at this
     cases this
    ·omega
   subst himm
   have hu0:uo=some i0:=hall i0 hmem0
   have hl0:l0=[]:=by
    cases l0 with
    | nil=>rfl
    | cons i1 l1 =>
     exfalso
     have h1:uo=some i1:=hall i1 (by rw [hu]; simp)
     rw [hu0] at h1
     cases h1
     rw [hu] at hsortedA
     have:=(List.pairwise_cons.1 hsortedA).1 i0 DA
     omega
   subst hl0
   rw [hu] at h
   have hn0:n=0:=by rw [hu] at hlen; simpa using hlen.symm
   subst hn0
   have heq : listed.setIfInBounds i true = (ck ops.size (i + 1)).setIfInBounds i0 false := by
    apply Array.ext
    ·simp [bR,hsz]
    ·intro q hq1 hq2
     have hqn:q < ops.size:=by simpa [hsz] using hq1
     have hqU:q < (ck ops.size (i + 1)).size:=by rw [bR]; exact hqn
     have eU:(ck ops.size (i + 1))[q]=q.blt (i + 1):=by
      have:=be (m:=i + 1) hqn true
      rw [DI,Array.getElem?_eq_getElem hqU] at this
      simpa using this
     have hqL:q < listed.size:=by rw [hsz]; exact hqn
     have eL:listed.getD q true=listed[q]:=by simp [hqL]
     rw [Array.getElem_setIfInBounds hqL,Array.getElem_setIfInBounds hqU]
     by_cases h1:i=q
     ·subst h1
      rw [if_pos rfl,if_neg (by omega),eU,gB (by omega)]
     ·rw [if_neg h1]
      by_cases h2:i0=q
      ·subst h2
       rw [if_pos rfl,<- eL]
       exact hmem0'.2
      ·rw [if_neg h2,eU,<- eL]
       rcases Nat.lt_or_ge q i with h3 | h3
       ·rw [gB (by omega)]
        cases hb:listed.getD q true with
        | true=>rfl
        | false =>
         exfalso
         have:q ∈ unlisted i listed:=by simp only [unlisted,List.mem_filter,List.mem_range,Bool.not_eq_true']; exact ⟨h3,hb⟩
         rw [hu] at this
         simp at this
         exact h2 this.symm
       ·rw [iI (by omega)]
        exact hup q h3 hqn
   rw [heq,Nat.zero_add]
   exact hL i0 hu0 hmem0'.1 hlt st a w h hs
  have hmem:i ∈ unlisted m listed:=by
   simp only [unlisted,List.mem_filter,List.mem_range,Bool.not_eq_true']
   exact ⟨him,h0⟩
  obtain ⟨pre,post,hsplit⟩:=List.append_of_mem hmem
  have hsorted:=hsortedA
  rw [hsplit] at hsorted h
  have hpre:∀ j ∈ pre,j < i/\(nth 0 (behind ops.toList) i).testBit j=false:=by
   intro j hj
   refine ⟨(List.pairwise_append.1 hsorted).2.2 j hj i DA,?_⟩
   cases hb:(nth 0 (behind ops.toList) i).testBit j with
   | false=>rfl
   | true =>
    exfalso
    have h1:=gf hok hsz hcl i o ho hedges j hb
    have:j ∈ unlisted m listed:=by rw [hsplit]; exact List.mem_append_left _ hj
    simp only [unlisted,List.mem_filter,List.mem_range,Bool.not_eq_true'] at this
    rw [this.2] at h1
    cases h1
  obtain ⟨s1,k1,k2⟩:=lG pre i o post st fin (by rw [Dx]; exact ho) hpre hok h
  refine wpOpIn_mono (fun a' w' hs'=>?_) (kR hE (i:=af ex ops.toList (behind ops.toList) i o) ho hs k1)
  have hil:i < listed.size:=by omega
  have hnew:unlisted m (listed.setIfInBounds i true)=pre ++ post:=by
   have hnd:(pre ++ i :: post).Nodup:=hsorted.imp (fun h=>Nat.ne_of_lt h)
   have:unlisted m (listed.setIfInBounds i true)=(unlisted m listed).filter (fun j=>j≠i):=by
    simp only [unlisted,List.filter_filter]
    apply List.filter_congr
    intro j hj
    by_cases hji:j=i
    ·subst hji
     simp [hil]
    ·have:(listed.setIfInBounds i true).getD j true=listed.getD j true:=getD_set_ne true (fun e=>hji e.symm)
     rw [this]
     simp [hji]
   rw [this,hsplit,List.filter_append,List.filter_cons]
   have hni:i ∉ pre/\i ∉ post:=by
    rw [List.nodup_append] at hnd
    refine ⟨fun hm=>hnd.2.2 i hm i DA rfl,(List.nodup_cons.1 hnd.2.1).1⟩
   simp only [ne_eq,not_true_eq_false,decide_false,Bool.false_eq_true,if_false]
   rw [List.filter_eq_self.2 (fun j hj=>by simp; rintro rfl; exact hni.1 hj),List.filter_eq_self.2 (fun j hj=>by simp; rintro rfl; exact hni.2 hj)]
  refine ih (listed.setIfInBounds i true) s1 a' w' (by simpa using hsz) ?_ ?_ ?_ (by rw [hnew]; exact k2) hs'
  ·rw [hnew]
   rw [hsplit] at hlen
   simp at hlen ⊢
   omega
  ·intro k ok_ hk hl e he hb
   by_cases hki:k=i
   ·subst hki
    rw [ho] at hk
    cases hk
    exact getD_set_true (hedges e he hb)
   ·rw [getD_set_ne true (fun e=>hki e.symm)] at hl
    exact getD_set_true (hcl k ok_ hk hl e he hb)
  ·intro k hk hks
   rw [getD_set_ne true (by omega)]
   exact hup k hk hks
theorem vV {acc:List Nat}:∀ {es:List Edge} {e:Edge},e ∈ es->Region.binds .any e=true->(eH acc es).testBit e.on=true
 | [],e,h,_=>by cases h
 | e' :: es, e, h, hb => by
  simp only [eH]
  rcases List.mem_cons.1 h with rfl | h
  ·rw [hb]
   simp only [cond_true,Nat.testBit_or,Nat.testBit_two_pow_self,Bool.or_true,Bool.true_or]
  ·have:=vV (acc:=acc) h hb
   cases Region.binds .any e' with
   | false=>exact this
   | true=>simp only [cond_true,Nat.testBit_or,this,Bool.true_or]
theorem la {ops:List Oper}:∀ {l l':List Nat} {s s1 s2:ASt},dR E C ex ops l s s1->dR E C ex ops l' s1 s2->dR E C ex ops (l ++ l') s s2
 | [],_,_,_,_,h,h'=>by cases h; exact h'
 | i :: l,_,_,_,_,h,h'=>by cases h with | cons ho h r=>exact .cons ho h (la r h')
theorem sm {n j u m:Nat} (hu:u < j) (hj:j<=m) (hm:m<=n):unlisted m ((ck n j).setIfInBounds u false)=[u] ++ List.range' j (m - j):=by
 have g:∀ i,i < n->((ck n j).setIfInBounds u false).getD i true=(if i=u then false else i.blt j):=fun i hi=>by
  by_cases h:i=u
  ·subst h
   rw [if_pos rfl,DI,Array.getElem?_setIfInBounds_self_of_lt (by rw [bR]; exact hi)]
   rfl
  ·rw [if_neg h,<- be hi true,DI,DI,Array.getElem?_setIfInBounds_ne (fun e=>h e.symm)]
 have e1:m=u + (1 + (j - (u + 1)) + (m - j)):=by omega
 unfold unlisted
 conv=>lhs; rw [e1,List.range_add,List.range_add,List.range_add]
 simp only [List.map_append,List.filter_append]
 have h1:(List.range u).filter (fun i=>!((ck n j).setIfInBounds u false).getD i true)=[]:=by
  rw [List.filter_eq_nil_iff]
  intro i hi
  have:i < u:=by simpa using hi
  rw [g i (by omega),if_neg (by omega),gB (by omega)]
  simp
 have h2:((List.range 1).map (u + ·)).filter (fun i=>!((ck n j).setIfInBounds u false).getD i true)=[u]:=by
  have:=g u (by omega)
  rw [if_pos rfl] at this
  rw [show (List.range 1).map (u + ·)=[u] from rfl,List.filter_cons,this]
  rfl
 have h3:(((List.range (j - (u + 1))).map (1 + ·)).map (u + ·)).filter (fun i=>!((ck n j).setIfInBounds u false).getD i true)=[]:=by
  rw [List.filter_eq_nil_iff]
  intro i hi
  simp only [List.mem_map,List.mem_range] at hi
  obtain ⟨k1,⟨k2,hk2,rfl⟩,rfl⟩:=hi
  rw [g _ (by omega),if_neg (by omega),gB (by omega)]
  simp
 have h4:(((List.range (m - j)).map (1 + (j - (u + 1)) + ·)).map (u + ·)).filter (fun i=>!((ck n j).setIfInBounds u false).getD i true)=List.range' j (m - j):=by
  rw [List.filter_eq_self.2,List.range'_eq_map_range,List.map_map]
  ·apply List.map_congr_left
   intro k hk
   simp only [Function.comp]
   omega
  ·intro i hi
   simp only [List.mem_map,List.mem_range] at hi
   obtain ⟨k1,⟨k2,hk2,rfl⟩,rfl⟩:=hi
   rw [g _ (by omega),if_neg (by omega),iI (by omega)]
   rfl
 rw [h1,h2,h3,h4]
 simp
theorem ij {n j m:Nat} (hj:j<=m) (hm:m<=n):unlisted m (ck n j)=[] ++ List.range' j (m - j):=by
 have e1:m=j + (m - j):=by omega
 unfold unlisted
 conv=>lhs; rw [e1,List.range_add,List.filter_append]
 have h1:(List.range j).filter (fun i=>!(ck n j).getD i true)=[]:=by
  rw [List.filter_eq_nil_iff]
  intro i hi
  have:i < j:=by simpa using hi
  rw [be (by omega),gB this]
  simp
 have h2:((List.range (m - j)).map (j + ·)).filter (fun i=>!(ck n j).getD i true)=(List.range (m - j)).map (j + ·):=by
  rw [List.filter_eq_self]
  intro i hi
  simp only [List.mem_map,List.mem_range] at hi
  obtain ⟨k,hk,rfl⟩:=hi
  rw [be (by omega),iI (by omega)]
  rfl
 rw [h1,h2,List.range'_eq_map_range]
theorem qa {i:Item} {ops:List Oper} {st st':ASt} (hl:nI i.o=true) (h:OpN E C ops i st st'):∃ t x d e,i.o.op=.load t x/\i.o.dst=some d /\
  (opL E (st.nid (some d)) (banned (bd i.ban st.base) st.look) (.load t x) [st.ev x]).hits C e/\e.nfE.app st (some d)=some st':=by
 unfold nI at hl
 split at hl
 ·rename_i t x hop
  simp only [Dw,Option.isNone_iff_eq_none] at hl
  obtain ⟨hg,hd⟩:=hl
  obtain ⟨d,hd⟩:=Option.isSome_iff_exists.1 hd
  rcases h with ⟨_,e,h1,_,h3⟩ | ⟨b,hb,hne,_⟩
  ·rw [hd,hop] at h1
   rw [hd] at h3
   exact ⟨t,x,d,e,hop,hd,by simpa [Op.operands] using h1,h3⟩
  ·rw [aS (by rw [hg]; rfl)] at hb
   exact absurd (Option.some.inj hb).symm hne
 ·cases hl
theorem BM (hE:fk P w0.G E C) {i:Item} {ops:List Oper} {st st':ASt} {a:Act} {w:World} (hl:nI i.o=true) (hs:Sim w0 I0 st a ov w) (h:OpN E C ops i st st'):∃ d val,i.o.dst=some d/\Sim w0 I0 st' (a.put (some d) val) ov w:=by
 obtain ⟨t,x,d,e,hop,hd,h1,h3⟩:=qa hl h
 obtain ⟨g,hs⟩:=hs
 obtain ⟨st1,h4,h5⟩:=yq h3
 obtain ⟨u,hrun,hsim⟩:=Ah (dst:=some d) (type:=i.o.type) (pos:=i.o.pos) (after:=i.o.after) (guard:=i.o.guard) hE.ty (nP _ st) hs h1 h4
 exact ⟨d,u,hd,h5 _ _ _ _ _ hsim⟩
theorem eqV_eq {v u:Value} (h:eqV v u=true):v=u:=by
 unfold eqV at h
 split at h
 ·rename_i a b
  have hb:Int.beq' a b=true:=by
   revert h
   cases Int.beq' a b with
   | true=>intro _; rfl
   | false=>intro h; cases h
  rw [show a=b from by simpa [Int.beq'_eq] using hb]
 ·rename_i a b
  have hb:Int.beq' a b=true:=by
   revert h
   cases Int.beq' a b with
   | true=>intro _; rfl
   | false=>intro h; cases h
  rw [show a=b from by simpa [Int.beq'_eq] using hb]
 ·rename_i a b
  have hb:Int.beq' a b=true:=by
   revert h
   cases Int.beq' a b with
   | true=>intro _; rfl
   | false=>intro h; cases h
  rw [show a=b from by simpa [Int.beq'_eq] using hb]
 ·rename_i a b
  rw [show a=b from by simpa using h]
 ·rfl
 ·cases h
mutual
theorem B9:∀ (x y:TV),eqT x y=true->x=y
 | .lit v,.lit u,h=>by rw [eqV_eq (v:=v) (u:=u) (by simpa only [eqT] using h)]
 | .sl o s xs,.sl o' s' xs',h=>by
  simp only [eqT,Dw,ar] at h
  rw [show o=o' from by simpa using h.1,h.2.1,wv xs xs' h.2.2]
 | .agg cs,.agg cs',h=>by rw [uE cs cs' (by simpa only [eqT] using h)]
 | .hole,.hole,_=>rfl
 | .lit _,.sl _ _ _,h=>by cases h
 | .lit _,.agg _,h=>by cases h
 | .lit _,.tup _,h=>by cases h
 | .lit _,.buf _ _,h=>by cases h
 | .lit _,.hole,h=>by cases h
 | .sl _ _ _,.lit _,h=>by cases h
 | .sl _ _ _,.agg _,h=>by cases h
 | .sl _ _ _,.tup _,h=>by cases h
 | .sl _ _ _,.buf _ _,h=>by cases h
 | .sl _ _ _,.hole,h=>by cases h
 | .agg _,.lit _,h=>by cases h
 | .agg _,.sl _ _ _,h=>by cases h
 | .agg _,.tup _,h=>by cases h
 | .agg _,.buf _ _,h=>by cases h
 | .agg _,.hole,h=>by cases h
 | .tup _,_,h=>by cases h
 | .buf _ _,_,h=>by cases h
 | .hole,.lit _,h=>by cases h
 | .hole,.sl _ _ _,h=>by cases h
 | .hole,.agg _,h=>by cases h
 | .hole,.tup _,h=>by cases h
 | .hole,.buf _ _,h=>by cases h
theorem uE:∀ (x y:List TV),AM x y=true->x=y
 | [],[],_=>rfl
 | x :: l,y :: r,h=>by
  simp only [AM,Dw] at h
  rw [B9 x y h.1,uE l r h.2]
 | [],_ :: _,h=>by cases h
 | _ :: _,[],h=>by cases h
theorem wv:∀ (x y:List (List TV)),yu x y=true->x=y
 | [],[],_=>rfl
 | x :: l,y :: r,h=>by
  simp only [yu,Dw] at h
  rw [uE x y h.1,wv l r h.2]
 | [],_ :: _,h=>by cases h
 | _ :: _,[],h=>by cases h
end
theorem Cj {x y:TV} (h:eqTV x y=true):x=y:=by
 unfold eqTV at h
 rcases Bool.or_eq_true _ _ |>.mp h with h | h
 ·exact B9 x y h
 ·exact @of_decide_eq_true _ (Classical.propDecidable _) h
theorem yD {a b:CA} (h:Co a b=true):a=b/\a≠.junk:=by
 unfold Co at h
 split at h
 ·simp only [Dw,ar] at h
  obtain ⟨rfl,rfl⟩:=h
  exact ⟨rfl,by simp⟩
 ·simp only [Dw,ar] at h
  obtain ⟨rfl,rfl⟩:=h
  exact ⟨rfl,by simp⟩
 ·rw [Cj h]
  exact ⟨rfl,by simp⟩
 ·cases h
theorem yB:∀ {l r:List CA},CP l r=true->l=r
 | [],[],_=>rfl
 | a :: l,b :: r,h=>by
  simp only [CP,Dw] at h
  rw [(yD h.1).1,yB h.2]
 | [],_ :: _,h=>by cases h
 | _ :: _,[],h=>by cases h
theorem Cq {p q:AV} (h:CG p q=true):p=q/\p≠.one .junk:=by
 unfold CG at h
 split at h
 ·have h:=yD h
  exact ⟨by rw [h.1],fun e=>h.2 (AV.one.inj e)⟩
 ·rw [yB h]
  exact ⟨rfl,by simp⟩
 ·cases h
theorem zF {i:Item} {ops:List Oper} {st2 st3:ASt} {d:Tmp} (hl:nI i.o=true) (hd:i.o.dst=some d) (h:OpN E C ops i (st2.put (some d) (.one .junk)).nfS st3.nfS) (heq:CG (nth (.one .junk) st3.slots d) (nth (.one .junk) st2.slots d)=true):st3.nfS=st2.nfS:=by
 obtain ⟨t,x,d',e,hop,hd',h1,h3⟩:=qa hl h
 rw [hd] at hd'
 cases hd'
 obtain ⟨v,rfl⟩:=Prg.All.hits (A5 (op:=.load t x) rfl _) h1
 simp only [Eff.nfE,Eff.app,Dv] at h3
 have hq:nth (.one .junk) st3.slots d=nth (.one .junk) st2.slots d/\nth (.one .junk) st3.slots d≠.one .junk:=by
  revert heq
  generalize nth (.one .junk) st3.slots d=p
  generalize nth (.one .junk) st2.slots d=q
  intro heq
  exact Cq heq
 have e1:nth (.one .junk) st3.nfS.slots d=(nth (.one .junk) st2.slots d).nf:=by rw [ka,hq.1]
 rw [<- h3,gT] at e1 ⊢
 have hlen:d < st2.nfS.slots.length:=by
  rcases Nat.lt_or_ge d st2.nfS.slots.length with h' | h'
  ·exact h'
  ·exfalso
   apply hq.2
   rw [hq.1]
   have:st2.slots.length<=d:=by simpa [ASt.nfS] using h'
   rw [aP,DF this]
   rfl
 simp only [ASt.put,ah,List.set_set] at e1 ⊢
 rw [aP,List.getElem?_set_self hlen] at e1
 simp only [Option.getD_some] at e1
 have e2:st2.nfS.slots.set d v.nf=st2.nfS.slots:=by
  apply List.ext_getElem?
  intro k
  rw [List.getElem?_set]
  by_cases hk:d=k
  ·subst hk
   rw [if_pos rfl,if_pos hlen,e1,<- ka,aP,Du hlen]
   rfl
  ·rw [if_neg hk]
 rw [e2]
end
end Go.Ab
end

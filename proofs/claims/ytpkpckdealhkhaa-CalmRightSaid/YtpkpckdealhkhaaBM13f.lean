import Derived.Test.YtpkpckdealhkhaaBM13d
set_option linter.all false
section
namespace Go.Ab
open Go.RowKit
section
variable {P:Program} {E:Env} {C:Cal} {w0:Bs} {w w':World} {I0 I R:Nat->Prop} {g g':Gh} {st st':ASt} {a:Act} {ov:List Value} {look look':Look} {Q:Exit->Act->World->Prop} {T:Type} {J:List Nat->ASt->T->Prop}
theorem kq {p:Way} {x:TV} {k:TV->Prg T} {e:T} (h:(oI p x k).goes C J e):∃y,aS p x=some y/\(k y).goes C J e:=by
 unfold oI at h
 split at h
 ·exact⟨x,rfl,h⟩
 ·exact h
theorem aj.slot (hs:aj w0 I0 R g st a ov w) (s:Nat):bA w g st.look (nth (.one .junk) st.slots s) (a.tmps.getD s undef):=hs.ev (.tmp s)
theorem xB {x:TV} {v:Value} (h:Rep w I x v) (hx:x.isSl=true):l8 v:=by
 obtain⟨b,n,c,e⟩:=gw (S:=NoR) (.fr h) hx
 exact⟨b,n,c,e⟩
theorem m9 {s:Nat} {v:AV} {u:Value} (hu:a.tmps.getD s undef=u) (hs:aj w0 I0 R g st (a.put (some s) u) ov w):aj w0 I0 R g st a ov w:=by
 rwa[ug hu]at hs
theorem qw:∀{m r:Nat} {x y:TV},(bZ m [x])[r]? = some y->y=.hole\/y=x
 | 0,0,x,y,h=>by simp[bZ]at h;exact .inr h.symm
 | 0,r+1,x,y,h=>by simp[bZ]at h
 | m+1,0,x,y,h=>by simp[bZ]at h;exact .inl h.symm
 | m+1,r+1,x,y,h=>by simp only[bZ,List.getElem?_cons_succ]at h;exact qw h
theorem kg:∀{m r:Nat} {x y:TV},(bZ m [x])[r]? = some y->y=.hole\/(y=x/\r=m)
 | 0,0,x,y,h=>by simp[bZ]at h;exact .inr ⟨h.symm,rfl⟩
 | 0,r+1,x,y,h=>by simp[bZ]at h
 | m+1,0,x,y,h=>by simp[bZ]at h;exact .inl h.symm
 | m+1,r+1,x,y,h=>by
  simp only[bZ,List.getElem?_cons_succ]at h
  rcases kg h with h|⟨h,e⟩
  ·exact .inl h
  ·exact .inr ⟨h,congrArg (· + 1) e⟩
theorem kz:∀(m:Nat) (x:TV),(bZ m [x])[m]? = some x
 | 0,x=>rfl
 | m+1,x=>by simp only[bZ,List.getElem?_cons_succ];exact kz m x
theorem qD {i r idx:Nat} {st1:ASt} (hs:aj w0 I0 (fun _=>False) g st a ov w) (hm:iI st i r idx=some st1):∃g1,aj w0 I0 (fun _=>False) g1 st1 a ov w/\g1.β=g.β /\
  (∀v,bB w g st.look (.sref i r []) v->bB w g1 st1.look (.sref (dQ 0 st.boxes) idx []) v):=by
 unfold iI at hm
 split at hm
 ·rename_i xs h1
  cases hlo:sA xs r idx with
  | true=>rw[hlo]at hm;cases hm
  | false =>
   simp only[hlo,cond_false]at hm
   split at hm
   ·rename_i x h2
    have hrl:r<xs.length:=(Ch.1 h2).1
    have hfr:∀b,g.φ i r b->Foot g st.look i b:=fun b hb=>.inr ⟨xs,r,h1,hrl,hb⟩
    obtain⟨n1,n2,rfl⟩:=bc hm
    obtain⟨q1,q2⟩:=hs.eM h1 h2 (CA.drop i r [] false) (fun p=>leads false [] p=false) (fg i r [] false) (w':=w) (x':=.hole) (u':=undef) (S':=fun _=>False) (R':=g.φ i r) (I':=g.I) (.fr (.hole _))
     (fun p v nd ho _ _=>by rw[gB]at ho;cases ho) hs.below (Nat.le_refl _) (fun _ _ _ _=>rfl) (fun _ h=>h.elim) (fun b hb=>⟨.inr hb,fun h=>h,(hs.foot i b (hfr b hb)).2.2.1⟩) (fun _ h=>h) (fun _ h=>.inl h) (fun b hb hS=>hS)
    obtain⟨t1,t2⟩:=q1.kO (xs:=bZ idx [x]) n2 n1 q1.below (Nat.le_refl _) (fun _ _ _=>rfl) (fun _=>g.ρ i r) (fun k b=>k=idx/\g.φ i r b) (fun k y hy=>by
     rcases kg hy with rfl|⟨rfl,rfl⟩
     ·exact .fr (.hole _)
     ·exact(hs.trees i xs h1 r _ h2).mono (fun b hb=>⟨rfl,hb⟩)) (fun k b _ h=>.inl h.2) (fun k k' b _ _ h h'=>h.1.trans h'.1.symm)
    refine⟨_,t1,rfl,fun v hv=>?_⟩
    obtain⟨xs',x',nd,e1,e2,e3,e4⟩:=hv
    rw[h1]at e1
    cases e1
    rw[h2]at e2
    cases e2
    exact⟨bZ idx [x],x,nd,by rw[ah,if_pos ⟨rfl,n2⟩],kz _ _,by simpa[Gh.iM]using e3,e4⟩
   ·cases hm
 ·cases hm
theorem uf {s:Nat} {k:ASt->Prg T} {r:T} (hs:Sim w0 I0 st a ov w) (h:(xk st s k).goes C J r):∃st',(k st').goes C J r/\Sim w0 I0 st' a ov w:=by
 obtain⟨g,hs⟩:=hs
 unfold xk at h
 have hsl:=hs.slot s
 split at h
 ·rename_i i q hv
  rw[hv]at hsl
  cases hm:iI st i q 0 with
  | none=>rw[hm]at h;exact⟨st,h,g,hs⟩
  | some st1 =>
   rw[hm]at h
   obtain⟨g1,t1,_,t2⟩:=qD hs hm
   exact⟨_,h,g1,m9 (v:=.one .junk) rfl (t1.put (some s) (v:=.one (.sref _ 0 [])) (u:=a.tmps.getD s undef) (t2 _ hsl))⟩
 ·exact⟨st,h,g,hs⟩
 ·rename_i i q lo len hv
  rw[hv]at hsl
  split at h
  ·rename_i x hx
   obtain⟨xs,h1,h2⟩:=aw hx
   obtain⟨xs',x',u,nd,g1,g2,g3,g4,g5⟩:=hsl
   rw[h1]at g1
   cases g1
   rw[h2]at g2
   cases g2
   obtain⟨y,hy,h⟩:=h
   simp only[]at h
   split at h
   ·rename_i b hb
    have hlm:(st.aA (CA.drop i q [] false)).look i=some (.tree xs):=by rw[aO,h1];rfl
    have hb':b=.tree (ai xs q y):=by
     simp only[b8,hlm,Cj]at hb
     exact hb.symm
    subst hb'
    have hrl:q<xs.length:=(Ch.1 h2).1
    have hfr:∀b,g.φ i q b->Foot g st.look i b:=fun b hb=>.inr ⟨xs,q,h1,hrl,hb⟩
    have hr:=hs.trees i xs h1 q x h2
    rw[<-g3.1]at hr
    have hrep:=cK hr g3.2 g5 hy
    obtain⟨q1,q2⟩:=hs.eM h1 h2 (CA.drop i q [] false) (fun p=>leads false [] p=false) (fg i q [] false) (w':=w) (x':=y) (u':=a.tmps.getD s undef) (S':=g.φ i q) (R':=NoR) (I':=g.I) hrep
     (fun p v nd ho _ _=>by rw[gB]at ho;cases ho) hs.below (Nat.le_refl _) (fun _ _ _ _=>rfl) (fun _ h=>.inl h) (fun b hb=>hb.elim) (fun _ h=>h) (fun _ h=>.inl h) (fun b hb hS=>(hs.foot i b (hfr b hS)).2.2.1 hb)
    refine⟨_,h,_,m9 (v:=.one .junk) rfl (q1.put (some s) (v:=.one (.sref i q [])) (u:=a.tmps.getD s undef) ?_)⟩
    refine⟨ai xs q y,y,y.nd,by rw[ah,if_pos ⟨rfl,by rw[d9];exact fb h1⟩],by rw[ag];simp[hrl],⟨by simp[Gh.cA],rfl⟩,?_⟩
    obtain⟨a0,l0,c0,e0⟩:=g4
    subst e0
    cases hnd:nd with
    | none=>rw[hnd]at g5;rw[g5.2.2.2];exact⟨_,_,_,rfl⟩
    | some sn =>
     obtain⟨sz,n⟩:=sn
     rw[hnd]at g5
     rw[g5.2]
     cases a0 with
     | none=>exact⟨_,_,_,rfl⟩
     | some a0=>exact⟨_,_,_,rfl⟩
   ·exact h.elim
  ·exact h.elim
 ·split at h
  ·rename_i x hx
   obtain⟨h1,h⟩:=h
   split at h
   ·rename_i st1 hst
    obtain⟨n1,n2,rfl⟩:=bc hst
    have hrep:=cg hsl hx
    obtain⟨q1,q2⟩:=hs.kO (xs:=[x]) n2 n1 hs.below (Nat.le_refl _) (fun _ _ _=>rfl) (fun _=>a.tmps.getD s undef) (fun _ _=>False) (fun r y hy=>by
     cases r with
     | zero=>simp at hy;subst hy;exact .fr hrep
     | succ r=>simp at hy) (fun _ _ _ h=>h.elim) (fun _ _ _ _ _ h=>h.elim)
    refine⟨_,h,_,m9 (v:=.one .junk) rfl (q1.put (some s) (v:=.one (.sref _ 0 [])) (u:=a.tmps.getD s undef) ?_)⟩
    exact⟨[x],x,x.nd,by rw[ah,if_pos ⟨rfl,n2⟩],rfl,⟨by simp[Gh.iM],rfl⟩,xB hrep h1⟩
   ·exact h.elim
  ·exact h.elim
theorem lL {k:ASt->Prg T} {r:T}:∀{l:List Nat} {st:ASt},Sim w0 I0 st a ov w->(m8 l st k).goes C J r->∃st',(k st').goes C J r/\Sim w0 I0 st' a ov w
 | [],st,hs,h=>⟨st,h,hs⟩
 | s::l,st,hs,h=>by
  obtain⟨st1,h1,h2⟩:=uf hs h
  exact lL h2 h1
theorem ow {i c:Nat} {k:ASt->Prg T} {r:T} (hs:Sim w0 I0 st a ov w) (h:(sH st i c k).goes C J r):∃st',(k st').goes C J r/\Sim w0 I0 st' a ov w:=by
 obtain⟨g,hs⟩:=hs
 unfold sH at h
 split at h
 ·rename_i cs hl
  split at h
  ·rename_i i' q hc
   cases hm:iI st i' q (lg cs c)with
   | none=>rw[hm]at h;exact⟨st,h,g,hs⟩
   | some st1 =>
    simp only[hm]at h
    obtain⟨vs,ty,c1,c2⟩:=hs.cells i cs hl
    have hcl:c<cs.length:=by
     rcases Nat.lt_or_ge c cs.length with h'|h'
     ·exact h'
     ·rw[a7,Cu h']at hc;cases hc
    have hcc:cs[c]? = some (.sref i' q []):=by rw[a7,Ci hcl]at hc;rw[Ci hcl];simpa using hc
    have hvl:c<vs.toList.length:=by rw[c2.1];exact hcl
    obtain⟨u,hu⟩:∃u,vs.toList[c]? = some u:=⟨_,Ci hvl⟩
    obtain⟨hrc,hone⟩:=c2.2 c _ u hcc hu
    obtain⟨g1,t1,tb,t2⟩:=qD hs hm
    split at h
    ·rename_i cs' hl1
     obtain⟨vs1,ty1,d1,d2⟩:=t1.cells i cs' hl1
     rw[tb,c1]at d1
     cases d1
     have c1':w.heap[g1.β i]? = some (.cells vs ty (0,0)):=by rw[tb];exact c1
     refine⟨_,h,_,t1.eL hl1 (vs':=vs) (ty:=ty) t1.below (Nat.le_refl _) (fun _ _=>rfl) c1' ⟨_,_,c1'⟩ ?_⟩
     refine⟨by rw[ag,List.length_set];exact d2.1,fun j d v hd hv=>?_⟩
     rw[ag,List.getElem?_set]at hd
     by_cases hcj:c=j
     ·subst hcj
      have hcl':c<cs'.length:=by rw[<-d2.1];exact hvl
      simp only[if_true,hcl',Cj]at hd
      subst hd
      rw[hu]at hv
      cases hv
      exact⟨t2 _ hrc,hone⟩
     ·simp only[hcj,if_false]at hd
      exact d2.2 j d v hd hv
    ·exact⟨st,h,g,hs⟩
  ·exact⟨st,h,g,hs⟩
 ·exact⟨st,h,g,hs⟩
theorem uO {s c : Nat} {k : ASt → Prg T} {r : T} (hs : Sim w0 I0 st a ov w) (h : (wM st s c k).goes C J r) : ∃ st', (k st').goes C J r ∧ Sim w0 I0 st' a ov w := by
 have hs0:=hs
 obtain⟨g,hs⟩:=hs
 unfold wM at h
 split at h
 ·rename_i i off hv
  split at h
  ·rename_i cs hl
   split at h
   ·exact ow hs0 h
   ·exact⟨st,h,g,hs⟩
   ·rename_i i' q lo len hc
    obtain⟨vs,ty,c1,c2⟩:=hs.cells i cs hl
    have hcl:c<cs.length:=by
     rcases Nat.lt_or_ge c cs.length with h'|h'
     ·exact h'
     ·rw[a7,Cu h']at hc;cases hc
    have hcc:cs[c]? = some (.swin i' q [] lo len):=by rw[a7,Ci hcl]at hc;rw[Ci hcl];simpa using hc
    have hvl:c<vs.toList.length:=by rw[c2.1];exact hcl
    obtain⟨u,hu⟩:∃u,vs.toList[c]? = some u:=⟨_,Ci hvl⟩
    obtain⟨hrc,hone⟩:=c2.2 c _ u hcc hu
    split at h
    ·rename_i x hx
     obtain⟨xs,h1,h2⟩:=aw hx
     obtain⟨xs',x',u',nd,g1,g2,g3,g4,g5⟩:=hrc
     rw[h1]at g1
     cases g1
     rw[h2]at g2
     cases g2
     obtain⟨y,hy,h⟩:=h
     simp only[]at h
     split at h
     ·rename_i b hb
      have hlm:(st.aA (CA.drop i' q [] false)).look i'=some (.tree xs):=by rw[aO,h1];rfl
      have hb':b=.tree (ai xs q y):=by
       simp only[b8,hlm,Cj]at hb
       exact hb.symm
      subst hb'
      have hrl:q<xs.length:=(Ch.1 h2).1
      have hfr:∀b,g.φ i' q b->Foot g st.look i' b:=fun b hb=>.inr ⟨xs,q,h1,hrl,hb⟩
      have hr:=hs.trees i' xs h1 q x h2
      rw[<-g3.1]at hr
      have hrep:=cK hr g3.2 g5 hy
      obtain⟨q1,q2⟩:=hs.eM h1 h2 (CA.drop i' q [] false) (fun p=>leads false [] p=false) (fg i' q [] false) (w':=w) (x':=y) (u':=u) (S':=g.φ i' q) (R':=NoR) (I':=g.I) hrep
       (fun p v nd ho _ _=>by rw[gB]at ho;cases ho) hs.below (Nat.le_refl _) (fun _ _ _ _=>rfl) (fun _ h=>.inl h) (fun b hb=>hb.elim) (fun _ h=>h) (fun _ h=>.inl h) (fun b hb hS=>(hs.foot i' b (hfr b hS)).2.2.1 hb)
      split at h
      ·rename_i cs' hl1
       obtain⟨vs1,ty1,d1,d2⟩:=q1.cells i cs' hl1
       have c1':w.heap[(g.cA g.I i' q u (g.φ i' q)).β i]? = some (.cells vs ty (0,0)):=c1
       rw[c1']at d1
       cases d1
       refine ow ⟨_,q1.eL hl1 (vs':=vs) (ty:=ty) q1.below (Nat.le_refl _) (fun _ _=>rfl) c1' ⟨_,_,c1'⟩ ?_⟩ h
       refine⟨by rw[ag,List.length_set];exact d2.1,fun j d v hd hv=>?_⟩
       rw[ag,List.getElem?_set]at hd
       by_cases hcj:c=j
       ·subst hcj
        have hcl':c<cs'.length:=by rw[<-d2.1];exact hvl
        simp only[if_true,hcl',Cj]at hd
        subst hd
        rw[hu]at hv
        cases hv
        refine⟨⟨ai xs q y,y,y.nd,by rw[ah,if_pos ⟨rfl,by rw[d9];exact fb h1⟩],by rw[ag];simp[hrl],⟨by simp[Gh.cA],rfl⟩,?_⟩,hone⟩
        obtain⟨a0,l0,c0,e0⟩:=g4
        subst e0
        cases hnd:nd with
        | none=>rw[hnd]at g5;rw[g5.2.2.2];exact⟨_,_,_,rfl⟩
        | some sn =>
         obtain⟨sz,n⟩:=sn
         rw[hnd]at g5
         rw[g5.2]
         cases a0 with
         | none=>exact⟨_,_,_,rfl⟩
         | some a0=>exact⟨_,_,_,rfl⟩
       ·simp only[hcj,if_false]at hd
        exact d2.2 j d v hd hv
      ·exact h.elim
     ·exact h.elim
    ·exact h.elim
   ·rename_i x hc
    obtain⟨h1,h⟩:=h
    split at h
    ·rename_i st1 hst
     obtain⟨n1,n2,rfl⟩:=bc hst
     obtain⟨vs,ty,c1,c2⟩:=hs.cells i cs hl
     have hcl:c<cs.length:=by
      rcases Nat.lt_or_ge c cs.length with h'|h'
      ·exact h'
      ·rw[a7,Cu h']at hc;cases hc
     have hcc:cs[c]? = some (.t x):=by rw[a7,Ci hcl]at hc;rw[Ci hcl];simpa using hc
     have hvl:c<vs.toList.length:=by rw[c2.1];exact hcl
     obtain⟨u,hu⟩:∃u,vs.toList[c]? = some u:=⟨_,Ci hvl⟩
     have hrep:=(c2.2 c _ u hcc hu).1.1
     have hone:=(c2.2 c _ u hcc hu).2
     obtain⟨q1,q2⟩:=hs.kO (xs:=bZ (lg cs c) [x]) n2 n1 hs.below (Nat.le_refl _) (fun _ _ _=>rfl) (fun _=>u) (fun _ _=>False) (fun r y hy=>by
      rcases qw hy with rfl|rfl
      ·exact .fr (.hole _)
      ·exact .fr hrep) (fun _ _ _ h=>h.elim) (fun _ _ _ _ _ h=>h.elim)
     have hne:dQ 0 st.boxes≠i:=fun e=>by rw[e,hl]at n1;cases n1
     have hl1:(st.ac (dQ 0 st.boxes) (some (.tree (bZ (lg cs c) [x])))).look i=some (.cells cs):=by rw[ah,if_neg (fun h=>hne h.1)];exact hl
     refine⟨_,h,_,q1.eL hl1 (vs':=vs) (ty:=ty) q1.below (Nat.le_refl _) (fun _ _=>rfl) c1 ⟨_,_,c1⟩ ?_⟩
     refine⟨by rw[ag,List.length_set];exact c2.1,fun j d v hd hv=>?_⟩
     rw[ag,List.getElem?_set]at hd
     by_cases hcj:c=j
     ·subst hcj
      simp only[if_true,hcl,Cj]at hd
      subst hd
      rw[hu]at hv
      cases hv
      exact⟨⟨bZ (lg cs c) [x],x,x.nd,by rw[ah,if_pos ⟨rfl,n2⟩],kz _ _,⟨by simp[Gh.iM],rfl⟩,xB hrep h1⟩,hone⟩
     ·simp only[hcj,if_false]at hd
      have:=c2.2 j d v hd hv
      exact⟨bB.mv q2 (by cases d<;>trivial) this.1,this.2⟩
    ·exact h.elim
   ·exact h.elim
  ·exact h.elim
 ·exact h.elim
theorem vo {i c:Nat} {k:ASt->Prg T} {r:T} (hs:Sim w0 I0 st a ov w) (h:(ww st i c k).goes C J r):∃st',(k st').goes C J r/\Sim w0 I0 st' a ov w:=by
 have hs0:=hs
 obtain⟨g,hs⟩:=hs
 unfold ww at h
 split at h
 ·rename_i cs hl
  split at h
  ·rename_i i' q p0 p hc
   obtain⟨vs,ty,c1,c2⟩:=hs.cells i cs hl
   have hcl:c<cs.length:=by
    rcases Nat.lt_or_ge c cs.length with h'|h'
    ·exact h'
    ·rw[a7,Cu h']at hc;cases hc
   have hcc:cs[c]? = some (.sref i' q (p0::p)):=by rw[a7,Ci hcl]at hc;rw[Ci hcl];simpa using hc
   have hvl:c<vs.toList.length:=by rw[c2.1];exact hcl
   obtain⟨u,hu⟩:∃u,vs.toList[c]? = some u:=⟨_,Ci hvl⟩
   obtain⟨hrc,hone⟩:=c2.2 c _ u hcc hu
   split at h
   ·rename_i x hx
    obtain⟨xs,h1,h2⟩:=aw hx
    obtain⟨xs',x',nd,g1,g2,g3,g4⟩:=hrc
    rw[h1]at g1
    cases g1
    rw[h2]at g2
    cases g2
    obtain⟨y,hy,x1,hx1,h⟩:=h
    obtain⟨st1,gg,Sy,t1,t2,t3,t4,t5,hrep⟩:=nH (dst:=none) hs h1 h2 hy hx1 g3
    simp only[t1]at h
    obtain⟨cs1,k1,k2,k3⟩:=t4.cells i cs hl
    split at h
    ·rename_i cs1' st2 e1 hst
     rw[k1]at e1
     cases e1
     obtain⟨n1,n2,rfl⟩:=bc hst
     obtain⟨q1,q2⟩:=t2.kO (xs:=bZ (lg cs c) [y]) n2 n1 t2.below (Nat.le_refl _) (fun _ _ _=>rfl) (fun _=>u) (fun k b=>k=lg cs c/\Sy b) (fun k z hz=>by
      rcases kg hz with rfl|⟨rfl,rfl⟩
      ·exact .fr (.hole _)
      ·rw[t3];exact hrep.mono (fun b hb=>⟨rfl,hb⟩)) (fun k b _ h=>.inl (.inr h.2)) (fun k k' b _ _ h h'=>h.1.trans h'.1.symm)
     have hne:dQ 0 st.boxes≠i:=fun e=>by rw[e,k1]at n1;cases n1
     have hl1:(st1.ac (dQ 0 st.boxes) (some (.tree (bZ (lg cs c) [y])))).look i=some (.cells cs1):=by rw[ah,if_neg (fun h=>hne h.1)];exact k1
     obtain⟨vs1,ty1,d1,d2⟩:=q1.cells i cs1 hl1
     have c1':w.heap[(gg.iM (dQ 0 st.boxes) (fun _=>u) (fun k b=>k=lg cs c/\Sy b)).β i]? = some (.cells vs ty (0,0)):=by
      show w.heap[gg.β i]? = _
      rw[k3]
      exact c1
     rw[c1']at d1
     cases d1
     refine⟨_,h,_,q1.eL hl1 (vs':=vs) (ty:=ty) q1.below (Nat.le_refl _) (fun _ _=>rfl) c1' ⟨_,_,c1'⟩ ?_⟩
     refine⟨by rw[ag,List.length_set];exact d2.1,fun j d v hd hv=>?_⟩
     rw[ag,List.getElem?_set]at hd
     by_cases hcj:c=j
     ·subst hcj
      have hcl':c<cs1.length:=by rw[k2];exact hcl
      simp only[if_true,hcl',Cj]at hd
      subst hd
      rw[hu]at hv
      cases hv
      exact⟨⟨bZ (lg cs c) [y],y,y.nd,by rw[ah,if_pos ⟨rfl,n2⟩],kz _ _,⟨by simp[Gh.iM],rfl⟩,g4⟩,hone⟩
     ·simp only[hcj,if_false]at hd
      exact d2.2 j d v hd hv
    ·exact h.elim
   ·exact h.elim
  ·exact⟨st,h,g,hs⟩
 ·exact⟨st,h,g,hs⟩
theorem tW {s c:Nat} {k:ASt->Prg T} {r:T} (hs:Sim w0 I0 st a ov w) (h:(tI st s c k).goes C J r):∃st',(k st').goes C J r/\Sim w0 I0 st' a ov w:=by
 unfold tI at h
 split at h
 ·exact vo hs h
 ·exact⟨st,h,hs⟩
theorem gh {k:ASt->Prg T} {r:T}:∀{l:List (Nat × Nat)} {st:ASt},Sim w0 I0 st a ov w->(gQ l st k).goes C J r->∃st',(k st').goes C J r/\Sim w0 I0 st' a ov w
 | [],st,hs,h=>⟨st,h,hs⟩
 | (s, c) :: l, st, hs, h => by
  simp only[gQ]at h
  cases hb:Nat.ble 2000 c with
  | true =>
   rw[hb]at h
   obtain⟨st1,h1,h2⟩:=tW hs h
   exact gh h2 h1
  | false =>
   rw[hb]at h
   obtain⟨st1,h1,h2⟩:=uO hs h
   exact gh h2 h1
theorem yo {an:Option Ann} {k:ASt->Prg T} {r:T} {st:ASt} (hs:Sim w0 I0 st a ov w) (h:(preQ an k st).goes C J r):∃st',(k st').goes C J r/\Sim w0 I0 st' a ov w:=by
 cases an with
 | none=>exact⟨st,h,hs⟩
 | some an=>exact gh hs h
theorem ur {s c:Nat} (hs:Sim w0 I0 st a ov w):Sim w0 I0 (AF st s c) a ov w:=by
 obtain⟨g,hs⟩:=hs
 unfold AF
 generalize hc0:c%1000=c'
 split
 ·rename_i i off hv
  split
  ·rename_i cs hl
   split
   ·rename_i i' q hc
    split
    ·rename_i xs hx
     split
     ·rename_i x h2
      cases hcool:Nat.ble 1000 c with
      | true =>
       obtain⟨g',h⟩:=hs.cool hx h2
       exact⟨g',h⟩
      | false =>
      clear hc0 hcool
      rename_i c0
      generalize c'=c at *
      obtain⟨vs,ty,c1,c2⟩:=hs.cells i cs hl
      have hcl:c<cs.length:=by
       rcases Nat.lt_or_ge c cs.length with h'|h'
       ·exact h'
       ·rw[a7,Cu h']at hc;cases hc
      have hcc:cs[c]? = some (.sref i' q []):=by rw[a7,Ci hcl]at hc;rw[Ci hcl];simpa using hc
      have hvl:c<vs.toList.length:=by rw[c2.1];exact hcl
      obtain⟨u,hu⟩:∃u,vs.toList[c]? = some u:=⟨_,Ci hvl⟩
      obtain⟨hrc,hone⟩:=c2.2 c _ u hcc hu
      obtain⟨xs',x',nd,e1,e2,e3,e4⟩:=hrc
      rw[hx]at e1
      cases e1
      rw[h2]at e2
      cases e2
      obtain⟨f1,f2,f3⟩:=hs.freeze hx h2
      have hne:i'≠i:=fun e=>by rw[e,hl]at hx;cases hx
      have hl1:(st.ac i' (some (.tree (ai xs q (frz x))))).look i=some (.cells cs):=by rw[ah,if_neg (fun h=>hne h.1)];exact hl
      refine⟨_,f2.eL hl1 (vs':=vs) (ty:=ty) f2.below (Nat.le_refl _) (fun _ _=>rfl) c1 ⟨_,_,c1⟩ ?_⟩
      refine⟨by rw[ag,List.length_set];exact c2.1,fun j d v hd hv=>?_⟩
      rw[ag,List.getElem?_set]at hd
      by_cases hcj:c=j
      ·subst hcj
       simp only[if_true,hcl,Cj]at hd
       subst hd
       rw[hu]at hv
       cases hv
       rw[<-e3.1]at f1
       exact⟨⟨f1,hone⟩,hone⟩
      ·simp only[hcj,if_false]at hd
       have:=c2.2 j d v hd hv
       exact⟨f3 _ _ this.1,this.2⟩
     ·exact⟨g,hs⟩
    ·exact⟨g,hs⟩
   ·exact⟨g,hs⟩
  ·exact⟨g,hs⟩
 ·rename_i i' q hv
  split
  ·rename_i xs hx
   split
   ·rename_i x h2
    cases hcool:Nat.ble 1000 c with
    | true=>exact⟨g,hs⟩
    | false =>
    simp only[cond_false]
    have hsl:st.slots[s]? = some (.one (.sref i' q [])):=by
     rcases Nat.lt_or_ge s st.slots.length with h'|h'
     ·rw[a7,Ci h']at hv;rw[Ci h'];simpa using hv
     ·rw[a7,Cu h']at hv;cases hv
    obtain⟨xs',x',nd,e1,e2,e3,e4⟩:=hs.slots s _ hsl
    rw[hx]at e1
    cases e1
    rw[h2]at e2
    cases e2
    obtain⟨f1,f2,f3⟩:=hs.freeze hx h2
    have hone:(a.tmps.getD s undef).oneCell'=true:=q9 e4
    have:=f2.put (some s) (v:=.one (.t (frz x))) (u:=a.tmps.getD s undef) ⟨by rw[e3.1];exact f1,hone⟩
    rw[ug rfl]at this
    exact⟨_,this⟩
   ·exact⟨g,hs⟩
  ·exact⟨g,hs⟩
 ·exact⟨g,hs⟩
theorem mg:∀{l:List (Nat × Nat)} {st:ASt},Sim w0 I0 st a ov w->Sim w0 I0 (iY l st) a ov w
 | [],st,hs=>hs
 | (s,c)::l,st,hs=>mg (l:=l) (ur hs)
theorem iU:∀{l:List Nat} {st:ASt},Sim w0 I0 st a ov w->Sim w0 I0 (fL st l) a ov w
 | [],st,hs=>hs
 | s :: l, st, hs => by
  simp only[fL]
  split
  ·rename_i i off hv
   split
   ·rename_i cs hl
    refine iU ?_
    obtain⟨g,hs⟩:=hs
    obtain⟨vs,ty,c1,c2⟩:=hs.cells i cs hl
    refine⟨g,hs.eL hl (vs':=vs) (ty:=ty) hs.below (Nat.le_refl _) (fun _ _=>rfl) c1 ⟨_,_,c1⟩ ⟨by rw[mr];exact c2.1,fun j d v hd hv=>?_⟩⟩
    rw[pm]at hd
    cases hj:cs[j]? with
    | none=>simp[hj]at hd
    | some c' =>
     simp only[hj,Cv,Cj]at hd
     subst hd
     exact⟨trivial,(c2.2 j c' v hj hv).2⟩
   ·exact iU hs
  ·exact iU hs
theorem mz {α:Type} (d:α) (ks:List Nat):∀(l:List α) (n k:Nat),(fD d ks n l)[k]? = (l[k]?).map fun x=>bif bC (n+k) ks then x else d
 | [],n,k=>by simp[fD]
 | x::l,n,0=>by simp[fD]
 | x::l,n,k+1=>by
  simp only[fD,List.getElem?_cons_succ,mz d ks l (n+1) k]
  rw[show n+1+k=n+(k+1) by omega]
theorem mF {α:Type} (d:α) (ks:List Nat):∀(l:List α) (n:Nat),(fD d ks n l).length=l.length
 | [],n=>rfl
 | x::l,n=>by simp[fD,mF d ks l (n+1)]
theorem sX {ks:List Nat} {R:Nat->Prop} (hs:aj w0 I0 R g st a ov w):aj w0 I0 R g (fQ ks st) a ov w:=by
 refine⟨hs.below,hs.sub,hs.lt,hs.old,by simp only[fQ,mF];exact hs.len,hs.defers,fun t v hv=>?_,hs.olen,hs.outs,hs.cells,hs.trees,hs.foot,hs.apart,hs.apartR,hs.res,hs.base,hs.out⟩
 simp only[fQ,mz,Nat.zero_add]at hv
 cases hsl:st.slots[t]? with
 | none=>simp[hsl]at hv
 | some u =>
  simp only[hsl,Cv,Cj]at hv
  cases hm:bC t ks with
  | false=>simp only[hm,cond_false]at hv;subst hv;exact trivial
  | true =>
   simp only[hm,cond_true]at hv
   subst hv
   exact hs.slots t u hsl
theorem vM {ks:List Nat} (hs:Sim w0 I0 st a ov w):Sim w0 I0 (fQ ks st) a ov w:=by
 obtain⟨g,hs⟩:=hs
 exact⟨g,sX hs⟩
theorem aR {i:Nat}:∀{L:List Nat} {n k:Nat},iq i n L=some k->n<=k/\L[k-n]? = some i
 | [],n,k,h=>by simp[iq]at h
 | b :: L, n, k, h => by
  simp only[iq]at h
  cases hb:b.beq i with
  | true =>
   simp only[hb,cond_true,Cj]at h
   subst h
   have:=(aG _ _).1 hb
   subst this
   simp
  | false =>
   simp only[hb,cond_false]at h
   obtain⟨h1,h2⟩:=aR h
   refine⟨by omega,?_⟩
   rw[show k-n=(k-(n+1))+1 by omega,List.getElem?_cons_succ]
   exact h2
theorem lA:∀{L:List Nat},fS L=true->∀(k k' i:Nat),L[k]? = some i->L[k']? = some i->k=k'
 | [],_,k,k',i,h,_=>by simp at h
 | b :: L, hn, k, k', i, h, h' => by
  simp only[fS,Ck,Bool.not_eq_true']at hn
  have hnot:∀q,L[q]? = some b->False:=fun q hq=>by
   have:=(bF b L).2 (Cq hq)
   rw[this]at hn
   cases hn.1
  cases k with
  | zero =>
   cases k' with
   | zero=>rfl
   | succ k'=>simp at h h';subst h;exact(hnot k' h').elim
  | succ k =>
   cases k' with
   | zero=>simp at h h';subst h';exact(hnot k h).elim
   | succ k'=>simp at h h';rw[lA hn.2 k k' i h h']
theorem mR (look:Look) (f:CA->CA):∀(L:List Nat) (k:Nat),(me look f L)[k]? = (L[k]?).map fun i=>(look i).map (BC.bw f)
 | [],k=>by simp[me]
 | i::L,0=>by simp only[me,List.getElem?_cons_zero,Cv];cases look i<;>rfl
 | i::L,k+1=>by simp[me,mR look f L k]
theorem mV (look:Look) (f:CA->CA):∀(L:List Nat),(me look f L).length=L.length
 | []=>rfl
 | i::L=>by simp[me,mV look f L]
theorem mY:∀(l:List AV) (k:Nat),(oe l)[k]? = (l[k]?).map AV.asTV
 | [],k=>by simp[oe]
 | v::l,0=>rfl
 | v::l,k+1=>by simp[oe,mY l k]
theorem ni:∀l:List AV,(oe l).length=l.length
 | []=>rfl
 | v::l=>by simp[oe,ni l]
theorem u1 {v:AV} {u:Value} (h:bA w g look v u):bA w g look v.asTV u:=by
 cases v with
 | one c=>cases c<;>first|exact h|exact h.1
 | bl b=>have:u=.bool b:=h;subst this;exact Rep.lit _
 | _=>exact h
theorem yn {L:List Nat} (hn:fS L=true) (hs:Sim w0 I0 st a ov w):Sim w0 I0 (gX L st) a ov w:=by
 obtain⟨g,hs⟩:=hs
 have hlook:∀k,(gX L st).look k=(L[k]?).bind fun i=>(st.look i).map (BC.bw (CA.ren L)):=fun k=>by
  simp only[gX,ASt.look,a7,List.getElem?_append,mV,mR]
  by_cases hk:k<L.length
  ·rw[if_pos hk,Ci hk]
   rfl
  ·have hL:L[k]? = none:=Cu (by omega)
   rw[if_neg hk,hL,List.getElem?_replicate]
   split<;>rfl
 obtain⟨g',hg'⟩:∃g':Gh,g'=⟨g.I,fun k=>g.ρ (nth 0 L k),fun k=>g.β (nth 0 L k),fun k=>g.φ (nth 0 L k),g.O⟩:=⟨_,rfl⟩
 have hat:∀{k i:Nat},L[k]? = some i->nth 0 L k=i:=fun h=>bG h
 have eI:g'.I=g.I:=by rw[hg']
 have eO:g'.O=g.O:=by rw[hg']
 have hlk:∀{k i:Nat} {b:BC},L[k]? = some i->st.look i=some b->(gX L st).look k=some (b.bw (CA.ren L)):=fun{k i b} h1 h2=>by rw[hlook,h1];simp[h2]
 have inv:∀{k:Nat} {b:BC},(gX L st).look k=some b->∃i b0,L[k]? = some i/\st.look i=some b0/\b=b0.bw (CA.ren L):=fun{k b} h=>by
  rw[hlook]at h
  cases hk:L[k]? with
  | none=>simp[hk]at h
  | some i =>
   simp only[hk,Option.bind_some]at h
   cases hb:st.look i with
   | none=>simp[hb]at h
   | some b0=>simp only[hb,Cv,Cj]at h;exact⟨i,b0,rfl,hb,h.symm⟩
 have hf:∀c v,bB w g st.look c v->bB w g' (gX L st).look (c.ren L) v:=by
  intro c v h
  cases c with
  | t x=>exact⟨by rw[eI];exact h.1,h.2⟩
  | ptr i off =>
   simp only[CA.ren]
   split
   ·rename_i k hk
    replace hk:L[k]? = some i:=(aR hk).2
    obtain⟨cs,h1,h2⟩:=h
    exact⟨_,hlk hk h1,by rw[hg'];simp only[];rw[hat hk];exact h2⟩
   ·trivial
  | ref x off =>
   obtain⟨ad,cell,h1,h3⟩:=h
   exact⟨ad,cell,h1,fun j c hj=>⟨(h3 j c hj).1.mv (fun _ _=>rfl) (fun b hb=>by rw[eI];exact hb) eO,(h3 j c hj).2.1,by rw[eI];exact(h3 j c hj).2.2⟩⟩
  | tptr i r p k j =>
   simp only[CA.ren]
   split
   ·rename_i m hm
    replace hm:L[m]? = some i:=(aR hm).2
    obtain⟨xs,x,ad,l,cap,s,n,h1,h2,h3,h4,h5⟩:=h
    refine⟨xs,x,ad,l,cap,s,n,hlk hm h1,h2,?_,h4,h5⟩
    rw[hg'];simp only[];rw[hat hm];exact h3
   ·trivial
  | sref i r p =>
   simp only[CA.ren]
   split
   ·rename_i m hm
    replace hm:L[m]? = some i:=(aR hm).2
    obtain⟨xs,x,nd,h1,h2,h3,h4⟩:=h
    refine⟨xs,x,nd,hlk hm h1,h2,?_,h4⟩
    rw[hg'];simp only[];rw[hat hm];exact h3
   ·trivial
  | swin i r p lo len =>
   simp only[CA.ren]
   split
   ·rename_i m hm
    replace hm:L[m]? = some i:=(aR hm).2
    obtain⟨xs,x,u,nd,h1,h2,h3,h4,h5⟩:=h
    refine⟨xs,x,u,nd,hlk hm h1,h2,?_,h4,h5⟩
    rw[hg'];simp only[];rw[hat hm];exact h3
   ·trivial
  | yl n=>show v=.func (.yield (g'.O.y n)) #[] #[];rw[eO];exact h
  | ifp ty i =>
   simp only[CA.ren]
   split
   ·rename_i k hk
    replace hk:L[k]? = some i:=(aR hk).2
    obtain⟨cs,h1,h2⟩:=h
    exact⟨_,hlk hk h1,by rw[hg'];simp only[];rw[hat hk];exact h2⟩
   ·trivial
  | fn1 q i =>
   simp only[CA.ren]
   split
   ·rename_i k hk
    replace hk:L[k]? = some i:=(aR hk).2
    obtain⟨cs,h1,h2⟩:=h
    exact⟨_,hlk hk h1,by rw[hg'];simp only[];rw[hat hk];exact h2⟩
   ·trivial
  | psl i n =>
   simp only[CA.ren]
   split
   ·rename_i k hk
    replace hk:L[k]? = some i:=(aR hk).2
    obtain⟨cs,h1,h2⟩:=h
    exact⟨_,hlk hk h1,by rw[hg'];simp only[];rw[hat hk];exact h2⟩
   ·trivial
  | aptr i off len n =>
   simp only[CA.ren]
   split
   ·rename_i k hk
    replace hk:L[k]? = some i:=(aR hk).2
    obtain⟨cs,h1,h2,h3⟩:=h
    exact⟨_,hlk hk h1,h2,by rw[hg'];simp only[];rw[hat hk];exact h3⟩
   ·trivial
  | may i ty =>
   simp only[CA.ren]
   split
   ·rename_i k hk
    replace hk:L[k]? = some i:=(aR hk).2
    obtain⟨cs,h1,h2,h3⟩:=h
    refine⟨_,hlk hk h1,?_,?_⟩
    ·rw[hg'];simp only[];rw[hat hk];exact h2
    ·rw[hg'];simp only[];rw[hat hk];exact h3
   ·trivial
  | undef=>exact h
  | junk=>exact h
 have foot:∀{k b:Nat},Foot g' (gX L st).look k b->∃i,L[k]? = some i/\Foot g st.look i b:=by
  rintro k b (⟨cs,h1,h2⟩|⟨xs,r,h1,h2,h3⟩)
  ·obtain⟨i,b0,i1,i2,i3⟩:=inv h1
   refine⟨i,i1,?_⟩
   rw[hg']at h2
   simp only[]at h2
   rw[hat i1]at h2
   cases b0 with
   | cells cs0=>exact .inl ⟨cs0,i2,h2⟩
   | tree xs=>simp[BC.bw]at i3
  ·obtain⟨i,b0,i1,i2,i3⟩:=inv h1
   refine⟨i,i1,?_⟩
   rw[hg']at h3
   simp only[]at h3
   rw[hat i1]at h3
   cases b0 with
   | cells cs0=>simp[BC.bw]at i3
   | tree xs0=>simp only[BC.bw,BC.tree.injEq]at i3;subst i3;exact .inr ⟨xs,r,i2,h2,h3⟩
 refine⟨g',hs.below,by rw[eI];exact hs.sub,by rw[eI];exact hs.lt,by rw[eI];exact hs.old,by simp only[gX,ni,bv];exact hs.len,hs.defers,fun t v hv=>?_,by simp only[gX,ni,bv];exact hs.olen,?_,fun k cs hl=>?_,fun k xs hl r x hx=>?_,
  fun k b hb=>?_,fun k k' b hb hb'=>?_,fun k xs r r' b hl h1 h2 h3 h4=>?_,fun b hb=>hb.elim,hs.base,by rw[eO];exact hs.out⟩
 ·simp only[gX,mY]at hv
  cases hm:(ci (CA.ren L) st.slots)[t]? with
  | none=>simp[hm]at hv
  | some u =>
   simp only[hm,Cv,Cj]at hv
   subst hv
   exact u1 (eu (w':=w) (g':=g') (st':=gX L st) hf (fun _ _=>rfl) (fun b hb=>by rw[eI];exact hb) (l:=st.slots) (vs:=fun t=>a.tmps.getD t undef) hs.slots t u hm)
 ·intro t v hv
  simp only[gX,mY]at hv
  cases hm:(ci (CA.ren L) st.out)[t]? with
  | none=>simp[hm]at hv
  | some u =>
   simp only[hm,Cv,Cj]at hv
   subst hv
   exact u1 (eu (w':=w) (g':=g') (st':=gX L st) hf (fun _ _=>rfl) (fun b hb=>by rw[eI];exact hb) (l:=st.out) (vs:=fun t=>ov.getD t undef) hs.outs t u hm)
 ·obtain⟨i,b0,i1,i2,i3⟩:=inv hl
  cases b0 with
  | tree xs=>simp[BC.bw]at i3
  | cells cs0 =>
   simp only[BC.bw,BC.cells.injEq]at i3
   subst i3
   obtain⟨vs,ty,c1,c2⟩:=hs.cells i cs0 i2
   refine⟨vs,ty,?_,c2.mapC hf⟩
   rw[hg'];simp only[];rw[hat i1];exact c1
 ·obtain⟨i,b0,i1,i2,i3⟩:=inv hl
  cases b0 with
  | cells cs0=>simp[BC.bw]at i3
  | tree xs0 =>
   simp only[BC.bw,BC.tree.injEq]at i3
   subst i3
   have:=hs.trees i xs i2 r x hx
   rw[hg'];simp only[];rw[hat i1];exact this
 ·obtain⟨i,i1,i2⟩:=foot hb
  rw[eI]
  exact hs.foot i b i2
 ·obtain⟨i,i1,i2⟩:=foot hb
  obtain⟨j,j1,j2⟩:=foot hb'
  have:=hs.apart i j b i2 j2
  subst this
  exact lA hn k k' i i1 j1
 ·obtain⟨i,b0,i1,i2,i3⟩:=inv hl
  cases b0 with
  | cells cs0=>simp[BC.bw]at i3
  | tree xs0 =>
   simp only[BC.bw,BC.tree.injEq]at i3
   subst i3
   rw[hg']at h3 h4
   simp only[]at h3 h4
   rw[hat i1]at h3 h4
   exact hs.apartR i xs r r' b i2 h1 h2 h3 h4
theorem jj {an:Ann} {k:ASt->Prg T} {r:T} (hs:Sim w0 I0 st a ov w) (h:(sU an st k).goes C J r):∃st',(k st').goes C J r/\Sim w0 I0 st' a ov w:=by
 unfold sU at h
 obtain⟨st1,h1,hs1⟩:=lL hs h
 obtain⟨st2,h2,hs2⟩:=gh hs1 h1
 unfold vO at h2
 cases hc:fS (fO (fQ an.keep (fL (iY an.frz st2) an.kill)))&&(fO (fQ an.keep (fL (iY an.frz st2) an.kill))).length.ble dh&&dh.ble (fQ an.keep (fL (iY an.frz st2) an.kill)).boxes.length with
 | false=>rw[hc]at h2;exact h2.elim
 | true =>
  rw[hc]at h2
  simp only[Ck]at hc
  exact⟨_,h2,yn hc.1.1 (vM (iU (mg hs2)))⟩
end
end Go.Ab
end
section
namespace Go.Ab
open Go.RowKit
theorem j5 {a b:Nat} (h:a<b):a.blt b=true:=by simpa using h
theorem kX {a b:Nat} (h:b<=a):a.blt b=false:=by
  cases hb:a.blt b with
  | false=>rfl
  | true => have : a < b := by simpa using hb
            omega
theorem mX {a b:Nat} (h:a.blt b=true):a<b:=by simpa using h
theorem nA {a b:Nat} (h:a.blt b=false):b<=a:=by
 rcases Nat.lt_or_ge a b with h'|h'
 ·rw[j5 h']at h;cases h
 ·exact h'
def fE (n m:Nat):Array Bool:=((List.range n).map fun i=>i.blt m).toArray
theorem em (n m:Nat):(fE n m).size=n:=by simp[fE]
theorem bY {n m i:Nat} (h:i<n) (d:Bool):(fE n m).getD i d=i.blt m:=by
 simp[fE,h]
theorem yD (n:Nat):fE n 0=Array.replicate n false:=by
 apply Array.ext
 ·simp[fE]
 ·intro i h1 h2
  have:i.blt 0=false:=kX (Nat.zero_le _)
  simpa[fE]using this
theorem rJ {n m:Nat} {listed:Array Bool} (hsz:listed.size=n) (h1:∀i,i<n->i<m->listed.getD i true=true) (h2:∀i,i<n->m<=i->listed.getD i true=false):listed=fE n m:=by
 apply Array.ext
 ·rw[hsz,em]
 ·intro i hi1 hi2
  have hin:i<n:=by omega
  have e1:listed.getD i true=listed[i]:=by simp[hi1]
  have e2:(fE n m).getD i true=(fE n m)[i]:=by simp[hi2]
  rw[<-e1,<-e2,bY hin]
  by_cases hm:i<m
  ·rw[h1 i hin hm,j5 hm]
  ·rw[h2 i hin (by omega),kX (by omega)]
theorem qu {bs:List Nat} {k:Nat}:∀{l:List Oper} {i:Nat},lE bs k i l=true->∀j,j<l.length->k<=i+j->∀q,q<k->(nth 0 bs (i+j)).testBit q=true
 | [],i,_,j,hj,_,q,_=>by simp at hj
 | o :: l, i, h, j, hj, hk, q, hq => by
  simp only[lE]at h
  cases hb:i.blt k with
  | true =>
   simp only[hb,cond_true]at h
   have hik:i<k:=by simpa using hb
   cases j with
   | zero=>omega
   | succ j =>
    have:=qu h j (by simpa using hj) (by omega) q hq
    rwa[show i+1+j=i+(j+1) by omega]at this
  | false =>
   simp only[hb,cond_false,Ck]at h
   obtain⟨h0,h⟩:=h
   cases j with
   | zero =>
    have h1:(nth 0 bs i) &&& (2 ^ k-1)=2 ^ k-1:=(aG _ _).1 h0
    have h2:((nth 0 bs i) &&& (2 ^ k-1)).testBit q=true:=by
     rw[h1,Nat.testBit_two_pow_sub_one]
     simpa using hq
    rw[Nat.testBit_and]at h2
    simp only[Ck]at h2
    simpa using h2.1
   | succ j =>
    have hik:k<=i:=nA hb
    have:=qu h j (by simpa using hj) (by omega) q hq
    rwa[show i+1+j=i+(j+1) by omega]at this
theorem vI {ops:List Oper} {k:Nat} (h:mA ops k=true) {i:Nat} (hi:i<ops.length) (hk:k<=i) {q:Nat} (hq:q<k):(nth 0 (behind ops) i).testBit q=true:=by
 have:=qu h i hi (by omega) q hq
 rwa[Nat.zero_add]at this
section
variable {P:Program} {E:Env} {C:Cal} {w0:Bs} {I0:Nat->Prop} {ov:List Value} {Q:Exit->Act->World->Prop} {ex:List (List Nat)}
theorem gj {ops:Array Oper} (hok:bk ops.toList=true) {listed:Array Bool} (hsz:listed.size=ops.size)
  (hcl:∀(k:Nat) (o:Oper),ops[k]? = some o->listed.getD k true=true->∀e∈o.after,Region.binds .any e=true->listed.getD e.on false=true) :
  ∀(k:Nat) (ok_:Oper),ops[k]? = some ok_->(∀e∈ok_.after,Region.binds .any e=true->listed.getD e.on false=true)->∀q,(nth 0 (behind ops.toList) k).testBit q=true->listed.getD q true=true:=by
 intro k
 induction k using Nat.strongRecOn with
 | _ k ihk =>
  intro ok_ hk hed q hq
  rw[kN (by rw[Cl];exact hk)]at hq
  obtain⟨e,he,hbn,hor⟩:=iC hq
  have hl:=hed e (by simpa using he) hbn
  have hlt2:=bh ((cz ops.toList 0 hok k ok_ (by rw[Cl];exact hk)).1) e he hbn
  simp only[Nat.zero_add]at hlt2
  have hks:k<ops.size:=(Cm.1 hk).1
  have hl':listed.getD e.on true=true:=by
   have:e.on<listed.size:=by omega
   simpa[this]using hl
  rcases hor with h|h
  ·rw[<-h];exact hl'
  ·have hnt:nth 0 ((behind ops.toList).take k) e.on=nth 0 (behind ops.toList) e.on:=by rw[a7,a7,List.getElem?_take_of_lt hlt2]
   rw[hnt]at h
   have hon:ops[e.on]? = some (ops[e.on]'(by omega)):=Array.getElem?_eq_getElem (by omega)
   exact ihk e.on hlt2 _ hon (hcl e.on _ hon hl') q h
theorem vj {ops:Array Oper} (hok:bk ops.toList=true) {listed:Array Bool} (hsz:listed.size=ops.size) {i:Nat} (hi:i<ops.size) (h0:listed.getD i true=false) (hmin:∀j,j<i->listed.getD j true=true) :
  i∈Region.ready .any ops listed:=by
 rw[mem_ready]
 refine⟨h0,ops[i]'hi,Array.getElem?_eq_getElem hi,fun e he hb=>?_⟩
 have hlt:=bh ((cz ops.toList 0 hok i _ (by rw[Cl];exact Array.getElem?_eq_getElem hi)).1) e (by simpa using he) hb
 simp only[Nat.zero_add]at hlt
 have:=hmin e.on hlt
 have hlt2:e.on<listed.size:=by omega
 simpa[hlt2]using this
theorem va {U:List Nat} {m:Nat}:∀{k:Nat},oZ U m k=true->∀q,q<k->q∉U->m.testBit q=true
 | 0,_,q,hq,_=>by omega
 | k + 1, h, q, hq, hne => by
  simp only[oZ,Ck,Bool.or_eq_true,bF]at h
  rcases Nat.lt_or_ge q k with h1|h1
  ·exact va h.2 q h1 hne
  ·have:q=k:=by omega
   subst this
   exact h.1.resolve_left hne
theorem nb {bs U:List Nat} {k:Nat}:∀{l:List Oper} {i:Nat},jQ bs U k i l=true->∀j,j<l.length->k<=i+j->∀q,q<k->q∉U->(nth 0 bs (i+j)).testBit q=true
 | [],i,_,j,hj,_,q,_,_=>by simp at hj
 | o :: l, i, h, j, hj, hk, q, hq, hne => by
  simp only[jQ]at h
  cases hb:i.blt k with
  | true =>
   simp only[hb,cond_true]at h
   have hik:i<k:=by simpa using hb
   cases j with
   | zero=>omega
   | succ j =>
    have:=nb h j (by simpa using hj) (by omega) q hq hne
    rwa[show i+1+j=i+(j+1) by omega]at this
  | false =>
   simp only[hb,cond_false,Ck]at h
   obtain⟨h0,h⟩:=h
   cases j with
   | zero=>exact va h0 q hq hne
   | succ j =>
    have hik:k<=i:=nA hb
    have:=nb h j (by simpa using hj) (by omega) q hq hne
    rwa[show i+1+j=i+(j+1) by omega]at this
theorem tN {ops:List Oper} {U:List Nat} {k:Nat} (h:pA ops U k=true) {i:Nat} (hi:i<ops.length) (hk:k<=i) {q:Nat} (hq:q<k) (hne:q∉U):(nth 0 (behind ops) i).testBit q=true:=by
 have:=nb h i hi (by omega) q hq hne
 rwa[Nat.zero_add]at this
theorem sY {bs U:List Nat} {k:Nat}:∀{l:List Oper} {i:Nat},lZ bs U k i l=true->∀j,j<l.length->i+j<k->i+j∉U->∀u∈U,(nth 0 bs (i+j)).testBit u=false
 | [],i,_,j,hj,_,_,_,_=>by simp at hj
 | o :: l, i, h, j, hj, hk, hn, u, hu => by
  simp only[lZ]at h
  rw[j5 (show i<k by omega)]at h
  simp only[cond_true,Ck,Bool.or_eq_true,bF,List.all_eq_true,Bool.not_eq_true']at h
  cases j with
  | zero=>exact h.1.resolve_left hn u hu
  | succ j =>
   have:=sY h.2 j (by simpa using hj) (by omega) (by rwa[show i+1+j=i+(j+1) by omega]) u hu
   rwa[show i+1+j=i+(j+1) by omega]at this
def nC (all:List Oper) (c:Oper) (u:Nat):Prop:=∃o d,all[u]? = some o/\jO o=true/\o.dst=some d/\d∉ik c.op.operands.toList/\c.dst≠some d
structure wb (all:List Oper) (j:Nat) (U:List Nat) (c:Oper):Prop where
 hj:all[j]? = some c
 b1:pA all U j=true
 b2:pA all U (j+1)=true
 none_:∀i,i<all.length->i<=j->i∉U->∀u∈U,(nth 0 (behind all) i).testBit u=false
 grd:c.guard=none
 lt:∀u∈U,u<j
 ld:∀u∈U,nC all c u
theorem uQ {all:List Oper} {j:Nat} {U:List Nat} (h:ia all j=some U):∃c,wb all j U c/\∃p:Nat->Bool,U=(List.range j).filter p:=by
 unfold ia at h
 split at h
 ·rename_i c hc
  rw[mT]at h
  cases hk:wa all j ((List.range j).filter fun q=>!(waited (behind all) q j 0 all)) c with
  | false=>rw[hk]at h;cases h
  | true =>
   rw[hk]at h
   simp only[cond_true,Cj]at h
   subst h
   simp only[wa,Ck,List.all_eq_true]at hk
   obtain⟨⟨k2,k3⟩,k4,k5,k6⟩:=hk
   refine⟨c,⟨hc,k2,k3,fun i hi hij hn u hu=>?_,by simpa using k5,fun u hu=>?_,fun u hu=>?_⟩,_,rfl⟩
   ·have:=sY k4 i hi (by omega) (by rwa[Nat.zero_add]) u hu
    rwa[Nat.zero_add]at this
   ·simpa using(List.mem_filter.1 hu).1
   ·have k:=k6 u hu
    split at k
    ·rename_i o ho
     simp only[Ck]at k
     obtain⟨k1,k⟩:=k
     split at k
     ·rename_i d hd
      simp only[Ck,eZ,Bool.not_eq_true']at k
      refine⟨o,d,ho,k1,hd,fun hm=>?_,fun e=>?_⟩
      ·rw[<-bF]at hm
       rw[hm]at k
       cases k.1
      ·rw[e]at k
       simp[unlike]at k
     ·cases k
    ·cases k
 ·cases h
def uq (ops:Array Oper) (listed:Array Bool):Prop:=∀(k:Nat) (o:Oper),ops[k]? = some o->listed.getD k true=true->∀e∈o.after,Region.binds .any e=true->listed.getD e.on false=true
theorem xS {ro:Option Nat} (hE:eN P w0.G E C) {ops:Array Oper} (hok:bk ops.toList=true) {m:Nat} (hm:m<=ops.size) {U:List Nat} (hbar:∀i,m<=i->i<ops.size->∀q,q<m->q∉U->(nth 0 (behind ops.toList) i).testBit q=true) (hbar2:∀i,m<i->i<ops.size->(nth 0 (behind ops.toList) i).testBit m=true)
  {fin:ASt} {fe:Nat} (hQ:∀a w,Sim w0 I0 fin a ov w->wpAnyIn (Rd ro) 0 P .any ops Q fe (fE ops.size m) a w)
  (hL : m < ops.size → ∀ (listed : Array Bool) (st : ASt) (a : Act) (w : World), listed.size = ops.size → uq ops listed → (∀ k, m ≤ k → k < ops.size → listed.getD k true = false) → (∀ q ∈ unlisted m listed, q ∈ U) → unlisted m listed ≠ [] →
   cw E C ex ops.toList (unlisted m listed) st fin->Sim w0 I0 st a ov w->wpOpIn (Rd ro) 0 P ops Q m (fun a' w'=>wpAnyIn (Rd ro) 0 P .any ops Q ((unlisted m listed).length-1+fe) (listed.setIfInBounds m true) a' w') a w) :
  ∀(n:Nat) (listed:Array Bool) (st:ASt) (a:Act) (w:World),listed.size=ops.size->(unlisted m listed).length=n ->
   (∀(k:Nat) (o:Oper),ops[k]? = some o->listed.getD k true=true->∀e∈o.after,Region.binds .any e=true->listed.getD e.on false=true) ->
   (∀k,m<=k->k<ops.size->listed.getD k true=false) ->
   cw E C ex ops.toList (unlisted m listed) st fin->Sim w0 I0 st a ov w->wpAnyIn (Rd ro) 0 P .any ops Q (n+fe) listed a w:=by
 intro n
 induction n with
 | zero =>
  intro listed st a w hsz hlen hcl hup h hs
  have hnil:unlisted m listed=[]:=List.eq_nil_of_length_eq_zero hlen
  rw[hnil]at h
  cases h
  have:listed=fE ops.size m:=rJ hsz (fun i hi him=>by
   cases hb:listed.getD i true with
   | true=>rfl
   | false =>
    exfalso
    have:i∈unlisted m listed:=by simp only[unlisted,List.mem_filter,List.mem_range,Bool.not_eq_true'];exact⟨him,hb⟩
    rw[hnil]at this
    cases this) (fun i hi him=>hup i him hi)
  rw[this,Nat.zero_add]
  exact hQ a w hs
 | succ n ih =>
  intro listed st a w hsz hlen hcl hup h hs
  rw[show n+1+fe=(n+fe)+1 by omega]
  obtain⟨i0,l0,hu⟩:∃i0 l0,unlisted m listed=i0::l0:=by
   cases hu:unlisted m listed with
   | nil=>rw[hu]at hlen;cases hlen
   | cons i l=>exact⟨i,l,rfl⟩
  have hsortedA:(unlisted m listed).Pairwise (· < ·):=List.Pairwise.filter _ List.pairwise_lt_range
  have hmem0:i0∈unlisted m listed:=by rw[hu];exact Co
  have hmem0':=hmem0
  simp only[unlisted,List.mem_filter,List.mem_range,Bool.not_eq_true']at hmem0'
  have hmin:∀j,j<i0->listed.getD j true=true:=by
   intro j hj
   cases hb:listed.getD j true with
   | true=>rfl
   | false =>
    exfalso
    have hjm:j∈unlisted m listed:=by
     simp only[unlisted,List.mem_filter,List.mem_range,Bool.not_eq_true']
     exact⟨by omega,hb⟩
    rw[hu]at hjm hsortedA
    rcases List.mem_cons.1 hjm with h|h
    ·omega
    ·have:=(List.pairwise_cons.1 hsortedA).1 j h
     omega
  have hr0:i0∈Region.ready .any ops listed:=vj hok hsz (by omega) hmem0'.2 hmin
  refine⟨fun hr=>(by rw[hr]at hr0;cases hr0),fun i hi=>?_⟩
  rw[mem_ready]at hi
  obtain⟨h0,o,ho,hedges⟩:=hi
  have hlt:i<ops.size:=(Cm.1 ho).1
  by_cases him:i<m
  case neg =>
   have hmi:m<=i:=by omega
   have hall:∀q∈unlisted m listed,q∈U:=fun q hq=>by
    simp only[unlisted,List.mem_filter,List.mem_range,Bool.not_eq_true']at hq
    apply Classical.byContradiction
    intro hne
    have:=gj hok hsz hcl i o ho hedges q (hbar i hmi hlt q hq.1 hne)
    rw[hq.2]at this
    cases this
   have himm:i=m:=by
    rcases Nat.lt_or_ge m i with h'|h'
    ·exfalso
     have:=gj hok hsz hcl i o ho hedges m (hbar2 i h' hlt)
     rw[(by
      have:=hup m (Nat.le_refl _) (by omega)
      exact this:listed.getD m true=false)]at this
     cases this
    ·omega
   subst himm
   have:=hL hlt listed st a w hsz hcl hup hall (by rw[hu];simp) h hs
   rwa[hlen,Nat.add_sub_cancel]at this
  have hmem:i∈unlisted m listed:=by
   simp only[unlisted,List.mem_filter,List.mem_range,Bool.not_eq_true']
   exact⟨him,h0⟩
  obtain⟨pre,post,hsplit⟩:=List.append_of_mem hmem
  have hsorted:=hsortedA
  rw[hsplit]at hsorted h
  have hpre:∀j∈pre,j<i/\(nth 0 (behind ops.toList) i).testBit j=false:=by
   intro j hj
   refine⟨(List.pairwise_append.1 hsorted).2.2 j hj i Co,?_⟩
   cases hb:(nth 0 (behind ops.toList) i).testBit j with
   | false=>rfl
   | true =>
    exfalso
    have h1:=gj hok hsz hcl i o ho hedges j hb
    have:j∈unlisted m listed:=by rw[hsplit];exact List.mem_append_left _ hj
    simp only[unlisted,List.mem_filter,List.mem_range,Bool.not_eq_true']at this
    rw[this.2]at h1
    cases h1
  obtain⟨s1,k1,k2⟩:=la pre i o post st fin (by rw[Cl];exact ho) hpre hok h
  refine wpOpIn_mono (fun a' w' hs'=>?_) (kB hE (i:=af ex ops.toList (behind ops.toList) i o) ho hs k1)
  have hil:i<listed.size:=by omega
  have hnew:unlisted m (listed.setIfInBounds i true)=pre++post:=by
   have hnd:(pre++i::post).Nodup:=hsorted.imp (fun h=>Nat.ne_of_lt h)
   have:unlisted m (listed.setIfInBounds i true)=(unlisted m listed).filter (fun j=>j≠i):=by
    simp only[unlisted,List.filter_filter]
    apply List.filter_congr
    intro j hj
    by_cases hji:j=i
    ·subst hji
     simp[hil]
    ·have:(listed.setIfInBounds i true).getD j true=listed.getD j true:=getD_set_ne true (fun e=>hji e.symm)
     rw[this]
     simp[hji]
   rw[this,hsplit,List.filter_append,List.filter_cons]
   have hni:i∉pre/\i∉post:=by
    rw[List.nodup_append]at hnd
    refine⟨fun hm=>hnd.2.2 i hm i Co rfl,(List.nodup_cons.1 hnd.2.1).1⟩
   simp only[ne_eq,not_true_eq_false,decide_false,Bool.false_eq_true,if_false]
   rw[List.filter_eq_self.2 (fun j hj=>by simp;rintro rfl;exact hni.1 hj),List.filter_eq_self.2 (fun j hj=>by simp;rintro rfl;exact hni.2 hj)]
  refine ih (listed.setIfInBounds i true) s1 a' w' (by simpa using hsz) ?_ ?_ ?_ (by rw[hnew];exact k2) hs'
  ·rw[hnew]
   rw[hsplit]at hlen
   simp at hlen ⊢
   omega
  ·intro k ok_ hk hl e he hb
   by_cases hki:k=i
   ·subst hki
    rw[ho]at hk
    cases hk
    exact getD_set_true (hedges e he hb)
   ·rw[getD_set_ne true (fun e=>hki e.symm)]at hl
    exact getD_set_true (hcl k ok_ hk hl e he hb)
  ·intro k hk hks
   rw[getD_set_ne true (by omega)]
   exact hup k hk hks
theorem uL {acc:List Nat}:∀{es:List Edge} {e:Edge},e∈es->Region.binds .any e=true->(fa acc es).testBit e.on=true
 | [],e,h,_=>by cases h
 | e' :: es, e, h, hb => by
  simp only[fa]
  rcases List.mem_cons.1 h with rfl|h
  ·rw[hb]
   simp only[cond_true,Nat.testBit_or,Nat.testBit_two_pow_self,Bool.or_true,Bool.true_or]
  ·have:=uL (acc:=acc) h hb
   cases Region.binds .any e' with
   | false=>exact this
   | true=>simp only[cond_true,Nat.testBit_or,this,Bool.true_or]
theorem kU {ops:List Oper}:∀{l l':List Nat} {s s1 s2:ASt},cw E C ex ops l s s1->cw E C ex ops l' s1 s2->cw E C ex ops (l++l') s s2
 | [],_,_,_,_,h,h'=>by cases h;exact h'
 | i::l,_,_,_,_,h,h'=>by cases h with|cons ho h r=>exact .cons ho h (kU r h')
theorem rk {n j m:Nat} {listed:Array Bool} (hsz:listed.size=n) (hup:∀k,j<=k->k<n->listed.getD k true=false) (hj:j+1<=m) (hm:m<=n):unlisted m (listed.setIfInBounds j true)=unlisted j listed++List.range' (j+1) (m-(j+1)):=by
 have e1:m=j+(1+(m-(j+1))):=by omega
 unfold unlisted
 conv=>lhs;rw[e1,List.range_add,List.range_add]
 simp only[List.map_append,List.filter_append]
 have h1:(List.range j).filter (fun i=>!(listed.setIfInBounds j true).getD i true)=(List.range j).filter (fun i=>!listed.getD i true):=by
  apply List.filter_congr
  intro i hi
  have:i<j:=by simpa using hi
  rw[getD_set_ne true (by omega)]
 have h2:((List.range 1).map (j + ·)).filter (fun i=>!(listed.setIfInBounds j true).getD i true)=[]:=by
  rw[show(List.range 1).map (j + ·)=[j] from rfl,List.filter_cons,Cx,Array.getElem?_setIfInBounds_self_of_lt (by omega)]
  rfl
 have h4:(((List.range (m-(j+1))).map (1 + ·)).map (j + ·)).filter (fun i=>!(listed.setIfInBounds j true).getD i true)=List.range' (j+1) (m-(j+1)):=by
  rw[List.filter_eq_self.2,List.range'_eq_map_range,List.map_map]
  ·apply List.map_congr_left
   intro k hk
   simp only[Function.comp]
   omega
  ·intro i hi
   simp only[List.mem_map,List.mem_range]at hi
   obtain⟨k1,⟨k2,hk2,rfl⟩,rfl⟩:=hi
   rw[getD_set_ne true (by omega),hup _ (by omega) (by omega)]
   rfl
 rw[h1,h2,h4]
 rfl
theorem ij {n j m:Nat} (hj:j<=m) (hm:m<=n):unlisted m (fE n j)=[]++List.range' j (m-j):=by
 have e1:m=j+(m-j):=by omega
 unfold unlisted
 conv=>lhs;rw[e1,List.range_add,List.filter_append]
 have h1:(List.range j).filter (fun i=>!(fE n j).getD i true)=[]:=by
  rw[List.filter_eq_nil_iff]
  intro i hi
  have:i<j:=by simpa using hi
  rw[bY (by omega),j5 this]
  simp
 have h2:((List.range (m-j)).map (j + ·)).filter (fun i=>!(fE n j).getD i true)=(List.range (m-j)).map (j + ·):=by
  rw[List.filter_eq_self]
  intro i hi
  simp only[List.mem_map,List.mem_range]at hi
  obtain⟨k,hk,rfl⟩:=hi
  rw[bY (by omega),kX (by omega)]
  rfl
 rw[h1,h2,List.range'_eq_map_range]
theorem q0 {i:Item} {ops:List Oper} {st st':ASt} {d:Tmp} (hl:jO i.o=true) (hd:i.o.dst=some d) (h:OpN E C ops i st st'):∃e,
  (opL E (st.nid (some d)) (banned (bn i.ban st.base) st.look) i.o.op (i.o.op.operands.toList.map st.ev)).hits C e/\e.nfE.app st (some d)=some st':=by
 have hg:i.o.guard=none:=by
  simp only[jO,Ck,Option.isNone_iff_eq_none]at hl
  exact hl.1
 rcases h with⟨_,e,h1,_,h3⟩|⟨b,hb,hne,_⟩
 ·rw[hd]at h1 h3
  exact⟨e,h1,h3⟩
 ·rw[a8 (by rw[hg];rfl)]at hb
  exact absurd (Option.some.inj hb).symm hne
theorem Ae (hE:eN P w0.G E C) {i:Item} {ops:List Oper} {st st':ASt} {a:Act} {w:World} {d:Tmp} (hl:jO i.o=true) (hd:i.o.dst=some d) (hs:Sim w0 I0 st a ov w) (h:OpN E C ops i st st'):∃val,Sim w0 I0 st' (a.put (some d) val) ov w:=by
 obtain⟨e,h1,h3⟩:=q0 hl hd h
 obtain⟨g,hs⟩:=hs
 obtain⟨st1,h4,h5⟩:=xo h3
 have fin:∀{o:Oper},o.dst=some d->nJ P w0 I0 ov o st1 a w->∃val,Sim w0 I0 st' (a.put (some d) val) ov w:=fun{o} ho ⟨u,_,hsim⟩=>⟨u,h5 _ _ _ _ _ (by rwa[ho]at hsim)⟩
 simp only[jO,Ck]at hl
 have hl:=hl.2
 revert h1 hl
 cases i.o.op with
 | load t x=>intro h1 _;exact fin (o:=⟨some d,.load t x,i.o.type,i.o.pos,i.o.after,i.o.guard⟩) rfl (zm hE.ty (nu _ st) hs (by simpa[Op.operands]using h1) h4)
 | fieldAddr t x f=>intro h1 _;exact fin (o:=⟨some d,.fieldAddr t x f,i.o.type,i.o.pos,i.o.after,i.o.guard⟩) rfl (rN hE.ty hs (by simpa[Op.operands]using h1) h4)
 | move x =>
  intro h1 _
  have he:e=.val (st.ev x):=by simp only[Op.operands]at h1;exact h1.symm
  subst he
  exact fin (o:=⟨some d,.move x,i.o.type,i.o.pos,i.o.after,i.o.guard⟩) rfl (kf hs (u:=a.eval x) (by simp[execOp]) (hs.ev x) h4)
 | _=>intro _ hl;cases hl
def rC (a:Act) (vals:List (Tmp × Value)):Act:=vals.foldl (fun a p=>a.put (some p.1) p.2) a
theorem rE (hE:eN P w0.G E C) {ops:List Oper} {c:Oper} {w:World}:∀{S:List Nat} {st st':ASt} {a:Act},(∀u∈S,nC ops c u)->Sim w0 I0 st a ov w->cw E C ex ops S st st'->∃vals:List (Tmp × Value),vals.map (fun p=>some p.1)=df ops S/\Sim w0 I0 st' (rC a vals) ov w
 | [],_,_,_,_,hs,h=>by cases h;exact⟨[],rfl,hs⟩
 | u::S,st,st',a,hl,hs,h=>by
  cases h with
  | cons ho h r =>
  obtain⟨o,d,h1,h2,h3,_⟩:=hl u Co
  rw[ho]at h1
  cases h1
  obtain⟨v,hs1⟩:=Ae hE (i:=af ex ops (behind ops) u _) h2 h3 hs h
  obtain⟨vals,h4,h5⟩:=rE hE (fun u hu=>hl u (Cp _ hu)) hs1 r
  exact⟨(d,v)::vals,by simp only[List.map_cons,h4,df,ho,Option.bind_some,h3],h5⟩
theorem eqV_eq {v u:Value} (h:eqV v u=true):v=u:=by
 unfold eqV at h
 split at h
 ·rename_i a b
  have hb:Int.beq' a b=true:=by
   revert h
   cases Int.beq' a b with
   | true=>intro _;rfl
   | false=>intro h;cases h
  rw[show a=b from by simpa[Int.beq'_eq]using hb]
 ·rename_i a b
  have hb:Int.beq' a b=true:=by
   revert h
   cases Int.beq' a b with
   | true=>intro _;rfl
   | false=>intro h;cases h
  rw[show a=b from by simpa[Int.beq'_eq]using hb]
 ·rename_i a b
  have hb:Int.beq' a b=true:=by
   revert h
   cases Int.beq' a b with
   | true=>intro _;rfl
   | false=>intro h;cases h
  rw[show a=b from by simpa[Int.beq'_eq]using hb]
 ·rename_i a b
  rw[show a=b from by simpa using h]
 ·rfl
 ·cases h
mutual
theorem AM:∀(x y:TV),eqT x y=true->x=y
 | .lit v,.lit u,h=>by rw[eqV_eq (v:=v) (u:=u) (by simpa only[eqT]using h)]
 | .sl o s xs,.sl o' s' xs',h=>by
  simp only[eqT,Ck,aG]at h
  rw[show o=o' from by simpa using h.1,h.2.1,uV xs xs' h.2.2]
 | .agg cs,.agg cs',h=>by rw[tC cs cs' (by simpa only[eqT]using h)]
 | .hole,.hole,_=>rfl
 | .lit _,.sl _ _ _,h=>by cases h
 | .lit _,.agg _,h=>by cases h
 | .lit _,.tup _,h=>by cases h
 | .lit _,.buf _ _,h=>by cases h
 | .lit _,.hole,h=>by cases h
 | .sl _ _ _,.lit _,h=>by cases h
 | .sl _ _ _,.agg _,h=>by cases h
 | .sl _ _ _,.tup _,h=>by cases h
 | .sl _ _ _,.buf _ _,h=>by cases h
 | .sl _ _ _,.hole,h=>by cases h
 | .agg _,.lit _,h=>by cases h
 | .agg _,.sl _ _ _,h=>by cases h
 | .agg _,.tup _,h=>by cases h
 | .agg _,.buf _ _,h=>by cases h
 | .agg _,.hole,h=>by cases h
 | .tup _,_,h=>by cases h
 | .buf _ _,_,h=>by cases h
 | .hole,.lit _,h=>by cases h
 | .hole,.sl _ _ _,h=>by cases h
 | .hole,.agg _,h=>by cases h
 | .hole,.tup _,h=>by cases h
 | .hole,.buf _ _,h=>by cases h
theorem tC:∀(x y:List TV),zP x y=true->x=y
 | [],[],_=>rfl
 | x::l,y::r,h=>by
  simp only[zP,Ck]at h
  rw[AM x y h.1,tC l r h.2]
 | [],_::_,h=>by cases h
 | _::_,[],h=>by cases h
theorem uV:∀(x y:List (List TV)),wE x y=true->x=y
 | [],[],_=>rfl
 | x::l,y::r,h=>by
  simp only[wE,Ck]at h
  rw[tC x y h.1,uV l r h.2]
 | [],_::_,h=>by cases h
 | _::_,[],h=>by cases h
end
theorem wB {x y:TV} (h:rh x y=true):x=y:=by
 unfold rh at h
 rcases Bool.or_eq_true _ _ |>.mp h with h|h
 ·exact AM x y h
 ·exact @of_decide_eq_true _ (Classical.propDecidable _) h
theorem xh:∀{p q:List (Nat × Nat)},AZ p q=true->p=q
 | [],[],_=>rfl
 | a::p,b::q,h=>by
  simp only[AZ,Ck,aG]at h
  rw[show a=b from Prod.ext h.1 h.2.1,xh h.2.2]
 | [],_::_,h=>by cases h
 | _::_,[],h=>by cases h
theorem xu {a b:CA} (h:A7 a b=true):a=b/\a≠.junk:=by
 unfold A7 at h
 split at h
 ·simp only[Ck,aG]at h
  obtain⟨rfl,rfl⟩:=h
  exact⟨rfl,by simp⟩
 ·simp only[Ck,aG]at h
  obtain⟨rfl,rfl,h⟩:=h
  exact⟨by rw[xh h],by simp⟩
 ·rw[wB h]
  exact⟨rfl,by simp⟩
 ·cases h
theorem wQ:∀{l r:List CA},BE l r=true->l=r
 | [],[],_=>rfl
 | a::l,b::r,h=>by
  simp only[BE,Ck]at h
  rw[(xu h.1).1,wQ h.2]
 | [],_::_,h=>by cases h
 | _::_,[],h=>by cases h
theorem Bd {p q:AV} (h:eqAV p q=true):p=q/\p≠.one .junk:=by
 unfold eqAV at h
 split at h
 ·have h:=xu h
  exact⟨by rw[h.1],fun e=>h.2 (AV.one.inj e)⟩
 ·rw[wQ h]
  exact⟨rfl,by simp⟩
 ·rw[wB h]
  exact⟨rfl,by simp⟩
 ·cases h
theorem vm (ds:List (Option Tmp)) (st:ASt):(eX ds st).boxes=st.boxes/\(eX ds st).out=st.out/\(eX ds st).slots.length=st.slots.length/\∀k,some k∉ds->(eX ds st).slots[k]? = st.slots[k]? := by
 induction ds with
 | nil=>exact⟨rfl,rfl,rfl,fun _ _=>rfl⟩
 | cons d ds ih =>
  obtain⟨h1,h2,h3,h4⟩:=ih
  cases d with
  | none=>exact⟨h1,h2,h3,fun k hk=>h4 k (fun h=>hk (Cp _ h))⟩
  | some d =>
   have e:eX (some d::ds) st=(eX ds st).put (some d) (.one .junk):=rfl
   rw[e]
   generalize eX ds st=z at h1 h2 h3 h4
   refine⟨h1,h2,by simp only[ASt.put,ag,List.length_set,h3],fun k hk=>?_⟩
   simp only[List.mem_cons,not_or]at hk
   simp only[ASt.put,ag]
   rw[List.getElem?_set_ne (fun e=>hk.1 (by rw[e])),h4 k hk.2]
theorem yy {i:Item} {ops:List Oper} {s s':ASt} {d:Tmp} (hl:jO i.o=true) (hd:i.o.dst=some d) (h:OpN E C ops i s s'):∃v,s'=s.put (some d) v:=by
 obtain⟨e,h1,h3⟩:=q0 hl hd h
 have hv:eP e:=by
  simp only[jO,Ck]at hl
  have hl:=hl.2
  revert h1 hl
  cases i.o.op with
  | load t x=>intro h1 _;exact Prg.All.hits (zf (op:=.load t x) rfl _) h1
  | fieldAddr t x f=>intro h1 _;exact Prg.All.hits (xa (op:=.fieldAddr t x f) rfl _) h1
  | move x=>intro h1 _;exact Prg.All.hits (xa (op:=.move x) rfl _) h1
  | _=>intro _ hl;cases hl
 obtain⟨v,rfl⟩:=hv
 simp only[Eff.nfE,Eff.app,Cj]at h3
 exact⟨_,h3.symm⟩
theorem vd {ops:List Oper} {c:Oper}:∀{S:List Nat} {s s':ASt},(∀u∈S,nC ops c u)->cw E C ex ops S s s'->s'.boxes=s.boxes/\s'.out=s.out/\s'.slots.length=s.slots.length/\∀k,some k∉df ops S->s'.slots[k]? = s.slots[k]?
 | [],_,_,_,h=>by cases h;exact⟨rfl,rfl,rfl,fun _ _=>rfl⟩
 | u::S,s,s',hl,h=>by
  cases h with
  | cons ho h r =>
  obtain⟨o,d,h1,h2,h3,_⟩:=hl u Co
  rw[ho]at h1
  cases h1
  obtain⟨v,rfl⟩:=yy (i:=af ex ops (behind ops) u _) h2 h3 h
  obtain⟨k1,k2,k3,k4⟩:=vd (fun u hu=>hl u (Cp _ hu)) r
  refine⟨k1,k2,by rw[k3];simp[ASt.put,ag],fun k hk=>?_⟩
  simp only[df,List.map_cons,List.mem_cons,not_or,ho,Option.bind_some,h3]at hk
  rw[k4 k hk.2]
  simp only[ASt.put,ag]
  exact List.getElem?_set_ne (fun e=>hk.1 (by rw[e]))
theorem ym {ops:List Oper} {c:Oper} {S:List Nat} {st2 st3:ASt} (hl:∀u∈S,nC ops c u) (h:cw E C ex ops S (eX (df ops S) st2).nfS st3.nfS) (heq:tn (df ops S) st2 st3=true):st3.nfS=st2.nfS:=by
 obtain⟨k1,k2,k3,k4⟩:=vd hl h
 obtain⟨c1,c2,c3,c4⟩:=vm (df ops S) st2
 have e1:st3.nfS.boxes=st2.nfS.boxes:=by rw[k1];exact c1
 have e2:st3.nfS.out=st2.nfS.out:=by rw[k2];exact c2
 have e3:st3.nfS.slots=st2.nfS.slots:=by
  have hlen:st3.slots.length=st2.slots.length:=by simpa[ASt.nfS,c3]using k3
  apply List.ext_getElem?
  intro k
  by_cases hk:some k∈df ops S
  ·simp only[tn,List.all_eq_true]at heq
   have:=(Bd (heq _ hk)).1
   simp only[ASt.nfS,Cn]
   rcases Nat.lt_or_ge k st2.slots.length with h1|h1
   ·rw[a7,a7,Ci h1,Ci (by omega)]at this
    rw[Ci h1,Ci (by omega)]
    simpa using congrArg AV.nf this
   ·rw[Cu h1,Cu (by omega)]
  ·rw[k4 k hk]
   simp only[ASt.nfS,Cn,c4 k hk]
 cases hA:st3.nfS
 cases hB:st2.nfS
 rw[hA,hB]at e1 e2 e3
 simp only at e1 e2 e3
 rw[e1,e2,e3]
theorem mf {R:Type} {J:List Nat->ASt->R->Prop} {r:R} {all:List Oper}:∀{S:List Nat} {K:ASt->Prg R} {st:ASt},(oT E all ex S K st).goes C J r->∃st',cw E C ex all S st.nfS st'.nfS/\(K st').goes C J r
 | [],_,st,h=>⟨st,.nil _,h⟩
 | u :: S, K, st, h => by
  simp only[oT]at h
  split at h
  ·rename_i o ho
   obtain⟨st1,h1,h2⟩:=jR h
   obtain⟨st',h3,h4⟩:=mf h2
   exact⟨st',.cons ho h1 h3,h4⟩
  ·exact h.elim
theorem gm {R:Type} {J:List Nat->ASt->R->Prop} {r:R} {all:List Oper} {st:ASt} {k:Prg R}:∀{L:List (List Nat)},(oW E all ex st k L).goes C J r->k.goes C J r/\∀S∈L,S≠[]->∃st3,cw E C ex all S (eX (df all S) st).nfS st3.nfS/\tn (df all S) st st3=true
 | [],h=>⟨h,fun _ h=>by cases h⟩
 | []::L,h=>by
  obtain⟨h1,h2⟩:=gm (L:=L) h
  refine⟨h1,fun S hS hne=>?_⟩
  rcases List.mem_cons.1 hS with rfl|hS
  ·exact absurd rfl hne
  ·exact h2 S hS hne
 | (u::S')::L,h=>by
  obtain⟨st3,h1,h2⟩:=mf h
  obtain⟨h3,h4⟩:=h2
  obtain⟨h5,h6⟩:=gm (L:=L) h4
  refine⟨h5,fun S hS hne=>?_⟩
  rcases List.mem_cons.1 hS with rfl|hS
  ·exact⟨st3,h1,h3⟩
  ·exact h6 S hS hne
theorem so {p:Nat->Bool}:∀{U:List Nat},U.filter p∈qI U
 | []=>by simp[qI]
 | u::U=>by
  have:=so (p:=p) (U:=U)
  simp only[qI,List.filter_cons,List.mem_append,List.mem_map]
  cases p u with
  | true=>exact .inr ⟨_,this,rfl⟩
  | false=>exact .inl this
theorem BM {j:Nat} {U:List Nat} {listed:Array Bool} (hU:∃p:Nat->Bool,U=(List.range j).filter p) (h:∀q∈unlisted j listed,q∈U):unlisted j listed∈qI U:=by
 have:unlisted j listed=U.filter fun i=>!listed.getD i true:=by
  obtain⟨p,rfl⟩:=hU
  rw[List.filter_filter]
  unfold unlisted
  apply List.filter_congr
  intro i hi
  cases hb:listed.getD i true with
  | true=>rfl
  | false =>
   have:=h i (by simp only[unlisted,List.mem_filter,hb];exact⟨hi,rfl⟩)
   rw[List.mem_filter]at this
   rw[this.2]
   rfl
 rw[this]
 exact so
end
end Go.Ab
end

import Derived.Test.YtjdjnejdjhfmcabNM13d
import Derived.RangeFuncNested
section
namespace Go.Ab
open Go.RowKit
set_option linter.unusedVariables false
section
variable {P:Program} {E:Env} {C:Cal} {w0:Bs} {w w':World} {I0 I R:Nat→Prop} {g g':Gh} {st st':ASt} {a:Act} {ov:List Value} {look look':Look} {Q:Exit→Act→World→Prop} {T:Type} {J:List Nat→ASt→T→Prop}
theorem getO_goes {p:Way} {x:TV} {k:TV→Prg T} {e:T} (h:(getO p x k).goes C J e):∃ y,getP p x=some y∧(k y).goes C J e:=by
 unfold getO at h
 split at h
 ·exact ⟨x,rfl,h⟩
 ·exact h
theorem SimI.slot (hs:SimI w0 I0 R g st a ov w) (s:Nat):RepA w g st.look (nth (.one .junk) st.slots s) (a.tmps.getD s undef):=hs.ev (.tmp s)
theorem tv_isSl {x:TV} {v:Value} (h:Rep w I x v) (hx:x.isSl=true):IsSl v:=by
 obtain ⟨b,n,c,e⟩:=repO_isSl (S:=NoR) (.fr h) hx
 exact ⟨b,n,c,e⟩
theorem put_self' {s:Nat} {v:AV} {u:Value} (hu:a.tmps.getD s undef=u) (hs:SimI w0 I0 R g st (a.put (some s) u) ov w):SimI w0 I0 R g st a ov w:=by
 rwa [put_self hu] at hs
theorem holesT_get:∀ {m r:Nat} {x y:TV},(holesT m [x])[r]? = some y→y=.hole∨y=x
 | 0,0,x,y,h=>by simp [holesT] at h; exact .inr h.symm
 | 0,r + 1,x,y,h=>by simp [holesT] at h
 | m + 1,0,x,y,h=>by simp [holesT] at h; exact .inl h.symm
 | m + 1,r + 1,x,y,h=>by simp only [holesT,List.getElem?_cons_succ] at h; exact holesT_get h
theorem holesT_get':∀ {m r:Nat} {x y:TV},(holesT m [x])[r]? = some y→y=.hole∨(y=x∧r=m)
 | 0,0,x,y,h=>by simp [holesT] at h; exact .inr ⟨h.symm,rfl⟩
 | 0,r + 1,x,y,h=>by simp [holesT] at h
 | m + 1,0,x,y,h=>by simp [holesT] at h; exact .inl h.symm
 | m + 1,r + 1,x,y,h=>by
  simp only [holesT,List.getElem?_cons_succ] at h
  rcases holesT_get' h with h | ⟨h,e⟩
  ·exact .inl h
  ·exact .inr ⟨h,congrArg (· + 1) e⟩
theorem holesT_at:∀ (m:Nat) (x:TV),(holesT m [x])[m]? = some x
 | 0,x=>rfl
 | m + 1,x=>by simp only [holesT,List.getElem?_cons_succ]; exact holesT_at m x
theorem home_sound {i r idx:Nat} {st1:ASt} (hs:SimI w0 I0 (fun _=>False) g st a ov w) (hm:moveHome st i r idx=some st1):∃ g1,SimI w0 I0 (fun _=>False) g1 st1 a ov w∧g1.β=g.β ∧
  (∀ v,RepC w g st.look (.sref i r []) v→RepC w g1 st1.look (.sref (freeAt 0 st.boxes) idx []) v):=by
 unfold moveHome at hm
 split at hm
 ·rename_i xs h1
  cases hlo:rootAlone xs r idx with
  | true=>rw [hlo] at hm; cases hm
  | false =>
   simp only [hlo,cond_false] at hm
   split at hm
   ·rename_i x h2
    have hrl:r < xs.length:=(List.getElem?_eq_some_iff.1 h2).1
    have hfr:∀ b,g.φ i r b→Foot g st.look i b:=fun b hb=>.inr ⟨xs,r,h1,hrl,hb⟩
    obtain ⟨n1,n2,rfl⟩:=addBox_some hm
    obtain ⟨q1,q2⟩:=hs.updRoot h1 h2 (CA.drop i r [] false) (fun p=>leads false [] p=false) (drop_ok i r [] false) (w':=w) (x':=.hole) (u':=undef) (S':=fun _=>False) (R':=g.φ i r) (I':=g.I) (.fr (.hole _))
     (fun p v nd ho _ _=>by rw [leads_all] at ho; cases ho) hs.below (Nat.le_refl _) (fun _ _ _ _=>rfl) (fun _ h=>h.elim) (fun b hb=>⟨.inr hb,fun h=>h,(hs.foot i b (hfr b hb)).2.2.1⟩) (fun _ h=>h) (fun _ h=>.inl h) (fun b hb hS=>hS)
    obtain ⟨t1,t2⟩:=q1.newTree (xs:=holesT idx [x]) n2 n1 q1.below (Nat.le_refl _) (fun _ _ _=>rfl) (fun _=>g.ρ i r) (fun k b=>k=idx∧g.φ i r b) (fun k y hy=>by
     rcases holesT_get' hy with rfl | ⟨rfl,rfl⟩
     ·exact .fr (.hole _)
     ·exact (hs.trees i xs h1 r _ h2).mono (fun b hb=>⟨rfl,hb⟩)) (fun k b _ h=>.inl h.2) (fun k k' b _ _ h h'=>h.1.trans h'.1.symm)
    refine ⟨_,t1,rfl,fun v hv=>?_⟩
    obtain ⟨xs',x',nd,e1,e2,e3,e4⟩:=hv
    rw [h1] at e1
    cases e1
    rw [h2] at e2
    cases e2
    exact ⟨holesT idx [x],x,nd,by rw [look_setBox,if_pos ⟨rfl,n2⟩],holesT_at _ _,by simpa [Gh.setT] using e3,e4⟩
   ·cases hm
 ·cases hm
theorem convS_sound {s:Nat} {k:ASt→Prg T} {r:T} (hs:Sim w0 I0 st a ov w) (h:(convS st s k).goes C J r):∃ st',(k st').goes C J r∧Sim w0 I0 st' a ov w:=by
 obtain ⟨g,hs⟩:=hs
 unfold convS at h
 have hsl:=hs.slot s
 split at h
 ·rename_i i q hv
  rw [hv] at hsl
  cases hm:moveHome st i q 0 with
  | none=>rw [hm] at h; exact ⟨st,h,g,hs⟩
  | some st1 =>
   rw [hm] at h
   obtain ⟨g1,t1,_,t2⟩:=home_sound hs hm
   exact ⟨_,h,g1,put_self' (v:=.one .junk) rfl (t1.put (some s) (v:=.one (.sref _ 0 [])) (u:=a.tmps.getD s undef) (t2 _ hsl))⟩
 ·exact ⟨st,h,g,hs⟩
 ·rename_i i q lo len hv
  rw [hv] at hsl
  split at h
  ·rename_i x hx
   obtain ⟨xs,h1,h2⟩:=rootOf_some hx
   obtain ⟨xs',x',u,nd,g1,g2,g3,g4,g5⟩:=hsl
   rw [h1] at g1
   cases g1
   rw [h2] at g2
   cases g2
   obtain ⟨y,hy,h⟩:=h
   simp only [] at h
   split at h
   ·rename_i b hb
    have hlm:(st.mapS (CA.drop i q [] false)).look i=some (.tree xs):=by rw [look_mapS,h1]; rfl
    have hb':b=.tree (setNth xs q y):=by
     simp only [setRoot,hlm,Option.some.injEq] at hb
     exact hb.symm
    subst hb'
    have hrl:q < xs.length:=(List.getElem?_eq_some_iff.1 h2).1
    have hfr:∀ b,g.φ i q b→Foot g st.look i b:=fun b hb=>.inr ⟨xs,q,h1,hrl,hb⟩
    have hr:=hs.trees i xs h1 q x h2
    rw [← g3.1] at hr
    have hrep:=win_rep hr g3.2 g5 hy
    obtain ⟨q1,q2⟩:=hs.updRoot h1 h2 (CA.drop i q [] false) (fun p=>leads false [] p=false) (drop_ok i q [] false) (w':=w) (x':=y) (u':=a.tmps.getD s undef) (S':=g.φ i q) (R':=NoR) (I':=g.I) hrep
     (fun p v nd ho _ _=>by rw [leads_all] at ho; cases ho) hs.below (Nat.le_refl _) (fun _ _ _ _=>rfl) (fun _ h=>.inl h) (fun b hb=>hb.elim) (fun _ h=>h) (fun _ h=>.inl h) (fun b hb hS=>(hs.foot i b (hfr b hS)).2.2.1 hb)
    refine ⟨_,h,_,put_self' (v:=.one .junk) rfl (q1.put (some s) (v:=.one (.sref i q [])) (u:=a.tmps.getD s undef) ?_)⟩
    refine ⟨setNth xs q y,y,y.nd,by rw [look_setBox,if_pos ⟨rfl,by rw [mapS_boxes]; exact look_lt h1⟩],by rw [setNth_eq]; simp [hrl],⟨by simp [Gh.setR],rfl⟩,?_⟩
    obtain ⟨a0,l0,c0,e0⟩:=g4
    subst e0
    cases hnd:nd with
    | none=>rw [hnd] at g5; rw [g5.2.2.2]; exact ⟨_,_,_,rfl⟩
    | some sn =>
     obtain ⟨sz,n⟩:=sn
     rw [hnd] at g5
     rw [g5.2]
     cases a0 with
     | none=>exact ⟨_,_,_,rfl⟩
     | some a0=>exact ⟨_,_,_,rfl⟩
   ·exact h.elim
  ·exact h.elim
 ·split at h
  ·rename_i x hx
   obtain ⟨h1,h⟩:=h
   split at h
   ·rename_i st1 hst
    obtain ⟨n1,n2,rfl⟩:=addBox_some hst
    have hrep:=tv_rep hsl hx
    obtain ⟨q1,q2⟩:=hs.newTree (xs:=[x]) n2 n1 hs.below (Nat.le_refl _) (fun _ _ _=>rfl) (fun _=>a.tmps.getD s undef) (fun _ _=>False) (fun r y hy=>by
     cases r with
     | zero=>simp at hy; subst hy; exact .fr hrep
     | succ r=>simp at hy) (fun _ _ _ h=>h.elim) (fun _ _ _ _ _ h=>h.elim)
    refine ⟨_,h,_,put_self' (v:=.one .junk) rfl (q1.put (some s) (v:=.one (.sref _ 0 [])) (u:=a.tmps.getD s undef) ?_)⟩
    exact ⟨[x],x,x.nd,by rw [look_setBox,if_pos ⟨rfl,n2⟩],rfl,⟨by simp [Gh.setT],rfl⟩,tv_isSl hrep h1⟩
   ·exact h.elim
  ·exact h.elim
theorem convSs_sound {k:ASt→Prg T} {r:T}:∀ {l:List Nat} {st:ASt},Sim w0 I0 st a ov w→(convSs l st k).goes C J r→∃ st',(k st').goes C J r∧Sim w0 I0 st' a ov w
 | [],st,hs,h=>⟨st,h,hs⟩
 | s :: l,st,hs,h=>by
  obtain ⟨st1,h1,h2⟩:=convS_sound hs h
  exact convSs_sound h2 h1
theorem convH_sound {i c:Nat} {k:ASt→Prg T} {r:T} (hs:Sim w0 I0 st a ov w) (h:(convH st i c k).goes C J r):∃ st',(k st').goes C J r∧Sim w0 I0 st' a ov w:=by
 obtain ⟨g,hs⟩:=hs
 unfold convH at h
 split at h
 ·rename_i cs hl
  split at h
  ·rename_i i' q hc
   cases hm:moveHome st i' q (mIdx cs c) with
   | none=>rw [hm] at h; exact ⟨st,h,g,hs⟩
   | some st1 =>
    simp only [hm] at h
    obtain ⟨vs,ty,c1,c2⟩:=hs.cells i cs hl
    have hcl:c < cs.length:=by
     rcases Nat.lt_or_ge c cs.length with h' | h'
     ·exact h'
     ·rw [nth_eq,List.getElem?_eq_none h'] at hc; cases hc
    have hcc:cs[c]? = some (.sref i' q []):=by rw [nth_eq,List.getElem?_eq_getElem hcl] at hc; rw [List.getElem?_eq_getElem hcl]; simpa using hc
    have hvl:c < vs.toList.length:=by rw [c2.1]; exact hcl
    obtain ⟨u,hu⟩:∃ u,vs.toList[c]? = some u:=⟨_,List.getElem?_eq_getElem hvl⟩
    obtain ⟨hrc,hone⟩:=c2.2 c _ u hcc hu
    obtain ⟨g1,t1,tb,t2⟩:=home_sound hs hm
    split at h
    ·rename_i cs' hl1
     obtain ⟨vs1,ty1,d1,d2⟩:=t1.cells i cs' hl1
     rw [tb,c1] at d1
     cases d1
     have c1':w.heap[g1.β i]? = some (.cells vs ty (0,0)):=by rw [tb]; exact c1
     refine ⟨_,h,_,t1.updCells hl1 (vs':=vs) (ty:=ty) t1.below (Nat.le_refl _) (fun _ _=>rfl) c1' ⟨_,_,c1'⟩ ?_⟩
     refine ⟨by rw [setNth_eq,List.length_set]; exact d2.1,fun j d v hd hv=>?_⟩
     rw [setNth_eq,List.getElem?_set] at hd
     by_cases hcj:c=j
     ·subst hcj
      have hcl':c < cs'.length:=by rw [← d2.1]; exact hvl
      simp only [if_true,hcl',Option.some.injEq] at hd
      subst hd
      rw [hu] at hv
      cases hv
      exact ⟨t2 _ hrc,hone⟩
     ·simp only [hcj,if_false] at hd
      exact d2.2 j d v hd hv
    ·exact ⟨st,h,g,hs⟩
  ·exact ⟨st,h,g,hs⟩
 ·exact ⟨st,h,g,hs⟩
theorem convB_sound {s c : Nat} {k : ASt → Prg T} {r : T} (hs : Sim w0 I0 st a ov w) (h : (convB st s c k).goes C J r) : ∃ st', (k st').goes C J r ∧ Sim w0 I0 st' a ov w := by
 have hs0:=hs
 obtain ⟨g,hs⟩:=hs
 unfold convB at h
 split at h
 ·rename_i i off hv
  split at h
  ·rename_i cs hl
   split at h
   ·exact convH_sound hs0 h
   ·exact ⟨st,h,g,hs⟩
   ·rename_i i' q lo len hc
    obtain ⟨vs,ty,c1,c2⟩:=hs.cells i cs hl
    have hcl:c < cs.length:=by
     rcases Nat.lt_or_ge c cs.length with h' | h'
     ·exact h'
     ·rw [nth_eq,List.getElem?_eq_none h'] at hc; cases hc
    have hcc:cs[c]? = some (.swin i' q [] lo len):=by rw [nth_eq,List.getElem?_eq_getElem hcl] at hc; rw [List.getElem?_eq_getElem hcl]; simpa using hc
    have hvl:c < vs.toList.length:=by rw [c2.1]; exact hcl
    obtain ⟨u,hu⟩:∃ u,vs.toList[c]? = some u:=⟨_,List.getElem?_eq_getElem hvl⟩
    obtain ⟨hrc,hone⟩:=c2.2 c _ u hcc hu
    split at h
    ·rename_i x hx
     obtain ⟨xs,h1,h2⟩:=rootOf_some hx
     obtain ⟨xs',x',u',nd,g1,g2,g3,g4,g5⟩:=hrc
     rw [h1] at g1
     cases g1
     rw [h2] at g2
     cases g2
     obtain ⟨y,hy,h⟩:=h
     simp only [] at h
     split at h
     ·rename_i b hb
      have hlm:(st.mapS (CA.drop i' q [] false)).look i'=some (.tree xs):=by rw [look_mapS,h1]; rfl
      have hb':b=.tree (setNth xs q y):=by
       simp only [setRoot,hlm,Option.some.injEq] at hb
       exact hb.symm
      subst hb'
      have hrl:q < xs.length:=(List.getElem?_eq_some_iff.1 h2).1
      have hfr:∀ b,g.φ i' q b→Foot g st.look i' b:=fun b hb=>.inr ⟨xs,q,h1,hrl,hb⟩
      have hr:=hs.trees i' xs h1 q x h2
      rw [← g3.1] at hr
      have hrep:=win_rep hr g3.2 g5 hy
      obtain ⟨q1,q2⟩:=hs.updRoot h1 h2 (CA.drop i' q [] false) (fun p=>leads false [] p=false) (drop_ok i' q [] false) (w':=w) (x':=y) (u':=u) (S':=g.φ i' q) (R':=NoR) (I':=g.I) hrep
       (fun p v nd ho _ _=>by rw [leads_all] at ho; cases ho) hs.below (Nat.le_refl _) (fun _ _ _ _=>rfl) (fun _ h=>.inl h) (fun b hb=>hb.elim) (fun _ h=>h) (fun _ h=>.inl h) (fun b hb hS=>(hs.foot i' b (hfr b hS)).2.2.1 hb)
      split at h
      ·rename_i cs' hl1
       obtain ⟨vs1,ty1,d1,d2⟩:=q1.cells i cs' hl1
       have c1':w.heap[(g.setR g.I i' q u (g.φ i' q)).β i]? = some (.cells vs ty (0,0)):=c1
       rw [c1'] at d1
       cases d1
       refine convH_sound ⟨_,q1.updCells hl1 (vs':=vs) (ty:=ty) q1.below (Nat.le_refl _) (fun _ _=>rfl) c1' ⟨_,_,c1'⟩ ?_⟩ h
       refine ⟨by rw [setNth_eq,List.length_set]; exact d2.1,fun j d v hd hv=>?_⟩
       rw [setNth_eq,List.getElem?_set] at hd
       by_cases hcj:c=j
       ·subst hcj
        have hcl':c < cs'.length:=by rw [← d2.1]; exact hvl
        simp only [if_true,hcl',Option.some.injEq] at hd
        subst hd
        rw [hu] at hv
        cases hv
        refine ⟨⟨setNth xs q y,y,y.nd,by rw [look_setBox,if_pos ⟨rfl,by rw [mapS_boxes]; exact look_lt h1⟩],by rw [setNth_eq]; simp [hrl],⟨by simp [Gh.setR],rfl⟩,?_⟩,hone⟩
        obtain ⟨a0,l0,c0,e0⟩:=g4
        subst e0
        cases hnd:nd with
        | none=>rw [hnd] at g5; rw [g5.2.2.2]; exact ⟨_,_,_,rfl⟩
        | some sn =>
         obtain ⟨sz,n⟩:=sn
         rw [hnd] at g5
         rw [g5.2]
         cases a0 with
         | none=>exact ⟨_,_,_,rfl⟩
         | some a0=>exact ⟨_,_,_,rfl⟩
       ·simp only [hcj,if_false] at hd
        exact d2.2 j d v hd hv
      ·exact h.elim
     ·exact h.elim
    ·exact h.elim
   ·rename_i x hc
    obtain ⟨h1,h⟩:=h
    split at h
    ·rename_i st1 hst
     obtain ⟨n1,n2,rfl⟩:=addBox_some hst
     obtain ⟨vs,ty,c1,c2⟩:=hs.cells i cs hl
     have hcl:c < cs.length:=by
      rcases Nat.lt_or_ge c cs.length with h' | h'
      ·exact h'
      ·rw [nth_eq,List.getElem?_eq_none h'] at hc; cases hc
     have hcc:cs[c]? = some (.t x):=by rw [nth_eq,List.getElem?_eq_getElem hcl] at hc; rw [List.getElem?_eq_getElem hcl]; simpa using hc
     have hvl:c < vs.toList.length:=by rw [c2.1]; exact hcl
     obtain ⟨u,hu⟩:∃ u,vs.toList[c]? = some u:=⟨_,List.getElem?_eq_getElem hvl⟩
     have hrep:=(c2.2 c _ u hcc hu).1.1
     have hone:=(c2.2 c _ u hcc hu).2
     obtain ⟨q1,q2⟩:=hs.newTree (xs:=holesT (mIdx cs c) [x]) n2 n1 hs.below (Nat.le_refl _) (fun _ _ _=>rfl) (fun _=>u) (fun _ _=>False) (fun r y hy=>by
      rcases holesT_get hy with rfl | rfl
      ·exact .fr (.hole _)
      ·exact .fr hrep) (fun _ _ _ h=>h.elim) (fun _ _ _ _ _ h=>h.elim)
     have hne:freeAt 0 st.boxes≠i:=fun e=>by rw [e,hl] at n1; cases n1
     have hl1:(st.setBox (freeAt 0 st.boxes) (some (.tree (holesT (mIdx cs c) [x])))).look i=some (.cells cs):=by rw [look_setBox,if_neg (fun h=>hne h.1)]; exact hl
     refine ⟨_,h,_,q1.updCells hl1 (vs':=vs) (ty:=ty) q1.below (Nat.le_refl _) (fun _ _=>rfl) c1 ⟨_,_,c1⟩ ?_⟩
     refine ⟨by rw [setNth_eq,List.length_set]; exact c2.1,fun j d v hd hv=>?_⟩
     rw [setNth_eq,List.getElem?_set] at hd
     by_cases hcj:c=j
     ·subst hcj
      simp only [if_true,hcl,Option.some.injEq] at hd
      subst hd
      rw [hu] at hv
      cases hv
      exact ⟨⟨holesT (mIdx cs c) [x],x,x.nd,by rw [look_setBox,if_pos ⟨rfl,n2⟩],holesT_at _ _,⟨by simp [Gh.setT],rfl⟩,tv_isSl hrep h1⟩,hone⟩
     ·simp only [hcj,if_false] at hd
      have:=c2.2 j d v hd hv
      exact ⟨RepC.mv q2 (by cases d <;> trivial) this.1,this.2⟩
    ·exact h.elim
   ·exact h.elim
  ·exact h.elim
 ·exact h.elim
theorem convBs_sound {k:ASt→Prg T} {r:T}:∀ {l:List (Nat × Nat)} {st:ASt},Sim w0 I0 st a ov w→(convBs l st k).goes C J r→∃ st',(k st').goes C J r∧Sim w0 I0 st' a ov w
 | [],st,hs,h=>⟨st,h,hs⟩
 | (s,c) :: l,st,hs,h=>by
  obtain ⟨st1,h1,h2⟩:=convB_sound hs h
  exact convBs_sound h2 h1
theorem convF_sound {s c:Nat} (hs:Sim w0 I0 st a ov w):Sim w0 I0 (convF st s c) a ov w:=by
 obtain ⟨g,hs⟩:=hs
 unfold convF
 generalize hc0:c % 1000=c'
 split
 ·rename_i i off hv
  split
  ·rename_i cs hl
   split
   ·rename_i i' q hc
    split
    ·rename_i xs hx
     split
     ·rename_i x h2
      cases hcool:Nat.ble 1000 c with
      | true =>
       obtain ⟨g',h⟩:=hs.cool hx h2
       exact ⟨g',h⟩
      | false =>
      clear hc0 hcool
      rename_i c0
      generalize c'=c at *
      obtain ⟨vs,ty,c1,c2⟩:=hs.cells i cs hl
      have hcl:c < cs.length:=by
       rcases Nat.lt_or_ge c cs.length with h' | h'
       ·exact h'
       ·rw [nth_eq,List.getElem?_eq_none h'] at hc; cases hc
      have hcc:cs[c]? = some (.sref i' q []):=by rw [nth_eq,List.getElem?_eq_getElem hcl] at hc; rw [List.getElem?_eq_getElem hcl]; simpa using hc
      have hvl:c < vs.toList.length:=by rw [c2.1]; exact hcl
      obtain ⟨u,hu⟩:∃ u,vs.toList[c]? = some u:=⟨_,List.getElem?_eq_getElem hvl⟩
      obtain ⟨hrc,hone⟩:=c2.2 c _ u hcc hu
      obtain ⟨xs',x',nd,e1,e2,e3,e4⟩:=hrc
      rw [hx] at e1
      cases e1
      rw [h2] at e2
      cases e2
      obtain ⟨f1,f2,f3⟩:=hs.freeze hx h2
      have hne:i'≠i:=fun e=>by rw [e,hl] at hx; cases hx
      have hl1:(st.setBox i' (some (.tree (setNth xs q (frz x))))).look i=some (.cells cs):=by rw [look_setBox,if_neg (fun h=>hne h.1)]; exact hl
      refine ⟨_,f2.updCells hl1 (vs':=vs) (ty:=ty) f2.below (Nat.le_refl _) (fun _ _=>rfl) c1 ⟨_,_,c1⟩ ?_⟩
      refine ⟨by rw [setNth_eq,List.length_set]; exact c2.1,fun j d v hd hv=>?_⟩
      rw [setNth_eq,List.getElem?_set] at hd
      by_cases hcj:c=j
      ·subst hcj
       simp only [if_true,hcl,Option.some.injEq] at hd
       subst hd
       rw [hu] at hv
       cases hv
       rw [← e3.1] at f1
       exact ⟨⟨f1,hone⟩,hone⟩
      ·simp only [hcj,if_false] at hd
       have:=c2.2 j d v hd hv
       exact ⟨f3 _ _ this.1,this.2⟩
     ·exact ⟨g,hs⟩
    ·exact ⟨g,hs⟩
   ·exact ⟨g,hs⟩
  ·exact ⟨g,hs⟩
 ·exact ⟨g,hs⟩
theorem convFs_sound:∀ {l:List (Nat × Nat)} {st:ASt},Sim w0 I0 st a ov w→Sim w0 I0 (convFs l st) a ov w
 | [],st,hs=>hs
 | (s,c) :: l,st,hs=>convFs_sound (l:=l) (convF_sound hs)
theorem kill_sound:∀ {l:List Nat} {st:ASt},Sim w0 I0 st a ov w→Sim w0 I0 (killSt st l) a ov w
 | [],st,hs=>hs
 | s :: l, st, hs => by
  simp only [killSt]
  split
  ·rename_i i off hv
   split
   ·rename_i cs hl
    refine kill_sound ?_
    obtain ⟨g,hs⟩:=hs
    obtain ⟨vs,ty,c1,c2⟩:=hs.cells i cs hl
    refine ⟨g,hs.updCells hl (vs':=vs) (ty:=ty) hs.below (Nat.le_refl _) (fun _ _=>rfl) c1 ⟨_,_,c1⟩ ⟨by rw [mapC_len]; exact c2.1,fun j d v hd hv=>?_⟩⟩
    rw [mapC_get] at hd
    cases hj:cs[j]? with
    | none=>simp [hj] at hd
    | some c' =>
     simp only [hj,Option.map_some,Option.some.injEq] at hd
     subst hd
     exact ⟨trivial,(c2.2 j c' v hj hv).2⟩
   ·exact kill_sound hs
  ·exact kill_sound hs
theorem keepFrom_get {α:Type} (d:α) (ks:List Nat):∀ (l:List α) (n k:Nat),(keepFrom d ks n l)[k]? = (l[k]?).map fun x=>bif memB (n + k) ks then x else d
 | [],n,k=>by simp [keepFrom]
 | x :: l,n,0=>by simp [keepFrom]
 | x :: l,n,k + 1=>by
  simp only [keepFrom,List.getElem?_cons_succ,keepFrom_get d ks l (n + 1) k]
  rw [show n + 1 + k=n + (k + 1) by omega]
theorem keepFrom_len {α:Type} (d:α) (ks:List Nat):∀ (l:List α) (n:Nat),(keepFrom d ks n l).length=l.length
 | [],n=>rfl
 | x :: l,n=>by simp [keepFrom,keepFrom_len d ks l (n + 1)]
theorem keep_simI {ks:List Nat} {R:Nat→Prop} (hs:SimI w0 I0 R g st a ov w):SimI w0 I0 R g (keepSt ks st) a ov w:=by
 refine ⟨hs.below,hs.sub,hs.lt,hs.old,by simp only [keepSt,keepFrom_len]; exact hs.len,hs.defers,fun t v hv=>?_,hs.olen,hs.outs,hs.cells,hs.trees,hs.foot,hs.apart,hs.apartR,hs.res,hs.base,hs.out⟩
 simp only [keepSt,keepFrom_get,Nat.zero_add] at hv
 cases hsl:st.slots[t]? with
 | none=>simp [hsl] at hv
 | some u =>
  simp only [hsl,Option.map_some,Option.some.injEq] at hv
  cases hm:memB t ks with
  | false=>simp only [hm,cond_false] at hv; subst hv; exact trivial
  | true =>
   simp only [hm,cond_true] at hv
   subst hv
   exact hs.slots t u hsl
theorem keep_sound {ks:List Nat} (hs:Sim w0 I0 st a ov w):Sim w0 I0 (keepSt ks st) a ov w:=by
 obtain ⟨g,hs⟩:=hs
 exact ⟨g,keep_simI hs⟩
theorem idxIn_some {i:Nat}:∀ {L:List Nat} {n k:Nat},idxIn i n L=some k→n≤k∧L[k - n]? = some i
 | [],n,k,h=>by simp [idxIn] at h
 | b :: L, n, k, h => by
  simp only [idxIn] at h
  cases hb:b.beq i with
  | true =>
   simp only [hb,cond_true,Option.some.injEq] at h
   subst h
   have:=(beq_iff _ _).1 hb
   subst this
   simp
  | false =>
   simp only [hb,cond_false] at h
   obtain ⟨h1,h2⟩:=idxIn_some h
   refine ⟨by omega,?_⟩
   rw [show k - n=(k - (n + 1)) + 1 by omega,List.getElem?_cons_succ]
   exact h2
theorem nodupB_inj:∀ {L:List Nat},nodupB L=true→∀ (k k' i:Nat),L[k]? = some i→L[k']? = some i→k=k'
 | [],_,k,k',i,h,_=>by simp at h
 | b :: L, hn, k, k', i, h, h' => by
  simp only [nodupB,Bool.and_eq_true,Bool.not_eq_true'] at hn
  have hnot:∀ q,L[q]? = some b→False:=fun q hq=>by
   have:=(memB_iff b L).2 (List.mem_of_getElem? hq)
   rw [this] at hn
   cases hn.1
  cases k with
  | zero =>
   cases k' with
   | zero=>rfl
   | succ k'=>simp at h h'; subst h; exact (hnot k' h').elim
  | succ k =>
   cases k' with
   | zero=>simp at h h'; subst h'; exact (hnot k h).elim
   | succ k'=>simp at h h'; rw [nodupB_inj hn.2 k k' i h h']
theorem pickB_get (look:Look) (f:CA→CA):∀ (L:List Nat) (k:Nat),(pickB look f L)[k]? = (L[k]?).map fun i=>(look i).map (BC.mapB f)
 | [],k=>by simp [pickB]
 | i :: L,0=>by simp only [pickB,List.getElem?_cons_zero,Option.map_some]; cases look i <;> rfl
 | i :: L,k + 1=>by simp [pickB,pickB_get look f L k]
theorem pickB_len (look:Look) (f:CA→CA):∀ (L:List Nat),(pickB look f L).length=L.length
 | []=>rfl
 | i :: L=>by simp [pickB,pickB_len look f L]
theorem asTVs_get:∀ (l:List AV) (k:Nat),(asTVs l)[k]? = (l[k]?).map AV.asTV
 | [],k=>by simp [asTVs]
 | v :: l,0=>rfl
 | v :: l,k + 1=>by simp [asTVs,asTVs_get l k]
theorem asTVs_len:∀ l:List AV,(asTVs l).length=l.length
 | []=>rfl
 | v :: l=>by simp [asTVs,asTVs_len l]
theorem asTV_rep {v:AV} {u:Value} (h:RepA w g look v u):RepA w g look v.asTV u:=by
 cases v with
 | one c=>cases c <;> first | exact h | exact h.1
 | bl b=>have:u=.bool b:=h; subst this; exact Rep.lit _
 | _=>exact h
theorem ren_sound {L:List Nat} (hn:nodupB L=true) (hs:Sim w0 I0 st a ov w):Sim w0 I0 (renSt L st) a ov w:=by
 obtain ⟨g,hs⟩:=hs
 have hlook:∀ k,(renSt L st).look k=(L[k]?).bind fun i=>(st.look i).map (BC.mapB (CA.ren L)):=fun k=>by
  simp only [renSt,ASt.look,nth_eq,List.getElem?_append,pickB_len,pickB_get]
  by_cases hk:k < L.length
  ·rw [if_pos hk,List.getElem?_eq_getElem hk]
   rfl
  ·have hL:L[k]? = none:=List.getElem?_eq_none (by omega)
   rw [if_neg hk,hL,List.getElem?_replicate]
   split <;> rfl
 obtain ⟨g',hg'⟩:∃ g':Gh,g'=⟨g.I,fun k=>g.ρ (nth 0 L k),fun k=>g.β (nth 0 L k),fun k=>g.φ (nth 0 L k),g.O⟩:=⟨_,rfl⟩
 have hat:∀ {k i:Nat},L[k]? = some i→nth 0 L k=i:=fun h=>nth_some h
 have eI:g'.I=g.I:=by rw [hg']
 have eO:g'.O=g.O:=by rw [hg']
 have hlk:∀ {k i:Nat} {b:BC},L[k]? = some i→st.look i=some b→(renSt L st).look k=some (b.mapB (CA.ren L)):=fun {k i b} h1 h2=>by rw [hlook,h1]; simp [h2]
 have inv:∀ {k:Nat} {b:BC},(renSt L st).look k=some b→∃ i b0,L[k]? = some i∧st.look i=some b0∧b=b0.mapB (CA.ren L):=fun {k b} h=>by
  rw [hlook] at h
  cases hk:L[k]? with
  | none=>simp [hk] at h
  | some i =>
   simp only [hk,Option.bind_some] at h
   cases hb:st.look i with
   | none=>simp [hb] at h
   | some b0=>simp only [hb,Option.map_some,Option.some.injEq] at h; exact ⟨i,b0,rfl,hb,h.symm⟩
 have hf:∀ c v,RepC w g st.look c v→RepC w g' (renSt L st).look (c.ren L) v:=by
  intro c v h
  cases c with
  | t x=>exact ⟨by rw [eI]; exact h.1,h.2⟩
  | ptr i off =>
   simp only [CA.ren]
   split
   ·rename_i k hk
    replace hk:L[k]? = some i:=(idxIn_some hk).2
    obtain ⟨cs,h1,h2⟩:=h
    exact ⟨_,hlk hk h1,by rw [hg']; simp only []; rw [hat hk]; exact h2⟩
   ·trivial
  | ref x off =>
   obtain ⟨ad,cell,h1,h3⟩:=h
   exact ⟨ad,cell,h1,fun j c hj=>⟨(h3 j c hj).1.mv (fun _ _=>rfl) (fun b hb=>by rw [eI]; exact hb) eO,(h3 j c hj).2.1,by rw [eI]; exact (h3 j c hj).2.2⟩⟩
  | tptr i r p k j =>
   simp only [CA.ren]
   split
   ·rename_i m hm
    replace hm:L[m]? = some i:=(idxIn_some hm).2
    obtain ⟨xs,x,ad,l,cap,s,n,h1,h2,h3,h4,h5⟩:=h
    refine ⟨xs,x,ad,l,cap,s,n,hlk hm h1,h2,?_,h4,h5⟩
    rw [hg']; simp only []; rw [hat hm]; exact h3
   ·trivial
  | sref i r p =>
   simp only [CA.ren]
   split
   ·rename_i m hm
    replace hm:L[m]? = some i:=(idxIn_some hm).2
    obtain ⟨xs,x,nd,h1,h2,h3,h4⟩:=h
    refine ⟨xs,x,nd,hlk hm h1,h2,?_,h4⟩
    rw [hg']; simp only []; rw [hat hm]; exact h3
   ·trivial
  | swin i r p lo len =>
   simp only [CA.ren]
   split
   ·rename_i m hm
    replace hm:L[m]? = some i:=(idxIn_some hm).2
    obtain ⟨xs,x,u,nd,h1,h2,h3,h4,h5⟩:=h
    refine ⟨xs,x,u,nd,hlk hm h1,h2,?_,h4,h5⟩
    rw [hg']; simp only []; rw [hat hm]; exact h3
   ·trivial
  | yl n=>show v=.func (.yield (g'.O.y n)) #[] #[]; rw [eO]; exact h
  | aptr i off len n =>
   simp only [CA.ren]
   split
   ·rename_i k hk
    replace hk:L[k]? = some i:=(idxIn_some hk).2
    obtain ⟨cs,h1,h2,h3⟩:=h
    exact ⟨_,hlk hk h1,h2,by rw [hg']; simp only []; rw [hat hk]; exact h3⟩
   ·trivial
  | may i ty =>
   simp only [CA.ren]
   split
   ·rename_i k hk
    replace hk:L[k]? = some i:=(idxIn_some hk).2
    obtain ⟨cs,h1,h2,h3⟩:=h
    refine ⟨_,hlk hk h1,?_,?_⟩
    ·rw [hg']; simp only []; rw [hat hk]; exact h2
    ·rw [hg']; simp only []; rw [hat hk]; exact h3
   ·trivial
  | undef=>exact h
  | junk=>exact h
 have foot:∀ {k b:Nat},Foot g' (renSt L st).look k b→∃ i,L[k]? = some i∧Foot g st.look i b:=by
  rintro k b (⟨cs,h1,h2⟩ | ⟨xs,r,h1,h2,h3⟩)
  ·obtain ⟨i,b0,i1,i2,i3⟩:=inv h1
   refine ⟨i,i1,?_⟩
   rw [hg'] at h2
   simp only [] at h2
   rw [hat i1] at h2
   cases b0 with
   | cells cs0=>exact .inl ⟨cs0,i2,h2⟩
   | tree xs=>simp [BC.mapB] at i3
  ·obtain ⟨i,b0,i1,i2,i3⟩:=inv h1
   refine ⟨i,i1,?_⟩
   rw [hg'] at h3
   simp only [] at h3
   rw [hat i1] at h3
   cases b0 with
   | cells cs0=>simp [BC.mapB] at i3
   | tree xs0=>simp only [BC.mapB,BC.tree.injEq] at i3; subst i3; exact .inr ⟨xs,r,i2,h2,h3⟩
 refine ⟨g',hs.below,by rw [eI]; exact hs.sub,by rw [eI]; exact hs.lt,by rw [eI]; exact hs.old,by simp only [renSt,asTVs_len,mapAs_len]; exact hs.len,hs.defers,fun t v hv=>?_,by simp only [renSt,asTVs_len,mapAs_len]; exact hs.olen,?_,fun k cs hl=>?_,fun k xs hl r x hx=>?_,
  fun k b hb=>?_,fun k k' b hb hb'=>?_,fun k xs r r' b hl h1 h2 h3 h4=>?_,fun b hb=>hb.elim,hs.base,by rw [eO]; exact hs.out⟩
 ·simp only [renSt,asTVs_get] at hv
  cases hm:(mapAs (CA.ren L) st.slots)[t]? with
  | none=>simp [hm] at hv
  | some u =>
   simp only [hm,Option.map_some,Option.some.injEq] at hv
   subst hv
   exact asTV_rep (slots_map (w':=w) (g':=g') (st':=renSt L st) hf (fun _ _=>rfl) (fun b hb=>by rw [eI]; exact hb) (l:=st.slots) (vs:=fun t=>a.tmps.getD t undef) hs.slots t u hm)
 ·intro t v hv
  simp only [renSt,asTVs_get] at hv
  cases hm:(mapAs (CA.ren L) st.out)[t]? with
  | none=>simp [hm] at hv
  | some u =>
   simp only [hm,Option.map_some,Option.some.injEq] at hv
   subst hv
   exact asTV_rep (slots_map (w':=w) (g':=g') (st':=renSt L st) hf (fun _ _=>rfl) (fun b hb=>by rw [eI]; exact hb) (l:=st.out) (vs:=fun t=>ov.getD t undef) hs.outs t u hm)
 ·obtain ⟨i,b0,i1,i2,i3⟩:=inv hl
  cases b0 with
  | tree xs=>simp [BC.mapB] at i3
  | cells cs0 =>
   simp only [BC.mapB,BC.cells.injEq] at i3
   subst i3
   obtain ⟨vs,ty,c1,c2⟩:=hs.cells i cs0 i2
   refine ⟨vs,ty,?_,c2.mapC hf⟩
   rw [hg']; simp only []; rw [hat i1]; exact c1
 ·obtain ⟨i,b0,i1,i2,i3⟩:=inv hl
  cases b0 with
  | cells cs0=>simp [BC.mapB] at i3
  | tree xs0 =>
   simp only [BC.mapB,BC.tree.injEq] at i3
   subst i3
   have:=hs.trees i xs i2 r x hx
   rw [hg']; simp only []; rw [hat i1]; exact this
 ·obtain ⟨i,i1,i2⟩:=foot hb
  rw [eI]
  exact hs.foot i b i2
 ·obtain ⟨i,i1,i2⟩:=foot hb
  obtain ⟨j,j1,j2⟩:=foot hb'
  have:=hs.apart i j b i2 j2
  subst this
  exact nodupB_inj hn k k' i i1 j1
 ·obtain ⟨i,b0,i1,i2,i3⟩:=inv hl
  cases b0 with
  | cells cs0=>simp [BC.mapB] at i3
  | tree xs0 =>
   simp only [BC.mapB,BC.tree.injEq] at i3
   subst i3
   rw [hg'] at h3 h4
   simp only [] at h3 h4
   rw [hat i1] at h3 h4
   exact hs.apartR i xs r r' b i2 h1 h2 h3 h4
theorem norm_sound {an:Ann} {k:ASt→Prg T} {r:T} (hs:Sim w0 I0 st a ov w) (h:(normQ an st k).goes C J r):∃ st',(k st').goes C J r∧Sim w0 I0 st' a ov w:=by
 unfold normQ at h
 obtain ⟨st1,h1,hs1⟩:=convSs_sound hs h
 obtain ⟨st2,h2,hs2⟩:=convBs_sound hs1 h1
 unfold canonQ at h2
 cases hc:nodupB (canonL (keepSt an.keep (killSt (convFs an.frz st2) an.kill))) && (canonL (keepSt an.keep (killSt (convFs an.frz st2) an.kill))).length.ble canonN && canonN.ble (keepSt an.keep (killSt (convFs an.frz st2) an.kill)).boxes.length with
 | false=>rw [hc] at h2; exact h2.elim
 | true =>
  rw [hc] at h2
  simp only [Bool.and_eq_true] at hc
  exact ⟨_,h2,ren_sound hc.1.1 (keep_sound (kill_sound (convFs_sound hs2)))⟩
end
end Go.Ab
end
section
namespace Go.Ab
open Go.RowKit
set_option linter.unusedVariables false
theorem blt_t {a b:Nat} (h:a < b):a.blt b=true:=by simpa using h
theorem blt_f {a b:Nat} (h:b≤a):a.blt b=false:=by
  cases hb:a.blt b with
  | false=>rfl
  | true => have : a < b := by simpa using hb
            omega
theorem lt_of_blt {a b:Nat} (h:a.blt b=true):a < b:=by simpa using h
theorem le_of_blt {a b:Nat} (h:a.blt b=false):b≤a:=by
 rcases Nat.lt_or_ge a b with h' | h'
 ·rw [blt_t h'] at h; cases h
 ·exact h'
def upTo (n m:Nat):Array Bool:=((List.range n).map fun i=>i.blt m).toArray
theorem upTo_size (n m:Nat):(upTo n m).size=n:=by simp [upTo]
theorem upTo_get {n m i:Nat} (h:i < n) (d:Bool):(upTo n m).getD i d=i.blt m:=by
 simp [upTo,h]
theorem upTo_zero (n:Nat):upTo n 0=Array.replicate n false:=by
 apply Array.ext
 ·simp [upTo]
 ·intro i h1 h2
  have:i.blt 0=false:=blt_f (Nat.zero_le _)
  simpa [upTo] using this
theorem listed_eq {n m:Nat} {listed:Array Bool} (hsz:listed.size=n) (h1:∀ i,i < n→i < m→listed.getD i true=true) (h2:∀ i,i < n→m≤i→listed.getD i true=false):listed=upTo n m:=by
 apply Array.ext
 ·rw [hsz,upTo_size]
 ·intro i hi1 hi2
  have hin:i < n:=by omega
  have e1:listed.getD i true=listed[i]:=by simp [hi1]
  have e2:(upTo n m).getD i true=(upTo n m)[i]:=by simp [hi2]
  rw [← e1,← e2,upTo_get hin]
  by_cases hm:i < m
  ·rw [h1 i hin hm,blt_t hm]
  ·rw [h2 i hin (by omega),blt_f (by omega)]
theorem bar_from {bs:List Nat} {k:Nat}:∀ {l:List Oper} {i:Nat},barFrom bs k i l=true→∀ j,j < l.length→k≤i + j→∀ q,q < k→(nth 0 bs (i + j)).testBit q=true
 | [],i,_,j,hj,_,q,_=>by simp at hj
 | o :: l, i, h, j, hj, hk, q, hq => by
  simp only [barFrom] at h
  cases hb:i.blt k with
  | true =>
   simp only [hb,cond_true] at h
   have hik:i < k:=by simpa using hb
   cases j with
   | zero=>omega
   | succ j =>
    have:=bar_from h j (by simpa using hj) (by omega) q hq
    rwa [show i + 1 + j=i + (j + 1) by omega] at this
  | false =>
   simp only [hb,cond_false,Bool.and_eq_true] at h
   obtain ⟨h0,h⟩:=h
   cases j with
   | zero =>
    have h1:(nth 0 bs i) &&& (2 ^ k - 1)=2 ^ k - 1:=(beq_iff _ _).1 h0
    have h2:((nth 0 bs i) &&& (2 ^ k - 1)).testBit q=true:=by
     rw [h1,Nat.testBit_two_pow_sub_one]
     simpa using hq
    rw [Nat.testBit_and] at h2
    simp only [Bool.and_eq_true] at h2
    simpa using h2.1
   | succ j =>
    have hik:k≤i:=le_of_blt hb
    have:=bar_from h j (by simpa using hj) (by omega) q hq
    rwa [show i + 1 + j=i + (j + 1) by omega] at this
theorem bar_at {ops:List Oper} {k:Nat} (h:barAt ops k=true) {i:Nat} (hi:i < ops.length) (hk:k≤i) {q:Nat} (hq:q < k):(nth 0 (behind ops) i).testBit q=true:=by
 have:=bar_from h i hi (by omega) q hq
 rwa [Nat.zero_add] at this
section
variable {P:Program} {E:Env} {C:Cal} {w0:Bs} {I0:Nat→Prop} {ov:List Value} {Q:Exit→Act→World→Prop} {ex:List (List Nat)}
theorem ahead_listed {ops:Array Oper} (hok:drawOk ops.toList=true) {listed:Array Bool} (hsz:listed.size=ops.size)
  (hcl:∀ (k:Nat) (o:Oper),ops[k]? = some o→listed.getD k true=true→∀ e ∈ o.after,Region.binds .any e=true→listed.getD e.on false=true) :
  ∀ (k:Nat) (ok_:Oper),ops[k]? = some ok_→(∀ e ∈ ok_.after,Region.binds .any e=true→listed.getD e.on false=true)→∀ q,(nth 0 (behind ops.toList) k).testBit q=true→listed.getD q true=true:=by
 intro k
 induction k using Nat.strongRecOn with
 | _ k ihk =>
  intro ok_ hk hed q hq
  rw [behind_at (by rw [Array.getElem?_toList]; exact hk)] at hq
  obtain ⟨e,he,hbn,hor⟩:=mask_spec hq
  have hl:=hed e (by simpa using he) hbn
  have hlt2:=edgesBelow_spec ((allOk_spec ops.toList 0 hok k ok_ (by rw [Array.getElem?_toList]; exact hk)).1) e he hbn
  simp only [Nat.zero_add] at hlt2
  have hks:k < ops.size:=(Array.getElem?_eq_some_iff.1 hk).1
  have hl':listed.getD e.on true=true:=by
   have:e.on < listed.size:=by omega
   simpa [this] using hl
  rcases hor with h | h
  ·rw [← h]; exact hl'
  ·have hnt:nth 0 ((behind ops.toList).take k) e.on=nth 0 (behind ops.toList) e.on:=by rw [nth_eq,nth_eq,List.getElem?_take_of_lt hlt2]
   rw [hnt] at h
   have hon:ops[e.on]? = some (ops[e.on]'(by omega)):=Array.getElem?_eq_getElem (by omega)
   exact ihk e.on hlt2 _ hon (hcl e.on _ hon hl') q h
theorem ready_of {ops:Array Oper} (hok:drawOk ops.toList=true) {listed:Array Bool} (hsz:listed.size=ops.size) {i:Nat} (hi:i < ops.size) (h0:listed.getD i true=false) (hmin:∀ j,j < i→listed.getD j true=true) :
  i ∈ Region.ready .any ops listed:=by
 rw [mem_ready]
 refine ⟨h0,ops[i]'hi,Array.getElem?_eq_getElem hi,fun e he hb=>?_⟩
 have hlt:=edgesBelow_spec ((allOk_spec ops.toList 0 hok i _ (by rw [Array.getElem?_toList]; exact Array.getElem?_eq_getElem hi)).1) e (by simpa using he) hb
 simp only [Nat.zero_add] at hlt
 have:=hmin e.on hlt
 have hlt2:e.on < listed.size:=by omega
 simpa [hlt2] using this
theorem draw_seg {ro:Option Nat} (hE:EnvOk P w0.G E C) {ops:Array Oper} (hok:drawOk ops.toList=true) {m:Nat} (hm:m≤ops.size) (hbar:∀ i,m≤i→i < ops.size→∀ q,q < m→(nth 0 (behind ops.toList) i).testBit q=true)
  {fin:ASt} {fe:Nat} (hQ:∀ a w,Sim w0 I0 fin a ov w→wpAnyIn (Rd ro) 0 P .any ops Q fe (upTo ops.size m) a w) :
  ∀ (n:Nat) (listed:Array Bool) (st:ASt) (a:Act) (w:World),listed.size=ops.size→(unlisted m listed).length=n →
   (∀ (k:Nat) (o:Oper),ops[k]? = some o→listed.getD k true=true→∀ e ∈ o.after,Region.binds .any e=true→listed.getD e.on false=true) →
   (∀ k,m≤k→k < ops.size→listed.getD k true=false) →
   RunIdx E C ex ops.toList (unlisted m listed) st fin→Sim w0 I0 st a ov w→wpAnyIn (Rd ro) 0 P .any ops Q (n + fe) listed a w:=by
 intro n
 induction n with
 | zero =>
  intro listed st a w hsz hlen hcl hup h hs
  have hnil:unlisted m listed=[]:=List.eq_nil_of_length_eq_zero hlen
  rw [hnil] at h
  cases h
  have:listed=upTo ops.size m:=listed_eq hsz (fun i hi him=>by
   cases hb:listed.getD i true with
   | true=>rfl
   | false =>
    exfalso
    have:i ∈ unlisted m listed:=by simp only [unlisted,List.mem_filter,List.mem_range,Bool.not_eq_true']; exact ⟨him,hb⟩
    rw [hnil] at this
    cases this) (fun i hi him=>hup i him hi)
  rw [this,Nat.zero_add]
  exact hQ a w hs
 | succ n ih =>
  intro listed st a w hsz hlen hcl hup h hs
  rw [show n + 1 + fe=(n + fe) + 1 by omega]
  obtain ⟨i0,l0,hu⟩:∃ i0 l0,unlisted m listed=i0 :: l0:=by
   cases hu:unlisted m listed with
   | nil=>rw [hu] at hlen; cases hlen
   | cons i l=>exact ⟨i,l,rfl⟩
  have hsortedA:(unlisted m listed).Pairwise (· < ·):=List.Pairwise.filter _ List.pairwise_lt_range
  have hmem0:i0 ∈ unlisted m listed:=by rw [hu]; exact List.mem_cons_self
  have hmem0':=hmem0
  simp only [unlisted,List.mem_filter,List.mem_range,Bool.not_eq_true'] at hmem0'
  have hmin:∀ j,j < i0→listed.getD j true=true:=by
   intro j hj
   cases hb:listed.getD j true with
   | true=>rfl
   | false =>
    exfalso
    have hjm:j ∈ unlisted m listed:=by
     simp only [unlisted,List.mem_filter,List.mem_range,Bool.not_eq_true']
     exact ⟨by omega,hb⟩
    rw [hu] at hjm hsortedA
    rcases List.mem_cons.1 hjm with h | h
    ·omega
    ·have:=(List.pairwise_cons.1 hsortedA).1 j h
     omega
  have hr0:i0 ∈ Region.ready .any ops listed:=ready_of hok hsz (by omega) hmem0'.2 hmin
  refine ⟨fun hr=>(by rw [hr] at hr0; cases hr0),fun i hi=>?_⟩
  rw [mem_ready] at hi
  obtain ⟨h0,o,ho,hedges⟩:=hi
  have hlt:i < ops.size:=(Array.getElem?_eq_some_iff.1 ho).1
  have him:i < m:=by
   rcases Nat.lt_or_ge i m with h | h
   ·exact h
   ·exfalso
    have:=ahead_listed hok hsz hcl i o ho hedges i0 (hbar i h hlt i0 hmem0'.1)
    rw [hmem0'.2] at this
    cases this
  have hmem:i ∈ unlisted m listed:=by
   simp only [unlisted,List.mem_filter,List.mem_range,Bool.not_eq_true']
   exact ⟨him,h0⟩
  obtain ⟨pre,post,hsplit⟩:=List.append_of_mem hmem
  have hsorted:=hsortedA
  rw [hsplit] at hsorted h
  have hpre:∀ j ∈ pre,j < i∧(nth 0 (behind ops.toList) i).testBit j=false:=by
   intro j hj
   refine ⟨(List.pairwise_append.1 hsorted).2.2 j hj i List.mem_cons_self,?_⟩
   cases hb:(nth 0 (behind ops.toList) i).testBit j with
   | false=>rfl
   | true =>
    exfalso
    have h1:=ahead_listed hok hsz hcl i o ho hedges j hb
    have:j ∈ unlisted m listed:=by rw [hsplit]; exact List.mem_append_left _ hj
    simp only [unlisted,List.mem_filter,List.mem_range,Bool.not_eq_true'] at this
    rw [this.2] at h1
    cases h1
  obtain ⟨s1,k1,k2⟩:=move_front pre i o post st fin (by rw [Array.getElem?_toList]; exact ho) hpre hok h
  refine wpOpIn_mono (fun a' w' hs'=>?_) (opN_sound hE (i:=itemAt ex ops.toList (behind ops.toList) i o) ho hs k1)
  have hil:i < listed.size:=by omega
  have hnew:unlisted m (listed.setIfInBounds i true)=pre ++ post:=by
   have hnd:(pre ++ i :: post).Nodup:=hsorted.imp (fun h=>Nat.ne_of_lt h)
   have:unlisted m (listed.setIfInBounds i true)=(unlisted m listed).filter (fun j=>j≠i):=by
    simp only [unlisted,List.filter_filter]
    apply List.filter_congr
    intro j hj
    by_cases hji:j=i
    ·subst hji
     simp [hil]
    ·have:(listed.setIfInBounds i true).getD j true=listed.getD j true:=getD_set_ne true (fun e=>hji e.symm)
     rw [this]
     simp [hji]
   rw [this,hsplit,List.filter_append,List.filter_cons]
   have hni:i ∉ pre∧i ∉ post:=by
    rw [List.nodup_append] at hnd
    refine ⟨fun hm=>hnd.2.2 i hm i List.mem_cons_self rfl,(List.nodup_cons.1 hnd.2.1).1⟩
   simp only [ne_eq,not_true_eq_false,decide_false,Bool.false_eq_true,if_false]
   rw [List.filter_eq_self.2 (fun j hj=>by simp; rintro rfl; exact hni.1 hj),List.filter_eq_self.2 (fun j hj=>by simp; rintro rfl; exact hni.2 hj)]
  refine ih (listed.setIfInBounds i true) s1 a' w' (by simpa using hsz) ?_ ?_ ?_ (by rw [hnew]; exact k2) hs'
  ·rw [hnew]
   rw [hsplit] at hlen
   simp at hlen ⊢
   omega
  ·intro k ok_ hk hl e he hb
   by_cases hki:k=i
   ·subst hki
    rw [ho] at hk
    cases hk
    exact getD_set_true (hedges e he hb)
   ·rw [getD_set_ne true (fun e=>hki e.symm)] at hl
    exact getD_set_true (hcl k ok_ hk hl e he hb)
  ·intro k hk hks
   rw [getD_set_ne true (by omega)]
   exact hup k hk hks
theorem draw_bar {ro:Option Nat} (hE:EnvOk P w0.G E C) {ops:Array Oper} (hok:drawOk ops.toList=true) {j m:Nat} (hjm:j≤m) (hm:m≤ops.size) (hbar:∀ i,m≤i→i < ops.size→∀ q,q < m→(nth 0 (behind ops.toList) i).testBit q=true)
  {fin st:ASt} {fe:Nat} (hQ:∀ a w,Sim w0 I0 fin a ov w→wpAnyIn (Rd ro) 0 P .any ops Q fe (upTo ops.size m) a w) {a:Act} {w:World}
  (h:RunIdx E C ex ops.toList (List.range' j (m - j)) st fin) (hs:Sim w0 I0 st a ov w):wpAnyIn (Rd ro) 0 P .any ops Q (m - j + fe) (upTo ops.size j) a w:=by
 have hun:unlisted m (upTo ops.size j)=List.range' j (m - j):=by
  have e1:m=j + (m - j):=by omega
  unfold unlisted
  conv=>lhs; rw [e1,List.range_add,List.filter_append]
  have h1:(List.range j).filter (fun i=>!(upTo ops.size j).getD i true)=[]:=by
   rw [List.filter_eq_nil_iff]
   intro i hi
   have:i < j:=by simpa using hi
   rw [upTo_get (by omega),blt_t this]
   simp
  have h2:((List.range (m - j)).map (j + ·)).filter (fun i=>!(upTo ops.size j).getD i true)=(List.range (m - j)).map (j + ·):=by
   rw [List.filter_eq_self]
   intro i hi
   simp only [List.mem_map,List.mem_range] at hi
   obtain ⟨k,hk,rfl⟩:=hi
   rw [upTo_get (by omega),blt_f (by omega)]
   rfl
  rw [h1,h2,List.nil_append,List.range'_eq_map_range]
 refine draw_seg (ex:=ex) hE hok hm hbar hQ (m - j) (upTo ops.size j) st a w (upTo_size _ _) (by rw [hun]; simp) (fun k o hk hl e he hb=>?_) (fun k hk hks=>?_) (by rw [hun]; exact h) hs
 ·have hks:k < ops.size:=(Array.getElem?_eq_some_iff.1 hk).1
  rw [upTo_get hks] at hl
  have hkj:k < j:=lt_of_blt hl
  have hlt2:=edgesBelow_spec ((allOk_spec ops.toList 0 hok k o (by rw [Array.getElem?_toList]; exact hk)).1) e (by simpa using he) hb
  simp only [Nat.zero_add] at hlt2
  rw [upTo_get (by omega),blt_t (by omega)]
 ·rw [upTo_get hks]
  exact blt_f (by omega)
end
end Go.Ab
end
section
namespace Go.Ab
open Go.RowKit
set_option linter.unusedVariables false
theorem isCells_of_cell {w:World} {p:Addr} {u:Value} {ob:Obj} (hb:w.heap[p.block]? = some ob) (h:w.cell? p=some u):ob.isCells=true:=by
 unfold World.cell? at h
 rw [hb] at h
 cases ob with
 | cells vs ty fr=>rfl
 | _ =>
  exfalso
  split at h <;> simp_all
section
variable {P:Program} {w w':World} {I0:Nat→Prop} {g:Gh} {st:ASt} {a a':Act} {ov:List Value}
structure Shift (W W':Bs) (I0:Nat→Prop) (w w':World):Prop where
 bel:W'.Bel w'
 ok:W'.Ok I0
 size:w.heap.size≤w'.heap.size
 new:∀ b,W.New b→b < w.heap.size→W'.New b∧w'.heap[b]? = w.heap[b]?
 old:∀ b,I0 b→w'.heap[b]? = w.heap[b]?
 out:∀ b ob,ob.isCells=true→W.w.heap[b]? = some ob→¬ W.L b→W'.w.heap[b]? = some ob∧¬ W'.L b
def FokY (W W':Bs) (f:CA→CA):Prop:=(∀ c,(∀ k,c≠.yl k)→f c=c)∧∀ k,f (.yl k)=.junk∨(f (.yl k)=.yl k∧W'.Y k=W.Y k)
theorem rebase {W W':Bs} (hs:SimI W I0 NoR g st a ov w) (h:Shift W W' I0 w w') {f:CA→CA} (hY:FokY W W' f) (ht:a'.tmps=a.tmps) (hd:a'.defers=W'.ds):Sim W' I0 (st.mapS f) a' ov w':=by
 have hIk:∀ b,g.I b→w'.heap[b]? = w.heap[b]? := fun b hb=>by
  by_cases hn:W.New b
  ·exact (h.new b hn (hs.lt b hb)).2
  ·exact h.old b (hs.old b hn hb)
 have hft:∀ j b,Foot g st.look j b→w'.heap[b]? = w.heap[b]? := fun j b hf=>(h.new b (hs.foot j b hf).1 (hs.foot j b hf).2.1).2
 obtain ⟨g',hg'⟩:∃ g':Gh,g'=⟨g.I,g.ρ,g.β,g.φ,⟨fun b=>(g.O b).filter Obj.isCells,W'.Y⟩⟩:=⟨_,rfl⟩
 have eI:g'.I=g.I:=by rw [hg']
 have eρ:g'.ρ=g.ρ:=by rw [hg']
 have eβ:g'.β=g.β:=by rw [hg']
 have eφ:g'.φ=g.φ:=by rw [hg']
 have hI:∀ b,g.I b→g'.I b:=fun b hb=>by rw [eI]; exact hb
 have lkc:∀ j c,st.look j=some (.cells c)→(st.mapS f).look j=some (.cells (mapC f c)):=fun j c h=>by rw [look_mapS,h]; rfl
 have lkt:∀ j xs,st.look j=some (.tree xs)→(st.mapS f).look j=some (.tree xs):=fun j c h=>by rw [look_mapS,h]; rfl
 have inv:∀ j b,(st.mapS f).look j=some b→∃ b0,st.look j=some b0∧b=b0.mapB f:=fun j b h=>by
  rw [look_mapS] at h
  cases h0:st.look j with
  | none=>simp [h0] at h
  | some b0=>simp only [h0,Option.map_some,Option.some.injEq] at h; exact ⟨b0,rfl,h.symm⟩
 have invT:∀ j xs,(st.mapS f).look j=some (.tree xs)→st.look j=some (.tree xs):=fun j xs h=>by
  obtain ⟨b0,h1,h2⟩:=inv j _ h
  cases b0 <;> simp [BC.mapB] at h2
  subst h2
  exact h1
 have nm:∀ j r p xs x v nd,st.look j=some (.tree xs)→xs[r]? = some x→Node w p x (g.ρ j r) v nd→Node w' p x (g.ρ j r) v nd:=fun j r p xs x v nd hl' hx hnd =>
  Node.mv (hs.trees j xs hl' r x hx) hIk (fun b h=>hft j b (.inr ⟨xs,r,hl',(List.getElem?_eq_some_iff.1 hx).1,h⟩)) hnd
 have hc:∀ {p:Addr} {u:Value},CellAt w g p u→CellAt w' g' p u:=fun {p u} hc=>by
  rcases hc with ⟨h1,h2⟩ | ⟨ob,h1,h2⟩
  ·exact .inl ⟨hI _ h1,by rw [← h2]; exact World.cell?_of_block (hIk _ h1)⟩
  ·refine .inr ⟨ob,?_,h2⟩
   have hoc:ob.isCells=true:=isCells_of_cell (hs.outAt h1) (h2 w (hs.outAt h1))
   rw [hg']
   show (g.O p.block).filter Obj.isCells=some ob
   rw [h1]
   simp [Option.filter,hoc]
 have hf0:∀ c v,(∀ k,c≠.yl k)→RepC w g st.look c v→RepC w' g' (st.mapS f).look c v:=by
  intro c v hne hr
  cases c with
  | t x=>exact ⟨hr.1.mv hIk hI,hr.2⟩
  | ptr j off=>obtain ⟨c',h1,h2⟩:=hr; exact ⟨_,lkc j c' h1,by rw [eβ]; exact h2⟩
  | ref x off =>
   obtain ⟨ad,cell,h1,h3⟩:=hr
   exact ⟨ad,cell,h1,fun k c hk=>⟨hc (h3 k c hk).1,(h3 k c hk).2.1,(h3 k c hk).2.2.mv hIk hI⟩⟩
  | tptr j r p k q=>obtain ⟨xs,x,ad,l,cap,s,n,h1,h2,h3,h4,h5⟩:=hr; exact ⟨xs,x,ad,l,cap,s,n,lkt j xs h1,h2,by rw [eρ]; exact nm j r p xs x _ _ h1 h2 h3,h4,h5⟩
  | sref j r p=>obtain ⟨xs,x,nd,h1,h2,h3,h4⟩:=hr; exact ⟨xs,x,nd,lkt j xs h1,h2,by rw [eρ]; exact nm j r p xs x _ _ h1 h2 h3,h4⟩
  | swin j r p lo len=>obtain ⟨xs,x,u,nd,h1,h2,h3,h4,h5⟩:=hr; exact ⟨xs,x,u,nd,lkt j xs h1,h2,by rw [eρ]; exact nm j r p xs x _ _ h1 h2 h3,h4,h5⟩
  | may j ty =>
   obtain ⟨c',h1,⟨us,fr,h2⟩,h3⟩:=hr
   exact ⟨_,lkc j c' h1,⟨us,fr,by rw [eβ,hft j _ (.inl ⟨c',h1,rfl⟩)]; exact h2⟩,by rw [eβ]; exact h3⟩
  | aptr j off len n=>obtain ⟨c',h1,h2,h3⟩:=hr; exact ⟨_,lkc j c' h1,h2,by rw [eβ]; exact h3⟩
  | yl n=>exact absurd rfl (hne n)
  | undef=>exact hr
  | junk=>exact hr
 have hf:∀ c v,RepC w g st.look c v→RepC w' g' (st.mapS f).look (f c) v:=by
  intro c v hr
  by_cases hk:∃ k,c=.yl k
  ·obtain ⟨k,rfl⟩:=hk
   rcases hY.2 k with e | ⟨e1,e2⟩
   ·rw [e]; trivial
   ·rw [e1]
    have hr:v=.func (.yield (g.O.y k)) #[] #[]:=hr
    show v=.func (.yield (g'.O.y k)) #[] #[]
    rw [hr,hg']
    show _=Value.func (.yield (W'.Y k)) #[] #[]
    rw [e2,hs.out.2]
  ·have hne:∀ k,c≠.yl k:=fun k e=>hk ⟨k,e⟩
   rw [hY.1 c hne]
   exact hf0 c v hne hr
 have hfoot:∀ j b,Foot g' (st.mapS f).look j b→Foot g st.look j b:=fun j b h=>by
  rcases h with ⟨c,h1,h2⟩ | ⟨xs,r,h1,h2,h3⟩
  ·obtain ⟨b0,i1,i2⟩:=inv j _ h1
   cases b0 <;> simp [BC.mapB] at i2
   rw [eβ] at h2
   exact .inl ⟨_,i1,h2⟩
  ·rw [eφ] at h3
   exact .inr ⟨xs,r,invT j xs h1,h2,h3⟩
 refine ⟨g',h.bel,by rw [eI]; exact hs.sub,fun b hb=>?_,fun b hn hb=>?_,by rw [ht]; simp only [ASt.mapS,mapAs_len]; exact hs.len,hd,
  ?_,by simp only [ASt.mapS,mapAs_len]; exact hs.olen,
  slots_map (w':=w') (g':=g') (st':=st.mapS f) hf hIk hI (l:=st.out) (vs:=fun t=>ov.getD t undef) hs.outs,
  fun j c hl'=>?_,fun j xs hl' r x hx=>?_,fun j b hb=>?_,fun i j b h1 h2=>hs.apart i j b (hfoot i b h1) (hfoot j b h2),fun i xs r r' b h1 h2 h3 h4 h5=>hs.apartR i xs r r' b (invT i xs h1) h2 h3 (by rw [eφ] at h4; exact h4) (by rw [eφ] at h5; exact h5),fun b hb=>hb.elim,h.ok,fun b ob hb=>?_,by rw [hg']⟩
 ·rw [eI] at hb; exact Nat.lt_of_lt_of_le (hs.lt b hb) h.size
 ·rw [eI] at hb
  exact hs.old b (fun hN=>hn (h.new b hN (hs.lt b hb)).1) hb
 ·rw [ht]
  exact slots_map (w':=w') (g':=g') (st':=st.mapS f) hf hIk hI (l:=st.slots) (vs:=fun t=>a.tmps.getD t undef) hs.slots
 ·obtain ⟨b0,i1,i2⟩:=inv j _ hl'
  cases b0 with
  | tree xs=>simp [BC.mapB] at i2
  | cells c0 =>
   simp only [BC.mapB,BC.cells.injEq] at i2
   subst i2
   obtain ⟨us,t,h1,h2⟩:=hs.cells j c0 i1
   exact ⟨us,t,by rw [eβ,← h1]; exact hft j _ (.inl ⟨c0,i1,rfl⟩),h2.mapC hf⟩
 ·have hl2:=invT j xs hl'
  rw [eρ,eφ,eI]
  exact (hs.trees j xs hl2 r x hx).mv hIk (fun _ h=>h) (fun b h=>hft j b (.inr ⟨xs,r,hl2,(List.getElem?_eq_some_iff.1 hx).1,h⟩)) (fun _ h=>h)
 ·obtain ⟨h1,h2,h3,_⟩:=hs.foot j b (hfoot j b hb)
  rw [eI]
  exact ⟨(h.new b h1 h2).1,Nat.lt_of_lt_of_le h2 h.size,h3,fun h=>h⟩
 ·rw [hg'] at hb
  have hb:(g.O b).filter Obj.isCells=some ob:=hb
  cases ho:g.O b with
  | none=>rw [ho] at hb; cases hb
  | some o2 =>
   rw [ho] at hb
   simp only [Option.filter] at hb
   split at hb
   ·rename_i hcel
    cases hb
    obtain ⟨k1,k2⟩:=hs.out.1 b ob ho
    exact h.out b ob hcel k1 k2
   ·cases hb
theorem rebaseI {W W':Bs} (hs:Sim W I0 st a ov w) (h:Shift W W' I0 w w') (hY:W'.Y=W.Y) (ht:a'.tmps=a.tmps) (hd:a'.defers=W'.ds):Sim W' I0 st a' ov w':=by
 obtain ⟨g,hs⟩:=hs
 have:=rebase (f:=id) hs h ⟨fun c _=>rfl,fun k=>.inr ⟨rfl,by rw [hY]⟩⟩ ht hd
 rwa [mapS_id] at this
theorem rebaseY {W W':Bs} (hs:Sim W I0 st a ov w) (h:Shift W W' I0 w w') {n:Nat} (hY:∀ k,k < n→W'.Y k=W.Y k) (ht:a'.tmps=a.tmps) (hd:a'.defers=W'.ds):Sim W' I0 (st.mapS (CA.unY n)) a' ov w':=by
 obtain ⟨g,hs⟩:=hs
 refine rebase hs h ⟨fun c hc=>?_,fun k=>?_⟩ ht hd
 ·cases c with
  | yl k=>exact absurd rfl (hc k)
  | _=>rfl
 ·by_cases hk:k < n
  ·exact .inr ⟨by simp [CA.unY,blt_t hk],hY k hk⟩
  ·exact .inl (by simp [CA.unY,blt_f (Nat.le_of_not_lt hk)])
structure Marks (W B:Bs):Prop where
 at_:∀ d ∈ B.ds,∃ D,d={ target:=.collected D,args:=#[] }∧B.w.heap[D]? = some (.deferred (some []))∧¬ B.New D∧W.New D
 nodup:B.ds.Nodup
structure Ext (W B:Bs):Prop where
 new:∀ b,B.New b→W.New b
 bel:∀ w,B.Bel w→W.Bel w
 G:B.G=W.G
 Y:B.Y=W.Y
 out:∀ b ob,ob.isCells=true→B.w.heap[b]? = some ob→¬ B.L b→W.w.heap[b]? = some ob∧¬ W.L b
 marks:Marks W B
theorem Ext.refl {W:Bs} (h:W.ds=[]):Ext W W:=⟨fun _ h=>h,fun _ h=>h,rfl,rfl,fun _ _ _ h k=>⟨h,k⟩,⟨fun d hd=>(by rw [h] at hd; cases hd),(by rw [h]; exact .nil)⟩⟩
def Bs.fix (B:Bs) (w:World) (X:Nat→Prop) (ds:List Deferred) (Y:Nat→Nat):Bs:=⟨w,fun b=>B.New b∧b < w.heap.size∧¬ X b,B.G,ds,Y⟩
theorem new_lt {B:Bs} {b:Nat} (h:¬ B.New b):b < B.w.heap.size∧¬ B.L b:=⟨Nat.lt_of_not_le fun e=>h (.inl e),fun e=>h (.inr e)⟩
theorem fix_new {B:Bs} {w:World} {X:Nat→Prop} {ds:List Deferred} {Y:Nat→Nat} {b:Nat} (hB:B.w.heap.size≤w.heap.size) (h:(B.fix w X ds Y).New b):B.New b∧¬ (X b∧b < w.heap.size):=by
 rcases h with h | h
 ·have h:w.heap.size≤b:=h
  exact ⟨.inl (Nat.le_trans hB h),fun k=>by omega⟩
 ·exact ⟨h.1,fun k=>h.2.2 k.1⟩
theorem ok_fix {B:Bs} {w:World} {X:Nat→Prop} {ds:List Deferred} {Y:Nat→Nat} (hok:B.Ok I0) (hsz:B.w.heap.size≤w.heap.size) (h:∀ b,I0 b→w.heap[b]? = B.w.heap[b]?):(B.fix w X ds Y).Ok I0 :=
 ⟨fun b hb => ⟨Nat.lt_of_lt_of_le (hok.1 b hb).1 hsz, fun k => by
  obtain ⟨h1,h2⟩:=hok.1 b hb
  rcases k.1 with e | e
  ·omega
  ·exact h2 e⟩,B.G.mv h (fun _ h=>h) hok.2⟩
theorem ok_new {B:Bs} (hok:B.Ok I0) {b:Nat} (hb:I0 b):¬ B.New b:=fun h=>by
 obtain ⟨h1,h2⟩:=hok.1 b hb
 rcases h with e | e
 ·omega
 ·exact h2 e
theorem bel_at {B:Bs} (h:B.Bel w) {b:Nat} (hb:¬ B.New b):w.heap[b]? = B.w.heap[b]? := h.block b (new_lt hb).1 (new_lt hb).2
theorem putObj_at {w:World} {l k:Nat} {o:Obj} (h:k≠l):(w.putObj l o).heap[k]? = w.heap[k]? := World.putObj_heap_other h
theorem leave_sound {W:Bs} (hW:W.Ok I0) {fn:Func} {tm:Array Value} {R:Ending→World→Prop}:∀ (ds:List Deferred) (B:Bs) (w:World),B.ds=ds→Ext W B→Sim B I0 st { tmps:=tm,defers:=ds } ov w →
  (∀ w2 B2,Ext W B2→B2.ds=[]→Sim B2 I0 st { tmps:=tm,defers:=[] } ov w2→∃ v,(results fn tm).run P w2=.ok v w2∧R (.returned v) w2)→LeavesInM (Rd none) 0 P fn tm R ds .returning w
 | [],B,w,hds,hE,hs,hR=>by
  exact hR w B hE hds hs
 | d :: ds, B, w, hds, hE, hs, hR => by
  have hs0:=hs
  obtain ⟨g,hs0⟩:=hs0
  have hmem:d ∈ B.ds:=by rw [hds]; exact List.mem_cons_self
  obtain ⟨D,rfl,hD,hDn,hDW⟩:=hE.marks.at_ d hmem
  have hDw:w.heap[D]? = some (.deferred (some [])):=(bel_at hs0.below hDn).trans hD
  have hDl:D < w.heap.size:=(Array.getElem?_eq_some_iff.1 hDw).1
  have hnd:=hE.marks.nodup
  rw [hds] at hnd
  have hWw:W.Bel w:=hE.bel w hs0.below
  have hsz:B.w.heap.size≤w.heap.size:=hs0.below.size
  refine ⟨by simp,.inl ⟨D,w.putObj D (.deferred none),rfl,run_takeDeferred hDw,?_⟩⟩
  refine leave_sound hW ds (B.fix (w.putObj D (.deferred none)) (fun _=>False) ds B.Y) (w.putObj D (.deferred none)) rfl ⟨fun b hb=>hE.new b (fix_new (by simpa using hsz) hb).1,fun w2 hw2=>?_,hE.G,hE.Y,fun b ob hoc hb hl=>?_,⟨fun d2 hd2=>?_,(List.nodup_cons.1 hnd).2⟩⟩
   (rebaseI hs ⟨Bs.Bel.refl _,ok_fix hs0.base (by simpa using hsz) (fun b hb=>?_),by simp,fun b hb hlt=>⟨.inr ⟨hb,by simpa using hlt,fun h=>h⟩,putObj_at fun e=>hDn (e ▸ hb)⟩,fun b hb=>putObj_at fun e=>ok_new hW hb (e ▸ hDW),fun b ob hoc hb hl=>?_⟩ rfl rfl rfl) hR
  ·refine ⟨hw2.os.trans hWw.os,hw2.tape.trans hWw.tape,hw2.output.trans hWw.output,Nat.le_trans hWw.size (by have:=hw2.size; simpa [Bs.fix] using this),fun k hk hkl=>?_⟩
   have hkW:¬ W.New k:=fun e=>e.elim (fun e=>by omega) hkl
   have hkB:¬ B.New k:=fun e=>hkW (hE.new k e)
   have h1:=hw2.block k (by show k < (w.putObj D _).heap.size; simp; exact Nat.lt_of_lt_of_le hk hWw.size) (fun e=>hkB e.1)
   rw [h1]
   exact (putObj_at (show k≠D from fun e=>hkW (by rw [e]; exact hDW))).trans (hWw.block k hk hkl)
  ·have hb:(w.putObj D (.deferred none)).heap[b]? = some ob:=hb
   have hbD:b≠D:=fun e=>by
    subst e
    rw [World.putObj_heap_same hDl] at hb
    cases hb
    cases hoc
   rw [putObj_at hbD] at hb
   have hbl:b < w.heap.size:=(Array.getElem?_eq_some_iff.1 hb).1
   have hbn:¬ B.New b:=fun e=>hl ⟨e,by simpa using hbl,fun h=>h⟩
   exact hE.out b ob hoc (by rw [← bel_at hs0.below hbn]; exact hb) (new_lt hbn).2
  ·obtain ⟨D2,rfl,k1,k2,k3⟩:=hE.marks.at_ d2 (by rw [hds]; exact List.mem_cons_of_mem _ hd2)
   have hne:D2≠D:=fun e=>(List.nodup_cons.1 hnd).1 (by rw [← e]; exact hd2)
   exact ⟨D2,rfl,(putObj_at hne).trans ((bel_at hs0.below k2).trans k1),fun e=>k2 (fix_new (by simpa using hsz) e).1,k3⟩
  ·exact (putObj_at (show b≠D from fun e=>ok_new hW hb (by rw [e]; exact hDW))).trans (bel_at hs0.below (ok_new hs0.base hb))
  ·have hbn:¬ B.New b:=fun e=>e.elim (fun e=>by have:=(Array.getElem?_eq_some_iff.1 hb).1; omega) hl
   have hbD:b≠D:=fun e=>by
    subst e
    rw [hD] at hb
    cases hb
    cases hoc
   exact ⟨(putObj_at hbD).trans ((bel_at hs0.below hbn).trans hb),fun e=>hbn e.1⟩
structure Ent (w w1:World) (l:Nat) (mk:List Deferred) (R:Loop):Prop where
 os:w1.os=w.os
 tape:w1.tape=w.tape
 output:w1.output=w.output
 size:w.heap.size≤w1.heap.size
 keep:∀ k,k < w.heap.size→w1.heap[k]? = w.heap[k]?
 rc:w1.heap[l]? = some (.loop R)
 new:w.heap.size≤l
 fresh:∀ k ob,w.heap.size≤k→w1.heap[k]? = some ob→ob.isCells=false
 marks:∀ d ∈ mk,∃ D,d={ target:=.collected D,args:=#[] }∧w.heap.size≤D∧D≠l∧w1.heap[D]? = some (.deferred (some []))
 nodup:mk.Nodup
theorem alloc_keep (w:World) (o:Obj) {k:Nat} (h:k < w.heap.size):(w.alloc o).heap[k]? = w.heap[k]? := Below.heap_alloc _ _ _ (by omega)
theorem alloc_fresh {w:World} {o ob:Obj} (ho:o.isCells=false) {k:Nat} (hk:w.heap.size≤k) (h:(w.alloc o).heap[k]? = some ob):ob.isCells=false:=by
 have hl:=(Array.getElem?_eq_some_iff.1 h).1
 rw [World.size_alloc] at hl
 have e:k=w.heap.size:=by omega
 subst e
 rw [World.alloc_heap_new] at h
 cases h
 exact ho
theorem enter_loop {ro:Option Nat} (hro:∀ l,ro=some l→∃ r,w.heap[l]? = some (.loop r)) (fn:FuncId) (tmps:Array Value) (ps:Array Tmp) (assign body:Code) :
  ∃ l mk w1 R,(Instr.enterLoop fn tmps ps assign body ro).run P w=.ok (l,mk) w1∧Ent w w1 l mk R∧R.state=.ready∧R.pending=none∧R.tmps=tmps∧R.params=ps∧R.assign=assign∧R.body=body∧(ro.isSome=true→mk=[]):=by
 cases ro with
 | some l0 =>
  obtain ⟨r,hr⟩:=hro l0 rfl
  refine ⟨_,_,_,{ state:=.ready,pending:=none,fn,tmps,params:=ps,assign,body,defers:=r.defers },run_enterLoop_inner hr fn tmps ps assign body,⟨rfl,rfl,rfl,by simp,fun k hk=>alloc_keep w _ hk,World.alloc_heap_new w _,Nat.le_refl _,fun k ob hk h=>alloc_fresh rfl hk h,fun d hd=>by simp at hd,.nil⟩,rfl,rfl,rfl,rfl,rfl,rfl,fun _=>rfl⟩
 | none =>
  refine ⟨_,_,_,{ state:=.ready,pending:=none,fn,tmps,params:=ps,assign,body,defers:=w.heap.size },run_enterLoop_outer fn tmps ps assign body,⟨rfl,rfl,rfl,by simp; omega,fun k hk=>?_,?_,by omega,fun k ob hk h=>?_,fun d hd=>?_,by simp⟩,rfl,rfl,rfl,rfl,rfl,rfl,fun h=>by cases h⟩
  ·exact (alloc_keep _ _ (by simp; omega)).trans (alloc_keep w _ hk)
  ·have:=World.alloc_heap_new (w.alloc (.deferred (some []))) (.loop { state:=.ready,pending:=none,fn,tmps,params:=ps,assign,body,defers:=w.heap.size })
   rwa [World.size_alloc] at this
  ·by_cases h2:(w.alloc (.deferred (some []))).heap.size≤k
   ·exact alloc_fresh rfl h2 h
   ·rw [alloc_keep _ _ (by omega)] at h
    exact alloc_fresh rfl hk h
  ·simp only [List.mem_singleton] at hd
   subst hd
   exact ⟨_,rfl,Nat.le_refl _,by omega,(alloc_keep _ _ (by simp)).trans (World.alloc_heap_new w _)⟩
def Bs.over (B:Bs) (w w1:World) (n l:Nat):Bs:=B.fix w1 (fun b=>w.heap.size≤b) [] (fun k=>if k=n then l else B.Y k)
def Bs.behind (B:Bs) (w:World) (mk:List Deferred):Bs:=B.fix w (fun b=>({ target:=.collected b,args:=#[] }:Deferred) ∈ mk) (mk ++ B.ds) B.Y
theorem shift_over {B:Bs} {w1:World} {n l:Nat} {mk:List Deferred} {R:Loop} (hb:B.Bel w) (hok:B.Ok I0) (h:Ent w w1 l mk R):Shift B (B.over w w1 n l) I0 w w1:=by
 have hkeep:∀ b,¬ B.New b→w1.heap[b]? = B.w.heap[b]? := fun b hn=>(h.keep b (Nat.lt_of_lt_of_le (new_lt hn).1 hb.size)).trans (bel_at hb hn)
 refine ⟨Bs.Bel.refl _,ok_fix hok (Nat.le_trans hb.size h.size) (fun b hb'=>hkeep b (ok_new hok hb')),h.size,fun b hn hlt=>⟨.inr ⟨hn,Nat.lt_of_lt_of_le hlt h.size,by omega⟩,h.keep b hlt⟩,fun b hb'=>h.keep b (Nat.lt_of_lt_of_le (hok.1 b hb').1 hb.size),fun b ob _ h1 h2=>?_⟩
 have hn:¬ B.New b:=fun e=>e.elim (fun e=>by have:=(Array.getElem?_eq_some_iff.1 h1).1; omega) h2
 exact ⟨(hkeep b hn).trans h1,fun e=>hn e.1⟩
theorem over_back {W B B2:Bs} {w1 w3:World} {n l:Nat} {mk:List Deferred} {R:Loop} {o:Obj} (hE:Ext W B) (hb:B.Bel w) (hok:B.Ok I0) (h:Ent w w1 l mk R) (hE2:Ext (B.over w w1 n l) B2) (hb2:B2.Bel w3) :
  Shift B2 (B.behind (w3.putObj l o) mk) I0 w3 (w3.putObj l o)∧Ext W (B.behind (w3.putObj l o) mk):=by
 have hc:(B.over w w1 n l).Bel w3:=hE2.bel w3 hb2
 have hsz13:w1.heap.size≤w3.heap.size:=hc.size
 have hszB:B.w.heap.size≤w3.heap.size:=Nat.le_trans hb.size (Nat.le_trans h.size hsz13)
 have hszP:B.w.heap.size≤(w3.putObj l o).heap.size:=by simpa using hszB
 have hnl:∀ b,¬ B.New b→b < w.heap.size:=fun b hn=>Nat.lt_of_lt_of_le (new_lt hn).1 hb.size
 have hkeep:∀ b,¬ B.New b→w3.heap[b]? = B.w.heap[b]? := fun b hn=>by
  have h1:w3.heap[b]? = w1.heap[b]? := hc.block b (Nat.lt_of_lt_of_le (hnl b hn) h.size) (fun e=>hn e.1)
  rw [h1,h.keep b (hnl b hn)]
  exact bel_at hb hn
 have hkeepP:∀ b,¬ B.New b→(w3.putObj l o).heap[b]? = B.w.heap[b]? := fun b hn=>(putObj_at (show b≠l from fun e=>by have:=hnl b hn; have:=h.new; omega)).trans (hkeep b hn)
 have hover:∀ b,B2.New b→B.New b∧¬ (w.heap.size≤b∧b < w1.heap.size):=fun b hb'=>fix_new (Nat.le_trans hb.size h.size) (hE2.new b hb')
 have hBel:B.Bel (w3.putObj l o):=⟨by show w3.os=_; exact hc.os.trans (h.os.trans hb.os),by show w3.tape=_; exact hc.tape.trans (h.tape.trans hb.tape),by show w3.output=_; exact hc.output.trans (h.output.trans hb.output),hszP,fun k hk hl=>hkeepP k (fun e=>e.elim (fun e=>by omega) hl)⟩
 have hll:l < w1.heap.size:=(Array.getElem?_eq_some_iff.1 h.rc).1
 refine ⟨⟨Bs.Bel.refl _,ok_fix hok hszP (fun b hb'=>hkeepP b (ok_new hok hb')),by simp,fun b hn hlt=>?_,fun b hb'=>putObj_at (show b≠l from fun e=>by have:=hnl b (ok_new hok hb'); have:=h.new; omega),fun b ob hoc h1 h2=>?_⟩,⟨fun b hn=>hE.new b (fix_new hszP hn).1,fun w' hw'=>?_,hE.G,hE.Y,fun b ob hoc h1 h2=>?_,⟨fun d hd=>?_,?_⟩⟩⟩
 ·obtain ⟨k1,k2⟩:=hover b hn
  refine ⟨.inr ⟨k1,by simpa using hlt,fun hm=>?_⟩,putObj_at (show b≠l from fun e=>k2 ⟨by rw [e]; exact h.new,by rw [e]; exact hll⟩)⟩
  obtain ⟨D,e1,e2,_,e4⟩:=h.marks _ hm
  cases e1
  exact k2 ⟨e2,(Array.getElem?_eq_some_iff.1 e4).1⟩
 ·obtain ⟨j1,j2⟩:=hE2.out b ob hoc h1 h2
  have j1:w1.heap[b]? = some ob:=j1
  have hbl:b < w1.heap.size:=(Array.getElem?_eq_some_iff.1 j1).1
  have hbw:b < w.heap.size:=Nat.lt_of_not_le fun e=>by have:=h.fresh b ob e j1; rw [hoc] at this; cases this
  have hn:¬ B.New b:=fun e=>j2 ⟨e,hbl,by omega⟩
  refine ⟨(hkeepP b hn).trans ?_,fun e=>hn e.1⟩
  rw [← bel_at hb hn,← h.keep b hbw]
  exact j1
 ·refine hE.bel w' ⟨hw'.os.trans hBel.os,hw'.tape.trans hBel.tape,hw'.output.trans hBel.output,Nat.le_trans hszP hw'.size,fun k hk hl=>?_⟩
  have hn:¬ B.New k:=fun e=>e.elim (fun e=>by omega) hl
  exact (hw'.block k (Nat.lt_of_lt_of_le hk hszP) (fun e=>hn e.1)).trans (hkeepP k hn)
 ·have h1:(w3.putObj l o).heap[b]? = some ob:=h1
  have hbl:b < (w3.putObj l o).heap.size:=(Array.getElem?_eq_some_iff.1 h1).1
  have hn:¬ B.New b:=fun e=>h2 ⟨e,hbl,fun hm=>by
   obtain ⟨D,e1,e2,e3,e4⟩:=h.marks _ hm
   cases e1
   rw [putObj_at e3,hc.block b (Array.getElem?_eq_some_iff.1 e4).1 (fun e=>e.2.2 e2)] at h1
   have e4:(B.over w w1 n l).w.heap[b]? = some (.deferred (some [])):=e4
   rw [e4] at h1
   cases h1
   cases hoc⟩
  exact hE.out b ob hoc (by rw [← hkeepP b hn]; exact h1) (new_lt hn).2
 ·rcases List.mem_append.1 hd with hd | hd
  ·obtain ⟨D,rfl,e2,e3,e4⟩:=h.marks d hd
   have hDl:=(Array.getElem?_eq_some_iff.1 e4).1
   refine ⟨D,rfl,(putObj_at e3).trans ((hc.block D hDl (fun e=>e.2.2 e2)).trans e4),fun e=>?_,hE.new D (.inl (Nat.le_trans hb.size e2))⟩
   exact (fix_new hszP e).2 ⟨hd,by simp; omega⟩
  ·obtain ⟨D,rfl,k1,k2,k3⟩:=hE.marks.at_ d hd
   exact ⟨D,rfl,(hkeepP D k2).trans k1,fun e=>k2 (fix_new hszP e).1,k3⟩
 ·refine List.nodup_append.2 ⟨h.nodup,hE.marks.nodup,fun d hd d2 hd2 e=>?_⟩
  subst e
  obtain ⟨D,rfl,e2,_,_⟩:=h.marks d hd
  obtain ⟨D2,e5,_,k2,_⟩:=hE.marks.at_ _ hd2
  cases e5
  have:=hnl D k2
  omega
def YOk (W:Bs) (ys:List Rng) (ov:List Value):Prop :=
 (∀ m y, ys[m]? = some y → ∃ R : Loop, W.w.heap[W.Y m]? = some (.loop R) ∧ ¬ W.New (W.Y m) ∧ R.params = y.ps ∧ R.assign = y.assign ∧ R.body = y.body ∧ R.tmps.size = y.nt ∧
  (ov.drop y.off).take y.nt=R.tmps.toList∧(y.busy=false→R.state=.ready∧R.pending=none)) ∧
 ∀ m m',m < ys.length→m' < ys.length→W.Y m=W.Y m'→m=m'
structure Fr where
 ov:List Value
 nt:Nat
 fi:FuncId
 W:Bs
 ys:List Rng
 ro:Option Nat
structure Fr.Ok (I0:Nat→Prop) (F:Fr):Prop where
 ys:YOk F.W F.ys F.ov
 ok:F.W.Ok I0
 ds:F.W.ds=[]
 ro:∀ l,F.ro=some l→∃ R:Loop,F.W.w.heap[l]? = some (.loop R)∧¬ F.W.New l
 yI:∀ m,m < F.ys.length→¬ I0 (F.W.Y m)
def Bs.noD (B:Bs):Bs:=⟨B.w,B.L,B.G,[],B.Y⟩
theorem noD_bel {B:Bs} {w:World}:B.noD.Bel w ↔ B.Bel w:=⟨fun h=>⟨h.os,h.tape,h.output,h.size,h.block⟩,fun h=>⟨h.os,h.tape,h.output,h.size,h.block⟩⟩
theorem shift_noD {B:Bs} (hb:B.Bel w) (hok:B.Ok I0):Shift B B.noD I0 w w:=⟨noD_bel.2 hb,hok,Nat.le_refl _,fun b h _=>⟨h,rfl⟩,fun _ _=>rfl,fun b ob _ h k=>⟨h,k⟩⟩
theorem take_app {α:Type} {l t:List α} {off nt:Nat} {r:List α} (h:(l.drop off).take nt=r) (hr:r.length=nt):((l ++ t).drop off).take nt=r:=by
 have h1:=congrArg List.length h
 simp only [List.length_take,List.length_drop,hr] at h1
 by_cases h0:nt=0
 ·subst h0
  simp at h ⊢
  exact h
 ·rw [List.drop_append_of_le_length (by omega),List.take_append_of_le_length (by simp; omega)]
  exact h
theorem YOk.mono {W W':Bs} {ys:List Rng} {t:List Value} (h:YOk W ys ov) (hk:∀ m,m < ys.length→W'.Y m=W.Y m∧W'.w.heap[W.Y m]? = W.w.heap[W.Y m]? ∧ ¬ W'.New (W.Y m)):YOk W' ys (ov ++ t):=by
 refine ⟨fun m y hm=>?_,fun m m' hm hm' e=>?_⟩
 ·obtain ⟨R,h1,h2,h3,h4,h5,h6,h7,h8⟩:=h.1 m y hm
  obtain ⟨k1,k2,k3⟩:=hk m (List.getElem?_eq_some_iff.1 hm).1
  exact ⟨R,by rw [k1,k2]; exact h1,by rw [k1]; exact k3,h3,h4,h5,h6,take_app h7 (by simpa using h6),h8⟩
 ·rw [(hk m hm).1,(hk m' hm').1] at e
  exact h.2 m m' hm hm' e
theorem Ext.keep {W B:Bs} (h:Ext W B) (hb:B.Bel B.w) {b:Nat} (hn:¬ W.New b):B.w.heap[b]? = W.w.heap[b]? ∧ ¬ B.New b:=⟨bel_at (h.bel _ hb) hn,fun e=>hn (h.new b e)⟩
theorem YOk.ext {W B:Bs} {ys:List Rng} {t:List Value} (h:YOk W ys ov) (hE:Ext W B):YOk B.noD ys (ov ++ t) :=
 h.mono fun m hm=>by
  obtain ⟨R,_,h2,_⟩:=h.1 m _ (List.getElem?_eq_getElem hm)
  obtain ⟨k1,k2⟩:=hE.keep (Bs.Bel.refl B) h2
  exact ⟨congrFun hE.Y m,k1,k2⟩
theorem Fr.Ok.opn {F:Fr} (h:F.Ok I0) {B:Bs} (hE:Ext F.W B) (hok:B.Ok I0) (t:List Value) (nt fi:Nat):Fr.Ok I0 ⟨F.ov ++ t,nt,fi,B.noD,F.ys,none⟩:=⟨h.ys.ext hE,hok,rfl,(fun l h=>by cases h),fun m hm=>by show ¬ I0 (B.Y m); rw [hE.Y]; exact h.yI m hm⟩
theorem Fr.Ok.over {F:Fr} (h:F.Ok I0) {B:Bs} (hE:Ext F.W B) (hb:B.Bel w) (hok:B.Ok I0) {w1:World} {l:Nat} {mk:List Deferred} {R:Loop} (he:Ent w w1 l mk R) (hR:R.state=.ready∧R.pending=none) {tm:Array Value} (ht:R.tmps=tm) (hnt:tm.size=F.nt)
  (nt fi:Nat):Fr.Ok I0 ⟨F.ov ++ tm.toList,nt,fi,B.over w w1 F.ys.length l,F.ys ++ [⟨F.ov.length,F.nt,F.fi,R.params,R.assign,R.body,false⟩],none⟩:=by
 have hold:∀ m,m < F.ys.length→(B.over w w1 F.ys.length l).Y m=F.W.Y m∧w1.heap[F.W.Y m]? = F.W.w.heap[F.W.Y m]? ∧ ¬ (B.over w w1 F.ys.length l).New (F.W.Y m)∧F.W.Y m < w.heap.size:=fun m hm=>by
  obtain ⟨R',_,h2,_⟩:=h.ys.1 m _ (List.getElem?_eq_getElem hm)
  obtain ⟨k1,k2⟩:=hE.keep (Bs.Bel.refl B) h2
  have hlt:F.W.Y m < w.heap.size:=Nat.lt_of_lt_of_le (new_lt k2).1 hb.size
  refine ⟨?_,?_,fun e=>k2 (fix_new (Nat.le_trans hb.size he.size) e).1,hlt⟩
  ·show (if m=F.ys.length then l else B.Y m)=_
   rw [if_neg (by omega),hE.Y]
  ·rw [he.keep _ hlt,bel_at hb k2]; exact k1
 have hYn:(B.over w w1 F.ys.length l).Y F.ys.length=l:=by show (if F.ys.length=F.ys.length then l else _)=l; rw [if_pos rfl]
 have hl1:l < w1.heap.size:=(Array.getElem?_eq_some_iff.1 he.rc).1
 refine ⟨⟨fun m y hm=>?_,fun m m' hm hm' e=>?_⟩,ok_fix hok (Nat.le_trans hb.size he.size) (fun b hb'=>?_),rfl,(fun l h=>by cases h),fun m hm=>?_⟩
 ·rcases Nat.lt_or_ge m F.ys.length with hlt | hge
  ·rw [List.getElem?_append_left hlt] at hm
   obtain ⟨R',h1,h2,h3,h4,h5,h6,h7,h8⟩:=h.ys.1 m y hm
   obtain ⟨k1,k2,k3,_⟩:=hold m hlt
   exact ⟨R',by show w1.heap[(B.over w w1 F.ys.length l).Y m]? = _; rw [k1,k2]; exact h1,by show ¬ (B.over w w1 F.ys.length l).New ((B.over w w1 F.ys.length l).Y m); rw [k1]; exact k3,h3,h4,h5,h6,take_app h7 (by simpa using h6),h8⟩
  ·have hm':=(List.getElem?_eq_some_iff.1 hm).1
   have e:m=F.ys.length:=by simp at hm'; omega
   subst e
   rw [List.getElem?_append_right (Nat.le_refl _),Nat.sub_self] at hm
   simp only [List.getElem?_cons_zero,Option.some.injEq] at hm
   subst hm
   refine ⟨R,by show w1.heap[(B.over w w1 F.ys.length l).Y F.ys.length]? = _; rw [hYn]; exact he.rc,fun e=>?_,rfl,rfl,rfl,by rw [ht]; exact hnt,?_,fun _=>hR⟩
   ·have e:(B.over w w1 F.ys.length l).New ((B.over w w1 F.ys.length l).Y F.ys.length):=e
    rw [hYn] at e
    exact (fix_new (Nat.le_trans hb.size he.size) e).2 ⟨he.new,hl1⟩
   ·rw [List.drop_append_of_le_length (Nat.le_refl _),List.drop_eq_nil_of_le (Nat.le_refl _),List.nil_append,ht,← hnt]
    exact List.take_of_length_le (by simp)
 ·simp only [List.length_append,List.length_singleton] at hm hm'
  have e:(B.over w w1 F.ys.length l).Y m=(B.over w w1 F.ys.length l).Y m':=e
  have hln:=he.new
  rcases Nat.lt_or_ge m F.ys.length with h1 | h1 <;> rcases Nat.lt_or_ge m' F.ys.length with h2 | h2
  ·rw [(hold m h1).1,(hold m' h2).1] at e
   exact h.ys.2 m m' h1 h2 e
  ·have e2:m'=F.ys.length:=by omega
   subst e2
   rw [(hold m h1).1,hYn] at e
   have:=(hold m h1).2.2.2
   omega
  ·have e2:m=F.ys.length:=by omega
   subst e2
   rw [(hold m' h2).1,hYn] at e
   have:=(hold m' h2).2.2.2
   omega
  ·omega
 ·exact (he.keep b (Nat.lt_of_lt_of_le (hok.1 b hb').1 hb.size)).trans (bel_at hb (ok_new hok hb'))
 ·simp only [List.length_append,List.length_singleton] at hm
  show ¬ I0 ((B.over w w1 F.ys.length l).Y m)
  rcases Nat.lt_or_ge m F.ys.length with h1 | h1
  ·rw [(hold m h1).1]; exact h.yI m h1
  ·have e2:m=F.ys.length:=by omega
   subst e2
   rw [hYn]
   intro e
   have:=(hok.1 l e).1
   have:=hb.size
   have:=he.new
   omega
structure Rnd (B W:Bs) (l:Nat) (R:Loop):Prop where
 new:∀ b,W.New b→B.New b
 keep:∀ b,¬ B.New b→b≠l→¬ W.New b∧W.w.heap[b]? = B.w.heap[b]?
 rc:W.w.heap[l]? = some (.loop { R with state:=.busy })
 own:¬ W.New l
 own0:¬ B.New l
 rc0:B.w.heap[l]? = some (.loop R)
 ready:R.state=.ready∧R.pending=none
 out:∀ b ob,ob.isCells=true→W.w.heap[b]? = some ob→¬ W.L b→B.w.heap[b]? = some ob∧¬ B.L b
 size:B.w.heap.size≤W.w.heap.size
 os:W.w.os=B.w.os
 tape:W.w.tape=B.w.tape
 output:W.w.output=B.w.output
 Y:W.Y=B.Y
 G:W.G=B.G
 ds:W.ds=[]
def Bs.round (B:Bs) (w:World) (l:Nat) (R:Loop):Bs:=B.fix (w.putObj l (.loop { R with state:=.busy })) (fun _=>False) [] B.Y
theorem round_begin {B B1:Bs} {l:Nat} {R:Loop} (hE:Ext B.noD B1) (hb:B1.Bel w) (hok:B1.Ok I0) (hl:¬ B.New l) (hr:B.w.heap[l]? = some (.loop R)) (hR:R.state=.ready∧R.pending=none) (hI:¬ I0 l) :
  Rnd B (B1.round w l R) l R∧Shift B1 (B1.round w l R) I0 w (w.putObj l (.loop { R with state:=.busy }))∧(Instr.beginRound l).run P w=.ok () (w.putObj l (.loop { R with state:=.busy }))∧(B1.round w l R).Ok I0:=by
 have hW:B.Bel w:=noD_bel.1 (hE.bel w hb)
 have hB1:∀ b,¬ B.New b→¬ B1.New b:=fun b h e=>h (hE.new b e)
 have hwl:w.heap[l]? = some (.loop R):=(bel_at hW hl).trans hr
 have hll:l < w.heap.size:=(Array.getElem?_eq_some_iff.1 hwl).1
 have hszP:B1.w.heap.size≤(w.putObj l (.loop { R with state:=.busy })).heap.size:=by simpa using hb.size
 have hkI:∀ b,I0 b→b≠l:=fun b hb' e=>hI (e ▸ hb')
 have hok':(B1.round w l R).Ok I0:=ok_fix hok hszP (fun b hb'=>(putObj_at (hkI b hb')).trans (bel_at hb (ok_new hok hb')))
 refine ⟨⟨fun b hn=>hE.new b (fix_new hszP hn).1,fun b hn hne=>⟨fun e=>hB1 b hn (fix_new hszP e).1,(putObj_at hne).trans (bel_at hW hn)⟩,World.putObj_heap_same hll,fun e=>hB1 l hl (fix_new hszP e).1,hl,hr,hR,fun b ob hoc h1 h2=>?_,Nat.le_trans hW.size (by show _≤(w.putObj l _).heap.size; simp),hW.os,hW.tape,hW.output,hE.Y,hE.G,rfl⟩,
  ⟨Bs.Bel.refl _,hok',by simp,fun b hn hlt=>⟨.inr ⟨hn,by simpa using hlt,fun h=>h⟩,putObj_at (show b≠l from fun e=>hB1 l hl (by rw [← e]; exact hn))⟩,fun b hb'=>putObj_at (hkI b hb'),fun b ob hoc h1 h2=>?_⟩,run_beginRound hwl hR.1,hok'⟩
 ·have h1:(w.putObj l (.loop { R with state:=.busy })).heap[b]? = some ob:=h1
  have hbl:b≠l:=fun e=>by
   subst e
   rw [World.putObj_heap_same hll] at h1
   cases h1
   cases hoc
  rw [putObj_at hbl] at h1
  have hn1:¬ B1.New b:=fun e=>h2 ⟨e,by simpa using (Array.getElem?_eq_some_iff.1 h1).1,fun h=>h⟩
  exact hE.out b ob hoc (by rw [← bel_at hb hn1]; exact h1) (new_lt hn1).2
 ·have hn1:¬ B1.New b:=fun e=>e.elim (fun e=>by have:=(Array.getElem?_eq_some_iff.1 h1).1; omega) h2
  have hbl:b≠l:=fun e=>by
   subst e
   rw [← bel_at hb hn1,hwl] at h1
   cases h1
   cases hoc
  exact ⟨(putObj_at hbl).trans ((bel_at hb hn1).trans h1),fun e=>hn1 e.1⟩
theorem round_end {B W B3:Bs} {l:Nat} {R:Loop} {w3:World} (h:Rnd B W l R) (hE:Ext W B3) (hb:B3.Bel w3) (hok:B.Ok I0) (hI:¬ I0 l) :
  (Instr.endRound l none).run P w3=.ok (.bool true) (w3.putObj l (.loop R))∧Shift B3 B I0 w3 (w3.putObj l (.loop R)):=by
 have hW:W.Bel w3:=hE.bel w3 hb
 have hwl:w3.heap[l]? = some (.loop { R with state:=.busy }):=(bel_at hW h.own).trans h.rc
 have hll:l < w3.heap.size:=(Array.getElem?_eq_some_iff.1 hwl).1
 have hR:({ R with state:=.busy }:Loop)={ R with state:=.busy }:=rfl
 have e:({ ({ R with state:=.busy }:Loop) with state:=.ready,pending:=none }:Loop)=R:=by
  obtain ⟨h1,h2⟩:=h.ready
  cases R
  simp only at h1 h2
  subst h1 h2
  rfl
 have hrun:=run_endRound (P:=P) none hwl
 simp only [Option.isNone_none,if_true] at hrun
 rw [e] at hrun
 have hkI:∀ b,I0 b→b≠l:=fun b hb' e=>hI (e ▸ hb')
 have hkeep:∀ b,¬ B.New b→b≠l→w3.heap[b]? = B.w.heap[b]? := fun b hn hne=>(bel_at hW (h.keep b hn hne).1).trans (h.keep b hn hne).2
 have hnew:∀ b,B3.New b→B.New b∧b≠l:=fun b hn=>⟨h.new b (hE.new b hn),fun e=>h.own (e ▸ hE.new b hn)⟩
 refine ⟨hrun,⟨hW.os.trans h.os,hW.tape.trans h.tape,hW.output.trans h.output,by simpa using Nat.le_trans h.size hW.size,fun k hk hl=>?_⟩,hok,by simp,fun b hn hlt=>⟨(hnew b hn).1,putObj_at (hnew b hn).2⟩,fun b hb'=>putObj_at (hkI b hb'),fun b ob hoc h1 h2=>?_⟩
 ·have hn:¬ B.New k:=fun e=>e.elim (fun e=>by omega) hl
  by_cases hkl:k=l
  ·subst hkl
   rw [World.putObj_heap_same hll]
   exact h.rc0.symm
  ·exact (putObj_at hkl).trans (hkeep k hn hkl)
 ·obtain ⟨k1,k2⟩:=hE.out b ob hoc h1 h2
  exact h.out b ob hoc k1 k2
theorem busyAt_len:∀ (ys:List Rng) (m:Nat),(busyAt ys m).length=ys.length
 | [],_=>rfl
 | y :: l,0=>rfl
 | y :: l,m + 1=>by simp [busyAt,busyAt_len l m]
theorem busyAt_get:∀ {ys:List Rng} {m k:Nat} {y:Rng},(busyAt ys m)[k]? = some y→∃ y0,ys[k]? = some y0∧((k=m∧y={ y0 with busy:=true })∨(k≠m∧y=y0))
 | [],m,k,y,h=>by simp [busyAt] at h
 | y0 :: l,0,0,y,h=>by simp [busyAt] at h; exact ⟨y0,rfl,.inl ⟨rfl,h.symm⟩⟩
 | y0 :: l,0,k + 1,y,h=>by simp [busyAt] at h; exact ⟨y,by simpa using h,.inr ⟨by omega,rfl⟩⟩
 | y0 :: l,m + 1,0,y,h=>by simp [busyAt] at h; exact ⟨y0,rfl,.inr ⟨by omega,h.symm⟩⟩
 | y0 :: l,m + 1,k + 1,y,h=>by
  simp only [busyAt,List.getElem?_cons_succ] at h
  obtain ⟨y1,h1,h2⟩:=busyAt_get h
  exact ⟨y1,by simpa using h1,h2.imp (fun h=>⟨by omega,h.2⟩) (fun h=>⟨by omega,h.2⟩)⟩
theorem YOk.busy {W:Bs} {ys:List Rng} (h:YOk W ys ov) (m:Nat):YOk W (busyAt ys m) ov:=by
 refine ⟨fun k y hk=>?_,fun k k' hk hk' e=>h.2 k k' (by rwa [busyAt_len] at hk) (by rwa [busyAt_len] at hk') e⟩
 obtain ⟨y0,h0,⟨rfl,rfl⟩ | ⟨_,rfl⟩⟩:=busyAt_get hk
 ·obtain ⟨R,h1,h2,h3,h4,h5,h6,h7,h8⟩:=h.1 k y0 h0
  exact ⟨R,h1,h2,h3,h4,h5,h6,h7,fun h=>by cases h⟩
 ·exact h.1 k y h0
theorem Fr.Ok.yld0 {F:Fr} (h:F.Ok I0) {B:Bs} (hE:Ext F.W B) (hok:B.Ok I0) (t:List Value) (nt m fi:Nat) (hm:m < F.ys.length):Fr.Ok I0 ⟨F.ov ++ t,nt,fi,B.noD,busyAt F.ys m,some (F.W.Y m)⟩:=by
 refine ⟨(h.ys.ext hE).busy m,hok,rfl,fun l hl=>?_,fun k hk=>by show ¬ I0 (B.Y k); rw [hE.Y]; exact h.yI k (by rwa [busyAt_len] at hk)⟩
 cases hl
 obtain ⟨R,h1,h2,_⟩:=h.ys.1 m _ (List.getElem?_eq_getElem hm)
 obtain ⟨k1,k2⟩:=hE.keep (Bs.Bel.refl B) h2
 exact ⟨R,k1.trans h1,k2⟩
theorem Fr.Ok.yld1 {F:Fr} (h:F.Ok I0) {B W:Bs} (hE:Ext F.W B) {m:Nat} {R:Loop} (hm:m < F.ys.length) (hR:Rnd B W (F.W.Y m) R) (hok:W.Ok I0) (t:List Value) (nt fi:Nat):Fr.Ok I0 ⟨F.ov ++ t,nt,fi,W,busyAt F.ys m,some (F.W.Y m)⟩:=by
 refine ⟨⟨fun k y hk=>?_,fun k k' hk hk' e=>?_⟩,hok,hR.ds,fun l hl=>?_,fun k hk=>by show ¬ I0 (W.Y k); rw [hR.Y,hE.Y]; exact h.yI k (by rwa [busyAt_len] at hk)⟩
 ·obtain ⟨y0,h0,hy⟩:=busyAt_get hk
  obtain ⟨R',h1,h2,h3,h4,h5,h6,h7,h8⟩:=h.ys.1 k y0 h0
  obtain ⟨k1,k2⟩:=hE.keep (Bs.Bel.refl B) h2
  have hYk:W.Y k=F.W.Y k:=by rw [hR.Y,hE.Y]
  rcases hy with ⟨rfl,rfl⟩ | ⟨hne,rfl⟩
  ·have e:R'=R:=by
    have:=k1.symm.trans hR.rc0
    rw [h1] at this
    cases this
    rfl
   subst e
   exact ⟨{ R' with state:=.busy },by rw [hYk]; exact hR.rc,by rw [hYk]; exact hR.own,h3,h4,h5,h6,take_app h7 (by simpa using h6),fun h=>by cases h⟩
  ·have hne2:F.W.Y k≠F.W.Y m:=fun e=>hne (h.ys.2 k m (List.getElem?_eq_some_iff.1 h0).1 hm e)
   obtain ⟨j1,j2⟩:=hR.keep _ k2 hne2
   exact ⟨R',by rw [hYk]; exact j2.trans (k1.trans h1),by rw [hYk]; exact j1,h3,h4,h5,h6,take_app h7 (by simpa using h6),h8⟩
 ·simp only [busyAt_len] at hk hk'
  rw [hR.Y,hE.Y] at e
  exact h.ys.2 k k' hk hk' e
 ·cases hl
  exact ⟨_,hR.rc,hR.own⟩
end
end Go.Ab
end

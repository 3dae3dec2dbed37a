import Derived.Test.YtjdjnejdjhfmcaaIM8
import Derived.Test.YtjdjnejdjhfmcaaIM5
import Derived.Lib.AppendStr
import Derived.Laws.BytesString
set_option linter.all false
section
namespace Go.Ab
open Go.RowKit
section
variable {P:Program} {E:Env} {C:Cal} {w0:Bs} {w w':World} {I0 I R:Nat→Prop} {g g':Gh} {st st':ASt} {a:Act} {ov:List Value} {look:Look} {Q:Exit→Act→World→Prop} {id:Nat}
variable {dst:Option Tmp} {type:TypeId} {pos:String} {after:Array Edge} {guard:Option (Nat × Bool)}
theorem cQ {ps qs:List Prim} {st:ASt}:ae dst (ps ++ qs) st=(ae dst ps st).bind (ae dst qs):=by
 induction ps generalizing st with
 | nil=>rfl
 | cons p ps ih =>
  simp only [List.cons_append,ae]
  cases p.app st dst with
  | none=>rfl
  | some s1=>exact ih
structure Kept (ts:List (Nat × Nat)) (g:Gh) (st:ASt) (g1:Gh) (st1:ASt):Prop where
 slots:st1.slots.length=st.slots.length
 out:st1.out.length=st.out.length
 boxes:st1.boxes.length=st.boxes.length
 none:∀ j,st.look j=none→st1.look j=none
 tree:∀ j xs,(∀ r,ie j r ts=false)→st.look j=some (.tree xs)→st1.look j=some (.tree xs)∧g1.ρ j=g.ρ j∧g1.φ j=g.φ j
 root:∀ j r xs x,ie j r ts=false→st.look j=some (.tree xs)→xs[r]? = some x→∃ xs1,st1.look j=some (.tree xs1)∧xs1[r]? = some x∧g1.ρ j r=g.ρ j r∧g1.φ j r=g.φ j r
 I:∀ b,g.I b→g1.I b
 cells:∀ j cs,st.look j=some (.cells cs)→∃ cs1,st1.look j=some (.cells cs1)∧cs1.length=cs.length∧g1.β j=g.β j
theorem Kept.refl (ts:List (Nat × Nat)) (g:Gh) (st:ASt):Kept ts g st g st :=
 ⟨rfl,rfl,rfl,fun _ h=>h,fun _ _ _ h=>⟨h,rfl,rfl⟩,fun _ _ xs _ _ h hx=>⟨xs,h,hx,rfl,rfl⟩,fun _ h=>h,fun _ cs h=>⟨cs,h,rfl,rfl⟩⟩
theorem r9 (i r:Nat):∀ l:List (Nat × Nat),ie i r l=true ↔ (i,r) ∈ l
 | []=>by simp [ie]
 | (a, b) :: l => by
  simp only [ie,List.mem_cons,Prod.mk.injEq]
  cases h1:a.beq i with
  | false =>
   have:a≠i:=fun e=>by subst e; simp at h1
   simp only [Bool.false_and,cond_false,r9 i r l]
   constructor
   ·exact .inr
   ·rintro (⟨e,_⟩ | h)
    ·exact absurd e.symm this
    ·exact h
  | true =>
   have e1:=(aJ _ _).1 h1
   subst e1
   cases h2:b.beq r with
   | false =>
    have:b≠r:=fun e=>by subst e; simp at h2
    simp only [Bool.true_and,cond_false,r9 a r l]
    constructor
    ·exact .inr
    ·rintro (⟨_,e⟩ | h)
     ·exact absurd e.symm this
     ·exact h
   | true =>
    have e2:=(aJ _ _).1 h2
    subst e2
    simp
theorem da (i r:Nat) (l:List (Nat × Nat)):ie i r l=false ↔ (i,r) ∉ l:=by
 rw [← r9]; cases ie i r l <;> simp
theorem en {i r:Nat} {xs:List TV} {x:TV} (h:look i=some (.tree xs)):ct look i r x=some (.tree (ao xs r x)):=by simp [ct,h]
theorem jW {x:TV} {v:Value} {S:Nat→Prop} (h:am w I x v S) (hf:x.la=true):Rep w I x v:=by
 cases x with
 | lit z=>exact (bg h) ▸ .lit _
 | sl o s xs =>
  cases o with
  | false=>exact Dd h
  | true=>simp [TV.la] at hf
 | _=>simp [TV.la] at hf
theorem tp (hs:al w0 I0 R g st a ov w) {i r:Nat} {xs:List TV} {x:TV} (hl:st.look i=some (.tree xs)) (hx:xs[r]? = some x) :
  ∃ st1 g1,ae dst [.drop i r [] false,.root i r .hole] st=some st1∧al w0 I0 (fun b=>R b∨g.φ i r b) g1 st1 a ov w∧g1.I=g.I∧Kept [(i,r)] g st g1 st1∧(∀ b,g.φ i r b→¬ R b) ∧
   (∀ c v,bO w g st.look c v→bO w g1 st1.look (c.drop i r [] false) v):=by
 obtain ⟨h1,h2,h3,h4⟩:=hs.take hl hx
 have hi:=gE hl
 have hlm:(st.az (CA.drop i r [] false)).look i=some (.tree xs):=by rw [aN,hl]; rfl
 refine ⟨_,_,by simp only [ae,Prim.app,en hlm],h1,rfl,⟨?_,?_,?_,?_,?_,?_,fun _ h=>h,fun j cs hj=>?_⟩,h3,h4⟩
 ·simp [ASt.ac,ASt.az,bC]
 ·simp [ASt.ac,ASt.az,bC]
 ·simp [ASt.ac,ASt.az,ai,pp]
 ·intro j hj
  have hne:i≠j:=fun e=>by subst e; rw [hl] at hj; cases hj
  rw [ah,if_neg (fun h=>hne h.1),aN,hj]
  rfl
 ·intro j ys hj hlj
  have hne:i≠j:=fun e=>by
   subst e
   have:=hj r
   rw [da] at this
   exact this (by simp)
  have hne':j≠i:=fun h=>hne h.symm
  refine ⟨by rw [ah,if_neg (fun h=>hne h.1),aN,hlj]; rfl,?_,?_⟩
  ·funext k; simp [Gh.dT,hne']
  ·funext k; simp [Gh.dT,hne']
 ·intro j k ys y hm hlj hy
  rw [da] at hm
  by_cases hij:i=j
  ·subst hij
   rw [hl] at hlj
   cases hlj
   have hk:k≠r:=fun e=>hm (by rw [e]; simp)
   refine ⟨ao xs r .hole,by rw [ah,if_pos ⟨rfl,by rw [fX]; exact hi⟩],by rw [ai,List.getElem?_set_ne (fun h=>hk h.symm)]; exact hy,by simp [Gh.dT,hk],by simp [Gh.dT,hk]⟩
  ·have hne':j≠i:=fun h=>hij h.symm
   exact ⟨ys,by rw [ah,if_neg (fun h=>hij h.1),aN,hlj]; rfl,hy,by simp [Gh.dT,hne'],by simp [Gh.dT,hne']⟩
 ·have hij:i≠j:=fun e=>by subst e; rw [hl] at hj; cases hj
  exact ⟨_,by rw [ah,if_neg (fun h=>hij h.1),aN,hj]; rfl,tC _ _,rfl⟩
theorem Kept.trans {ts ts':List (Nat × Nat)} {g g1 g2:Gh} {st st1 st2:ASt} (h:Kept ts g st g1 st1) (k:Kept ts' g1 st1 g2 st2):Kept (ts ++ ts') g st g2 st2:=by
 have sp:∀ j r,ie j r (ts ++ ts')=false→ie j r ts=false∧ie j r ts'=false:=fun j r hm=>by
  simp only [da,List.mem_append,not_or] at hm ⊢
  exact hm
 refine ⟨k.slots.trans h.slots,k.out.trans h.out,k.boxes.trans h.boxes,fun j hj=>k.none j (h.none j hj),fun j xs hm hl=>?_,fun j r xs x hm hl hx=>?_,fun b hb=>k.I b (h.I b hb),fun j cs hj=>(by
  obtain ⟨c1,e1,e2,e3⟩:=h.cells j cs hj
  obtain ⟨c2,f1,f2,f3⟩:=k.cells j c1 e1
  exact ⟨c2,f1,f2.trans e2,f3.trans e3⟩)⟩
 ·obtain ⟨h1,h2,h3⟩:=h.tree j xs (fun r=>(sp j r (hm r)).1) hl
  obtain ⟨k1,k2,k3⟩:=k.tree j xs (fun r=>(sp j r (hm r)).2) h1
  exact ⟨k1,k2.trans h2,k3.trans h3⟩
 ·obtain ⟨xs1,h1,h2,h3,h4⟩:=h.root j r xs x (sp j r hm).1 hl hx
  obtain ⟨xs2,k1,k2,k3,k4⟩:=k.root j r xs1 x (sp j r hm).2 h1 h2
  exact ⟨xs2,k1,k2,k3.trans h3,k4.trans h4⟩
inductive Gd where
 | fr (y:TV)
 | tk (i r:Nat) (x y:TV)
def Gd.y:Gd→TV
 | .fr y=>y
 | .tk _ _ _ y=>y
def Gd.qs:Gd→List Prim
 | .fr _=>[]
 | .tk i r _ _=>[.drop i r [] false,.root i r .hole]
def Gd.ts:Gd→List (Nat × Nat)
 | .fr _=>[]
 | .tk i r _ _=>[(i,r)]
def BN (w:World) (g:Gh) (look:Look):Gd→Value→Prop
 | .fr y,u=>Rep w g.I y u∧u.oneCell'=true
 | .tk i r x y,u=>u.oneCell'=true∧(∃ xs,look i=some (.tree xs)∧xs[r]? = some x)∧∀ (I S:Nat→Prop),am w I x (g.ρ i r) S→am w I y u S
theorem gS {T:Type} (hlk:∀ i b,look i=some b→st.look i=some b) (hs:al w0 I0 R g st a ov w):∀ {cs:List CA} {us:List Value} {k:List TV→List Prim→List (Nat × Nat)→Prg T} {e:T},CR w g st.look cs us→(bH look cs k).hits C e →
  ∃ ds:List Gd,(k (ds.map Gd.y) (ds.flatMap Gd.qs) (ds.flatMap Gd.ts)).hits C e∧ds.length=cs.length∧∀ (m:Nat) (d:Gd) (u:Value),ds[m]? = some d→us[m]? = some u→BN w g st.look d u
 | [],us,k,e,hcr,h=>⟨[],h,rfl,fun m d u hd=>by simp at hd⟩
 | c :: l, us, k, e, hcr, h => by
  obtain ⟨u0,us',rfl⟩:∃ u0 us',us=u0 :: us':=by
   cases us with
   | nil=>have:=hcr.1; simp at this
   | cons u0 us'=>exact ⟨u0,us',rfl⟩
  have hc:=hcr.2 0 c u0 rfl rfl
  have hcr':CR w g st.look l us':=⟨by have:=hcr.1; simpa using this,fun j c' u hc' hu'=>hcr.2 (j + 1) c' u (by simpa using hc') (by simpa using hu')⟩
  have fin:∀ (d:Gd),BN w g st.look d u0→(bH look l fun xs ps ts=>k (d.y :: xs) (d.qs ++ ps) (d.ts ++ ts)).hits C e→∃ ds:List Gd,(k (ds.map Gd.y) (ds.flatMap Gd.qs) (ds.flatMap Gd.ts)).hits C e∧ds.length=(c :: l).length∧∀ (m:Nat) (d:Gd) (u:Value),ds[m]? = some d→(u0 :: us')[m]? = some u→BN w g st.look d u:=by
   intro d hd hh
   obtain ⟨ds,h1,h2,h3⟩:=gS hlk hs hcr' hh
   refine ⟨d :: ds,by simpa using h1,by simp [h2],fun m d' u hm hu=>?_⟩
   cases m with
   | zero=>simp at hm hu; subst hm hu; exact hd
   | succ m=>simp at hm hu; exact h3 m d' u hm hu
  cases c with
  | t x =>
   simp only [bH] at h
   exact fin (.fr x) ⟨hc.1.1,hc.2⟩ (by simpa [Gd.y,Gd.qs,Gd.ts] using h)
  | sref i r p =>
   simp only [bH] at h
   split at h
   ·rename_i x hx
    obtain ⟨xs,h1,h2⟩:=aG hx
    obtain ⟨xs',x',nd,g1,g2,g3,g4⟩:=hc.1
    rw [hlk _ _ h1] at g1
    cases g1
    rw [h2] at g2
    cases g2
    split at h
    ·refine fin (.tk i r x x) ⟨hc.2,⟨xs,hlk _ _ h1,h2⟩,fun I S hr=>?_⟩ (by simpa [Gd.y,Gd.qs,Gd.ts] using h)
     rw [g3.1]; exact hr
    ·obtain ⟨y,hy,hf,h⟩:=h
     obtain ⟨_,S',r1,_⟩:=hs.at (hlk _ _ h1) h2 g3 hy
     exact fin (.fr y) ⟨jW r1 hf,hc.2⟩ (by simpa [Gd.y,Gd.qs,Gd.ts] using h)
   ·exact h.elim
  | swin i r p lo len =>
   simp only [bH] at h
   split at h
   ·rename_i x hx
    obtain ⟨xs,h1,h2⟩:=aG hx
    obtain ⟨xs',x',u,nd,g1,g2,g3,g4,g5⟩:=hc.1
    rw [hlk _ _ h1] at g1
    cases g1
    rw [h2] at g2
    cases g2
    split at h
    ·obtain ⟨y,hy,h⟩:=h
     refine fin (.tk i r x y) ⟨hc.2,⟨xs,hlk _ _ h1,h2⟩,fun I S hr=>?_⟩ (by simpa [Gd.y,Gd.qs,Gd.ts] using h)
     rw [← g3.1] at hr
     exact eo hr g3.2 g5 hy
    ·obtain ⟨z,hz,y,hy,hf,h⟩:=h
     obtain ⟨e1,S',r1,_⟩:=hs.at (hlk _ _ h1) h2 g3 hz
     exact fin (.fr y) ⟨jW (eo r1 e1 g5 hy) hf,hc.2⟩ (by simpa [Gd.y,Gd.qs,Gd.ts] using h)
   ·exact h.elim
  | _=>simp [bH,Prg.hits] at h
theorem eD:∀ (ds:List Gd) {us:List Value} {st:ASt} {g:Gh} {R:Nat→Prop},al w0 I0 R g st a ov w→us.length=ds.length→(∀ (m:Nat) (d:Gd) (u:Value),ds[m]? = some d→us[m]? = some u→BN w g st.look d u)→dl (ds.flatMap Gd.ts)=true →
  ∃ (st2:ASt) (g2:Gh) (R2:Nat→Prop) (F:Nat→Nat→Prop),ae dst (ds.flatMap Gd.qs) st=some st2∧al w0 I0 R2 g2 st2 a ov w∧g2.I=g.I∧Kept (ds.flatMap Gd.ts) g st g2 st2∧(∀ b,R b→R2 b) ∧
   (∀ (m:Nat) (d:Gd) (u:Value),ds[m]? = some d→us[m]? = some u→am w g.I d.y u (F m)∧u.oneCell'=true)∧(∀ m b,F m b→R2 b∧¬ R b)∧(∀ m m' b,F m b→F m' b→m=m')
 | [],us,st,g,R,hs,hl,hok,hn=>⟨st,g,R,fun _ _=>False,rfl,hs,rfl,Kept.refl _ _ _,fun _ h=>h,fun m d u hd=>by simp at hd,fun _ _ h=>h.elim,fun _ _ _ h=>h.elim⟩
 | d :: ds, us, st, g, R, hs, hl, hok, hn => by
  obtain ⟨u0,us',rfl⟩:∃ u0 us',us=u0 :: us':=by
   cases us with
   | nil=>simp at hl
   | cons u0 us'=>exact ⟨u0,us',rfl⟩
  have hl':us'.length=ds.length:=by simpa using hl
  have h0:=hok 0 d u0 rfl rfl
  have hok':∀ (m:Nat) (d':Gd) (u:Value),ds[m]? = some d'→us'[m]? = some u→BN w g st.look d' u:=fun m d' u hd hu=>hok (m + 1) d' u (by simpa using hd) (by simpa using hu)
  cases d with
  | fr y =>
   obtain ⟨st2,g2,R2,F,h1,h2,h3,h4,h5,h6,h7,h8⟩:=eD ds hs hl' hok' (by simpa [Gd.ts] using hn)
   refine ⟨st2,g2,R2,fun m b=>match m with | 0=>False | m + 1=>F m b,by simpa [Gd.qs] using h1,h2,h3,by simpa [Gd.ts] using h4,h5,fun m d u hd hu=>?_,fun m b hb=>?_,fun m m' b hb hb'=>?_⟩
   ·cases m with
    | zero=>simp at hd hu; subst hd hu; exact ⟨.fr h0.1,h0.2⟩
    | succ m=>simp at hd hu; exact h6 m d u hd hu
   ·cases m with
    | zero=>exact hb.elim
    | succ m=>exact h7 m b hb
   ·cases m with
    | zero=>exact hb.elim
    | succ m =>
     cases m' with
     | zero=>exact hb'.elim
     | succ m'=>rw [h8 m m' b hb hb']
  | tk i r x y =>
   obtain ⟨k1,⟨xs,k2,k3⟩,k4⟩:=h0
   obtain ⟨st1,g1,t1,t2,t3,t4,t5,t6⟩:=tp (dst:=dst) hs k2 k3
   have hrep:=k4 _ _ (hs.trees i xs k2 r x k3)
   simp only [List.flatMap_cons,Gd.ts,List.singleton_append,dl,EM,Bool.not_eq_true'] at hn
   obtain ⟨hn1,hn2⟩:=hn
   have hne:∀ i' r' x' y',Gd.tk i' r' x' y' ∈ ds→ie i' r' [(i,r)]=false:=fun i' r' x' y' hm=>by
    rw [da] at hn1 ⊢
    intro hin
    simp only [List.mem_singleton,Prod.mk.injEq] at hin
    obtain ⟨rfl,rfl⟩:=hin
    exact hn1 (List.mem_flatMap.2 ⟨_,hm,by simp [Gd.ts]⟩)
   obtain ⟨st2,g2,R2,F,h1,h2,h3,h4,h5,h6,h7,h8⟩:=eD ds t2 hl' (fun m d' u hd hu=>by
    have hk:=hok' m d' u hd hu
    cases d' with
    | fr y'=>exact ⟨by rw [t3]; exact hk.1,hk.2⟩
    | tk i' r' x' y' =>
     obtain ⟨q1,⟨xs',q2,q3⟩,q4⟩:=hk
     obtain ⟨xs1,z1,z2,z3,z4⟩:=t4.root i' r' xs' x' (hne i' r' x' y' (ES hd)) q2 q3
     exact ⟨q1,⟨xs1,z1,z2⟩,fun I S hr=>q4 I S (by rw [← z3]; exact hr)⟩) hn2
   refine ⟨st2,g2,R2,fun m b=>match m with | 0=>g.φ i r b | m + 1=>F m b,?_,h2,h3.trans t3,by simpa [Gd.ts] using t4.trans h4,fun b hb=>h5 b (.inl hb),fun m d u hd hu=>?_,fun m b hb=>?_,fun m m' b hb hb'=>?_⟩
   ·simp only [List.flatMap_cons,Gd.qs]
    rw [cQ,t1]
    exact h1
   ·cases m with
    | zero=>simp at hd hu; subst hd hu; exact ⟨hrep,k1⟩
    | succ m=>simp at hd hu; have:=h6 m d u hd hu; rw [t3] at this; exact this
   ·cases m with
    | zero=>exact ⟨h5 b (.inr hb),t5 b hb⟩
    | succ m=>exact ⟨(h7 m b hb).1,fun h=>(h7 m b hb).2 (.inl h)⟩
   ·cases m with
    | zero =>
     cases m' with
     | zero=>rfl
     | succ m'=>exact absurd (.inr hb) (h7 m' b hb').2
    | succ m =>
     cases m' with
     | zero=>exact absurd (.inr hb') (h7 m b hb).2
     | succ m'=>rw [h8 m m' b hb hb']
end
end Go.Ab
end
section
namespace Go.Ab
open Go.RowKit
section
variable {P:Program} {E:Env} {C:Cal} {w0:Bs} {w w':World} {I0 I R:Nat→Prop} {g g':Gh} {st st':ASt} {a:Act} {ov:List Value} {look:Look} {Q:Exit→Act→World→Prop} {id:Nat}
variable {dst:Option Tmp} {type:TypeId} {pos:String} {after:Array Edge} {guard:Option (Nat × Bool)}
theorem pt (i r:Nat) (js:List Nat):∀ (zs:List Value) (j:Nat) (st:ASt),∃ f:CA→CA,ae dst (kQ i r js zs j) st=some (st.az f)∧f .junk=.junk ∧
  ∀ c,(f c=c∧c.okP (fun i' r' p=>i'=i→r'=r→∀ m z,zs[m]? = some z→aC z=true→leads false (js ++ [j + m]) p=false))∨f c=.junk
 | [],j,st=>⟨_root_.id,by rw [b8]; rfl,rfl,fun c=>.inl ⟨rfl,by cases c <;> first | trivial | exact fun _ _ m z hz=>by simp at hz⟩⟩
 | z :: zs, j, st => by
  cases hz:aC z with
  | false =>
   obtain ⟨f,h1,h0,h2⟩:=pt i r js zs (j + 1) st
   refine ⟨f,by simp only [kQ,hz,cond_false]; exact h1,h0,fun c=>?_⟩
   rcases h2 c with ⟨h3,h4⟩ | h3
   ·refine .inl ⟨h3,?_⟩
    have key:∀ i' r' p,(i'=i→r'=r→∀ m z,zs[m]? = some z→aC z=true→leads false (js ++ [j + 1 + m]) p=false)→(i'=i→r'=r→∀ m z',(z :: zs)[m]? = some z'→aC z'=true→leads false (js ++ [j + m]) p=false):=by
     intro i' r' p hk e1 e2 m z' hm hs
     cases m with
     | zero=>simp at hm; subst hm; rw [hz] at hs; cases hs
     | succ m=>simp at hm; have:=hk e1 e2 m z' hm hs; rwa [show j + 1 + m=j + (m + 1) by omega] at this
    cases c <;> first | trivial | exact key _ _ _ h4
   ·exact .inr h3
  | true =>
   obtain ⟨f,h1,h0,h2⟩:=pt i r js zs (j + 1) (st.az (CA.drop i r (js ++ [j]) false))
   refine ⟨f ∘ CA.drop i r (js ++ [j]) false,by simp only [kQ,hz,cond_true,ae,Prim.app]; rw [h1,AG],by simp [CA.drop,h0],fun c=>?_⟩
   simp only [Function.comp]
   rcases iB i r (js ++ [j]) false c with ⟨h3,h4⟩ | h3
   ·rw [h3]
    rcases h2 c with ⟨h5,h6⟩ | h5
    ·refine .inl ⟨h5,?_⟩
     have key:∀ i' r' p,(i'=i→r'=r→leads false (js ++ [j]) p=false)→(i'=i→r'=r→∀ m z,zs[m]? = some z→aC z=true→leads false (js ++ [j + 1 + m]) p=false)→(i'=i→r'=r→∀ m z',(z :: zs)[m]? = some z'→aC z'=true→leads false (js ++ [j + m]) p=false):=by
      intro i' r' p hk0 hk e1 e2 m z' hm hs
      cases m with
      | zero=>exact hk0 e1 e2
      | succ m=>simp at hm; have:=hk e1 e2 m z' hm hs; rwa [show j + 1 + m=j + (m + 1) by omega] at this
     cases c <;> first | trivial | exact key _ _ _ h4 h6
    ·exact .inr h5
   ·rw [h3]
    exact .inr h0
theorem ta (hs:al w0 I0 R g st a ov w) {i r:Nat} {xs:List TV} {x:TV} {p:Way} {k j s n l cap:Nat} {ad:Addr} (hl:st.look i=some (.tree xs)) (hx:xs[r]? = some x)
  (hnode:Node w p x (g.ρ i r) (.slice (some ad) l cap) (some (s,n))) {sl:TV} (hg:aF p x=some sl) {e:List TV} (he:pel sl k=some e) {zs:List Value} (hz0:0 < zs.length) (hfit:a7 zs e j=true) {ys:List TV} {us:List Value} (hyl:ys.length=zs.length)
  (hul:us.length=ys.length) {x':TV} (hset:bI p x k j ys=some x') {F:Nat→Nat→Prop} (hp:∀ (m:Nat) (y:TV) (u:Value),ys[m]? = some y→us[m]? = some u→am w g.I y u (F m)∧u.oneCell'=true)
  (hFR:∀ m b,F m b→R b) (hFd:∀ m m' b,F m b→F m' b→m=m') (f:CA→CA)
  (hf:∀ c,(f c=c∧c.okP (fun i' r' q=>i'=i→r'=r→∀ m z,zs[m]? = some z→aC z=true→leads false (cb p ++ [j + m]) q=false))∨f c=.junk) :
  ∃ w' g',(storeCells (ad.add (k * s + j)) us).run P w=.ok () w'∧al w0 I0 NoR g' ((st.az f).ac i (some (.tree (ao xs r x')))) a ov w':=by
 have hrl:r < xs.length:=(EJ.1 hx).1
 have hfr:∀ b,g.φ i r b→Foot g st.look i b:=fun b hb=>.inr ⟨xs,r,hl,hrl,hb⟩
 obtain ⟨v,Sy,s1,s2,s3,s4,s5⟩:=(hs.trees i xs hl r x hx).sub hg
 obtain ⟨e1,e2⟩:=Node.unique hnode s3
 subst e1
 obtain ⟨o,s',ys0,rfl,hke⟩:=wY he
 simp only [TV.nd,EL,Prod.mk.injEq] at e2
 obtain ⟨rfl,rfl⟩:=e2
 simp only [bI,hg] at hset
 cases o with
 | false=>simp [mG] at hset
 | true =>
  simp only [mG,hke] at hset
  have hall:∀ x ∈ ys0,x.length=s:=by cases s1 with | fr h=>cases h | sl _ _ _ _ _ _ hl=>exact hl
  have hel:e.length=s:=hall e (ES hke)
  have hold:∀ m,m < zs.length→∃ c,e[j + m]? = some c∧(aC zs[m]! = false→c.isSc=true):=fun m hm=>by
   obtain ⟨c,h1,h3⟩:=nZ hfit m _ (EK hm)
   rw [getElem!_pos zs m hm]
   exact ⟨c,h1,h3⟩
  have hje:j + ys.length≤e.length:=by
   obtain ⟨c,h1,_⟩:=hold (zs.length - 1) (by omega)
   have:=(EJ.1 h1).1
   omega
  rw [eZ ys e j hje,ai] at hset
  have hnI:∀ b,Sy b→¬ g.I b:=fun b hb=>(hs.foot i b (hfr b (s2 b hb))).2.2.1
  obtain ⟨a0,cap0,vs,ty,us0,w1,w2,w3,w4⟩:=s1.write hnI
  cases w1
  obtain ⟨f1,f2⟩:=wT hall hke hje
  have hofs:k * s + j + us.length≤ys0.length * s:=by rw [← cq hall]; omega
  have hfitv:ad.off + (k * s + j) + us.length≤vs.size:=by
   have h1:=w3.fit
   have h2:=Nat.mul_le_mul_right s w3.le
   omega
  have hone:∀ u ∈ us,u.oneCell'=true:=fun u hu=>by
   obtain ⟨m,hm,rfl⟩:=List.mem_iff_getElem.1 hu
   exact (hp m (ys[m]'(by omega)) _ (EK (by omega)) (EK hm)).2
  have hst:=run_storeCells_at P ad.block (ad.off + (k * s + j)) ty us 0 vs w w3.heap (by simpa using hfitv) hone
  simp only [Nat.add_zero] at hst
  have hheap:=setRow_heap w ad.block vs (vs.toList.take (ad.off + (k * s + j)) ++ us ++ vs.toList.drop (ad.off + (k * s + j) + us.length)).toArray ty (0,0) w3.heap
  obtain ⟨W,hW⟩:∃ W,W=w.setRow ad.block (vs.toList.take (ad.off + (k * s + j)) ++ us ++ vs.toList.drop (ad.off + (k * s + j) + us.length)).toArray:=⟨_,rfl⟩
  rw [← hW] at hst hheap
  have hoth:∀ b,b≠ad.block→W.heap[b]? = w.heap[b]? := fun b hb=>by rw [hW]; exact setRow_other w ad.block b _ hb
  have hablk:w0.New ad.block:=(hs.foot i _ (hfr _ (s2 _ w2))).1
  have hyu:∀ (m:Nat) (c:TV),ys[m]? = some c→am w g.I c (us.getD m undef) (F m):=fun m c hc=>by
   have hm:m < us.length:=by have:=(EJ.1 hc).1; omega
   have:=(hp m c us[m] hc (EK hm)).1
   rw [EX,EK hm]
   exact this
  obtain ⟨n1,n2⟩:=w4 (k * s + j) ys us F W (ys0.set k (spl e j ys)) f2 hul hone hyu (fun m b hb h=>(hs.foot i b (hfr b (s2 b h))).2.2.2 (hFR m b hb)) hFd (by rw [hheap]; rfl) hoth (by simp) (zr hall (by rw [iH hje,hel])) f1
  obtain ⟨m1,m2⟩:=s5 W g.I (.sl true s (ys0.set k (spl e j ys))) x' _ hset (fun b hb=>hoth b (fun e=>hnI _ w2 (e ▸ hb))) (fun _ h=>h) (fun b hb hn=>hoth b (fun e=>hn (e ▸ w2))) n1 (fun b hb hS=>by
   rcases hb with hb | ⟨m,hb⟩
   ·exact hb
   ·exact absurd (hFR m b hb) (hs.foot i b (hfr b hS)).2.2.2)
  have hadd:ad.add (k * s + j)=⟨ad.block,ad.off + (k * s + j),none⟩:=vB ad w3.spot _
  rw [← hadd] at hst
  have hkeep:∀ (q:Way) (v':Value) (nd:Option (Nat × Nat)),(∀ m z,zs[m]? = some z→aC z=true→leads false (cb p ++ [j + m]) q=false)→mR v'→Node w q x (g.ρ i r) v' nd→Node W q x' (g.ρ i r) v' nd:=by
   intro q v' nd hok hsl hn
   refine m2 q v' nd (fun q' hq' hn'=>n2 q' v' nd (fun k1 j1 q1 hq1 hr1=>?_) hn') hn
   subst hq1
   obtain ⟨o2,s2',xs2,a2,n2',cap2,e3,y3,u3,hx3,hu3,he3,hy3,hc3,hn3⟩:=hn'
   cases hx3
   have hj1:j1 < s:=by have:=(EJ.1 hy3).1; have:=hall e3 (ES he3); omega
   obtain ⟨m,hm⟩:∃ m,k1 * s + j1=k * s + (j + m):=⟨k1 * s + j1 - (k * s + j),by omega⟩
   have hmz:m < zs.length:=by omega
   have hjm:j + m < s:=by
    obtain ⟨c,h1,_⟩:=hold m hmz
    have:=(EJ.1 h1).1
    omega
   obtain ⟨d1,d2⟩:=yS hj1 hjm hm
   subst d1 d2
   rw [hke] at he3
   cases he3
   obtain ⟨c,h1,h3⟩:=hold m hmz
   rw [hy3] at h1
   cases h1
   cases hz:aC zs[m]! with
   | true =>
    have:=hok m zs[m] (EK hmz) (by rw [← getElem!_pos zs m hmz]; exact hz)
    rw [hq',rQ] at this
    cases this
   | false =>
    obtain ⟨a',cap',u',S2,c1,c2,c3,c4,c5,c6,c7⟩:=s1.child hke hy3
    rw [hu3] at c1
    cases c1
    rw [hc3] at c2
    cases c2
    obtain ⟨q1',q2'⟩:=gk c4 (h3 hz)
    cases q1 with
    | nil =>
     obtain ⟨b1,b2,b3,hv⟩:=hsl
     rw [hn3.1] at hv
     rw [hv] at q2'
     simp [scV] at q2'
    | cons kj q3 =>
     obtain ⟨o4,s4,xs4,a4,n4,cap4,e4,y4,u4,hx4,_⟩:=hn3
     rw [q1'] at hx4
     cases hx4
  obtain ⟨r1,r2⟩:=hs.gF hl hx f (fun q=>∀ m z,zs[m]? = some z→aC z=true→leads false (cb p ++ [j + m]) q=false) hf (R':=NoR) (I':=g.I) m1 hkeep
   (by rw [hW]; exact hs.below.setRow hablk _) (by rw [hW]; simp) (fun b _ hb _=>hoth b (fun e=>hb (e ▸ s2 _ w2)))
   (fun b hb => by
    rcases hb with hb | hb | ⟨m,hb⟩
    ·exact .inl hb.1
    ·exact .inl (s2 b hb)
    ·exact .inr (.inl (hFR m b hb)))
   (fun b hb => hb.elim) (fun _ h => h) (fun _ h => .inl h) (fun b hb hS => by
    rcases hS with hS | hS | ⟨m,hS⟩
    ·exact (hs.foot i b (hfr b hS.1)).2.2.1 hb
    ·exact hnI b hS hb
    ·exact (hs.res b (hFR m b hS)).2.2 hb)
  exact ⟨W,_,hst,r1⟩
end
end Go.Ab
end
section
namespace Go.Ab
open Go.RowKit
section
variable {P:Program} {E:Env} {C:Cal} {w0:Bs} {w w':World} {I0 I R:Nat→Prop} {g g':Gh} {st st':ASt} {a:Act} {ov:List Value} {look:Look} {Q:Exit→Act→World→Prop} {id:Nat}
variable {dst:Option Tmp} {type:TypeId} {pos:String} {after:Array Edge} {guard:Option (Nat × Bool)}
theorem j7 {v:Value} {cs:List CA} (h:CR w g look cs v.cells.toList):v.cells.size=cs.length:=by simpa using h.1
theorem sG {i:Nat}:∀ {l:List (Nat × Nat)},xa i l=true→∀ r,ie i r l=false
 | [],_,r=>rfl
 | (a,b) :: l,h,r=>by
  simp only [xa] at h
  cases hb:a.beq i with
  | true=>simp [hb] at h
  | false=>simp only [hb,cond_false] at h; simp only [ie,hb,Bool.false_and,cond_false]; exact sG h r
theorem hU:∀ {zs:List Value},gH zs=false→∀ (m:Nat) (z:Value),zs[m]? = some z→aC z=false
 | [],_,m,z,hz=>by simp at hz
 | z0 :: zs, h, m, z, hz => by
  simp only [gH] at h
  cases h0:aC z0 with
  | true=>simp [h0] at h
  | false =>
   simp only [h0,cond_false] at h
   cases m with
   | zero=>simp at hz; subst hz; exact h0
   | succ m=>simp at hz; exact hU h m z hz
theorem qs_nil {ds:List Gd} (h:ds.flatMap Gd.qs=[]):ds.flatMap Gd.ts=[]:=by
 induction ds with
 | nil=>rfl
 | cons d ds ih =>
  cases d with
  | fr y=>simp only [List.flatMap_cons,Gd.qs,Gd.ts,List.nil_append] at h ⊢; exact ih h
  | tk i r x y=>simp [Gd.qs] at h
theorem Bx (hE : ∀ t d, E.T t = some d → bp P t d) (hlk : ∀ i b, look i = some b → st.look i = some b) (hs : al w0 I0 NoR g st a ov w) {t : TypeId} {x y : Operand} {e : Eff}
  (hh:(opL E id look (.store t x y) [st.ev x,st.ev y]).hits C e) (ha:e.app st dst=some st'):Good P w0 I0 ov ⟨dst,.store t x y,type,pos,after,guard⟩ st' a w Q:=by
 simp only [opL] at hh
 cases hT:E.T t with
 | none=>simp [hT,Prg.hits] at hh
 | some d =>
  simp only [hT] at hh
  have ht:=hE t d hT
  unfold vy at hh
  have hx:=hs.ev x
  have hy:=hs.ev y
  split at hh
  ·rename_i i off len n hxi
   rw [hxi] at hx
   cases hk:d.kd.isAgg with
   | true=>rw [hk] at hh; exact hh.elim
   | false =>
    rw [hk] at hh
    simp only [cond_false] at hh
    split at hh
    ·rename_i cs xs hrow
     obtain ⟨hl,hxl,hfit,hget⟩:=lm hrow
     obtain ⟨ps,hh,hcr,hps⟩:=eg hy hh
     clear hps
     split at hh
     ·rename_i yv
      cases hh
      have hl2:=hlk i _ hl
      obtain ⟨cs',hl',hn,hv⟩:=hx
      rw [hl2] at hl'
      cases hl'
      simp only [Eff.app,EL] at ha
      subst ha
      obtain ⟨vs,ty,h4,hcr2⟩:=hs.cells i _ hl2
      have hd1:d.size=1:=ht.one hk
      have hul:(a.eval y).cells.toList.length=1:=hcr.1
      obtain ⟨u,hu⟩:∃ u,(a.eval y).cells.toList=[u]:=List.length_eq_one_iff.1 hul
      obtain ⟨⟨hur,_⟩,hu1⟩:=hcr.2 0 (.t yv) u rfl (by rw [hu]; rfl)
      have hvs:vs.toList.length=cs.length:=hcr2.1
      have hfit':off + len≤cs.length:=by rcases hfit with h | h <;> omega
      have hone:∀ v ∈ (a.eval y).cells.toList,v.oneCell'=true:=fun v hv=>by
       rw [hu] at hv
       simp only [List.mem_singleton] at hv
       subst hv
       exact hu1
      have hst:=run_storeCells_at P (g.β i) (off + n) ty (a.eval y).cells.toList 0 vs w h4 (by simp only [Array.length_toList] at hvs; omega) hone
      simp only [Nat.add_zero] at hst
      obtain ⟨W,hW⟩:∃ W,W=w.setRow (g.β i) (vs.toList.take (off + n) ++ (a.eval y).cells.toList ++ vs.toList.drop (off + n + (a.eval y).cells.toList.length)).toArray:=⟨_,rfl⟩
      rw [← hW] at hst
      have hfi:Foot g st.look i (g.β i):=.inl ⟨cs,hl2,rfl⟩
      refine nE (w':=W) (by simp [execOp,Instr.storeAt,hv,Instr.sureAddr,storeVar,cC ht,j7 hcr,hd1,hst]) ⟨g,?_⟩
      refine al.put ?_ dst (v:=.one .undef) rfl
      subst hW
      have hsl:(ik n yv 0 xs).length=len:=by rw [yM]; exact hxl
      have hsp:CR w g st.look (bo cs off (ik n yv 0 xs)) (spl vs.toList (off + n) (a.eval y).cells.toList):=by
       have hf1:off + (ik n yv 0 xs).length≤cs.length:=by omega
       have hf2:off + n + (a.eval y).cells.toList.length≤vs.toList.length:=by omega
       rw [eZ _ _ _ hf1]
       refine ⟨by rw [iH hf1,iH hf2]; exact hcr2.1,fun j c v hc hv'=>?_⟩
       rw [cS hf1] at hc
       rw [cS hf2] at hv'
       by_cases hj:off≤j∧j < off + (ik n yv 0 xs).length
       ·rw [if_pos hj,rt] at hc
        cases hxj:xs[j - off]? with
        | none=>rw [hxj] at hc; cases hc
        | some x =>
         rw [hxj] at hc
         simp only [EW,EL,Nat.zero_add] at hc
         subst hc
         have hcx:=hget _ _ hxj
         rw [show off + (j - off)=j by omega] at hcx
         by_cases hjn:j - off=n
         ·rw [if_pos (by rw [hu]; simp; omega),hu,show j - (off + n)=0 by omega] at hv'
          simp only [List.getElem?_cons_zero,EL] at hv'
          subst hv'
          simp only [iG,hjn,show Nat.beq n n=true by simp,cond_true]
          exact ⟨⟨hur,hu1⟩,hu1⟩
         ·rw [if_neg (by rw [hu]; simp; omega)] at hv'
          simp only [iG,show Nat.beq n (j - off)=false from (by cases hbq:Nat.beq n (j - off) with | false=>rfl | true=>exact absurd (Nat.eq_of_beq_eq_true hbq).symm hjn),cond_false]
          exact hcr2.2 j _ v hcx hv'
       ·rw [if_neg hj] at hc
        rw [if_neg (by rw [hu]; simp; omega)] at hv'
        exact hcr2.2 j c v hc hv'
      exact hs.eM hl2 (vs':=(vs.toList.take (off + n) ++ (a.eval y).cells.toList ++ vs.toList.drop (off + n + (a.eval y).cells.toList.length)).toArray) (ty:=ty) (hs.below.setRow (hs.foot i _ hfi).1 _) (by simp)
       (fun b hb=>setRow_other w (g.β i) b _ hb) (setRow_heap w (g.β i) vs _ ty (0,0) h4) ⟨_,_,h4⟩ (by simpa [spl] using hsp)
     ·exact hh.elim
    ·exact hh.elim
  ·rename_i i off hxi
   rw [hxi] at hx
   obtain ⟨ps,hh,hcr,_⟩:=eg hy hh
   split at hh
   ·rename_i cs hl
    have hl2:=hlk i _ hl
    obtain ⟨cs',hl',hv⟩:=hx
    rw [hl2] at hl'
    cases hl'
    cases hc:(off + ps.length).ble cs.length && ps.length.beq d.size with
    | false=>simp [hc,Prg.hits] at hh
    | true =>
     simp only [hc,cond_true] at hh
     cases hh
     simp only [EM] at hc
     have hc1:off + ps.length≤cs.length:=by simpa using hc.1
     have hc2:ps.length=d.size:=by simpa using hc.2
     simp only [Eff.app,EL] at ha
     subst ha
     obtain ⟨vs,ty,h4,hcr2⟩:=hs.cells i _ hl2
     have hvl:(a.eval y).cells.toList.length=ps.length:=hcr.1
     have hvs:vs.toList.length=cs.length:=hcr2.1
     have hone:∀ u ∈ (a.eval y).cells.toList,u.oneCell'=true:=fun u hu=>by
      obtain ⟨j,hj,rfl⟩:=List.mem_iff_getElem.1 hu
      exact (hcr.2 j (ps[j]'(by omega)) _ (EK (by omega)) (EK hj)).2
     have hst:=run_storeCells_at P (g.β i) off ty (a.eval y).cells.toList 0 vs w h4 (by simp only [Array.length_toList] at hvs; omega) hone
     simp only [Nat.add_zero] at hst
     obtain ⟨W,hW⟩:∃ W,W=w.setRow (g.β i) (vs.toList.take off ++ (a.eval y).cells.toList ++ vs.toList.drop (off + (a.eval y).cells.toList.length)).toArray:=⟨_,rfl⟩
     rw [← hW] at hst
     have hfi:Foot g st.look i (g.β i):=.inl ⟨cs,hl2,rfl⟩
     refine nE (w':=W) (by simp [execOp,Instr.storeAt,hv,Instr.sureAddr,storeVar,cC ht,j7 hcr,hc2,hst]) ⟨g,?_⟩
     refine al.put ?_ dst (v:=.one .undef) rfl
     have hsp:=hcr2.spl hcr off
     rw [← eZ ps cs off hc1] at hsp
     subst hW
     exact hs.eM hl2 (vs':=(vs.toList.take off ++ (a.eval y).cells.toList ++ vs.toList.drop (off + (a.eval y).cells.toList.length)).toArray) (ty:=ty) (hs.below.setRow (hs.foot i _ hfi).1 _) (by simp)
      (fun b hb=>setRow_other w (g.β i) b _ hb) (setRow_heap w (g.β i) vs _ ty (0,0) h4) ⟨_,_,h4⟩ (by simpa [spl] using hsp)
   ·exact hh.elim
  ·rename_i i r p k j hxi
   rw [hxi] at hx
   obtain ⟨ps,hh,hcr,_⟩:=eg hy hh
   split at hh
   ·rename_i x0 hx0
    obtain ⟨xs,hl,hxr⟩:=aG hx0
    have hl2:=hlk i _ hl
    obtain ⟨xs',x',ad,l,cap,s,n,hl',hx',hnode,hk,hv⟩:=hx
    rw [hl2] at hl'
    cases hl'
    rw [hxr] at hx'
    cases hx'
    cases hd0:Nat.blt 0 d.size with
    | false=>simp [hd0,Prg.hits] at hh
    | true =>
     have hd0:0 < d.size:=by simpa using hd0
     simp only [show Nat.blt 0 d.size=true by simpa using hd0,Bool.not_true,cond_false] at hh
     have hzl:=ht.zlen
     cases hsl:gH d.zero with
     | true =>
      simp only [hsl,cond_true] at hh
      obtain ⟨ds,hh,hdl,hok⟩:=gS hlk hs hcr hh
      cases hc:dl (ds.flatMap Gd.ts) && xa i (ds.flatMap Gd.ts) && (ds.map Gd.y).length.beq d.size with
      | false=>simp only [hc,cond_false] at hh; exact hh.elim
      | true =>
       simp only [hc,cond_true] at hh
       simp only [EM] at hc
       obtain ⟨⟨hc1,hc2⟩,hc3⟩:=hc
       have hc3:ds.length=d.size:=by simpa using hc3
       obtain ⟨sl,hg,hh⟩:=em hh
       obtain ⟨el,hel,hfit,x1,hset,hh⟩:=hh
       cases hh
       simp only [EM] at hfit
       have hul:(a.eval y).cells.toList.length=ds.length:=by rw [hcr.1,hdl]
       obtain ⟨st2,g2,R2,F,q1,q2,q3,q4,q5,q6,q7,q8⟩:=eD (dst:=dst) ds hs hul hok hc1
       obtain ⟨t1,t2,t3⟩:=q4.tree i xs (sG hc2) hl2
       obtain ⟨f,f1,f0,f2⟩:=pt (dst:=dst) i r (cb p) d.zero j st2
       obtain ⟨w',g',hst,hsim⟩:=ta (P:=P) q2 t1 hxr (by rw [t2]; exact hnode) hg hel (zs:=d.zero) (by omega) hfit.1 (ys:=ds.map Gd.y) (us:=(a.eval y).cells.toList) (by simp; omega) (by simpa using hul) hset (F:=F)
        (fun m y' u hy' hu => by
         rw [EP] at hy'
         cases hdm:ds[m]? with
         | none=>simp [hdm] at hy'
         | some dd =>
          simp only [hdm,EW,EL] at hy'
          subst hy'
          rw [q3]
          exact q6 m dd u hdm hu)
        (fun m b hb=>(q7 m b hb).1) q8 f f2
       have happ:ae dst (ds.flatMap Gd.qs ++ kQ i r (cb p) d.zero j ++ [.root i r x1]) st=some ((st2.az f).ac i (some (.tree (ao xs r x1)))):=by
        rw [List.append_assoc,cQ,q1,Option.bind_some,cQ,f1,Option.bind_some]
        have hlm:(st2.az f).look i=some (.tree xs):=by rw [aN,t1]; rfl
        simp only [ae,Prim.app,en hlm]
       simp only [Eff.app,happ,EL] at ha
       subst ha
       refine nE (w':=w') ?_ ⟨g',hsim.put dst (v:=.one .undef) rfl⟩
       simp [execOp,Instr.storeAt,hv,Instr.sureAddr,storeVar,cC ht,j7 hcr,← hdl,hc3,hst]
     | false =>
      simp only [hsl,cond_false] at hh
      obtain ⟨ds,hh,hdl,hok⟩:=gS hlk hs hcr hh
      split at hh
      ·rename_i hqs
       have hts:=qs_nil hqs
       cases hc:(ds.map Gd.y).length.beq d.size with
       | false=>simp only [hc,cond_false] at hh; exact hh.elim
       | true =>
        simp only [hc,cond_true] at hh
        have hc3:ds.length=d.size:=by simpa using hc
        obtain ⟨sl,hg,hh⟩:=em hh
        obtain ⟨el,hel,hfit,x1,hset,hh⟩:=hh
        simp only [en hl] at hh
        cases hh
        have hul:(a.eval y).cells.toList.length=ds.length:=by rw [hcr.1,hdl]
        obtain ⟨st2,g2,R2,F,q1,q2,q3,q4,q5,q6,q7,q8⟩:=eD (dst:=dst) ds hs hul hok (by rw [hts]; rfl)
        rw [hqs] at q1
        simp only [ae,EL] at q1
        subst q1
        obtain ⟨t1,t2,t3⟩:=q4.tree i xs (fun r=>by rw [hts]; rfl) hl2
        obtain ⟨w',g',hst,hsim⟩:=ta (P:=P) q2 t1 hxr (by rw [t2]; exact hnode) hg hel (zs:=d.zero) (by omega) (tI hfit) (ys:=ds.map Gd.y) (us:=(a.eval y).cells.toList) (by simp; omega) (by simpa using hul) hset (F:=F)
         (fun m y' u hy' hu => by
          rw [EP] at hy'
          cases hdm:ds[m]? with
          | none=>simp [hdm] at hy'
          | some dd =>
           simp only [hdm,EW,EL] at hy'
           subst hy'
           rw [q3]
           exact q6 m dd u hdm hu)
         (fun m b hb => (q7 m b hb).1) q8 _root_.id (fun c => .inl ⟨rfl, by
          have key:∀ (q:Way),∀ m z,d.zero[m]? = some z→aC z=true→leads false (cb p ++ [j + m]) q=false:=fun q m z hz hs'=>by
           rw [hU hsl m z hz] at hs'; cases hs'
          cases c <;> first | trivial | exact fun _ _=>key _⟩)
        simp only [Eff.app,EL] at ha
        subst ha
        rw [b8] at hsim
        refine nE (w':=w') ?_ ⟨g',hsim.put dst (v:=.one .undef) rfl⟩
        simp [execOp,Instr.storeAt,hv,Instr.sureAddr,storeVar,cC ht,j7 hcr,← hdl,hc3,hst]
      ·exact hh.elim
   ·exact hh.elim
  ·exact hh.elim
end
end Go.Ab
end
section
namespace Go.Ab
open Go.RowKit
section
variable {P:Program} {E:Env} {C:Cal} {w0:Bs} {w w':World} {I0 I R:Nat→Prop} {g g':Gh} {st st':ASt} {a:Act} {ov:List Value} {look:Look} {Q:Exit→Act→World→Prop} {id:Nat}
variable {dst:Option Tmp} {type:TypeId} {pos:String} {after:Array Edge} {guard:Option (Nat × Bool)}
theorem Src.lf {s:Nat} {xs:List (List TV)} {v:Value} {us:List Value} {F:Nat→Nat→Prop} (h:Src w I s xs v us F):Src w I s (vF xs) v us (fun _ _=>False):=by
 rw [zg]
 refine ⟨by simp [h.len],fun x hx=>?_,h.one,?_,fun k c hc=>?_,fun _ _ _ h=>h.elim⟩
 ·obtain ⟨y,hy,rfl⟩:=List.mem_map.1 hx
  simpa using h.all y hy
 ·obtain ⟨A,c,h1,h2,h3⟩:=h.form
  exact ⟨A,c,by simpa using h1,fun hA=>by simp [h2 hA],h3⟩
 ·have:(xs.map fun x=>x.map TV.lf).flatten=xs.flatten.map TV.lf:=by rw [List.map_flatten]
  rw [this,EP] at hc
  cases hk:xs.flatten[k]? with
  | none=>simp [hk] at hc
  | some c' =>
   simp only [hk,EW,EL] at hc
   subst hc
   exact .fr (Eh (h.rep k c' hk))
theorem sv {S : Type} (hlk : ∀ i b, look i = some b → st.look i = some b) (hs : al w0 I0 NoR g st a ov w) {d : TyD} {dest : Option Nat} {x : AV} {v : Value} {k : List (List TV) → List Prim → Prg S} {e : S} (hx : cm w g st.look x v)
  (h : (xi look d dest x k).hits C e) : ∃ news ps, (k news ps).hits C e ∧ ∃ (st1 : ASt) (g1 : Gh) (R1 : Nat → Prop) (us : List Value) (T : Nat → Nat → Prop) (ts : List (Nat × Nat)), ae dst ps st = some st1 ∧ al w0 I0 R1 g1 st1 a ov w ∧ g1.I = g.I ∧ Kept ts g st g1 st1 ∧
   (∀ j,dest=some j→∀ r,ie j r ts=false)∧Src w g.I d.size news v us T∧∀ k b,T k b→R1 b:=by
 have plain:∀ (y:TV) (news:List (List TV)),Rep w g.I y v→pelems d.size y=some news→(k news []).hits C e→∃ news ps,(k news ps).hits C e∧∃ (st1:ASt) (g1:Gh) (R1:Nat→Prop) (us:List Value) (T:Nat→Nat→Prop) (ts:List (Nat × Nat)),ae dst ps st=some st1∧al w0 I0 R1 g1 st1 a ov w∧g1.I=g.I∧Kept ts g st g1 st1 ∧
   (∀ j,dest=some j→∀ r,ie j r ts=false)∧Src w g.I d.size news v us T∧∀ k b,T k b→R1 b:=by
  intro y news hr hp hk
  obtain ⟨us,F,h1,h2,_⟩:=Src.of (S:=NoR) (.fr hr) hp
  exact ⟨news,[],hk,st,g,NoR,us,F,[],rfl,hs,rfl,Kept.refl _ _ _,fun _ _ _=>rfl,h1,h2⟩
 have taken:∀ (i r:Nat) (xs:List TV) (x y:TV) (news:List (List TV)),st.look i=some (.tree xs)→xs[r]? = some x→am w g.I y v (g.φ i r)→(∀ j,dest=some j→i≠j)→pelems d.size y=some news→(k news [.drop i r [] false,.root i r .hole]).hits C e →
   ∃ news ps,(k news ps).hits C e∧∃ (st1:ASt) (g1:Gh) (R1:Nat→Prop) (us:List Value) (T:Nat→Nat→Prop) (ts:List (Nat × Nat)),ae dst ps st=some st1∧al w0 I0 R1 g1 st1 a ov w∧g1.I=g.I∧Kept ts g st g1 st1 ∧
   (∀ j,dest=some j→∀ r,ie j r ts=false)∧Src w g.I d.size news v us T∧∀ k b,T k b→R1 b:=by
  intro i r xs x y news hl hx hr hne hp hk
  obtain ⟨st1,g1,t1,t2,t3,t4,t5,t6⟩:=tp (dst:=dst) hs hl hx
  obtain ⟨us,F,h1,h2,_⟩:=Src.of hr hp
  refine ⟨news,_,hk,st1,g1,_,us,F,[(i,r)],t1,t2,t3,t4,fun j hj r'=>?_,h1,fun k b hb=>.inr (h2 k b hb)⟩
  rw [da]
  intro hin
  simp only [List.mem_singleton,Prod.mk.injEq] at hin
  exact hne j hj hin.1.symm
 have destNe:∀ i,pP i dest=false→∀ j,dest=some j→i≠j:=fun i hb j hj e=>by
  subst hj e
  simp [pP] at hb
 unfold xi at h
 split at h
 ·rename_i t ht
  obtain ⟨news,hp,h⟩:=h
  exact plain t news (dk hx ht) hp h
 ·split at h
  ·rename_i c _
   cases hsl:gH d.zero with
   | true =>
    simp only [hsl,cond_true] at h
    cases c with
    | sref i r p =>
     simp only at h
     split at h
     ·rename_i x0 hx0
      obtain ⟨xs,h1,h2⟩:=aG hx0
      obtain ⟨xs',x',nd,g1,g2,g3,g4⟩:=hx
      rw [hlk _ _ h1] at g1
      cases g1
      rw [h2] at g2
      cases g2
      split at h
      ·cases hb:pP i dest with
       | true=>rw [hb] at h; exact h.elim
       | false =>
        rw [hb] at h
        obtain ⟨news,hp,h⟩:=h
        refine taken i r xs x0 x0 news (hlk _ _ h1) h2 ?_ (destNe i hb) hp h
        rw [g3.1]
        exact hs.trees i xs (hlk _ _ h1) r x0 h2
      ·obtain ⟨y,hy,hf,news,hp,h⟩:=h
       obtain ⟨_,S',r1,_⟩:=hs.at (hlk _ _ h1) h2 g3 hy
       exact plain y news (jW r1 hf) hp h
     ·exact h.elim
    | swin i r p lo len =>
     simp only at h
     split at h
     ·rename_i x0 hx0
      obtain ⟨xs,h1,h2⟩:=aG hx0
      obtain ⟨xs',x',u,nd,g1,g2,g3,g4,g5⟩:=hx
      rw [hlk _ _ h1] at g1
      cases g1
      rw [h2] at g2
      cases g2
      split at h
      ·cases hb:pP i dest with
       | true=>rw [hb] at h; exact h.elim
       | false =>
        rw [hb] at h
        obtain ⟨y,hy,news,hp,h⟩:=h
        refine taken i r xs x0 y news (hlk _ _ h1) h2 ?_ (destNe i hb) hp h
        have hr:=hs.trees i xs (hlk _ _ h1) r x0 h2
        rw [← g3.1] at hr
        exact eo hr g3.2 g5 hy
      ·obtain ⟨z,hz,y,hy,hf,news,hp,h⟩:=h
       obtain ⟨e1,S',r1,_⟩:=hs.at (hlk _ _ h1) h2 g3 hz
       exact plain y news (jW (eo r1 e1 g5 hy) hf) hp h
     ·exact h.elim
    | _=>exact h.elim
   | false =>
    simp only [hsl,cond_false] at h
    obtain ⟨y,T,h,hr⟩:=uV hlk hs hx h
    obtain ⟨xs,hp,h⟩:=h
    obtain ⟨us,F,h1,h2,_⟩:=Src.of hr hp
    exact ⟨_,[],h,st,g,NoR,us,fun _ _=>False,[],rfl,hs,rfl,Kept.refl _ _ _,fun _ _ _=>rfl,h1.lf,fun _ _ h=>h.elim⟩
  ·exact h.elim
theorem vH {st st1:ASt} (h:st1.out.length=st.out.length) (d:Option Tmp):st1.nid d=st.nid d:=by cases d <;> simp [ASt.nid,h]
theorem mg {ps:List Prim} {b:BC} {v:AV} {st1:ASt} (ha:(cV ps b v).app st dst=some st') (h1:ae dst ps st=some st1) (ho:st1.out.length=st.out.length) :
  ∃ d,dst=some d∧st1.look (st.nid dst)=none∧st.nid dst < st1.boxes.length∧st'=(st1.ac (st.nid dst) (some b)).put (some d) v:=by
 cases ps with
 | nil =>
  simp only [ae,EL] at h1
  subst h1
  exact rh ha
 | cons p ps =>
  simp only [cV,Eff.app] at ha
  rw [cQ,h1,Option.bind_some] at ha
  cases dst with
  | none=>simp [ae,Prim.app] at ha
  | some d =>
   simp only [ae,Prim.app] at ha
   cases hb:st1.bB (st1.nid (some d)) b with
   | none=>simp [hb] at ha
   | some s2 =>
    simp only [hb,EL] at ha
    obtain ⟨k1,k2,k3⟩:=bk hb
    rw [vH ho] at k1 k2 k3
    subst k3
    exact ⟨d,rfl,k1,k2,ha.symm⟩
theorem Grown.below {s n:Nat} {v v':Value} {us:List Value} (h:Grown w w' s v v' n us) (hw:w0.Bel w) (hb:∀ a m c,v=.slice (some a) m c→w0.New a.block):w0.Bel w' :=
 hw.but h.os h.tape h.output h.size (fun k hlt hk=>h.block k hlt (fun a m c hv e=>hk (e ▸ hb a m c hv)))
theorem yW {t e:TypeId} {d dt:TyD} (ht:bp P t dt) (hk:dt.kd=.slice e) (hte:bp P e d) (hby:d.bytes≤4096) {x y:Operand} {v:Value} {n:Nat} {us us2:List Value} {news:List (List TV)} {T:Nat→Nat→Prop}
  (hv:a.eval x=v) (hown:Own w d.size v n us) (hsrc:Src w I d.size news (a.eval y) us2 T) (hroom:n + news.length≤room) :
  ∃ v' w',(execOp a.eval ⟨dst,.call ⟨.builtin .append,#[x,y],#[t,t]⟩,type,pos,after,guard⟩).run P w=.ok (.value v') w'∧Grown w w' d.size v v' (n + news.length) (us ++ us2):=by
 obtain ⟨i,z,hi,hsz,hb,hz,hzc⟩:=hte.info
 have hu:=d7 ht hk
 have hzs:z.cells.size=i.size:=by have:=hte.zlen; rw [← hzc] at this; rw [hsz]; simpa using this
 obtain ⟨A,c,hf,hA,hcell⟩:=hsrc.form
 rw [← hsz] at hown
 have hr:n + news.length≤4294967296:=hroom
 obtain ⟨v',w',h1,h2⟩:=yN (P:=P) (w:=w) (v:=v) t type e i z hu hi hz hzs hown (A:=A) (m:=news.length) (c:=c) (news:=us2) (by rw [hsrc.len,hsz]) (fun h=>by rw [hA h]; rfl) hcell hsrc.one (by simp only [maxLen]; omega)
  (by rw [hb]; have:(n + news.length) * d.bytes≤4294967296 * 4096:=Nat.mul_le_mul hr hby; omega)
 refine ⟨v',w',gQ (s:=Builtin.append_ #[t,t] type #[a.eval x,a.eval y]) (fun cs=>by simp [builtin]) (by simpa [hv,hf] using h1),by rw [← hsz]; exact h2⟩
set_option maxHeartbeats 1000000 in
theorem tQ (hlk:∀ i b,look i=some b→st.look i=some b) (hs:al w0 I0 NoR g st a ov w) {t tu:TypeId} {d:TyD} {x y:Operand} {e:Eff} {news:List (List TV)} {ps:List Prim} {st1:ASt} {g1:Gh} {R1:Nat→Prop} {us2:List Value} {T:Nat→Nat→Prop} {ts:List (Nat × Nat)}
  (p1:ae dst ps st=some st1) (p2:al w0 I0 R1 g1 st1 a ov w) (p3:g1.I=g.I) (p4:Kept ts g st g1 st1) (p5:∀ j,rU (st.ev x)=some j→∀ r,ie j r ts=false)
  (hl2:us2.length=news.length * d.size) (hall:∀ x ∈ news,x.length=d.size) (hrp:∀ (k:Nat) (c:TV),news.flatten[k]? = some c→am w g1.I c (us2.getD k undef) (T k)) (hap:∀ k k' b,T k b→T k' b→k=k') (hTR:∀ k b,T k b→R1 b)
  (hrun:∀ (v:Value) (n:Nat) (us:List Value),a.eval x=v→Own w d.size v n us→n + news.length≤room→∃ v' w',(execOp a.eval ⟨dst,.call ⟨.builtin .append,#[x,y],#[t,tu]⟩,type,pos,after,guard⟩).run P w=.ok (.value v') w'∧Grown w w' d.size v v' (n + news.length) (us ++ us2))
  (hh:(nD (st.nid dst) look d (st.ev x) news ps).hits C e) (ha:e.app st dst=some st'):Good P w0 I0 ov ⟨dst,.call ⟨.builtin .append,#[x,y],#[t,tu]⟩,type,pos,after,guard⟩ st' a w Q:=by
 unfold nD at hh
 have hx:=hs.ev x
 have core:∀ (z y1:TV) (v:Value) (S R2:Nat→Prop),a.eval x=v→am w g1.I z v S→papp d.size z news=some y1→(∀ b,S b→w0.New b∧b < w.heap.size∧¬ g1.I b∧¬ R1 b) →
   ∃ v' w',(execOp a.eval ⟨dst,.call ⟨.builtin .append,#[x,y],#[t,tu]⟩,type,pos,after,guard⟩).run P w=.ok (.value v') w'∧w0.Bel w'∧w.heap.size≤w'.heap.size∧(∀ b,b < w.heap.size→¬ S b→w'.heap[b]? = w.heap[b]?) ∧
    am w' g1.I y1 v' (fun b=>S b∨(w.heap.size≤b∧b < w'.heap.size)∨∃ k,T k b)∧mR v':=by
  intro z y1 v S R2 hv hr hp hS
  obtain ⟨n,us,b1,b2,b3,b4,b5,b6⟩:=hr.app hp
  obtain ⟨v',w',r1,r2⟩:=hrun v n us hv b1 b2
  obtain ⟨c1,c2⟩:=b6 w' v' us2 T hl2 hall hrp hap p2.lt (fun b hb=>⟨(hS b hb).2.1,(hS b hb).2.2.1⟩) (fun k b hb=>⟨(p2.res b (hTR k b hb)).2.1,fun h=>(hS b h).2.2.2 (hTR k b hb)⟩) r2
  refine ⟨v',w',r1,r2.below p2.below (fun a m c hv=>(hS _ (b4 a m c hv)).1),r2.size,fun b hb hn=>r2.block b hb (fun a m c hv e=>hn (e ▸ b4 a m c hv)),?_,?_⟩
  ·refine c1.mono (fun b hb=>?_)
   rcases hb with h | h | h
   ·exact .inl h
   ·exact .inr (.inl ⟨by omega,h.2⟩)
   ·exact .inr (.inr h)
  ·obtain ⟨A,c,hv'⟩:=c2; exact ⟨_,_,_,hv'⟩
 have hnid:st1.nid dst=st.nid dst:=vH p4.out dst
 have turn:∀ (i r:Nat) (xs:List TV) (x0 z y1:TV) (v:Value),st.look i=some (.tree xs)→xs[r]? = some x0→(∀ r,ie i r ts=false)→a.eval x=v→(∀ (I S:Nat→Prop),am w I x0 (g.ρ i r) S→am w I z v S)→papp d.size z news=some y1 →
   (Eff.gen (ps ++ [.drop i r [] false,.root i r y1]) (.one (.sref i r []))).app st dst=some st'→Good P w0 I0 ov ⟨dst,.call ⟨.builtin .append,#[x,y],#[t,tu]⟩,type,pos,after,guard⟩ st' a w Q:=by
  intro i r xs x0 z y1 v hl hx0 hts hv hz hp ha
  obtain ⟨t1,t2,t3⟩:=p4.tree i xs hts hl
  have hrl:r < xs.length:=(EJ.1 hx0).1
  have hfr:∀ b,g1.φ i r b→Foot g1 st1.look i b:=fun b hb=>.inr ⟨xs,r,t1,hrl,hb⟩
  have hrep:=hz _ _ (by rw [← t2]; exact p2.trees i xs t1 r x0 hx0)
  obtain ⟨v',w',r1,r2,r3,r4,r5,r6⟩:=core z y1 v _ NoR hv hrep hp (fun b hb=>p2.foot i b (hfr b hb))
  obtain ⟨q1,q2⟩:=p2.gF t1 hx0 (CA.drop i r [] false) (fun p=>leads false [] p=false) (iB i r [] false) (R':=NoR) (I':=g1.I) r5 (fun p v nd ho _ _=>by rw [iP] at ho; cases ho) r2 r3 (fun b hb hn _=>r4 b hb hn)
   (fun b hb => by
    rcases hb with h | h | ⟨k,h⟩
    ·exact .inl h
    ·exact .inr (.inr h)
    ·exact .inr (.inl (hTR k b h)))
   (fun b hb => hb.elim) (fun _ h => h) (fun _ h => .inl h) (fun b hb hS => by
    rcases hS with h | h | ⟨k,h⟩
    ·exact (p2.foot i b (hfr b h)).2.2.1 hb
    ·have:=p2.lt b hb; omega
    ·exact (p2.res b (hTR k b h)).2.2 hb)
  have hlm:(st1.az (CA.drop i r [] false)).look i=some (.tree xs):=by rw [aN,t1]; rfl
  have happ:ae dst (ps ++ [.drop i r [] false,.root i r y1]) st=some ((st1.az (CA.drop i r [] false)).ac i (some (.tree (ao xs r y1)))):=by
   rw [cQ,p1,Option.bind_some]
   simp only [ae,Prim.app,en hlm]
  simp only [Eff.app,happ,EL] at ha
  subst ha
  refine jQ r1 ⟨_,q1.put dst (v:=.one (.sref i r [])) ⟨ao xs r y1,y1,y1.nd,?_,by rw [ai,List.getElem?_set_self hrl],⟨by simp [Gh.dT],rfl⟩,r6⟩⟩
  rw [ah,if_pos ⟨rfl,by rw [fX]; exact gE t1⟩]
 have deep:∀ (i r:Nat) (p:Way) (xs:List TV) (x0 z0 z y1 x1:TV) (v u:Value) (nd:Option (Nat × Nat)),st.look i=some (.tree xs)→xs[r]? = some x0→(∀ r,ie i r ts=false)→a.eval x=v→Node w p x0 (g.ρ i r) u nd→aF p x0=some z0→(∀ (I S:Nat→Prop),am w I z0 u S→am w I z v S) →
   papp d.size z news=some y1→kC p x0 .hole=some x1 →
   (Eff.gen (ps ++ [.drop i r (cb p) false,.root i r x1,.newB (.tree [y1])]) (.one (.sref (st.nid dst) 0 []))).app st dst=some st'→Good P w0 I0 ov ⟨dst,.call ⟨.builtin .append,#[x,y],#[t,tu]⟩,type,pos,after,guard⟩ st' a w Q:=by
  intro i r p xs x0 z0 z y1 x1 v u nd hl hx0 hts hv hnode hg hz hp hset ha
  obtain ⟨t1,t2,t3⟩:=p4.tree i xs hts hl
  have hrl:r < xs.length:=(EJ.1 hx0).1
  have hfr:∀ b,g1.φ i r b→Foot g1 st1.look i b:=fun b hb=>.inr ⟨xs,r,t1,hrl,hb⟩
  obtain ⟨u',Sy,s1,s2,s3,s4,s5⟩:=(p2.trees i xs t1 r x0 hx0).sub hg
  rw [t2] at s3
  obtain ⟨e1,e2⟩:=Node.unique hnode s3
  subst e1
  obtain ⟨m1,m2⟩:=s5 w g1.I .hole x1 (fun _=>False) hset (fun _ _=>rfl) (fun _ h=>h) (fun _ _ _=>rfl) (.fr (.hole _)) (fun _ h=>h.elim)
  obtain ⟨q1,q2⟩:=p2.gF t1 hx0 (CA.drop i r (cb p) false) (fun q=>leads false (cb p) q=false) (iB i r (cb p) false) (R':=fun b=>R1 b∨Sy b) (I':=g1.I) m1
   (fun q v' nd ho _ hn=>m2 q v' nd (fun q' hq' _=>by rw [hq',nK] at ho; cases ho) hn) p2.below (Nat.le_refl _) (fun _ _ _ _=>rfl) (fun b hb=>by rcases hb with h | h; exact .inl h.1; exact h.elim)
   (fun b hb => ⟨hb.imp _root_.id (s2 b), fun h => by
    rcases h with h | h
    ·rcases hb with hb | hb
     ·exact (p2.foot i b (hfr b h.1)).2.2.2 hb
     ·exact h.2 hb
    ·exact h,hb.elim (fun h=>(p2.res b h).2.2) (fun h=>(p2.foot i b (hfr b (s2 b h))).2.2.1)⟩)
   (fun _ h => h) (fun _ h => .inl h) (fun b hb hS => by
    rcases hS with h | h
    ·exact (p2.foot i b (hfr b h.1)).2.2.1 hb
    ·exact h)
  obtain ⟨v',w',r1,r2,r3,r4,r5,r6⟩:=core z y1 v Sy NoR hv (hz _ _ s1) hp (fun b hb=>p2.foot i b (hfr b (s2 b hb)))
  have hlm:(st1.az (CA.drop i r (cb p) false)).look i=some (.tree xs):=by rw [aN,t1]; rfl
  obtain ⟨st2,hst2⟩:∃ st2,st2=(st1.az (CA.drop i r (cb p) false)).ac i (some (.tree (ao xs r x1))):=⟨_,rfl⟩
  rw [← hst2] at q1 q2
  have happ:ae dst (ps ++ [.drop i r (cb p) false,.root i r x1]) st=some st2:=by
   rw [cQ,p1,Option.bind_some,hst2]
   simp only [ae,Prim.app,en hlm]
  have hout:st2.out.length=st.out.length:=by rw [hst2]; simp [ASt.ac,ASt.az,bC,p4.out]
  have ha2:(cV (ps ++ [.drop i r (cb p) false,.root i r x1]) (.tree [y1]) (.one (.sref (st.nid dst) 0 []))).app st dst=some st':=by
   have:cV (ps ++ [.drop i r (cb p) false,.root i r x1]) (.tree [y1]) (.one (.sref (st.nid dst) 0 []))=.gen (ps ++ [.drop i r (cb p) false,.root i r x1,.newB (.tree [y1])]) (.one (.sref (st.nid dst) 0 [])):=by
    cases ps <;> simp [cV]
   rw [this]; exact ha
  obtain ⟨dd,h0,h1,h2,h3⟩:=mg ha2 happ hout
  have hn2:st2.nid dst=st.nid dst:=vH hout dst
  rw [← hn2] at h1 h2 h3
  exact oG q1 rfl r1 r2 r3 (fun b hb hn=>r4 b hb (fun h=>hn (.inr h))) r5 (fun b hb=>by
   rcases hb with h | h | ⟨k,h⟩
   ·exact .inl (.inr h)
   ·exact .inr h
   ·exact .inl (.inl (hTR k b h))) r6 h0 h1 h2 h3
 split at hh
 ·rename_i tx htx
  have hxr:=dk hx htx
  cases hn:kw tx with
  | false=>rw [hn] at hh; exact hh.elim
  | true =>
   rw [hn] at hh
   obtain ⟨y1,hp,hh⟩:=hh
   cases hh
   have hv:=xk (S:=NoR) hn (.fr hxr)
   obtain ⟨v',w',r1,r2,r3,r4,r5,r6⟩:=core tx y1 _ NoR NoR rfl (by rw [p3]; exact .fr hxr) hp (fun b hb=>hb.elim)
   obtain ⟨dd,h0,h1,h2,h3⟩:=mg ha p1 p4.out
   rw [← hnid] at h1 h2 h3
   exact oG p2 rfl r1 r2 r3 (fun b hb hn=>r4 b hb (fun h=>h)) r5 (fun b hb=>by
    rcases hb with h | h | ⟨k,h⟩
    ·exact h.elim
    ·exact .inr h
    ·exact .inl (hTR k b h)) r6 h0 h1 h2 h3
 ·split at hh
  ·rename_i i r p hxi
   rw [hxi] at hx p5
   have hts:∀ r,ie i r ts=false:=p5 i rfl
   split at hh
   ·rename_i x0 hx0
    obtain ⟨xs,h1,h2⟩:=aG hx0
    obtain ⟨xs',x',nd,g1',g2,g3,g4⟩:=hx
    rw [hlk _ _ h1] at g1'
    cases g1'
    rw [h2] at g2
    cases g2
    split at hh
    ·obtain ⟨y1,hp,hh⟩:=hh
     cases hh
     exact turn i r xs x0 x0 y1 _ (hlk _ _ h1) h2 hts rfl (fun I S hr=>by rw [g3.1]; exact hr) hp ha
    ·obtain ⟨z,hz,y1,hp,x1,hset,hh⟩:=hh
     cases hh
     exact deep i r p xs x0 z z y1 x1 _ _ nd (hlk _ _ h1) h2 hts rfl g3 hz (fun I S hr=>hr) hp hset ha
   ·exact hh.elim
  ·rename_i i r p lo len hxi
   rw [hxi] at hx p5
   have hts:∀ r,ie i r ts=false:=p5 i rfl
   split at hh
   ·rename_i x0 hx0
    obtain ⟨xs,h1,h2⟩:=aG hx0
    obtain ⟨xs',x',u,nd,g1',g2,g3,g4,g5⟩:=hx
    rw [hlk _ _ h1] at g1'
    cases g1'
    rw [h2] at g2
    cases g2
    split at hh
    ·obtain ⟨z,hz,y1,hp,hh⟩:=hh
     cases hh
     exact turn i r xs x0 z y1 _ (hlk _ _ h1) h2 hts rfl (fun I S hr=>eo (by rw [g3.1]; exact hr) g3.2 g5 hz) hp ha
    ·obtain ⟨z0,hz0,z,hz,y1,hp,x1,hset,hh⟩:=hh
     cases hh
     have hnd:nd=z0.nd:=(hs.at (hlk _ _ h1) h2 g3 hz0).1
     exact deep i r p xs x0 z0 z y1 x1 _ _ nd (hlk _ _ h1) h2 hts rfl g3 hz0 (fun I S hr=>eo hr hnd g5 hz) hp hset ha
   ·exact hh.elim
  ·exact hh.elim
theorem tL (hE:∀ t d,E.T t=some d→bp P t d) (hlk:∀ i b,look i=some b→st.look i=some b) (hs:al w0 I0 NoR g st a ov w) {t et:TypeId} {d:TyD} (hel:i9 E.T t=some (et,d)) {x y:Operand} {e:Eff}
  (hh:(nB (st.nid dst) look d (st.ev x) (st.ev y)).hits C e) (ha:e.app st dst=some st'):Good P w0 I0 ov ⟨dst,.call ⟨.builtin .append,#[x,y],#[t,t]⟩,type,pos,after,guard⟩ st' a w Q:=by
 obtain ⟨dt,hT,hk,hTe⟩:=gW hel
 have ht:=hE _ _ hT
 have hte:=hE _ _ hTe
 unfold nB at hh
 cases hc0:d.bytes.ble 4096 && Nat.blt 0 d.size with
 | false=>rw [hc0] at hh; exact hh.elim
 | true =>
  simp only [hc0,cond_true] at hh
  simp only [EM] at hc0
  have hby:d.bytes≤4096:=by simpa using hc0.1
  obtain ⟨news,ps,hh,st1,g1,R1,us2,T,ts,p1,p2,p3,p4,p5,hsrc,hTR⟩:=sv (dst:=dst) hlk hs (hs.ev y) hh
  rw [← p3] at hsrc
  exact tQ hlk hs p1 p2 p3 p4 p5 hsrc.len hsrc.all hsrc.rep hsrc.apart hTR
   (fun v n us hv b1 b2=>yW (dst:=dst) (type:=type) (pos:=pos) (after:=after) (guard:=guard) ht hk hte hby hv b1 hsrc b2) hh ha
end
end Go.Ab
end
section
namespace Go.Ab
open Go.RowKit
section
variable {P:Program} {E:Env} {C:Cal} {w0:Bs} {w w':World} {I0 I R:Nat→Prop} {g g':Gh} {st st':ASt} {a:Act} {ov:List Value} {look:Look} {Q:Exit→Act→World→Prop} {id:Nat}
variable {dst:Option Tmp} {type:TypeId} {pos:String} {after:Array Edge} {guard:Option (Nat × Bool)}
theorem xL (hE : ∀ t d, E.T t = some d → bp P t d) (hlk : ∀ i b, look i = some b → st.look i = some b) (hs : al w0 I0 NoR g st a ov w) {t et : TypeId} {d : TyD} (hel : i9 E.T t = some (et, d)) {x y : Operand} {e : Eff}
  (hh:(zj look d (st.ev x) (st.ev y)).hits C e) (ha:e.app st dst=some st'):Good P w0 I0 ov ⟨dst,.call ⟨.builtin .copy,#[x,y],#[t,t]⟩,type,pos,after,guard⟩ st' a w Q:=by
 obtain ⟨dt,hT,hk,hTe⟩:=gW hel
 have ht:=hE _ _ hT
 have hte:=hE _ _ hTe
 have hu:=d7 ht hk
 unfold zj at hh
 obtain ⟨news,ps,hh,st1,g1,R1,us2,T,ts,p1,p2,p3,p4,p5,hsrc,hTR⟩:=sv (dst:=dst) hlk hs (hs.ev y) hh
 have hx:=hs.ev x
 rw [← p3] at hsrc
 split at hh
 ·rename_i i r p hxi
  rw [hxi] at hx p5
  have hts:∀ r,ie i r ts=false:=p5 i rfl
  split at hh
  ·rename_i x0 hx0
   obtain ⟨xs,h1,h2⟩:=aG hx0
   obtain ⟨xs',x',nd,g1',g2,hnode,g4⟩:=hx
   rw [hlk _ _ h1] at g1'
   cases g1'
   rw [h2] at g2
   cases g2
   obtain ⟨z,hz,y1,hp,hh⟩:=em hh
   obtain ⟨x1,hset,n,hn,hh⟩:=AJ hh
   cases hh
   obtain ⟨t1,t2,t3⟩:=p4.tree i xs hts (hlk _ _ h1)
   have hrl:r < xs.length:=(EJ.1 h2).1
   have hfr:∀ b,g1.φ i r b→Foot g1 st1.look i b:=fun b hb=>.inr ⟨xs,r,t1,hrl,hb⟩
   obtain ⟨v,Sy,s1,s2,s3,s4,s5⟩:=(p2.trees i xs t1 r x0 h2).sub hz
   rw [t2] at s3
   obtain ⟨e1,e2⟩:=Node.unique hnode s3
   obtain ⟨A,c,hf,hA,hcell⟩:=hsrc.form
   have hlm:(st1.az (CA.drop i r (cb p) true)).look i=some (.tree xs):=by rw [aN,t1]; rfl
   have happ:ae dst (ps ++ [.drop i r (cb p) true,.root i r x1]) st=some ((st1.az (CA.drop i r (cb p) true)).ac i (some (.tree (ao xs r x1)))):=by
    rw [cQ,p1,Option.bind_some]
    simp only [ae,Prim.app,en hlm]
   simp only [Eff.app,happ,EL] at ha
   subst ha
   have fin:∀ (w':World) (S':Nat→Prop),am w' g1.I y1 v S'→y1.nd=z.nd→w0.Bel w'→w.heap.size≤w'.heap.size→(∀ b,b < w.heap.size→¬ Sy b→w'.heap[b]? = w.heap[b]?)→(∀ b,S' b→Sy b∨R1 b) →
     (execOp a.eval ⟨dst,.call ⟨.builtin .copy,#[x,y],#[t,t]⟩,type,pos,after,guard⟩).run P w=.ok (.value (.int .i64 (Nat.min news.length n))) w' →
     Good P w0 I0 ov ⟨dst,.call ⟨.builtin .copy,#[x,y],#[t,t]⟩,type,pos,after,guard⟩ (((st1.az (CA.drop i r (cb p) true)).ac i (some (.tree (ao xs r x1)))).put dst (.one (.t (.lit (.int .i64 (Nat.min news.length n)))))) a w Q:=by
    intro w' S' hr hnd hw hsz hblk hS hrun
    have hfx:∀ b,g1.φ i r b→b < w.heap.size:=fun b hb=>(p2.foot i b (hfr b hb)).2.1
    obtain ⟨m1,m2⟩:=s5 w' g1.I y1 x1 S' hset (fun b hb=>hblk b (p2.lt b hb) (fun h=>(p2.foot i b (hfr b (s2 b h))).2.2.1 hb)) (fun _ h=>h) (fun b hb hn=>hblk b (hfx b hb) hn) hr (fun b hb hb2=>by
     rcases hS b hb with h | h
     ·exact h
     ·exact absurd h (p2.foot i b (hfr b hb2)).2.2.2)
    obtain ⟨q1,q2⟩:=p2.gF t1 h2 (CA.drop i r (cb p) true) (fun q=>leads true (cb p) q=false) (iB i r (cb p) true) (R':=NoR) (I':=g1.I) m1
     (fun q v' nd ho _ hn => m2 q v' nd (fun q' hq' hn' => by
      cases q' with
      | nil=>exact ⟨hn'.1,by rw [hn'.2,hnd]⟩
      | cons kj q'=>rw [hq',oh p _ (by simp)] at ho; cases ho) hn)
     hw hsz (fun b hb hn _=>hblk b hb (fun h=>hn (s2 b h)))
     (fun b hb => by
      rcases hb with h | h
      ·exact .inl h.1
      ·rcases hS b h with h | h
       ·exact .inl (s2 b h)
       ·exact .inr (.inl h))
     (fun b hb => hb.elim) (fun _ h => h) (fun _ h => .inl h) (fun b hb hS' => by
      rcases hS' with h | h
      ·exact (p2.foot i b (hfr b h.1)).2.2.1 hb
      ·rcases hS b h with h | h
       ·exact (p2.foot i b (hfr b (s2 b h))).2.2.1 hb
       ·exact (p2.res b h).2.2 hb)
    exact jQ hrun ⟨_,q1.put dst (v:=.one (.t (.lit (.int .i64 (Nat.min news.length n))))) ⟨.lit _,rfl⟩⟩
   have hrun0:∀ {u:Value} {w':World},(Builtin.copy_ #[t,t] type #[a.eval x,a.eval y]).run P w=.ok u w'→(execOp a.eval ⟨dst,.call ⟨.builtin .copy,#[x,y],#[t,t]⟩,type,pos,after,guard⟩).run P w=.ok (.value u) w':=fun h =>
    gQ (s:=Builtin.copy_ #[t,t] type #[a.eval x,a.eval y]) (fun cs=>by simp [builtin]) h
   unfold pcopy at hp
   split at hp
   ·rename_i s xs0
    split at hp
    ·rename_i hse
     subst hse
     simp only [EL] at hp
     subst hp
     simp only [slLen,EL] at hn
     subst hn
     have hnI:∀ b,Sy b→¬ g1.I b:=fun b hb=>(p2.foot i b (hfr b (s2 b hb))).2.2.1
     have hall:∀ x ∈ xs0,x.length=d.size:=by cases s1 with | fr h=>cases h | sl _ _ _ _ _ _ hl=>exact hl
     obtain ⟨a0,cap0,vs,ty,us0,w1,w2,w3,w4⟩:=s1.write hnI
     obtain ⟨m,hm⟩:∃ m,m=min news.length xs0.length:=⟨_,rfl⟩
     have hm1:m≤news.length:=by rw [hm]; exact Nat.min_le_left _ _
     have hm2:m≤xs0.length:=by rw [hm]; exact Nat.min_le_right _ _
     have hmul1:m * d.size≤news.length * d.size:=Nat.mul_le_mul_right _ hm1
     have hmul2:m * d.size≤xs0.length * d.size:=Nat.mul_le_mul_right _ hm2
     have hul:(us2.take (m * d.size)).length=m * d.size:=by rw [List.length_take,hsrc.len]; omega
     have hfl:(news.take xs0.length).flatten=news.flatten.take (m * d.size):=by
      have:news.take xs0.length=news.take m:=by
       rw [hm]
       rcases Nat.le_total news.length xs0.length with h | h
       ·rw [Nat.min_eq_left h,List.take_length,List.take_of_length_le h]
       ·rw [Nat.min_eq_right h]
      rw [this,pl _ hsrc.all]
     have hfll:(news.flatten.take (m * d.size)).length=m * d.size:=by rw [List.length_take,cq hsrc.all]; omega
     have hfit:a0.off + 0 + (us2.take (m * d.size)).length≤vs.size:=by
      rw [hul]
      have h1:=w3.fit
      have h2:=Nat.mul_le_mul_right d.size w3.le
      omega
     have hone:∀ u ∈ us2.take (m * d.size),u.oneCell'=true:=fun u hu=>hsrc.one u (List.mem_of_mem_take hu)
     have hst:=run_storeCells_at P a0.block a0.off ty (us2.take (m * d.size)) 0 vs w w3.heap (by simpa using hfit) hone
     simp only [Nat.add_zero] at hst
     have hheap:=setRow_heap w a0.block vs (vs.toList.take a0.off ++ us2.take (m * d.size) ++ vs.toList.drop (a0.off + (us2.take (m * d.size)).length)).toArray ty (0,0) w3.heap
     obtain ⟨W,hW⟩:∃ W,W=w.setRow a0.block (vs.toList.take a0.off ++ us2.take (m * d.size) ++ vs.toList.drop (a0.off + (us2.take (m * d.size)).length)).toArray:=⟨_,rfl⟩
     rw [← hW] at hst hheap
     have hoth:∀ b,b≠a0.block→W.heap[b]? = w.heap[b]? := fun b hb=>by rw [hW]; exact setRow_other w a0.block b _ hb
     have hablk:w0.New a0.block:=(p2.foot i _ (hfr _ (s2 _ w2))).1
     have hlen2:(news.take xs0.length ++ xs0.drop news.length).length=xs0.length:=by simp; omega
     have hflat2:(news.take xs0.length ++ xs0.drop news.length).flatten=spl xs0.flatten 0 (news.flatten.take (m * d.size)):=by
      rw [List.flatten_append,hfl,pR _ hall,spl,List.take_zero,List.nil_append,Nat.zero_add,hfll]
      congr 1
      rcases Nat.le_total news.length xs0.length with h | h
      ·rw [hm,Nat.min_eq_left h]
      ·rw [hm,Nat.min_eq_right h,List.drop_of_length_le (by rw [cq hall]; exact Nat.mul_le_mul_right _ h),List.drop_of_length_le (by rw [cq hall]; exact Nat.le_refl _)]
     obtain ⟨n1,n2⟩:=w4 0 (news.flatten.take (m * d.size)) (us2.take (m * d.size)) (fun k b=>k < m * d.size∧T k b) W (news.take xs0.length ++ xs0.drop news.length) (by rw [hfll,cq hall]; omega) (by rw [hul,hfll]) hone
      (fun k c hc => by
       have hk':k < m * d.size:=by have:=(EJ.1 hc).1; rw [hfll] at this; exact this
       rw [List.getElem?_take_of_lt hk'] at hc
       have:=hsrc.rep k c hc
       rw [EX] at this ⊢
       rw [List.getElem?_take_of_lt hk']
       exact this.mono (fun b hb=>⟨hk',hb⟩))
      (fun k b hb h=>(p2.foot i b (hfr b (s2 b h))).2.2.2 (hTR k b hb.2)) (fun k k' b hb hb'=>hsrc.apart k k' b hb.2 hb'.2) (by rw [hheap]; rfl) hoth hlen2
      (fun x hx => by
       rcases List.mem_append.1 hx with h | h
       ·exact hsrc.all x (List.mem_of_mem_take h)
       ·exact hall x (List.mem_of_mem_drop h)) hflat2
     refine fin W _ n1 (by simp only [TV.nd,hlen2]) (by rw [hW]; exact p2.below.setRow hablk _) (by rw [hW]; simp) (fun b _ hb=>hoth b (fun e=>hb (e ▸ w2))) (fun b hb=>?_) (hrun0 ?_)
     ·rcases hb with h | ⟨k,h⟩
      ·exact .inl h
      ·exact .inr (hTR k b h.2)
     ·rw [e1, w1, hf]
      have hmin:min news.length xs0.length=m:=hm.symm
      have hmin2:Nat.min news.length xs0.length=m:=hm.symm
      have hfc:(Builtin.firstCells d.size m (.slice A news.length c)).run P w=.ok (us2.take (m * d.size)).toArray w:=by
       cases A with
       | none =>
        have h0:=hA rfl
        have:m=0:=by rw [hm,h0]; simp
        subst this
        simp [Builtin.firstCells]
       | some ad => exact run_firstCells_some (P := P) w d.size m ad news.length c _ hul (fun j u hu => hcell ad rfl j u (by
         have hj:j < m * d.size:=by have:=(EJ.1 hu).1; rw [hul] at this; exact this
         rwa [List.getElem?_take_of_lt hj] at hu))
      have hadd:a0=⟨a0.block,a0.off,none⟩:=by
       have:=w3.spot
       obtain ⟨b,o,sp⟩:=a0
       simp at this
       subst this
       rfl
      rw [← hadd] at hst
      simp [Builtin.copy_,aY hu,Builtin.lenOf,cC hte,hmin,hfc,hst,goInt]
    ·cases hp
   ·simp only [EL] at hp
    subst hp
    have hv:=bg s1
    have hv2:a.eval x=.slice none 0 0:=by rw [e1,hv]
    simp only [slLen,EL] at hn
    subst hn
    refine fin w Sy (.fr (by rw [hv]; exact .lit _)) rfl p2.below (Nat.le_refl _) (fun _ _ _=>rfl) (fun b hb=>.inl hb) (hrun0 ?_)
    rw [hv2,hf]
    have hfc:(Builtin.firstCells d.size 0 (.slice A news.length c)).run P w=.ok #[] w:=by
     cases A with
     | none=>simp [Builtin.firstCells]
     | some ad=>exact run_firstCells_some (P:=P) w d.size 0 ad news.length c [] (by simp) (by simp)
    simp [Builtin.copy_,aY hu,Builtin.lenOf,cC hte,hfc,goInt]
   ·cases hp
  ·exact hh.elim
 ·exact hh.elim
theorem qj {α:Type} (s:Nat):∀ (n:Nat) (l:List α),l.length=n * s→(chunks s n l).length=n∧(∀ x ∈ chunks s n l,x.length=s)∧(chunks s n l).flatten=l
 | 0,l,h=>⟨rfl,by simp [chunks],by have:l=[]:=List.eq_nil_of_length_eq_zero (by simpa using h); subst this; rfl⟩
 | n + 1,l,h=>by
  have h1:(l.drop s).length=n * s:=by rw [List.length_drop,h,Nat.add_mul]; omega
  obtain ⟨k1,k2,k3⟩:=qj s n (l.drop s) h1
  have hl:(l.take s).length=s:=by rw [List.length_take,h,Nat.add_mul]; omega
  refine ⟨by simp [chunks,k1],fun x hx=>?_,by simp only [chunks,List.flatten_cons,k3,List.take_append_drop]⟩
  rcases List.mem_cons.1 hx with rfl | hx
  ·exact hl
  ·exact k2 x hx
theorem dN {α:Type}:∀ (n:Nat) (l:List α),(List.replicate n l).flatten.length=n * l.length
 | 0,l=>by simp
 | n + 1,l=>by simp [List.replicate_succ,dN n l,Nat.add_mul]; omega
theorem B9 (z:Array Value) (n:Nat) (hz:0 < z.size):((Array.range (n * z.size)).map (z[· % z.size]!)).toList=(List.replicate n z.toList).flatten:=by
 apply List.ext_getElem?
 intro k
 by_cases hk:k < n * z.size
 ·have hall:∀ x ∈ List.replicate n z.toList,x.length=z.size:=fun x hx=>by rw [List.eq_of_mem_replicate hx]; simp
  have hkd:k / z.size < n:=Nat.div_lt_of_lt_mul (by rw [Nat.mul_comm]; exact hk)
  have hr:=Nat.mod_lt k hz
  obtain ⟨el,c,g1,g2,g3⟩:=qS hall (by simpa using hkd) hr
  rw [Nat.mul_comm,Nat.div_add_mod] at g3
  rw [List.getElem?_replicate,if_pos hkd] at g1
  cases g1
  rw [g3]
  simp only [Array.toList_map,EP,Array.toList_range]
  rw [List.getElem?_range hk]
  simp only [EW,EL]
  rw [getElem!_pos z _ hr]
  rw [EN,Array.getElem?_eq_getElem hr] at g2
  exact Option.some.inj g2
 ·rw [EV (by simpa using hk),EV (by rw [dN]; simpa using hk)]
theorem tK (hE:∀ t d,E.T t=some d→bp P t d) (hlk:∀ i b,look i=some b→st.look i=some b) (hs:al w0 I0 NoR g st a ov w) {t:TypeId} {len:Nat} {parts:Array (Nat × Operand)} {e:Eff}
  (hh:(opL E (st.nid dst) look (.buildSlice t len parts) ((Op.buildSlice t len parts).operands.toList.map st.ev)).hits C e) (ha:e.app st dst=some st'):Good P w0 I0 ov ⟨dst,.buildSlice t len parts,type,pos,after,guard⟩ st' a w Q:=by
 simp only [opL] at hh
 split at hh
 ·rename_i et d hel
  obtain ⟨dt,hT,hk,hTe⟩:=gW hel
  have ht:=hE _ _ hT
  have hte:=hE _ _ hTe
  have hu:=d7 ht hk
  have hops:(Op.buildSlice t len parts).operands.toList.map st.ev=parts.toList.map fun p=>st.ev p.2:=by simp [Op.operands]
  rw [hops] at hh
  obtain ⟨z,hz,hzc⟩:=tn (w:=w) hte
  have hzl:z.cells.size=d.size:=by have:=hte.zlen; rw [← hzc] at this; simpa using this
  obtain ⟨Z,hZ⟩:∃ Z:Array Value,Z=(Array.range (len * d.size)).map ((if len * d.size=0 then #[] else z.cells)[· % (if len * d.size=0 then #[] else z.cells).size]!):=⟨_,rfl⟩
  have hZl:Z.toList=(List.replicate len d.zero).flatten:=by
   rw [hZ]
   by_cases h0:len * d.size=0
   ·rw [h0]
    have:(List.replicate len d.zero).flatten=[]:=List.eq_nil_of_length_eq_zero (by rw [dN,hte.zlen,h0])
    rw [this]; simp
   ·rw [if_neg h0,← hzc,← hzl]
    have h1:0 < z.cells.size:=by
     rcases Nat.eq_zero_or_pos z.cells.size with h | h
     ·rw [← hzl,h] at h0; simp at h0
     ·exact h
    exact B9 z.cells len h1
  have hcr0:CR w g st.look ((List.replicate len d.zero).flatten.map fun v=>.t (.lit v)) Z.toList:=by
   rw [hZl]
   exact CR.lits (fun v hv=>by
    obtain ⟨l,hl,hv'⟩:=List.mem_flatten.1 hv
    rw [List.eq_of_mem_replicate hl] at hv'
    exact hte.zone v hv')
  obtain ⟨cs,cells,hh,hfill,hcr⟩:=fR (place:=fun i=>some (i * d.size,d.size)) (fun i off agg n hi=>by
   simp only [EL,Prod.mk.injEq] at hi
   obtain ⟨rfl,_,rfl⟩:=hi
   rfl) hs parts.toList _ Z hcr0 hh
  obtain ⟨ds,hh,hdl,hok⟩:=gS hlk hs hcr hh
  cases hc:dl (ds.flatMap Gd.ts) && (len * d.size).ble 16777216 && (ds.map Gd.y).length.beq (len * d.size) && Nat.blt 0 d.size with
  | false=>simp only [hc,cond_false] at hh; exact hh.elim
  | true =>
   simp only [hc,cond_true] at hh
   cases hh
   simp only [EM] at hc
   obtain ⟨⟨⟨hc0,hc1⟩,hc2⟩,hc3⟩:=hc
   have hc1:len * d.size≤16777216:=by simpa using hc1
   have hc2:ds.length=len * d.size:=by simpa using hc2
   have hc3:0 < d.size:=by simpa using hc3
   have hrun:(execOp a.eval ⟨dst,.buildSlice t len parts,type,pos,after,guard⟩).run P w=.ok (.value (.slice (some ⟨w.heap.size,0,none⟩) len len)) (w.alloc (.cells cells et)):=by
    have hpl:(parts.map fun (p:Nat × Operand)=>(p.1,a.eval p.2)).toList=parts.toList.map fun p=>(p.1,a.eval p.2):=by simp
    have hnot':¬ 16777216 < len * d.size:=by omega
    simp only [execOp,Instr.buildSlice,Sem.run_bind,aY hu,Result.andThen_ok,cC hte]
    by_cases h0:len * d.size=0
    ·have hZ2:Array.map (fun x=>(default:Value)) (Array.range (len * d.size))=Z:=by rw [hZ]; simp [h0]
     simp [h0,newRow]
     rw [h0] at hZ2
     rw [← hZ2] at hfill
     simp [hfill]
    ·have hZ':Array.map (fun x=>z.cells[x % z.cells.size]!) (Array.range (len * d.size))=Z:=by rw [hZ]; simp [h0]
     simp [hnot',h0,newRow,hz,hZ',hfill]
   have hn63:len≤maxLen:=by
    have:len * 1≤len * d.size:=Nat.mul_le_mul_left _ hc3
    simp only [maxLen]; omega
   have hcl:cells.toList.length=ds.length:=by rw [hcr.1,hdl]
   obtain ⟨st2,g2,R2,F,q1,q2,q3,q4,q5,q6,q7,q8⟩:=eD (dst:=dst) ds hs hcl hok hc0
   obtain ⟨dd,h0,h1,h2,h3⟩:=mg ha q1 q4.out
   have hnid:st2.nid dst=st.nid dst:=vH q4.out dst
   rw [← hnid] at h1 h2 h3
   obtain ⟨k1,k2,k3⟩:=qj d.size len (ds.map Gd.y) (by simpa using hc2)
   refine oG q2 rfl hrun (q2.below.step (ez w _)) (ez w _).size (fun k hk _=>(ez w _).block k hk) (S:=fun b=>b=w.heap.size∨∃ m,F m b) ?_ (fun b hb=>?_) ⟨_,_,_,rfl⟩ h0 h1 h2 h3
   ·have hold:∀ b,b < w.heap.size→(w.alloc (.cells cells et)).heap[b]? = w.heap[b]? := (ez w _).block
    have key:am (w.alloc (.cells cells et)) g2.I (.sl true d.size (chunks d.size len (ds.map Gd.y))) (.slice (some ⟨w.heap.size,0,none⟩) (chunks d.size len (ds.map Gd.y)).length len) (fun b=>b=w.heap.size∨∃ m,F m b):=by
     refine .sl cells.toList cells et F (.inl rfl) ?_ k2 (fun k c hk'=>?_) (fun k b hb=>⟨.inr ⟨k,hb⟩,fun e=>by have h5:=(q2.res b (q7 k b hb).1).2.1; have h6:b=w.heap.size:=e; omega⟩) q8
     ·rw [k1]
      refine ⟨heap_alloc_new w _,rfl,Nat.le_refl _,hn63,by have:=hcl; simp at this ⊢; omega,by omega,fun k _=>by rw [Nat.zero_add,EN],fun u hu'=>?_⟩
      obtain ⟨m,hm,rfl⟩:=List.mem_iff_getElem.1 hu'
      have hmd:m < ds.length:=by omega
      exact (q6 m ds[m] _ (EK hmd) (EK hm)).2
     ·rw [k3,EP] at hk'
      cases hdm:ds[k]? with
      | none=>simp [hdm] at hk'
      | some dd' =>
       simp only [hdm,EW,EL] at hk'
       subst hk'
       have hkl:k < cells.toList.length:=by rw [hcl]; exact (EJ.1 hdm).1
       have:=(q6 k dd' _ hdm (EK hkl)).1
       rw [getD_some (EK hkl)]
       rw [← q3] at this
       exact this.mv (fun b hb=>hold b (q2.lt b hb)) (fun _ h=>h) (fun b hb=>hold b (q2.res b (q7 k b hb).1).2.1) (fun _ h=>h)
    rwa [k1] at key
   ·rcases hb with h | ⟨m,h⟩
    ·subst h; exact .inr ⟨Nat.le_refl _,by simp⟩
    ·exact .inl (q7 m b h).1
 ·exact hh.elim
end
end Go.Ab
end

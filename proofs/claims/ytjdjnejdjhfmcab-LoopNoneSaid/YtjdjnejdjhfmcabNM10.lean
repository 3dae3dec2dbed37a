import Derived.Test.YtjdjnejdjhfmcabNM8
import Derived.Test.YtjdjnejdjhfmcabNM6
section
namespace Go.Ab
open Go.RowKit
set_option linter.unusedVariables false
section
variable {P:Program} {E:Env} {C:Cal} {w0:Bs} {w w':World} {I0 I R:Nat→Prop} {g g':Gh} {st st':ASt} {a:Act} {ov:List Value} {look:Look} {Q:Exit→Act→World→Prop} {id:Nat}
variable {dst:Option Tmp} {type:TypeId} {pos:String} {after:Array Edge} {guard:Option (Nat × Bool)}
theorem prims_append {ps qs:List Prim} {st:ASt}:primsApp dst (ps ++ qs) st=(primsApp dst ps st).bind (primsApp dst qs):=by
 induction ps generalizing st with
 | nil=>rfl
 | cons p ps ih =>
  simp only [List.cons_append,primsApp]
  cases p.app st dst with
  | none=>rfl
  | some s1=>exact ih
structure Kept (ts:List (Nat × Nat)) (g:Gh) (st:ASt) (g1:Gh) (st1:ASt):Prop where
 slots:st1.slots.length=st.slots.length
 out:st1.out.length=st.out.length
 boxes:st1.boxes.length=st.boxes.length
 none:∀ j,st.look j=none→st1.look j=none
 tree:∀ j xs,(∀ r,memP j r ts=false)→st.look j=some (.tree xs)→st1.look j=some (.tree xs)∧g1.ρ j=g.ρ j∧g1.φ j=g.φ j
 root:∀ j r xs x,memP j r ts=false→st.look j=some (.tree xs)→xs[r]? = some x→∃ xs1,st1.look j=some (.tree xs1)∧xs1[r]? = some x∧g1.ρ j r=g.ρ j r∧g1.φ j r=g.φ j r
 I:∀ b,g.I b→g1.I b
 cells:∀ j cs,st.look j=some (.cells cs)→∃ cs1,st1.look j=some (.cells cs1)∧cs1.length=cs.length∧g1.β j=g.β j
theorem Kept.refl (ts:List (Nat × Nat)) (g:Gh) (st:ASt):Kept ts g st g st :=
 ⟨rfl,rfl,rfl,fun _ h=>h,fun _ _ _ h=>⟨h,rfl,rfl⟩,fun _ _ xs _ _ h hx=>⟨xs,h,hx,rfl,rfl⟩,fun _ h=>h,fun _ cs h=>⟨cs,h,rfl,rfl⟩⟩
theorem memP_iff (i r:Nat):∀ l:List (Nat × Nat),memP i r l=true ↔ (i,r) ∈ l
 | []=>by simp [memP]
 | (a, b) :: l => by
  simp only [memP,List.mem_cons,Prod.mk.injEq]
  cases h1:a.beq i with
  | false =>
   have:a≠i:=fun e=>by subst e; simp at h1
   simp only [Bool.false_and,cond_false,memP_iff i r l]
   constructor
   ·exact .inr
   ·rintro (⟨e,_⟩ | h)
    ·exact absurd e.symm this
    ·exact h
  | true =>
   have e1:=(beq_iff _ _).1 h1
   subst e1
   cases h2:b.beq r with
   | false =>
    have:b≠r:=fun e=>by subst e; simp at h2
    simp only [Bool.true_and,cond_false,memP_iff a r l]
    constructor
    ·exact .inr
    ·rintro (⟨_,e⟩ | h)
     ·exact absurd e.symm this
     ·exact h
   | true =>
    have e2:=(beq_iff _ _).1 h2
    subst e2
    simp
theorem memP_false (i r:Nat) (l:List (Nat × Nat)):memP i r l=false ↔ (i,r) ∉ l:=by
 rw [← memP_iff]; cases memP i r l <;> simp
theorem setRoot_tree {i r:Nat} {xs:List TV} {x:TV} (h:look i=some (.tree xs)):setRoot look i r x=some (.tree (setNth xs r x)):=by simp [setRoot,h]
theorem isFr_rep {x:TV} {v:Value} {S:Nat→Prop} (h:RepO w I x v S) (hf:x.isFr=true):Rep w I x v:=by
 cases x with
 | lit z=>exact (repO_lit h) ▸ .lit _
 | sl o s xs =>
  cases o with
  | false=>exact repO_frz h
  | true=>simp [TV.isFr] at hf
 | _=>simp [TV.isFr] at hf
theorem take_state (hs:SimI w0 I0 R g st a ov w) {i r:Nat} {xs:List TV} {x:TV} (hl:st.look i=some (.tree xs)) (hx:xs[r]? = some x) :
  ∃ st1 g1,primsApp dst [.drop i r [] false,.root i r .hole] st=some st1∧SimI w0 I0 (fun b=>R b∨g.φ i r b) g1 st1 a ov w∧g1.I=g.I∧Kept [(i,r)] g st g1 st1∧(∀ b,g.φ i r b→¬ R b) ∧
   (∀ c v,RepC w g st.look c v→RepC w g1 st1.look (c.drop i r [] false) v):=by
 obtain ⟨h1,h2,h3,h4⟩:=hs.take hl hx
 have hi:=look_lt hl
 have hlm:(st.mapS (CA.drop i r [] false)).look i=some (.tree xs):=by rw [look_mapS,hl]; rfl
 refine ⟨_,_,by simp only [primsApp,Prim.app,setRoot_tree hlm],h1,rfl,⟨?_,?_,?_,?_,?_,?_,fun _ h=>h,fun j cs hj=>?_⟩,h3,h4⟩
 ·simp [ASt.setBox,ASt.mapS,mapAs_len]
 ·simp [ASt.setBox,ASt.mapS,mapAs_len]
 ·simp [ASt.setBox,ASt.mapS,setNth_eq,mapBs_len]
 ·intro j hj
  have hne:i≠j:=fun e=>by subst e; rw [hl] at hj; cases hj
  rw [look_setBox,if_neg (fun h=>hne h.1),look_mapS,hj]
  rfl
 ·intro j ys hj hlj
  have hne:i≠j:=fun e=>by
   subst e
   have:=hj r
   rw [memP_false] at this
   exact this (by simp)
  have hne':j≠i:=fun h=>hne h.symm
  refine ⟨by rw [look_setBox,if_neg (fun h=>hne h.1),look_mapS,hlj]; rfl,?_,?_⟩
  ·funext k; simp [Gh.setR,hne']
  ·funext k; simp [Gh.setR,hne']
 ·intro j k ys y hm hlj hy
  rw [memP_false] at hm
  by_cases hij:i=j
  ·subst hij
   rw [hl] at hlj
   cases hlj
   have hk:k≠r:=fun e=>hm (by rw [e]; simp)
   refine ⟨setNth xs r .hole,by rw [look_setBox,if_pos ⟨rfl,by rw [mapS_boxes]; exact hi⟩],by rw [setNth_eq,List.getElem?_set_ne (fun h=>hk h.symm)]; exact hy,by simp [Gh.setR,hk],by simp [Gh.setR,hk]⟩
  ·have hne':j≠i:=fun h=>hij h.symm
   exact ⟨ys,by rw [look_setBox,if_neg (fun h=>hij h.1),look_mapS,hlj]; rfl,hy,by simp [Gh.setR,hne'],by simp [Gh.setR,hne']⟩
 ·have hij:i≠j:=fun e=>by subst e; rw [hl] at hj; cases hj
  exact ⟨_,by rw [look_setBox,if_neg (fun h=>hij h.1),look_mapS,hj]; rfl,mapC_len _ _,rfl⟩
theorem takeD_state (hs:SimI w0 I0 R g st a ov w) {i r:Nat} {xs:List TV} {x y x':TV} {p:Way} {u:Value} {nd:Option (Nat × Nat)} (hl:st.look i=some (.tree xs)) (hx:xs[r]? = some x) (hg:getP p x=some y) (hset:setP p x .hole=some x') (hnode:Node w p x (g.ρ i r) u nd) :
  ∃ st1 g1 Sy,primsApp dst [.drop i r (wayJs p) false,.root i r x'] st=some st1∧SimI w0 I0 (fun b=>R b∨Sy b) g1 st1 a ov w∧g1.I=g.I∧Kept [(i,r)] g st g1 st1∧(∀ b,Sy b→¬ R b)∧RepO w g.I y u Sy:=by
 have hi:=look_lt hl
 have hrl:r < xs.length:=(List.getElem?_eq_some_iff.1 hx).1
 have hfr:∀ b,g.φ i r b→Foot g st.look i b:=fun b hb=>.inr ⟨xs,r,hl,hrl,hb⟩
 obtain ⟨u',Sy,s1,s2,s3,s4,s5⟩:=(hs.trees i xs hl r x hx).sub hg
 obtain ⟨e1,e2⟩:=Node.unique hnode s3
 subst e1
 obtain ⟨m1,m2⟩:=s5 w g.I .hole x' (fun _=>False) hset (fun _ _=>rfl) (fun _ h=>h) (fun _ _ _=>rfl) (.fr (.hole _)) (fun _ h=>h.elim)
 obtain ⟨q1,q2⟩:=hs.updRoot hl hx (CA.drop i r (wayJs p) false) (fun q=>leads false (wayJs p) q=false) (drop_ok i r (wayJs p) false) (R':=fun b=>R b∨Sy b) (I':=g.I) m1
  (fun q v' nd ho _ hn=>m2 q v' nd (fun q' hq' _=>by rw [hq',leads_append] at ho; cases ho) hn) hs.below (Nat.le_refl _) (fun _ _ _ _=>rfl) (fun b hb=>by rcases hb with h | h; exact .inl h.1; exact h.elim)
  (fun b hb => ⟨hb.imp _root_.id (s2 b), fun h => by
   rcases h with h | h
   ·rcases hb with hb | hb
    ·exact (hs.foot i b (hfr b h.1)).2.2.2 hb
    ·exact h.2 hb
   ·exact h,hb.elim (fun h=>(hs.res b h).2.2) (fun h=>(hs.foot i b (hfr b (s2 b h))).2.2.1)⟩)
  (fun _ h => h) (fun _ h => .inl h) (fun b hb hS => by
   rcases hS with h | h
   ·exact (hs.foot i b (hfr b h.1)).2.2.1 hb
   ·exact h)
 have hlm:(st.mapS (CA.drop i r (wayJs p) false)).look i=some (.tree xs):=by rw [look_mapS,hl]; rfl
 refine ⟨_,_,Sy,by simp only [primsApp,Prim.app,setRoot_tree hlm],q1,rfl,⟨?_,?_,?_,?_,?_,?_,fun _ h=>h,fun j cs hj=>?_⟩,fun b hb=>(hs.foot i b (hfr b (s2 b hb))).2.2.2,s1⟩
 ·simp [ASt.setBox,ASt.mapS,mapAs_len]
 ·simp [ASt.setBox,ASt.mapS,mapAs_len]
 ·simp [ASt.setBox,ASt.mapS,setNth_eq,mapBs_len]
 ·intro j hj
  have hne:i≠j:=fun e=>by subst e; rw [hl] at hj; cases hj
  rw [look_setBox,if_neg (fun h=>hne h.1),look_mapS,hj]
  rfl
 ·intro j ys hj hlj
  have hne:i≠j:=fun e=>by
   subst e
   have:=hj r
   rw [memP_false] at this
   exact this (by simp)
  have hne':j≠i:=fun h=>hne h.symm
  refine ⟨by rw [look_setBox,if_neg (fun h=>hne h.1),look_mapS,hlj]; rfl,?_,?_⟩
  ·funext k; simp [Gh.setR,hne']
  ·funext k; simp [Gh.setR,hne']
 ·intro j k ys y hm hlj hy
  rw [memP_false] at hm
  by_cases hij:i=j
  ·subst hij
   rw [hl] at hlj
   cases hlj
   have hk:k≠r:=fun e=>hm (by rw [e]; simp)
   refine ⟨setNth xs r x',by rw [look_setBox,if_pos ⟨rfl,by rw [mapS_boxes]; exact hi⟩],by rw [setNth_eq,List.getElem?_set_ne (fun h=>hk h.symm)]; exact hy,by simp [Gh.setR,hk],by simp [Gh.setR,hk]⟩
  ·have hne':j≠i:=fun h=>hij h.symm
   exact ⟨ys,by rw [look_setBox,if_neg (fun h=>hij h.1),look_mapS,hlj]; rfl,hy,by simp [Gh.setR,hne'],by simp [Gh.setR,hne']⟩
 ·have hij:i≠j:=fun e=>by subst e; rw [hl] at hj; cases hj
  exact ⟨_,by rw [look_setBox,if_neg (fun h=>hij h.1),look_mapS,hj]; rfl,mapC_len _ _,rfl⟩
theorem Kept.trans {ts ts':List (Nat × Nat)} {g g1 g2:Gh} {st st1 st2:ASt} (h:Kept ts g st g1 st1) (k:Kept ts' g1 st1 g2 st2):Kept (ts ++ ts') g st g2 st2:=by
 have sp:∀ j r,memP j r (ts ++ ts')=false→memP j r ts=false∧memP j r ts'=false:=fun j r hm=>by
  simp only [memP_false,List.mem_append,not_or] at hm ⊢
  exact hm
 refine ⟨k.slots.trans h.slots,k.out.trans h.out,k.boxes.trans h.boxes,fun j hj=>k.none j (h.none j hj),fun j xs hm hl=>?_,fun j r xs x hm hl hx=>?_,fun b hb=>k.I b (h.I b hb),fun j cs hj=>(by
  obtain ⟨c1,e1,e2,e3⟩:=h.cells j cs hj
  obtain ⟨c2,f1,f2,f3⟩:=k.cells j c1 e1
  exact ⟨c2,f1,f2.trans e2,f3.trans e3⟩)⟩
 ·obtain ⟨h1,h2,h3⟩:=h.tree j xs (fun r=>(sp j r (hm r)).1) hl
  obtain ⟨k1,k2,k3⟩:=k.tree j xs (fun r=>(sp j r (hm r)).2) h1
  exact ⟨k1,k2.trans h2,k3.trans h3⟩
 ·obtain ⟨xs1,h1,h2,h3,h4⟩:=h.root j r xs x (sp j r hm).1 hl hx
  obtain ⟨xs2,k1,k2,k3,k4⟩:=k.root j r xs1 x (sp j r hm).2 h1 h2
  exact ⟨xs2,k1,k2,k3.trans h3,k4.trans h4⟩
inductive Gd where
 | fr (y:TV)
 | tk (i r:Nat) (x y:TV)
 | td (i r:Nat) (p:Way) (x y x':TV)
def Gd.y:Gd→TV
 | .fr y=>y
 | .tk _ _ _ y=>y
 | .td _ _ _ _ y _=>y
def Gd.qs:Gd→List Prim
 | .fr _=>[]
 | .tk i r _ _=>[.drop i r [] false,.root i r .hole]
 | .td i r p _ _ x'=>[.drop i r (wayJs p) false,.root i r x']
def Gd.ts:Gd→List (Nat × Nat)
 | .fr _=>[]
 | .tk i r _ _=>[(i,r)]
 | .td i r _ _ _ _=>[(i,r)]
def GdOk (w:World) (g:Gh) (look:Look):Gd→Value→Prop
 | .fr y,u=>Rep w g.I y u∧u.oneCell'=true
 | .td i r p x y x',u=>u.oneCell'=true∧(∃ xs,look i=some (.tree xs)∧xs[r]? = some x)∧getP p x=some y∧setP p x .hole=some x'∧∃ nd,Node w p x (g.ρ i r) u nd
 | .tk i r x y,u=>u.oneCell'=true∧(∃ xs,look i=some (.tree xs)∧xs[r]? = some x)∧∀ (I S:Nat→Prop),RepO w I x (g.ρ i r) S→RepO w I y u S
theorem gather_hits {T:Type} (hlk:∀ i b,look i=some b→st.look i=some b) (hs:SimI w0 I0 R g st a ov w):∀ {cs:List CA} {us:List Value} {k:List TV→List Prim→List (Nat × Nat)→Prg T} {e:T},CR w g st.look cs us→(gatherO look cs k).hits C e →
  ∃ ds:List Gd,(k (ds.map Gd.y) (ds.flatMap Gd.qs) (ds.flatMap Gd.ts)).hits C e∧ds.length=cs.length∧∀ (m:Nat) (d:Gd) (u:Value),ds[m]? = some d→us[m]? = some u→GdOk w g st.look d u
 | [],us,k,e,hcr,h=>⟨[],h,rfl,fun m d u hd=>by simp at hd⟩
 | c :: l, us, k, e, hcr, h => by
  obtain ⟨u0,us',rfl⟩:∃ u0 us',us=u0 :: us':=by
   cases us with
   | nil=>have:=hcr.1; simp at this
   | cons u0 us'=>exact ⟨u0,us',rfl⟩
  have hc:=hcr.2 0 c u0 rfl rfl
  have hcr':CR w g st.look l us':=⟨by have:=hcr.1; simpa using this,fun j c' u hc' hu'=>hcr.2 (j + 1) c' u (by simpa using hc') (by simpa using hu')⟩
  have fin:∀ (d:Gd),GdOk w g st.look d u0→(gatherO look l fun xs ps ts=>k (d.y :: xs) (d.qs ++ ps) (d.ts ++ ts)).hits C e→∃ ds:List Gd,(k (ds.map Gd.y) (ds.flatMap Gd.qs) (ds.flatMap Gd.ts)).hits C e∧ds.length=(c :: l).length∧∀ (m:Nat) (d:Gd) (u:Value),ds[m]? = some d→(u0 :: us')[m]? = some u→GdOk w g st.look d u:=by
   intro d hd hh
   obtain ⟨ds,h1,h2,h3⟩:=gather_hits hlk hs hcr' hh
   refine ⟨d :: ds,by simpa using h1,by simp [h2],fun m d' u hm hu=>?_⟩
   cases m with
   | zero=>simp at hm hu; subst hm hu; exact hd
   | succ m=>simp at hm hu; exact h3 m d' u hm hu
  cases c with
  | t x =>
   simp only [gatherO] at h
   exact fin (.fr x) ⟨hc.1.1,hc.2⟩ (by simpa [Gd.y,Gd.qs,Gd.ts] using h)
  | sref i r p =>
   simp only [gatherO] at h
   split at h
   ·rename_i x hx
    obtain ⟨xs,h1,h2⟩:=rootOf_some hx
    obtain ⟨xs',x',nd,g1,g2,g3,g4⟩:=hc.1
    rw [hlk _ _ h1] at g1
    cases g1
    rw [h2] at g2
    cases g2
    split at h
    ·refine fin (.tk i r x x) ⟨hc.2,⟨xs,hlk _ _ h1,h2⟩,fun I S hr=>?_⟩ (by simpa [Gd.y,Gd.qs,Gd.ts] using h)
     rw [g3.1]; exact hr
    ·obtain ⟨y,hy,hf,h⟩:=h
     obtain ⟨_,S',r1,_⟩:=hs.at (hlk _ _ h1) h2 g3 hy
     exact fin (.fr y) ⟨isFr_rep r1 hf,hc.2⟩ (by simpa [Gd.y,Gd.qs,Gd.ts] using h)
   ·exact h.elim
  | swin i r p lo len =>
   simp only [gatherO] at h
   split at h
   ·rename_i x hx
    obtain ⟨xs,h1,h2⟩:=rootOf_some hx
    obtain ⟨xs',x',u,nd,g1,g2,g3,g4,g5⟩:=hc.1
    rw [hlk _ _ h1] at g1
    cases g1
    rw [h2] at g2
    cases g2
    split at h
    ·obtain ⟨y,hy,h⟩:=h
     refine fin (.tk i r x y) ⟨hc.2,⟨xs,hlk _ _ h1,h2⟩,fun I S hr=>?_⟩ (by simpa [Gd.y,Gd.qs,Gd.ts] using h)
     rw [← g3.1] at hr
     exact win_rep hr g3.2 g5 hy
    ·obtain ⟨z,hz,y,hy,hf,h⟩:=h
     obtain ⟨e1,S',r1,_⟩:=hs.at (hlk _ _ h1) h2 g3 hz
     exact fin (.fr y) ⟨isFr_rep (win_rep r1 e1 g5 hy) hf,hc.2⟩ (by simpa [Gd.y,Gd.qs,Gd.ts] using h)
   ·exact h.elim
  | _=>simp [gatherO,Prg.hits] at h
theorem gatherT_hits {T:Type} (hlk:∀ i b,look i=some b→st.look i=some b) (hs:SimI w0 I0 R g st a ov w):∀ {cs:List CA} {us:List Value} {k:List TV→List Prim→List (Nat × Nat)→Prg T} {e:T},CR w g st.look cs us→(gatherT look cs k).hits C e →
  ∃ ds:List Gd,(k (ds.map Gd.y) (ds.flatMap Gd.qs) (ds.flatMap Gd.ts)).hits C e∧ds.length=cs.length∧∀ (m:Nat) (d:Gd) (u:Value),ds[m]? = some d→us[m]? = some u→GdOk w g st.look d u
 | [],us,k,e,hcr,h=>⟨[],h,rfl,fun m d u hd=>by simp at hd⟩
 | c :: l, us, k, e, hcr, h => by
  obtain ⟨u0,us',rfl⟩:∃ u0 us',us=u0 :: us':=by
   cases us with
   | nil=>have:=hcr.1; simp at this
   | cons u0 us'=>exact ⟨u0,us',rfl⟩
  have hc:=hcr.2 0 c u0 rfl rfl
  have hcr':CR w g st.look l us':=⟨by have:=hcr.1; simpa using this,fun j c' u hc' hu'=>hcr.2 (j + 1) c' u (by simpa using hc') (by simpa using hu')⟩
  have fin:∀ (d:Gd),GdOk w g st.look d u0→(gatherT look l fun xs ps ts=>k (d.y :: xs) (d.qs ++ ps) (d.ts ++ ts)).hits C e→∃ ds:List Gd,(k (ds.map Gd.y) (ds.flatMap Gd.qs) (ds.flatMap Gd.ts)).hits C e∧ds.length=(c :: l).length∧∀ (m:Nat) (d:Gd) (u:Value),ds[m]? = some d→(u0 :: us')[m]? = some u→GdOk w g st.look d u:=by
   intro d hd hh
   obtain ⟨ds,h1,h2,h3⟩:=gatherT_hits hlk hs hcr' hh
   refine ⟨d :: ds,by simpa using h1,by simp [h2],fun m d' u hm hu=>?_⟩
   cases m with
   | zero=>simp at hm hu; subst hm hu; exact hd
   | succ m=>simp at hm hu; exact h3 m d' u hm hu
  cases c with
  | t x =>
   simp only [gatherT] at h
   exact fin (.fr x) ⟨hc.1.1,hc.2⟩ (by simpa [Gd.y,Gd.qs,Gd.ts] using h)
  | sref i r p =>
   simp only [gatherT] at h
   split at h
   ·rename_i x hx
    obtain ⟨xs,h1,h2⟩:=rootOf_some hx
    obtain ⟨xs',x',nd,g1,g2,g3,g4⟩:=hc.1
    rw [hlk _ _ h1] at g1
    cases g1
    rw [h2] at g2
    cases g2
    split at h
    ·refine fin (.tk i r x x) ⟨hc.2,⟨xs,hlk _ _ h1,h2⟩,fun I S hr=>?_⟩ (by simpa [Gd.y,Gd.qs,Gd.ts] using h)
     rw [g3.1]; exact hr
    ·obtain ⟨y,hy,hb,hb1,h⟩:=h
     simp only [frB,Option.some.injEq] at hb1
     rcases h with ⟨hv,h⟩ | ⟨hv,h⟩
     ·obtain ⟨_,S',r1,_⟩:=hs.at (hlk _ _ h1) h2 g3 hy
      exact fin (.fr y) ⟨isFr_rep r1 (hb1.trans hv),hc.2⟩ (by simpa [Gd.y,Gd.qs,Gd.ts] using h)
     ·obtain ⟨x',hset,h⟩:=h
      exact fin (.td i r _ x y x') ⟨hc.2,⟨xs,hlk _ _ h1,h2⟩,hy,hset,nd,g3⟩ (by simpa [Gd.y,Gd.qs,Gd.ts] using h)
   ·exact h.elim
  | swin i r p lo len =>
   simp only [gatherT] at h
   split at h
   ·rename_i x hx
    obtain ⟨xs,h1,h2⟩:=rootOf_some hx
    obtain ⟨xs',x',u,nd,g1,g2,g3,g4,g5⟩:=hc.1
    rw [hlk _ _ h1] at g1
    cases g1
    rw [h2] at g2
    cases g2
    split at h
    ·obtain ⟨y,hy,h⟩:=h
     refine fin (.tk i r x y) ⟨hc.2,⟨xs,hlk _ _ h1,h2⟩,fun I S hr=>?_⟩ (by simpa [Gd.y,Gd.qs,Gd.ts] using h)
     rw [← g3.1] at hr
     exact win_rep hr g3.2 g5 hy
    ·obtain ⟨z,hz,y,hy,hf,h⟩:=h
     obtain ⟨e1,S',r1,_⟩:=hs.at (hlk _ _ h1) h2 g3 hz
     exact fin (.fr y) ⟨isFr_rep (win_rep r1 e1 g5 hy) hf,hc.2⟩ (by simpa [Gd.y,Gd.qs,Gd.ts] using h)
   ·exact h.elim
  | _=>simp [gatherT,Prg.hits] at h
theorem gather_state:∀ (ds:List Gd) {us:List Value} {st:ASt} {g:Gh} {R:Nat→Prop},SimI w0 I0 R g st a ov w→us.length=ds.length→(∀ (m:Nat) (d:Gd) (u:Value),ds[m]? = some d→us[m]? = some u→GdOk w g st.look d u)→nodupP (ds.flatMap Gd.ts)=true →
  ∃ (st2:ASt) (g2:Gh) (R2:Nat→Prop) (F:Nat→Nat→Prop),primsApp dst (ds.flatMap Gd.qs) st=some st2∧SimI w0 I0 R2 g2 st2 a ov w∧g2.I=g.I∧Kept (ds.flatMap Gd.ts) g st g2 st2∧(∀ b,R b→R2 b) ∧
   (∀ (m:Nat) (d:Gd) (u:Value),ds[m]? = some d→us[m]? = some u→RepO w g.I d.y u (F m)∧u.oneCell'=true)∧(∀ m b,F m b→R2 b∧¬ R b)∧(∀ m m' b,F m b→F m' b→m=m')
 | [],us,st,g,R,hs,hl,hok,hn=>⟨st,g,R,fun _ _=>False,rfl,hs,rfl,Kept.refl _ _ _,fun _ h=>h,fun m d u hd=>by simp at hd,fun _ _ h=>h.elim,fun _ _ _ h=>h.elim⟩
 | d :: ds, us, st, g, R, hs, hl, hok, hn => by
  obtain ⟨u0,us',rfl⟩:∃ u0 us',us=u0 :: us':=by
   cases us with
   | nil=>simp at hl
   | cons u0 us'=>exact ⟨u0,us',rfl⟩
  have hl':us'.length=ds.length:=by simpa using hl
  have h0:=hok 0 d u0 rfl rfl
  have hok':∀ (m:Nat) (d':Gd) (u:Value),ds[m]? = some d'→us'[m]? = some u→GdOk w g st.look d' u:=fun m d' u hd hu=>hok (m + 1) d' u (by simpa using hd) (by simpa using hu)
  cases d with
  | fr y =>
   obtain ⟨st2,g2,R2,F,h1,h2,h3,h4,h5,h6,h7,h8⟩:=gather_state ds hs hl' hok' (by simpa [Gd.ts] using hn)
   refine ⟨st2,g2,R2,fun m b=>match m with | 0=>False | m + 1=>F m b,by simpa [Gd.qs] using h1,h2,h3,by simpa [Gd.ts] using h4,h5,fun m d u hd hu=>?_,fun m b hb=>?_,fun m m' b hb hb'=>?_⟩
   ·cases m with
    | zero=>simp at hd hu; subst hd hu; exact ⟨.fr h0.1,h0.2⟩
    | succ m=>simp at hd hu; exact h6 m d u hd hu
   ·cases m with
    | zero=>exact hb.elim
    | succ m=>exact h7 m b hb
   ·cases m with
    | zero=>exact hb.elim
    | succ m =>
     cases m' with
     | zero=>exact hb'.elim
     | succ m'=>rw [h8 m m' b hb hb']
  | tk i r x y =>
   obtain ⟨k1,⟨xs,k2,k3⟩,k4⟩:=h0
   obtain ⟨st1,g1,t1,t2,t3,t4,t5,t6⟩:=take_state (dst:=dst) hs k2 k3
   have hrep:=k4 _ _ (hs.trees i xs k2 r x k3)
   simp only [List.flatMap_cons,Gd.ts,List.singleton_append,nodupP,Bool.and_eq_true,Bool.not_eq_true'] at hn
   obtain ⟨hn1,hn2⟩:=hn
   have hne:∀ d' ∈ ds,∀ i' r',(i',r') ∈ d'.ts→memP i' r' [(i,r)]=false:=fun d' hm i' r' hin'=>by
    rw [memP_false] at hn1 ⊢
    intro hin
    simp only [List.mem_singleton,Prod.mk.injEq] at hin
    obtain ⟨rfl,rfl⟩:=hin
    exact hn1 (List.mem_flatMap.2 ⟨_,hm,hin'⟩)
   obtain ⟨st2,g2,R2,F,h1,h2,h3,h4,h5,h6,h7,h8⟩:=gather_state ds t2 hl' (fun m d' u hd hu=>by
    have hk:=hok' m d' u hd hu
    have hne2:=hne d' (List.mem_of_getElem? hd)
    cases d' with
    | fr y'=>exact ⟨by rw [t3]; exact hk.1,hk.2⟩
    | tk i' r' x' y' =>
     obtain ⟨q1,⟨xs',q2,q3⟩,q4⟩:=hk
     obtain ⟨xs1,z1,z2,z3,z4⟩:=t4.root i' r' xs' x' (hne2 i' r' (by simp [Gd.ts])) q2 q3
     exact ⟨q1,⟨xs1,z1,z2⟩,fun I S hr=>q4 I S (by rw [← z3]; exact hr)⟩
    | td i' r' p' x' y' x2' =>
     obtain ⟨q1,⟨xs',q2,q3⟩,q4,q5,nd,q6⟩:=hk
     obtain ⟨xs1,z1,z2,z3,z4⟩:=t4.root i' r' xs' x' (hne2 i' r' (by simp [Gd.ts])) q2 q3
     exact ⟨q1,⟨xs1,z1,z2⟩,q4,q5,nd,by rw [z3]; exact q6⟩) hn2
   refine ⟨st2,g2,R2,fun m b=>match m with | 0=>g.φ i r b | m + 1=>F m b,?_,h2,h3.trans t3,by simpa [Gd.ts] using t4.trans h4,fun b hb=>h5 b (.inl hb),fun m d u hd hu=>?_,fun m b hb=>?_,fun m m' b hb hb'=>?_⟩
   ·simp only [List.flatMap_cons,Gd.qs]
    rw [prims_append,t1]
    exact h1
   ·cases m with
    | zero=>simp at hd hu; subst hd hu; exact ⟨hrep,k1⟩
    | succ m=>simp at hd hu; have:=h6 m d u hd hu; rw [t3] at this; exact this
   ·cases m with
    | zero=>exact ⟨h5 b (.inr hb),t5 b hb⟩
    | succ m=>exact ⟨(h7 m b hb).1,fun h=>(h7 m b hb).2 (.inl h)⟩
   ·cases m with
    | zero =>
     cases m' with
     | zero=>rfl
     | succ m'=>exact absurd (.inr hb) (h7 m' b hb').2
    | succ m =>
     cases m' with
     | zero=>exact absurd (.inr hb') (h7 m b hb).2
     | succ m'=>rw [h8 m m' b hb hb']
  | td i r p x y x' =>
   obtain ⟨k1,⟨xs,k2,k3⟩,k4,k5,nd,k6⟩:=h0
   obtain ⟨st1,g1,Sy,t1,t2,t3,t4,t5,hrep⟩:=takeD_state (dst:=dst) hs k2 k3 k4 k5 k6
   simp only [List.flatMap_cons,Gd.ts,List.singleton_append,nodupP,Bool.and_eq_true,Bool.not_eq_true'] at hn
   obtain ⟨hn1,hn2⟩:=hn
   have hne:∀ d' ∈ ds,∀ i' r',(i',r') ∈ d'.ts→memP i' r' [(i,r)]=false:=fun d' hm i' r' hin'=>by
    rw [memP_false] at hn1 ⊢
    intro hin
    simp only [List.mem_singleton,Prod.mk.injEq] at hin
    obtain ⟨rfl,rfl⟩:=hin
    exact hn1 (List.mem_flatMap.2 ⟨_,hm,hin'⟩)
   obtain ⟨st2,g2,R2,F,h1,h2,h3,h4,h5,h6,h7,h8⟩:=gather_state ds t2 hl' (fun m d' u hd hu=>by
    have hk:=hok' m d' u hd hu
    have hne2:=hne d' (List.mem_of_getElem? hd)
    cases d' with
    | fr y'=>exact ⟨by rw [t3]; exact hk.1,hk.2⟩
    | tk i' r' x' y' =>
     obtain ⟨q1,⟨xs',q2,q3⟩,q4⟩:=hk
     obtain ⟨xs1,z1,z2,z3,z4⟩:=t4.root i' r' xs' x' (hne2 i' r' (by simp [Gd.ts])) q2 q3
     exact ⟨q1,⟨xs1,z1,z2⟩,fun I S hr=>q4 I S (by rw [← z3]; exact hr)⟩
    | td i' r' p' x' y' x2' =>
     obtain ⟨q1,⟨xs',q2,q3⟩,q4,q5,nd,q6⟩:=hk
     obtain ⟨xs1,z1,z2,z3,z4⟩:=t4.root i' r' xs' x' (hne2 i' r' (by simp [Gd.ts])) q2 q3
     exact ⟨q1,⟨xs1,z1,z2⟩,q4,q5,nd,by rw [z3]; exact q6⟩) hn2
   refine ⟨st2,g2,R2,fun m b=>match m with | 0=>Sy b | m + 1=>F m b,?_,h2,h3.trans t3,by simpa [Gd.ts] using t4.trans h4,fun b hb=>h5 b (.inl hb),fun m d u hd hu=>?_,fun m b hb=>?_,fun m m' b hb hb'=>?_⟩
   ·simp only [List.flatMap_cons,Gd.qs]
    rw [prims_append,t1]
    exact h1
   ·cases m with
    | zero=>simp at hd hu; subst hd hu; exact ⟨hrep,k1⟩
    | succ m=>simp at hd hu; have:=h6 m d u hd hu; rw [t3] at this; exact this
   ·cases m with
    | zero=>exact ⟨h5 b (.inr hb),t5 b hb⟩
    | succ m=>exact ⟨(h7 m b hb).1,fun h=>(h7 m b hb).2 (.inl h)⟩
   ·cases m with
    | zero =>
     cases m' with
     | zero=>rfl
     | succ m'=>exact absurd (.inr hb) (h7 m' b hb').2
    | succ m =>
     cases m' with
     | zero=>exact absurd (.inr hb') (h7 m b hb).2
     | succ m'=>rw [h8 m m' b hb hb']
end
end Go.Ab
end
section
namespace Go.Ab
open Go.RowKit
set_option linter.unusedVariables false
section
variable {P:Program} {E:Env} {C:Cal} {w0:Bs} {w w':World} {I0 I R:Nat→Prop} {g g':Gh} {st st':ASt} {a:Act} {ov:List Value} {look:Look} {Q:Exit→Act→World→Prop} {id:Nat}
variable {dst:Option Tmp} {type:TypeId} {pos:String} {after:Array Edge} {guard:Option (Nat × Bool)}
theorem drops_app (i r:Nat) (js:List Nat):∀ (zs:List Value) (j:Nat) (st:ASt),∃ f:CA→CA,primsApp dst (dropsAt i r js zs j) st=some (st.mapS f)∧f .junk=.junk ∧
  ∀ c,(f c=c∧c.okP (fun i' r' p=>i'=i→r'=r→∀ m z,zs[m]? = some z→isSlV z=true→leads false (js ++ [j + m]) p=false))∨f c=.junk
 | [],j,st=>⟨_root_.id,by rw [mapS_id]; rfl,rfl,fun c=>.inl ⟨rfl,by cases c <;> first | trivial | exact fun _ _ m z hz=>by simp at hz⟩⟩
 | z :: zs, j, st => by
  cases hz:isSlV z with
  | false =>
   obtain ⟨f,h1,h0,h2⟩:=drops_app i r js zs (j + 1) st
   refine ⟨f,by simp only [dropsAt,hz,cond_false]; exact h1,h0,fun c=>?_⟩
   rcases h2 c with ⟨h3,h4⟩ | h3
   ·refine .inl ⟨h3,?_⟩
    have key:∀ i' r' p,(i'=i→r'=r→∀ m z,zs[m]? = some z→isSlV z=true→leads false (js ++ [j + 1 + m]) p=false)→(i'=i→r'=r→∀ m z',(z :: zs)[m]? = some z'→isSlV z'=true→leads false (js ++ [j + m]) p=false):=by
     intro i' r' p hk e1 e2 m z' hm hs
     cases m with
     | zero=>simp at hm; subst hm; rw [hz] at hs; cases hs
     | succ m=>simp at hm; have:=hk e1 e2 m z' hm hs; rwa [show j + 1 + m=j + (m + 1) by omega] at this
    cases c <;> first | trivial | exact key _ _ _ h4
   ·exact .inr h3
  | true =>
   obtain ⟨f,h1,h0,h2⟩:=drops_app i r js zs (j + 1) (st.mapS (CA.drop i r (js ++ [j]) false))
   refine ⟨f ∘ CA.drop i r (js ++ [j]) false,by simp only [dropsAt,hz,cond_true,primsApp,Prim.app]; rw [h1,mapS_comp],by simp [CA.drop,h0],fun c=>?_⟩
   simp only [Function.comp]
   rcases drop_ok i r (js ++ [j]) false c with ⟨h3,h4⟩ | h3
   ·rw [h3]
    rcases h2 c with ⟨h5,h6⟩ | h5
    ·refine .inl ⟨h5,?_⟩
     have key:∀ i' r' p,(i'=i→r'=r→leads false (js ++ [j]) p=false)→(i'=i→r'=r→∀ m z,zs[m]? = some z→isSlV z=true→leads false (js ++ [j + 1 + m]) p=false)→(i'=i→r'=r→∀ m z',(z :: zs)[m]? = some z'→isSlV z'=true→leads false (js ++ [j + m]) p=false):=by
      intro i' r' p hk0 hk e1 e2 m z' hm hs
      cases m with
      | zero=>exact hk0 e1 e2
      | succ m=>simp at hm; have:=hk e1 e2 m z' hm hs; rwa [show j + 1 + m=j + (m + 1) by omega] at this
     cases c <;> first | trivial | exact key _ _ _ h4 h6
    ·exact .inr h5
   ·rw [h3]
    exact .inr h0
theorem tree_write (hs:SimI w0 I0 R g st a ov w) {i r:Nat} {xs:List TV} {x:TV} {p:Way} {k j s n l cap:Nat} {ad:Addr} (hl:st.look i=some (.tree xs)) (hx:xs[r]? = some x)
  (hnode:Node w p x (g.ρ i r) (.slice (some ad) l cap) (some (s,n))) {sl:TV} (hg:getP p x=some sl) {e:List TV} (he:pel sl k=some e) {zs:List Value} (hz0:0 < zs.length) (hfit:fitsOld zs e j=true) {ys:List TV} {us:List Value} (hyl:ys.length=zs.length)
  (hul:us.length=ys.length) {x':TV} (hset:setC p x k j ys=some x') {F:Nat→Nat→Prop} (hp:∀ (m:Nat) (y:TV) (u:Value),ys[m]? = some y→us[m]? = some u→RepO w g.I y u (F m)∧u.oneCell'=true)
  (hFR:∀ m b,F m b→R b) (hFd:∀ m m' b,F m b→F m' b→m=m') (f:CA→CA)
  (hf:∀ c,(f c=c∧c.okP (fun i' r' q=>i'=i→r'=r→∀ m z,zs[m]? = some z→isSlV z=true→leads false (wayJs p ++ [j + m]) q=false))∨f c=.junk) :
  ∃ w' g',(storeCells (ad.add (k * s + j)) us).run P w=.ok () w'∧SimI w0 I0 NoR g' ((st.mapS f).setBox i (some (.tree (setNth xs r x')))) a ov w':=by
 have hrl:r < xs.length:=(List.getElem?_eq_some_iff.1 hx).1
 have hfr:∀ b,g.φ i r b→Foot g st.look i b:=fun b hb=>.inr ⟨xs,r,hl,hrl,hb⟩
 obtain ⟨v,Sy,s1,s2,s3,s4,s5⟩:=(hs.trees i xs hl r x hx).sub hg
 obtain ⟨e1,e2⟩:=Node.unique hnode s3
 subst e1
 obtain ⟨o,s',ys0,rfl,hke⟩:=pel_some he
 simp only [TV.nd,Option.some.injEq,Prod.mk.injEq] at e2
 obtain ⟨rfl,rfl⟩:=e2
 simp only [setC,hg] at hset
 cases o with
 | false=>simp [setEl] at hset
 | true =>
  simp only [setEl,hke] at hset
  have hall:∀ x ∈ ys0,x.length=s:=by cases s1 with | fr h=>cases h | sl _ _ _ _ _ _ hl=>exact hl
  have hel:e.length=s:=hall e (List.mem_of_getElem? hke)
  have hold:∀ m,m < zs.length→∃ c,e[j + m]? = some c∧(isSlV zs[m]! = false→c.isSc=true):=fun m hm=>by
   obtain ⟨c,h1,h3⟩:=fitsOld_spec hfit m _ (List.getElem?_eq_getElem hm)
   rw [getElem!_pos zs m hm]
   exact ⟨c,h1,h3⟩
  have hje:j + ys.length≤e.length:=by
   obtain ⟨c,h1,_⟩:=hold (zs.length - 1) (by omega)
   have:=(List.getElem?_eq_some_iff.1 h1).1
   omega
  rw [setCells_eq ys e j hje,setNth_eq] at hset
  have hnI:∀ b,Sy b→¬ g.I b:=fun b hb=>(hs.foot i b (hfr b (s2 b hb))).2.2.1
  obtain ⟨a0,cap0,vs,ty,us0,w1,w2,w3,w4⟩:=s1.write hnI
  cases w1
  obtain ⟨f1,f2⟩:=flat_spl hall hke hje
  have hofs:k * s + j + us.length≤ys0.length * s:=by rw [← flat_len hall]; omega
  have hfitv:ad.off + (k * s + j) + us.length≤vs.size:=by
   have h1:=w3.fit
   have h2:=Nat.mul_le_mul_right s w3.le
   omega
  have hone:∀ u ∈ us,u.oneCell'=true:=fun u hu=>by
   obtain ⟨m,hm,rfl⟩:=List.mem_iff_getElem.1 hu
   exact (hp m (ys[m]'(by omega)) _ (List.getElem?_eq_getElem (by omega)) (List.getElem?_eq_getElem hm)).2
  have hst:=run_storeCells_at P ad.block (ad.off + (k * s + j)) ty us 0 vs w w3.heap (by simpa using hfitv) hone
  simp only [Nat.add_zero] at hst
  have hheap:=setRow_heap w ad.block vs (vs.toList.take (ad.off + (k * s + j)) ++ us ++ vs.toList.drop (ad.off + (k * s + j) + us.length)).toArray ty (0,0) w3.heap
  obtain ⟨W,hW⟩:∃ W,W=w.setRow ad.block (vs.toList.take (ad.off + (k * s + j)) ++ us ++ vs.toList.drop (ad.off + (k * s + j) + us.length)).toArray:=⟨_,rfl⟩
  rw [← hW] at hst hheap
  have hoth:∀ b,b≠ad.block→W.heap[b]? = w.heap[b]? := fun b hb=>by rw [hW]; exact setRow_other w ad.block b _ hb
  have hablk:w0.New ad.block:=(hs.foot i _ (hfr _ (s2 _ w2))).1
  have hyu:∀ (m:Nat) (c:TV),ys[m]? = some c→RepO w g.I c (us.getD m undef) (F m):=fun m c hc=>by
   have hm:m < us.length:=by have:=(List.getElem?_eq_some_iff.1 hc).1; omega
   have:=(hp m c us[m] hc (List.getElem?_eq_getElem hm)).1
   rw [List.getD_eq_getElem?_getD,List.getElem?_eq_getElem hm]
   exact this
  obtain ⟨n1,n2⟩:=w4 (k * s + j) ys us F W (ys0.set k (spl e j ys)) f2 hul hone hyu (fun m b hb h=>(hs.foot i b (hfr b (s2 b h))).2.2.2 (hFR m b hb)) hFd (by rw [hheap]; rfl) hoth (by simp) (set_all hall (by rw [spl_len hje,hel])) f1
  obtain ⟨m1,m2⟩:=s5 W g.I (.sl true s (ys0.set k (spl e j ys))) x' _ hset (fun b hb=>hoth b (fun e=>hnI _ w2 (e ▸ hb))) (fun _ h=>h) (fun b hb hn=>hoth b (fun e=>hn (e ▸ w2))) n1 (fun b hb hS=>by
   rcases hb with hb | ⟨m,hb⟩
   ·exact hb
   ·exact absurd (hFR m b hb) (hs.foot i b (hfr b hS)).2.2.2)
  have hadd:ad.add (k * s + j)=⟨ad.block,ad.off + (k * s + j),none⟩:=row_add ad w3.spot _
  rw [← hadd] at hst
  have hkeep:∀ (q:Way) (v':Value) (nd:Option (Nat × Nat)),(∀ m z,zs[m]? = some z→isSlV z=true→leads false (wayJs p ++ [j + m]) q=false)→IsSl v'→Node w q x (g.ρ i r) v' nd→Node W q x' (g.ρ i r) v' nd:=by
   intro q v' nd hok hsl hn
   refine m2 q v' nd (fun q' hq' hn'=>n2 q' v' nd (fun k1 j1 q1 hq1 hr1=>?_) hn') hn
   subst hq1
   obtain ⟨o2,s2',xs2,a2,n2',cap2,e3,y3,u3,hx3,hu3,he3,hy3,hc3,hn3⟩:=hn'
   cases hx3
   have hj1:j1 < s:=by have:=(List.getElem?_eq_some_iff.1 hy3).1; have:=hall e3 (List.mem_of_getElem? he3); omega
   obtain ⟨m,hm⟩:∃ m,k1 * s + j1=k * s + (j + m):=⟨k1 * s + j1 - (k * s + j),by omega⟩
   have hmz:m < zs.length:=by omega
   have hjm:j + m < s:=by
    obtain ⟨c,h1,_⟩:=hold m hmz
    have:=(List.getElem?_eq_some_iff.1 h1).1
    omega
   obtain ⟨d1,d2⟩:=div_unique hj1 hjm hm
   subst d1 d2
   rw [hke] at he3
   cases he3
   obtain ⟨c,h1,h3⟩:=hold m hmz
   rw [hy3] at h1
   cases h1
   cases hz:isSlV zs[m]! with
   | true =>
    have:=hok m zs[m] (List.getElem?_eq_getElem hmz) (by rw [← getElem!_pos zs m hmz]; exact hz)
    rw [hq',leads_app1] at this
    cases this
   | false =>
    obtain ⟨a',cap',u',S2,c1,c2,c3,c4,c5,c6,c7⟩:=s1.child hke hy3
    rw [hu3] at c1
    cases c1
    rw [hc3] at c2
    cases c2
    obtain ⟨q1',q2'⟩:=repO_isSc c4 (h3 hz)
    cases q1 with
    | nil =>
     obtain ⟨b1,b2,b3,hv⟩:=hsl
     rw [hn3.1] at hv
     rw [hv] at q2'
     simp [scV] at q2'
    | cons kj q3 =>
     obtain ⟨o4,s4,xs4,a4,n4,cap4,e4,y4,u4,hx4,_⟩:=hn3
     rw [q1'] at hx4
     cases hx4
  obtain ⟨r1,r2⟩:=hs.updRoot hl hx f (fun q=>∀ m z,zs[m]? = some z→isSlV z=true→leads false (wayJs p ++ [j + m]) q=false) hf (R':=NoR) (I':=g.I) m1 hkeep
   (by rw [hW]; exact hs.below.setRow hablk _) (by rw [hW]; simp) (fun b _ hb _=>hoth b (fun e=>hb (e ▸ s2 _ w2)))
   (fun b hb => by
    rcases hb with hb | hb | ⟨m,hb⟩
    ·exact .inl hb.1
    ·exact .inl (s2 b hb)
    ·exact .inr (.inl (hFR m b hb)))
   (fun b hb => hb.elim) (fun _ h => h) (fun _ h => .inl h) (fun b hb hS => by
    rcases hS with hS | hS | ⟨m,hS⟩
    ·exact (hs.foot i b (hfr b hS.1)).2.2.1 hb
    ·exact hnI b hS hb
    ·exact (hs.res b (hFR m b hS)).2.2 hb)
  exact ⟨W,_,hst,r1⟩
end
end Go.Ab
end
section
namespace Go.Ab
open Go.RowKit
set_option linter.unusedVariables false
section
variable {P:Program} {E:Env} {C:Cal} {w0:Bs} {w w':World} {I0 I R:Nat→Prop} {g g':Gh} {st st':ASt} {a:Act} {ov:List Value} {look:Look} {Q:Exit→Act→World→Prop} {id:Nat}
variable {dst:Option Tmp} {type:TypeId} {pos:String} {after:Array Edge} {guard:Option (Nat × Bool)}
theorem cells_size {v:Value} {cs:List CA} (h:CR w g look cs v.cells.toList):v.cells.size=cs.length:=by simpa using h.1
theorem freeB_spec {i:Nat}:∀ {l:List (Nat × Nat)},freeB i l=true→∀ r,memP i r l=false
 | [],_,r=>rfl
 | (a,b) :: l,h,r=>by
  simp only [freeB] at h
  cases hb:a.beq i with
  | true=>simp [hb] at h
  | false=>simp only [hb,cond_false] at h; simp only [memP,hb,Bool.false_and,cond_false]; exact freeB_spec h r
theorem hasSl_false:∀ {zs:List Value},hasSl zs=false→∀ (m:Nat) (z:Value),zs[m]? = some z→isSlV z=false
 | [],_,m,z,hz=>by simp at hz
 | z0 :: zs, h, m, z, hz => by
  simp only [hasSl] at h
  cases h0:isSlV z0 with
  | true=>simp [h0] at h
  | false =>
   simp only [h0,cond_false] at h
   cases m with
   | zero=>simp at hz; subst hz; exact h0
   | succ m=>simp at hz; exact hasSl_false h m z hz
theorem qs_nil {ds:List Gd} (h:ds.flatMap Gd.qs=[]):ds.flatMap Gd.ts=[]:=by
 induction ds with
 | nil=>rfl
 | cons d ds ih =>
  cases d with
  | fr y=>simp only [List.flatMap_cons,Gd.qs,Gd.ts,List.nil_append] at h ⊢; exact ih h
  | tk i r x y=>simp [Gd.qs] at h
  | td i r p x y x'=>simp [Gd.qs] at h
theorem op_store (hE : ∀ t d, E.T t = some d → TyOk P t d) (hlk : ∀ i b, look i = some b → st.look i = some b) (hs : SimI w0 I0 NoR g st a ov w) {t : TypeId} {x y : Operand} {e : Eff}
  (hh:(opL E id look (.store t x y) [st.ev x,st.ev y]).hits C e) (ha:e.app st dst=some st'):Good P w0 I0 ov ⟨dst,.store t x y,type,pos,after,guard⟩ st' a w Q:=by
 simp only [opL] at hh
 cases hT:E.T t with
 | none=>simp [hT,Prg.hits] at hh
 | some d =>
  simp only [hT] at hh
  have ht:=hE t d hT
  unfold storeO at hh
  have hx:=hs.ev x
  have hy:=hs.ev y
  split at hh
  ·rename_i i off len n hxi
   rw [hxi] at hx
   cases hk:d.kd.isAgg with
   | true=>rw [hk] at hh; exact hh.elim
   | false =>
    rw [hk] at hh
    simp only [cond_false] at hh
    split at hh
    ·rename_i cs xs hrow
     obtain ⟨hl,hxl,hfit,hget⟩:=rowOfC_spec hrow
     obtain ⟨ps,hh,hcr,hps⟩:=cellsO_hits hy hh
     clear hps
     split at hh
     ·rename_i yv
      cases hh
      have hl2:=hlk i _ hl
      obtain ⟨cs',hl',hn,hv⟩:=hx
      rw [hl2] at hl'
      cases hl'
      simp only [Eff.app,Option.some.injEq] at ha
      subst ha
      obtain ⟨vs,ty,h4,hcr2⟩:=hs.cells i _ hl2
      have hd1:d.size=1:=ht.one hk
      have hul:(a.eval y).cells.toList.length=1:=hcr.1
      obtain ⟨u,hu⟩:∃ u,(a.eval y).cells.toList=[u]:=List.length_eq_one_iff.1 hul
      obtain ⟨⟨hur,_⟩,hu1⟩:=hcr.2 0 (.t yv) u rfl (by rw [hu]; rfl)
      have hvs:vs.toList.length=cs.length:=hcr2.1
      have hfit':off + len≤cs.length:=by rcases hfit with h | h <;> omega
      have hone:∀ v ∈ (a.eval y).cells.toList,v.oneCell'=true:=fun v hv=>by
       rw [hu] at hv
       simp only [List.mem_singleton] at hv
       subst hv
       exact hu1
      have hst:=run_storeCells_at P (g.β i) (off + n) ty (a.eval y).cells.toList 0 vs w h4 (by simp only [Array.length_toList] at hvs; omega) hone
      simp only [Nat.add_zero] at hst
      obtain ⟨W,hW⟩:∃ W,W=w.setRow (g.β i) (vs.toList.take (off + n) ++ (a.eval y).cells.toList ++ vs.toList.drop (off + n + (a.eval y).cells.toList.length)).toArray:=⟨_,rfl⟩
      rw [← hW] at hst
      have hfi:Foot g st.look i (g.β i):=.inl ⟨cs,hl2,rfl⟩
      refine wp_skip_ (w':=W) (by simp [execOp,Instr.storeAt,hv,Instr.sureAddr,storeVar,run_size ht,cells_size hcr,hd1,hst]) ⟨g,?_⟩
      refine SimI.put ?_ dst (v:=.one .undef) rfl
      subst hW
      have hsl:(selAll n yv 0 xs).length=len:=by rw [selAll_len]; exact hxl
      have hsp:CR w g st.look (setCells cs off (selAll n yv 0 xs)) (spl vs.toList (off + n) (a.eval y).cells.toList):=by
       have hf1:off + (selAll n yv 0 xs).length≤cs.length:=by omega
       have hf2:off + n + (a.eval y).cells.toList.length≤vs.toList.length:=by omega
       rw [setCells_eq _ _ _ hf1]
       refine ⟨by rw [spl_len hf1,spl_len hf2]; exact hcr2.1,fun j c v hc hv'=>?_⟩
       rw [spl_get hf1] at hc
       rw [spl_get hf2] at hv'
       by_cases hj:off≤j∧j < off + (selAll n yv 0 xs).length
       ·rw [if_pos hj,selAll_get] at hc
        cases hxj:xs[j - off]? with
        | none=>rw [hxj] at hc; cases hc
        | some x =>
         rw [hxj] at hc
         simp only [Option.map_some,Option.some.injEq,Nat.zero_add] at hc
         subst hc
         have hcx:=hget _ _ hxj
         rw [show off + (j - off)=j by omega] at hcx
         by_cases hjn:j - off=n
         ·rw [if_pos (by rw [hu]; simp; omega),hu,show j - (off + n)=0 by omega] at hv'
          simp only [List.getElem?_cons_zero,Option.some.injEq] at hv'
          subst hv'
          simp only [selT,hjn,show Nat.beq n n=true by simp,cond_true]
          exact ⟨⟨hur,hu1⟩,hu1⟩
         ·rw [if_neg (by rw [hu]; simp; omega)] at hv'
          simp only [selT,show Nat.beq n (j - off)=false from (by cases hbq:Nat.beq n (j - off) with | false=>rfl | true=>exact absurd (Nat.eq_of_beq_eq_true hbq).symm hjn),cond_false]
          exact hcr2.2 j _ v hcx hv'
       ·rw [if_neg hj] at hc
        rw [if_neg (by rw [hu]; simp; omega)] at hv'
        exact hcr2.2 j c v hc hv'
      exact hs.updCells hl2 (vs':=(vs.toList.take (off + n) ++ (a.eval y).cells.toList ++ vs.toList.drop (off + n + (a.eval y).cells.toList.length)).toArray) (ty:=ty) (hs.below.setRow (hs.foot i _ hfi).1 _) (by simp)
       (fun b hb=>setRow_other w (g.β i) b _ hb) (setRow_heap w (g.β i) vs _ ty (0,0) h4) ⟨_,_,h4⟩ (by simpa [spl] using hsp)
     ·exact hh.elim
    ·exact hh.elim
  ·rename_i i off hxi
   rw [hxi] at hx
   obtain ⟨ps,hh,hcr,_⟩:=cellsO_hits hy hh
   split at hh
   ·rename_i cs hl
    have hl2:=hlk i _ hl
    obtain ⟨cs',hl',hv⟩:=hx
    rw [hl2] at hl'
    cases hl'
    cases hc:(off + ps.length).ble cs.length && ps.length.beq d.size with
    | false=>simp [hc,Prg.hits] at hh
    | true =>
     simp only [hc,cond_true] at hh
     cases hh
     simp only [Bool.and_eq_true] at hc
     have hc1:off + ps.length≤cs.length:=by simpa using hc.1
     have hc2:ps.length=d.size:=by simpa using hc.2
     simp only [Eff.app,Option.some.injEq] at ha
     subst ha
     obtain ⟨vs,ty,h4,hcr2⟩:=hs.cells i _ hl2
     have hvl:(a.eval y).cells.toList.length=ps.length:=hcr.1
     have hvs:vs.toList.length=cs.length:=hcr2.1
     have hone:∀ u ∈ (a.eval y).cells.toList,u.oneCell'=true:=fun u hu=>by
      obtain ⟨j,hj,rfl⟩:=List.mem_iff_getElem.1 hu
      exact (hcr.2 j (ps[j]'(by omega)) _ (List.getElem?_eq_getElem (by omega)) (List.getElem?_eq_getElem hj)).2
     have hst:=run_storeCells_at P (g.β i) off ty (a.eval y).cells.toList 0 vs w h4 (by simp only [Array.length_toList] at hvs; omega) hone
     simp only [Nat.add_zero] at hst
     obtain ⟨W,hW⟩:∃ W,W=w.setRow (g.β i) (vs.toList.take off ++ (a.eval y).cells.toList ++ vs.toList.drop (off + (a.eval y).cells.toList.length)).toArray:=⟨_,rfl⟩
     rw [← hW] at hst
     have hfi:Foot g st.look i (g.β i):=.inl ⟨cs,hl2,rfl⟩
     refine wp_skip_ (w':=W) (by simp [execOp,Instr.storeAt,hv,Instr.sureAddr,storeVar,run_size ht,cells_size hcr,hc2,hst]) ⟨g,?_⟩
     refine SimI.put ?_ dst (v:=.one .undef) rfl
     have hsp:=hcr2.spl hcr off
     rw [← setCells_eq ps cs off hc1] at hsp
     subst hW
     exact hs.updCells hl2 (vs':=(vs.toList.take off ++ (a.eval y).cells.toList ++ vs.toList.drop (off + (a.eval y).cells.toList.length)).toArray) (ty:=ty) (hs.below.setRow (hs.foot i _ hfi).1 _) (by simp)
      (fun b hb=>setRow_other w (g.β i) b _ hb) (setRow_heap w (g.β i) vs _ ty (0,0) h4) ⟨_,_,h4⟩ (by simpa [spl] using hsp)
   ·exact hh.elim
  ·rename_i i r p k j hxi
   rw [hxi] at hx
   obtain ⟨ps,hh,hcr,_⟩:=cellsO_hits hy hh
   split at hh
   ·rename_i x0 hx0
    obtain ⟨xs,hl,hxr⟩:=rootOf_some hx0
    have hl2:=hlk i _ hl
    obtain ⟨xs',x',ad,l,cap,s,n,hl',hx',hnode,hk,hv⟩:=hx
    rw [hl2] at hl'
    cases hl'
    rw [hxr] at hx'
    cases hx'
    cases hd0:Nat.blt 0 d.size with
    | false=>simp [hd0,Prg.hits] at hh
    | true =>
     have hd0:0 < d.size:=by simpa using hd0
     simp only [show Nat.blt 0 d.size=true by simpa using hd0,Bool.not_true,cond_false] at hh
     have hzl:=ht.zlen
     cases hsl:hasSl d.zero with
     | true =>
      simp only [hsl,cond_true] at hh
      obtain ⟨ds,hh,hdl,hok⟩:=gather_hits hlk hs hcr hh
      cases hc:nodupP (ds.flatMap Gd.ts) && freeB i (ds.flatMap Gd.ts) && (ds.map Gd.y).length.beq d.size with
      | false=>simp only [hc,cond_false] at hh; exact hh.elim
      | true =>
       simp only [hc,cond_true] at hh
       simp only [Bool.and_eq_true] at hc
       obtain ⟨⟨hc1,hc2⟩,hc3⟩:=hc
       have hc3:ds.length=d.size:=by simpa using hc3
       obtain ⟨sl,hg,hh⟩:=getO_hits hh
       obtain ⟨el,hel,hfit,x1,hset,hh⟩:=hh
       cases hh
       simp only [Bool.and_eq_true] at hfit
       have hul:(a.eval y).cells.toList.length=ds.length:=by rw [hcr.1,hdl]
       obtain ⟨st2,g2,R2,F,q1,q2,q3,q4,q5,q6,q7,q8⟩:=gather_state (dst:=dst) ds hs hul hok hc1
       obtain ⟨t1,t2,t3⟩:=q4.tree i xs (freeB_spec hc2) hl2
       obtain ⟨f,f1,f0,f2⟩:=drops_app (dst:=dst) i r (wayJs p) d.zero j st2
       obtain ⟨w',g',hst,hsim⟩:=tree_write (P:=P) q2 t1 hxr (by rw [t2]; exact hnode) hg hel (zs:=d.zero) (by omega) hfit.1 (ys:=ds.map Gd.y) (us:=(a.eval y).cells.toList) (by simp; omega) (by simpa using hul) hset (F:=F)
        (fun m y' u hy' hu => by
         rw [List.getElem?_map] at hy'
         cases hdm:ds[m]? with
         | none=>simp [hdm] at hy'
         | some dd =>
          simp only [hdm,Option.map_some,Option.some.injEq] at hy'
          subst hy'
          rw [q3]
          exact q6 m dd u hdm hu)
        (fun m b hb=>(q7 m b hb).1) q8 f f2
       have happ:primsApp dst (ds.flatMap Gd.qs ++ dropsAt i r (wayJs p) d.zero j ++ [.root i r x1]) st=some ((st2.mapS f).setBox i (some (.tree (setNth xs r x1)))):=by
        rw [List.append_assoc,prims_append,q1,Option.bind_some,prims_append,f1,Option.bind_some]
        have hlm:(st2.mapS f).look i=some (.tree xs):=by rw [look_mapS,t1]; rfl
        simp only [primsApp,Prim.app,setRoot_tree hlm]
       simp only [Eff.app,happ,Option.some.injEq] at ha
       subst ha
       refine wp_skip_ (w':=w') ?_ ⟨g',hsim.put dst (v:=.one .undef) rfl⟩
       simp [execOp,Instr.storeAt,hv,Instr.sureAddr,storeVar,run_size ht,cells_size hcr,← hdl,hc3,hst]
     | false =>
      simp only [hsl,cond_false] at hh
      obtain ⟨ds,hh,hdl,hok⟩:=gather_hits hlk hs hcr hh
      split at hh
      ·rename_i hqs
       have hts:=qs_nil hqs
       cases hc:(ds.map Gd.y).length.beq d.size with
       | false=>simp only [hc,cond_false] at hh; exact hh.elim
       | true =>
        simp only [hc,cond_true] at hh
        have hc3:ds.length=d.size:=by simpa using hc
        obtain ⟨sl,hg,hh⟩:=getO_hits hh
        obtain ⟨el,hel,hfit,x1,hset,hh⟩:=hh
        simp only [setRoot_tree hl] at hh
        cases hh
        have hul:(a.eval y).cells.toList.length=ds.length:=by rw [hcr.1,hdl]
        obtain ⟨st2,g2,R2,F,q1,q2,q3,q4,q5,q6,q7,q8⟩:=gather_state (dst:=dst) ds hs hul hok (by rw [hts]; rfl)
        rw [hqs] at q1
        simp only [primsApp,Option.some.injEq] at q1
        subst q1
        obtain ⟨t1,t2,t3⟩:=q4.tree i xs (fun r=>by rw [hts]; rfl) hl2
        obtain ⟨w',g',hst,hsim⟩:=tree_write (P:=P) q2 t1 hxr (by rw [t2]; exact hnode) hg hel (zs:=d.zero) (by omega) (fitsOld_of hfit) (ys:=ds.map Gd.y) (us:=(a.eval y).cells.toList) (by simp; omega) (by simpa using hul) hset (F:=F)
         (fun m y' u hy' hu => by
          rw [List.getElem?_map] at hy'
          cases hdm:ds[m]? with
          | none=>simp [hdm] at hy'
          | some dd =>
           simp only [hdm,Option.map_some,Option.some.injEq] at hy'
           subst hy'
           rw [q3]
           exact q6 m dd u hdm hu)
         (fun m b hb => (q7 m b hb).1) q8 _root_.id (fun c => .inl ⟨rfl, by
          have key:∀ (q:Way),∀ m z,d.zero[m]? = some z→isSlV z=true→leads false (wayJs p ++ [j + m]) q=false:=fun q m z hz hs'=>by
           rw [hasSl_false hsl m z hz] at hs'; cases hs'
          cases c <;> first | trivial | exact fun _ _=>key _⟩)
        simp only [Eff.app,Option.some.injEq] at ha
        subst ha
        rw [mapS_id] at hsim
        refine wp_skip_ (w':=w') ?_ ⟨g',hsim.put dst (v:=.one .undef) rfl⟩
        simp [execOp,Instr.storeAt,hv,Instr.sureAddr,storeVar,run_size ht,cells_size hcr,← hdl,hc3,hst]
      ·exact hh.elim
   ·exact hh.elim
  ·exact hh.elim
end
end Go.Ab
end
section
namespace Go.Ab
open Go.RowKit
set_option linter.unusedVariables false
section
variable {P:Program} {E:Env} {C:Cal} {w0:Bs} {w w':World} {I0 I R:Nat→Prop} {g g':Gh} {st st':ASt} {a:Act} {ov:List Value} {look:Look} {Q:Exit→Act→World→Prop} {id:Nat}
variable {dst:Option Tmp} {type:TypeId} {pos:String} {after:Array Edge} {guard:Option (Nat × Bool)}
theorem Src.lf {s:Nat} {xs:List (List TV)} {v:Value} {us:List Value} {F:Nat→Nat→Prop} (h:Src w I s xs v us F):Src w I s (lfLL xs) v us (fun _ _=>False):=by
 rw [lfLL_eq]
 refine ⟨by simp [h.len],fun x hx=>?_,h.one,?_,fun k c hc=>?_,fun _ _ _ h=>h.elim⟩
 ·obtain ⟨y,hy,rfl⟩:=List.mem_map.1 hx
  simpa using h.all y hy
 ·obtain ⟨A,c,h1,h2,h3⟩:=h.form
  exact ⟨A,c,by simpa using h1,fun hA=>by simp [h2 hA],h3⟩
 ·have:(xs.map fun x=>x.map TV.lf).flatten=xs.flatten.map TV.lf:=by rw [List.map_flatten]
  rw [this,List.getElem?_map] at hc
  cases hk:xs.flatten[k]? with
  | none=>simp [hk] at hc
  | some c' =>
   simp only [hk,Option.map_some,Option.some.injEq] at hc
   subst hc
   exact .fr (repO_lf (h.rep k c' hk))
theorem srcO_sound {S : Type} (hlk : ∀ i b, look i = some b → st.look i = some b) (hs : SimI w0 I0 NoR g st a ov w) {d : TyD} {dest : Option Nat} {x : AV} {v : Value} {k : List (List TV) → List Prim → Prg S} {e : S} (hx : RepA w g st.look x v)
  (h : (srcO look d dest x k).hits C e) : ∃ news ps, (k news ps).hits C e ∧ ∃ (st1 : ASt) (g1 : Gh) (R1 : Nat → Prop) (us : List Value) (T : Nat → Nat → Prop) (ts : List (Nat × Nat)), primsApp dst ps st = some st1 ∧ SimI w0 I0 R1 g1 st1 a ov w ∧ g1.I = g.I ∧ Kept ts g st g1 st1 ∧
   (∀ j,dest=some j→∀ r,memP j r ts=false)∧Src w g.I d.size news v us T∧∀ k b,T k b→R1 b:=by
 have plain:∀ (y:TV) (news:List (List TV)),Rep w g.I y v→pelems d.size y=some news→(k news []).hits C e→∃ news ps,(k news ps).hits C e∧∃ (st1:ASt) (g1:Gh) (R1:Nat→Prop) (us:List Value) (T:Nat→Nat→Prop) (ts:List (Nat × Nat)),primsApp dst ps st=some st1∧SimI w0 I0 R1 g1 st1 a ov w∧g1.I=g.I∧Kept ts g st g1 st1 ∧
   (∀ j,dest=some j→∀ r,memP j r ts=false)∧Src w g.I d.size news v us T∧∀ k b,T k b→R1 b:=by
  intro y news hr hp hk
  obtain ⟨us,F,h1,h2,_⟩:=Src.of (S:=NoR) (.fr hr) hp
  exact ⟨news,[],hk,st,g,NoR,us,F,[],rfl,hs,rfl,Kept.refl _ _ _,fun _ _ _=>rfl,h1,h2⟩
 have taken:∀ (i r:Nat) (xs:List TV) (x y:TV) (news:List (List TV)),st.look i=some (.tree xs)→xs[r]? = some x→RepO w g.I y v (g.φ i r)→(∀ j,dest=some j→i≠j)→pelems d.size y=some news→(k news [.drop i r [] false,.root i r .hole]).hits C e →
   ∃ news ps,(k news ps).hits C e∧∃ (st1:ASt) (g1:Gh) (R1:Nat→Prop) (us:List Value) (T:Nat→Nat→Prop) (ts:List (Nat × Nat)),primsApp dst ps st=some st1∧SimI w0 I0 R1 g1 st1 a ov w∧g1.I=g.I∧Kept ts g st g1 st1 ∧
   (∀ j,dest=some j→∀ r,memP j r ts=false)∧Src w g.I d.size news v us T∧∀ k b,T k b→R1 b:=by
  intro i r xs x y news hl hx hr hne hp hk
  obtain ⟨st1,g1,t1,t2,t3,t4,t5,t6⟩:=take_state (dst:=dst) hs hl hx
  obtain ⟨us,F,h1,h2,_⟩:=Src.of hr hp
  refine ⟨news,_,hk,st1,g1,_,us,F,[(i,r)],t1,t2,t3,t4,fun j hj r'=>?_,h1,fun k b hb=>.inr (h2 k b hb)⟩
  rw [memP_false]
  intro hin
  simp only [List.mem_singleton,Prod.mk.injEq] at hin
  exact hne j hj hin.1.symm
 have destNe:∀ i,isDest i dest=false→∀ j,dest=some j→i≠j:=fun i hb j hj e=>by
  subst hj e
  simp [isDest] at hb
 unfold srcO at h
 split at h
 ·rename_i t ht
  obtain ⟨news,hp,h⟩:=h
  exact plain t news (tv_rep hx ht) hp h
 ·split at h
  ·rename_i c _
   cases hsl:hasSl d.zero with
   | true =>
    simp only [hsl,cond_true] at h
    cases c with
    | sref i r p =>
     simp only at h
     split at h
     ·rename_i x0 hx0
      obtain ⟨xs,h1,h2⟩:=rootOf_some hx0
      obtain ⟨xs',x',nd,g1,g2,g3,g4⟩:=hx
      rw [hlk _ _ h1] at g1
      cases g1
      rw [h2] at g2
      cases g2
      split at h
      ·cases hb:isDest i dest with
       | true=>rw [hb] at h; exact h.elim
       | false =>
        rw [hb] at h
        obtain ⟨news,hp,h⟩:=h
        refine taken i r xs x0 x0 news (hlk _ _ h1) h2 ?_ (destNe i hb) hp h
        rw [g3.1]
        exact hs.trees i xs (hlk _ _ h1) r x0 h2
      ·obtain ⟨y,hy,hf,news,hp,h⟩:=h
       obtain ⟨_,S',r1,_⟩:=hs.at (hlk _ _ h1) h2 g3 hy
       exact plain y news (isFr_rep r1 hf) hp h
     ·exact h.elim
    | swin i r p lo len =>
     simp only at h
     split at h
     ·rename_i x0 hx0
      obtain ⟨xs,h1,h2⟩:=rootOf_some hx0
      obtain ⟨xs',x',u,nd,g1,g2,g3,g4,g5⟩:=hx
      rw [hlk _ _ h1] at g1
      cases g1
      rw [h2] at g2
      cases g2
      split at h
      ·cases hb:isDest i dest with
       | true=>rw [hb] at h; exact h.elim
       | false =>
        rw [hb] at h
        obtain ⟨y,hy,news,hp,h⟩:=h
        refine taken i r xs x0 y news (hlk _ _ h1) h2 ?_ (destNe i hb) hp h
        have hr:=hs.trees i xs (hlk _ _ h1) r x0 h2
        rw [← g3.1] at hr
        exact win_rep hr g3.2 g5 hy
      ·obtain ⟨z,hz,y,hy,hf,news,hp,h⟩:=h
       obtain ⟨e1,S',r1,_⟩:=hs.at (hlk _ _ h1) h2 g3 hz
       exact plain y news (isFr_rep (win_rep r1 e1 g5 hy) hf) hp h
     ·exact h.elim
    | _=>exact h.elim
   | false =>
    simp only [hsl,cond_false] at h
    obtain ⟨y,T,h,hr⟩:=resT_hits hlk hs hx h
    obtain ⟨xs,hp,h⟩:=h
    obtain ⟨us,F,h1,h2,_⟩:=Src.of hr hp
    exact ⟨_,[],h,st,g,NoR,us,fun _ _=>False,[],rfl,hs,rfl,Kept.refl _ _ _,fun _ _ _=>rfl,h1.lf,fun _ _ h=>h.elim⟩
  ·exact h.elim
theorem nid_eq {st st1:ASt} (h:st1.out.length=st.out.length) (d:Option Tmp):st1.nid d=st.nid d:=by cases d <;> simp [ASt.nid,h]
theorem mkNew_app {ps:List Prim} {b:BC} {v:AV} {st1:ASt} (ha:(mkNew ps b v).app st dst=some st') (h1:primsApp dst ps st=some st1) (ho:st1.out.length=st.out.length) :
  ∃ d,dst=some d∧st1.look (st.nid dst)=none∧st.nid dst < st1.boxes.length∧st'=(st1.setBox (st.nid dst) (some b)).put (some d) v:=by
 cases ps with
 | nil =>
  simp only [primsApp,Option.some.injEq] at h1
  subst h1
  exact app_new ha
 | cons p ps =>
  simp only [mkNew,Eff.app] at ha
  rw [prims_append,h1,Option.bind_some] at ha
  cases dst with
  | none=>simp [primsApp,Prim.app] at ha
  | some d =>
   simp only [primsApp,Prim.app] at ha
   cases hb:st1.addBox (st1.nid (some d)) b with
   | none=>simp [hb] at ha
   | some s2 =>
    simp only [hb,Option.some.injEq] at ha
    obtain ⟨k1,k2,k3⟩:=addBox_some hb
    rw [nid_eq ho] at k1 k2 k3
    subst k3
    exact ⟨d,rfl,k1,k2,ha.symm⟩
theorem Grown.below {s n:Nat} {v v':Value} {us:List Value} (h:Grown w w' s v v' n us) (hw:w0.Bel w) (hb:∀ a m c,v=.slice (some a) m c→w0.New a.block):w0.Bel w' :=
 hw.but h.os h.tape h.output h.size (fun k hlt hk=>h.block k hlt (fun a m c hv e=>hk (e ▸ hb a m c hv)))
theorem append_run {t e:TypeId} {d dt:TyD} (ht:TyOk P t dt) (hk:dt.kd=.slice e) (hte:TyOk P e d) (hby:d.bytes≤4096) {x y:Operand} {v:Value} {n:Nat} {us us2:List Value} {news:List (List TV)} {T:Nat→Nat→Prop}
  (hv:a.eval x=v) (hown:Own w d.size v n us) (hsrc:Src w I d.size news (a.eval y) us2 T) (hroom:n + news.length≤room) :
  ∃ v' w',(execOp a.eval ⟨dst,.call ⟨.builtin .append,#[x,y],#[t,t]⟩,type,pos,after,guard⟩).run P w=.ok (.value v') w'∧Grown w w' d.size v v' (n + news.length) (us ++ us2):=by
 obtain ⟨i,z,hi,hsz,hb,hz,hzc⟩:=hte.info
 have hu:=kd_slice ht hk
 have hzs:z.cells.size=i.size:=by have:=hte.zlen; rw [← hzc] at this; rw [hsz]; simpa using this
 obtain ⟨A,c,hf,hA,hcell⟩:=hsrc.form
 rw [← hsz] at hown
 have hr:n + news.length≤4294967296:=hroom
 obtain ⟨v',w',h1,h2⟩:=run_append (P:=P) (w:=w) (v:=v) t type e i z hu hi hz hzs hown (A:=A) (m:=news.length) (c:=c) (news:=us2) (by rw [hsrc.len,hsz]) (fun h=>by rw [hA h]; rfl) hcell hsrc.one (by simp only [maxLen]; omega)
  (by rw [hb]; have:(n + news.length) * d.bytes≤4294967296 * 4096:=Nat.mul_le_mul hr hby; omega)
 refine ⟨v',w',run_builtin (s:=Builtin.append_ #[t,t] type #[a.eval x,a.eval y]) (fun cs=>by simp [builtin]) (by simpa [hv,hf] using h1),by rw [← hsz]; exact h2⟩
set_option maxHeartbeats 1000000 in
theorem appendK_sound (hlk:∀ i b,look i=some b→st.look i=some b) (hs:SimI w0 I0 NoR g st a ov w) {t tu:TypeId} {d:TyD} {x y:Operand} {e:Eff} {news:List (List TV)} {ps:List Prim} {st1:ASt} {g1:Gh} {R1:Nat→Prop} {us2:List Value} {T:Nat→Nat→Prop} {ts:List (Nat × Nat)}
  (p1:primsApp dst ps st=some st1) (p2:SimI w0 I0 R1 g1 st1 a ov w) (p3:g1.I=g.I) (p4:Kept ts g st g1 st1) (p5:∀ j,destOf (st.ev x)=some j→∀ r,memP j r ts=false)
  (hl2:us2.length=news.length * d.size) (hall:∀ x ∈ news,x.length=d.size) (hrp:∀ (k:Nat) (c:TV),news.flatten[k]? = some c→RepO w g1.I c (us2.getD k undef) (T k)) (hap:∀ k k' b,T k b→T k' b→k=k') (hTR:∀ k b,T k b→R1 b)
  (hrun:∀ (v:Value) (n:Nat) (us:List Value),a.eval x=v→Own w d.size v n us→n + news.length≤room→∃ v' w',(execOp a.eval ⟨dst,.call ⟨.builtin .append,#[x,y],#[t,tu]⟩,type,pos,after,guard⟩).run P w=.ok (.value v') w'∧Grown w w' d.size v v' (n + news.length) (us ++ us2))
  (hh:(appendK (st.nid dst) look d (st.ev x) news ps).hits C e) (ha:e.app st dst=some st'):Good P w0 I0 ov ⟨dst,.call ⟨.builtin .append,#[x,y],#[t,tu]⟩,type,pos,after,guard⟩ st' a w Q:=by
 unfold appendK at hh
 have hx:=hs.ev x
 have core:∀ (z y1:TV) (v:Value) (S R2:Nat→Prop),a.eval x=v→RepO w g1.I z v S→papp d.size z news=some y1→(∀ b,S b→w0.New b∧b < w.heap.size∧¬ g1.I b∧¬ R1 b) →
   ∃ v' w',(execOp a.eval ⟨dst,.call ⟨.builtin .append,#[x,y],#[t,tu]⟩,type,pos,after,guard⟩).run P w=.ok (.value v') w'∧w0.Bel w'∧w.heap.size≤w'.heap.size∧(∀ b,b < w.heap.size→¬ S b→w'.heap[b]? = w.heap[b]?) ∧
    RepO w' g1.I y1 v' (fun b=>S b∨(w.heap.size≤b∧b < w'.heap.size)∨∃ k,T k b)∧IsSl v':=by
  intro z y1 v S R2 hv hr hp hS
  obtain ⟨n,us,b1,b2,b3,b4,b5,b6⟩:=hr.app hp
  obtain ⟨v',w',r1,r2⟩:=hrun v n us hv b1 b2
  obtain ⟨c1,c2⟩:=b6 w' v' us2 T hl2 hall hrp hap p2.lt (fun b hb=>⟨(hS b hb).2.1,(hS b hb).2.2.1⟩) (fun k b hb=>⟨(p2.res b (hTR k b hb)).2.1,fun h=>(hS b h).2.2.2 (hTR k b hb)⟩) r2
  refine ⟨v',w',r1,r2.below p2.below (fun a m c hv=>(hS _ (b4 a m c hv)).1),r2.size,fun b hb hn=>r2.block b hb (fun a m c hv e=>hn (e ▸ b4 a m c hv)),?_,?_⟩
  ·refine c1.mono (fun b hb=>?_)
   rcases hb with h | h | h
   ·exact .inl h
   ·exact .inr (.inl ⟨by omega,h.2⟩)
   ·exact .inr (.inr h)
  ·obtain ⟨A,c,hv'⟩:=c2; exact ⟨_,_,_,hv'⟩
 have hnid:st1.nid dst=st.nid dst:=nid_eq p4.out dst
 have turn:∀ (i r:Nat) (xs:List TV) (x0 z y1:TV) (v:Value),st.look i=some (.tree xs)→xs[r]? = some x0→(∀ r,memP i r ts=false)→a.eval x=v→(∀ (I S:Nat→Prop),RepO w I x0 (g.ρ i r) S→RepO w I z v S)→papp d.size z news=some y1 →
   (Eff.gen (ps ++ [.drop i r [] false,.root i r y1]) (.one (.sref i r []))).app st dst=some st'→Good P w0 I0 ov ⟨dst,.call ⟨.builtin .append,#[x,y],#[t,tu]⟩,type,pos,after,guard⟩ st' a w Q:=by
  intro i r xs x0 z y1 v hl hx0 hts hv hz hp ha
  obtain ⟨t1,t2,t3⟩:=p4.tree i xs hts hl
  have hrl:r < xs.length:=(List.getElem?_eq_some_iff.1 hx0).1
  have hfr:∀ b,g1.φ i r b→Foot g1 st1.look i b:=fun b hb=>.inr ⟨xs,r,t1,hrl,hb⟩
  have hrep:=hz _ _ (by rw [← t2]; exact p2.trees i xs t1 r x0 hx0)
  obtain ⟨v',w',r1,r2,r3,r4,r5,r6⟩:=core z y1 v _ NoR hv hrep hp (fun b hb=>p2.foot i b (hfr b hb))
  obtain ⟨q1,q2⟩:=p2.updRoot t1 hx0 (CA.drop i r [] false) (fun p=>leads false [] p=false) (drop_ok i r [] false) (R':=NoR) (I':=g1.I) r5 (fun p v nd ho _ _=>by rw [leads_all] at ho; cases ho) r2 r3 (fun b hb hn _=>r4 b hb hn)
   (fun b hb => by
    rcases hb with h | h | ⟨k,h⟩
    ·exact .inl h
    ·exact .inr (.inr h)
    ·exact .inr (.inl (hTR k b h)))
   (fun b hb => hb.elim) (fun _ h => h) (fun _ h => .inl h) (fun b hb hS => by
    rcases hS with h | h | ⟨k,h⟩
    ·exact (p2.foot i b (hfr b h)).2.2.1 hb
    ·have:=p2.lt b hb; omega
    ·exact (p2.res b (hTR k b h)).2.2 hb)
  have hlm:(st1.mapS (CA.drop i r [] false)).look i=some (.tree xs):=by rw [look_mapS,t1]; rfl
  have happ:primsApp dst (ps ++ [.drop i r [] false,.root i r y1]) st=some ((st1.mapS (CA.drop i r [] false)).setBox i (some (.tree (setNth xs r y1)))):=by
   rw [prims_append,p1,Option.bind_some]
   simp only [primsApp,Prim.app,setRoot_tree hlm]
  simp only [Eff.app,happ,Option.some.injEq] at ha
  subst ha
  refine wp_value r1 ⟨_,q1.put dst (v:=.one (.sref i r [])) ⟨setNth xs r y1,y1,y1.nd,?_,by rw [setNth_eq,List.getElem?_set_self hrl],⟨by simp [Gh.setR],rfl⟩,r6⟩⟩
  rw [look_setBox,if_pos ⟨rfl,by rw [mapS_boxes]; exact look_lt t1⟩]
 have deep:∀ (i r:Nat) (p:Way) (xs:List TV) (x0 z0 z y1 x1:TV) (v u:Value) (nd:Option (Nat × Nat)),st.look i=some (.tree xs)→xs[r]? = some x0→(∀ r,memP i r ts=false)→a.eval x=v→Node w p x0 (g.ρ i r) u nd→getP p x0=some z0→(∀ (I S:Nat→Prop),RepO w I z0 u S→RepO w I z v S) →
   papp d.size z news=some y1→setP p x0 .hole=some x1 →
   (Eff.gen (ps ++ [.drop i r (wayJs p) false,.root i r x1,.newB (.tree [y1])]) (.one (.sref (st.nid dst) 0 []))).app st dst=some st'→Good P w0 I0 ov ⟨dst,.call ⟨.builtin .append,#[x,y],#[t,tu]⟩,type,pos,after,guard⟩ st' a w Q:=by
  intro i r p xs x0 z0 z y1 x1 v u nd hl hx0 hts hv hnode hg hz hp hset ha
  obtain ⟨t1,t2,t3⟩:=p4.tree i xs hts hl
  have hrl:r < xs.length:=(List.getElem?_eq_some_iff.1 hx0).1
  have hfr:∀ b,g1.φ i r b→Foot g1 st1.look i b:=fun b hb=>.inr ⟨xs,r,t1,hrl,hb⟩
  obtain ⟨u',Sy,s1,s2,s3,s4,s5⟩:=(p2.trees i xs t1 r x0 hx0).sub hg
  rw [t2] at s3
  obtain ⟨e1,e2⟩:=Node.unique hnode s3
  subst e1
  obtain ⟨m1,m2⟩:=s5 w g1.I .hole x1 (fun _=>False) hset (fun _ _=>rfl) (fun _ h=>h) (fun _ _ _=>rfl) (.fr (.hole _)) (fun _ h=>h.elim)
  obtain ⟨q1,q2⟩:=p2.updRoot t1 hx0 (CA.drop i r (wayJs p) false) (fun q=>leads false (wayJs p) q=false) (drop_ok i r (wayJs p) false) (R':=fun b=>R1 b∨Sy b) (I':=g1.I) m1
   (fun q v' nd ho _ hn=>m2 q v' nd (fun q' hq' _=>by rw [hq',leads_append] at ho; cases ho) hn) p2.below (Nat.le_refl _) (fun _ _ _ _=>rfl) (fun b hb=>by rcases hb with h | h; exact .inl h.1; exact h.elim)
   (fun b hb => ⟨hb.imp _root_.id (s2 b), fun h => by
    rcases h with h | h
    ·rcases hb with hb | hb
     ·exact (p2.foot i b (hfr b h.1)).2.2.2 hb
     ·exact h.2 hb
    ·exact h,hb.elim (fun h=>(p2.res b h).2.2) (fun h=>(p2.foot i b (hfr b (s2 b h))).2.2.1)⟩)
   (fun _ h => h) (fun _ h => .inl h) (fun b hb hS => by
    rcases hS with h | h
    ·exact (p2.foot i b (hfr b h.1)).2.2.1 hb
    ·exact h)
  obtain ⟨v',w',r1,r2,r3,r4,r5,r6⟩:=core z y1 v Sy NoR hv (hz _ _ s1) hp (fun b hb=>p2.foot i b (hfr b (s2 b hb)))
  have hlm:(st1.mapS (CA.drop i r (wayJs p) false)).look i=some (.tree xs):=by rw [look_mapS,t1]; rfl
  obtain ⟨st2,hst2⟩:∃ st2,st2=(st1.mapS (CA.drop i r (wayJs p) false)).setBox i (some (.tree (setNth xs r x1))):=⟨_,rfl⟩
  rw [← hst2] at q1 q2
  have happ:primsApp dst (ps ++ [.drop i r (wayJs p) false,.root i r x1]) st=some st2:=by
   rw [prims_append,p1,Option.bind_some,hst2]
   simp only [primsApp,Prim.app,setRoot_tree hlm]
  have hout:st2.out.length=st.out.length:=by rw [hst2]; simp [ASt.setBox,ASt.mapS,mapAs_len,p4.out]
  have ha2:(mkNew (ps ++ [.drop i r (wayJs p) false,.root i r x1]) (.tree [y1]) (.one (.sref (st.nid dst) 0 []))).app st dst=some st':=by
   have:mkNew (ps ++ [.drop i r (wayJs p) false,.root i r x1]) (.tree [y1]) (.one (.sref (st.nid dst) 0 []))=.gen (ps ++ [.drop i r (wayJs p) false,.root i r x1,.newB (.tree [y1])]) (.one (.sref (st.nid dst) 0 [])):=by
    cases ps <;> simp [mkNew]
   rw [this]; exact ha
  obtain ⟨dd,h0,h1,h2,h3⟩:=mkNew_app ha2 happ hout
  have hn2:st2.nid dst=st.nid dst:=nid_eq hout dst
  rw [← hn2] at h1 h2 h3
  exact new_tree q1 rfl r1 r2 r3 (fun b hb hn=>r4 b hb (fun h=>hn (.inr h))) r5 (fun b hb=>by
   rcases hb with h | h | ⟨k,h⟩
   ·exact .inl (.inr h)
   ·exact .inr h
   ·exact .inl (.inl (hTR k b h))) r6 h0 h1 h2 h3
 split at hh
 ·rename_i tx htx
  have hxr:=tv_rep hx htx
  cases hn:isNilTV tx with
  | false=>rw [hn] at hh; exact hh.elim
  | true =>
   rw [hn] at hh
   obtain ⟨y1,hp,hh⟩:=hh
   cases hh
   have hv:=isNil_of (S:=NoR) hn (.fr hxr)
   obtain ⟨v',w',r1,r2,r3,r4,r5,r6⟩:=core tx y1 _ NoR NoR rfl (by rw [p3]; exact .fr hxr) hp (fun b hb=>hb.elim)
   obtain ⟨dd,h0,h1,h2,h3⟩:=mkNew_app ha p1 p4.out
   rw [← hnid] at h1 h2 h3
   exact new_tree p2 rfl r1 r2 r3 (fun b hb hn=>r4 b hb (fun h=>h)) r5 (fun b hb=>by
    rcases hb with h | h | ⟨k,h⟩
    ·exact h.elim
    ·exact .inr h
    ·exact .inl (hTR k b h)) r6 h0 h1 h2 h3
 ·split at hh
  ·rename_i i r p hxi
   rw [hxi] at hx p5
   have hts:∀ r,memP i r ts=false:=p5 i rfl
   split at hh
   ·rename_i x0 hx0
    obtain ⟨xs,h1,h2⟩:=rootOf_some hx0
    obtain ⟨xs',x',nd,g1',g2,g3,g4⟩:=hx
    rw [hlk _ _ h1] at g1'
    cases g1'
    rw [h2] at g2
    cases g2
    split at hh
    ·obtain ⟨y1,hp,hh⟩:=hh
     cases hh
     exact turn i r xs x0 x0 y1 _ (hlk _ _ h1) h2 hts rfl (fun I S hr=>by rw [g3.1]; exact hr) hp ha
    ·obtain ⟨z,hz,y1,hp,x1,hset,hh⟩:=hh
     cases hh
     exact deep i r p xs x0 z z y1 x1 _ _ nd (hlk _ _ h1) h2 hts rfl g3 hz (fun I S hr=>hr) hp hset ha
   ·exact hh.elim
  ·rename_i i r p lo len hxi
   rw [hxi] at hx p5
   have hts:∀ r,memP i r ts=false:=p5 i rfl
   split at hh
   ·rename_i x0 hx0
    obtain ⟨xs,h1,h2⟩:=rootOf_some hx0
    obtain ⟨xs',x',u,nd,g1',g2,g3,g4,g5⟩:=hx
    rw [hlk _ _ h1] at g1'
    cases g1'
    rw [h2] at g2
    cases g2
    split at hh
    ·obtain ⟨z,hz,y1,hp,hh⟩:=hh
     cases hh
     exact turn i r xs x0 z y1 _ (hlk _ _ h1) h2 hts rfl (fun I S hr=>win_rep (by rw [g3.1]; exact hr) g3.2 g5 hz) hp ha
    ·obtain ⟨z0,hz0,z,hz,y1,hp,x1,hset,hh⟩:=hh
     cases hh
     have hnd:nd=z0.nd:=(hs.at (hlk _ _ h1) h2 g3 hz0).1
     exact deep i r p xs x0 z0 z y1 x1 _ _ nd (hlk _ _ h1) h2 hts rfl g3 hz0 (fun I S hr=>win_rep hr hnd g5 hz) hp hset ha
   ·exact hh.elim
  ·exact hh.elim
theorem appendO_sound (hE:∀ t d,E.T t=some d→TyOk P t d) (hlk:∀ i b,look i=some b→st.look i=some b) (hs:SimI w0 I0 NoR g st a ov w) {t et:TypeId} {d:TyD} (hel:elemOf E.T t=some (et,d)) {x y:Operand} {e:Eff}
  (hh:(appendO (st.nid dst) look d (st.ev x) (st.ev y)).hits C e) (ha:e.app st dst=some st'):Good P w0 I0 ov ⟨dst,.call ⟨.builtin .append,#[x,y],#[t,t]⟩,type,pos,after,guard⟩ st' a w Q:=by
 obtain ⟨dt,hT,hk,hTe⟩:=elemOf_spec hel
 have ht:=hE _ _ hT
 have hte:=hE _ _ hTe
 unfold appendO at hh
 cases hc0:d.bytes.ble 4096 && Nat.blt 0 d.size with
 | false=>rw [hc0] at hh; exact hh.elim
 | true =>
  simp only [hc0,cond_true] at hh
  simp only [Bool.and_eq_true] at hc0
  have hby:d.bytes≤4096:=by simpa using hc0.1
  obtain ⟨news,ps,hh,st1,g1,R1,us2,T,ts,p1,p2,p3,p4,p5,hsrc,hTR⟩:=srcO_sound (dst:=dst) hlk hs (hs.ev y) hh
  rw [← p3] at hsrc
  exact appendK_sound hlk hs p1 p2 p3 p4 p5 hsrc.len hsrc.all hsrc.rep hsrc.apart hTR
   (fun v n us hv b1 b2=>append_run (dst:=dst) (type:=type) (pos:=pos) (after:=after) (guard:=guard) ht hk hte hby hv b1 hsrc b2) hh ha
theorem appendSO_sound (hE:∀ t d,E.T t=some d→TyOk P t d) (hlk:∀ i b,look i=some b→st.look i=some b) (hs:SimI w0 I0 NoR g st a ov w) {t u et:TypeId} {d du:TyD} (hel:elemOf E.T t=some (et,d)) (hu:E.T u=some du) (huk:du.kd=.str) {x y:Operand} {e:Eff}
  (hh:(appendSO (st.nid dst) look d (st.ev x) (st.ev y)).hits C e) (ha:e.app st dst=some st'):Good P w0 I0 ov ⟨dst,.call ⟨.builtin .append,#[x,y],#[t,u]⟩,type,pos,after,guard⟩ st' a w Q:=by
 obtain ⟨dt,hT,hk,hTe⟩:=elemOf_spec hel
 have ht:=hE _ _ hT
 have hte:=hE _ _ hTe
 have hus:=kd_str (hE _ _ hu) huk
 have huu:=kd_slice ht hk
 unfold appendSO at hh
 cases hb:isByteD d with
 | false=>rw [hb] at hh; exact hh.elim
 | true =>
  rw [hb] at hh
  simp only [cond_true] at hh
  obtain ⟨_,hs1,hb1⟩:=isByte_spec hte hb
  split at hh
  ·rename_i ty hty
   have hr:=tv_rep (hs.ev y) hty
   obtain ⟨news,hp,hh⟩:=hh
   unfold pbytes at hp
   split at hp
   ·rename_i s
    simp only [Option.some.injEq] at hp
    subst hp
    have he:=rep_lit hr
    obtain ⟨i,z,hi,hsz,hbz,hz,hzc⟩:=hte.info
    have hzs:z.cells.size=i.size:=by have:=hte.zlen; rw [← hzc] at this; rw [hsz]; simpa using this
    have hlen:(byteRows s).length=s.size:=by simp [byteRows]
    have hflat:(byteRows s).flatten=s.data.toList.map fun b=>TV.lit (.int .u8 b.toNat):=by
     unfold byteRows
     induction s.data.toList with
     | nil=>rfl
     | cons b l ih=>simp [ih]
    refine appendK_sound (us2:=Lib.strCells s) (T:=fun _ _=>False) (ts:=[]) (R1:=NoR) (g1:=g) (st1:=st) (ps:=[]) hlk hs rfl hs rfl (Kept.refl _ _ _) (fun _ _ _=>rfl) ?_ ?_ ?_ (fun _ _ _ h=>h.elim) (fun _ _ h=>h.elim) ?_ hh ha
    ·rw [Lib.strCells_length,hlen,hs1,Nat.mul_one]
    ·intro r hr
     simp only [byteRows,List.mem_map] at hr
     obtain ⟨b,_,rfl⟩:=hr
     rw [hs1]; rfl
    ·intro k c hc
     rw [hflat,List.getElem?_map] at hc
     cases hk:s.data.toList[k]? with
     | none=>rw [hk] at hc; cases hc
     | some b =>
      rw [hk] at hc
      simp only [Option.map_some,Option.some.injEq] at hc
      subst hc
      have:(Lib.strCells s).getD k undef=.int .u8 b.toNat:=by
       simp only [Lib.strCells,List.getD,List.getElem?_map,hk,Option.map_some,Option.getD_some]
      rw [this]
      exact .fr (.lit _)
    ·intro v n us hv hown hroom
     rw [hlen] at hroom ⊢
     have hr':n + s.size≤4294967296:=hroom
     rw [← hsz] at hown ⊢
     obtain ⟨v',w',h1,h2⟩:=run_append_str (P:=P) t u type et i z huu hus hi hz hzs (by rw [hsz]; exact hs1) hown s (by simp only [maxLen]; omega) (by rw [hbz,hb1]; omega)
     exact ⟨v',w',run_builtin (s:=Builtin.append_ #[t,u] type #[a.eval x,a.eval y]) (fun cs=>by simp [builtin]) (by simpa [hv,he] using h1),h2⟩
   ·cases hp
  ·exact hh.elim
end
end Go.Ab
end

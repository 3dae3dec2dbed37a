import Derived.Test.YtfnpejmlcbkepaaAM5
import Derived.Lib.AppendStr
import Derived.Laws.BytesString
set_option linter.all false
section
namespace Go.Ab
open Go.RowKit
section
variable {w0:Bs} {w w':World} {I0 R R':Nat->Prop} {g g':Gh} {st st':ASt} {a:Act} {ov:List Value}
theorem eC (st:ASt) (f:CA->CA):(st.aq f).boxes.length=st.boxes.length:=by simp [ASt.aq,lm]
theorem ai.ej (hs:ai w0 I0 R g st a ov w) {i:Nat} {cs cs':List CA} (hl:st.look i=some (.cells cs)) {vs':Array Value} {ty:TypeId} (hw:w0.Bel w') (hsz:w.heap.size<=w'.heap.size)
  (hk:∀ b,b≠g.β i->w'.heap[b]? = w.heap[b]?) (hh:w'.heap[g.β i]? = some (.cells vs' ty (0,0))) (hty:vQ w (g.β i) ty) (hcr:CR w g st.look cs' vs'.toList) :
  ai w0 I0 R g (st.ab i (some (.cells cs'))) a ov w':=by
 have hi:=fb hl
 have hlk:∀ j,(st.ab i (some (.cells cs'))).look j=if i=j then some (.cells cs') else st.look j:=fun j=>by
  rw [af]
  by_cases h:i=j
  ·rw [if_pos ⟨h,hi⟩,if_pos h]
  ·rw [if_neg (fun h'=>h h'.1),if_neg h]
 have hfi:Foot g st.look i (g.β i):=.inl ⟨cs,hl,rfl⟩
 have m:Mv (fun _ _ _=>True) w g st.look w' g (st.ab i (some (.cells cs'))).look:=by
  refine ⟨fun b hb=>hk b (fun e=>(hs.foot i _ hfi).2.2.1 (e ▸ hb)),fun _ h=>h,fun j c hj=>?_,fun j c t hj ht=>?_,fun j r p xs x v nd hj hx _ hv hn=>?_,rfl⟩
  ·rw [hlk]
   by_cases h:i=j
   ·subst h; exact ⟨cs',by simp,rfl⟩
   ·exact ⟨c,by rw [if_neg h]; exact hj,rfl⟩
  ·obtain ⟨us,fr,h1⟩:=ht
   by_cases h:g.β j=g.β i
   ·obtain ⟨us',fr',h2⟩:=hty
    rw [h] at h1 ⊢
    rw [h2] at h1
    cases h1
    exact ⟨vs',_,hh⟩
   ·exact ⟨us,fr,by rw [hk _ h]; exact h1⟩
  ·have hne:i≠j:=fun e=>by subst e; rw [hl] at hj; cases hj
   have hr:r < xs.length:=(Cq.1 hx).1
   refine ⟨xs,x,by rw [hlk,if_neg hne]; exact hj,hx,Node.mv (hs.trees j xs hj r x hx) (fun b hb=>hk b (fun e=>(hs.foot i _ hfi).2.2.1 (e ▸ hb))) (fun b hb=>hk b (fun e=>?_)) hn⟩
   subst e
   exact hne (hs.apart i j _ hfi (.inr ⟨xs,r,hj,hr,hb⟩))
 have hF:∀ b,Foot g (st.ab i (some (.cells cs'))).look i b->b=g.β i:=by
  rintro b (⟨c,h1,h2⟩ | ⟨xs,r,h1,_⟩)
  ·exact h2
  ·rw [hlk,if_pos rfl] at h1; cases h1
 have:=hs.change (b':=.cells cs') hi id g w' R hw hsz (fun b _ hb _=>hk b (fun e=>hb (e ▸ hfi))) (fun j _=>⟨rfl,rfl,rfl⟩) (fun _ h=>h) (fun _ h=>.inl h)
  (fun b hb1 hb2=>by rw [bL] at hb2; rw [hF b hb2] at hb1; exact (hs.foot i _ hfi).2.2.1 hb1)
  (fun c v hc=>by rw [bL]; exact bo.mv m (by cases c <;> trivial) hc)
  (fun b hb2=>by rw [bL] at hb2; rw [hF b hb2]; exact .inl hfi)
  (fun b hb1=>⟨.inl hb1,fun hb2=>by rw [bL] at hb2; rw [hF b hb2] at hb1; exact (hs.foot i _ hfi).2.2.2 hb1,(hs.res b hb1).2.2⟩)
  (fun c h=>by cases h; rw [bL]; exact ⟨vs',ty,hh,hcr.mv m⟩) (fun xs h=>by cases h)
 rwa [bL] at this
def Gh.cE (g:Gh) (I':Nat->Prop) (i r:Nat) (u:Value) (S:Nat->Prop):Gh :=
 ⟨I',fun j k=>if j=i/\k=r then u else g.ρ j k,g.β,fun j k=>if j=i/\k=r then S else g.φ j k,g.O⟩
theorem ai.d9 (hs:ai w0 I0 R g st a ov w) {i r:Nat} {xs:List TV} {x:TV} (hl:st.look i=some (.tree xs)) (hx:xs[r]? = some x) (f:CA->CA) (ok:Way->Prop)
  (hf:∀ c,(f c=c/\c.okP (fun i' r' p=>i'=i->r'=r->ok p))\/f c=.junk) {w':World} {x':TV} {u':Value} {S' R' I':Nat->Prop} (hr:aj w' I' x' u' S')
  (hnode:∀ (p:Way) (v:Value) (nd:Option (Nat × Nat)),ok p->mu v->Node w p x (g.ρ i r) v nd->Node w' p x' u' v nd)
  (hw:w0.Bel w') (hsz:w.heap.size<=w'.heap.size) (hmem:∀ b,b < w.heap.size->¬ g.φ i r b->¬ R b->w'.heap[b]? = w.heap[b]?) (hS:∀ b,S' b->g.φ i r b\/R b\/(w.heap.size<=b/\b < w'.heap.size))
  (hR:∀ b,R' b->(R b\/g.φ i r b)/\¬ S' b/\¬ I' b) (hI:∀ b,g.I b->I' b) (hIn:∀ b,I' b->g.I b\/g.φ i r b) (hIS:∀ b,I' b->¬ S' b) :
  ai w0 I0 R' (g.cE I' i r u' S') ((st.aq f).ab i (some (.tree (am xs r x')))) a ov w' /\
   ∀ c v,bo w g st.look c v->bo w' (g.cE I' i r u' S') ((st.aq f).ab i (some (.tree (am xs r x')))).look (f c) v:=by
 have hi:=fb hl
 have hrl:r < xs.length:=(Cq.1 hx).1
 rw [ag]
 have hlk:∀ j,((st.aq f).ab i (some (.tree (xs.set r x')))).look j=if i=j then some (.tree (xs.set r x')) else (st.look j).map (BC.bd f):=fun j=>by
  rw [af,aB]
  by_cases h:i=j
  ·subst h
   rw [if_pos ⟨rfl,by rw [eC]; exact hi⟩,if_pos rfl]
  ·rw [if_neg (fun h'=>h h'.1),if_neg h]
 have hfr:∀ k b,k < xs.length->g.φ i k b->Foot g st.look i b:=fun k b hk hb=>.inr ⟨xs,k,hl,hk,hb⟩
 have hIk:∀ b,g.I b->w'.heap[b]? = w.heap[b]? := fun b hb=>hmem b (hs.lt b hb) (fun h=>(hs.foot i b (hfr r b hrl h)).2.2.1 hb) (fun h=>(hs.res b h).2.2 hb)
 have hothers:∀ (k:Nat) (y:TV),k≠r->xs[k]? = some y->∀ b,g.φ i k b->w'.heap[b]? = w.heap[b]? := fun k y hk hy b hb=>by
  have hkl:=(Cq.1 hy).1
  exact hmem b (hs.foot i b (hfr k b hkl hb)).2.1 (fun h=>hk (hs.apartR i xs k r b hl hkl hrl hb h)) (hs.foot i b (hfr k b hkl hb)).2.2.2
 have m : ∀ c v, bo w g st.look c v → bo w' (g.cE I' i r u' S') ((st.aq f).ab i (some (.tree (xs.set r x')))).look (f c) v := by
  have mv:Mv (fun i' r' p=>i'=i->r'=r->ok p) w g st.look w' (g.cE I' i r u' S') ((st.aq f).ab i (some (.tree (xs.set r x')))).look:=by
   refine ⟨hIk,hI,fun j cs hj=>?_,fun j cs ty hj ht=>?_,fun j k p ys y v nd hj hy ho hv hn=>?_,rfl⟩
   ·have hne:i≠j:=fun e=>by subst e; rw [hl] at hj; cases hj
    exact ⟨mapC f cs,by rw [hlk,if_neg hne,hj]; rfl,rfl⟩
   ·obtain ⟨us,fr,h1⟩:=ht
    have hne:i≠j:=fun e=>by subst e; rw [hl] at hj; cases hj
    have hfj:Foot g st.look j (g.β j):=.inl ⟨cs,hj,rfl⟩
    exact ⟨us,fr,by rw [hmem _ (hs.foot j _ hfj).2.1 (fun h=>hne (hs.apart i j _ (hfr r _ hrl h) hfj)) (hs.foot j _ hfj).2.2.2]; exact h1⟩
   ·by_cases hij:j=i
    ·subst hij
     rw [hl] at hj
     cases hj
     by_cases hkr:k=r
     ·subst hkr
      rw [hx] at hy
      cases hy
      refine ⟨xs.set k x',x',by rw [hlk,if_pos rfl],by rw [List.getElem?_set_self hrl],?_⟩
      have:(g.cE I' j k u' S').ρ j k=u':=by simp [Gh.cE]
      rw [this]
      exact hnode p v nd (ho rfl rfl) hv hn
     ·refine ⟨xs.set r x',y,by rw [hlk,if_pos rfl],by rw [List.getElem?_set_ne (fun h=>hkr h.symm)]; exact hy,?_⟩
      have:(g.cE I' j r u' S').ρ j k=g.ρ j k:=by simp [Gh.cE,hkr]
      rw [this]
      exact Node.mv (hs.trees j xs hl k y hy) hIk (hothers k y hkr hy) hn
    ·have hne:i≠j:=fun e=>hij e.symm
     have hk:k < ys.length:=(Cq.1 hy).1
     refine ⟨ys,y,by rw [hlk,if_neg hne,hj]; rfl,hy,?_⟩
     have:(g.cE I' i r u' S').ρ j k=g.ρ j k:=by simp [Gh.cE,hij]
     rw [this]
     refine Node.mv (hs.trees j ys hj k y hy) hIk (fun b hb=>?_) hn
     have hfj:Foot g st.look j b:=.inr ⟨ys,k,hj,hk,hb⟩
     exact hmem b (hs.foot j b hfj).2.1 (fun h=>hij (hs.apart i j b (hfr r b hrl h) hfj).symm) (hs.foot j b hfj).2.2.2
  intro c v hc
  rcases hf c with ⟨h1,h2⟩ | h1
  ·rw [h1]
   exact bo.mv mv h2 hc
  ·rw [h1]
   trivial
 refine ⟨?_,m⟩
 have hF:∀ b,Foot (g.cE I' i r u' S') ((st.aq f).ab i (some (.tree (xs.set r x')))).look i b->S' b\/∃ k,k≠r/\k < xs.length/\g.φ i k b:=by
  rintro b (⟨c,h1,h2⟩ | ⟨ys,k,h1,h2,h3⟩)
  ·rw [hlk,if_pos rfl] at h1; cases h1
  ·rw [hlk,if_pos rfl] at h1
   cases h1
   rw [List.length_set] at h2
   by_cases hk:k=r
   ·subst hk
    simp only [Gh.cE,and_self,if_true] at h3
    exact .inl h3
   ·simp only [Gh.cE,hk,and_false,if_false] at h3
    exact .inr ⟨k,hk,h2,h3⟩
 refine hs.change (b':=.tree (xs.set r x')) hi f (g.cE I' i r u' S') w' R' hw hsz (fun b hb hn hr=>hmem b hb (fun h=>hn (hfr r b hrl h)) hr) (fun j hj=>⟨rfl,by funext k; simp [Gh.cE,hj],by funext k; simp [Gh.cE,hj]⟩) hI
  (fun b hb=>(hIn b hb).imp id (hfr r b hrl)) (fun b hb1 hb2=>?_) m (fun b hb2=>?_) (fun b hb1=>⟨(hR b hb1).1.imp id (hfr r b hrl),fun hb2=>?_,(hR b hb1).2.2⟩) (fun c h=>by cases h) (fun ys h=>?_)
 ·rcases hF b hb2 with h | ⟨k,h1,h2,h3⟩
  ·exact hIS b hb1 h
  ·rcases hIn b hb1 with h4 | h4
   ·exact (hs.foot i b (hfr k b h2 h3)).2.2.1 h4
   ·exact h1 (hs.apartR i xs k r b hl h2 hrl h3 h4)
 ·rcases hF b hb2 with h | ⟨k,h1,h2,h3⟩
  ·exact (hS b h).imp (hfr r b hrl) id
  ·exact .inl (hfr k b h2 h3)
 ·rcases hF b hb2 with h | ⟨k,h1,h2,h3⟩
  ·exact (hR b hb1).2.1 h
  ·rcases (hR b hb1).1 with h4 | h4
   ·exact (hs.foot i b (hfr k b h2 h3)).2.2.2 h4
   ·exact h1 (hs.apartR i xs k r b hl h2 hrl h3 h4)
 ·cases h
  constructor
  ·intro k y hy
   by_cases hk:k=r
   ·subst hk
    rw [List.getElem?_set_self hrl] at hy
    cases hy
    simp only [Gh.cE,and_self,if_true]
    exact hr
   ·rw [List.getElem?_set_ne (fun h=>hk h.symm)] at hy
    simp only [Gh.cE,hk,and_false,if_false]
    exact (hs.trees i xs hl k y hy).mv hIk hI (hothers k y hk hy) (fun _ h=>h)
  ·intro k k' b h1 h2 h3 h4
   rw [List.length_set] at h1 h2
   have cross:∀ k,k≠r->k < xs.length->g.φ i k b->S' b->False:=fun k hk hkl hb hsb=>by
    rcases hS b hsb with h | h | h
    ·exact hk (hs.apartR i xs k r b hl hkl hrl hb h)
    ·exact (hs.foot i b (hfr k b hkl hb)).2.2.2 h
    ·have:=(hs.foot i b (hfr k b hkl hb)).2.1; omega
   by_cases hk:k=r <;> by_cases hk':k'=r
   ·rw [hk,hk']
   ·subst hk
    simp only [Gh.cE,and_self,if_true,hk',and_false,if_false] at h3 h4
    exact (cross k' hk' h2 h4 h3).elim
   ·subst hk'
    simp only [Gh.cE,and_self,if_true,hk,and_false,if_false] at h3 h4
    exact (cross k hk h1 h3 h4).elim
   ·simp only [Gh.cE,hk,hk',and_false,if_false] at h3 h4
    exact hs.apartR i xs k k' b hl h1 h2 h3 h4
theorem eo (i r:Nat) (js:List Nat) (strict:Bool) (c:CA):(c.drop i r js strict=c/\c.okP (fun i' r' p=>i'=i->r'=r->leads strict js p=false))\/c.drop i r js strict=.junk:=by
 have key:∀ (i' r':Nat) (p:Way),cW i r js strict i' r' p=false->(i'=i->r'=r->leads strict js p=false):=by
  intro i' r' p h h1 h2
  subst h1 h2
  simpa [cW] using h
 cases c with
 | tptr i' r' p k j =>
  simp only [CA.drop]
  cases h:cW i r js strict i' r' p with
  | true=>exact .inr rfl
  | false=>exact .inl ⟨rfl,key i' r' p h⟩
 | sref i' r' p =>
  simp only [CA.drop]
  cases h:cW i r js strict i' r' p with
  | true=>exact .inr rfl
  | false=>exact .inl ⟨rfl,key i' r' p h⟩
 | swin i' r' p lo len =>
  simp only [CA.drop]
  cases h:cW i r js strict i' r' p with
  | true=>exact .inr rfl
  | false=>exact .inl ⟨rfl,key i' r' p h⟩
 | _=>exact .inl ⟨rfl,trivial⟩
theorem gQ (p:Way):leads false [] p=true:=by cases p <;> rfl
theorem jH:∀ (p q:Way),leads false (aD p) (p ++ q)=true
 | [],q=>gQ q
 | (k,j) :: p,q=>by simp [aD,leads,jH p q]
theorem gL:∀ (p q:Way),q≠[]->leads true (aD p) (p ++ q)=true
 | [],q,h=>by cases q with | nil=>exact absurd rfl h | cons a q=>rfl
 | (k,j) :: p,q,h=>by simp [aD,leads,gL p q h]
theorem qC:∀ (p q:Way) (k j:Nat),leads false (aD p ++ [j]) (p ++ (k,j) :: q)=true
 | [],q,k,j=>by cases q <;> simp [aD,leads]
 | (k',j') :: p,q,k,j=>by simp [aD,leads,qC p q k j]
theorem oo (f f':CA->CA) (l:List CA):mapC f' (mapC f l)=mapC (f' ∘ f) l:=by
 induction l with
 | nil=>rfl
 | cons c l ih=>simp [mapC,ih]
theorem yJ (f f':CA->CA) (l:List (Bool × List CA)):iK f' (iK f l)=iK (f' ∘ f) l:=by
 induction l with
 | nil=>rfl
 | cons c l ih=>obtain ⟨b,c⟩:=c; simp [iK,ih,oo]
theorem yg (f f':CA->CA) (v:AV):(v.bG f).bG f'=v.bG (f' ∘ f):=by
 cases v <;> simp [AV.bG,oo,yJ]
theorem wT (f f':CA->CA) (l:List AV):bK f' (bK f l)=bK (f' ∘ f) l:=by
 induction l with
 | nil=>rfl
 | cons c l ih=>simp [bK,ih,yg]
theorem wS (f f':CA->CA) (l:List (Option BC)):dE f' (dE f l)=dE (f' ∘ f) l:=by
 induction l with
 | nil=>rfl
 | cons c l ih =>
  cases c with
  | none=>simp [dE,ih]
  | some b=>cases b <;> simp [dE,ih,BC.bd,oo]
theorem yq (st:ASt) (f f':CA->CA):(st.aq f).aq f'=st.aq (f' ∘ f):=by
 simp [ASt.aq,wT,wS]
theorem ai.take (hs:ai w0 I0 R g st a ov w) {i r:Nat} {xs:List TV} {x:TV} (hl:st.look i=some (.tree xs)) (hx:xs[r]? = some x) :
  ai w0 I0 (fun b=>R b\/g.φ i r b) (g.cE g.I i r (g.ρ i r) (fun _=>False)) ((st.aq (CA.drop i r [] false)).ab i (some (.tree (am xs r .hole)))) a ov w /\
  aj w g.I x (g.ρ i r) (g.φ i r)/\(∀ b,g.φ i r b->¬ R b) /\
   ∀ c v,bo w g st.look c v->bo w (g.cE g.I i r (g.ρ i r) (fun _=>False)) ((st.aq (CA.drop i r [] false)).ab i (some (.tree (am xs r .hole)))).look (c.drop i r [] false) v:=by
 have hrl:r < xs.length:=(Cq.1 hx).1
 have hfr:∀ b,g.φ i r b->Foot g st.look i b:=fun b hb=>.inr ⟨xs,r,hl,hrl,hb⟩
 obtain ⟨h1,h2⟩:=hs.d9 hl hx (CA.drop i r [] false) (fun p=>leads false [] p=false) (eo i r [] false) (w':=w) (x':=.hole) (u':=g.ρ i r) (S':=fun _=>False) (R':=fun b=>R b\/g.φ i r b) (I':=g.I) (.fr (.hole _))
  (fun p v nd ho _ _=>by rw [gQ] at ho; cases ho) hs.below (Nat.le_refl _) (fun _ _ _ _=>rfl) (fun _ h=>h.elim) (fun b hb=>⟨hb,id,hb.elim (fun h=>(hs.res b h).2.2) (fun h=>(hs.foot i b (hfr b h)).2.2.1)⟩) (fun _ h=>h) (fun _ h=>.inl h) (fun _ _ h=>h)
 exact ⟨h1,hs.trees i xs hl r x hx,fun b hb=>(hs.foot i b (hfr b hb)).2.2.2,h2⟩
theorem ai.freeze (hs:ai w0 I0 R g st a ov w) {i r:Nat} {xs:List TV} {x:TV} (hl:st.look i=some (.tree xs)) (hx:xs[r]? = some x) :
  Rep w (fun b=>g.I b\/g.φ i r b) (frz x) (g.ρ i r) /\
   ai w0 I0 R (g.cE (fun b=>g.I b\/g.φ i r b) i r (g.ρ i r) (fun _=>False)) (st.ab i (some (.tree (am xs r (frz x))))) a ov w /\
   ∀ c v,bo w g st.look c v->bo w (g.cE (fun b=>g.I b\/g.φ i r b) i r (g.ρ i r) (fun _=>False)) (st.ab i (some (.tree (am xs r (frz x))))).look c v:=by
 have hrl:r < xs.length:=(Cq.1 hx).1
 have hfr:∀ b,g.φ i r b->Foot g st.look i b:=fun b hb=>.inr ⟨xs,r,hl,hrl,hb⟩
 have hrep:=(hs.trees i xs hl r x hx).frz (I':=fun b=>g.I b\/g.φ i r b) (fun _ h=>.inl h) (fun _ h=>.inr h)
 have:=hs.d9 hl hx id (fun _=>True) (fun c=>.inl ⟨rfl,by cases c <;> first | trivial | exact fun _ _=>trivial⟩) (w':=w) (R':=R) (S':=fun _=>False) (.fr hrep) (fun q v' nd _ _ hn=>Node.frz hn) hs.below (Nat.le_refl _) (fun _ _ _ _=>rfl) (fun b hb=>hb.elim)
  (fun b hb=>⟨.inl hb,fun h=>h,fun h=>h.elim (hs.res b hb).2.2 (fun h=>(hs.foot i b (hfr b h)).2.2.2 hb)⟩) (fun _ h=>.inl h) (fun b hb=>hb)
  (fun b hb h=>h)
 rw [bL] at this
 exact ⟨hrep,this.1,fun c v hc=>this.2 c v hc⟩
theorem ai.cool (hs:ai w0 I0 R g st a ov w) {i r:Nat} {xs:List TV} {x:TV} (hl:st.look i=some (.tree xs)) (hx:xs[r]? = some x) :
  ∃ g',ai w0 I0 R g' (st.ab i (some (.tree (am xs r (di x))))) a ov w:=by
 have hrl:r < xs.length:=(Cq.1 hx).1
 have hfr:∀ b,g.φ i r b->Foot g st.look i b:=fun b hb=>.inr ⟨xs,r,hl,hrl,hb⟩
 obtain ⟨S',hS',hrep⟩:=(hs.trees i xs hl r x hx).cool
 have:=hs.d9 hl hx id (fun _=>True) (fun c=>.inl ⟨rfl,by cases c <;> first | trivial | exact fun _ _=>trivial⟩) (w':=w) (R':=R) (S':=S') hrep (fun q v' nd _ _ hn=>Node.cool hn) hs.below (Nat.le_refl _) (fun _ _ _ _=>rfl) (fun b hb=>.inl (hS' b hb))
  (fun b hb=>⟨.inl hb,fun h=>(hs.foot i b (hfr b (hS' b h))).2.2.2 hb,fun h=>h.elim (hs.res b hb).2.2 (fun h=>(hs.foot i b (hfr b h.1)).2.2.2 hb)⟩) (fun _ h=>.inl h) (fun b hb=>hb.elim .inl (fun h=>.inr h.1))
  (fun b hb h=>hb.elim (hs.foot i b (hfr b (hS' b h))).2.2.1 (fun hb=>hb.2 h))
 rw [bL] at this
 exact ⟨_,this.1⟩
end
end Go.Ab
end
section
namespace Go.Ab
open Go.Lib
section
variable {P:Program} {w:World}
theorem qT (t u ty e:TypeId) (i:TypeInfo) (z:Value) (ht:P.underlying t=some (.slice e)) (hu:P.underlying u=some .string) (hi:P.info? e=some i) (hz:i.zero=some z) (hzs:z.cells.size=i.size) (hs1:i.size=1)
  {n:Nat} {us:List Value} {v:Value} (hown:Own w i.size v n us) (s:ByteArray) (h63:n + s.size<=maxLen) (hbytes:(n + s.size) * i.bytes<=140737488355328) :
  ∃ v' w',(Builtin.append_ #[t,u] ty #[v,.string s]).run P w=.ok v' w'/\Grown w w' i.size v v' (n + s.size) (us ++ strCells s):=by
 have hsmall:n + s.size<=9223372036854775807:=by simp only [maxLen] at h63; omega
 have hl:(strCells s).length=s.size:=strCells_length s
 have h1:=strCells_oneCell s
 have hul:us.length=n * i.size:=by
  rcases hown with ⟨_,h0,h1⟩ | ⟨a,cap,vs,ty,_,hr⟩
  ·rw [h0,h1]; simp
  ·exact hr.len
 have hu1:∀ u ∈ us,u.oneCell'=true:=by
  rcases hown with ⟨_,h0,h1⟩ | ⟨a,cap,vs,ty,_,hr⟩
  ·rw [h1]; simp
  ·exact hr.one
 by_cases hm:s.size=0
 ·have hn:strCells s=[]:=List.eq_nil_of_length_eq_zero (by omega)
  refine ⟨v,w,?_,?_⟩
  ·have hf:=run_firstCells_string (P:=P) w 1 s
   rw [hm,hn] at hf
   rcases hown with ⟨rfl,h0,h2⟩ | ⟨a,cap,vs,ty',rfl,hr⟩
   ·subst h0
    simp [aJ,Builtin.append_,run_underlying ht,run_underlying hu,sizeOf,typeInfo,hi,Builtin.lenOf,hs1,hm,hf]
   ·simp [Builtin.append_,run_underlying ht,run_underlying hu,sizeOf,typeInfo,hi,Builtin.lenOf,hr.le,hs1,hm,hf,storeCells]
  ·rw [hm,hn,Nat.add_zero,List.append_nil]
   refine ⟨?_,rfl,rfl,rfl,Nat.le_refl _,fun _ _ _=>rfl,fun _=>rfl⟩
   rcases hown with ⟨h2,h0,h3⟩ | ⟨a,cap,vs,ty',h2,hr⟩
   ·exact .inl ⟨rfl,h2,h0,h3,rfl⟩
   ·exact .inr ⟨a,cap,vs,ty',h2,hr,.inl ⟨a,n,cap,h2,rfl⟩⟩
 ·have hlen : (us ++ strCells s).length = (n + s.size) * i.size := by rw [List.length_append, hul, hl, hs1]; omega
  have grown:∀ (old:Nat),∃ arr,arr=us.toArray ++ (strCells s).toArray ++ Builtin.zeroCells z.cells (grownCap w (n + s.size) old e - (n + s.size)) /\
    Row (w.drew.alloc (.cells arr e)) ⟨w.heap.size,0,none⟩ (n + s.size) (grownCap w (n + s.size) old e) i.size (us ++ strCells s) arr e:=by
   intro old
   have hge:=grownCap_ge w (n + s.size) old e
   have hcm:grownCap w (n + s.size) old e<=maxLen:=grownCap_le_maxLen w (n + s.size) old e h63
   refine ⟨_,rfl,heap_alloc_new w.drew _,rfl,hge,hcm,?_,hlen,fun k hk=>?_,fun u hu=>?_⟩
   ·simp only [Array.size_append,List.size_toArray,size_zeroCells,hzs,hul,hl,hs1,Nat.zero_add,Nat.mul_one]
    omega
   ·rw [Nat.zero_add,Array.getElem?_append_left (by simp [hul,hl,hs1] at hk ⊢; omega),List.append_toArray,List.getElem?_toArray]
   ·rcases List.mem_append.1 hu with h | h
    ·exact hu1 u h
    ·exact h1 u h
  have gl:∀ (arr:Array Value),(∀ k,k < w.heap.size->(w.drew.alloc (.cells arr e)).heap[k]? = w.heap[k]?):=fun arr k hk=>heap_alloc_old w.drew _ k hk
  rcases hown with ⟨rfl,h0,h2⟩ | ⟨a,cap,vs,ty',rfl,hr⟩
  ·subst h0 h2
   obtain ⟨arr,harr,hrow⟩:=grown 0
   have hrun:=run_append_nil_string (P:=P) w t u ty e i z ht hu hi hz s (by omega) (by omega) (by have hb:=hbytes; simp only [Nat.zero_add] at hb; omega)
   simp only [Nat.zero_add,List.nil_append,Array.empty_append] at harr hrow ⊢
   have hsc:s.data.map (fun b=>Value.int .u8 b.toNat)=(strCells s).toArray:=by apply Array.ext'; simp [strCells]
   rw [hsc,<- harr] at hrun
   exact ⟨_,_,hrun,.inr ⟨_,_,arr,e,rfl,hrow,.inr rfl⟩,rfl,rfl,rfl,by simp,fun k hk _=>gl arr k hk,fun h=>absurd h (by omega)⟩
  ·by_cases hroom:n + s.size<=cap
   ·have hfit:a.off + n * i.size + (strCells s).length<=vs.size:=by
     have h3:=hr.fit
     have h4:(n + s.size) * i.size<=cap * i.size:=Nat.mul_le_mul_right _ hroom
     rw [Nat.add_mul] at h4
     rw [hs1] at *
     omega
    have hf:=run_firstCells_string (P:=P) w 1 s
    have hst:=run_storeCells_at P a.block (a.off + n * i.size) ty' (strCells s) 0 vs w hr.heap (by simpa using hfit) h1
    simp only [Nat.add_zero] at hst
    refine ⟨.slice (some a) (n + s.size) cap,w.setRow a.block (spl vs.toList (a.off + n * i.size) (strCells s)).toArray,?_,.inr ⟨a,cap,(spl vs.toList (a.off + n * i.size) (strCells s)).toArray,ty',rfl,?_,.inl ⟨a,n,cap,rfl,rfl⟩⟩,rfl,rfl,rfl,by simp,fun k _ hk=>setRow_other w a.block k _ (hk a n cap rfl),fun h=>absurd h (by omega)⟩
    ·simp only [spl]
     rw [<- nl a hr.spot] at hst
     rw [hs1,Nat.mul_one] at hst
     simp [Builtin.append_,run_underlying ht,run_underlying hu,sizeOf,typeInfo,hi,Builtin.lenOf,hroom,hs1,hf,hst]
    ·have hfl:a.off + n * i.size + (strCells s).length<=vs.toList.length:=by simpa using hfit
     have hheap:=setRow_heap w a.block vs (spl vs.toList (a.off + n * i.size) (strCells s)).toArray ty' (0,0) hr.heap
     refine ⟨hheap,hr.spot,hroom,hr.max,by rw [List.size_toArray,er hfl]; exact hr.fit,hlen,fun k hk=>?_,fun u hu=>?_⟩
     ·rw [List.getElem?_toArray,bq hfl]
      by_cases hk1:k < n * i.size
      ·rw [if_neg (by omega),Cv,hr.cells k hk1,CC (by omega)]
      ·rw [Nat.add_mul,hs1] at hk
       rw [hs1] at *
       rw [if_pos (by omega),CD (by omega)]
       congr 1
       omega
     ·rcases List.mem_append.1 hu with h | h
      ·exact hu1 u h
      ·exact h1 u h
   ·obtain ⟨arr,harr,hrow⟩:=grown cap
    have hrun:=run_append_grow_string (P:=P) w t u ty e i z ht hu hi hz a n cap us hul (fun j u hu=>hr.cell hu) s (by omega) (by omega) (growslice_fits (by omega) hbytes)
    rw [<- harr] at hrun
    exact ⟨_,_,hrun,.inr ⟨_,_,arr,e,rfl,hrow,.inr rfl⟩,rfl,rfl,rfl,by simp,fun k hk _=>gl arr k hk,fun h=>absurd h (by omega)⟩
end
end Go.Ab
end
section
namespace Go.Ab
open Go.RowKit
def oA:TypeDesc->Kd
 | .bool=>.bool
 | .int k=>.int k
 | .string=>.str
 | .slice e=>.slice e
 | .struct _=>.struct
 | .array n e=>.arr n e
 | .pointer _=>.ptr
 | _=>.other
def mW:TypeDesc->List (Nat × TypeId)
 | .struct fs=>fs.toList.map fun f=>(f.offset,f.type)
 | _=>[]
def tyOf (P : Program) (t : TypeId) : Option TyD :=
 match P.info? t,P.underlying t with
 | some i,some desc=>match i.zero with
  | some z => bif z.cells.size.beq i.size && z.cells.all Value.oneCell' && ((oA desc).isAgg || i.size.beq 1) && (mW desc).all (fun f => (P.info? f.2).isSome)
    then some ⟨i.size,i.bytes,oA desc,z.cells.toList,mW desc⟩ else none
  | none=>none
 | _,_=>none
structure aK (P:Program) (t:TypeId) (d:TyD):Prop where
 info:∃ i z,P.info? t=some i/\i.size=d.size/\i.bytes=d.bytes/\i.zero=some z/\z.cells.toList=d.zero
 und:∃ desc,P.underlying t=some desc/\oA desc=d.kd/\mW desc=d.fields
 zlen:d.zero.length=d.size
 zone:∀ v ∈ d.zero,v.oneCell'=true
 one:d.kd.isAgg=false->d.size=1
 flds:∀ f ∈ d.fields,(P.info? f.2).isSome=true
theorem aK.of {P:Program} {t:TypeId} {d:TyD} (h:tyOf P t=some d):aK P t d:=by
 unfold tyOf at h
 cases hi:P.info? t with
 | none=>simp [hi] at h
 | some i =>
  cases hu:P.underlying t with
  | none=>simp [hi,hu] at h
  | some desc =>
   cases hz:i.zero with
   | none=>simp [hi,hu,hz] at h
   | some z =>
    simp only [hi,hu,hz] at h
    cases hc:(z.cells.size.beq i.size && z.cells.all Value.oneCell' && ((oA desc).isAgg || i.size.beq 1) && (mW desc).all (fun f=>(P.info? f.2).isSome)) with
    | false=>simp [hc] at h
    | true =>
     simp only [hc,cond_true,Cs] at h
     simp only [Cu,ao,Bool.or_eq_true] at hc
     obtain ⟨⟨⟨h1,h2⟩,h3⟩,h4⟩:=hc
     subst h
     refine ⟨⟨i,z,hi,rfl,rfl,hz,rfl⟩,⟨desc,hu,rfl,rfl⟩,by simpa using h1,fun v hv=>?_,fun hk=>?_,fun f hf=>?_⟩
     ·rw [Array.all_eq_true_iff_forall_mem] at h2
      exact h2 v (by simpa using hv)
     ·rcases h3 with h3 | h3
      ·simp [hk] at h3
      ·exact h3
     ·rw [List.all_eq_true] at h4
      exact h4 f hf
abbrev Cal:=FuncId->List TV->TV->Prop
def Prg.hits {R:Type} (C:Cal):Prg R->R->Prop
 | .fail,_=>False
 | .ret e',e=>e'=e
 | .tv p k,e=>∃ v,p=some v/\(k v).hits C e
 | .tvs p k,e=>∃ v,p=some v/\(k v).hits C e
 | .rws p k,e=>∃ v,p=some v/\(k v).hits C e
 | .nat p k,e=>∃ v,p=some v/\(k v).hits C e
 | .chk b k,e=>b=true/\k.hits C e
 | .ite b t f,e=>∃ v,b=some v/\((v=true/\t.hits C e)\/(v=false/\f.hits C e))
 | .call f xs k,e=>∃ v,C f xs v/\(k v).hits C e
 | .jmp _ _,_=>False
section
variable {P:Program} {w:World}
theorem aE {t:TypeId} {d:TypeDesc} (h:P.underlying t=some d):(underlying t).run P w=.ok d w:=by simp [underlying,h]
theorem bN {t:TypeId} {d:TyD} (h:aK P t d):(sizeOf t).run P w=.ok d.size w:=by
 obtain ⟨i,z,hi,hs,_⟩:=h.info
 simp [sizeOf,typeInfo,hi,hs]
theorem kx {t:TypeId} {d:TyD} (h:aK P t d):∃ z,(zeroValue t).run P w=.ok z w/\z.cells.toList=d.zero:=by
 obtain ⟨i,z,hi,_,_,hz,hc⟩:=h.info
 exact ⟨z,by simp [zeroValue,typeInfo,hi,hz],hc⟩
theorem gS {t:TypeId} {d:TyD} (h:aK P t d):(isAgg t).run P w=.ok d.kd.isAgg w:=by
 obtain ⟨desc,hu,hk,_⟩:=h.und
 rw [<- hk]
 cases desc <;> simp [isAgg,underlying,hu,oA,Kd.isAgg]
end
section
variable {P:Program} {E:Env} {C:Cal} {w0:Bs} {w w':World} {I0 I R:Nat->Prop} {g g':Gh} {st st':ASt} {a:Act} {ov:List Value} {look:Look} {o:Oper} {Q:Exit->Act->World->Prop} {id:Nat}
theorem f7 {next:Act->World->Prop} {v:Value} (h:(execOp a.eval o).run P w=.ok (.value v) w') (hn:next (a.put o.dst v) w'):o.wp P a w next Q:=by
 unfold Oper.wp; rw [h]; exact hn
theorem nw {next:Act->World->Prop} (h:(execOp a.eval o).run P w=.ok .skip w') (hn:next (a.put o.dst undef) w'):o.wp P a w next Q:=by
 unfold Oper.wp; rw [h]; exact hn
abbrev NoR:Nat->Prop:=fun _=>False
abbrev Good (P:Program) (w0:Bs) (I0:Nat->Prop) (ov:List Value) (o:Oper) (st':ASt) (a:Act) (w:World) (Q:Exit->Act->World->Prop):Prop:=o.wp P a w (fun a' w'=>Sim w0 I0 st' a' ov w') Q
abbrev uH (P:Program) (w0:Bs) (I0:Nat->Prop) (ov:List Value) (o:Oper) (st':ASt) (a:Act) (w:World):Prop:=∃ u,(execOp a.eval o).run P w=.ok (.value u) w/\Sim w0 I0 st' (a.put o.dst u) ov w
theorem rC (hs:ai w0 I0 NoR g st a ov w) {v:AV} {u:Value} (hrun:(execOp a.eval o).run P w=.ok (.value u) w) (hv:bA w g st.look v u)
  (ha:(Eff.val v).app st o.dst=some st'):uH P w0 I0 ov o st' a w:=by
 simp only [Eff.app,Cs] at ha
 subst ha
 exact ⟨u,hrun,⟨g,hs.put o.dst hv⟩⟩
theorem xL (hs:ai w0 I0 NoR g st a ov w) {x:TV} {u:Value} {e:Eff} (hrun:(execOp a.eval o).run P w=.ok (.value u) w) (hx:Rep w g.I x u) (h1:u.oneCell'=true)
  (hh:(vt x).hits C e) (ha:e.app st o.dst=some st'):uH P w0 I0 ov o st' a w:=by
 have he:e=.val (.one (.t x)):=hh.symm
 rw [he] at ha
 exact rC hs hrun (v:=.one (.t x)) ⟨hx,h1⟩ ha
theorem aH (hs:ai w0 I0 NoR g st a ov w) {v:AV} {u:Value} (hrun:(execOp a.eval o).run P w=.ok (.value u) w) (hv:bA w g st.look v u)
  (ha:(Eff.val v).app st o.dst=some st'):Good P w0 I0 ov o st' a w Q:=by
 simp only [Eff.app,Cs] at ha
 subst ha
 exact f7 hrun ⟨g,hs.put o.dst hv⟩
theorem xk {x:TV} {e:Eff} (h:(vt x).hits C e):e=.val (.one (.t x)):=h.symm
theorem cm (hs:ai w0 I0 NoR g st a ov w) {x:TV} {u:Value} {e:Eff} (hrun:(execOp a.eval o).run P w=.ok (.value u) w) (hx:Rep w g.I x u) (h1:u.oneCell'=true)
  (hh:(vt x).hits C e) (ha:e.app st o.dst=some st'):Good P w0 I0 ov o st' a w Q:=by
 rw [xk hh] at ha
 exact aH hs hrun (v:=.one (.t x)) ⟨hx,h1⟩ ha
theorem bT {x:AV} {v:Value} {t:TV} (h:bA w g look x v) (ht:x.tv? = some t):Rep w g.I t v:=by
 cases x with
 | one c=>cases c <;> simp [AV.tv?] at ht; subst ht; exact h.1
 | agg cs=>simp [AV.tv?] at ht
 | tv x=>simp [AV.tv?] at ht; subst ht; exact h
 | bl b=>simp [AV.tv?] at ht; subst ht; have:v=.bool b:=h; subst this; exact .lit _
 | tups l=>simp [AV.tv?] at ht
 | clo _ l=>simp [AV.tv?] at ht
theorem ar {i r:Nat} {x:TV} (h:br look i r=some x):∃ xs,look i=some (.tree xs)/\xs[r]? = some x:=by
 unfold br at h
 split at h
 ·rename_i xs hl
  cases hb:r.blt xs.length with
  | false=>simp [hb] at h
  | true =>
   simp only [hb,cond_true,Cs] at h
   have hr:r < xs.length:=by simpa using hb
   refine ⟨xs,hl,?_⟩
   rw [aI,Cr hr] at h
   rw [Cr hr,<- h]
   rfl
 ·cases h
theorem ce {S:Type} {p:Way} {x:TV} {k:TV->Prg S} {e:S} (h:(mC p x k).hits C e):∃ y,cD p x=some y/\(k y).hits C e:=by
 unfold mC at h
 split at h
 ·exact ⟨x,rfl,h⟩
 ·exact h
theorem lI {S:Type} {p:Way} {x y:TV} {k:TV->Prg S} {e:S} (h:(vk p x y k).hits C e):∃ z,lc p x y=some z/\(k z).hits C e:=by
 unfold vk at h
 split at h
 ·exact ⟨y,rfl,h⟩
 ·exact h
theorem ai.at (hs:ai w0 I0 R g st a ov w) {i r:Nat} {xs:List TV} {x y:TV} {p:Way} {v:Value} {nd:Option (Nat × Nat)} (hl:st.look i=some (.tree xs)) (hx:xs[r]? = some x)
  (hn:Node w p x (g.ρ i r) v nd) (hy:cD p x=some y):nd=y.nd/\∃ S',aj w g.I y v S'/\(∀ b,S' b->g.φ i r b):=by
 obtain ⟨v',S',n1,n2,n3,_⟩:=(hs.trees i xs hl r x hx).get hy
 obtain ⟨h1,h2⟩:=Node.unique hn n1
 subst h1
 exact ⟨h2,S',n2,n3⟩
theorem tW {x:TV} {s n:Nat} (h:x.nd=some (s,n)):∃ o xs,x=.sl o s xs/\n=xs.length:=by
 cases x with
 | sl o s' xs=>simp only [TV.nd,Cs,Prod.mk.injEq] at h; obtain ⟨rfl,rfl⟩:=h; exact ⟨o,xs,rfl,rfl⟩
 | _=>simp [TV.nd] at h
theorem da {x y:TV} {lo len:Nat} {u v:Value} {S:Nat->Prop} {nd:Option (Nat × Nat)} (hr:aj w I x u S) (hnd:nd=x.nd) (hw:qi nd lo len u v) (hy:d7 lo len x=some y):aj w I y v S:=by
 have:=hr.win hy
 subst hnd
 cases x with
 | sl o s xs =>
  simp only [TV.nd,qi] at hw
  rw [hw.2]
  exact this
 | lit z =>
  simp only [TV.nd,qi] at hw
  obtain ⟨_,_,h1,h2⟩:=hw
  subst h1 h2
  exact this
 | _=>simp [d7] at hy
theorem ss {S:Type} (hlk:∀ i b,look i=some b->st.look i=some b) (hs:ai w0 I0 R g st a ov w) {c:CA} {v:Value} {k:TV->Prg S} {e:S} (hc:bo w g st.look c v) (h:(ii look c k).hits C e) :
  ∃ x T,(k x).hits C e/\aj w g.I x v T:=by
 unfold ii at h
 split at h
 ·exact ⟨_,fun _=>False,h,.fr hc.1⟩
 ·split at h
  ·rename_i x hx
   obtain ⟨xs,h1,h2⟩:=ar hx
   obtain ⟨y,h3,h4⟩:=ce h
   obtain ⟨xs',x',nd,g1,g2,g3,g4⟩:=hc
   rw [hlk _ _ h1] at g1
   cases g1
   rw [h2] at g2
   cases g2
   obtain ⟨_,S',r1,_⟩:=hs.at (hlk _ _ h1) h2 g3 h3
   exact ⟨y,S',h4,r1⟩
  ·exact h.elim
 ·split at h
  ·rename_i x hx
   obtain ⟨xs,h1,h2⟩:=ar hx
   obtain ⟨y,h3,z,h4,h5⟩:=ce h
   obtain ⟨xs',x',u,nd,g1,g2,g3,g4,g5⟩:=hc
   rw [hlk _ _ h1] at g1
   cases g1
   rw [h2] at g2
   cases g2
   obtain ⟨e1,S',r1,_⟩:=hs.at (hlk _ _ h1) h2 g3 h3
   exact ⟨z,S',h5,da r1 e1 g5 h4⟩
  ·exact h.elim
 ·exact h.elim
theorem lM {S:Type} (hlk:∀ i b,look i=some b->st.look i=some b) (hs:ai w0 I0 R g st a ov w) {x:AV} {v:Value} {k:TV->Prg S} {e:S} (hx:bA w g st.look x v) (h:(sf look x k).hits C e) :
  ∃ y T,(k y).hits C e/\aj w g.I y v T:=by
 unfold sf at h
 split at h
 ·exact ss hlk hs hx h
 ·exact ⟨_,fun _=>False,h,.fr hx⟩
 ·have:v=.bool _:=hx
  subst this
  exact ⟨_,fun _=>False,h,.fr (.lit _)⟩
 ·exact h.elim
theorem tV {op:BinOp} {k:IntKind} {x y:Int} {r:TV} (h:qF op k x y=some r) (t:TypeId) :
    ∃ u,r=.lit u/\u.oneCell'=true/\(binOp op t (.int k x) (.int k y)).run P w=.ok u w:=by
  unfold qF at h
  cases op <;> simp only [Cs, reduceCtorEq] at h <;>
    first
      | (subst h; exact ⟨_,rfl,rfl,by simp [binOp,Op.intArith,Op.intCmp,Op.intBits]⟩)
      | (split at h
         · cases h
         · rename_i hb
           simp only [Cs] at h
           subst h
           exact ⟨_,rfl,rfl,by simp [binOp,Op.intDiv,hb]⟩)
theorem uv {op:BinOp} {x y:ByteArray} {r:TV} (h:wP op x y=some r) (t:TypeId) :
    ∃ u,r=.lit u/\u.oneCell'=true/\(binOp op t (.string x) (.string y)).run P w=.ok u w:=by
  unfold wP at h
  cases op <;> simp only [Cs, reduceCtorEq] at h <;>
    first
      | (subst h; exact ⟨_,rfl,rfl,by simp [binOp,Op.stringOp]⟩)
      | (split at h
         · cases h
         · rename_i hb
           simp only [Cs] at h
           subst h
           exact ⟨_,rfl,rfl,by simp only [binOp,Op.stringOp]; rw [if_neg hb]; rfl⟩)
theorem Bw {t:TypeId} {d:TyD} (h:aK P t d) (hk:d.kd=.bool):P.underlying t=some .bool:=by
 obtain ⟨desc,hu,hd,_⟩:=h.und
 rw [hk] at hd
 cases desc <;> simp [oA] at hd
 exact hu
theorem cf {t e:TypeId} {d:TyD} (h:aK P t d) (hk:d.kd=.slice e):P.underlying t=some (.slice e):=by
 obtain ⟨desc,hu,hd,_⟩:=h.und
 rw [hk] at hd
 cases desc <;> simp [oA] at hd
 subst hd
 exact hu
theorem mm {t:TypeId} {d:TyD} (h:aK P t d) (hk:d.kd=.str):P.underlying t=some .string:=by
 obtain ⟨desc,hu,hd,_⟩:=h.und
 rw [hk] at hd
 cases desc <;> simp [oA] at hd
 exact hu
theorem uu {t:TypeId} {k:IntKind} {d:TyD} (h:aK P t d) (hk:d.kd=.int k):P.underlying t=some (.int k):=by
 obtain ⟨desc,hu,hd,_⟩:=h.und
 rw [hk] at hd
 cases desc <;> simp [oA] at hd
 subst hd
 exact hu
theorem ra {t e:TypeId} {n:Nat} {d:TyD} (h:aK P t d) (hk:d.kd=.arr n e):P.underlying t=some (.array n e):=by
 obtain ⟨desc,hu,hd,_⟩:=h.und
 rw [hk] at hd
 cases desc <;> simp [oA] at hd
 obtain ⟨rfl,rfl⟩:=hd
 exact hu
theorem sT {t:TypeId} {d:TyD} (h:aK P t d) (hk:d.kd=.struct):∃ fs,P.underlying t=some (.struct fs)/\d.fields=fs.toList.map fun f=>(f.offset,f.type):=by
 obtain ⟨desc,hu,hd,hf⟩:=h.und
 rw [hk] at hd
 cases desc <;> simp [oA] at hd
 exact ⟨_,hu,hf.symm⟩
theorem yA {t:TypeId} (h:P.underlying t=some .bool) (n:Nat) (x y:Bool):(Op.equalIn (n + 1) t (.bool x) (.bool y)).run P w=.ok (x == y) w:=by
 simp only [Op.equalIn]; simp [aE h]
theorem Am {t e:TypeId} (h:P.underlying t=some (.slice e)) (n:Nat) (l1 c1 l2 c2:Nat):(Op.equalIn (n + 1) t (.slice none l1 c1) (.slice none l2 c2)).run P w=.ok true w:=by
 simp only [Op.equalIn]; simp [aE h]
theorem yB {t e:TypeId} (h:P.underlying t=some (.slice e)) (n:Nat) (ad:Addr) (l1 c1 l2 c2:Nat):(Op.equalIn (n + 1) t (.slice (some ad) l1 c1) (.slice none l2 c2)).run P w=.ok false w:=by
 simp only [Op.equalIn]; simp [aE h]
theorem l9 {op:BinOp} {b:Bool} {r:TV} (h:wq op b=some r) {t:TypeId} {x y:Value} (hx:∀ k n,x≠.int k n) (hf:∀ k n,x≠.float k n) (hc:∀ k m n,x≠.complex k m n) (hst:∀ s,x≠.string s)
  (he:(Op.equal t x y).run P w=.ok b w):∃ u,r=.lit u/\u.oneCell'=true/\(binOp op t x y).run P w=.ok u w:=by
 unfold wq at h
 cases op <;> simp only [Cs,reduceCtorEq] at h <;> subst h <;> refine ⟨_,rfl,rfl,?_⟩ <;>
  (cases x <;> first | exact absurd rfl (hx _ _) | exact absurd rfl (hf _ _) | exact absurd rfl (hc _ _ _) | exact absurd rfl (hst _) | (simp only [binOp]; simp [he]))
theorem wk {op:BinOp} {x y r:TV} {u v:Value} {t:TypeId} {d:TyD} {S T:Nat->Prop} (ht:aK P t d) (h:pbin d.kd op x y=some r) (hx:aj w I x u S) (hy:aj w I y v T) (ox oy:Operand) :
  ∃ z,r=.lit z/\z.oneCell'=true/\(eqGuard op t ox oy u v).run P w=.ok () w/\(binOp op t u v).run P w=.ok z w:=by
 unfold pbin at h
 split at h
 ·rename_i k0 k a k' b hk
  have:=aN hx; subst this
  have:=aN hy; subst this
  split at h
  ·rename_i hkk
   subst hkk
   obtain ⟨z,rfl,h1,hr⟩:=tV (P:=P) (w:=w) h t
   exact ⟨z,rfl,h1,by simp only [eqGuard]; split <;> simp,hr⟩
  ·cases h
 ·rename_i a b hk
  have:=aN hx; subst this
  have:=aN hy; subst this
  obtain ⟨z,rfl,h1,hr⟩:=l9 (P:=P) (w:=w) (t:=t) (x:=.bool a) (y:=.bool b) h (by simp) (by simp) (by simp) (by simp) (yA (Bw ht hk) 9999 a b)
  exact ⟨z,rfl,h1,by simp only [eqGuard]; split <;> simp,hr⟩
 ·rename_i a b hk
  have:=aN hx; subst this
  have:=aN hy; subst this
  obtain ⟨z,rfl,h1,hr⟩:=uv (P:=P) (w:=w) h t
  exact ⟨z,rfl,h1,by simp only [eqGuard]; split <;> simp,hr⟩
 ·rename_i e l1 c1 l2 c2 hk
  have:=aN hx; subst this
  have:=aN hy; subst this
  obtain ⟨z,rfl,h1,hr⟩:=l9 (P:=P) (w:=w) (t:=t) (x:=.slice none l1 c1) (y:=.slice none l2 c2) h (by simp) (by simp) (by simp) (by simp) (Am (cf ht hk) 9999 l1 c1 l2 c2)
  exact ⟨z,rfl,h1,by simp only [eqGuard]; split <;> simp,hr⟩
 ·rename_i e o s xs l2 c2 hk
  obtain ⟨ad,cap,rfl⟩:=pU hx
  have:=aN hy; subst this
  obtain ⟨z,rfl,h1,hr⟩:=l9 (P:=P) (w:=w) (t:=t) (x:=.slice (some ad) xs.length cap) (y:=.slice none l2 c2) h (by simp) (by simp) (by simp) (by simp) (yB (cf ht hk) 9999 ad xs.length cap l2 c2)
  exact ⟨z,rfl,h1,by simp only [eqGuard]; split <;> simp,hr⟩
 ·cases h
theorem uN {y:TV} {v:Value} {S:Nat->Prop} (h:j5 y=true) (hy:aj w I y v S):v=aJ:=by
 unfold j5 at h
 split at h
 ·exact aN hy
 ·cases h
variable {dst:Option Tmp} {type:TypeId} {pos:String} {after:Array Edge} {guard:Option (Nat × Bool)}
theorem BE (hs:ai w0 I0 NoR g st a ov w) {x:Operand} {e:Eff} (hh:(Prg.ret (Eff.val (st.ev x))).hits C e) (ha:e.app st dst=some st'):Good P w0 I0 ov ⟨dst,.move x,type,pos,after,guard⟩ st' a w Q:=by
 cases hh
 exact aH hs (u:=a.eval x) (by simp [execOp]) (hs.ev x) ha
theorem yc (hs:ai w0 I0 NoR g st a ov w) {x:Operand} {e:Eff} (hh:(Prg.ret (Eff.val (st.ev x))).hits C e) (ha:e.app st dst=some st'):Good P w0 I0 ov ⟨dst,.assign x,type,pos,after,guard⟩ st' a w Q:=by
 cases hh
 exact aH hs (u:=a.eval x) (by simp [execOp]) (hs.ev x) ha
theorem uW (hs:ai w0 I0 NoR g st a ov w) {c x y:Operand} {v:TV} {e:Eff} (hh:(Prg.ite (asBool v) (Prg.ret (Eff.val (st.ev x))) (Prg.ret (Eff.val (st.ev y)))).hits C e) (ha:e.app st dst=some st') (hc:Rep w g.I v (a.eval c)) :
  Good P w0 I0 ov ⟨dst,.pick c x y,type,pos,after,guard⟩ st' a w Q:=by
 obtain ⟨b,hb,hh⟩:=hh
 have hv:v=.lit (.bool b):=by
  unfold asBool at hb
  split at hb
  ·cases hb; rfl
  ·cases hb
 subst hv
 have hcv:a.eval c=.bool b:=by
  generalize a.eval c=u at hc
  cases hc; rfl
 rcases hh with ⟨rfl,hh⟩ | ⟨rfl,hh⟩
 ·have he:e=Eff.val (st.ev x):=by cases hh; rfl
  subst he
  exact aH hs (u:=a.eval x) (by simp [execOp,hcv,Go.asBool]) (hs.ev x) ha
 ·have he:e=Eff.val (st.ev y):=by cases hh; rfl
  subst he
  exact aH hs (u:=a.eval y) (by simp [execOp,hcv,Go.asBool]) (hs.ev y) ha
theorem Bh (hs:ai w0 I0 NoR g st a ov w) {c x y:Operand} {e:Eff} (hh:(opL E id look (.pick c x y) [st.ev c,st.ev x,st.ev y]).hits C e) (ha:e.app st dst=some st') :
  Good P w0 I0 ov ⟨dst,.pick c x y,type,pos,after,guard⟩ st' a w Q:=by
 simp only [opL] at hh
 have hc:=hs.ev c
 split at hh
 ·rename_i b hb
  rw [hb] at hc
  have hcv:a.eval c=.bool b:=hc
  cases hh
  cases b with
  | true=>exact aH hs (u:=a.eval x) (by simp [execOp,hcv,Go.asBool]) (by simpa using hs.ev x) ha
  | false=>exact aH hs (u:=a.eval y) (by simp [execOp,hcv,Go.asBool]) (by simpa using hs.ev y) ha
 ·rename_i v hb
  rw [hb] at hc
  exact uW hs hh ha hc
 ·rename_i v hb
  rw [hb] at hc
  exact uW hs hh ha hc.1
 ·exact hh.elim
theorem b9:∀ {cs:List CA} {xs:List TV},dC cs=some xs->cs=xs.map CA.t
 | [],xs,h=>by simp only [dC,Cs] at h; subst h; rfl
 | c :: cs, xs, h => by
  cases c <;> simp only [dC,reduceCtorEq] at h
  split at h
  ·rename_i r hr
   simp only [Cs] at h
   subst h
   rw [b9 hr]
   rfl
  ·cases h
theorem op_un (hs:ai w0 I0 NoR g st a ov w) {op:UnOp} {xt:TypeId} {x:Operand} {e:Eff} (hh:(opL E id look (.unOp op xt x) [st.ev x]).hits C e) (ha:e.app st dst=some st') :
  Good P w0 I0 ov ⟨dst,.unOp op xt x,type,pos,after,guard⟩ st' a w Q:=by
 simp only [opL] at hh
 have hx:=hs.ev x
 split at hh
 ·rename_i b hb
  rw [hb] at hx
  have hv:a.eval x=.bool b:=hx
  cases hh
  exact aH hs (v:=.bl !b) (u:=.bool !b) (by simp [execOp,hv,Op.unary]) rfl ha
 ·split at hh
  ·rename_i t ht
   have hr:=bT hx ht
   obtain ⟨v,hv,hh⟩:=hh
   unfold pun at hv
   split at hv <;> simp only [Cs,reduceCtorEq] at hv
   ·subst hv
    have he:=bj hr
    exact cm hs (by simp [execOp,he,Op.unary]) (.lit _) rfl hh ha
   ·subst hv
    have he:=bj hr
    exact cm hs (by simp [execOp,he,Op.unary,Op.intArith]) (.lit _) rfl hh ha
  ·exact hh.elim
theorem pr {P:Program} {t:TypeId} {d:TyD} (h:aK P t d) (hb:lK d=true):P.underlying t=some (.int .u8)/\d.size=1/\d.bytes=1:=by
 unfold lK at hb
 split at hb
 ·rename_i hk hz
  simp only [Cu] at hb
  exact ⟨uu h hk,Nat.eq_of_beq_eq_true hb.1,Nat.eq_of_beq_eq_true hb.2⟩
 ·cases hb
theorem mH:∀ {rows:List (List TV)} {l:List Int},mL rows=some l->rows=l.map fun n=>[TV.lit (.int .u8 n)]
 | [],l,h=>by
  simp only [mL,Cs] at h
  subst h
  rfl
 | r :: rows, l, h => by
  unfold mL at h
  split at h
  ·rename_i heq; cases heq
  ·rename_i n rest heq
   simp only [List.cons.injEq] at heq
   obtain ⟨rfl,rfl⟩:=heq
   split at h
   ·rename_i r hr
    simp only [Cs] at h
    subst h
    rw [mH hr]
    rfl
   ·cases h
  ·cases h
theorem wu {P:Program} {w:World} {xt dt e:TypeId} (hs:P.underlying xt=some (.slice e)) (he:P.underlying e=some (.int .u8)) (hd:P.underlying dt=some .string) {I:Nat->Prop} {v:Value} {us:List Value} {F:Nat->Nat->Prop} {l:List Int}
  (h:Src w I 1 (l.map fun n=>[TV.lit (.int .u8 n)]) v us F):(convert xt dt v).run P w=.ok (.string (Cg l)) w:=by
 obtain ⟨A,c,hv,hA,hcell⟩:=h.form
 have hlen:us.length=l.length:=by have:=h.len; simpa using this
 have hus : us = l.map (Value.int .u8) := by
  apply List.ext_getElem?
  intro k
  by_cases hk:k < l.length
  ·have hr:=h.rep k (.lit (.int .u8 l[k])) (by
    have:∀ (l:List Int) (k:Nat) (hk:k < l.length),(l.map fun n=>[TV.lit (.int .u8 n)]).flatten[k]? = some (.lit (.int .u8 l[k])):=by
     intro l
     induction l with
     | nil=>intro k hk; simp at hk
     | cons a l ih=>intro k hk; cases k with
      | zero=>rfl
      | succ k=>simpa using ih k (by simpa using hk)
    exact this l k hk)
   have:=aN hr
   rw [Cx,Cr hk]
   have hku:k < us.length:=by omega
   simp only [List.getD,Cr hku,Option.getD_some] at this
   rw [Cr hku,this]
   rfl
  ·rw [CE (by omega),CE (by simp; omega)]
 subst hv
 cases A with
 | none =>
  have h0:=hA rfl
  have hl:l=[]:=by simpa using h0
  subst hl
  rw [run_convert_bytes_string w xt dt e _ _ c hs he hd]
  simp [Conv.bytesToString]
  rfl
 | some ad =>
  have hload:=run_loadCells_list (P:=P) (w:=w) ad us (hcell ad rfl)
  rw [hlen,hus] at hload
  rw [run_convert_bytes_string w xt dt e _ _ c hs he hd,run_bytesToString w ad _ c l (by simpa using hload)]
  rfl
theorem wy (hE:∀ t d,E.T t=some d->aK P t d) (hlk:∀ i b,look i=some b->st.look i=some b) (hs:ai w0 I0 NoR g st a ov w) {xt dt:TypeId} {x:Operand} {e:Eff}
  (hh:(opL E id look (.convert xt dt x) [st.ev x]).hits C e) (ha:e.app st dst=some st'):Good P w0 I0 ov ⟨dst,.convert xt dt x,type,pos,after,guard⟩ st' a w Q:=by
 simp only [opL] at hh
 have hx:=hs.ev x
 split at hh
 ·rename_i ds0 d hT0 hT
  obtain ⟨ds,hds,_⟩:=(hE xt ds0 hT0).und
  have hty:=hE dt d hT
  unfold xN at hh
  split at hh
  ·rename_i et hk0 hk1
   split at hh
   ·rename_i de hTe
    cases hb:lK de with
    | false=>rw [hb] at hh; exact hh.elim
    | true =>
     rw [hb] at hh
     simp only [cond_true] at hh
     obtain ⟨hue,hsz,_⟩:=pr (hE et de hTe) hb
     obtain ⟨y,T,hh,hr⟩:=lM hlk hs hx hh
     obtain ⟨rows,hp,v,hv,hh⟩:=hh
     obtain ⟨us,F,hsrc,_,_⟩:=Src.of hr hp
     unfold BZ at hv
     split at hv
     ·rename_i l hl
      simp only [Cs] at hv
      subst hv
      rw [mH hl] at hsrc
      have hrun:=wu (P:=P) (xt:=xt) (dt:=dt) (cf (hE xt ds0 hT0) hk0) hue (mm hty hk1) hsrc
      exact cm hs (by simp [execOp,hrun]) (.lit _) rfl hh ha
     ·cases hv
   ·exact hh.elim
  ·split at hh
   ·rename_i t ht
    have hr:=bT hx ht
    obtain ⟨v,hv,hh⟩:=hh
    unfold pconv at hv
    split at hv <;> simp only [Cs,reduceCtorEq] at hv
    ·rename_i k k' n hk
     subst hv
     have he:=bj hr
     exact cm hs (by simp [execOp,he,convert,aE hds,aE (uu hty hk),Conv.intToInt]) (.lit _) rfl hh ha
    ·rename_i s hk
     subst hv
     have he:=bj hr
     exact cm hs (by simp [execOp,he,convert,aE hds,aE (mm hty hk)]) (.lit _) rfl hh ha
    ·rename_i k n hk
     subst hv
     have he:=bj hr
     exact cm hs (by simp [execOp,he,convert,aE hds,aE (mm hty hk),Conv.intToString]) (.lit _) rfl hh ha
   ·exact hh.elim
 ·exact hh.elim
theorem bC {agg:Bool} {cs:List CA} {v:AV} {u:Value} (h:cr agg cs=some v) (hc:kz w g look agg cs u):bA w g look v u:=by
 cases agg with
 | true =>
  have:v=.agg cs:=by cases cs <;> simp [cr] at h <;> exact h.symm
  subst this
  exact hc
 | false =>
  obtain ⟨c,rfl,h2,h3⟩:=hc
  simp only [cr,cond_false,Cs] at h
  subst h
  exact h2
theorem wW (hs:ai w0 I0 NoR g st a ov w) {j:Nat} {x:Operand} {e:Eff} (hh:(opL E id look (.extract x j) [st.ev x]).hits C e) (ha:e.app st dst=some st') :
  Good P w0 I0 ov ⟨dst,.extract x j,type,pos,after,guard⟩ st' a w Q:=by
 simp only [opL] at hh
 have hx:=hs.ev x
 split at hh
 ·rename_i l ht
  rw [ht] at hx
  obtain ⟨vs,hu,hl,hr⟩:=hx
  split at hh
  ·rename_i agg c hj
   split at hh
   ·rename_i v hv
    cases hh
    have hjl:j < vs.size:=by rw [hl]; exact (Cq.1 hj).1
    obtain ⟨z,hg⟩:∃ z,vs[j]? = some z:=⟨_,Array.getElem?_eq_getElem hjl⟩
    have hz:vs.getD j undef=z:=by rw [CI,hg]; rfl
    refine aH hs (u:=z) (by simp [execOp,hu,Instr.extract,hg]) ?_ ha
    have:=bC hv (hr j agg c hj)
    rwa [hz] at this
   ·exact hh.elim
  ·exact hh.elim
 ·exact hh.elim
theorem iC {look:Look} {i off len:Nat} {cs:List CA} {xs:List TV} (h:tQ look i off len=some (cs,xs)) :
  look i=some (.cells cs)/\xs.length=len/\(len=0\/off + len<=cs.length)/\∀ (m:Nat) (x:TV),xs[m]? = some x->cs[off + m]? = some (.t x):=by
 unfold tQ at h
 split at h
 ·rename_i cs0 hl
  split at h
  ·rename_i cs1 htk
   obtain ⟨k1,k2,k3⟩:=eG _ _ _ _ htk
   split at h
   ·rename_i xs0 hp
    simp only [Cs,Prod.mk.injEq] at h
    obtain ⟨rfl,rfl⟩:=h
    have he:=b9 hp
    have hlen:xs0.length=len:=by rw [<- k1,he,List.length_map]
    refine ⟨hl,hlen,k2,fun m x hm=>?_⟩
    have hml:=(Cq.1 hm).1
    rw [<- k3 m (by omega),he,Cx,hm]
    rfl
   ·cases h
  ·cases h
 ·cases h
theorem rr (n:Nat) (y:TV):∀ (xs:List TV) (j m:Nat),(gz n y j xs)[m]? = (xs[m]?).map fun x=>.t (Bf n (j + m) y x)
 | [],j,m=>by simp [gz]
 | x :: xs,j,0=>by simp [gz]
 | x :: xs,j,m + 1=>by
  simp only [gz,List.getElem?_cons_succ]
  rw [rr n y xs (j + 1) m,show j + 1 + m=j + (m + 1) by omega]
theorem wE (n:Nat) (y:TV) (xs:List TV) (j:Nat):(gz n y j xs).length=xs.length:=by
 induction xs generalizing j with
 | nil=>rfl
 | cons x xs ih=>simp [gz,ih]
theorem vS (hs:ai w0 I0 NoR g st a ov w) {x:Operand} {e:Eff} (hh:(opL E id look (.nilCheck x) [st.ev x]).hits C e) (ha:e.app st dst=some st') :
  Good P w0 I0 ov ⟨dst,.nilCheck x,type,pos,after,guard⟩ st' a w Q:=by
 simp only [opL] at hh
 have hx:=hs.ev x
 split at hh
 ·rename_i i off ht
  cases hh
  rw [ht] at hx
  have hx':=hx
  obtain ⟨cs,_,hv⟩:=hx
  exact aH hs (u:=a.eval x) (by simp [execOp,hv]) hx' ha
 ·rename_i y off ht
  cases hh
  rw [ht] at hx
  have hx':=hx
  obtain ⟨ad,cell,hv,_⟩:=hx
  exact aH hs (u:=a.eval x) (by simp [execOp,hv]) hx' ha
 ·rename_i i r p k j ht
  cases hh
  rw [ht] at hx
  have hx':=hx
  obtain ⟨xs,x',ad,l,cap,s,n,_,_,_,_,hv⟩:=hx
  exact aH hs (u:=a.eval x) (by simp [execOp,hv]) hx' ha
 ·rename_i i off len n ht
  cases hh
  rw [ht] at hx
  have hx':=hx
  obtain ⟨cs,_,_,hv⟩:=hx
  exact aH hs (u:=a.eval x) (by simp [execOp,hv]) hx' ha
 ·exact hh.elim
end
end Go.Ab
end

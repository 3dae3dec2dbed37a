import Derived.Test.YtaokcbfenabbgaaGreatDoorGM5
import Derived.Lib.AppendStr
import Derived.Laws.BytesString
set_option linter.all false
section
namespace Go.Ab
open Go.RowKit
section
variable {w0:Bs} {w w':World} {I0 R R':Nat->Prop} {g g':Gh} {st st':ASt} {a:Act} {ov:List Value}
theorem eH (st:ASt) (f:CA->CA):(st.au f).boxes.length=st.boxes.length:=by simp [ASt.au,lX]
theorem ak.eo (hs:ak w0 I0 R g st a ov w) {i:Nat} {cs cs':List CA} (hl:st.look i=some (.cells cs)) {vs':Array Value} {ty:TypeId} (hw:w0.Bel w') (hsz:w.heap.size<=w'.heap.size)
  (hk:∀ b,b≠g.β i->w'.heap[b]? = w.heap[b]?) (hh:w'.heap[g.β i]? = some (.cells vs' ty (0,0))) (hty:yJ w (g.β i) ty) (hcr:CR w g st.look cs' vs'.toList) :
  ak w0 I0 R g (st.ac i (some (.cells cs'))) a ov w':=by
 have hi:=fo hl
 have hlk:∀ j,(st.ac i (some (.cells cs'))).look j=if i=j then some (.cells cs') else st.look j:=fun j=>by
  rw [ag]
  by_cases h:i=j
  ·rw [if_pos ⟨h,hi⟩,if_pos h]
  ·rw [if_neg (fun h'=>h h'.1),if_neg h]
 have hfi:Foot g st.look i (g.β i):=.inl ⟨cs,hl,rfl⟩
 have m:Mv (fun _ _ _=>True) w g st.look w' g (st.ac i (some (.cells cs'))).look:=by
  refine ⟨fun b hb=>hk b (fun e=>(hs.foot i _ hfi).2.2.1 (e ▸ hb)),fun _ h=>h,fun j c hj=>?_,fun j c t hj ht=>?_,fun j r p xs x v nd hj hx _ hv hn=>?_,rfl⟩
  ·rw [hlk]
   by_cases h:i=j
   ·subst h; exact ⟨cs',by simp,rfl⟩
   ·exact ⟨c,by rw [if_neg h]; exact hj,rfl⟩
  ·obtain ⟨us,fr,h1⟩:=ht
   by_cases h:g.β j=g.β i
   ·obtain ⟨us',fr',h2⟩:=hty
    rw [h] at h1 ⊢
    rw [h2] at h1
    cases h1
    exact ⟨vs',_,hh⟩
   ·exact ⟨us,fr,by rw [hk _ h]; exact h1⟩
  ·have hne:i≠j:=fun e=>by subst e; rw [hl] at hj; cases hj
   have hr:r < xs.length:=(GD.1 hx).1
   refine ⟨xs,x,by rw [hlk,if_neg hne]; exact hj,hx,Node.mv (hs.trees j xs hj r x hx) (fun b hb=>hk b (fun e=>(hs.foot i _ hfi).2.2.1 (e ▸ hb))) (fun b hb=>hk b (fun e=>?_)) hn⟩
   subst e
   exact hne (hs.apart i j _ hfi (.inr ⟨xs,r,hj,hr,hb⟩))
 have hF:∀ b,Foot g (st.ac i (some (.cells cs'))).look i b->b=g.β i:=by
  rintro b (⟨c,h1,h2⟩ | ⟨xs,r,h1,_⟩)
  ·exact h2
  ·rw [hlk,if_pos rfl] at h1; cases h1
 have:=hs.change (b':=.cells cs') hi id g w' R hw hsz (fun b _ hb _=>hk b (fun e=>hb (e ▸ hfi))) (fun j _=>⟨rfl,rfl,rfl⟩) (fun _ h=>h) (fun _ h=>.inl h)
  (fun b hb1 hb2=>by rw [bO] at hb2; rw [hF b hb2] at hb1; exact (hs.foot i _ hfi).2.2.1 hb1)
  (fun c v hc=>by rw [bO]; exact bB.mv m (by cases c <;> trivial) hc)
  (fun b hb2=>by rw [bO] at hb2; rw [hF b hb2]; exact .inl hfi)
  (fun b hb1=>⟨.inl hb1,fun hb2=>by rw [bO] at hb2; rw [hF b hb2] at hb1; exact (hs.foot i _ hfi).2.2.2 hb1,(hs.res b hb1).2.2⟩)
  (fun c h=>by cases h; rw [bO]; exact ⟨vs',ty,hh,hcr.mv m⟩) (fun xs h=>by cases h)
 rwa [bO] at this
def Gh.cL (g:Gh) (I':Nat->Prop) (i r:Nat) (u:Value) (S:Nat->Prop):Gh :=
 ⟨I',fun j k=>if j=i/\k=r then u else g.ρ j k,g.β,fun j k=>if j=i/\k=r then S else g.φ j k,g.O⟩
theorem ak.fy (hs:ak w0 I0 R g st a ov w) {i r:Nat} {xs:List TV} {x:TV} (hl:st.look i=some (.tree xs)) (hx:xs[r]? = some x) (f:CA->CA) (ok:Way->Prop)
  (hf:∀ c,(f c=c/\c.okP (fun i' r' p=>i'=i->r'=r->ok p))\/f c=.junk) {w':World} {x':TV} {u':Value} {S' R' I':Nat->Prop} (hr:al w' I' x' u' S')
  (hnode:∀ (p:Way) (v:Value) (nd:Option (Nat × Nat)),ok p->mP v->Node w p x (g.ρ i r) v nd->Node w' p x' u' v nd)
  (hw:w0.Bel w') (hsz:w.heap.size<=w'.heap.size) (hmem:∀ b,b < w.heap.size->¬ g.φ i r b->¬ R b->w'.heap[b]? = w.heap[b]?) (hS:∀ b,S' b->g.φ i r b\/R b\/(w.heap.size<=b/\b < w'.heap.size))
  (hR:∀ b,R' b->(R b\/g.φ i r b)/\¬ S' b/\¬ I' b) (hI:∀ b,g.I b->I' b) (hIn:∀ b,I' b->g.I b\/g.φ i r b) (hIS:∀ b,I' b->¬ S' b) :
  ak w0 I0 R' (g.cL I' i r u' S') ((st.au f).ac i (some (.tree (ar xs r x')))) a ov w' /\
   ∀ c v,bB w g st.look c v->bB w' (g.cL I' i r u' S') ((st.au f).ac i (some (.tree (ar xs r x')))).look (f c) v:=by
 have hi:=fo hl
 have hrl:r < xs.length:=(GD.1 hx).1
 rw [ai]
 have hlk:∀ j,((st.au f).ac i (some (.tree (xs.set r x')))).look j=if i=j then some (.tree (xs.set r x')) else (st.look j).map (BC.bp f):=fun j=>by
  rw [ag,aH]
  by_cases h:i=j
  ·subst h
   rw [if_pos ⟨rfl,by rw [eH]; exact hi⟩,if_pos rfl]
  ·rw [if_neg (fun h'=>h h'.1),if_neg h]
 have hfr:∀ k b,k < xs.length->g.φ i k b->Foot g st.look i b:=fun k b hk hb=>.inr ⟨xs,k,hl,hk,hb⟩
 have hIk:∀ b,g.I b->w'.heap[b]? = w.heap[b]? := fun b hb=>hmem b (hs.lt b hb) (fun h=>(hs.foot i b (hfr r b hrl h)).2.2.1 hb) (fun h=>(hs.res b h).2.2 hb)
 have hothers:∀ (k:Nat) (y:TV),k≠r->xs[k]? = some y->∀ b,g.φ i k b->w'.heap[b]? = w.heap[b]? := fun k y hk hy b hb=>by
  have hkl:=(GD.1 hy).1
  exact hmem b (hs.foot i b (hfr k b hkl hb)).2.1 (fun h=>hk (hs.apartR i xs k r b hl hkl hrl hb h)) (hs.foot i b (hfr k b hkl hb)).2.2.2
 have m : ∀ c v, bB w g st.look c v → bB w' (g.cL I' i r u' S') ((st.au f).ac i (some (.tree (xs.set r x')))).look (f c) v := by
  have mv:Mv (fun i' r' p=>i'=i->r'=r->ok p) w g st.look w' (g.cL I' i r u' S') ((st.au f).ac i (some (.tree (xs.set r x')))).look:=by
   refine ⟨hIk,hI,fun j cs hj=>?_,fun j cs ty hj ht=>?_,fun j k p ys y v nd hj hy ho hv hn=>?_,rfl⟩
   ·have hne:i≠j:=fun e=>by subst e; rw [hl] at hj; cases hj
    exact ⟨mapC f cs,by rw [hlk,if_neg hne,hj]; rfl,rfl⟩
   ·obtain ⟨us,fr,h1⟩:=ht
    have hne:i≠j:=fun e=>by subst e; rw [hl] at hj; cases hj
    have hfj:Foot g st.look j (g.β j):=.inl ⟨cs,hj,rfl⟩
    exact ⟨us,fr,by rw [hmem _ (hs.foot j _ hfj).2.1 (fun h=>hne (hs.apart i j _ (hfr r _ hrl h) hfj)) (hs.foot j _ hfj).2.2.2]; exact h1⟩
   ·by_cases hij:j=i
    ·subst hij
     rw [hl] at hj
     cases hj
     by_cases hkr:k=r
     ·subst hkr
      rw [hx] at hy
      cases hy
      refine ⟨xs.set k x',x',by rw [hlk,if_pos rfl],by rw [List.getElem?_set_self hrl],?_⟩
      have:(g.cL I' j k u' S').ρ j k=u':=by simp [Gh.cL]
      rw [this]
      exact hnode p v nd (ho rfl rfl) hv hn
     ·refine ⟨xs.set r x',y,by rw [hlk,if_pos rfl],by rw [List.getElem?_set_ne (fun h=>hkr h.symm)]; exact hy,?_⟩
      have:(g.cL I' j r u' S').ρ j k=g.ρ j k:=by simp [Gh.cL,hkr]
      rw [this]
      exact Node.mv (hs.trees j xs hl k y hy) hIk (hothers k y hkr hy) hn
    ·have hne:i≠j:=fun e=>hij e.symm
     have hk:k < ys.length:=(GD.1 hy).1
     refine ⟨ys,y,by rw [hlk,if_neg hne,hj]; rfl,hy,?_⟩
     have:(g.cL I' i r u' S').ρ j k=g.ρ j k:=by simp [Gh.cL,hij]
     rw [this]
     refine Node.mv (hs.trees j ys hj k y hy) hIk (fun b hb=>?_) hn
     have hfj:Foot g st.look j b:=.inr ⟨ys,k,hj,hk,hb⟩
     exact hmem b (hs.foot j b hfj).2.1 (fun h=>hij (hs.apart i j b (hfr r b hrl h) hfj).symm) (hs.foot j b hfj).2.2.2
  intro c v hc
  rcases hf c with ⟨h1,h2⟩ | h1
  ·rw [h1]
   exact bB.mv mv h2 hc
  ·rw [h1]
   trivial
 refine ⟨?_,m⟩
 have hF:∀ b,Foot (g.cL I' i r u' S') ((st.au f).ac i (some (.tree (xs.set r x')))).look i b->S' b\/∃ k,k≠r/\k < xs.length/\g.φ i k b:=by
  rintro b (⟨c,h1,h2⟩ | ⟨ys,k,h1,h2,h3⟩)
  ·rw [hlk,if_pos rfl] at h1; cases h1
  ·rw [hlk,if_pos rfl] at h1
   cases h1
   rw [List.length_set] at h2
   by_cases hk:k=r
   ·subst hk
    simp only [Gh.cL,and_self,if_true] at h3
    exact .inl h3
   ·simp only [Gh.cL,hk,and_false,if_false] at h3
    exact .inr ⟨k,hk,h2,h3⟩
 refine hs.change (b':=.tree (xs.set r x')) hi f (g.cL I' i r u' S') w' R' hw hsz (fun b hb hn hr=>hmem b hb (fun h=>hn (hfr r b hrl h)) hr) (fun j hj=>⟨rfl,by funext k; simp [Gh.cL,hj],by funext k; simp [Gh.cL,hj]⟩) hI
  (fun b hb=>(hIn b hb).imp id (hfr r b hrl)) (fun b hb1 hb2=>?_) m (fun b hb2=>?_) (fun b hb1=>⟨(hR b hb1).1.imp id (hfr r b hrl),fun hb2=>?_,(hR b hb1).2.2⟩) (fun c h=>by cases h) (fun ys h=>?_)
 ·rcases hF b hb2 with h | ⟨k,h1,h2,h3⟩
  ·exact hIS b hb1 h
  ·rcases hIn b hb1 with h4 | h4
   ·exact (hs.foot i b (hfr k b h2 h3)).2.2.1 h4
   ·exact h1 (hs.apartR i xs k r b hl h2 hrl h3 h4)
 ·rcases hF b hb2 with h | ⟨k,h1,h2,h3⟩
  ·exact (hS b h).imp (hfr r b hrl) id
  ·exact .inl (hfr k b h2 h3)
 ·rcases hF b hb2 with h | ⟨k,h1,h2,h3⟩
  ·exact (hR b hb1).2.1 h
  ·rcases (hR b hb1).1 with h4 | h4
   ·exact (hs.foot i b (hfr k b h2 h3)).2.2.2 h4
   ·exact h1 (hs.apartR i xs k r b hl h2 hrl h3 h4)
 ·cases h
  constructor
  ·intro k y hy
   by_cases hk:k=r
   ·subst hk
    rw [List.getElem?_set_self hrl] at hy
    cases hy
    simp only [Gh.cL,and_self,if_true]
    exact hr
   ·rw [List.getElem?_set_ne (fun h=>hk h.symm)] at hy
    simp only [Gh.cL,hk,and_false,if_false]
    exact (hs.trees i xs hl k y hy).mv hIk hI (hothers k y hk hy) (fun _ h=>h)
  ·intro k k' b h1 h2 h3 h4
   rw [List.length_set] at h1 h2
   have cross:∀ k,k≠r->k < xs.length->g.φ i k b->S' b->False:=fun k hk hkl hb hsb=>by
    rcases hS b hsb with h | h | h
    ·exact hk (hs.apartR i xs k r b hl hkl hrl hb h)
    ·exact (hs.foot i b (hfr k b hkl hb)).2.2.2 h
    ·have:=(hs.foot i b (hfr k b hkl hb)).2.1; omega
   by_cases hk:k=r <;> by_cases hk':k'=r
   ·rw [hk,hk']
   ·subst hk
    simp only [Gh.cL,and_self,if_true,hk',and_false,if_false] at h3 h4
    exact (cross k' hk' h2 h4 h3).elim
   ·subst hk'
    simp only [Gh.cL,and_self,if_true,hk,and_false,if_false] at h3 h4
    exact (cross k hk h1 h3 h4).elim
   ·simp only [Gh.cL,hk,hk',and_false,if_false] at h3 h4
    exact hs.apartR i xs k k' b hl h1 h2 h3 h4
theorem fS (i r:Nat) (js:List Nat) (strict:Bool) (c:CA):(c.drop i r js strict=c/\c.okP (fun i' r' p=>i'=i->r'=r->leads strict js p=false))\/c.drop i r js strict=.junk:=by
 have key:∀ (i' r':Nat) (p:Way),eg i r js strict i' r' p=false->(i'=i->r'=r->leads strict js p=false):=by
  intro i' r' p h h1 h2
  subst h1 h2
  simpa [eg] using h
 cases c with
 | tptr i' r' p k j =>
  simp only [CA.drop]
  cases h:eg i r js strict i' r' p with
  | true=>exact .inr rfl
  | false=>exact .inl ⟨rfl,key i' r' p h⟩
 | sref i' r' p =>
  simp only [CA.drop]
  cases h:eg i r js strict i' r' p with
  | true=>exact .inr rfl
  | false=>exact .inl ⟨rfl,key i' r' p h⟩
 | swin i' r' p lo len =>
  simp only [CA.drop]
  cases h:eg i r js strict i' r' p with
  | true=>exact .inr rfl
  | false=>exact .inl ⟨rfl,key i' r' p h⟩
 | _=>exact .inl ⟨rfl,trivial⟩
theorem iv (p:Way):leads false [] p=true:=by cases p <;> rfl
theorem kL:∀ (p q:Way),leads false (bq p) (p ++ q)=true
 | [],q=>iv q
 | (k,j) :: p,q=>by simp [bq,leads,kL p q]
theorem oT:∀ (p q:Way),q≠[]->leads true (bq p) (p ++ q)=true
 | [],q,h=>by cases q with | nil=>exact absurd rfl h | cons a q=>rfl
 | (k,j) :: p,q,h=>by simp [bq,leads,oT p q h]
theorem rA:∀ (p q:Way) (k j:Nat),leads false (bq p ++ [j]) (p ++ (k,j) :: q)=true
 | [],q,k,j=>by cases q <;> simp [bq,leads]
 | (k',j') :: p,q,k,j=>by simp [bq,leads,rA p q k j]
theorem pj (f f':CA->CA) (l:List CA):mapC f' (mapC f l)=mapC (f' ∘ f) l:=by
 induction l with
 | nil=>rfl
 | cons c l ih=>simp [mapC,ih]
theorem Cn (f f':CA->CA) (l:List (Bool × List CA)):kt f' (kt f l)=kt (f' ∘ f) l:=by
 induction l with
 | nil=>rfl
 | cons c l ih=>obtain ⟨b,c⟩:=c; simp [kt,ih,pj]
theorem Cm (f f':CA->CA) (v:AV):(v.bQ f).bQ f'=v.bQ (f' ∘ f):=by
 cases v <;> simp [AV.bQ,pj,Cn]
theorem zu (f f':CA->CA) (l:List AV):ck f' (ck f l)=ck (f' ∘ f) l:=by
 induction l with
 | nil=>rfl
 | cons c l ih=>simp [ck,ih,Cm]
theorem zy (f f':CA->CA) (l:List (Option BC)):ek f' (ek f l)=ek (f' ∘ f) l:=by
 induction l with
 | nil=>rfl
 | cons c l ih =>
  cases c with
  | none=>simp [ek,ih]
  | some b=>cases b <;> simp [ek,ih,BC.bp,pj]
theorem Cj (st:ASt) (f f':CA->CA):(st.au f).au f'=st.au (f' ∘ f):=by
 simp [ASt.au,zu,zy]
theorem ak.take (hs:ak w0 I0 R g st a ov w) {i r:Nat} {xs:List TV} {x:TV} (hl:st.look i=some (.tree xs)) (hx:xs[r]? = some x) :
  ak w0 I0 (fun b=>R b\/g.φ i r b) (g.cL g.I i r (g.ρ i r) (fun _=>False)) ((st.au (CA.drop i r [] false)).ac i (some (.tree (ar xs r .hole)))) a ov w /\
  al w g.I x (g.ρ i r) (g.φ i r)/\(∀ b,g.φ i r b->¬ R b) /\
   ∀ c v,bB w g st.look c v->bB w (g.cL g.I i r (g.ρ i r) (fun _=>False)) ((st.au (CA.drop i r [] false)).ac i (some (.tree (ar xs r .hole)))).look (c.drop i r [] false) v:=by
 have hrl:r < xs.length:=(GD.1 hx).1
 have hfr:∀ b,g.φ i r b->Foot g st.look i b:=fun b hb=>.inr ⟨xs,r,hl,hrl,hb⟩
 obtain ⟨h1,h2⟩:=hs.fy hl hx (CA.drop i r [] false) (fun p=>leads false [] p=false) (fS i r [] false) (w':=w) (x':=.hole) (u':=g.ρ i r) (S':=fun _=>False) (R':=fun b=>R b\/g.φ i r b) (I':=g.I) (.fr (.hole _))
  (fun p v nd ho _ _=>by rw [iv] at ho; cases ho) hs.below (Nat.le_refl _) (fun _ _ _ _=>rfl) (fun _ h=>h.elim) (fun b hb=>⟨hb,id,hb.elim (fun h=>(hs.res b h).2.2) (fun h=>(hs.foot i b (hfr b h)).2.2.1)⟩) (fun _ h=>h) (fun _ h=>.inl h) (fun _ _ h=>h)
 exact ⟨h1,hs.trees i xs hl r x hx,fun b hb=>(hs.foot i b (hfr b hb)).2.2.2,h2⟩
theorem ak.freeze (hs:ak w0 I0 R g st a ov w) {i r:Nat} {xs:List TV} {x:TV} (hl:st.look i=some (.tree xs)) (hx:xs[r]? = some x) :
  Rep w (fun b=>g.I b\/g.φ i r b) (frz x) (g.ρ i r) /\
   ak w0 I0 R (g.cL (fun b=>g.I b\/g.φ i r b) i r (g.ρ i r) (fun _=>False)) (st.ac i (some (.tree (ar xs r (frz x))))) a ov w /\
   ∀ c v,bB w g st.look c v->bB w (g.cL (fun b=>g.I b\/g.φ i r b) i r (g.ρ i r) (fun _=>False)) (st.ac i (some (.tree (ar xs r (frz x))))).look c v:=by
 have hrl:r < xs.length:=(GD.1 hx).1
 have hfr:∀ b,g.φ i r b->Foot g st.look i b:=fun b hb=>.inr ⟨xs,r,hl,hrl,hb⟩
 have hrep:=(hs.trees i xs hl r x hx).frz (I':=fun b=>g.I b\/g.φ i r b) (fun _ h=>.inl h) (fun _ h=>.inr h)
 have:=hs.fy hl hx id (fun _=>True) (fun c=>.inl ⟨rfl,by cases c <;> first | trivial | exact fun _ _=>trivial⟩) (w':=w) (R':=R) (S':=fun _=>False) (.fr hrep) (fun q v' nd _ _ hn=>Node.frz hn) hs.below (Nat.le_refl _) (fun _ _ _ _=>rfl) (fun b hb=>hb.elim)
  (fun b hb=>⟨.inl hb,fun h=>h,fun h=>h.elim (hs.res b hb).2.2 (fun h=>(hs.foot i b (hfr b h)).2.2.2 hb)⟩) (fun _ h=>.inl h) (fun b hb=>hb)
  (fun b hb h=>h)
 rw [bO] at this
 exact ⟨hrep,this.1,fun c v hc=>this.2 c v hc⟩
theorem ak.cool (hs:ak w0 I0 R g st a ov w) {i r:Nat} {xs:List TV} {x:TV} (hl:st.look i=some (.tree xs)) (hx:xs[r]? = some x) :
  ∃ g',ak w0 I0 R g' (st.ac i (some (.tree (ar xs r (lx x))))) a ov w:=by
 have hrl:r < xs.length:=(GD.1 hx).1
 have hfr:∀ b,g.φ i r b->Foot g st.look i b:=fun b hb=>.inr ⟨xs,r,hl,hrl,hb⟩
 obtain ⟨S',hS',hrep⟩:=(hs.trees i xs hl r x hx).cool
 have:=hs.fy hl hx id (fun _=>True) (fun c=>.inl ⟨rfl,by cases c <;> first | trivial | exact fun _ _=>trivial⟩) (w':=w) (R':=R) (S':=S') hrep (fun q v' nd _ _ hn=>Node.cool hn) hs.below (Nat.le_refl _) (fun _ _ _ _=>rfl) (fun b hb=>.inl (hS' b hb))
  (fun b hb=>⟨.inl hb,fun h=>(hs.foot i b (hfr b (hS' b h))).2.2.2 hb,fun h=>h.elim (hs.res b hb).2.2 (fun h=>(hs.foot i b (hfr b h.1)).2.2.2 hb)⟩) (fun _ h=>.inl h) (fun b hb=>hb.elim .inl (fun h=>.inr h.1))
  (fun b hb h=>hb.elim (hs.foot i b (hfr b (hS' b h))).2.2.1 (fun hb=>hb.2 h))
 rw [bO] at this
 exact ⟨_,this.1⟩
end
end Go.Ab
end
section
namespace Go.Ab
open Go.RowKit
def pw:TypeDesc->Kd
 | .bool=>.bool
 | .int k=>.int k
 | .string=>.str
 | .slice e=>.slice e
 | .struct _=>.struct
 | .array n e=>.arr n e
 | .pointer _=>.ptr
 | _=>.other
def nF:TypeDesc->List (Nat × TypeId)
 | .struct fs=>fs.toList.map fun f=>(f.offset,f.type)
 | _=>[]
def tyOf (P : Program) (t : TypeId) : Option TyD :=
 match P.info? t,P.underlying t with
 | some i,some desc=>match i.zero with
  | some z => bif z.cells.size.beq i.size && z.cells.all Value.oneCell' && ((pw desc).isAgg || i.size.beq 1) && (nF desc).all (fun f => (P.info? f.2).isSome)
    then some ⟨i.size,i.bytes,pw desc,z.cells.toList,nF desc⟩ else none
  | none=>none
 | _,_=>none
structure aY (P:Program) (t:TypeId) (d:TyD):Prop where
 info:∃ i z,P.info? t=some i/\i.size=d.size/\i.bytes=d.bytes/\i.zero=some z/\z.cells.toList=d.zero
 und:∃ desc,P.underlying t=some desc/\pw desc=d.kd/\nF desc=d.fields
 zlen:d.zero.length=d.size
 zone:∀ v ∈ d.zero,v.oneCell'=true
 one:d.kd.isAgg=false->d.size=1
 flds:∀ f ∈ d.fields,(P.info? f.2).isSome=true
theorem aY.of {P:Program} {t:TypeId} {d:TyD} (h:tyOf P t=some d):aY P t d:=by
 unfold tyOf at h
 cases hi:P.info? t with
 | none=>simp [hi] at h
 | some i =>
  cases hu:P.underlying t with
  | none=>simp [hi,hu] at h
  | some desc =>
   cases hz:i.zero with
   | none=>simp [hi,hu,hz] at h
   | some z =>
    simp only [hi,hu,hz] at h
    cases hc:(z.cells.size.beq i.size && z.cells.all Value.oneCell' && ((pw desc).isAgg || i.size.beq 1) && (nF desc).all (fun f=>(P.info? f.2).isSome)) with
    | false=>simp [hc] at h
    | true =>
     simp only [hc,cond_true,GF] at h
     simp only [GG,aw,Bool.or_eq_true] at hc
     obtain ⟨⟨⟨h1,h2⟩,h3⟩,h4⟩:=hc
     subst h
     refine ⟨⟨i,z,hi,rfl,rfl,hz,rfl⟩,⟨desc,hu,rfl,rfl⟩,by simpa using h1,fun v hv=>?_,fun hk=>?_,fun f hf=>?_⟩
     ·rw [Array.all_eq_true_iff_forall_mem] at h2
      exact h2 v (by simpa using hv)
     ·rcases h3 with h3 | h3
      ·simp [hk] at h3
      ·exact h3
     ·rw [List.all_eq_true] at h4
      exact h4 f hf
abbrev Cal:=FuncId->List TV->TV->Prop
def Prg.hits {R:Type} (C:Cal):Prg R->R->Prop
 | .fail,_=>False
 | .ret e',e=>e'=e
 | .tv p k,e=>∃ v,p=some v/\(k v).hits C e
 | .tvs p k,e=>∃ v,p=some v/\(k v).hits C e
 | .rws p k,e=>∃ v,p=some v/\(k v).hits C e
 | .nat p k,e=>∃ v,p=some v/\(k v).hits C e
 | .chk b k,e=>b=true/\k.hits C e
 | .ite b t f,e=>∃ v,b=some v/\((v=true/\t.hits C e)\/(v=false/\f.hits C e))
 | .call f xs k,e=>∃ v,C f xs v/\(k v).hits C e
 | .jmp _ _,_=>False
section
variable {P:Program} {w:World}
theorem aO {t:TypeId} {d:TypeDesc} (h:P.underlying t=some d):(underlying t).run P w=.ok d w:=by simp [underlying,h]
theorem b7 {t:TypeId} {d:TyD} (h:aY P t d):(sizeOf t).run P w=.ok d.size w:=by
 obtain ⟨i,z,hi,hs,_⟩:=h.info
 simp [sizeOf,typeInfo,hi,hs]
theorem rN {t:TypeId} {d:TyD} (h:aY P t d):∃ z,(zeroValue t).run P w=.ok z w/\z.cells.toList=d.zero:=by
 obtain ⟨i,z,hi,_,_,hz,hc⟩:=h.info
 exact ⟨z,by simp [zeroValue,typeInfo,hi,hz],hc⟩
theorem ip {t:TypeId} {d:TyD} (h:aY P t d):(isAgg t).run P w=.ok d.kd.isAgg w:=by
 obtain ⟨desc,hu,hk,_⟩:=h.und
 rw [<- hk]
 cases desc <;> simp [isAgg,underlying,hu,pw,Kd.isAgg]
end
section
variable {P:Program} {E:Env} {C:Cal} {w0:Bs} {w w':World} {I0 I R:Nat->Prop} {g g':Gh} {st st':ASt} {a:Act} {ov:List Value} {look:Look} {o:Oper} {Q:Exit->Act->World->Prop} {id:Nat}
theorem iN {next:Act->World->Prop} {v:Value} (h:(execOp a.eval o).run P w=.ok (.value v) w') (hn:next (a.put o.dst v) w'):o.wp P a w next Q:=by
 unfold Oper.wp; rw [h]; exact hn
theorem nV {next:Act->World->Prop} (h:(execOp a.eval o).run P w=.ok .skip w') (hn:next (a.put o.dst undef) w'):o.wp P a w next Q:=by
 unfold Oper.wp; rw [h]; exact hn
abbrev NoR:Nat->Prop:=fun _=>False
abbrev Good (P:Program) (w0:Bs) (I0:Nat->Prop) (ov:List Value) (o:Oper) (st':ASt) (a:Act) (w:World) (Q:Exit->Act->World->Prop):Prop:=o.wp P a w (fun a' w'=>Sim w0 I0 st' a' ov w') Q
abbrev xZ (P:Program) (w0:Bs) (I0:Nat->Prop) (ov:List Value) (o:Oper) (st':ASt) (a:Act) (w:World):Prop:=∃ u,(execOp a.eval o).run P w=.ok (.value u) w/\Sim w0 I0 st' (a.put o.dst u) ov w
theorem tP (hs:ak w0 I0 NoR g st a ov w) {v:AV} {u:Value} (hrun:(execOp a.eval o).run P w=.ok (.value u) w) (hv:bE w g st.look v u)
  (ha:(Eff.val v).app st o.dst=some st'):xZ P w0 I0 ov o st' a w:=by
 simp only [Eff.app,GF] at ha
 subst ha
 exact ⟨u,hrun,⟨g,hs.put o.dst hv⟩⟩
theorem AB (hs:ak w0 I0 NoR g st a ov w) {x:TV} {u:Value} {e:Eff} (hrun:(execOp a.eval o).run P w=.ok (.value u) w) (hx:Rep w g.I x u) (h1:u.oneCell'=true)
  (hh:(vt x).hits C e) (ha:e.app st o.dst=some st'):xZ P w0 I0 ov o st' a w:=by
 have he:e=.val (.one (.t x)):=hh.symm
 rw [he] at ha
 exact tP hs hrun (v:=.one (.t x)) ⟨hx,h1⟩ ha
theorem aL (hs:ak w0 I0 NoR g st a ov w) {v:AV} {u:Value} (hrun:(execOp a.eval o).run P w=.ok (.value u) w) (hv:bE w g st.look v u)
  (ha:(Eff.val v).app st o.dst=some st'):Good P w0 I0 ov o st' a w Q:=by
 simp only [Eff.app,GF] at ha
 subst ha
 exact iN hrun ⟨g,hs.put o.dst hv⟩
theorem AX {x:TV} {e:Eff} (h:(vt x).hits C e):e=.val (.one (.t x)):=h.symm
theorem cr (hs:ak w0 I0 NoR g st a ov w) {x:TV} {u:Value} {e:Eff} (hrun:(execOp a.eval o).run P w=.ok (.value u) w) (hx:Rep w g.I x u) (h1:u.oneCell'=true)
  (hh:(vt x).hits C e) (ha:e.app st o.dst=some st'):Good P w0 I0 ov o st' a w Q:=by
 rw [AX hh] at ha
 exact aL hs hrun (v:=.one (.t x)) ⟨hx,h1⟩ ha
theorem ci {x:AV} {v:Value} {t:TV} (h:bE w g look x v) (ht:x.tv? = some t):Rep w g.I t v:=by
 cases x with
 | one c=>cases c <;> simp [AV.tv?] at ht; subst ht; exact h.1
 | agg cs=>simp [AV.tv?] at ht
 | tv x=>simp [AV.tv?] at ht; subst ht; exact h
 | bl b=>simp [AV.tv?] at ht; subst ht; have:v=.bool b:=h; subst this; exact .lit _
 | tups l=>simp [AV.tv?] at ht
 | clo _ l=>simp [AV.tv?] at ht
theorem aC {i r:Nat} {x:TV} (h:bX look i r=some x):∃ xs,look i=some (.tree xs)/\xs[r]? = some x:=by
 unfold bX at h
 split at h
 ·rename_i xs hl
  cases hb:r.blt xs.length with
  | false=>simp [hb] at h
  | true =>
   simp only [hb,cond_true,GF] at h
   have hr:r < xs.length:=by simpa using hb
   refine ⟨xs,hl,?_⟩
   rw [bc,GE hr] at h
   rw [GE hr,<- h]
   rfl
 ·cases h
theorem dp {S:Type} {p:Way} {x:TV} {k:TV->Prg S} {e:S} (h:(qR p x k).hits C e):∃ y,bZ p x=some y/\(k y).hits C e:=by
 unfold qR at h
 split at h
 ·exact ⟨x,rfl,h⟩
 ·exact h
theorem Cr {S:Type} {p:Way} {x y:TV} {k:TV->Prg S} {e:S} (h:(setO p x y k).hits C e):∃ z,gT p x y=some z/\(k z).hits C e:=by
 unfold setO at h
 split at h
 ·exact ⟨y,rfl,h⟩
 ·exact h
theorem ak.at (hs:ak w0 I0 R g st a ov w) {i r:Nat} {xs:List TV} {x y:TV} {p:Way} {v:Value} {nd:Option (Nat × Nat)} (hl:st.look i=some (.tree xs)) (hx:xs[r]? = some x)
  (hn:Node w p x (g.ρ i r) v nd) (hy:bZ p x=some y):nd=y.nd/\∃ S',al w g.I y v S'/\(∀ b,S' b->g.φ i r b):=by
 obtain ⟨v',S',n1,n2,n3,_⟩:=(hs.trees i xs hl r x hx).get hy
 obtain ⟨h1,h2⟩:=Node.unique hn n1
 subst h1
 exact ⟨h2,S',n2,n3⟩
theorem wJ {x:TV} {s n:Nat} (h:x.nd=some (s,n)):∃ o xs,x=.sl o s xs/\n=xs.length:=by
 cases x with
 | sl o s' xs=>simp only [TV.nd,GF,Prod.mk.injEq] at h; obtain ⟨rfl,rfl⟩:=h; exact ⟨o,xs,rfl,rfl⟩
 | _=>simp [TV.nd] at h
theorem df {x y:TV} {lo len:Nat} {u v:Value} {S:Nat->Prop} {nd:Option (Nat × Nat)} (hr:al w I x u S) (hnd:nd=x.nd) (hw:vp nd lo len u v) (hy:ib lo len x=some y):al w I y v S:=by
 have:=hr.win hy
 subst hnd
 cases x with
 | sl o s xs =>
  simp only [TV.nd,vp] at hw
  rw [hw.2]
  exact this
 | lit z =>
  simp only [TV.nd,vp] at hw
  obtain ⟨_,_,h1,h2⟩:=hw
  subst h1 h2
  exact this
 | _=>simp [ib] at hy
theorem uV {S:Type} (hlk:∀ i b,look i=some b->st.look i=some b) (hs:ak w0 I0 R g st a ov w) {c:CA} {v:Value} {k:TV->Prg S} {e:S} (hc:bB w g st.look c v) (h:(iE look c k).hits C e) :
  ∃ x T,(k x).hits C e/\al w g.I x v T:=by
 unfold iE at h
 split at h
 ·exact ⟨_,fun _=>False,h,.fr hc.1⟩
 ·split at h
  ·rename_i x hx
   obtain ⟨xs,h1,h2⟩:=aC hx
   obtain ⟨y,h3,h4⟩:=dp h
   obtain ⟨xs',x',nd,g1,g2,g3,g4⟩:=hc
   rw [hlk _ _ h1] at g1
   cases g1
   rw [h2] at g2
   cases g2
   obtain ⟨_,S',r1,_⟩:=hs.at (hlk _ _ h1) h2 g3 h3
   exact ⟨y,S',h4,r1⟩
  ·exact h.elim
 ·split at h
  ·rename_i x hx
   obtain ⟨xs,h1,h2⟩:=aC hx
   obtain ⟨y,h3,z,h4,h5⟩:=dp h
   obtain ⟨xs',x',u,nd,g1,g2,g3,g4,g5⟩:=hc
   rw [hlk _ _ h1] at g1
   cases g1
   rw [h2] at g2
   cases g2
   obtain ⟨e1,S',r1,_⟩:=hs.at (hlk _ _ h1) h2 g3 h3
   exact ⟨z,S',h5,df r1 e1 g5 h4⟩
  ·exact h.elim
 ·exact h.elim
theorem pF {S:Type} (hlk:∀ i b,look i=some b->st.look i=some b) (hs:ak w0 I0 R g st a ov w) {x:AV} {v:Value} {k:TV->Prg S} {e:S} (hx:bE w g st.look x v) (h:(se look x k).hits C e) :
  ∃ y T,(k y).hits C e/\al w g.I y v T:=by
 unfold se at h
 split at h
 ·exact uV hlk hs hx h
 ·exact ⟨_,fun _=>False,h,.fr hx⟩
 ·have:v=.bool _:=hx
  subst this
  exact ⟨_,fun _=>False,h,.fr (.lit _)⟩
 ·exact h.elim
theorem wL {op:BinOp} {k:IntKind} {x y:Int} {r:TV} (h:fx op k x y=some r) (t:TypeId) :
    ∃ u,r=.lit u/\u.oneCell'=true/\(binOp op t (.int k x) (.int k y)).run P w=.ok u w:=by
  unfold fx at h
  cases op <;> simp only [GF, reduceCtorEq] at h <;>
    first
      | (subst h; exact ⟨_,rfl,rfl,by simp [binOp,Op.intArith,Op.intCmp,Op.intBits]⟩)
      | (split at h
         · cases h
         · rename_i hb
           simp only [GF] at h
           subst h
           exact ⟨_,rfl,rfl,by simp [binOp,Op.intDiv,hb]⟩)
theorem vY {op:BinOp} {x y:ByteArray} {r:TV} (h:kn op x y=some r) (t:TypeId) :
    ∃ u,r=.lit u/\u.oneCell'=true/\(binOp op t (.string x) (.string y)).run P w=.ok u w:=by
  unfold kn at h
  cases op <;> simp only [GF, reduceCtorEq] at h <;>
    first
      | (subst h; exact ⟨_,rfl,rfl,by simp [binOp,Op.stringOp]⟩)
      | (split at h
         · cases h
         · rename_i hb
           simp only [GF] at h
           subst h
           exact ⟨_,rfl,rfl,by simp only [binOp,Op.stringOp]; rw [if_neg hb]; rfl⟩)
theorem Ft {t:TypeId} {d:TyD} (h:aY P t d) (hk:d.kd=.bool):P.underlying t=some .bool:=by
 obtain ⟨desc,hu,hd,_⟩:=h.und
 rw [hk] at hd
 cases desc <;> simp [pw] at hd
 exact hu
theorem dm {t e:TypeId} {d:TyD} (h:aY P t d) (hk:d.kd=.slice e):P.underlying t=some (.slice e):=by
 obtain ⟨desc,hu,hd,_⟩:=h.und
 rw [hk] at hd
 cases desc <;> simp [pw] at hd
 subst hd
 exact hu
theorem uf {t:TypeId} {d:TyD} (h:aY P t d) (hk:d.kd=.str):P.underlying t=some .string:=by
 obtain ⟨desc,hu,hd,_⟩:=h.und
 rw [hk] at hd
 cases desc <;> simp [pw] at hd
 exact hu
theorem zl {t:TypeId} {k:IntKind} {d:TyD} (h:aY P t d) (hk:d.kd=.int k):P.underlying t=some (.int k):=by
 obtain ⟨desc,hu,hd,_⟩:=h.und
 rw [hk] at hd
 cases desc <;> simp [pw] at hd
 subst hd
 exact hu
theorem sR {t e:TypeId} {n:Nat} {d:TyD} (h:aY P t d) (hk:d.kd=.arr n e):P.underlying t=some (.array n e):=by
 obtain ⟨desc,hu,hd,_⟩:=h.und
 rw [hk] at hd
 cases desc <;> simp [pw] at hd
 obtain ⟨rfl,rfl⟩:=hd
 exact hu
theorem vg {t:TypeId} {d:TyD} (h:aY P t d) (hk:d.kd=.struct):∃ fs,P.underlying t=some (.struct fs)/\d.fields=fs.toList.map fun f=>(f.offset,f.type):=by
 obtain ⟨desc,hu,hd,hf⟩:=h.und
 rw [hk] at hd
 cases desc <;> simp [pw] at hd
 exact ⟨_,hu,hf.symm⟩
theorem BH {t:TypeId} (h:P.underlying t=some .bool) (n:Nat) (x y:Bool):(Op.equalIn (n + 1) t (.bool x) (.bool y)).run P w=.ok (x == y) w:=by
 simp only [Op.equalIn]; simp [aO h]
theorem EI {t e:TypeId} (h:P.underlying t=some (.slice e)) (n:Nat) (l1 c1 l2 c2:Nat):(Op.equalIn (n + 1) t (.slice none l1 c1) (.slice none l2 c2)).run P w=.ok true w:=by
 simp only [Op.equalIn]; simp [aO h]
theorem Bm {t e:TypeId} (h:P.underlying t=some (.slice e)) (n:Nat) (ad:Addr) (l1 c1 l2 c2:Nat):(Op.equalIn (n + 1) t (.slice (some ad) l1 c1) (.slice none l2 c2)).run P w=.ok false w:=by
 simp only [Op.equalIn]; simp [aO h]
theorem m7 {op:BinOp} {b:Bool} {r:TV} (h:yT op b=some r) {t:TypeId} {x y:Value} (hx:∀ k n,x≠.int k n) (hf:∀ k n,x≠.float k n) (hc:∀ k m n,x≠.complex k m n) (hst:∀ s,x≠.string s)
  (he:(Op.equal t x y).run P w=.ok b w):∃ u,r=.lit u/\u.oneCell'=true/\(binOp op t x y).run P w=.ok u w:=by
 unfold yT at h
 cases op <;> simp only [GF,reduceCtorEq] at h <;> subst h <;> refine ⟨_,rfl,rfl,?_⟩ <;>
  (cases x <;> first | exact absurd rfl (hx _ _) | exact absurd rfl (hf _ _) | exact absurd rfl (hc _ _ _) | exact absurd rfl (hst _) | (simp only [binOp]; simp [he]))
theorem zh {op:BinOp} {x y r:TV} {u v:Value} {t:TypeId} {d:TyD} {S T:Nat->Prop} (ht:aY P t d) (h:pbin d.kd op x y=some r) (hx:al w I x u S) (hy:al w I y v T) (ox oy:Operand) :
  ∃ z,r=.lit z/\z.oneCell'=true/\(eqGuard op t ox oy u v).run P w=.ok () w/\(binOp op t u v).run P w=.ok z w:=by
 unfold pbin at h
 split at h
 ·rename_i k0 k a k' b hk
  have:=bi hx; subst this
  have:=bi hy; subst this
  split at h
  ·rename_i hkk
   subst hkk
   obtain ⟨z,rfl,h1,hr⟩:=wL (P:=P) (w:=w) h t
   exact ⟨z,rfl,h1,by simp only [eqGuard]; split <;> simp,hr⟩
  ·cases h
 ·rename_i a b hk
  have:=bi hx; subst this
  have:=bi hy; subst this
  obtain ⟨z,rfl,h1,hr⟩:=m7 (P:=P) (w:=w) (t:=t) (x:=.bool a) (y:=.bool b) h (by simp) (by simp) (by simp) (by simp) (BH (Ft ht hk) 9999 a b)
  exact ⟨z,rfl,h1,by simp only [eqGuard]; split <;> simp,hr⟩
 ·rename_i a b hk
  have:=bi hx; subst this
  have:=bi hy; subst this
  obtain ⟨z,rfl,h1,hr⟩:=vY (P:=P) (w:=w) h t
  exact ⟨z,rfl,h1,by simp only [eqGuard]; split <;> simp,hr⟩
 ·rename_i e l1 c1 l2 c2 hk
  have:=bi hx; subst this
  have:=bi hy; subst this
  obtain ⟨z,rfl,h1,hr⟩:=m7 (P:=P) (w:=w) (t:=t) (x:=.slice none l1 c1) (y:=.slice none l2 c2) h (by simp) (by simp) (by simp) (by simp) (EI (dm ht hk) 9999 l1 c1 l2 c2)
  exact ⟨z,rfl,h1,by simp only [eqGuard]; split <;> simp,hr⟩
 ·rename_i e o s xs l2 c2 hk
  obtain ⟨ad,cap,rfl⟩:=rt hx
  have:=bi hy; subst this
  obtain ⟨z,rfl,h1,hr⟩:=m7 (P:=P) (w:=w) (t:=t) (x:=.slice (some ad) xs.length cap) (y:=.slice none l2 c2) h (by simp) (by simp) (by simp) (by simp) (Bm (dm ht hk) 9999 ad xs.length cap l2 c2)
  exact ⟨z,rfl,h1,by simp only [eqGuard]; split <;> simp,hr⟩
 ·cases h
theorem wZ {y:TV} {v:Value} {S:Nat->Prop} (h:kC y=true) (hy:al w I y v S):v=ah:=by
 unfold kC at h
 split at h
 ·exact bi hy
 ·cases h
variable {dst:Option Tmp} {type:TypeId} {pos:String} {after:Array Edge} {guard:Option (Nat × Bool)}
theorem FS (hs:ak w0 I0 NoR g st a ov w) {x:Operand} {e:Eff} (hh:(Prg.ret (Eff.val (st.ev x))).hits C e) (ha:e.app st dst=some st'):Good P w0 I0 ov ⟨dst,.move x,type,pos,after,guard⟩ st' a w Q:=by
 cases hh
 exact aL hs (u:=a.eval x) (by simp [execOp]) (hs.ev x) ha
theorem Cc (hs:ak w0 I0 NoR g st a ov w) {x:Operand} {e:Eff} (hh:(Prg.ret (Eff.val (st.ev x))).hits C e) (ha:e.app st dst=some st'):Good P w0 I0 ov ⟨dst,.assign x,type,pos,after,guard⟩ st' a w Q:=by
 cases hh
 exact aL hs (u:=a.eval x) (by simp [execOp]) (hs.ev x) ha
theorem xr (hs:ak w0 I0 NoR g st a ov w) {c x y:Operand} {v:TV} {e:Eff} (hh:(Prg.ite (asBool v) (Prg.ret (Eff.val (st.ev x))) (Prg.ret (Eff.val (st.ev y)))).hits C e) (ha:e.app st dst=some st') (hc:Rep w g.I v (a.eval c)) :
  Good P w0 I0 ov ⟨dst,.pick c x y,type,pos,after,guard⟩ st' a w Q:=by
 obtain ⟨b,hb,hh⟩:=hh
 have hv:v=.lit (.bool b):=by
  unfold asBool at hb
  split at hb
  ·cases hb; rfl
  ·cases hb
 subst hv
 have hcv:a.eval c=.bool b:=by
  generalize a.eval c=u at hc
  cases hc; rfl
 rcases hh with ⟨rfl,hh⟩ | ⟨rfl,hh⟩
 ·have he:e=Eff.val (st.ev x):=by cases hh; rfl
  subst he
  exact aL hs (u:=a.eval x) (by simp [execOp,hcv,Go.asBool]) (hs.ev x) ha
 ·have he:e=Eff.val (st.ev y):=by cases hh; rfl
  subst he
  exact aL hs (u:=a.eval y) (by simp [execOp,hcv,Go.asBool]) (hs.ev y) ha
theorem Fo (hs:ak w0 I0 NoR g st a ov w) {c x y:Operand} {e:Eff} (hh:(opL E id look (.pick c x y) [st.ev c,st.ev x,st.ev y]).hits C e) (ha:e.app st dst=some st') :
  Good P w0 I0 ov ⟨dst,.pick c x y,type,pos,after,guard⟩ st' a w Q:=by
 simp only [opL] at hh
 have hc:=hs.ev c
 split at hh
 ·rename_i b hb
  rw [hb] at hc
  have hcv:a.eval c=.bool b:=hc
  cases hh
  cases b with
  | true=>exact aL hs (u:=a.eval x) (by simp [execOp,hcv,Go.asBool]) (by simpa using hs.ev x) ha
  | false=>exact aL hs (u:=a.eval y) (by simp [execOp,hcv,Go.asBool]) (by simpa using hs.ev y) ha
 ·rename_i v hb
  rw [hb] at hc
  exact xr hs hh ha hc
 ·rename_i v hb
  rw [hb] at hc
  exact xr hs hh ha hc.1
 ·exact hh.elim
theorem d6:∀ {cs:List CA} {xs:List TV},fj cs=some xs->cs=xs.map CA.t
 | [],xs,h=>by simp only [fj,GF] at h; subst h; rfl
 | c :: cs, xs, h => by
  cases c <;> simp only [fj,reduceCtorEq] at h
  split at h
  ·rename_i r hr
   simp only [GF] at h
   subst h
   rw [d6 hr]
   rfl
  ·cases h
theorem op_un (hs:ak w0 I0 NoR g st a ov w) {op:UnOp} {xt:TypeId} {x:Operand} {e:Eff} (hh:(opL E id look (.unOp op xt x) [st.ev x]).hits C e) (ha:e.app st dst=some st') :
  Good P w0 I0 ov ⟨dst,.unOp op xt x,type,pos,after,guard⟩ st' a w Q:=by
 simp only [opL] at hh
 have hx:=hs.ev x
 split at hh
 ·rename_i b hb
  rw [hb] at hx
  have hv:a.eval x=.bool b:=hx
  cases hh
  exact aL hs (v:=.bl !b) (u:=.bool !b) (by simp [execOp,hv,Op.unary]) rfl ha
 ·split at hh
  ·rename_i t ht
   have hr:=ci hx ht
   obtain ⟨v,hv,hh⟩:=hh
   unfold pun at hv
   split at hv <;> simp only [GF,reduceCtorEq] at hv
   ·subst hv
    have he:=aN hr
    exact cr hs (by simp [execOp,he,Op.unary]) (.lit _) rfl hh ha
   ·subst hv
    have he:=aN hr
    exact cr hs (by simp [execOp,he,Op.unary,Op.intArith]) (.lit _) rfl hh ha
  ·exact hh.elim
theorem zN (hE:∀ t d,E.T t=some d->aY P t d) (hlk:∀ i b,look i=some b->st.look i=some b) (hs:ak w0 I0 NoR g st a ov w) {xt dt:TypeId} {x:Operand} {e:Eff}
  (hh:(opL E id look (.convert xt dt x) [st.ev x]).hits C e) (ha:e.app st dst=some st'):Good P w0 I0 ov ⟨dst,.convert xt dt x,type,pos,after,guard⟩ st' a w Q:=by
 simp only [opL] at hh
 have hx:=hs.ev x
 split at hh
 ·rename_i ds0 d hT0 hT
  obtain ⟨ds,hds,_⟩:=(hE xt ds0 hT0).und
  have hty:=hE dt d hT
  unfold AL at hh
  split at hh
  ·exact hh.elim
  ·split at hh
   ·rename_i t ht
    have hr:=ci hx ht
    obtain ⟨v,hv,hh⟩:=hh
    unfold pconv at hv
    split at hv <;> simp only [GF,reduceCtorEq] at hv
    ·rename_i k k' n hk
     subst hv
     have he:=aN hr
     exact cr hs (by simp [execOp,he,convert,aO hds,aO (zl hty hk),Conv.intToInt]) (.lit _) rfl hh ha
    ·rename_i s hk
     subst hv
     have he:=aN hr
     exact cr hs (by simp [execOp,he,convert,aO hds,aO (uf hty hk)]) (.lit _) rfl hh ha
    ·rename_i k n hk
     subst hv
     have he:=aN hr
     exact cr hs (by simp [execOp,he,convert,aO hds,aO (uf hty hk),Conv.intToString]) (.lit _) rfl hh ha
   ·exact hh.elim
 ·exact hh.elim
theorem bH {agg:Bool} {cs:List CA} {v:AV} {u:Value} (h:cA agg cs=some v) (hc:lC w g look agg cs u):bE w g look v u:=by
 cases agg with
 | true =>
  have:v=.agg cs:=by cases cs <;> simp [cA] at h <;> exact h.symm
  subst this
  exact hc
 | false =>
  obtain ⟨c,rfl,h2,h3⟩:=hc
  simp only [cA,cond_false,GF] at h
  subst h
  exact h2
theorem zi (hs:ak w0 I0 NoR g st a ov w) {j:Nat} {x:Operand} {e:Eff} (hh:(opL E id look (.extract x j) [st.ev x]).hits C e) (ha:e.app st dst=some st') :
  Good P w0 I0 ov ⟨dst,.extract x j,type,pos,after,guard⟩ st' a w Q:=by
 simp only [opL] at hh
 have hx:=hs.ev x
 split at hh
 ·rename_i l ht
  rw [ht] at hx
  obtain ⟨vs,hu,hl,hr⟩:=hx
  split at hh
  ·rename_i agg c hj
   split at hh
   ·rename_i v hv
    cases hh
    have hjl:j < vs.size:=by rw [hl]; exact (GD.1 hj).1
    obtain ⟨z,hg⟩:∃ z,vs[j]? = some z:=⟨_,Array.getElem?_eq_getElem hjl⟩
    have hz:vs.getD j undef=z:=by rw [GS,hg]; rfl
    refine aL hs (u:=z) (by simp [execOp,hu,Instr.extract,hg]) ?_ ha
    have:=bH hv (hr j agg c hj)
    rwa [hz] at this
   ·exact hh.elim
  ·exact hh.elim
 ·exact hh.elim
theorem i6 {look:Look} {i off len:Nat} {cs:List CA} {xs:List TV} (h:wI look i off len=some (cs,xs)) :
  look i=some (.cells cs)/\xs.length=len/\(len=0\/off + len<=cs.length)/\∀ (m:Nat) (x:TV),xs[m]? = some x->cs[off + m]? = some (.t x):=by
 unfold wI at h
 split at h
 ·rename_i cs0 hl
  split at h
  ·rename_i cs1 htk
   obtain ⟨k1,k2,k3⟩:=eF _ _ _ _ htk
   split at h
   ·rename_i xs0 hp
    simp only [GF,Prod.mk.injEq] at h
    obtain ⟨rfl,rfl⟩:=h
    have he:=d6 hp
    have hlen:xs0.length=len:=by rw [<- k1,he,List.length_map]
    refine ⟨hl,hlen,k2,fun m x hm=>?_⟩
    have hml:=(GD.1 hm).1
    rw [<- k3 m (by omega),he,GJ,hm]
    rfl
   ·cases h
  ·cases h
 ·cases h
theorem tW (n:Nat) (y:TV):∀ (xs:List TV) (j m:Nat),(gU n y j xs)[m]? = (xs[m]?).map fun x=>.t (FC n (j + m) y x)
 | [],j,m=>by simp [gU]
 | x :: xs,j,0=>by simp [gU]
 | x :: xs,j,m + 1=>by
  simp only [gU,List.getElem?_cons_succ]
  rw [tW n y xs (j + 1) m,show j + 1 + m=j + (m + 1) by omega]
theorem zX (n:Nat) (y:TV) (xs:List TV) (j:Nat):(gU n y j xs).length=xs.length:=by
 induction xs generalizing j with
 | nil=>rfl
 | cons x xs ih=>simp [gU,ih]
theorem wT (hs:ak w0 I0 NoR g st a ov w) {x:Operand} {e:Eff} (hh:(opL E id look (.nilCheck x) [st.ev x]).hits C e) (ha:e.app st dst=some st') :
  Good P w0 I0 ov ⟨dst,.nilCheck x,type,pos,after,guard⟩ st' a w Q:=by
 simp only [opL] at hh
 have hx:=hs.ev x
 split at hh
 ·rename_i i off ht
  cases hh
  rw [ht] at hx
  have hx':=hx
  obtain ⟨cs,_,hv⟩:=hx
  exact aL hs (u:=a.eval x) (by simp [execOp,hv]) hx' ha
 ·rename_i y off ht
  cases hh
  rw [ht] at hx
  have hx':=hx
  obtain ⟨ad,cell,hv,_⟩:=hx
  exact aL hs (u:=a.eval x) (by simp [execOp,hv]) hx' ha
 ·rename_i i r p k j ht
  cases hh
  rw [ht] at hx
  have hx':=hx
  obtain ⟨xs,x',ad,l,cap,s,n,_,_,_,_,hv⟩:=hx
  exact aL hs (u:=a.eval x) (by simp [execOp,hv]) hx' ha
 ·rename_i i off len n ht
  cases hh
  rw [ht] at hx
  have hx':=hx
  obtain ⟨cs,_,_,hv⟩:=hx
  exact aL hs (u:=a.eval x) (by simp [execOp,hv]) hx' ha
 ·exact hh.elim
end
end Go.Ab
end

import Derived.Test.YtfnpejmlcbkepaaLQ12T
import Derived.Test.YtfnpejmlcbkepaaLQ12F84
set_option linter.all false
section
namespace Go.Ab
inductive Both (o:List Int):Int->Int->Int->Prop
 | done {a:Int}:Both o a a a
 | left {a b a' r:Int}:a≠b->a > b->0<=a->o[a.toNat]? = some a'->Both o a' b r->Both o a b r
 | right {a b b' r:Int}:a≠b->¬ a > b->0<=b->o[b.toNat]? = some b'->Both o a b' r->Both o a b r
inductive Bths (o:List Int):Int->List Int->Int->Prop
 | nil {v:Int}:Bths o v [] v
 | cons {v n v' r:Int} {l:List Int}:Both o v n v'->Bths o v' l r->Bths o v (n :: l) r
def AllP (o l:List Int) (r:Int):Prop:=∃ v,l.getLast? = some v/\Bths o v l.reverse r
inductive Up (T:Nat->Nat):Nat->Nat->Prop
 | refl {n:Nat}:Up T n n
 | step {n x:Nat}:n≠0->Up T (T n) x->Up T n x
def Low (N:Nat) (T:Nat->Nat):Prop:=∀ n,n≠0->n < N->T n < n
theorem Up.trans {T:Nat->Nat} {a b c:Nat} (h:Up T a b) (h':Up T b c):Up T a c:=by
 induction h with
 | refl=>exact h'
 | step h0 _ ih=>exact .step h0 (ih h')
theorem Up.le {N:Nat} {T:Nat->Nat} (hT:Low N T) {n x:Nat} (h:Up T n x):n < N->x<=n:=by
 induction h with
 | refl=>intro _; exact Nat.le_refl _
 | step h0 _ ih=>intro hn; have:=hT _ h0 hn; exact Nat.le_of_lt (Nat.lt_of_le_of_lt (ih (by omega)) this)
theorem Up.inv {T:Nat->Nat} {n x:Nat} (h:Up T n x) (hx:x≠n):n≠0/\Up T (T n) x:=by
 cases h with
 | refl=>exact absurd rfl hx
 | step h0 h=>exact ⟨h0,h⟩
theorem Up.zero {T:Nat->Nat} {x:Nat} (h:Up T 0 x):x=0:=by
 cases h with
 | refl=>rfl
 | step h0 _=>exact absurd rfl h0
def ii (N:Nat) (o:List Int) (T:Nat->Nat):Prop:=o.length=N/\∀ n,n < N->o[n]? = some ((T n:Nat):Int)
theorem Eh {N:Nat} {o:List Int} {T:Nat->Nat} (ho:ii N o T) (hT:Low N T):∀ (d a b:Nat),a + b<=d->a < N->b < N->∃ r:Nat,Both o a b r/\r<=a/\∀ x,Up T r x ↔ Up T a x/\Up T b x:=by
 intro d
 induction d with
 | zero =>
  intro a b h ha hb
  have:a=0:=by omega
  subst this
  have:b=0:=by omega
  subst this
  exact ⟨0,.done,Nat.le_refl _,fun x=>⟨fun h=>⟨h,h⟩,fun h=>h.1⟩⟩
 | succ d ih =>
  intro a b h ha hb
  by_cases hab:a=b
  ·subst hab
   exact ⟨a,.done,Nat.le_refl _,fun x=>⟨fun h=>⟨h,h⟩,fun h=>h.1⟩⟩
  ·by_cases hgt:b < a
   ·have hl:=hT a (by omega) ha
    obtain ⟨r,h1,h2,h3⟩:=ih (T a) b (by omega) (by omega) hb
    refine ⟨r,.left (by omega) (by omega) (by omega) (by rw [Int.toNat_natCast]; exact ho.2 a ha) h1,by omega,fun x=>?_⟩
    rw [h3]
    constructor
    ·exact fun ⟨h4,h5⟩=>⟨.step (by omega) h4,h5⟩
    ·rintro ⟨h4,h5⟩
     refine ⟨(h4.inv fun e=>?_).2,h5⟩
     subst e
     have:=h5.le hT hb
     omega
   ·have hl:=hT b (by omega) hb
    obtain ⟨r,h1,h2,h3⟩:=ih a (T b) (by omega) ha (by omega)
    refine ⟨r,.right (by omega) (by omega) (by omega) (by rw [Int.toNat_natCast]; exact ho.2 b hb) h1,h2,fun x=>?_⟩
    rw [h3]
    constructor
    ·exact fun ⟨h4,h5⟩=>⟨h4,.step (by omega) h5⟩
    ·rintro ⟨h4,h5⟩
     refine ⟨h4,(h5.inv fun e=>?_).2⟩
     subst e
     have:=h4.le hT ha
     omega
theorem Ad {N:Nat} {o:List Int} {T:Nat->Nat} (ho:ii N o T) (hT:Low N T):∀ (l:List Nat) (v:Nat),v < N->(∀ p ∈ l,p < N)->∃ r:Nat,Bths o v (l.map fun p:Nat=>(p:Int)) r/\r<=v/\∀ x,Up T r x ↔ Up T v x/\∀ p ∈ l,Up T p x
 | [],v,hv,hl=>⟨v,.nil,Nat.le_refl _,fun x=>by simp⟩
 | p :: l,v,hv,hl=>by
  obtain ⟨r,h1,h2,h3⟩:=Eh ho hT _ v p (Nat.le_refl _) hv (hl p Fe)
  obtain ⟨s,h4,h5,h6⟩:=Ad ho hT l r (by omega) (fun q hq=>hl q (Ff _ hq))
  refine ⟨s,.cons h1 h4,by omega,fun x=>?_⟩
  rw [h6,h3]
  simp only [List.mem_cons,forall_eq_or_imp,and_assoc]
theorem all_ex {N:Nat} {o:List Int} {T:Nat->Nat} (ho:ii N o T) (hT:Low N T) {l:List Nat} (h0:l≠[]) (hl:∀ p ∈ l,p < N):∃ r:Nat,AllP o (l.map fun p:Nat=>(p:Int)) r/\r < N/\∀ x,Up T r x ↔ ∀ p ∈ l,Up T p x:=by
 have hm:=List.getLast_mem h0
 obtain ⟨r,h1,h2,h3⟩:=Ad ho hT l.reverse (l.getLast h0) (hl _ hm) (fun p hp=>hl p (List.mem_reverse.1 hp))
 have:=hl _ hm
 refine ⟨r,⟨((l.getLast h0:Nat):Int),?_,?_⟩,by omega,fun x=>?_⟩
 ·rw [List.getLast?_map,List.getLast?_eq_some_getLast h0]; rfl
 ·rw [<- List.map_reverse]; exact h1
 ·rw [h3]
  constructor
  ·exact fun h p hp=>h.2 p (List.mem_reverse.2 hp)
  ·exact fun h=>⟨h _ hm,fun p hp=>h p (List.mem_reverse.1 hp)⟩
inductive Rv (pr:Nat->List Nat) (d:Nat):Nat->Prop
 | start:0≠d->Rv pr d 0
 | next {p n:Nat}:Rv pr d p->p ∈ pr n->n≠d->Rv pr d n
structure Grf (N:Nat) (pr:Nat->List Nat) (p0:Nat->Nat):Prop where
 in_:∀ n,n < N->∀ p ∈ pr n,p < N
 mem:∀ n,n≠0->n < N->p0 n ∈ pr n
 low:∀ n,n≠0->n < N->p0 n < n
structure TI (N:Nat) (pr:Nat->List Nat) (p0:Nat->Nat) (m:Nat) (T:Nat->Nat):Prop where
 low:Low N T
 meet:∀ n,n≠0->n < N->∀ c,(∀ p ∈ pr n,Up T p c)->Up T (T n) c
 way:∀ n,n≠0->n < N->∀ x,(n < m\/m<=x)->Up T (T n) x->Up T (p0 n) x
 dom:∀ n,n < N->∀ x,¬ Rv pr x n->Up T n x
theorem TI.start {N:Nat} {pr:Nat->List Nat} {p0:Nat->Nat} (hG:Grf N pr p0) (m:Nat):TI N pr p0 m p0:=by
 refine ⟨hG.low,fun n h0 hn c h=>h _ (hG.mem n h0 hn),fun n h0 hn x _ h=>h,?_⟩
 intro n
 induction n using Nat.strongRecOn with
 | _ n ih =>
  intro hn x hx
  by_cases h0:n=0
  ·subst h0
   by_cases hx0:x=0
   ·subst hx0; exact .refl
   ·exact absurd (Rv.start (Ne.symm hx0)) hx
  ·by_cases hxn:x=n
   ·subst hxn; exact .refl
   ·have hl:=hG.low n h0 hn
    exact .step h0 (ih _ hl (by omega) x fun h=>hx (.next h (hG.mem n h0 hn) (Ne.symm hxn)))
theorem TI.again {N m:Nat} {pr:Nat->List Nat} {p0:Nat->Nat} {T:Nat->Nat} (h:TI N pr p0 m T) (hm:N<=m):TI N pr p0 1 T :=
 ⟨h.low,h.meet,fun n h0 hn x _ hu=>h.way n h0 hn x (.inl (by omega)) hu,h.dom⟩
def ni (T:Nat->Nat) (m v:Nat) (n:Nat):Nat:=if n=m then v else T n
theorem ip {T:Nat->Nat} {m v:Nat}:ni T m v m=v:=by simp [ni]
theorem gq {T:Nat->Nat} {m v n:Nat} (h:n≠m):ni T m v n=T n:=by simp [ni,h]
section
variable {N:Nat} {pr:Nat->List Nat} {p0:Nat->Nat} {m v:Nat} {T:Nat->Nat} (hG:Grf N pr p0) (h:TI N pr p0 m T) (hm0:m≠0) (hm:m < N) (hv:∀ x,Up T v x ↔ ∀ p ∈ pr m,Up T p x)
include hG h hm0 hm hv
theorem TI.lower:Up T (T m) v:=h.meet m hm0 hm v ((hv v).1 .refl)
theorem TI.ye:v<=T m:=(TI.lower hG h hm0 hm hv).le h.low (by have:=h.low m hm0 hm; omega)
theorem TI.s1 {n x:Nat} (hu:Up (ni T m v) n x):Up T n x:=by
 induction hu with
 | refl=>exact .refl
 | @step n x h0 _ ih =>
  by_cases hn:n=m
  ·subst hn
   rw [ip] at ih
   exact .step h0 ((TI.lower hG h hm0 hm hv).trans ih)
  ·rw [gq hn] at ih
   exact .step h0 ih
theorem TI.s2 {n x:Nat} (hu:Up T n x):n < N->(¬ Up T n m\/m<=x)->Up (ni T m v) n x:=by
 induction hu with
 | refl=>exact fun _ _=>.refl
 | @step n x h0 hu ih =>
  intro hn hc
  have hl:=h.low n h0 hn
  by_cases hnm:n=m
  ·subst hnm
   exfalso
   rcases hc with hc | hc
   ·exact hc .refl
   ·have:=hu.le h.low (by omega)
    omega
  ·refine .step h0 ?_
   rw [gq hnm]
   exact ih (by omega) (hc.imp (fun hc hu'=>hc (.step h0 hu')) id)
theorem TI.below {n:Nat} (hn:n < m):¬ Up T n m:=fun hu=>by
 have:=hu.le h.low (by omega)
 omega
theorem TI.v_lt:v < m:=by
 have h1:=TI.ye hG h hm0 hm hv
 have h2:=h.low m hm0 hm
 omega
theorem TI.s3 {n x:Nat} (hn:n < N) (hu:Up T n m) (hx:Up T v x):Up (ni T m v) n x:=by
 have hvl:=TI.v_lt hG h hm0 hm hv
 refine (TI.s2 hG h hm0 hm hv hu hn (.inr (Nat.le_refl _))).trans (.step hm0 ?_)
 rw [ip]
 exact TI.s2 hG h hm0 hm hv hx (by omega) (.inl (TI.below hG h hm0 hm hv hvl))
theorem TI.s4 {n c:Nat} (hu:Up T n m):n < N->Up (ni T m v) n c->c < m->Up T v c:=by
 have key:∀ {n x:Nat},Up T n x->x=m->n < N->Up (ni T m v) n c->c < m->Up T v c:=by
  intro n x hu
  induction hu with
  | @refl n =>
   rintro rfl hn hu' hc
   have:=(hu'.inv (by omega)).2
   rw [ip] at this
   exact TI.s1 hG h hm0 hm hv this
  | @step n x h0 hux ih =>
   rintro hxm hn hu' hc
   have hl:=h.low n h0 hn
   have hle:=hux.le h.low (by omega)
   have:=(hu'.inv (by omega)).2
   rw [gq (by omega)] at this
   exact ih hxm (by omega) this hc
 exact key hu rfl
theorem TI.ways {x:Nat} (hx:x < m) (hr:Rv pr x m):∀ n,n < N->Up T n m->Rv pr x n:=by
 intro n
 induction n using Nat.strongRecOn with
 | _ n ih =>
  intro hn hu
  by_cases hnm:n=m
  ·subst hnm; exact hr
  ·obtain ⟨h0,hu'⟩:=hu.inv (Ne.symm hnm)
   have hl:=hG.low n h0 hn
   have hle:=hu.le h.low hn
   have:=ih (p0 n) hl (by omega) (h.way n h0 hn m (.inr (Nat.le_refl _)) hu')
   exact .next this (hG.mem n h0 hn) (by omega)
theorem TI.next:TI N pr p0 (m + 1) (ni T m v):=by
 have hvl:=TI.v_lt hG h hm0 hm hv
 have below:=fun {n:Nat} (hn:n < m)=>TI.below hG h hm0 hm hv hn
 refine ⟨fun n h0 hn=>?_,fun n h0 hn c hc=>?_,fun n h0 hn x hx hu=>?_,fun n hn x hx=>?_⟩
 ·by_cases hnm:n=m
  ·subst hnm; rw [ip]; exact hvl
  ·rw [gq hnm]; exact h.low n h0 hn
 ·by_cases hnm:n=m
  ·subst hnm
   rw [ip]
   exact TI.s2 hG h hm0 hm hv ((hv c).2 fun p hp=>TI.s1 hG h hm0 hm hv (hc p hp)) (by omega) (.inl (below hvl))
  ·rw [gq hnm]
   have hl:=h.low n h0 hn
   have hu:=h.meet n h0 hn c fun p hp=>TI.s1 hG h hm0 hm hv (hc p hp)
   by_cases h1:Up T (T n) m
   ·by_cases h2:m<=c
    ·exact TI.s2 hG h hm0 hm hv hu (by omega) (.inr h2)
    ·have h3:=h.way n h0 hn m (.inr (Nat.le_refl _)) h1
     have hl2:=hG.low n h0 hn
     exact TI.s3 hG h hm0 hm hv (by omega) h1 (TI.s4 hG h hm0 hm hv h3 (by omega) (hc _ (hG.mem n h0 hn)) (by omega))
   ·exact TI.s2 hG h hm0 hm hv hu (by omega) (.inl h1)
 ·have hl:=hG.low n h0 hn
  by_cases hnm:n=m
  ·subst hnm
   rw [ip] at hu
   exact TI.s2 hG h hm0 hm hv ((hv x).1 (TI.s1 hG h hm0 hm hv hu) _ (hG.mem n h0 hn)) (by omega) (.inl (below hl))
  ·rw [gq hnm] at hu
   have hu:=TI.s1 hG h hm0 hm hv hu
   rcases Nat.lt_or_ge n m with h1 | h1
   ·exact TI.s2 hG h hm0 hm hv (h.way n h0 hn x (.inl h1) hu) (by omega) (.inl (below (by omega)))
   ·have hx:m<=x:=by omega
    exact TI.s2 hG h hm0 hm hv (h.way n h0 hn x (.inr hx) hu) (by omega) (.inr hx)
 ·have hu:=h.dom n hn x hx
  by_cases h1:Up T n m
  ·by_cases h2:m<=x
   ·exact TI.s2 hG h hm0 hm hv hu hn (.inr h2)
   ·have h3:¬ Rv pr x m:=fun hr=>hx (TI.ways hG h hm0 hm hv (by omega) hr n hn h1)
    refine TI.s3 hG h hm0 hm hv hn h1 ((hv x).2 fun p hp=>h.dom p (hG.in_ m hm p hp) x fun hr=>h3 (.next hr hp (by omega)))
  ·exact TI.s2 hG h hm0 hm hv hu hn (.inl h1)
end
theorem TI.last {N:Nat} {pr:Nat->List Nat} {p0:Nat->Nat} {T:Nat->Nat} {m:Nat} (hG:Grf N pr p0) (h:TI N pr p0 m T) (hf:∀ n,n≠0->n < N->∀ x,Up T (T n) x ↔ ∀ p ∈ pr n,Up T p x) {n x:Nat} (hn:n < N):Up T n x ↔ ¬ Rv pr x n:=by
 refine ⟨fun hu hr=>?_,h.dom n hn x⟩
 have key:∀ {n:Nat},Rv pr x n->n < N->¬ Up T n x:=by
  intro n hr
  induction hr with
  | start h0=>exact fun _ hu=>h0 hu.zero.symm
  | @next p n _ hp hne ih =>
   intro hn hu
   obtain ⟨h0,hu⟩:=hu.inv (Ne.symm hne)
   exact ih (hG.in_ n hn p hp) ((hf n h0 hn x).1 hu p hp)
 exact key hr hn hu
def high (T:Nat->Nat):Nat->Nat
 | 0=>0
 | n + 1=>high T n + T n
theorem wt {T:Nat->Nat} {m v:Nat}:∀ N,m < N->high (ni T m v) N + T m=high T N + v
 | 0,h=>absurd h (Nat.not_lt_zero _)
 | N + 1, h => by
  simp only [high]
  by_cases hm:m=N
  ·subst hm
   have:∀ k,k<=m->high (ni T m v) k=high T k:=by
    intro k
    induction k with
    | zero=>intro _; rfl
    | succ k ih=>intro hk; simp only [high,ih (by omega)]; rw [gq (by omega)]
   rw [this m (Nat.le_refl _),ip]
   omega
  ·have:=wt (T:=T) (m:=m) (v:=v) N (by omega)
   rw [gq (T:=T) (n:=N) (by omega)]
   omega
def aZ (l:List Nat):List Int:=l.map fun p:Nat=>(p:Int)
end Go.Ab
end
section
set_option maxRecDepth 10000
namespace Go.Ab
def blk (o:List Int) (n:Nat):Nat:=(o[n]?.getD 0).toNat
section
variable {bs:List DBlock} {o:List Int} (hI:OI bs o)
include hI
theorem OI.at_ {n:Nat} (h:n < o.length):o[n]? = some ((blk o n:Nat):Int):=by
 have hx:=E8 h
 have hp:=(hI.pos _ (Fg hx)).1
 unfold blk
 rw [hx]
 simp only [Option.getD_some]
 congr 1
 omega
theorem OI.fU {n:Nat} (h:n < o.length):blk o n < bs.length:=by
 have:=(hI.pos _ (Fg (hI.at_ h))).2
 omega
theorem OI.inj {n m:Nat} (h:n < o.length) (h':m < o.length) (e:blk o n=blk o m):n=m:=by
 have h1:=hI.at_ h
 have h2:=hI.at_ h'
 rw [e,<- h2] at h1
 exact (List.getElem?_inj h hI.nod).1 h1
theorem OI.rank {b:Nat} (h:Rc bs (-1) b):∃ n,n < o.length/\blk o n=b:=by
 obtain ⟨n,hn,e⟩:=List.mem_iff_getElem.1 ((hI.mem b).2 h)
 refine ⟨n,hn,?_⟩
 have:=hI.at_ hn
 rw [E8 hn,e] at this
 simp only [E9] at this
 omega
theorem OI.rc {n:Nat} (h:n < o.length):Rc bs (-1) (blk o n):=(hI.mem _).1 (Fg (hI.at_ h))
theorem OI.zero (h:bs≠[]):0 < o.length/\blk o 0=0:=by
 have:=hI.first h
 cases o with
 | nil=>cases this
 | cons a o =>
  simp only [List.head?_cons,E9] at this
  subst this
  exact ⟨by simp,rfl⟩
end
def lU (o:List Int) (k n:Nat) (l:List Int):List Nat:=(l.filter fun g=>decide (g=((blk o n:Nat):Int))).map fun _=>k
def pg (bs:List DBlock) (o:List Int):Nat->Nat->List Nat
 | 0,_=>[]
 | k + 1,n=>pg bs o k n ++ lU o k n (ak bs (blk o k))
def prL (bs:List DBlock) (o:List Int) (n:Nat):List Nat:=pg bs o o.length n
theorem mD {o:List Int} {k n p:Nat} {l:List Int}:p ∈ lU o k n l ↔ p=k/\((blk o n:Nat):Int) ∈ l:=by
 unfold lU
 simp only [List.mem_map,List.mem_filter,decide_eq_true_eq]
 constructor
 ·rintro ⟨g,⟨h1,rfl⟩,rfl⟩; exact ⟨rfl,h1⟩
 ·rintro ⟨rfl,h⟩; exact ⟨_,⟨h,rfl⟩,rfl⟩
theorem rN {bs:List DBlock} {o:List Int} {n p:Nat}:∀ {k:Nat},p ∈ pg bs o k n ↔ p < k/\((blk o n:Nat):Int) ∈ ak bs (blk o p)
 | 0=>by simp [pg]
 | k + 1 => by
  simp only [pg,List.mem_append,rN (k:=k),mD]
  constructor
  ·rintro (⟨h1,h2⟩ | ⟨rfl,h⟩)
   ·exact ⟨by omega,h2⟩
   ·exact ⟨by omega,h⟩
  ·rintro ⟨h1,h2⟩
   by_cases e:p=k
   ·subst e; exact .inr ⟨rfl,h2⟩
   ·exact .inl ⟨by omega,h2⟩
theorem nJ {bs:List DBlock} {o:List Int} {n p:Nat}:p ∈ prL bs o n ↔ p < o.length/\((blk o n:Nat):Int) ∈ ak bs (blk o p):=rN
theorem qt {bs:List DBlock} {o:List Int} {n:Nat}:∀ (k:Nat),(pg bs o k n).Pairwise (·<=·)
 | 0=>.nil
 | k + 1 => by
  simp only [pg]
  refine List.pairwise_append.2 ⟨qt k,?_,fun a ha b hb=>?_⟩
  ·refine List.pairwise_of_forall_mem_list fun a ha b hb=>?_
   rw [(mD.1 ha).1,(mD.1 hb).1]
   exact Nat.le_refl _
  ·have:=(rN.1 ha).1
   rw [(mD.1 hb).1]
   omega
def p0L (bs:List DBlock) (o:List Int) (n:Nat):Nat:=(prL bs o n)[0]?.getD 0
theorem EX {bs:List DBlock} {o:List Int} {n p:Nat} (h:p ∈ prL bs o n):p0L bs o n ∈ prL bs o n/\p0L bs o n<=p:=by
 have hs:=qt (bs:=bs) (o:=o) (n:=n) o.length
 unfold p0L
 cases hl:prL bs o n with
 | nil=>rw [hl] at h; cases h
 | cons a l =>
  unfold prL at hl
  rw [hl] at hs
  have h1:=(List.pairwise_cons.1 hs).1
  refine ⟨by simp,?_⟩
  unfold prL at h
  rw [hl] at h
  rcases List.mem_cons.1 h with rfl | h
  ·simp
  ·have:=h1 p h
   simpa using this
theorem p0_at {bs:List DBlock} {o:List Int} {n:Nat} (h:prL bs o n≠[]):(prL bs o n)[0]? = some (p0L bs o n):=by
 unfold p0L
 cases hl:prL bs o n with
 | nil=>exact absurd hl h
 | cons a l=>rfl
section
variable {bs:List DBlock} {o:List Int} (hI:OI bs o)
include hI
theorem OI.low {n:Nat} (h0:n≠0) (hn:n < o.length):∃ p,p ∈ prL bs o n/\p < n:=by
 have hat:=hI.at_ hn
 have he:o=o.take n ++ ((blk o n:Nat):Int) :: o.drop (n + 1):=by
  have h1:=E8 hn
  rw [hat] at h1
  simp only [E9] at h1
  rw [h1,List.getElem_cons_drop,List.take_append_drop]
 rcases hI.led _ _ _ he with h1 | ⟨p,h1,h2⟩
 ·exfalso
  have hb:bs≠[]:=fun e=>by have:=hI.fU hn; rw [e] at this; cases this
  obtain ⟨z1,z2⟩:=hI.zero hb
  exact h0 (hI.inj hn z1 (by rw [z2]; omega))
 ·obtain ⟨m,hm,e⟩:=List.mem_iff_getElem.1 h2
  simp only [List.length_take] at hm
  rw [List.getElem_take] at e
  have hm2:m < o.length:=by omega
  have hbm:=hI.at_ hm2
  rw [E8 hm2,e] at hbm
  simp only [E9] at hbm
  refine ⟨m,nJ.2 ⟨hm2,?_⟩,by omega⟩
  rw [show blk o m=p by omega]
  exact h1
theorem OI.grf:Grf o.length (prL bs o) (p0L bs o):=by
 refine ⟨fun n hn p hp=>(nJ.1 hp).1,fun n h0 hn=>?_,fun n h0 hn=>?_⟩
 ·obtain ⟨p,h1,h2⟩:=hI.low h0 hn
  exact (EX h1).1
 ·obtain ⟨p,h1,h2⟩:=hI.low h0 hn
  exact Nat.lt_of_le_of_lt (EX h1).2 h2
theorem OI.rv {d n:Nat} (hd:d < o.length) (hn:n < o.length):Rv (prL bs o) d n ↔ Rc bs ((blk o d:Nat):Int) (blk o n):=by
 have hb:bs≠[]:=fun e=>by have:=hI.fU hn; rw [e] at this; cases this
 obtain ⟨z1,z2⟩:=hI.zero hb
 constructor
 ·intro h
  have key:∀ {n:Nat},Rv (prL bs o) d n->n < o.length->Rc bs ((blk o d:Nat):Int) (blk o n):=by
   intro n h
   induction h with
   | start h0 =>
    intro _
    rw [z2]
    refine .start (fun e=>h0 (hI.inj z1 hd (by omega))) (List.length_pos_iff.2 hb)
   | @next p n _ hp hne ih =>
    intro hn
    obtain ⟨q1,q2⟩:=nJ.1 hp
    have:=Rc.next (ih q1) q2 (fun e=>hne (hI.inj hn hd (by omega)))
    simpa using this
  exact key h hn
 ·intro h
  have key:∀ {b:Nat},Rc bs ((blk o d:Nat):Int) b->∃ n,n < o.length/\blk o n=b/\Rv (prL bs o) d n:=by
   intro b h
   induction h with
   | start h0 _=>exact ⟨0,z1,z2,.start fun e=>h0 (by rw [<- e,z2]; rfl)⟩
   | @next i g hi hg hne ih =>
    obtain ⟨m,m1,m2,m3⟩:=ih
    have ht:=aG hg
    obtain ⟨n,n1,n2⟩:=hI.rank (Rc.next hi hg hne).any
    refine ⟨n,n1,n2,.next m3 (nJ.2 ⟨m1,?_⟩) fun e=>hne ?_⟩
    ·rw [n2,m2,show ((g.toNat:Nat):Int)=g by omega]; exact hg
    ·rw [<- e,n2]; omega
  obtain ⟨m,m1,m2,m3⟩:=key h
  rw [hI.inj hn m1 m2.symm]
  exact m3
variable {T p0:Nat->Nat} {m:Nat} (hG:Grf o.length (prL bs o) p0) (h:TI o.length (prL bs o) p0 m T) (hf:∀ n,n≠0->n < o.length->∀ x,Up T (T n) x ↔ ∀ p ∈ prL bs o n,Up T p x)
include hG h hf
theorem OI.up {n x:Nat} (hn:n < o.length) (hx:x < o.length):Dm bs (blk o x) (blk o n) ↔ Up T n x:=by
 rw [Dm.self,h.last hG hf hn,hI.rv hx hn]
 exact ⟨fun h=>h.2,fun h=>⟨hI.rc hn,h⟩⟩
theorem OI.nx {n:Nat} (h0:n≠0) (hn:n < o.length):Nx bs (blk o (T n)) (blk o n):=by
 have hl:=h.low n h0 hn
 have ht:T n < o.length:=by omega
 refine ⟨fun e=>by have:=hI.inj ht hn e; omega,(hI.up hG h hf hn ht).2 (.step h0 .refl),fun c hc hd=>?_⟩
 obtain ⟨x,x1,rfl⟩:=hI.rank hd.up
 have hu:=(hI.up hG h hf hn x1).1 hd
 exact (hI.up hG h hf ht x1).2 (hu.inv fun e=>hc (by rw [e])).2
theorem OI.ov {n:Nat} (h0:n≠0) (hn:n < o.length):ovN bs (blk o n)=((blk o (T n):Nat):Int):=zk (hI.nx hG h hf h0 hn)
end
def p0Z (bs:List DBlock) (o:List Int) (n:Nat):Nat:=if n=0 then 0 else p0L bs o n
theorem OI.grfZ {bs:List DBlock} {o:List Int} (hI:OI bs o):Grf o.length (prL bs o) (p0Z bs o) :=
 ⟨hI.grf.in_,fun n h0 hn=>by rw [p0Z,if_neg h0]; exact hI.grf.mem n h0 hn,fun n h0 hn=>by rw [p0Z,if_neg h0]; exact hI.grf.low n h0 hn⟩
theorem jD:∀ (n:Nat) {l:List Nat},l.Nodup->(∀ x ∈ l,x < n)->l.length<=n
 | 0,l,_,h=>by
  cases l with
  | nil=>exact Nat.le_refl _
  | cons a l=>exact absurd (h a Fe) (Nat.not_lt_zero _)
 | n + 1, l, hd, h => by
  by_cases hn:n ∈ l
  ·have:=jD n (hd.erase n) (fun x hx=>by
    have h1:=h x (List.mem_of_mem_erase hx)
    have h2:x≠n:=fun e=>by subst e; exact absurd hx (hd.not_mem_erase)
    omega)
   rw [List.length_erase_of_mem hn] at this
   omega
  ·have:=jD n hd (fun x hx=>by
    have h1:=h x hx
    have h2:x≠n:=fun e=>by subst e; exact hn hx
    omega)
   omega
theorem OI.len {bs:List DBlock} {o:List Int} (hI:OI bs o):o.length<=bs.length:=by
 have h1:(o.map Int.toNat).Nodup:=by
  refine List.pairwise_map.2 (List.Pairwise.imp_of_mem (fun {a b} ha hb hne e=>hne ?_) hI.nod)
  have:=hI.pos a ha
  have:=hI.pos b hb
  omega
 have:=jD bs.length h1 (fun x hx=>by
  obtain ⟨a,ha,rfl⟩:=List.mem_map.1 hx
  have:=hI.pos a ha
  omega)
 simpa using this
end Go.Ab
end
section
set_option maxRecDepth 10000
namespace Go.Ab
def RIL (q:Option Bool) (e:List TV) (l:List Nat):Prop:=∃ v,e=[v]/\RInts q v (aZ l)
theorem RIL.own {e:List TV} {l:List Nat} (h:RIL (some true) e l):dz e=true:=by
 obtain ⟨v,rfl,h⟩:=h
 have:=h.own fun _ _ h=>h.own
 simp [dz,this]
theorem RIL.frz {q:Option Bool} {e:List TV} {l:List Nat} (h:RIL q e l):RIL (some false) (tS e) l:=by
 obtain ⟨v,rfl,h⟩:=h
 exact ⟨Ab.frz v,rfl,h.frz fun _ _ h=>h.frz⟩
theorem ss {n:Nat} (h:n<=9223372036854775807):RL (some true) 1 (RIL (some true)) (.sl true 1 (List.replicate n [.lit aI])) (List.replicate n []):=.sl (by simp) (F2.tI (by simp) fun i e a he ha=>by
 rw [List.getElem?_replicate] at he ha
 by_cases hi:i < n
 ·rw [if_pos hi] at he ha
  cases he
  cases ha
  exact ⟨_,rfl,.nil⟩
 ·rw [if_neg hi] at he
  cases he) (by simpa using h)
theorem lN {n:Nat} {a:Int} (ha:inI a) (h:n<=9223372036854775807):RInts (some true) (.sl true 1 (List.replicate n [I a])) (List.replicate n a):=.sl (by simp) (F2.tI (by simp) fun i e b he hb=>by
 rw [List.getElem?_replicate] at he hb
 by_cases hi:i < n
 ·rw [if_pos hi] at he hb
  cases he
  cases hb
  exact ⟨rfl,ha⟩
 ·rw [if_neg hi] at he
  cases he) (by simpa using h)
theorem pF {α:Type}:∀ {l:List α} {n:Nat} {a b:α},l[n]? = some a->(am l n b)[n]? = some b
 | [],n,a,b,h=>by simp at h
 | c :: l,0,a,b,h=>rfl
 | c :: l,n + 1,a,b,h=>by simp only [List.getElem?_cons_succ] at h; simp only [am,List.getElem?_cons_succ]; exact pF h
theorem te {α:Type}:∀ {l:List α} {n:Nat} {a b:α},am (am l n a) n b=am l n b
 | [],n,a,b=>rfl
 | c :: l,0,a,b=>rfl
 | c :: l,n + 1,a,b=>by simp only [am,te]
theorem RL.zq {y v:TV} {ll:List (List Nat)} (hy:RL (some true) 1 (RIL (some true)) y ll) {n:Nat} (he:Go.Ab.pel y n=some [v]):∃ y1,ie [(n,0)] y .hole=some y1/\Go.Ab.slLen y1=some ll.length/\Go.Ab.slSize y1 1=true/\Go.Ab.pel y1 n=some [.hole] /\
  ∀ {v':TV} {l':List Nat},RInts (some true) v' (aZ l')->∃ y2,cX [] y1 n 0 [v']=some y2/\RL (some true) 1 (RIL (some true)) y2 (ll.set n l'):=by
 obtain ⟨xs,rfl,hk,hf,hb⟩:=hy.at he
 have hset:am [v] 0 TV.hole=[TV.hole]:=rfl
 refine ⟨.sl true 1 (am xs n [.hole]),?_,?_,rfl,pF hk,fun {v' l'} hv=>?_⟩
 ·simp only [ie,hk,List.getElem?_cons_zero,hset]
 ·simp only [Go.Ab.slLen,iQ,hf.length]
 ·refine ⟨.sl true 1 (am xs n [v']),?_,.sl (by simp) (hf.set ⟨v',rfl,hv⟩) (by rw [iQ]; exact hb)⟩
  simp only [cX,bh,xb,pF hk,ie]
  rw [te]
  rfl
theorem jA (l m:List Nat):aZ (l ++ m)=aZ l ++ aZ m:=by simp [aZ]
def lv (bs:List DBlock) (o:List Int) (k j n:Nat):List Nat:=pg bs o k n ++ lU o k n ((ak bs (blk o k)).take j)
def dR (bs:List DBlock) (o:List Int) (k j:Nat):List (List Nat):=(List.range o.length).map (lv bs o k j)
theorem ua (o:List Int) (k n:Nat) (l:List Int):(lU o k n l).length<=l.length:=by
 unfold lU
 rw [List.length_map]
 exact List.length_filter_le _ _
theorem rl (bs:List DBlock) (o:List Int) (n:Nat):∀ k,(pg bs o k n).length<=3 * k
 | 0=>by simp [pg]
 | k + 1=>by
  have h1:=rl bs o n k
  have h2:=ua o k n (ak bs (blk o k))
  have h3:=eV bs (blk o k)
  simp only [pg,List.length_append]
  omega
theorem AJ (bs:List DBlock) (o:List Int) (k j n:Nat):(lv bs o k j n).length<=3 * k + 3:=by
 have h1:=rl bs o n k
 have h2:=ua o k n ((ak bs (blk o k)).take j)
 have h3:=eV bs (blk o k)
 rw [List.length_take] at h2
 simp only [lv,List.length_append]
 omega
theorem l8 {bs:List DBlock} {o:List Int} {k j n:Nat} (h:n < o.length):(dR bs o k j)[n]? = some (lv bs o k j n):=by simp [dR,h]
theorem wl (bs:List DBlock) (o:List Int):dR bs o 0 0=List.replicate o.length []:=by
 apply List.ext_getElem?
 intro n
 rw [List.getElem?_replicate]
 by_cases h:n < o.length
 ·rw [l8 h,if_pos h]; simp [lv,pg,lU]
 ·rw [if_neg h,Fj (by simp [dR]; omega)]
theorem yo (bs:List DBlock) (o:List Int):dR bs o o.length 0=(List.range o.length).map (prL bs o):=by
 unfold dR
 refine List.map_congr_left fun n _=>?_
 simp [lv,lU,prL]
theorem wK (bs:List DBlock) (o:List Int) (k:Nat):dR bs o k (ak bs (blk o k)).length=dR bs o (k + 1) 0:=by
 unfold dR
 refine List.map_congr_left fun n _=>?_
 simp [lv,pg,lU]
theorem wY {bs:List DBlock} {o:List Int} (hI:OI bs o) {k j n:Nat} (hn:n < o.length) (hg:(ak bs (blk o k))[j]? = some ((blk o n:Nat):Int)):dR bs o k (j + 1)=(dR bs o k j).set n (lv bs o k j n ++ [k]):=by
 apply List.ext_getElem?
 intro m
 by_cases hm:m < o.length
 ·rw [l8 hm]
  by_cases hmn:n=m
  ·subst hmn
   rw [List.getElem?_set_self (by simp [dR]; exact hm)]
   simp only [lv,dY hg,lU,List.filter_append,List.map_append,List.append_assoc]
   simp
  ·rw [List.getElem?_set_ne hmn,l8 hm]
   simp only [lv,dY hg,lU,List.filter_append,List.map_append]
   have:¬ ((blk o n:Nat):Int)=((blk o m:Nat):Int):=fun e=>hmn (hI.inj hn hm (by omega))
   simp [this]
 ·rw [Fj (by simp [dR]; omega),Fj (by simp [dR]; omega)]
end Go.Ab
namespace Go.Ab.Q12
open Go Go.Ab Go.Proofs
section
variable {q:Option Bool} {b:TV} {f:DFunc} (hf:RFunc q [I f.params,I f.regs,b] f) (hs:f.blocks.length<=1000) {x:TV} {o:List Int} {qx:Option Bool} (hx:RInts qx x o) (hI:OI f.blocks o) (hol:o.length<=1000)
include hf hs hx hI hol
theorem Ew {w6:TV} {M:List Int} (hM:RInts (some true) w6 M) (hMl:M.length=f.blocks.length) (hMa:∀ n,n < o.length->M[blk o n]? = some ((n:Nat):Int)):∀ (d k:Nat) (w:TV),k + d=o.length->RL (some true) 1 (RIL (some true)) w (dR f.blocks o k 0) ->
  ∃ y,aa prog 74 (f74_2 x (I o.length) (I k) (I f.params) (I f.regs) b w6 w) y/\RL (some true) 1 (RIL (some true)) y ((List.range o.length).map (prL f.blocks o)):=by
 intro d
 induction d with
 | zero =>
  intro k w hk hw
  have hk:k=o.length:=by omega
  subst hk
  rw [yo] at hw
  refine ⟨w,?_,hw⟩
  unfold f74_2
  exact aa.tv rfl (aa.ite bA nofun fun _=>aa.chk (hw.own fun _ _ h=>h.own) aa.ret)
 | succ d ih =>
  intro k w hk hw
  have hkl:k < o.length:=by omega
  obtain ⟨e,he,rfl,hei⟩:=hx.idx (k:=.i64) (hI.at_ hkl)
  obtain ⟨v,hv,hvr⟩:=r71 hf ((blk o k:Nat):Int)
  rw [iE] at hvr
  have hnl:=eV f.blocks (blk o k)
  have inner:∀ (c j:Nat) (w:TV),j + c=(ak f.blocks (blk o k)).length->RL (some true) 1 (RIL (some true)) w (dR f.blocks o k j) ->
    ∃ y,aa prog 74 (f74_3 (I k) x (I o.length) (I k) (I (ak f.blocks (blk o k)).length) (I j) (I f.params) (I f.regs) b w6 w v) y/\RL (some true) 1 (RIL (some true)) y ((List.range o.length).map (prL f.blocks o)):=by
   intro c
   induction c with
   | zero =>
    intro j w hj hw
    have hj:j=(ak f.blocks (blk o k)).length:=by omega
    subst hj
    rw [wK] at hw
    obtain ⟨y,hy,hr⟩:=ih (k + 1) w (by omega) hw
    refine ⟨y,?_,hr⟩
    unfold f74_3
    exact aa.tv rfl (aa.ite bA nofun fun _=>aa.tv (inc hkl (by omega)) (f74_2_J hy))
   | succ c ihc =>
    intro j w hj hw
    have hjl:j < (ak f.blocks (blk o k)).length:=by omega
    obtain ⟨g,hgg⟩:∃ g,g=(ak f.blocks (blk o k))[j]:=⟨_,rfl⟩
    have hg:(ak f.blocks (blk o k))[j]? = some g:=by rw [hgg]; exact E8 hjl
    have hgm:=Fg hg
    have hgt:=aG hgm
    obtain ⟨n,hn,hnb⟩:=hI.rank (Rc.next (hI.rc hkl) hgm (by omega))
    have hgn:g=((blk o n:Nat):Int):=by omega
    subst hgn
    obtain ⟨e1,he1,rfl,_⟩:=hvr.pel hg
    obtain ⟨e2,he2,rfl,_⟩:=hM.pel (hMa n hn)
    obtain ⟨e3,he3,u,rfl,hu⟩:=hw.pel (l8 (k:=k) (j:=j) hn)
    have hlen:=AJ f.blocks o k j n
    obtain ⟨u',hu1,hu2⟩:=hu.app (e:=[I k]) (a:=(k:Int)) ⟨rfl,by constructor <;> omega⟩ (by simp only [aZ,List.length_map]; omega)
    obtain ⟨w1,t1,t2,t3,t4,t5⟩:=hw.zq he3
    obtain ⟨w2,s1,s2⟩:=t5 (v':=u') (l':=lv f.blocks o k j n ++ [k]) (by rw [jA]; exact hu2)
    rw [<- wY hI hn hg] at s2
    obtain ⟨y,hy,hr⟩:=ihc (j + 1) w2 (by omega) s2
    refine ⟨y,?_,hr⟩
    have hblt:=hI.fU hn
    have hrl:(dR f.blocks o k j).length=o.length:=by simp [dR]
    have anb:ac (nth TV.hole [I ((blk o n:Nat):Int)] 0)=some (blk o n):=ah (by omega)
    have ann:ac (nth TV.hole [I ((n:Nat):Int)] 0)=some n:=ah (by omega)
    have c9:(Bool.and (slSize w6 1) (Nat.blt (blk o n) M.length))=true:=by rw [hM.slSize]; simp; omega
    unfold f74_3
    refine aa.tv rfl (aa.ite (bB hjl) (fun _=>?_) nofun)
    refine aa.nat hvr.slLen (aa.nat (ah (by omega)) (aa.chk ?_ (aa.tvs he1 (aa.chk rfl ?_))))
    ·rw [hvr.slSize]; simpa using hjl
    refine aa.nat hM.slLen (aa.nat anb (aa.chk c9 (aa.tvs he2 (aa.chk rfl ?_))))
    refine aa.nat hM.slLen (aa.nat anb (aa.chk c9 (aa.tvs he2 (aa.chk rfl ?_))))
    refine aa.nat hw.slLen (aa.nat ann (aa.chk ?_ (aa.tvs he3 (aa.chk (aJ hu.isSl) (aa.chk rfl (aa.rws rfl ?_))))))
    ·rw [hw.slSize,hrl]; simpa using hn
    refine aa.tv (hw.deep he3 (j:=0) (z:=u) rfl) (aa.tv hu1 (aa.tv t1 ?_))
    refine aa.nat t2 (aa.nat ann (aa.chk ?_ (aa.tvs t4 (aa.chk ?_ (aa.tv s1 (aa.tv (inc hjl (by omega)) (f74_3_J hy)))))))
    ·rw [t3,hrl]; simpa using hn
    ·rw [aJ hu2.isSl]; rfl
  obtain ⟨y,hy,hr⟩:=inner _ 0 w (Nat.zero_add _) hw
  refine ⟨y,?_,hr⟩
  unfold f74_2
  exact aa.tv rfl (aa.ite (bB hkl) (fun _=>aa.tvs he (aa.chk rfl (aa.call hv (aa.chk (aJ hvr.isSl) (aa.tv hvr.len (f74_3_J hy)))))) nofun)
theorem befOf:∀ (d k:Nat) (w:TV) (M:List Int),k + d=o.length->RInts (some true) w M->M.length=f.blocks.length->(∀ n,n < k->M[blk o n]? = some ((n:Nat):Int)) ->
  ∃ y,aa prog 74 (f74_0 x x (I o.length) (I k) (I f.params) (I f.regs) b w) y/\RL (some true) 1 (RIL (some true)) y ((List.range o.length).map (prL f.blocks o)):=by
 intro d
 induction d with
 | zero =>
  intro k w M hk hw hl hm
  have hk:k=o.length:=by omega
  subst hk
  obtain ⟨y,hy,hr⟩:=Ew hf hs hx hI hol hw hl hm o.length 0 _ (by omega) (by rw [wl]; exact ss (n:=o.length) (by omega))
  refine ⟨y,?_,hr⟩
  unfold f74_0
  refine aa.tv rfl (aa.ite bA nofun fun _=>f74_1_J ?_)
  have hn:ac (I (o.length:Nat))=some o.length:=ah (by omega)
  unfold f74_1
  exact aa.tv hx.len (aa.nat hn (aa.nat hn (aa.chk (by simp; omega) (aa.tv hx.len (f74_2_J hy)))))
 | succ d ih =>
  intro k w M hk hw hl hm
  have hkl:k < o.length:=by omega
  obtain ⟨e,he,rfl,hei⟩:=hx.idx (k:=.i64) (hI.at_ hkl)
  have hblt:=hI.fU hkl
  have hbM:blk o k < M.length:=by omega
  obtain ⟨e2,he2,rfl,_⟩:=hw.pel (E8 hbM)
  obtain ⟨w',c1,c2⟩:=hw.i6 he2 (d:=0) (ys:=[I k]) (a:=(k:Int)) ⟨rfl,by constructor <;> omega⟩
  obtain ⟨y,hy,hr⟩:=ih (k + 1) w' _ (by omega) c2 (by simpa using hl) (fun n hn=>by
   by_cases e:n=k
   ·subst e; exact List.getElem?_set_self hbM
   ·rw [List.getElem?_set_ne (fun h=>e (hI.inj (by omega) hkl h.symm))]
    exact hm n (by omega))
  refine ⟨y,?_,hr⟩
  unfold f74_0
  refine aa.tv rfl (aa.ite (bB hkl) (fun _=>aa.tvs he (aa.chk rfl ?_)) nofun)
  refine aa.nat hw.slLen (aa.nat (ah (by omega)) (aa.chk ?_ (aa.chk rfl (aa.tvs he2 (aa.chk rfl (aa.tv c1 (aa.tv (inc hkl (by omega)) (f74_0_J hy))))))))
  rw [hw.slSize]; simpa using hbM
end
theorem Cj {q:Option Bool} {e:List TV} {f:DFunc} (he:RFunc q e f) (hs:f.blocks.length<=1000) {x:TV} {o:List Int} {qx:Option Bool} (hx:RInts qx x o) (hI:OI f.blocks o) (hol:o.length<=1000) :
  ∃ y,bj prog 74 [.agg e,x] y/\RL (some true) 1 (RIL (some true)) y ((List.range o.length).map (prL f.blocks o)):=by
 have he0:=he
 obtain ⟨b,rfl,hb,_⟩:=he
 obtain ⟨y,hy,hr⟩:=befOf he0 hs hx hI hol o.length 0 _ _ (by omega) (lN (n:=f.blocks.length) (a:=0) ⟨by decide,by decide⟩ (by omega)) (by simp) (fun n hn=>absurd hn (Nat.not_lt_zero _))
 refine ⟨y,?_,hr⟩
 have hn:ac (I (f.blocks.length:Nat))=some f.blocks.length:=ah (by omega)
 refine bj.of (f74_MR _ _) ?_
 unfold f74_M
 exact aa.chk rfl (aa.tv hb.len (aa.nat hn (aa.nat hn (aa.chk (by simp; omega) (aa.tv hx.len (f74_0_J hy))))))
end Go.Ab.Q12
end

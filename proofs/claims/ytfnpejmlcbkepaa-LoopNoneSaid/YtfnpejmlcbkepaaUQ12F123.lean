import Derived.Test.YtfnpejmlcbkepaaUQ12F139
import Derived.Test.YtfnpejmlcbkepaaUX8
set_option linter.all false
section
set_option maxRecDepth 10000
namespace Go.Ab
def chT (T:Nat->Nat) (S:Nat->Nat) (p:Nat):Nat->Nat
 | 0=>0
 | j + 1=>chT T S p j + (if j≠0/\T j=p then S j else 0)
def chU (T:Nat->Nat) (S:Nat->Nat) (N p:Nat):Nat->Nat
 | 0=>0
 | k + 1=>chU T S N p k + (if N - 1 - k≠0/\T (N - 1 - k)=p then S (N - 1 - k) else 0)
theorem tF {T S S':Nat->Nat} {N p:Nat}:∀ {k:Nat},k<=N->(∀ m,N - k<=m->m < N->S m=S' m)->chU T S N p k=chU T S' N p k
 | 0,_,_=>rfl
 | k + 1,hk,h=>by
  simp only [chU]
  rw [tF (k:=k) (by omega) (fun m h1 h2=>h m (by omega) h2),h (N - 1 - k) (by omega) (by omega)]
theorem wF {T S:Nat->Nat} {N p:Nat}:∀ {k:Nat},k<=N->chT T S p N=chT T S p (N - k) + chU T S N p k
 | 0,_=>by simp [chU]
 | k + 1,hk=>by
  rw [wF (k:=k) (by omega),show N - k=(N - 1 - k) + 1 by omega]
  simp only [chT,chU]
  rw [show N - (k + 1)=N - 1 - k by omega]
  omega
theorem oq {T S:Nat->Nat} {p:Nat}:∀ {i j:Nat},i<=j->chT T S p i<=chT T S p j:=by
 intro i j h
 induction j with
 | zero=>rw [show i=0 by omega]; exact Nat.le_refl _
 | succ j ih =>
  by_cases e:i=j + 1
  ·rw [e]; exact Nat.le_refl _
  ·simp only [chT]; have:=ih (by omega); omega
structure nL (T:Nat->Nat) (N k:Nat) (c:Nat->Nat):Prop where
 at_:∀ p,p < N->c p=(if N - k<=p then 1 else 0) + chU T c N p k
 bnd:∀ p,p < N->c p < 2 ^ k
theorem nL.start (T:Nat->Nat) (N:Nat):nL T N 0 fun _=>0:=⟨fun p hp=>by rw [if_neg (by omega)]; rfl,fun p _=>by simp⟩
def lM (T:Nat->Nat) (i:Nat) (c:Nat->Nat):Nat->Nat :=
 if i≠0 then gh (gh c i (c i + 1)) (T i) (c (T i) + (c i + 1)) else gh c i (c i + 1)
theorem nL.next {T:Nat->Nat} {N k:Nat} {c:Nat->Nat} (hT:Low N T) (h:nL T N k c) (hk:k < N):nL T N (k + 1) (lM T (N - 1 - k) c):=by
 obtain ⟨i,hi⟩:∃ i,i=N - 1 - k:=⟨_,rfl⟩
 rw [<- hi]
 have hiN:i < N:=by omega
 have hlow:i≠0->T i < i:=fun h0=>hT i h0 hiN
 have heq:∀ m,i < m->lM T i c m=c m:=fun m hm=>by
  unfold lM
  split
  ·rename_i h0
   rw [aH (by have:=hlow h0; omega),aH (by omega)]
  ·rw [aH (by omega)]
 have hself:lM T i c i=c i + 1:=by
  unfold lM
  split
  ·rename_i h0
   rw [aH (by have:=hlow h0; omega),aN]
  ·rw [aN]
 refine ⟨fun p hp=>?_,fun p hp=>?_⟩
 ·simp only [chU]
  rw [<- hi,tF (S':=c) (by omega) (fun m h1 h2=>heq m (by omega)),hself]
  have hc:=h.at_ p hp
  have hx:(N - (k + 1)<=p) ↔ (N - k<=p\/p=i):=by omega
  have one:∀ (A B:Prop) [Decidable A] [Decidable B],(A ↔ B)->(if A then 1 else 0)=(if B then 1 else (0:Nat)):=fun A B _ _ h=>by
   by_cases hA:A
   ·rw [if_pos hA,if_pos (h.1 hA)]
   ·rw [if_neg hA,if_neg (fun hB=>hA (h.2 hB))]
  rw [one _ _ hx]
  by_cases hpi:p=i
  ·have e1:¬ N - k<=p:=by omega
   have e2:¬ (i≠0/\T i=p):=fun e=>by have:=hlow e.1; omega
   have e3:N - k<=p\/p=i:=.inr hpi
   rw [if_neg e1] at hc
   rw [if_pos e3,if_neg e2,hpi,hself,<- hpi,hc]
   omega
  ·by_cases hpt:i≠0/\T i=p
   ·have hl:=hlow hpt.1
    have e1:¬ N - k<=p:=by omega
    have e3:¬ (N - k<=p\/p=i):=by omega
    have:lM T i c p=c p + (c i + 1):=by
     unfold lM
     rw [if_pos hpt.1,<- hpt.2,aN]
    rw [if_neg e1] at hc
    rw [if_neg e3,if_pos hpt,this,hc]
    omega
   ·have:lM T i c p=c p:=by
     unfold lM
     split
     ·rename_i h0
      rw [aH (fun e=>hpt ⟨h0,e.symm⟩),aH hpi]
     ·rw [aH hpi]
    have e3:(N - k<=p\/p=i) ↔ N - k<=p:=by omega
    rw [one _ _ e3,if_neg hpt,this,hc]
    omega
 ·have h1:=h.bnd p hp
  have h2:=h.bnd i hiN
  have h3:2 ^ (k + 1)=2 * 2 ^ k:=by rw [Nat.pow_succ]; omega
  unfold lM
  split
  ·rename_i h0
   have h4:=h.bnd (T i) (by have:=hlow h0; omega)
   unfold gh
   split
   ·omega
   ·split <;> omega
  ·unfold gh
   split <;> omega
theorem nL.done {T:Nat->Nat} {N:Nat} {c:Nat->Nat} (h:nL T N N c) {p:Nat} (hp:p < N):c p=1 + chT T c p N:=by
 rw [h.at_ p hp,if_pos (by omega),wF (S:=c) (Nat.le_refl N),Nat.sub_self]
 simp [chT]
structure PlI (T S:Nat->Nat) (N j:Nat) (fs fr:Nat->Nat):Prop where
 fr:∀ p,p < j->fr p=fs p + 1 + chT T S p j
 fs:∀ m,m≠0->m < j->fs m=fs (T m) + 1 + chT T S (T m) m
def fsS (T:Nat->Nat) (j:Nat) (fs fr:Nat->Nat):Nat->Nat:=if j≠0 then gh fs j (fr (T j)) else fs
def frS (T S:Nat->Nat) (j:Nat) (fs fr:Nat->Nat):Nat->Nat:=gh (if j≠0 then gh fr (T j) (fr (T j) + S j) else fr) j (fsS T j fs fr j + 1)
theorem PlI.start (T S:Nat->Nat) (N:Nat) (fs fr:Nat->Nat):PlI T S N 0 fs fr:=⟨fun p h=>by omega,fun m _ h=>by omega⟩
theorem wQ {T S:Nat->Nat} {N:Nat} (hT:Low N T) {p:Nat}:∀ {j:Nat},j<=p + 1->j<=N->chT T S p j=0
 | 0,_,_=>rfl
 | j + 1,h,hN=>by
  simp only [chT]
  rw [wQ hT (by omega) (by omega),if_neg (fun e=>by have:=hT j e.1 (by omega); omega)]
theorem PlI.next {T S:Nat->Nat} {N j:Nat} {fs fr:Nat->Nat} (hT:Low N T) (h:PlI T S N j fs fr) (hj:j < N):PlI T S N (j + 1) (fsS T j fs fr) (frS T S j fs fr):=by
 have hlow:j≠0->T j < j:=fun h0=>hT j h0 hj
 have hfs:∀ m,m≠j->fsS T j fs fr m=fs m:=fun m hm=>by
  unfold fsS
  split
  ·exact aH hm
  ·rfl
 refine ⟨fun p hp=>?_,fun m h0 hm=>?_⟩
 ·by_cases e:p=j
  ·subst e
   unfold frS
   rw [aN,wQ hT (by omega) (by omega)]
  ·have hpj:p < j:=by omega
   rw [hfs p e]
   unfold frS
   rw [aH e]
   simp only [chT]
   split
   ·rename_i h0
    by_cases e2:p=T j
    ·subst e2
     rw [aN,if_pos ⟨h0,rfl⟩,h.fr _ hpj]
     omega
    ·rw [aH e2,if_neg (fun e=>e2 e.2.symm),h.fr p hpj]
     omega
   ·rename_i h0
    rw [if_neg (fun e=>h0 e.1),h.fr p hpj]
    omega
 ·by_cases e:m=j
  ·subst e
   have hl:=hlow h0
   rw [hfs (T m) (by omega)]
   unfold fsS
   rw [if_pos h0,aN,h.fr _ hl]
  ·have hl:=hT m h0 (by omega)
   rw [hfs m e,hfs (T m) (by omega)]
   exact h.fs m h0 (by omega)
structure Spn (T S fs:Nat->Nat) (N:Nat):Prop where
 low:Low N T
 pos:∀ p,p < N->0 < S p
 in_:∀ m,m≠0->m < N->fs (T m) < fs m/\fs m + S m<=fs (T m) + S (T m)
 sib:∀ m m',m≠0->m < m'->m' < N->T m=T m'->fs m + S m<=fs m'
theorem Spn.of {T S fs fr:Nat->Nat} {N:Nat} (hT:Low N T) (hc:nL T N N S) (hp:PlI T S N N fs fr):Spn T S fs N:=by
 have step:∀ {m},m≠0->chT T S (T m) (m + 1)=chT T S (T m) m + S m:=fun {m} h0=>by simp [chT,h0]
 refine ⟨hT,fun p hp=>by rw [hc.done hp]; omega,fun m h0 hm=>?_,fun m m' h0 hlt hm e=>?_⟩
 ·have hl:=hT m h0 hm
  have h1:=hp.fs m h0 hm
  have h2:=hc.done (p:=T m) (by omega)
  have h3:=oq (T:=T) (S:=S) (p:=T m) (i:=m + 1) (j:=N) (by omega)
  rw [step h0] at h3
  omega
 ·have h1:=hp.fs m h0 (by omega)
  have h2:=hp.fs m' (by omega) hm
  have h3:=oq (T:=T) (S:=S) (p:=T m) (i:=m + 1) (j:=m') (by omega)
  rw [step h0] at h3
  rw [<- e] at h2
  omega
theorem Spn.up {T S fs:Nat->Nat} {N:Nat} (h:Spn T S fs N) {b a:Nat} (hu:Up T b a):b < N->fs a<=fs b/\fs b + S b<=fs a + S a:=by
 induction hu with
 | refl=>intro _; exact ⟨Nat.le_refl _,Nat.le_refl _⟩
 | @step n x h0 _ ih =>
  intro hn
  have hl:=h.low n h0 hn
  obtain ⟨i1,i2⟩:=h.in_ n h0 hn
  obtain ⟨j1,j2⟩:=ih (by omega)
  omega
theorem Spn.apart {T S fs:Nat->Nat} {N:Nat} (h:Spn T S fs N):∀ (d a b:Nat),a + b<=d->a < N->b < N->¬ Up T a b->¬ Up T b a->fs a + S a<=fs b\/fs b + S b<=fs a:=by
 have root:∀ a,a < N->Up T a 0:=by
  intro a
  induction a using Nat.strongRecOn with
  | _ a ih =>
   intro ha
   by_cases h0:a=0
   ·subst h0; exact .refl
   ·exact .step h0 (ih (T a) (h.low a h0 ha) (by have:=h.low a h0 ha; omega))
 have key : ∀ (d : Nat), (∀ a b : Nat, a + b ≤ d → a < N → b < N → ¬ Up T a b → ¬ Up T b a → fs a + S a ≤ fs b ∨ fs b + S b ≤ fs a) → ∀ a b : Nat, a + b ≤ d + 1 → b < a → a < N → b < N → ¬ Up T a b → ¬ Up T b a → fs a + S a ≤ fs b ∨ fs b + S b ≤ fs a := by
  intro d ih a b hd hba ha hb h1 h2
  have ha0:a≠0:=by omega
  have hb0:b≠0:=fun e=>h1 (by rw [e]; exact root a ha)
  have hla:=h.low a ha0 ha
  have hlb:=h.low b hb0 hb
  obtain ⟨ia1,ia2⟩:=h.in_ a ha0 ha
  obtain ⟨ib1,ib2⟩:=h.in_ b hb0 hb
  by_cases e:T a=T b
  ·exact .inr (h.sib b a hb0 hba ha e.symm)
  ·by_cases hu:Up T b (T a)
   ·have hu2:Up T (T b) (T a):=by
     by_cases e3:T a=b
     ·exact absurd (.step ha0 (by rw [e3]; exact .refl)) h1
     ·exact (hu.inv e3).2
    have n1:¬ Up T a (T b):=fun hx=>by
     by_cases e4:T b=a
     ·exact h2 (.step hb0 (by rw [e4]; exact .refl))
     ·have hy:=(hx.inv e4).2
      have:=hy.le h.low (by omega)
      have:=hu2.le h.low (by omega)
      exact e (by omega)
    have n2:¬ Up T (T b) a:=fun hx=>h2 (.step hb0 hx)
    rcases ih a (T b) (by omega) ha (by omega) n1 n2 with h3 | h3
    ·exact .inl (by omega)
    ·exact .inr (by omega)
   ·have n1:¬ Up T (T a) b:=fun hx=>h1 (.step ha0 hx)
    rcases ih (T a) b (by omega) (by omega) hb n1 hu with h3 | h3
    ·exact .inl (by omega)
    ·exact .inr (by omega)
 intro d
 induction d with
 | zero =>
  intro a b hd ha hb h1 h2
  have:a=b:=by omega
  subst this
  exact absurd .refl h1
 | succ d ih =>
  intro a b hd ha hb h1 h2
  by_cases e:a=b
  ·subst e; exact absurd .refl h1
  ·by_cases hlt:b < a
   ·exact key d ih a b hd hlt ha hb h1 h2
   ·exact (key d ih b a (by omega) (by omega) hb ha h2 h1).symm
theorem Spn.iff {T S fs:Nat->Nat} {N:Nat} (h:Spn T S fs N) {a b:Nat} (ha:a < N) (hb:b < N):(fs a<=fs b/\fs b < fs a + S a) ↔ Up T b a:=by
 constructor
 ·rintro ⟨h1,h2⟩
  have hpb:=h.pos b hb
  have hpa:=h.pos a ha
  by_cases hu:Up T b a
  ·exact hu
  ·exfalso
   by_cases hv:Up T a b
   ·by_cases e:a=b
    ·subst e; exact hu .refl
    ·have:∀ {a:Nat},Up T a b->a≠b->a < N->fs b < fs a:=by
      intro a hv hne ha
      obtain ⟨h0,hw⟩:=hv.inv (Ne.symm hne)
      have:=(h.in_ a h0 ha).1
      have:=(h.up hw (by have:=h.low a h0 ha; omega)).1
      omega
     have:=this hv e ha
     omega
   ·rcases h.apart (a + b) a b (Nat.le_refl _) ha hb hv hu with h3 | h3 <;> omega
 ·intro hu
  obtain ⟨h1,h2⟩:=h.up hu hb
  have:=h.pos b hb
  omega
end Go.Ab
end
section
set_option maxRecDepth 10000
namespace Go.Ab
theorem lG {a b:Int} (h1:-9223372036854775808<=a + b) (h2:a + b<=9223372036854775807):pbin (Kd.int IntKind.i64) BinOp.add (I a) (I b)=some (I (a + b)):=by
 show some (I (IntKind.wrap .i64 (a + b)))=_
 rw [show IntKind.wrap .i64 (a + b)=a + b by rw [IntKind.wrap_i64]; omega]
theorem lj {a b:Int} (h1:-9223372036854775808<=a - b) (h2:a - b<=9223372036854775807):pbin (Kd.int IntKind.i64) BinOp.sub (I a) (I b)=some (I (a - b)):=by
 show some (I (IntKind.wrap .i64 (a - b)))=_
 rw [show IntKind.wrap .i64 (a - b)=a - b by rw [IntKind.wrap_i64]; omega]
theorem qO {n:Nat} {a:Int} (ha:inI a) (h:n<=9223372036854775807):RArr (.sl true 1 (List.replicate n [I a])) n fun _=>a:=by
 show RInts (some true) _ (dj n fun _=>a)
 rw [<- nZ]
 exact kZ ha h
theorem A6 {n:Nat} (h:n<=9223372036854775807):RBArr (.sl true 1 (List.replicate n [B false])) n fun _=>false:=by
 show RBools (some true) _ (dj n fun _=>false)
 rw [<- nZ]
 exact zZ h
theorem RL.cK {α:Type} {q:Option Bool} {s:Nat} {R:List TV->α->Prop} {x:TV} {l:List α} (h:RL q s R x l):x.cK=true:=by
 rcases h with ⟨rfl,rfl⟩ | ⟨o,xs,rfl,_⟩
 ·rfl
 ·rfl
def Rk (o:List Int) (g:Nat->Int) (c:Nat->Nat):Prop:=∀ i,i < o.length->g (blk o i)=((c i:Nat):Int)
theorem Rk.upd {bs:List DBlock} {o:List Int} {g:Nat->Int} {c:Nat->Nat} (hI:OI bs o) (h:Rk o g c) {n v:Nat} (hn:n < o.length):Rk o (gh g (blk o n) ((v:Nat):Int)) (gh c n v):=by
 intro i hi
 by_cases e:i=n
 ·subst e; rw [aN,aN]
 ·rw [aH e,aH (fun e2=>e (hI.inj hi hn e2)),h i hi]
structure OvT (bs:List DBlock) (o:List Int) (T:Nat->Nat):Prop where
 low:Low o.length T
 ov:∀ n,n≠0->n < o.length->ovN bs (blk o n)=((blk o (T n):Nat):Int)
 up:∀ n x,n < o.length->x < o.length->(Dm bs (blk o x) (blk o n) ↔ Up T n x)
theorem OI.blk0 {bs:List DBlock} {o:List Int} (hI:OI bs o) {n:Nat} (hn:n < o.length):blk o n=0 ↔ n=0:=by
 have hb:bs≠[]:=fun e=>by have:=hI.gS hn; rw [e] at this; cases this
 obtain ⟨z1,z2⟩:=hI.zero hb
 constructor
 ·intro e; exact hI.inj hn z1 (by rw [e,z2])
 ·rintro rfl; exact z2
theorem OvT.ex {bs:List DBlock} {o:List Int} (hI:OI bs o):∃ T,OvT bs o T:=by
 have step:∀ n,∃ t,n≠0->n < o.length->t < n/\Nx bs (blk o t) (blk o n):=by
  intro n
  by_cases h:n≠0/\n < o.length
  ·obtain ⟨a,ha⟩:=Nx.ex (hI.rc h.2) (fun e=>h.1 ((hI.blk0 h.2).1 e))
   obtain ⟨t,ht,rfl⟩:=hI.rank ha.2.1.up
   refine ⟨t,fun _ _=>⟨?_,ha⟩⟩
   have h1:=hI.xL ht n h.2 ha.2.1
   have h2:t≠n:=fun e=>ha.1 (by rw [e])
   omega
  ·exact ⟨0,fun h0 hn=>absurd ⟨h0,hn⟩ h⟩
 refine ⟨fun n=>(step n).choose,fun n h0 hn=>((step n).choose_spec h0 hn).1,fun n h0 hn=>Bx ((step n).choose_spec h0 hn).2,?_⟩
 generalize hT:(fun n=>(step n).choose)=T
 have sp:∀ n,n≠0->n < o.length->T n < n/\Nx bs (blk o (T n)) (blk o n):=fun n h0 hn=>by
  rw [<- hT]; exact (step n).choose_spec h0 hn
 intro n
 induction n using Nat.strongRecOn with
 | _ n ih =>
  intro x hn hx
  constructor
  ·intro h
   by_cases e:x=n
   ·subst e; exact .refl
   ·have h0:n≠0:=fun h0=>by
     have:=hI.xL hx n hn h
     omega
    obtain ⟨s1,s2⟩:=sp n h0 hn
    exact .step h0 ((ih (T n) s1 x (by omega) hx).1 (s2.2.2 _ (fun e2=>e (hI.inj hx hn e2)) h))
  ·intro h
   cases h with
   | refl=>exact .refl (hI.rc hn)
   | step h0 h =>
    obtain ⟨s1,s2⟩:=sp n h0 hn
    exact ((ih (T n) s1 x (by omega) hx).2 h).trans s2.2.1
theorem PlI.bnd {T S fs fr:Nat->Nat} {N j:Nat} (hT:Low N T) (hc:nL T N N S) (h:PlI T S N j fs fr) (hj:j<=N):∀ m,m < j->fs m + S m<=fs 0 + S 0:=by
 intro m
 induction m using Nat.strongRecOn with
 | _ m ih =>
  intro hm
  by_cases h0:m=0
  ·subst h0; exact Nat.le_refl _
  ·have hl:=hT m h0 (by omega)
   have h1:=h.fs m h0 hm
   have h2:=hc.done (p:=T m) (by omega)
   have h3:=oq (T:=T) (S:=S) (p:=T m) (i:=m + 1) (j:=N) (by omega)
   have h4:chT T S (T m) (m + 1)=chT T S (T m) m + S m:=by simp [chT,h0]
   have h5:=ih (T m) hl (by omega)
   omega
theorem PlI.frb {T S fs fr:Nat->Nat} {N j:Nat} (hT:Low N T) (hc:nL T N N S) (h:PlI T S N j fs fr) (hj:j<=N):∀ m,m < j->fr m<=fs 0 + S 0:=by
 intro m hm
 have h1:=h.bnd hT hc hj m hm
 have h2:=h.fr m hm
 have h3:=hc.done (p:=m) (by omega)
 have h4:=oq (T:=T) (S:=S) (p:=m) (i:=j) (j:=N) hj
 omega
def iv (q:Option Bool) (bs:List DBlock) (w1 w2:TV):Prop:=∃ F C:Nat->Int,RInts q w1 (dj bs.length F)/\RInts q w2 (dj bs.length C)/\∀ a b:Nat,Rc bs (-1) a->Rc bs (-1) b->0<=F a/\F a<=1152921504606846976/\0<=C a/\C a<=1152921504606846976/\((F a<=F b/\F b < F a + C a) ↔ Dm bs a b)
theorem iv.frz {q:Option Bool} {bs:List DBlock} {w1 w2:TV} (h:iv q bs w1 w2):iv (some false) bs (Ab.frz w1) (Ab.frz w2):=by
 obtain ⟨F,C,h1,h2,h3⟩:=h
 exact ⟨F,C,h1.frz fun _ _ h=>h.frz,h2.frz fun _ _ h=>h.frz,h3⟩
theorem iv.of {bs:List DBlock} {o:List Int} (hI:OI bs o) {T:Nat->Nat} (hT:OvT bs o T) {w1 w2:TV} {F C:Nat->Int} {c fs fr:Nat->Nat} (h1:RArr w1 bs.length F) (h2:RArr w2 bs.length C) (k1:Rk o F fs) (k2:Rk o C c) (hc:nL T o.length o.length c) (hp:PlI T c o.length o.length fs fr) (h0:fs 0=0) (hN:o.length<=30):iv (some true) bs w1 w2:=by
 have hs:=Spn.of hT.low hc hp
 refine ⟨F,C,h1,h2,fun a b ha hb=>?_⟩
 obtain ⟨i,hi,rfl⟩:=hI.rank ha
 obtain ⟨j,hj,rfl⟩:=hI.rank hb
 rw [k1 i hi,k2 i hi,k1 j hj,hT.up j i hj hi,<- hs.iff hi hj]
 have hb:=hp.bnd hT.low hc (Nat.le_refl _) i hi
 have hz:=hc.bnd 0 (by omega)
 have hpw:2 ^ o.length<=2 ^ 30:=Nat.pow_le_pow_right (by decide) hN
 refine ⟨by omega,by omega,by omega,by omega,?_⟩
 constructor
 ·rintro ⟨q1,q2⟩; exact ⟨by omega,by omega⟩
 ·rintro ⟨q1,q2⟩; exact ⟨by omega,by omega⟩
end Go.Ab
namespace Go.Ab.Q12
open Go Go.Ab Go.Proofs
section
variable {bs:List DBlock} {o:List Int} (hI:OI bs o) {T:Nat->Nat} (hT:OvT bs o T) (hN:o.length<=30) {qo qv:Option Bool} {x w:TV} (hx:RInts qo x o) (hw:RInts qv w (iC bs))
include hI hT hN hx hw
theorem C3 {w6:TV} {C:Nat->Int} {c:Nat->Nat} (h6:RArr w6 bs.length C) (k6:Rk o C c) (hc:nL T o.length o.length c):∀ (d j:Nat) (w3 w5:TV) (F G:Nat->Int) (fs fr:Nat->Nat),j + d=o.length->RArr w3 bs.length G->RArr w5 bs.length F->Rk o F fs->(∀ i,i < j->G (blk o i)=((fr i:Nat):Int))->PlI T c o.length j fs fr->fs 0=0 ->
  ∃ a b,aa prog 76 (f76_2 x (I (o.length:Nat)) (I j) w3 w w5 w6) (.agg [a,b])/\iv (some true) bs a b:=by
 intro d
 induction d with
 | zero =>
  intro j w3 w5 F G fs fr hj h3 h5 k5 k3 hP h0
  have hj:j=o.length:=by omega
  subst hj
  refine ⟨w5,w6,?_,iv.of hI hT h5 h6 k5 k6 hc hP h0 hN⟩
  unfold f76_2
  refine aa.tv rfl (aa.ite cM nofun fun _=>aa.chk ?_ aa.ret)
  have o0:=h5.own fun _ _ h=>h.own
  have o1:=h6.own fun _ _ h=>h.own
  simp [bG,df,o0,o1]
 | succ d ih =>
  intro j w3 w5 F G fs fr hj h3 h5 k5 k3 hP h0
  have hjl:j < o.length:=by omega
  have hbj:=hI.gS hjl
  have hP':=hP.next hT.low hjl
  have hB:=hP'.frb hT.low hc (by omega)
  have hz:fsS T j fs fr 0=0:=by
   unfold fsS
   split
   ·rename_i hj0; rw [aH (Ne.symm hj0)]; exact h0
   ·exact h0
  rw [hz] at hB
  have hpw:2 ^ o.length<=2 ^ 30:=Nat.pow_le_pow_right (by decide) hN
  have hc0:=hc.bnd 0 (by omega)
  have hbl:bs.length<=9223372036854775807:=by
   have:=h5.bnd
   simpa [aA] using this
  obtain ⟨e,he,rfl,_⟩:=hx.yN (k:=.i64) (n:=(j:Int)) (by omega) (by simpa using hI.at_ hjl)
  have rest:∀ (w3' w5':TV) (F' G':Nat->Int),RArr w3' bs.length G'->RArr w5' bs.length F'->Rk o F' (fsS T j fs fr)->(∀ i,i < j->G' (blk o i)=((frS T c j fs fr i:Nat):Int)) ->
    ∃ a b,aa prog 76 (f76_3 (I (blk o j:Nat)) x (I (o.length:Nat)) (I j) w3' w w5' w6) (.agg [a,b])/\iv (some true) bs a b:=by
   intro w3' w5' F' G' h3' h5' k5' k3'
   have hfj:frS T c j fs fr j=fsS T j fs fr j + 1:=by unfold frS; rw [aN]
   have hbj2:=hB j (by omega)
   rw [hfj] at hbj2
   have e1:F' (blk o j) + 1=((frS T c j fs fr j:Nat):Int):=by rw [k5' j hjl,hfj]; omega
   obtain ⟨g1,g2⟩:=h5'.get hbj
   obtain ⟨g3,g4⟩:=h3'.get hbj
   obtain ⟨w3'',c1,c2⟩:=h3'.set hbj (v:=((frS T c j fs fr j:Nat):Int)) ⟨by omega,by omega⟩
   obtain ⟨a,b,hy,hr⟩:=ih (j + 1) w3'' w5' F' _ _ _ (by omega) c2 h5' k5' (fun i hi=>by
    by_cases e:i=j
    ·subst e; rw [aN]
    ·rw [aH (fun e2=>e (hI.inj (by omega) hjl e2))]
     exact k3' i (by omega)) hP' hz
   refine ⟨a,b,?_,hr⟩
   have ann:af (I (blk o j:Nat))=some (blk o j):=ak (by omega)
   unfold f76_3
   refine aa.nat h5'.slLen (aa.nat ann (aa.chk ?_ (aa.tvs g1 (aa.chk rfl (aa.tv (lG (a:=F' (blk o j)) (b:=1) (by omega) (by omega)) ?_)))))
   ·rw [h5'.slSize]; simp [aA]; exact hbj
   rw [e1]
   refine aa.nat h3'.slLen (aa.nat ann (aa.chk ?_ (aa.tvs g3 (aa.chk rfl (aa.tv c1 (aa.tv (inc hjl (by omega)) (f76_2_J hy)))))))
   rw [h3'.slSize]; simp [aA]; exact hbj
  by_cases hj0:j=0
  ·subst hj0
   have hb0:=(hI.blk0 hjl).2 rfl
   obtain ⟨a,b,hy,hr⟩:=rest w3 w5 F G h3 h5 (by unfold fsS; rw [if_neg (fun h=>h rfl)]; exact k5) (fun i hi=>absurd hi (Nat.not_lt_zero _))
   refine ⟨a,b,?_,hr⟩
   unfold f76_2
   refine aa.tv rfl (aa.ite (cO hjl) (fun _=>aa.tvs he (aa.chk rfl (aa.tv (v:=B false) ?_ (aa.ite (v:=false) rfl nofun fun _=>f76_3_J hy)))) nofun)
   show some (B ((blk o 0:Int) != 0))=_
   rw [hb0]; rfl
  ·have hl:=hT.low j hj0 hjl
   have htl:T j < o.length:=by omega
   have hbt:=hI.gS htl
   have hnb:blk o j≠0:=fun e=>hj0 ((hI.blk0 hjl).1 e)
   have htb:blk o (T j)≠blk o j:=fun e=>by have:=hI.inj htl hjl e; omega
   obtain ⟨eo,ho,rfl,_⟩:=hw.pel (pl hbj)
   rw [hT.ov j hj0 hjl] at ho
   obtain ⟨g1,_⟩:=h3.get hbt
   obtain ⟨g2,_⟩:=h5.get hbj
   obtain ⟨g3,_⟩:=h6.get hbj
   have hft:fsS T j fs fr j=fr (T j):=by unfold fsS; rw [if_pos hj0,aN]
   have hGt:G (blk o (T j))=((fsS T j fs fr j:Nat):Int):=by rw [k3 _ hl,hft]
   have hfrt:frS T c j fs fr (T j)=fr (T j) + c j:=by unfold frS; rw [aH (by omega),if_pos hj0,aN]
   have hbt2:=hB (T j) (by omega)
   rw [hfrt] at hbt2
   have hsum:G (blk o (T j)) + C (blk o j)=((frS T c j fs fr (T j):Nat):Int):=by rw [hGt,k6 j hjl,hfrt,hft]; omega
   obtain ⟨w5',c1,c2⟩:=h5.set hbj (v:=((fsS T j fs fr j:Nat):Int)) ⟨by omega,by omega⟩
   obtain ⟨w3',c3,c4⟩:=h3.set hbt (v:=((frS T c j fs fr (T j):Nat):Int)) ⟨by omega,by omega⟩
   obtain ⟨a,b,hy,hr⟩:=rest w3' w5' _ _ c4 c2 (fun i hi=>by
    by_cases e:i=j
    ·subst e; rw [aN]
    ·rw [aH (fun e2=>e (hI.inj hi hjl e2)),k5 i hi]
     unfold fsS
     rw [if_pos hj0,aH e]) (fun i hi=>by
    by_cases e:i=T j
    ·subst e; rw [aN]
    ·rw [aH (fun e2=>e (hI.inj (by omega) htl e2)),k3 i hi]
     unfold frS
     rw [aH (by omega),if_pos hj0,aH e])
   refine ⟨a,b,?_,hr⟩
   have anj:af (I (blk o j:Nat))=some (blk o j):=ak (by omega)
   have ant:af (I (blk o (T j):Nat))=some (blk o (T j)):=ak (by omega)
   have s3:(Bool.and (slSize w3 1) (Nat.blt (blk o (T j)) (dj bs.length G).length))=true:=by rw [h3.slSize]; simp [aA]; exact hbt
   have sw:(Bool.and (slSize w 1) (Nat.blt (blk o j) (iC bs).length))=true:=by rw [hw.slSize]; simp [pd]; exact hbj
   have s5:(Bool.and (slSize w5 1) (Nat.blt (blk o j) (dj bs.length F).length))=true:=by rw [h5.slSize]; simp [aA]; exact hbj
   have s6:(Bool.and (slSize w6 1) (Nat.blt (blk o j) (dj bs.length C).length))=true:=by rw [h6.slSize]; simp [aA]; exact hbj
   rw [hGt] at g1
   unfold f76_2
   refine aa.tv rfl (aa.ite (cO hjl) (fun _=>aa.tvs he (aa.chk rfl (aa.tv (v:=B true) ?_ (aa.ite (v:=true) rfl (fun _=>?_) nofun)))) nofun)
   ·show some (B ((blk o j:Int) != 0))=_
    have:((blk o j:Int) != 0)=true:=by simp; omega
    rw [this]
   refine aa.nat hw.slLen (aa.nat anj (aa.chk sw (aa.tvs ho (aa.chk rfl (aa.nat h3.slLen (aa.nat ant (aa.chk s3 (aa.tvs g1 (aa.chk rfl (aa.nat h5.slLen (aa.nat anj (aa.chk s5 (aa.tvs g2 (aa.chk rfl (aa.tv c1 ?_)))))))))))))))
   refine aa.nat hw.slLen (aa.nat anj (aa.chk sw (aa.tvs ho (aa.chk rfl (aa.nat h3.slLen (aa.nat ant (aa.chk s3 (aa.tvs g1 (aa.chk rfl (aa.nat h6.slLen (aa.nat anj (aa.chk s6 (aa.tvs g3 (aa.chk rfl (aa.tv (lG (a:=((fsS T j fs fr j:Nat):Int)) (b:=C (blk o j)) (by rw [<- hGt]; omega) (by rw [<- hGt]; omega)) ?_)))))))))))))))
   rw [<- hGt,hsum]
   rw [<- hGt] at g1
   exact aa.nat h3.slLen (aa.nat ant (aa.chk s3 (aa.tvs g1 (aa.chk rfl (aa.tv c3 (f76_3_J hy))))))
theorem DR {w5 y2 y3:TV} {F0:Nat->Int} (h5:RArr w5 bs.length F0) (hF:F0=fun _=>0) (hbl:bs.length<=1000):∀ (i:Nat) (w6:TV) (C:Nat->Int) (c:Nat->Nat),i<=o.length->RArr w6 bs.length C->Rk o C c->nL T o.length (o.length - i) c ->
  ∃ a b,aa prog 76 (f76_0 (I ((i:Int) - 1)) x y2 y3 w w5 w6 x (I (bs.length:Nat))) (.agg [a,b])/\iv (some true) bs a b:=by
 intro i
 induction i with
 | zero =>
  intro w6 C c _ h6 k6 hc
  obtain ⟨a,b,hy,hr⟩:=C3 hI hT hN hx hw h6 k6 hc o.length 0 _ w5 F0 (fun _=>0) (fun _=>0) (fun _=>0) (by omega) (qO (n:=bs.length) (a:=0) ⟨by decide,by decide⟩ (by omega)) h5 (by subst hF; exact fun _ _=>rfl) (fun i hi=>absurd hi (Nat.not_lt_zero _)) (PlI.start T c o.length _ _) rfl
  refine ⟨a,b,?_,hr⟩
  unfold f76_0
  refine aa.tv rfl (aa.ite (v:=false) (by simp [asBool]) nofun fun _=>f76_1_J ?_)
  have hn:af (I (bs.length:Nat))=some bs.length:=ak (by omega)
  unfold f76_1
  exact aa.nat hn (aa.nat hn (aa.chk (by simp; omega) (aa.tv hx.len (f76_2_J hy))))
 | succ i ih =>
  intro w6 C c hi h6 k6 hc
  have hil:i < o.length:=by omega
  have hbi:=hI.gS hil
  have hsub:o.length - 1 - (o.length - (i + 1))=i:=by omega
  have hc':=hc.next hT.low (by omega)
  rw [hsub,show o.length - (i + 1) + 1=o.length - i by omega] at hc'
  have hpw:2 ^ (o.length - i)<=2 ^ 30:=Nat.pow_le_pow_right (by decide) (by omega)
  have hB:=hc'.bnd
  have e1:(((i + 1:Nat):Int) - 1)=(i:Int):=by omega
  rw [e1]
  obtain ⟨e,he,rfl,_⟩:=hx.yN (k:=.i64) (n:=(i:Int)) (by omega) (by simpa using hI.at_ hil)
  have ani:af (I (blk o i:Nat))=some (blk o i):=ak (by omega)
  obtain ⟨g1,_⟩:=h6.get hbi
  have s6:(Bool.and (slSize w6 1) (Nat.blt (blk o i) (dj bs.length C).length))=true:=by rw [h6.slSize]; simp [aA]; exact hbi
  have hb1:=hB i hil
  have hlow:i≠0->T i < i:=fun h0=>hT.low i h0 hil
  have hself:lM T i c i=c i + 1:=by
   unfold lM
   split
   ·rename_i h0
    rw [aH (by have:=hlow h0; omega),aN]
   ·rw [aN]
  rw [hself] at hb1
  have hci:C (blk o i)=((c i:Nat):Int):=k6 i hil
  have e2:C (blk o i) + 1=(((c i + 1:Nat)):Int):=by omega
  obtain ⟨w6',c1,c2⟩:=h6.set hbi (v:=((c i + 1:Nat):Int)) ⟨by omega,by omega⟩
  have k6':=k6.upd hI hil (v:=c i + 1)
  by_cases hi0:i=0
  ·have hb0:blk o i=0:=(hI.blk0 hil).2 hi0
   obtain ⟨a,b,hy,hr⟩:=ih w6' _ (gh c i (c i + 1)) (by omega) c2 k6' (by
    have:=hc'
    unfold lM at this
    rw [if_neg (fun h=>h hi0)] at this
    exact this)
   refine ⟨a,b,?_,hr⟩
   unfold f76_0
   refine aa.tv rfl (aa.ite (v:=true) (by simp [asBool]) (fun _=>aa.tvs he (aa.chk rfl ?_)) nofun)
   refine aa.nat h6.slLen (aa.nat ani (aa.chk s6 (aa.tvs g1 (aa.chk rfl (aa.tv (lG (a:=C (blk o i)) (b:=1) (by omega) (by omega)) ?_)))))
   rw [e2]
   refine aa.nat h6.slLen (aa.nat ani (aa.chk s6 (aa.tvs g1 (aa.chk rfl (aa.tv c1 (aa.tv (v:=B false) ?_ (aa.ite (v:=false) rfl nofun fun _=>aa.tv (lj (a:=(i:Int)) (b:=1) (by omega) (by omega)) (f76_0_J hy))))))))
   show some (B ((blk o i:Int) != 0))=_
   rw [hb0]; rfl
  ·have hl:=hlow hi0
   have htl:T i < o.length:=by omega
   have hbt:=hI.gS htl
   have hnb:blk o i≠0:=fun e=>hi0 ((hI.blk0 hil).1 e)
   have htb:blk o (T i)≠blk o i:=fun e=>by have:=hI.inj htl hil e; omega
   have ant:af (I (blk o (T i):Nat))=some (blk o (T i)):=ak (by omega)
   obtain ⟨eo,ho,rfl,_⟩:=hw.pel (pl hbi)
   rw [hT.ov i hi0 hil] at ho
   obtain ⟨g2,_⟩:=c2.get hbt
   obtain ⟨g3,_⟩:=c2.get hbi
   rw [aH htb,k6 _ htl] at g2
   rw [aN] at g3
   have hct:lM T i c (T i)=c (T i) + (c i + 1):=by unfold lM; rw [if_pos hi0,aN]
   have hb2:=hB (T i) htl
   rw [hct] at hb2
   obtain ⟨w6'',c3,c4⟩:=c2.set hbt (v:=((c (T i) + (c i + 1):Nat):Int)) ⟨by omega,by omega⟩
   obtain ⟨a,b,hy,hr⟩:=ih w6'' _ (lM T i c) (by omega) c4 (by
    unfold lM
    rw [if_pos hi0]
    exact k6'.upd hI htl) hc'
   refine ⟨a,b,?_,hr⟩
   have sw:(Bool.and (slSize w 1) (Nat.blt (blk o i) (iC bs).length))=true:=by rw [hw.slSize]; simp [pd]; exact hbi
   have st:(Bool.and (slSize w6' 1) (Nat.blt (blk o (T i)) (dj bs.length (gh C (blk o i) ((c i + 1:Nat):Int))).length))=true:=by rw [c2.slSize]; simp [aA]; exact hbt
   have sj:(Bool.and (slSize w6' 1) (Nat.blt (blk o i) (dj bs.length (gh C (blk o i) ((c i + 1:Nat):Int))).length))=true:=by rw [c2.slSize]; simp [aA]; exact hbi
   unfold f76_0
   refine aa.tv rfl (aa.ite (v:=true) (by simp [asBool]) (fun _=>aa.tvs he (aa.chk rfl ?_)) nofun)
   refine aa.nat h6.slLen (aa.nat ani (aa.chk s6 (aa.tvs g1 (aa.chk rfl (aa.tv (lG (a:=C (blk o i)) (b:=1) (by omega) (by omega)) ?_)))))
   rw [e2]
   refine aa.nat h6.slLen (aa.nat ani (aa.chk s6 (aa.tvs g1 (aa.chk rfl (aa.tv c1 (aa.tv (v:=B true) ?_ (aa.ite (v:=true) rfl (fun _=>?_) nofun)))))))
   ·show some (B ((blk o i:Int) != 0))=_
    have:((blk o i:Int) != 0)=true:=by simp; omega
    rw [this]
   refine aa.nat hw.slLen (aa.nat ani (aa.chk sw (aa.tvs ho (aa.chk rfl (aa.nat c2.slLen (aa.nat ant (aa.chk st (aa.tvs g2 (aa.chk rfl (aa.nat c2.slLen (aa.nat ani (aa.chk sj (aa.tvs g3 (aa.chk rfl (aa.tv (lG (a:=((c (T i):Nat):Int)) (b:=((c i + 1:Nat):Int)) (by omega) (by omega)) ?_)))))))))))))))
   rw [show ((c (T i):Nat):Int) + ((c i + 1:Nat):Int)=((c (T i) + (c i + 1):Nat):Int) by omega]
   exact aa.nat c2.slLen (aa.nat ant (aa.chk st (aa.tvs g2 (aa.chk rfl (aa.tv c3 (aa.tv (lj (a:=(i:Int)) (b:=1) (by omega) (by omega)) (f76_0_J hy)))))))
end
theorem rSpans {q qo:Option Bool} {e:List TV} {f:DFunc} {x:TV} {o:List Int} (he:RFunc q e f) (hs:f.blocks.length<=30) (hx:RInts qo x o) (hI:OI f.blocks o):∃ a b,bQ prog 76 [.agg e,x] (.agg [a,b])/\iv (some true) f.blocks a b:=by
 obtain ⟨v,hv,kv⟩:=rOver8 he (by omega)
 obtain ⟨T,hT⟩:=OvT.ex hI
 have hol:=hI.len
 obtain ⟨bb,rfl,hb,_⟩:=he
 have h0:RArr (.sl true 1 (List.replicate f.blocks.length [I 0])) f.blocks.length (fun _=>0):=qO ⟨by decide,by decide⟩ (by omega)
 obtain ⟨a,b,hy,hr⟩:=DR (y2:=.lit (.slice .none 0 0)) (y3:=.lit (.slice .none 0 0)) hI hT (by omega) hx kv h0 rfl (by omega) o.length _ (fun _=>0) (fun _=>0) (Nat.le_refl _) h0 (fun _ _=>rfl) (by rw [Nat.sub_self]; exact nL.start T o.length)
 refine ⟨a,b,?_,hr⟩
 have hn:af (I (f.blocks.length:Nat))=some f.blocks.length:=ak (by omega)
 refine bQ.of (f76_MR _ _) ?_
 unfold f76_M
 exact aa.chk rfl (aa.call hv (aa.chk (ba kv.isSl) (aa.tv hb.len (aa.nat hn (aa.nat hn (aa.chk (by simp; omega) (aa.nat hn (aa.nat hn (aa.chk (by simp; omega) (aa.chk (RL.cK hx) (aa.tv hx.len (aa.tv (lj (a:=(o.length:Int)) (b:=1) (by omega) (by omega)) (f76_0_J hy)))))))))))))
theorem DC {q:Option Bool} {bs:List DBlock} {w1 w2:TV} (h:iv q bs w1 w2) {a b:Nat} (ha:Rc bs (-1) a) (hb:Rc bs (-1) b):bQ prog 105 [.agg [w1,w2],I (a:Nat),I (b:Nat)] (B (tt (Dm bs a b))):=by
 obtain ⟨F,C,h1,h2,hd⟩:=h
 obtain ⟨e1,r1,rfl,_⟩:=h1.yN (k:=.i64) (n:=(a:Int)) (by omega) (by simpa using bI ha.lt)
 obtain ⟨e2,r2,rfl,_⟩:=h1.yN (k:=.i64) (n:=(b:Int)) (by omega) (by simpa using bI hb.lt)
 obtain ⟨e3,r3,rfl,_⟩:=h2.yN (k:=.i64) (n:=(a:Int)) (by omega) (by simpa using bI ha.lt)
 obtain ⟨p1,p2,p3,p4,p5⟩:=hd a b ha hb
 refine bQ.of (f105_MR _ _ _) ?_
 unfold f105_M
 refine aa.chk rfl (aa.tvs r1 (aa.chk rfl (aa.tvs r2 (aa.chk rfl (aa.tv (v:=B (decide (F a<=F b))) rfl (aa.ite rfl (fun h=>?_) fun h=>?_))))))
 ·have hle:F a<=F b:=by simpa using h
  refine aa.tvs r2 (aa.chk rfl (aa.tvs r1 (aa.chk rfl (aa.tvs r3 (aa.chk rfl (aa.tv (lG (a:=F a) (b:=C a) (by omega) (by omega)) (aa.tv (v:=B (tt (Dm bs a b))) ?_ aa.ret)))))))
  show some (B (decide (F b < F a + C a)))=_
  congr 2
  by_cases hlt:F b < F a + C a
  ·rw [decide_eq_true hlt,gX (p5.1 ⟨hle,hlt⟩)]
  ·rw [decide_eq_false hlt,ft (fun hd=>hlt (p5.2 hd).2)]
 ·have hle:¬ F a<=F b:=by simpa using h
  rw [ft (fun hd=>hle (p5.2 hd).1)]
  exact aa.ret
end Go.Ab.Q12
end
section
set_option maxRecDepth 10000
namespace Go.Ab
inductive Cm (bs:List DBlock) (to no:Nat):Nat->Prop
 | refl (h:to≠no):Cm bs to no to
 | back {k:Nat} {g:Int} (hk:k≠no) (hg:g ∈ am bs k) (h:Cm bs to no g.toNat):Cm bs to no k
theorem Cm.ne {bs:List DBlock} {to no k:Nat} (h:Cm bs to no k):k≠no:=by
 cases h with
 | refl h=>exact h
 | back h _ _=>exact h
theorem Cm.rc {bs:List DBlock} {to no k:Nat} (h:Cm bs to no k) (hk:Rc bs no k):Rc bs no to:=by
 induction h with
 | refl _=>exact hk
 | @back k g _ hg h ih =>
  refine ih (.next hk hg fun e=>?_)
  have:=h.ne
  omega
theorem Cm.dm {bs:List DBlock} {to no k:Nat} (h:Cm bs to no k) (hr:Rc bs (-1) k) (hd:Dm bs no to):Dm bs no k:=by
 rw [Dm.self] at *
 exact ⟨hr,fun hk=>hd.2 (h.rc hk)⟩
def Bk (bs:List DBlock) (h n:Nat):Prop:=Dm bs h n/\(h:Int) ∈ am bs n
def fS (bs:List DBlock) (h:Nat):Prop:=∃ n,Bk bs h n
def inLoop (bs:List DBlock) (h k:Nat):Prop:=fS bs h/\(k=h\/Dm bs h k/\∃ n,Bk bs h n/\Cm bs n h k)
theorem inLoop.dm {bs:List DBlock} {h k:Nat} (hl:inLoop bs h k):Dm bs h k:=by
 obtain ⟨⟨n,hn⟩,rfl | ⟨hd,_⟩⟩:=hl
 ·exact .refl hn.1.up
 ·exact hd
theorem inLoop.before {bs:List DBlock} {h k p:Nat} (hl:inLoop bs h k) (hk:k≠h) (hp:Rc bs (-1) p) (hg:(k:Int) ∈ am bs p):inLoop bs h p:=by
 obtain ⟨hh,rfl | ⟨hd,n,hn,hc⟩⟩:=hl
 ·exact absurd rfl hk
 ·by_cases hph:p=h
  ·exact ⟨hh,.inl hph⟩
  ·have:Cm bs n h p:=.back hph hg (by simpa using hc)
   exact ⟨hh,.inr ⟨this.dm hp hn.1,n,hn,this⟩⟩
theorem Dm.way {bs:List DBlock} {a b:Nat} (h:Dm bs a b):Wy bs a a b:=by
 obtain ⟨h1,h2⟩:=Dm.self.1 h
 have key:∀ {i:Nat},Rc bs (-1) i->Rc bs a i\/Wy bs a a i:=by
  intro i hi
  induction hi with
  | start h0 hl =>
   by_cases ha:a=0
   ·subst ha; exact .inr .refl
   ·exact .inl (.start (by omega) hl)
  | @next i g hi hg hn ih =>
   have ht:=aI hg
   by_cases ha:g=(a:Int)
   ·rw [ha,Int.toNat_natCast]; exact .inr .refl
   ·rcases ih with ih | ih
    ·exact .inl (.next ih hg ha)
    ·exact .inr (.next ih hg ha)
 rcases key h1 with h3 | h3
 ·exact absurd h3 h2
 ·exact h3
theorem inLoop.nest {bs:List DBlock} {h h' k:Nat} (hl:inLoop bs h k) (hl':inLoop bs h' k) (hd:Dm bs h h'):inLoop bs h h'\/inLoop bs h' h:=by
 by_cases e:h=h'
 ·subst e; exact .inl ⟨hl.1,.inl rfl⟩
 ·obtain ⟨hh,rfl | ⟨hdk,n,hn,hc⟩⟩:=hl
  ·exact .inr hl'
  ·-- a way from the other head to the block: within its loop, or through this head
   have hw:=hl'.dm.way
   have key:∀ {i:Nat},Wy bs h' h' i->inLoop bs h' i->inLoop bs h' h\/(∀ {n:Nat},Cm bs n h i->Cm bs n h h'):=by
    intro i hi
    induction hi with
    | refl=>exact fun _=>.inr fun hc=>hc
    | @next j g hj hg hgn ih =>
     intro hg'
     have ht:=aI hg
     have hjr:Rc bs (-1) j:=by
      have:Rc bs (-1) h':=hl'.dm.up
      have gen:∀ {i:Nat},Wy bs h' h' i->Rc bs (-1) i:=by
       intro i hi
       induction hi with
       | refl=>exact this
       | next _ hg _ ih=>exact .next ih hg (by have:=aI hg; omega)
      exact gen hj
     have hjl:inLoop bs h' j:=hg'.before (by omega) hjr (by rw [show ((g.toNat:Nat):Int)=g by omega]; exact hg)
     by_cases hjh:j=h
     ·subst hjh; exact .inl hjl
     ·rcases ih hjl with h1 | h1
      ·exact .inl h1
      ·exact .inr fun hc=>h1 (.back hjh hg hc)
   rcases key hw hl' with h1 | h1
   ·exact .inr h1
   ·exact .inl ⟨hh,.inr ⟨hd,n,hn,h1 hc⟩⟩
end Go.Ab
end
section
set_option maxRecDepth 10000
namespace Go.Ab
theorem qh {bs:List DBlock} {i:Nat} {g:Int} (h:g ∈ am bs i):((g.toNat:Nat):Int)=g:=by
 have:=aI h
 omega
theorem Rc.on {bs:List DBlock} {i:Nat} {g:Int} (hi:Rc bs (-1) i) (hg:g ∈ am bs i):Rc bs (-1) g.toNat:=.next hi hg (by have:=aI hg; omega)
theorem inLoop.trans {bs:List DBlock} {a b n:Nat} (h:inLoop bs a b) (h':inLoop bs b n):inLoop bs a n:=by
 by_cases e:a=b
 ·subst e; exact h'
 ·obtain ⟨_,rfl | ⟨hd,m,hm,hc⟩⟩:=h'
  ·exact h
  ·have key:∀ {k:Nat},Cm bs m b k->Rc bs (-1) k->inLoop bs a k:=by
    intro k hk
    induction hk with
    | refl _=>exact fun hr=>h.before (fun e2=>e e2.symm) hr hm.2
    | @back k g hkb hg hc ih =>
     intro hr
     have hg':=hr.on hg
     have hin:=ih hg'
     refine hin.before (fun e2=>?_) hr (by rw [qh hg]; exact hg)
     have h1:=hc.dm hg' hm.1
     rw [e2] at h1
     exact e (h.dm.anti h1)
   exact key hc hd.1
theorem inLoop.self {bs:List DBlock} {h:Nat} (hh:fS bs h):inLoop bs h h:=⟨hh,.inl rfl⟩
theorem inLoop.rc {bs:List DBlock} {h n:Nat} (hl:inLoop bs h n):Rc bs (-1) n:=hl.dm.1
theorem inLoop.anti {bs:List DBlock} {h n:Nat} (hl:inLoop bs h n) (hl':inLoop bs n h):h=n:=hl.dm.anti hl'.dm
theorem Bk.in_ {bs:List DBlock} {h n:Nat} (hb:Bk bs h n):inLoop bs h n:=by
 by_cases e:n=h
 ·subst e; exact inLoop.self ⟨n,hb⟩
 ·exact ⟨⟨n,hb⟩,.inr ⟨hb.1,n,hb,.refl e⟩⟩
theorem inLoop.zS {bs:List DBlock} {a b n:Nat} (h:inLoop bs a n) (h':inLoop bs b n) (hd:Dm bs a b):inLoop bs a b:=by
 rcases h.nest h' hd with h1 | h1
 ·exact h1
 ·have:=hd.anti h1.dm
  subst this
  exact h1
section
variable (bs:List DBlock) (P:Nat->Prop)
def vc (n:Nat):Prop:=∀ h,P h->inLoop bs h n->h=n
def InR (n:Nat) (a:Int):Prop:=(a=-1/\vc bs P n)\/∃ h:Nat,a=(h:Int)/\P h/\inLoop bs h n/\h≠n/\∀ h',P h'->inLoop bs h' n->h'≠n->Dm bs h' h
structure nJ (A:Nat->Int) (O:Nat->Nat):Prop where
 ar:∀ n,InR bs P n (A n)
 ou:∀ n,Rc bs (-1) n->(O n=n/\vc bs P n)\/(O n≠n/\P (O n)/\inLoop bs (O n) n)
def Cov (D:Nat->Prop) (hd x:Nat):Prop:=x=hd\/∃ r,D r/\(r=x\/(P r/\inLoop bs r x))
structure ju (hd:Nat) (D:Nat->Prop) (O:Nat->Nat):Prop where
 ou:∀ n,Rc bs (-1) n->(O n=n/\vc bs P n/\¬ D n)\/(O n≠n/\((P (O n)/\inLoop bs (O n) n)\/(O n=hd/\Cov bs P D hd n)))
 dn:∀ n,D n->vc bs P n/\inLoop bs hd n/\n≠hd
def ClI (hd:Nat) (D:Nat->Prop) (op:List Nat):Prop:=∀ x,(Bk bs hd x\/∃ d:Nat,D d/\(d:Int) ∈ am bs x/\Rc bs (-1) x)->x ∈ op\/Cov bs P D hd x
def OnW (D:Nat->Prop) (hd x k:Nat):Prop:=k=x\/(P k/\inLoop bs k x)\/(k=hd/\Cov bs P D hd x)
end
section
variable {bs:List DBlock} {P D:Nat->Prop} {hd:Nat} {O:Nat->Nat} {A:Nat->Int} (hP:∀ h,P h->¬ Dm bs h hd) (hr:Rc bs (-1) hd)
theorem nJ.start (bs:List DBlock):nJ bs (fun _=>False) (fun _=>-1) (fun n=>n):=⟨fun n=>.inl ⟨rfl,fun h hf=>hf.elim⟩,fun n _=>.inl ⟨rfl,fun h hf=>hf.elim⟩⟩
theorem nJ.gth (h:nJ bs P A O):ju bs P hd (fun _=>False) O:=⟨fun n hn=>by
 rcases h.ou n hn with ⟨h1,h2⟩ | ⟨h1,h2⟩
 ·exact .inl ⟨h1,h2,fun h=>h⟩
 ·exact .inr ⟨h1,.inl h2⟩,fun n h=>h.elim⟩
theorem Cov.mono {D':Nat->Prop} {x:Nat} (h:Cov bs P D hd x) (hD:∀ r,D r->D' r):Cov bs P D' hd x:=by
 rcases h with h | ⟨r,h1,h2⟩
 ·exact .inl h
 ·exact .inr ⟨r,hD r h1,h2⟩
theorem Cov.in_ {n:Nat} (h:Cov bs P D hd n) (hD:∀ n,D n->vc bs P n/\inLoop bs hd n/\n≠hd) (hn:n≠hd):inLoop bs hd n:=by
 rcases h with h | ⟨r,h1,rfl | ⟨_,h2⟩⟩
 ·exact absurd h hn
 ·exact (hD _ h1).2.1
 ·exact (hD _ h1).2.1.trans h2
include hP
theorem Cov.under {m x:Nat} (h:Cov bs P D hd m) (hm:P m) (hx:inLoop bs m x):Cov bs P D hd x:=by
 rcases h with rfl | ⟨r,h1,rfl | ⟨h2,h3⟩⟩
 ·exact absurd (.refl hx.dm.up) (hP _ hm)
 ·exact .inr ⟨r,h1,.inr ⟨hm,hx⟩⟩
 ·exact .inr ⟨r,h1,.inr ⟨h2,h3.trans hx⟩⟩
theorem ju.top (h:ju bs P hd D O) (hr:Rc bs (-1) hd):O hd=hd:=by
 rcases h.ou hd hr with ⟨h1,_⟩ | ⟨h1,⟨h2,h3⟩ | ⟨h2,_⟩⟩
 ·exact h1
 ·exact absurd h3.dm (hP _ h2)
 ·exact h2
theorem ju.over (h:ju bs P hd D O) {n:Nat} (hn:Rc bs (-1) n) (hne:O n≠n):Dm bs (O n) n:=by
 rcases h.ou n hn with ⟨h1,_⟩ | ⟨h1,⟨h2,h3⟩ | ⟨h2,h3⟩⟩
 ·exact absurd h1 hne
 ·exact h3.dm
 ·rw [h2] at h1 ⊢
  exact (h3.in_ h.dn (fun e=>h1 e.symm)).dm
include hr
theorem ju.cut (h:ju bs P hd D O) {n:Nat} (hn:Rc bs (-1) n) (hne:O n≠n):ju bs P hd D (gh O n (O (O n)))/\O (O n)≠n/\((P (O (O n))/\inLoop bs (O (O n)) n)\/(O (O n)=hd/\Cov bs P D hd n)):=by
 have hv:O (O n)≠n/\((P (O (O n))/\inLoop bs (O (O n)) n)\/(O (O n)=hd/\Cov bs P D hd n)):=by
  rcases h.ou n hn with ⟨h1,_⟩ | ⟨h1,⟨h2,h3⟩ | ⟨h2,h3⟩⟩
  ·exact absurd h1 hne
  ·rcases h.ou (O n) h3.dm.up with ⟨g1,_⟩ | ⟨g1,⟨g2,g3⟩ | ⟨g2,g3⟩⟩
   ·rw [g1]; exact ⟨h1,.inl ⟨h2,h3⟩⟩
   ·have g4:=g3.trans h3
    refine ⟨fun e=>?_,.inl ⟨g2,g4⟩⟩
    rw [e] at g3
    exact h1 (h3.anti g3)
   ·refine ⟨fun e=>?_,.inr ⟨g2,g3.under hP h2 h3⟩⟩
    rw [g2] at e
    subst e
    exact hP _ h2 h3.dm
  ·rw [h2,h.top hP hr]
   rw [h2] at h1
   exact ⟨h1,.inr ⟨rfl,h3⟩⟩
 refine ⟨⟨fun m hm=>?_,h.dn⟩,hv⟩
 by_cases e:m=n
 ·subst e; rw [aN]; exact .inr hv
 ·rw [aH e]; exact h.ou m hm
theorem ju.onw (h:ju bs P hd D O) {x k:Nat} (hx:Rc bs (-1) x) (hk:OnW bs P D hd x k) (hne:O k≠k):Rc bs (-1) k/\OnW bs P D hd x (O (O k)):=by
 rcases hk with rfl | ⟨h1,h2⟩ | ⟨h1,h2⟩
 ·exact ⟨hx,.inr (h.cut hP hr hx hne).2.2⟩
 ·refine ⟨h2.dm.up,.inr ?_⟩
  rcases (h.cut hP hr h2.dm.up hne).2.2 with ⟨g1,g2⟩ | ⟨g1,g2⟩
  ·exact .inl ⟨g1,g2.trans h2⟩
  ·exact .inr ⟨g1,g2.under hP h1 h2⟩
 ·subst h1; exact absurd (h.top hP hr) hne
theorem ju.endw (h:ju bs P hd D O) {x r:Nat} (hx:inLoop bs hd x) (hk:OnW bs P D hd x r) (he:O r=r):(r=hd/\Cov bs P D hd x)\/(r≠hd/\inLoop bs hd r/\vc bs P r/\¬ D r/\(r=x\/(P r/\inLoop bs r x))):=by
 by_cases e:r=hd
 ·refine .inl ⟨e,?_⟩
  subst e
  rcases hk with rfl | ⟨h1,h2⟩ | ⟨_,h2⟩
  ·exact .inl rfl
  ·exact absurd (.refl h2.dm.up) (hP _ h1)
  ·exact h2
 ·have hin:inLoop bs hd r/\(r=x\/(P r/\inLoop bs r x)):=by
   rcases hk with rfl | ⟨h1,h2⟩ | ⟨h1,_⟩
   ·exact ⟨hx,.inl rfl⟩
   ·refine ⟨hx.zS h2 ?_,.inr ⟨h1,h2⟩⟩
    rcases hx.dm.total h2.dm with g | g
    ·exact g
    ·exact absurd g (hP _ h1)
   ·exact absurd h1 e
  rcases h.ou r hin.1.rc with ⟨_,g1,g2⟩ | ⟨g1,_⟩
  ·exact .inr ⟨e,hin.1,g1,g2,hin.2⟩
  ·exact absurd he g1
omit hP hr in
theorem ju.put (h:ju bs P hd D O) {r:Nat} (he:r≠hd) (hin:inLoop bs hd r) (hE:vc bs P r):ju bs P hd (fun n=>D n\/n=r) (gh O r hd):=by
 refine ⟨fun n hn=>?_,fun n hn=>?_⟩
 ·by_cases e:n=r
  ·subst e
   rw [aN]
   exact .inr ⟨Ne.symm he,.inr ⟨rfl,.inr ⟨n,.inr rfl,.inl rfl⟩⟩⟩
  ·rw [aH e]
   rcases h.ou n hn with ⟨h1,h2,h3⟩ | ⟨h1,h2 | ⟨h2,h3⟩⟩
   ·exact .inl ⟨h1,h2,fun g=>g.elim h3 e⟩
   ·exact .inr ⟨h1,.inl h2⟩
   ·exact .inr ⟨h1,.inr ⟨h2,h3.mono fun _ g=>.inl g⟩⟩
 ·rcases hn with hn | rfl
  ·exact h.dn n hn
  ·exact ⟨hE,hin,he⟩
omit hP hr in
theorem ClI.start {op:List Nat} (h:∀ x,Bk bs hd x->x ∈ op):ClI bs P hd (fun _=>False) op:=fun x hx=>by
 rcases hx with hx | ⟨d,hd,_⟩
 ·exact .inl (h x hx)
 ·exact hd.elim
omit hP hr in
theorem ClI.met {op:List Nat} {x:Nat} (h:ClI bs P hd D (op ++ [x])) (hx:Cov bs P D hd x):ClI bs P hd D op:=fun y hy=>by
 rcases h y hy with h1 | h1
 ·rcases List.mem_append.1 h1 with h1 | h1
  ·exact .inl h1
  ·rw [List.mem_singleton.1 h1]; exact .inr hx
 ·exact .inr h1
omit hP hr in
theorem ClI.put {op br:List Nat} {x r:Nat} (h:ClI bs P hd D (op ++ [x])) (hb:∀ p,Rc bs (-1) p->(r:Int) ∈ am bs p->p ∈ br) (hx:r=x\/(P r/\inLoop bs r x)):ClI bs P hd (fun n=>D n\/n=r) (op ++ br):=fun y hy=>by
 have old:(Bk bs hd y\/∃ d:Nat,D d/\(d:Int) ∈ am bs y/\Rc bs (-1) y)->y ∈ op ++ br\/Cov bs P (fun n=>D n\/n=r) hd y:=fun hy=>by
  rcases h y hy with h1 | h1
  ·rcases List.mem_append.1 h1 with h1 | h1
   ·exact .inl (List.mem_append_left _ h1)
   ·rw [List.mem_singleton.1 h1]; exact .inr (.inr ⟨r,.inr rfl,hx⟩)
  ·exact .inr (h1.mono fun _ g=>.inl g)
 rcases hy with hy | ⟨d,h1 | rfl,h2,h3⟩
 ·exact old (.inl hy)
 ·exact old (.inr ⟨d,h1,h2,h3⟩)
 ·exact .inl (List.mem_append_right _ (hb y h3 h2))
omit hP hr in
theorem ClI.done (h:ClI bs P hd D []) {n:Nat} (hn:inLoop bs hd n):Cov bs P D hd n:=by
 have met:∀ x,(Bk bs hd x\/∃ d:Nat,D d/\(d:Int) ∈ am bs x/\Rc bs (-1) x)->Cov bs P D hd x:=fun x hx=>by
  rcases h x hx with h1 | h1
  ·cases h1
  ·exact h1
 obtain ⟨_,rfl | ⟨hd1,m,hm,hc⟩⟩:=hn
 ·exact .inl rfl
 ·have key:∀ {k:Nat},Cm bs m hd k->Rc bs (-1) k->Cov bs P D hd k:=by
   intro k hk
   induction hk with
   | refl _=>exact fun _=>met _ (.inl hm)
   | @back k g hkb hg hc ih =>
    intro hr
    have hg':=hr.on hg
    have hgc:=qh hg
    rcases ih hg' with h1 | ⟨r,h1,h2⟩
    ·exact absurd h1 hc.ne
    ·by_cases e:r=g.toNat
     ·subst e
      exact met k (.inr ⟨g.toNat,h1,by rw [hgc]; exact hg,hr⟩)
     ·rcases h2 with h2 | ⟨h2,h3⟩
      ·exact absurd h2 e
      ·exact .inr ⟨r,h1,.inr ⟨h2,h3.before (fun e2=>e e2.symm) hr (by rw [hgc]; exact hg)⟩⟩
  exact key hc hd1.1
omit hr in
theorem nJ.next {O':Nat->Nat} {A':Nat->Int} (h:nJ bs P A O) (g:ju bs P hd D O') (hc:ClI bs P hd D []) (hA:∀ n,(D n->A' n=(hd:Int))/\(¬ D n->A' n=A n)):nJ bs (fun n=>P n\/n=hd) A' O':=by
 have hend:∀ n,vc bs P n->¬ D n->vc bs (fun n=>P n\/n=hd) n:=by
  intro n hn hD k hk hl
  rcases hk with hk | rfl
  ·exact hn k hk hl
  ·rcases hc.done hl with h1 | ⟨r,h1,rfl | ⟨h2,h3⟩⟩
   ·exact h1.symm
   ·exact absurd h1 hD
   ·have:=hn r h2 h3
    subst this
    exact absurd h1 hD
 refine ⟨fun n=>?_,fun n hn=>?_⟩
 ·by_cases hD:D n
  ·rw [(hA n).1 hD]
   obtain ⟨d1,d2,d3⟩:=g.dn n hD
   refine .inr ⟨hd,rfl,.inr rfl,d2,Ne.symm d3,fun h' hp hl hne=>?_⟩
   rcases hp with hp | rfl
   ·exact absurd (d1 h' hp hl) hne
   ·exact .refl d2.dm.up
  ·rw [(hA n).2 hD]
   rcases h.ar n with ⟨h1,h2⟩ | ⟨k,h1,h2,h3,h4,h5⟩
   ·exact .inl ⟨h1,hend n h2 hD⟩
   ·refine .inr ⟨k,h1,.inl h2,h3,h4,fun h' hp hl hne=>?_⟩
    rcases hp with hp | rfl
    ·exact h5 h' hp hl hne
    ·rcases hl.dm.total h3.dm with q | q
     ·exact q
     ·exact absurd q (hP _ h2)
 ·rcases g.ou n hn with ⟨h1,h2,h3⟩ | ⟨h1,⟨h2,h3⟩ | ⟨h2,h3⟩⟩
  ·exact .inl ⟨h1,hend n h2 h3⟩
  ·exact .inr ⟨h1,.inl h2,h3⟩
  ·refine .inr ⟨h1,.inr h2,?_⟩
   rw [h2] at h1 ⊢
   exact h3.in_ g.dn (fun e=>h1 e.symm)
end
structure zI (bs:List DBlock) (H:Nat->Bool) (A:Nat->Int):Prop where
 hd:∀ n,H n=true ↔ fS bs n
 ar:∀ n,InR bs (fun n=>Rc bs (-1) n) n (A n)
inductive Arnd (A:Nat->Int):Int->List Nat->Prop
 | done {a:Int} (h:a < 0):Arnd A a []
 | next {h:Nat} {l:List Nat} (t:Arnd A (A h) l):Arnd A (h:Int) (h :: l)
theorem Arnd.of {bs:List DBlock} {H:Nat->Bool} {A:Nat->Int} (hN:zI bs H A) {o:List Int} (hI:OI bs o):∀ (i:Nat) (n:Nat),i < o.length->blk o i=n->∃ l,Arnd A (A n) l/\l.Nodup/\∀ h,h ∈ l ↔ inLoop bs h n/\h≠n:=by
 intro i
 induction i using Nat.strongRecOn with
 | _ i ih =>
  rintro n hi rfl
  rcases hN.ar (blk o i) with ⟨h1,h2⟩ | ⟨k,h1,h2,h3,h4,h5⟩
  ·rw [h1]
   exact ⟨[],.done (by decide),List.nodup_nil,fun h=>⟨fun q=>(by cases q),fun ⟨g1,g2⟩=>absurd (h2 h g1.dm.up g1) g2⟩⟩
  ·obtain ⟨j,hj,rfl⟩:=hI.rank h2
   have hle:=hI.xL hj i hi h3.dm
   have hji:j≠i:=fun e=>h4 (by rw [e])
   obtain ⟨l,l1,l2,l3⟩:=ih j (by omega) _ hj rfl
   rw [h1]
   refine ⟨blk o j :: l,.next l1,List.nodup_cons.2 ⟨fun h=>((l3 _).1 h).2 rfl,l2⟩,fun h=>?_⟩
   rw [List.mem_cons,l3]
   constructor
   ·rintro (rfl | ⟨g1,g2⟩)
    ·exact ⟨h3,h4⟩
    ·exact ⟨g1.trans h3,fun e=>by subst e; exact h4 (h3.anti g1)⟩
   ·rintro ⟨g1,g2⟩
    by_cases e:h=blk o j
    ·exact .inl e
    ·exact .inr ⟨g1.zS h3 (h5 h g1.dm.up g1 g2),e⟩
def mM (H:Nat->Bool) (A:Nat->Int) (n:Nat):Int:=if H n then (n:Int) else A n
theorem Arnd.all {bs:List DBlock} {H:Nat->Bool} {A:Nat->Int} (hN:zI bs H A) {o:List Int} (hI:OI bs o) (n:Nat):∃ l,Arnd A (mM H A n) l/\l.Nodup/\∀ h,h ∈ l ↔ inLoop bs h n:=by
 by_cases hn:Rc bs (-1) n
 case neg =>
  have hh:¬ H n=true:=fun h=>by
   obtain ⟨m,hm⟩:=(hN.hd n).1 h
   exact hn hm.1.up
  unfold mM
  rw [if_neg hh]
  rcases hN.ar n with ⟨h1,_⟩ | ⟨k,h1,h2,h3,_⟩
  ·rw [h1]
   exact ⟨[],.done (by decide),List.nodup_nil,fun h=>⟨fun q=>(by cases q),fun q=>absurd q.rc hn⟩⟩
  ·exact absurd h3.rc hn
 obtain ⟨i,hi,e⟩:=hI.rank hn
 obtain ⟨l,l1,l2,l3⟩:=Arnd.of hN hI i n hi e
 unfold mM
 by_cases hh:H n=true
 ·rw [if_pos hh]
  refine ⟨n :: l,.next l1,List.nodup_cons.2 ⟨fun h=>((l3 _).1 h).2 rfl,l2⟩,fun h=>?_⟩
  rw [List.mem_cons,l3]
  constructor
  ·rintro (rfl | h)
   ·exact inLoop.self ((hN.hd _).1 hh)
   ·exact h.1
  ·intro h'
   by_cases e:h=n
   ·exact .inl e
   ·exact .inr ⟨h',e⟩
 ·rw [if_neg hh]
  refine ⟨l,l1,l2,fun h=>?_⟩
  rw [l3]
  refine ⟨fun h=>h.1,fun h'=>⟨h',fun e=>hh ?_⟩⟩
  subst e
  exact (hN.hd _).2 h'.1
end Go.Ab
end

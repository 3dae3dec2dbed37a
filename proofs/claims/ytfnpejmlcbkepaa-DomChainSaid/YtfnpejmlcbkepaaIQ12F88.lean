import Derived.Test.YtfnpejmlcbkepaaIQ12F83
import Derived.Test.YtfnpejmlcbkepaaIQ12T
set_option linter.all false
section
set_option maxRecDepth 10000
namespace Go.Ab
open Classical in
noncomputable def ovN (bs:List DBlock) (b:Nat):Int:=if h:∃ a,Nx bs a b then ((h.choose:Nat):Int) else -1
theorem uN {bs:List DBlock} {a b:Nat} (h:Nx bs a b):ovN bs b=(a:Int):=by
 have hx:∃ a,Nx bs a b:=⟨a,h⟩
 unfold ovN
 rw [dif_pos hx,(hx.choose_spec).det h]
theorem Nx.reached {bs:List DBlock} {a b:Nat} (h:Nx bs a b):Rc bs (-1) b∧b≠0:=by
 refine ⟨h.2.1.1,fun h0=>h.1 ?_⟩
 subst h0
 exact h.2.1.anti (.zero h.2.1.up)
theorem qQ {bs:List DBlock} {b:Nat} (h:¬ (Rc bs (-1) b∧b≠0)):ovN bs b=-1:=by
 unfold ovN
 rw [dif_neg]
 rintro ⟨a,ha⟩
 exact h ha.reached
theorem Ay (bs:List DBlock) (b:Nat):(Rc bs (-1) b∧b≠0∧∃ a,Nx bs a b∧ovN bs b=(a:Int))∨(¬ (Rc bs (-1) b∧b≠0)∧ovN bs b=-1):=by
 by_cases h:Rc bs (-1) b∧b≠0
 ·obtain ⟨a,ha⟩:=Nx.ex h.1 h.2
  exact .inl ⟨h.1,h.2,a,ha,uN ha⟩
 ·exact .inr ⟨h,qQ h⟩
noncomputable def iI (bs:List DBlock):List Int:=(List.range bs.length).map (ovN bs)
theorem l6 (bs:List DBlock):(iI bs).length=bs.length:=by simp [iI]
theorem pn {bs:List DBlock} {b:Nat} (h:b < bs.length):(iI bs)[b]? = some (ovN bs b):=by simp [iI,h]
def ua (bs:List DBlock) (n k:Nat):Prop:=(∃ b:Nat,Dm bs n b∧(k:Int) ∈ ap bs b)∧(k=n∨¬ Dm bs n k)
open Classical in
noncomputable def jW (bs:List DBlock) (n:Nat) (k:Nat):List Int:=((List.range k).filter fun i=>decide (ua bs n i)).map fun i:Nat=>(i:Int)
noncomputable def tN (bs:List DBlock) (n:Int):List Int:=if 0≤n then jW bs n.toNat bs.length else []
theorem pJ (bs:List DBlock) (n k:Nat) [Decidable (ua bs n k)]:jW bs n (k + 1)=jW bs n k ++ (if ua bs n k then [(k:Int)] else []):=by
 unfold jW
 rw [List.range_succ,List.filter_append,List.map_append]
 by_cases h:ua bs n k <;> simp [h]
def lk (bs:List DBlock) (n at_:Nat) (M:List Bool):Prop:=Dm bs at_ n∧M.length=bs.length∧∀ b:Nat,M[b]? = some true ↔ Dm bs b n∧¬ Dm bs b at_
theorem lk.start {bs:List DBlock} {n:Nat} (h:Rc bs (-1) n):lk bs n n (List.replicate bs.length false):=by
 refine ⟨.refl h,by simp,fun b=>⟨fun hb=>?_,fun ⟨h1,h2⟩=>absurd h1 h2⟩⟩
 rw [List.getElem?_replicate] at hb
 split at hb <;> cases hb
theorem lk.next {bs:List DBlock} {n a a':Nat} {M:List Bool} (h:lk bs n a M) (hx:Nx bs a' a):lk bs n a' (M.set a true):=by
 obtain ⟨h1,h2,h3⟩:=h
 have hal:a < M.length:=by rw [h2]; exact h1.up.lt
 refine ⟨hx.2.1.trans h1,by rw [List.length_set]; exact h2,fun b=>?_⟩
 rw [fu hal,h3 b]
 constructor
 ·rintro (rfl | ⟨h4,h5⟩)
  ·exact ⟨h1,fun h6=>hx.1 (hx.2.1.anti h6)⟩
  ·exact ⟨h4,fun h6=>h5 (h6.trans hx.2.1)⟩
 ·rintro ⟨h4,h5⟩
  by_cases hba:b=a
  ·exact .inl hba
  ·exact .inr ⟨h4,fun h6=>h5 (hx.2.2 b hba h6)⟩
theorem lk.last {bs:List DBlock} {n:Nat} {M:List Bool} (h:lk bs n 0 M) (b:Nat):(M.set 0 true)[b]? = some true ↔ Dm bs b n:=by
 obtain ⟨h1,h2,h3⟩:=h
 have hal:0 < M.length:=by rw [h2]; exact h1.up.lt
 rw [fu hal,h3 b]
 constructor
 ·rintro (rfl | ⟨h4,_⟩)
  ·exact h1
  ·exact h4
 ·intro h4
  by_cases hb:b=0
  ·exact .inl hb
  ·exact .inr ⟨h4,fun h5=>hb (h5.anti (.zero h5.up))⟩
end Go.Ab
end
section
namespace Go.Ab
inductive Both (o:List Int):Int→Int→Int→Prop
 | done {a:Int}:Both o a a a
 | left {a b a' r:Int}:a≠b→a > b→0≤a→o[a.toNat]? = some a'→Both o a' b r→Both o a b r
 | right {a b b' r:Int}:a≠b→¬ a > b→0≤b→o[b.toNat]? = some b'→Both o a b' r→Both o a b r
inductive Bths (o:List Int):Int→List Int→Int→Prop
 | nil {v:Int}:Bths o v [] v
 | cons {v n v' r:Int} {l:List Int}:Both o v n v'→Bths o v' l r→Bths o v (n :: l) r
def AllP (o l:List Int) (r:Int):Prop:=∃ v,l.getLast? = some v∧Bths o v l.reverse r
inductive Up (T:Nat→Nat):Nat→Nat→Prop
 | refl {n:Nat}:Up T n n
 | step {n x:Nat}:n≠0→Up T (T n) x→Up T n x
def Low (N:Nat) (T:Nat→Nat):Prop:=∀ n,n≠0→n < N→T n < n
theorem Up.trans {T:Nat→Nat} {a b c:Nat} (h:Up T a b) (h':Up T b c):Up T a c:=by
 induction h with
 | refl=>exact h'
 | step h0 _ ih=>exact .step h0 (ih h')
theorem Up.le {N:Nat} {T:Nat→Nat} (hT:Low N T) {n x:Nat} (h:Up T n x):n < N→x≤n:=by
 induction h with
 | refl=>intro _; exact Nat.le_refl _
 | step h0 _ ih=>intro hn; have:=hT _ h0 hn; exact Nat.le_of_lt (Nat.lt_of_le_of_lt (ih (by omega)) this)
theorem Up.inv {T:Nat→Nat} {n x:Nat} (h:Up T n x) (hx:x≠n):n≠0∧Up T (T n) x:=by
 cases h with
 | refl=>exact absurd rfl hx
 | step h0 h=>exact ⟨h0,h⟩
theorem Up.zero {T:Nat→Nat} {x:Nat} (h:Up T 0 x):x=0:=by
 cases h with
 | refl=>rfl
 | step h0 _=>exact absurd rfl h0
def gX (N:Nat) (o:List Int) (T:Nat→Nat):Prop:=o.length=N∧∀ n,n < N→o[n]? = some ((T n:Nat):Int)
theorem C2 {N:Nat} {o:List Int} {T:Nat→Nat} (ho:gX N o T) (hT:Low N T):∀ (d a b:Nat),a + b≤d→a < N→b < N→∃ r:Nat,Both o a b r∧r≤a∧∀ x,Up T r x ↔ Up T a x∧Up T b x:=by
 intro d
 induction d with
 | zero =>
  intro a b h ha hb
  have:a=0:=by omega
  subst this
  have:b=0:=by omega
  subst this
  exact ⟨0,.done,Nat.le_refl _,fun x=>⟨fun h=>⟨h,h⟩,fun h=>h.1⟩⟩
 | succ d ih =>
  intro a b h ha hb
  by_cases hab:a=b
  ·subst hab
   exact ⟨a,.done,Nat.le_refl _,fun x=>⟨fun h=>⟨h,h⟩,fun h=>h.1⟩⟩
  ·by_cases hgt:b < a
   ·have hl:=hT a (by omega) ha
    obtain ⟨r,h1,h2,h3⟩:=ih (T a) b (by omega) (by omega) hb
    refine ⟨r,.left (by omega) (by omega) (by omega) (by rw [Int.toNat_natCast]; exact ho.2 a ha) h1,by omega,fun x=>?_⟩
    rw [h3]
    constructor
    ·exact fun ⟨h4,h5⟩=>⟨.step (by omega) h4,h5⟩
    ·rintro ⟨h4,h5⟩
     refine ⟨(h4.inv fun e=>?_).2,h5⟩
     subst e
     have:=h5.le hT hb
     omega
   ·have hl:=hT b (by omega) hb
    obtain ⟨r,h1,h2,h3⟩:=ih a (T b) (by omega) ha (by omega)
    refine ⟨r,.right (by omega) (by omega) (by omega) (by rw [Int.toNat_natCast]; exact ho.2 b hb) h1,h2,fun x=>?_⟩
    rw [h3]
    constructor
    ·exact fun ⟨h4,h5⟩=>⟨h4,.step (by omega) h5⟩
    ·rintro ⟨h4,h5⟩
     refine ⟨h4,(h5.inv fun e=>?_).2⟩
     subst e
     have:=h4.le hT ha
     omega
theorem zd {N:Nat} {o:List Int} {T:Nat→Nat} (ho:gX N o T) (hT:Low N T):∀ (l:List Nat) (v:Nat),v < N→(∀ p ∈ l,p < N)→∃ r:Nat,Bths o v (l.map fun p:Nat=>(p:Int)) r∧r≤v∧∀ x,Up T r x ↔ Up T v x∧∀ p ∈ l,Up T p x
 | [],v,hv,hl=>⟨v,.nil,Nat.le_refl _,fun x=>by simp⟩
 | p :: l,v,hv,hl=>by
  obtain ⟨r,h1,h2,h3⟩:=C2 ho hT _ v p (Nat.le_refl _) hv (hl p Ec)
  obtain ⟨s,h4,h5,h6⟩:=zd ho hT l r (by omega) (fun q hq=>hl q (Ed _ hq))
  refine ⟨s,.cons h1 h4,by omega,fun x=>?_⟩
  rw [h6,h3]
  simp only [List.mem_cons,forall_eq_or_imp,and_assoc]
theorem all_ex {N:Nat} {o:List Int} {T:Nat→Nat} (ho:gX N o T) (hT:Low N T) {l:List Nat} (h0:l≠[]) (hl:∀ p ∈ l,p < N):∃ r:Nat,AllP o (l.map fun p:Nat=>(p:Int)) r∧r < N∧∀ x,Up T r x ↔ ∀ p ∈ l,Up T p x:=by
 have hm:=List.getLast_mem h0
 obtain ⟨r,h1,h2,h3⟩:=zd ho hT l.reverse (l.getLast h0) (hl _ hm) (fun p hp=>hl p (List.mem_reverse.1 hp))
 have:=hl _ hm
 refine ⟨r,⟨((l.getLast h0:Nat):Int),?_,?_⟩,by omega,fun x=>?_⟩
 ·rw [List.getLast?_map,List.getLast?_eq_some_getLast h0]; rfl
 ·rw [← List.map_reverse]; exact h1
 ·rw [h3]
  constructor
  ·exact fun h p hp=>h.2 p (List.mem_reverse.2 hp)
  ·exact fun h=>⟨h _ hm,fun p hp=>h p (List.mem_reverse.1 hp)⟩
inductive Rv (pr:Nat→List Nat) (d:Nat):Nat→Prop
 | start:0≠d→Rv pr d 0
 | next {p n:Nat}:Rv pr d p→p ∈ pr n→n≠d→Rv pr d n
structure Grf (N:Nat) (pr:Nat→List Nat) (p0:Nat→Nat):Prop where
 in_:∀ n,n < N→∀ p ∈ pr n,p < N
 mem:∀ n,n≠0→n < N→p0 n ∈ pr n
 low:∀ n,n≠0→n < N→p0 n < n
structure TI (N:Nat) (pr:Nat→List Nat) (p0:Nat→Nat) (m:Nat) (T:Nat→Nat):Prop where
 low:Low N T
 meet:∀ n,n≠0→n < N→∀ c,(∀ p ∈ pr n,Up T p c)→Up T (T n) c
 way:∀ n,n≠0→n < N→∀ x,(n < m∨m≤x)→Up T (T n) x→Up T (p0 n) x
 dom:∀ n,n < N→∀ x,¬ Rv pr x n→Up T n x
theorem TI.start {N:Nat} {pr:Nat→List Nat} {p0:Nat→Nat} (hG:Grf N pr p0) (m:Nat):TI N pr p0 m p0:=by
 refine ⟨hG.low,fun n h0 hn c h=>h _ (hG.mem n h0 hn),fun n h0 hn x _ h=>h,?_⟩
 intro n
 induction n using Nat.strongRecOn with
 | _ n ih =>
  intro hn x hx
  by_cases h0:n=0
  ·subst h0
   by_cases hx0:x=0
   ·subst hx0; exact .refl
   ·exact absurd (Rv.start (Ne.symm hx0)) hx
  ·by_cases hxn:x=n
   ·subst hxn; exact .refl
   ·have hl:=hG.low n h0 hn
    exact .step h0 (ih _ hl (by omega) x fun h=>hx (.next h (hG.mem n h0 hn) (Ne.symm hxn)))
theorem TI.again {N m:Nat} {pr:Nat→List Nat} {p0:Nat→Nat} {T:Nat→Nat} (h:TI N pr p0 m T) (hm:N≤m):TI N pr p0 1 T :=
 ⟨h.low,h.meet,fun n h0 hn x _ hu=>h.way n h0 hn x (.inl (by omega)) hu,h.dom⟩
def m8 (T:Nat→Nat) (m v:Nat) (n:Nat):Nat:=if n=m then v else T n
theorem ia {T:Nat→Nat} {m v:Nat}:m8 T m v m=v:=by simp [m8]
theorem fV {T:Nat→Nat} {m v n:Nat} (h:n≠m):m8 T m v n=T n:=by simp [m8,h]
section
variable {N:Nat} {pr:Nat→List Nat} {p0:Nat→Nat} {m v:Nat} {T:Nat→Nat} (hG:Grf N pr p0) (h:TI N pr p0 m T) (hm0:m≠0) (hm:m < N) (hv:∀ x,Up T v x ↔ ∀ p ∈ pr m,Up T p x)
include hG h hm0 hm hv
theorem TI.lower:Up T (T m) v:=h.meet m hm0 hm v ((hv v).1 .refl)
theorem TI.xu:v≤T m:=(TI.lower hG h hm0 hm hv).le h.low (by have:=h.low m hm0 hm; omega)
theorem TI.s1 {n x:Nat} (hu:Up (m8 T m v) n x):Up T n x:=by
 induction hu with
 | refl=>exact .refl
 | @step n x h0 _ ih =>
  by_cases hn:n=m
  ·subst hn
   rw [ia] at ih
   exact .step h0 ((TI.lower hG h hm0 hm hv).trans ih)
  ·rw [fV hn] at ih
   exact .step h0 ih
theorem TI.s2 {n x:Nat} (hu:Up T n x):n < N→(¬ Up T n m∨m≤x)→Up (m8 T m v) n x:=by
 induction hu with
 | refl=>exact fun _ _=>.refl
 | @step n x h0 hu ih =>
  intro hn hc
  have hl:=h.low n h0 hn
  by_cases hnm:n=m
  ·subst hnm
   exfalso
   rcases hc with hc | hc
   ·exact hc .refl
   ·have:=hu.le h.low (by omega)
    omega
  ·refine .step h0 ?_
   rw [fV hnm]
   exact ih (by omega) (hc.imp (fun hc hu'=>hc (.step h0 hu')) id)
theorem TI.below {n:Nat} (hn:n < m):¬ Up T n m:=fun hu=>by
 have:=hu.le h.low (by omega)
 omega
theorem TI.v_lt:v < m:=by
 have h1:=TI.xu hG h hm0 hm hv
 have h2:=h.low m hm0 hm
 omega
theorem TI.s3 {n x:Nat} (hn:n < N) (hu:Up T n m) (hx:Up T v x):Up (m8 T m v) n x:=by
 have hvl:=TI.v_lt hG h hm0 hm hv
 refine (TI.s2 hG h hm0 hm hv hu hn (.inr (Nat.le_refl _))).trans (.step hm0 ?_)
 rw [ia]
 exact TI.s2 hG h hm0 hm hv hx (by omega) (.inl (TI.below hG h hm0 hm hv hvl))
theorem TI.s4 {n c:Nat} (hu:Up T n m):n < N→Up (m8 T m v) n c→c < m→Up T v c:=by
 have key:∀ {n x:Nat},Up T n x→x=m→n < N→Up (m8 T m v) n c→c < m→Up T v c:=by
  intro n x hu
  induction hu with
  | @refl n =>
   rintro rfl hn hu' hc
   have:=(hu'.inv (by omega)).2
   rw [ia] at this
   exact TI.s1 hG h hm0 hm hv this
  | @step n x h0 hux ih =>
   rintro hxm hn hu' hc
   have hl:=h.low n h0 hn
   have hle:=hux.le h.low (by omega)
   have:=(hu'.inv (by omega)).2
   rw [fV (by omega)] at this
   exact ih hxm (by omega) this hc
 exact key hu rfl
theorem TI.ways {x:Nat} (hx:x < m) (hr:Rv pr x m):∀ n,n < N→Up T n m→Rv pr x n:=by
 intro n
 induction n using Nat.strongRecOn with
 | _ n ih =>
  intro hn hu
  by_cases hnm:n=m
  ·subst hnm; exact hr
  ·obtain ⟨h0,hu'⟩:=hu.inv (Ne.symm hnm)
   have hl:=hG.low n h0 hn
   have hle:=hu.le h.low hn
   have:=ih (p0 n) hl (by omega) (h.way n h0 hn m (.inr (Nat.le_refl _)) hu')
   exact .next this (hG.mem n h0 hn) (by omega)
theorem TI.next:TI N pr p0 (m + 1) (m8 T m v):=by
 have hvl:=TI.v_lt hG h hm0 hm hv
 have below:=fun {n:Nat} (hn:n < m)=>TI.below hG h hm0 hm hv hn
 refine ⟨fun n h0 hn=>?_,fun n h0 hn c hc=>?_,fun n h0 hn x hx hu=>?_,fun n hn x hx=>?_⟩
 ·by_cases hnm:n=m
  ·subst hnm; rw [ia]; exact hvl
  ·rw [fV hnm]; exact h.low n h0 hn
 ·by_cases hnm:n=m
  ·subst hnm
   rw [ia]
   exact TI.s2 hG h hm0 hm hv ((hv c).2 fun p hp=>TI.s1 hG h hm0 hm hv (hc p hp)) (by omega) (.inl (below hvl))
  ·rw [fV hnm]
   have hl:=h.low n h0 hn
   have hu:=h.meet n h0 hn c fun p hp=>TI.s1 hG h hm0 hm hv (hc p hp)
   by_cases h1:Up T (T n) m
   ·by_cases h2:m≤c
    ·exact TI.s2 hG h hm0 hm hv hu (by omega) (.inr h2)
    ·have h3:=h.way n h0 hn m (.inr (Nat.le_refl _)) h1
     have hl2:=hG.low n h0 hn
     exact TI.s3 hG h hm0 hm hv (by omega) h1 (TI.s4 hG h hm0 hm hv h3 (by omega) (hc _ (hG.mem n h0 hn)) (by omega))
   ·exact TI.s2 hG h hm0 hm hv hu (by omega) (.inl h1)
 ·have hl:=hG.low n h0 hn
  by_cases hnm:n=m
  ·subst hnm
   rw [ia] at hu
   exact TI.s2 hG h hm0 hm hv ((hv x).1 (TI.s1 hG h hm0 hm hv hu) _ (hG.mem n h0 hn)) (by omega) (.inl (below hl))
  ·rw [fV hnm] at hu
   have hu:=TI.s1 hG h hm0 hm hv hu
   rcases Nat.lt_or_ge n m with h1 | h1
   ·exact TI.s2 hG h hm0 hm hv (h.way n h0 hn x (.inl h1) hu) (by omega) (.inl (below (by omega)))
   ·have hx:m≤x:=by omega
    exact TI.s2 hG h hm0 hm hv (h.way n h0 hn x (.inr hx) hu) (by omega) (.inr hx)
 ·have hu:=h.dom n hn x hx
  by_cases h1:Up T n m
  ·by_cases h2:m≤x
   ·exact TI.s2 hG h hm0 hm hv hu hn (.inr h2)
   ·have h3:¬ Rv pr x m:=fun hr=>hx (TI.ways hG h hm0 hm hv (by omega) hr n hn h1)
    refine TI.s3 hG h hm0 hm hv hn h1 ((hv x).2 fun p hp=>h.dom p (hG.in_ m hm p hp) x fun hr=>h3 (.next hr hp (by omega)))
  ·exact TI.s2 hG h hm0 hm hv hu hn (.inl h1)
end
theorem TI.last {N:Nat} {pr:Nat→List Nat} {p0:Nat→Nat} {T:Nat→Nat} {m:Nat} (hG:Grf N pr p0) (h:TI N pr p0 m T) (hf:∀ n,n≠0→n < N→∀ x,Up T (T n) x ↔ ∀ p ∈ pr n,Up T p x) {n x:Nat} (hn:n < N):Up T n x ↔ ¬ Rv pr x n:=by
 refine ⟨fun hu hr=>?_,h.dom n hn x⟩
 have key:∀ {n:Nat},Rv pr x n→n < N→¬ Up T n x:=by
  intro n hr
  induction hr with
  | start h0=>exact fun _ hu=>h0 hu.zero.symm
  | @next p n _ hp hne ih =>
   intro hn hu
   obtain ⟨h0,hu⟩:=hu.inv (Ne.symm hne)
   exact ih (hG.in_ n hn p hp) ((hf n h0 hn x).1 hu p hp)
 exact key hr hn hu
def high (T:Nat→Nat):Nat→Nat
 | 0=>0
 | n + 1=>high T n + T n
theorem wX {T:Nat→Nat} {m v:Nat}:∀ N,m < N→high (m8 T m v) N + T m=high T N + v
 | 0,h=>absurd h (Nat.not_lt_zero _)
 | N + 1, h => by
  simp only [high]
  by_cases hm:m=N
  ·subst hm
   have:∀ k,k≤m→high (m8 T m v) k=high T k:=by
    intro k
    induction k with
    | zero=>intro _; rfl
    | succ k ih=>intro hk; simp only [high,ih (by omega)]; rw [fV (by omega)]
   rw [this m (Nat.le_refl _),ia]
   omega
  ·have:=wX (T:=T) (m:=m) (v:=v) N (by omega)
   rw [fV (T:=T) (n:=N) (by omega)]
   omega
def fF (l:List Nat):List Int:=l.map fun p:Nat=>(p:Int)
end Go.Ab
end
section
set_option maxRecDepth 10000
namespace Go.Ab
def blk (o:List Int) (n:Nat):Nat:=(o[n]?.getD 0).toNat
section
variable {bs:List DBlock} {o:List Int} (hI:OI bs o)
include hI
theorem OI.at_ {n:Nat} (h:n < o.length):o[n]? = some ((blk o n:Nat):Int):=by
 have hx:=D6 h
 have hp:=(hI.pos _ (Ee hx)).1
 unfold blk
 rw [hx]
 simp only [Option.getD_some]
 congr 1
 omega
theorem OI.kF {n:Nat} (h:n < o.length):blk o n < bs.length:=by
 have:=(hI.pos _ (Ee (hI.at_ h))).2
 omega
theorem OI.inj {n m:Nat} (h:n < o.length) (h':m < o.length) (e:blk o n=blk o m):n=m:=by
 have h1:=hI.at_ h
 have h2:=hI.at_ h'
 rw [e,← h2] at h1
 exact (List.getElem?_inj h hI.nod).1 h1
theorem OI.rank {b:Nat} (h:Rc bs (-1) b):∃ n,n < o.length∧blk o n=b:=by
 obtain ⟨n,hn,e⟩:=List.mem_iff_getElem.1 ((hI.mem b).2 h)
 refine ⟨n,hn,?_⟩
 have:=hI.at_ hn
 rw [D6 hn,e] at this
 simp only [D7] at this
 omega
theorem OI.rc {n:Nat} (h:n < o.length):Rc bs (-1) (blk o n):=(hI.mem _).1 (Ee (hI.at_ h))
theorem OI.zero (h:bs≠[]):0 < o.length∧blk o 0=0:=by
 have:=hI.first h
 cases o with
 | nil=>cases this
 | cons a o =>
  simp only [List.head?_cons,D7] at this
  subst this
  exact ⟨by simp,rfl⟩
end
def ln (o:List Int) (k n:Nat) (l:List Int):List Nat:=(l.filter fun g=>decide (g=((blk o n:Nat):Int))).map fun _=>k
def oC (bs:List DBlock) (o:List Int):Nat→Nat→List Nat
 | 0,_=>[]
 | k + 1,n=>oC bs o k n ++ ln o k n (ap bs (blk o k))
def prL (bs:List DBlock) (o:List Int) (n:Nat):List Nat:=oC bs o o.length n
theorem lT {o:List Int} {k n p:Nat} {l:List Int}:p ∈ ln o k n l ↔ p=k∧((blk o n:Nat):Int) ∈ l:=by
 unfold ln
 simp only [List.mem_map,List.mem_filter,decide_eq_true_eq]
 constructor
 ·rintro ⟨g,⟨h1,rfl⟩,rfl⟩; exact ⟨rfl,h1⟩
 ·rintro ⟨rfl,h⟩; exact ⟨_,⟨h,rfl⟩,rfl⟩
theorem sJ {bs:List DBlock} {o:List Int} {n p:Nat}:∀ {k:Nat},p ∈ oC bs o k n ↔ p < k∧((blk o n:Nat):Int) ∈ ap bs (blk o p)
 | 0=>by simp [oC]
 | k + 1 => by
  simp only [oC,List.mem_append,sJ (k:=k),lT]
  constructor
  ·rintro (⟨h1,h2⟩ | ⟨rfl,h⟩)
   ·exact ⟨by omega,h2⟩
   ·exact ⟨by omega,h⟩
  ·rintro ⟨h1,h2⟩
   by_cases e:p=k
   ·subst e; exact .inr ⟨rfl,h2⟩
   ·exact .inl ⟨by omega,h2⟩
theorem oh {bs:List DBlock} {o:List Int} {n p:Nat}:p ∈ prL bs o n ↔ p < o.length∧((blk o n:Nat):Int) ∈ ap bs (blk o p):=sJ
theorem pG {bs:List DBlock} {o:List Int} {n:Nat}:∀ (k:Nat),(oC bs o k n).Pairwise (·≤·)
 | 0=>.nil
 | k + 1 => by
  simp only [oC]
  refine List.pairwise_append.2 ⟨pG k,?_,fun a ha b hb=>?_⟩
  ·refine List.pairwise_of_forall_mem_list fun a ha b hb=>?_
   rw [(lT.1 ha).1,(lT.1 hb).1]
   exact Nat.le_refl _
  ·have:=(sJ.1 ha).1
   rw [(lT.1 hb).1]
   omega
def p0L (bs:List DBlock) (o:List Int) (n:Nat):Nat:=(prL bs o n)[0]?.getD 0
theorem DK {bs:List DBlock} {o:List Int} {n p:Nat} (h:p ∈ prL bs o n):p0L bs o n ∈ prL bs o n∧p0L bs o n≤p:=by
 have hs:=pG (bs:=bs) (o:=o) (n:=n) o.length
 unfold p0L
 cases hl:prL bs o n with
 | nil=>rw [hl] at h; cases h
 | cons a l =>
  unfold prL at hl
  rw [hl] at hs
  have h1:=(List.pairwise_cons.1 hs).1
  refine ⟨by simp,?_⟩
  unfold prL at h
  rw [hl] at h
  rcases List.mem_cons.1 h with rfl | h
  ·simp
  ·have:=h1 p h
   simpa using this
theorem p0_at {bs:List DBlock} {o:List Int} {n:Nat} (h:prL bs o n≠[]):(prL bs o n)[0]? = some (p0L bs o n):=by
 unfold p0L
 cases hl:prL bs o n with
 | nil=>exact absurd hl h
 | cons a l=>rfl
section
variable {bs:List DBlock} {o:List Int} (hI:OI bs o)
include hI
theorem OI.low {n:Nat} (h0:n≠0) (hn:n < o.length):∃ p,p ∈ prL bs o n∧p < n:=by
 have hat:=hI.at_ hn
 have he:o=o.take n ++ ((blk o n:Nat):Int) :: o.drop (n + 1):=by
  have h1:=D6 hn
  rw [hat] at h1
  simp only [D7] at h1
  rw [h1,List.getElem_cons_drop,List.take_append_drop]
 rcases hI.led _ _ _ he with h1 | ⟨p,h1,h2⟩
 ·exfalso
  have hb:bs≠[]:=fun e=>by have:=hI.kF hn; rw [e] at this; cases this
  obtain ⟨z1,z2⟩:=hI.zero hb
  exact h0 (hI.inj hn z1 (by rw [z2]; omega))
 ·obtain ⟨m,hm,e⟩:=List.mem_iff_getElem.1 h2
  simp only [List.length_take] at hm
  rw [List.getElem_take] at e
  have hm2:m < o.length:=by omega
  have hbm:=hI.at_ hm2
  rw [D6 hm2,e] at hbm
  simp only [D7] at hbm
  refine ⟨m,oh.2 ⟨hm2,?_⟩,by omega⟩
  rw [show blk o m=p by omega]
  exact h1
theorem OI.grf:Grf o.length (prL bs o) (p0L bs o):=by
 refine ⟨fun n hn p hp=>(oh.1 hp).1,fun n h0 hn=>?_,fun n h0 hn=>?_⟩
 ·obtain ⟨p,h1,h2⟩:=hI.low h0 hn
  exact (DK h1).1
 ·obtain ⟨p,h1,h2⟩:=hI.low h0 hn
  exact Nat.lt_of_le_of_lt (DK h1).2 h2
theorem OI.rv {d n:Nat} (hd:d < o.length) (hn:n < o.length):Rv (prL bs o) d n ↔ Rc bs ((blk o d:Nat):Int) (blk o n):=by
 have hb:bs≠[]:=fun e=>by have:=hI.kF hn; rw [e] at this; cases this
 obtain ⟨z1,z2⟩:=hI.zero hb
 constructor
 ·intro h
  have key:∀ {n:Nat},Rv (prL bs o) d n→n < o.length→Rc bs ((blk o d:Nat):Int) (blk o n):=by
   intro n h
   induction h with
   | start h0 =>
    intro _
    rw [z2]
    refine .start (fun e=>h0 (hI.inj z1 hd (by omega))) (List.length_pos_iff.2 hb)
   | @next p n _ hp hne ih =>
    intro hn
    obtain ⟨q1,q2⟩:=oh.1 hp
    have:=Rc.next (ih q1) q2 (fun e=>hne (hI.inj hn hd (by omega)))
    simpa using this
  exact key h hn
 ·intro h
  have key:∀ {b:Nat},Rc bs ((blk o d:Nat):Int) b→∃ n,n < o.length∧blk o n=b∧Rv (prL bs o) d n:=by
   intro b h
   induction h with
   | start h0 _=>exact ⟨0,z1,z2,.start fun e=>h0 (by rw [← e,z2]; rfl)⟩
   | @next i g hi hg hne ih =>
    obtain ⟨m,m1,m2,m3⟩:=ih
    have ht:=aY hg
    obtain ⟨n,n1,n2⟩:=hI.rank (Rc.next hi hg hne).any
    refine ⟨n,n1,n2,.next m3 (oh.2 ⟨m1,?_⟩) fun e=>hne ?_⟩
    ·rw [n2,m2,show ((g.toNat:Nat):Int)=g by omega]; exact hg
    ·rw [← e,n2]; omega
  obtain ⟨m,m1,m2,m3⟩:=key h
  rw [hI.inj hn m1 m2.symm]
  exact m3
variable {T p0:Nat→Nat} {m:Nat} (hG:Grf o.length (prL bs o) p0) (h:TI o.length (prL bs o) p0 m T) (hf:∀ n,n≠0→n < o.length→∀ x,Up T (T n) x ↔ ∀ p ∈ prL bs o n,Up T p x)
include hG h hf
theorem OI.up {n x:Nat} (hn:n < o.length) (hx:x < o.length):Dm bs (blk o x) (blk o n) ↔ Up T n x:=by
 rw [Dm.self,h.last hG hf hn,hI.rv hx hn]
 exact ⟨fun h=>h.2,fun h=>⟨hI.rc hn,h⟩⟩
theorem OI.nx {n:Nat} (h0:n≠0) (hn:n < o.length):Nx bs (blk o (T n)) (blk o n):=by
 have hl:=h.low n h0 hn
 have ht:T n < o.length:=by omega
 refine ⟨fun e=>by have:=hI.inj ht hn e; omega,(hI.up hG h hf hn ht).2 (.step h0 .refl),fun c hc hd=>?_⟩
 obtain ⟨x,x1,rfl⟩:=hI.rank hd.up
 have hu:=(hI.up hG h hf hn x1).1 hd
 exact (hI.up hG h hf ht x1).2 (hu.inv fun e=>hc (by rw [e])).2
theorem OI.ov {n:Nat} (h0:n≠0) (hn:n < o.length):ovN bs (blk o n)=((blk o (T n):Nat):Int):=uN (hI.nx hG h hf h0 hn)
end
def p0Z (bs:List DBlock) (o:List Int) (n:Nat):Nat:=if n=0 then 0 else p0L bs o n
theorem OI.grfZ {bs:List DBlock} {o:List Int} (hI:OI bs o):Grf o.length (prL bs o) (p0Z bs o) :=
 ⟨hI.grf.in_,fun n h0 hn=>by rw [p0Z,if_neg h0]; exact hI.grf.mem n h0 hn,fun n h0 hn=>by rw [p0Z,if_neg h0]; exact hI.grf.low n h0 hn⟩
theorem sH:∀ (n:Nat) {l:List Nat},l.Nodup→(∀ x ∈ l,x < n)→l.length≤n
 | 0,l,_,h=>by
  cases l with
  | nil=>exact Nat.le_refl _
  | cons a l=>exact absurd (h a Ec) (Nat.not_lt_zero _)
 | n + 1, l, hd, h => by
  by_cases hn:n ∈ l
  ·have:=sH n (hd.erase n) (fun x hx=>by
    have h1:=h x (List.mem_of_mem_erase hx)
    have h2:x≠n:=fun e=>by subst e; exact absurd hx (hd.not_mem_erase)
    omega)
   rw [List.length_erase_of_mem hn] at this
   omega
  ·have:=sH n hd (fun x hx=>by
    have h1:=h x hx
    have h2:x≠n:=fun e=>by subst e; exact hn hx
    omega)
   omega
theorem OI.len {bs:List DBlock} {o:List Int} (hI:OI bs o):o.length≤bs.length:=by
 have h1:(o.map Int.toNat).Nodup:=by
  refine List.pairwise_map.2 (List.Pairwise.imp_of_mem (fun {a b} ha hb hne e=>hne ?_) hI.nod)
  have:=hI.pos a ha
  have:=hI.pos b hb
  omega
 have:=sH bs.length h1 (fun x hx=>by
  obtain ⟨a,ha,rfl⟩:=List.mem_map.1 hx
  have:=hI.pos a ha
  omega)
 simpa using this
end Go.Ab
end
section
set_option maxRecDepth 10000
namespace Go.Ab
def RIL (q:Option Bool) (e:List TV) (l:List Nat):Prop:=∃ v,e=[v]∧RInts q v (fF l)
theorem RIL.own {e:List TV} {l:List Nat} (h:RIL (some true) e l):eK e=true:=by
 obtain ⟨v,rfl,h⟩:=h
 have:=h.own fun _ _ h=>h.own
 simp [eK,this]
theorem A8 {n:Nat} (h:n≤9223372036854775807):RL (some true) 1 (RIL (some true)) (.sl true 1 (List.replicate n [.lit au])) (List.replicate n []):=.sl (by simp) (F2.vB (by simp) fun i e a he ha=>by
 rw [List.getElem?_replicate] at he ha
 by_cases hi:i < n
 ·rw [if_pos hi] at he ha
  cases he
  cases ha
  exact ⟨_,rfl,.nil⟩
 ·rw [if_neg hi] at he
  cases he) (by simpa using h)
theorem ot {n:Nat} {a:Int} (ha:inI a) (h:n≤9223372036854775807):RInts (some true) (.sl true 1 (List.replicate n [I a])) (List.replicate n a):=.sl (by simp) (F2.vB (by simp) fun i e b he hb=>by
 rw [List.getElem?_replicate] at he hb
 by_cases hi:i < n
 ·rw [if_pos hi] at he hb
  cases he
  cases hb
  exact ⟨rfl,ha⟩
 ·rw [if_neg hi] at he
  cases he) (by simpa using h)
theorem oW {α:Type}:∀ {l:List α} {n:Nat} {a b:α},l[n]? = some a→(al l n b)[n]? = some b
 | [],n,a,b,h=>by simp at h
 | c :: l,0,a,b,h=>rfl
 | c :: l,n + 1,a,b,h=>by simp only [List.getElem?_cons_succ] at h; simp only [al,List.getElem?_cons_succ]; exact oW h
theorem sE {α:Type}:∀ {l:List α} {n:Nat} {a b:α},al (al l n a) n b=al l n b
 | [],n,a,b=>rfl
 | c :: l,0,a,b=>rfl
 | c :: l,n + 1,a,b=>by simp only [al,sE]
theorem RL.takeEl {y v:TV} {ll:List (List Nat)} (hy:RL (some true) 1 (RIL (some true)) y ll) {n:Nat} (he:Go.Ab.pel y n=some [v]):∃ y1,iZ [(n,0)] y .hole=some y1∧Go.Ab.slLen y1=some ll.length∧Go.Ab.slSize y1 1=true∧Go.Ab.pel y1 n=some [.hole] ∧
  ∀ {v':TV} {l':List Nat},RInts (some true) v' (fF l')→∃ y2,dC [] y1 n 0 [v']=some y2∧RL (some true) 1 (RIL (some true)) y2 (ll.set n l'):=by
 obtain ⟨xs,rfl,hk,hf,hb⟩:=hy.at he
 have hset:al [v] 0 TV.hole=[TV.hole]:=rfl
 refine ⟨.sl true 1 (al xs n [.hole]),?_,?_,rfl,oW hk,fun {v' l'} hv=>?_⟩
 ·simp only [iZ,hk,List.getElem?_cons_zero,hset]
 ·simp only [Go.Ab.slLen,jO,hf.length]
 ·refine ⟨.sl true 1 (al xs n [v']),?_,.sl (by simp) (hf.set ⟨v',rfl,hv⟩) (by rw [jO]; exact hb)⟩
  simp only [dC,cm,wx,oW hk,iZ]
  rw [sE]
  rfl
theorem Ar (l m:List Nat):fF (l ++ m)=fF l ++ fF m:=by simp [fF]
def lh (bs:List DBlock) (o:List Int) (k j n:Nat):List Nat:=oC bs o k n ++ ln o k n ((ap bs (blk o k)).take j)
def dD (bs:List DBlock) (o:List Int) (k j:Nat):List (List Nat):=(List.range o.length).map (lh bs o k j)
theorem tV (o:List Int) (k n:Nat) (l:List Int):(ln o k n l).length≤l.length:=by
 unfold ln
 rw [List.length_map]
 exact List.length_filter_le _ _
theorem ra (bs:List DBlock) (o:List Int) (n:Nat):∀ k,(oC bs o k n).length≤3 * k
 | 0=>by simp [oC]
 | k + 1=>by
  have h1:=ra bs o n k
  have h2:=tV o k n (ap bs (blk o k))
  have h3:=fS bs (blk o k)
  simp only [oC,List.length_append]
  omega
theorem zH (bs:List DBlock) (o:List Int) (k j n:Nat):(lh bs o k j n).length≤3 * k + 3:=by
 have h1:=ra bs o n k
 have h2:=tV o k n ((ap bs (blk o k)).take j)
 have h3:=fS bs (blk o k)
 rw [List.length_take] at h2
 simp only [lh,List.length_append]
 omega
theorem lQ {bs:List DBlock} {o:List Int} {k j n:Nat} (h:n < o.length):(dD bs o k j)[n]? = some (lh bs o k j n):=by simp [dD,h]
theorem vg (bs:List DBlock) (o:List Int):dD bs o 0 0=List.replicate o.length []:=by
 apply List.ext_getElem?
 intro n
 rw [List.getElem?_replicate]
 by_cases h:n < o.length
 ·rw [lQ h,if_pos h]; simp [lh,oC,ln]
 ·rw [if_neg h,Eh (by simp [dD]; omega)]
theorem yo (bs:List DBlock) (o:List Int):dD bs o o.length 0=(List.range o.length).map (prL bs o):=by
 unfold dD
 refine List.map_congr_left fun n _=>?_
 simp [lh,ln,prL]
theorem xf (bs:List DBlock) (o:List Int) (k:Nat):dD bs o k (ap bs (blk o k)).length=dD bs o (k + 1) 0:=by
 unfold dD
 refine List.map_congr_left fun n _=>?_
 simp [lh,oC,ln]
theorem wq {bs:List DBlock} {o:List Int} (hI:OI bs o) {k j n:Nat} (hn:n < o.length) (hg:(ap bs (blk o k))[j]? = some ((blk o n:Nat):Int)):dD bs o k (j + 1)=(dD bs o k j).set n (lh bs o k j n ++ [k]):=by
 apply List.ext_getElem?
 intro m
 by_cases hm:m < o.length
 ·rw [lQ hm]
  by_cases hmn:n=m
  ·subst hmn
   rw [List.getElem?_set_self (by simp [dD]; exact hm)]
   simp only [lh,jB hg,ln,List.filter_append,List.map_append,List.append_assoc]
   simp
  ·rw [List.getElem?_set_ne hmn,lQ hm]
   simp only [lh,jB hg,ln,List.filter_append,List.map_append]
   have:¬ ((blk o n:Nat):Int)=((blk o m:Nat):Int):=fun e=>hmn (hI.inj hn hm (by omega))
   simp [this]
 ·rw [Eh (by simp [dD]; omega),Eh (by simp [dD]; omega)]
end Go.Ab
namespace Go.Ab.Q12
open Go Go.Ab Go.Proofs
section
variable {q:Option Bool} {b:TV} {f:DFunc} (hf:RFunc q [I f.params,I f.regs,b] f) (hs:f.blocks.length≤1000) {x:TV} {o:List Int} {qx:Option Bool} (hx:RInts qx x o) (hI:OI f.blocks o) (hol:o.length≤1000)
include hf hs hx hI hol
theorem C5 {w6:TV} {M:List Int} (hM:RInts (some true) w6 M) (hMl:M.length=f.blocks.length) (hMa:∀ n,n < o.length→M[blk o n]? = some ((n:Nat):Int)):∀ (d k:Nat) (w:TV),k + d=o.length→RL (some true) 1 (RIL (some true)) w (dD f.blocks o k 0) →
  ∃ y,aa prog 74 (f74_2 x (I o.length) (I k) (I f.params) (I f.regs) b w6 w) y∧RL (some true) 1 (RIL (some true)) y ((List.range o.length).map (prL f.blocks o)):=by
 intro d
 induction d with
 | zero =>
  intro k w hk hw
  have hk:k=o.length:=by omega
  subst hk
  rw [yo] at hw
  refine ⟨w,?_,hw⟩
  unfold f74_2
  exact aa.tv rfl (aa.ite bU nofun fun _=>aa.chk (hw.own fun _ _ h=>h.own) aa.ret)
 | succ d ih =>
  intro k w hk hw
  have hkl:k < o.length:=by omega
  obtain ⟨e,he,rfl,hei⟩:=hx.idx (k:=.i64) (hI.at_ hkl)
  obtain ⟨v,hv,hvr⟩:=r71 hf ((blk o k:Nat):Int)
  rw [jq] at hvr
  have hnl:=fS f.blocks (blk o k)
  have inner:∀ (c j:Nat) (w:TV),j + c=(ap f.blocks (blk o k)).length→RL (some true) 1 (RIL (some true)) w (dD f.blocks o k j) →
    ∃ y,aa prog 74 (f74_3 (I k) x (I o.length) (I k) (I (ap f.blocks (blk o k)).length) (I j) (I f.params) (I f.regs) b w6 w v) y∧RL (some true) 1 (RIL (some true)) y ((List.range o.length).map (prL f.blocks o)):=by
   intro c
   induction c with
   | zero =>
    intro j w hj hw
    have hj:j=(ap f.blocks (blk o k)).length:=by omega
    subst hj
    rw [xf] at hw
    obtain ⟨y,hy,hr⟩:=ih (k + 1) w (by omega) hw
    refine ⟨y,?_,hr⟩
    unfold f74_3
    exact aa.tv rfl (aa.ite bU nofun fun _=>aa.tv (inc hkl (by omega)) (f74_2_J hy))
   | succ c ihc =>
    intro j w hj hw
    have hjl:j < (ap f.blocks (blk o k)).length:=by omega
    obtain ⟨g,hgg⟩:∃ g,g=(ap f.blocks (blk o k))[j]:=⟨_,rfl⟩
    have hg:(ap f.blocks (blk o k))[j]? = some g:=by rw [hgg]; exact D6 hjl
    have hgm:=Ee hg
    have hgt:=aY hgm
    obtain ⟨n,hn,hnb⟩:=hI.rank (Rc.next (hI.rc hkl) hgm (by omega))
    have hgn:g=((blk o n:Nat):Int):=by omega
    subst hgn
    obtain ⟨e1,he1,rfl,_⟩:=hvr.pel hg
    obtain ⟨e2,he2,rfl,_⟩:=hM.pel (hMa n hn)
    obtain ⟨e3,he3,u,rfl,hu⟩:=hw.pel (lQ (k:=k) (j:=j) hn)
    have hlen:=zH f.blocks o k j n
    obtain ⟨u',hu1,hu2⟩:=hu.app (e:=[I k]) (a:=(k:Int)) ⟨rfl,by constructor <;> omega⟩ (by simp only [fF,List.length_map]; omega)
    obtain ⟨w1,t1,t2,t3,t4,t5⟩:=hw.takeEl he3
    obtain ⟨w2,s1,s2⟩:=t5 (v':=u') (l':=lh f.blocks o k j n ++ [k]) (by rw [Ar]; exact hu2)
    rw [← wq hI hn hg] at s2
    obtain ⟨y,hy,hr⟩:=ihc (j + 1) w2 (by omega) s2
    refine ⟨y,?_,hr⟩
    have hblt:=hI.kF hn
    have hrl:(dD f.blocks o k j).length=o.length:=by simp [dD]
    have anb:ah (nth TV.hole [I ((blk o n:Nat):Int)] 0)=some (blk o n):=ak (by omega)
    have ann:ah (nth TV.hole [I ((n:Nat):Int)] 0)=some n:=ak (by omega)
    have c9:(Bool.and (slSize w6 1) (Nat.blt (blk o n) M.length))=true:=by rw [hM.slSize]; simp; omega
    unfold f74_3
    refine aa.tv rfl (aa.ite (bS hjl) (fun _=>?_) nofun)
    refine aa.nat hvr.slLen (aa.nat (ak (by omega)) (aa.chk ?_ (aa.tvs he1 (aa.chk rfl ?_))))
    ·rw [hvr.slSize]; simpa using hjl
    refine aa.nat hM.slLen (aa.nat anb (aa.chk c9 (aa.tvs he2 (aa.chk rfl ?_))))
    refine aa.nat hM.slLen (aa.nat anb (aa.chk c9 (aa.tvs he2 (aa.chk rfl ?_))))
    refine aa.nat hw.slLen (aa.nat ann (aa.chk ?_ (aa.tvs he3 (aa.chk (a9 hu.isSl) (aa.chk rfl (aa.rws rfl ?_))))))
    ·rw [hw.slSize,hrl]; simpa using hn
    refine aa.tv (hw.deep he3 (j:=0) (z:=u) rfl) (aa.tv hu1 (aa.tv t1 ?_))
    refine aa.nat t2 (aa.nat ann (aa.chk ?_ (aa.tvs t4 (aa.chk ?_ (aa.tv s1 (aa.tv (inc hjl (by omega)) (f74_3_J hy)))))))
    ·rw [t3,hrl]; simpa using hn
    ·rw [a9 hu2.isSl]; rfl
  obtain ⟨y,hy,hr⟩:=inner _ 0 w (Nat.zero_add _) hw
  refine ⟨y,?_,hr⟩
  unfold f74_2
  exact aa.tv rfl (aa.ite (bS hkl) (fun _=>aa.tvs he (aa.chk rfl (aa.call hv (aa.chk (a9 hvr.isSl) (aa.tv hvr.len (f74_3_J hy)))))) nofun)
theorem befOf:∀ (d k:Nat) (w:TV) (M:List Int),k + d=o.length→RInts (some true) w M→M.length=f.blocks.length→(∀ n,n < k→M[blk o n]? = some ((n:Nat):Int)) →
  ∃ y,aa prog 74 (f74_0 x x (I o.length) (I k) (I f.params) (I f.regs) b w) y∧RL (some true) 1 (RIL (some true)) y ((List.range o.length).map (prL f.blocks o)):=by
 intro d
 induction d with
 | zero =>
  intro k w M hk hw hl hm
  have hk:k=o.length:=by omega
  subst hk
  obtain ⟨y,hy,hr⟩:=C5 hf hs hx hI hol hw hl hm o.length 0 _ (by omega) (by rw [vg]; exact A8 (n:=o.length) (by omega))
  refine ⟨y,?_,hr⟩
  unfold f74_0
  refine aa.tv rfl (aa.ite bU nofun fun _=>f74_1_J ?_)
  have hn:ah (I (o.length:Nat))=some o.length:=ak (by omega)
  unfold f74_1
  exact aa.tv hx.len (aa.nat hn (aa.nat hn (aa.chk (by simp; omega) (aa.tv hx.len (f74_2_J hy)))))
 | succ d ih =>
  intro k w M hk hw hl hm
  have hkl:k < o.length:=by omega
  obtain ⟨e,he,rfl,hei⟩:=hx.idx (k:=.i64) (hI.at_ hkl)
  have hblt:=hI.kF hkl
  have hbM:blk o k < M.length:=by omega
  obtain ⟨e2,he2,rfl,_⟩:=hw.pel (D6 hbM)
  obtain ⟨w',c1,c2⟩:=hw.fG he2 (d:=0) (ys:=[I k]) (a:=(k:Int)) ⟨rfl,by constructor <;> omega⟩
  obtain ⟨y,hy,hr⟩:=ih (k + 1) w' _ (by omega) c2 (by simpa using hl) (fun n hn=>by
   by_cases e:n=k
   ·subst e; exact List.getElem?_set_self hbM
   ·rw [List.getElem?_set_ne (fun h=>e (hI.inj (by omega) hkl h.symm))]
    exact hm n (by omega))
  refine ⟨y,?_,hr⟩
  unfold f74_0
  refine aa.tv rfl (aa.ite (bS hkl) (fun _=>aa.tvs he (aa.chk rfl ?_)) nofun)
  refine aa.nat hw.slLen (aa.nat (ak (by omega)) (aa.chk ?_ (aa.chk rfl (aa.tvs he2 (aa.chk rfl (aa.tv c1 (aa.tv (inc hkl (by omega)) (f74_0_J hy))))))))
  rw [hw.slSize]; simpa using hbM
end
theorem Cg {q:Option Bool} {e:List TV} {f:DFunc} (he:RFunc q e f) (hs:f.blocks.length≤1000) {x:TV} {o:List Int} {qx:Option Bool} (hx:RInts qx x o) (hI:OI f.blocks o) (hol:o.length≤1000) :
  ∃ y,bc prog 74 [.agg e,x] y∧RL (some true) 1 (RIL (some true)) y ((List.range o.length).map (prL f.blocks o)):=by
 have he0:=he
 obtain ⟨b,rfl,hb,_⟩:=he
 obtain ⟨y,hy,hr⟩:=befOf he0 hs hx hI hol o.length 0 _ _ (by omega) (ot (n:=f.blocks.length) (a:=0) ⟨by decide,by decide⟩ (by omega)) (by simp) (fun n hn=>absurd hn (Nat.not_lt_zero _))
 refine ⟨y,?_,hr⟩
 have hn:ah (I (f.blocks.length:Nat))=some f.blocks.length:=ak (by omega)
 refine bc.of (f74_MR _ _) ?_
 unfold f74_M
 exact aa.chk rfl (aa.tv hb.len (aa.nat hn (aa.nat hn (aa.chk (by simp; omega) (aa.tv hx.len (f74_0_J hy))))))
end Go.Ab.Q12
end

import Derived.Test.YtaokcbfenabbgaaDoorHS13F27
import Derived.Test.YtaokcbfenabbgaaDoorHS13Xa
import Derived.OpenShut
import Derived.Test.YtaokcbfenabbgaaDoorHF1
import Derived.Test.YtaokcbfenabbgaaDoorHM0
import Derived.Below
import Derived.Orders
import Derived.Laws.Cells
import Derived.Laws.OwnMore
import Derived.Laws.CopyOwn
import Derived.Maps.AppendAt
import Derived.Lib.FrozenHead
set_option linter.all false
section
set_option maxRecDepth 20000
namespace Go.Ab
def aT:List UInt8->List UInt8 × List (List UInt8)
 | []=>([],[])
 | c :: l=>if (c == 32)=true then ([],(aT l).1 :: (aT l).2) else (c :: (aT l).1,(aT l).2)
theorem iz:∀ l,dT (aT l).1 (aT l).2=l/\plain (aT l).1/\∀ t,t ∈ (aT l).2->plain t
 | []=>⟨rfl,fun _ h=>(nomatch h),fun _ h=>(nomatch h)⟩
 | c :: l => by
  obtain ⟨h1,h2,h3⟩:=iz l
  unfold aT
  by_cases hc:(c == 32)=true
  ·rw [if_pos hc]
   refine ⟨?_,fun _ h=>(nomatch h),fun t ht=>?_⟩
   ·have:c=32:=by simpa using hc
    subst this
    show [] ++ List.flatMap (fun t=>32 :: t) ((aT l).1 :: (aT l).2)=32 :: l
    rw [List.flatMap_cons,List.nil_append,List.cons_append]
    exact congrArg _ h1
   ·rcases List.mem_cons.1 ht with rfl | ht
    ·exact h2
    ·exact h3 t ht
  ·rw [if_neg hc]
   refine ⟨?_,fun a ha=>?_,h3⟩
   ·show (c :: (aT l).1) ++ _=_
    rw [List.cons_append]
    exact congrArg _ h1
   ·rcases List.mem_cons.1 ha with rfl | ha
    ·simpa using hc
    ·exact h2 a ha
theorem lL {w:List UInt8} {ts:List (List UInt8)} (hw:plain w) (ht:∀ t,t ∈ ts->plain t):aT (dT w ts)=(w,ts):=by
 obtain ⟨h1,h2,h3⟩:=iz (dT w ts)
 obtain ⟨h4,h5⟩:=tok_eq h2 hw h3 ht h1
 exact Prod.ext h4 h5
def rx (c:UInt8):Bool:=decide (48<=c.toNat/\c.toNat<=57)
theorem zA (r:List UInt8) (c:UInt8):jK (r ++ [c])=10 * jK r + (c.toNat - 48):=by
 unfold jK
 rw [List.foldl_append]
 rfl
theorem lY {u:Nat} (h:10<=u):Lib.decDigits u=Lib.decDigits (u / 10) ++ [UInt8.ofNat (48 + u % 10)]:=by
 rw [Lib.decDigits,dif_neg (by omega)]
theorem wL (u:Nat):Lib.decDigits u≠[]:=by
 by_cases h:u < 10
 ·rw [Lib.decDigits_one h]; simp
 ·rw [lY (by omega)]; simp
theorem u1 {α:Type} {a b:List α} (h:a≠[]):(a ++ b).head? = a.head? := by
 cases a with
 | nil=>exact absurd rfl h
 | cons x r=>rfl
theorem Bq:∀ {u:Nat},0 < u->(Lib.decDigits u).head? ≠ some 48:=by
 intro u
 induction u using Nat.strongRecOn with
 | _ u ih =>
  intro hu
  by_cases h:u < 10
  ·rw [Lib.decDigits_one h]
   intro e
   have e:=Option.some.inj e
   have:=congrArg UInt8.toNat e
   simp [UInt8.toNat_ofNat'] at this
   omega
  ·rw [lY (by omega),u1 (wL _)]
   exact ih (u / 10) (by omega) (by omega)
theorem xG:∀ (k:Nat) {u:Nat},u < 10 ^ (k + 1)->(Lib.decDigits u).length<=k + 1
 | 0,u,h=>by rw [Lib.decDigits_one (by omega)]; simp
 | k + 1, u, h => by
  by_cases h1:u < 10
  ·rw [Lib.decDigits_one h1]; simp
  ·rw [lY (by omega),List.length_append]
   have:=xG k (u:=u / 10) (by rw [Nat.pow_succ] at h; omega)
   simp
   omega
theorem Cf:∀ (n:Nat) (s:List UInt8),s.length=n + 1->s.all rx=true->(s.head? ≠ some 48\/n=0)->s=Lib.decDigits (jK s):=by
 intro n
 induction n with
 | zero =>
  intro s hl ha _
  obtain ⟨c,rfl⟩:=List.length_eq_one_iff.1 hl
  have hc:48<=c.toNat/\c.toNat<=57:=by simpa [rx] using ha
  have hv:jK [c]=c.toNat - 48:=by simp [jK]
  rw [hv,Lib.decDigits_one (by omega),show 48 + (c.toNat - 48)=c.toNat by omega,UInt8.ofNat_toNat]
 | succ n ih =>
  intro s hl ha hh
  have hh:s.head? ≠ some 48:=hh.resolve_right (by omega)
  rcases List.eq_nil_or_concat s with rfl | ⟨r,c,rfl⟩
  ·simp at hl
  simp only [List.concat_eq_append] at *
  have hr:r.length=n + 1:=by simpa using hl
  have hne:r≠[]:=by intro e; subst e; simp at hr
  have h1:r.all rx=true/\(48<=c.toNat/\c.toNat<=57):=by simpa [rx] using ha
  rw [u1 hne] at hh
  have he:=ih r hr h1.1 (.inl hh)
  have hpos:0 < jK r:=by
   rcases Nat.eq_zero_or_pos (jK r) with e | e
   ·rw [e,Lib.decDigits_one (by omega)] at he
    rw [he] at hh
    exact absurd rfl hh
   ·exact e
  rw [zA,lY (by omega),show (10 * jK r + (c.toNat - 48)) / 10=jK r by omega,show 48 + (10 * jK r + (c.toNat - 48)) % 10=c.toNat by omega,UInt8.ofNat_toNat,<- he]
def cl (s:List UInt8):Int:=if s.length=0\/5 < s.length\/(s.head? = some 48/\1 < s.length)\/s.all rx=false\/65535 < jK s then -1 else (jK s:Nat)
theorem qG {n:Int} (h:0<=n):Lib.itoa n=Lib.decDigits n.toNat:=by unfold Lib.itoa; rw [if_neg (by omega)]
theorem kK {n:Int} (h0:0<=n) (h:n<=65535):cl (Lib.itoa n)=n:=by
 have hd:(Lib.decDigits n.toNat).all rx=true:=by
  rw [List.all_eq_true]
  intro c hc
  have:=lz n.toNat c hc
  simp [rx]
  omega
 have hl:=xG 4 (u:=n.toNat) (by omega)
 have hne:=List.length_pos_iff.2 (wL n.toNat)
 rw [qG h0]
 unfold cl
 rw [vH,if_neg]
 ·omega
 ·rintro (h | h | ⟨h,h1⟩ | h | h)
  ·omega
  ·omega
  ·rcases Nat.eq_zero_or_pos n.toNat with e | e
   ·rw [e,Lib.decDigits_one (by omega)] at h1
    simp at h1
   ·exact Bq e h
  ·rw [hd] at h; cases h
  ·omega
theorem nW {s:List UInt8} (h:0<=cl s):s=Lib.itoa (cl s)/\cl s<=65535:=by
 unfold cl at *
 split at h
 ·omega
 ·rename_i hn
  rw [if_neg hn]
  simp only [not_or,not_and] at hn
  obtain ⟨h1,h2,h3,h4,h5⟩:=hn
  refine ⟨?_,by omega⟩
  rw [qG (by omega),Int.toNat_natCast]
  refine Cf (s.length - 1) s (by omega) (by simpa using h4) ?_
  by_cases e:s.head? = some 48
  ·exact .inr (by have:=h3 e; omega)
  ·exact .inl e
theorem nS {ts:List (List UInt8)} (h:∀ n,n ∈ ts.map cl->0<=n):ts=(ts.map cl).map Lib.itoa/\∀ n,n ∈ ts.map cl->0<=n/\n<=65535:=by
 constructor
 ·rw [List.map_map]
  conv=>lhs; rw [<- List.map_id ts]
  exact List.map_congr_left fun t ht=>(nW (h _ (List.mem_map.2 ⟨t,ht,rfl⟩))).1
 ·intro n hn
  obtain ⟨t,ht,rfl⟩:=List.mem_map.1 hn
  exact ⟨h _ hn,(nW (h _ hn)).2⟩
theorem iq {l:List Int} (h:∀ n,n ∈ l->0<=n/\n<=65535):(l.map Lib.itoa).map cl=l:=by
 rw [List.map_map]
 conv=>rhs; rw [<- List.map_id l]
 exact List.map_congr_left fun n hn=>kK (h n hn).1 (h n hn).2
theorem gN (l:List Int):∀ t,t ∈ l.map Lib.itoa->plain t:=fun t ht=>by
 obtain ⟨n,_,rfl⟩:=List.mem_map.1 ht
 exact lq n
def mkI (k:Int) (l:List Int):DIns :=
 if k=1 then ⟨1,l.getD 0 0,0,0,l.getD 1 0,0,[]⟩ else if k=2 then ⟨2,l.getD 0 0,l.getD 1 0,0,0,0,[]⟩
 else if 3<=k/\k<=8 then ⟨k,l.getD 0 0,l.getD 1 0,l.getD 2 0,0,0,[]⟩ else if k=9 then ⟨9,l.getD 0 0,l.getD 1 0,0,0,0,[]⟩
 else if k=10 then ⟨10,0,l.getD 0 0,l.getD 1 0,0,0,[]⟩ else if k=11 then ⟨11,l.getD 0 0,0,0,0,l.getD 1 0,l.drop 2⟩
 else if k=12 then ⟨12,0,l.getD 0 0,0,0,0,[]⟩ else if k=13 then ⟨13,l.getD 0 0,0,0,0,0,[]⟩ else ⟨k,0,0,0,0,0,[]⟩
def yV (k:Int) (n:Nat):Prop:=if k=11 then 2<=n/\n<=10 else n=(if k=12\/k=13 then 1 else if 3<=k/\k<=8 then 3 else 2)
theorem rm {k:Int} (h:1<=k/\k<=13):k=1\/k=2\/k=3\/k=4\/k=5\/k=6\/k=7\/k=8\/k=9\/k=10\/k=11\/k=12\/k=13:=by omega
theorem lQ (k:Int) (l:List Int):(mkI k l).op=k:=by
 unfold mkI
 split
 ·simp_all
 split
 ·simp_all
 split
 ·rfl
 split
 ·simp_all
 split
 ·simp_all
 split
 ·simp_all
 split
 ·simp_all
 split
 ·simp_all
 rfl
theorem ul (w:List UInt8):opN w=0\/(1<=opN w/\opN w<=13)/\w=wOf (opN w):=by
 by_cases h1:w=[99,111,110,115,116]
 ·subst h1; exact .inr ⟨by decide,by decide⟩
 by_cases h2:w=[99,111,112,121]
 ·subst h2; exact .inr ⟨by decide,by decide⟩
 by_cases h3:w=[97,100,100]
 ·subst h3; exact .inr ⟨by decide,by decide⟩
 by_cases h4:w=[115,117,98]
 ·subst h4; exact .inr ⟨by decide,by decide⟩
 by_cases h5:w=[109,117,108]
 ·subst h5; exact .inr ⟨by decide,by decide⟩
 by_cases h6:w=[100,105,118]
 ·subst h6; exact .inr ⟨by decide,by decide⟩
 by_cases h7:w=[101,113]
 ·subst h7; exact .inr ⟨by decide,by decide⟩
 by_cases h8:w=[108,116]
 ·subst h8; exact .inr ⟨by decide,by decide⟩
 by_cases h9:w=[108,111,97,100]
 ·subst h9; exact .inr ⟨by decide,by decide⟩
 by_cases h10:w=[115,116,111,114,101]
 ·subst h10; exact .inr ⟨by decide,by decide⟩
 by_cases h11:w=[99,97,108,108]
 ·subst h11; exact .inr ⟨by decide,by decide⟩
 by_cases h12:w=[111,117,116]
 ·subst h12; exact .inr ⟨by decide,by decide⟩
 by_cases h13:w=[105,110]
 ·subst h13; exact .inr ⟨by decide,by decide⟩
 exact .inl (by simp [opN,h1,h2,h3,h4,h5,h6,h7,h8,h9,h10,h11,h12,h13])
theorem vc {k:Int} (h:1<=k/\k<=13):plain (wOf k)/\opN (wOf k)=k:=by
 rcases rm h with rfl | rfl | rfl | rfl | rfl | rfl | rfl | rfl | rfl | rfl | rfl | rfl | rfl <;> exact ⟨by unfold plain; decide,by decide⟩
theorem uL {x:DIns} (h:1<=x.op/\x.op<=13):pe x=dT (wOf x.op) ((nsI x).map Lib.itoa):=by
 rw [<- tL]
 rcases rm h with h | h | h | h | h | h | h | h | h | h | h | h | h <;> simp [pe,wOf,nsI,h]
def vv (x:DIns):Prop:=(1<=x.op/\x.op<=13)/\x=mkI x.op (nsI x)/\(∀ n,n ∈ nsI x->0<=n/\n<=65535)/\x.args.length<=8
theorem vv.cnt {x:DIns} (h:vv x):yV x.op (nsI x).length/\(nsI x).length<=10:=by
 obtain ⟨h1,_,_,h4⟩:=h
 rcases rm h1 with e | e | e | e | e | e | e | e | e | e | e | e | e <;> simp [yV,nsI,e]
 omega
theorem ri {α:Type} {l:List α} (h:l.length=1):∃ a,l=[a]:=List.length_eq_one_iff.1 h
theorem len2 {α:Type} {l:List α} (h:l.length=2):∃ a b,l=[a,b]:=by
 match l,h with
 | [a,b],_=>exact ⟨a,b,rfl⟩
theorem len3 {α:Type} {l:List α} (h:l.length=3):∃ a b c,l=[a,b,c]:=by
 match l,h with
 | [a,b,c],_=>exact ⟨a,b,c,rfl⟩
theorem len2m {α:Type} {l:List α} (h:2<=l.length):∃ a b r,l=a :: b :: r:=by
 match l,h with
 | a :: b :: r,_=>exact ⟨a,b,r,rfl⟩
theorem mkI_ns {k:Int} (h:1<=k/\k<=13) {l:List Int} (hc:yV k l.length):nsI (mkI k l)=l/\(mkI k l).args.length<=8:=by
 unfold yV at hc
 rcases rm h with rfl | rfl | rfl | rfl | rfl | rfl | rfl | rfl | rfl | rfl | rfl | rfl | rfl
 ·obtain ⟨a,b,rfl⟩:=len2 (l:=l) (by simpa using hc)
  exact ⟨by simp [mkI,nsI],by simp [mkI]⟩
 ·obtain ⟨a,b,rfl⟩:=len2 (l:=l) (by simpa using hc)
  exact ⟨by simp [mkI,nsI],by simp [mkI]⟩
 ·obtain ⟨a,b,c,rfl⟩:=len3 (l:=l) (by simpa using hc)
  exact ⟨by simp [mkI,nsI],by simp [mkI]⟩
 ·obtain ⟨a,b,c,rfl⟩:=len3 (l:=l) (by simpa using hc)
  exact ⟨by simp [mkI,nsI],by simp [mkI]⟩
 ·obtain ⟨a,b,c,rfl⟩:=len3 (l:=l) (by simpa using hc)
  exact ⟨by simp [mkI,nsI],by simp [mkI]⟩
 ·obtain ⟨a,b,c,rfl⟩:=len3 (l:=l) (by simpa using hc)
  exact ⟨by simp [mkI,nsI],by simp [mkI]⟩
 ·obtain ⟨a,b,c,rfl⟩:=len3 (l:=l) (by simpa using hc)
  exact ⟨by simp [mkI,nsI],by simp [mkI]⟩
 ·obtain ⟨a,b,c,rfl⟩:=len3 (l:=l) (by simpa using hc)
  exact ⟨by simp [mkI,nsI],by simp [mkI]⟩
 ·obtain ⟨a,b,rfl⟩:=len2 (l:=l) (by simpa using hc)
  exact ⟨by simp [mkI,nsI],by simp [mkI]⟩
 ·obtain ⟨a,b,rfl⟩:=len2 (l:=l) (by simpa using hc)
  exact ⟨by simp [mkI,nsI],by simp [mkI]⟩
 ·rw [if_pos rfl] at hc
  obtain ⟨a,b,r,rfl⟩:=len2m (l:=l) hc.1
  have:=hc.2
  exact ⟨by simp [mkI,nsI],by simp [mkI] at this ⊢; omega⟩
 ·obtain ⟨a,rfl⟩:=ri (l:=l) (by simpa using hc)
  exact ⟨by simp [mkI,nsI],by simp [mkI]⟩
 ·obtain ⟨a,rfl⟩:=ri (l:=l) (by simpa using hc)
  exact ⟨by simp [mkI,nsI],by simp [mkI]⟩
theorem yO {k:Int} (h:1<=k/\k<=13) (l:List Int):mkI k l=mkI k (nsI (mkI k l)):=by
 rcases rm h with rfl | rfl | rfl | rfl | rfl | rfl | rfl | rfl | rfl | rfl | rfl | rfl | rfl <;> simp [mkI,nsI]
theorem C8 {k:Int} (h:1<=k/\k<=13) {l:List Int} (hl:∀ n,n ∈ l->0<=n/\n<=65535):∀ n,n ∈ nsI (mkI k l)->0<=n/\n<=65535:=by
 have hg:∀ i,0<=l.getD i 0/\l.getD i 0<=65535:=fun i=>by
  rw [DH]
  cases e:l[i]? with
  | none=>simp
  | some a=>exact hl a (DC e)
 have h0:=hg 0
 have h1:=hg 1
 have h2:=hg 2
 have hd:∀ n,n ∈ l.drop 2->0<=n/\n<=65535:=fun n hn=>hl n (List.mem_of_mem_drop hn)
 rcases rm h with rfl | rfl | rfl | rfl | rfl | rfl | rfl | rfl | rfl | rfl | rfl | rfl | rfl <;> intro n hn <;> simp only [mkI,nsI] at hn <;> simp at hn
 all_goals first
  | (rcases hn with rfl | rfl | hn <;> first | exact h0 | exact h1 | exact h2 | exact hd _ hn | (subst hn; first | exact h0 | exact h1 | exact h2))
  | (rcases hn with rfl | rfl <;> first | exact h0 | exact h1)
  | (subst hn; exact h0)
open Classical in
noncomputable def kT (s:List UInt8):Option DIns :=
 if opN (aT s).1≠0/\(∀ n,n ∈ (aT s).2.map cl->0<=n)/\yV (opN (aT s).1) (aT s).2.length then some (mkI (opN (aT s).1) ((aT s).2.map cl)) else none
theorem qf {s:List UInt8} {x:DIns}:kT s=some x ↔ vv x/\pe x=s:=by
 unfold kT
 constructor
 ·intro h
  split at h
  ·rename_i hc
   obtain ⟨h1,h2,h3⟩:=hc
   cases h
   obtain ⟨ho,hw⟩:=(ul (aT s).1).resolve_left h1
   obtain ⟨h4,h5⟩:=nS h2
   have h6:=mkI_ns ho (l:=(aT s).2.map cl) (by rw [List.length_map]; exact h3)
   refine ⟨⟨by rw [lQ]; exact ho,by rw [lQ,h6.1],by rw [h6.1]; exact h5,h6.2⟩,?_⟩
   rw [uL (by rw [lQ]; exact ho),lQ,h6.1,<- hw,<- h4]
   exact (iz s).1
  ·cases h
 ·rintro ⟨hg,rfl⟩
  have hc:=hg.cnt
  obtain ⟨h1,h2,h3,h4⟩:=hg
  have hcond:opN (wOf x.op)≠0/\(∀ n,n ∈ ((nsI x).map Lib.itoa).map cl->0<=n)/\yV (opN (wOf x.op)) ((nsI x).map Lib.itoa).length:=by
   rw [(vc h1).2,iq h3,List.length_map]
   exact ⟨by omega,fun n hn=>(h3 n hn).1,hc.1⟩
  rw [uL h1,lL (vc h1).1 (gN _)]
  rw [if_pos hcond,(vc h1).2,iq h3,<- h2]
theorem BJ {s:List UInt8} {w:List UInt8} {ts:List (List UInt8)} {pu:List UInt8->Int} (hp:∀ t,0<=pu t/\pu t<=65535) (hi:∀ n:Int,0<=n->n<=65535->pu (Lib.itoa n)=n)
  (hs:∀ (w':List UInt8) (ts':List (List UInt8)),plain w'->(∀ t,t ∈ ts'->plain t)->ts'.length<=13->s=dT w' ts'->w=w'/\ts=ts') {x:DIns} :
  (mkI (opN w) (ts.map pu)=x/\x.op≠0/\x.args.length<=8/\pe x=s) ↔ kT s=some x:=by
 rw [qf]
 constructor
 ·rintro ⟨rfl,h1,h2,h3⟩
  rw [lQ] at h1
  have ho:=((ul w).resolve_left h1).1
  refine ⟨⟨by rw [lQ]; exact ho,by rw [lQ]; exact yO ho _,C8 ho fun n hn=>?_,h2⟩,h3⟩
  obtain ⟨t,_,rfl⟩:=List.mem_map.1 hn
  exact hp t
 ·rintro ⟨hg,rfl⟩
  have hc:=hg.cnt
  obtain ⟨h1,h2,h3,h4⟩:=hg
  obtain ⟨rfl,rfl⟩:=hs (wOf x.op) ((nsI x).map Lib.itoa) (vc h1).1 (gN _) (by rw [List.length_map]; omega) (uL h1)
  refine ⟨?_,by omega,h4,rfl⟩
  rw [(vc h1).2,List.map_map]
  conv=>rhs; rw [h2]
  congr 1
  conv=>rhs; rw [<- List.map_id (nsI x)]
  exact List.map_congr_left fun n hn=>hi n (h3 n hn).1 (h3 n hn).2
end Go.Ab
end
section
set_option maxRecDepth 20000
namespace Go.Ab
open Go.Ab.S13
def mkE (k:Int) (l:List Int):DEnd :=
 if k=1 then ⟨1,l.getD 0 0,0,0,[],0,0,0⟩ else if k=2 then ⟨2,0,0,0,[],l.getD 0 0,0,0⟩
 else if k=3 then ⟨3,l.getD 0 0,0,0,[],l.getD 1 0,l.getD 2 0,0⟩ else if k=4 then ⟨4,0,l.getD 0 0,l.getD 1 0,l.drop 4,l.getD 2 0,0,l.getD 3 0⟩
 else if k=5 then ⟨5,l.getD 0 0,0,0,[],0,0,0⟩ else ⟨k,0,0,0,[],0,0,0⟩
def yQ (k:Int) (n:Nat):Prop:=if k=4 then 4<=n/\n<=12 else n=(if k=6 then 0 else if k=3 then 3 else 1)
theorem kH {k:Int} (h:1<=k/\k<=6):k=1\/k=2\/k=3\/k=4\/k=5\/k=6:=by omega
theorem gK (k:Int) (l:List Int):(mkE k l).kind=k:=by
 unfold mkE
 split
 ·simp_all
 split
 ·simp_all
 split
 ·simp_all
 split
 ·simp_all
 split
 ·simp_all
 rfl
theorem A6 (w:List UInt8):kN w=0\/(1<=kN w/\kN w<=6)/\w=kOf (kN w):=by
 by_cases h1:w=[114,101,116]
 ·subst h1; exact .inr ⟨by decide,by decide⟩
 by_cases h2:w=[106,117,109,112]
 ·subst h2; exact .inr ⟨by decide,by decide⟩
 by_cases h3:w=[98,114,97,110,99,104]
 ·subst h3; exact .inr ⟨by decide,by decide⟩
 by_cases h4:w=[105,110,118,111,107,101]
 ·subst h4; exact .inr ⟨by decide,by decide⟩
 by_cases h5:w=[116,104,114,111,119]
 ·subst h5; exact .inr ⟨by decide,by decide⟩
 by_cases h6:w=[114,101,115,117,109,101]
 ·subst h6; exact .inr ⟨by decide,by decide⟩
 exact .inl (by simp [kN,h1,h2,h3,h4,h5,h6])
theorem AS {k:Int} (h:1<=k/\k<=6):plain (kOf k)/\kN (kOf k)=k:=by
 rcases kH h with rfl | rfl | rfl | rfl | rfl | rfl <;> exact ⟨by unfold plain; decide,by decide⟩
theorem uC {x:DEnd} (h:1<=x.kind/\x.kind<=6):pd x=dT (kOf x.kind) ((nsE x).map Lib.itoa):=by
 rw [<- tL]
 rcases kH h with h | h | h | h | h | h <;> simp [pd,kOf,nsE,h]
def vz (x:DEnd):Prop:=(1<=x.kind/\x.kind<=6)/\x=mkE x.kind (nsE x)/\(∀ n,n ∈ nsE x->0<=n/\n<=65535)/\x.args.length<=8
theorem vz.cnt {x:DEnd} (h:vz x):yQ x.kind (nsE x).length/\(nsE x).length<=12:=by
 obtain ⟨h1,_,_,h4⟩:=h
 rcases kH h1 with e | e | e | e | e | e <;> simp [yQ,nsE,e]
 omega
theorem len4m {α:Type} {l:List α} (h:4<=l.length):∃ a b c d r,l=a :: b :: c :: d :: r:=by
 match l,h with
 | a :: b :: c :: d :: r,_=>exact ⟨a,b,c,d,r,rfl⟩
theorem mkE_ns {k:Int} (h:1<=k/\k<=6) {l:List Int} (hc:yQ k l.length):nsE (mkE k l)=l/\(mkE k l).args.length<=8:=by
 unfold yQ at hc
 rcases kH h with rfl | rfl | rfl | rfl | rfl | rfl
 ·obtain ⟨a,rfl⟩:=ri (l:=l) (by simpa using hc)
  exact ⟨by simp [mkE,nsE],by simp [mkE]⟩
 ·obtain ⟨a,rfl⟩:=ri (l:=l) (by simpa using hc)
  exact ⟨by simp [mkE,nsE],by simp [mkE]⟩
 ·obtain ⟨a,b,c,rfl⟩:=len3 (l:=l) (by simpa using hc)
  exact ⟨by simp [mkE,nsE],by simp [mkE]⟩
 ·rw [if_pos rfl] at hc
  obtain ⟨a,b,c,d,r,rfl⟩:=len4m (l:=l) hc.1
  have:=hc.2
  exact ⟨by simp [mkE,nsE],by simp [mkE] at this ⊢; omega⟩
 ·obtain ⟨a,rfl⟩:=ri (l:=l) (by simpa using hc)
  exact ⟨by simp [mkE,nsE],by simp [mkE]⟩
 ·have:l=[]:=List.length_eq_zero_iff.1 (by simpa using hc)
  subst this
  exact ⟨by simp [mkE,nsE],by simp [mkE]⟩
theorem zR {k:Int} (h:1<=k/\k<=6) (l:List Int):mkE k l=mkE k (nsE (mkE k l)):=by
 rcases kH h with rfl | rfl | rfl | rfl | rfl | rfl <;> simp [mkE,nsE]
theorem Cl {k:Int} (h:1<=k/\k<=6) {l:List Int} (hl:∀ n,n ∈ l->0<=n/\n<=65535):∀ n,n ∈ nsE (mkE k l)->0<=n/\n<=65535:=by
 have hg:∀ i,0<=l.getD i 0/\l.getD i 0<=65535:=fun i=>by
  rw [DH]
  cases e:l[i]? with
  | none=>simp
  | some a=>exact hl a (DC e)
 have hd:∀ n,n ∈ l.drop 4->0<=n/\n<=65535:=fun n hn=>hl n (List.mem_of_mem_drop hn)
 have key:∀ n,n ∈ nsE (mkE k l)->(∃ i,n=l.getD i 0)\/n ∈ l.drop 4:=by
  rcases kH h with rfl | rfl | rfl | rfl | rfl | rfl <;> intro n hn <;> simp [mkE,nsE] at hn
  ·exact .inl ⟨0,by simpa using hn⟩
  ·exact .inl ⟨0,by simpa using hn⟩
  ·rcases hn with rfl | rfl | rfl
   ·exact .inl ⟨0,by simp⟩
   ·exact .inl ⟨1,by simp⟩
   ·exact .inl ⟨2,by simp⟩
  ·rcases hn with rfl | rfl | rfl | rfl | hn
   ·exact .inl ⟨0,by simp⟩
   ·exact .inl ⟨1,by simp⟩
   ·exact .inl ⟨2,by simp⟩
   ·exact .inl ⟨3,by simp⟩
   ·exact .inr hn
  ·exact .inl ⟨0,by simpa using hn⟩
 intro n hn
 rcases key n hn with ⟨i,rfl⟩ | h
 ·exact hg i
 ·exact hd n h
open Classical in
noncomputable def jL (s:List UInt8):Option DEnd :=
 if kN (aT s).1≠0/\(∀ n,n ∈ (aT s).2.map cl->0<=n)/\yQ (kN (aT s).1) (aT s).2.length then some (mkE (kN (aT s).1) ((aT s).2.map cl)) else none
theorem pT {s:List UInt8} {x:DEnd}:jL s=some x ↔ vz x/\pd x=s:=by
 unfold jL
 constructor
 ·intro h
  split at h
  ·rename_i hc
   obtain ⟨h1,h2,h3⟩:=hc
   cases h
   obtain ⟨ho,hw⟩:=(A6 (aT s).1).resolve_left h1
   obtain ⟨h4,h5⟩:=nS h2
   have h6:=mkE_ns ho (l:=(aT s).2.map cl) (by rw [List.length_map]; exact h3)
   refine ⟨⟨by rw [gK]; exact ho,by rw [gK,h6.1],by rw [h6.1]; exact h5,h6.2⟩,?_⟩
   rw [uC (by rw [gK]; exact ho),gK,h6.1,<- hw,<- h4]
   exact (iz s).1
  ·cases h
 ·rintro ⟨hg,rfl⟩
  have hc:=hg.cnt
  obtain ⟨h1,h2,h3,h4⟩:=hg
  have hcond:kN (kOf x.kind)≠0/\(∀ n,n ∈ ((nsE x).map Lib.itoa).map cl->0<=n)/\yQ (kN (kOf x.kind)) ((nsE x).map Lib.itoa).length:=by
   rw [(AS h1).2,iq h3,List.length_map]
   exact ⟨by omega,fun n hn=>(h3 n hn).1,hc.1⟩
  rw [uC h1,lL (AS h1).1 (gN _)]
  rw [if_pos hcond,(AS h1).2,iq h3,<- h2]
theorem B6 {s:List UInt8} {w:List UInt8} {ts:List (List UInt8)} {pu:List UInt8->Int} (hp:∀ t,0<=pu t/\pu t<=65535) (hi:∀ n:Int,0<=n->n<=65535->pu (Lib.itoa n)=n)
  (hs:∀ (w':List UInt8) (ts':List (List UInt8)),plain w'->(∀ t,t ∈ ts'->plain t)->ts'.length<=13->s=dT w' ts'->w=w'/\ts=ts') {x:DEnd} :
  (mkE (kN w) (ts.map pu)=x/\x.kind≠0/\x.args.length<=8/\pd x=s) ↔ jL s=some x:=by
 rw [pT]
 constructor
 ·rintro ⟨rfl,h1,h2,h3⟩
  rw [gK] at h1
  have ho:=((A6 w).resolve_left h1).1
  refine ⟨⟨by rw [gK]; exact ho,by rw [gK]; exact zR ho _,Cl ho fun n hn=>?_,h2⟩,h3⟩
  obtain ⟨t,_,rfl⟩:=List.mem_map.1 hn
  exact hp t
 ·rintro ⟨hg,rfl⟩
  have hc:=hg.cnt
  obtain ⟨h1,h2,h3,h4⟩:=hg
  obtain ⟨rfl,rfl⟩:=hs (kOf x.kind) ((nsE x).map Lib.itoa) (AS h1).1 (gN _) (by rw [List.length_map]; omega) (uC h1)
  refine ⟨?_,by omega,h4,rfl⟩
  rw [(AS h1).2,List.map_map]
  conv=>rhs; rw [h2]
  congr 1
  conv=>rhs; rw [<- List.map_id (nsE x)]
  exact List.map_congr_left fun n hn=>hi n (h3 n hn).1 (h3 n hn).2
abbrev hU:List UInt8:=[99,97,116,99,104]
abbrev wN:List UInt8:=[97,108,108]
abbrev lH:List UInt8:=[99,108,101,97,110,117,112]
abbrev oS:List UInt8:=[112,97,100]
def mP (a c:Bool):List (List UInt8):=(bif a then [wN] else []) ++ (bif c then [lH] else [])
theorem pA (p:DPad):wO p=Lib.itoa p.dst :: ((if 0 < p.catches.length then hU :: p.catches.map Lib.itoa else []) ++ mP p.all p.cleanup):=rfl
def x8 (l:List (List UInt8)):Option (Bool × Bool):=if l=[] then some (false,false) else if l=[wN] then some (true,false) else if l=[lH] then some (false,true) else if l=[wN,lH] then some (true,true) else none
theorem sH {l:List (List UInt8)} {a c:Bool}:x8 l=some (a,c) ↔ l=mP a c:=by
 constructor
 ·intro h
  unfold x8 at h
  split at h
  ·rename_i e; subst e; cases h; rfl
  split at h
  ·rename_i e; subst e; cases h; rfl
  split at h
  ·rename_i e; subst e; cases h; rfl
  split at h
  ·rename_i e; subst e; cases h; rfl
  cases h
 ·rintro rfl
  cases a <;> cases c <;> decide
def na (l:List (List UInt8)):Option (List Int × List (List UInt8)):=match l with
 | []=>some ([],[])
 | t :: r=>if t=hU then (if (r.takeWhile fun t=>decide (0<=cl t)).length=0\/8 < (r.takeWhile fun t=>decide (0<=cl t)).length then none else some ((r.takeWhile fun t=>decide (0<=cl t)).map cl,r.dropWhile fun t=>decide (0<=cl t))) else some ([],t :: r)
theorem uU (r:List (List UInt8)):na (hU :: r)=(if (r.takeWhile fun t=>decide (0<=cl t)).length=0\/8 < (r.takeWhile fun t=>decide (0<=cl t)).length then none else some ((r.takeWhile fun t=>decide (0<=cl t)).map cl,r.dropWhile fun t=>decide (0<=cl t))):=by
 simp only [na,if_true]
def ia (s:List UInt8):Option DPad:=if (aT s).1=oS then (match (aT s).2 with
 | []=>none
 | t :: r => if cl t < 0 then none else match na r with
  | none=>none
  | some (ns,r)=>match x8 r with
   | none=>none
   | some (a,c)=>some ⟨cl t,ns,a,c⟩) else none
def BZ (p:DPad):Prop:=(0<=p.dst/\p.dst<=65535)/\(∀ n,n ∈ p.catches->0<=n/\n<=65535)/\p.catches.length<=8
theorem np:cl hU < 0/\cl wN < 0/\cl lH < 0:=by decide
theorem xB (a c:Bool):mP a c=[]\/∃ t l,mP a c=t :: l/\(!decide (0<=cl t))=true:=by
 cases a <;> cases c
 ·exact .inl rfl
 ·exact .inr ⟨lH,[],rfl,by decide⟩
 ·exact .inr ⟨wN,[],rfl,by decide⟩
 ·exact .inr ⟨wN,[lH],rfl,by decide⟩
theorem zu {ns:List Int} {a c:Bool} (h:∀ n,n ∈ ns->0<=n/\n<=65535) (hl:ns.length<=8):na ((if 0 < ns.length then hU :: ns.map Lib.itoa else []) ++ mP a c)=some (ns,mP a c):=by
 by_cases h0:0 < ns.length
 ·rw [if_pos h0]
  have hn:∀ t,t ∈ ns.map Lib.itoa->(!decide (0<=cl t))=false:=fun t ht=>by
   obtain ⟨n,hn,rfl⟩:=List.mem_map.1 ht
   rw [kK (h n hn).1 (h n hn).2]
   simp [(h n hn).1]
  obtain ⟨h1,h2⟩:=kP (p:=fun t=>!decide (0<=cl t)) hn (xB a c)
  simp only [Bool.not_not] at h1 h2
  rw [List.cons_append,uU,h1,h2,iq h,List.length_map,if_neg (by omega)]
 ·rw [if_neg h0,List.length_eq_zero_iff.1 (show ns.length=0 by omega)]
  cases a <;> cases c <;> decide
theorem zD {l:List (List UInt8)} {ns:List Int} {r:List (List UInt8)} (h:na l=some (ns,r)):l=(if 0 < ns.length then hU :: ns.map Lib.itoa else []) ++ r/\(∀ n,n ∈ ns->0<=n/\n<=65535)/\ns.length<=8:=by
 unfold na at h
 split at h
 ·cases h
  exact ⟨rfl,fun _ h=>(nomatch h),by simp⟩
 ·rename_i t q
  split at h
  ·rename_i e
   subst e
   split at h
   ·cases h
   ·rename_i hc
    cases h
    have hm:∀ n,n ∈ (q.takeWhile fun t=>decide (0<=cl t)).map cl->0<=n:=fun n hn=>by
     obtain ⟨t,ht,rfl⟩:=List.mem_map.1 hn
     have:=List.all_takeWhile (p:=fun t=>decide (0<=cl t)) (l:=q)
     rw [List.all_eq_true] at this
     simpa using this t ht
    obtain ⟨h1,h2⟩:=nS hm
    refine ⟨?_,h2,by rw [List.length_map]; omega⟩
    rw [List.length_map,if_pos (by omega),<- h1,List.cons_append,List.takeWhile_append_dropWhile]
  ·cases h
   exact ⟨by simp,fun _ h=>(nomatch h),by simp⟩
theorem uZ {s:List UInt8} {p:DPad}:ia s=some p ↔ BZ p/\um p=s:=by
 have w0:plain oS:=by unfold plain; decide
 constructor
 ·intro h
  unfold ia at h
  split at h
  ·rename_i hw
   split at h
   ·cases h
   ·rename_i t r hts
    split at h
    ·cases h
    ·rename_i hn
     split at h
     ·cases h
     ·rename_i ns r' hcp
      split at h
      ·cases h
      ·rename_i a c htp
       cases h
       obtain ⟨e1,e2,e3⟩:=zD hcp
       have e4:=sH.1 htp
       have e5:=nW (s:=t) (by omega)
       refine ⟨⟨⟨by show 0<=cl t; omega,e5.2⟩,e2,e3⟩,?_⟩
       have:=(iz s).1
       rw [uK,<- this,hw,hts,pA]
       show dT oS (Lib.itoa (cl t) :: ((if 0 < ns.length then hU :: ns.map Lib.itoa else []) ++ mP a c))=_
       rw [<- e5.1,<- e4,<- e1]
  ·cases h
 ·rintro ⟨⟨h1,h2,h3⟩,rfl⟩
  unfold ia
  rw [uK,lL w0 (qF p),if_pos rfl,pA]
  show (if cl (Lib.itoa p.dst) < 0 then none else _)=_
  rw [kK h1.1 h1.2,if_neg (by omega),zu h2 h3]
  show (match x8 (mP p.all p.cleanup) with | none=>none | some (a,c)=>some (⟨p.dst,p.catches,a,c⟩:DPad))=_
  rw [sH.2 rfl]
def ca (pu:List UInt8->Int) (p:DPad) (t:List UInt8):DPad:=if t=hU then p else if t=wN then { p with all:=true } else if t=lH then { p with cleanup:=true } else { p with catches:=p.catches ++ [pu t] }
def o9 (pu:List UInt8->Int):List (List UInt8)->DPad
 | []=>⟨0,[],false,false⟩
 | t :: r=>r.foldl (ca pu) ⟨pu t,[],false,false⟩
theorem qq {pu:List UInt8->Int} (hp:∀ t,0<=pu t/\pu t<=65535):∀ (l:List (List UInt8)) (p:DPad),(0<=p.dst/\p.dst<=65535)->(∀ n,n ∈ p.catches->0<=n/\n<=65535)->(0<=(l.foldl (ca pu) p).dst/\(l.foldl (ca pu) p).dst<=65535)/\∀ n,n ∈ (l.foldl (ca pu) p).catches->0<=n/\n<=65535
 | [],p,h1,h2=>⟨h1,h2⟩
 | t :: l, p, h1, h2 => by
  rw [List.foldl_cons]
  refine qq hp l _ ?_ ?_
  ·unfold ca
   split
   ·exact h1
   split
   ·exact h1
   split
   ·exact h1
   exact h1
  ·unfold ca
   split
   ·exact h2
   split
   ·exact h2
   split
   ·exact h2
   intro n hn
   rcases List.mem_append.1 hn with h | h
   ·exact h2 n h
   ·rw [List.mem_singleton.1 h]; exact hp t
theorem ma {pu:List UInt8->Int} (hi:∀ n:Int,0<=n->n<=65535->pu (Lib.itoa n)=n):∀ (ns:List Int) (p:DPad),(∀ n,n ∈ ns->0<=n/\n<=65535)->(ns.map Lib.itoa).foldl (ca pu) p={ p with catches:=p.catches ++ ns }
 | [],p,_=>by simp
 | n :: ns, p, h => by
  have hne:∀ w:List UInt8,cl w < 0->Lib.itoa n≠w:=fun w hw e=>by
   have:=kK (h n (by simp)).1 (h n (by simp)).2
   rw [e] at this
   have:=(h n (by simp)).1
   omega
  have hst:ca pu p (Lib.itoa n)={ p with catches:=p.catches ++ [n] }:=by
   unfold ca
   rw [if_neg (hne _ np.1),if_neg (hne _ np.2.1),if_neg (hne _ np.2.2),hi n (h n (by simp)).1 (h n (by simp)).2]
  rw [List.map_cons,List.foldl_cons,hst,ma hi ns _ fun k hk=>h k (by simp [hk])]
  simp
theorem zq {pu:List UInt8->Int} (hi:∀ n:Int,0<=n->n<=65535->pu (Lib.itoa n)=n) {p:DPad} (hg:BZ p):o9 pu (wO p)=p:=by
 obtain ⟨h1,h2,h3⟩:=hg
 rw [pA]
 show List.foldl (ca pu) ⟨pu (Lib.itoa p.dst),[],false,false⟩ _=_
 rw [hi _ h1.1 h1.2,List.foldl_append]
 have hc:List.foldl (ca pu) ⟨p.dst,[],false,false⟩ (if 0 < p.catches.length then hU :: p.catches.map Lib.itoa else [])=⟨p.dst,p.catches,false,false⟩:=by
  by_cases h0:0 < p.catches.length
  ·rw [if_pos h0,List.foldl_cons,show ca pu ⟨p.dst,[],false,false⟩ hU=⟨p.dst,[],false,false⟩ from rfl,ma hi _ _ h2]
   simp
  ·rw [if_neg h0,List.length_eq_zero_iff.1 (show p.catches.length=0 by omega)]
   rfl
 rw [hc]
 cases p with
 | mk d ns a c=>cases a <;> cases c <;> rfl
theorem AK {s:List UInt8} {w:List UInt8} {ts:List (List UInt8)} {pu:List UInt8->Int} (hp:∀ t,0<=pu t/\pu t<=65535) (hi:∀ n:Int,0<=n->n<=65535->pu (Lib.itoa n)=n)
  (hs:∀ (w':List UInt8) (ts':List (List UInt8)),plain w'->(∀ t,t ∈ ts'->plain t)->ts'.length<=13->s=dT w' ts'->w=w'/\ts=ts') {p:DPad} :
  (o9 pu ts=p/\p.catches.length<=8/\um p=s) ↔ ia s=some p:=by
 rw [uZ]
 constructor
 ·rintro ⟨rfl,h2,h3⟩
  have:(0<=(o9 pu ts).dst/\(o9 pu ts).dst<=65535)/\∀ n,n ∈ (o9 pu ts).catches->0<=n/\n<=65535:=by
   cases ts with
   | nil=>exact ⟨by show (0:Int)<=0/\(0:Int)<=65535; decide,fun _ h=>(nomatch h)⟩
   | cons t r=>exact qq hp r _ (hp t) fun _ h=>(nomatch h)
  exact ⟨⟨this.1,this.2,h2⟩,h3⟩
 ·rintro ⟨hg,rfl⟩
  have w0:plain oS:=by unfold plain; decide
  obtain ⟨rfl,rfl⟩:=hs oS (wO p) w0 (qF p) (by
   rw [pA]
   have:=hg.2.2
   have ht:(mP p.all p.cleanup).length<=2:=by cases p.all <;> cases p.cleanup <;> decide
   simp only [List.length_cons,List.length_append]
   split
   ·simp; omega
   ·simp; omega) (uK p)
  exact ⟨zq hi hg,hg.2.2,rfl⟩
theorem tz {s:List UInt8} {x:DIns} (h:kT s=some x):opN (aT s).1≠0:=by
 unfold kT at h
 split at h
 ·rename_i hc; exact hc.1
 ·cases h
theorem sJ {s:List UInt8} {x:DEnd} (h:jL s=some x):kN (aT s).1≠0:=by
 unfold jL at h
 split at h
 ·rename_i hc; exact hc.1
 ·cases h
theorem sA {s:List UInt8} {p:DPad} (h:ia s=some p):(aT s).1=oS:=by
 unfold ia at h
 split at h
 ·rename_i hc; exact hc
 ·cases h
theorem qp (w:List UInt8):(opN w≠0->kN w=0/\w≠oS)/\(kN w≠0->w≠oS):=by
 constructor
 ·intro h
  obtain ⟨h1,h2⟩:=(ul w).resolve_left h
  rw [h2]
  rcases rm h1 with e | e | e | e | e | e | e | e | e | e | e | e | e <;> rw [e] <;> decide
 ·rintro h rfl
  exact h (by decide)
theorem one_IE {s:List UInt8} {x:DIns} {y:DEnd} (h:kT s=some x) (h':jL s=some y):False:=sJ h' ((qp _).1 (tz h)).1
theorem one_IP {s:List UInt8} {x:DIns} {y:DPad} (h:kT s=some x) (h':ia s=some y):False:=((qp _).1 (tz h)).2 (sA h')
theorem one_EP {s:List UInt8} {x:DEnd} {y:DPad} (h:jL s=some x) (h':ia s=some y):False:=(qp _).2 (sJ h) (sA h')
end Go.Ab
end
section
set_option maxRecDepth 20000
namespace Go.Ab
abbrev Sb (l:List UInt8):TV:=.lit (.string ⟨⟨l⟩⟩)
theorem sb_len (l:List UInt8):plen .str (Sb l)=some (I (l.length:Nat)):=rfl
theorem sb_cut {l:List UInt8} {a b:Nat} (h1:a<=b) (h2:b<=l.length):pslice .str 0 (Sb l) (some a) (some b)=some (Sb ((l.drop a).take (b - a))):=by
 have h3:(⟨⟨l⟩⟩:ByteArray).size=l.length:=rfl
 show (if a<=b/\b<=(⟨⟨l⟩⟩:ByteArray).size then _ else none)=_
 rw [if_pos ⟨h1,by rw [h3]; exact h2⟩]
 have:(⟨⟨l⟩⟩:ByteArray).extract a b=⟨⟨(l.drop a).take (b - a)⟩⟩:=by
  apply ByteArray.ext
  simp [ByteArray.data_extract,List.extract_eq_take_drop]
 show some (TV.lit (.string ((⟨⟨l⟩⟩:ByteArray).extract a b)))=_
 rw [this]
theorem gH (a b:List UInt8):pbin .str .eql (Sb a) (Sb b)=some (B (decide (a=b))):=by
 by_cases h:a=b
 ·subst h; simp [pbin,kf]
 ·simp [pbin,kf,h]
def RS1 (e:List TV) (s:List UInt8):Prop:=e=[Sb s]
abbrev RStrs (q:Option Bool) (v:TV) (l:List (List UInt8)):Prop:=RL q 1 RS1 v l
theorem RL.snoc {α:Type} {s:Nat} {R:List TV->α->Prop} {y:TV} {l:List α} (hy:RL (some true) s R y l) {e:List TV} {a:α} (hR:R e a) (hl:l.length + 1<=4294967296):∃ y',papp s y [e]=some y'/\RL (some true) s R y' (l ++ [a]):=by
 rcases hy with ⟨rfl,rfl⟩ | ⟨o,xs,rfl,hq,h,hb⟩
 ·refine ⟨.sl true s [e],by simp [papp,aj,room,CX],.sl (by simp) (.cons hR .nil) (by simp)⟩
 ·have:o=true:=hq true rfl
  subst this
  have hxl:=h.length
  refine ⟨.sl true s (xs ++ [e]),?_,.sl (by simp) (h.append (.cons hR .nil)) (by simp; omega)⟩
  simp [papp,room]; omega
end Go.Ab
namespace Go.Ab.S13
open Go Go.Ab Go.Proofs
end Go.Ab.S13
end
section
set_option maxRecDepth 20000
namespace Go.Ab
open Go.Ab.S13
end Go.Ab
namespace Go.Ab.S13
open Go Go.Ab Go.Proofs
theorem xI (s:List UInt8):aC prog 16 [Sb s] (I (opN s)):=by
 refine aC.of (f16_MR _) ?_
 unfold f16_M opN
 repeat' refine aa.tv (gH s _) (aa.ite (v:=decide _) rfl (fun h=>?_) (fun h=>?_))
 all_goals (simp only [decide_eq_true_eq,decide_eq_false_iff_not] at *; simp only [*,if_true,if_false]; exact aa.ret)
theorem pl (s:List UInt8):aC prog 18 [Sb s] (I (kN s)):=by
 refine aC.of (f18_MR _) ?_
 unfold f18_M kN
 repeat' refine aa.tv (gH s _) (aa.ite (v:=decide _) rfl (fun h=>?_) (fun h=>?_))
 all_goals (simp only [decide_eq_true_eq,decide_eq_false_iff_not] at *; simp only [*,if_true,if_false]; exact aa.ret)
theorem iEq (a b:Int):pbin (.int .i64) .eql (I a) (I b)=some (B (decide (a=b))):=by
 by_cases h:a=b
 ·subst h; simp [pbin,ja]
 ·simp [pbin,ja,h]
end Go.Ab.S13
end
section
namespace Go.Ab
open Go.RowKit
theorem aP {α:Type} (d:α):∀ (l:List α) (n:Nat),nth d l n=(l[n]?).getD d
 | [],n=>by simp [nth]
 | a :: l,0=>rfl
 | a :: l,n + 1=>by simp [nth,aP d l n]
theorem ah {α:Type}:∀ (l:List α) (n:Nat) (b:α),aq l n b=l.set n b
 | [],n,b=>by simp [aq]
 | a :: l,0,b=>rfl
 | a :: l,n + 1,b=>by simp [aq,ah l n b]
theorem bp {α:Type} {d:α} {l:List α} {n:Nat} {a:α} (h:l[n]? = some a):nth d l n=a:=by rw [aP,h]; rfl
theorem ar (a b:Nat):a.beq b=true ↔ a=b:=⟨Nat.eq_of_beq_eq_true,fun h=>h ▸ Nat.beq_refl a⟩
theorem bI (n:Nat):∀ l:List Nat,bu n l=true ↔ n ∈ l
 | []=>by simp [bu]
 | a :: l => by
  cases h:a.beq n
  ·have:a≠n:=fun e=>by simp [e] at h
   simp only [bu,h,cond_false,bI n l,List.mem_cons]
   constructor
   ·exact .inr
   ·rintro (e | e)
    ·exact absurd e.symm this
    ·exact e
  ·simp only [bu,h,cond_true,List.mem_cons,true_iff]
   exact .inl ((ar a n).1 h).symm
theorem ea (a:Addr) (k:Nat):(a.add k).block=a.block:=by unfold Addr.add; split <;> rfl
theorem dJ (a:Addr) (i j:Nat):(a.add i).add j=a.add (i + j):=by
 unfold Addr.add
 by_cases hi:i=0 <;> by_cases hj:j=0 <;> simp [hi,hj,Nat.add_assoc]
theorem eY (b o k:Nat):(⟨b,o,none⟩:Addr).add k=⟨b,o + k,none⟩:=by unfold Addr.add; split <;> simp_all
def spl {α:Type} (l:List α) (o:Nat) (ys:List α):List α:=l.take o ++ ys ++ l.drop (o + ys.length)
theorem fV {α:Type} {l ys:List α} {o:Nat} (h:o + ys.length<=l.length):(spl l o ys).length=l.length:=by
 simp only [spl,List.length_append,List.length_take,List.length_drop]
 omega
theorem ce {α:Type} {l ys:List α} {o:Nat} (h:o + ys.length<=l.length) (k:Nat):(spl l o ys)[k]? = if o<=k/\k < o + ys.length then ys[k - o]? else l[k]? := by
 have e1:(l.take o).length=o:=by simp; omega
 unfold spl
 by_cases h1:k < o
 ·rw [List.append_assoc,DD (by omega),List.getElem?_take,if_pos h1,if_neg (by omega)]
 ·by_cases h2:k < o + ys.length
  ·rw [List.append_assoc,DE (by omega),e1,DD (by omega),if_pos (by omega)]
  ·rw [DE (by simp; omega),List.getElem?_drop,if_neg (by omega)]
   congr 1
   simp
   omega
theorem d6 {α:Type}:∀ (ps l:List α) (off:Nat),off + ps.length<=l.length->bA l off ps=spl l off ps
 | [],l,off,h=>by simp [bA,spl]
 | p :: ps, l, off, h => by
  have hlt:off < l.length:=by simp at h; omega
  simp only [bA]
  rw [ah,d6 ps (l.set off p) (off + 1) (by simp at h ⊢; omega)]
  apply List.ext_getElem?
  intro k
  rw [ce (by simp at h ⊢; omega),ce h]
  simp only [List.length_cons,List.getElem?_set]
  by_cases h1:k < off
  ·rw [if_neg (by omega),if_neg (by omega),if_neg (by omega)]
  ·by_cases h2:k=off
   ·subst h2
    rw [if_neg (by omega),if_pos (by omega)]
    simp [hlt]
   ·by_cases h3:k < off + (ps.length + 1)
    ·rw [if_pos (by omega),if_pos (by omega)]
     rw [show k - off=(k - (off + 1)) + 1 by omega,List.getElem?_cons_succ]
    ·rw [if_neg (by omega),if_neg (by omega),if_neg (by omega)]
theorem dP {α:Type}:∀ (l:List α) (o n:Nat) (r:List α),jD l o n=some r->r.length=n/\(n=0\/o + n<=l.length)/\∀ j,j < n->r[j]? = l[o + j]?
 | l,o,0,r,h=>by cases l <;> simp [jD] at h <;> subst h <;> simp
 | [],o,n + 1,r,h=>by simp [jD] at h
 | a :: l, 0, n + 1, r, h => by
  simp only [jD] at h
  cases h1:jD l 0 n with
  | none=>simp [h1] at h
  | some r' =>
   simp only [h1,Dv] at h
   subst h
   obtain ⟨i1,i2,i3⟩:=dP l 0 n r' h1
   refine ⟨by simp [i1],.inr (by simp; omega),fun j hj=>?_⟩
   cases j with
   | zero=>simp
   | succ j=>simpa using i3 j (by omega)
 | a :: l,o + 1,n + 1,r,h=>by
  simp only [jD] at h
  obtain ⟨i1,i2,i3⟩:=dP l o (n + 1) r h
  refine ⟨i1,.inr (by rcases i2 with i2 | i2 <;> simp <;> omega),fun j hj=>?_⟩
  rw [i3 j hj,show o + 1 + j=(o + j) + 1 by omega,List.getElem?_cons_succ]
theorem bM {α:Type} {s:Nat}:∀ {xs:List (List α)},(∀ x ∈ xs,x.length=s)->xs.flatten.length=xs.length * s
 | [],_=>by simp
 | x :: xs,h=>by
  simp only [List.flatten_cons,List.length_append,List.length_cons,h x DA,bM (fun y hy=>h y (DB _ hy)),Nat.add_mul]
  omega
theorem er {α:Type} {s:Nat}:∀ {xs:List (List α)} {i j:Nat} {x:List α} {c:α},(∀ x ∈ xs,x.length=s)->xs[i]? = some x->x[j]? = some c->xs.flatten[i * s + j]? = some c
 | x :: xs,0,j,_,c,h,hi,hj=>by
  simp at hi
  subst hi
  rw [List.flatten_cons,DD (by simp; exact (Dt.1 hj).1)]
  simpa using hj
 | x :: xs,i + 1,j,y,c,h,hi,hj=>by
  simp at hi
  have hx:=h x DA
  rw [List.flatten_cons,DE (by rw [hx,Nat.add_mul]; omega),hx,show (i + 1) * s + j - s=i * s + j by rw [Nat.add_mul]; omega]
  exact er (fun z hz=>h z (DB _ hz)) hi hj
theorem take_add {α:Type} {x l:List α} {s n:Nat} (h:x.length=s):(x ++ l).take (s + n)=x ++ l.take n:=by
 subst h
 exact List.take_length_add_append n
theorem vB {α:Type} {x l:List α} {s n:Nat} (h:x.length=s):(x ++ l).drop (s + n)=l.drop n:=by
 subst h
 exact List.drop_length_add_append n
theorem nK (n s:Nat):(n + 1) * s=s + n * s:=by rw [Nat.add_mul]; omega
theorem nb {α:Type} {s:Nat}:∀ {xs:List (List α)} (n:Nat),(∀ x ∈ xs,x.length=s)->(xs.take n).flatten=xs.flatten.take (n * s)
 | [],n,_=>by simp
 | x :: xs,0,_=>by simp
 | x :: xs,n + 1,h=>by
  have hx:=h x DA
  rw [List.take_succ_cons,List.flatten_cons,List.flatten_cons,nb n (fun z hz=>h z (DB _ hz)),nK,take_add hx]
theorem nQ {α:Type} {s:Nat}:∀ {xs:List (List α)} (n:Nat),(∀ x ∈ xs,x.length=s)->(xs.drop n).flatten=xs.flatten.drop (n * s)
 | [],n,_=>by simp
 | x :: xs,0,_=>by simp
 | x :: xs,n + 1,h=>by
  have hx:=h x DA
  rw [List.drop_succ_cons,List.flatten_cons,nQ n (fun z hz=>h z (DB _ hz)),nK,vB hx]
theorem vW {α:Type} {s:Nat}:∀ {xs:List (List α)} {i:Nat} {x y:List α},(∀ x ∈ xs,x.length=s)->xs[i]? = some x->y.length=s->(xs.set i y).flatten=spl xs.flatten (i * s) y
 | x :: xs,0,_,y,h,hi,hy=>by
  simp at hi
  subst hi
  have hx:=h x DA
  simp only [List.set_cons_zero,List.flatten_cons,Nat.zero_mul,spl,List.take_zero,List.nil_append,Nat.zero_add,hy,List.drop_append,hx,Nat.sub_self,List.drop_zero]
  rw [List.drop_of_length_le (by omega),List.nil_append]
 | x :: xs,i + 1,z,y,h,hi,hy=>by
  simp at hi
  have hx:=h x DA
  have ih:=vW (fun z hz=>h z (DB _ hz)) hi hy
  simp only [List.set_cons_succ,List.flatten_cons,ih,spl,nK,take_add hx,hy]
  rw [show s + i * s + s=s + (i * s + s) by omega,vB hx]
  simp only [List.append_assoc]
theorem x7 {α:Type} {s:Nat} {xs:List (List α)} {i:Nat} {y:List α} (h:∀ x ∈ xs,x.length=s) (hy:y.length=s):∀ x ∈ xs.set i y,x.length=s:=by
 intro x hx
 rcases List.mem_or_eq_of_mem_set hx with h' | h'
 ·exact h x h'
 ·rw [h']; exact hy
theorem vL {α:Type} {s:Nat} {xs:List (List α)} {i j:Nat} {x ys:List α} (h:∀ x ∈ xs,x.length=s) (hi:xs[i]? = some x) (hj:j + ys.length<=x.length) :
  (xs.set i (spl x j ys)).flatten=spl xs.flatten (i * s + j) ys/\i * s + j + ys.length<=xs.flatten.length:=by
 have hx:=h x (DC hi)
 have hlt:i < xs.length:=(Dt.1 hi).1
 have hle:i * s + s<=xs.flatten.length:=by
  rw [bM h]
  have:=Nat.mul_le_mul_right s (Nat.succ_le_of_lt hlt)
  rw [Nat.succ_mul] at this
  exact this
 refine ⟨?_,by omega⟩
 rw [vW h hi (by rw [fV hj,hx])]
 apply List.ext_getElem?
 intro k
 rw [ce (l:=xs.flatten) (ys:=spl x j ys) (by rw [fV hj]; omega),ce (l:=xs.flatten) (ys:=ys) (by omega),fV hj,hx]
 by_cases h1:i * s<=k/\k < i * s + s
 ·rw [if_pos h1,ce hj]
  by_cases h2:j<=k - i * s/\k - i * s < j + ys.length
  ·rw [if_pos h2,if_pos (by omega)]
   congr 1
   omega
  ·rw [if_neg h2,if_neg (by omega)]
   have hk:k - i * s < x.length:=by omega
   have:=er h hi (Du hk)
   rw [show i * s + (k - i * s)=k by omega] at this
   rw [this,Du hk]
 ·rw [if_neg h1,if_neg (by omega)]
inductive Rep (w:World) (I:Nat->Prop):TV->Value->Prop
 | lit (v:Value):Rep w I (.lit v) v
 | hole (v:Value):Rep w I .hole v
 | buf {s:ByteArray} (e:TypeId) (h:s.size=0):Rep w I (.buf s e) aj
 | sl {size : Nat} {xs : List (List TV)} {a : Addr} {cap : Nat} (cell : Nat → Value) (hI : 0 < xs.length → I a.block) (hc : xs.length ≤ cap) (hm : cap ≤ maxLen)
   (hl:∀ x ∈ xs,x.length=size) (hcell:∀ k,k < xs.length * size->w.cell? (a.add k)=some (cell k)) (h1:∀ k,k < xs.length * size->(cell k).oneCell'=true)
   (hr:∀ (i:Nat) (x:List TV),xs[i]? = some x->∀ (j:Nat) (c:TV),x[j]? = some c->Rep w I c (cell (i * size + j))):Rep w I (.sl false size xs) (.slice (some a) xs.length cap)
 | agg {cs : List TV} {vs : Array Value} (hl : vs.size = cs.length) (h1 : ∀ j, j < vs.size → (vs.getD j undef).oneCell' = true)
   (hr:∀ (j:Nat) (c:TV),cs[j]? = some c->Rep w I c (vs.getD j undef)):Rep w I (.agg cs) (.agg vs)
 | tup {cs:List TV} {vs:Array Value} (hl:vs.size=cs.length) (hr:∀ (j:Nat) (c:TV),cs[j]? = some c->Rep w I c (vs.getD j undef)):Rep w I (.tup cs) (.tuple vs)
theorem Rep.mv {w w':World} {I I':Nat->Prop} (hh:∀ b,I b->w'.heap[b]? = w.heap[b]?) (hI:∀ b,I b->I' b) {x:TV} {v:Value} (h:Rep w I x v):Rep w' I' x v:=by
 induction h with
 | lit v=>exact .lit v
 | hole v=>exact .hole v
 | buf e h=>exact .buf e h
 | sl cell i c m l hcell h1 _ ih =>
  exact .sl cell (fun h=>hI _ (i h)) c m l (fun k hk=>by rw [<- hcell k hk]; exact World.cell?_of_block (by rw [ea]; exact hh _ (i (Nat.pos_of_ne_zero (fun e=>by simp [e] at hk))))) h1 ih
 | agg hl h1 _ ih=>exact .agg hl h1 ih
 | tup hl _ ih=>exact .tup hl ih
structure Row (w:World) (a:Addr) (n cap size:Nat) (us:List Value) (vs:Array Value) (ty:TypeId):Prop where
 heap:w.heap[a.block]? = some (.cells vs ty (0,0))
 spot:a.spot=none
 le:n<=cap
 max:cap<=maxLen
 fit:a.off + cap * size<=vs.size
 len:us.length=n * size
 cells:∀ k,k < n * size->vs[a.off + k]? = us[k]?
 one:∀ u ∈ us,u.oneCell'=true
theorem Row.cell {w:World} {a:Addr} {n cap size:Nat} {us:List Value} {vs:Array Value} {ty:TypeId} (h:Row w a n cap size us vs ty) {k:Nat} {u:Value} (hk:us[k]? = some u):w.cell? (a.add k)=some u:=by
 have hlt:k < n * size:=by rw [<- h.len]; exact (Dt.1 hk).1
 have:a.add k=⟨a.block,a.off + k,none⟩:=by
  have:=h.spot
  obtain ⟨b,o,sp⟩:=a
  simp at this
  subst this
  exact eY b o k
 rw [this]
 simp only [World.cell?,h.heap]
 simp only [Option.isSome_none,Bool.false_eq_true,if_false]
 rw [h.cells k hlt,hk]
inductive ak (w:World) (I:Nat->Prop):TV->Value->(Nat->Prop)->Prop
 | fr {x:TV} {v:Value} {S:Nat->Prop} (h:Rep w I x v):ak w I x v S
 | sl {size : Nat} {xs : List (List TV)} {a : Addr} {cap : Nat} {S : Nat → Prop} (us : List Value) (vs : Array Value) (ty : TypeId) (F : Nat → Nat → Prop) (hS : S a.block)
   (row:Row w a xs.length cap size us vs ty) (hl:∀ x ∈ xs,x.length=size) (hr:∀ (k:Nat) (c:TV),xs.flatten[k]? = some c->ak w I c (us.getD k undef) (F k))
   (hF:∀ k b,F k b->S b/\b≠a.block) (hd:∀ k k' b,F k b->F k' b->k=k'):ak w I (.sl true size xs) (.slice (some a) xs.length cap) S
 | agg {cs : List TV} {vs : Array Value} {S : Nat → Prop} (F : Nat → Nat → Prop) (hl : vs.size = cs.length) (h1 : ∀ j, j < vs.size → (vs.getD j undef).oneCell' = true)
   (hr:∀ (j:Nat) (c:TV),cs[j]? = some c->ak w I c (vs.getD j undef) (F j)) (hF:∀ j b,F j b->S b) (hd:∀ k k' b,F k b->F k' b->k=k'):ak w I (.agg cs) (.agg vs) S
 | buf {s:ByteArray} {e:TypeId} {v:Value} {S:Nat->Prop} (h:w.ownsRowF 0 e 1 v s.size (Lib.strCells s)) (hS:∀ b,v.ownBlock=some b->S b):ak w I (.buf s e) v S
 | tup {cs : List TV} {vs : Array Value} {S : Nat → Prop} (F : Nat → Nat → Prop) (hl : vs.size = cs.length)
   (hr:∀ (j:Nat) (c:TV),cs[j]? = some c->ak w I c (vs.getD j undef) (F j)) (hF:∀ j b,F j b->S b) (hd:∀ k k' b,F k b->F k' b->k=k'):ak w I (.tup cs) (.tuple vs) S
theorem _root_.Go.World.ownsRowF.moved {w w':World} {base:Nat} {e:TypeId} {size:Nat} {v:Value} {n:Nat} {xs:List Value} (h:w.ownsRowF base e size v n xs) (hh:∀ b,v.ownBlock=some b->w'.heap[b]? = w.heap[b]?):w'.ownsRowF base e size v n xs:=by
 refine ⟨h.1,?_⟩
 rcases h.2 with hn | ⟨g,cap,cur,fz,rfl,hb,hgg,rest⟩
 ·exact .inl hn
 ·exact .inr ⟨g,cap,cur,fz,rfl,hb,by rw [hh g rfl]; exact hgg,rest⟩
theorem ak.mv {w w':World} {I I':Nat->Prop} (hI:∀ b,I b->w'.heap[b]? = w.heap[b]?) (hs:∀ b,I b->I' b) {x:TV} {v:Value} {S:Nat->Prop} (h:ak w I x v S) :
  ∀ {S':Nat->Prop},(∀ b,S b->w'.heap[b]? = w.heap[b]?)->(∀ b,S b->S' b)->ak w' I' x v S':=by
 induction h with
 | fr h=>intro S' _ _; exact .fr (h.mv hI hs)
 | @sl size xs a cap S us vs ty F hS row hl hr hF hd ih =>
  intro S' hh hSS
  exact .sl us vs ty F (hSS _ hS) ⟨by rw [hh _ hS]; exact row.heap,row.spot,row.le,row.max,row.fit,row.len,row.cells,row.one⟩ hl (fun k c hk=>ih k c hk (fun b hb=>hh b (hF k b hb).1) (fun b hb=>hb))
   (fun k b hb=>⟨hSS b (hF k b hb).1,(hF k b hb).2⟩) hd
 | @buf s e v S h hS =>
  intro S' hh hSS
  exact .buf (h.moved (fun b hb=>hh b (hS b hb))) (fun b hb=>hSS b (hS b hb))
 | @agg cs vs S F hl h1 hr hF hd ih =>
  intro S' hh hSS
  exact .agg F hl h1 (fun k c hk=>ih k c hk (fun b hb=>hh b (hF k b hb)) (fun b hb=>hb)) (fun k b hb=>hSS b (hF k b hb)) hd
 | @tup cs vs S F hl hr hF hd ih =>
  intro S' hh hSS
  exact .tup F hl (fun k c hk=>ih k c hk (fun b hb=>hh b (hF k b hb)) (fun b hb=>hb)) (fun k b hb=>hSS b (hF k b hb)) hd
theorem ak.mono {w:World} {I:Nat->Prop} {x:TV} {v:Value} {S S':Nat->Prop} (h:ak w I x v S) (hS:∀ b,S b->S' b):ak w I x v S' :=
 h.mv (fun _ _=>rfl) (fun _ h=>h) (fun _ _=>rfl) hS
theorem aI {w:World} {I:Nat->Prop} {v u:Value} (h:Rep w I (.lit v) u):u=v:=by cases h; rfl
theorem aV {w:World} {I:Nat->Prop} {v u:Value} {S:Nat->Prop} (h:ak w I (.lit v) u S):u=v:=by cases h with | fr h=>exact aI h
theorem BD {w:World} {I:Nat->Prop} {s:Nat} {xs:List (List TV)} {u:Value} {S:Nat->Prop} (h:ak w I (.sl false s xs) u S):Rep w I (.sl false s xs) u:=by cases h with | fr h=>exact h
theorem pj {w:World} {I:Nat->Prop} {o:Bool} {s:Nat} {xs:List (List TV)} {u:Value} {S:Nat->Prop} (h:ak w I (.sl o s xs) u S):∃ a cap,u=.slice (some a) xs.length cap:=by
 cases h with
 | fr h=>cases h; exact ⟨_,_,rfl⟩
 | sl=>exact ⟨_,_,rfl⟩
theorem d7 {w:World} {I:Nat->Prop} {x:TV} {u:Value} {S:Nat->Prop} (h:ak w I x u S) (hx:x.isSl=true):∃ a n cap,u=.slice a n cap:=by
 cases x with
 | lit v =>
  have:=aV h
  subst this
  cases u <;> simp [TV.isSl,aF] at hx ⊢
 | sl o s xs=>obtain ⟨a,cap,rfl⟩:=pj h; exact ⟨_,_,_,rfl⟩
 | _=>simp [TV.isSl] at hx
theorem pD {v:Value} (h:scV v=true):v.oneCell'=true:=by cases v <;> first | rfl | simp [scV] at h
theorem dA {w:World} {I:Nat->Prop} {x:TV} {u:Value} {S:Nat->Prop} (h:ak w I x u S) (hx:x.isSc=true):x=.lit u/\scV u=true:=by
 cases x with
 | lit v =>
  have:=aV h
  subst this
  exact ⟨rfl,hx⟩
 | _=>simp [TV.isSc] at hx
theorem CQ {w:World} {I:Nat->Prop} {x:TV} {u:Value} {S:Nat->Prop} (h:ak w I x u S):Rep w I x.lf u:=by
 cases x with
 | lit v=>have:=aV h; subst this; exact .lit _
 | _=>exact .hole _
theorem kq:∀ l:List TV,uz l=l.map frz
 | []=>rfl
 | x :: l=>by simp [uz,kq l]
theorem ft:∀ l:List (List TV),rT l=l.map fun x=>x.map frz
 | []=>rfl
 | x :: l=>by simp [rT,ft l,kq]
theorem Bc:∀ l:List TV,lfL l=l.map TV.lf
 | []=>rfl
 | x :: l=>by simp [lfL,Bc l]
theorem yC:∀ l:List (List TV),j7 l=l.map fun x=>x.map TV.lf
 | []=>rfl
 | x :: l=>by simp [j7,yC l,Bc]
theorem Rep.frz {w:World} {I:Nat->Prop} {x:TV} {v:Value} (h:Rep w I x v):Rep w I (frz x) v:=by
 induction h with
 | lit v=>exact .lit v
 | hole v=>exact .hole v
 | buf e h=>exact .hole _
 | @sl size xs a cap cell hI hc hm hl hcell h1 _ ih =>
  simp only [Ab.frz,ft]
  have hlen:(xs.map fun x=>x.map Ab.frz).length=xs.length:=by simp
  have key:Rep w I (.sl false size (xs.map fun x=>x.map Ab.frz)) (.slice (some a) (xs.map fun x=>x.map Ab.frz).length cap):=by
   refine .sl cell (by rw [hlen]; exact hI) (by rw [hlen]; exact hc) hm (fun x hx=>?_) (by rw [hlen]; exact hcell) (by rw [hlen]; exact h1) (fun i y hy j c hj=>?_)
   ·obtain ⟨y,hy,rfl⟩:=List.mem_map.1 hx
    simpa using hl y hy
   ·rw [Dz] at hy
    cases hxi:xs[i]? with
    | none=>simp [hxi] at hy
    | some x =>
     simp only [hxi,DG,Dv] at hy
     subst hy
     rw [Dz] at hj
     cases hxj:x[j]? with
     | none=>simp [hxj] at hj
     | some c' =>
      simp only [hxj,DG,Dv] at hj
      subst hj
      exact ih i x hxi j c' hxj
  rwa [hlen] at key
 | @agg cs vs hl h1 _ ih =>
  simp only [Ab.frz,kq]
  refine .agg (by simpa using hl) h1 (fun j c hj=>?_)
  rw [Dz] at hj
  cases hxj:cs[j]? with
  | none=>simp [hxj] at hj
  | some c'=>simp only [hxj,DG,Dv] at hj; subst hj; exact ih j c' hxj
 | @tup cs vs hl _ ih =>
  simp only [Ab.frz,kq]
  refine .tup (by simpa using hl) (fun j c hj=>?_)
  rw [Dz] at hj
  cases hxj:cs[j]? with
  | none=>simp [hxj] at hj
  | some c'=>simp only [hxj,DG,Dv] at hj; subst hj; exact ih j c' hxj
theorem ak.frz {w:World} {I I':Nat->Prop} (hI:∀ b,I b->I' b) {x:TV} {v:Value} {S:Nat->Prop} (h:ak w I x v S):(∀ b,S b->I' b)->Rep w I' (frz x) v:=by
 induction h with
 | fr h=>intro _; exact (h.mv (fun _ _=>rfl) hI).frz
 | buf _ _=>intro _; exact .hole _
 | @sl size xs a cap S us vs ty F hS row hl hr hF hd ih =>
  intro hSI
  simp only [Ab.frz,ft]
  have hlen:(xs.map fun x=>x.map Ab.frz).length=xs.length:=by simp
  have key:Rep w I' (.sl false size (xs.map fun x=>x.map Ab.frz)) (.slice (some a) (xs.map fun x=>x.map Ab.frz).length cap):=by
   refine .sl (fun k=>us.getD k undef) (fun _=>hSI _ hS) (by rw [hlen]; exact row.le) row.max (fun x hx=>?_) (fun k hk=>?_) (fun k hk=>?_) (fun i y hy j c hj=>?_)
   ·obtain ⟨y,hy,rfl⟩:=List.mem_map.1 hx
    simpa using hl y hy
   ·rw [hlen] at hk
    have:k < us.length:=by rw [row.len]; exact hk
    exact row.cell (by simp [Du this])
   ·rw [hlen] at hk
    have:k < us.length:=by rw [row.len]; exact hk
    simp only [DH,Du this,Option.getD_some]
    exact row.one _ (List.getElem_mem this)
   ·rw [Dz] at hy
    cases hxi:xs[i]? with
    | none=>simp [hxi] at hy
    | some x =>
     simp only [hxi,DG,Dv] at hy
     subst hy
     rw [Dz] at hj
     cases hxj:x[j]? with
     | none=>simp [hxj] at hj
     | some c' =>
      simp only [hxj,DG,Dv] at hj
      subst hj
      exact ih _ c' (er hl hxi hxj) (fun b hb=>hSI b (hF _ b hb).1)
  rwa [hlen] at key
 | @agg cs vs S F hl h1 hr hF hd ih =>
  intro hSI
  simp only [Ab.frz,kq]
  refine .agg (by simpa using hl) h1 (fun j c hj=>?_)
  rw [Dz] at hj
  cases hxj:cs[j]? with
  | none=>simp [hxj] at hj
  | some c'=>simp only [hxj,DG,Dv] at hj; subst hj; exact ih j c' hxj (fun b hb=>hSI b (hF j b hb))
 | @tup cs vs S F hl hr hF hd ih =>
  intro hSI
  simp only [Ab.frz,kq]
  refine .tup (by simpa using hl) (fun j c hj=>?_)
  rw [Dz] at hj
  cases hxj:cs[j]? with
  | none=>simp [hxj] at hj
  | some c'=>simp only [hxj,DG,Dv] at hj; subst hj; exact ih j c' hxj (fun b hb=>hSI b (hF j b hb))
theorem eJ:∀ {l:List TV},bY l=true->∀ x ∈ l,aB x=true
 | [],_,x,hx=>by simp at hx
 | y :: l,h,x,hx=>by
  simp only [bY,Dw] at h
  rcases List.mem_cons.1 hx with rfl | hx
  ·exact h.1
  ·exact eJ h.2 x hx
theorem oN:∀ {l:List (List TV)},kE l=true->∀ x ∈ l,bY x=true
 | [],_,x,hx=>by simp at hx
 | y :: l,h,x,hx=>by
  simp only [kE,Dw] at h
  rcases List.mem_cons.1 hx with rfl | hx
  ·exact h.1
  ·exact oN h.2 x hx
theorem Rep.own {w:World} {I I':Nat->Prop} {x:TV} {v:Value} (h:Rep w I x v):aB x=true->Rep w I' x v:=by
 induction h with
 | lit v=>intro _; exact .lit v
 | hole v=>intro _; exact .hole v
 | buf e h=>intro _; exact .buf e h
 | sl=>intro h; simp [aB] at h
 | @agg cs vs hl h1 _ ih=>intro h; simp only [aB] at h; exact .agg hl h1 (fun j c hj=>ih j c hj (eJ h c (DC hj)))
 | @tup cs vs hl _ ih=>intro h; simp only [aB] at h; exact .tup hl (fun j c hj=>ih j c hj (eJ h c (DC hj)))
theorem ak.own {w:World} {I I':Nat->Prop} {x:TV} {v:Value} {S:Nat->Prop} (h:ak w I x v S):aB x=true->ak w I' x v S:=by
 induction h with
 | fr h=>intro ho; exact .fr (h.own ho)
 | buf h hS=>intro _; exact .buf h hS
 | @sl size xs a cap S us vs ty F hS row hl hr hF hd ih =>
  intro ho
  simp only [aB,Bool.true_and] at ho
  refine .sl us vs ty F hS row hl (fun k c hk=>ih k c hk ?_) hF hd
  obtain ⟨x,hx,hc⟩:=List.mem_flatten.1 (DC hk)
  exact eJ (oN ho x hx) c hc
 | @agg cs vs S F hl h1 hr hF hd ih=>intro ho; simp only [aB] at ho; exact .agg F hl h1 (fun j c hj=>ih j c hj (eJ ho c (DC hj))) hF hd
 | @tup cs vs S F hl hr hF hd ih=>intro ho; simp only [aB] at ho; exact .tup F hl (fun j c hj=>ih j c hj (eJ ho c (DC hj))) hF hd
end Go.Ab
end
section
namespace Go.Ab
open Go.RowKit
def TV.nd (x:TV):Option (Nat × Nat):=match x with | .sl _ s xs=>some (s,xs.length) | _=>none
def Node (w:World):Way->TV->Value->Value->Option (Nat × Nat)->Prop
 | [],x,u,v,nd=>v=u/\nd=x.nd
 | (k,j) :: p,x,u,v,nd=>∃ o s xs a n cap e y u',x=.sl o s xs/\u=.slice (some a) n cap/\xs[k]? = some e/\e[j]? = some y/\w.cell? (a.add (k * s + j))=some u'/\Node w p y u' v nd
section
variable {w w':World} {I I':Nat->Prop} {x y:TV} {u v:Value} {S:Nat->Prop}
theorem getD_some {l:List Value} {k:Nat} {u:Value} (h:l[k]? = some u):l.getD k undef=u:=by simp [h]
theorem ak.child {o:Bool} {s:Nat} {xs:List (List TV)} (h:ak w I (.sl o s xs) u S) {k j:Nat} {e:List TV} {y:TV} (hk:xs[k]? = some e) (hj:e[j]? = some y) :
  ∃ a cap u' S',u=.slice (some a) xs.length cap/\w.cell? (a.add (k * s + j))=some u'/\u'.oneCell'=true/\ak w I y u' S'/\(∀ b,S' b->S b)/\(S a.block\/I a.block)/\e.length=s:=by
 have hlt:k < xs.length:=(Dt.1 hk).1
 cases h with
 | fr h =>
  cases h with
  | @sl _ _ a cap cell hI hc hm hl hcell h1 hr =>
   have hel:=hl e (DC hk)
   have hf:k * s + j < xs.length * s:=by
    have hj':=(Dt.1 hj).1
    have:=Nat.mul_le_mul_right s (Nat.succ_le_of_lt hlt)
    rw [Nat.succ_mul] at this
    omega
   exact ⟨a,cap,_,fun _=>False,rfl,hcell _ hf,h1 _ hf,.fr (hr k e hk j y hj),fun _ h=>h.elim,.inr (hI (by omega)),hel⟩
 | @sl _ _ a cap S us vs ty F hS row hl hr hF hd =>
  have hel:=hl e (DC hk)
  have hfg:=er hl hk hj
  have hlt2:k * s + j < us.length:=by
   rw [row.len,<- bM hl]
   exact (Dt.1 hfg).1
  have hu:=Du hlt2
  refine ⟨a,cap,us[k * s + j],F (k * s + j),rfl,row.cell hu,row.one _ (List.getElem_mem hlt2),?_,fun b hb=>(hF _ b hb).1,.inl hS,hel⟩
  have:=hr _ _ hfg
  rwa [getD_some hu] at this
theorem Node.mv:∀ {p:Way} {x:TV} {u v:Value} {nd:Option (Nat × Nat)} {S:Nat->Prop},ak w I x u S->(∀ b,I b->w'.heap[b]? = w.heap[b]?)->(∀ b,S b->w'.heap[b]? = w.heap[b]?)->Node w p x u v nd->Node w' p x u v nd
 | [],x,u,v,nd,S,_,_,_,h=>h
 | (k,j) :: p,x,u,v,nd,S,hr,hI,hS,⟨o,s,xs,a,n,cap,e,y,u',hx,hu,he,hy,hc,h⟩=>by
  subst hx
  obtain ⟨a',cap',u2,S',h1,h2,h3,h4,h5,h6,h7⟩:=hr.child he hy
  rw [hu] at h1
  cases h1
  rw [hc] at h2
  cases h2
  refine ⟨o,s,xs,a,_,_,e,y,u',rfl,hu,he,hy,?_,Node.mv h4 hI (fun b hb=>hS b (h5 b hb)) h⟩
  rw [<- hc]
  refine World.cell?_of_block ?_
  rw [ea]
  rcases h6 with h6 | h6
  ·exact hS _ h6
  ·exact hI _ h6
theorem ak.get:∀ {p:Way} {x y:TV} {u:Value} {S:Nat->Prop},ak w I x u S->dw p x=some y->∃ v S',Node w p x u v y.nd/\ak w I y v S'/\(∀ b,S' b->S b)/\(p≠[]->v.oneCell'=true)
 | [],x,y,u,S,hr,h=>by
  simp only [dw,Dv] at h
  subst h
  exact ⟨u,S,⟨rfl,rfl⟩,hr,fun _ h=>h,fun h=>absurd rfl h⟩
 | (k, j) :: p, x, y, u, S, hr, h => by
  cases x with
  | sl o s xs =>
   simp only [dw] at h
   cases he:xs[k]? with
   | none=>simp [he] at h
   | some e =>
    simp only [he] at h
    cases hz:e[j]? with
    | none=>simp [hz] at h
    | some z =>
     simp only [hz] at h
     obtain ⟨a,cap,u',S1,h1,h2,h3,h4,h5,h6,h7⟩:=hr.child he hz
     obtain ⟨v,S2,n1,n2,n3,n4⟩:=ak.get h4 h
     refine ⟨v,S2,⟨o,s,xs,a,_,cap,e,z,u',rfl,h1,he,hz,h2,n1⟩,n2,fun b hb=>h5 b (n3 b hb),fun _=>?_⟩
     cases p with
     | nil=>rw [n1.1]; exact h3
     | cons=>exact n4 (by simp)
  | _=>simp [dw] at h
theorem Node.unique:∀ {p:Way} {x:TV} {u v v':Value} {nd nd':Option (Nat × Nat)},Node w p x u v nd->Node w p x u v' nd'->v=v'/\nd=nd'
 | [],x,u,v,v',nd,nd',h,h'=>⟨h.1.trans h'.1.symm,h.2.trans h'.2.symm⟩
 | (k,j) :: p,x,u,v,v',nd,nd',⟨o,s,xs,a,n,cap,e,y,u',hx,hu,he,hy,hc,h⟩,⟨o2,s2,xs2,a2,n2,cap2,e2,y2,u2,hx2,hu2,he2,hy2,hc2,h2⟩=>by
  subst hx
  cases hx2
  subst hu
  cases hu2
  rw [he] at he2
  cases he2
  rw [hy] at hy2
  cases hy2
  rw [hc] at hc2
  cases hc2
  exact Node.unique h h2
theorem ak.sub : ∀ {p : Way} {x y : TV} {u : Value} {S : Nat → Prop}, ak w I x u S → dw p x = some y →
  ∃ v Sy, ak w I y v Sy ∧ (∀ b, Sy b → S b) ∧ Node w p x u v y.nd ∧ (p ≠ [] → v.oneCell' = true) ∧
   ∀ (w':World) (I':Nat->Prop) (y' x':TV) (S':Nat->Prop),kU p x y'=some x'->(∀ b,I b->w'.heap[b]? = w.heap[b]?)->(∀ b,I b->I' b)->(∀ b,S b->¬ Sy b->w'.heap[b]? = w.heap[b]?) ->
    ak w' I' y' v S'->(∀ b,S' b->S b->Sy b)->ak w' I' x' u (fun b=>(S b/\¬ Sy b)\/S' b) /\
    ∀ (q:Way) (v':Value) (nd:Option (Nat × Nat)),(∀ q',q=p ++ q'->Node w q' y v v' nd->Node w' q' y' v v' nd)->Node w q x u v' nd->Node w' q x' u v' nd
 | [],x,y,u,S,hr,h=>by
  simp only [Ab.dw,Dv] at h
  subst h
  refine ⟨u,S,hr,fun _ h=>h,⟨rfl,rfl⟩,fun h=>absurd rfl h,?_⟩
  intro w' I' y' x' S' hs hI hII hh hr' hd
  simp only [kU,Dv] at hs
  subst hs
  exact ⟨hr'.mono (fun b hb=>.inr hb),fun q v' nd hq hn=>hq q rfl hn⟩
 | (k, j) :: p, x, y, u, S, hr, h => by
  cases x with
  | sl o s xs =>
   simp only [Ab.dw] at h
   cases he:xs[k]? with
   | none=>simp [he] at h
   | some e =>
    simp only [he] at h
    cases hz:e[j]? with
    | none=>simp [hz] at h
    | some z =>
     simp only [hz] at h
     cases o with
     | false =>
      obtain ⟨v,S',n1,n2,n3,n4⟩:=ak.get (p:=(k,j) :: p) (y:=y) hr (by simp only [Ab.dw,he,hz,h])
      refine ⟨v,S',n2,n3,n1,n4,?_⟩
      intro w' I' y' x' S2 hs
      simp [kU] at hs
     | true =>
      cases hr with
      | fr h=>cases h
      | @sl _ _ a cap S us vs ty F hS row hl hr hF hd =>
       have hel:=hl e (DC he)
       have hjl:j < e.length:=(Dt.1 hz).1
       have hfg:=er hl he hz
       have hlt2:k * s + j < us.length:=by
        rw [row.len,<- bM hl]
        exact (Dt.1 hfg).1
       have hu:=Du hlt2
       have hrz:=hr _ _ hfg
       rw [getD_some hu] at hrz
       obtain ⟨v,Sy,m1,m2,m3,m4,m5⟩:=ak.sub hrz h
       have hSyF:∀ b,Sy b->F (k * s + j) b:=m2
       refine ⟨v,Sy,m1,fun b hb=>(hF _ b (m2 b hb)).1,⟨true,s,xs,a,_,cap,e,z,us[k * s + j],rfl,rfl,he,hz,row.cell hu,m3⟩,fun _=>?_,?_⟩
       ·cases p with
        | nil=>rw [m3.1]; exact row.one _ (List.getElem_mem hlt2)
        | cons=>exact m4 (by simp)
       intro w' I' y' x' S' hs hI hII hh hr' hdis
       simp only [kU,he,hz] at hs
       cases hz':kU p z y' with
       | none=>simp [hz'] at hs
       | some z' =>
        simp only [hz',Dv,ah] at hs
        subst hs
        have hablk:¬ Sy a.block:=fun hb=>(hF _ _ (m2 _ hb)).2 rfl
        obtain ⟨r1,r2⟩:=m5 w' I' y' z' S' hz' hI hII (fun b hb hn=>hh b (hF _ b hb).1 hn) hr' (fun b hb hb2=>hdis b hb (hF _ b hb2).1)
        have hset:e.set j z'=spl e j [z']:=by
         apply List.ext_getElem?
         intro m
         rw [ce (by simp; omega),List.getElem?_set]
         by_cases hjm:j=m
         ·subst hjm; simp [hjl]
         ·rw [if_neg hjm,if_neg (by simp; omega)]
        obtain ⟨f1,f2⟩:=vL (ys:=[z']) hl he (by simp; omega:j + [z'].length<=e.length)
        have hlen:(xs.set k (e.set j z')).length=xs.length:=by simp
        have hrow:Row w' a (xs.set k (e.set j z')).length cap s us vs ty:=by
         rw [hlen]
         exact ⟨by rw [hh _ hS hablk]; exact row.heap,row.spot,row.le,row.max,row.fit,row.len,row.cells,row.one⟩
        have hother:∀ m c,m≠k * s + j->xs.flatten[m]? = some c->ak w' I' c (us.getD m undef) (F m):=fun m c hm hc =>
         (hr m c hc).mv hI hII (fun b hb=>hh b (hF m b hb).1 (fun hs=>hm (hd m _ b hb (m2 b hs)))) (fun _ h=>h)
        constructor
        ·have key:ak w' I' (.sl true s (xs.set k (e.set j z'))) (.slice (some a) (xs.set k (e.set j z')).length cap) (fun b=>(S b/\¬ Sy b)\/S' b):=by
          refine .sl us vs ty (fun m b=>if m=k * s + j then (F (k * s + j) b/\¬ Sy b)\/S' b else F m b) (.inl ⟨hS,hablk⟩) hrow (x7 hl (by simp [hel])) (fun m c hc=>?_) (fun m b hb=>?_) (fun m m' b hb hb'=>?_)
          ·rw [hset,f1,ce f2] at hc
           by_cases hm:m=k * s + j
           ·subst hm
            simp only [List.length_singleton,Nat.sub_self] at hc
            rw [if_pos (by omega)] at hc
            simp only [List.getElem?_cons_zero,Dv] at hc
            subst hc
            simp only [if_true]
            rw [getD_some hu]
            exact r1
           ·rw [if_neg (by simp only [List.length_singleton]; omega)] at hc
            simp only [hm,if_false]
            exact hother m c hm hc
          ·by_cases hm:m=k * s + j
           ·subst hm
            simp only [if_true] at hb
            rcases hb with ⟨h1,h2⟩ | h1
            ·exact ⟨.inl ⟨(hF _ b h1).1,h2⟩,(hF _ b h1).2⟩
            ·exact ⟨.inr h1,fun e=>by subst e; exact hablk (hdis _ h1 hS)⟩
           ·simp only [hm,if_false] at hb
            exact ⟨.inl ⟨(hF _ b hb).1,fun hs=>hm (hd _ _ b hb (m2 b hs))⟩,(hF _ b hb).2⟩
          ·by_cases hm:m=k * s + j <;> by_cases hm':m'=k * s + j
           ·rw [hm,hm']
           ·simp only [hm,hm',if_true,if_false] at hb hb'
            rcases hb with ⟨h1,h2⟩ | h1
            ·exact hm ▸ hd _ _ b h1 hb'
            ·exact hm ▸ hd _ _ b (m2 b (hdis b h1 (hF _ b hb').1)) hb'
           ·simp only [hm,hm',if_true,if_false] at hb hb'
            rcases hb' with ⟨h1,h2⟩ | h1
            ·exact hm' ▸ hd _ _ b hb h1
            ·exact hm' ▸ hd _ _ b hb (m2 b (hdis b h1 (hF _ b hb).1))
           ·simp only [hm,hm',if_false] at hb hb'
            exact hd _ _ b hb hb'
         rwa [hlen] at key
        ·intro q v' nd hq hn
         cases q with
         | nil =>
          obtain ⟨e1,e2⟩:=hn
          exact ⟨e1,by rw [e2]; simp [TV.nd]⟩
         | cons kj q =>
          obtain ⟨k1,j1⟩:=kj
          obtain ⟨o2,s2,xs2,a2,n2,cap2,e2,y2,u2,hx2,hu2,he2,hy2,hc2,hn2⟩:=hn
          cases hx2
          cases hu2
          have hblk:∀ m,w'.cell? (a.add m)=w.cell? (a.add m):=fun m=>World.cell?_of_block (by rw [ea]; exact hh _ hS hablk)
          by_cases hk1:k1=k
          ·subst hk1
           rw [he] at he2
           cases he2
           have hk2:k1 < xs.length:=(Dt.1 he).1
           by_cases hj1:j1=j
           ·subst hj1
            rw [hz] at hy2
            cases hy2
            have:u2=us[k1 * s + j1]:=by rw [row.cell hu] at hc2; exact (Option.some.inj hc2).symm
            subst this
            refine ⟨true,s,_,a,_,cap,e.set j1 z',z',us[k1 * s + j1],rfl,rfl,by rw [List.getElem?_set_self hk2],by rw [List.getElem?_set_self hjl],by rw [hblk]; exact hc2,?_⟩
            exact r2 q v' nd (fun q' hq'=>hq q' (by rw [hq']; rfl)) hn2
           ·refine ⟨true,s,_,a,_,cap,e.set j z',y2,u2,rfl,rfl,by rw [List.getElem?_set_self hk2],by rw [List.getElem?_set_ne (fun h=>hj1 h.symm)]; exact hy2,by rw [hblk]; exact hc2,?_⟩
            have hfg2:=er hl he hy2
            have hm:k1 * s + j1≠k1 * s + j:=by omega
            have hr2:=hr _ _ hfg2
            have hlt3:k1 * s + j1 < us.length:=by rw [row.len,<- bM hl]; exact (Dt.1 hfg2).1
            rw [getD_some (Du hlt3)] at hr2
            have:u2=us[k1 * s + j1]:=by rw [row.cell (Du hlt3)] at hc2; exact (Option.some.inj hc2).symm
            subst this
            exact Node.mv hr2 hI (fun b hb=>hh b (hF _ b hb).1 (fun hs=>hm (hd _ _ b hb (m2 b hs)))) hn2
          ·refine ⟨true,s,_,a,_,cap,e2,y2,u2,rfl,rfl,by rw [List.getElem?_set_ne (fun h=>hk1 h.symm)]; exact he2,hy2,by rw [hblk]; exact hc2,?_⟩
           have hfg2:=er hl he2 hy2
           have hel2:=hl e2 (DC he2)
           have hj2:j1 < e2.length:=(Dt.1 hy2).1
           have hm:k1 * s + j1≠k * s + j:=by
            intro heq
            rcases Nat.lt_or_gt_of_ne hk1 with h' | h'
            ·have:=Nat.mul_le_mul_right s (Nat.succ_le_of_lt h')
             rw [Nat.succ_mul] at this
             omega
            ·have:=Nat.mul_le_mul_right s (Nat.succ_le_of_lt h')
             rw [Nat.succ_mul] at this
             omega
           have hr2:=hr _ _ hfg2
           have hlt3:k1 * s + j1 < us.length:=by rw [row.len,<- bM hl]; exact (Dt.1 hfg2).1
           rw [getD_some (Du hlt3)] at hr2
           have:u2=us[k1 * s + j1]:=by rw [row.cell (Du hlt3)] at hc2; exact (Option.some.inj hc2).symm
           subst this
           exact Node.mv hr2 hI (fun b hb=>hh b (hF _ b hb).1 (fun hs=>hm (hd _ _ b hb (m2 b hs)))) hn2
  | _=>simp [Ab.dw] at h
end
end Go.Ab
end

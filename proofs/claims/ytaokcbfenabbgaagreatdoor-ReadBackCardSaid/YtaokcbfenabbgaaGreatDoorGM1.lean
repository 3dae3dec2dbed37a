import Derived.Test.YtaokcbfenabbgaaGreatDoorGZ12F150
import Derived.Test.YtaokcbfenabbgaaGreatDoorGZ12F5
import Derived.Test.YtaokcbfenabbgaaGreatDoorGZ12Xb
import Derived.OpenShut
import Derived.Test.YtaokcbfenabbgaaGreatDoorGM0
import Derived.Below
import Derived.Orders
import Derived.Laws.Cells
import Derived.Laws.OwnMore
import Derived.Laws.CopyOwn
import Derived.Maps.AppendAt
import Derived.Lib.FrozenHead
set_option linter.all false
section
set_option maxRecDepth 20000
namespace Go.Ab
open Go.Ab.Z12
def mkE (k:Int) (l:List Int):DEnd :=
 if k=1 then ⟨1,l.getD 0 0,0,0,[],0,0,0⟩ else if k=2 then ⟨2,0,0,0,[],l.getD 0 0,0,0⟩
 else if k=3 then ⟨3,l.getD 0 0,0,0,[],l.getD 1 0,l.getD 2 0,0⟩ else if k=4 then ⟨4,0,l.getD 0 0,l.getD 1 0,l.drop 4,l.getD 2 0,0,l.getD 3 0⟩
 else if k=5 then ⟨5,l.getD 0 0,0,0,[],0,0,0⟩ else ⟨k,0,0,0,[],0,0,0⟩
def B5 (k:Int) (n:Nat):Prop:=if k=4 then 4<=n/\n<=12 else n=(if k=6 then 0 else if k=3 then 3 else 1)
theorem jc {k:Int} (h:1<=k/\k<=6):k=1\/k=2\/k=3\/k=4\/k=5\/k=6:=by omega
theorem iA (k:Int) (l:List Int):(mkE k l).kind=k:=by
 unfold mkE
 split
 ·simp_all
 split
 ·simp_all
 split
 ·simp_all
 split
 ·simp_all
 split
 ·simp_all
 rfl
theorem Aw (w:List UInt8):kN w=0\/(1<=kN w/\kN w<=6)/\w=kOf (kN w):=by
 by_cases h1:w=[114,101,116]
 ·subst h1; exact .inr ⟨by decide,by decide⟩
 by_cases h2:w=[106,117,109,112]
 ·subst h2; exact .inr ⟨by decide,by decide⟩
 by_cases h3:w=[98,114,97,110,99,104]
 ·subst h3; exact .inr ⟨by decide,by decide⟩
 by_cases h4:w=[105,110,118,111,107,101]
 ·subst h4; exact .inr ⟨by decide,by decide⟩
 by_cases h5:w=[116,104,114,111,119]
 ·subst h5; exact .inr ⟨by decide,by decide⟩
 by_cases h6:w=[114,101,115,117,109,101]
 ·subst h6; exact .inr ⟨by decide,by decide⟩
 exact .inl (by simp [kN,h1,h2,h3,h4,h5,h6])
theorem DE {k:Int} (h:1<=k/\k<=6):plain (kOf k)/\kN (kOf k)=k:=by
 rcases jc h with rfl | rfl | rfl | rfl | rfl | rfl <;> exact ⟨by unfold plain; decide,by decide⟩
theorem wG {x:DEnd} (h:1<=x.kind/\x.kind<=6):gW x=cW (kOf x.kind) ((nsE x).map Lib.itoa):=by
 rw [<- jI]
 rcases jc h with h | h | h | h | h | h <;> simp [gW,kOf,nsE,h]
def uE (x:DEnd):Prop:=(1<=x.kind/\x.kind<=6)/\x=mkE x.kind (nsE x)/\(∀ n,n ∈ nsE x->0<=n/\n<=65535)/\x.args.length<=8
theorem uE.cnt {x:DEnd} (h:uE x):B5 x.kind (nsE x).length/\(nsE x).length<=12:=by
 obtain ⟨h1,_,_,h4⟩:=h
 rcases jc h1 with e | e | e | e | e | e <;> simp [B5,nsE,e]
 omega
theorem len4m {α:Type} {l:List α} (h:4<=l.length):∃ a b c d r,l=a :: b :: c :: d :: r:=by
 match l,h with
 | a :: b :: c :: d :: r,_=>exact ⟨a,b,c,d,r,rfl⟩
theorem mkE_ns {k:Int} (h:1<=k/\k<=6) {l:List Int} (hc:B5 k l.length):nsE (mkE k l)=l/\(mkE k l).args.length<=8:=by
 unfold B5 at hc
 rcases jc h with rfl | rfl | rfl | rfl | rfl | rfl
 ·obtain ⟨a,rfl⟩:=rS (l:=l) (by simpa using hc)
  exact ⟨by simp [mkE,nsE],by simp [mkE]⟩
 ·obtain ⟨a,rfl⟩:=rS (l:=l) (by simpa using hc)
  exact ⟨by simp [mkE,nsE],by simp [mkE]⟩
 ·obtain ⟨a,b,c,rfl⟩:=len3 (l:=l) (by simpa using hc)
  exact ⟨by simp [mkE,nsE],by simp [mkE]⟩
 ·rw [if_pos rfl] at hc
  obtain ⟨a,b,c,d,r,rfl⟩:=len4m (l:=l) hc.1
  have:=hc.2
  exact ⟨by simp [mkE,nsE],by simp [mkE] at this ⊢; omega⟩
 ·obtain ⟨a,rfl⟩:=rS (l:=l) (by simpa using hc)
  exact ⟨by simp [mkE,nsE],by simp [mkE]⟩
 ·have:l=[]:=List.length_eq_zero_iff.1 (by simpa using hc)
  subst this
  exact ⟨by simp [mkE,nsE],by simp [mkE]⟩
theorem Cq {k:Int} (h:1<=k/\k<=6) (l:List Int):mkE k l=mkE k (nsE (mkE k l)):=by
 rcases jc h with rfl | rfl | rfl | rfl | rfl | rfl <;> simp [mkE,nsE]
theorem FR {k:Int} (h:1<=k/\k<=6) {l:List Int} (hl:∀ n,n ∈ l->0<=n/\n<=65535):∀ n,n ∈ nsE (mkE k l)->0<=n/\n<=65535:=by
 have hg:∀ i,0<=l.getD i 0/\l.getD i 0<=65535:=fun i=>by
  rw [GR]
  cases e:l[i]? with
  | none=>simp
  | some a=>exact hl a (GM e)
 have hd:∀ n,n ∈ l.drop 4->0<=n/\n<=65535:=fun n hn=>hl n (List.mem_of_mem_drop hn)
 have key:∀ n,n ∈ nsE (mkE k l)->(∃ i,n=l.getD i 0)\/n ∈ l.drop 4:=by
  rcases jc h with rfl | rfl | rfl | rfl | rfl | rfl <;> intro n hn <;> simp [mkE,nsE] at hn
  ·exact .inl ⟨0,by simpa using hn⟩
  ·exact .inl ⟨0,by simpa using hn⟩
  ·rcases hn with rfl | rfl | rfl
   ·exact .inl ⟨0,by simp⟩
   ·exact .inl ⟨1,by simp⟩
   ·exact .inl ⟨2,by simp⟩
  ·rcases hn with rfl | rfl | rfl | rfl | hn
   ·exact .inl ⟨0,by simp⟩
   ·exact .inl ⟨1,by simp⟩
   ·exact .inl ⟨2,by simp⟩
   ·exact .inl ⟨3,by simp⟩
   ·exact .inr hn
  ·exact .inl ⟨0,by simpa using hn⟩
 intro n hn
 rcases key n hn with ⟨i,rfl⟩ | h
 ·exact hg i
 ·exact hd n h
open Classical in
noncomputable def jV (s:List UInt8):Option DEnd :=
 if kN (aA s).1≠0/\(∀ n,n ∈ (aA s).2.map bP->0<=n)/\B5 (kN (aA s).1) (aA s).2.length then some (mkE (kN (aA s).1) ((aA s).2.map bP)) else none
theorem tC {s:List UInt8} {x:DEnd}:jV s=some x ↔ uE x/\gW x=s:=by
 unfold jV
 constructor
 ·intro h
  split at h
  ·rename_i hc
   obtain ⟨h1,h2,h3⟩:=hc
   cases h
   obtain ⟨ho,hw⟩:=(Aw (aA s).1).resolve_left h1
   obtain ⟨h4,h5⟩:=o5 h2
   have h6:=mkE_ns ho (l:=(aA s).2.map bP) (by rw [List.length_map]; exact h3)
   refine ⟨⟨by rw [iA]; exact ho,by rw [iA,h6.1],by rw [h6.1]; exact h5,h6.2⟩,?_⟩
   rw [wG (by rw [iA]; exact ho),iA,h6.1,<- hw,<- h4]
   exact (fH s).1
  ·cases h
 ·rintro ⟨hg,rfl⟩
  have hc:=hg.cnt
  obtain ⟨h1,h2,h3,h4⟩:=hg
  have hcond:kN (kOf x.kind)≠0/\(∀ n,n ∈ ((nsE x).map Lib.itoa).map bP->0<=n)/\B5 (kN (kOf x.kind)) ((nsE x).map Lib.itoa).length:=by
   rw [(DE h1).2,jL h3,List.length_map]
   exact ⟨by omega,fun n hn=>(h3 n hn).1,hc.1⟩
  rw [wG h1,j5 (DE h1).1 (eP _)]
  rw [if_pos hcond,(DE h1).2,jL h3,<- h2]
theorem Dt {s:List UInt8} {w:List UInt8} {ts:List (List UInt8)} {pu:List UInt8->Int} (hp:∀ t,0<=pu t/\pu t<=65535) (hi:∀ n:Int,0<=n->n<=65535->pu (Lib.itoa n)=n)
  (hs:∀ (w':List UInt8) (ts':List (List UInt8)),plain w'->(∀ t,t ∈ ts'->plain t)->ts'.length<=13->s=cW w' ts'->w=w'/\ts=ts') {x:DEnd} :
  (mkE (kN w) (ts.map pu)=x/\x.kind≠0/\x.args.length<=8/\gW x=s) ↔ jV s=some x:=by
 rw [tC]
 constructor
 ·rintro ⟨rfl,h1,h2,h3⟩
  rw [iA] at h1
  have ho:=((Aw w).resolve_left h1).1
  refine ⟨⟨by rw [iA]; exact ho,by rw [iA]; exact Cq ho _,FR ho fun n hn=>?_,h2⟩,h3⟩
  obtain ⟨t,_,rfl⟩:=List.mem_map.1 hn
  exact hp t
 ·rintro ⟨hg,rfl⟩
  have hc:=hg.cnt
  obtain ⟨h1,h2,h3,h4⟩:=hg
  obtain ⟨rfl,rfl⟩:=hs (kOf x.kind) ((nsE x).map Lib.itoa) (DE h1).1 (eP _) (by rw [List.length_map]; omega) (wG h1)
  refine ⟨?_,by omega,h4,rfl⟩
  rw [(DE h1).2,List.map_map]
  conv=>rhs; rw [h2]
  congr 1
  conv=>rhs; rw [<- List.map_id (nsE x)]
  exact List.map_congr_left fun n hn=>hi n (h3 n hn).1 (h3 n hn).2
abbrev jo:List UInt8:=[99,97,116,99,104]
abbrev zt:List UInt8:=[97,108,108]
abbrev nv:List UInt8:=[99,108,101,97,110,117,112]
abbrev qI:List UInt8:=[112,97,100]
def nL (a c:Bool):List (List UInt8):=(bif a then [zt] else []) ++ (bif c then [nv] else [])
theorem rh (p:DPad):zF p=Lib.itoa p.dst :: ((if 0 < p.catches.length then jo :: p.catches.map Lib.itoa else []) ++ nL p.all p.cleanup):=rfl
def AU (l:List (List UInt8)):Option (Bool × Bool):=if l=[] then some (false,false) else if l=[zt] then some (true,false) else if l=[nv] then some (false,true) else if l=[zt,nv] then some (true,true) else none
theorem u6 {l:List (List UInt8)} {a c:Bool}:AU l=some (a,c) ↔ l=nL a c:=by
 constructor
 ·intro h
  unfold AU at h
  split at h
  ·rename_i e; subst e; cases h; rfl
  split at h
  ·rename_i e; subst e; cases h; rfl
  split at h
  ·rename_i e; subst e; cases h; rfl
  split at h
  ·rename_i e; subst e; cases h; rfl
  cases h
 ·rintro rfl
  cases a <;> cases c <;> decide
def o0 (l:List (List UInt8)):Option (List Int × List (List UInt8)):=match l with
 | []=>some ([],[])
 | t :: r=>if t=jo then (if (r.takeWhile fun t=>decide (0<=bP t)).length=0\/8 < (r.takeWhile fun t=>decide (0<=bP t)).length then none else some ((r.takeWhile fun t=>decide (0<=bP t)).map bP,r.dropWhile fun t=>decide (0<=bP t))) else some ([],t :: r)
theorem xA (r:List (List UInt8)):o0 (jo :: r)=(if (r.takeWhile fun t=>decide (0<=bP t)).length=0\/8 < (r.takeWhile fun t=>decide (0<=bP t)).length then none else some ((r.takeWhile fun t=>decide (0<=bP t)).map bP,r.dropWhile fun t=>decide (0<=bP t))):=by
 simp only [o0,if_true]
def iQ (s:List UInt8):Option DPad:=if (aA s).1=qI then (match (aA s).2 with
 | []=>none
 | t :: r => if bP t < 0 then none else match o0 r with
  | none=>none
  | some (ns,r)=>match AU r with
   | none=>none
   | some (a,c)=>some ⟨bP t,ns,a,c⟩) else none
def sf (p:DPad):Prop:=(0<=p.dst/\p.dst<=65535)/\(∀ n,n ∈ p.catches->0<=n/\n<=65535)/\p.catches.length<=8
theorem pl:bP jo < 0/\bP zt < 0/\bP nv < 0:=by decide
theorem zV (a c:Bool):nL a c=[]\/∃ t l,nL a c=t :: l/\(!decide (0<=bP t))=true:=by
 cases a <;> cases c
 ·exact .inl rfl
 ·exact .inr ⟨nv,[],rfl,by decide⟩
 ·exact .inr ⟨zt,[],rfl,by decide⟩
 ·exact .inr ⟨zt,[nv],rfl,by decide⟩
theorem Cw {ns:List Int} {a c:Bool} (h:∀ n,n ∈ ns->0<=n/\n<=65535) (hl:ns.length<=8):o0 ((if 0 < ns.length then jo :: ns.map Lib.itoa else []) ++ nL a c)=some (ns,nL a c):=by
 by_cases h0:0 < ns.length
 ·rw [if_pos h0]
  have hn:∀ t,t ∈ ns.map Lib.itoa->(!decide (0<=bP t))=false:=fun t ht=>by
   obtain ⟨n,hn,rfl⟩:=List.mem_map.1 ht
   rw [iq (h n hn).1 (h n hn).2]
   simp [(h n hn).1]
  obtain ⟨h1,h2⟩:=lY (p:=fun t=>!decide (0<=bP t)) hn (zV a c)
  simp only [Bool.not_not] at h1 h2
  rw [List.cons_append,xA,h1,h2,jL h,List.length_map,if_neg (by omega)]
 ·rw [if_neg h0,List.length_eq_zero_iff.1 (show ns.length=0 by omega)]
  cases a <;> cases c <;> decide
theorem BP {l:List (List UInt8)} {ns:List Int} {r:List (List UInt8)} (h:o0 l=some (ns,r)):l=(if 0 < ns.length then jo :: ns.map Lib.itoa else []) ++ r/\(∀ n,n ∈ ns->0<=n/\n<=65535)/\ns.length<=8:=by
 unfold o0 at h
 split at h
 ·cases h
  exact ⟨rfl,fun _ h=>(nomatch h),by simp⟩
 ·rename_i t q
  split at h
  ·rename_i e
   subst e
   split at h
   ·cases h
   ·rename_i hc
    cases h
    have hm:∀ n,n ∈ (q.takeWhile fun t=>decide (0<=bP t)).map bP->0<=n:=fun n hn=>by
     obtain ⟨t,ht,rfl⟩:=List.mem_map.1 hn
     have:=List.all_takeWhile (p:=fun t=>decide (0<=bP t)) (l:=q)
     rw [List.all_eq_true] at this
     simpa using this t ht
    obtain ⟨h1,h2⟩:=o5 hm
    refine ⟨?_,h2,by rw [List.length_map]; omega⟩
    rw [List.length_map,if_pos (by omega),<- h1,List.cons_append,List.takeWhile_append_dropWhile]
  ·cases h
   exact ⟨by simp,fun _ h=>(nomatch h),by simp⟩
theorem rJ {s:List UInt8} {p:DPad}:iQ s=some p ↔ sf p/\kZ p=s:=by
 have w0:plain qI:=by unfold plain; decide
 constructor
 ·intro h
  unfold iQ at h
  split at h
  ·rename_i hw
   split at h
   ·cases h
   ·rename_i t r hts
    split at h
    ·cases h
    ·rename_i hn
     split at h
     ·cases h
     ·rename_i ns r' hcp
      split at h
      ·cases h
      ·rename_i a c htp
       cases h
       obtain ⟨e1,e2,e3⟩:=BP hcp
       have e4:=u6.1 htp
       have e5:=jU (s:=t) (by omega)
       refine ⟨⟨⟨by show 0<=bP t; omega,e5.2⟩,e2,e3⟩,?_⟩
       have:=(fH s).1
       rw [wC,<- this,hw,hts,rh]
       show cW qI (Lib.itoa (bP t) :: ((if 0 < ns.length then jo :: ns.map Lib.itoa else []) ++ nL a c))=_
       rw [<- e5.1,<- e4,<- e1]
  ·cases h
 ·rintro ⟨⟨h1,h2,h3⟩,rfl⟩
  unfold iQ
  rw [wC,j5 w0 (tQ p),if_pos rfl,rh]
  show (if bP (Lib.itoa p.dst) < 0 then none else _)=_
  rw [iq h1.1 h1.2,if_neg (by omega),Cw h2 h3]
  show (match AU (nL p.all p.cleanup) with | none=>none | some (a,c)=>some (⟨p.dst,p.catches,a,c⟩:DPad))=_
  rw [u6.2 rfl]
def cD (pu:List UInt8->Int) (p:DPad) (t:List UInt8):DPad:=if t=jo then p else if t=zt then { p with all:=true } else if t=nv then { p with cleanup:=true } else { p with catches:=p.catches ++ [pu t] }
def qN (pu:List UInt8->Int):List (List UInt8)->DPad
 | []=>⟨0,[],false,false⟩
 | t :: r=>r.foldl (cD pu) ⟨pu t,[],false,false⟩
theorem rI {pu:List UInt8->Int} (hp:∀ t,0<=pu t/\pu t<=65535):∀ (l:List (List UInt8)) (p:DPad),(0<=p.dst/\p.dst<=65535)->(∀ n,n ∈ p.catches->0<=n/\n<=65535)->(0<=(l.foldl (cD pu) p).dst/\(l.foldl (cD pu) p).dst<=65535)/\∀ n,n ∈ (l.foldl (cD pu) p).catches->0<=n/\n<=65535
 | [],p,h1,h2=>⟨h1,h2⟩
 | t :: l, p, h1, h2 => by
  rw [List.foldl_cons]
  refine rI hp l _ ?_ ?_
  ·unfold cD
   split
   ·exact h1
   split
   ·exact h1
   split
   ·exact h1
   exact h1
  ·unfold cD
   split
   ·exact h2
   split
   ·exact h2
   split
   ·exact h2
   intro n hn
   rcases List.mem_append.1 hn with h | h
   ·exact h2 n h
   ·rw [List.mem_singleton.1 h]; exact hp t
theorem nY {pu:List UInt8->Int} (hi:∀ n:Int,0<=n->n<=65535->pu (Lib.itoa n)=n):∀ (ns:List Int) (p:DPad),(∀ n,n ∈ ns->0<=n/\n<=65535)->(ns.map Lib.itoa).foldl (cD pu) p={ p with catches:=p.catches ++ ns }
 | [],p,_=>by simp
 | n :: ns, p, h => by
  have hne:∀ w:List UInt8,bP w < 0->Lib.itoa n≠w:=fun w hw e=>by
   have:=iq (h n (by simp)).1 (h n (by simp)).2
   rw [e] at this
   have:=(h n (by simp)).1
   omega
  have hst:cD pu p (Lib.itoa n)={ p with catches:=p.catches ++ [n] }:=by
   unfold cD
   rw [if_neg (hne _ pl.1),if_neg (hne _ pl.2.1),if_neg (hne _ pl.2.2),hi n (h n (by simp)).1 (h n (by simp)).2]
  rw [List.map_cons,List.foldl_cons,hst,nY hi ns _ fun k hk=>h k (by simp [hk])]
  simp
theorem BI {pu:List UInt8->Int} (hi:∀ n:Int,0<=n->n<=65535->pu (Lib.itoa n)=n) {p:DPad} (hg:sf p):qN pu (zF p)=p:=by
 obtain ⟨h1,h2,h3⟩:=hg
 rw [rh]
 show List.foldl (cD pu) ⟨pu (Lib.itoa p.dst),[],false,false⟩ _=_
 rw [hi _ h1.1 h1.2,List.foldl_append]
 have hc:List.foldl (cD pu) ⟨p.dst,[],false,false⟩ (if 0 < p.catches.length then jo :: p.catches.map Lib.itoa else [])=⟨p.dst,p.catches,false,false⟩:=by
  by_cases h0:0 < p.catches.length
  ·rw [if_pos h0,List.foldl_cons,show cD pu ⟨p.dst,[],false,false⟩ jo=⟨p.dst,[],false,false⟩ from rfl,nY hi _ _ h2]
   simp
  ·rw [if_neg h0,List.length_eq_zero_iff.1 (show p.catches.length=0 by omega)]
   rfl
 rw [hc]
 cases p with
 | mk d ns a c=>cases a <;> cases c <;> rfl
theorem C2 {s:List UInt8} {w:List UInt8} {ts:List (List UInt8)} {pu:List UInt8->Int} (hp:∀ t,0<=pu t/\pu t<=65535) (hi:∀ n:Int,0<=n->n<=65535->pu (Lib.itoa n)=n)
  (hs:∀ (w':List UInt8) (ts':List (List UInt8)),plain w'->(∀ t,t ∈ ts'->plain t)->ts'.length<=13->s=cW w' ts'->w=w'/\ts=ts') {p:DPad} :
  (qN pu ts=p/\p.catches.length<=8/\kZ p=s) ↔ iQ s=some p:=by
 rw [rJ]
 constructor
 ·rintro ⟨rfl,h2,h3⟩
  have:(0<=(qN pu ts).dst/\(qN pu ts).dst<=65535)/\∀ n,n ∈ (qN pu ts).catches->0<=n/\n<=65535:=by
   cases ts with
   | nil=>exact ⟨by show (0:Int)<=0/\(0:Int)<=65535; decide,fun _ h=>(nomatch h)⟩
   | cons t r=>exact rI hp r _ (hp t) fun _ h=>(nomatch h)
  exact ⟨⟨this.1,this.2,h2⟩,h3⟩
 ·rintro ⟨hg,rfl⟩
  have w0:plain qI:=by unfold plain; decide
  obtain ⟨rfl,rfl⟩:=hs qI (zF p) w0 (tQ p) (by
   rw [rh]
   have:=hg.2.2
   have ht:(nL p.all p.cleanup).length<=2:=by cases p.all <;> cases p.cleanup <;> decide
   simp only [List.length_cons,List.length_append]
   split
   ·simp; omega
   ·simp; omega) (wC p)
  exact ⟨BI hi hg,hg.2.2,rfl⟩
theorem Cg {s:List UInt8} {x:DIns} (h:jd s=some x):opN (aA s).1≠0:=by
 unfold jd at h
 split at h
 ·rename_i hc; exact hc.1
 ·cases h
theorem vi {s:List UInt8} {x:DEnd} (h:jV s=some x):kN (aA s).1≠0:=by
 unfold jV at h
 split at h
 ·rename_i hc; exact hc.1
 ·cases h
theorem Bl {s:List UInt8} {p:DPad} (h:iQ s=some p):(aA s).1=qI:=by
 unfold iQ at h
 split at h
 ·rename_i hc; exact hc
 ·cases h
end Go.Ab
end
section
set_option maxRecDepth 20000
namespace Go.Ab
open Go.Ab.Z12
def aq:List UInt8->List (List UInt8) × List UInt8
 | []=>([],[])
 | c :: l=>if c=10 then ([] :: (aq l).1,(aq l).2) else match (aq l).1 with
  | []=>([],c :: (aq l).2)
  | a :: ls=>((c :: a) :: ls,(aq l).2)
theorem pN:∀ l,nlE (aq l).1 ++ (aq l).2=l/\(∀ t,t ∈ (aq l).1->t.count 10=0)/\(aq l).2.count 10=0
 | []=>⟨rfl,fun _ h=>(nomatch h),rfl⟩
 | c :: l => by
  obtain ⟨h1,h2,h3⟩:=pN l
  unfold aq
  by_cases hc:c=10
  ·rw [if_pos hc]
   subst hc
   refine ⟨?_,fun t ht=>?_,h3⟩
   ·show nlE ([] :: (aq l).1) ++ (aq l).2=_
    rw [go]
    simp [h1]
   ·rcases List.mem_cons.1 ht with rfl | ht
    ·rfl
    ·exact h2 t ht
  ·rw [if_neg hc]
   cases e:(aq l).1 with
   | nil =>
    rw [e] at h1
    refine ⟨?_,fun _ h=>(nomatch h),?_⟩
    ·show [] ++ c :: (aq l).2=_
     rw [List.nil_append]
     exact congrArg _ h1
    ·show List.count 10 (c :: (aq l).2)=0
     rw [List.count_cons_of_ne (fun h=>hc h)]
     exact h3
   | cons a ls =>
    rw [e] at h1 h2
    refine ⟨?_,fun t ht=>?_,h3⟩
    ·show nlE ((c :: a) :: ls) ++ (aq l).2=_
     rw [go] at h1 ⊢
     rw [List.cons_append,List.cons_append,List.cons_append]
     exact congrArg _ h1
    ·rcases List.mem_cons.1 ht with rfl | ht
     ·rw [List.count_cons_of_ne (fun h=>hc h)]
      exact h2 a (by simp)
     ·exact h2 t (by simp [ht])
theorem qc:∀ {l:List UInt8},l.count 10=0->aq l=([],l)
 | [],_=>rfl
 | c :: l,h=>by
  have hc:c≠10:=fun e=>by subst e; simp at h
  rw [List.count_cons_of_ne (fun h=>hc h)] at h
  unfold aq
  rw [if_neg hc,qc h]
theorem qt:∀ {a:List UInt8} (l:List UInt8),a.count 10=0->aq (a ++ [10] ++ l)=(a :: (aq l).1,(aq l).2)
 | [],l,_=>by simp [aq]
 | c :: a,l,h=>by
  have hc:c≠10:=fun e=>by subst e; simp at h
  rw [List.count_cons_of_ne (fun h=>hc h)] at h
  rw [List.cons_append,List.cons_append,aq,if_neg hc,qt l h]
theorem vb:∀ {ls:List (List UInt8)} {r:List UInt8},(∀ t,t ∈ ls->t.count 10=0)->r.count 10=0->aq (nlE ls ++ r)=(ls,r)
 | [],r,_,h=>by
  show aq ([] ++ r)=_
  rw [List.nil_append,qc h]
 | a :: ls,r,h,hr=>by
  rw [go,List.append_assoc,qt _ (h a (by simp)),vb (fun t ht=>h t (by simp [ht])) hr]
abbrev gq:List UInt8:=[102,117,110,99]
abbrev gS:List UInt8:=[98,108,111,99,107]
def lG (s:List UInt8):Option (Int × Int):=if (aA s).1=gq then (match (aA s).2 with
 | [a,b]=>if bP a < 0\/bP b < 0 then none else some (bP a,bP b)
 | _=>none) else none
theorem sM {s:List UInt8} {p r:Int}:lG s=some (p,r) ↔ ((0<=p/\p<=65535)/\0<=r/\r<=65535)/\aQ gq [p,r]=s:=by
 have w0:plain gq:=by unfold plain; decide
 unfold lG
 constructor
 ·intro h
  split at h
  ·rename_i hw
   split at h
   ·rename_i a b hts
    split at h
    ·cases h
    ·rename_i hn
     cases h
     have e1:=jU (s:=a) (by omega)
     have e2:=jU (s:=b) (by omega)
     refine ⟨⟨⟨by omega,e1.2⟩,by omega,e2.2⟩,?_⟩
     have:=(fH s).1
     rw [jI,<- this,hw,hts]
     show cW gq [Lib.itoa (bP a),Lib.itoa (bP b)]=_
     rw [<- e1.1,<- e2.1]
   ·cases h
  ·cases h
 ·rintro ⟨⟨h1,h2⟩,rfl⟩
  rw [jI,j5 w0 (eP _),if_pos rfl]
  show (if bP (Lib.itoa p) < 0\/bP (Lib.itoa r) < 0 then none else some (bP (Lib.itoa p),bP (Lib.itoa r)))=_
  rw [iq h1.1 h1.2,iq h2.1 h2.2,if_neg (by omega)]
theorem Da {s:List UInt8} {w:List UInt8} {ts:List (List UInt8)} {pu:List UInt8->Int} (hp:∀ t,0<=pu t/\pu t<=65535) (hi:∀ n:Int,0<=n->n<=65535->pu (Lib.itoa n)=n)
  (hs:∀ (w':List UInt8) (ts':List (List UInt8)),plain w'->(∀ t,t ∈ ts'->plain t)->ts'.length<=13->s=cW w' ts'->w=w'/\ts=ts') {p r:Int} :
  ((ts.map pu).getD 0 0=p/\(ts.map pu).getD 1 0=r/\s=aQ gq [p,r]) ↔ lG s=some (p,r):=by
 rw [sM]
 have w0:plain gq:=by unfold plain; decide
 have hg:∀ i,0<=(ts.map pu).getD i 0/\(ts.map pu).getD i 0<=65535:=fun i=>by
  rw [GR,GJ]
  cases e:ts[i]? with
  | none=>simp
  | some a=>exact hp a
 constructor
 ·rintro ⟨rfl,rfl,h⟩
  exact ⟨⟨hg 0,hg 1⟩,h.symm⟩
 ·rintro ⟨⟨h1,h2⟩,rfl⟩
  obtain ⟨rfl,rfl⟩:=hs gq ([p,r].map Lib.itoa) w0 (eP _) (by simp) (jI _ _)
  exact ⟨hi p h1.1 h1.2,hi r h2.1 h2.2,rfl⟩
abbrev pad0:DPad:=⟨0,[],false,false⟩
abbrev end0:DEnd:=⟨0,0,0,0,[],0,0,0⟩
def jr (w:List UInt8):Nat:=if w=gq then 1 else if w=gS then 2 else if w=qI then 3 else if opN w≠0 then 4 else if kN w≠0 then 5 else 0
def bA (c last:Nat):Bool:=if c=1 then decide (last=0\/last=5) else if c=2\/c=3 then decide (last=1\/last=5) else if c=4\/c=5 then decide (last=2\/last=3\/last=4) else false
def te {α:Type} (f:α->α) (l:List α):List α:=l.dropLast ++ (l.getLast?.map f).toList
theorem aV {α:Type} (f:α->α) (l:List α) (a:α):te f (l ++ [a])=l ++ [f a]:=by simp [te]
structure RdS where
 funcs:List DFunc
 last:Nat
def lB (b:DBlock) (l:List DFunc):List DFunc:=te (fun f=>{ f with blocks:=f.blocks ++ [b] }) l
def onB (g:DBlock->DBlock) (l:List DFunc):List DFunc:=te (fun f=>{ f with blocks:=te g f.blocks }) l
noncomputable def eK (s:RdS) (line:List UInt8):Except Nat RdS :=
 if bA (jr (aA line).1) s.last=false then .error 4
 else if jr (aA line).1=1 then (match lG line with | none=>.error 2 | some (p,r)=>.ok ⟨s.funcs ++ [⟨p,r,[]⟩],1⟩)
 else if jr (aA line).1=2 then (if line=gS then .ok ⟨lB ⟨false,pad0,[],end0⟩ s.funcs,2⟩ else .error 2)
 else if jr (aA line).1=3 then (match iQ line with | none=>.error 2 | some p=>.ok ⟨lB ⟨true,p,[],end0⟩ s.funcs,3⟩)
 else if jr (aA line).1=4 then (match jd line with | none=>.error 2 | some x=>.ok ⟨onB (fun b=>{ b with ins:=b.ins ++ [x] }) s.funcs,4⟩)
 else (match jV line with | none=>.error 2 | some x=>.ok ⟨onB (fun b=>{ b with fin:=x }) s.funcs,5⟩)
noncomputable def gZ:RdS->Nat->List (List UInt8)->Except (Nat × Nat) RdS
 | s,_,[]=>.ok s
 | s,n,l :: ls=>match eK s l with
  | .error e=>.error (e,n)
  | .ok s'=>gZ s' (n + 1) ls
structure xY (s:RdS):Prop where
 le:s.last<=5
 none:s.last=0->s.funcs=[]
 fn:s.last=1->∃ fs p r,s.funcs=fs ++ [⟨p,r,[]⟩]
 blk:s.last=2\/s.last=3\/s.last=4->∃ fs p r bs b,s.funcs=fs ++ [⟨p,r,bs ++ [b]⟩]/\b.fin=end0
 fin:s.last=5->∃ fs p r bs,s.funcs=fs ++ [⟨p,r,bs⟩]
def dG (s:RdS):List (List UInt8):=if s.last=2\/s.last=3\/s.last=4 then (iR ⟨s.funcs⟩).dropLast else iR ⟨s.funcs⟩
theorem jy (fs:List DFunc) (f:DFunc):iR ⟨fs ++ [f]⟩=iR ⟨fs⟩ ++ iB f:=by simp [iR]
theorem ry (p r:Int) (bs:List DBlock) (b:DBlock):iB ⟨p,r,bs ++ [b]⟩=iB ⟨p,r,bs⟩ ++ dv b:=by simp [iB]
theorem iO {fs:List DFunc} {p r:Int} {bs:List DBlock} {b:DBlock}:(iR ⟨fs ++ [⟨p,r,bs ++ [b]⟩]⟩).dropLast=iR ⟨fs⟩ ++ iB ⟨p,r,bs⟩ ++ (ea b :: b.ins.map em):=by
 rw [jy,ry,<- List.append_assoc]
 unfold dv
 rw [<- List.cons_append,<- List.append_assoc,List.dropLast_concat]
theorem cls1 {w:List UInt8}:jr w=1 ↔ w=gq:=by
 unfold jr
 constructor
 ·intro h
  split at h
  ·assumption
  split at h
  ·cases h
  split at h
  ·cases h
  split at h
  ·cases h
  split at h <;> cases h
 ·rintro rfl; rfl
theorem cls3 {w:List UInt8}:jr w=3 ↔ w=qI:=by
 unfold jr
 constructor
 ·intro h
  split at h
  ·cases h
  split at h
  ·cases h
  split at h
  ·assumption
  split at h
  ·cases h
  split at h <;> cases h
 ·rintro rfl; rfl
theorem cls4 {w:List UInt8}:opN w≠0->jr w=4:=fun h=>by
 obtain ⟨h1,h2⟩:=(wH w).resolve_left h
 rw [h2]
 rcases qH h1 with e | e | e | e | e | e | e | e | e | e | e | e | e <;> rw [e] <;> decide
theorem cls5 {w:List UInt8}:kN w≠0->jr w=5:=fun h=>by
 obtain ⟨h1,h2⟩:=(Aw w).resolve_left h
 rw [h2]
 rcases jc h1 with e | e | e | e | e | e <;> rw [e] <;> decide
theorem tX {s s':RdS} {line:List UInt8} (hI:xY s) (h:eK s line=.ok s'):xY s'/\dG s'=dG s ++ [line]:=by
 unfold eK at h
 split at h
 ·cases h
 rename_i hb
 have hb:bA (jr (aA line).1) s.last=true:=by simpa using hb
 split at h
 ·rename_i hc
  rw [hc] at hb
  have hl:s.last=0\/s.last=5:=by simpa [bA] using hb
  split at h
  ·cases h
  rename_i p r hf
  cases h
  refine ⟨⟨by simp,by simp,fun _=>⟨_,_,_,rfl⟩,by simp,by simp⟩,?_⟩
  unfold dG
  rw [if_neg (by simp),if_neg (by omega),jy,<- (sM.1 hf).2]
  rfl
 rename_i hc1
 split at h
 ·rename_i hc
  rw [hc] at hb
  have hl:s.last=1\/s.last=5:=by simpa [bA] using hb
  split at h
  ·rename_i he
   cases h
   obtain ⟨fs,p,r,bs,hfs⟩:∃ fs p r bs,s.funcs=fs ++ [⟨p,r,bs⟩]:=by
    rcases hl with h | h
    ·obtain ⟨fs,p,r,e⟩:=hI.fn h; exact ⟨fs,p,r,[],e⟩
    ·exact hI.fin h
   have e2:lB ⟨false,pad0,[],end0⟩ s.funcs=fs ++ [⟨p,r,bs ++ [⟨false,pad0,[],end0⟩]⟩]:=by unfold lB; rw [hfs,aV]
   refine ⟨⟨by simp,by simp,by simp,fun _=>⟨fs,p,r,bs,_,e2,rfl⟩,by simp⟩,?_⟩
   unfold dG
   rw [if_pos (by simp),if_neg (by omega)]
   show (iR ⟨lB _ _⟩).dropLast=_
   rw [e2,iO,hfs,jy,he]
   rfl
  ·cases h
 rename_i hc2
 split at h
 ·rename_i hc
  rw [hc] at hb
  have hl:s.last=1\/s.last=5:=by simpa [bA] using hb
  split at h
  ·cases h
  rename_i q hq
  cases h
  obtain ⟨fs,p,r,bs,hfs⟩:∃ fs p r bs,s.funcs=fs ++ [⟨p,r,bs⟩]:=by
   rcases hl with h | h
   ·obtain ⟨fs,p,r,e⟩:=hI.fn h; exact ⟨fs,p,r,[],e⟩
   ·exact hI.fin h
  have e2:lB ⟨true,q,[],end0⟩ s.funcs=fs ++ [⟨p,r,bs ++ [⟨true,q,[],end0⟩]⟩]:=by unfold lB; rw [hfs,aV]
  refine ⟨⟨by simp,by simp,by simp,fun _=>⟨fs,p,r,bs,_,e2,rfl⟩,by simp⟩,?_⟩
  unfold dG
  rw [if_pos (by simp),if_neg (by omega)]
  show (iR ⟨lB _ _⟩).dropLast=_
  rw [e2,iO,hfs,jy,<- (rJ.1 hq).2]
  rfl
 rename_i hc3
 split at h
 ·rename_i hc
  rw [hc] at hb
  have hl:s.last=2\/s.last=3\/s.last=4:=by simpa [bA] using hb
  split at h
  ·cases h
  rename_i x hx
  cases h
  obtain ⟨fs,p,r,bs,b,hfs,hfin⟩:=hI.blk hl
  have e2:onB (fun b=>{ b with ins:=b.ins ++ [x] }) s.funcs=fs ++ [⟨p,r,bs ++ [{ b with ins:=b.ins ++ [x] }]⟩]:=by unfold onB; rw [hfs,aV,aV]
  refine ⟨⟨by simp,by simp,by simp,fun _=>⟨fs,p,r,bs,_,e2,hfin⟩,by simp⟩,?_⟩
  unfold dG
  rw [if_pos (by simp),if_pos hl]
  show (iR ⟨onB _ _⟩).dropLast=_
  rw [e2,iO,hfs,iO,<- (tn.1 hx).2]
  simp [ea]
 rename_i hc4
 split at h
 ·cases h
 rename_i x hx
 cases h
 have hc5:=cls5 (vi hx)
 rw [hc5] at hb
 have hl:s.last=2\/s.last=3\/s.last=4:=by simpa [bA] using hb
 obtain ⟨fs,p,r,bs,b,hfs,hfin⟩:=hI.blk hl
 have e2:onB (fun b=>{ b with fin:=x }) s.funcs=fs ++ [⟨p,r,bs ++ [{ b with fin:=x }]⟩]:=by unfold onB; rw [hfs,aV,aV]
 refine ⟨⟨by simp,by simp,by simp,by simp,fun _=>⟨fs,p,r,_,e2⟩⟩,?_⟩
 unfold dG
 rw [if_neg (by simp),if_pos hl]
 show iR ⟨onB _ _⟩=_
 rw [e2,hfs,iO,jy,ry,<- (tC.1 hx).2]
 simp [dv,ea]
theorem uP:∀ {ls:List (List UInt8)} {n:Nat} {s s':RdS},xY s->gZ s n ls=.ok s'->xY s'/\dG s'=dG s ++ ls
 | [],n,s,s',hI,h=>by cases h; exact ⟨hI,by simp⟩
 | l :: ls, n, s, s', hI, h => by
  unfold gZ at h
  split at h
  ·cases h
  ·rename_i s1 h1
   obtain ⟨a1,a2⟩:=tX hI h1
   obtain ⟨b1,b2⟩:=uP a1 h
   exact ⟨b1,by rw [b2,a2]; simp⟩
theorem inv0:xY ⟨[],0⟩:=⟨by simp,fun _=>rfl,by simp,by simp,by simp⟩
noncomputable def lL (text:List UInt8):Except (Nat × Nat) DMod :=
 if 65536 < text.length then .error (3,0) else match gZ ⟨[],0⟩ 1 (aq text).1 with
 | .error e=>.error e
 | .ok s=>if (aq text).2=[]/\s.last=5 then .ok ⟨s.funcs⟩ else .error (2,(aq text).1.length + 1)
theorem zn {text:List UInt8} {m:DMod} (h:lL text=.ok m):jl m=text/\text.length<=65536:=by
 unfold lL at h
 split at h
 ·cases h
 rename_i hl
 split at h
 ·cases h
 rename_i s hr
 split at h
 ·rename_i hc
  cases h
  obtain ⟨h1,h2⟩:=uP inv0 hr
  obtain ⟨t1,_,_⟩:=pN text
  refine ⟨?_,by omega⟩
  rw [AW]
  have e0:dG ⟨[],0⟩=[]:=rfl
  rw [e0,List.nil_append] at h2
  unfold dG at h2
  rw [if_neg (by omega)] at h2
  rw [h2]
  rw [hc.1,List.append_nil] at t1
  exact t1
 ·cases h
theorem step_I {s:RdS} {fs:List DFunc} {p r:Int} {bs:List DBlock} {b:DBlock} (hf:s.funcs=fs ++ [⟨p,r,bs ++ [b]⟩]) (hl:s.last=2\/s.last=3\/s.last=4) {x:DIns} (hx:tg x):eK s (em x)=.ok ⟨fs ++ [⟨p,r,bs ++ [{ b with ins:=b.ins ++ [x] }]⟩],4⟩:=by
 have hr:jd (em x)=some x:=tn.2 ⟨hx,rfl⟩
 have hc:=cls4 (Cg hr)
 unfold eK
 rw [hc,if_neg (by simp [bA,hl]),if_neg (by omega),if_neg (by omega),if_neg (by omega),if_pos rfl,hr]
 simp only [onB,hf,aV]
theorem step_E {s:RdS} {fs:List DFunc} {p r:Int} {bs:List DBlock} {b:DBlock} (hf:s.funcs=fs ++ [⟨p,r,bs ++ [b]⟩]) (hl:s.last=2\/s.last=3\/s.last=4) {x:DEnd} (hx:uE x):eK s (gW x)=.ok ⟨fs ++ [⟨p,r,bs ++ [{ b with fin:=x }]⟩],5⟩:=by
 have hr:jV (gW x)=some x:=tC.2 ⟨hx,rfl⟩
 have hc:=cls5 (vi hr)
 unfold eK
 rw [hc,if_neg (by simp [bA,hl]),if_neg (by omega),if_neg (by omega),if_neg (by omega),if_neg (by omega),hr]
 simp only [onB,hf,aV]
theorem step_H {s:RdS} {fs:List DFunc} {p r:Int} {bs:List DBlock} (hf:s.funcs=fs ++ [⟨p,r,bs⟩]) (hl:s.last=1\/s.last=5) {b:DBlock} (hp:if b.landing=true then sf b.pad else b.pad=pad0):∃ k,(k=2\/k=3\/k=4)/\eK s (ea b)=.ok ⟨fs ++ [⟨p,r,bs ++ [⟨b.landing,b.pad,[],end0⟩]⟩],k⟩:=by
 cases hb:b.landing with
 | false =>
  rw [hb] at hp
  have hp:b.pad=pad0:=hp
  have hh:ea b=gS:=by unfold ea; rw [hb]; rfl
  refine ⟨2,.inl rfl,?_⟩
  have hs:aA gS=(gS,[]):=by decide
  unfold eK
  rw [hh,hs,show jr gS=2 from rfl,if_neg (by simp [bA,hl]),if_neg (by omega),if_pos rfl,if_pos rfl,hp]
  simp only [lB,hf,aV]
 | true =>
  rw [hb] at hp
  have hp:sf b.pad:=hp
  have hh:ea b=kZ b.pad:=by unfold ea; rw [hb]; rfl
  have hr:iQ (kZ b.pad)=some b.pad:=rJ.2 ⟨hp,rfl⟩
  refine ⟨3,.inr (.inl rfl),?_⟩
  unfold eK
  rw [hh,cls3.2 (Bl hr),if_neg (by simp [bA,hl]),if_neg (by omega),if_neg (by omega),if_pos rfl,hr]
  simp only [lB,hf,aV]
theorem rk {s s':RdS} {n:Nat} {l:List UInt8} {ls:List (List UInt8)} (h:eK s l=.ok s'):gZ s n (l :: ls)=gZ s' (n + 1) ls:=by
 show (match eK s l with | .error e=>_ | .ok s'=>gZ s' (n + 1) ls)=_
 rw [h]
theorem AG {fs:List DFunc} {p r:Int} {bs:List DBlock} {rest:List (List UInt8)}:∀ (xs:List DIns) (b:DBlock) (k n:Nat),(k=2\/k=3\/k=4)->(∀ x,x ∈ xs->tg x) ->
  ∃ k' n',(k'=2\/k'=3\/k'=4)/\gZ ⟨fs ++ [⟨p,r,bs ++ [b]⟩],k⟩ n (xs.map em ++ rest)=gZ ⟨fs ++ [⟨p,r,bs ++ [{ b with ins:=b.ins ++ xs }]⟩],k'⟩ n' rest
 | [],b,k,n,hk,_=>⟨k,n,hk,by simp⟩
 | x :: xs,b,k,n,hk,hx=>by
  obtain ⟨k',n',h1,h2⟩:=AG xs { b with ins:=b.ins ++ [x] } 4 (n + 1) (.inr (.inr rfl)) fun y hy=>hx y (by simp [hy])
  refine ⟨k',n',h1,?_⟩
  rw [List.map_cons,List.cons_append,rk (step_I rfl hk (hx x (by simp))),h2]
  simp
def AT (b:DBlock):Prop:=(if b.landing=true then sf b.pad else b.pad=pad0)/\(∀ x,x ∈ b.ins->tg x)/\uE b.fin
def DD (f:DFunc):Prop:=((0<=f.params/\f.params<=65535)/\0<=f.regs/\f.regs<=65535)/\f.blocks≠[]/\∀ b,b ∈ f.blocks->AT b
theorem Bp {fs:List DFunc} {p r:Int} {bs:List DBlock} {rest:List (List UInt8)} {b:DBlock} (hb:AT b) {k n:Nat} (hk:k=1\/k=5):∃ n',gZ ⟨fs ++ [⟨p,r,bs⟩],k⟩ n (dv b ++ rest)=gZ ⟨fs ++ [⟨p,r,bs ++ [b]⟩],5⟩ n' rest:=by
 obtain ⟨k1,hk1,h1⟩:=step_H (s:=⟨fs ++ [⟨p,r,bs⟩],k⟩) rfl hk hb.1
 obtain ⟨k2,n2,hk2,h2⟩:=AG (fs:=fs) (p:=p) (r:=r) (bs:=bs) (rest:=gW b.fin :: rest) b.ins ⟨b.landing,b.pad,[],end0⟩ k1 (n + 1) hk1 hb.2.1
 refine ⟨n2 + 1,?_⟩
 unfold dv
 rw [List.cons_append,rk h1,List.append_assoc]
 show gZ _ _ (b.ins.map em ++ gW b.fin :: rest)=_
 rw [h2,rk (step_E rfl hk2 hb.2.2)]
 simp
theorem s9 {fs:List DFunc} {p r:Int} {rest:List (List UInt8)}:∀ (cs bs:List DBlock) (k n:Nat),(k=1\/k=5)->(∀ b,b ∈ cs->AT b)->∃ k' n',(cs=[]->k'=k)/\(cs≠[]->k'=5)/\gZ ⟨fs ++ [⟨p,r,bs⟩],k⟩ n (cs.flatMap dv ++ rest)=gZ ⟨fs ++ [⟨p,r,bs ++ cs⟩],k'⟩ n' rest
 | [],bs,k,n,hk,_=>⟨k,n,fun _=>rfl,fun h=>absurd rfl h,by simp⟩
 | c :: cs, bs, k, n, hk, hc => by
  obtain ⟨n1,h1⟩:=Bp (fs:=fs) (p:=p) (r:=r) (bs:=bs) (rest:=cs.flatMap dv ++ rest) (hc c (by simp)) (n:=n) hk
  obtain ⟨k',n',h2,h3,h4⟩:=s9 (fs:=fs) (p:=p) (r:=r) (rest:=rest) cs (bs ++ [c]) 5 n1 (.inr rfl) fun b hb=>hc b (by simp [hb])
  refine ⟨k',n',fun h=>absurd h (by simp),fun _=>?_,?_⟩
  ·by_cases e:cs=[]
   ·exact h2 e
   ·exact h3 e
  ·rw [List.flatMap_cons,List.append_assoc,h1,h4]
   simp
theorem uO {rest:List (List UInt8)}:∀ (gs fs:List DFunc) (k n:Nat),(k=0\/k=5)->(∀ f,f ∈ gs->DD f)->∃ k' n',(gs=[]->k'=k)/\(gs≠[]->k'=5)/\gZ ⟨fs,k⟩ n (gs.flatMap iB ++ rest)=gZ ⟨fs ++ gs,k'⟩ n' rest
 | [],fs,k,n,hk,_=>⟨k,n,fun _=>rfl,fun h=>absurd rfl h,by simp⟩
 | g :: gs, fs, k, n, hk, hg => by
  obtain ⟨hpr,hne,hbs⟩:=hg g (by simp)
  have hr:lG (aQ gq [g.params,g.regs])=some (g.params,g.regs):=sM.2 ⟨hpr,rfl⟩
  have hw:(aA (aQ gq [g.params,g.regs])).1=gq:=by
   unfold lG at hr
   split at hr
   ·assumption
   ·cases hr
  have h0:eK ⟨fs,k⟩ (aQ gq [g.params,g.regs])=.ok ⟨fs ++ [⟨g.params,g.regs,[]⟩],1⟩:=by
   unfold eK
   rw [cls1.2 hw,if_neg (by simp [bA,hk]),if_pos rfl,hr]
  obtain ⟨k1,n1,_,h1,h2⟩:=s9 (fs:=fs) (p:=g.params) (r:=g.regs) (rest:=gs.flatMap iB ++ rest) g.blocks [] 1 (n + 1) (.inl rfl) hbs
  obtain ⟨k',n',h3,h4,h5⟩:=uO (rest:=rest) gs (fs ++ [g]) 5 n1 (.inr rfl) fun f hf=>hg f (by simp [hf])
  refine ⟨k',n',fun h=>absurd h (by simp),fun _=>?_,?_⟩
  ·by_cases e:gs=[]
   ·exact h3 e
   ·exact h4 e
  ·rw [List.flatMap_cons,List.append_assoc]
   show gZ _ _ (aQ gq [g.params,g.regs] :: (g.blocks.flatMap dv ++ (gs.flatMap iB ++ rest)))=_
   rw [rk h0,h2,h1 hne]
   show gZ ⟨fs ++ [g],5⟩ n1 _=_
   rw [h5]
   simp
theorem yY {m:DMod} (hne:m.funcs≠[]) (hg:∀ f,f ∈ m.funcs->DD f) (hl:(jl m).length<=65536):lL (jl m)=.ok m:=by
 have hs:aq (jl m)=(iR m,[]):=by
  have:=vb (ls:=iR m) (r:=[]) (Ca m) rfl
  rw [List.append_nil,<- AW] at this
  exact this
 obtain ⟨k',n',_,h2,h3⟩:=uO (rest:=[]) m.funcs [] 0 1 (.inl rfl) hg
 unfold lL
 rw [if_neg (by omega),hs]
 have h3:gZ ⟨[],0⟩ 1 (iR m)=.ok ⟨m.funcs,5⟩:=by
  rw [List.append_nil,h2 hne] at h3
  exact h3
 rw [h3]
 exact if_pos ⟨rfl,rfl⟩
end Go.Ab
end
section
set_option maxRecDepth 20000
namespace Go.Ab
abbrev in16 (n:Int):Prop:=0<=n/\n<=65535
theorem Gf {c:Prop} [Decidable c] {a b:List Int} {P:List Int->Prop} (ha:P a) (hb:P b):P (if c then a else b):=by
 split
 ·exact ha
 ·exact hb
theorem FW {x:DIns}:∀ n,n ∈ nsI x->n=x.dst\/n=x.a\/n=x.b\/n=x.k\/n=x.f\/n ∈ x.args:=by
 unfold nsI
 repeat' (refine Gf (P:=fun l=>∀ n,n ∈ l->n=x.dst\/n=x.a\/n=x.b\/n=x.k\/n=x.f\/n ∈ x.args) ?_ ?_)
 all_goals (intro n hn; simp at hn)
 all_goals first
  | (rcases hn with h | h | h <;> simp [h]; done)
  | (rcases hn with h | h <;> simp [h]; done)
  | (subst hn; simp; done)
  | (simp [hn]; done)
theorem E7 {x:DEnd}:∀ n,n ∈ nsE x->n=x.a\/n=x.dst\/n=x.f\/n=x.to\/n=x.els\/n=x.pad\/n ∈ x.args:=by
 unfold nsE
 repeat' (refine Gf (P:=fun l=>∀ n,n ∈ l->n=x.a\/n=x.dst\/n=x.f\/n=x.to\/n=x.els\/n=x.pad\/n ∈ x.args) ?_ ?_)
 all_goals (intro n hn; simp at hn)
 all_goals first
  | (rcases hn with h | h | h | h | h <;> simp [h]; done)
  | (rcases hn with h | h | h <;> simp [h]; done)
  | (subst hn; simp; done)
  | (simp [hn]; done)
end Go.Ab
namespace Go.Ab.Z12
open Go Go.Ab Go.Proofs
theorem jO {u:Bool} {regs n:Int} (h:jg u regs n) (hr:regs<=256):in16 n:=by
 cases u with
 | true=>have:=h.1 rfl; unfold within at this; exact ⟨by omega,by omega⟩
 | false=>have:=h.2 rfl; exact ⟨by omega,by omega⟩
theorem od {u:Bool} {fs:List DFunc} {regs n:Int} {l:List Int} (h:ql u fs regs n l) (hf:fs.length<=16) (hr:regs<=256) (hp:∀ f,f ∈ fs->f.params<=8):in16 n/\l.length<=8/\∀ a,a ∈ l->in16 a:=by
 cases u with
 | true =>
  obtain ⟨h0,g,hg,hl,ha⟩:=h.1 rfl
  have hlt:=(GD.1 hg).1
  have:=hp g (GM hg)
  refine ⟨⟨h0,by omega⟩,by omega,fun a hm=>?_⟩
  obtain ⟨i,hi⟩:=List.mem_iff_getElem?.1 hm
  have:=ha i (GD.1 hi).1 a hi
  unfold within at this
  exact ⟨by omega,by omega⟩
 | false =>
  obtain ⟨h1,h2⟩:=h.2 rfl
  subst h2
  exact ⟨⟨by omega,by omega⟩,by simp,fun _ h=>(nomatch h)⟩
theorem sN {u:Bool} {bs:List DBlock} {n:Int} {l:Bool} (h:qd u bs n l) (hb:bs.length<=64):in16 n:=by
 cases u with
 | true =>
  obtain ⟨h0,b,hb',_⟩:=h.1 rfl
  have:=(GD.1 hb').1
  exact ⟨h0,by omega⟩
 | false=>have:=h.2 rfl; exact ⟨by omega,by omega⟩
theorem CX {op:Int} (h:has (lK op) 1=true):1<=op/\op<=13:=by
 by_cases e:1<=op/\op<=13
 ·exact e
 ·have:lK op=0:=by
   unfold lK
   repeat' (rw [if_neg (by omega)])
  rw [this] at h
  exact absurd h (by decide)
theorem D7 {k:Int} (h:has (kT k) 1=true):1<=k/\k<=6:=by
 by_cases e:1<=k/\k<=6
 ·exact e
 ·have:kT k=0:=by
   unfold kT
   repeat' (rw [if_neg (by omega)])
  rw [this] at h
  exact absurd h (by decide)
theorem B8 {fs:List DFunc} {regs:Int} {x:DIns} (h:BU fs regs x) (hf:fs.length<=16) (hr:regs<=256) (hp:∀ f,f ∈ fs->f.params<=8) (hw:in16 x.k):tg x:=by
 obtain ⟨h1,hd,ha,hb,hk,hc⟩:=h
 have ho:=CX h1
 obtain ⟨c1,c2,c3⟩:=od hc hf hr hp
 refine ⟨ho,?_,fun n hn=>?_,c2⟩
 ·cases x with
  | mk op dst a b k f args =>
   simp only at *
   have nk:∀ {q:Bool},q=false->(q=true\/k=0)->k=0:=fun e h=>h.resolve_left (by rw [e]; exact Bool.false_ne_true)
   rcases qH ho with rfl | rfl | rfl | rfl | rfl | rfl | rfl | rfl | rfl | rfl | rfl | rfl | rfl
   ·rw [ha.2 rfl,hb.2 rfl,(hc.2 rfl).1,(hc.2 rfl).2]; simp [mkI,nsI]
   ·rw [hb.2 rfl,nk rfl hk,(hc.2 rfl).1,(hc.2 rfl).2]; simp [mkI,nsI]
   ·rw [nk rfl hk,(hc.2 rfl).1,(hc.2 rfl).2]; simp [mkI,nsI]
   ·rw [nk rfl hk,(hc.2 rfl).1,(hc.2 rfl).2]; simp [mkI,nsI]
   ·rw [nk rfl hk,(hc.2 rfl).1,(hc.2 rfl).2]; simp [mkI,nsI]
   ·rw [nk rfl hk,(hc.2 rfl).1,(hc.2 rfl).2]; simp [mkI,nsI]
   ·rw [nk rfl hk,(hc.2 rfl).1,(hc.2 rfl).2]; simp [mkI,nsI]
   ·rw [nk rfl hk,(hc.2 rfl).1,(hc.2 rfl).2]; simp [mkI,nsI]
   ·rw [hb.2 rfl,nk rfl hk,(hc.2 rfl).1,(hc.2 rfl).2]; simp [mkI,nsI]
   ·rw [hd.2 rfl,nk rfl hk,(hc.2 rfl).1,(hc.2 rfl).2]; simp [mkI,nsI]
   ·rw [ha.2 rfl,hb.2 rfl,nk rfl hk]; simp [mkI,nsI]
   ·rw [hd.2 rfl,hb.2 rfl,nk rfl hk,(hc.2 rfl).1,(hc.2 rfl).2]; simp [mkI,nsI]
   ·rw [ha.2 rfl,hb.2 rfl,nk rfl hk,(hc.2 rfl).1,(hc.2 rfl).2]; simp [mkI,nsI]
 ·rcases FW n hn with rfl | rfl | rfl | rfl | rfl | h
  ·exact jO hd hr
  ·exact jO ha hr
  ·exact jO hb hr
  ·exact hw
  ·exact c1
  ·exact c3 n h
theorem BE {fs:List DFunc} {regs:Int} {bs:List DBlock} {x:DEnd} (h:Cs fs regs bs x) (hf:fs.length<=16) (hr:regs<=256) (hb:bs.length<=64) (hp:∀ f,f ∈ fs->f.params<=8):uE x:=by
 obtain ⟨h1,ha,hd,hc,ht,he,hq⟩:=h
 have ho:=D7 h1
 obtain ⟨c1,c2,c3⟩:=od hc hf hr hp
 refine ⟨ho,?_,fun n hn=>?_,c2⟩
 ·cases x with
  | mk kind a dst f args to els pad =>
   simp only at *
   rcases jc ho with rfl | rfl | rfl | rfl | rfl | rfl
   ·rw [hd.2 rfl,(hc.2 rfl).1,(hc.2 rfl).2,ht.2 rfl,he.2 rfl,hq.2 rfl]; simp [mkE,nsE]
   ·rw [ha.2 rfl,hd.2 rfl,(hc.2 rfl).1,(hc.2 rfl).2,he.2 rfl,hq.2 rfl]; simp [mkE,nsE]
   ·rw [hd.2 rfl,(hc.2 rfl).1,(hc.2 rfl).2,hq.2 rfl]; simp [mkE,nsE]
   ·rw [ha.2 rfl,he.2 rfl]; simp [mkE,nsE]
   ·rw [hd.2 rfl,(hc.2 rfl).1,(hc.2 rfl).2,ht.2 rfl,he.2 rfl,hq.2 rfl]; simp [mkE,nsE]
   ·rw [ha.2 rfl,hd.2 rfl,(hc.2 rfl).1,(hc.2 rfl).2,ht.2 rfl,he.2 rfl,hq.2 rfl]; simp [mkE,nsE]
 ·rcases E7 n hn with rfl | rfl | rfl | rfl | rfl | rfl | h
  ·exact jO ha hr
  ·exact jO hd hr
  ·exact c1
  ·exact sN ht hb
  ·exact sN he hb
  ·exact sN hq hb
  ·exact c3 n h
theorem xo {fs:List DFunc} {regs:Int} {bs:List DBlock} {b:DBlock} (h:pz fs regs bs b) (hf:fs.length<=16) (hr:regs<=256) (hb:bs.length<=64) (hp:∀ f,f ∈ fs->f.params<=8) (hw:(∀ n,n ∈ b.pad.catches->in16 n)/\∀ x,x ∈ b.ins->in16 x.k):AT b:=by
 obtain ⟨_,h2,h3,h4⟩:=h
 refine ⟨?_,fun x hx=>?_,BE h4 hf hr hb hp⟩
 ·by_cases hl:b.landing=true
  ·rw [if_pos hl]
   obtain ⟨g1,g2,_⟩:=h2.2 hl
   unfold within at g1
   exact ⟨⟨by omega,by omega⟩,hw.1,g2⟩
  ·rw [if_neg hl]
   obtain ⟨g1,g2,g3,g4⟩:=h2.1 (by simpa using hl)
   cases hbp:b.pad with
   | mk d c a cl =>
    rw [hbp] at g1 g2 g3 g4
    simp only at g1 g2 g3 g4
    rw [g1,g2,g3,g4]
 ·obtain ⟨i,hi⟩:=List.mem_iff_getElem?.1 hx
  exact B8 (h3 i (GD.1 hi).1 x hi) hf hr hp (hw.2 x hx)
theorem uM {m:DMod} (h:oV m) (hw:∀ f,f ∈ m.funcs->∀ b,b ∈ f.blocks->(∀ n,n ∈ b.pad.catches->in16 n)/\∀ x,x ∈ b.ins->in16 x.k):m.funcs≠[]/\∀ f,f ∈ m.funcs->DD f:=by
 obtain ⟨h1,⟨f0,hf0,_⟩,h3⟩:=h
 have hfn:∀ f,f ∈ m.funcs->yK m.funcs f:=fun f hf=>by
  obtain ⟨i,hi⟩:=List.mem_iff_getElem?.1 hf
  exact h3 i (GD.1 hi).1 f hi
 have hp:∀ f,f ∈ m.funcs->f.params<=8:=fun f hf=>(hfn f hf).1.2.1
 refine ⟨fun e=>(by rw [e] at hf0; cases hf0),fun f hf=>?_⟩
 obtain ⟨⟨p0,p1,p2,p3⟩,hbl,⟨b0,hb0,_⟩,hbs⟩:=hfn f hf
 refine ⟨⟨⟨p0,by omega⟩,by omega,by omega⟩,fun e=>(by rw [e] at hb0; cases hb0),fun b hb=>?_⟩
 obtain ⟨i,hi⟩:=List.mem_iff_getElem?.1 hb
 exact xo (hbs i (GD.1 hi).1 b hi) h1 p3 hbl hp (hw f hf b hb)
theorem Bi {m:DMod} (h:oV m) (hw:∀ f,f ∈ m.funcs->∀ b,b ∈ f.blocks->(∀ n,n ∈ b.pad.catches->in16 n)/\∀ x,x ∈ b.ins->in16 x.k) (hl:(jl m).length<=65536):lL (jl m)=.ok m :=
 yY (uM h hw).1 (uM h hw).2 hl
end Go.Ab.Z12
end
section
set_option maxRecDepth 20000
namespace Go.Ab
abbrev Sb (l:List UInt8):TV:=.lit (.string ⟨⟨l⟩⟩)
theorem zI (l:List UInt8):plen .str (Sb l)=some (I (l.length:Nat)):=rfl
theorem dR (a b:List UInt8):pbin .str .eql (Sb a) (Sb b)=some (B (decide (a=b))):=by
 by_cases h:a=b
 ·subst h; simp [pbin,kn]
 ·simp [pbin,kn,h]
def RS1 (e:List TV) (s:List UInt8):Prop:=e=[Sb s]
abbrev RStrs (q:Option Bool) (v:TV) (l:List (List UInt8)):Prop:=RL q 1 RS1 v l
theorem RL.snoc {α:Type} {s:Nat} {R:List TV->α->Prop} {y:TV} {l:List α} (hy:RL (some true) s R y l) {e:List TV} {a:α} (hR:R e a) (hl:l.length + 1<=4294967296):∃ y',papp s y [e]=some y'/\RL (some true) s R y' (l ++ [a]):=by
 rcases hy with ⟨rfl,rfl⟩ | ⟨o,xs,rfl,hq,h,hb⟩
 ·refine ⟨.sl true s [e],by simp [papp,ah,room,E3],.sl (by simp) (.cons hR .nil) (by simp)⟩
 ·have:o=true:=hq true rfl
  subst this
  have hxl:=h.length
  refine ⟨.sl true s (xs ++ [e]),?_,.sl (by simp) (h.append (.cons hR .nil)) (by simp; omega)⟩
  simp [papp,room]; omega
end Go.Ab
namespace Go.Ab.Z12
open Go Go.Ab Go.Proofs
end Go.Ab.Z12
end
section
set_option maxRecDepth 20000
namespace Go.Ab
open Go.Ab.Z12
def E9 (w:List UInt8):Int:=if w=[102,117,110,99] then 1 else if w=[98,108,111,99,107] then 2 else if w=[112,97,100] then 3 else if opN w≠0 then 4 else if kN w≠0 then 5 else 0
def Fa (c last:Int):Bool:=if c=1 then decide (last=0\/last=5) else if c=2\/c=3 then decide (last=1\/last=5) else if c=4\/c=5 then decide (last=2\/last=3\/last=4) else false
end Go.Ab
namespace Go.Ab.Z12
open Go Go.Ab Go.Proofs
theorem yu (s:List UInt8):aj prog 21 [Sb s] (I (opN s)):=by
 refine aj.of (f21_MR _) ?_
 unfold f21_M opN
 repeat' refine aa.tv (dR s _) (aa.ite (v:=decide _) rfl (fun h=>?_) (fun h=>?_))
 all_goals (simp only [decide_eq_true_eq,decide_eq_false_iff_not] at *; simp only [*,if_true,if_false]; exact aa.ret)
theorem oL (s:List UInt8):aj prog 27 [Sb s] (I (kN s)):=by
 refine aj.of (f27_MR _) ?_
 unfold f27_M kN
 repeat' refine aa.tv (dR s _) (aa.ite (v:=decide _) rfl (fun h=>?_) (fun h=>?_))
 all_goals (simp only [decide_eq_true_eq,decide_eq_false_iff_not] at *; simp only [*,if_true,if_false]; exact aa.ret)
theorem DS (s:List UInt8):aj prog 55 [Sb s] (I (E9 s)):=by
 refine aj.of (f55_MR _) ?_
 unfold f55_M E9
 refine aa.tv (dR s _) (aa.ite (v:=decide _) rfl (fun h=>?_) (fun h=>?_))
 ·rw [if_pos (of_decide_eq_true h)]; exact aa.ret
 rw [if_neg (of_decide_eq_false h)]
 refine aa.tv (dR s _) (aa.ite (v:=decide _) rfl (fun h=>?_) (fun h=>?_))
 ·rw [if_pos (of_decide_eq_true h)]; exact aa.ret
 rw [if_neg (of_decide_eq_false h)]
 refine aa.tv (dR s _) (aa.ite (v:=decide _) rfl (fun h=>?_) (fun h=>?_))
 ·rw [if_pos (of_decide_eq_true h)]; exact aa.ret
 rw [if_neg (of_decide_eq_false h)]
 refine aa.call (yu s) (aa.chk rfl (aa.tv rfl (aa.ite (v:=decide (opN s≠0)) ?_ (fun h=>?_) (fun h=>?_))))
 ·simp [asBool]; rfl
 ·rw [if_pos (of_decide_eq_true h)]; exact aa.ret
 rw [if_neg (of_decide_eq_false h)]
 refine aa.call (oL s) (aa.chk rfl (aa.tv rfl (aa.ite (v:=decide (kN s≠0)) ?_ (fun h=>?_) (fun h=>?_))))
 ·simp [asBool]; rfl
 ·rw [if_pos (of_decide_eq_true h)]; exact aa.ret
 rw [if_neg (of_decide_eq_false h)]
 exact aa.ret
theorem iEq (a b:Int):pbin (.int .i64) .eql (I a) (I b)=some (B (decide (a=b))):=by
 by_cases h:a=b
 ·subst h; simp [pbin,fx]
 ·simp [pbin,fx,h]
theorem rMay (c l:Int):aj prog 56 [I c,I l] (B (Fa c l)):=by
 refine aj.of (f56_MR _ _) ?_
 unfold f56_M Fa
 have h1:∀ v:Bool,(c≠1/\c≠2/\c≠3->v=decide (c=4\/c=5))->(v=true->c≠1/\c≠2/\c≠3)->c≠1/\c≠2/\c≠3->aa prog 56 (f56_1 (I l) (B v)) (B (if c=4\/c=5 then decide (l=2\/l=3\/l=4) else false)):=by
  intro v hv hv' hc
  unfold f56_1
  refine aa.ite (v:=v) rfl (fun h=>?_) (fun h=>?_)
  ·rw [if_pos (by simpa [h] using hv hc)]
   refine aa.tv (iEq _ _) (aa.ite (v:=decide (l=2)) rfl (fun h=>?_) (fun h=>?_))
   ·rw [decide_eq_true (.inl (of_decide_eq_true h))]; exact aa.ret
   refine aa.tv (iEq _ _) (aa.ite (v:=decide (l=3)) rfl (fun h'=>?_) (fun h'=>?_))
   ·rw [decide_eq_true (.inr (.inl (of_decide_eq_true h')))]; exact aa.ret
   have e:decide (l=2\/l=3\/l=4)=decide (l=4):=by
    have:=of_decide_eq_false h; have:=of_decide_eq_false h'; simp [*]
   rw [e]
   exact aa.tv (iEq _ _) aa.ret
  ·rw [if_neg (by simpa [h] using hv hc)]
   exact aa.ret
 have h0:∀ v:Bool,c≠1->v=decide (c=2\/c=3)->aa prog 56 (f56_0 (I l) (I c) (B v)) (B (if c=2\/c=3 then decide (l=1\/l=5) else if c=4\/c=5 then decide (l=2\/l=3\/l=4) else false)):=by
  intro v hc hv
  unfold f56_0
  refine aa.ite (v:=v) rfl (fun h=>?_) (fun h=>?_)
  ·rw [if_pos (by simpa [h] using hv)]
   refine aa.tv (iEq _ _) (aa.ite (v:=decide (l=1)) rfl (fun h=>?_) (fun h=>?_))
   ·rw [decide_eq_true (.inl (of_decide_eq_true h))]; exact aa.ret
   have e:decide (l=1\/l=5)=decide (l=5):=by have:=of_decide_eq_false h; simp [*]
   rw [e]
   exact aa.tv (iEq _ _) aa.ret
  ·have hn:¬ (c=2\/c=3):=by simpa [h] using hv
   rw [if_neg hn]
   have hn':c≠1/\c≠2/\c≠3:=⟨hc,fun e=>hn (.inl e),fun e=>hn (.inr e)⟩
   refine aa.tv (iEq _ _) (aa.ite (v:=decide (c=4)) rfl (fun h=>?_) (fun h=>?_))
   ·exact f56_1_J (h1 _ (fun _=>by have:=of_decide_eq_true h; simp [*]) (fun _=>hn') hn')
   ·exact aa.tv (iEq _ _) (f56_1_J (h1 _ (fun _=>by have:=of_decide_eq_false h; simp [*]) (fun _=>hn') hn'))
 refine aa.tv (iEq _ _) (aa.ite (v:=decide (c=1)) rfl (fun h=>?_) (fun h=>?_))
 ·rw [if_pos (of_decide_eq_true h)]
  refine aa.tv (iEq _ _) (aa.ite (v:=decide (l=0)) rfl (fun h=>?_) (fun h=>?_))
  ·rw [decide_eq_true (.inl (of_decide_eq_true h))]; exact aa.ret
  have e:decide (l=0\/l=5)=decide (l=5):=by have:=of_decide_eq_false h; simp [*]
  rw [e]
  exact aa.tv (iEq _ _) aa.ret
 ·have hc:=of_decide_eq_false h
  rw [if_neg hc]
  refine aa.tv (iEq _ _) (aa.ite (v:=decide (c=2)) rfl (fun h=>?_) (fun h=>?_))
  ·exact f56_0_J (h0 _ hc (by have:=of_decide_eq_true h; simp [*]))
  ·exact aa.tv (iEq _ _) (f56_0_J (h0 _ hc (by have:=of_decide_eq_false h; simp [*])))
theorem DV (c:Int):aj prog 42 [I c] (B (decide (c=5))):=by
 refine aj.of (f42_MR _) ?_
 unfold f42_M
 exact aa.tv (iEq _ _) aa.ret
end Go.Ab.Z12
end
section
namespace Go.Ab
open Go.RowKit
theorem bc {α:Type} (d:α):∀ (l:List α) (n:Nat),nth d l n=(l[n]?).getD d
 | [],n=>by simp [nth]
 | a :: l,0=>rfl
 | a :: l,n + 1=>by simp [nth,bc d l n]
theorem ai {α:Type}:∀ (l:List α) (n:Nat) (b:α),ar l n b=l.set n b
 | [],n,b=>by simp [ar]
 | a :: l,0,b=>rfl
 | a :: l,n + 1,b=>by simp [ar,ai l n b]
theorem bJ {α:Type} {d:α} {l:List α} {n:Nat} {a:α} (h:l[n]? = some a):nth d l n=a:=by rw [bc,h]; rfl
theorem aw (a b:Nat):a.beq b=true ↔ a=b:=⟨Nat.eq_of_beq_eq_true,fun h=>h ▸ Nat.beq_refl a⟩
theorem b9 (n:Nat):∀ l:List Nat,bN n l=true ↔ n ∈ l
 | []=>by simp [bN]
 | a :: l => by
  cases h:a.beq n
  ·have:a≠n:=fun e=>by simp [e] at h
   simp only [bN,h,cond_false,b9 n l,List.mem_cons]
   constructor
   ·exact .inr
   ·rintro (e | e)
    ·exact absurd e.symm this
    ·exact e
  ·simp only [bN,h,cond_true,List.mem_cons,true_iff]
   exact .inl ((aw a n).1 h).symm
theorem eR (a:Addr) (k:Nat):(a.add k).block=a.block:=by unfold Addr.add; split <;> rfl
theorem er (a:Addr) (i j:Nat):(a.add i).add j=a.add (i + j):=by
 unfold Addr.add
 by_cases hi:i=0 <;> by_cases hj:j=0 <;> simp [hi,hj,Nat.add_assoc]
theorem fV (b o k:Nat):(⟨b,o,none⟩:Addr).add k=⟨b,o + k,none⟩:=by unfold Addr.add; split <;> simp_all
def spl {α:Type} (l:List α) (o:Nat) (ys:List α):List α:=l.take o ++ ys ++ l.drop (o + ys.length)
theorem ic {α:Type} {l ys:List α} {o:Nat} (h:o + ys.length<=l.length):(spl l o ys).length=l.length:=by
 simp only [spl,List.length_append,List.length_take,List.length_drop]
 omega
theorem cF {α:Type} {l ys:List α} {o:Nat} (h:o + ys.length<=l.length) (k:Nat):(spl l o ys)[k]? = if o<=k/\k < o + ys.length then ys[k - o]? else l[k]? := by
 have e1:(l.take o).length=o:=by simp; omega
 unfold spl
 by_cases h1:k < o
 ·rw [List.append_assoc,GN (by omega),List.getElem?_take,if_pos h1,if_neg (by omega)]
 ·by_cases h2:k < o + ys.length
  ·rw [List.append_assoc,GO (by omega),e1,GN (by omega),if_pos (by omega)]
  ·rw [GO (by simp; omega),List.getElem?_drop,if_neg (by omega)]
   congr 1
   simp
   omega
theorem eS {α:Type}:∀ (ps l:List α) (off:Nat),off + ps.length<=l.length->bw l off ps=spl l off ps
 | [],l,off,h=>by simp [bw,spl]
 | p :: ps, l, off, h => by
  have hlt:off < l.length:=by simp at h; omega
  simp only [bw]
  rw [ai,eS ps (l.set off p) (off + 1) (by simp at h ⊢; omega)]
  apply List.ext_getElem?
  intro k
  rw [cF (by simp at h ⊢; omega),cF h]
  simp only [List.length_cons,List.getElem?_set]
  by_cases h1:k < off
  ·rw [if_neg (by omega),if_neg (by omega),if_neg (by omega)]
  ·by_cases h2:k=off
   ·subst h2
    rw [if_neg (by omega),if_pos (by omega)]
    simp [hlt]
   ·by_cases h3:k < off + (ps.length + 1)
    ·rw [if_pos (by omega),if_pos (by omega)]
     rw [show k - off=(k - (off + 1)) + 1 by omega,List.getElem?_cons_succ]
    ·rw [if_neg (by omega),if_neg (by omega),if_neg (by omega)]
theorem eF {α:Type}:∀ (l:List α) (o n:Nat) (r:List α),kW l o n=some r->r.length=n/\(n=0\/o + n<=l.length)/\∀ j,j < n->r[j]? = l[o + j]?
 | l,o,0,r,h=>by cases l <;> simp [kW] at h <;> subst h <;> simp
 | [],o,n + 1,r,h=>by simp [kW] at h
 | a :: l, 0, n + 1, r, h => by
  simp only [kW] at h
  cases h1:kW l 0 n with
  | none=>simp [h1] at h
  | some r' =>
   simp only [h1,GF] at h
   subst h
   obtain ⟨i1,i2,i3⟩:=eF l 0 n r' h1
   refine ⟨by simp [i1],.inr (by simp; omega),fun j hj=>?_⟩
   cases j with
   | zero=>simp
   | succ j=>simpa using i3 j (by omega)
 | a :: l,o + 1,n + 1,r,h=>by
  simp only [kW] at h
  obtain ⟨i1,i2,i3⟩:=eF l o (n + 1) r h
  refine ⟨i1,.inr (by rcases i2 with i2 | i2 <;> simp <;> omega),fun j hj=>?_⟩
  rw [i3 j hj,show o + 1 + j=(o + j) + 1 by omega,List.getElem?_cons_succ]
theorem b8 {α:Type} {s:Nat}:∀ {xs:List (List α)},(∀ x ∈ xs,x.length=s)->xs.flatten.length=xs.length * s
 | [],_=>by simp
 | x :: xs,h=>by
  simp only [List.flatten_cons,List.length_append,List.length_cons,h x GK,b8 (fun y hy=>h y (GL _ hy)),Nat.add_mul]
  omega
theorem fu {α:Type} {s:Nat}:∀ {xs:List (List α)} {i j:Nat} {x:List α} {c:α},(∀ x ∈ xs,x.length=s)->xs[i]? = some x->x[j]? = some c->xs.flatten[i * s + j]? = some c
 | x :: xs,0,j,_,c,h,hi,hj=>by
  simp at hi
  subst hi
  rw [List.flatten_cons,GN (by simp; exact (GD.1 hj).1)]
  simpa using hj
 | x :: xs,i + 1,j,y,c,h,hi,hj=>by
  simp at hi
  have hx:=h x GK
  rw [List.flatten_cons,GO (by rw [hx,Nat.add_mul]; omega),hx,show (i + 1) * s + j - s=i * s + j by rw [Nat.add_mul]; omega]
  exact fu (fun z hz=>h z (GL _ hz)) hi hj
theorem take_add {α:Type} {x l:List α} {s n:Nat} (h:x.length=s):(x ++ l).take (s + n)=x ++ l.take n:=by
 subst h
 exact List.take_length_add_append n
theorem xu {α:Type} {x l:List α} {s n:Nat} (h:x.length=s):(x ++ l).drop (s + n)=l.drop n:=by
 subst h
 exact List.drop_length_add_append n
theorem pt (n s:Nat):(n + 1) * s=s + n * s:=by rw [Nat.add_mul]; omega
theorem o7 {α:Type} {s:Nat}:∀ {xs:List (List α)} (n:Nat),(∀ x ∈ xs,x.length=s)->(xs.take n).flatten=xs.flatten.take (n * s)
 | [],n,_=>by simp
 | x :: xs,0,_=>by simp
 | x :: xs,n + 1,h=>by
  have hx:=h x GK
  rw [List.take_succ_cons,List.flatten_cons,List.flatten_cons,o7 n (fun z hz=>h z (GL _ hz)),pt,take_add hx]
theorem pn {α:Type} {s:Nat}:∀ {xs:List (List α)} (n:Nat),(∀ x ∈ xs,x.length=s)->(xs.drop n).flatten=xs.flatten.drop (n * s)
 | [],n,_=>by simp
 | x :: xs,0,_=>by simp
 | x :: xs,n + 1,h=>by
  have hx:=h x GK
  rw [List.drop_succ_cons,List.flatten_cons,pn n (fun z hz=>h z (GL _ hz)),pt,xu hx]
theorem yi {α:Type} {s:Nat}:∀ {xs:List (List α)} {i:Nat} {x y:List α},(∀ x ∈ xs,x.length=s)->xs[i]? = some x->y.length=s->(xs.set i y).flatten=spl xs.flatten (i * s) y
 | x :: xs,0,_,y,h,hi,hy=>by
  simp at hi
  subst hi
  have hx:=h x GK
  simp only [List.set_cons_zero,List.flatten_cons,Nat.zero_mul,spl,List.take_zero,List.nil_append,Nat.zero_add,hy,List.drop_append,hx,Nat.sub_self,List.drop_zero]
  rw [List.drop_of_length_le (by omega),List.nil_append]
 | x :: xs,i + 1,z,y,h,hi,hy=>by
  simp at hi
  have hx:=h x GK
  have ih:=yi (fun z hz=>h z (GL _ hz)) hi hy
  simp only [List.set_cons_succ,List.flatten_cons,ih,spl,pt,take_add hx,hy]
  rw [show s + i * s + s=s + (i * s + s) by omega,xu hx]
  simp only [List.append_assoc]
theorem Aq {α:Type} {s:Nat} {xs:List (List α)} {i:Nat} {y:List α} (h:∀ x ∈ xs,x.length=s) (hy:y.length=s):∀ x ∈ xs.set i y,x.length=s:=by
 intro x hx
 rcases List.mem_or_eq_of_mem_set hx with h' | h'
 ·exact h x h'
 ·rw [h']; exact hy
theorem yP {α:Type} {s:Nat} {xs:List (List α)} {i j:Nat} {x ys:List α} (h:∀ x ∈ xs,x.length=s) (hi:xs[i]? = some x) (hj:j + ys.length<=x.length) :
  (xs.set i (spl x j ys)).flatten=spl xs.flatten (i * s + j) ys/\i * s + j + ys.length<=xs.flatten.length:=by
 have hx:=h x (GM hi)
 have hlt:i < xs.length:=(GD.1 hi).1
 have hle:i * s + s<=xs.flatten.length:=by
  rw [b8 h]
  have:=Nat.mul_le_mul_right s (Nat.succ_le_of_lt hlt)
  rw [Nat.succ_mul] at this
  exact this
 refine ⟨?_,by omega⟩
 rw [yi h hi (by rw [ic hj,hx])]
 apply List.ext_getElem?
 intro k
 rw [cF (l:=xs.flatten) (ys:=spl x j ys) (by rw [ic hj]; omega),cF (l:=xs.flatten) (ys:=ys) (by omega),ic hj,hx]
 by_cases h1:i * s<=k/\k < i * s + s
 ·rw [if_pos h1,cF hj]
  by_cases h2:j<=k - i * s/\k - i * s < j + ys.length
  ·rw [if_pos h2,if_pos (by omega)]
   congr 1
   omega
  ·rw [if_neg h2,if_neg (by omega)]
   have hk:k - i * s < x.length:=by omega
   have:=fu h hi (GE hk)
   rw [show i * s + (k - i * s)=k by omega] at this
   rw [this,GE hk]
 ·rw [if_neg h1,if_neg (by omega)]
inductive Rep (w:World) (I:Nat->Prop):TV->Value->Prop
 | lit (v:Value):Rep w I (.lit v) v
 | hole (v:Value):Rep w I .hole v
 | buf {s:ByteArray} (e:TypeId) (h:s.size=0):Rep w I (.buf s e) ah
 | sl {size : Nat} {xs : List (List TV)} {a : Addr} {cap : Nat} (cell : Nat → Value) (hI : 0 < xs.length → I a.block) (hc : xs.length ≤ cap) (hm : cap ≤ maxLen)
   (hl:∀ x ∈ xs,x.length=size) (hcell:∀ k,k < xs.length * size->w.cell? (a.add k)=some (cell k)) (h1:∀ k,k < xs.length * size->(cell k).oneCell'=true)
   (hr:∀ (i:Nat) (x:List TV),xs[i]? = some x->∀ (j:Nat) (c:TV),x[j]? = some c->Rep w I c (cell (i * size + j))):Rep w I (.sl false size xs) (.slice (some a) xs.length cap)
 | agg {cs : List TV} {vs : Array Value} (hl : vs.size = cs.length) (h1 : ∀ j, j < vs.size → (vs.getD j undef).oneCell' = true)
   (hr:∀ (j:Nat) (c:TV),cs[j]? = some c->Rep w I c (vs.getD j undef)):Rep w I (.agg cs) (.agg vs)
 | tup {cs:List TV} {vs:Array Value} (hl:vs.size=cs.length) (hr:∀ (j:Nat) (c:TV),cs[j]? = some c->Rep w I c (vs.getD j undef)):Rep w I (.tup cs) (.tuple vs)
theorem Rep.mv {w w':World} {I I':Nat->Prop} (hh:∀ b,I b->w'.heap[b]? = w.heap[b]?) (hI:∀ b,I b->I' b) {x:TV} {v:Value} (h:Rep w I x v):Rep w' I' x v:=by
 induction h with
 | lit v=>exact .lit v
 | hole v=>exact .hole v
 | buf e h=>exact .buf e h
 | sl cell i c m l hcell h1 _ ih =>
  exact .sl cell (fun h=>hI _ (i h)) c m l (fun k hk=>by rw [<- hcell k hk]; exact World.cell?_of_block (by rw [eR]; exact hh _ (i (Nat.pos_of_ne_zero (fun e=>by simp [e] at hk))))) h1 ih
 | agg hl h1 _ ih=>exact .agg hl h1 ih
 | tup hl _ ih=>exact .tup hl ih
structure Row (w:World) (a:Addr) (n cap size:Nat) (us:List Value) (vs:Array Value) (ty:TypeId):Prop where
 heap:w.heap[a.block]? = some (.cells vs ty (0,0))
 spot:a.spot=none
 le:n<=cap
 max:cap<=maxLen
 fit:a.off + cap * size<=vs.size
 len:us.length=n * size
 cells:∀ k,k < n * size->vs[a.off + k]? = us[k]?
 one:∀ u ∈ us,u.oneCell'=true
theorem Row.cell {w:World} {a:Addr} {n cap size:Nat} {us:List Value} {vs:Array Value} {ty:TypeId} (h:Row w a n cap size us vs ty) {k:Nat} {u:Value} (hk:us[k]? = some u):w.cell? (a.add k)=some u:=by
 have hlt:k < n * size:=by rw [<- h.len]; exact (GD.1 hk).1
 have:a.add k=⟨a.block,a.off + k,none⟩:=by
  have:=h.spot
  obtain ⟨b,o,sp⟩:=a
  simp at this
  subst this
  exact fV b o k
 rw [this]
 simp only [World.cell?,h.heap]
 simp only [Option.isSome_none,Bool.false_eq_true,if_false]
 rw [h.cells k hlt,hk]
inductive al (w:World) (I:Nat->Prop):TV->Value->(Nat->Prop)->Prop
 | fr {x:TV} {v:Value} {S:Nat->Prop} (h:Rep w I x v):al w I x v S
 | sl {size : Nat} {xs : List (List TV)} {a : Addr} {cap : Nat} {S : Nat → Prop} (us : List Value) (vs : Array Value) (ty : TypeId) (F : Nat → Nat → Prop) (hS : S a.block)
   (row:Row w a xs.length cap size us vs ty) (hl:∀ x ∈ xs,x.length=size) (hr:∀ (k:Nat) (c:TV),xs.flatten[k]? = some c->al w I c (us.getD k undef) (F k))
   (hF:∀ k b,F k b->S b/\b≠a.block) (hd:∀ k k' b,F k b->F k' b->k=k'):al w I (.sl true size xs) (.slice (some a) xs.length cap) S
 | agg {cs : List TV} {vs : Array Value} {S : Nat → Prop} (F : Nat → Nat → Prop) (hl : vs.size = cs.length) (h1 : ∀ j, j < vs.size → (vs.getD j undef).oneCell' = true)
   (hr:∀ (j:Nat) (c:TV),cs[j]? = some c->al w I c (vs.getD j undef) (F j)) (hF:∀ j b,F j b->S b) (hd:∀ k k' b,F k b->F k' b->k=k'):al w I (.agg cs) (.agg vs) S
 | buf {s:ByteArray} {e:TypeId} {v:Value} {S:Nat->Prop} (h:w.ownsRowF 0 e 1 v s.size (Lib.strCells s)) (hS:∀ b,v.ownBlock=some b->S b):al w I (.buf s e) v S
 | tup {cs : List TV} {vs : Array Value} {S : Nat → Prop} (F : Nat → Nat → Prop) (hl : vs.size = cs.length)
   (hr:∀ (j:Nat) (c:TV),cs[j]? = some c->al w I c (vs.getD j undef) (F j)) (hF:∀ j b,F j b->S b) (hd:∀ k k' b,F k b->F k' b->k=k'):al w I (.tup cs) (.tuple vs) S
theorem _root_.Go.World.ownsRowF.moved {w w':World} {base:Nat} {e:TypeId} {size:Nat} {v:Value} {n:Nat} {xs:List Value} (h:w.ownsRowF base e size v n xs) (hh:∀ b,v.ownBlock=some b->w'.heap[b]? = w.heap[b]?):w'.ownsRowF base e size v n xs:=by
 refine ⟨h.1,?_⟩
 rcases h.2 with hn | ⟨g,cap,cur,fz,rfl,hb,hgg,rest⟩
 ·exact .inl hn
 ·exact .inr ⟨g,cap,cur,fz,rfl,hb,by rw [hh g rfl]; exact hgg,rest⟩
theorem al.mv {w w':World} {I I':Nat->Prop} (hI:∀ b,I b->w'.heap[b]? = w.heap[b]?) (hs:∀ b,I b->I' b) {x:TV} {v:Value} {S:Nat->Prop} (h:al w I x v S) :
  ∀ {S':Nat->Prop},(∀ b,S b->w'.heap[b]? = w.heap[b]?)->(∀ b,S b->S' b)->al w' I' x v S':=by
 induction h with
 | fr h=>intro S' _ _; exact .fr (h.mv hI hs)
 | @sl size xs a cap S us vs ty F hS row hl hr hF hd ih =>
  intro S' hh hSS
  exact .sl us vs ty F (hSS _ hS) ⟨by rw [hh _ hS]; exact row.heap,row.spot,row.le,row.max,row.fit,row.len,row.cells,row.one⟩ hl (fun k c hk=>ih k c hk (fun b hb=>hh b (hF k b hb).1) (fun b hb=>hb))
   (fun k b hb=>⟨hSS b (hF k b hb).1,(hF k b hb).2⟩) hd
 | @buf s e v S h hS =>
  intro S' hh hSS
  exact .buf (h.moved (fun b hb=>hh b (hS b hb))) (fun b hb=>hSS b (hS b hb))
 | @agg cs vs S F hl h1 hr hF hd ih =>
  intro S' hh hSS
  exact .agg F hl h1 (fun k c hk=>ih k c hk (fun b hb=>hh b (hF k b hb)) (fun b hb=>hb)) (fun k b hb=>hSS b (hF k b hb)) hd
 | @tup cs vs S F hl hr hF hd ih =>
  intro S' hh hSS
  exact .tup F hl (fun k c hk=>ih k c hk (fun b hb=>hh b (hF k b hb)) (fun b hb=>hb)) (fun k b hb=>hSS b (hF k b hb)) hd
theorem al.mono {w:World} {I:Nat->Prop} {x:TV} {v:Value} {S S':Nat->Prop} (h:al w I x v S) (hS:∀ b,S b->S' b):al w I x v S' :=
 h.mv (fun _ _=>rfl) (fun _ h=>h) (fun _ _=>rfl) hS
theorem aN {w:World} {I:Nat->Prop} {v u:Value} (h:Rep w I (.lit v) u):u=v:=by cases h; rfl
theorem bi {w:World} {I:Nat->Prop} {v u:Value} {S:Nat->Prop} (h:al w I (.lit v) u S):u=v:=by cases h with | fr h=>exact aN h
theorem DA {w:World} {I:Nat->Prop} {s:Nat} {xs:List (List TV)} {u:Value} {S:Nat->Prop} (h:al w I (.sl false s xs) u S):Rep w I (.sl false s xs) u:=by cases h with | fr h=>exact h
theorem rt {w:World} {I:Nat->Prop} {o:Bool} {s:Nat} {xs:List (List TV)} {u:Value} {S:Nat->Prop} (h:al w I (.sl o s xs) u S):∃ a cap,u=.slice (some a) xs.length cap:=by
 cases h with
 | fr h=>cases h; exact ⟨_,_,rfl⟩
 | sl=>exact ⟨_,_,rfl⟩
theorem eM {w:World} {I:Nat->Prop} {x:TV} {u:Value} {S:Nat->Prop} (h:al w I x u S) (hx:x.isSl=true):∃ a n cap,u=.slice a n cap:=by
 cases x with
 | lit v =>
  have:=bi h
  subst this
  cases u <;> simp [TV.isSl,aG] at hx ⊢
 | sl o s xs=>obtain ⟨a,cap,rfl⟩:=rt h; exact ⟨_,_,_,rfl⟩
 | _=>simp [TV.isSl] at hx
theorem rl {v:Value} (h:scV v=true):v.oneCell'=true:=by cases v <;> first | rfl | simp [scV] at h
theorem dY {w:World} {I:Nat->Prop} {x:TV} {u:Value} {S:Nat->Prop} (h:al w I x u S) (hx:x.isSc=true):x=.lit u/\scV u=true:=by
 cases x with
 | lit v =>
  have:=bi h
  subst this
  exact ⟨rfl,hx⟩
 | _=>simp [TV.isSc] at hx
theorem FE {w:World} {I:Nat->Prop} {x:TV} {u:Value} {S:Nat->Prop} (h:al w I x u S):Rep w I x.lf u:=by
 cases x with
 | lit v=>have:=bi h; subst this; exact .lit _
 | _=>exact .hole _
theorem mw:∀ l:List TV,pG l=l.map frz
 | []=>rfl
 | x :: l=>by simp [pG,mw l]
theorem gj:∀ l:List (List TV),rZ l=l.map fun x=>x.map frz
 | []=>rfl
 | x :: l=>by simp [rZ,gj l,mw]
theorem Do:∀ l:List TV,lfL l=l.map TV.lf
 | []=>rfl
 | x :: l=>by simp [lfL,Do l]
theorem Ap:∀ l:List (List TV),lg l=l.map fun x=>x.map TV.lf
 | []=>rfl
 | x :: l=>by simp [lg,Ap l,Do]
theorem Rep.frz {w:World} {I:Nat->Prop} {x:TV} {v:Value} (h:Rep w I x v):Rep w I (frz x) v:=by
 induction h with
 | lit v=>exact .lit v
 | hole v=>exact .hole v
 | buf e h=>exact .hole _
 | @sl size xs a cap cell hI hc hm hl hcell h1 _ ih =>
  simp only [Ab.frz,gj]
  have hlen:(xs.map fun x=>x.map Ab.frz).length=xs.length:=by simp
  have key:Rep w I (.sl false size (xs.map fun x=>x.map Ab.frz)) (.slice (some a) (xs.map fun x=>x.map Ab.frz).length cap):=by
   refine .sl cell (by rw [hlen]; exact hI) (by rw [hlen]; exact hc) hm (fun x hx=>?_) (by rw [hlen]; exact hcell) (by rw [hlen]; exact h1) (fun i y hy j c hj=>?_)
   ·obtain ⟨y,hy,rfl⟩:=List.mem_map.1 hx
    simpa using hl y hy
   ·rw [GJ] at hy
    cases hxi:xs[i]? with
    | none=>simp [hxi] at hy
    | some x =>
     simp only [hxi,GQ,GF] at hy
     subst hy
     rw [GJ] at hj
     cases hxj:x[j]? with
     | none=>simp [hxj] at hj
     | some c' =>
      simp only [hxj,GQ,GF] at hj
      subst hj
      exact ih i x hxi j c' hxj
  rwa [hlen] at key
 | @agg cs vs hl h1 _ ih =>
  simp only [Ab.frz,mw]
  refine .agg (by simpa using hl) h1 (fun j c hj=>?_)
  rw [GJ] at hj
  cases hxj:cs[j]? with
  | none=>simp [hxj] at hj
  | some c'=>simp only [hxj,GQ,GF] at hj; subst hj; exact ih j c' hxj
 | @tup cs vs hl _ ih =>
  simp only [Ab.frz,mw]
  refine .tup (by simpa using hl) (fun j c hj=>?_)
  rw [GJ] at hj
  cases hxj:cs[j]? with
  | none=>simp [hxj] at hj
  | some c'=>simp only [hxj,GQ,GF] at hj; subst hj; exact ih j c' hxj
theorem al.frz {w:World} {I I':Nat->Prop} (hI:∀ b,I b->I' b) {x:TV} {v:Value} {S:Nat->Prop} (h:al w I x v S):(∀ b,S b->I' b)->Rep w I' (frz x) v:=by
 induction h with
 | fr h=>intro _; exact (h.mv (fun _ _=>rfl) hI).frz
 | buf _ _=>intro _; exact .hole _
 | @sl size xs a cap S us vs ty F hS row hl hr hF hd ih =>
  intro hSI
  simp only [Ab.frz,gj]
  have hlen:(xs.map fun x=>x.map Ab.frz).length=xs.length:=by simp
  have key:Rep w I' (.sl false size (xs.map fun x=>x.map Ab.frz)) (.slice (some a) (xs.map fun x=>x.map Ab.frz).length cap):=by
   refine .sl (fun k=>us.getD k undef) (fun _=>hSI _ hS) (by rw [hlen]; exact row.le) row.max (fun x hx=>?_) (fun k hk=>?_) (fun k hk=>?_) (fun i y hy j c hj=>?_)
   ·obtain ⟨y,hy,rfl⟩:=List.mem_map.1 hx
    simpa using hl y hy
   ·rw [hlen] at hk
    have:k < us.length:=by rw [row.len]; exact hk
    exact row.cell (by simp [GE this])
   ·rw [hlen] at hk
    have:k < us.length:=by rw [row.len]; exact hk
    simp only [GR,GE this,Option.getD_some]
    exact row.one _ (List.getElem_mem this)
   ·rw [GJ] at hy
    cases hxi:xs[i]? with
    | none=>simp [hxi] at hy
    | some x =>
     simp only [hxi,GQ,GF] at hy
     subst hy
     rw [GJ] at hj
     cases hxj:x[j]? with
     | none=>simp [hxj] at hj
     | some c' =>
      simp only [hxj,GQ,GF] at hj
      subst hj
      exact ih _ c' (fu hl hxi hxj) (fun b hb=>hSI b (hF _ b hb).1)
  rwa [hlen] at key
 | @agg cs vs S F hl h1 hr hF hd ih =>
  intro hSI
  simp only [Ab.frz,mw]
  refine .agg (by simpa using hl) h1 (fun j c hj=>?_)
  rw [GJ] at hj
  cases hxj:cs[j]? with
  | none=>simp [hxj] at hj
  | some c'=>simp only [hxj,GQ,GF] at hj; subst hj; exact ih j c' hxj (fun b hb=>hSI b (hF j b hb))
 | @tup cs vs S F hl hr hF hd ih =>
  intro hSI
  simp only [Ab.frz,mw]
  refine .tup (by simpa using hl) (fun j c hj=>?_)
  rw [GJ] at hj
  cases hxj:cs[j]? with
  | none=>simp [hxj] at hj
  | some c'=>simp only [hxj,GQ,GF] at hj; subst hj; exact ih j c' hxj (fun b hb=>hSI b (hF j b hb))
theorem fJ:∀ {l:List TV},ct l=true->∀ x ∈ l,aI x=true
 | [],_,x,hx=>by simp at hx
 | y :: l,h,x,hx=>by
  simp only [ct,GG] at h
  rcases List.mem_cons.1 hx with rfl | hx
  ·exact h.1
  ·exact fJ h.2 x hx
theorem qv:∀ {l:List (List TV)},l7 l=true->∀ x ∈ l,ct x=true
 | [],_,x,hx=>by simp at hx
 | y :: l,h,x,hx=>by
  simp only [l7,GG] at h
  rcases List.mem_cons.1 hx with rfl | hx
  ·exact h.1
  ·exact qv h.2 x hx
theorem Rep.own {w:World} {I I':Nat->Prop} {x:TV} {v:Value} (h:Rep w I x v):aI x=true->Rep w I' x v:=by
 induction h with
 | lit v=>intro _; exact .lit v
 | hole v=>intro _; exact .hole v
 | buf e h=>intro _; exact .buf e h
 | sl=>intro h; simp [aI] at h
 | @agg cs vs hl h1 _ ih=>intro h; simp only [aI] at h; exact .agg hl h1 (fun j c hj=>ih j c hj (fJ h c (GM hj)))
 | @tup cs vs hl _ ih=>intro h; simp only [aI] at h; exact .tup hl (fun j c hj=>ih j c hj (fJ h c (GM hj)))
theorem al.own {w:World} {I I':Nat->Prop} {x:TV} {v:Value} {S:Nat->Prop} (h:al w I x v S):aI x=true->al w I' x v S:=by
 induction h with
 | fr h=>intro ho; exact .fr (h.own ho)
 | buf h hS=>intro _; exact .buf h hS
 | @sl size xs a cap S us vs ty F hS row hl hr hF hd ih =>
  intro ho
  simp only [aI,Bool.true_and] at ho
  refine .sl us vs ty F hS row hl (fun k c hk=>ih k c hk ?_) hF hd
  obtain ⟨x,hx,hc⟩:=List.mem_flatten.1 (GM hk)
  exact fJ (qv ho x hx) c hc
 | @agg cs vs S F hl h1 hr hF hd ih=>intro ho; simp only [aI] at ho; exact .agg F hl h1 (fun j c hj=>ih j c hj (fJ ho c (GM hj))) hF hd
 | @tup cs vs S F hl hr hF hd ih=>intro ho; simp only [aI] at ho; exact .tup F hl (fun j c hj=>ih j c hj (fJ ho c (GM hj))) hF hd
end Go.Ab
end

import Derived.Test.YtaokcbfenabbgaaGreatDoorJZ14F23
import Derived.Test.YtaokcbfenabbgaaGreatDoorJZ14Xa
import Derived.OpenShut
set_option linter.all false
section
set_option maxRecDepth 20000
namespace Go.Ab
theorem kX {α:Type} {p:α->Bool}:∀ {r s:List α},(∀ a,a ∈ r->p a=false)->(s=[]\/∃ a l,s=a :: l/\p a=true)->(r ++ s).takeWhile (fun a=>!p a)=r/\(r ++ s).dropWhile (fun a=>!p a)=s
 | [],s,_,h=>by
  rcases h with rfl | ⟨a,l,rfl,ha⟩
  ·simp
  ·simp [ha]
 | a :: r,s,hr,h=>by
  have ha:p a=false:=hr a (by simp)
  obtain ⟨h1,h2⟩:=kX (p:=p) (r:=r) (s:=s) (fun b hb=>hr b (by simp [hb])) h
  simp [ha,h1,h2]
theorem vB {α:Type} {p:α->Bool} {r s r' s':List α} (hr:∀ a,a ∈ r->p a=false) (hs:s=[]\/∃ a l,s=a :: l/\p a=true) (hr':∀ a,a ∈ r'->p a=false) (hs':s'=[]\/∃ a l,s'=a :: l/\p a=true) (h:r ++ s=r' ++ s'):r=r'/\s=s':=by
 obtain ⟨h1,h2⟩:=kX hr hs
 obtain ⟨h3,h4⟩:=kX hr' hs'
 rw [h] at h1 h2
 exact ⟨h1.symm.trans h3,h2.symm.trans h4⟩
def Marked {α β:Type} (p:α->Bool) (g:β->List α) (x:β):Prop:=∃ s r,g x=s :: r/\p s=true/\∀ a,a ∈ r->p a=false
theorem gp {α β:Type} {p:α->Bool} {g:β->List α}:∀ {xs:List β},(∀ x,x ∈ xs->Marked p g x)->xs.flatMap g=[]\/∃ a l,xs.flatMap g=a :: l/\p a=true
 | [],_=>.inl rfl
 | x :: xs,h=>by
  obtain ⟨s,r,hg,hp,_⟩:=h x (by simp)
  exact .inr ⟨s,r ++ xs.flatMap g,by rw [List.flatMap_cons,hg]; rfl,hp⟩
theorem ub {α β γ:Type} {p:α->Bool} {g:β->List α} {g':γ->List α}:∀ {xs:List β} {ys:List γ},(∀ x,x ∈ xs->Marked p g x)->(∀ y,y ∈ ys->Marked p g' y)->xs.flatMap g=ys.flatMap g'->xs.map g=ys.map g'
 | [],[],_,_,_=>rfl
 | [],y :: ys,_,hy,h=>by
  obtain ⟨s,r,hg,_⟩:=hy y (by simp)
  rw [List.flatMap_cons,hg] at h
  cases h
 | x :: xs,[],hx,_,h=>by
  obtain ⟨s,r,hg,_⟩:=hx x (by simp)
  rw [List.flatMap_cons,hg] at h
  cases h
 | x :: xs,y :: ys,hx,hy,h=>by
  have hx2:∀ z,z ∈ xs->Marked p g z:=fun z hz=>hx z (by simp [hz])
  have hy2:∀ z,z ∈ ys->Marked p g' z:=fun z hz=>hy z (by simp [hz])
  obtain ⟨s,r,hg,hs,hr⟩:=hx x (by simp)
  obtain ⟨s',r',hg',hs',hr'⟩:=hy y (by simp)
  rw [List.flatMap_cons,List.flatMap_cons,hg,hg',List.cons_append,List.cons_append] at h
  injection h with h1 h2
  obtain ⟨h3,h4⟩:=vB hr (gp hx2) hr' (gp hy2) h2
  rw [List.map_cons,List.map_cons,hg,hg',h1,h3,ub hx2 hy2 h4]
def dV (w:List UInt8) (ts:List (List UInt8)):List UInt8:=w ++ ts.flatMap fun t=>32 :: t
def plain (w:List UInt8):Prop:=∀ c,c ∈ w->(c == 32)=false
theorem tok_eq {w w':List UInt8} {ts ts':List (List UInt8)} (hw:plain w) (hw':plain w') (ht:∀ t,t ∈ ts->plain t) (ht':∀ t,t ∈ ts'->plain t) (h:dV w ts=dV w' ts'):w=w'/\ts=ts':=by
 have mk:∀ {l:List UInt8},plain l->Marked (fun c=>c == 32) (fun l:List UInt8=>32 :: l) l:=fun {l} h=>⟨32,l,rfl,by simp,h⟩
 obtain ⟨h1,h2⟩:=vB (p:=fun c=>c == 32) hw (gp fun t h=>mk (ht t h)) hw' (gp fun t h=>mk (ht' t h)) h
 refine ⟨h1,?_⟩
 have h3:=ub (fun l h=>mk (ht l h)) (fun l h=>mk (ht' l h)) h2
 have inj:∀ {ls ms:List (List UInt8)},ls.map (fun l=>32 :: l)=ms.map (fun l=>32 :: l)->ls=ms:=by
  intro ls
  induction ls with
  | nil=>intro ms h; cases ms with | nil=>rfl | cons m ms=>simp at h
  | cons l ls ih =>
   intro ms h
   cases ms with
   | nil=>simp at h
   | cons m ms =>
    simp only [List.map_cons,List.cons.injEq,true_and] at h
    rw [h.1,ih h.2]
 exact inj h3
theorem lO (n:Int):plain (Lib.itoa n):=fun c hc=>by
 have:=Af n c hc
 simp only [beq_eq_false_iff_ne]
 rintro rfl
 simp at this
theorem te (w:List UInt8) (ns:List Int):bZ w ns=dV w (ns.map Lib.itoa):=by
 unfold bZ dV
 congr 1
 induction ns with
 | nil=>rfl
 | cons n l ih=>rw [List.flatMap_cons,List.map_cons,List.flatMap_cons,ih]; rfl
def d6 (l:List UInt8):Nat:=l.foldl (fun n c=>10 * n + (c.toNat - 48)) 0
theorem wg:∀ u:Nat,d6 (Lib.decDigits u)=u:=by
 intro u
 induction u using Nat.strongRecOn with
 | _ u ih =>
  by_cases h:u < 10
  ·rw [Lib.decDigits_one h]
   simp [d6,UInt8.toNat_ofNat']
   omega
  ·rw [Lib.decDigits,dif_neg h,d6,List.foldl_append]
   have:=ih (u / 10) (by omega)
   unfold d6 at this
   rw [this]
   simp [UInt8.toNat_ofNat']
   omega
end Go.Ab
end
section
set_option maxRecDepth 20000
namespace Go.Ab
def wOf (op:Int):List UInt8 :=
 if op=1 then [99,111,110,115,116] else if op=2 then [99,111,112,121] else if op=3 then [97,100,100] else if op=4 then [115,117,98] else if op=5 then [109,117,108] else if op=6 then [100,105,118] else if op=7 then [101,113] else if op=8 then [108,116] else if op=9 then [108,111,97,100] else if op=10 then [115,116,111,114,101] else if op=11 then [99,97,108,108] else if op=12 then [111,117,116] else if op=13 then [105,110] else []
def opN (w:List UInt8):Int :=
 if w=[99,111,110,115,116] then 1 else if w=[99,111,112,121] then 2 else if w=[97,100,100] then 3 else if w=[115,117,98] then 4 else if w=[109,117,108] then 5 else if w=[100,105,118] then 6 else if w=[101,113] then 7 else if w=[108,116] then 8 else if w=[108,111,97,100] then 9 else if w=[115,116,111,114,101] then 10 else if w=[99,97,108,108] then 11 else if w=[111,117,116] then 12 else if w=[105,110] then 13 else 0
def kOf (op:Int):List UInt8 :=
 if op=1 then [114,101,116] else if op=2 then [106,117,109,112] else if op=3 then [98,114,97,110,99,104] else if op=4 then [105,110,118,111,107,101] else if op=5 then [116,104,114,111,119] else if op=6 then [114,101,115,117,109,101] else []
def kN (w:List UInt8):Int :=
 if w=[114,101,116] then 1 else if w=[106,117,109,112] then 2 else if w=[98,114,97,110,99,104] then 3 else if w=[105,110,118,111,107,101] then 4 else if w=[116,104,114,111,119] then 5 else if w=[114,101,115,117,109,101] then 6 else 0
def nsI (x:DIns):List Int :=
 if x.op=1 then [x.dst,x.k] else if x.op=2 then [x.dst,x.a] else if x.op=3 then [x.dst,x.a,x.b] else if x.op=4 then [x.dst,x.a,x.b] else if x.op=5 then [x.dst,x.a,x.b] else if x.op=6 then [x.dst,x.a,x.b] else if x.op=7 then [x.dst,x.a,x.b] else if x.op=8 then [x.dst,x.a,x.b] else if x.op=9 then [x.dst,x.a] else if x.op=10 then [x.a,x.b] else if x.op=11 then [x.dst,x.f] ++ x.args else if x.op=12 then [x.a] else if x.op=13 then [x.dst] else []
def nsE (x:DEnd):List Int :=
 if x.kind=1 then [x.a] else if x.kind=2 then [x.to] else if x.kind=3 then [x.a,x.to,x.els] else if x.kind=4 then [x.dst,x.f,x.to,x.pad] ++ x.args else if x.kind=5 then [x.a] else if x.kind=6 then [] else []
end Go.Ab
namespace Go.Ab.Z14
open Go Go.Ab Go.Proofs
def xK (p:DPad):List (List UInt8):=Lib.itoa p.dst :: ((if 0 < p.catches.length then [99,97,116,99,104] :: p.catches.map Lib.itoa else []) ++ ((bif p.all then [[97,108,108]] else []) ++ (bif p.cleanup then [[99,108,101,97,110,117,112]] else [])))
theorem uv (p:DPad):uM p=dV [112,97,100] (xK p):=by
 have h1:∀ l:List Int,(l.map Lib.itoa).flatMap (fun t=>32 :: t)=l.flatMap nX:=fun l=>by
  induction l with
  | nil=>rfl
  | cons n l ih=>rw [List.flatMap_cons,List.map_cons,List.flatMap_cons,ih]; rfl
 unfold uM dV xK bZ
 by_cases h:0 < p.catches.length
 ·simp only [if_pos h]
  cases p.all <;> cases p.cleanup <;> simp [h1,nX]
 ·simp only [if_neg h]
  cases p.all <;> cases p.cleanup <;> simp [nX]
theorem qd (p:DPad):∀ t,t ∈ xK p->plain t:=by
 intro t ht
 unfold xK at ht
 have w1:plain [99,97,116,99,104]:=by unfold plain; decide
 have w2:plain [97,108,108]:=by unfold plain; decide
 have w3:plain [99,108,101,97,110,117,112]:=by unfold plain; decide
 rcases List.mem_cons.1 ht with rfl | ht
 ·exact lO _
 rcases List.mem_append.1 ht with ht | ht
 ·split at ht
  ·rcases List.mem_cons.1 ht with rfl | ht
   ·exact w1
   ·obtain ⟨n,_,rfl⟩:=List.mem_map.1 ht
    exact lO n
  ·cases ht
 rcases List.mem_append.1 ht with ht | ht
 ·cases hp:p.all <;> simp [hp] at ht
  rw [ht]; exact w2
 ·cases hp:p.cleanup <;> simp [hp] at ht
  rw [ht]; exact w3
end Go.Ab.Z14
end
section
set_option maxRecDepth 20000
namespace Go.Ab
def aC:List UInt8->List UInt8 × List (List UInt8)
 | []=>([],[])
 | c :: l=>if (c == 32)=true then ([],(aC l).1 :: (aC l).2) else (c :: (aC l).1,(aC l).2)
theorem iE:∀ l,dV (aC l).1 (aC l).2=l/\plain (aC l).1/\∀ t,t ∈ (aC l).2->plain t
 | []=>⟨rfl,fun _ h=>(nomatch h),fun _ h=>(nomatch h)⟩
 | c :: l => by
  obtain ⟨h1,h2,h3⟩:=iE l
  unfold aC
  by_cases hc:(c == 32)=true
  ·rw [if_pos hc]
   refine ⟨?_,fun _ h=>(nomatch h),fun t ht=>?_⟩
   ·have:c=32:=by simpa using hc
    subst this
    show [] ++ List.flatMap (fun t=>32 :: t) ((aC l).1 :: (aC l).2)=32 :: l
    rw [List.flatMap_cons,List.nil_append,List.cons_append]
    exact congrArg _ h1
   ·rcases List.mem_cons.1 ht with rfl | ht
    ·exact h2
    ·exact h3 t ht
  ·rw [if_neg hc]
   refine ⟨?_,fun a ha=>?_,h3⟩
   ·show (c :: (aC l).1) ++ _=_
    rw [List.cons_append]
    exact congrArg _ h1
   ·rcases List.mem_cons.1 ha with rfl | ha
    ·simpa using hc
    ·exact h2 a ha
theorem lU {w:List UInt8} {ts:List (List UInt8)} (hw:plain w) (ht:∀ t,t ∈ ts->plain t):aC (dV w ts)=(w,ts):=by
 obtain ⟨h1,h2,h3⟩:=iE (dV w ts)
 obtain ⟨h4,h5⟩:=tok_eq h2 hw h3 ht h1
 exact Prod.ext h4 h5
def fO (c:UInt8):Bool:=decide (48<=c.toNat/\c.toNat<=57)
theorem oB (r:List UInt8) (c:UInt8):d6 (r ++ [c])=10 * d6 r + (c.toNat - 48):=by
 unfold d6
 rw [List.foldl_append]
 rfl
theorem mg {u:Nat} (h:10<=u):Lib.decDigits u=Lib.decDigits (u / 10) ++ [UInt8.ofNat (48 + u % 10)]:=by
 rw [Lib.decDigits,dif_neg (by omega)]
theorem xc (u:Nat):Lib.decDigits u≠[]:=by
 by_cases h:u < 10
 ·rw [Lib.decDigits_one h]; simp
 ·rw [mg (by omega)]; simp
theorem wA {α:Type} {a b:List α} (h:a≠[]):(a ++ b).head? = a.head? := by
 cases a with
 | nil=>exact absurd rfl h
 | cons x r=>rfl
theorem A0:∀ {u:Nat},0 < u->(Lib.decDigits u).head? ≠ some 48:=by
 intro u
 induction u using Nat.strongRecOn with
 | _ u ih =>
  intro hu
  by_cases h:u < 10
  ·rw [Lib.decDigits_one h]
   intro e
   have e:=Option.some.inj e
   have:=congrArg UInt8.toNat e
   simp [UInt8.toNat_ofNat'] at this
   omega
  ·rw [mg (by omega),wA (xc _)]
   exact ih (u / 10) (by omega) (by omega)
theorem xX:∀ (k:Nat) {u:Nat},u < 10 ^ (k + 1)->(Lib.decDigits u).length<=k + 1
 | 0,u,h=>by rw [Lib.decDigits_one (by omega)]; simp
 | k + 1, u, h => by
  by_cases h1:u < 10
  ·rw [Lib.decDigits_one h1]; simp
  ·rw [mg (by omega),List.length_append]
   have:=xX k (u:=u / 10) (by rw [Nat.pow_succ] at h; omega)
   simp
   omega
theorem C0:∀ (n:Nat) (s:List UInt8),s.length=n + 1->s.all fO=true->(s.head? ≠ some 48\/n=0)->s=Lib.decDigits (d6 s):=by
 intro n
 induction n with
 | zero =>
  intro s hl ha _
  obtain ⟨c,rfl⟩:=List.length_eq_one_iff.1 hl
  have hc:48<=c.toNat/\c.toNat<=57:=by simpa [fO] using ha
  have hv:d6 [c]=c.toNat - 48:=by simp [d6]
  rw [hv,Lib.decDigits_one (by omega),show 48 + (c.toNat - 48)=c.toNat by omega,UInt8.ofNat_toNat]
 | succ n ih =>
  intro s hl ha hh
  have hh:s.head? ≠ some 48:=hh.resolve_right (by omega)
  rcases List.eq_nil_or_concat s with rfl | ⟨r,c,rfl⟩
  ·simp at hl
  simp only [List.concat_eq_append] at *
  have hr:r.length=n + 1:=by simpa using hl
  have hne:r≠[]:=by intro e; subst e; simp at hr
  have h1:r.all fO=true/\(48<=c.toNat/\c.toNat<=57):=by simpa [fO] using ha
  rw [wA hne] at hh
  have he:=ih r hr h1.1 (.inl hh)
  have hpos:0 < d6 r:=by
   rcases Nat.eq_zero_or_pos (d6 r) with e | e
   ·rw [e,Lib.decDigits_one (by omega)] at he
    rw [he] at hh
    exact absurd rfl hh
   ·exact e
  rw [oB,mg (by omega),show (10 * d6 r + (c.toNat - 48)) / 10=d6 r by omega,show 48 + (10 * d6 r + (c.toNat - 48)) % 10=c.toNat by omega,UInt8.ofNat_toNat,<- he]
def aA (s:List UInt8):Int:=if s.length=0\/5 < s.length\/(s.head? = some 48/\1 < s.length)\/s.all fO=false\/65535 < d6 s then -1 else (d6 s:Nat)
theorem rn {n:Int} (h:0<=n):Lib.itoa n=Lib.decDigits n.toNat:=by unfold Lib.itoa; rw [if_neg (by omega)]
theorem kR {n:Int} (h0:0<=n) (h:n<=65535):aA (Lib.itoa n)=n:=by
 have hd:(Lib.decDigits n.toNat).all fO=true:=by
  rw [List.all_eq_true]
  intro c hc
  have:=lR n.toNat c hc
  simp [fO]
  omega
 have hl:=xX 4 (u:=n.toNat) (by omega)
 have hne:=List.length_pos_iff.2 (xc n.toNat)
 rw [rn h0]
 unfold aA
 rw [wg,if_neg]
 ·omega
 ·rintro (h | h | ⟨h,h1⟩ | h | h)
  ·omega
  ·omega
  ·rcases Nat.eq_zero_or_pos n.toNat with e | e
   ·rw [e,Lib.decDigits_one (by omega)] at h1
    simp at h1
   ·exact A0 e h
  ·rw [hd] at h; cases h
  ·omega
theorem gG {s:List UInt8} (h:0<=aA s):s=Lib.itoa (aA s)/\aA s<=65535:=by
 unfold aA at *
 split at h
 ·omega
 ·rename_i hn
  rw [if_neg hn]
  simp only [not_or,not_and] at hn
  obtain ⟨h1,h2,h3,h4,h5⟩:=hn
  refine ⟨?_,by omega⟩
  rw [rn (by omega),Int.toNat_natCast]
  refine C0 (s.length - 1) s (by omega) (by simpa using h4) ?_
  by_cases e:s.head? = some 48
  ·exact .inr (by have:=h3 e; omega)
  ·exact .inl e
theorem i5 {ts:List (List UInt8)} (h:∀ n,n ∈ ts.map aA->0<=n):ts=(ts.map aA).map Lib.itoa/\∀ n,n ∈ ts.map aA->0<=n/\n<=65535:=by
 constructor
 ·rw [List.map_map]
  conv=>lhs; rw [<- List.map_id ts]
  exact List.map_congr_left fun t ht=>(gG (h _ (List.mem_map.2 ⟨t,ht,rfl⟩))).1
 ·intro n hn
  obtain ⟨t,ht,rfl⟩:=List.mem_map.1 hn
  exact ⟨h _ hn,(gG (h _ hn)).2⟩
theorem iS {l:List Int} (h:∀ n,n ∈ l->0<=n/\n<=65535):(l.map Lib.itoa).map aA=l:=by
 rw [List.map_map]
 conv=>rhs; rw [<- List.map_id l]
 exact List.map_congr_left fun n hn=>kR (h n hn).1 (h n hn).2
theorem ie (l:List Int):∀ t,t ∈ l.map Lib.itoa->plain t:=fun t ht=>by
 obtain ⟨n,_,rfl⟩:=List.mem_map.1 ht
 exact lO n
def mkI (k:Int) (l:List Int):DIns :=
 if k=1 then ⟨1,l.getD 0 0,0,0,l.getD 1 0,0,[]⟩ else if k=2 then ⟨2,l.getD 0 0,l.getD 1 0,0,0,0,[]⟩
 else if 3<=k/\k<=8 then ⟨k,l.getD 0 0,l.getD 1 0,l.getD 2 0,0,0,[]⟩ else if k=9 then ⟨9,l.getD 0 0,l.getD 1 0,0,0,0,[]⟩
 else if k=10 then ⟨10,0,l.getD 0 0,l.getD 1 0,0,0,[]⟩ else if k=11 then ⟨11,l.getD 0 0,0,0,0,l.getD 1 0,l.drop 2⟩
 else if k=12 then ⟨12,0,l.getD 0 0,0,0,0,[]⟩ else if k=13 then ⟨13,l.getD 0 0,0,0,0,0,[]⟩ else ⟨k,0,0,0,0,0,[]⟩
def gN (k:Int) (n:Nat):Prop:=if k=11 then 2<=n/\n<=10 else n=(if k=12\/k=13 then 1 else if 3<=k/\k<=8 then 3 else 2)
theorem qH {k:Int} (h:1<=k/\k<=13):k=1\/k=2\/k=3\/k=4\/k=5\/k=6\/k=7\/k=8\/k=9\/k=10\/k=11\/k=12\/k=13:=by omega
theorem l8 (k:Int) (l:List Int):(mkI k l).op=k:=by
 unfold mkI
 split
 ·simp_all
 split
 ·simp_all
 split
 ·rfl
 split
 ·simp_all
 split
 ·simp_all
 split
 ·simp_all
 split
 ·simp_all
 split
 ·simp_all
 rfl
theorem u5 (w:List UInt8):opN w=0\/(1<=opN w/\opN w<=13)/\w=wOf (opN w):=by
 by_cases h1:w=[99,111,110,115,116]
 ·subst h1; exact .inr ⟨by decide,by decide⟩
 by_cases h2:w=[99,111,112,121]
 ·subst h2; exact .inr ⟨by decide,by decide⟩
 by_cases h3:w=[97,100,100]
 ·subst h3; exact .inr ⟨by decide,by decide⟩
 by_cases h4:w=[115,117,98]
 ·subst h4; exact .inr ⟨by decide,by decide⟩
 by_cases h5:w=[109,117,108]
 ·subst h5; exact .inr ⟨by decide,by decide⟩
 by_cases h6:w=[100,105,118]
 ·subst h6; exact .inr ⟨by decide,by decide⟩
 by_cases h7:w=[101,113]
 ·subst h7; exact .inr ⟨by decide,by decide⟩
 by_cases h8:w=[108,116]
 ·subst h8; exact .inr ⟨by decide,by decide⟩
 by_cases h9:w=[108,111,97,100]
 ·subst h9; exact .inr ⟨by decide,by decide⟩
 by_cases h10:w=[115,116,111,114,101]
 ·subst h10; exact .inr ⟨by decide,by decide⟩
 by_cases h11:w=[99,97,108,108]
 ·subst h11; exact .inr ⟨by decide,by decide⟩
 by_cases h12:w=[111,117,116]
 ·subst h12; exact .inr ⟨by decide,by decide⟩
 by_cases h13:w=[105,110]
 ·subst h13; exact .inr ⟨by decide,by decide⟩
 exact .inl (by simp [opN,h1,h2,h3,h4,h5,h6,h7,h8,h9,h10,h11,h12,h13])
theorem wF {k:Int} (h:1<=k/\k<=13):plain (wOf k)/\opN (wOf k)=k:=by
 rcases qH h with rfl | rfl | rfl | rfl | rfl | rfl | rfl | rfl | rfl | rfl | rfl | rfl | rfl <;> exact ⟨by unfold plain; decide,by decide⟩
theorem uR {x:DIns} (h:1<=x.op/\x.op<=13):uO x=dV (wOf x.op) ((nsI x).map Lib.itoa):=by
 rw [<- te]
 rcases qH h with h | h | h | h | h | h | h | h | h | h | h | h | h <;> simp [uO,wOf,nsI,h]
def Bl (x:DIns):Prop:=(1<=x.op/\x.op<=13)/\x=mkI x.op (nsI x)/\(∀ n,n ∈ nsI x->0<=n/\n<=65535)/\x.args.length<=8
theorem Bl.cnt {x:DIns} (h:Bl x):gN x.op (nsI x).length/\(nsI x).length<=10:=by
 obtain ⟨h1,_,_,h4⟩:=h
 rcases qH h1 with e | e | e | e | e | e | e | e | e | e | e | e | e <;> simp [gN,nsI,e]
 omega
theorem ix {α:Type} {l:List α} (h:l.length=1):∃ a,l=[a]:=List.length_eq_one_iff.1 h
theorem len2 {α:Type} {l:List α} (h:l.length=2):∃ a b,l=[a,b]:=by
 match l,h with
 | [a,b],_=>exact ⟨a,b,rfl⟩
theorem len3 {α:Type} {l:List α} (h:l.length=3):∃ a b c,l=[a,b,c]:=by
 match l,h with
 | [a,b,c],_=>exact ⟨a,b,c,rfl⟩
theorem len2m {α:Type} {l:List α} (h:2<=l.length):∃ a b r,l=a :: b :: r:=by
 match l,h with
 | a :: b :: r,_=>exact ⟨a,b,r,rfl⟩
theorem mkI_ns {k:Int} (h:1<=k/\k<=13) {l:List Int} (hc:gN k l.length):nsI (mkI k l)=l/\(mkI k l).args.length<=8:=by
 unfold gN at hc
 rcases qH h with rfl | rfl | rfl | rfl | rfl | rfl | rfl | rfl | rfl | rfl | rfl | rfl | rfl
 ·obtain ⟨a,b,rfl⟩:=len2 (l:=l) (by simpa using hc)
  exact ⟨by simp [mkI,nsI],by simp [mkI]⟩
 ·obtain ⟨a,b,rfl⟩:=len2 (l:=l) (by simpa using hc)
  exact ⟨by simp [mkI,nsI],by simp [mkI]⟩
 ·obtain ⟨a,b,c,rfl⟩:=len3 (l:=l) (by simpa using hc)
  exact ⟨by simp [mkI,nsI],by simp [mkI]⟩
 ·obtain ⟨a,b,c,rfl⟩:=len3 (l:=l) (by simpa using hc)
  exact ⟨by simp [mkI,nsI],by simp [mkI]⟩
 ·obtain ⟨a,b,c,rfl⟩:=len3 (l:=l) (by simpa using hc)
  exact ⟨by simp [mkI,nsI],by simp [mkI]⟩
 ·obtain ⟨a,b,c,rfl⟩:=len3 (l:=l) (by simpa using hc)
  exact ⟨by simp [mkI,nsI],by simp [mkI]⟩
 ·obtain ⟨a,b,c,rfl⟩:=len3 (l:=l) (by simpa using hc)
  exact ⟨by simp [mkI,nsI],by simp [mkI]⟩
 ·obtain ⟨a,b,c,rfl⟩:=len3 (l:=l) (by simpa using hc)
  exact ⟨by simp [mkI,nsI],by simp [mkI]⟩
 ·obtain ⟨a,b,rfl⟩:=len2 (l:=l) (by simpa using hc)
  exact ⟨by simp [mkI,nsI],by simp [mkI]⟩
 ·obtain ⟨a,b,rfl⟩:=len2 (l:=l) (by simpa using hc)
  exact ⟨by simp [mkI,nsI],by simp [mkI]⟩
 ·rw [if_pos rfl] at hc
  obtain ⟨a,b,r,rfl⟩:=len2m (l:=l) hc.1
  have:=hc.2
  exact ⟨by simp [mkI,nsI],by simp [mkI] at this ⊢; omega⟩
 ·obtain ⟨a,rfl⟩:=ix (l:=l) (by simpa using hc)
  exact ⟨by simp [mkI,nsI],by simp [mkI]⟩
 ·obtain ⟨a,rfl⟩:=ix (l:=l) (by simpa using hc)
  exact ⟨by simp [mkI,nsI],by simp [mkI]⟩
theorem Ak {k:Int} (h:1<=k/\k<=13) (l:List Int):mkI k l=mkI k (nsI (mkI k l)):=by
 rcases qH h with rfl | rfl | rfl | rfl | rfl | rfl | rfl | rfl | rfl | rfl | rfl | rfl | rfl <;> simp [mkI,nsI]
theorem CT {k:Int} (h:1<=k/\k<=13) {l:List Int} (hl:∀ n,n ∈ l->0<=n/\n<=65535):∀ n,n ∈ nsI (mkI k l)->0<=n/\n<=65535:=by
 have hg:∀ i,0<=l.getD i 0/\l.getD i 0<=65535:=fun i=>by
  rw [D7]
  cases e:l[i]? with
  | none=>simp
  | some a=>exact hl a (D1 e)
 have h0:=hg 0
 have h1:=hg 1
 have h2:=hg 2
 have hd:∀ n,n ∈ l.drop 2->0<=n/\n<=65535:=fun n hn=>hl n (List.mem_of_mem_drop hn)
 rcases qH h with rfl | rfl | rfl | rfl | rfl | rfl | rfl | rfl | rfl | rfl | rfl | rfl | rfl <;> intro n hn <;> simp only [mkI,nsI] at hn <;> simp at hn
 all_goals first
  | (rcases hn with rfl | rfl | hn <;> first | exact h0 | exact h1 | exact h2 | exact hd _ hn | (subst hn; first | exact h0 | exact h1 | exact h2))
  | (rcases hn with rfl | rfl <;> first | exact h0 | exact h1)
  | (subst hn; exact h0)
open Classical in
noncomputable def iZ (s:List UInt8):Option DIns :=
 if opN (aC s).1≠0/\(∀ n,n ∈ (aC s).2.map aA->0<=n)/\gN (opN (aC s).1) (aC s).2.length then some (mkI (opN (aC s).1) ((aC s).2.map aA)) else none
theorem B9 {s:List UInt8} {x:DIns}:iZ s=some x ↔ Bl x/\uO x=s:=by
 unfold iZ
 constructor
 ·intro h
  split at h
  ·rename_i hc
   obtain ⟨h1,h2,h3⟩:=hc
   cases h
   obtain ⟨ho,hw⟩:=(u5 (aC s).1).resolve_left h1
   obtain ⟨h4,h5⟩:=i5 h2
   have h6:=mkI_ns ho (l:=(aC s).2.map aA) (by rw [List.length_map]; exact h3)
   refine ⟨⟨by rw [l8]; exact ho,by rw [l8,h6.1],by rw [h6.1]; exact h5,h6.2⟩,?_⟩
   rw [uR (by rw [l8]; exact ho),l8,h6.1,<- hw,<- h4]
   exact (iE s).1
  ·cases h
 ·rintro ⟨hg,rfl⟩
  have hc:=hg.cnt
  obtain ⟨h1,h2,h3,h4⟩:=hg
  have hcond:opN (wOf x.op)≠0/\(∀ n,n ∈ ((nsI x).map Lib.itoa).map aA->0<=n)/\gN (opN (wOf x.op)) ((nsI x).map Lib.itoa).length:=by
   rw [(wF h1).2,iS h3,List.length_map]
   exact ⟨by omega,fun n hn=>(h3 n hn).1,hc.1⟩
  rw [uR h1,lU (wF h1).1 (ie _)]
  rw [if_pos hcond,(wF h1).2,iS h3,<- h2]
theorem Cp {s:List UInt8} {w:List UInt8} {ts:List (List UInt8)} {pu:List UInt8->Int} (hp:∀ t,0<=pu t/\pu t<=65535) (hi:∀ n:Int,0<=n->n<=65535->pu (Lib.itoa n)=n)
  (hs:∀ (w':List UInt8) (ts':List (List UInt8)),plain w'->(∀ t,t ∈ ts'->plain t)->ts'.length<=13->s=dV w' ts'->w=w'/\ts=ts') {x:DIns} :
  (mkI (opN w) (ts.map pu)=x/\x.op≠0/\x.args.length<=8/\uO x=s) ↔ iZ s=some x:=by
 rw [B9]
 constructor
 ·rintro ⟨rfl,h1,h2,h3⟩
  rw [l8] at h1
  have ho:=((u5 w).resolve_left h1).1
  refine ⟨⟨by rw [l8]; exact ho,by rw [l8]; exact Ak ho _,CT ho fun n hn=>?_,h2⟩,h3⟩
  obtain ⟨t,_,rfl⟩:=List.mem_map.1 hn
  exact hp t
 ·rintro ⟨hg,rfl⟩
  have hc:=hg.cnt
  obtain ⟨h1,h2,h3,h4⟩:=hg
  obtain ⟨rfl,rfl⟩:=hs (wOf x.op) ((nsI x).map Lib.itoa) (wF h1).1 (ie _) (by rw [List.length_map]; omega) (uR h1)
  refine ⟨?_,by omega,h4,rfl⟩
  rw [(wF h1).2,List.map_map]
  conv=>rhs; rw [h2]
  congr 1
  conv=>rhs; rw [<- List.map_id (nsI x)]
  exact List.map_congr_left fun n hn=>hi n (h3 n hn).1 (h3 n hn).2
end Go.Ab
end
section
set_option maxRecDepth 20000
namespace Go.Ab
open Go.Ab.Z14
def mkE (k:Int) (l:List Int):DEnd :=
 if k=1 then ⟨1,l.getD 0 0,0,0,[],0,0,0⟩ else if k=2 then ⟨2,0,0,0,[],l.getD 0 0,0,0⟩
 else if k=3 then ⟨3,l.getD 0 0,0,0,[],l.getD 1 0,l.getD 2 0,0⟩ else if k=4 then ⟨4,0,l.getD 0 0,l.getD 1 0,l.drop 4,l.getD 2 0,0,l.getD 3 0⟩
 else if k=5 then ⟨5,l.getD 0 0,0,0,[],0,0,0⟩ else ⟨k,0,0,0,[],0,0,0⟩
def qq (k:Int) (n:Nat):Prop:=if k=4 then 4<=n/\n<=12 else n=(if k=6 then 0 else if k=3 then 3 else 1)
theorem jv {k:Int} (h:1<=k/\k<=6):k=1\/k=2\/k=3\/k=4\/k=5\/k=6:=by omega
theorem gM (k:Int) (l:List Int):(mkE k l).kind=k:=by
 unfold mkE
 split
 ·simp_all
 split
 ·simp_all
 split
 ·simp_all
 split
 ·simp_all
 split
 ·simp_all
 rfl
theorem yW (w:List UInt8):kN w=0\/(1<=kN w/\kN w<=6)/\w=kOf (kN w):=by
 by_cases h1:w=[114,101,116]
 ·subst h1; exact .inr ⟨by decide,by decide⟩
 by_cases h2:w=[106,117,109,112]
 ·subst h2; exact .inr ⟨by decide,by decide⟩
 by_cases h3:w=[98,114,97,110,99,104]
 ·subst h3; exact .inr ⟨by decide,by decide⟩
 by_cases h4:w=[105,110,118,111,107,101]
 ·subst h4; exact .inr ⟨by decide,by decide⟩
 by_cases h5:w=[116,104,114,111,119]
 ·subst h5; exact .inr ⟨by decide,by decide⟩
 by_cases h6:w=[114,101,115,117,109,101]
 ·subst h6; exact .inr ⟨by decide,by decide⟩
 exact .inl (by simp [kN,h1,h2,h3,h4,h5,h6])
theorem AH {k:Int} (h:1<=k/\k<=6):plain (kOf k)/\kN (kOf k)=k:=by
 rcases jv h with rfl | rfl | rfl | rfl | rfl | rfl <;> exact ⟨by unfold plain; decide,by decide⟩
theorem uj {x:DEnd} (h:1<=x.kind/\x.kind<=6):uu x=dV (kOf x.kind) ((nsE x).map Lib.itoa):=by
 rw [<- te]
 rcases jv h with h | h | h | h | h | h <;> simp [uu,kOf,nsE,h]
def AI (x:DEnd):Prop:=(1<=x.kind/\x.kind<=6)/\x=mkE x.kind (nsE x)/\(∀ n,n ∈ nsE x->0<=n/\n<=65535)/\x.args.length<=8
theorem AI.cnt {x:DEnd} (h:AI x):qq x.kind (nsE x).length/\(nsE x).length<=12:=by
 obtain ⟨h1,_,_,h4⟩:=h
 rcases jv h1 with e | e | e | e | e | e <;> simp [qq,nsE,e]
 omega
theorem len4m {α:Type} {l:List α} (h:4<=l.length):∃ a b c d r,l=a :: b :: c :: d :: r:=by
 match l,h with
 | a :: b :: c :: d :: r,_=>exact ⟨a,b,c,d,r,rfl⟩
theorem mkE_ns {k:Int} (h:1<=k/\k<=6) {l:List Int} (hc:qq k l.length):nsE (mkE k l)=l/\(mkE k l).args.length<=8:=by
 unfold qq at hc
 rcases jv h with rfl | rfl | rfl | rfl | rfl | rfl
 ·obtain ⟨a,rfl⟩:=ix (l:=l) (by simpa using hc)
  exact ⟨by simp [mkE,nsE],by simp [mkE]⟩
 ·obtain ⟨a,rfl⟩:=ix (l:=l) (by simpa using hc)
  exact ⟨by simp [mkE,nsE],by simp [mkE]⟩
 ·obtain ⟨a,b,c,rfl⟩:=len3 (l:=l) (by simpa using hc)
  exact ⟨by simp [mkE,nsE],by simp [mkE]⟩
 ·rw [if_pos rfl] at hc
  obtain ⟨a,b,c,d,r,rfl⟩:=len4m (l:=l) hc.1
  have:=hc.2
  exact ⟨by simp [mkE,nsE],by simp [mkE] at this ⊢; omega⟩
 ·obtain ⟨a,rfl⟩:=ix (l:=l) (by simpa using hc)
  exact ⟨by simp [mkE,nsE],by simp [mkE]⟩
 ·have:l=[]:=List.length_eq_zero_iff.1 (by simpa using hc)
  subst this
  exact ⟨by simp [mkE,nsE],by simp [mkE]⟩
theorem zm {k:Int} (h:1<=k/\k<=6) (l:List Int):mkE k l=mkE k (nsE (mkE k l)):=by
 rcases jv h with rfl | rfl | rfl | rfl | rfl | rfl <;> simp [mkE,nsE]
theorem C2 {k:Int} (h:1<=k/\k<=6) {l:List Int} (hl:∀ n,n ∈ l->0<=n/\n<=65535):∀ n,n ∈ nsE (mkE k l)->0<=n/\n<=65535:=by
 have hg:∀ i,0<=l.getD i 0/\l.getD i 0<=65535:=fun i=>by
  rw [D7]
  cases e:l[i]? with
  | none=>simp
  | some a=>exact hl a (D1 e)
 have hd:∀ n,n ∈ l.drop 4->0<=n/\n<=65535:=fun n hn=>hl n (List.mem_of_mem_drop hn)
 have key:∀ n,n ∈ nsE (mkE k l)->(∃ i,n=l.getD i 0)\/n ∈ l.drop 4:=by
  rcases jv h with rfl | rfl | rfl | rfl | rfl | rfl <;> intro n hn <;> simp [mkE,nsE] at hn
  ·exact .inl ⟨0,by simpa using hn⟩
  ·exact .inl ⟨0,by simpa using hn⟩
  ·rcases hn with rfl | rfl | rfl
   ·exact .inl ⟨0,by simp⟩
   ·exact .inl ⟨1,by simp⟩
   ·exact .inl ⟨2,by simp⟩
  ·rcases hn with rfl | rfl | rfl | rfl | hn
   ·exact .inl ⟨0,by simp⟩
   ·exact .inl ⟨1,by simp⟩
   ·exact .inl ⟨2,by simp⟩
   ·exact .inl ⟨3,by simp⟩
   ·exact .inr hn
  ·exact .inl ⟨0,by simpa using hn⟩
 intro n hn
 rcases key n hn with ⟨i,rfl⟩ | h
 ·exact hg i
 ·exact hd n h
open Classical in
noncomputable def iH (s:List UInt8):Option DEnd :=
 if kN (aC s).1≠0/\(∀ n,n ∈ (aC s).2.map aA->0<=n)/\qq (kN (aC s).1) (aC s).2.length then some (mkE (kN (aC s).1) ((aC s).2.map aA)) else none
theorem CD {s:List UInt8} {x:DEnd}:iH s=some x ↔ AI x/\uu x=s:=by
 unfold iH
 constructor
 ·intro h
  split at h
  ·rename_i hc
   obtain ⟨h1,h2,h3⟩:=hc
   cases h
   obtain ⟨ho,hw⟩:=(yW (aC s).1).resolve_left h1
   obtain ⟨h4,h5⟩:=i5 h2
   have h6:=mkE_ns ho (l:=(aC s).2.map aA) (by rw [List.length_map]; exact h3)
   refine ⟨⟨by rw [gM]; exact ho,by rw [gM,h6.1],by rw [h6.1]; exact h5,h6.2⟩,?_⟩
   rw [uj (by rw [gM]; exact ho),gM,h6.1,<- hw,<- h4]
   exact (iE s).1
  ·cases h
 ·rintro ⟨hg,rfl⟩
  have hc:=hg.cnt
  obtain ⟨h1,h2,h3,h4⟩:=hg
  have hcond:kN (kOf x.kind)≠0/\(∀ n,n ∈ ((nsE x).map Lib.itoa).map aA->0<=n)/\qq (kN (kOf x.kind)) ((nsE x).map Lib.itoa).length:=by
   rw [(AH h1).2,iS h3,List.length_map]
   exact ⟨by omega,fun n hn=>(h3 n hn).1,hc.1⟩
  rw [uj h1,lU (AH h1).1 (ie _)]
  rw [if_pos hcond,(AH h1).2,iS h3,<- h2]
theorem BS {s:List UInt8} {w:List UInt8} {ts:List (List UInt8)} {pu:List UInt8->Int} (hp:∀ t,0<=pu t/\pu t<=65535) (hi:∀ n:Int,0<=n->n<=65535->pu (Lib.itoa n)=n)
  (hs:∀ (w':List UInt8) (ts':List (List UInt8)),plain w'->(∀ t,t ∈ ts'->plain t)->ts'.length<=13->s=dV w' ts'->w=w'/\ts=ts') {x:DEnd} :
  (mkE (kN w) (ts.map pu)=x/\x.kind≠0/\x.args.length<=8/\uu x=s) ↔ iH s=some x:=by
 rw [CD]
 constructor
 ·rintro ⟨rfl,h1,h2,h3⟩
  rw [gM] at h1
  have ho:=((yW w).resolve_left h1).1
  refine ⟨⟨by rw [gM]; exact ho,by rw [gM]; exact zm ho _,C2 ho fun n hn=>?_,h2⟩,h3⟩
  obtain ⟨t,_,rfl⟩:=List.mem_map.1 hn
  exact hp t
 ·rintro ⟨hg,rfl⟩
  have hc:=hg.cnt
  obtain ⟨h1,h2,h3,h4⟩:=hg
  obtain ⟨rfl,rfl⟩:=hs (kOf x.kind) ((nsE x).map Lib.itoa) (AH h1).1 (ie _) (by rw [List.length_map]; omega) (uj h1)
  refine ⟨?_,by omega,h4,rfl⟩
  rw [(AH h1).2,List.map_map]
  conv=>rhs; rw [h2]
  congr 1
  conv=>rhs; rw [<- List.map_id (nsE x)]
  exact List.map_congr_left fun n hn=>hi n (h3 n hn).1 (h3 n hn).2
abbrev dH:List UInt8:=[99,97,116,99,104]
abbrev su:List UInt8:=[97,108,108]
abbrev dL:List UInt8:=[99,108,101,97,110,117,112]
abbrev oM:List UInt8:=[112,97,100]
def nz (a c:Bool):List (List UInt8):=(bif a then [su] else []) ++ (bif c then [dL] else [])
theorem pL (p:DPad):xK p=Lib.itoa p.dst :: ((if 0 < p.catches.length then dH :: p.catches.map Lib.itoa else []) ++ nz p.all p.cleanup):=rfl
def mW (l:List (List UInt8)):Option (Bool × Bool):=if l=[] then some (false,false) else if l=[su] then some (true,false) else if l=[dL] then some (false,true) else if l=[su,dL] then some (true,true) else none
theorem tn {l:List (List UInt8)} {a c:Bool}:mW l=some (a,c) ↔ l=nz a c:=by
 constructor
 ·intro h
  unfold mW at h
  split at h
  ·rename_i e; subst e; cases h; rfl
  split at h
  ·rename_i e; subst e; cases h; rfl
  split at h
  ·rename_i e; subst e; cases h; rfl
  split at h
  ·rename_i e; subst e; cases h; rfl
  cases h
 ·rintro rfl
  cases a <;> cases c <;> decide
def ku (l:List (List UInt8)):Option (List Int × List (List UInt8)):=match l with
 | []=>some ([],[])
 | t :: r=>if t=dH then (if (r.takeWhile fun t=>decide (0<=aA t)).length=0\/8 < (r.takeWhile fun t=>decide (0<=aA t)).length then none else some ((r.takeWhile fun t=>decide (0<=aA t)).map aA,r.dropWhile fun t=>decide (0<=aA t))) else some ([],t :: r)
theorem oY (r:List (List UInt8)):ku (dH :: r)=(if (r.takeWhile fun t=>decide (0<=aA t)).length=0\/8 < (r.takeWhile fun t=>decide (0<=aA t)).length then none else some ((r.takeWhile fun t=>decide (0<=aA t)).map aA,r.dropWhile fun t=>decide (0<=aA t))):=by
 simp only [ku,if_true]
def j0 (s:List UInt8):Option DPad:=if (aC s).1=oM then (match (aC s).2 with
 | []=>none
 | t :: r => if aA t < 0 then none else match ku r with
  | none=>none
  | some (ns,r)=>match mW r with
   | none=>none
   | some (a,c)=>some ⟨aA t,ns,a,c⟩) else none
def AA (p:DPad):Prop:=(0<=p.dst/\p.dst<=65535)/\(∀ n,n ∈ p.catches->0<=n/\n<=65535)/\p.catches.length<=8
theorem od:aA dH < 0/\aA su < 0/\aA dL < 0:=by decide
theorem xR (a c:Bool):nz a c=[]\/∃ t l,nz a c=t :: l/\(!decide (0<=aA t))=true:=by
 cases a <;> cases c
 ·exact .inl rfl
 ·exact .inr ⟨dL,[],rfl,by decide⟩
 ·exact .inr ⟨su,[],rfl,by decide⟩
 ·exact .inr ⟨su,[dL],rfl,by decide⟩
theorem zF {ns:List Int} {a c:Bool} (h:∀ n,n ∈ ns->0<=n/\n<=65535) (hl:ns.length<=8):ku ((if 0 < ns.length then dH :: ns.map Lib.itoa else []) ++ nz a c)=some (ns,nz a c):=by
 by_cases h0:0 < ns.length
 ·rw [if_pos h0]
  have hn:∀ t,t ∈ ns.map Lib.itoa->(!decide (0<=aA t))=false:=fun t ht=>by
   obtain ⟨n,hn,rfl⟩:=List.mem_map.1 ht
   rw [kR (h n hn).1 (h n hn).2]
   simp [(h n hn).1]
  obtain ⟨h1,h2⟩:=kX (p:=fun t=>!decide (0<=aA t)) hn (xR a c)
  simp only [Bool.not_not] at h1 h2
  rw [List.cons_append,oY,h1,h2,iS h,List.length_map,if_neg (by omega)]
 ·rw [if_neg h0,List.length_eq_zero_iff.1 (show ns.length=0 by omega)]
  cases a <;> cases c <;> decide
theorem zg {l:List (List UInt8)} {ns:List Int} {r:List (List UInt8)} (h:ku l=some (ns,r)):l=(if 0 < ns.length then dH :: ns.map Lib.itoa else []) ++ r/\(∀ n,n ∈ ns->0<=n/\n<=65535)/\ns.length<=8:=by
 unfold ku at h
 split at h
 ·cases h
  exact ⟨rfl,fun _ h=>(nomatch h),by simp⟩
 ·rename_i t q
  split at h
  ·rename_i e
   subst e
   split at h
   ·cases h
   ·rename_i hc
    cases h
    have hm:∀ n,n ∈ (q.takeWhile fun t=>decide (0<=aA t)).map aA->0<=n:=fun n hn=>by
     obtain ⟨t,ht,rfl⟩:=List.mem_map.1 hn
     have:=List.all_takeWhile (p:=fun t=>decide (0<=aA t)) (l:=q)
     rw [List.all_eq_true] at this
     simpa using this t ht
    obtain ⟨h1,h2⟩:=i5 hm
    refine ⟨?_,h2,by rw [List.length_map]; omega⟩
    rw [List.length_map,if_pos (by omega),<- h1,List.cons_append,List.takeWhile_append_dropWhile]
  ·cases h
   exact ⟨by simp,fun _ h=>(nomatch h),by simp⟩
theorem B4 {s:List UInt8} {p:DPad}:j0 s=some p ↔ AA p/\uM p=s:=by
 have w0:plain oM:=by unfold plain; decide
 constructor
 ·intro h
  unfold j0 at h
  split at h
  ·rename_i hw
   split at h
   ·cases h
   ·rename_i t r hts
    split at h
    ·cases h
    ·rename_i hn
     split at h
     ·cases h
     ·rename_i ns r' hcp
      split at h
      ·cases h
      ·rename_i a c htp
       cases h
       obtain ⟨e1,e2,e3⟩:=zg hcp
       have e4:=tn.1 htp
       have e5:=gG (s:=t) (by omega)
       refine ⟨⟨⟨by show 0<=aA t; omega,e5.2⟩,e2,e3⟩,?_⟩
       have:=(iE s).1
       rw [uv,<- this,hw,hts,pL]
       show dV oM (Lib.itoa (aA t) :: ((if 0 < ns.length then dH :: ns.map Lib.itoa else []) ++ nz a c))=_
       rw [<- e5.1,<- e4,<- e1]
  ·cases h
 ·rintro ⟨⟨h1,h2,h3⟩,rfl⟩
  unfold j0
  rw [uv,lU w0 (qd p),if_pos rfl,pL]
  show (if aA (Lib.itoa p.dst) < 0 then none else _)=_
  rw [kR h1.1 h1.2,if_neg (by omega),zF h2 h3]
  show (match mW (nz p.all p.cleanup) with | none=>none | some (a,c)=>some (⟨p.dst,p.catches,a,c⟩:DPad))=_
  rw [tn.2 rfl]
def cj (pu:List UInt8->Int) (p:DPad) (t:List UInt8):DPad:=if t=dH then p else if t=su then { p with all:=true } else if t=dL then { p with cleanup:=true } else { p with catches:=p.catches ++ [pu t] }
def pC (pu:List UInt8->Int):List (List UInt8)->DPad
 | []=>⟨0,[],false,false⟩
 | t :: r=>r.foldl (cj pu) ⟨pu t,[],false,false⟩
theorem qX {pu:List UInt8->Int} (hp:∀ t,0<=pu t/\pu t<=65535):∀ (l:List (List UInt8)) (p:DPad),(0<=p.dst/\p.dst<=65535)->(∀ n,n ∈ p.catches->0<=n/\n<=65535)->(0<=(l.foldl (cj pu) p).dst/\(l.foldl (cj pu) p).dst<=65535)/\∀ n,n ∈ (l.foldl (cj pu) p).catches->0<=n/\n<=65535
 | [],p,h1,h2=>⟨h1,h2⟩
 | t :: l, p, h1, h2 => by
  rw [List.foldl_cons]
  refine qX hp l _ ?_ ?_
  ·unfold cj
   split
   ·exact h1
   split
   ·exact h1
   split
   ·exact h1
   exact h1
  ·unfold cj
   split
   ·exact h2
   split
   ·exact h2
   split
   ·exact h2
   intro n hn
   rcases List.mem_append.1 hn with h | h
   ·exact h2 n h
   ·rw [List.mem_singleton.1 h]; exact hp t
theorem mm {pu:List UInt8->Int} (hi:∀ n:Int,0<=n->n<=65535->pu (Lib.itoa n)=n):∀ (ns:List Int) (p:DPad),(∀ n,n ∈ ns->0<=n/\n<=65535)->(ns.map Lib.itoa).foldl (cj pu) p={ p with catches:=p.catches ++ ns }
 | [],p,_=>by simp
 | n :: ns, p, h => by
  have hne:∀ w:List UInt8,aA w < 0->Lib.itoa n≠w:=fun w hw e=>by
   have:=kR (h n (by simp)).1 (h n (by simp)).2
   rw [e] at this
   have:=(h n (by simp)).1
   omega
  have hst:cj pu p (Lib.itoa n)={ p with catches:=p.catches ++ [n] }:=by
   unfold cj
   rw [if_neg (hne _ od.1),if_neg (hne _ od.2.1),if_neg (hne _ od.2.2),hi n (h n (by simp)).1 (h n (by simp)).2]
  rw [List.map_cons,List.foldl_cons,hst,mm hi ns _ fun k hk=>h k (by simp [hk])]
  simp
theorem zu {pu:List UInt8->Int} (hi:∀ n:Int,0<=n->n<=65535->pu (Lib.itoa n)=n) {p:DPad} (hg:AA p):pC pu (xK p)=p:=by
 obtain ⟨h1,h2,h3⟩:=hg
 rw [pL]
 show List.foldl (cj pu) ⟨pu (Lib.itoa p.dst),[],false,false⟩ _=_
 rw [hi _ h1.1 h1.2,List.foldl_append]
 have hc:List.foldl (cj pu) ⟨p.dst,[],false,false⟩ (if 0 < p.catches.length then dH :: p.catches.map Lib.itoa else [])=⟨p.dst,p.catches,false,false⟩:=by
  by_cases h0:0 < p.catches.length
  ·rw [if_pos h0,List.foldl_cons,show cj pu ⟨p.dst,[],false,false⟩ dH=⟨p.dst,[],false,false⟩ from rfl,mm hi _ _ h2]
   simp
  ·rw [if_neg h0,List.length_eq_zero_iff.1 (show p.catches.length=0 by omega)]
   rfl
 rw [hc]
 cases p with
 | mk d ns a c=>cases a <;> cases c <;> rfl
theorem BG {s:List UInt8} {w:List UInt8} {ts:List (List UInt8)} {pu:List UInt8->Int} (hp:∀ t,0<=pu t/\pu t<=65535) (hi:∀ n:Int,0<=n->n<=65535->pu (Lib.itoa n)=n)
  (hs:∀ (w':List UInt8) (ts':List (List UInt8)),plain w'->(∀ t,t ∈ ts'->plain t)->ts'.length<=13->s=dV w' ts'->w=w'/\ts=ts') {p:DPad} :
  (pC pu ts=p/\p.catches.length<=8/\uM p=s) ↔ j0 s=some p:=by
 rw [B4]
 constructor
 ·rintro ⟨rfl,h2,h3⟩
  have:(0<=(pC pu ts).dst/\(pC pu ts).dst<=65535)/\∀ n,n ∈ (pC pu ts).catches->0<=n/\n<=65535:=by
   cases ts with
   | nil=>exact ⟨by show (0:Int)<=0/\(0:Int)<=65535; decide,fun _ h=>(nomatch h)⟩
   | cons t r=>exact qX hp r _ (hp t) fun _ h=>(nomatch h)
  exact ⟨⟨this.1,this.2,h2⟩,h3⟩
 ·rintro ⟨hg,rfl⟩
  have w0:plain oM:=by unfold plain; decide
  obtain ⟨rfl,rfl⟩:=hs oM (xK p) w0 (qd p) (by
   rw [pL]
   have:=hg.2.2
   have ht:(nz p.all p.cleanup).length<=2:=by cases p.all <;> cases p.cleanup <;> decide
   simp only [List.length_cons,List.length_append]
   split
   ·simp; omega
   ·simp; omega) (uv p)
  exact ⟨zu hi hg,hg.2.2,rfl⟩
end Go.Ab
end
section
set_option maxRecDepth 20000
namespace Go.Ab
abbrev Sb (l:List UInt8):TV:=.lit (.string ⟨⟨l⟩⟩)
abbrev By (c:UInt8):TV:=.lit (.int .u8 (c.toNat:Int))
theorem ew (l:List UInt8):plen .str (Sb l)=some (I (l.length:Nat)):=rfl
theorem s8 {l:List UInt8} {k:Nat} {c:UInt8} (h:l[k]? = some c):pstr (Sb l) (I (k:Nat))=some (By c):=by
 show (if 0<=(k:Int) then _ else none)=_
 rw [if_pos (by omega),Int.toNat_natCast]
 have hk:=(DS.1 h).1
 have he:=(DS.1 h).2
 have:(⟨⟨l⟩⟩:ByteArray)[k]? = some c:=by
  have h1:(⟨⟨l⟩⟩:ByteArray).size=l.length:=rfl
  rw [getElem?_pos (⟨⟨l⟩⟩:ByteArray) k (by rw [h1]; exact hk)]
  show some (l.toArray[k])=_
  simp [he]
 rw [this]
 rfl
theorem xF {l:List UInt8} {a b:Nat} (h1:a<=b) (h2:b<=l.length):pslice .str 0 (Sb l) (some a) (some b)=some (Sb ((l.drop a).take (b - a))):=by
 have h3:(⟨⟨l⟩⟩:ByteArray).size=l.length:=rfl
 show (if a<=b/\b<=(⟨⟨l⟩⟩:ByteArray).size then _ else none)=_
 rw [if_pos ⟨h1,by rw [h3]; exact h2⟩]
 have:(⟨⟨l⟩⟩:ByteArray).extract a b=⟨⟨(l.drop a).take (b - a)⟩⟩:=by
  apply ByteArray.ext
  simp [ByteArray.data_extract,List.extract_eq_take_drop]
 show some (TV.lit (.string ((⟨⟨l⟩⟩:ByteArray).extract a b)))=_
 rw [this]
theorem dh (a b:List UInt8):pbin .str .eql (Sb a) (Sb b)=some (B (decide (a=b))):=by
 by_cases h:a=b
 ·subst h; simp [pbin,kr]
 ·simp [pbin,kr,h]
def RS1 (e:List TV) (s:List UInt8):Prop:=e=[Sb s]
abbrev RStrs (q:Option Bool) (v:TV) (l:List (List UInt8)):Prop:=RL q 1 RS1 v l
theorem RL.snoc {α:Type} {s:Nat} {R:List TV->α->Prop} {y:TV} {l:List α} (hy:RL (some true) s R y l) {e:List TV} {a:α} (hR:R e a) (hl:l.length + 1<=4294967296):∃ y',papp s y [e]=some y'/\RL (some true) s R y' (l ++ [a]):=by
 rcases hy with ⟨rfl,rfl⟩ | ⟨o,xs,rfl,hq,h,hb⟩
 ·refine ⟨.sl true s [e],by simp [papp,af,room,CY],.sl (by simp) (.cons hR .nil) (by simp)⟩
 ·have:o=true:=hq true rfl
  subst this
  have hxl:=h.length
  refine ⟨.sl true s (xs ++ [e]),?_,.sl (by simp) (h.append (.cons hR .nil)) (by simp; omega)⟩
  simp [papp,room]; omega
theorem Dx:∀ (n:Nat) (l:List UInt8),l.length=n->l.all fO=true->d6 l < 10 ^ n:=by
 intro n
 induction n with
 | zero =>
  intro l hl _
  rw [List.length_eq_zero_iff.1 hl]
  decide
 | succ n ih =>
  intro l hl ha
  rcases List.eq_nil_or_concat l with rfl | ⟨r,c,rfl⟩
  ·simp at hl
  simp only [List.concat_eq_append] at *
  have h1:r.all fO=true/\(48<=c.toNat/\c.toNat<=57):=by simpa [fO] using ha
  have:=ih r (by simpa using hl) h1.1
  rw [oB,Nat.pow_succ]
  omega
theorem B5 {l:List UInt8} {k:Nat} {c:UInt8} (hc:l[k]? = some c) (h:(l.take k).all fO=true) (hd:fO c=true):(l.take (k + 1)).all fO=true:=by
 rw [List.take_add_one,hc]
 simp [h,hd]
theorem all_no {l:List UInt8} {k:Nat} {c:UInt8} (hc:l[k]? = some c) (hd:fO c=false):l.all fO=false:=by
 cases h:l.all fO with
 | false=>rfl
 | true =>
  rw [List.all_eq_true] at h
  rw [h c (D1 hc)] at hd
  exact hd
theorem Aj {l:List UInt8} {k:Nat} {c:UInt8} (hc:l[k]? = some c):d6 (l.take (k + 1))=10 * d6 (l.take k) + (c.toNat - 48):=by
 rw [List.take_add_one,hc]
 exact oB _ _
def dG (s:List UInt8):List (List UInt8)->Nat
 | []=>0
 | t :: r=>if t=s then 1 else if dG s r=0 then 0 else dG s r + 1
theorem BN (s:List UInt8):((dG s [[99,111,110,115,116],[99,111,112,121],[97,100,100],[115,117,98],[109,117,108],[100,105,118],[101,113],[108,116],[108,111,97,100],[115,116,111,114,101],[99,97,108,108],[111,117,116],[105,110]]:Nat):Int)=opN s:=by
 by_cases h1:s=[99,111,110,115,116]
 ·subst h1; decide
 by_cases h2:s=[99,111,112,121]
 ·subst h2; decide
 by_cases h3:s=[97,100,100]
 ·subst h3; decide
 by_cases h4:s=[115,117,98]
 ·subst h4; decide
 by_cases h5:s=[109,117,108]
 ·subst h5; decide
 by_cases h6:s=[100,105,118]
 ·subst h6; decide
 by_cases h7:s=[101,113]
 ·subst h7; decide
 by_cases h8:s=[108,116]
 ·subst h8; decide
 by_cases h9:s=[108,111,97,100]
 ·subst h9; decide
 by_cases h10:s=[115,116,111,114,101]
 ·subst h10; decide
 by_cases h11:s=[99,97,108,108]
 ·subst h11; decide
 by_cases h12:s=[111,117,116]
 ·subst h12; decide
 by_cases h13:s=[105,110]
 ·subst h13; decide
 simp [dG,opN,h1,h2,h3,h4,h5,h6,h7,h8,h9,h10,h11,h12,h13,Ne.symm h1,Ne.symm h2,Ne.symm h3,Ne.symm h4,Ne.symm h5,Ne.symm h6,Ne.symm h7,Ne.symm h8,Ne.symm h9,Ne.symm h10,Ne.symm h11,Ne.symm h12,Ne.symm h13]
theorem xu (s:List UInt8):((dG s [[114,101,116],[106,117,109,112],[98,114,97,110,99,104],[105,110,118,111,107,101],[116,104,114,111,119],[114,101,115,117,109,101]]:Nat):Int)=kN s:=by
 by_cases h1:s=[114,101,116]
 ·subst h1; decide
 by_cases h2:s=[106,117,109,112]
 ·subst h2; decide
 by_cases h3:s=[98,114,97,110,99,104]
 ·subst h3; decide
 by_cases h4:s=[105,110,118,111,107,101]
 ·subst h4; decide
 by_cases h5:s=[116,104,114,111,119]
 ·subst h5; decide
 by_cases h6:s=[114,101,115,117,109,101]
 ·subst h6; decide
 simp [dG,kN,h1,h2,h3,h4,h5,h6,Ne.symm h1,Ne.symm h2,Ne.symm h3,Ne.symm h4,Ne.symm h5,Ne.symm h6]
end Go.Ab
namespace Go.Ab.Z14
open Go Go.Ab Go.Proofs
theorem Db {s:List UInt8} (hl:s.length<=5) (h0:s.length≠0) (h1:¬ (s.head? = some 48/\1 < s.length)):∀ (d k:Nat),k + d=s.length->(s.take k).all fO=true->aa prog 32 (f32_1 (Sb s) (I (d6 (s.take k):Nat)) (I (k:Nat))) (I (aA s)):=by
 intro d
 induction d with
 | zero =>
  intro k hk ha
  have hk:k=s.length:=by omega
  subst hk
  rw [List.take_length] at ha ⊢
  unfold f32_1
  refine aa.tv (ew s) (aa.tv rfl (aa.ite bw nofun fun _=>f32_2_J ?_))
  unfold f32_2
  by_cases h:65535 < d6 s
  ·rw [show aA s=-1 from if_pos (.inr (.inr (.inr (.inr h))))]
   exact aa.tv rfl (aa.ite (v:=true) (by simp [asBool]; omega) (fun _=>aa.ret) nofun)
  ·rw [show aA s=(d6 s:Nat) from if_neg (by
    rintro (e | e | e | e | e)
    ·exact h0 e
    ·omega
    ·exact h1 e
    ·rw [ha] at e; cases e
    ·exact h e)]
   exact aa.tv rfl (aa.ite (v:=false) (by simp [asBool]; omega) nofun fun _=>aa.ret)
 | succ d ih =>
  intro k hk ha
  have hkl:k < s.length:=by omega
  have hc:s[k]? = some s[k]:=DT hkl
  generalize s[k]=c at hc
  have hno:fO c=false->aA s=-1:=fun h=>if_pos (.inr (.inr (.inr (.inl (all_no hc h)))))
  unfold f32_1
  refine aa.tv (ew s) (aa.tv rfl (aa.ite (aK hkl) (fun _=>?_) nofun))
  refine aa.tv (s8 hc) (aa.tv (v:=B (decide ((c.toNat:Int) < 48))) rfl ?_)
  by_cases hlo:(c.toNat:Int) < 48
  ·rw [decide_eq_true hlo,hno (by simp [fO]; omega)]
   exact aa.ite (v:=true) rfl (fun _=>aa.ret) nofun
  rw [decide_eq_false hlo]
  refine aa.ite (v:=false) rfl nofun fun _=>?_
  refine aa.tv (s8 hc) (aa.tv (v:=B (decide ((c.toNat:Int) > 57))) rfl ?_)
  by_cases hhi:(c.toNat:Int) > 57
  ·rw [decide_eq_true hhi,hno (by simp [fO]; omega)]
   exact aa.ite (v:=true) rfl (fun _=>aa.ret) nofun
  rw [decide_eq_false hhi]
  refine aa.ite (v:=false) rfl nofun fun _=>?_
  have hd:fO c=true:=by simp [fO]; omega
  have hlt:=Dx k (s.take k) (by rw [List.length_take]; omega) ha
  have hp:10 ^ k<=10 ^ 5:=Nat.pow_le_pow_right (by omega) (by omega)
  have hv:d6 (s.take k) < 100000:=Nat.lt_of_lt_of_le hlt hp
  have hmul:pbin (.int .i64) .mul (I (d6 (s.take k):Nat)) (I 10)=some (I ((d6 (s.take k) * 10:Nat):Int)):=by
   show some (TV.lit (.int .i64 (IntKind.i64.wrap ((d6 (s.take k):Int) * 10))))=_
   rw [IntWalk.i64_in _ (by constructor <;> omega)]
   congr 3
  have hsub:pbin (.int .u8) .sub (By c) (.lit (.int .u8 48))=some (.lit (.int .u8 ((c.toNat - 48:Nat):Int))):=by
   show some (TV.lit (.int .u8 (IntKind.u8.wrap ((c.toNat:Int) - 48))))=_
   rw [IntWalk.u8_in _ (by constructor <;> omega)]
   congr 3
   omega
  have hcv:pconv (.int .i64) (.lit (.int .u8 ((c.toNat - 48:Nat):Int)))=some (I ((c.toNat - 48:Nat):Int)):=by
   show some (TV.lit (.int .i64 (IntKind.i64.wrap _)))=_
   rw [IntWalk.i64_in _ (by constructor <;> omega)]
  have hadd:pbin (.int .i64) .add (I ((d6 (s.take k) * 10:Nat):Int)) (I ((c.toNat - 48:Nat):Int))=some (I (d6 (s.take (k + 1)):Nat)):=by
   show some (TV.lit (.int .i64 (IntKind.i64.wrap (((d6 (s.take k) * 10:Nat):Int) + ((c.toNat - 48:Nat):Int)))))=_
   rw [IntWalk.i64_in _ (by constructor <;> omega),Aj hc]
   congr 3
   omega
  exact aa.tv hmul (aa.tv (s8 hc) (aa.tv hsub (aa.tv hcv (aa.tv hadd (aa.tv (inc hkl (by omega)) (f32_1_J (ih (k + 1) (by omega) (B5 hc ha hd))))))))
theorem ln (s:List UInt8):aw prog 32 [Sb s] (I (aA s)):=by
 refine aw.of (f32_MR _) ?_
 unfold f32_M
 refine aa.tv (ew s) (aa.tv rfl ?_)
 by_cases h0:s.length=0
 ·rw [show aA s=-1 from if_pos (.inl h0)]
  exact aa.ite (v:=true) (by simp [asBool]; exact List.length_eq_zero_iff.1 h0) (fun _=>aa.ret) nofun
 refine aa.ite (v:=false) (by simp [asBool]; exact fun e=>h0 (by simp [e])) nofun fun _=>aa.tv (ew s) (aa.tv rfl ?_)
 by_cases hl:5 < s.length
 ·rw [show aA s=-1 from if_pos (.inr (.inl hl))]
  exact aa.ite (v:=true) (by simp [asBool]; omega) (fun _=>aa.ret) nofun
 refine aa.ite (v:=false) (by simp [asBool]; omega) nofun fun _=>?_
 have hc:s[0]? = some s[0]:=DT (by omega)
 generalize s[0]=c at hc
 have hh:s.head? = some c:=by rw [List.head?_eq_getElem?]; exact hc
 have go:¬ (s.head? = some 48/\1 < s.length)->aa prog 32 (f32_0 (Sb s) (I 0) (I 0)) (I (aA s)):=fun h=>by
  unfold f32_0
  exact f32_1_J (Db (by omega) h0 h s.length 0 (by omega) rfl)
 refine aa.tv (s8 (k:=0) hc) (aa.tv (v:=B (decide ((c.toNat:Int)=48))) rfl ?_)
 by_cases h48:(c.toNat:Int)=48
 ·rw [decide_eq_true h48]
  have hc48:c=48:=UInt8.toNat_inj.1 (by show c.toNat=48; omega)
  refine aa.ite (v:=true) rfl (fun _=>aa.tv (ew s) (aa.tv rfl ?_)) nofun
  by_cases h1:1 < s.length
  ·rw [show aA s=-1 from if_pos (.inr (.inr (.inl ⟨by rw [hh,hc48],h1⟩)))]
   exact aa.ite (v:=true) (by simp [asBool]; omega) (fun _=>aa.ret) nofun
  ·exact aa.ite (v:=false) (by simp [asBool]; omega) nofun fun _=>f32_0_J (go fun h=>h1 h.2)
 ·rw [decide_eq_false h48]
  refine aa.ite (v:=false) rfl nofun fun _=>f32_0_J (go fun h=>?_)
  rw [hh] at h
  have:=Option.some.inj h.1
  subst this
  exact h48 rfl
theorem uE {s:List UInt8} (hs:s.length<=1000000):∃ v,aw prog 23 [Sb s,By 32] v/\RStrs (some true) v ((aC s).1 :: (aC s).2):=by
 have key : ∀ (d k a : Nat) (w : TV) (l : List (List UInt8)), k + d = s.length + 1 → a ≤ k → a ≤ s.length → l.length ≤ k → plain ((s.drop a).take (k - a)) → RStrs (some true) w l →
   ∃ v,aa prog 23 (f23_0 (Sb s) (By 32) (I (a:Nat)) (I (k:Nat)) w) v/\(k<=s.length->RStrs (some true) v (l ++ ((s.drop a).take (k - a) ++ (aC (s.drop k)).1) :: (aC (s.drop k)).2))/\(k=s.length + 1->v=w):=by
  intro d
  induction d with
  | zero =>
   intro k a w l hk ha has hl hp hw
   have hk:k=s.length + 1:=by omega
   subst hk
   refine ⟨w,?_,fun h=>by omega,fun _=>rfl⟩
   unfold f23_0
   exact aa.tv (ew s) (aa.tv rfl (aa.ite (v:=false) (by simp [asBool]; omega) nofun fun _=>aa.chk (RL.own hw fun _ _ h=>by rw [h]; rfl) aa.ret))
  | succ d ih =>
   intro k a w l hk ha has hl hp hw
   have hks:k<=s.length:=by omega
   have ana:al (I (a:Nat))=some a:=by simp [al]; omega
   have ank:al (I (k:Nat))=some k:=by simp [al]; omega
   have hinc:pbin (.int .i64) .add (I (k:Nat)) (I (1:Int))=some (I ((k + 1:Nat):Int)):=inc (n:=k + 1) (by omega) (by omega)
   have cut:∃ w',papp 1 w [[Sb ((s.drop a).take (k - a))]]=some w'/\RStrs (some true) w' (l ++ [(s.drop a).take (k - a)]):=RL.snoc hw rfl (by omega)
   by_cases hend:k=s.length
   ·subst hend
    obtain ⟨w',c1,c2⟩:=cut
    refine ⟨w',?_,fun _=>?_,fun h=>by omega⟩
    ·unfold f23_0
     refine aa.tv (ew s) (aa.tv rfl (aa.ite (v:=true) (by simp [asBool]) (fun _=>?_) nofun))
     refine aa.tv (ew s) (aa.tv rfl (aa.ite (v:=true) (by simp [asBool]) (fun _=>f23_1_J ?_) nofun))
     unfold f23_1
     refine aa.ite (v:=true) rfl (fun _=>?_) nofun
     refine aa.nat ana (aa.nat ank (aa.tv (xF ha (Nat.le_refl _)) (aa.rws rfl (aa.tv c1 (aa.tv hinc (aa.tv hinc (f23_0_J ?_)))))))
     unfold f23_0
     exact aa.tv (ew s) (aa.tv rfl (aa.ite (v:=false) (by simp [asBool]; omega) nofun fun _=>aa.chk (RL.own c2 fun _ _ h=>by rw [h]; rfl) aa.ret))
    ·rw [List.drop_length]
     simpa [aC] using c2
   ·have hkl:k < s.length:=by omega
    have hc:s[k]? = some s[k]:=DT hkl
    have hdk:s.drop k=s[k] :: s.drop (k + 1):=List.drop_eq_getElem_cons hkl
    have htk:(s.drop a).take (k + 1 - a)=(s.drop a).take (k - a) ++ [s[k]]:=by
     rw [show k + 1 - a=k - a + 1 by omega,List.take_add_one,List.getElem?_drop,show a + (k - a)=k by omega,hc]
     rfl
    generalize s[k]=c at hc hdk htk
    by_cases h32:c=32
    ·subst h32
     obtain ⟨w',c1,c2⟩:=cut
     obtain ⟨v,hv,v1,v2⟩:=ih (k + 1) (k + 1) w' _ (by omega) (Nat.le_refl _) (by omega) (by simp; omega) (by simp [plain]) c2
     refine ⟨v,?_,fun _=>?_,fun h=>by omega⟩
     ·unfold f23_0
      refine aa.tv (ew s) (aa.tv rfl (aa.ite (v:=true) (by simp [asBool]; omega) (fun _=>?_) nofun))
      refine aa.tv (ew s) (aa.tv rfl (aa.ite (v:=false) (by simp [asBool]; omega) nofun fun _=>?_))
      refine aa.tv (s8 hc) (aa.tv (v:=B true) rfl (f23_1_J ?_))
      unfold f23_1
      refine aa.ite (v:=true) rfl (fun _=>?_) nofun
      exact aa.nat ana (aa.nat ank (aa.tv (xF ha hks) (aa.rws rfl (aa.tv c1 (aa.tv hinc (aa.tv hinc (f23_0_J hv)))))))
     ·have:=v1 (by omega)
      rw [hdk]
      simpa [aC] using this
    ·have hne:(c == 32)=false:=by simpa using h32
     obtain ⟨v,hv,v1,v2⟩:=ih (k + 1) a w l (by omega) (by omega) has (by omega) (by
      rw [htk]
      intro x hx
      rcases List.mem_append.1 hx with hx | hx
      ·exact hp x hx
      ·rw [List.mem_singleton.1 hx]; exact hne) hw
     refine ⟨v,?_,fun _=>?_,fun h=>by omega⟩
     ·unfold f23_0
      refine aa.tv (ew s) (aa.tv rfl (aa.ite (v:=true) (by simp [asBool]; omega) (fun _=>?_) nofun))
      refine aa.tv (ew s) (aa.tv rfl (aa.ite (v:=false) (by simp [asBool]; omega) nofun fun _=>?_))
      refine aa.tv (s8 hc) (aa.tv (v:=B false) ?_ (f23_1_J ?_))
      ·show some (B (decide ((c.toNat:Int)=32)))=_
       rw [decide_eq_false fun e=>h32 (UInt8.toNat_inj.1 (by show c.toNat=32; omega))]
      unfold f23_1
      exact aa.ite (v:=false) rfl nofun fun _=>aa.tv hinc (f23_0_J hv)
     ·have:=v1 (by omega)
      rw [htk] at this
      rw [hdk]
      simpa [aC,hne,h32] using this
 obtain ⟨v,hv,v1,_⟩:=key (s.length + 1) 0 0 (.lit af) [] (by omega) (Nat.le_refl _) (by omega) (by simp) (by simp [plain]) .nil
 refine ⟨v,aw.of (f23_MR _ _) ?_,by simpa using v1 (by omega)⟩
 unfold f23_M
 exact aa.chk rfl (f23_0_J hv)
theorem Bv {q:Option Bool} {x:TV} {ws:List (List UInt8)} (hx:RStrs q x ws) (hl:ws.length<=1000000) {k:Nat} (hk:k<=ws.length):∃ v b,aw prog 25 [x,I (k:Nat)] (.tup [v,B b]) /\
  ((∀ n,n ∈ (ws.drop k).map aA->0<=n)->b=true/\RInts (some true) v ((ws.drop k).map aA))/\(¬ (∀ n,n ∈ (ws.drop k).map aA->0<=n)->b=false/\v=.lit af):=by
 have key : ∀ (d k : Nat) (w : TV) (l : List Int), k + d = ws.length → l.length ≤ k → RInts (some true) w l →
   ∃ v b,aa prog 25 (f25_0 x (I (k:Nat)) w) (.tup [v,B b]) /\
    ((∀ n,n ∈ (ws.drop k).map aA->0<=n)->b=true/\RInts (some true) v (l ++ (ws.drop k).map aA))/\(¬ (∀ n,n ∈ (ws.drop k).map aA->0<=n)->b=false/\v=.lit af):=by
  intro d
  induction d with
  | zero =>
   intro k w l hk hlk hw
   have hk:k=ws.length:=by omega
   subst hk
   have ho:aD w=true:=RL.own hw fun _ _ h=>by rw [h.1]; rfl
   refine ⟨w,true,?_,fun _=>⟨rfl,by simpa using hw⟩,fun h=>absurd (fun n hn=>by simp at hn) h⟩
   unfold f25_0
   refine aa.tv hx.len (aa.tv rfl (aa.ite bw nofun fun _=>aa.chk ?_ aa.ret))
   simp [bR,aD,ho]
  | succ d ih =>
   intro k w l hk hlk hw
   have hkl:k < ws.length:=by omega
   have hc:ws[k]? = some ws[k]:=DT hkl
   have hdk:ws.drop k=ws[k] :: ws.drop (k + 1):=List.drop_eq_getElem_cons hkl
   obtain ⟨e,he,hr⟩:=hx.idx (k:=.i64) hc
   generalize ws[k]=t at hc hdk hr
   have hr:e=[Sb t]:=hr
   subst hr
   rw [hdk]
   by_cases hn:aA t < 0
   ·refine ⟨.lit af,false,?_,fun h=>absurd (h (aA t) (by simp)) (by omega),fun _=>⟨rfl,rfl⟩⟩
    unfold f25_0
    refine aa.tv hx.len (aa.tv rfl (aa.ite (aK hkl) (fun _=>?_) nofun))
    exact aa.tvs he (aa.chk rfl (aa.call (ln t) (aa.chk rfl (aa.tv rfl (aa.ite (v:=true) (by simp [asBool]; exact hn) (fun _=>aa.chk rfl aa.ret) nofun)))))
   ·have h16:=gG (s:=t) (by omega)
    obtain ⟨w',c1,c2⟩:=RL.snoc hw (e:=[I (aA t)]) (a:=aA t) ⟨rfl,by constructor <;> omega⟩ (by omega)
    obtain ⟨v,b,h1,h2,h3⟩:=ih (k + 1) w' _ (by omega) (by simp; omega) c2
    have hiff:(∀ n,n ∈ (t :: ws.drop (k + 1)).map aA->0<=n) ↔ ∀ n,n ∈ (ws.drop (k + 1)).map aA->0<=n:=by
     constructor
     ·exact fun h n hn=>h n (by rw [List.map_cons]; exact D0 _ hn)
     ·intro h n hn2
      rw [List.map_cons] at hn2
      rcases List.mem_cons.1 hn2 with rfl | hn2
      ·omega
      ·exact h n hn2
    refine ⟨v,b,?_,fun h=>⟨(h2 (hiff.1 h)).1,by simpa using (h2 (hiff.1 h)).2⟩,fun h=>h3 fun h'=>h (hiff.2 h')⟩
    unfold f25_0
    refine aa.tv hx.len (aa.tv rfl (aa.ite (aK hkl) (fun _=>?_) nofun))
    exact aa.tvs he (aa.chk rfl (aa.call (ln t) (aa.chk rfl (aa.tv rfl (aa.ite (v:=false) (by simp [asBool]; omega) nofun fun _=>aa.rws rfl (aa.tv c1 (aa.tv (inc hkl (by omega)) (f25_0_J h1))))))))
 obtain ⟨v,b,h1,h2,h3⟩:=key (ws.length - k) k (.lit af) [] (by omega) (by simp) .nil
 refine ⟨v,b,aw.of (f25_MR _ _) ?_,by simpa using h2,h3⟩
 unfold f25_M
 exact aa.chk rfl (f25_0_J h1)
theorem Ch {q:Option Bool} {x:TV} {ls:List (List UInt8)} (hx:RStrs q x ls) (hl:ls.length<=1000000) (s:List UInt8):aw prog 47 [Sb s,x] (I (dG s ls:Nat)):=by
 have key:∀ (d k:Nat),k + d=ls.length->aa prog 47 (f47_0 (Sb s) x (I (k:Nat))) (I ((if dG s (ls.drop k)=0 then 0 else k + dG s (ls.drop k):Nat):Int)):=by
  intro d
  induction d with
  | zero =>
   intro k hk
   have hk:k=ls.length:=by omega
   subst hk
   rw [List.drop_length]
   unfold f47_0
   exact aa.tv hx.len (aa.tv rfl (aa.ite bw nofun fun _=>aa.ret))
  | succ d ih =>
   intro k hk
   have hkl:k < ls.length:=by omega
   have hc:ls[k]? = some ls[k]:=DT hkl
   have hdk:ls.drop k=ls[k] :: ls.drop (k + 1):=List.drop_eq_getElem_cons hkl
   obtain ⟨e,he,hr⟩:=hx.idx (k:=.i64) hc
   generalize ls[k]=t at hc hdk hr
   have hr:e=[Sb t]:=hr
   subst hr
   rw [hdk]
   unfold f47_0
   refine aa.tv hx.len (aa.tv rfl (aa.ite (aK hkl) (fun _=>?_) nofun))
   refine aa.tvs he (aa.chk rfl (aa.tv (dh t s) ?_))
   by_cases h:t=s
   ·rw [decide_eq_true h,show dG s (t :: ls.drop (k + 1))=1 from if_pos h]
    exact aa.ite (v:=true) rfl (fun _=>aa.tv (inc hkl (by omega)) aa.ret) nofun
   ·rw [decide_eq_false h]
    have:=ih (k + 1) (by omega)
    refine aa.ite (v:=false) rfl nofun fun _=>aa.tv (inc hkl (by omega)) (f47_0_J ?_)
    have e:(if dG s (t :: ls.drop (k + 1))=0 then 0 else k + dG s (t :: ls.drop (k + 1)))=(if dG s (ls.drop (k + 1))=0 then 0 else k + 1 + dG s (ls.drop (k + 1))):=by
     show (if (if t=s then 1 else if dG s (ls.drop (k + 1))=0 then 0 else dG s (ls.drop (k + 1)) + 1)=0 then 0 else k + (if t=s then 1 else if dG s (ls.drop (k + 1))=0 then 0 else dG s (ls.drop (k + 1)) + 1))=_
     rw [if_neg h]
     by_cases h0:dG s (ls.drop (k + 1))=0
     ·simp [h0]
     ·simp [h0]; omega
    rw [e]
    exact this
 have h0:=key ls.length 0 (by omega)
 rw [List.drop_zero] at h0
 have e:(if dG s ls=0 then 0 else 0 + dG s ls)=dG s ls:=by split <;> omega
 rw [e] at h0
 refine aw.of (f47_MR _ _) ?_
 unfold f47_M
 exact f47_0_J h0
theorem ut:∀ (ls:List (List UInt8)),F2 RS1 (ls.map fun s=>[Sb s]) ls
 | []=>.nil
 | s :: ls=>.cons rfl (ut ls)
theorem rOp4 (s:List UInt8):aw prog 24 [Sb s] (I (opN s)):=by
 have hx:RStrs (some false) (.sl false 1 (([[99,111,110,115,116],[99,111,112,121],[97,100,100],[115,117,98],[109,117,108],[100,105,118],[101,113],[108,116],[108,111,97,100],[115,116,111,114,101],[99,97,108,108],[111,117,116],[105,110]]:List (List UInt8)).map fun s=>[Sb s])) [[99,111,110,115,116],[99,111,112,121],[97,100,100],[115,117,98],[109,117,108],[100,105,118],[101,113],[108,116],[108,111,97,100],[115,116,111,114,101],[99,97,108,108],[111,117,116],[105,110]]:=.sl (by simp) (ut _) (by simp)
 have:=Ch hx (by simp) s
 rw [BN] at this
 refine aw.of (f24_MR _) ?_
 unfold f24_M
 exact aa.call this (aa.chk rfl aa.ret)
theorem rKind4 (s:List UInt8):aw prog 29 [Sb s] (I (kN s)):=by
 have hx:RStrs (some false) (.sl false 1 (([[114,101,116],[106,117,109,112],[98,114,97,110,99,104],[105,110,118,111,107,101],[116,104,114,111,119],[114,101,115,117,109,101]]:List (List UInt8)).map fun s=>[Sb s])) [[114,101,116],[106,117,109,112],[98,114,97,110,99,104],[105,110,118,111,107,101],[116,104,114,111,119],[114,101,115,117,109,101]]:=.sl (by simp) (ut _) (by simp)
 have:=Ch hx (by simp) s
 rw [xu] at this
 refine aw.of (f29_MR _) ?_
 unfold f29_M
 exact aa.call this (aa.chk rfl aa.ret)
end Go.Ab.Z14
end
section
set_option maxRecDepth 100000
namespace Go.Ab
theorem jq:∀ l:List UInt8,(aC l).2.length<=l.length
 | []=>Nat.le_refl _
 | c :: l=>by
  have:=jq l
  unfold aC
  split
  ·simp; omega
  ·simp; omega
theorem RL.so {α:Type} {q:Option Bool} {s:Nat} {R:List TV->α->Prop} {y:TV} {l:List α} (hy:RL q s R y l) {k:Nat} (hk:k<=l.length):∃ y',fX k (l.length - k) y=some y'/\RL q s R y' (l.drop k):=by
 rcases hy with ⟨rfl,rfl⟩ | ⟨o,xs,rfl,hq,h,hb⟩
 ·have:k=0:=by simpa using hk
  subst this
  exact ⟨.lit af,rfl,by simpa using RL.nil⟩
 ·have hxl:=h.length
  refine ⟨.sl o s ((xs.drop k).take (l.length - k)),?_,.sl hq ?_ (by simp; omega)⟩
  ·simp [fX]; omega
  ·have:=(h.drop k).take (l.length - k)
   rwa [List.take_of_length_le (l:=l.drop k) (by simp)] at this
end Go.Ab
namespace Go.Ab.Z14
open Go Go.Ab Go.Proofs
theorem rdI {f:FuncId} {w:TV} {l:List Int} {q:Option Bool} (hn:RInts q w l) {i:Nat} {a:Int} (h:l[i]? = some a) (hi:i<=100) {k:List TV->Prg TV} {r:TV} (hk:aa prog f (k [I a]) r) :
  aa prog f (Prg.nat (slLen w) fun n=>Prg.nat (al (I (i:Nat))) fun m=>Prg.chk (Bool.and (slSize w 1) (Nat.blt m n)) (Prg.tvs (pel w m) fun e=>Prg.chk (ab aT e 0) (k e))) r:=by
 obtain ⟨e,he,rfl,_⟩:=RL.pel hn h
 have hlt:=(DS.1 h).1
 refine aa.nat (RL.slLen hn) (aa.nat (v:=i) (by simp [al]; omega) (aa.chk ?_ (aa.tvs he (aa.chk rfl hk))))
 rw [RL.slSize hn]
 simpa using hlt
theorem AG:REnd none [I 0,I 0,I 0,I 0,.lit af,I 0,I 0,I 0] (⟨0,0,0,0,[],0,0,0⟩:DEnd) :=
 have z:inI 0:=⟨by decide,by decide⟩
 ⟨.lit af,rfl,.nil,z,z,z,z,z,z,z⟩
theorem rEnd4 {s:List UInt8} (hs:s.length<=1000):∃ e,aw prog 9 [Sb s] (.tup [.agg e,B (iH s).isSome])/\REnd none e ((iH s).getD ⟨0,0,0,0,[],0,0,0⟩):=by
 obtain ⟨v0,h0,hv⟩:=uE (s:=s) (by omega)
 have hsl:=jq s
 obtain ⟨w,hw⟩:∃ w,w=(aC s).1:=⟨_,rfl⟩
 obtain ⟨ts,hts⟩:∃ ts,ts=(aC s).2:=⟨_,rfl⟩
 rw [<- hw,<- hts] at hv
 rw [<- hts] at hsl
 have hvf:RStrs (some false) (Ab.frz v0) (w :: ts):=hv.frz fun _ _ h=>by rw [show _=_ from h]; rfl
 obtain ⟨vn,bn,hn,hy,hno⟩:=Bv hvf (by simp; omega) (k:=1) (by simp)
 simp only [List.drop_succ_cons,List.drop_zero] at hy hno
 have hsn:vn.isSl=true:=by
  by_cases hq:∀ n,n ∈ ts.map aA->0<=n
  ·exact RL.isSl (hy hq).2
  ·rw [(hno hq).2]; rfl
 have hkk:=rKind4 w
 obtain ⟨e3,he3,hr3⟩:=RL.pel hv (i:=0) rfl
 have hr3:e3=[Sb w]:=hr3
 subst hr3
 have hsz:(Bool.and (slSize v0 1) (Nat.blt 0 (w :: ts).length))=true:=by rw [RL.slSize hv]; simp
 have hfit:ab zSl [v0] 0=true:=by simp [ab,zSl,aG,RL.isSl hv]
 have hfit2:ab zSl [vn] 0=true:=by simp [ab,zSl,aG,hsn]
 have none_of:¬ (kN w≠0/\(∀ n,n ∈ ts.map aA->0<=n)/\qq (kN w) ts.length)->iH s=none:=fun h=>by
  unfold iH
  rw [<- hw,<- hts]
  exact if_neg h
 have some_of:kN w≠0->(∀ n,n ∈ ts.map aA->0<=n)->qq (kN w) ts.length->iH s=some (mkE (kN w) (ts.map aA)):=fun h1 h2 h3=>by
  unfold iH
  rw [<- hw,<- hts]
  exact if_pos ⟨h1,h2,h3⟩
 have hkc:kN w=0\/kN w=1\/kN w=2\/kN w=3\/kN w=4\/kN w=5\/kN w=6:=by
  rcases yW w with h | ⟨h,_⟩
  ·exact .inl h
  ·exact .inr (jv h)
 suffices H:∃ e,aa prog 9 (f9_M (Sb s)) (.tup [.agg e,B (iH s).isSome])/\REnd none e ((iH s).getD ⟨0,0,0,0,[],0,0,0⟩) by
  obtain ⟨e,h1,h2⟩:=H
  exact ⟨e,aw.of (f9_MR _) h1,h2⟩
 unfold f9_M
 have start:∀ {k:Nat} {r:TV} {K:TV->TV->Nat->Prg TV},kN w=(k:Int)->k<=6->aa prog 9 (K (I (k:Nat)) (.tup [vn,B bn]) k) r ->
   aa prog 9 (Prg.call 23 [Sb s,TV.lit (Value.int IntKind.u8 (32:Int))] fun v0=>Prg.chk (ab zSl [v0] 0) (Prg.nat (slLen v0) fun n1=>Prg.nat (al (TV.lit (Value.int IntKind.i64 (0:Int)))) fun n2 =>
    Prg.chk (Bool.and (slSize v0 1) (Nat.blt n2 n1)) (Prg.tvs (pel v0 n2) fun e3=>Prg.chk (ab cq e3 0) (Prg.call 29 [nth TV.hole e3 0] fun v4=>Prg.chk (ab aT [v4] 0) (Prg.call 25 [Ab.frz v0,TV.lit (Value.int IntKind.i64 (1:Int))] fun v5 =>
    Prg.chk (TV.isTup v5 2) (Prg.chk (ab zSl [TV.comp v5 0] 0) (Prg.chk (ab gm [TV.comp v5 1] 0) (Prg.nat (al v4) fun n6=>Prg.chk (Nat.blt n6 7) (K v4 v5 n6))))))))) r:=fun {k r K} hk hk6 hK=>by
  rw [hk] at hkk
  exact aa.call h0 (aa.chk hfit (aa.nat (RL.slLen hv) (aa.nat (v:=0) rfl (aa.chk hsz (aa.tvs he3 (aa.chk rfl (aa.call hkk (aa.chk rfl (aa.call hn (aa.chk rfl (aa.chk hfit2 (aa.chk rfl (aa.nat (v:=k) (by simp [al]; omega) (aa.chk (by simp; omega) hK))))))))))))))
 by_cases hk0:kN w=0
 ·rw [none_of fun h=>h.1 hk0]
  refine ⟨_,start (k:=0) hk0 (by omega) ?_,AG⟩
  exact aa.tv rfl (aa.tv (v:=B true) rfl (aa.ite (v:=true) rfl (fun _=>aa.ret) nofun))
 by_cases hQ:∀ n,n ∈ ts.map aA->0<=n
 case neg =>
  rw [none_of fun h=>hQ h.2.1]
  obtain ⟨rfl,_⟩:=hno hQ
  rcases hkc with h | h | h | h | h | h | h
  ·exact absurd h hk0
  all_goals refine ⟨_,start h (by decide) ?_,AG⟩
  all_goals exact aa.tv rfl (aa.tv (v:=B false) rfl (aa.ite (v:=false) rfl nofun fun _=>aa.tv (v:=B true) rfl (aa.ite (v:=true) rfl (fun _=>aa.ret) nofun)))
 obtain ⟨rfl,hl⟩:=hy hQ
 have hgood:=(i5 hQ).2
 have hlen:(ts.map aA).length=ts.length:=List.length_map _
 obtain ⟨l,hldef⟩:∃ l,l=ts.map aA:=⟨_,rfl⟩
 rw [<- hldef] at hl hgood hlen
 have hin:∀ {n:Int},n ∈ l->inI n:=fun h=>by have:=hgood _ h; constructor <;> omega
 have z:inI 0:=⟨by decide,by decide⟩
 have kI:∀ n:Int,0<=n/\n<=9->inI n:=fun n h=>by constructor <;> omega
 have hpl:plen (.slice 3) vn=some (I (ts.length:Nat)):=by rw [<- hlen]; exact RL.len hl
 by_cases hcnt:qq (kN w) ts.length
 case neg =>
  rw [none_of fun h=>hcnt h.2.2]
  rcases hkc with h | h | h | h | h | h | h
  ·exact absurd h hk0
  all_goals (rw [h] at hcnt; simp [qq] at hcnt; refine ⟨_,start h (by decide) ?_,AG⟩)
  all_goals refine aa.tv rfl (aa.tv (v:=B false) rfl (aa.ite (v:=false) rfl nofun fun _=>aa.tv (v:=B false) rfl (aa.ite (v:=false) rfl nofun fun _=>?_)))
  case inr.inr.inr.inr.inl =>
   refine aa.tv (v:=B false) rfl (aa.ite (v:=false) rfl nofun fun _=>aa.tv (v:=B true) rfl (aa.ite (v:=true) rfl (fun _=>aa.tv hpl (aa.tv rfl ?_)) nofun))
   by_cases h4:ts.length < 4
   ·exact aa.ite (v:=true) (by simp [asBool]; omega) (fun _=>aa.ret) nofun
   ·exact aa.ite (v:=false) (by simp [asBool]; omega) nofun fun _=>aa.tv hpl (aa.tv rfl (aa.ite (v:=true) (by simp [asBool]; have:=hcnt (by omega); omega) (fun _=>aa.ret) nofun))
  all_goals exact aa.tv (v:=B true) rfl (aa.ite (v:=true) rfl (fun _=>aa.tv hpl (aa.tv rfl (aa.ite (v:=true) (by simp [asBool]; omega) (fun _=>aa.ret) nofun))) nofun)
 rw [some_of hk0 hQ hcnt,<- hldef]
 show ∃ e,_/\REnd none e (mkE (kN w) l)
 rcases hkc with h | h | h | h | h | h | h
 ·exact absurd h hk0
 all_goals (rw [h] at hcnt ⊢; simp [qq] at hcnt)
 ·obtain ⟨a,rfl⟩:=ix (hlen.trans hcnt)
  rw [show (mkE 1 [a]:DEnd)=⟨1,a,0,0,[],0,0,0⟩ from by simp [mkE]]
  refine ⟨_,start h (by decide) ?_,⟨.lit af,rfl,.nil,kI 1 (by decide),hin (by simp),z,z,z,z,z⟩⟩
  refine aa.tv rfl (aa.tv (v:=B false) rfl (aa.ite (v:=false) rfl nofun fun _=>aa.tv (v:=B false) rfl (aa.ite (v:=false) rfl nofun fun _=>aa.tv (v:=B true) rfl (aa.ite (v:=true) rfl (fun _=>aa.tv hpl (aa.tv rfl (aa.ite (v:=false) (by simp [asBool]; omega) nofun fun _=>aa.tv (v:=B false) rfl (aa.ite (v:=false) rfl nofun fun _=>f9_0_J ?_)))) nofun))))
  unfold f9_0
  refine aa.chk rfl (aa.tv (v:=B true) rfl (aa.ite (v:=true) rfl (fun _=>f9_1_J ?_) nofun))
  unfold f9_1
  exact aa.ite (v:=true) rfl (fun _=>rdI hl (i:=0) rfl (by omega) aa.ret) nofun
 ·obtain ⟨a,rfl⟩:=ix (hlen.trans hcnt)
  rw [show (mkE 2 [a]:DEnd)=⟨2,0,0,0,[],a,0,0⟩ from by simp [mkE]]
  refine ⟨_,start h (by decide) ?_,⟨.lit af,rfl,.nil,kI 2 (by decide),z,z,z,hin (by simp),z,z⟩⟩
  refine aa.tv rfl (aa.tv (v:=B false) rfl (aa.ite (v:=false) rfl nofun fun _=>aa.tv (v:=B false) rfl (aa.ite (v:=false) rfl nofun fun _=>aa.tv (v:=B true) rfl (aa.ite (v:=true) rfl (fun _=>aa.tv hpl (aa.tv rfl (aa.ite (v:=false) (by simp [asBool]; omega) nofun fun _=>aa.tv (v:=B false) rfl (aa.ite (v:=false) rfl nofun fun _=>f9_0_J ?_)))) nofun))))
  unfold f9_0
  refine aa.chk rfl (aa.tv (v:=B false) rfl (aa.ite (v:=false) rfl nofun fun _=>aa.tv (v:=B false) rfl (f9_1_J ?_)))
  unfold f9_1
  exact aa.ite (v:=false) rfl nofun fun _=>aa.tv (v:=B true) rfl (aa.ite (v:=true) rfl (fun _=>rdI hl (i:=0) rfl (by omega) aa.ret) nofun)
 ·obtain ⟨a,b,c,rfl⟩:=len3 (hlen.trans hcnt)
  rw [show (mkE 3 [a,b,c]:DEnd)=⟨3,a,0,0,[],b,c,0⟩ from by simp [mkE]]
  refine ⟨_,start h (by decide) ?_,⟨.lit af,rfl,.nil,kI 3 (by decide),hin (by simp),z,z,hin (by simp),hin (by simp),z⟩⟩
  refine aa.tv rfl (aa.tv (v:=B false) rfl (aa.ite (v:=false) rfl nofun fun _=>aa.tv (v:=B false) rfl (aa.ite (v:=false) rfl nofun fun _=>aa.tv (v:=B true) rfl (aa.ite (v:=true) rfl (fun _=>aa.tv hpl (aa.tv rfl (aa.ite (v:=false) (by simp [asBool]; omega) nofun fun _=>aa.tv (v:=B false) rfl (aa.ite (v:=false) rfl nofun fun _=>f9_0_J ?_)))) nofun))))
  unfold f9_0
  refine aa.chk rfl (aa.tv (v:=B false) rfl (aa.ite (v:=false) rfl nofun fun _=>aa.tv (v:=B false) rfl (f9_1_J ?_)))
  unfold f9_1
  refine aa.ite (v:=false) rfl nofun fun _=>aa.tv (v:=B false) rfl (aa.ite (v:=false) rfl nofun fun _=>aa.tv (v:=B true) rfl (aa.ite (v:=true) rfl (fun _=>?_) nofun))
  exact rdI hl (i:=0) rfl (by omega) (rdI hl (i:=1) rfl (by omega) (rdI hl (i:=2) rfl (by omega) aa.ret))
 ·obtain ⟨a,b,c,d,r,rfl⟩:=len4m (l:=l) (by omega)
  obtain ⟨v',g1,g2⟩:=RL.so hl (k:=4) (by simp)
  rw [show (mkE 4 (a :: b :: c :: d :: r):DEnd)=⟨4,0,a,b,r,c,0,d⟩ from by simp [mkE]]
  refine ⟨_,start h (by decide) ?_,⟨v',rfl,RL.weak g2 fun _ _ h=>h,kI 4 (by decide),z,hin (by simp),hin (by simp),hin (by simp),z,hin (by simp)⟩⟩
  refine aa.tv rfl (aa.tv (v:=B false) rfl (aa.ite (v:=false) rfl nofun fun _=>aa.tv (v:=B false) rfl (aa.ite (v:=false) rfl nofun fun _=>aa.tv (v:=B false) rfl (aa.ite (v:=false) rfl nofun fun _=>aa.tv (v:=B true) rfl (aa.ite (v:=true) rfl (fun _=>aa.tv hpl (aa.tv rfl (aa.ite (v:=false) (by simp [asBool]; omega) nofun fun _=>aa.tv hpl (aa.tv rfl (aa.ite (v:=false) (by simp [asBool]; omega) nofun fun _=>f9_0_J ?_))))) nofun)))))
  unfold f9_0
  refine aa.chk rfl (aa.tv (v:=B false) rfl (aa.ite (v:=false) rfl nofun fun _=>aa.tv (v:=B false) rfl (f9_1_J ?_)))
  unfold f9_1
  refine aa.ite (v:=false) rfl nofun fun _=>aa.tv (v:=B false) rfl (aa.ite (v:=false) rfl nofun fun _=>aa.tv (v:=B false) rfl (aa.ite (v:=false) rfl nofun fun _=>aa.tv (v:=B true) rfl (aa.ite (v:=true) rfl (fun _=>?_) nofun)))
  refine rdI hl (i:=0) rfl (by omega) (rdI hl (i:=1) rfl (by omega) (rdI hl (i:=2) rfl (by omega) (rdI hl (i:=3) rfl (by omega) ?_)))
  refine aa.nat (RL.slLen hl) (aa.nat (v:=4) rfl (aa.chk ?_ (aa.tv g1 aa.ret)))
  show (slSize vn 1 && (4:Nat).ble (a :: b :: c :: d :: r).length && (a :: b :: c :: d :: r).length.ble (a :: b :: c :: d :: r).length)=true
  rw [RL.slSize hl]
  simp [Nat.ble_eq]
 ·obtain ⟨a,rfl⟩:=ix (hlen.trans hcnt)
  rw [show (mkE 5 [a]:DEnd)=⟨5,a,0,0,[],0,0,0⟩ from by simp [mkE]]
  refine ⟨_,start h (by decide) ?_,⟨.lit af,rfl,.nil,kI 5 (by decide),hin (by simp),z,z,z,z,z⟩⟩
  refine aa.tv rfl (aa.tv (v:=B false) rfl (aa.ite (v:=false) rfl nofun fun _=>aa.tv (v:=B false) rfl (aa.ite (v:=false) rfl nofun fun _=>aa.tv (v:=B true) rfl (aa.ite (v:=true) rfl (fun _=>aa.tv hpl (aa.tv rfl (aa.ite (v:=false) (by simp [asBool]; omega) nofun fun _=>aa.tv (v:=B false) rfl (aa.ite (v:=false) rfl nofun fun _=>f9_0_J ?_)))) nofun))))
  unfold f9_0
  refine aa.chk rfl (aa.tv (v:=B false) rfl (aa.ite (v:=false) rfl nofun fun _=>aa.tv (v:=B true) rfl (f9_1_J ?_)))
  unfold f9_1
  exact aa.ite (v:=true) rfl (fun _=>rdI hl (i:=0) rfl (by omega) aa.ret) nofun
 ·have:l=[]:=List.length_eq_zero_iff.1 (by rw [hlen,hcnt]; rfl)
  subst this
  rw [show (mkE 6 []:DEnd)=⟨6,0,0,0,[],0,0,0⟩ from by simp [mkE]]
  refine ⟨_,start h (by decide) ?_,⟨.lit af,rfl,.nil,kI 6 (by decide),z,z,z,z,z,z⟩⟩
  refine aa.tv rfl (aa.tv (v:=B false) rfl (aa.ite (v:=false) rfl nofun fun _=>aa.tv (v:=B false) rfl (aa.ite (v:=false) rfl nofun fun _=>aa.tv (v:=B true) rfl (aa.ite (v:=true) rfl (fun _=>aa.tv hpl (aa.tv rfl (aa.ite (v:=false) (by simp [asBool]; exact hcnt) nofun fun _=>aa.tv (v:=B false) rfl (aa.ite (v:=false) rfl nofun fun _=>f9_0_J ?_)))) nofun))))
  unfold f9_0
  refine aa.chk rfl (aa.tv (v:=B false) rfl (aa.ite (v:=false) rfl nofun fun _=>aa.tv (v:=B false) rfl (f9_1_J ?_)))
  unfold f9_1
  exact aa.ite (v:=false) rfl nofun fun _=>aa.tv (v:=B false) rfl (aa.ite (v:=false) rfl nofun fun _=>aa.tv (v:=B false) rfl (aa.ite (v:=false) rfl nofun fun _=>aa.tv (v:=B false) rfl (aa.ite (v:=false) rfl nofun fun _=>aa.ret)))
end Go.Ab.Z14
end
section
set_option maxRecDepth 20000
namespace Go.Ab
open Go.Ab.Z14
end Go.Ab
namespace Go.Ab.Z14
open Go Go.Ab Go.Proofs
theorem yx (s:List UInt8):aw prog 21 [Sb s] (I (opN s)):=by
 refine aw.of (f21_MR _) ?_
 unfold f21_M opN
 repeat' refine aa.tv (dh s _) (aa.ite (v:=decide _) rfl (fun h=>?_) (fun h=>?_))
 all_goals (simp only [decide_eq_true_eq,decide_eq_false_iff_not] at *; simp only [*,if_true,if_false]; exact aa.ret)
theorem pV (s:List UInt8):aw prog 27 [Sb s] (I (kN s)):=by
 refine aw.of (f27_MR _) ?_
 unfold f27_M kN
 repeat' refine aa.tv (dh s _) (aa.ite (v:=decide _) rfl (fun h=>?_) (fun h=>?_))
 all_goals (simp only [decide_eq_true_eq,decide_eq_false_iff_not] at *; simp only [*,if_true,if_false]; exact aa.ret)
theorem iEq (a b:Int):pbin (.int .i64) .eql (I a) (I b)=some (B (decide (a=b))):=by
 by_cases h:a=b
 ·subst h; simp [pbin,fV]
 ·simp [pbin,fV,h]
end Go.Ab.Z14
end

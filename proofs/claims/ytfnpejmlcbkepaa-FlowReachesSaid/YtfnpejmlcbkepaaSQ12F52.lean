import Derived.Test.YtfnpejmlcbkepaaSQ12F34
set_option linter.all false
section
set_option maxRecDepth 10000
namespace Go.Ab
structure DMach where
 stack:List DFrame
 cells:List Int
 inputs:List Int
 events:List Int
 done:Int
 value:Int
def DMach.c (s:DMach) (k:Nat):Int:=s.cells.getD k 0
def DMach.ok (s:DMach):Prop:=s.cells.length=16/\(∀ k,inW (s.c k))/\inI s.done/\inW s.value
def aH (s:DMach) (g i v:TV):List TV:=[g,W (s.c 0),W (s.c 1),W (s.c 2),W (s.c 3),W (s.c 4),W (s.c 5),W (s.c 6),W (s.c 7),W (s.c 8),W (s.c 9),W (s.c 10),W (s.c 11),W (s.c 12),W (s.c 13),W (s.c 14),W (s.c 15),i,v,I s.done,W s.value]
def RMach (e:List TV) (s:DMach):Prop:=∃ g i v,e=aH s g i v/\RL none 5 (RFrame none) g s.stack/\RWords none i s.inputs/\RInts none v s.events/\s.ok
def Cj:List Value:=[.slice none 0 0,.int .u16 0,.int .u16 0,.int .u16 0,.int .u16 0,.int .u16 0,.int .u16 0,.int .u16 0,.int .u16 0,.int .u16 0,.int .u16 0,.int .u16 0,.int .u16 0,.int .u16 0,.int .u16 0,.int .u16 0,.int .u16 0,.slice none 0 0,.slice none 0 0,.int .i64 0,.int .u16 0]
theorem Cy {s:DMach} {g i v:TV} (h1:g.isSl=true) (h2:i.isSl=true) (h3:v.isSl=true):(Bool.and ((TV.agg (aH s g i v)).isAgg 21) (ab Cj ((TV.agg (aH s g i v)).cellsL true) 0))=true:=by
 simp [ab,TV.isAgg,TV.cellsL,Cj,aH,aO,h1,h2,h3,TV.isSc,scV]
theorem dec {n:Nat} (h:0 < n) (hn:n<=9223372036854775807):pbin (.int .i64) .sub (I (n:Int)) (I (1:Int))=some (I ((n - 1:Nat):Int)):=by
 have h1:IntKind.i64.wrap ((n:Int) - 1)=((n - 1:Nat):Int):=by rw [IntKind.wrap_i64]; omega
 show some (TV.lit (.int .i64 (IntKind.i64.wrap ((n:Int) - 1))))=_
 rw [h1]
theorem aM {n:Nat} (h:n<=9223372036854775807):ak (I (n:Int))=some n:=by
 have:=aV (n:=(n:Int)) (by omega) ⟨by omega,by omega⟩
 simpa using this
def cG (s:DMach) (f:DFrame):DMach:={ s with stack:=s.stack.take (s.stack.length - 1) ++ [f] }
def bO (s:DMach) (how w:Int):DMach:={ s with done:=how,value:=w }
def aJ (regs places:List Int):List Int:=places.map fun p=>regs.getD p.toNat 0
def i5 (s:DMach):Option DFrame:=s.stack[s.stack.length - 1]?
def bJ (m:DMod) (s:DMach) (n:Int) (places:List Int):DMach :=
 if 32<=s.stack.length then bO s 5 0 else
 match i5 s with
 | none=>s
 | some f=>{ s with stack:=s.stack ++ [(jb m n (aJ f.regs places)).getD eR] }
end Go.Ab
namespace Go.Ab.Q12
open Go Go.Ab Go.Proofs
end Go.Ab.Q12
end
section
set_option maxRecDepth 10000
namespace Go.Ab
theorem oM {regs places:List Int} {k:Nat} {p:Int} (h:places[k]? = some p):aJ regs (places.take (k + 1))=aJ regs (places.take k) ++ [regs.getD p.toNat 0]:=by
 unfold aJ
 rw [List.take_add_one,h]
 simp
theorem bH {regs places:List Int}:(aJ regs places).length=places.length:=by simp [aJ]
theorem iC {l:List Int} {n:Nat} {a:Int} (h:l[n]? = some a):l.getD n 0=a:=by simp [List.getD,h]
end Go.Ab
namespace Go.Ab.Q12
open Go Go.Ab Go.Proofs
end Go.Ab.Q12
end
section
set_option maxRecDepth 10000
namespace Go.Ab
def fa (m:DMod) (f:DFrame) (w:Int) (cl:Bool):Prop :=
 ∃ u b p,m.funcs[f.f.toNat]? = some u/\u.blocks[f.block.toNat]? = some b/\f.at_=b.ins.length/\b.fin.kind=4/\u.blocks[b.fin.pad.toNat]? = some p/\((p.pad.all=true\/w ∈ p.pad.catches)\/cl=true/\p.pad.cleanup=true)
open Classical in
noncomputable def na (P:Nat->Prop):Nat->Option Nat
 | 0=>none
 | n + 1=>if P n then some n else na P n
theorem uQ {P:Nat->Prop} {k:Nat} (h:P k):∀ {n:Nat},k < n->(∀ j,k < j->j < n->¬ P j)->na P n=some k
 | 0,hk,_=>absurd hk (Nat.not_lt_zero _)
 | n + 1, hk, hn => by
  by_cases he:k=n
  ·subst he
   simp [na,h]
  ·simp only [na]
   rw [if_neg (hn n (by omega) (by omega))]
   exact uQ h (by omega) fun j h1 h2=>hn j h1 (by omega)
def jV (m:DMod) (f:DFrame):Int:=((((m.funcs[f.f.toNat]?).bind fun u=>u.blocks[f.block.toNat]?).map fun b=>b.fin.pad).getD 0)
def ce (m:DMod) (l:List DFrame) (w:Int) (cl:Bool) (i:Nat):Prop:=∃ f,l[i]? = some f/\fa m f w cl
open Classical in
noncomputable def be (m:DMod) (s:DMach) (w:Int):DMach :=
 if ∃ i,ce m (s.stack.take (s.stack.length - 1)) w false i then
  match na (ce m (s.stack.take (s.stack.length - 1)) w true) (s.stack.length - 1) with
  | none=>s
  | some k=>match s.stack[k]? with
   | none=>s
   | some f=>cG { s with stack:=s.stack.take (k + 1) } ((ik m f (jV m f) w).getD f)
 else bO { s with stack:=s.stack.take (s.stack.length - 1) } 2 w
end Go.Ab
namespace Go.Ab.Q12
open Go Go.Ab Go.Proofs
theorem iM {m:DMod} {g:DFunc} {b:DBlock} {n k:Nat} (h:bP m) (hg:m.funcs[n]? = some g) (hb:g.blocks[k]? = some b):pH m.funcs g.regs g.blocks b :=
 (iP h hg).2.2.2 k (EJ.1 hb).1 b hb
theorem oE {m:DMod} {g:DFunc} {b:DBlock} {n k:Nat} (h:bP m) (hg:m.funcs[n]? = some g) (hb:g.blocks[k]? = some b) (h4:b.fin.kind=4):lA g.blocks b.fin.pad true:=by
 have:=(iM h hg hb).2.2.2.2.2.2.2.2.2.1
 rw [h4] at this
 exact this rfl
theorem iD {m:DMod} {f:DFrame} (h:bP m) (hQ:cJ m f):f.regs.length<=256:=by
 obtain ⟨h0,u,hu,hL,_⟩:=hQ
 have:=sG h hu
 omega
end Go.Ab.Q12
end
section
set_option maxRecDepth 10000
namespace Go.Ab
theorem xF {a:Int} (ha:inW a):pconv (.int .i64) (W a)=some (I a):=by
 simp only [pconv]
 rw [IntKind.wrap_i64]
 have:=ha.1
 have:=ha.2
 congr 3
 omega
theorem nth16 (F:Nat->TV) {n:Nat} (h:n < 16):pnth n [F 0,F 1,F 2,F 3,F 4,F 5,F 6,F 7,F 8,F 9,F 10,F 11,F 12,F 13,F 14,F 15]=some (F n):=by
 match n,h with
 | 0,_=>rfl
 | 1,_=>rfl
 | 2,_=>rfl
 | 3,_=>rfl
 | 4,_=>rfl
 | 5,_=>rfl
 | 6,_=>rfl
 | 7,_=>rfl
 | 8,_=>rfl
 | 9,_=>rfl
 | 10,_=>rfl
 | 11,_=>rfl
 | 12,_=>rfl
 | 13,_=>rfl
 | 14,_=>rfl
 | 15,_=>rfl
 | n + 16,h=>omega
def upF (f:DFrame):DFrame:={ f with at_:=IntKind.i64.wrap (f.at_ + 1) }
def mS (f:DFrame) (n w:Int):DFrame:={ f with regs:=f.regs.set n.toNat w }
def aY (m:DMod) (f:DFrame):Option DBlock:=(m.funcs[f.f.toNat]?).bind fun u=>u.blocks[f.block.toNat]?
open Classical in
noncomputable def bQ (m:DMod) (s:DMach) (w:Int):DMach :=
 match s.stack[s.stack.length - 2]? with
 | none=>s
 | some f => if s.stack.length ≤ 1 then bO { s with stack := [] } 1 w else
  match aY m f with
  | none=>s
  | some b=>if f.at_=b.ins.length then cG { s with stack:=s.stack.take (s.stack.length - 1) } { mS f b.fin.dst w with block:=b.fin.to,at_:=0 } else
   match b.ins[f.at_.toNat]? with
   | none=>s
   | some x=>cG { s with stack:=s.stack.take (s.stack.length - 1) } (upF (mS f x.dst w))
def reg (f:DFrame) (n:Int):Int:=f.regs.getD n.toNat 0
def eQ (s:DMach) (n:Nat) (w:Int):DMach:={ s with cells:=s.cells.set n w }
def eF (m:DMod) (s:DMach) (f:DFrame) (x:DIns):DMach :=
 if x.op=11 then bJ m s x.f x.args else
 if x.op<=8 then (if (df f x).2=true then cG s (df f x).1 else bO s 3 0) else
 if x.op=9 then (if 16<=reg f x.a then bO s 4 0 else cG s (upF (mS f x.dst (s.c (reg f x.a).toNat)))) else
 if x.op=10 then (if 16<=reg f x.a then bO s 4 0 else cG (eQ s (reg f x.a).toNat (reg f x.b)) (upF f)) else
 if x.op=12 then cG { s with events:=s.events ++ [reg f x.a] } (upF f) else
 match s.inputs with
 | []=>bO s 6 0
 | a :: l=>cG { s with events:=s.events ++ [a + 65536],inputs:=l } (upF (mS f x.dst a))
theorem Ai {s:DMach} {n j:Nat} {w:Int} (hl:s.cells.length=16) (hj:j < 16):iq n j (W w) (W (s.c j))=W ((eQ s n w).c j):=by
 have hl':j < s.cells.length:=by omega
 by_cases h:n=j
 ·subst h
  simp [iq,eQ,DMach.c,List.getD,List.getElem?_set_self hl']
 ·have hb:n.beq j=false:=by
   cases h':n.beq j with
   | false=>rfl
   | true=>exact absurd (Nat.eq_of_beq_eq_true h') h
  simp [iq,hb,eQ,DMach.c,List.getD,List.getElem?_set_ne h]
theorem yP {s:DMach} {n:Nat} {w:Int} (h:∀ k,inW (s.c k)) (hw:inW w) (k:Nat):inW ((eQ s n w).c k):=by
 have hk:=h k
 simp only [DMach.c,eQ,List.getD,List.getElem?_set] at hk ⊢
 split
 ·split
  ·exact hw
  ·exact nY
 ·exact hk
end Go.Ab
namespace Go.Ab.Q12
open Go Go.Ab Go.Proofs
theorem D8 {op:Int} (h:has (li op) 1=true):1<=op/\op<=13:=by
 by_cases hn:1<=op/\op<=13
 ·exact hn
 ·have:li op=0:=by
   unfold li
   repeat rw [if_neg (by omega)]
  rw [this] at h
  exact absurd h (by decide)
end Go.Ab.Q12
end
section
set_option maxRecDepth 10000
namespace Go.Ab
def sZ (m:DMod) (f g:DFrame):Prop :=
 ∃ u b,m.funcs[f.f.toNat]? = some u/\u.blocks[f.block.toNat]? = some b/\((f.at_=b.ins.length/\b.fin.kind=4/\b.fin.f=g.f)\/(¬ f.at_=b.ins.length/\∃ x,b.ins[f.at_.toNat]? = some x/\x.op=11/\x.f=g.f))
def cH (m:DMod) (s:DMach):Prop :=
 (0<=s.done/\s.done<=6)/\s.stack.length<=32/\(s.done=0->0 < s.stack.length)/\(∀ (k:Nat) f,s.stack[k]? = some f->cJ m f)/\∀ (k:Nat) f g,s.stack[k]? = some f->s.stack[k + 1]? = some g->sZ m f g
theorem qt {x:TV} {k j:Nat} {e:List TV} {y:TV} (h:pel x k=some e) (hj:e[j]? = some y):aE [(k,j)] x=some y:=by
 cases x <;> simp [pel] at h
 simp [aE,h,hj]
noncomputable def fI (m:DMod) (s:DMach):DMach :=
  if ¬ s.done=0 then s else
  match i5 s with
  | none=>s
  | some f => match aY m f with
    | none=>s
    | some b => if f.at_ = b.ins.length then
        (if b.fin.kind = 1 then bQ m s (reg f b.fin.a) else
         if b.fin.kind=4 then bJ m s b.fin.f b.fin.args else
         if b.fin.kind=5 then be m s (reg f b.fin.a) else
         if b.fin.kind=6 then be m s f.fly else
         if b.fin.kind=3/\reg f b.fin.a=0 then cG s { f with block:=b.fin.els,at_:=0 } else cG s { f with block:=b.fin.to,at_:=0 })
      else match b.ins[f.at_.toNat]? with
        | none=>s
        | some x=>eF m s f x
end Go.Ab
namespace Go.Ab.Q12
open Go Go.Ab Go.Proofs
theorem qP {m:DMod} {g:DFunc} {b:DBlock} {x:DIns} {n k j:Nat} (h:bP m) (hg:m.funcs[n]? = some g) (hb:g.blocks[k]? = some b) (hx:b.ins[j]? = some x):oc m.funcs g.regs x :=
 (iM h hg hb).2.2.1 j (EJ.1 hx).1 x hx
theorem lZ {m:DMod} {g:DFunc} {b:DBlock} {n k:Nat} (h:bP m) (hg:m.funcs[n]? = some g) (hb:g.blocks[k]? = some b):tM m.funcs g.regs g.blocks b.fin :=
 (iM h hg hb).2.2.2
end Go.Ab.Q12
end
section
set_option maxRecDepth 10000
namespace Go.Ab.Q12
open Go Go.Ab Go.Proofs
theorem rR {k:Int} (h:has (dR k) 1=true):1<=k/\k<=6:=by
 by_cases hn:1<=k/\k<=6
 ·exact hn
 ·have:dR k=0:=by
   unfold dR
   repeat rw [if_neg (by omega)]
  rw [this] at h
  exact absurd h (by decide)
end Go.Ab.Q12
end
section
set_option maxRecDepth 10000
namespace Go.Ab
def gh (m:DMod) (l:List DFrame):Prop:=(∀ (k:Nat) f,l[k]? = some f->cJ m f)/\∀ (k:Nat) f g,l[k]? = some f->l[k + 1]? = some g->sZ m f g
theorem gh.take {m:DMod} {l:List DFrame} (h:gh m l) (n:Nat):gh m (l.take n):=by
 have key:∀ (k:Nat) (f:DFrame),(l.take n)[k]? = some f->l[k]? = some f:=by
  intro k f hk
  rw [List.getElem?_take] at hk
  split at hk
  ·exact hk
  ·cases hk
 exact ⟨fun k f hk=>h.1 k f (key k f hk),fun k f g hf hg=>h.2 k f g (key k f hf) (key _ g hg)⟩
theorem jq {α:Type} {l:List α} {a b:α} {k:Nat} (h:(l ++ [a])[k]? = some b):(k < l.length/\l[k]? = some b)\/(k=l.length/\b=a):=by
 by_cases hk:k < l.length
 ·rw [ET hk] at h
  exact .inl ⟨hk,h⟩
 ·rw [EU (by omega)] at h
  have:=(EJ.1 h).1
  simp at this
  have hk:k=l.length:=by omega
  subst hk
  simp at h
  exact .inr ⟨rfl,h.symm⟩
theorem xp {α:Type} {l:List α} {a:α}:(l ++ [a])[l.length]? = some a:=by simp
theorem sZ.to {m:DMod} {f g g':DFrame} (h:sZ m f g) (hf:g'.f=g.f):sZ m f g':=by
 obtain ⟨u,b,hu,hb,h⟩:=h
 refine ⟨u,b,hu,hb,?_⟩
 rw [hf]
 exact h
theorem gh.top {m:DMod} {l:List DFrame} {f0 f:DFrame} (h:gh m (l ++ [f0])) (hf:cJ m f) (he:f.f=f0.f):gh m (l ++ [f]):=by
 have key:∀ (k:Nat) (g:DFrame),k < l.length->l[k]? = some g->(l ++ [f0])[k]? = some g:=fun k g hk hg=>by rw [ET hk]; exact hg
 refine ⟨fun k g hg=>?_,fun k g g' hg hg'=>?_⟩
 ·rcases jq hg with ⟨hk,hg⟩ | ⟨_,rfl⟩
  ·exact h.1 k g (key k g hk hg)
  ·exact hf
 ·rcases jq hg' with ⟨hk',hg'⟩ | ⟨hk',rfl⟩
  ·rcases jq hg with ⟨hk,hg⟩ | ⟨hk,rfl⟩
   ·exact h.2 k g g' (key k g hk hg) (key _ g' hk' hg')
   ·omega
  ·rcases jq hg with ⟨hk,hg⟩ | ⟨hk,rfl⟩
   ·exact (h.2 k g f0 (key k g hk hg) (by rw [hk']; exact xp)).to he
   ·omega
theorem gh.push {m:DMod} {l:List DFrame} {f0 g:DFrame} (h:gh m (l ++ [f0])) (hg:cJ m g) (hl:sZ m f0 g):gh m (l ++ [f0] ++ [g]):=by
 refine ⟨fun k x hx=>?_,fun k x y hx hy=>?_⟩
 ·rcases jq hx with ⟨_,hx⟩ | ⟨_,rfl⟩
  ·exact h.1 k x hx
  ·exact hg
 ·rcases jq hy with ⟨_,hy⟩ | ⟨hk',rfl⟩
  ·rcases jq hx with ⟨_,hx⟩ | ⟨hk,rfl⟩
   ·exact h.2 k x y hx hy
   ·have:=(EJ.1 hy).1
    omega
  ·rcases jq hx with ⟨_,hx⟩ | ⟨hk,rfl⟩
   ·have hk:k=l.length:=by simp at hk'; omega
    rw [hk,xp] at hx
    cases hx
    exact hl
   ·omega
theorem uJ {l:List DFrame} {f:DFrame} (h:l[l.length - 1]? = some f):l=l.take (l.length - 1) ++ [f]:=by
 have hlt:=(EJ.1 h).1
 have h1:l.take (l.length - 1 + 1)=l.take (l.length - 1) ++ [f]:=by rw [List.take_add_one,h]; rfl
 rw [show l.length - 1 + 1=l.length by omega,List.take_length] at h1
 exact h1
theorem cH.st {m:DMod} {s:DMach} (h:cH m s):gh m s.stack:=h.2.2.2
theorem cg {m:DMod} {s:DMach} {f0 f:DFrame} (hd:0<=s.done/\s.done<=6) (hl:s.stack.length<=32) (hs:gh m s.stack) (ht:i5 s=some f0) (hf:cJ m f) (he:f.f=f0.f):cH m (cG s f):=by
 have hst:=uJ ht
 have hlt:=(EJ.1 ht).1
 refine ⟨hd,?_,fun _=>?_,?_⟩
 ·simp [cG]; omega
 ·simp [cG]
 ·rw [hst] at hs
  exact hs.top hf he
theorem dV {m:DMod} {s:DMach} {how w:Int} (hl:s.stack.length<=32) (hs:gh m s.stack) (h:1<=how/\how<=6):cH m (bO s how w) :=
 ⟨⟨by show 0<=how; omega,h.2⟩,hl,fun h0=>by have h0:how=0:=h0; omega,hs⟩
theorem AF {m:DMod} {f:DFrame} {b:DBlock} {n:Int} (h:cJ m f) (hb:aY m f=some b) (h0:0<=n) (h1:n<=b.ins.length):cJ m { f with at_:=n }:=by
 obtain ⟨hf0,u,hu,hL,hb0,b',hb',_⟩:=h
 have:b'=b:=by
  have:aY m f=some b':=by simp [aY,hu,hb']
  rw [hb] at this
  cases this
  rfl
 subst this
 exact ⟨hf0,u,hu,hL,hb0,b',hb',h0,h1⟩
theorem ng {m:DMod} {f:DFrame} {n w:Int} (h:cJ m f):cJ m (mS f n w):=by
 obtain ⟨hf0,u,hu,hL,hr⟩:=h
 exact ⟨hf0,u,hu,by simpa [mS] using hL,hr⟩
theorem mi {m:DMod} {f:DFrame} {u:DFunc} {l:Bool} {n:Int} (h:cJ m f) (hu:m.funcs[f.f.toNat]? = some u) (hg:lA u.blocks n l):cJ m { f with block:=n,at_:=0 }:=by
 obtain ⟨hf0,u',hu',hL,_⟩:=h
 rw [hu] at hu'
 cases hu'
 obtain ⟨h0,b,hb,_⟩:=hg
 exact ⟨hf0,u,hu,hL,h0,b,hb,Int.le_refl 0,by simp⟩
end Go.Ab
namespace Go.Ab.Q12
open Go Go.Ab Go.Proofs
theorem oR {m:DMod} {n:Int} {args:List Int} {u:DFunc} (hM:bP m) (h0:0<=n) (hu:m.funcs[n.toNat]? = some u) (ha:(args.length:Int)=u.params) :
  cJ m ((jb m n args).getD eR)/\((jb m n args).getD eR).f=n:=by
 have hT:jb m n args=some ⟨n,0,0,args.take u.regs.toNat ++ List.replicate (u.regs.toNat - args.length) 0,0⟩:=by simp [jb,h0,hu,ha]
 rw [hT]
 have hf:=iP hM hu
 obtain ⟨b,hb,_⟩:=hf.2.2.1
 have hr:=sG hM hu
 refine ⟨⟨h0,u,hu,?_,Int.le_refl 0,b,hb,Int.le_refl 0,by simp⟩,rfl⟩
 simp
 omega
theorem nZ {m:DMod} {s:DMach} {n regs:Int} {places:List Int} {f:DFrame} (hM:bP m) (hQ:cH m s) (ht:i5 s=some f) (ha:xb m.funcs regs n places) (hl:∀ g:DFrame,g.f=n->sZ m f g):cH m (bJ m s n places):=by
 obtain ⟨h0,u,hu,hul,_⟩:=ha
 by_cases h32:32<=s.stack.length
 ·have hT:bJ m s n places=bO s 5 0:=by simp [bJ,h32]
  rw [hT]
  exact dV hQ.2.1 hQ.st (by omega)
 ·have hT:bJ m s n places={ s with stack:=s.stack ++ [(jb m n (aJ f.regs places)).getD eR] }:=by simp [bJ,h32,ht]
  rw [hT]
  obtain ⟨hf,hn⟩:=oR (args:=aJ f.regs places) hM h0 hu (by rw [bH]; exact hul)
  refine ⟨hQ.1,?_,fun _=>?_,?_⟩
  ·simp; omega
  ·simp
  ·have hst:=uJ ht
   have hs:=hQ.st
   show gh m (s.stack ++ [_])
   rw [hst] at hs ⊢
   exact hs.push hf (hl _ hn)
theorem land_f {m:DMod} {f:DFrame} {pad w:Int}:((ik m f pad w).getD f).f=f.f:=by
 unfold ik
 cases m.funcs[f.f.toNat]? with
 | none=>rfl
 | some g =>
  simp only [Option.bind_some]
  split
  ·cases g.blocks[pad.toNat]? with
   | none=>rfl
   | some b =>
    simp only [Option.bind_some]
    split <;> rfl
  ·rfl
theorem vW {m:DMod} {f:DFrame} {pad w:Int} (h:cJ m f):cJ m ((ik m f pad w).getD f):=by
 obtain ⟨h0,u,hu,hL,hr⟩:=h
 have hf:cJ m f:=⟨h0,u,hu,hL,hr⟩
 by_cases hG:lA u.blocks pad true
 ·obtain ⟨hp0,b,hb,hl⟩:=hG
  rw [s6 hu hp0 hb hl]
  exact ⟨h0,u,hu,by simpa using hL,hp0,b,hb,Int.le_refl 0,by simp⟩
 ·rw [yu hu hG]
  exact hf
theorem oK {m:DMod} {s:DMach} {w:Int} (hQ:cH m s):cH m (be m s w):=by
 unfold be
 split
 ·split
  ·exact hQ
  ·rename_i k hk
   split
   ·exact hQ
   ·rename_i f hf
    have hlt:=(EJ.1 hf).1
    refine cg (s:={ s with stack:=s.stack.take (k + 1) }) (f0:=f) hQ.1 ?_ (hQ.st.take _) ?_ (vW (hQ.st.1 k f hf)) land_f
    ·have:=hQ.2.1
     simp; omega
    ·simp only [i5,List.length_take]
     rw [List.getElem?_take,if_pos (by omega),<- hf]
     congr 1
     omega
 ·exact dV (by have:=hQ.2.1; simp; omega) (hQ.st.take _) (by omega)
theorem up_at {f:DFrame} {n:Nat} (h0:0<=f.at_) (h1:f.at_ < n) (hn:n<=64):IntKind.i64.wrap (f.at_ + 1)=f.at_ + 1:=by
 rw [IntKind.wrap_i64]; omega
theorem oZ {m:DMod} {f:DFrame} {b:DBlock} (hM:bP m) (h:cJ m f) (hb:aY m f=some b) (hlt:f.at_.toNat < b.ins.length):cJ m (upF f):=by
 have hc:=h
 obtain ⟨hf0,u,hu,hL,hb0,b',hb',h0,h1⟩:=hc
 have:aY m f=some b':=by simp [aY,hu,hb']
 rw [hb] at this
 cases this
 have h64:=(iM hM hu hb').1
 have hw:=up_at (n:=b.ins.length) h0 (by omega) h64
 have:=AF (n:=IntKind.i64.wrap (f.at_ + 1)) h hb (by omega) (by omega)
 exact this
end Go.Ab.Q12
end
section
set_option maxRecDepth 10000
namespace Go.Ab
theorem oI {f:DFrame} {x:DIns}:(df f x).1=f\/∃ w,(df f x).1=upF (mS f x.dst w):=by
 unfold df
 cases en f.regs x with
 | none=>exact .inl rfl
 | some w =>
  simp only
  split
  ·exact .inr ⟨w,rfl⟩
  ·exact .inl rfl
end Go.Ab
namespace Go.Ab.Q12
open Go Go.Ab Go.Proofs
theorem sN {m:DMod} {s:DMach} {w:Int} (hM:bP m) (hQ:cH m s):cH m (bQ m s w):=by
 unfold bQ
 split
 ·exact hQ
 ·rename_i f hf
  split
  ·rename_i h1
   refine dV (s:={ s with stack:=[] }) (by simp) ⟨fun k f hk=>?_,fun k f g hk=>?_⟩ (by omega)
   ·simp at hk
   ·simp at hk
  ·rename_i h1
   have hF:=hQ.st.1 _ f hf
   have htop:i5 { s with stack:=s.stack.take (s.stack.length - 1) }=some f:=by
    simp only [i5,List.length_take]
    rw [List.getElem?_take,if_pos (by omega),<- hf]
    congr 1
    omega
   have hlen:({ s with stack:=s.stack.take (s.stack.length - 1) }:DMach).stack.length<=32:=by
    have:=hQ.2.1
    simp; omega
   obtain ⟨f2,hf2⟩:∃ f,s.stack[s.stack.length - 2 + 1]? = some f:=⟨_,EK (by omega)⟩
   obtain ⟨u,b,hu,hb,hlink⟩:=hQ.st.2 _ f f2 hf hf2
   have hbo:aY m f=some b:=by simp [aY,hu,hb]
   rw [hbo]
   simp only
   split
   ·rename_i hat
    have h4:b.fin.kind=4:=by
     rcases hlink with ⟨_,h,_⟩ | ⟨h,_⟩
     ·exact h
     ·exact absurd hat h
    have hE:=(lZ hM hu hb).2.2.2.2.1.1
    rw [h4] at hE
    have hg:=mi (f:=mS f b.fin.dst w) (ng hF) hu (hE rfl)
    exact cg hQ.1 hlen (hQ.st.take _) htop hg rfl
   ·rename_i hat
    split
    ·exact hQ
    ·rename_i x hx
     have hup:=oZ (f:=mS f x.dst w) hM (ng hF) hbo (EJ.1 hx).1
     exact cg hQ.1 hlen (hQ.st.take _) htop hup rfl
theorem Al {m:DMod} {s:DMach} {f:DFrame} {b:DBlock} {x:DIns} (hM:bP m) (hQ:cH m s) (ht:i5 s=some f) (hb:aY m f=some b) (hat:¬ f.at_=b.ins.length) (hx:b.ins[f.at_.toNat]? = some x) (hI:oc m.funcs f.regs.length x):cH m (eF m s f x):=by
 have hF:=hQ.st.1 _ f ht
 have hlt:=(EJ.1 hx).1
 have hup:∀ n w,cJ m (upF (mS f n w)):=fun n w=>oZ (f:=mS f n w) hM (ng hF) hb hlt
 have hup0:cJ m (upF f):=oZ hM hF hb hlt
 unfold eF
 split
 ·rename_i h11
  have hc:=hI.2.2.2.2.2.1
  rw [h11] at hc
  refine nZ hM hQ ht (hc rfl) fun g hg=>?_
  obtain ⟨_,u,hu,_,_,b',hb',_⟩:=hF
  have:aY m f=some b':=by simp [aY,hu,hb']
  rw [hb] at this
  cases this
  exact ⟨u,b,hu,hb',.inr ⟨hat,x,hx,h11,hg.symm⟩⟩
 split
 ·split
  ·rcases oI (f:=f) (x:=x) with h | ⟨w,h⟩
   ·rw [h]; exact cg hQ.1 hQ.2.1 hQ.st ht hF rfl
   ·rw [h]; exact cg hQ.1 hQ.2.1 hQ.st ht (hup _ _) rfl
  ·exact dV hQ.2.1 hQ.st (by omega)
 split
 ·split
  ·exact dV hQ.2.1 hQ.st (by omega)
  ·exact cg hQ.1 hQ.2.1 hQ.st ht (hup _ _) rfl
 split
 ·split
  ·exact dV hQ.2.1 hQ.st (by omega)
  ·exact cg (s:=eQ s (reg f x.a).toNat (reg f x.b)) hQ.1 hQ.2.1 hQ.st ht hup0 rfl
 split
 ·exact cg (s:={ s with events:=s.events ++ [reg f x.a] }) hQ.1 hQ.2.1 hQ.st ht hup0 rfl
 split
 ·exact dV hQ.2.1 hQ.st (by omega)
 ·rename_i a l _
  exact cg (s:={ s with events:=s.events ++ [a + 65536],inputs:=l }) hQ.1 hQ.2.1 hQ.st ht (hup _ _) rfl
theorem sI {m:DMod} {s:DMach} (hM:bP m) (hQ:cH m s):cH m (fI m s):=by
 unfold fI
 split
 ·exact hQ
 split
 ·exact hQ
 rename_i f ht
 have hF:=hQ.st.1 _ f ht
 have hF':=hF
 obtain ⟨hf0,u,hu,hLr,hb0,b,hb,ha0,ha1⟩:=hF
 have hbo:aY m f=some b:=by simp [aY,hu,hb]
 rw [hbo]
 simp only
 have hE:=lZ hM hu hb
 have hk:=rR hE.1
 split
 ·rename_i hat
  split
  ·exact sN hM hQ
  split
  ·rename_i h4
   have hc:=hE.2.2.2.1.1
   rw [h4] at hc
   exact nZ hM hQ ht (hc rfl) fun g hg=>⟨u,b,hu,hb,.inl ⟨hat,h4,hg.symm⟩⟩
  split
  ·exact oK hQ
  split
  ·exact oK hQ
  split
  ·rename_i h3
   have hc:=hE.2.2.2.2.2.1.1
   rw [h3.1] at hc
   exact cg hQ.1 hQ.2.1 hQ.st ht (mi hF' hu (hc rfl)) rfl
  ·rename_i h1 h4 h5 h6 h3
   have h23:b.fin.kind=2\/b.fin.kind=3:=by omega
   have hc:=hE.2.2.2.2.1.1
   rcases h23 with h | h
   ·rw [h] at hc
    exact cg hQ.1 hQ.2.1 hQ.st ht (mi hF' hu (hc rfl)) rfl
   ·rw [h] at hc
    exact cg hQ.1 hQ.2.1 hQ.st ht (mi hF' hu (hc rfl)) rfl
 ·rename_i hat
  split
  ·exact hQ
  ·rename_i x hx
   have hI:=qP hM hu hb hx
   rw [<- hLr] at hI
   exact Al hM hQ ht hbo hat hx hI
theorem wz {m:DMod} {s:DMach}:(fI m s).events=s.events\/∃ a,(fI m s).events=s.events ++ [a]:=by
 have hw:∀ (t:DMach) f,(cG t f).events=t.events:=fun _ _=>rfl
 have he:∀ (t:DMach) a b,(bO t a b).events=t.events:=fun _ _ _=>rfl
 have hc:∀ n p,(bJ m s n p).events=s.events:=by
  intro n p
  unfold bJ
  split
  ·rfl
  ·split <;> rfl
 have hth:∀ w,(be m s w).events=s.events:=by
  intro w
  unfold be
  split
  ·split
   ·rfl
   ·split <;> rfl
  ·rfl
 have han:∀ w,(bQ m s w).events=s.events:=by
  intro w
  unfold bQ
  split
  ·rfl
  ·split
   ·rfl
   ·split
    ·rfl
    ·split
     ·rfl
     ·split <;> rfl
 have hi:∀ f x,(eF m s f x).events=s.events\/∃ a,(eF m s f x).events=s.events ++ [a]:=by
  intro f x
  unfold eF
  split
  ·exact .inl (hc _ _)
  split
  ·split
   ·exact .inl rfl
   ·exact .inl rfl
  split
  ·split
   ·exact .inl rfl
   ·exact .inl rfl
  split
  ·split
   ·exact .inl rfl
   ·exact .inl rfl
  split
  ·exact .inr ⟨_,rfl⟩
  split
  ·exact .inl rfl
  ·exact .inr ⟨_,rfl⟩
 unfold fI
 split
 ·exact .inl rfl
 split
 ·exact .inl rfl
 split
 ·exact .inl rfl
 split
 ·split
  ·exact .inl (han _)
  split
  ·exact .inl (hc _ _)
  split
  ·exact .inl (hth _)
  split
  ·exact .inl (hth _)
  split
  ·exact .inl rfl
  ·exact .inl rfl
 ·split
  ·exact .inl rfl
  ·exact hi _ _
end Go.Ab.Q12
end
section
set_option maxRecDepth 10000
namespace Go.Ab
theorem Eg {a b:DMach}:a=b ↔ a.stack=b.stack/\a.cells=b.cells/\a.inputs=b.inputs/\a.events=b.events/\a.done=b.done/\a.value=b.value:=by
 cases a; cases b; simp
def cells16 (s:DMach):List Int:=[s.c 0,s.c 1,s.c 2,s.c 3,s.c 4,s.c 5,s.c 6,s.c 7,s.c 8,s.c 9,s.c 10,s.c 11,s.c 12,s.c 13,s.c 14,s.c 15]
theorem rh {s:DMach} (h:s.cells.length=16):cells16 s=s.cells:=by
 unfold cells16 DMach.c
 generalize s.cells=l at h
 match l,h with
 | [_,_,_,_,_,_,_,_,_,_,_,_,_,_,_,_],_=>rfl
def jc (m:DMod) (inputs:List Int):DMach:=⟨[(jb m 0 []).getD eR],List.replicate 16 0,inputs,[],0,0⟩
theorem CI {m:DMod} {l:List Int} (k:Nat):(jc m l).c k=0:=by
 simp only [DMach.c,jc,List.getD,List.getElem?_replicate]
 split <;> rfl
noncomputable def ig (m:DMod) (s:DMach):Nat->DMach
 | 0=>s
 | n + 1=>if s.done=0 then ig m (fI m s) n else s
theorem RMach.frz' {s:DMach} {g i v:TV} (hg:RL none 5 (RFrame none) g s.stack) (hi:RWords none i s.inputs) (hv:RInts none v s.events) (ho:s.ok):RMach (aH s (Go.Ab.frz g) (Go.Ab.frz i) (Go.Ab.frz v)) s :=
 ⟨_,_,_,rfl,(hg.frz (S:=RFrame (some false)) fun _ _ h=>h.frz).weak fun _ _ h=>h.weak,(hi.frz (S:=RW1) fun _ _ h=>h.frz).weak fun _ _ h=>h,(hv.frz (S:=RI1) fun _ _ h=>h.frz).weak fun _ _ h=>h,ho⟩
end Go.Ab
namespace Go.Ab.Q12
open Go Go.Ab Go.Proofs
theorem Eb {q q':Option Bool} {x y:TV} {l m:List Int} (hx:RWords q x l) (hy:RWords q' y m):ao prog 53 [x,y] (B (tt (l=m))):=by
 refine ao.of (f53_MR _ _) ?_
 unfold f53_M
 repeat' (first
  | refine aa.chk rfl ?_
  | refine aa.tv rfl ?_
  | refine aa.tv (RL.len (by assumption)) ?_
  | refine aa.nat rfl ?_
  | refine aa.ite rfl (fun _=>?_) (fun _=>?_)
  | refine aa.call (by assumption) ?_
  | refine aa.tvs (by assumption) ?_)
 ·rename_i h
  have h:¬ l=m:=by rintro rfl; simp at h
  exact bz h
 ·rename_i h
  have hlen:l.length=m.length:=by simp at h; omega
  refine f53_0_J ?_
  rw [dk (ix hlen)]
  refine gJ (g:=fun k=>f53_0 x y (I k)) ?_ ?_
  ·unfold f53_0
   refine aa.tv hx.len (aa.tv rfl (aa.ite bL nofun fun _=>aa.ret))
  ·intro k hk r h1 h2
   have hk':k < m.length:=by omega
   have ha:l[k]? = some l[k]:=EK hk
   have hb:m[k]? = some m[k]:=EK hk'
   obtain ⟨e,he,rfl,_⟩:=hx.idx (k:=.i64) ha
   obtain ⟨e',he',rfl,_⟩:=hy.idx (k:=.i64) hb
   unfold f53_0
   refine aa.tv hx.len (aa.tv rfl (aa.ite (bv hk) (fun _=>?_) nofun))
   refine aa.tvs he (aa.chk rfl (aa.tvs he' (aa.chk rfl (aa.tv rfl (aa.ite rfl (fun h=>?_) fun h=>?_)))))
   ·rw [h1 (by rw [ha,hb]; simpa using h)]; exact aa.ret
   ·refine aa.tv (inc hk hx.bnd) (f53_0_J (h2 ?_))
    rw [ha,hb]; simpa using h
theorem kV {m:DMod} {inputs:List Int} (hM:bP m):cH m (jc m inputs):=by
 obtain ⟨_,⟨u,hu,hp⟩,_⟩:=id hM
 obtain ⟨hf,_⟩:=oR (n:=0) (args:=[]) hM (Int.le_refl 0) hu (by simp [hp])
 refine ⟨⟨Int.le_refl 0,by show (0:Int)<=6; omega⟩,by simp [jc],fun _=>by simp [jc],fun k f hk=>?_,fun k f g hk hk'=>?_⟩
 ·have:=(EJ.1 hk).1
  simp [jc] at this
  subst this
  simp [jc] at hk
  rw [<- hk]
  exact hf
 ·have:=(EJ.1 hk').1
  simp [jc] at this
end Go.Ab.Q12
end
section
set_option maxRecDepth 10000
namespace Go.Ab
theorem peq16 {a b:DMach} (ha:a.cells.length=16) (hb:b.cells.length=16):Ad .u16 .neq [W (a.c 0),W (a.c 1),W (a.c 2),W (a.c 3),W (a.c 4),W (a.c 5),W (a.c 6),W (a.c 7),W (a.c 8),W (a.c 9),W (a.c 10),W (a.c 11),W (a.c 12),W (a.c 13),W (a.c 14),W (a.c 15)] [W (b.c 0),W (b.c 1),W (b.c 2),W (b.c 3),W (b.c 4),W (b.c 5),W (b.c 6),W (b.c 7),W (b.c 8),W (b.c 9),W (b.c 10),W (b.c 11),W (b.c 12),W (b.c 13),W (b.c 14),W (b.c 15)]=some (B (!(a.cells == b.cells))):=by
 have h:∀ s:DMach,lr .u16 [W (s.c 0),W (s.c 1),W (s.c 2),W (s.c 3),W (s.c 4),W (s.c 5),W (s.c 6),W (s.c 7),W (s.c 8),W (s.c 9),W (s.c 10),W (s.c 11),W (s.c 12),W (s.c 13),W (s.c 14),W (s.c 15)]=some (cells16 s):=fun _=>rfl
 unfold Ad
 rw [h a,h b,rh ha,rh hb]
 rfl
end Go.Ab
namespace Go.Ab.Q12
open Go Go.Ab Go.Proofs
theorem rMSame {e e':List TV} {a b:DMach} (ha:RMach e a) (hb:RMach e' b):ao prog 29 [.agg e,.agg e'] (B (tt (a=b))):=by
 obtain ⟨g,i,v,rfl,hg,hi,hv,ho⟩:=ha
 obtain ⟨g',i',v',rfl,hg',hi',hv',ho'⟩:=hb
 have no:¬ a=b->B false=B (tt (a=b)):=fun h=>by rw [eJ h]
 refine ao.of (f29_MR _ _) ?_
 unfold f29_M
 refine aa.chk rfl (aa.chk rfl (aa.tv hg.len (aa.tv hg'.len (aa.tv rfl (aa.ite rfl (fun h=>?_) fun h=>?_)))))
 ·exact bz fun h'=>by subst h'; simp at h
 have hlen:a.stack.length=b.stack.length:=by simp at h; omega
 refine aa.tv (peq16 ho.1 ho'.1) (aa.ite rfl (fun h=>?_) fun h=>?_)
 ·exact bz fun h'=>by subst h'; simp at h
 have hcells:a.cells=b.cells:=by simpa using h
 refine aa.call (Eb hi hi') (aa.chk rfl (aa.tv rfl (aa.ite rfl (fun h=>?_) fun h=>?_)))
 ·exact bz fun h'=>by subst h'; simp [tt] at h
 have hin:a.inputs=b.inputs:=cL.1 (by simpa using h)
 refine aa.call (r14 hv hv') (aa.chk rfl (aa.tv rfl (aa.ite rfl (fun h=>?_) fun h=>?_)))
 ·exact bz fun h'=>by subst h'; simp [tt] at h
 have hev:a.events=b.events:=cL.1 (by simpa using h)
 refine aa.tv rfl (aa.ite rfl (fun h=>?_) fun h=>?_)
 ·exact bz fun h'=>by subst h'; simp [TV.cell,nth,aH] at h
 have hdo:a.done=b.done:=by simpa [TV.cell,nth,aH] using h
 refine aa.tv rfl (aa.ite rfl (fun h=>?_) fun h=>?_)
 ·exact bz fun h'=>by subst h'; simp [TV.cell,nth,aH] at h
 have hva:a.value=b.value:=by simpa [TV.cell,nth,aH] using h
 have hiff:a=b ↔ a.stack=b.stack:=by
  rw [Eg]
  simp [hcells,hin,hev,hdo,hva]
 refine f29_0_J ?_
 rw [dk (hiff.trans (ix hlen))]
 refine gJ (g:=fun k=>f29_0 (I k) g (W (a.c 0)) (W (a.c 1)) (W (a.c 2)) (W (a.c 3)) (W (a.c 4)) (W (a.c 5)) (W (a.c 6)) (W (a.c 7)) (W (a.c 8)) (W (a.c 9)) (W (a.c 10)) (W (a.c 11)) (W (a.c 12)) (W (a.c 13)) (W (a.c 14)) (W (a.c 15)) i v (I a.done) (W a.value) g' (W (b.c 0)) (W (b.c 1)) (W (b.c 2)) (W (b.c 3)) (W (b.c 4)) (W (b.c 5)) (W (b.c 6)) (W (b.c 7)) (W (b.c 8)) (W (b.c 9)) (W (b.c 10)) (W (b.c 11)) (W (b.c 12)) (W (b.c 13)) (W (b.c 14)) (W (b.c 15)) i' v' (I b.done) (W b.value)) ?_ ?_
 ·unfold f29_0
  refine aa.tv (RL.len (by assumption)) (aa.tv rfl (aa.ite bL nofun fun _=>?_))
  exact aa.ret
 ·intro k hk r h1 h2
  have hk':k < b.stack.length:=by omega
  have hak:a.stack[k]? = some a.stack[k]:=EK hk
  have hbk:b.stack[k]? = some b.stack[k]:=EK hk'
  obtain ⟨e,he,hre⟩:=hg.idx (k:=.i64) hak
  obtain ⟨e',he',hre'⟩:=hg'.idx (k:=.i64) hbk
  have hs:=rFSame hre hre'
  obtain ⟨z,rfl,_⟩:=hre
  obtain ⟨z',rfl,_⟩:=hre'
  unfold f29_0
  refine aa.tv (RL.len (by assumption)) (aa.tv rfl (aa.ite (bv hk) (fun _=>?_) nofun))
  refine aa.tvs he (aa.chk rfl (aa.tvs he' (aa.chk rfl (aa.call hs (aa.chk rfl (aa.tv rfl (aa.ite rfl (fun h=>?_) fun h=>?_)))))))
  ·have h:¬ a.stack[k]=b.stack[k]:=db.1 (by simpa using h)
   rw [h1 (by rw [hak,hbk]; simpa using h)]; exact aa.ret
  ·have h:a.stack[k]=b.stack[k]:=cL.1 (by simpa using h)
   refine aa.tv (inc hk hg.bnd) (f29_0_J (h2 ?_))
   rw [hak,hbk,h]
theorem rSmall {q q':Option Bool} {e:List TV} {x:TV} {m:DMod} {l:List Int} (hm:RMod q e m) (hx:RWords q' x l):∃ b,ao prog 27 [.agg e,x] (B b)/\(b=true->pF m/\l.length<=30):=by
 obtain ⟨b,hr,hb⟩:=r7 hm
 obtain ⟨y,rfl,hy⟩:=hm
 cases b with
 | false =>
  refine ⟨false,?_,nofun⟩
  refine ao.of (f27_MR _ _) ?_
  unfold f27_M
  exact aa.chk rfl (aa.call hr (aa.chk rfl (aa.ite rfl nofun fun _=>aa.ret)))
 | true =>
  refine ⟨decide ((l.length:Int)<=30),?_,fun h=>⟨hb rfl,by simp at h; omega⟩⟩
  refine ao.of (f27_MR _ _) ?_
  unfold f27_M
  exact aa.chk rfl (aa.call hr (aa.chk rfl (aa.ite rfl (fun _=>aa.tv hx.len (aa.tv rfl aa.ret)) nofun)))
end Go.Ab.Q12
end
section
set_option maxRecDepth 10000
namespace Go.Ab
def gj (e:List TV) (s:DMach):Prop:=∃ g i v,e=aH s g i v/\RL (some true) 5 (RFrame (some true)) g s.stack/\RWords (some true) i s.inputs/\RInts (some true) v s.events/\s.ok
theorem gj.weak {e:List TV} {s:DMach} (h:gj e s):RMach e s:=by
 obtain ⟨g,i,v,rfl,hg,hi,hv,ho⟩:=h
 exact ⟨g,i,v,rfl,hg.weak fun _ _ h=>h.weak,hi.weak fun _ _ h=>h,hv.weak fun _ _ h=>h,ho⟩
theorem CU {s:DMach} {g i v:TV} (h1:isOwn g=true) (h2:isOwn i=true) (h3:isOwn v=true):isOwn (.agg (aH s g i v))=true:=by
 simp [isOwn,bn,aH,h1,h2,h3]
end Go.Ab
namespace Go.Ab.Q12
open Go Go.Ab Go.Proofs
end Go.Ab.Q12
end
section
set_option maxRecDepth 10000
namespace Go.Ab
abbrev RStack (g:TV) (l:List DFrame):Prop:=RL (some true) 5 (RFrame (some true)) g l
section
variable {g:TV} {l:List DFrame} {k:Nat} {f:DFrame}
theorem RStack.at_ (hg:RStack g l) (hk:l[k]? = some f):∃ xs gr,g=.sl true 5 xs/\xs[k]? = some [I f.f,I f.block,I f.at_,gr,W f.fly]/\F2 (RFrame (some true)) xs l/\xs.length<=9223372036854775807/\RWords (some true) gr f.regs/\f.ok:=by
 rcases hg with ⟨rfl,rfl⟩ | ⟨o,xs,rfl,hq,h,hb⟩
 ·simp at hk
 ·have:o=true:=hq true rfl
  subst this
  obtain ⟨e,he,gr,rfl,hgr,ho⟩:=h.get hk
  exact ⟨xs,gr,rfl,he,h,hb,hgr,ho⟩
theorem RStack.row (hg:RStack g l) (hk:l[k]? = some f):∃ gr,pel g k=some [I f.f,I f.block,I f.at_,gr,W f.fly]/\aE [(k,3)] g=some gr/\RWords (some true) gr f.regs/\f.ok:=by
 obtain ⟨xs,gr,rfl,hx,_,_,hgr,ho⟩:=hg.at_ hk
 exact ⟨gr,hx,qt (x:=.sl true 5 xs) hx rfl,hgr,ho⟩
theorem RStack.all (hg:RStack g l) (hk:l[k]? = some f) {e':List TV} {f':DFrame} (h:RFrame (some true) e' f'):∃ g',cj [] g k 0 e'=some g'/\RStack g' (l.set k f'):=by
 obtain ⟨xs,gr,rfl,hx,hF,hb,hgr,ho⟩:=hg.at_ hk
 obtain ⟨gr',rfl,hgr',ho'⟩:=id h
 refine ⟨.sl true 5 (am xs k [I f'.f,I f'.block,I f'.at_,gr',W f'.fly]),?_,.sl (by simp) (hF.set h) (by rw [dW]; exact hb)⟩
 simp only [cj,aE,mE,hx,jd,bh]
 rfl
theorem RStack.j3 (hg:RStack g l) (hk:l[k]? = some f) {n:Int} (hn:inI n):∃ g',cj [] g k 2 [I n]=some g'/\RStack g' (l.set k { f with at_:=n }):=by
 obtain ⟨xs,gr,rfl,hx,hF,hb,hgr,ho⟩:=hg.at_ hk
 have hR:RFrame (some true) [I f.f,I f.block,I n,gr,W f.fly] { f with at_:=n }:=⟨gr,rfl,hgr,ho.1,ho.2.1,hn,ho.2.2.2⟩
 refine ⟨.sl true 5 (am xs k [I f.f,I f.block,I n,gr,W f.fly]),?_,.sl (by simp) (hF.set hR) (by rw [dW]; exact hb)⟩
 simp only [cj,aE,mE,hx,jd,bh]
 rfl
theorem RStack.Di (hg:RStack g l) (hk:l[k]? = some f) {w:Int} (hw:inW w):∃ g',cj [] g k 4 [W w]=some g'/\RStack g' (l.set k { f with fly:=w }):=by
 obtain ⟨xs,gr,rfl,hx,hF,hb,hgr,ho⟩:=hg.at_ hk
 have hR:RFrame (some true) [I f.f,I f.block,I f.at_,gr,W w] { f with fly:=w }:=⟨gr,rfl,hgr,ho.1,ho.2.1,ho.2.2.1,hw⟩
 refine ⟨.sl true 5 (am xs k [I f.f,I f.block,I f.at_,gr,W w]),?_,.sl (by simp) (hF.set hR) (by rw [dW]; exact hb)⟩
 simp only [cj,aE,mE,hx,jd,bh]
 rfl
theorem RStack.put (hg:RStack g l) (hk:l[k]? = some f) {n:Nat} {w:Int} (hn:n < f.regs.length) (hw:inW w):∃ g',cj [(k,3)] g n 0 [W w]=some g'/\RStack g' (l.set k { f with regs:=f.regs.set n w }):=by
 obtain ⟨xs,gr,rfl,hx,hF,hb,hgr,ho⟩:=hg.at_ hk
 obtain ⟨a,v',hpe,hs,hrl⟩:=RWords.put hgr hn hw
 have hR:RFrame (some true) [I f.f,I f.block,I f.at_,v',W f.fly] { f with regs:=f.regs.set n w }:=⟨v',rfl,hrl,ho⟩
 refine ⟨.sl true 5 (am xs k [I f.f,I f.block,I f.at_,v',W f.fly]),?_,.sl (by simp) (hF.set hR) (by rw [dW]; exact hb)⟩
 have hse:mE gr n 0 [W w]=some v':=by
  simp only [cj,aE,jd] at hs
  cases h:mE gr n 0 [W w] with
  | none=>rw [h] at hs; cases hs
  | some u=>rw [h] at hs; simpa using hs
 have hgp:aE [(k,3)] (.sl true 5 xs)=some gr:=qt (x:=.sl true 5 xs) hx rfl
 simp only [cj,hgp,hse]
 simp only [jd,hx]
 rfl
theorem RStack.win (hg:RStack g l) {n:Nat} (hn:n<=l.length):∃ g',cC 0 n g=some g'/\RStack g' (l.take n):=by
 rcases hg with ⟨rfl,rfl⟩ | ⟨o,xs,rfl,hq,h,hb⟩
 ·have:n=0:=by simpa using hn
  subst this
  exact ⟨_,rfl,.nil⟩
 ·have hl:=h.length
  refine ⟨.sl o 5 (xs.take n),?_,.sl hq (h.take n) (by simp; omega)⟩
  simp only [cC]
  rw [if_pos (by omega)]
  rfl
theorem RWords.win {q:Option Bool} {x:TV} {l:List Int} (hx:RWords q x l) {lo n:Nat} (hn:lo + n<=l.length):∃ y,cC lo n x=some y/\RWords q y ((l.drop lo).take n):=by
 rcases hx with ⟨rfl,rfl⟩ | ⟨o,xs,rfl,hq,h,hb⟩
 ·simp at hn
  obtain ⟨rfl,rfl⟩:=hn
  exact ⟨_,rfl,.nil⟩
 ·have hl:=h.length
  refine ⟨.sl o 1 ((xs.drop lo).take n),?_,.sl hq ((h.drop lo).take n) (by simp; omega)⟩
  simp only [cC]
  rw [if_pos (by omega)]
end
theorem kJ {α:Type} {l:List α} {a:α} (h:0 < l.length):l.set (l.length - 1) a=l.take (l.length - 1) ++ [a]:=by
 apply List.ext_getElem?
 intro i
 rw [List.getElem?_set]
 by_cases hi:i < l.length - 1
 ·rw [ET (by simp; omega),List.getElem?_take,if_pos hi,if_neg (by omega)]
 ·rw [EU (by simp; omega)]
  by_cases he:l.length - 1=i
  ·subst he
   simp; omega
  ·rw [if_neg he,EV (by omega),EV (by simp; omega)]
theorem dq {α:Type} {l:List α} {k:Nat} {a b:α}:(l.set k a).set k b=l.set k b:=List.set_set ..
theorem lq {α:Type} {l:List α} {k:Nat} {a b:α} (h:l[k]? = some a):(l.set k b)[k]? = some b:=by
 have:=(EJ.1 h).1
 simp [List.getElem?_set,this]
end Go.Ab
end

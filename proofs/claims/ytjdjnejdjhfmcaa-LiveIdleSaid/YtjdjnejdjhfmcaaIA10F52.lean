import Derived.Test.YtjdjnejdjhfmcaaIA10F41
set_option linter.all false
section
set_option maxRecDepth 10000
namespace Go.Ab
def dC (m:DMod) (f:DFrame) (w:Int) (cl:Bool):Prop :=
 ∃ u b p,m.funcs[f.f.toNat]? = some u∧u.blocks[f.block.toNat]? = some b∧f.at_=b.ins.length∧b.fin.kind=4∧u.blocks[b.fin.pad.toNat]? = some p∧((p.pad.all=true∨w ∈ p.pad.catches)∨cl=true∧p.pad.cleanup=true)
open Classical in
noncomputable def nn (P:Nat→Prop):Nat→Option Nat
 | 0=>none
 | n + 1=>if P n then some n else nn P n
theorem uT {P:Nat→Prop} {k:Nat} (h:P k):∀ {n:Nat},k < n→(∀ j,k < j→j < n→¬ P j)→nn P n=some k
 | 0,hk,_=>absurd hk (Nat.not_lt_zero _)
 | n + 1, hk, hn => by
  by_cases he:k=n
  ·subst he
   simp [nn,h]
  ·simp only [nn]
   rw [if_neg (hn n (by omega) (by omega))]
   exact uT h (by omega) fun j h1 h2=>hn j h1 (by omega)
def jw (m:DMod) (f:DFrame):Int:=((((m.funcs[f.f.toNat]?).bind fun u=>u.blocks[f.block.toNat]?).map fun b=>b.fin.pad).getD 0)
def bR (m:DMod) (l:List DFrame) (w:Int) (cl:Bool) (i:Nat):Prop:=∃ f,l[i]? = some f∧dC m f w cl
open Classical in
noncomputable def aQ (m:DMod) (s:DMach) (w:Int):DMach :=
 if ∃ i,bR m (s.stack.take (s.stack.length - 1)) w false i then
  match nn (bR m (s.stack.take (s.stack.length - 1)) w true) (s.stack.length - 1) with
  | none=>s
  | some k=>match s.stack[k]? with
   | none=>s
   | some f=>cj { s with stack:=s.stack.take (k + 1) } ((fJ m f (jw m f) w).getD f)
 else bM { s with stack:=s.stack.take (s.stack.length - 1) } 2 w
end Go.Ab
namespace Go.Ab.A10
open Go Go.Ab Go.Proofs
theorem eB {m:DMod} {g:DFunc} {b:DBlock} {n k:Nat} (h:bz m) (hg:m.funcs[n]? = some g) (hb:g.blocks[k]? = some b):j6 m.funcs g.regs g.blocks b :=
 (lx h hg).2.2.2 k (EJ.1 hb).1 b hb
theorem nu {m:DMod} {g:DFunc} {b:DBlock} {n k:Nat} (h:bz m) (hg:m.funcs[n]? = some g) (hb:g.blocks[k]? = some b) (h4:b.fin.kind=4):lq g.blocks b.fin.pad true:=by
 have:=(eB h hg hb).2.2.2.2.2.2.2.2.2.1
 rw [h4] at this
 exact this rfl
theorem fa {m:DMod} {f:DFrame} (h:bz m) (hQ:bK m f):f.regs.length≤256:=by
 obtain ⟨h0,u,hu,hL,_⟩:=hQ
 have:=rC h hu
 omega
end Go.Ab.A10
end
section
set_option maxRecDepth 10000
namespace Go.Ab
theorem xr {a:Int} (ha:inW a):pconv (.int .i64) (W a)=some (I a):=by
 simp only [pconv]
 rw [IntKind.wrap_i64]
 have:=ha.1
 have:=ha.2
 congr 3
 omega
theorem nth16 (F:Nat→TV) {n:Nat} (h:n < 16):pnth n [F 0,F 1,F 2,F 3,F 4,F 5,F 6,F 7,F 8,F 9,F 10,F 11,F 12,F 13,F 14,F 15]=some (F n):=by
 match n,h with
 | 0,_=>rfl
 | 1,_=>rfl
 | 2,_=>rfl
 | 3,_=>rfl
 | 4,_=>rfl
 | 5,_=>rfl
 | 6,_=>rfl
 | 7,_=>rfl
 | 8,_=>rfl
 | 9,_=>rfl
 | 10,_=>rfl
 | 11,_=>rfl
 | 12,_=>rfl
 | 13,_=>rfl
 | 14,_=>rfl
 | 15,_=>rfl
 | n + 16,h=>omega
def upF (f:DFrame):DFrame:={ f with at_:=IntKind.i64.wrap (f.at_ + 1) }
def ia (f:DFrame) (n w:Int):DFrame:={ f with regs:=f.regs.set n.toNat w }
def ba (m:DMod) (f:DFrame):Option DBlock:=(m.funcs[f.f.toNat]?).bind fun u=>u.blocks[f.block.toNat]?
open Classical in
noncomputable def bc (m:DMod) (s:DMach) (w:Int):DMach :=
 match s.stack[s.stack.length - 2]? with
 | none=>s
 | some f => if s.stack.length ≤ 1 then bM { s with stack := [] } 1 w else
  match ba m f with
  | none=>s
  | some b=>if f.at_=b.ins.length then cj { s with stack:=s.stack.take (s.stack.length - 1) } { ia f b.fin.dst w with block:=b.fin.to,at_:=0 } else
   match b.ins[f.at_.toNat]? with
   | none=>s
   | some x=>cj { s with stack:=s.stack.take (s.stack.length - 1) } (upF (ia f x.dst w))
def reg (f:DFrame) (n:Int):Int:=f.regs.getD n.toNat 0
def dA (s:DMach) (n:Nat) (w:Int):DMach:={ s with cells:=s.cells.set n w }
def dX (m:DMod) (s:DMach) (f:DFrame) (x:DIns):DMach :=
 if x.op=11 then bm m s x.f x.args else
 if x.op≤8 then (if (cW f x).2=true then cj s (cW f x).1 else bM s 3 0) else
 if x.op=9 then (if 16≤reg f x.a then bM s 4 0 else cj s (upF (ia f x.dst (s.c (reg f x.a).toNat)))) else
 if x.op=10 then (if 16≤reg f x.a then bM s 4 0 else cj (dA s (reg f x.a).toNat (reg f x.b)) (upF f)) else
 if x.op=12 then cj { s with events:=s.events ++ [reg f x.a] } (upF f) else
 match s.inputs with
 | []=>bM s 6 0
 | a :: l=>cj { s with events:=s.events ++ [a + 65536],inputs:=l } (upF (ia f x.dst a))
theorem AR {s:DMach} {n j:Nat} {w:Int} (hl:s.cells.length=16) (hj:j < 16):iG n j (W w) (W (s.c j))=W ((dA s n w).c j):=by
 have hl':j < s.cells.length:=by omega
 by_cases h:n=j
 ·subst h
  simp [iG,dA,DMach.c,List.getD,List.getElem?_set_self hl']
 ·have hb:n.beq j=false:=by
   cases h':n.beq j with
   | false=>rfl
   | true=>exact absurd (Nat.eq_of_beq_eq_true h') h
  simp [iG,hb,dA,DMach.c,List.getD,List.getElem?_set_ne h]
theorem yC {s:DMach} {n:Nat} {w:Int} (h:∀ k,inW (s.c k)) (hw:inW w) (k:Nat):inW ((dA s n w).c k):=by
 have hk:=h k
 simp only [DMach.c,dA,List.getD,List.getElem?_set] at hk ⊢
 split
 ·split
  ·exact hw
  ·exact nY
 ·exact hk
end Go.Ab
namespace Go.Ab.A10
open Go Go.Ab Go.Proofs
theorem zH {op:Int} (h:has (iu op) 1=true):1≤op∧op≤13:=by
 by_cases hn:1≤op∧op≤13
 ·exact hn
 ·have:iu op=0:=by
   unfold iu
   repeat rw [if_neg (by omega)]
  rw [this] at h
  exact absurd h (by decide)
end Go.Ab.A10
end
section
set_option maxRecDepth 10000
namespace Go.Ab
def oA (m:DMod) (f g:DFrame):Prop :=
 ∃ u b,m.funcs[f.f.toNat]? = some u∧u.blocks[f.block.toNat]? = some b∧((f.at_=b.ins.length∧b.fin.kind=4∧b.fin.f=g.f)∨(¬ f.at_=b.ins.length∧∃ x,b.ins[f.at_.toNat]? = some x∧x.op=11∧x.f=g.f))
def bP (m:DMod) (s:DMach):Prop :=
 (0≤s.done∧s.done≤6)∧s.stack.length≤32∧(s.done=0→0 < s.stack.length)∧(∀ (k:Nat) f,s.stack[k]? = some f→bK m f)∧∀ (k:Nat) f g,s.stack[k]? = some f→s.stack[k + 1]? = some g→oA m f g
theorem gU {x:TV} {k j:Nat} {e:List TV} {y:TV} (h:pel x k=some e) (hj:e[j]? = some y):aF [(k,j)] x=some y:=by
 cases x <;> simp [pel] at h
 simp [aF,h,hj]
noncomputable def b9 (m:DMod) (s:DMach):DMach :=
  if ¬ s.done=0 then s else
  match fU s with
  | none=>s
  | some f => match ba m f with
    | none=>s
    | some b => if f.at_ = b.ins.length then
        (if b.fin.kind = 1 then bc m s (reg f b.fin.a) else
         if b.fin.kind=4 then bm m s b.fin.f b.fin.args else
         if b.fin.kind=5 then aQ m s (reg f b.fin.a) else
         if b.fin.kind=6 then aQ m s f.fly else
         if b.fin.kind=3∧reg f b.fin.a=0 then cj s { f with block:=b.fin.els,at_:=0 } else cj s { f with block:=b.fin.to,at_:=0 })
      else match b.ins[f.at_.toNat]? with
        | none=>s
        | some x=>dX m s f x
end Go.Ab
namespace Go.Ab.A10
open Go Go.Ab Go.Proofs
theorem ol {m:DMod} {g:DFunc} {b:DBlock} {x:DIns} {n k j:Nat} (h:bz m) (hg:m.funcs[n]? = some g) (hb:g.blocks[k]? = some b) (hx:b.ins[j]? = some x):oF m.funcs g.regs x :=
 (eB h hg hb).2.2.1 j (EJ.1 hx).1 x hx
theorem lZ {m:DMod} {g:DFunc} {b:DBlock} {n k:Nat} (h:bz m) (hg:m.funcs[n]? = some g) (hb:g.blocks[k]? = some b):sV m.funcs g.regs g.blocks b.fin :=
 (eB h hg hb).2.2.2
end Go.Ab.A10
end
section
set_option maxRecDepth 10000
namespace Go.Ab.A10
open Go Go.Ab Go.Proofs
theorem wE {k:Int} (h:has (cK k) 1=true):1≤k∧k≤6:=by
 by_cases hn:1≤k∧k≤6
 ·exact hn
 ·have:cK k=0:=by
   unfold cK
   repeat rw [if_neg (by omega)]
  rw [this] at h
  exact absurd h (by decide)
end Go.Ab.A10
end
section
set_option maxRecDepth 10000
namespace Go.Ab
def fx (m:DMod) (l:List DFrame):Prop:=(∀ (k:Nat) f,l[k]? = some f→bK m f)∧∀ (k:Nat) f g,l[k]? = some f→l[k + 1]? = some g→oA m f g
theorem fx.take {m:DMod} {l:List DFrame} (h:fx m l) (n:Nat):fx m (l.take n):=by
 have key:∀ (k:Nat) (f:DFrame),(l.take n)[k]? = some f→l[k]? = some f:=by
  intro k f hk
  rw [List.getElem?_take] at hk
  split at hk
  ·exact hk
  ·cases hk
 exact ⟨fun k f hk=>h.1 k f (key k f hk),fun k f g hf hg=>h.2 k f g (key k f hf) (key _ g hg)⟩
theorem jl {α:Type} {l:List α} {a b:α} {k:Nat} (h:(l ++ [a])[k]? = some b):(k < l.length∧l[k]? = some b)∨(k=l.length∧b=a):=by
 by_cases hk:k < l.length
 ·rw [ET hk] at h
  exact .inl ⟨hk,h⟩
 ·rw [EU (by omega)] at h
  have:=(EJ.1 h).1
  simp at this
  have hk:k=l.length:=by omega
  subst hk
  simp at h
  exact .inr ⟨rfl,h.symm⟩
theorem xC {α:Type} {l:List α} {a:α}:(l ++ [a])[l.length]? = some a:=by simp
theorem oA.to {m:DMod} {f g g':DFrame} (h:oA m f g) (hf:g'.f=g.f):oA m f g':=by
 obtain ⟨u,b,hu,hb,h⟩:=h
 refine ⟨u,b,hu,hb,?_⟩
 rw [hf]
 exact h
theorem fx.top {m:DMod} {l:List DFrame} {f0 f:DFrame} (h:fx m (l ++ [f0])) (hf:bK m f) (he:f.f=f0.f):fx m (l ++ [f]):=by
 have key:∀ (k:Nat) (g:DFrame),k < l.length→l[k]? = some g→(l ++ [f0])[k]? = some g:=fun k g hk hg=>by rw [ET hk]; exact hg
 refine ⟨fun k g hg=>?_,fun k g g' hg hg'=>?_⟩
 ·rcases jl hg with ⟨hk,hg⟩ | ⟨_,rfl⟩
  ·exact h.1 k g (key k g hk hg)
  ·exact hf
 ·rcases jl hg' with ⟨hk',hg'⟩ | ⟨hk',rfl⟩
  ·rcases jl hg with ⟨hk,hg⟩ | ⟨hk,rfl⟩
   ·exact h.2 k g g' (key k g hk hg) (key _ g' hk' hg')
   ·omega
  ·rcases jl hg with ⟨hk,hg⟩ | ⟨hk,rfl⟩
   ·exact (h.2 k g f0 (key k g hk hg) (by rw [hk']; exact xC)).to he
   ·omega
theorem fx.push {m:DMod} {l:List DFrame} {f0 g:DFrame} (h:fx m (l ++ [f0])) (hg:bK m g) (hl:oA m f0 g):fx m (l ++ [f0] ++ [g]):=by
 refine ⟨fun k x hx=>?_,fun k x y hx hy=>?_⟩
 ·rcases jl hx with ⟨_,hx⟩ | ⟨_,rfl⟩
  ·exact h.1 k x hx
  ·exact hg
 ·rcases jl hy with ⟨_,hy⟩ | ⟨hk',rfl⟩
  ·rcases jl hx with ⟨_,hx⟩ | ⟨hk,rfl⟩
   ·exact h.2 k x y hx hy
   ·have:=(EJ.1 hy).1
    omega
  ·rcases jl hx with ⟨_,hx⟩ | ⟨hk,rfl⟩
   ·have hk:k=l.length:=by simp at hk'; omega
    rw [hk,xC] at hx
    cases hx
    exact hl
   ·omega
theorem mm {l:List DFrame} {f:DFrame} (h:l[l.length - 1]? = some f):l=l.take (l.length - 1) ++ [f]:=by
 have hlt:=(EJ.1 h).1
 have h1:l.take (l.length - 1 + 1)=l.take (l.length - 1) ++ [f]:=by rw [List.take_add_one,h]; rfl
 rw [show l.length - 1 + 1=l.length by omega,List.take_length] at h1
 exact h1
theorem bP.st {m:DMod} {s:DMach} (h:bP m s):fx m s.stack:=h.2.2.2
theorem co {m:DMod} {s:DMach} {f0 f:DFrame} (hd:0≤s.done∧s.done≤6) (hl:s.stack.length≤32) (hs:fx m s.stack) (ht:fU s=some f0) (hf:bK m f) (he:f.f=f0.f):bP m (cj s f):=by
 have hst:=mm ht
 have hlt:=(EJ.1 ht).1
 refine ⟨hd,?_,fun _=>?_,?_⟩
 ·simp [cj]; omega
 ·simp [cj]
 ·rw [hst] at hs
  exact hs.top hf he
theorem ei {m:DMod} {s:DMach} {how w:Int} (hl:s.stack.length≤32) (hs:fx m s.stack) (h:1≤how∧how≤6):bP m (bM s how w) :=
 ⟨⟨by show 0≤how; omega,h.2⟩,hl,fun h0=>by have h0:how=0:=h0; omega,hs⟩
theorem AS {m:DMod} {f:DFrame} {b:DBlock} {n:Int} (h:bK m f) (hb:ba m f=some b) (h0:0≤n) (h1:n≤b.ins.length):bK m { f with at_:=n }:=by
 obtain ⟨hf0,u,hu,hL,hb0,b',hb',_⟩:=h
 have:b'=b:=by
  have:ba m f=some b':=by simp [ba,hu,hb']
  rw [hb] at this
  cases this
  rfl
 subst this
 exact ⟨hf0,u,hu,hL,hb0,b',hb',h0,h1⟩
theorem na {m:DMod} {f:DFrame} {n w:Int} (h:bK m f):bK m (ia f n w):=by
 obtain ⟨hf0,u,hu,hL,hr⟩:=h
 exact ⟨hf0,u,hu,by simpa [ia] using hL,hr⟩
theorem lY {m:DMod} {f:DFrame} {u:DFunc} {l:Bool} {n:Int} (h:bK m f) (hu:m.funcs[f.f.toNat]? = some u) (hg:lq u.blocks n l):bK m { f with block:=n,at_:=0 }:=by
 obtain ⟨hf0,u',hu',hL,_⟩:=h
 rw [hu] at hu'
 cases hu'
 obtain ⟨h0,b,hb,_⟩:=hg
 exact ⟨hf0,u,hu,hL,h0,b,hb,Int.le_refl 0,by simp⟩
end Go.Ab
namespace Go.Ab.A10
open Go Go.Ab Go.Proofs
theorem pH {m:DMod} {n:Int} {args:List Int} {u:DFunc} (hM:bz m) (h0:0≤n) (hu:m.funcs[n.toNat]? = some u) (ha:(args.length:Int)=u.params) :
  bK m ((jA m n args).getD fO)∧((jA m n args).getD fO).f=n:=by
 have hT:jA m n args=some ⟨n,0,0,args.take u.regs.toNat ++ List.replicate (u.regs.toNat - args.length) 0,0⟩:=by simp [jA,h0,hu,ha]
 rw [hT]
 have hf:=lx hM hu
 obtain ⟨b,hb,_⟩:=hf.2.2.1
 have hr:=rC hM hu
 refine ⟨⟨h0,u,hu,?_,Int.le_refl 0,b,hb,Int.le_refl 0,by simp⟩,rfl⟩
 simp
 omega
theorem oE {m:DMod} {s:DMach} {n regs:Int} {places:List Int} {f:DFrame} (hM:bz m) (hQ:bP m s) (ht:fU s=some f) (ha:qn m.funcs regs n places) (hl:∀ g:DFrame,g.f=n→oA m f g):bP m (bm m s n places):=by
 obtain ⟨h0,u,hu,hul,_⟩:=ha
 by_cases h32:32≤s.stack.length
 ·have hT:bm m s n places=bM s 5 0:=by simp [bm,h32]
  rw [hT]
  exact ei hQ.2.1 hQ.st (by omega)
 ·have hT:bm m s n places={ s with stack:=s.stack ++ [(jA m n (aD f.regs places)).getD fO] }:=by simp [bm,h32,ht]
  rw [hT]
  obtain ⟨hf,hn⟩:=pH (args:=aD f.regs places) hM h0 hu (by rw [ca]; exact hul)
  refine ⟨hQ.1,?_,fun _=>?_,?_⟩
  ·simp; omega
  ·simp
  ·have hst:=mm ht
   have hs:=hQ.st
   show fx m (s.stack ++ [_])
   rw [hst] at hs ⊢
   exact hs.push hf (hl _ hn)
theorem land_f {m:DMod} {f:DFrame} {pad w:Int}:((fJ m f pad w).getD f).f=f.f:=by
 unfold fJ
 cases m.funcs[f.f.toNat]? with
 | none=>rfl
 | some g =>
  simp only [Option.bind_some]
  split
  ·cases g.blocks[pad.toNat]? with
   | none=>rfl
   | some b =>
    simp only [Option.bind_some]
    split <;> rfl
  ·rfl
theorem vq {m:DMod} {f:DFrame} {pad w:Int} (h:bK m f):bK m ((fJ m f pad w).getD f):=by
 obtain ⟨h0,u,hu,hL,hr⟩:=h
 have hf:bK m f:=⟨h0,u,hu,hL,hr⟩
 by_cases hG:lq u.blocks pad true
 ·obtain ⟨hp0,b,hb,hl⟩:=hG
  rw [yc hu hp0 hb hl]
  exact ⟨h0,u,hu,by simpa using hL,hp0,b,hb,Int.le_refl 0,by simp⟩
 ·rw [yP hu hG]
  exact hf
theorem nA {m:DMod} {s:DMach} {w:Int} (hQ:bP m s):bP m (aQ m s w):=by
 unfold aQ
 split
 ·split
  ·exact hQ
  ·rename_i k hk
   split
   ·exact hQ
   ·rename_i f hf
    have hlt:=(EJ.1 hf).1
    refine co (s:={ s with stack:=s.stack.take (k + 1) }) (f0:=f) hQ.1 ?_ (hQ.st.take _) ?_ (vq (hQ.st.1 k f hf)) land_f
    ·have:=hQ.2.1
     simp; omega
    ·simp only [fU,List.length_take]
     rw [List.getElem?_take,if_pos (by omega),← hf]
     congr 1
     omega
 ·exact ei (by have:=hQ.2.1; simp; omega) (hQ.st.take _) (by omega)
theorem up_at {f:DFrame} {n:Nat} (h0:0≤f.at_) (h1:f.at_ < n) (hn:n≤64):IntKind.i64.wrap (f.at_ + 1)=f.at_ + 1:=by
 rw [IntKind.wrap_i64]; omega
theorem o8 {m:DMod} {f:DFrame} {b:DBlock} (hM:bz m) (h:bK m f) (hb:ba m f=some b) (hlt:f.at_.toNat < b.ins.length):bK m (upF f):=by
 have hc:=h
 obtain ⟨hf0,u,hu,hL,hb0,b',hb',h0,h1⟩:=hc
 have:ba m f=some b':=by simp [ba,hu,hb']
 rw [hb] at this
 cases this
 have h64:=(eB hM hu hb').1
 have hw:=up_at (n:=b.ins.length) h0 (by omega) h64
 have:=AS (n:=IntKind.i64.wrap (f.at_ + 1)) h hb (by omega) (by omega)
 exact this
end Go.Ab.A10
end
section
set_option maxRecDepth 10000
namespace Go.Ab
theorem vI {f:DFrame} {x:DIns}:(cW f x).1=f∨∃ w,(cW f x).1=upF (ia f x.dst w):=by
 unfold cW
 cases cX f.regs x with
 | none=>exact .inl rfl
 | some w =>
  simp only
  split
  ·exact .inr ⟨w,rfl⟩
  ·exact .inl rfl
end Go.Ab
namespace Go.Ab.A10
open Go Go.Ab Go.Proofs
theorem sm {m:DMod} {s:DMach} {w:Int} (hM:bz m) (hQ:bP m s):bP m (bc m s w):=by
 unfold bc
 split
 ·exact hQ
 ·rename_i f hf
  split
  ·rename_i h1
   refine ei (s:={ s with stack:=[] }) (by simp) ⟨fun k f hk=>?_,fun k f g hk=>?_⟩ (by omega)
   ·simp at hk
   ·simp at hk
  ·rename_i h1
   have hF:=hQ.st.1 _ f hf
   have htop:fU { s with stack:=s.stack.take (s.stack.length - 1) }=some f:=by
    simp only [fU,List.length_take]
    rw [List.getElem?_take,if_pos (by omega),← hf]
    congr 1
    omega
   have hlen:({ s with stack:=s.stack.take (s.stack.length - 1) }:DMach).stack.length≤32:=by
    have:=hQ.2.1
    simp; omega
   obtain ⟨f2,hf2⟩:∃ f,s.stack[s.stack.length - 2 + 1]? = some f:=⟨_,EK (by omega)⟩
   obtain ⟨u,b,hu,hb,hlink⟩:=hQ.st.2 _ f f2 hf hf2
   have hbo:ba m f=some b:=by simp [ba,hu,hb]
   rw [hbo]
   simp only
   split
   ·rename_i hat
    have h4:b.fin.kind=4:=by
     rcases hlink with ⟨_,h,_⟩ | ⟨h,_⟩
     ·exact h
     ·exact absurd hat h
    have hE:=(lZ hM hu hb).2.2.2.2.1.1
    rw [h4] at hE
    have hg:=lY (f:=ia f b.fin.dst w) (na hF) hu (hE rfl)
    exact co hQ.1 hlen (hQ.st.take _) htop hg rfl
   ·rename_i hat
    split
    ·exact hQ
    ·rename_i x hx
     have hup:=o8 (f:=ia f x.dst w) hM (na hF) hbo (EJ.1 hx).1
     exact co hQ.1 hlen (hQ.st.take _) htop hup rfl
theorem Ax {m:DMod} {s:DMach} {f:DFrame} {b:DBlock} {x:DIns} (hM:bz m) (hQ:bP m s) (ht:fU s=some f) (hb:ba m f=some b) (hat:¬ f.at_=b.ins.length) (hx:b.ins[f.at_.toNat]? = some x) (hI:oF m.funcs f.regs.length x):bP m (dX m s f x):=by
 have hF:=hQ.st.1 _ f ht
 have hlt:=(EJ.1 hx).1
 have hup:∀ n w,bK m (upF (ia f n w)):=fun n w=>o8 (f:=ia f n w) hM (na hF) hb hlt
 have hup0:bK m (upF f):=o8 hM hF hb hlt
 unfold dX
 split
 ·rename_i h11
  have hc:=hI.2.2.2.2.2.1
  rw [h11] at hc
  refine oE hM hQ ht (hc rfl) fun g hg=>?_
  obtain ⟨_,u,hu,_,_,b',hb',_⟩:=hF
  have:ba m f=some b':=by simp [ba,hu,hb']
  rw [hb] at this
  cases this
  exact ⟨u,b,hu,hb',.inr ⟨hat,x,hx,h11,hg.symm⟩⟩
 split
 ·split
  ·rcases vI (f:=f) (x:=x) with h | ⟨w,h⟩
   ·rw [h]; exact co hQ.1 hQ.2.1 hQ.st ht hF rfl
   ·rw [h]; exact co hQ.1 hQ.2.1 hQ.st ht (hup _ _) rfl
  ·exact ei hQ.2.1 hQ.st (by omega)
 split
 ·split
  ·exact ei hQ.2.1 hQ.st (by omega)
  ·exact co hQ.1 hQ.2.1 hQ.st ht (hup _ _) rfl
 split
 ·split
  ·exact ei hQ.2.1 hQ.st (by omega)
  ·exact co (s:=dA s (reg f x.a).toNat (reg f x.b)) hQ.1 hQ.2.1 hQ.st ht hup0 rfl
 split
 ·exact co (s:={ s with events:=s.events ++ [reg f x.a] }) hQ.1 hQ.2.1 hQ.st ht hup0 rfl
 split
 ·exact ei hQ.2.1 hQ.st (by omega)
 ·rename_i a l _
  exact co (s:={ s with events:=s.events ++ [a + 65536],inputs:=l }) hQ.1 hQ.2.1 hQ.st ht (hup _ _) rfl
theorem kL {m:DMod} {s:DMach} (hM:bz m) (hQ:bP m s):bP m (b9 m s):=by
 unfold b9
 split
 ·exact hQ
 split
 ·exact hQ
 rename_i f ht
 have hF:=hQ.st.1 _ f ht
 have hF':=hF
 obtain ⟨hf0,u,hu,hLr,hb0,b,hb,ha0,ha1⟩:=hF
 have hbo:ba m f=some b:=by simp [ba,hu,hb]
 rw [hbo]
 simp only
 have hE:=lZ hM hu hb
 have hk:=wE hE.1
 split
 ·rename_i hat
  split
  ·exact sm hM hQ
  split
  ·rename_i h4
   have hc:=hE.2.2.2.1.1
   rw [h4] at hc
   exact oE hM hQ ht (hc rfl) fun g hg=>⟨u,b,hu,hb,.inl ⟨hat,h4,hg.symm⟩⟩
  split
  ·exact nA hQ
  split
  ·exact nA hQ
  split
  ·rename_i h3
   have hc:=hE.2.2.2.2.2.1.1
   rw [h3.1] at hc
   exact co hQ.1 hQ.2.1 hQ.st ht (lY hF' hu (hc rfl)) rfl
  ·rename_i h1 h4 h5 h6 h3
   have h23:b.fin.kind=2∨b.fin.kind=3:=by omega
   have hc:=hE.2.2.2.2.1.1
   rcases h23 with h | h
   ·rw [h] at hc
    exact co hQ.1 hQ.2.1 hQ.st ht (lY hF' hu (hc rfl)) rfl
   ·rw [h] at hc
    exact co hQ.1 hQ.2.1 hQ.st ht (lY hF' hu (hc rfl)) rfl
 ·rename_i hat
  split
  ·exact hQ
  ·rename_i x hx
   have hI:=ol hM hu hb hx
   rw [← hLr] at hI
   exact Ax hM hQ ht hbo hat hx hI
theorem qw {m:DMod} {s:DMach}:(b9 m s).events=s.events∨∃ a,(b9 m s).events=s.events ++ [a]:=by
 have hw:∀ (t:DMach) f,(cj t f).events=t.events:=fun _ _=>rfl
 have he:∀ (t:DMach) a b,(bM t a b).events=t.events:=fun _ _ _=>rfl
 have hc:∀ n p,(bm m s n p).events=s.events:=by
  intro n p
  unfold bm
  split
  ·rfl
  ·split <;> rfl
 have hth:∀ w,(aQ m s w).events=s.events:=by
  intro w
  unfold aQ
  split
  ·split
   ·rfl
   ·split <;> rfl
  ·rfl
 have han:∀ w,(bc m s w).events=s.events:=by
  intro w
  unfold bc
  split
  ·rfl
  ·split
   ·rfl
   ·split
    ·rfl
    ·split
     ·rfl
     ·split <;> rfl
 have hi:∀ f x,(dX m s f x).events=s.events∨∃ a,(dX m s f x).events=s.events ++ [a]:=by
  intro f x
  unfold dX
  split
  ·exact .inl (hc _ _)
  split
  ·split
   ·exact .inl rfl
   ·exact .inl rfl
  split
  ·split
   ·exact .inl rfl
   ·exact .inl rfl
  split
  ·split
   ·exact .inl rfl
   ·exact .inl rfl
  split
  ·exact .inr ⟨_,rfl⟩
  split
  ·exact .inl rfl
  ·exact .inr ⟨_,rfl⟩
 unfold b9
 split
 ·exact .inl rfl
 split
 ·exact .inl rfl
 split
 ·exact .inl rfl
 split
 ·split
  ·exact .inl (han _)
  split
  ·exact .inl (hc _ _)
  split
  ·exact .inl (hth _)
  split
  ·exact .inl (hth _)
  split
  ·exact .inl rfl
  ·exact .inl rfl
 ·split
  ·exact .inl rfl
  ·exact hi _ _
end Go.Ab.A10
end
section
set_option maxRecDepth 10000
namespace Go.Ab
def cells16 (s:DMach):List Int:=[s.c 0,s.c 1,s.c 2,s.c 3,s.c 4,s.c 5,s.c 6,s.c 7,s.c 8,s.c 9,s.c 10,s.c 11,s.c 12,s.c 13,s.c 14,s.c 15]
theorem tF {s:DMach} (h:s.cells.length=16):cells16 s=s.cells:=by
 unfold cells16 DMach.c
 generalize s.cells=l at h
 match l,h with
 | [_,_,_,_,_,_,_,_,_,_,_,_,_,_,_,_],_=>rfl
def iy (m:DMod) (inputs:List Int):DMach:=⟨[(jA m 0 []).getD fO],List.replicate 16 0,inputs,[],0,0⟩
theorem BF {m:DMod} {l:List Int} (k:Nat):(iy m l).c k=0:=by
 simp only [DMach.c,iy,List.getD,List.getElem?_replicate]
 split <;> rfl
noncomputable def eS (m:DMod) (s:DMach):Nat→DMach
 | 0=>s
 | n + 1=>if s.done=0 then eS m (b9 m s) n else s
theorem RMach.frz' {s:DMach} {g i v:TV} (hg:RL none 5 (RFrame none) g s.stack) (hi:RWords none i s.inputs) (hv:RInts none v s.events) (ho:s.ok):RMach (ar s (Go.Ab.frz g) (Go.Ab.frz i) (Go.Ab.frz v)) s :=
 ⟨_,_,_,rfl,(hg.frz (S:=RFrame (some false)) fun _ _ h=>h.frz).weak fun _ _ h=>h.weak,(hi.frz (S:=RW1) fun _ _ h=>h.frz).weak fun _ _ h=>h,(hv.frz (S:=RI1) fun _ _ h=>h.frz).weak fun _ _ h=>h,ho⟩
end Go.Ab
namespace Go.Ab.A10
open Go Go.Ab Go.Proofs
theorem rTold {e e':List TV} {a b:DMach} (ha:RMach e a) (hb:RMach e' b):ak prog 11 [.agg e,.agg e'] (B (tt (a.events=b.events∧a.done=b.done∧a.value=b.value))):=by
 obtain ⟨g,i,v,rfl,hg,hi,hv,ho⟩:=ha
 obtain ⟨g',i',v',rfl,hg',hi',hv',ho'⟩:=hb
 refine ak.of (f11_MR _ _) ?_
 unfold f11_M
 refine aa.chk rfl (aa.chk rfl (aa.call (r14 hv hv') (aa.chk rfl (aa.ite rfl (fun h=>?_) fun h=>?_))))
 ·have h:=aP.1 h
  refine aa.tv rfl (aa.ite rfl (fun h2=>?_) fun h2=>?_)
  ·have h2:a.done=b.done:=by simpa [TV.cell,nth,ar] using h2
   refine aa.tv rfl ?_
   apply dP
   simp [h,h2]
  ·have h2:¬ a.done=b.done:=by simpa [TV.cell,nth,ar] using h2
   exact a9 fun h3=>h2 h3.2.1
 ·exact a9 fun h2=>bQ.1 h h2.1
theorem rT {m:DMod} {inputs:List Int} (hM:bz m):bP m (iy m inputs):=by
 obtain ⟨_,⟨u,hu,hp⟩,_⟩:=id hM
 obtain ⟨hf,_⟩:=pH (n:=0) (args:=[]) hM (Int.le_refl 0) hu (by simp [hp])
 refine ⟨⟨Int.le_refl 0,by show (0:Int)≤6; omega⟩,by simp [iy],fun _=>by simp [iy],fun k f hk=>?_,fun k f g hk hk'=>?_⟩
 ·have:=(EJ.1 hk).1
  simp [iy] at this
  subst this
  simp [iy] at hk
  rw [← hk]
  exact hf
 ·have:=(EJ.1 hk').1
  simp [iy] at this
end Go.Ab.A10
end
section
set_option maxRecDepth 10000
namespace Go.Ab
theorem peq16 {a b:DMach} (ha:a.cells.length=16) (hb:b.cells.length=16):A4 .u16 .neq [W (a.c 0),W (a.c 1),W (a.c 2),W (a.c 3),W (a.c 4),W (a.c 5),W (a.c 6),W (a.c 7),W (a.c 8),W (a.c 9),W (a.c 10),W (a.c 11),W (a.c 12),W (a.c 13),W (a.c 14),W (a.c 15)] [W (b.c 0),W (b.c 1),W (b.c 2),W (b.c 3),W (b.c 4),W (b.c 5),W (b.c 6),W (b.c 7),W (b.c 8),W (b.c 9),W (b.c 10),W (b.c 11),W (b.c 12),W (b.c 13),W (b.c 14),W (b.c 15)]=some (B (!(a.cells == b.cells))):=by
 have h:∀ s:DMach,lP .u16 [W (s.c 0),W (s.c 1),W (s.c 2),W (s.c 3),W (s.c 4),W (s.c 5),W (s.c 6),W (s.c 7),W (s.c 8),W (s.c 9),W (s.c 10),W (s.c 11),W (s.c 12),W (s.c 13),W (s.c 14),W (s.c 15)]=some (cells16 s):=fun _=>rfl
 unfold A4
 rw [h a,h b,tF ha,tF hb]
 rfl
end Go.Ab
namespace Go.Ab.A10
open Go Go.Ab Go.Proofs
theorem rSmall {q q':Option Bool} {e:List TV} {x:TV} {m:DMod} {l:List Int} (hm:RMod q e m) (hx:RWords q' x l):∃ b,ak prog 6 [.agg e,x] (B b)∧(b=true→oS m∧l.length≤30):=by
 obtain ⟨b,hr,hb⟩:=r7 hm
 obtain ⟨y,rfl,hy⟩:=hm
 cases b with
 | false =>
  refine ⟨false,?_,fun h=>nomatch h⟩
  refine ak.of (f6_MR _ _) ?_
  unfold f6_M
  exact aa.chk rfl (aa.call hr (aa.chk rfl (aa.ite rfl (fun h=>nomatch h) fun _=>aa.ret)))
 | true =>
  refine ⟨decide ((l.length:Int)≤30),?_,fun h=>⟨hb rfl,by simp at h; omega⟩⟩
  refine ak.of (f6_MR _ _) ?_
  unfold f6_M
  exact aa.chk rfl (aa.call hr (aa.chk rfl (aa.ite rfl (fun _=>aa.tv hx.len (aa.tv rfl aa.ret)) fun h=>nomatch h)))
end Go.Ab.A10
end
section
set_option maxRecDepth 10000
namespace Go.Ab
def mN (m:DMod) (f:DFrame) (n:Int):Prop :=
 ∃ u b,m.funcs[f.f.toNat]? = some u∧u.blocks[f.block.toNat]? = some b∧((f.at_=b.ins.length∧b.fin.kind=4∧b.fin.f=n)∨(¬ f.at_=b.ins.length∧∃ x,b.ins[f.at_.toNat]? = some x∧x.op=11∧x.f=n))
def ma (m:DMod) (l:List DFrame) (k:Nat):Prop:=∀ f,l[k]? = some f→bK m f∧(0 < k→∀ g,l[k - 1]? = some g→mN m g f.f)
theorem wI {m:DMod} {l:List DFrame}:(∀ k,k < l.length→ma m l k) ↔ fx m l:=by
 constructor
 ·intro h
  refine ⟨fun k f hf=>(h k (EJ.1 hf).1 f hf).1,fun k f g hf hg=>?_⟩
  exact (h (k + 1) (EJ.1 hg).1 g hg).2 (by omega) f (by simpa using hf)
 ·intro h k hk f hf
  refine ⟨h.1 k f hf,fun h0 g hg=>?_⟩
  exact h.2 (k - 1) g f hg (by rw [show k - 1 + 1=k by omega]; exact hf)
end Go.Ab
namespace Go.Ab.A10
open Go Go.Ab Go.Proofs
theorem Cw {q q':Option Bool} {e e':List TV} {m:DMod} {f:DFrame} {n:Int} (hm:RMod q e m) (hf:RFrame q' e' f) (hQ:bK m f) :
  ak prog 33 [.agg e,.agg e',I n] (B (tt (mN m f n))):=by
 obtain ⟨hf0,u,hu,hL,hb0,b,hb,ha0,ha1⟩:=hQ
 obtain ⟨y,rfl,hy⟩:=hm
 obtain ⟨g,rfl,hg,ho⟩:=hf
 obtain ⟨e,he,hr⟩:=hy.bF (k:=.i64) hf0 hu
 obtain ⟨bs,rfl,hbs,_⟩:=hr
 obtain ⟨eb,heb,hrb⟩:=hbs.bF (k:=.i64) hb0 hb
 obtain ⟨c,is,ga,rfl,hc,hdi,his,hga,hfo⟩:=hrb
 have same:∀ {P:Prop},((f.at_=b.ins.length∧b.fin.kind=4∧b.fin.f=n)∨(¬ f.at_=b.ins.length∧∃ x,b.ins[f.at_.toNat]? = some x∧x.op=11∧x.f=n) ↔ P)→(mN m f n ↔ P):=by
  intro P h
  rw [← h]
  constructor
  ·rintro ⟨u',b',hu',hb',h⟩
   rw [hu] at hu'
   cases hu'
   rw [hb] at hb'
   cases hb'
   exact h
  ·exact fun h=>⟨u,b,hu,hb,h⟩
 refine ak.of (f33_MR _ _ _) ?_
 unfold f33_M
 refine aa.chk rfl (aa.chk rfl (aa.tvs he (aa.chk rfl (aa.tvs heb (aa.chk rfl (aa.tv (RL.len his) (aa.tv rfl (aa.ite rfl (fun h=>?_) fun h=>?_))))))))
 ·have h:f.at_ < (b.ins.length:Int):=by simpa [TV.cell,nth] using h
  have hlt:f.at_.toNat < b.ins.length:=by omega
  have hx:b.ins[f.at_.toNat]? = some b.ins[f.at_.toNat]:=EK hlt
  generalize b.ins[f.at_.toNat]=x at hx
  obtain ⟨ex,hex,hrx⟩:=his.bF (k:=.i64) ha0 hx
  obtain ⟨z,rfl,hz,hxo⟩:=hrx
  have hiff:mN m f n ↔ x.op=11∧x.f=n:=same (by
   constructor
   ·rintro (⟨h',_⟩ | ⟨_,x',hx',h'⟩)
    ·omega
    ·rw [hx] at hx'
     cases hx'
     exact h'
   ·exact fun h'=>.inr ⟨by omega,x,hx,h'⟩)
  rw [cE hiff]
  refine aa.tvs hex (aa.chk rfl (aa.tv rfl (aa.ite rfl (fun h=>?_) fun h=>?_)))
  ·have h:x.op=11:=by simpa [nth] using h
   refine aa.tv rfl ?_
   apply dP
   simp [h]
  ·have h:¬ x.op=11:=by simpa [nth] using h
   exact a9 fun h'=>h h'.1
 ·have h:¬ f.at_ < (b.ins.length:Int):=by simpa [TV.cell,nth] using h
  have hiff:mN m f n ↔ b.fin.kind=4∧b.fin.f=n:=same (by
   constructor
   ·rintro (⟨_,h'⟩ | ⟨h',_⟩)
    ·exact h'
    ·omega
   ·exact fun h'=>.inl ⟨by omega,h'⟩)
  rw [cE hiff]
  refine aa.tv rfl (aa.ite rfl (fun h=>?_) fun h=>?_)
  ·have h:b.fin.kind=4:=by simpa [nth] using h
   refine aa.tv rfl ?_
   apply dP
   simp [h]
  ·have h:¬ b.fin.kind=4:=by simpa [nth] using h
   exact a9 fun h'=>h h'.1
theorem DW {q:Option Bool} {e e':List TV} {m:DMod} {s:DMach} (hm:RMod q e m) (hs:RMach e' s):ak prog 21 [.agg e,.agg e'] (B (tt (bz m∧bP m s))):=by
 have h8:=r8 hm
 have hm':=hm
 obtain ⟨y,rfl,hy⟩:=hm
 obtain ⟨g,i,v,rfl,hg,hi,hv,ho⟩:=hs
 refine ak.of (f21_MR _ _) ?_
 unfold f21_M
 refine aa.chk rfl (aa.chk rfl (aa.call h8 (aa.chk rfl (aa.tv rfl (aa.ite rfl (fun h=>?_) fun h=>?_)))))
 ·exact a9 fun h'=>bQ.1 (by simpa using h) h'.1
 have hM:bz m:=aP.1 (by simpa using h)
 refine aa.tv rfl (aa.ite rfl (fun h=>?_) fun h=>?_)
 ·have h:s.done < 0:=by simpa [TV.cell,nth,ar] using h
  exact a9 fun h'=>by have:=h'.2.1.1; omega
 have hd0:¬ s.done < 0:=by simpa [TV.cell,nth,ar] using h
 refine aa.tv rfl (aa.ite rfl (fun h=>?_) fun h=>?_)
 ·have h:6 < s.done:=by simpa [TV.cell,nth,ar] using h
  exact a9 fun h'=>by have:=h'.2.1.2; omega
 have hd6:¬ 6 < s.done:=by simpa [TV.cell,nth,ar] using h
 refine aa.tv (RL.len hg) (aa.tv rfl (aa.ite rfl (fun h=>?_) fun h=>?_))
 ·have h:32 < s.stack.length:=by simp at h; omega
  exact a9 fun h'=>by have:=h'.2.2.1; omega
 have h32:¬ 32 < s.stack.length:=by simp at h; omega
 have key : (s.done = 0 → 0 < s.stack.length) → aa prog 21 (f21_0 y g (W (s.c 0)) (W (s.c 1)) (W (s.c 2)) (W (s.c 3)) (W (s.c 4)) (W (s.c 5)) (W (s.c 6)) (W (s.c 7)) (W (s.c 8)) (W (s.c 9)) (W (s.c 10)) (W (s.c 11)) (W (s.c 12)) (W (s.c 13)) (W (s.c 14)) (W (s.c 15)) i v (I s.done) (W s.value)) (B (tt (bz m ∧ bP m s))) := by
  intro h00
  have hiff:(bz m∧bP m s) ↔ ∀ k,k < s.stack.length→ma m s.stack k:=by
   rw [wI]
   constructor
   ·exact fun h=>h.2.2.2.2
   ·exact fun h=>⟨hM,⟨by omega,by omega⟩,by omega,h00,h⟩
  rw [cE hiff]
  unfold f21_0
  refine aa.tv (RL.len hg) (f21_1_J ?_)
  have loop:∀ d k,k + d=s.stack.length→(∀ j,j < k→ma m s.stack j)→aa prog 21 (f21_1 g (I (s.stack.length:Int)) (I (k:Int)) y g (W (s.c 0)) (W (s.c 1)) (W (s.c 2)) (W (s.c 3)) (W (s.c 4)) (W (s.c 5)) (W (s.c 6)) (W (s.c 7)) (W (s.c 8)) (W (s.c 9)) (W (s.c 10)) (W (s.c 11)) (W (s.c 12)) (W (s.c 13)) (W (s.c 14)) (W (s.c 15)) i v (I s.done) (W s.value)) (B (tt (∀ k,k < s.stack.length→ma m s.stack k))):=by
   intro d
   induction d with
   | zero =>
    intro k hk hall
    have hk:k=s.stack.length:=by omega
    subst hk
    unfold f21_1
    refine aa.tv rfl (aa.ite aZ (fun h=>nomatch h) fun _=>?_)
    exact zu hall
   | succ d ih =>
    intro k hk hall
    have hlt:k < s.stack.length:=by omega
    have hkf:s.stack[k]? = some s.stack[k]:=EK hlt
    generalize s.stack[k]=f at hkf
    obtain ⟨ef,hef,hrf⟩:=hg.idx (k:=.i64) hkf
    have hFR:=D5 hm' hrf
    obtain ⟨gr,rfl,hgr,hof⟩:=hrf
    have next:ma m s.stack k→aa prog 21 (f21_1 g (I (s.stack.length:Int)) (I ((k + 1:Nat):Int)) y g (W (s.c 0)) (W (s.c 1)) (W (s.c 2)) (W (s.c 3)) (W (s.c 4)) (W (s.c 5)) (W (s.c 6)) (W (s.c 7)) (W (s.c 8)) (W (s.c 9)) (W (s.c 10)) (W (s.c 11)) (W (s.c 12)) (W (s.c 13)) (W (s.c 14)) (W (s.c 15)) i v (I s.done) (W s.value)) (B (tt (∀ k,k < s.stack.length→ma m s.stack k))):=fun h=>ih (k + 1) (by omega) fun j hj=>by
     by_cases hjk:j < k
     ·exact hall j hjk
     ·have:j=k:=by omega
      subst this
      exact h
    unfold f21_1
    refine aa.tv rfl (aa.ite (aK hlt) (fun _=>?_) fun h=>nomatch h)
    refine aa.tvs hef (aa.chk rfl (aa.call hFR (aa.chk rfl (aa.tv rfl (aa.ite rfl (fun h=>?_) fun h=>?_)))))
    ·have h:¬ (bz m∧bK m f):=bQ.1 (by simpa using h)
     exact a9 fun h'=>h ⟨hM,(h' k hlt f hkf).1⟩
    have hFM:bz m∧bK m f:=aP.1 (by simpa using h)
    have hF:bK m f:=hFM.2
    refine aa.tv rfl (aa.ite rfl (fun h=>?_) fun h=>?_)
    ·have h0:0 < k:=by simp at h; omega
     have hpf:s.stack[k - 1]? = some s.stack[k - 1]:=EK (by omega)
     generalize s.stack[k - 1]=p at hpf
     obtain ⟨ep,hep,hrp⟩:=hg.idx (k:=.i64) hpf
     have hFp:=(hall (k - 1) (by omega) p hpf).1
     have hC:=Cw (n:=f.f) hm' hrp hFp
     obtain ⟨gp,rfl,hgp,hop⟩:=hrp
     refine aa.tv (dec h0 (by omega)) (aa.tvs hep (aa.chk rfl (aa.call hC (aa.chk rfl (aa.tv rfl (aa.ite rfl (fun h=>?_) fun h=>?_))))))
     ·have h:¬ mN m p f.f:=bQ.1 (by simpa using h)
      exact a9 fun h'=>h ((h' k hlt f hkf).2 h0 p hpf)
     ·have h:mN m p f.f:=aP.1 (by simpa using h)
      refine aa.tv (inc hlt hg.bnd) (f21_1_J (next fun f' hf'=>?_))
      rw [hkf] at hf'
      cases hf'
      refine ⟨hF,fun _ g' hg'=>?_⟩
      rw [hpf] at hg'
      cases hg'
      exact h
    ·have h0:k=0:=by simp at h; omega
     refine aa.tv (inc hlt hg.bnd) (f21_1_J (next fun f' hf'=>?_))
     rw [hkf] at hf'
     cases hf'
     exact ⟨hF,fun h=>by omega⟩
  exact loop s.stack.length 0 (by omega) fun j hj=>by omega
 refine aa.tv rfl (aa.ite rfl (fun h=>?_) fun h=>?_)
 ·have hd:s.done=0:=by simpa [TV.cell,nth,ar] using h
  refine aa.tv (RL.len hg) (aa.tv rfl (aa.ite rfl (fun h=>?_) fun h=>?_))
  ·have h:s.stack.length=0:=by simp at h; simp [h]
   exact a9 fun h'=>by have:=h'.2.2.2.1 hd; omega
  ·exact f21_0_J (key fun _=>by
    have h:¬ s.stack.length=0:=by simp at h; simp [h]
    omega)
 ·have hd:¬ s.done=0:=by simpa [TV.cell,nth,ar] using h
  exact f21_0_J (key fun h0=>absurd h0 hd)
end Go.Ab.A10
end
section
set_option maxRecDepth 10000
namespace Go.Ab
def eJ (e:List TV) (s:DMach):Prop:=∃ g i v,e=ar s g i v∧RL (some true) 5 (RFrame (some true)) g s.stack∧RWords (some true) i s.inputs∧RInts (some true) v s.events∧s.ok
theorem xS {s:DMach} {g i v:TV} (h1:isOwn g=true) (h2:isOwn i=true) (h3:isOwn v=true):isOwn (.agg (ar s g i v))=true:=by
 simp [isOwn,aV,ar,h1,h2,h3]
end Go.Ab
namespace Go.Ab.A10
open Go Go.Ab Go.Proofs
theorem rOwnF {α:Type} {q:Option Bool} {R:List TV→α→Prop} {x:TV} {l:List α} (hx:RL q 5 R x l) (hl:l.length≤4294967296):∃ y,ak prog 18 [x] y∧RL (some true) 5 R y l:=by
 obtain ⟨xs,hxs,_⟩:=hx.elems
 obtain ⟨y,hy,hr⟩:=oj hx [.lit (.int .i64 0),.lit (.int .i64 0),.lit (.int .i64 0),.lit (.slice none 0 0),.lit (.int .u16 0)] hxs
 have hn:=aS (k:=l.length) (by omega)
 have hle:(Nat.ble l.length 4294967296)=true:=by simpa using hl
 have hle':(Nat.ble l.length l.length)=true:=by simp
 rcases hx with ⟨rfl,rfl⟩ | ⟨o,ys,rfl,hq,h,hb⟩
 ·refine ⟨.lit aI,?_,.nil⟩
  refine ak.of (f18_MR _) ?_
  unfold f18_M
  exact aa.tv rfl (aa.ite rfl (fun _=>aa.ret) fun h=>nomatch h)
 ·refine ⟨y,?_,hr⟩
  refine ak.of (f18_MR _) ?_
  unfold f18_M
  refine aa.tv rfl (aa.ite rfl (fun h=>nomatch h) fun _=>?_)
  refine aa.tv (v:=I l.length) (by simp [plen,h.length]) (aa.nat hn (aa.nat hn (aa.chk (by rw [hle,hle']; rfl) (aa.rws hxs (aa.tv hy (aa.nat rfl aa.ret))))))
theorem C4 {e:List TV} {s:DMach} (hs:RMach e s) (h1:s.stack.length≤4294967296) (h2:∀ (k:Nat) f,s.stack[k]? = some f→f.regs.length≤4294967296) (h3:s.inputs.length≤4294967296) (h4:s.events.length≤4294967296) :
  ∃ e2,ak prog 9 [.agg e] (.agg e2)∧eJ e2 s:=by
 obtain ⟨g,i,v,rfl,hg,hi,hv,ho⟩:=hs
 obtain ⟨g',hrg,hg'⟩:=rOwnF hg h1
 obtain ⟨i',hri,hi'⟩:=r39 hi h3
 obtain ⟨v',hrv,hv'⟩:=r41 hv h4
 have loop:∀ d k w,k + d=s.stack.length→RP 5 (fun j e x=>RFrame (if j < k then some true else none) e x) w s.stack→∃ w',aa prog 9 (f9_0 (I s.stack.length) (I k) (W (s.c 0)) (W (s.c 1)) (W (s.c 2)) (W (s.c 3)) (W (s.c 4)) (W (s.c 5)) (W (s.c 6)) (W (s.c 7)) (W (s.c 8)) (W (s.c 9)) (W (s.c 10)) (W (s.c 11)) (W (s.c 12)) (W (s.c 13)) (W (s.c 14)) (W (s.c 15)) i v (I s.done) (W s.value) w) (.agg (ar s w' i' v'))∧RL (some true) 5 (RFrame (some true)) w' s.stack:=by
  intro d
  induction d with
  | zero =>
   intro k w hk hw
   have hk:k=s.stack.length:=by omega
   subst hk
   have hw':RL (some true) 5 (RFrame (some true)) w s.stack:=hw.toRL fun i e a hi h=>by simpa [hi] using h
   refine ⟨w,?_,hw'⟩
   unfold f9_0
   refine aa.tv rfl (aa.ite aZ (fun h=>nomatch h) fun _=>?_)
   refine f9_1_J ?_
   unfold f9_1
   refine aa.call hri (aa.chk ?_ (aa.call hrv (aa.chk ?_ (aa.chk ?_ aa.ret))))
   ·simp [ab,zSl,aC,hi'.isSl]
   ·simp [ab,zSl,aC,hv'.isSl]
   ·exact xS (hw'.own fun _ _ h=>h.own) (hi'.own fun _ _ h=>h.own) (hv'.own fun _ _ h=>h.own)
  | succ d ih =>
   intro k w hk hw
   have hkb:k < s.stack.length:=by omega
   have ha:s.stack[k]? = some s.stack[k]:=EK hkb
   have hl:=h2 k _ ha
   generalize s.stack[k]=u at ha hl
   obtain ⟨e,he,hr,hget,hset⟩:=hw.row ha
   simp only [Nat.lt_irrefl,if_false] at hr
   obtain ⟨z,rfl,hz,hok⟩:=hr
   obtain ⟨z',h39z,hz'⟩:=r39 (hz.frz (S:=RW1) fun _ _ h=>h.frz) hl
   have hw2:=hw.set (S:=fun j e x=>RFrame (if j < k + 1 then some true else none) e x) ha (e:=[I u.f,I u.block,I u.at_,z',W u.fly]) (by simp; exact ⟨z',rfl,hz',hok⟩) (fun j e c hj h=>by
    by_cases hjk:j < k
    ·simpa [hjk,show j < k + 1 by omega] using h
    ·simpa [hjk,show ¬ j < k + 1 by omega] using h)
   obtain ⟨w',hw',hrl⟩:=ih (k + 1) _ (by omega) hw2
   refine ⟨w',?_,hrl⟩
   have hb:=hg.bnd
   have hlt:(Nat.blt k s.stack.length)=true:=by simpa using hkb
   unfold f9_0
   refine aa.tv rfl (aa.ite (aK hkb) (fun _=>?_) fun h=>nomatch h)
   refine aa.nat hw.slLen (aa.nat (aS (by omega)) (aa.chk (by rw [hw.slSize,hlt]; rfl) (aa.tvs he (aa.chk (by simp [ab,zSl,aC,hz.isSl]) (aa.tv (hget 3 z rfl) (aa.call h39z (aa.chk (by simp [ab,zSl,aC,hz'.isSl]) ?_)))))))
   refine aa.nat hw.slLen (aa.nat (aS (by omega)) (aa.chk (by rw [hw.slSize,hlt]; rfl) (aa.tvs he (aa.chk (by simp [ab,a7,zSl,aC,hz.isSl,hz'.isSl]) (aa.tv (hset 3 [z']) (aa.tv (inc hkb hb) (f9_0_J hw')))))))
 obtain ⟨w',hw',hrl⟩:=loop s.stack.length 0 g' (by omega) (hg'.toRP fun i e a h=>by simpa using h)
 refine ⟨_,?_,⟨w',i',v',rfl,hrl,hi',hv',ho⟩⟩
 refine ak.of (f9_MR _) ?_
 unfold f9_M
 exact aa.chk rfl (aa.call hrg (aa.chk (by simp [ab,zSl,aC,hg'.isSl]) (aa.tv hg'.len (f9_0_J hw'))))
end Go.Ab.A10
end
section
set_option maxRecDepth 10000
namespace Go.Ab
abbrev RStack (g:TV) (l:List DFrame):Prop:=RL (some true) 5 (RFrame (some true)) g l
section
variable {g:TV} {l:List DFrame} {k:Nat} {f:DFrame}
theorem RStack.at_ (hg:RStack g l) (hk:l[k]? = some f):∃ xs gr,g=.sl true 5 xs∧xs[k]? = some [I f.f,I f.block,I f.at_,gr,W f.fly]∧F2 (RFrame (some true)) xs l∧xs.length≤9223372036854775807∧RWords (some true) gr f.regs∧f.ok:=by
 rcases hg with ⟨rfl,rfl⟩ | ⟨o,xs,rfl,hq,h,hb⟩
 ·simp at hk
 ·have:o=true:=hq true rfl
  subst this
  obtain ⟨e,he,gr,rfl,hgr,ho⟩:=h.get hk
  exact ⟨xs,gr,rfl,he,h,hb,hgr,ho⟩
theorem RStack.row (hg:RStack g l) (hk:l[k]? = some f):∃ gr,pel g k=some [I f.f,I f.block,I f.at_,gr,W f.fly]∧aF [(k,3)] g=some gr∧RWords (some true) gr f.regs∧f.ok:=by
 obtain ⟨xs,gr,rfl,hx,_,_,hgr,ho⟩:=hg.at_ hk
 exact ⟨gr,hx,gU (x:=.sl true 5 xs) hx rfl,hgr,ho⟩
theorem RStack.all (hg:RStack g l) (hk:l[k]? = some f) {e':List TV} {f':DFrame} (h:RFrame (some true) e' f'):∃ g',bI [] g k 0 e'=some g'∧RStack g' (l.set k f'):=by
 obtain ⟨xs,gr,rfl,hx,hF,hb,hgr,ho⟩:=hg.at_ hk
 obtain ⟨gr',rfl,hgr',ho'⟩:=id h
 refine ⟨.sl true 5 (ao xs k [I f'.f,I f'.block,I f'.at_,gr',W f'.fly]),?_,.sl (by simp) (hF.set h) (by rw [d6]; exact hb)⟩
 simp only [bI,aF,mG,hx,kC,bo]
 rfl
theorem RStack.oP (hg:RStack g l) (hk:l[k]? = some f) {n:Int} (hn:inI n):∃ g',bI [] g k 2 [I n]=some g'∧RStack g' (l.set k { f with at_:=n }):=by
 obtain ⟨xs,gr,rfl,hx,hF,hb,hgr,ho⟩:=hg.at_ hk
 have hR:RFrame (some true) [I f.f,I f.block,I n,gr,W f.fly] { f with at_:=n }:=⟨gr,rfl,hgr,ho.1,ho.2.1,hn,ho.2.2.2⟩
 refine ⟨.sl true 5 (ao xs k [I f.f,I f.block,I n,gr,W f.fly]),?_,.sl (by simp) (hF.set hR) (by rw [d6]; exact hb)⟩
 simp only [bI,aF,mG,hx,kC,bo]
 rfl
theorem RStack.Dv (hg:RStack g l) (hk:l[k]? = some f) {w:Int} (hw:inW w):∃ g',bI [] g k 4 [W w]=some g'∧RStack g' (l.set k { f with fly:=w }):=by
 obtain ⟨xs,gr,rfl,hx,hF,hb,hgr,ho⟩:=hg.at_ hk
 have hR:RFrame (some true) [I f.f,I f.block,I f.at_,gr,W w] { f with fly:=w }:=⟨gr,rfl,hgr,ho.1,ho.2.1,ho.2.2.1,hw⟩
 refine ⟨.sl true 5 (ao xs k [I f.f,I f.block,I f.at_,gr,W w]),?_,.sl (by simp) (hF.set hR) (by rw [d6]; exact hb)⟩
 simp only [bI,aF,mG,hx,kC,bo]
 rfl
theorem RStack.put (hg:RStack g l) (hk:l[k]? = some f) {n:Nat} {w:Int} (hn:n < f.regs.length) (hw:inW w):∃ g',bI [(k,3)] g n 0 [W w]=some g'∧RStack g' (l.set k { f with regs:=f.regs.set n w }):=by
 obtain ⟨xs,gr,rfl,hx,hF,hb,hgr,ho⟩:=hg.at_ hk
 obtain ⟨a,v',hpe,hs,hrl⟩:=RWords.put hgr hn hw
 have hR:RFrame (some true) [I f.f,I f.block,I f.at_,v',W f.fly] { f with regs:=f.regs.set n w }:=⟨v',rfl,hrl,ho⟩
 refine ⟨.sl true 5 (ao xs k [I f.f,I f.block,I f.at_,v',W f.fly]),?_,.sl (by simp) (hF.set hR) (by rw [d6]; exact hb)⟩
 have hse:mG gr n 0 [W w]=some v':=by
  simp only [bI,aF,kC] at hs
  cases h:mG gr n 0 [W w] with
  | none=>rw [h] at hs; cases hs
  | some u=>rw [h] at hs; simpa using hs
 have hgp:aF [(k,3)] (.sl true 5 xs)=some gr:=gU (x:=.sl true 5 xs) hx rfl
 simp only [bI,hgp,hse]
 simp only [kC,hx]
 rfl
theorem RStack.win (hg:RStack g l) {n:Nat} (hn:n≤l.length):∃ g',dS 0 n g=some g'∧RStack g' (l.take n):=by
 rcases hg with ⟨rfl,rfl⟩ | ⟨o,xs,rfl,hq,h,hb⟩
 ·have:n=0:=by simpa using hn
  subst this
  exact ⟨_,rfl,.nil⟩
 ·have hl:=h.length
  refine ⟨.sl o 5 (xs.take n),?_,.sl hq (h.take n) (by simp; omega)⟩
  simp only [dS]
  rw [if_pos (by omega)]
  rfl
theorem RWords.win {q:Option Bool} {x:TV} {l:List Int} (hx:RWords q x l) {lo n:Nat} (hn:lo + n≤l.length):∃ y,dS lo n x=some y∧RWords q y ((l.drop lo).take n):=by
 rcases hx with ⟨rfl,rfl⟩ | ⟨o,xs,rfl,hq,h,hb⟩
 ·simp at hn
  obtain ⟨rfl,rfl⟩:=hn
  exact ⟨_,rfl,.nil⟩
 ·have hl:=h.length
  refine ⟨.sl o 1 ((xs.drop lo).take n),?_,.sl hq ((h.drop lo).take n) (by simp; omega)⟩
  simp only [dS]
  rw [if_pos (by omega)]
end
theorem ix {α:Type} {l:List α} {a:α} (h:0 < l.length):l.set (l.length - 1) a=l.take (l.length - 1) ++ [a]:=by
 apply List.ext_getElem?
 intro i
 rw [List.getElem?_set]
 by_cases hi:i < l.length - 1
 ·rw [ET (by simp; omega),List.getElem?_take,if_pos hi,if_neg (by omega)]
 ·rw [EU (by simp; omega)]
  by_cases he:l.length - 1=i
  ·subst he
   simp; omega
  ·rw [if_neg he,EV (by omega),EV (by simp; omega)]
theorem cP {α:Type} {l:List α} {k:Nat} {a b:α}:(l.set k a).set k b=l.set k b:=List.set_set ..
theorem j9 {α:Type} {l:List α} {k:Nat} {a b:α} (h:l[k]? = some a):(l.set k b)[k]? = some b:=by
 have:=(EJ.1 h).1
 simp [List.getElem?_set,this]
end Go.Ab
end

import Derived.Test.YthmcbcepgchhcaaEU7F41
section
set_option linter.unusedVariables false
set_option maxRecDepth 10000
namespace Go.Ab
def catchP (m:DMod) (f:DFrame) (w:Int) (cl:Bool):Prop :=
 ∃ u b p,m.funcs[f.f.toNat]? = some u∧u.blocks[f.block.toNat]? = some b∧f.at_=b.ins.length∧b.fin.kind=4∧u.blocks[b.fin.pad.toNat]? = some p∧((p.pad.all=true∨w ∈ p.pad.catches)∨cl=true∧p.pad.cleanup=true)
open Classical in
noncomputable def lastAt (P:Nat→Prop):Nat→Option Nat
 | 0=>none
 | n + 1=>if P n then some n else lastAt P n
theorem lastAt_eq {P:Nat→Prop} {k:Nat} (h:P k):∀ {n:Nat},k < n→(∀ j,k < j→j < n→¬ P j)→lastAt P n=some k
 | 0,hk,_=>absurd hk (Nat.not_lt_zero _)
 | n + 1, hk, hn => by
  by_cases he:k=n
  ·subst he
   simp [lastAt,h]
  ·simp only [lastAt]
   rw [if_neg (hn n (by omega) (by omega))]
   exact lastAt_eq h (by omega) fun j h1 h2=>hn j h1 (by omega)
def padOf (m:DMod) (f:DFrame):Int:=((((m.funcs[f.f.toNat]?).bind fun u=>u.blocks[f.block.toNat]?).map fun b=>b.fin.pad).getD 0)
def catchAt (m:DMod) (l:List DFrame) (w:Int) (cl:Bool) (i:Nat):Prop:=∃ f,l[i]? = some f∧catchP m f w cl
open Classical in
noncomputable def thrownT (m:DMod) (s:DMach) (w:Int):DMach :=
 if ∃ i,catchAt m (s.stack.take (s.stack.length - 1)) w false i then
  match lastAt (catchAt m (s.stack.take (s.stack.length - 1)) w true) (s.stack.length - 1) with
  | none=>s
  | some k=>match s.stack[k]? with
   | none=>s
   | some f=>withT { s with stack:=s.stack.take (k + 1) } ((landT m f (padOf m f) w).getD f)
 else endedT { s with stack:=s.stack.take (s.stack.length - 1) } 2 w
end Go.Ab
namespace Go.Ab.U7
open Go Go.Ab Go.Proofs
theorem mod_block {m:DMod} {g:DFunc} {b:DBlock} {n k:Nat} (h:modP m) (hg:m.funcs[n]? = some g) (hb:g.blocks[k]? = some b):blockP m.funcs g.regs g.blocks b :=
 (mod_func h hg).2.2.2 k (List.getElem?_eq_some_iff.1 hb).1 b hb
theorem mod_pad {m:DMod} {g:DFunc} {b:DBlock} {n k:Nat} (h:modP m) (hg:m.funcs[n]? = some g) (hb:g.blocks[k]? = some b) (h4:b.fin.kind=4):goalAt g.blocks b.fin.pad true:=by
 have:=(mod_block h hg hb).2.2.2.2.2.2.2.2.2.1
 rw [h4] at this
 exact this rfl
theorem frame_len {m:DMod} {f:DFrame} (h:modP m) (hQ:frameQ m f):f.regs.length≤256:=by
 obtain ⟨h0,u,hu,hL,_⟩:=hQ
 have:=mod_regs h hu
 omega
end Go.Ab.U7
end
section
set_option linter.unusedVariables false
set_option maxRecDepth 10000
set_option linter.unusedSimpArgs false
namespace Go.Ab
theorem pconv_wi {a:Int} (ha:inW a):pconv (.int .i64) (W a)=some (I a):=by
 simp only [pconv]
 rw [IntKind.wrap_i64]
 have:=ha.1
 have:=ha.2
 congr 3
 omega
theorem nth16 (F:Nat→TV) {n:Nat} (h:n < 16):pnth n [F 0,F 1,F 2,F 3,F 4,F 5,F 6,F 7,F 8,F 9,F 10,F 11,F 12,F 13,F 14,F 15]=some (F n):=by
 match n,h with
 | 0,_=>rfl
 | 1,_=>rfl
 | 2,_=>rfl
 | 3,_=>rfl
 | 4,_=>rfl
 | 5,_=>rfl
 | 6,_=>rfl
 | 7,_=>rfl
 | 8,_=>rfl
 | 9,_=>rfl
 | 10,_=>rfl
 | 11,_=>rfl
 | 12,_=>rfl
 | 13,_=>rfl
 | 14,_=>rfl
 | 15,_=>rfl
 | n + 16,h=>omega
def upF (f:DFrame):DFrame:={ f with at_:=IntKind.i64.wrap (f.at_ + 1) }
def putT (f:DFrame) (n w:Int):DFrame:={ f with regs:=f.regs.set n.toNat w }
def blockOf (m:DMod) (f:DFrame):Option DBlock:=(m.funcs[f.f.toNat]?).bind fun u=>u.blocks[f.block.toNat]?
open Classical in
noncomputable def answeredT (m:DMod) (s:DMach) (w:Int):DMach :=
 match s.stack[s.stack.length - 2]? with
 | none=>s
 | some f => if s.stack.length ≤ 1 then endedT { s with stack := [] } 1 w else
  match blockOf m f with
  | none=>s
  | some b=>if f.at_=b.ins.length then withT { s with stack:=s.stack.take (s.stack.length - 1) } { putT f b.fin.dst w with block:=b.fin.to,at_:=0 } else
   match b.ins[f.at_.toNat]? with
   | none=>s
   | some x=>withT { s with stack:=s.stack.take (s.stack.length - 1) } (upF (putT f x.dst w))
def reg (f:DFrame) (n:Int):Int:=f.regs.getD n.toNat 0
def putCell (s:DMach) (n:Nat) (w:Int):DMach:={ s with cells:=s.cells.set n w }
def insT (m:DMod) (s:DMach) (f:DFrame) (x:DIns):DMach :=
 if x.op=11 then calledT m s x.f x.args else
 if x.op≤8 then (if (reckonT f x).2=true then withT s (reckonT f x).1 else endedT s 3 0) else
 if x.op=9 then (if 16≤reg f x.a then endedT s 4 0 else withT s (upF (putT f x.dst (s.c (reg f x.a).toNat)))) else
 if x.op=10 then (if 16≤reg f x.a then endedT s 4 0 else withT (putCell s (reg f x.a).toNat (reg f x.b)) (upF f)) else
 if x.op=12 then withT { s with events:=s.events ++ [reg f x.a] } (upF f) else
 match s.inputs with
 | []=>endedT s 6 0
 | a :: l=>withT { s with events:=s.events ++ [a + 65536],inputs:=l } (upF (putT f x.dst a))
theorem putCell_c {s:DMach} {n j:Nat} {w:Int} (hl:s.cells.length=16) (hj:j < 16):selT n j (W w) (W (s.c j))=W ((putCell s n w).c j):=by
 have hl':j < s.cells.length:=by omega
 by_cases h:n=j
 ·subst h
  simp [selT,putCell,DMach.c,List.getD,List.getElem?_set_self hl']
 ·have hb:n.beq j=false:=by
   cases h':n.beq j with
   | false=>rfl
   | true=>exact absurd (Nat.eq_of_beq_eq_true h') h
  simp [selT,hb,putCell,DMach.c,List.getD,List.getElem?_set_ne h]
theorem putCell_in {s:DMach} {n:Nat} {w:Int} (h:∀ k,inW (s.c k)) (hw:inW w) (k:Nat):inW ((putCell s n w).c k):=by
 have hk:=h k
 simp only [DMach.c,putCell,List.getD,List.getElem?_set] at hk ⊢
 split
 ·split
  ·exact hw
  ·exact inW0
 ·exact hk
end Go.Ab
namespace Go.Ab.U7
open Go Go.Ab Go.Proofs
theorem uses_of {op:Int} (h:has (usesI op) 1=true):1≤op∧op≤13:=by
 by_cases hn:1≤op∧op≤13
 ·exact hn
 ·have:usesI op=0:=by
   unfold usesI
   repeat rw [if_neg (by omega)]
  rw [this] at h
  exact absurd h (by decide)
end Go.Ab.U7
end
section
set_option linter.unusedVariables false
set_option linter.unusedSimpArgs false
set_option maxRecDepth 10000
namespace Go.Ab
def linkP (m:DMod) (f g:DFrame):Prop :=
 ∃ u b,m.funcs[f.f.toNat]? = some u∧u.blocks[f.block.toNat]? = some b∧((f.at_=b.ins.length∧b.fin.kind=4∧b.fin.f=g.f)∨(¬ f.at_=b.ins.length∧∃ x,b.ins[f.at_.toNat]? = some x∧x.op=11∧x.f=g.f))
def machQ (m:DMod) (s:DMach):Prop :=
 (0≤s.done∧s.done≤6)∧s.stack.length≤32∧(s.done=0→0 < s.stack.length)∧(∀ (k:Nat) f,s.stack[k]? = some f→frameQ m f)∧∀ (k:Nat) f g,s.stack[k]? = some f→s.stack[k + 1]? = some g→linkP m f g
theorem getP_of_pel {x:TV} {k j:Nat} {e:List TV} {y:TV} (h:pel x k=some e) (hj:e[j]? = some y):getP [(k,j)] x=some y:=by
 cases x <;> simp [pel] at h
 simp [getP,h,hj]
noncomputable def stepT (m:DMod) (s:DMach):DMach :=
  if ¬ s.done=0 then s else
  match topT s with
  | none=>s
  | some f => match blockOf m f with
    | none=>s
    | some b => if f.at_ = b.ins.length then
        (if b.fin.kind = 1 then answeredT m s (reg f b.fin.a) else
         if b.fin.kind=4 then calledT m s b.fin.f b.fin.args else
         if b.fin.kind=5 then thrownT m s (reg f b.fin.a) else
         if b.fin.kind=6 then thrownT m s f.fly else
         if b.fin.kind=3∧reg f b.fin.a=0 then withT s { f with block:=b.fin.els,at_:=0 } else withT s { f with block:=b.fin.to,at_:=0 })
      else match b.ins[f.at_.toNat]? with
        | none=>s
        | some x=>insT m s f x
end Go.Ab
namespace Go.Ab.U7
open Go Go.Ab Go.Proofs
theorem mod_ins {m:DMod} {g:DFunc} {b:DBlock} {x:DIns} {n k j:Nat} (h:modP m) (hg:m.funcs[n]? = some g) (hb:g.blocks[k]? = some b) (hx:b.ins[j]? = some x):insP m.funcs g.regs x :=
 (mod_block h hg hb).2.2.1 j (List.getElem?_eq_some_iff.1 hx).1 x hx
theorem mod_end {m:DMod} {g:DFunc} {b:DBlock} {n k:Nat} (h:modP m) (hg:m.funcs[n]? = some g) (hb:g.blocks[k]? = some b):endP m.funcs g.regs g.blocks b.fin :=
 (mod_block h hg hb).2.2.2
end Go.Ab.U7
end
section
set_option linter.unusedVariables false
set_option linter.unusedSimpArgs false
set_option maxRecDepth 10000
namespace Go.Ab.U7
open Go Go.Ab Go.Proofs
theorem usesE_of {k:Int} (h:has (usesE k) 1=true):1≤k∧k≤6:=by
 by_cases hn:1≤k∧k≤6
 ·exact hn
 ·have:usesE k=0:=by
   unfold usesE
   repeat rw [if_neg (by omega)]
  rw [this] at h
  exact absurd h (by decide)
end Go.Ab.U7
end
section
set_option linter.unusedVariables false
set_option linter.unusedSimpArgs false
set_option maxRecDepth 10000
namespace Go.Ab
def stackQ (m:DMod) (l:List DFrame):Prop:=(∀ (k:Nat) f,l[k]? = some f→frameQ m f)∧∀ (k:Nat) f g,l[k]? = some f→l[k + 1]? = some g→linkP m f g
theorem stackQ.take {m:DMod} {l:List DFrame} (h:stackQ m l) (n:Nat):stackQ m (l.take n):=by
 have key:∀ (k:Nat) (f:DFrame),(l.take n)[k]? = some f→l[k]? = some f:=by
  intro k f hk
  rw [List.getElem?_take] at hk
  split at hk
  ·exact hk
  ·cases hk
 exact ⟨fun k f hk=>h.1 k f (key k f hk),fun k f g hf hg=>h.2 k f g (key k f hf) (key _ g hg)⟩
theorem at_snoc {α:Type} {l:List α} {a b:α} {k:Nat} (h:(l ++ [a])[k]? = some b):(k < l.length∧l[k]? = some b)∨(k=l.length∧b=a):=by
 by_cases hk:k < l.length
 ·rw [List.getElem?_append_left hk] at h
  exact .inl ⟨hk,h⟩
 ·rw [List.getElem?_append_right (by omega)] at h
  have:=(List.getElem?_eq_some_iff.1 h).1
  simp at this
  have hk:k=l.length:=by omega
  subst hk
  simp at h
  exact .inr ⟨rfl,h.symm⟩
theorem snoc_top {α:Type} {l:List α} {a:α}:(l ++ [a])[l.length]? = some a:=by simp
theorem linkP.to {m:DMod} {f g g':DFrame} (h:linkP m f g) (hf:g'.f=g.f):linkP m f g':=by
 obtain ⟨u,b,hu,hb,h⟩:=h
 refine ⟨u,b,hu,hb,?_⟩
 rw [hf]
 exact h
theorem stackQ.top {m:DMod} {l:List DFrame} {f0 f:DFrame} (h:stackQ m (l ++ [f0])) (hf:frameQ m f) (he:f.f=f0.f):stackQ m (l ++ [f]):=by
 have key:∀ (k:Nat) (g:DFrame),k < l.length→l[k]? = some g→(l ++ [f0])[k]? = some g:=fun k g hk hg=>by rw [List.getElem?_append_left hk]; exact hg
 refine ⟨fun k g hg=>?_,fun k g g' hg hg'=>?_⟩
 ·rcases at_snoc hg with ⟨hk,hg⟩ | ⟨_,rfl⟩
  ·exact h.1 k g (key k g hk hg)
  ·exact hf
 ·rcases at_snoc hg' with ⟨hk',hg'⟩ | ⟨hk',rfl⟩
  ·rcases at_snoc hg with ⟨hk,hg⟩ | ⟨hk,rfl⟩
   ·exact h.2 k g g' (key k g hk hg) (key _ g' hk' hg')
   ·omega
  ·rcases at_snoc hg with ⟨hk,hg⟩ | ⟨hk,rfl⟩
   ·exact (h.2 k g f0 (key k g hk hg) (by rw [hk']; exact snoc_top)).to he
   ·omega
theorem stackQ.push {m:DMod} {l:List DFrame} {f0 g:DFrame} (h:stackQ m (l ++ [f0])) (hg:frameQ m g) (hl:linkP m f0 g):stackQ m (l ++ [f0] ++ [g]):=by
 refine ⟨fun k x hx=>?_,fun k x y hx hy=>?_⟩
 ·rcases at_snoc hx with ⟨_,hx⟩ | ⟨_,rfl⟩
  ·exact h.1 k x hx
  ·exact hg
 ·rcases at_snoc hy with ⟨_,hy⟩ | ⟨hk',rfl⟩
  ·rcases at_snoc hx with ⟨_,hx⟩ | ⟨hk,rfl⟩
   ·exact h.2 k x y hx hy
   ·have:=(List.getElem?_eq_some_iff.1 hy).1
    omega
  ·rcases at_snoc hx with ⟨_,hx⟩ | ⟨hk,rfl⟩
   ·have hk:k=l.length:=by simp at hk'; omega
    rw [hk,snoc_top] at hx
    cases hx
    exact hl
   ·omega
theorem stack_top {l:List DFrame} {f:DFrame} (h:l[l.length - 1]? = some f):l=l.take (l.length - 1) ++ [f]:=by
 have hlt:=(List.getElem?_eq_some_iff.1 h).1
 have h1:l.take (l.length - 1 + 1)=l.take (l.length - 1) ++ [f]:=by rw [List.take_add_one,h]; rfl
 rw [show l.length - 1 + 1=l.length by omega,List.take_length] at h1
 exact h1
theorem machQ.st {m:DMod} {s:DMach} (h:machQ m s):stackQ m s.stack:=h.2.2.2
theorem with_keeps {m:DMod} {s:DMach} {f0 f:DFrame} (hd:0≤s.done∧s.done≤6) (hl:s.stack.length≤32) (hs:stackQ m s.stack) (ht:topT s=some f0) (hf:frameQ m f) (he:f.f=f0.f):machQ m (withT s f):=by
 have hst:=stack_top ht
 have hlt:=(List.getElem?_eq_some_iff.1 ht).1
 refine ⟨hd,?_,fun _=>?_,?_⟩
 ·simp [withT]; omega
 ·simp [withT]
 ·rw [hst] at hs
  exact hs.top hf he
theorem ended_keeps {m:DMod} {s:DMach} {how w:Int} (hl:s.stack.length≤32) (hs:stackQ m s.stack) (h:1≤how∧how≤6):machQ m (endedT s how w) :=
 ⟨⟨by show 0≤how; omega,h.2⟩,hl,fun h0=>by have h0:how=0:=h0; omega,hs⟩
theorem frameQ_at {m:DMod} {f:DFrame} {b:DBlock} {n:Int} (h:frameQ m f) (hb:blockOf m f=some b) (h0:0≤n) (h1:n≤b.ins.length):frameQ m { f with at_:=n }:=by
 obtain ⟨hf0,u,hu,hL,hb0,b',hb',_⟩:=h
 have:b'=b:=by
  have:blockOf m f=some b':=by simp [blockOf,hu,hb']
  rw [hb] at this
  cases this
  rfl
 subst this
 exact ⟨hf0,u,hu,hL,hb0,b',hb',h0,h1⟩
theorem frameQ_put {m:DMod} {f:DFrame} {n w:Int} (h:frameQ m f):frameQ m (putT f n w):=by
 obtain ⟨hf0,u,hu,hL,hr⟩:=h
 exact ⟨hf0,u,hu,by simpa [putT] using hL,hr⟩
theorem frameQ_go {m:DMod} {f:DFrame} {u:DFunc} {l:Bool} {n:Int} (h:frameQ m f) (hu:m.funcs[f.f.toNat]? = some u) (hg:goalAt u.blocks n l):frameQ m { f with block:=n,at_:=0 }:=by
 obtain ⟨hf0,u',hu',hL,_⟩:=h
 rw [hu] at hu'
 cases hu'
 obtain ⟨h0,b,hb,_⟩:=hg
 exact ⟨hf0,u,hu,hL,h0,b,hb,Int.le_refl 0,by simp⟩
end Go.Ab
namespace Go.Ab.U7
open Go Go.Ab Go.Proofs
theorem new_frame {m:DMod} {n:Int} {args:List Int} {u:DFunc} (hM:modP m) (h0:0≤n) (hu:m.funcs[n.toNat]? = some u) (ha:(args.length:Int)=u.params) :
  frameQ m ((newT m n args).getD noFrame)∧((newT m n args).getD noFrame).f=n:=by
 have hT:newT m n args=some ⟨n,0,0,args.take u.regs.toNat ++ List.replicate (u.regs.toNat - args.length) 0,0⟩:=by simp [newT,h0,hu,ha]
 rw [hT]
 have hf:=mod_func hM hu
 obtain ⟨b,hb,_⟩:=hf.2.2.1
 have hr:=mod_regs hM hu
 refine ⟨⟨h0,u,hu,?_,Int.le_refl 0,b,hb,Int.le_refl 0,by simp⟩,rfl⟩
 simp
 omega
theorem called_keeps {m:DMod} {s:DMach} {n regs:Int} {places:List Int} {f:DFrame} (hM:modP m) (hQ:machQ m s) (ht:topT s=some f) (ha:argsP m.funcs regs n places) (hl:∀ g:DFrame,g.f=n→linkP m f g):machQ m (calledT m s n places):=by
 obtain ⟨h0,u,hu,hul,_⟩:=ha
 by_cases h32:32≤s.stack.length
 ·have hT:calledT m s n places=endedT s 5 0:=by simp [calledT,h32]
  rw [hT]
  exact ended_keeps hQ.2.1 hQ.st (by omega)
 ·have hT:calledT m s n places={ s with stack:=s.stack ++ [(newT m n (wordsAt f.regs places)).getD noFrame] }:=by simp [calledT,h32,ht]
  rw [hT]
  obtain ⟨hf,hn⟩:=new_frame (args:=wordsAt f.regs places) hM h0 hu (by rw [wordsAt_len]; exact hul)
  refine ⟨hQ.1,?_,fun _=>?_,?_⟩
  ·simp; omega
  ·simp
  ·have hst:=stack_top ht
   have hs:=hQ.st
   show stackQ m (s.stack ++ [_])
   rw [hst] at hs ⊢
   exact hs.push hf (hl _ hn)
theorem land_f {m:DMod} {f:DFrame} {pad w:Int}:((landT m f pad w).getD f).f=f.f:=by
 unfold landT
 cases m.funcs[f.f.toNat]? with
 | none=>rfl
 | some g =>
  simp only [Option.bind_some]
  split
  ·cases g.blocks[pad.toNat]? with
   | none=>rfl
   | some b =>
    simp only [Option.bind_some]
    split <;> rfl
  ·rfl
theorem frameQ_land' {m:DMod} {f:DFrame} {pad w:Int} (h:frameQ m f):frameQ m ((landT m f pad w).getD f):=by
 obtain ⟨h0,u,hu,hL,hr⟩:=h
 have hf:frameQ m f:=⟨h0,u,hu,hL,hr⟩
 by_cases hG:goalAt u.blocks pad true
 ·obtain ⟨hp0,b,hb,hl⟩:=hG
  rw [landT_some hu hp0 hb hl]
  exact ⟨h0,u,hu,by simpa using hL,hp0,b,hb,Int.le_refl 0,by simp⟩
 ·rw [goal_landT hu hG]
  exact hf
theorem thrown_keeps {m:DMod} {s:DMach} {w:Int} (hQ:machQ m s):machQ m (thrownT m s w):=by
 unfold thrownT
 split
 ·split
  ·exact hQ
  ·rename_i k hk
   split
   ·exact hQ
   ·rename_i f hf
    have hlt:=(List.getElem?_eq_some_iff.1 hf).1
    refine with_keeps (s:={ s with stack:=s.stack.take (k + 1) }) (f0:=f) hQ.1 ?_ (hQ.st.take _) ?_ (frameQ_land' (hQ.st.1 k f hf)) land_f
    ·have:=hQ.2.1
     simp; omega
    ·simp only [topT,List.length_take]
     rw [List.getElem?_take,if_pos (by omega),← hf]
     congr 1
     omega
 ·exact ended_keeps (by have:=hQ.2.1; simp; omega) (hQ.st.take _) (by omega)
theorem up_at {f:DFrame} {n:Nat} (h0:0≤f.at_) (h1:f.at_ < n) (hn:n≤64):IntKind.i64.wrap (f.at_ + 1)=f.at_ + 1:=by
 rw [IntKind.wrap_i64]; omega
theorem frameQ_up {m:DMod} {f:DFrame} {b:DBlock} (hM:modP m) (h:frameQ m f) (hb:blockOf m f=some b) (hlt:f.at_.toNat < b.ins.length):frameQ m (upF f):=by
 have hc:=h
 obtain ⟨hf0,u,hu,hL,hb0,b',hb',h0,h1⟩:=hc
 have:blockOf m f=some b':=by simp [blockOf,hu,hb']
 rw [hb] at this
 cases this
 have h64:=(mod_block hM hu hb').1
 have hw:=up_at (n:=b.ins.length) h0 (by omega) h64
 have:=frameQ_at (n:=IntKind.i64.wrap (f.at_ + 1)) h hb (by omega) (by omega)
 exact this
end Go.Ab.U7
end
section
set_option linter.unusedVariables false
set_option linter.unusedSimpArgs false
set_option maxRecDepth 10000
namespace Go.Ab
theorem reckon_keeps {f:DFrame} {x:DIns}:(reckonT f x).1=f∨∃ w,(reckonT f x).1=upF (putT f x.dst w):=by
 unfold reckonT
 cases answerT f.regs x with
 | none=>exact .inl rfl
 | some w =>
  simp only
  split
  ·exact .inr ⟨w,rfl⟩
  ·exact .inl rfl
end Go.Ab
namespace Go.Ab.U7
open Go Go.Ab Go.Proofs
theorem answered_keeps {m:DMod} {s:DMach} {w:Int} (hM:modP m) (hQ:machQ m s):machQ m (answeredT m s w):=by
 unfold answeredT
 split
 ·exact hQ
 ·rename_i f hf
  split
  ·rename_i h1
   refine ended_keeps (s:={ s with stack:=[] }) (by simp) ⟨fun k f hk=>?_,fun k f g hk=>?_⟩ (by omega)
   ·simp at hk
   ·simp at hk
  ·rename_i h1
   have hF:=hQ.st.1 _ f hf
   have htop:topT { s with stack:=s.stack.take (s.stack.length - 1) }=some f:=by
    simp only [topT,List.length_take]
    rw [List.getElem?_take,if_pos (by omega),← hf]
    congr 1
    omega
   have hlen:({ s with stack:=s.stack.take (s.stack.length - 1) }:DMach).stack.length≤32:=by
    have:=hQ.2.1
    simp; omega
   obtain ⟨f2,hf2⟩:∃ f,s.stack[s.stack.length - 2 + 1]? = some f:=⟨_,List.getElem?_eq_getElem (by omega)⟩
   obtain ⟨u,b,hu,hb,hlink⟩:=hQ.st.2 _ f f2 hf hf2
   have hbo:blockOf m f=some b:=by simp [blockOf,hu,hb]
   rw [hbo]
   simp only
   split
   ·rename_i hat
    have h4:b.fin.kind=4:=by
     rcases hlink with ⟨_,h,_⟩ | ⟨h,_⟩
     ·exact h
     ·exact absurd hat h
    have hE:=(mod_end hM hu hb).2.2.2.2.1.1
    rw [h4] at hE
    have hg:=frameQ_go (f:=putT f b.fin.dst w) (frameQ_put hF) hu (hE rfl)
    exact with_keeps hQ.1 hlen (hQ.st.take _) htop hg rfl
   ·rename_i hat
    split
    ·exact hQ
    ·rename_i x hx
     have hup:=frameQ_up (f:=putT f x.dst w) hM (frameQ_put hF) hbo (List.getElem?_eq_some_iff.1 hx).1
     exact with_keeps hQ.1 hlen (hQ.st.take _) htop hup rfl
theorem ins_keeps {m:DMod} {s:DMach} {f:DFrame} {b:DBlock} {x:DIns} (hM:modP m) (hQ:machQ m s) (ht:topT s=some f) (hb:blockOf m f=some b) (hat:¬ f.at_=b.ins.length) (hx:b.ins[f.at_.toNat]? = some x) (hI:insP m.funcs f.regs.length x):machQ m (insT m s f x):=by
 have hF:=hQ.st.1 _ f ht
 have hlt:=(List.getElem?_eq_some_iff.1 hx).1
 have hup:∀ n w,frameQ m (upF (putT f n w)):=fun n w=>frameQ_up (f:=putT f n w) hM (frameQ_put hF) hb hlt
 have hup0:frameQ m (upF f):=frameQ_up hM hF hb hlt
 unfold insT
 split
 ·rename_i h11
  have hc:=hI.2.2.2.2.2.1
  rw [h11] at hc
  refine called_keeps hM hQ ht (hc rfl) fun g hg=>?_
  obtain ⟨_,u,hu,_,_,b',hb',_⟩:=hF
  have:blockOf m f=some b':=by simp [blockOf,hu,hb']
  rw [hb] at this
  cases this
  exact ⟨u,b,hu,hb',.inr ⟨hat,x,hx,h11,hg.symm⟩⟩
 split
 ·split
  ·rcases reckon_keeps (f:=f) (x:=x) with h | ⟨w,h⟩
   ·rw [h]; exact with_keeps hQ.1 hQ.2.1 hQ.st ht hF rfl
   ·rw [h]; exact with_keeps hQ.1 hQ.2.1 hQ.st ht (hup _ _) rfl
  ·exact ended_keeps hQ.2.1 hQ.st (by omega)
 split
 ·split
  ·exact ended_keeps hQ.2.1 hQ.st (by omega)
  ·exact with_keeps hQ.1 hQ.2.1 hQ.st ht (hup _ _) rfl
 split
 ·split
  ·exact ended_keeps hQ.2.1 hQ.st (by omega)
  ·exact with_keeps (s:=putCell s (reg f x.a).toNat (reg f x.b)) hQ.1 hQ.2.1 hQ.st ht hup0 rfl
 split
 ·exact with_keeps (s:={ s with events:=s.events ++ [reg f x.a] }) hQ.1 hQ.2.1 hQ.st ht hup0 rfl
 split
 ·exact ended_keeps hQ.2.1 hQ.st (by omega)
 ·rename_i a l _
  exact with_keeps (s:={ s with events:=s.events ++ [a + 65536],inputs:=l }) hQ.1 hQ.2.1 hQ.st ht (hup _ _) rfl
theorem step_keeps {m:DMod} {s:DMach} (hM:modP m) (hQ:machQ m s):machQ m (stepT m s):=by
 unfold stepT
 split
 ·exact hQ
 split
 ·exact hQ
 rename_i f ht
 have hF:=hQ.st.1 _ f ht
 have hF':=hF
 obtain ⟨hf0,u,hu,hLr,hb0,b,hb,ha0,ha1⟩:=hF
 have hbo:blockOf m f=some b:=by simp [blockOf,hu,hb]
 rw [hbo]
 simp only
 have hE:=mod_end hM hu hb
 have hk:=usesE_of hE.1
 split
 ·rename_i hat
  split
  ·exact answered_keeps hM hQ
  split
  ·rename_i h4
   have hc:=hE.2.2.2.1.1
   rw [h4] at hc
   exact called_keeps hM hQ ht (hc rfl) fun g hg=>⟨u,b,hu,hb,.inl ⟨hat,h4,hg.symm⟩⟩
  split
  ·exact thrown_keeps hQ
  split
  ·exact thrown_keeps hQ
  split
  ·rename_i h3
   have hc:=hE.2.2.2.2.2.1.1
   rw [h3.1] at hc
   exact with_keeps hQ.1 hQ.2.1 hQ.st ht (frameQ_go hF' hu (hc rfl)) rfl
  ·rename_i h1 h4 h5 h6 h3
   have h23:b.fin.kind=2∨b.fin.kind=3:=by omega
   have hc:=hE.2.2.2.2.1.1
   rcases h23 with h | h
   ·rw [h] at hc
    exact with_keeps hQ.1 hQ.2.1 hQ.st ht (frameQ_go hF' hu (hc rfl)) rfl
   ·rw [h] at hc
    exact with_keeps hQ.1 hQ.2.1 hQ.st ht (frameQ_go hF' hu (hc rfl)) rfl
 ·rename_i hat
  split
  ·exact hQ
  ·rename_i x hx
   have hI:=mod_ins hM hu hb hx
   rw [← hLr] at hI
   exact ins_keeps hM hQ ht hbo hat hx hI
theorem step_events {m:DMod} {s:DMach}:(stepT m s).events=s.events∨∃ a,(stepT m s).events=s.events ++ [a]:=by
 have hw:∀ (t:DMach) f,(withT t f).events=t.events:=fun _ _=>rfl
 have he:∀ (t:DMach) a b,(endedT t a b).events=t.events:=fun _ _ _=>rfl
 have hc:∀ n p,(calledT m s n p).events=s.events:=by
  intro n p
  unfold calledT
  split
  ·rfl
  ·split <;> rfl
 have hth:∀ w,(thrownT m s w).events=s.events:=by
  intro w
  unfold thrownT
  split
  ·split
   ·rfl
   ·split <;> rfl
  ·rfl
 have han:∀ w,(answeredT m s w).events=s.events:=by
  intro w
  unfold answeredT
  split
  ·rfl
  ·split
   ·rfl
   ·split
    ·rfl
    ·split
     ·rfl
     ·split <;> rfl
 have hi:∀ f x,(insT m s f x).events=s.events∨∃ a,(insT m s f x).events=s.events ++ [a]:=by
  intro f x
  unfold insT
  split
  ·exact .inl (hc _ _)
  split
  ·split
   ·exact .inl rfl
   ·exact .inl rfl
  split
  ·split
   ·exact .inl rfl
   ·exact .inl rfl
  split
  ·split
   ·exact .inl rfl
   ·exact .inl rfl
  split
  ·exact .inr ⟨_,rfl⟩
  split
  ·exact .inl rfl
  ·exact .inr ⟨_,rfl⟩
 unfold stepT
 split
 ·exact .inl rfl
 split
 ·exact .inl rfl
 split
 ·exact .inl rfl
 split
 ·split
  ·exact .inl (han _)
  split
  ·exact .inl (hc _ _)
  split
  ·exact .inl (hth _)
  split
  ·exact .inl (hth _)
  split
  ·exact .inl rfl
  ·exact .inl rfl
 ·split
  ·exact .inl rfl
  ·exact hi _ _
end Go.Ab.U7
end
section
set_option linter.unusedVariables false
set_option linter.unusedSimpArgs false
set_option maxRecDepth 10000
namespace Go.Ab
theorem mach_eq {a b:DMach}:a=b ↔ a.stack=b.stack∧a.cells=b.cells∧a.inputs=b.inputs∧a.events=b.events∧a.done=b.done∧a.value=b.value:=by
 cases a; cases b; simp
def cells16 (s:DMach):List Int:=[s.c 0,s.c 1,s.c 2,s.c 3,s.c 4,s.c 5,s.c 6,s.c 7,s.c 8,s.c 9,s.c 10,s.c 11,s.c 12,s.c 13,s.c 14,s.c 15]
theorem cells16_eq {s:DMach} (h:s.cells.length=16):cells16 s=s.cells:=by
 unfold cells16 DMach.c
 generalize s.cells=l at h
 match l,h with
 | [_,_,_,_,_,_,_,_,_,_,_,_,_,_,_,_],_=>rfl
def newM (m:DMod) (inputs:List Int):DMach:=⟨[(newT m 0 []).getD noFrame],List.replicate 16 0,inputs,[],0,0⟩
theorem newM_c {m:DMod} {l:List Int} (k:Nat):(newM m l).c k=0:=by
 simp only [DMach.c,newM,List.getD,List.getElem?_replicate]
 split <;> rfl
noncomputable def runT (m:DMod) (s:DMach):Nat→DMach
 | 0=>s
 | n + 1=>if s.done=0 then runT m (stepT m s) n else s
theorem RMach.frz' {s:DMach} {g i v:TV} (hg:RL none 5 (RFrame none) g s.stack) (hi:RWords none i s.inputs) (hv:RInts none v s.events) (ho:s.ok):RMach (machCells s (Go.Ab.frz g) (Go.Ab.frz i) (Go.Ab.frz v)) s :=
 ⟨_,_,_,rfl,(hg.frz (S:=RFrame (some false)) fun _ _ h=>h.frz).weak fun _ _ h=>h.weak,(hi.frz (S:=RW1) fun _ _ h=>h.frz).weak fun _ _ h=>h,(hv.frz (S:=RI1) fun _ _ h=>h.frz).weak fun _ _ h=>h,ho⟩
end Go.Ab
namespace Go.Ab.U7
open Go Go.Ab Go.Proofs
theorem rMWords {q q':Option Bool} {x y:TV} {l m:List Int} (hx:RWords q x l) (hy:RWords q' y m):Runs prog 38 [x,y] (B (tt (l=m))):=by
 refine Runs.of (f38_MR _ _) ?_
 unfold f38_M
 repeat' (first
  | refine Goes.chk rfl ?_
  | refine Goes.tv rfl ?_
  | refine Goes.tv (RL.len (by assumption)) ?_
  | refine Goes.nat rfl ?_
  | refine Goes.ite rfl (fun _=>?_) (fun _=>?_)
  | refine Goes.call (by assumption) ?_
  | refine Goes.tvs (by assumption) ?_)
 ·rename_i h
  have h:¬ l=m:=by rintro rfl; simp at h
  exact ret_no h
 ·rename_i h
  have hlen:l.length=m.length:=by simp at h; omega
  refine f38_0_J ?_
  rw [tt_congr (list_eq_iff' hlen)]
  refine allLoop' (g:=fun k=>f38_0 x y (I k)) ?_ ?_
  ·unfold f38_0
   refine Goes.tv hx.len (Goes.tv rfl (Goes.ite asB_end (fun h=>nomatch h) fun _=>Goes.ret))
  ·intro k hk r h1 h2
   have hk':k < m.length:=by omega
   have ha:l[k]? = some l[k]:=List.getElem?_eq_getElem hk
   have hb:m[k]? = some m[k]:=List.getElem?_eq_getElem hk'
   obtain ⟨e,he,rfl,_⟩:=hx.idx (k:=.i64) ha
   obtain ⟨e',he',rfl,_⟩:=hy.idx (k:=.i64) hb
   unfold f38_0
   refine Goes.tv hx.len (Goes.tv rfl (Goes.ite (asB_lt hk) (fun _=>?_) fun h=>nomatch h))
   refine Goes.tvs he (Goes.chk rfl (Goes.tvs he' (Goes.chk rfl (Goes.tv rfl (Goes.ite rfl (fun h=>?_) fun h=>?_)))))
   ·rw [h1 (by rw [ha,hb]; simpa using h)]; exact Goes.ret
   ·refine Goes.tv (inc hk hx.bnd) (f38_0_J (h2 ?_))
    rw [ha,hb]; simpa using h
theorem newM_keeps {m:DMod} {inputs:List Int} (hM:modP m):machQ m (newM m inputs):=by
 obtain ⟨_,⟨u,hu,hp⟩,_⟩:=id hM
 obtain ⟨hf,_⟩:=new_frame (n:=0) (args:=[]) hM (Int.le_refl 0) hu (by simp [hp])
 refine ⟨⟨Int.le_refl 0,by show (0:Int)≤6; omega⟩,by simp [newM],fun _=>by simp [newM],fun k f hk=>?_,fun k f g hk hk'=>?_⟩
 ·have:=(List.getElem?_eq_some_iff.1 hk).1
  simp [newM] at this
  subst this
  simp [newM] at hk
  rw [← hk]
  exact hf
 ·have:=(List.getElem?_eq_some_iff.1 hk').1
  simp [newM] at this
end Go.Ab.U7
end
section
set_option linter.unusedVariables false
set_option linter.unusedSimpArgs false
set_option maxRecDepth 10000
namespace Go.Ab
theorem peq16 {a b:DMach} (ha:a.cells.length=16) (hb:b.cells.length=16):peqL .u16 .neq [W (a.c 0),W (a.c 1),W (a.c 2),W (a.c 3),W (a.c 4),W (a.c 5),W (a.c 6),W (a.c 7),W (a.c 8),W (a.c 9),W (a.c 10),W (a.c 11),W (a.c 12),W (a.c 13),W (a.c 14),W (a.c 15)] [W (b.c 0),W (b.c 1),W (b.c 2),W (b.c 3),W (b.c 4),W (b.c 5),W (b.c 6),W (b.c 7),W (b.c 8),W (b.c 9),W (b.c 10),W (b.c 11),W (b.c 12),W (b.c 13),W (b.c 14),W (b.c 15)]=some (B (!(a.cells == b.cells))):=by
 have h:∀ s:DMach,intsOf .u16 [W (s.c 0),W (s.c 1),W (s.c 2),W (s.c 3),W (s.c 4),W (s.c 5),W (s.c 6),W (s.c 7),W (s.c 8),W (s.c 9),W (s.c 10),W (s.c 11),W (s.c 12),W (s.c 13),W (s.c 14),W (s.c 15)]=some (cells16 s):=fun _=>rfl
 unfold peqL
 rw [h a,h b,cells16_eq ha,cells16_eq hb]
 rfl
end Go.Ab
namespace Go.Ab.U7
open Go Go.Ab Go.Proofs
theorem rMSame {e e':List TV} {a b:DMach} (ha:RMach e a) (hb:RMach e' b):Runs prog 15 [.agg e,.agg e'] (B (tt (a=b))):=by
 obtain ⟨g,i,v,rfl,hg,hi,hv,ho⟩:=ha
 obtain ⟨g',i',v',rfl,hg',hi',hv',ho'⟩:=hb
 have no:¬ a=b→B false=B (tt (a=b)):=fun h=>by rw [tt_false h]
 refine Runs.of (f15_MR _ _) ?_
 unfold f15_M
 refine Goes.chk rfl (Goes.chk rfl (Goes.tv hg.len (Goes.tv hg'.len (Goes.tv rfl (Goes.ite rfl (fun h=>?_) fun h=>?_)))))
 ·exact ret_no fun h'=>by subst h'; simp at h
 have hlen:a.stack.length=b.stack.length:=by simp at h; omega
 refine Goes.tv (peq16 ho.1 ho'.1) (Goes.ite rfl (fun h=>?_) fun h=>?_)
 ·exact ret_no fun h'=>by subst h'; simp at h
 have hcells:a.cells=b.cells:=by simpa using h
 refine Goes.call (rMWords hi hi') (Goes.chk rfl (Goes.tv rfl (Goes.ite rfl (fun h=>?_) fun h=>?_)))
 ·exact ret_no fun h'=>by subst h'; simp [tt] at h
 have hin:a.inputs=b.inputs:=tt_iff.1 (by simpa using h)
 refine Goes.call (r14 hv hv') (Goes.chk rfl (Goes.tv rfl (Goes.ite rfl (fun h=>?_) fun h=>?_)))
 ·exact ret_no fun h'=>by subst h'; simp [tt] at h
 have hev:a.events=b.events:=tt_iff.1 (by simpa using h)
 refine Goes.tv rfl (Goes.ite rfl (fun h=>?_) fun h=>?_)
 ·exact ret_no fun h'=>by subst h'; simp [TV.cell,nth,machCells] at h
 have hdo:a.done=b.done:=by simpa [TV.cell,nth,machCells] using h
 refine Goes.tv rfl (Goes.ite rfl (fun h=>?_) fun h=>?_)
 ·exact ret_no fun h'=>by subst h'; simp [TV.cell,nth,machCells] at h
 have hva:a.value=b.value:=by simpa [TV.cell,nth,machCells] using h
 have hiff:a=b ↔ a.stack=b.stack:=by
  rw [mach_eq]
  simp [hcells,hin,hev,hdo,hva]
 refine f15_0_J ?_
 rw [tt_congr (hiff.trans (list_eq_iff' hlen))]
 refine allLoop' (g:=fun k=>f15_0 (I k) g (W (a.c 0)) (W (a.c 1)) (W (a.c 2)) (W (a.c 3)) (W (a.c 4)) (W (a.c 5)) (W (a.c 6)) (W (a.c 7)) (W (a.c 8)) (W (a.c 9)) (W (a.c 10)) (W (a.c 11)) (W (a.c 12)) (W (a.c 13)) (W (a.c 14)) (W (a.c 15)) i v (I a.done) (W a.value) g' (W (b.c 0)) (W (b.c 1)) (W (b.c 2)) (W (b.c 3)) (W (b.c 4)) (W (b.c 5)) (W (b.c 6)) (W (b.c 7)) (W (b.c 8)) (W (b.c 9)) (W (b.c 10)) (W (b.c 11)) (W (b.c 12)) (W (b.c 13)) (W (b.c 14)) (W (b.c 15)) i' v' (I b.done) (W b.value)) ?_ ?_
 ·unfold f15_0
  refine Goes.tv (RL.len (by assumption)) (Goes.tv rfl (Goes.ite asB_end (fun h=>nomatch h) fun _=>?_))
  exact Goes.ret
 ·intro k hk r h1 h2
  have hk':k < b.stack.length:=by omega
  have hak:a.stack[k]? = some a.stack[k]:=List.getElem?_eq_getElem hk
  have hbk:b.stack[k]? = some b.stack[k]:=List.getElem?_eq_getElem hk'
  obtain ⟨e,he,hre⟩:=hg.idx (k:=.i64) hak
  obtain ⟨e',he',hre'⟩:=hg'.idx (k:=.i64) hbk
  have hs:=rFSame hre hre'
  obtain ⟨z,rfl,_⟩:=hre
  obtain ⟨z',rfl,_⟩:=hre'
  unfold f15_0
  refine Goes.tv (RL.len (by assumption)) (Goes.tv rfl (Goes.ite (asB_lt hk) (fun _=>?_) fun h=>nomatch h))
  refine Goes.tvs he (Goes.chk rfl (Goes.tvs he' (Goes.chk rfl (Goes.call hs (Goes.chk rfl (Goes.tv rfl (Goes.ite rfl (fun h=>?_) fun h=>?_)))))))
  ·have h:¬ a.stack[k]=b.stack[k]:=tt_iff0.1 (by simpa using h)
   rw [h1 (by rw [hak,hbk]; simpa using h)]; exact Goes.ret
  ·have h:a.stack[k]=b.stack[k]:=tt_iff.1 (by simpa using h)
   refine Goes.tv (inc hk hg.bnd) (f15_0_J (h2 ?_))
   rw [hak,hbk,h]
theorem rSmall {q q':Option Bool} {e:List TV} {x:TV} {m:DMod} {l:List Int} (hm:RMod q e m) (hx:RWords q' x l):∃ b,Runs prog 12 [.agg e,x] (B b)∧(b=true→shortM m∧l.length≤30):=by
 obtain ⟨b,hr,hb⟩:=r7 hm
 obtain ⟨y,rfl,hy⟩:=hm
 cases b with
 | false =>
  refine ⟨false,?_,fun h=>nomatch h⟩
  refine Runs.of (f12_MR _ _) ?_
  unfold f12_M
  exact Goes.chk rfl (Goes.call hr (Goes.chk rfl (Goes.ite rfl (fun h=>nomatch h) fun _=>Goes.ret)))
 | true =>
  refine ⟨decide ((l.length:Int)≤30),?_,fun h=>⟨hb rfl,by simp at h; omega⟩⟩
  refine Runs.of (f12_MR _ _) ?_
  unfold f12_M
  exact Goes.chk rfl (Goes.call hr (Goes.chk rfl (Goes.ite rfl (fun _=>Goes.tv hx.len (Goes.tv rfl Goes.ret)) fun h=>nomatch h)))
end Go.Ab.U7
end
section
set_option linter.unusedVariables false
set_option linter.unusedSimpArgs false
set_option maxRecDepth 10000
namespace Go.Ab
def RMachO (e:List TV) (s:DMach):Prop:=∃ g i v,e=machCells s g i v∧RL (some true) 5 (RFrame (some true)) g s.stack∧RWords (some true) i s.inputs∧RInts (some true) v s.events∧s.ok
theorem RMachO.weak {e:List TV} {s:DMach} (h:RMachO e s):RMach e s:=by
 obtain ⟨g,i,v,rfl,hg,hi,hv,ho⟩:=h
 exact ⟨g,i,v,rfl,hg.weak fun _ _ h=>h.weak,hi.weak fun _ _ h=>h,hv.weak fun _ _ h=>h,ho⟩
theorem own_mach {s:DMach} {g i v:TV} (h1:isOwn g=true) (h2:isOwn i=true) (h3:isOwn v=true):isOwn (.agg (machCells s g i v))=true:=by
 simp [isOwn,isOwnL,machCells,h1,h2,h3]
end Go.Ab
namespace Go.Ab.U7
open Go Go.Ab Go.Proofs
end Go.Ab.U7
end
section
set_option linter.unusedVariables false
set_option linter.unusedSimpArgs false
set_option maxRecDepth 10000
namespace Go.Ab
abbrev RStack (g:TV) (l:List DFrame):Prop:=RL (some true) 5 (RFrame (some true)) g l
section
variable {g:TV} {l:List DFrame} {k:Nat} {f:DFrame}
theorem RStack.at_ (hg:RStack g l) (hk:l[k]? = some f):∃ xs gr,g=.sl true 5 xs∧xs[k]? = some [I f.f,I f.block,I f.at_,gr,W f.fly]∧F2 (RFrame (some true)) xs l∧xs.length≤9223372036854775807∧RWords (some true) gr f.regs∧f.ok:=by
 rcases hg with ⟨rfl,rfl⟩ | ⟨o,xs,rfl,hq,h,hb⟩
 ·simp at hk
 ·have:o=true:=hq true rfl
  subst this
  obtain ⟨e,he,gr,rfl,hgr,ho⟩:=h.get hk
  exact ⟨xs,gr,rfl,he,h,hb,hgr,ho⟩
theorem RStack.row (hg:RStack g l) (hk:l[k]? = some f):∃ gr,pel g k=some [I f.f,I f.block,I f.at_,gr,W f.fly]∧getP [(k,3)] g=some gr∧RWords (some true) gr f.regs∧f.ok:=by
 obtain ⟨xs,gr,rfl,hx,_,_,hgr,ho⟩:=hg.at_ hk
 exact ⟨gr,hx,getP_of_pel (x:=.sl true 5 xs) hx rfl,hgr,ho⟩
theorem RStack.all (hg:RStack g l) (hk:l[k]? = some f) {e':List TV} {f':DFrame} (h:RFrame (some true) e' f'):∃ g',setC [] g k 0 e'=some g'∧RStack g' (l.set k f'):=by
 obtain ⟨xs,gr,rfl,hx,hF,hb,hgr,ho⟩:=hg.at_ hk
 obtain ⟨gr',rfl,hgr',ho'⟩:=id h
 refine ⟨.sl true 5 (setNth xs k [I f'.f,I f'.block,I f'.at_,gr',W f'.fly]),?_,.sl (by simp) (hF.set h) (by rw [setNth_len]; exact hb)⟩
 simp only [setC,getP,setEl,hx,setP,setCells]
 rfl
theorem RStack.setAt (hg:RStack g l) (hk:l[k]? = some f) {n:Int} (hn:inI n):∃ g',setC [] g k 2 [I n]=some g'∧RStack g' (l.set k { f with at_:=n }):=by
 obtain ⟨xs,gr,rfl,hx,hF,hb,hgr,ho⟩:=hg.at_ hk
 have hR:RFrame (some true) [I f.f,I f.block,I n,gr,W f.fly] { f with at_:=n }:=⟨gr,rfl,hgr,ho.1,ho.2.1,hn,ho.2.2.2⟩
 refine ⟨.sl true 5 (setNth xs k [I f.f,I f.block,I n,gr,W f.fly]),?_,.sl (by simp) (hF.set hR) (by rw [setNth_len]; exact hb)⟩
 simp only [setC,getP,setEl,hx,setP,setCells]
 rfl
theorem RStack.setFly (hg:RStack g l) (hk:l[k]? = some f) {w:Int} (hw:inW w):∃ g',setC [] g k 4 [W w]=some g'∧RStack g' (l.set k { f with fly:=w }):=by
 obtain ⟨xs,gr,rfl,hx,hF,hb,hgr,ho⟩:=hg.at_ hk
 have hR:RFrame (some true) [I f.f,I f.block,I f.at_,gr,W w] { f with fly:=w }:=⟨gr,rfl,hgr,ho.1,ho.2.1,ho.2.2.1,hw⟩
 refine ⟨.sl true 5 (setNth xs k [I f.f,I f.block,I f.at_,gr,W w]),?_,.sl (by simp) (hF.set hR) (by rw [setNth_len]; exact hb)⟩
 simp only [setC,getP,setEl,hx,setP,setCells]
 rfl
theorem RStack.put (hg:RStack g l) (hk:l[k]? = some f) {n:Nat} {w:Int} (hn:n < f.regs.length) (hw:inW w):∃ g',setC [(k,3)] g n 0 [W w]=some g'∧RStack g' (l.set k { f with regs:=f.regs.set n w }):=by
 obtain ⟨xs,gr,rfl,hx,hF,hb,hgr,ho⟩:=hg.at_ hk
 obtain ⟨a,v',hpe,hs,hrl⟩:=RWords.put hgr hn hw
 have hR:RFrame (some true) [I f.f,I f.block,I f.at_,v',W f.fly] { f with regs:=f.regs.set n w }:=⟨v',rfl,hrl,ho⟩
 refine ⟨.sl true 5 (setNth xs k [I f.f,I f.block,I f.at_,v',W f.fly]),?_,.sl (by simp) (hF.set hR) (by rw [setNth_len]; exact hb)⟩
 have hse:setEl gr n 0 [W w]=some v':=by
  simp only [setC,getP,setP] at hs
  cases h:setEl gr n 0 [W w] with
  | none=>rw [h] at hs; cases hs
  | some u=>rw [h] at hs; simpa using hs
 have hgp:getP [(k,3)] (.sl true 5 xs)=some gr:=getP_of_pel (x:=.sl true 5 xs) hx rfl
 simp only [setC,hgp,hse]
 simp only [setP,hx]
 rfl
theorem RStack.win (hg:RStack g l) {n:Nat} (hn:n≤l.length):∃ g',winP 0 n g=some g'∧RStack g' (l.take n):=by
 rcases hg with ⟨rfl,rfl⟩ | ⟨o,xs,rfl,hq,h,hb⟩
 ·have:n=0:=by simpa using hn
  subst this
  exact ⟨_,rfl,.nil⟩
 ·have hl:=h.length
  refine ⟨.sl o 5 (xs.take n),?_,.sl hq (h.take n) (by simp; omega)⟩
  simp only [winP]
  rw [if_pos (by omega)]
  rfl
theorem RWords.win {q:Option Bool} {x:TV} {l:List Int} (hx:RWords q x l) {lo n:Nat} (hn:lo + n≤l.length):∃ y,winP lo n x=some y∧RWords q y ((l.drop lo).take n):=by
 rcases hx with ⟨rfl,rfl⟩ | ⟨o,xs,rfl,hq,h,hb⟩
 ·simp at hn
  obtain ⟨rfl,rfl⟩:=hn
  exact ⟨_,rfl,.nil⟩
 ·have hl:=h.length
  refine ⟨.sl o 1 ((xs.drop lo).take n),?_,.sl hq ((h.drop lo).take n) (by simp; omega)⟩
  simp only [winP]
  rw [if_pos (by omega)]
end
theorem set_top {α:Type} {l:List α} {a:α} (h:0 < l.length):l.set (l.length - 1) a=l.take (l.length - 1) ++ [a]:=by
 apply List.ext_getElem?
 intro i
 rw [List.getElem?_set]
 by_cases hi:i < l.length - 1
 ·rw [List.getElem?_append_left (by simp; omega),List.getElem?_take,if_pos hi,if_neg (by omega)]
 ·rw [List.getElem?_append_right (by simp; omega)]
  by_cases he:l.length - 1=i
  ·subst he
   simp; omega
  ·rw [if_neg he,List.getElem?_eq_none (by omega),List.getElem?_eq_none (by simp; omega)]
theorem set_set_top {α:Type} {l:List α} {k:Nat} {a b:α}:(l.set k a).set k b=l.set k b:=List.set_set ..
theorem at_set {α:Type} {l:List α} {k:Nat} {a b:α} (h:l[k]? = some a):(l.set k b)[k]? = some b:=by
 have:=(List.getElem?_eq_some_iff.1 h).1
 simp [List.getElem?_set,this]
end Go.Ab
end

import Derived.Test.YtdfmiamebejhoaaJT12F32
set_option linter.all false
section
set_option maxRecDepth 10000
namespace Go.Ab
theorem aU {n:Int} (h0:0<=n) (h:inI n):aj (I n)=some n.toNat:=by
 have:=h.2
 simp [aj,h0]; omega
theorem xP {xs:List (List TV)} {args:List Int} (h:F2 RW1 xs args) {n:Nat} (hn:n<=4294967296):RWords (some true) (.sl true 1 (xs.take (List.replicate n [W 0]).length ++ (List.replicate n [W 0]).drop xs.length)) (args.take n ++ List.replicate (n - args.length) 0):=by
 have hlen:=h.length
 refine .sl (by simp) ?_ (by simp; omega)
 rw [List.length_replicate,List.drop_replicate,hlen]
 refine (h.take n).append ?_
 exact F2.yL (by simp) fun i e a he ha=>by
  have h1:=(EG.1 he)
  have h2:=(EG.1 ha)
  obtain ⟨_,h1⟩:=h1
  obtain ⟨_,h2⟩:=h2
  simp at h1 h2
  subst h1 h2
  exact ⟨rfl,by decide,by decide⟩
theorem DA {a b c d e:Int} {y:TV} (h:isOwn y=true):bm [.agg [I a,I b,I c,y,W d],I e]=true:=by
 simp [isOwn,bm,h]
theorem RW0:RW1 [W 0] 0:=⟨rfl,by decide,by decide⟩
end Go.Ab
namespace Go.Ab.T12
open Go Go.Ab Go.Proofs
theorem lg {m:DMod} {g:DFunc} {n:Nat} (h:bB m) (hg:m.funcs[n]? = some g):wV m.funcs g:=h.2.2 n (EG.1 hg).1 g hg
theorem qU {m:DMod} {g:DFunc} {n:Nat} (h:bB m) (hg:m.funcs[n]? = some g):0<=g.regs/\g.regs<=256:=by
 obtain ⟨⟨h1,h2,h3,h4⟩,_⟩:=lg h hg
 exact ⟨by omega,h4⟩
noncomputable def nC (m:DMod) (n:Int) (args:List Int):Option DFrame:=bif tt (bB m) then j0 m n args else none
theorem D9 {q q':Option Bool} {e e':List TV} {m:DMod} {f:DFrame} (hm:RMod q e m) (hf:RFrame q' e' f):ap prog 42 [.agg e,.agg e'] (B (tt (bB m/\bO m f))):=by
 have h8:=r8 hm
 obtain ⟨x,rfl,hx⟩:=hm
 obtain ⟨g,rfl,hg,ho⟩:=hf
 refine ap.of (f42_MR _ _) ?_
 unfold f42_M
 refine aa.chk rfl (aa.chk rfl (aa.call h8 (aa.chk rfl (aa.tv rfl (aa.ite rfl (fun h=>?_) fun h=>?_)))))
 ·exact bk fun h'=>bX.1 (by simpa using h) h'.1
 have hM:bB m:=bu.1 (by simpa using h)
 refine aa.tv hx.len (aa.call (kf _ _) (aa.chk rfl (aa.tv rfl (aa.ite rfl (fun h=>?_) fun h=>?_))))
 ·have h:¬ within f.f m.funcs.length:=bX.1 (by simpa using h)
  refine bk ?_
  rintro ⟨_,h0,u,hu,_⟩
  have:=(EG.1 hu).1
  exact h ⟨h0,by omega⟩
 have hF:within f.f m.funcs.length:=bu.1 (by simpa using h)
 have hlt:f.f.toNat < m.funcs.length:=by have:=hF.1; have:=hF.2; omega
 have hu:m.funcs[f.f.toNat]? = some m.funcs[f.f.toNat]:=EH hlt
 obtain ⟨e,he,hr⟩:=hx.bv (k:=.i64) hF.1 hu
 generalize m.funcs[f.f.toNat]=u at hu hr
 obtain ⟨b,rfl,hb,_⟩:=hr
 refine aa.tvs he (aa.chk rfl (aa.tv hg.len (aa.tv rfl (aa.ite rfl (fun h=>?_) fun h=>?_))))
 ·refine bk ?_
  rintro ⟨_,h0,u',hu',hl,_⟩
  rw [hu] at hu'
  cases hu'
  simp at h
  exact h hl
 have hL:(f.regs.length:Int)=u.regs:=by simpa [nth] using h
 refine aa.tv (RL.len hb) (aa.call (kf _ _) (aa.chk rfl (aa.tv rfl (aa.ite rfl (fun h=>?_) fun h=>?_))))
 ·have h:¬ within f.block u.blocks.length:=bX.1 (by simpa using h)
  refine bk ?_
  rintro ⟨_,h0,u',hu',hl,h1,v,hv,_⟩
  rw [hu] at hu'
  cases hu'
  have:=(EG.1 hv).1
  exact h ⟨h1,by omega⟩
 have hB:within f.block u.blocks.length:=bu.1 (by simpa using h)
 have hlt2:f.block.toNat < u.blocks.length:=by have:=hB.1; have:=hB.2; omega
 have hv:u.blocks[f.block.toNat]? = some u.blocks[f.block.toNat]:=EH hlt2
 obtain ⟨e2,he2,hr2⟩:=hb.bv (k:=.i64) hB.1 hv
 generalize u.blocks[f.block.toNat]=v at hv hr2
 obtain ⟨c,i,g2,rfl,_,_,hi,_⟩:=hr2
 have hiff:(bB m/\bO m f) ↔ 0<=f.at_/\f.at_<=v.ins.length:=by
  constructor
  ·rintro ⟨_,_,u',hu',_,_,v',hv',h⟩
   rw [hu] at hu'
   cases hu'
   rw [hv] at hv'
   cases hv'
   exact h
  ·intro h
   exact ⟨hM,hF.1,u,hu,hL,hB.1,v,hv,h⟩
 rw [bZ hiff]
 refine aa.tv rfl (aa.ite rfl (fun h=>?_) fun h=>?_)
 ·refine aa.tvs he2 (aa.chk rfl (aa.tv (RL.len hi) (aa.tv rfl ?_)))
  apply dN
  have h:0<=f.at_:=by simpa [TV.cell,nth] using h
  simp [h]
 ·refine bk fun h'=>?_
  have h:¬ 0<=f.at_:=by simpa [TV.cell,nth] using h
  exact h h'.1
theorem rNew {q q':Option Bool} {e:List TV} {x:TV} {m:DMod} {n:Int} {args:List Int} (hm:RMod q e m) (hn:inI n) (hx:RWords q' x args):∃ e',ap prog 25 [.agg e,I n,x] (.tup [.agg e',I (Cy (nC m n args))])/\RFrame (some true) e' ((nC m n args).getD fQ):=by
 have h8:=r8 hm
 obtain ⟨y,rfl,hy⟩:=hm
 have no:nC m n args=none->ap prog 25 [.agg [y],I n,x] (.tup [.agg [I 0,I 0,I 0,.lit aV,W 0],I 1])->∃ e',ap prog 25 [.agg [y],I n,x] (.tup [.agg e',I (Cy (nC m n args))])/\RFrame (some true) e' ((nC m n args).getD fQ):=by
  intro h hr
  rw [h]
  exact ⟨_,hr,RNo⟩
 by_cases hM:bB m
 rotate_left
 ·refine no (by simp [nC,eF hM]) ?_
  rw [eF hM] at h8
  refine ap.of (f25_MR _ _ _) ?_
  unfold f25_M
  exact aa.chk rfl (aa.call h8 (aa.chk rfl (aa.tv rfl (aa.ite rfl (fun _=>aa.chk rfl aa.ret) nofun))))
 rw [cg hM] at h8
 have hD:nC m n args=j0 m n args:=by simp [nC,cg hM]
 by_cases hF:within n m.funcs.length
 rotate_left
 ·have hN:nC m n args=none:=by
   rw [hD]
   unfold j0
   split
   ·rename_i h0
    rw [wS h0 fun h=>hF ⟨h0,h⟩]
    rfl
   ·rfl
  refine no hN ?_
  refine ap.of (f25_MR _ _ _) ?_
  unfold f25_M
  refine aa.chk rfl (aa.call h8 (aa.chk rfl (aa.tv rfl (aa.ite rfl nofun fun _=>?_))))
  refine aa.tv hy.len (aa.call (kf _ _) (aa.chk rfl (aa.tv rfl (aa.ite rfl (fun _=>aa.chk rfl aa.ret) fun h=>?_))))
  exact absurd (bu.1 (by simpa using h)) hF
 have hlt:n.toNat < m.funcs.length:=by have:=hF.1; have:=hF.2; omega
 have hu:m.funcs[n.toNat]? = some m.funcs[n.toNat]:=EH hlt
 obtain ⟨e,he,hr⟩:=hy.bv (k:=.i64) hF.1 hu
 generalize m.funcs[n.toNat]=u at hu hr
 obtain ⟨hr0,hr1⟩:=qU hM hu
 obtain ⟨b,rfl,hb,_⟩:=hr
 have hT:j0 m n args=if (args.length:Int)=u.params then some ⟨n,0,0,args.take u.regs.toNat ++ List.replicate (u.regs.toNat - args.length) 0,0⟩ else none:=by simp [j0,hF.1,hu]
 by_cases hP:(args.length:Int)=u.params
 rotate_left
 ·refine no (by rw [hD,hT,if_neg hP]) ?_
  refine ap.of (f25_MR _ _ _) ?_
  unfold f25_M
  refine aa.chk rfl (aa.call h8 (aa.chk rfl (aa.tv rfl (aa.ite rfl nofun fun _=>?_))))
  refine aa.tv hy.len (aa.call (kf _ _) (aa.chk rfl (aa.tv rfl (aa.ite rfl (fun h=>?_) fun _=>?_))))
  ·exact absurd hF (bX.1 (by simpa using h))
  refine aa.tv hx.len (aa.tvs he (aa.chk rfl (aa.tv rfl (aa.ite rfl (fun _=>aa.chk rfl aa.ret) fun h=>?_))))
  simp at h
  exact absurd h hP
 rw [hD,hT,if_pos hP]
 obtain ⟨xs,hxs,hF2⟩:=hx.elems
 have hmk:=xP hF2 (n:=u.regs.toNat) (by omega)
 have hnat:aj (I u.regs)=some u.regs.toNat:=aU hr0 ⟨by omega,by omega⟩
 refine ⟨[I n,I 0,I 0,_,W 0],?_,⟨_,rfl,hmk,hn,in0,in0,nF⟩⟩
 refine ap.of (f25_MR _ _ _) ?_
 unfold f25_M
 refine aa.chk rfl (aa.call h8 (aa.chk rfl (aa.tv rfl (aa.ite rfl nofun fun _=>?_))))
 refine aa.tv hy.len (aa.call (kf _ _) (aa.chk rfl (aa.tv rfl (aa.ite rfl (fun h=>?_) fun _=>?_))))
 ·exact absurd hF (bX.1 (by simpa using h))
 refine aa.tv hx.len (aa.tvs he (aa.chk rfl (aa.tv rfl (aa.ite rfl (fun h=>?_) fun _=>?_))))
 ·simp at h
  exact absurd hP h
 refine aa.tvs he (aa.chk rfl (aa.nat hnat (aa.nat hnat (aa.chk ?_ (aa.rws hxs (aa.tv (by simp only [pcopy,if_true]) (aa.nat rfl (aa.chk rfl (aa.chk ?_ aa.ret)))))))))
 ·have:u.regs.toNat<=4294967296:=by omega
  simp [this]
 ·exact DA (RWords.isOwn hmk)
end Go.Ab.T12
end
section
set_option maxRecDepth 10000
namespace Go.Ab
theorem yr {m:DMod} {f:DFrame} {u:DFunc} {pad w:Int} (hu:m.funcs[f.f.toNat]? = some u) (h:¬ mU u.blocks pad true):iP m f pad w=none:=by
 unfold iP
 rw [hu]
 simp only [Option.bind_some]
 split
 ·rename_i h0
  cases hb:u.blocks[pad.toNat]? with
  | none=>rfl
  | some b =>
   simp only [Option.bind_some]
   split
   ·rename_i hl
    exact absurd ⟨h0,b,hb,hl⟩ h
   ·rfl
 ·rfl
theorem yg {m:DMod} {f:DFrame} {u:DFunc} {b:DBlock} {pad w:Int} (hu:m.funcs[f.f.toNat]? = some u) (h0:0<=pad) (hb:u.blocks[pad.toNat]? = some b) (hl:b.landing=true) :
  iP m f pad w=some ⟨f.f,pad,0,f.regs.set b.pad.dst.toNat w,w⟩:=by
 simp [iP,hu,h0,hb,hl]
theorem nj {a b:Nat} (h:a < b):Nat.blt a b=true:=by simpa using h
end Go.Ab
namespace Go.Ab.T12
open Go Go.Ab Go.Proofs
end Go.Ab.T12
end
section
set_option maxRecDepth 10000
namespace Go.Ab
structure DMach where
 stack:List DFrame
 cells:List Int
 inputs:List Int
 events:List Int
 done:Int
 value:Int
def DMach.c (s:DMach) (k:Nat):Int:=s.cells.getD k 0
def DMach.ok (s:DMach):Prop:=s.cells.length=16/\(∀ k,inW (s.c k))/\inI s.done/\inW s.value
def au (s:DMach) (g i v:TV):List TV:=[g,W (s.c 0),W (s.c 1),W (s.c 2),W (s.c 3),W (s.c 4),W (s.c 5),W (s.c 6),W (s.c 7),W (s.c 8),W (s.c 9),W (s.c 10),W (s.c 11),W (s.c 12),W (s.c 13),W (s.c 14),W (s.c 15),i,v,I s.done,W s.value]
def RMach (e:List TV) (s:DMach):Prop:=∃ g i v,e=au s g i v/\RL none 5 (RFrame none) g s.stack/\RWords none i s.inputs/\RInts none v s.events/\s.ok
def Bj:List Value:=[.slice none 0 0,.int .u16 0,.int .u16 0,.int .u16 0,.int .u16 0,.int .u16 0,.int .u16 0,.int .u16 0,.int .u16 0,.int .u16 0,.int .u16 0,.int .u16 0,.int .u16 0,.int .u16 0,.int .u16 0,.int .u16 0,.int .u16 0,.slice none 0 0,.slice none 0 0,.int .i64 0,.int .u16 0]
theorem CO {s:DMach} {g i v:TV} (h1:g.isSl=true) (h2:i.isSl=true) (h3:v.isSl=true):(Bool.and ((TV.agg (au s g i v)).isAgg 21) (ab Bj ((TV.agg (au s g i v)).cellsL true) 0))=true:=by
 simp [ab,TV.isAgg,TV.cellsL,Bj,au,aI,h1,h2,h3,TV.isSc,scV]
theorem dec {n:Nat} (h:0 < n) (hn:n<=9223372036854775807):pbin (.int .i64) .sub (I (n:Int)) (I (1:Int))=some (I ((n - 1:Nat):Int)):=by
 have h1:IntKind.i64.wrap ((n:Int) - 1)=((n - 1:Nat):Int):=by rw [IntKind.wrap_i64]; omega
 show some (TV.lit (.int .i64 (IntKind.i64.wrap ((n:Int) - 1))))=_
 rw [h1]
theorem aL {n:Nat} (h:n<=9223372036854775807):aj (I (n:Int))=some n:=by
 have:=aU (n:=(n:Int)) (by omega) ⟨by omega,by omega⟩
 simpa using this
def cV (s:DMach) (f:DFrame):DMach:={ s with stack:=s.stack.take (s.stack.length - 1) ++ [f] }
def bR (s:DMach) (how w:Int):DMach:={ s with done:=how,value:=w }
def aK (regs places:List Int):List Int:=places.map fun p=>regs.getD p.toNat 0
def fu (s:DMach):Option DFrame:=s.stack[s.stack.length - 1]?
def bF (m:DMod) (s:DMach) (n:Int) (places:List Int):DMach :=
 if 32<=s.stack.length then bR s 5 0 else
 match fu s with
 | none=>s
 | some f=>{ s with stack:=s.stack ++ [(j0 m n (aK f.regs places)).getD fQ] }
end Go.Ab
namespace Go.Ab.T12
open Go Go.Ab Go.Proofs
end Go.Ab.T12
end
section
set_option maxRecDepth 10000
namespace Go.Ab
theorem nQ {regs places:List Int} {k:Nat} {p:Int} (h:places[k]? = some p):aK regs (places.take (k + 1))=aK regs (places.take k) ++ [regs.getD p.toNat 0]:=by
 unfold aK
 rw [List.take_add_one,h]
 simp
theorem b7 {regs places:List Int}:(aK regs places).length=places.length:=by simp [aK]
theorem iu {l:List Int} {n:Nat} {a:Int} (h:l[n]? = some a):l.getD n 0=a:=by simp [List.getD,h]
end Go.Ab
namespace Go.Ab.T12
open Go Go.Ab Go.Proofs
end Go.Ab.T12
end
section
set_option maxRecDepth 10000
namespace Go.Ab
def fc (m:DMod) (f:DFrame) (w:Int) (cl:Bool):Prop :=
 ∃ u b p,m.funcs[f.f.toNat]? = some u/\u.blocks[f.block.toNat]? = some b/\f.at_=b.ins.length/\b.fin.kind=4/\u.blocks[b.fin.pad.toNat]? = some p/\((p.pad.all=true\/w ∈ p.pad.catches)\/cl=true/\p.pad.cleanup=true)
open Classical in
noncomputable def j7 (P:Nat->Prop):Nat->Option Nat
 | 0=>none
 | n + 1=>if P n then some n else j7 P n
theorem t7 {P:Nat->Prop} {k:Nat} (h:P k):∀ {n:Nat},k < n->(∀ j,k < j->j < n->¬ P j)->j7 P n=some k
 | 0,hk,_=>absurd hk (Nat.not_lt_zero _)
 | n + 1, hk, hn => by
  by_cases he:k=n
  ·subst he
   simp [j7,h]
  ·simp only [j7]
   rw [if_neg (hn n (by omega) (by omega))]
   exact t7 h (by omega) fun j h1 h2=>hn j h1 (by omega)
def mq (m:DMod) (f:DFrame):Int:=((((m.funcs[f.f.toNat]?).bind fun u=>u.blocks[f.block.toNat]?).map fun b=>b.fin.pad).getD 0)
def b9 (m:DMod) (l:List DFrame) (w:Int) (cl:Bool) (i:Nat):Prop:=∃ f,l[i]? = some f/\fc m f w cl
open Classical in
noncomputable def aN (m:DMod) (s:DMach) (w:Int):DMach :=
 if ∃ i,b9 m (s.stack.take (s.stack.length - 1)) w false i then
  match j7 (b9 m (s.stack.take (s.stack.length - 1)) w true) (s.stack.length - 1) with
  | none=>s
  | some k=>match s.stack[k]? with
   | none=>s
   | some f=>cV { s with stack:=s.stack.take (k + 1) } ((iP m f (mq m f) w).getD f)
 else bR { s with stack:=s.stack.take (s.stack.length - 1) } 2 w
end Go.Ab
namespace Go.Ab.T12
open Go Go.Ab Go.Proofs
theorem iB {m:DMod} {g:DFunc} {b:DBlock} {n k:Nat} (h:bB m) (hg:m.funcs[n]? = some g) (hb:g.blocks[k]? = some b):pn m.funcs g.regs g.blocks b :=
 (lg h hg).2.2.2 k (EG.1 hb).1 b hb
theorem nV {m:DMod} {g:DFunc} {b:DBlock} {n k:Nat} (h:bB m) (hg:m.funcs[n]? = some g) (hb:g.blocks[k]? = some b) (h4:b.fin.kind=4):mU g.blocks b.fin.pad true:=by
 have:=(iB h hg hb).2.2.2.2.2.2.2.2.2.1
 rw [h4] at this
 exact this rfl
theorem gi {m:DMod} {f:DFrame} (h:bB m) (hQ:bO m f):f.regs.length<=256:=by
 obtain ⟨h0,u,hu,hL,_⟩:=hQ
 have:=qU h hu
 omega
end Go.Ab.T12
end
section
set_option maxRecDepth 10000
namespace Go.Ab
theorem wI {a:Int} (ha:inW a):pconv (.int .i64) (W a)=some (I a):=by
 simp only [pconv]
 rw [IntKind.wrap_i64]
 have:=ha.1
 have:=ha.2
 congr 3
 omega
theorem nth16 (F:Nat->TV) {n:Nat} (h:n < 16):pnth n [F 0,F 1,F 2,F 3,F 4,F 5,F 6,F 7,F 8,F 9,F 10,F 11,F 12,F 13,F 14,F 15]=some (F n):=by
 match n,h with
 | 0,_=>rfl
 | 1,_=>rfl
 | 2,_=>rfl
 | 3,_=>rfl
 | 4,_=>rfl
 | 5,_=>rfl
 | 6,_=>rfl
 | 7,_=>rfl
 | 8,_=>rfl
 | 9,_=>rfl
 | 10,_=>rfl
 | 11,_=>rfl
 | 12,_=>rfl
 | 13,_=>rfl
 | 14,_=>rfl
 | 15,_=>rfl
 | n + 16,h=>omega
def upF (f:DFrame):DFrame:={ f with at_:=IntKind.i64.wrap (f.at_ + 1) }
def mD (f:DFrame) (n w:Int):DFrame:={ f with regs:=f.regs.set n.toNat w }
def bG (m:DMod) (f:DFrame):Option DBlock:=(m.funcs[f.f.toNat]?).bind fun u=>u.blocks[f.block.toNat]?
open Classical in
noncomputable def bC (m:DMod) (s:DMach) (w:Int):DMach :=
 match s.stack[s.stack.length - 2]? with
 | none=>s
 | some f => if s.stack.length ≤ 1 then bR { s with stack := [] } 1 w else
  match bG m f with
  | none=>s
  | some b=>if f.at_=b.ins.length then cV { s with stack:=s.stack.take (s.stack.length - 1) } { mD f b.fin.dst w with block:=b.fin.to,at_:=0 } else
   match b.ins[f.at_.toNat]? with
   | none=>s
   | some x=>cV { s with stack:=s.stack.take (s.stack.length - 1) } (upF (mD f x.dst w))
def reg (f:DFrame) (n:Int):Int:=f.regs.getD n.toNat 0
def eK (s:DMach) (n:Nat) (w:Int):DMach:={ s with cells:=s.cells.set n w }
def fw (m:DMod) (s:DMach) (f:DFrame) (x:DIns):DMach :=
 if x.op=11 then bF m s x.f x.args else
 if x.op<=8 then (if (cZ f x).2=true then cV s (cZ f x).1 else bR s 3 0) else
 if x.op=9 then (if 16<=reg f x.a then bR s 4 0 else cV s (upF (mD f x.dst (s.c (reg f x.a).toNat)))) else
 if x.op=10 then (if 16<=reg f x.a then bR s 4 0 else cV (eK s (reg f x.a).toNat (reg f x.b)) (upF f)) else
 if x.op=12 then cV { s with events:=s.events ++ [reg f x.a] } (upF f) else
 match s.inputs with
 | []=>bR s 6 0
 | a :: l=>cV { s with events:=s.events ++ [a + 65536],inputs:=l } (upF (mD f x.dst a))
theorem AT {s:DMach} {n j:Nat} {w:Int} (hl:s.cells.length=16) (hj:j < 16):il n j (W w) (W (s.c j))=W ((eK s n w).c j):=by
 have hl':j < s.cells.length:=by omega
 by_cases h:n=j
 ·subst h
  simp [il,eK,DMach.c,List.getD,List.getElem?_set_self hl']
 ·have hb:n.beq j=false:=by
   cases h':n.beq j with
   | false=>rfl
   | true=>exact absurd (Nat.eq_of_beq_eq_true h') h
  simp [il,hb,eK,DMach.c,List.getD,List.getElem?_set_ne h]
theorem xS {s:DMach} {n:Nat} {w:Int} (h:∀ k,inW (s.c k)) (hw:inW w) (k:Nat):inW ((eK s n w).c k):=by
 have hk:=h k
 simp only [DMach.c,eK,List.getD,List.getElem?_set] at hk ⊢
 split
 ·split
  ·exact hw
  ·exact nF
 ·exact hk
end Go.Ab
namespace Go.Ab.T12
open Go Go.Ab Go.Proofs
theorem zQ {op:Int} (h:has (ln op) 1=true):1<=op/\op<=13:=by
 by_cases hn:1<=op/\op<=13
 ·exact hn
 ·have:ln op=0:=by
   unfold ln
   repeat rw [if_neg (by omega)]
  rw [this] at h
  exact absurd h (by decide)
end Go.Ab.T12
end
section
set_option maxRecDepth 10000
namespace Go.Ab
def qk (m:DMod) (f g:DFrame):Prop :=
 ∃ u b,m.funcs[f.f.toNat]? = some u/\u.blocks[f.block.toNat]? = some b/\((f.at_=b.ins.length/\b.fin.kind=4/\b.fin.f=g.f)\/(¬ f.at_=b.ins.length/\∃ x,b.ins[f.at_.toNat]? = some x/\x.op=11/\x.f=g.f))
def cn (m:DMod) (s:DMach):Prop :=
 (0<=s.done/\s.done<=6)/\s.stack.length<=32/\(s.done=0->0 < s.stack.length)/\(∀ (k:Nat) f,s.stack[k]? = some f->bO m f)/\∀ (k:Nat) f g,s.stack[k]? = some f->s.stack[k + 1]? = some g->qk m f g
theorem qj {x:TV} {k j:Nat} {e:List TV} {y:TV} (h:pel x k=some e) (hj:e[j]? = some y):aG [(k,j)] x=some y:=by
 cases x <;> simp [pel] at h
 simp [aG,h,hj]
noncomputable def dc (m:DMod) (s:DMach):DMach :=
  if ¬ s.done=0 then s else
  match fu s with
  | none=>s
  | some f => match bG m f with
    | none=>s
    | some b => if f.at_ = b.ins.length then
        (if b.fin.kind = 1 then bC m s (reg f b.fin.a) else
         if b.fin.kind=4 then bF m s b.fin.f b.fin.args else
         if b.fin.kind=5 then aN m s (reg f b.fin.a) else
         if b.fin.kind=6 then aN m s f.fly else
         if b.fin.kind=3/\reg f b.fin.a=0 then cV s { f with block:=b.fin.els,at_:=0 } else cV s { f with block:=b.fin.to,at_:=0 })
      else match b.ins[f.at_.toNat]? with
        | none=>s
        | some x=>fw m s f x
end Go.Ab
namespace Go.Ab.T12
open Go Go.Ab Go.Proofs
theorem qA {m:DMod} {g:DFunc} {b:DBlock} {x:DIns} {n k j:Nat} (h:bB m) (hg:m.funcs[n]? = some g) (hb:g.blocks[k]? = some b) (hx:b.ins[j]? = some x):pj m.funcs g.regs x :=
 (iB h hg hb).2.2.1 j (EG.1 hx).1 x hx
theorem qC {m:DMod} {g:DFunc} {b:DBlock} {n k:Nat} (h:bB m) (hg:m.funcs[n]? = some g) (hb:g.blocks[k]? = some b):th m.funcs g.regs g.blocks b.fin :=
 (iB h hg hb).2.2.2
end Go.Ab.T12
end
section
set_option maxRecDepth 10000
namespace Go.Ab.T12
open Go Go.Ab Go.Proofs
theorem xp {k:Int} (h:has (kL k) 1=true):1<=k/\k<=6:=by
 by_cases hn:1<=k/\k<=6
 ·exact hn
 ·have:kL k=0:=by
   unfold kL
   repeat rw [if_neg (by omega)]
  rw [this] at h
  exact absurd h (by decide)
end Go.Ab.T12
end
section
set_option maxRecDepth 10000
namespace Go.Ab
def eV (m:DMod) (l:List DFrame):Prop:=(∀ (k:Nat) f,l[k]? = some f->bO m f)/\∀ (k:Nat) f g,l[k]? = some f->l[k + 1]? = some g->qk m f g
theorem eV.take {m:DMod} {l:List DFrame} (h:eV m l) (n:Nat):eV m (l.take n):=by
 have key:∀ (k:Nat) (f:DFrame),(l.take n)[k]? = some f->l[k]? = some f:=by
  intro k f hk
  rw [List.getElem?_take] at hk
  split at hk
  ·exact hk
  ·cases hk
 exact ⟨fun k f hk=>h.1 k f (key k f hk),fun k f g hf hg=>h.2 k f g (key k f hf) (key _ g hg)⟩
theorem iX {α:Type} {l:List α} {a b:α} {k:Nat} (h:(l ++ [a])[k]? = some b):(k < l.length/\l[k]? = some b)\/(k=l.length/\b=a):=by
 by_cases hk:k < l.length
 ·rw [EQ hk] at h
  exact .inl ⟨hk,h⟩
 ·rw [ER (by omega)] at h
  have:=(EG.1 h).1
  simp at this
  have hk:k=l.length:=by omega
  subst hk
  simp at h
  exact .inr ⟨rfl,h.symm⟩
theorem xg {α:Type} {l:List α} {a:α}:(l ++ [a])[l.length]? = some a:=by simp
theorem qk.to {m:DMod} {f g g':DFrame} (h:qk m f g) (hf:g'.f=g.f):qk m f g':=by
 obtain ⟨u,b,hu,hb,h⟩:=h
 refine ⟨u,b,hu,hb,?_⟩
 rw [hf]
 exact h
theorem eV.top {m:DMod} {l:List DFrame} {f0 f:DFrame} (h:eV m (l ++ [f0])) (hf:bO m f) (he:f.f=f0.f):eV m (l ++ [f]):=by
 have key:∀ (k:Nat) (g:DFrame),k < l.length->l[k]? = some g->(l ++ [f0])[k]? = some g:=fun k g hk hg=>by rw [EQ hk]; exact hg
 refine ⟨fun k g hg=>?_,fun k g g' hg hg'=>?_⟩
 ·rcases iX hg with ⟨hk,hg⟩ | ⟨_,rfl⟩
  ·exact h.1 k g (key k g hk hg)
  ·exact hf
 ·rcases iX hg' with ⟨hk',hg'⟩ | ⟨hk',rfl⟩
  ·rcases iX hg with ⟨hk,hg⟩ | ⟨hk,rfl⟩
   ·exact h.2 k g g' (key k g hk hg) (key _ g' hk' hg')
   ·omega
  ·rcases iX hg with ⟨hk,hg⟩ | ⟨hk,rfl⟩
   ·exact (h.2 k g f0 (key k g hk hg) (by rw [hk']; exact xg)).to he
   ·omega
theorem eV.push {m:DMod} {l:List DFrame} {f0 g:DFrame} (h:eV m (l ++ [f0])) (hg:bO m g) (hl:qk m f0 g):eV m (l ++ [f0] ++ [g]):=by
 refine ⟨fun k x hx=>?_,fun k x y hx hy=>?_⟩
 ·rcases iX hx with ⟨_,hx⟩ | ⟨_,rfl⟩
  ·exact h.1 k x hx
  ·exact hg
 ·rcases iX hy with ⟨_,hy⟩ | ⟨hk',rfl⟩
  ·rcases iX hx with ⟨_,hx⟩ | ⟨hk,rfl⟩
   ·exact h.2 k x y hx hy
   ·have:=(EG.1 hy).1
    omega
  ·rcases iX hx with ⟨_,hx⟩ | ⟨hk,rfl⟩
   ·have hk:k=l.length:=by simp at hk'; omega
    rw [hk,xg] at hx
    cases hx
    exact hl
   ·omega
theorem tW {l:List DFrame} {f:DFrame} (h:l[l.length - 1]? = some f):l=l.take (l.length - 1) ++ [f]:=by
 have hlt:=(EG.1 h).1
 have h1:l.take (l.length - 1 + 1)=l.take (l.length - 1) ++ [f]:=by rw [List.take_add_one,h]; rfl
 rw [show l.length - 1 + 1=l.length by omega,List.take_length] at h1
 exact h1
theorem cn.st {m:DMod} {s:DMach} (h:cn m s):eV m s.stack:=h.2.2.2
theorem cj {m:DMod} {s:DMach} {f0 f:DFrame} (hd:0<=s.done/\s.done<=6) (hl:s.stack.length<=32) (hs:eV m s.stack) (ht:fu s=some f0) (hf:bO m f) (he:f.f=f0.f):cn m (cV s f):=by
 have hst:=tW ht
 have hlt:=(EG.1 ht).1
 refine ⟨hd,?_,fun _=>?_,?_⟩
 ·simp [cV]; omega
 ·simp [cV]
 ·rw [hst] at hs
  exact hs.top hf he
theorem eh {m:DMod} {s:DMach} {how w:Int} (hl:s.stack.length<=32) (hs:eV m s.stack) (h:1<=how/\how<=6):cn m (bR s how w) :=
 ⟨⟨by show 0<=how; omega,h.2⟩,hl,fun h0=>by have h0:how=0:=h0; omega,hs⟩
theorem AL {m:DMod} {f:DFrame} {b:DBlock} {n:Int} (h:bO m f) (hb:bG m f=some b) (h0:0<=n) (h1:n<=b.ins.length):bO m { f with at_:=n }:=by
 obtain ⟨hf0,u,hu,hL,hb0,b',hb',_⟩:=h
 have:b'=b:=by
  have:bG m f=some b':=by simp [bG,hu,hb']
  rw [hb] at this
  cases this
  rfl
 subst this
 exact ⟨hf0,u,hu,hL,hb0,b',hb',h0,h1⟩
theorem mA {m:DMod} {f:DFrame} {n w:Int} (h:bO m f):bO m (mD f n w):=by
 obtain ⟨hf0,u,hu,hL,hr⟩:=h
 exact ⟨hf0,u,hu,by simpa [mD] using hL,hr⟩
theorem lH {m:DMod} {f:DFrame} {u:DFunc} {l:Bool} {n:Int} (h:bO m f) (hu:m.funcs[f.f.toNat]? = some u) (hg:mU u.blocks n l):bO m { f with block:=n,at_:=0 }:=by
 obtain ⟨hf0,u',hu',hL,_⟩:=h
 rw [hu] at hu'
 cases hu'
 obtain ⟨h0,b,hb,_⟩:=hg
 exact ⟨hf0,u,hu,hL,h0,b,hb,Int.le_refl 0,by simp⟩
end Go.Ab
namespace Go.Ab.T12
open Go Go.Ab Go.Proofs
theorem oU {m:DMod} {n:Int} {args:List Int} {u:DFunc} (hM:bB m) (h0:0<=n) (hu:m.funcs[n.toNat]? = some u) (ha:(args.length:Int)=u.params) :
  bO m ((j0 m n args).getD fQ)/\((j0 m n args).getD fQ).f=n:=by
 have hT:j0 m n args=some ⟨n,0,0,args.take u.regs.toNat ++ List.replicate (u.regs.toNat - args.length) 0,0⟩:=by simp [j0,h0,hu,ha]
 rw [hT]
 have hf:=lg hM hu
 obtain ⟨b,hb,_⟩:=hf.2.2.1
 have hr:=qU hM hu
 refine ⟨⟨h0,u,hu,?_,Int.le_refl 0,b,hb,Int.le_refl 0,by simp⟩,rfl⟩
 simp
 omega
theorem nr {m:DMod} {s:DMach} {n regs:Int} {places:List Int} {f:DFrame} (hM:bB m) (hQ:cn m s) (ht:fu s=some f) (ha:zx m.funcs regs n places) (hl:∀ g:DFrame,g.f=n->qk m f g):cn m (bF m s n places):=by
 obtain ⟨h0,u,hu,hul,_⟩:=ha
 by_cases h32:32<=s.stack.length
 ·have hT:bF m s n places=bR s 5 0:=by simp [bF,h32]
  rw [hT]
  exact eh hQ.2.1 hQ.st (by omega)
 ·have hT:bF m s n places={ s with stack:=s.stack ++ [(j0 m n (aK f.regs places)).getD fQ] }:=by simp [bF,h32,ht]
  rw [hT]
  obtain ⟨hf,hn⟩:=oU (args:=aK f.regs places) hM h0 hu (by rw [b7]; exact hul)
  refine ⟨hQ.1,?_,fun _=>?_,?_⟩
  ·simp; omega
  ·simp
  ·have hst:=tW ht
   have hs:=hQ.st
   show eV m (s.stack ++ [_])
   rw [hst] at hs ⊢
   exact hs.push hf (hl _ hn)
theorem land_f {m:DMod} {f:DFrame} {pad w:Int}:((iP m f pad w).getD f).f=f.f:=by
 unfold iP
 cases m.funcs[f.f.toNat]? with
 | none=>rfl
 | some g =>
  simp only [Option.bind_some]
  split
  ·cases g.blocks[pad.toNat]? with
   | none=>rfl
   | some b =>
    simp only [Option.bind_some]
    split <;> rfl
  ·rfl
theorem vA {m:DMod} {f:DFrame} {pad w:Int} (h:bO m f):bO m ((iP m f pad w).getD f):=by
 obtain ⟨h0,u,hu,hL,hr⟩:=h
 have hf:bO m f:=⟨h0,u,hu,hL,hr⟩
 by_cases hG:mU u.blocks pad true
 ·obtain ⟨hp0,b,hb,hl⟩:=hG
  rw [yg hu hp0 hb hl]
  exact ⟨h0,u,hu,by simpa using hL,hp0,b,hb,Int.le_refl 0,by simp⟩
 ·rw [yr hu hG]
  exact hf
theorem ny {m:DMod} {s:DMach} {w:Int} (hQ:cn m s):cn m (aN m s w):=by
 unfold aN
 split
 ·split
  ·exact hQ
  ·rename_i k hk
   split
   ·exact hQ
   ·rename_i f hf
    have hlt:=(EG.1 hf).1
    refine cj (s:={ s with stack:=s.stack.take (k + 1) }) (f0:=f) hQ.1 ?_ (hQ.st.take _) ?_ (vA (hQ.st.1 k f hf)) land_f
    ·have:=hQ.2.1
     simp; omega
    ·simp only [fu,List.length_take]
     rw [List.getElem?_take,if_pos (by omega),<- hf]
     congr 1
     omega
 ·exact eh (by have:=hQ.2.1; simp; omega) (hQ.st.take _) (by omega)
theorem up_at {f:DFrame} {n:Nat} (h0:0<=f.at_) (h1:f.at_ < n) (hn:n<=64):IntKind.i64.wrap (f.at_ + 1)=f.at_ + 1:=by
 rw [IntKind.wrap_i64]; omega
theorem o5 {m:DMod} {f:DFrame} {b:DBlock} (hM:bB m) (h:bO m f) (hb:bG m f=some b) (hlt:f.at_.toNat < b.ins.length):bO m (upF f):=by
 have hc:=h
 obtain ⟨hf0,u,hu,hL,hb0,b',hb',h0,h1⟩:=hc
 have:bG m f=some b':=by simp [bG,hu,hb']
 rw [hb] at this
 cases this
 have h64:=(iB hM hu hb').1
 have hw:=up_at (n:=b.ins.length) h0 (by omega) h64
 have:=AL (n:=IntKind.i64.wrap (f.at_ + 1)) h hb (by omega) (by omega)
 exact this
end Go.Ab.T12
end
section
set_option maxRecDepth 10000
namespace Go.Ab
theorem va {f:DFrame} {x:DIns}:(cZ f x).1=f\/∃ w,(cZ f x).1=upF (mD f x.dst w):=by
 unfold cZ
 cases ez f.regs x with
 | none=>exact .inl rfl
 | some w =>
  simp only
  split
  ·exact .inr ⟨w,rfl⟩
  ·exact .inl rfl
end Go.Ab
namespace Go.Ab.T12
open Go Go.Ab Go.Proofs
theorem qS {m:DMod} {s:DMach} {w:Int} (hM:bB m) (hQ:cn m s):cn m (bC m s w):=by
 unfold bC
 split
 ·exact hQ
 ·rename_i f hf
  split
  ·rename_i h1
   refine eh (s:={ s with stack:=[] }) (by simp) ⟨fun k f hk=>?_,fun k f g hk=>?_⟩ (by omega)
   ·simp at hk
   ·simp at hk
  ·rename_i h1
   have hF:=hQ.st.1 _ f hf
   have htop:fu { s with stack:=s.stack.take (s.stack.length - 1) }=some f:=by
    simp only [fu,List.length_take]
    rw [List.getElem?_take,if_pos (by omega),<- hf]
    congr 1
    omega
   have hlen:({ s with stack:=s.stack.take (s.stack.length - 1) }:DMach).stack.length<=32:=by
    have:=hQ.2.1
    simp; omega
   obtain ⟨f2,hf2⟩:∃ f,s.stack[s.stack.length - 2 + 1]? = some f:=⟨_,EH (by omega)⟩
   obtain ⟨u,b,hu,hb,hlink⟩:=hQ.st.2 _ f f2 hf hf2
   have hbo:bG m f=some b:=by simp [bG,hu,hb]
   rw [hbo]
   simp only
   split
   ·rename_i hat
    have h4:b.fin.kind=4:=by
     rcases hlink with ⟨_,h,_⟩ | ⟨h,_⟩
     ·exact h
     ·exact absurd hat h
    have hE:=(qC hM hu hb).2.2.2.2.1.1
    rw [h4] at hE
    have hg:=lH (f:=mD f b.fin.dst w) (mA hF) hu (hE rfl)
    exact cj hQ.1 hlen (hQ.st.take _) htop hg rfl
   ·rename_i hat
    split
    ·exact hQ
    ·rename_i x hx
     have hup:=o5 (f:=mD f x.dst w) hM (mA hF) hbo (EG.1 hx).1
     exact cj hQ.1 hlen (hQ.st.take _) htop hup rfl
theorem Ak {m:DMod} {s:DMach} {f:DFrame} {b:DBlock} {x:DIns} (hM:bB m) (hQ:cn m s) (ht:fu s=some f) (hb:bG m f=some b) (hat:¬ f.at_=b.ins.length) (hx:b.ins[f.at_.toNat]? = some x) (hI:pj m.funcs f.regs.length x):cn m (fw m s f x):=by
 have hF:=hQ.st.1 _ f ht
 have hlt:=(EG.1 hx).1
 have hup:∀ n w,bO m (upF (mD f n w)):=fun n w=>o5 (f:=mD f n w) hM (mA hF) hb hlt
 have hup0:bO m (upF f):=o5 hM hF hb hlt
 unfold fw
 split
 ·rename_i h11
  have hc:=hI.2.2.2.2.2.1
  rw [h11] at hc
  refine nr hM hQ ht (hc rfl) fun g hg=>?_
  obtain ⟨_,u,hu,_,_,b',hb',_⟩:=hF
  have:bG m f=some b':=by simp [bG,hu,hb']
  rw [hb] at this
  cases this
  exact ⟨u,b,hu,hb',.inr ⟨hat,x,hx,h11,hg.symm⟩⟩
 split
 ·split
  ·rcases va (f:=f) (x:=x) with h | ⟨w,h⟩
   ·rw [h]; exact cj hQ.1 hQ.2.1 hQ.st ht hF rfl
   ·rw [h]; exact cj hQ.1 hQ.2.1 hQ.st ht (hup _ _) rfl
  ·exact eh hQ.2.1 hQ.st (by omega)
 split
 ·split
  ·exact eh hQ.2.1 hQ.st (by omega)
  ·exact cj hQ.1 hQ.2.1 hQ.st ht (hup _ _) rfl
 split
 ·split
  ·exact eh hQ.2.1 hQ.st (by omega)
  ·exact cj (s:=eK s (reg f x.a).toNat (reg f x.b)) hQ.1 hQ.2.1 hQ.st ht hup0 rfl
 split
 ·exact cj (s:={ s with events:=s.events ++ [reg f x.a] }) hQ.1 hQ.2.1 hQ.st ht hup0 rfl
 split
 ·exact eh hQ.2.1 hQ.st (by omega)
 ·rename_i a l _
  exact cj (s:={ s with events:=s.events ++ [a + 65536],inputs:=l }) hQ.1 hQ.2.1 hQ.st ht (hup _ _) rfl
theorem yf {m:DMod} {s:DMach} (hM:bB m) (hQ:cn m s):cn m (dc m s):=by
 unfold dc
 split
 ·exact hQ
 split
 ·exact hQ
 rename_i f ht
 have hF:=hQ.st.1 _ f ht
 have hF':=hF
 obtain ⟨hf0,u,hu,hLr,hb0,b,hb,ha0,ha1⟩:=hF
 have hbo:bG m f=some b:=by simp [bG,hu,hb]
 rw [hbo]
 simp only
 have hE:=qC hM hu hb
 have hk:=xp hE.1
 split
 ·rename_i hat
  split
  ·exact qS hM hQ
  split
  ·rename_i h4
   have hc:=hE.2.2.2.1.1
   rw [h4] at hc
   exact nr hM hQ ht (hc rfl) fun g hg=>⟨u,b,hu,hb,.inl ⟨hat,h4,hg.symm⟩⟩
  split
  ·exact ny hQ
  split
  ·exact ny hQ
  split
  ·rename_i h3
   have hc:=hE.2.2.2.2.2.1.1
   rw [h3.1] at hc
   exact cj hQ.1 hQ.2.1 hQ.st ht (lH hF' hu (hc rfl)) rfl
  ·rename_i h1 h4 h5 h6 h3
   have h23:b.fin.kind=2\/b.fin.kind=3:=by omega
   have hc:=hE.2.2.2.2.1.1
   rcases h23 with h | h
   ·rw [h] at hc
    exact cj hQ.1 hQ.2.1 hQ.st ht (lH hF' hu (hc rfl)) rfl
   ·rw [h] at hc
    exact cj hQ.1 hQ.2.1 hQ.st ht (lH hF' hu (hc rfl)) rfl
 ·rename_i hat
  split
  ·exact hQ
  ·rename_i x hx
   have hI:=qA hM hu hb hx
   rw [<- hLr] at hI
   exact Ak hM hQ ht hbo hat hx hI
end Go.Ab.T12
end
section
set_option maxRecDepth 10000
namespace Go.Ab
def cells16 (s:DMach):List Int:=[s.c 0,s.c 1,s.c 2,s.c 3,s.c 4,s.c 5,s.c 6,s.c 7,s.c 8,s.c 9,s.c 10,s.c 11,s.c 12,s.c 13,s.c 14,s.c 15]
theorem te {s:DMach} (h:s.cells.length=16):cells16 s=s.cells:=by
 unfold cells16 DMach.c
 generalize s.cells=l at h
 match l,h with
 | [_,_,_,_,_,_,_,_,_,_,_,_,_,_,_,_],_=>rfl
def mQ (m:DMod) (inputs:List Int):DMach:=⟨[(j0 m 0 []).getD fQ],List.replicate 16 0,inputs,[],0,0⟩
theorem BN {m:DMod} {l:List Int} (k:Nat):(mQ m l).c k=0:=by
 simp only [DMach.c,mQ,List.getD,List.getElem?_replicate]
 split <;> rfl
theorem RMach.frz' {s:DMach} {g i v:TV} (hg:RL none 5 (RFrame none) g s.stack) (hi:RWords none i s.inputs) (hv:RInts none v s.events) (ho:s.ok):RMach (au s (Go.Ab.frz g) (Go.Ab.frz i) (Go.Ab.frz v)) s :=
 ⟨_,_,_,rfl,(hg.frz (S:=RFrame (some false)) fun _ _ h=>h.frz).weak fun _ _ h=>h.weak,(hi.frz (S:=RW1) fun _ _ h=>h.frz).weak fun _ _ h=>h,(hv.frz (S:=RI1) fun _ _ h=>h.frz).weak fun _ _ h=>h,ho⟩
end Go.Ab
namespace Go.Ab.T12
open Go Go.Ab Go.Proofs
theorem xH {m:DMod} {inputs:List Int} (hM:bB m):cn m (mQ m inputs):=by
 obtain ⟨_,⟨u,hu,hp⟩,_⟩:=id hM
 obtain ⟨hf,_⟩:=oU (n:=0) (args:=[]) hM (Int.le_refl 0) hu (by simp [hp])
 refine ⟨⟨Int.le_refl 0,by show (0:Int)<=6; omega⟩,by simp [mQ],fun _=>by simp [mQ],fun k f hk=>?_,fun k f g hk hk'=>?_⟩
 ·have:=(EG.1 hk).1
  simp [mQ] at this
  subst this
  simp [mQ] at hk
  rw [<- hk]
  exact hf
 ·have:=(EG.1 hk').1
  simp [mQ] at this
end Go.Ab.T12
end
section
set_option maxRecDepth 10000
namespace Go.Ab
theorem peq16 {a b:DMach} (ha:a.cells.length=16) (hb:b.cells.length=16):qq .u16 .neq [W (a.c 0),W (a.c 1),W (a.c 2),W (a.c 3),W (a.c 4),W (a.c 5),W (a.c 6),W (a.c 7),W (a.c 8),W (a.c 9),W (a.c 10),W (a.c 11),W (a.c 12),W (a.c 13),W (a.c 14),W (a.c 15)] [W (b.c 0),W (b.c 1),W (b.c 2),W (b.c 3),W (b.c 4),W (b.c 5),W (b.c 6),W (b.c 7),W (b.c 8),W (b.c 9),W (b.c 10),W (b.c 11),W (b.c 12),W (b.c 13),W (b.c 14),W (b.c 15)]=some (B (!(a.cells == b.cells))):=by
 have h:∀ s:DMach,ls .u16 [W (s.c 0),W (s.c 1),W (s.c 2),W (s.c 3),W (s.c 4),W (s.c 5),W (s.c 6),W (s.c 7),W (s.c 8),W (s.c 9),W (s.c 10),W (s.c 11),W (s.c 12),W (s.c 13),W (s.c 14),W (s.c 15)]=some (cells16 s):=fun _=>rfl
 unfold qq
 rw [h a,h b,te ha,te hb]
 rfl
end Go.Ab
namespace Go.Ab.T12
open Go Go.Ab Go.Proofs
theorem rSmall {q q':Option Bool} {e:List TV} {x:TV} {m:DMod} {l:List Int} (hm:RMod q e m) (hx:RWords q' x l):∃ b,ap prog 15 [.agg e,x] (B b)/\(b=true->ph m/\l.length<=30):=by
 obtain ⟨b,hr,hb⟩:=r7 hm
 obtain ⟨y,rfl,hy⟩:=hm
 cases b with
 | false =>
  refine ⟨false,?_,nofun⟩
  refine ap.of (f15_MR _ _) ?_
  unfold f15_M
  exact aa.chk rfl (aa.call hr (aa.chk rfl (aa.ite rfl nofun fun _=>aa.ret)))
 | true =>
  refine ⟨decide ((l.length:Int)<=30),?_,fun h=>⟨hb rfl,by simp at h; omega⟩⟩
  refine ap.of (f15_MR _ _) ?_
  unfold f15_M
  exact aa.chk rfl (aa.call hr (aa.chk rfl (aa.ite rfl (fun _=>aa.tv hx.len (aa.tv rfl aa.ret)) nofun)))
end Go.Ab.T12
end
section
set_option maxRecDepth 10000
namespace Go.Ab
def mC (m:DMod) (f:DFrame) (n:Int):Prop :=
 ∃ u b,m.funcs[f.f.toNat]? = some u/\u.blocks[f.block.toNat]? = some b/\((f.at_=b.ins.length/\b.fin.kind=4/\b.fin.f=n)\/(¬ f.at_=b.ins.length/\∃ x,b.ins[f.at_.toNat]? = some x/\x.op=11/\x.f=n))
def l6 (m:DMod) (l:List DFrame) (k:Nat):Prop:=∀ f,l[k]? = some f->bO m f/\(0 < k->∀ g,l[k - 1]? = some g->mC m g f.f)
theorem xr {m:DMod} {l:List DFrame}:(∀ k,k < l.length->l6 m l k) ↔ eV m l:=by
 constructor
 ·intro h
  refine ⟨fun k f hf=>(h k (EG.1 hf).1 f hf).1,fun k f g hf hg=>?_⟩
  exact (h (k + 1) (EG.1 hg).1 g hg).2 (by omega) f (by simpa using hf)
 ·intro h k hk f hf
  refine ⟨h.1 k f hf,fun h0 g hg=>?_⟩
  exact h.2 (k - 1) g f hg (by rw [show k - 1 + 1=k by omega]; exact hf)
end Go.Ab
namespace Go.Ab.T12
open Go Go.Ab Go.Proofs
theorem Ch {q q':Option Bool} {e e':List TV} {m:DMod} {f:DFrame} {n:Int} (hm:RMod q e m) (hf:RFrame q' e' f) (hQ:bO m f) :
  ap prog 43 [.agg e,.agg e',I n] (B (tt (mC m f n))):=by
 obtain ⟨hf0,u,hu,hL,hb0,b,hb,ha0,ha1⟩:=hQ
 obtain ⟨y,rfl,hy⟩:=hm
 obtain ⟨g,rfl,hg,ho⟩:=hf
 obtain ⟨e,he,hr⟩:=hy.bv (k:=.i64) hf0 hu
 obtain ⟨bs,rfl,hbs,_⟩:=hr
 obtain ⟨eb,heb,hrb⟩:=hbs.bv (k:=.i64) hb0 hb
 obtain ⟨c,is,ga,rfl,hc,hdi,his,hga,hfo⟩:=hrb
 have same:∀ {P:Prop},((f.at_=b.ins.length/\b.fin.kind=4/\b.fin.f=n)\/(¬ f.at_=b.ins.length/\∃ x,b.ins[f.at_.toNat]? = some x/\x.op=11/\x.f=n) ↔ P)->(mC m f n ↔ P):=by
  intro P h
  rw [<- h]
  constructor
  ·rintro ⟨u',b',hu',hb',h⟩
   rw [hu] at hu'
   cases hu'
   rw [hb] at hb'
   cases hb'
   exact h
  ·exact fun h=>⟨u,b,hu,hb,h⟩
 refine ap.of (f43_MR _ _ _) ?_
 unfold f43_M
 refine aa.chk rfl (aa.chk rfl (aa.tvs he (aa.chk rfl (aa.tvs heb (aa.chk rfl (aa.tv (RL.len his) (aa.tv rfl (aa.ite rfl (fun h=>?_) fun h=>?_))))))))
 ·have h:f.at_ < (b.ins.length:Int):=by simpa [TV.cell,nth] using h
  have hlt:f.at_.toNat < b.ins.length:=by omega
  have hx:b.ins[f.at_.toNat]? = some b.ins[f.at_.toNat]:=EH hlt
  generalize b.ins[f.at_.toNat]=x at hx
  obtain ⟨ex,hex,hrx⟩:=his.bv (k:=.i64) ha0 hx
  obtain ⟨z,rfl,hz,hxo⟩:=hrx
  have hiff:mC m f n ↔ x.op=11/\x.f=n:=same (by
   constructor
   ·rintro (⟨h',_⟩ | ⟨_,x',hx',h'⟩)
    ·omega
    ·rw [hx] at hx'
     cases hx'
     exact h'
   ·exact fun h'=>.inr ⟨by omega,x,hx,h'⟩)
  rw [bZ hiff]
  refine aa.tvs hex (aa.chk rfl (aa.tv rfl (aa.ite rfl (fun h=>?_) fun h=>?_)))
  ·have h:x.op=11:=by simpa [nth] using h
   refine aa.tv rfl ?_
   apply dN
   simp [h]
  ·have h:¬ x.op=11:=by simpa [nth] using h
   exact bk fun h'=>h h'.1
 ·have h:¬ f.at_ < (b.ins.length:Int):=by simpa [TV.cell,nth] using h
  have hiff:mC m f n ↔ b.fin.kind=4/\b.fin.f=n:=same (by
   constructor
   ·rintro (⟨_,h'⟩ | ⟨h',_⟩)
    ·exact h'
    ·omega
   ·exact fun h'=>.inl ⟨by omega,h'⟩)
  rw [bZ hiff]
  refine aa.tv rfl (aa.ite rfl (fun h=>?_) fun h=>?_)
  ·have h:b.fin.kind=4:=by simpa [nth] using h
   refine aa.tv rfl ?_
   apply dN
   simp [h]
  ·have h:¬ b.fin.kind=4:=by simpa [nth] using h
   exact bk fun h'=>h h'.1
theorem Ef {q:Option Bool} {e e':List TV} {m:DMod} {s:DMach} (hm:RMod q e m) (hs:RMach e' s):ap prog 27 [.agg e,.agg e'] (B (tt (bB m/\cn m s))):=by
 have h8:=r8 hm
 have hm':=hm
 obtain ⟨y,rfl,hy⟩:=hm
 obtain ⟨g,i,v,rfl,hg,hi,hv,ho⟩:=hs
 refine ap.of (f27_MR _ _) ?_
 unfold f27_M
 refine aa.chk rfl (aa.chk rfl (aa.call h8 (aa.chk rfl (aa.tv rfl (aa.ite rfl (fun h=>?_) fun h=>?_)))))
 ·exact bk fun h'=>bX.1 (by simpa using h) h'.1
 have hM:bB m:=bu.1 (by simpa using h)
 refine aa.tv rfl (aa.ite rfl (fun h=>?_) fun h=>?_)
 ·have h:s.done < 0:=by simpa [TV.cell,nth,au] using h
  exact bk fun h'=>by have:=h'.2.1.1; omega
 have hd0:¬ s.done < 0:=by simpa [TV.cell,nth,au] using h
 refine aa.tv rfl (aa.ite rfl (fun h=>?_) fun h=>?_)
 ·have h:6 < s.done:=by simpa [TV.cell,nth,au] using h
  exact bk fun h'=>by have:=h'.2.1.2; omega
 have hd6:¬ 6 < s.done:=by simpa [TV.cell,nth,au] using h
 refine aa.tv (RL.len hg) (aa.tv rfl (aa.ite rfl (fun h=>?_) fun h=>?_))
 ·have h:32 < s.stack.length:=by simp at h; omega
  exact bk fun h'=>by have:=h'.2.2.1; omega
 have h32:¬ 32 < s.stack.length:=by simp at h; omega
 have key : (s.done = 0 → 0 < s.stack.length) → aa prog 27 (f27_0 y g (W (s.c 0)) (W (s.c 1)) (W (s.c 2)) (W (s.c 3)) (W (s.c 4)) (W (s.c 5)) (W (s.c 6)) (W (s.c 7)) (W (s.c 8)) (W (s.c 9)) (W (s.c 10)) (W (s.c 11)) (W (s.c 12)) (W (s.c 13)) (W (s.c 14)) (W (s.c 15)) i v (I s.done) (W s.value)) (B (tt (bB m ∧ cn m s))) := by
  intro h00
  have hiff:(bB m/\cn m s) ↔ ∀ k,k < s.stack.length->l6 m s.stack k:=by
   rw [xr]
   constructor
   ·exact fun h=>h.2.2.2.2
   ·exact fun h=>⟨hM,⟨by omega,by omega⟩,by omega,h00,h⟩
  rw [bZ hiff]
  unfold f27_0
  refine aa.tv (RL.len hg) (f27_1_J ?_)
  have loop:∀ d k,k + d=s.stack.length->(∀ j,j < k->l6 m s.stack j)->aa prog 27 (f27_1 g (I (s.stack.length:Int)) (I (k:Int)) y g (W (s.c 0)) (W (s.c 1)) (W (s.c 2)) (W (s.c 3)) (W (s.c 4)) (W (s.c 5)) (W (s.c 6)) (W (s.c 7)) (W (s.c 8)) (W (s.c 9)) (W (s.c 10)) (W (s.c 11)) (W (s.c 12)) (W (s.c 13)) (W (s.c 14)) (W (s.c 15)) i v (I s.done) (W s.value)) (B (tt (∀ k,k < s.stack.length->l6 m s.stack k))):=by
   intro d
   induction d with
   | zero =>
    intro k hk hall
    have hk:k=s.stack.length:=by omega
    subst hk
    unfold f27_1
    refine aa.tv rfl (aa.ite bg nofun fun _=>?_)
    exact yS hall
   | succ d ih =>
    intro k hk hall
    have hlt:k < s.stack.length:=by omega
    have hkf:s.stack[k]? = some s.stack[k]:=EH hlt
    generalize s.stack[k]=f at hkf
    obtain ⟨ef,hef,hrf⟩:=hg.idx (k:=.i64) hkf
    have hFR:=D9 hm' hrf
    obtain ⟨gr,rfl,hgr,hof⟩:=hrf
    have next:l6 m s.stack k->aa prog 27 (f27_1 g (I (s.stack.length:Int)) (I ((k + 1:Nat):Int)) y g (W (s.c 0)) (W (s.c 1)) (W (s.c 2)) (W (s.c 3)) (W (s.c 4)) (W (s.c 5)) (W (s.c 6)) (W (s.c 7)) (W (s.c 8)) (W (s.c 9)) (W (s.c 10)) (W (s.c 11)) (W (s.c 12)) (W (s.c 13)) (W (s.c 14)) (W (s.c 15)) i v (I s.done) (W s.value)) (B (tt (∀ k,k < s.stack.length->l6 m s.stack k))):=fun h=>ih (k + 1) (by omega) fun j hj=>by
     by_cases hjk:j < k
     ·exact hall j hjk
     ·have:j=k:=by omega
      subst this
      exact h
    unfold f27_1
    refine aa.tv rfl (aa.ite (a7 hlt) (fun _=>?_) nofun)
    refine aa.tvs hef (aa.chk rfl (aa.call hFR (aa.chk rfl (aa.tv rfl (aa.ite rfl (fun h=>?_) fun h=>?_)))))
    ·have h:¬ (bB m/\bO m f):=bX.1 (by simpa using h)
     exact bk fun h'=>h ⟨hM,(h' k hlt f hkf).1⟩
    have hFM:bB m/\bO m f:=bu.1 (by simpa using h)
    have hF:bO m f:=hFM.2
    refine aa.tv rfl (aa.ite rfl (fun h=>?_) fun h=>?_)
    ·have h0:0 < k:=by simp at h; omega
     have hpf:s.stack[k - 1]? = some s.stack[k - 1]:=EH (by omega)
     generalize s.stack[k - 1]=p at hpf
     obtain ⟨ep,hep,hrp⟩:=hg.idx (k:=.i64) hpf
     have hFp:=(hall (k - 1) (by omega) p hpf).1
     have hC:=Ch (n:=f.f) hm' hrp hFp
     obtain ⟨gp,rfl,hgp,hop⟩:=hrp
     refine aa.tv (dec h0 (by omega)) (aa.tvs hep (aa.chk rfl (aa.call hC (aa.chk rfl (aa.tv rfl (aa.ite rfl (fun h=>?_) fun h=>?_))))))
     ·have h:¬ mC m p f.f:=bX.1 (by simpa using h)
      exact bk fun h'=>h ((h' k hlt f hkf).2 h0 p hpf)
     ·have h:mC m p f.f:=bu.1 (by simpa using h)
      refine aa.tv (inc hlt hg.bnd) (f27_1_J (next fun f' hf'=>?_))
      rw [hkf] at hf'
      cases hf'
      refine ⟨hF,fun _ g' hg'=>?_⟩
      rw [hpf] at hg'
      cases hg'
      exact h
    ·have h0:k=0:=by simp at h; omega
     refine aa.tv (inc hlt hg.bnd) (f27_1_J (next fun f' hf'=>?_))
     rw [hkf] at hf'
     cases hf'
     exact ⟨hF,fun h=>by omega⟩
  exact loop s.stack.length 0 (by omega) fun j hj=>by omega
 refine aa.tv rfl (aa.ite rfl (fun h=>?_) fun h=>?_)
 ·have hd:s.done=0:=by simpa [TV.cell,nth,au] using h
  refine aa.tv (RL.len hg) (aa.tv rfl (aa.ite rfl (fun h=>?_) fun h=>?_))
  ·have h:s.stack.length=0:=by simp at h; simp [h]
   exact bk fun h'=>by have:=h'.2.2.2.1 hd; omega
  ·exact f27_0_J (key fun _=>by
    have h:¬ s.stack.length=0:=by simp at h; simp [h]
    omega)
 ·have hd:¬ s.done=0:=by simpa [TV.cell,nth,au] using h
  exact f27_0_J (key fun h0=>absurd h0 hd)
end Go.Ab.T12
end
section
set_option maxRecDepth 10000
namespace Go.Ab
def gX (e:List TV) (s:DMach):Prop:=∃ g i v,e=au s g i v/\RL (some true) 5 (RFrame (some true)) g s.stack/\RWords (some true) i s.inputs/\RInts (some true) v s.events/\s.ok
theorem xk {s:DMach} {g i v:TV} (h1:isOwn g=true) (h2:isOwn i=true) (h3:isOwn v=true):isOwn (.agg (au s g i v))=true:=by
 simp [isOwn,bm,au,h1,h2,h3]
end Go.Ab
namespace Go.Ab.T12
open Go Go.Ab Go.Proofs
theorem rOwnF {α:Type} {q:Option Bool} {R:List TV->α->Prop} {x:TV} {l:List α} (hx:RL q 5 R x l) (hl:l.length<=4294967296):∃ y,ap prog 44 [x] y/\RL (some true) 5 R y l:=by
 obtain ⟨xs,hxs,_⟩:=hx.elems
 obtain ⟨y,hy,hr⟩:=sU hx [.lit (.int .i64 0),.lit (.int .i64 0),.lit (.int .i64 0),.lit (.slice none 0 0),.lit (.int .u16 0)] hxs
 have hn:=bh (k:=l.length) (by omega)
 have hle:(Nat.ble l.length 4294967296)=true:=by simpa using hl
 have hle':(Nat.ble l.length l.length)=true:=by simp
 rcases hx with ⟨rfl,rfl⟩ | ⟨o,ys,rfl,hq,h,hb⟩
 ·refine ⟨.lit aV,?_,.nil⟩
  refine ap.of (f44_MR _) ?_
  unfold f44_M
  exact aa.tv rfl (aa.ite rfl (fun _=>aa.ret) nofun)
 ·refine ⟨y,?_,hr⟩
  refine ap.of (f44_MR _) ?_
  unfold f44_M
  refine aa.tv rfl (aa.ite rfl nofun fun _=>?_)
  refine aa.tv (v:=I l.length) (by simp [plen,h.length]) (aa.nat hn (aa.nat hn (aa.chk (by rw [hle,hle']; rfl) (aa.rws hxs (aa.tv hy (aa.nat rfl aa.ret))))))
theorem rMCopy {e:List TV} {s:DMach} (hs:RMach e s) (h1:s.stack.length<=4294967296) (h2:∀ (k:Nat) f,s.stack[k]? = some f->f.regs.length<=4294967296) (h3:s.inputs.length<=4294967296) (h4:s.events.length<=4294967296) :
  ∃ e2,ap prog 28 [.agg e] (.agg e2)/\gX e2 s:=by
 obtain ⟨g,i,v,rfl,hg,hi,hv,ho⟩:=hs
 obtain ⟨g',hrg,hg'⟩:=rOwnF hg h1
 obtain ⟨i',hri,hi'⟩:=r39 hi h3
 obtain ⟨v',hrv,hv'⟩:=r41 hv h4
 have loop:∀ d k w,k + d=s.stack.length->RP 5 (fun j e x=>RFrame (if j < k then some true else none) e x) w s.stack->∃ w',aa prog 28 (f28_0 (I s.stack.length) (I k) (W (s.c 0)) (W (s.c 1)) (W (s.c 2)) (W (s.c 3)) (W (s.c 4)) (W (s.c 5)) (W (s.c 6)) (W (s.c 7)) (W (s.c 8)) (W (s.c 9)) (W (s.c 10)) (W (s.c 11)) (W (s.c 12)) (W (s.c 13)) (W (s.c 14)) (W (s.c 15)) i v (I s.done) (W s.value) w) (.agg (au s w' i' v'))/\RL (some true) 5 (RFrame (some true)) w' s.stack:=by
  intro d
  induction d with
  | zero =>
   intro k w hk hw
   have hk:k=s.stack.length:=by omega
   subst hk
   have hw':RL (some true) 5 (RFrame (some true)) w s.stack:=hw.toRL fun i e a hi h=>by simpa [hi] using h
   refine ⟨w,?_,hw'⟩
   unfold f28_0
   refine aa.tv rfl (aa.ite bg nofun fun _=>?_)
   refine f28_1_J ?_
   unfold f28_1
   refine aa.call hri (aa.chk ?_ (aa.call hrv (aa.chk ?_ (aa.chk ?_ aa.ret))))
   ·simp [ab,zSl,aI,hi'.isSl]
   ·simp [ab,zSl,aI,hv'.isSl]
   ·exact xk (hw'.own fun _ _ h=>h.own) (hi'.own fun _ _ h=>h.own) (hv'.own fun _ _ h=>h.own)
  | succ d ih =>
   intro k w hk hw
   have hkb:k < s.stack.length:=by omega
   have ha:s.stack[k]? = some s.stack[k]:=EH hkb
   have hl:=h2 k _ ha
   generalize s.stack[k]=u at ha hl
   obtain ⟨e,he,hr,hget,hset⟩:=hw.row ha
   simp only [Nat.lt_irrefl,if_false] at hr
   obtain ⟨z,rfl,hz,hok⟩:=hr
   obtain ⟨z',h39z,hz'⟩:=r39 (hz.frz (S:=RW1) fun _ _ h=>h.frz) hl
   have hw2:=hw.set (S:=fun j e x=>RFrame (if j < k + 1 then some true else none) e x) ha (e:=[I u.f,I u.block,I u.at_,z',W u.fly]) (by simp; exact ⟨z',rfl,hz',hok⟩) (fun j e c hj h=>by
    by_cases hjk:j < k
    ·simpa [hjk,show j < k + 1 by omega] using h
    ·simpa [hjk,show ¬ j < k + 1 by omega] using h)
   obtain ⟨w',hw',hrl⟩:=ih (k + 1) _ (by omega) hw2
   refine ⟨w',?_,hrl⟩
   have hb:=hg.bnd
   have hlt:(Nat.blt k s.stack.length)=true:=by simpa using hkb
   unfold f28_0
   refine aa.tv rfl (aa.ite (a7 hkb) (fun _=>?_) nofun)
   refine aa.nat hw.slLen (aa.nat (bh (by omega)) (aa.chk (by rw [hw.slSize,hlt]; rfl) (aa.tvs he (aa.chk (by simp [ab,zSl,aI,hz.isSl]) (aa.tv (hget 3 z rfl) (aa.call h39z (aa.chk (by simp [ab,zSl,aI,hz'.isSl]) ?_)))))))
   refine aa.nat hw.slLen (aa.nat (bh (by omega)) (aa.chk (by rw [hw.slSize,hlt]; rfl) (aa.tvs he (aa.chk (by simp [ab,bP,zSl,aI,hz.isSl,hz'.isSl]) (aa.tv (hset 3 [z']) (aa.tv (inc hkb hb) (f28_0_J hw')))))))
 obtain ⟨w',hw',hrl⟩:=loop s.stack.length 0 g' (by omega) (hg'.toRP fun i e a h=>by simpa using h)
 refine ⟨_,?_,⟨w',i',v',rfl,hrl,hi',hv',ho⟩⟩
 refine ap.of (f28_MR _) ?_
 unfold f28_M
 exact aa.chk rfl (aa.call hrg (aa.chk (by simp [ab,zSl,aI,hg'.isSl]) (aa.tv hg'.len (f28_0_J hw'))))
end Go.Ab.T12
end
section
set_option maxRecDepth 10000
namespace Go.Ab
abbrev RStack (g:TV) (l:List DFrame):Prop:=RL (some true) 5 (RFrame (some true)) g l
section
variable {g:TV} {l:List DFrame} {k:Nat} {f:DFrame}
theorem RStack.at_ (hg:RStack g l) (hk:l[k]? = some f):∃ xs gr,g=.sl true 5 xs/\xs[k]? = some [I f.f,I f.block,I f.at_,gr,W f.fly]/\F2 (RFrame (some true)) xs l/\xs.length<=9223372036854775807/\RWords (some true) gr f.regs/\f.ok:=by
 rcases hg with ⟨rfl,rfl⟩ | ⟨o,xs,rfl,hq,h,hb⟩
 ·simp at hk
 ·have:o=true:=hq true rfl
  subst this
  obtain ⟨e,he,gr,rfl,hgr,ho⟩:=h.get hk
  exact ⟨xs,gr,rfl,he,h,hb,hgr,ho⟩
theorem RStack.row (hg:RStack g l) (hk:l[k]? = some f):∃ gr,pel g k=some [I f.f,I f.block,I f.at_,gr,W f.fly]/\aG [(k,3)] g=some gr/\RWords (some true) gr f.regs/\f.ok:=by
 obtain ⟨xs,gr,rfl,hx,_,_,hgr,ho⟩:=hg.at_ hk
 exact ⟨gr,hx,qj (x:=.sl true 5 xs) hx rfl,hgr,ho⟩
theorem RStack.all (hg:RStack g l) (hk:l[k]? = some f) {e':List TV} {f':DFrame} (h:RFrame (some true) e' f'):∃ g',bj [] g k 0 e'=some g'/\RStack g' (l.set k f'):=by
 obtain ⟨xs,gr,rfl,hx,hF,hb,hgr,ho⟩:=hg.at_ hk
 obtain ⟨gr',rfl,hgr',ho'⟩:=id h
 refine ⟨.sl true 5 (ao xs k [I f'.f,I f'.block,I f'.at_,gr',W f'.fly]),?_,.sl (by simp) (hF.set h) (by rw [dV]; exact hb)⟩
 simp only [bj,aG,mu,hx,iV,bi]
 rfl
theorem RStack.mz (hg:RStack g l) (hk:l[k]? = some f) {n:Int} (hn:inI n):∃ g',bj [] g k 2 [I n]=some g'/\RStack g' (l.set k { f with at_:=n }):=by
 obtain ⟨xs,gr,rfl,hx,hF,hb,hgr,ho⟩:=hg.at_ hk
 have hR:RFrame (some true) [I f.f,I f.block,I n,gr,W f.fly] { f with at_:=n }:=⟨gr,rfl,hgr,ho.1,ho.2.1,hn,ho.2.2.2⟩
 refine ⟨.sl true 5 (ao xs k [I f.f,I f.block,I n,gr,W f.fly]),?_,.sl (by simp) (hF.set hR) (by rw [dV]; exact hb)⟩
 simp only [bj,aG,mu,hx,iV,bi]
 rfl
theorem RStack.Di (hg:RStack g l) (hk:l[k]? = some f) {w:Int} (hw:inW w):∃ g',bj [] g k 4 [W w]=some g'/\RStack g' (l.set k { f with fly:=w }):=by
 obtain ⟨xs,gr,rfl,hx,hF,hb,hgr,ho⟩:=hg.at_ hk
 have hR:RFrame (some true) [I f.f,I f.block,I f.at_,gr,W w] { f with fly:=w }:=⟨gr,rfl,hgr,ho.1,ho.2.1,ho.2.2.1,hw⟩
 refine ⟨.sl true 5 (ao xs k [I f.f,I f.block,I f.at_,gr,W w]),?_,.sl (by simp) (hF.set hR) (by rw [dV]; exact hb)⟩
 simp only [bj,aG,mu,hx,iV,bi]
 rfl
theorem RStack.put (hg:RStack g l) (hk:l[k]? = some f) {n:Nat} {w:Int} (hn:n < f.regs.length) (hw:inW w):∃ g',bj [(k,3)] g n 0 [W w]=some g'/\RStack g' (l.set k { f with regs:=f.regs.set n w }):=by
 obtain ⟨xs,gr,rfl,hx,hF,hb,hgr,ho⟩:=hg.at_ hk
 obtain ⟨a,v',hpe,hs,hrl⟩:=RWords.put hgr hn hw
 have hR:RFrame (some true) [I f.f,I f.block,I f.at_,v',W f.fly] { f with regs:=f.regs.set n w }:=⟨v',rfl,hrl,ho⟩
 refine ⟨.sl true 5 (ao xs k [I f.f,I f.block,I f.at_,v',W f.fly]),?_,.sl (by simp) (hF.set hR) (by rw [dV]; exact hb)⟩
 have hse:mu gr n 0 [W w]=some v':=by
  simp only [bj,aG,iV] at hs
  cases h:mu gr n 0 [W w] with
  | none=>rw [h] at hs; cases hs
  | some u=>rw [h] at hs; simpa using hs
 have hgp:aG [(k,3)] (.sl true 5 xs)=some gr:=qj (x:=.sl true 5 xs) hx rfl
 simp only [bj,hgp,hse]
 simp only [iV,hx]
 rfl
theorem RStack.win (hg:RStack g l) {n:Nat} (hn:n<=l.length):∃ g',dF 0 n g=some g'/\RStack g' (l.take n):=by
 rcases hg with ⟨rfl,rfl⟩ | ⟨o,xs,rfl,hq,h,hb⟩
 ·have:n=0:=by simpa using hn
  subst this
  exact ⟨_,rfl,.nil⟩
 ·have hl:=h.length
  refine ⟨.sl o 5 (xs.take n),?_,.sl hq (h.take n) (by simp; omega)⟩
  simp only [dF]
  rw [if_pos (by omega)]
  rfl
theorem RWords.win {q:Option Bool} {x:TV} {l:List Int} (hx:RWords q x l) {lo n:Nat} (hn:lo + n<=l.length):∃ y,dF lo n x=some y/\RWords q y ((l.drop lo).take n):=by
 rcases hx with ⟨rfl,rfl⟩ | ⟨o,xs,rfl,hq,h,hb⟩
 ·simp at hn
  obtain ⟨rfl,rfl⟩:=hn
  exact ⟨_,rfl,.nil⟩
 ·have hl:=h.length
  refine ⟨.sl o 1 ((xs.drop lo).take n),?_,.sl hq ((h.drop lo).take n) (by simp; omega)⟩
  simp only [dF]
  rw [if_pos (by omega)]
end
theorem jO {α:Type} {l:List α} {a:α} (h:0 < l.length):l.set (l.length - 1) a=l.take (l.length - 1) ++ [a]:=by
 apply List.ext_getElem?
 intro i
 rw [List.getElem?_set]
 by_cases hi:i < l.length - 1
 ·rw [EQ (by simp; omega),List.getElem?_take,if_pos hi,if_neg (by omega)]
 ·rw [ER (by simp; omega)]
  by_cases he:l.length - 1=i
  ·subst he
   simp; omega
  ·rw [if_neg he,ES (by omega),ES (by simp; omega)]
theorem dj {α:Type} {l:List α} {k:Nat} {a b:α}:(l.set k a).set k b=l.set k b:=List.set_set ..
theorem lv {α:Type} {l:List α} {k:Nat} {a b:α} (h:l[k]? = some a):(l.set k b)[k]? = some b:=by
 have:=(EG.1 h).1
 simp [List.getElem?_set,this]
end Go.Ab
end

import Derived.Test.YtpkpckdealhkhaaCC14F4
import Derived.OpenShut
set_option linter.all false
section
set_option maxRecDepth 10000
namespace Go.Ab
theorem RL.slice {α:Type} {q:Option Bool} {s:Nat} {R:List TV->α->Prop} {x:TV} {l:List α} (h:RL q s R x l) {t:TypeId} {lo hi:Option Nat} (h1:lo.getD 0<=hi.getD l.length) (h2:hi.getD l.length<=l.length) :
  ∃ y,pslice (.slice t) s x lo hi=some y/\RL q s R y ((l.drop (lo.getD 0)).take (hi.getD l.length - lo.getD 0)):=by
 rcases h with ⟨rfl,rfl⟩ | ⟨o,xs,rfl,hq,h,hb⟩
 ·simp at h1 h2
  refine ⟨_,?_,by simpa using RL.nil⟩
  have h3:lo.getD 0=0:=by omega
  simp only [pslice,bm,h2,h3,and_self,if_true]
 ·have hl:=h.length
  refine ⟨.sl o s ((xs.drop (lo.getD 0)).take (hi.getD xs.length - lo.getD 0)),?_,?_⟩
  ·rw [<- hl] at h1 h2
   simp only [pslice,h1,h2,and_self,if_true]
  ·rw [<- hl]
   exact .sl hq ((h.drop _).take _) (by simp; omega)
theorem aR {k:Nat} (h:k<=9223372036854775807):aK (I (k:Int))=some k:=by
 simp [aK]; omega
def vY (l:List Int):Prop:=∀ i,i < l.length->∀ a,l[i]? = some a->a ∉ l.take i
def yN (landing:Bool) (regs:Int) (p:DPad):Prop:=(landing=false->p.dst=0/\p.catches=[]/\p.all=false/\p.cleanup=false) /\
 (landing=true->within p.dst regs/\p.catches.length<=8/\vY p.catches/\(p.catches≠[]\/p.all=true\/p.cleanup=true))
end Go.Ab
namespace Go.Ab.C14
open Go Go.Ab Go.Proofs
theorem r59 {q:Option Bool} {x:TV} {l:List Int} {w:Int} (hx:RWords q x l):∃ n,aw prog 88 [x,W w] (I n)/\(0<=n ↔ w ∈ l):=by
 have loop : ∀ d k, k + d = l.length → ∃ n, aa prog 88 (f88_0 x (W w) (I l.length) (I k)) (I n) ∧ (0 ≤ n ↔ ∃ i, k ≤ i ∧ l[i]? = some w) := by
  intro d
  induction d with
  | zero =>
   intro k hk
   have hk:k=l.length:=by omega
   subst hk
   refine ⟨-1,?_,?_⟩
   ·unfold f88_0
    refine aa.tv rfl (aa.ite aV nofun fun _=>?_)
    exact aa.ret
   ·simp only [show ¬ (0:Int)<=-1 by omega,false_iff,not_exists,not_and]
    intro i hi
    rw [Cj hi]; simp
  | succ d ih =>
   intro k hk
   have hk':k < l.length:=by omega
   have ha:l[k]? = some l[k]:=B8 hk'
   obtain ⟨e,he,rfl,_⟩:=hx.idx (k:=.i64) ha
   obtain ⟨n,hn,hiff⟩:=ih (k + 1) (by omega)
   by_cases hw:w=l[k]
   ·refine ⟨(k:Int),?_,?_⟩
    ·unfold f88_0
     refine aa.tv rfl (aa.ite (be hk') (fun _=>?_) nofun)
     refine aa.tvs he (aa.chk rfl (aa.tv rfl (aa.ite rfl (fun h=>aa.ret) fun h=>?_)))
     simp at h; exact absurd hw h
    ·constructor
     ·intro _; exact ⟨k,Nat.le_refl _,by rw [ha,hw]⟩
     ·intro _; omega
   ·refine ⟨n,?_,?_⟩
    ·unfold f88_0
     refine aa.tv rfl (aa.ite (be hk') (fun _=>?_) nofun)
     refine aa.tvs he (aa.chk rfl (aa.tv rfl (aa.ite rfl (fun h=>?_) fun h=>?_)))
     ·simp at h; exact absurd h hw
     ·refine aa.tv (inc hk' hx.bnd) (f88_0_J hn)
    ·rw [hiff]
     constructor
     ·rintro ⟨i,hi,h⟩; exact ⟨i,by omega,h⟩
     ·rintro ⟨i,hi,h⟩
      refine ⟨i,?_,h⟩
      by_cases hik:i=k
      ·subst hik; rw [ha] at h; simp at h; exact absurd h.symm hw
      ·omega
 obtain ⟨n,hn,hiff⟩:=loop l.length 0 (by omega)
 refine ⟨n,?_,?_⟩
 ·refine aw.of (f88_MR _ _) ?_
  unfold f88_M
  exact aa.tv hx.len (f88_0_J hn)
 ·rw [hiff,List.mem_iff_getElem?]
  simp
theorem r56 {q:Option Bool} {x:TV} {l:List Int} {w:Int} (hx:RWords q x l):aw prog 84 [x,W w] (B (tt (w ∈ l))):=by
 obtain ⟨n,hn,hiff⟩:=r59 (w:=w) hx
 refine aw.of (f84_MR _ _) ?_
 unfold f84_M
 repeat' (first
  | refine aa.chk rfl ?_
  | refine aa.tv rfl ?_
  | refine aa.tv (RL.len (by assumption)) ?_
  | refine aa.nat rfl ?_
  | refine aa.ite rfl (fun _=>?_) (fun _=>?_)
  | refine aa.call (by assumption) ?_
  | refine aa.tvs (by assumption) ?_)
 apply dO
 simp [hiff]
theorem r48 {q:Option Bool} {x:TV} {l:List Int} (hx:RWords q x l):aw prog 73 [x] (B (tt (vY l))):=by
 refine aw.of (f73_MR _) ?_
 unfold f73_M
 refine aa.tv hx.len (f73_0_J ?_)
 refine fg (g:=fun k=>f73_0 x x (I l.length) (I k)) ?_ ?_
 ·unfold f73_0
  refine aa.tv rfl (aa.ite aV nofun fun _=>?_)
  exact aa.ret
 ·intro k hk r h1 h2
  have ha:l[k]? = some l[k]:=B8 hk
  obtain ⟨e,he,rfl,_⟩:=hx.idx (k:=.i64) ha
  obtain ⟨y,hy,hry⟩:=hx.slice (t:=53) (lo:=none) (hi:=some k) (by simp) (by simp; omega)
  have hry':RWords q y (l.take k):=by simpa using hry
  unfold f73_0
  refine aa.tv rfl (aa.ite (be hk) (fun _=>?_) nofun)
  have hb:=hx.bnd
  refine aa.tvs he (aa.chk rfl (aa.nat (aR (by omega)) (aa.tv hy (aa.call (r56 hry') (aa.chk rfl (aa.ite rfl (fun h=>?_) fun h=>?_))))))
  ·rw [h1 (by simp [ha]; simpa [dz] using h)]; exact aa.ret
  ·refine aa.tv (inc hk hx.bnd) (f73_0_J (h2 ?_))
   simp [ha]; simpa [eN] using h
theorem r32 {q:Option Bool} {fs bs:TV} {e:List TV} {p regs:Int} {a:DPad} {landing:Bool} (he:RPad q e a):aw prog 60 [.agg [fs,I p,I regs,bs],B landing,.agg e] (B (tt (yN landing regs a))):=by
  obtain ⟨x,rfl,hx,_⟩:=he
  have h48:=r48 hx
  cases landing
  · refine aw.of (f60_MR _ _ _) ?_
    unfold f60_M
    repeat' (first
      | refine aa.chk rfl ?_
      | refine aa.tv rfl ?_
      | refine aa.tv (RL.len (by assumption)) ?_
      | refine aa.nat rfl ?_
      | refine aa.ite (v:=true) rfl (fun _=>?_) nofun
      | refine aa.ite (v:=false) rfl nofun (fun _=>?_)
      | refine aa.ite rfl (fun _=>?_) (fun _=>?_)
      | refine aa.call (by assumption) ?_
      | refine aa.tvs (by assumption) ?_
       )
    all_goals (apply dO; simp_all [yN])
  · refine aw.of (f60_MR _ _ _) ?_
    unfold f60_M
    repeat' (first
      | refine aa.chk rfl ?_
      | refine aa.tv rfl ?_
      | refine aa.tv (RL.len (by assumption)) ?_
      | refine aa.nat rfl ?_
      | refine aa.ite (v:=true) rfl (fun _=>?_) nofun
      | refine aa.ite (v:=false) rfl nofun (fun _=>?_)
      | refine aa.ite rfl (fun _=>?_) (fun _=>?_)
      | refine aa.call (by assumption) ?_
      | refine aa.tvs (by assumption) ?_
      | refine aa.call r47 ?_)
    all_goals (apply dO; simp_all [yN,dz,eN,o9,List.length_pos_iff] <;> omega)
def pn (fs:List DFunc) (regs:Int) (bs:List DBlock) (b:DBlock):Prop:=b.ins.length<=64/\yN b.landing regs b.pad/\(∀ i,i < b.ins.length->∀ x,b.ins[i]? = some x->yU fs regs x)/\zW fs regs bs b.fin
def wK (fs:List DFunc) (f:DFunc):Prop:=(0<=f.params/\f.params<=8/\f.params<=f.regs/\f.regs<=256)/\f.blocks.length<=64/\(∃ b,f.blocks[0]? = some b/\b.landing=false)/\∀ i,i < f.blocks.length->∀ b,f.blocks[i]? = some b->pn fs f.regs f.blocks b
def qJ (m:DMod):Prop:=m.funcs.length<=16/\(∃ f,m.funcs[0]? = some f/\f.params=0)/\∀ i,i < m.funcs.length->∀ f,m.funcs[i]? = some f->wK m.funcs f
theorem r19 {q q' q2:Option Bool} {x y:TV} {e:List TV} {fs:List DFunc} {bs:List DBlock} {p regs:Int} {b:DBlock} (hx:RL q 3 (RFunc q) x fs) (hy:RL q2 14 (RBlock q2) y bs) (he:RBlock q' e b) :
  aw prog 49 [.agg [x,I p,I regs,y],.agg e] (B (tt (pn fs regs bs b))):=by
 obtain ⟨c,i,g,rfl,hc,hd,hi,hg,ho⟩:=he
 have h32:aw prog 60 [.agg [x,I p,I regs,y],B b.landing,.agg [I b.pad.dst,c,B b.pad.all,B b.pad.cleanup]] (B (tt (yN b.landing regs b.pad))):=r32 (q:=q') ⟨c,rfl,hc,hd⟩
 have h34:aw prog 62 [.agg [x,I p,I regs,y],.agg [I b.fin.kind,I b.fin.a,I b.fin.dst,I b.fin.f,g,I b.fin.to,I b.fin.els,I b.fin.pad]] (B (tt (zW fs regs bs b.fin))):=r34 (q':=q') hx hy ⟨g,rfl,hg,ho⟩
 refine aw.of (f49_MR _ _) ?_
 unfold f49_M
 refine aa.chk rfl (aa.chk rfl (aa.tv hi.len (aa.tv rfl (aa.ite rfl (fun h=>?_) fun h0=>?_))))
 ·simp at h
  exact bg fun h'=>by have:=h'.1; omega
 ·refine aa.call h32 (aa.chk rfl (aa.tv rfl (aa.ite rfl (fun h=>?_) fun h=>?_)))
  ·simp [eN] at h
   exact bg fun h'=>h h'.2.1
  ·simp [dz] at h h0
   refine aa.tv hi.len (f49_0_J ?_)
   rw [show tt (pn fs regs bs b)=tt (ef 0 b.ins.length (fun i=>∀ x,b.ins[i]? = some x->yU fs regs x)/\zW fs regs bs b.fin) from bD (by
    rw [eh]
    exact ⟨fun h=>h.2.2,fun h'=>⟨by omega,h,h'⟩⟩)]
   refine wM (g:=fun k=>f49_0 i (I b.ins.length) (I k) x (I p) (I regs) y (B b.landing) (I b.pad.dst) c (B b.pad.all) (B b.pad.cleanup) i (I b.fin.kind) (I b.fin.a) (I b.fin.dst) (I b.fin.f) g (I b.fin.to) (I b.fin.els) (I b.fin.pad)) ?_ ?_ b.ins.length 0 (by omega)
   ·unfold f49_0
    refine aa.tv rfl (aa.ite aV nofun fun _=>?_)
    refine f49_1_J ?_
    unfold f49_1
    exact aa.call h34 (aa.chk rfl aa.ret)
   ·intro k hk r h1 h2
    have ha:b.ins[k]? = some b.ins[k]:=B8 hk
    obtain ⟨e,he,hr⟩:=hi.idx (k:=.i64) ha
    have h33:aw prog 61 [.agg [x,I p,I regs,y],.agg e] (B (tt (yU fs regs b.ins[k]))):=r33 hx hr
    obtain ⟨_,rfl,_⟩:=hr
    unfold f49_0
    refine aa.tv rfl (aa.ite (be hk) (fun _=>?_) nofun)
    refine aa.tvs he (aa.chk rfl (aa.call h33 (aa.chk rfl (aa.tv rfl (aa.ite rfl (fun h=>?_) fun h=>?_)))))
    ·rw [h1 (by simp [ha]; simpa [eN] using h)]; exact aa.ret
    ·refine aa.tv (inc hk hi.bnd) (f49_0_J (h2 ?_))
     simp [ha]; simpa [dz] using h
theorem r10 {q q':Option Bool} {e e':List TV} {m:DMod} {f:DFunc} (hm:RMod q e m) (hf:RFunc q' e' f):aw prog 32 [.agg e,.agg e'] (B (tt (wK m.funcs f))):=by
 obtain ⟨x,rfl,hx⟩:=hm
 obtain ⟨y,rfl,hy,_⟩:=hf
 refine aw.of (f32_MR _ _) ?_
 unfold f32_M
 refine aa.chk rfl (aa.chk rfl (aa.tv rfl (aa.ite rfl (fun h=>?_) fun g1=>?_)))
 ·simp at h; exact bg fun h'=>by have:=h'.1; omega
 refine aa.tv rfl (aa.ite rfl (fun h=>?_) fun g2=>?_)
 ·simp at h; exact bg fun h'=>by have:=h'.1; omega
 refine aa.tv rfl (aa.ite rfl (fun h=>?_) fun g3=>?_)
 ·simp at h; exact bg fun h'=>by have:=h'.1; omega
 refine aa.tv rfl (aa.ite rfl (fun h=>?_) fun g4=>?_)
 ·simp at h; exact bg fun h'=>by have:=h'.1; omega
 refine aa.tv hy.len (aa.tv rfl (aa.ite rfl (fun h=>?_) fun g5=>?_))
 ·simp at h
  refine bg ?_
  rintro ⟨_,_,⟨b,hb,_⟩,_⟩
  have:=(B7.1 hb).1
  omega
 refine aa.tv hy.len (aa.tv rfl (aa.ite rfl (fun h=>?_) fun g6=>?_))
 ·simp at h; exact bg fun h'=>by have:=h'.2.1; omega
 simp at g1 g2 g3 g4 g5 g6
 have hpos:0 < f.blocks.length:=by omega
 have hb0:f.blocks[0]? = some f.blocks[0]:=B8 hpos
 obtain ⟨e0,he0,hr0⟩:=hy.idx (k:=.i64) hb0
 obtain ⟨_,_,_,rfl,_⟩:=hr0
 refine aa.tvs he0 (aa.chk rfl (aa.ite rfl (fun h=>?_) fun g7=>?_))
 ·refine bg ?_
  rintro ⟨_,_,⟨b,hb,hl⟩,_⟩
  rw [hb0] at hb
  simp at hb
  subst hb
  rw [hl] at h
  cases h
 refine aa.tv hy.len (f32_0_J ?_)
 rw [show tt (wK m.funcs f)=tt (∀ i,i < f.blocks.length->∀ b,f.blocks[i]? = some b->pn m.funcs f.regs f.blocks b) from bD
  ⟨fun h=>h.2.2.2,fun h=>⟨⟨by omega,by omega,by omega,by omega⟩,by omega,⟨_,hb0,g7⟩,h⟩⟩]
 refine fg (g:=fun k=>f32_0 y (I f.blocks.length) (I k) x (I f.params) (I f.regs) y) ?_ ?_
 ·unfold f32_0
  refine aa.tv rfl (aa.ite aV nofun fun _=>?_)
  exact aa.ret
 ·intro k hk r h1 h2
  have ha:f.blocks[k]? = some f.blocks[k]:=B8 hk
  obtain ⟨e,he,hr⟩:=hy.idx (k:=.i64) ha
  have h19:aw prog 49 [.agg [x,I f.params,I f.regs,y],.agg e] (B (tt (pn m.funcs f.regs f.blocks f.blocks[k]))):=r19 hx hy hr
  obtain ⟨_,_,_,rfl,_⟩:=hr
  unfold f32_0
  refine aa.tv rfl (aa.ite (be hk) (fun _=>?_) nofun)
  refine aa.tvs he (aa.chk rfl (aa.call h19 (aa.chk rfl (aa.tv rfl (aa.ite rfl (fun h=>?_) fun h=>?_)))))
  ·rw [h1 (by simp [ha]; simpa [eN] using h)]; exact aa.ret
  ·refine aa.tv (inc hk hy.bnd) (f32_0_J (h2 ?_))
   simp [ha]; simpa [dz] using h
theorem r8 {q:Option Bool} {e:List TV} {m:DMod} (hm:RMod q e m):aw prog 16 [.agg e] (B (tt (qJ m))):=by
 have hm':=hm
 obtain ⟨x,rfl,hx⟩:=hm
 refine aw.of (f16_MR _) ?_
 unfold f16_M
 refine aa.chk rfl (aa.tv hx.len (aa.tv rfl (aa.ite rfl (fun h=>?_) fun g1=>?_)))
 ·simp at h
  refine bg ?_
  rintro ⟨_,⟨b,hb,_⟩,_⟩
  have:=(B7.1 hb).1
  omega
 refine aa.tv hx.len (aa.tv rfl (aa.ite rfl (fun h=>?_) fun g2=>?_))
 ·simp at h; exact bg fun h'=>by have:=h'.1; omega
 simp at g1 g2
 have hpos:0 < m.funcs.length:=by omega
 have hb0:m.funcs[0]? = some m.funcs[0]:=B8 hpos
 obtain ⟨e0,he0,hr0⟩:=hx.idx (k:=.i64) hb0
 obtain ⟨_,rfl,_⟩:=hr0
 refine aa.tvs he0 (aa.chk rfl (aa.tv rfl (aa.ite rfl (fun h=>?_) fun g7=>?_)))
 ·refine bg ?_
  rintro ⟨_,⟨b,hb,hl⟩,_⟩
  rw [hb0] at hb
  simp at hb
  subst hb
  rw [hl] at h
  simp at h
 simp at g7
 refine aa.tv hx.len (f16_0_J ?_)
 rw [show tt (qJ m)=tt (∀ i,i < m.funcs.length->∀ f,m.funcs[i]? = some f->wK m.funcs f) from bD ⟨fun h=>h.2.2,fun h=>⟨by omega,⟨_,hb0,g7⟩,h⟩⟩]
 refine fg (g:=fun k=>f16_0 x (I m.funcs.length) (I k) x) ?_ ?_
 ·unfold f16_0
  refine aa.tv rfl (aa.ite aV nofun fun _=>?_)
  exact aa.ret
 ·intro k hk r h1 h2
  have ha:m.funcs[k]? = some m.funcs[k]:=B8 hk
  obtain ⟨e,he,hr⟩:=hx.idx (k:=.i64) ha
  have h10:=r10 hm' hr
  obtain ⟨_,rfl,_⟩:=hr
  unfold f16_0
  refine aa.tv rfl (aa.ite (be hk) (fun _=>?_) nofun)
  refine aa.tvs he (aa.chk rfl (aa.call h10 (aa.chk rfl (aa.tv rfl (aa.ite rfl (fun h=>?_) fun h=>?_)))))
  ·rw [h1 (by simp [ha]; simpa [eN] using h)]; exact aa.ret
  ·refine aa.tv (inc hk hx.bnd) (f16_0_J (h2 ?_))
   simp [ha]; simpa [dz] using h
end Go.Ab.C14
end
section
set_option maxRecDepth 10000
namespace Go.Ab
def vI (b:DBlock):Prop:=b.ins.length<=70/\b.pad.catches.length<=20/\b.fin.args.length<=20/\∀ i,i < b.ins.length->∀ x,b.ins[i]? = some x->x.args.length<=20
def zY (f:DFunc):Prop:=f.blocks.length<=70/\∀ i,i < f.blocks.length->∀ b,f.blocks[i]? = some b->vI b
def gP (m:DMod):Prop:=m.funcs.length<=20/\∀ i,i < m.funcs.length->∀ f,m.funcs[i]? = some f->zY f
def jU:TV->List (List TV)
 | .sl _ _ xs=>xs
 | _=>[]
theorem qE {β:Type} {l:List β} {i:Nat} {a:β} (h:l[i]? = some a):l.set i a=l:=by
 apply List.ext_getElem?
 intro j
 rw [List.getElem?_set]
 by_cases hj:i=j
 ·subst hj; have:=(B7.1 h).1; simp only [if_true,this]; rw [h]
 ·simp [hj]
def RP {α:Type} (s:Nat) (R:Nat->List TV->α->Prop) (x:TV) (l:List α):Prop :=
 (x=.lit bm/\l=[])\/∃ xs,x=.sl true s xs/\xs.length=l.length/\xs.length<=9223372036854775807/\∀ i e a,xs[i]? = some e->l[i]? = some a->R i e a
section
variable {α:Type} {s:Nat} {R S:Nat->List TV->α->Prop} {x:TV} {l:List α}
theorem bU {β:Type}:∀ (l:List β) (n:Nat) (b:β),(ai l n b).length=l.length
 | [],_,_=>rfl
 | _ :: _,0,_=>rfl
 | a :: l,n + 1,b=>by simp [ai,bU l n b]
theorem pI {β:Type}:∀ (l:List β) (n:Nat) (b:β) (i:Nat),n < l.length->(ai l n b)[i]? = if i=n then some b else l[i]?
 | [],_,_,_,h=>by simp at h
 | _ :: _,0,_,0,_=>rfl
 | _ :: _,0,_,i + 1,_=>by simp [ai]
 | a :: l,n + 1,b,0,_=>by simp [ai]
 | a :: l,n + 1,b,i + 1,h=>by
  have:=pI l n b i (by simpa using h)
  simp [ai,this]
theorem RP.slLen (h:RP s R x l):Go.Ab.slLen x=some l.length:=by
 rcases h with ⟨rfl,rfl⟩ | ⟨xs,rfl,hl,hb,h⟩
 ·rfl
 ·simp [Go.Ab.slLen,hl]
theorem RP.slSize (h:RP s R x l):Go.Ab.slSize x s=true:=by
 rcases h with ⟨rfl,rfl⟩ | ⟨xs,rfl,hl,hb,h⟩
 ·rfl
 ·simp [Go.Ab.slSize]
theorem RP.row (h:RP s R x l) {i:Nat} {a:α} (hi:l[i]? = some a):∃ e,Go.Ab.pel x i=some e/\R i e a/\(∀ j y,e[j]? = some y->aI [(i,j)] x=some y) /\
  ∀ j ys,gW [] x i j ys=some (.sl true s (ai (jU x) i (bj e j ys))):=by
 rcases h with ⟨rfl,rfl⟩ | ⟨xs,rfl,hl,hb,h⟩
 ·simp at hi
 ·have hlt:=(B7.1 hi).1
  have hx:xs[i]? = some (xs[i]'(by omega)):=B8 _
  refine ⟨_,hx,h i _ a hx hi,fun j y hy=>?_,fun j ys=>?_⟩
  ·simp only [aI,hx,hy]
  ·simp only [gW,aI,sq,hx,fK,jU]
theorem RP.setTo (h:RP s R x l) {i:Nat} {a b:α} (hi:l[i]? = some a) {e:List TV} (hS:S i e b) (hR:∀ j e c,j≠i->R j e c->S j e c):RP s S (.sl true s (ai (jU x) i e)) (l.set i b):=by
 rcases h with ⟨rfl,rfl⟩ | ⟨xs,rfl,hl,hb,h⟩
 ·simp at hi
 ·have hlt:=(B7.1 hi).1
  refine .inr ⟨_,rfl,by simp [bU,jU,hl],by simp [bU,jU,hb],fun j e' c hj hc=>?_⟩
  rw [pI _ _ _ _ (by simp only [jU]; omega)] at hj
  simp only [jU] at hj
  rw [List.getElem?_set] at hc
  by_cases hji:j=i
  ·subst hji
   simp [hlt] at hj hc
   subst hj hc
   exact hS
  ·rw [if_neg hji] at hj
   rw [if_neg (fun h=>hji h.symm)] at hc
   exact hR j _ _ hji (h j _ _ hj hc)
theorem RP.set (h:RP s R x l) {i:Nat} {a:α} (hi:l[i]? = some a) {e:List TV} (hS:S i e a) (hR:∀ j e c,j≠i->R j e c->S j e c):RP s S (.sl true s (ai (jU x) i e)) l:=by
 have:=RP.setTo h hi hS hR
 rwa [qE hi] at this
theorem RP.toRL {T:List TV->α->Prop} (h:RP s R x l) (hm:∀ i e a,i < l.length->R i e a->T e a):RL (some true) s T x l:=by
 rcases h with ⟨rfl,rfl⟩ | ⟨xs,rfl,hl,hb,h⟩
 ·exact .nil
 ·refine .sl (by simp) (F2.of_get hl fun i e a he ha=>hm i e a ?_ (h i e a he ha)) hb
  exact (B7.1 ha).1
theorem RL.toRP {T:List TV->α->Prop} (h:RL (some true) s T x l) (hm:∀ i e a,T e a->R i e a):RP s R x l:=by
 rcases h with ⟨rfl,rfl⟩ | ⟨o,xs,rfl,hq,h,hb⟩
 ·exact .inl ⟨rfl,rfl⟩
 ·have:o=true:=hq true rfl
  subst this
  refine .inr ⟨xs,rfl,h.length,hb,fun i e a he ha=>?_⟩
  obtain ⟨e',he',hr⟩:=h.get ha
  rw [he] at he'
  cases he'
  exact hm _ _ _ hr
end
theorem RL.iw {α:Type} {s:Nat} {R:List TV->α->Prop} {x:TV} {l:List α} (h:RL (some false) s R x l):x.iw=true:=by
 rcases h with ⟨rfl,rfl⟩ | ⟨o,xs,rfl,hq,h,hb⟩
 ·rfl
 ·rw [hq false rfl]; rfl
theorem nv:∀ (xs:List (List TV)),(∀ e ∈ xs,bF e=true)->j9 xs=true
 | [],_=>rfl
 | e :: xs,h=>by
  simp only [j9,Ca]
  exact ⟨h e Ce,nv xs fun e he=>h e (Cf _ he)⟩
theorem F2.memL {α β:Type} {R:α->β->Prop} {xs:List α} {l:List β} (h:F2 R xs l) {e:α} (he:e ∈ xs):∃ a,a ∈ l/\R e a:=by
 obtain ⟨i,hi,rfl⟩:=List.mem_iff_getElem.1 he
 obtain ⟨a,ha,hr⟩:=h.getL (B8 hi)
 exact ⟨a,Cg ha,hr⟩
theorem RL.own {α:Type} {s:Nat} {R:List TV->α->Prop} {x:TV} {l:List α} (h:RL (some true) s R x l) (hm:∀ e a,R e a->bF e=true):bT x=true:=by
 rcases h with ⟨rfl,rfl⟩ | ⟨o,xs,rfl,hq,h,hb⟩
 ·rfl
 ·rw [hq true rfl]
  simp only [bT,Bool.true_and]
  refine nv _ fun e he=>?_
  obtain ⟨a,_,hr⟩:=h.memL he
  exact hm _ _ hr
theorem RI1.own {e:List TV} {n:Int} (h:RI1 e n):bF e=true:=by obtain ⟨rfl,_⟩:=h; rfl
theorem RW1.own {e:List TV} {n:Int} (h:RW1 e n):bF e=true:=by obtain ⟨rfl,_⟩:=h; rfl
theorem RIns.own {e:List TV} {a:DIns} (h:RIns (some true) e a):bF e=true:=by
 obtain ⟨g,rfl,hg,_⟩:=h
 simp [bF,bT,hg.own fun _ _ h=>h.own]
theorem RBlock.own {e:List TV} {a:DBlock} (h:RBlock (some true) e a):bF e=true:=by
 obtain ⟨c,i,g,rfl,hc,hd,hi,hg,ho⟩:=h
 simp [bF,bT,hc.own fun _ _ h=>h.own,hi.own fun _ _ h=>h.own,hg.own fun _ _ h=>h.own]
theorem RFunc.own {e:List TV} {a:DFunc} (h:RFunc (some true) e a):bF e=true:=by
 obtain ⟨b,rfl,hb,ho⟩:=h
 simp [bF,bT,hb.own fun _ _ h=>h.own]
theorem jS {α:Type} {q:Option Bool} {s:Nat} {R:List TV->α->Prop} {x:TV} {l:List α} (h:RL q s R x l) (z:List TV) {xs:List (List TV)} (hx:pelems s x=some xs):∃ y,pcopy s (.sl true s (List.replicate l.length z)) xs=some y/\RL (some true) s R y l:=by
 have hl:F2 R xs l/\xs.length<=9223372036854775807:=by
  rcases h with ⟨rfl,rfl⟩ | ⟨o,ys,rfl,hq,h,hb⟩
  ·change some []=some xs at hx; cases hx; exact ⟨.nil,by simp⟩
  ·simp [pelems] at hx; subst hx; exact ⟨h,hb⟩
 have hlen:=hl.1.length
 refine ⟨.sl true s (xs.take l.length ++ (List.replicate l.length z).drop xs.length),by simp [pcopy],?_⟩
 rw [<- hlen,List.take_length,List.drop_eq_nil_of_le (by simp),List.append_nil]
 exact .sl (by simp) hl.1 hl.2
end Go.Ab
namespace Go.Ab.C14
open Go Go.Ab Go.Proofs
theorem r7 {q : Option Bool} {e : List TV} {m : DMod} (hm : RMod q e m) : ∃ b, aw prog 7 [.agg e] (B b) ∧ (b = true → gP m) := by
 obtain ⟨x,rfl,hx⟩:=hm
 have no:∀ {p:Prg TV},aa prog 7 p (B false)->∃ b,aa prog 7 p (B b)/\(b=true->gP m):=fun h=>⟨false,h,nofun⟩
 by_cases hlen:m.funcs.length<=20
 ·have outer : ∀ d i (n : Int), i + d = m.funcs.length → 0 ≤ n → n ≤ (i : Int) * 4900 → (∀ j, j < i → ∀ f, m.funcs[j]? = some f → zY f) → ∃ b, aa prog 7 (f7_0 (I n) (I i) x) (B b) ∧ (b = true → gP m) := by
   intro d
   induction d with
   | zero =>
    intro i n hi h0 hn hs
    have hi:i=m.funcs.length:=by omega
    subst hi
    refine ⟨decide (n<=2000),?_,fun _=>⟨hlen,hs⟩⟩
    unfold f7_0
    refine aa.tv (RL.len (by assumption)) (aa.tv rfl (aa.ite aV nofun fun _=>?_))
    exact aa.tv rfl aa.ret
   | succ d ih =>
    intro i n hi h0 hn hs
    have hk:i < m.funcs.length:=by omega
    have ha:m.funcs[i]? = some m.funcs[i]:=B8 hk
    obtain ⟨e,he,hr⟩:=hx.idx (k:=.i64) ha
    generalize m.funcs[i]=f at ha hr
    obtain ⟨y,rfl,hy,_⟩:=hr
    by_cases hbl:f.blocks.length<=70
    ·have mid : ∀ d k (n : Int), k + d = f.blocks.length → 0 ≤ n → n ≤ (i : Int) * 4900 + k * 70 → (∀ j, j < k → ∀ b, f.blocks[j]? = some b → vI b) → ∃ b, aa prog 7 (f7_1 (I n) (I i) (I k) x) (B b) ∧ (b = true → gP m) := by
      intro d
      induction d with
      | zero =>
       intro k n hk' h0 hn hsb
       have hk':k=f.blocks.length:=by omega
       subst hk'
       obtain ⟨b,hb,himp⟩:=ih (i + 1) n (by omega) h0 (by simp; omega) (fun j hj g hg=>by
        by_cases hji:j=i
        ·subst hji; rw [ha] at hg; cases hg; exact ⟨hbl,fun j hj=>hsb j hj⟩
        ·exact hs j (by omega) g hg)
       refine ⟨b,?_,himp⟩
       unfold f7_1
       refine aa.tvs he (aa.chk rfl (aa.tv hy.len (aa.tv rfl (aa.ite aV nofun fun _=>?_))))
       exact aa.tv (inc hk hx.bnd) (f7_0_J hb)
      | succ d ihm =>
       intro k n hk' h0 hn hsb
       have hkb:k < f.blocks.length:=by omega
       have hab:f.blocks[k]? = some f.blocks[k]:=B8 hkb
       obtain ⟨e2,he2,hr2⟩:=hy.idx (k:=.i64) hab
       generalize f.blocks[k]=b at hab hr2
       obtain ⟨c,is,g,rfl,hc,hd,his,hg,ho⟩:=hr2
       have start:∀ r,(¬ (b.ins.length<=70/\b.pad.catches.length<=20/\b.fin.args.length<=20)->r=B false)->(b.ins.length<=70/\b.pad.catches.length<=20/\b.fin.args.length<=20->aa prog 7 (f7_2 (I (n + b.ins.length)) (I i) (I k) (I (0:Nat)) x (B b.landing) (I b.pad.dst) c (B b.pad.all) (B b.pad.cleanup) is (I b.fin.kind) (I b.fin.a) (I b.fin.dst) (I b.fin.f) g (I b.fin.to) (I b.fin.els) (I b.fin.pad)) r)->aa prog 7 (f7_1 (I n) (I i) (I k) x) r:=by
        intro r h1 h2
        unfold f7_1
        refine aa.tvs he (aa.chk rfl (aa.tv hy.len (aa.tv rfl (aa.ite (be hkb) (fun _=>?_) nofun))))
        refine aa.tvs he (aa.chk rfl (aa.tvs he2 (aa.chk rfl (aa.tv his.len (aa.tv rfl (aa.ite rfl (fun h=>?_) fun g1=>?_))))))
        ·rw [h1 (by simp at h; omega)]; exact aa.ret
        ·refine aa.tv hc.len (aa.tv rfl (aa.ite rfl (fun h=>?_) fun g2=>?_))
         ·rw [h1 (by simp at h; omega)]; exact aa.ret
         ·refine aa.tv hg.len (aa.tv rfl (aa.ite rfl (fun h=>?_) fun g3=>?_))
          ·rw [h1 (by simp at h; omega)]; exact aa.ret
          ·simp at g1 g2 g3
           refine aa.tv his.len (aa.tv (padd (by constructor <;> omega)) (f7_2_J (h2 ⟨by omega,by omega,by omega⟩)))
       by_cases hsz:b.ins.length<=70/\b.pad.catches.length<=20/\b.fin.args.length<=20
       ·have inner:∀ d j,j + d=b.ins.length->(∀ t,t < j->∀ x,b.ins[t]? = some x->x.args.length<=20)->∃ r,aa prog 7 (f7_2 (I (n + b.ins.length)) (I i) (I k) (I j) x (B b.landing) (I b.pad.dst) c (B b.pad.all) (B b.pad.cleanup) is (I b.fin.kind) (I b.fin.a) (I b.fin.dst) (I b.fin.f) g (I b.fin.to) (I b.fin.els) (I b.fin.pad)) (B r)/\(r=true->gP m):=by
         intro d
         induction d with
         | zero =>
          intro j hj hs2
          have hj:j=b.ins.length:=by omega
          subst hj
          obtain ⟨r,hb,himp⟩:=ihm (k + 1) (n + b.ins.length) (by omega) (by omega) (by simp; omega) (fun j hj g hg=>by
           by_cases hji:j=k
           ·subst hji; rw [hab] at hg; cases hg; exact ⟨hsz.1,hsz.2.1,hsz.2.2,hs2⟩
           ·exact hsb j (by omega) g hg)
          refine ⟨r,?_,himp⟩
          unfold f7_2
          refine aa.tv (RL.len (by assumption)) (aa.tv rfl (aa.ite aV nofun fun _=>?_))
          exact aa.tv (inc hkb hy.bnd) (f7_1_J hb)
         | succ d ihi =>
          intro j hj hs2
          have hjb:j < b.ins.length:=by omega
          have hax:b.ins[j]? = some b.ins[j]:=B8 hjb
          obtain ⟨e3,he3,hr3⟩:=his.idx (k:=.i64) hax
          generalize b.ins[j]=u at hax hr3
          obtain ⟨v,rfl,hv,_⟩:=hr3
          by_cases hu:u.args.length<=20
          ·obtain ⟨r,hb,himp⟩:=ihi (j + 1) (by omega) (fun t ht z hz=>by
            by_cases htj:t=j
            ·subst htj; rw [hax] at hz; cases hz; exact hu
            ·exact hs2 t (by omega) z hz)
           refine ⟨r,?_,himp⟩
           unfold f7_2
           refine aa.tv (RL.len (by assumption)) (aa.tv rfl (aa.ite (be hjb) (fun _=>?_) nofun))
           refine aa.tvs he3 (aa.chk rfl (aa.tv hv.len (aa.tv rfl (aa.ite rfl (fun h=>?_) fun _=>?_))))
           ·simp at h; omega
           ·exact aa.tv (inc hjb his.bnd) (f7_2_J hb)
          ·refine no ?_
           unfold f7_2
           refine aa.tv (RL.len (by assumption)) (aa.tv rfl (aa.ite (be hjb) (fun _=>?_) nofun))
           refine aa.tvs he3 (aa.chk rfl (aa.tv hv.len (aa.tv rfl (aa.ite rfl (fun h=>aa.ret) fun h=>?_))))
           simp at h; omega
        obtain ⟨r,hb,himp⟩:=inner b.ins.length 0 (by omega) (fun t ht=>by omega)
        exact ⟨r,start _ (fun h=>absurd hsz h) (fun _=>hb),himp⟩
       ·exact no (start _ (fun _=>rfl) (fun h=>absurd h hsz))
     obtain ⟨b,hb,himp⟩:=mid f.blocks.length 0 n (by omega) h0 (by simp; omega) (fun j hj=>by omega)
     refine ⟨b,?_,himp⟩
     unfold f7_0
     refine aa.tv (RL.len (by assumption)) (aa.tv rfl (aa.ite (be hk) (fun _=>?_) nofun))
     refine aa.tvs he (aa.chk rfl (aa.tv hy.len (aa.tv rfl (aa.ite rfl (fun h=>?_) fun _=>?_))))
     ·simp at h; omega
     ·exact f7_1_J hb
    ·refine no ?_
     unfold f7_0
     refine aa.tv (RL.len (by assumption)) (aa.tv rfl (aa.ite (be hk) (fun _=>?_) nofun))
     refine aa.tvs he (aa.chk rfl (aa.tv hy.len (aa.tv rfl (aa.ite rfl (fun h=>aa.ret) fun h=>?_))))
     simp at h; omega
  obtain ⟨b,hb,himp⟩:=outer m.funcs.length 0 0 (by omega) (by omega) (by simp) (fun j hj=>by omega)
  refine ⟨b,?_,himp⟩
  refine aw.of (f7_MR _) ?_
  unfold f7_M
  refine aa.chk rfl (aa.tv hx.len (aa.tv rfl (aa.ite rfl (fun h=>?_) fun _=>f7_0_J hb)))
  simp at h; omega
 ·refine ⟨false,?_,nofun⟩
  refine aw.of (f7_MR _) ?_
  unfold f7_M
  refine aa.chk rfl (aa.tv hx.len (aa.tv rfl (aa.ite rfl (fun _=>aa.ret) fun h=>?_)))
  simp at h; omega
theorem r26 {α:Type} {q:Option Bool} {R:List TV->α->Prop} {x:TV} {l:List α} (hx:RL q 3 R x l) (hl:l.length<=4294967296):∃ y,aw prog 22 [x] y/\RL (some true) 3 R y l:=by
 obtain ⟨xs,hxs,_⟩:=hx.elems
 obtain ⟨y,hy,hr⟩:=jS hx [.lit (.int .i64 0),.lit (.int .i64 0),.lit (.slice none 0 0)] hxs
 have hn:=aR (k:=l.length) (by omega)
 have hle:(Nat.ble l.length 4294967296)=true:=by simpa using hl
 have hle':(Nat.ble l.length l.length)=true:=by simp
 rcases hx with ⟨rfl,rfl⟩ | ⟨o,ys,rfl,hq,h,hb⟩
 ·refine ⟨.lit bm,?_,.nil⟩
  refine aw.of (f22_MR _) ?_
  unfold f22_M
  exact aa.tv rfl (aa.ite rfl (fun _=>aa.ret) nofun)
 ·refine ⟨y,?_,hr⟩
  refine aw.of (f22_MR _) ?_
  unfold f22_M
  refine aa.tv rfl (aa.ite rfl nofun fun _=>?_)
  refine aa.tv (v:=I l.length) (by simp [plen,h.length]) (aa.nat hn (aa.nat hn (aa.chk (by rw [hle,hle']; rfl) (aa.rws hxs (aa.tv hy (aa.nat rfl aa.ret))))))
theorem r27 {α:Type} {q:Option Bool} {R:List TV->α->Prop} {x:TV} {l:List α} (hx:RL q 14 R x l) (hl:l.length<=4294967296):∃ y,aw prog 23 [x] y/\RL (some true) 14 R y l:=by
 obtain ⟨xs,hxs,_⟩:=hx.elems
 obtain ⟨y,hy,hr⟩:=jS hx [.lit (.bool false),.lit (.int .i64 0),.lit (.slice none 0 0),.lit (.bool false),.lit (.bool false),.lit (.slice none 0 0),.lit (.int .i64 0),.lit (.int .i64 0),.lit (.int .i64 0),.lit (.int .i64 0),.lit (.slice none 0 0),.lit (.int .i64 0),.lit (.int .i64 0),.lit (.int .i64 0)] hxs
 have hn:=aR (k:=l.length) (by omega)
 have hle:(Nat.ble l.length 4294967296)=true:=by simpa using hl
 have hle':(Nat.ble l.length l.length)=true:=by simp
 rcases hx with ⟨rfl,rfl⟩ | ⟨o,ys,rfl,hq,h,hb⟩
 ·refine ⟨.lit bm,?_,.nil⟩
  refine aw.of (f23_MR _) ?_
  unfold f23_M
  exact aa.tv rfl (aa.ite rfl (fun _=>aa.ret) nofun)
 ·refine ⟨y,?_,hr⟩
  refine aw.of (f23_MR _) ?_
  unfold f23_M
  refine aa.tv rfl (aa.ite rfl nofun fun _=>?_)
  refine aa.tv (v:=I l.length) (by simp [plen,h.length]) (aa.nat hn (aa.nat hn (aa.chk (by rw [hle,hle']; rfl) (aa.rws hxs (aa.tv hy (aa.nat rfl aa.ret))))))
theorem r40 {α:Type} {q:Option Bool} {R:List TV->α->Prop} {x:TV} {l:List α} (hx:RL q 7 R x l) (hl:l.length<=4294967296):∃ y,aw prog 42 [x] y/\RL (some true) 7 R y l:=by
 obtain ⟨xs,hxs,_⟩:=hx.elems
 obtain ⟨y,hy,hr⟩:=jS hx [.lit (.int .i64 0),.lit (.int .i64 0),.lit (.int .i64 0),.lit (.int .i64 0),.lit (.int .u16 0),.lit (.int .i64 0),.lit (.slice none 0 0)] hxs
 have hn:=aR (k:=l.length) (by omega)
 have hle:(Nat.ble l.length 4294967296)=true:=by simpa using hl
 have hle':(Nat.ble l.length l.length)=true:=by simp
 rcases hx with ⟨rfl,rfl⟩ | ⟨o,ys,rfl,hq,h,hb⟩
 ·refine ⟨.lit bm,?_,.nil⟩
  refine aw.of (f42_MR _) ?_
  unfold f42_M
  exact aa.tv rfl (aa.ite rfl (fun _=>aa.ret) nofun)
 ·refine ⟨y,?_,hr⟩
  refine aw.of (f42_MR _) ?_
  unfold f42_M
  refine aa.tv rfl (aa.ite rfl nofun fun _=>?_)
  refine aa.tv (v:=I l.length) (by simp [plen,h.length]) (aa.nat hn (aa.nat hn (aa.chk (by rw [hle,hle']; rfl) (aa.rws hxs (aa.tv hy (aa.nat rfl aa.ret))))))
theorem r39 {q:Option Bool} {x:TV} {l:List Int} (hx:RL q 1 RW1 x l) (hl:l.length<=4294967296):∃ y,aw prog 41 [x] y/\RL (some true) 1 RW1 y l:=by
 obtain ⟨xs,hxs,_⟩:=hx.elems
 obtain ⟨y,hy,hr⟩:=jS hx [.lit (.int .u16 0)] hxs
 have hn:=aR (k:=l.length) (by omega)
 have hle:(Nat.ble l.length 4294967296)=true:=by simpa using hl
 have hle':(Nat.ble l.length l.length)=true:=by simp
 have hown:=hr.own fun _ _ h=>h.own
 rcases hx with ⟨rfl,rfl⟩ | ⟨o,ys,rfl,hq,h,hb⟩
 ·refine ⟨.lit bm,?_,.nil⟩
  refine aw.of (f41_MR _) ?_
  unfold f41_M
  exact aa.tv rfl (aa.ite rfl (fun _=>aa.chk rfl aa.ret) nofun)
 ·refine ⟨y,?_,hr⟩
  refine aw.of (f41_MR _) ?_
  unfold f41_M
  refine aa.tv rfl (aa.ite rfl nofun fun _=>?_)
  refine aa.tv (v:=I l.length) (by simp [plen,h.length]) (aa.nat hn (aa.nat hn (aa.chk (by rw [hle,hle']; rfl) (aa.rws hxs (aa.tv hy (aa.nat rfl (aa.chk hown aa.ret)))))))
theorem r41 {q:Option Bool} {x:TV} {l:List Int} (hx:RL q 1 RI1 x l) (hl:l.length<=4294967296):∃ y,aw prog 43 [x] y/\RL (some true) 1 RI1 y l:=by
 obtain ⟨xs,hxs,_⟩:=hx.elems
 obtain ⟨y,hy,hr⟩:=jS hx [.lit (.int .i64 0)] hxs
 have hn:=aR (k:=l.length) (by omega)
 have hle:(Nat.ble l.length 4294967296)=true:=by simpa using hl
 have hle':(Nat.ble l.length l.length)=true:=by simp
 have hown:=hr.own fun _ _ h=>h.own
 rcases hx with ⟨rfl,rfl⟩ | ⟨o,ys,rfl,hq,h,hb⟩
 ·refine ⟨.lit bm,?_,.nil⟩
  refine aw.of (f43_MR _) ?_
  unfold f43_M
  exact aa.tv rfl (aa.ite rfl (fun _=>aa.chk rfl aa.ret) nofun)
 ·refine ⟨y,?_,hr⟩
  refine aw.of (f43_MR _) ?_
  unfold f43_M
  refine aa.tv rfl (aa.ite rfl nofun fun _=>?_)
  refine aa.tv (v:=I l.length) (by simp [plen,h.length]) (aa.nat hn (aa.nat hn (aa.chk (by rw [hle,hle']; rfl) (aa.rws hxs (aa.tv hy (aa.nat rfl (aa.chk hown aa.ret)))))))
theorem r28 {q:Option Bool} {e:List TV} {b:DBlock} (he:RBlock q e b) (hs:vI b):∃ e',aw prog 24 [.agg e] (.agg e')/\RBlock (some true) e' b:=by
 obtain ⟨c,i,g,rfl,hc,hd,hi,hg,ho⟩:=he
 obtain ⟨hs1,hs2,hs3,hs4⟩:=hs
 obtain ⟨c',h39,hc'⟩:=r39 hc (by omega)
 obtain ⟨i',h40,hi'⟩:=r40 hi (by omega)
 obtain ⟨g',h41,hg'⟩:=r41 hg (by omega)
 have loop:∀ d k w,k + d=b.ins.length->RP 7 (fun j e x=>RIns (if j < k then some true else q) e x) w b.ins->∃ w',aa prog 24 (f24_0 (I b.ins.length) (I k) (B b.landing) (I b.pad.dst) (B b.pad.all) (B b.pad.cleanup) (I b.fin.kind) (I b.fin.a) (I b.fin.dst) (I b.fin.f) g (I b.fin.to) (I b.fin.els) (I b.fin.pad) c' w) (.agg [B b.landing,I b.pad.dst,c',B b.pad.all,B b.pad.cleanup,w',I b.fin.kind,I b.fin.a,I b.fin.dst,I b.fin.f,g',I b.fin.to,I b.fin.els,I b.fin.pad])/\RL (some true) 7 (RIns (some true)) w' b.ins:=by
  intro d
  induction d with
  | zero =>
   intro k w hk hw
   have hk:k=b.ins.length:=by omega
   subst hk
   have hw':RL (some true) 7 (RIns (some true)) w b.ins:=hw.toRL fun i e a hi h=>by simpa [hi] using h
   refine ⟨w,?_,hw'⟩
   unfold f24_0
   refine aa.tv rfl (aa.ite aV nofun fun _=>?_)
   refine f24_1_J ?_
   unfold f24_1
   refine aa.call h41 (aa.chk ?_ (aa.chk ?_ aa.ret))
   ·simp [ac,zSl,au,hg'.isSl]
   ·simp [bT,bF,hc'.own fun _ _ h=>h.own,hg'.own fun _ _ h=>h.own,hw'.own fun _ _ h=>h.own]
  | succ d ih =>
   intro k w hk hw
   have hkb:k < b.ins.length:=by omega
   have ha:b.ins[k]? = some b.ins[k]:=B8 hkb
   obtain ⟨e,he,hr,hget,hset⟩:=hw.row ha
   simp only [Nat.lt_irrefl,if_false] at hr
   have hrr:=hr
   have hargs:=hs4 k hkb _ ha
   generalize hu:b.ins[k]=u at *
   obtain ⟨v,rfl,hv,hok⟩:=hr
   obtain ⟨v',h41v,hv'⟩:=r41 (hv.frz (S:=RI1) fun _ _ h=>h.frz) (by omega)
   have hw2:=hw.set (S:=fun j e x=>RIns (if j < k + 1 then some true else q) e x) ha (e:=[I u.op,I u.dst,I u.a,I u.b,W u.k,I u.f,v']) (by simp; exact ⟨v',rfl,hv',hok⟩) (fun j e c hj h=>by
    by_cases hjk:j < k
    ·simpa [hjk,show j < k + 1 by omega] using h
    ·simpa [hjk,show ¬ j < k + 1 by omega] using h)
   obtain ⟨w',hw',hrl⟩:=ih (k + 1) _ (by omega) hw2
   refine ⟨w',?_,hrl⟩
   have hb:=hi.bnd
   have hlt:(Nat.blt k b.ins.length)=true:=by simpa using hkb
   unfold f24_0
   refine aa.tv rfl (aa.ite (be hkb) (fun _=>?_) nofun)
   refine aa.nat hw.slLen (aa.nat (aR (by omega)) (aa.chk (by rw [hw.slSize,hlt]; rfl) (aa.tvs he (aa.chk (by simp [ac,zSl,au,hv.isSl]) (aa.tv (hget 6 v rfl) (aa.call h41v (aa.chk (by simp [ac,zSl,au,hv'.isSl]) ?_)))))))
   refine aa.nat hw.slLen (aa.nat (aR (by omega)) (aa.chk (by rw [hw.slSize,hlt]; rfl) (aa.tvs he (aa.chk (by simp [b8,ac,zSl,au,hv.isSl,hv'.isSl]) (aa.tv (hset 6 [v']) (aa.tv (inc hkb hb) (f24_0_J hw')))))))
 obtain ⟨w',hw',hrl⟩:=loop b.ins.length 0 i' (by omega) (hi'.toRP fun i e a h=>by simpa using h)
 refine ⟨_,?_,⟨c',w',g',rfl,hc',hd,hrl,hg',ho⟩⟩
 refine aw.of (f24_MR _) ?_
 unfold f24_M
 refine aa.chk rfl (aa.call h39 (aa.chk (by simp [ac,zSl,au,hc'.isSl]) (aa.call h40 (aa.chk (by simp [ac,zSl,au,hi'.isSl]) (aa.tv hi'.len (f24_0_J hw'))))))
end Go.Ab.C14
end
section
set_option maxRecDepth 10000
namespace Go.Ab.C14
open Go Go.Ab Go.Proofs
theorem r16 {e:List TV} {m:DMod} (he:RMod (some false) e m) (hs:gP m):∃ e',aw prog 8 [.agg e] (.agg e')/\RMod (some true) e' m:=by
 obtain ⟨x,rfl,hx⟩:=he
 obtain ⟨hs1,hs2⟩:=hs
 obtain ⟨x',h26,hx'⟩:=r26 hx (by omega)
 have outer : ∀ d k w, k + d = m.funcs.length → RP 3 (fun j e f => RFunc (if j < k then some true else some false) e f) w m.funcs → ∃ w', aa prog 8 (f8_0 (I m.funcs.length) (I k) w) (.agg [w']) ∧ RL (some true) 3 (RFunc (some true)) w' m.funcs := by
  intro d
  induction d with
  | zero =>
   intro k w hk hw
   have hk:k=m.funcs.length:=by omega
   subst hk
   have hw':RL (some true) 3 (RFunc (some true)) w m.funcs:=hw.toRL fun i e a hi h=>by simpa [hi] using h
   refine ⟨w,?_,hw'⟩
   unfold f8_0
   refine aa.tv rfl (aa.ite aV nofun fun _=>?_)
   exact aa.chk (by simp [bT,bF,hw'.own fun _ _ h=>h.own]) aa.ret
  | succ d ih =>
   intro k w hk hw
   have hkb:k < m.funcs.length:=by omega
   have ha:m.funcs[k]? = some m.funcs[k]:=B8 hkb
   obtain ⟨e,he,hr,hget,hset⟩:=hw.row ha
   simp only [Nat.lt_irrefl,if_false] at hr
   obtain ⟨hsf1,hsf2⟩:=hs2 k hkb _ ha
   generalize hu:m.funcs[k]=f at *
   obtain ⟨v,rfl,hv,hok⟩:=hr
   obtain ⟨v',h27,hv'⟩:=r27 hv (by omega)
   have hbk:(k:Nat)<=9223372036854775807:=by omega
   have hlt:(Nat.blt k m.funcs.length)=true:=by simpa using hkb
   have inner:∀ d j y,j + d=f.blocks.length->RP 14 (fun t e b=>RBlock (if t < j then some true else some false) e b) y f.blocks->∃ w',aa prog 8 (f8_1 (I k) (I m.funcs.length) (I k) (I f.blocks.length) (I j) w y) (.agg [w'])/\RL (some true) 3 (RFunc (some true)) w' m.funcs:=by
    intro d
    induction d with
    | zero =>
     intro j y hj hy
     have hj:j=f.blocks.length:=by omega
     subst hj
     have hy':RL (some true) 14 (RBlock (some true)) y f.blocks:=hy.toRL fun i e a hi h=>by simpa [hi] using h
     have hw2:=hw.set (S:=fun j e x=>RFunc (if j < k + 1 then some true else some false) e x) ha (e:=[I f.params,I f.regs,y]) (by simp; exact ⟨y,rfl,hy',hok⟩) (fun j e c hj h=>by
      by_cases hjk:j < k
      ·simpa [hjk,show j < k + 1 by omega] using h
      ·simpa [hjk,show ¬ j < k + 1 by omega] using h)
     obtain ⟨w',hw',hrl⟩:=ih (k + 1) _ (by omega) hw2
     refine ⟨w',?_,hrl⟩
     unfold f8_1
     refine aa.tv rfl (aa.ite aV nofun fun _=>?_)
     refine f8_2_J ?_
     unfold f8_2
     refine aa.nat hw.slLen (aa.nat (aR hbk) (aa.chk (by rw [hw.slSize,hlt]; rfl) (aa.tvs he (aa.chk (by simp [b8,ac,zSl,au,hv.isSl,hy'.isSl]) (aa.tv (hset 2 [y]) (aa.tv (inc hkb hx.bnd) (f8_0_J hw')))))))
    | succ d ihi =>
     intro j y hj hy
     have hjb:j < f.blocks.length:=by omega
     have hab:f.blocks[j]? = some f.blocks[j]:=B8 hjb
     obtain ⟨e2,he2,hr2,hget2,hset2⟩:=hy.row hab
     simp only [Nat.lt_irrefl,if_false] at hr2
     have hsb:=hsf2 j hjb _ hab
     generalize f.blocks[j]=b at *
     obtain ⟨e3,h28,hr3⟩:=r28 hr2.frz hsb
     obtain ⟨c,i,g,rfl,hc,hd,hi,hg,ho⟩:=hr2
     have hr4:=hr3
     obtain ⟨c',i',g',rfl,hc',hd',hi',hg',ho'⟩:=hr3
     have hy2:=hy.set (S:=fun t e b=>RBlock (if t < j + 1 then some true else some false) e b) hab (e:=[B b.landing,I b.pad.dst,c',B b.pad.all,B b.pad.cleanup,i',I b.fin.kind,I b.fin.a,I b.fin.dst,I b.fin.f,g',I b.fin.to,I b.fin.els,I b.fin.pad]) (by simp; exact hr4) (fun t e c ht h=>by
      by_cases htj:t < j
      ·simpa [htj,show t < j + 1 by omega] using h
      ·simpa [htj,show ¬ t < j + 1 by omega] using h)
     obtain ⟨w',hw',hrl⟩:=ihi (j + 1) _ (by omega) hy2
     refine ⟨w',?_,hrl⟩
     have hltb:(Nat.blt j f.blocks.length)=true:=by simpa using hjb
     have hf1:ac dA [B b.landing,I b.pad.dst,c,B b.pad.all,B b.pad.cleanup,i,I b.fin.kind,I b.fin.a,I b.fin.dst,I b.fin.f,g,I b.fin.to,I b.fin.els,I b.fin.pad] 0=true:=by
      simp [ac,dA,au,TV.isSc,scV,hc.isSl,hi.isSl,hg.isSl]
     have hf2:ac dA [B b.landing,I b.pad.dst,c',B b.pad.all,B b.pad.cleanup,i',I b.fin.kind,I b.fin.a,I b.fin.dst,I b.fin.f,g',I b.fin.to,I b.fin.els,I b.fin.pad] 0=true:=by
      simp [ac,dA,au,TV.isSc,scV,hc'.isSl,hi'.isSl,hg'.isSl]
     unfold f8_1
     refine aa.tv rfl (aa.ite (be hjb) (fun _=>?_) nofun)
     refine aa.nat hy.slLen (aa.nat (aR (by omega)) (aa.chk (by rw [hy.slSize,hltb]; rfl) (aa.tvs he2 (aa.chk hf1 (aa.tv (hget2 2 c rfl) (aa.tv (hget2 5 i rfl) (aa.tv (hget2 10 g rfl) (aa.call h28 (aa.chk hf2 ?_)))))))))
     refine aa.nat hy.slLen (aa.nat (aR (by omega)) (aa.chk (by rw [hy.slSize,hltb]; rfl) (aa.tvs he2 (aa.chk (by rw [sg hf1]; exact hf2) (aa.tv (hset2 0 _) (aa.tv (inc hjb (by omega)) (f8_1_J hw')))))))
   obtain ⟨w',hw',hrl⟩:=inner f.blocks.length 0 v' (by omega) (hv'.toRP fun i e a h=>by simpa using h)
   refine ⟨w',?_,hrl⟩
   unfold f8_0
   refine aa.tv rfl (aa.ite (be hkb) (fun _=>?_) nofun)
   refine aa.nat hw.slLen (aa.nat (aR hbk) (aa.chk (by rw [hw.slSize,hlt]; rfl) (aa.tvs he (aa.chk (by simp [b8,ac,zSl,au,hv.isSl]) (aa.tv (hget 2 v rfl) (aa.chk hv.iw (aa.call h27 (aa.chk (by simp [ac,zSl,au,hv'.isSl]) (aa.tv hv'.len (f8_1_J hw'))))))))))
 obtain ⟨w',hw',hrl⟩:=outer m.funcs.length 0 x' (by omega) (hx'.toRP fun i e a h=>by simpa using h)
 refine ⟨_,?_,⟨w',rfl,hrl⟩⟩
 refine aw.of (f8_MR _) ?_
 unfold f8_M
 exact aa.chk rfl (aa.call h26 (aa.chk (by simp [b8,ac,zSl,au,hx'.isSl]) (aa.tv hx'.len (f8_0_J hw'))))
end Go.Ab.C14
end
section
set_option maxRecDepth 10000
namespace Go.Ab
theorem qq:∀ (p:Way) (k j:Nat) (x y:TV),aI p x=some y->aI (p ++ [(k,j)]) x=aI [(k,j)] y
 | [],k,j,x,y,h=>by simp [aI] at h; subst h; rfl
 | (a, b) :: p, k, j, x, y, h => by
  cases x with
  | sl o s xs =>
   simp only [aI,List.cons_append] at h ⊢
   cases hx:xs[a]? with
   | none=>simp [hx] at h
   | some e =>
    simp only [hx] at h ⊢
    cases he:e[b]? with
    | none=>simp [he] at h
    | some z =>
     simp only [he] at h ⊢
     exact qq p k j z y h
  | _=>simp [aI] at h
section
variable {α β:Type} {p:Way} {w y:TV} {s:Nat} {R:List TV->α->Prop} {Q:TV->β->Prop} {G:List α->DMod} {l:List α}
theorem RL.at (hy:RL (some true) s R y l) {k:Nat} {e:List TV} (he:Go.Ab.pel y k=some e):∃ xs,y=.sl true s xs/\xs[k]? = some e/\F2 R xs l/\xs.length<=9223372036854775807:=by
 rcases hy with ⟨rfl,rfl⟩ | ⟨o,xs,rfl,hq,h,hb⟩
 ·simp [Go.Ab.pel] at he
 ·have:o=true:=hq true rfl
  subst this
  exact ⟨xs,rfl,he,h,hb⟩
end
end Go.Ab
namespace Go.Ab.C14
open Go Go.Ab Go.Proofs
end Go.Ab.C14
end
section
set_option maxRecDepth 10000
namespace Go.Ab
section
variable {α:Type} {s:Nat} {R:List TV->α->Prop} {y:TV} {l:List α}
theorem RL.B6 (hy:RL (some true) s R y l) {i:Nat} {e:List TV} (he:Go.Ab.pel y i=some e) {d:Nat} {ys:List TV} {a:α} (hR:R (bj e d ys) a):∃ y',gW [] y i d ys=some y'/\RL (some true) s R y' (l.set i a):=by
 obtain ⟨xs,rfl,hk,hf,hb⟩:=hy.at he
 refine ⟨.sl true s (ai xs i (bj e d ys)),by simp only [gW,aI,sq,hk,fK],.sl (by simp) (hf.set hR) (by rw [bU]; exact hb)⟩
theorem RL.app (hy:RL (some true) s R y l) {e:List TV} {a:α} (hR:R e a) (hl:l.length + 1<=4294967296):∃ y',papp s y [e]=some y'/\RL (some true) s R y' (l ++ [a]):=by
 rcases hy with ⟨rfl,rfl⟩ | ⟨o,xs,rfl,hq,h,hb⟩
 ·refine ⟨.sl true s [e],by simp [papp,bm,room,A8],.sl (by simp) (.cons hR .nil) (by simp)⟩
 ·have:o=true:=hq true rfl
  subst this
  have hxl:=h.length
  refine ⟨.sl true s (xs ++ [e]),?_,.sl (by simp) (h.append (.cons hR .nil)) (by simp; omega)⟩
  simp [papp,room]; omega
end
end Go.Ab
namespace Go.Ab.C14
open Go Go.Ab Go.Proofs
end Go.Ab.C14
end
section
set_option maxRecDepth 10000
namespace Go.Ab
inductive Thr (m:DMod):Nat->Prop
 | thr {n i:Nat} {u:DFunc} {b:DBlock} (hu:m.funcs[n]? = some u) (hb:u.blocks[i]? = some b) (h:b.fin.kind=5\/b.fin.kind=6):Thr m n
 | inv {n i:Nat} {u:DFunc} {b pb:DBlock} (hu:m.funcs[n]? = some u) (hb:u.blocks[i]? = some b) (h:b.fin.kind=4) (hp:u.blocks[b.fin.pad.toNat]? = some pb) (ha:pb.pad.all=false) (ht:Thr m b.fin.f.toNat):Thr m n
 | call {n i k:Nat} {u:DFunc} {b:DBlock} {x:DIns} (hu:m.funcs[n]? = some u) (hb:u.blocks[i]? = some b) (hx:b.ins[k]? = some x) (h:x.op=11) (ht:Thr m x.f.toNat):Thr m n
def pl (F:List Bool) (b:DBlock):Prop:=∃ x ∈ b.ins,x.op=11/\F[x.f.toNat]? = some true
def invD (F:List Bool) (b:DBlock):Prop:=b.fin.kind=4/\F[b.fin.f.toNat]? = some true
def xe (F:List Bool) (u:DFunc) (b:DBlock):Prop:=(b.fin.kind=5\/b.fin.kind=6)\/pl F b\/(invD F b/\∃ pb,u.blocks[b.fin.pad.toNat]? = some pb/\pb.pad.all=false)
def tz (X:Nat->Prop) (F:List Bool):Prop:=∀ k:Nat,F[k]? = some true->X k
def oR (D:List Bool->DFunc->DBlock->Prop) (F:List Bool) (u:DFunc):Prop:=∃ b ∈ u.blocks,D F u b
def ClsL (m:DMod) (D:List Bool->DFunc->DBlock->Prop) (F:List Bool):Prop:=∀ (n:Nat) u,m.funcs[n]? = some u->oR D F u->F[n]? = some true
structure vl (m:DMod) (D:List Bool->DFunc->DBlock->Prop) (X:Nat->Prop):Prop where
 up:∀ F,tz X F->∀ (n:Nat) u,m.funcs[n]? = some u->oR D F u->X n
 dn:∀ F,ClsL m D F->∀ n,X n->F[n]? = some true
theorem xJ {m:DMod} {X:Nat->Prop} {F:List Bool} {b:DBlock} (h:tz X F) (hc:pl F b):∃ (k:Nat) (x:DIns),b.ins[k]? = some x/\x.op=11/\X x.f.toNat:=by
 obtain ⟨x,hx,h11,hF⟩:=hc
 obtain ⟨k,hk,rfl⟩:=List.mem_iff_getElem.1 hx
 exact ⟨k,_,B8 hk,h11,h _ hF⟩
theorem xU (m:DMod):vl m xe (Thr m):=by
 refine ⟨fun F hs n u hu ⟨b,hb,h⟩=>?_,fun F hc n h=>?_⟩
 ·obtain ⟨i,hi,rfl⟩:=List.mem_iff_getElem.1 hb
  have hbi:=B8 hi
  rcases h with h | h | ⟨⟨h4,hF⟩,pb,hp,ha⟩
  ·exact .thr hu hbi h
  ·obtain ⟨k,x,hx,h11,ht⟩:=xJ (m:=m) hs h
   exact .call hu hbi hx h11 ht
  ·exact .inv hu hbi h4 hp ha (hs _ hF)
 ·induction h with
  | thr hu hb h=>exact hc _ _ hu ⟨_,Cg hb,.inl h⟩
  | inv hu hb h hp ha _ ih=>exact hc _ _ hu ⟨_,Cg hb,.inr (.inr ⟨⟨h,ih⟩,_,hp,ha⟩)⟩
  | call hu hb hx h _ ih=>exact hc _ _ hu ⟨_,Cg hb,.inr (.inl ⟨_,Cg hx,h,ih⟩)⟩
theorem j0 (x:TV):qM x x=true:=by
 unfold qM
 exact Bool.or_eq_true _ _ |>.mpr (.inr (@decide_eq_true _ (Classical.propDecidable _) rfl))
theorem Bm {M:List Bool} {g:Nat} (h:M[g]? = some false):(M.set g true).count false + 1=M.count false:=by
 obtain ⟨hlt,hg⟩:=B7.1 h
 have hpos:0 < M.count false:=List.count_pos_iff.2 (Cg h)
 rw [List.count_set hlt]
 simp [hg]
 omega
structure tj (m:DMod) (D:List Bool->DFunc->DBlock->Prop) (X:Nat->Prop) (F0 F:List Bool) (g:Bool) (n:Nat):Prop where
 len:F.length=m.funcs.length
 snd:tz X F
 no:g=false->F=F0/\∀ (k:Nat) u,k < n->m.funcs[k]? = some u->oR D F u->F[k]? = some true
 yes:g=true->F.count false < F0.count false
theorem tj.start {m:DMod} {D:List Bool->DFunc->DBlock->Prop} {X:Nat->Prop} {F:List Bool} (hl:F.length=m.funcs.length) (hs:tz X F):tj m D X F F false 0 :=
 ⟨hl,hs,fun _=>⟨rfl,fun k u h=>absurd h (Nat.not_lt_zero _)⟩,nofun⟩
theorem tj.hit {m:DMod} {D:List Bool->DFunc->DBlock->Prop} {X:Nat->Prop} {F0 F:List Bool} {g:Bool} {n:Nat} {u:DFunc} (hX:vl m D X) (h:tj m D X F0 F g n) (hn:F[n]? = some false) (hu:m.funcs[n]? = some u) (hh:oR D F u):tj m D X F0 (F.set n true) true (n + 1):=by
 have hlt:=(B7.1 hn).1
 refine ⟨by rw [List.length_set]; exact h.len,fun k hk=>?_,nofun,fun _=>?_⟩
 ·by_cases e:k=n
  ·subst e; exact hX.up F h.snd _ u hu hh
  ·rw [List.getElem?_set_ne (Ne.symm e)] at hk
   exact h.snd k hk
 ·have:=Bm hn
  cases g with
  | true=>have:=h.yes rfl; omega
  | false=>have:=(h.no rfl).1; subst this; omega
theorem tj.miss {m:DMod} {D:List Bool->DFunc->DBlock->Prop} {X:Nat->Prop} {F0 F:List Bool} {g:Bool} {n:Nat} (h:tj m D X F0 F g n) (hn:F[n]? = some true\/∀ u,m.funcs[n]? = some u->¬ oR D F u):tj m D X F0 F g (n + 1):=by
 refine ⟨h.len,h.snd,fun hg=>⟨(h.no hg).1,fun k u hk hu hh=>?_⟩,h.yes⟩
 by_cases e:k=n
 ·subst e
  rcases hn with hn | hn
  ·exact hn
  ·exact absurd hh (hn u hu)
 ·exact (h.no hg).2 k u (by omega) hu hh
theorem vG {A:AProg} {f:FuncId} {m:DMod} {D:List Bool->DFunc->DBlock->Prop} {X:Nat->Prop} (hX:vl m D X) {P0:Bool->TV->Prg TV} {P1:Bool->Nat->TV->Prg TV}
  (h0t:∀ w y,aa A f (P1 false 0 w) y->aa A f (P0 true w) y)
  (h0f:∀ w F,RBools (some true) w F->aa A f (P0 false w) w)
  (h1e:∀ g w y,aa A f (P0 g w) y->aa A f (P1 g m.funcs.length w) y)
  (h1s : ∀ g n w F c u y, F.length = m.funcs.length → RBools (some true) w F → F[n]? = some c → m.funcs[n]? = some u →
   ((c=true\/¬ oR D F u)->aa A f (P1 g (n + 1) w) y)->(∀ w',gW [] w n 0 [B true]=some w'->c=false->oR D F u->aa A f (P1 true (n + 1) w') y)->aa A f (P1 g n w) y) :
  ∀ (d:Nat) (F:List Bool) (w:TV),F.count false<=d->F.length=m.funcs.length->tz X F->RBools (some true) w F ->
   ∃ y F',aa A f (P0 true w) y/\RBools (some true) y F'/\F'.length=m.funcs.length/\∀ k:Nat,F'[k]? = some true ↔ X k:=by
 have fin:∀ {w F},F.length=m.funcs.length->tz X F->ClsL m D F->RBools (some true) w F->∃ y F',aa A f (P0 false w) y/\RBools (some true) y F'/\F'.length=m.funcs.length/\∀ k:Nat,F'[k]? = some true ↔ X k :=
  fun hl hs hc hw=>⟨_,_,h0f _ _ hw,hw,hl,fun k=>⟨hs k,hX.dn _ hc k⟩⟩
 have row:∀ (F0:List Bool) (K:∀ F w,F.count false < F0.count false->F.length=m.funcs.length->tz X F->RBools (some true) w F->∃ y F',aa A f (P0 true w) y/\RBools (some true) y F'/\F'.length=m.funcs.length/\∀ k:Nat,F'[k]? = some true ↔ X k),
   ∀ (d n:Nat) (F:List Bool) (g:Bool) (w:TV),n + d=m.funcs.length->tj m D X F0 F g n->RBools (some true) w F->∃ y F',aa A f (P1 g n w) y/\RBools (some true) y F'/\F'.length=m.funcs.length/\∀ k:Nat,F'[k]? = some true ↔ X k:=by
  intro F0 K d
  induction d with
  | zero =>
   intro n F g w hn hr hw
   have hn:n=m.funcs.length:=by omega
   subst hn
   cases g with
   | true =>
    obtain ⟨y,F',h1,h2⟩:=K F w (hr.yes rfl) hr.len hr.snd hw
    exact ⟨y,F',h1e _ _ _ h1,h2⟩
   | false =>
    obtain ⟨y,F',h1,h2⟩:=fin hr.len hr.snd (fun k u hu hh=>(hr.no rfl).2 k u (B7.1 hu).1 hu hh) hw
    exact ⟨y,F',h1e _ _ _ h1,h2⟩
  | succ d ih =>
   intro n F g w hn hr hw
   have hlt:n < m.funcs.length:=by omega
   have hu:=B8 hlt
   have hc:F[n]? = some (F[n]'(by rw [hr.len]; exact hlt)):=B8 _
   generalize m.funcs[n]=u at hu
   generalize F[n]'(by rw [hr.len]; exact hlt)=c at hc
   by_cases hm:c=true\/¬ oR D F u
   ·obtain ⟨y,F',h1,h2⟩:=ih (n + 1) F g w (by omega) (hr.miss (hm.imp (fun e=>by rw [hc,e]) fun h v hv=>by rw [hu] at hv; cases hv; exact h)) hw
    exact ⟨y,F',h1s g n w F c u y hr.len hw hc hu (fun _=>h1) (fun w' _ e hh=>by
     rcases hm with h | h
     ·rw [e] at h; cases h
     ·exact absurd hh h),h2⟩
   ·have hcf:c=false:=by
     cases c with
     | false=>rfl
     | true=>exact absurd (.inl rfl) hm
    subst hcf
    have hh:oR D F u:=Classical.byContradiction fun h=>hm (.inr h)
    obtain ⟨e,he,hR⟩:=hw.pel hc
    cases hR
    obtain ⟨w1,hs1,hw1⟩:=hw.B6 he (d:=0) (ys:=[B true]) (a:=true) rfl
    obtain ⟨y,F',h1,h2⟩:=ih (n + 1) (F.set n true) true w1 (by omega) (hr.hit hX hc hu hh) hw1
    refine ⟨y,F',h1s g n w F false u y hr.len hw hc hu (fun h=>absurd h hm) (fun w' hs' _ _=>?_),h2⟩
    rw [hs1] at hs'
    cases hs'
    exact h1
 intro d
 induction d with
 | zero =>
  intro F w hd hl hs hw
  obtain ⟨y,F',h1,h2⟩:=row F (fun F' w' h=>by omega) m.funcs.length 0 F false w (by omega) (.start hl hs) hw
  exact ⟨y,F',h0t _ _ h1,h2⟩
 | succ d ih =>
  intro F w hd hl hs hw
  obtain ⟨y,F',h1,h2⟩:=row F (fun F' w' h hl' hs' hw'=>ih F' w' (by omega) hl' hs' hw') m.funcs.length 0 F false w (by omega) (.start hl hs) hw
  exact ⟨y,F',h0t _ _ h1,h2⟩
end Go.Ab
end
section
set_option maxRecDepth 10000
namespace Go.Ab
def jj (b:DBlock):DBlock:={ b with ins:=b.ins ++ [⟨11,b.fin.dst,0,0,0,b.fin.f,b.fin.args⟩],fin:=⟨2,0,0,0,[],b.fin.to,0,0⟩ }
structure CalmP (m n:DMod) (C:Nat->Nat->Prop) (X:DFunc->DBlock->Prop):Prop where
 here:∀ (i:Nat) u,m.funcs[i]? = some u->∃ u',n.funcs[i]? = some u'/\u'.params=u.params/\u'.regs=u.regs/\∀ (j:Nat) b,u.blocks[j]? = some b->∃ b',u'.blocks[j]? = some b'/\((¬ C i j/\b'=b)\/(C i j/\b.fin.kind=4/\X u b/\b'=jj b))
end Go.Ab
namespace Go.Ab.C14
open Go Go.Ab Go.Proofs
section
variable {m n:DMod} {C:Nat->Nat->Prop} {X:DFunc->DBlock->Prop} (hM:qJ m) (hC:CalmP m n C X)
include hM hC
end
end Go.Ab.C14
end
section
set_option maxRecDepth 10000
namespace Go.Ab
def mapU (F:List DBlock->DBlock->DBlock) (m:DMod):DMod:=⟨m.funcs.map fun u=>{ u with blocks:=u.blocks.map (F u.blocks) }⟩
end Go.Ab
namespace Go.Ab.C14
open Go Go.Ab Go.Proofs
section
variable {F:DBlock->DBlock}
end
section
variable {m:DMod} {F:List DBlock->DBlock->DBlock}
end
open Classical in
noncomputable def jf (m:DMod):DMod:=mapU (fun _ b=>if b.fin.kind=4/\¬ Thr m b.fin.f.toNat/\b.ins.length < 64 then jj b else b) m
end Go.Ab.C14
end

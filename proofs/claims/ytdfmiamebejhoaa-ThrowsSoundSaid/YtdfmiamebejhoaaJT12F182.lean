import Derived.Test.YtdfmiamebejhoaaJT12F4
import Derived.OpenShut
set_option linter.all false
section
set_option maxRecDepth 10000
namespace Go.Ab
theorem RL.slice {α:Type} {q:Option Bool} {s:Nat} {R:List TV->α->Prop} {x:TV} {l:List α} (h:RL q s R x l) {t:TypeId} {lo hi:Option Nat} (h1:lo.getD 0<=hi.getD l.length) (h2:hi.getD l.length<=l.length) :
  ∃ y,pslice (.slice t) s x lo hi=some y/\RL q s R y ((l.drop (lo.getD 0)).take (hi.getD l.length - lo.getD 0)):=by
 rcases h with ⟨rfl,rfl⟩ | ⟨o,xs,rfl,hq,h,hb⟩
 ·simp at h1 h2
  refine ⟨_,?_,by simpa using RL.nil⟩
  have h3:lo.getD 0=0:=by omega
  simp only [pslice,aV,h2,h3,and_self,if_true]
 ·have hl:=h.length
  refine ⟨.sl o s ((xs.drop (lo.getD 0)).take (hi.getD xs.length - lo.getD 0)),?_,?_⟩
  ·rw [<- hl] at h1 h2
   simp only [pslice,h1,h2,and_self,if_true]
  ·rw [<- hl]
   exact .sl hq ((h.drop _).take _) (by simp; omega)
theorem bh {k:Nat} (h:k<=9223372036854775807):aj (I (k:Int))=some k:=by
 simp [aj]; omega
def ze (l:List Int):Prop:=∀ i,i < l.length->∀ a,l[i]? = some a->a ∉ l.take i
def B8 (landing:Bool) (regs:Int) (p:DPad):Prop:=(landing=false->p.dst=0/\p.catches=[]/\p.all=false/\p.cleanup=false) /\
 (landing=true->within p.dst regs/\p.catches.length<=8/\ze p.catches/\(p.catches≠[]\/p.all=true\/p.cleanup=true))
end Go.Ab
namespace Go.Ab.T12
open Go Go.Ab Go.Proofs
theorem r59 {q:Option Bool} {x:TV} {l:List Int} {w:Int} (hx:RWords q x l):∃ n,ap prog 90 [x,W w] (I n)/\(0<=n ↔ w ∈ l):=by
 have loop : ∀ d k, k + d = l.length → ∃ n, aa prog 90 (f90_0 x (W w) (I l.length) (I k)) (I n) ∧ (0 ≤ n ↔ ∃ i, k ≤ i ∧ l[i]? = some w) := by
  intro d
  induction d with
  | zero =>
   intro k hk
   have hk:k=l.length:=by omega
   subst hk
   refine ⟨-1,?_,?_⟩
   ·unfold f90_0
    refine aa.tv rfl (aa.ite bg nofun fun _=>?_)
    exact aa.ret
   ·simp only [show ¬ (0:Int)<=-1 by omega,false_iff,not_exists,not_and]
    intro i hi
    rw [ES hi]; simp
  | succ d ih =>
   intro k hk
   have hk':k < l.length:=by omega
   have ha:l[k]? = some l[k]:=EH hk'
   obtain ⟨e,he,rfl,_⟩:=hx.idx (k:=.i64) ha
   obtain ⟨n,hn,hiff⟩:=ih (k + 1) (by omega)
   by_cases hw:w=l[k]
   ·refine ⟨(k:Int),?_,?_⟩
    ·unfold f90_0
     refine aa.tv rfl (aa.ite (a7 hk') (fun _=>?_) nofun)
     refine aa.tvs he (aa.chk rfl (aa.tv rfl (aa.ite rfl (fun h=>aa.ret) fun h=>?_)))
     simp at h; exact absurd hw h
    ·constructor
     ·intro _; exact ⟨k,Nat.le_refl _,by rw [ha,hw]⟩
     ·intro _; omega
   ·refine ⟨n,?_,?_⟩
    ·unfold f90_0
     refine aa.tv rfl (aa.ite (a7 hk') (fun _=>?_) nofun)
     refine aa.tvs he (aa.chk rfl (aa.tv rfl (aa.ite rfl (fun h=>?_) fun h=>?_)))
     ·simp at h; exact absurd h hw
     ·refine aa.tv (inc hk' hx.bnd) (f90_0_J hn)
    ·rw [hiff]
     constructor
     ·rintro ⟨i,hi,h⟩; exact ⟨i,by omega,h⟩
     ·rintro ⟨i,hi,h⟩
      refine ⟨i,?_,h⟩
      by_cases hik:i=k
      ·subst hik; rw [ha] at h; simp at h; exact absurd h.symm hw
      ·omega
 obtain ⟨n,hn,hiff⟩:=loop l.length 0 (by omega)
 refine ⟨n,?_,?_⟩
 ·refine ap.of (f90_MR _ _) ?_
  unfold f90_M
  exact aa.tv hx.len (f90_0_J hn)
 ·rw [hiff,List.mem_iff_getElem?]
  simp
theorem r56 {q:Option Bool} {x:TV} {l:List Int} {w:Int} (hx:RWords q x l):ap prog 80 [x,W w] (B (tt (w ∈ l))):=by
 obtain ⟨n,hn,hiff⟩:=r59 (w:=w) hx
 refine ap.of (f80_MR _ _) ?_
 unfold f80_M
 repeat' (first
  | refine aa.chk rfl ?_
  | refine aa.tv rfl ?_
  | refine aa.tv (RL.len (by assumption)) ?_
  | refine aa.nat rfl ?_
  | refine aa.ite rfl (fun _=>?_) (fun _=>?_)
  | refine aa.call (by assumption) ?_
  | refine aa.tvs (by assumption) ?_)
 apply dN
 simp [hiff]
theorem r48 {q:Option Bool} {x:TV} {l:List Int} (hx:RWords q x l):ap prog 82 [x] (B (tt (ze l))):=by
 refine ap.of (f82_MR _) ?_
 unfold f82_M
 refine aa.tv hx.len (f82_0_J ?_)
 refine nT (g:=fun k=>f82_0 x x (I l.length) (I k)) ?_ ?_
 ·unfold f82_0
  refine aa.tv rfl (aa.ite bg nofun fun _=>?_)
  exact aa.ret
 ·intro k hk r h1 h2
  have ha:l[k]? = some l[k]:=EH hk
  obtain ⟨e,he,rfl,_⟩:=hx.idx (k:=.i64) ha
  obtain ⟨y,hy,hry⟩:=hx.slice (t:=35) (lo:=none) (hi:=some k) (by simp) (by simp; omega)
  have hry':RWords q y (l.take k):=by simpa using hry
  unfold f82_0
  refine aa.tv rfl (aa.ite (a7 hk) (fun _=>?_) nofun)
  have hb:=hx.bnd
  refine aa.tvs he (aa.chk rfl (aa.nat (bh (by omega)) (aa.tv hy (aa.call (r56 hry') (aa.chk rfl (aa.ite rfl (fun h=>?_) fun h=>?_))))))
  ·rw [h1 (by simp [ha]; simpa [bu] using h)]; exact aa.ret
  ·refine aa.tv (inc hk hx.bnd) (f82_0_J (h2 ?_))
   simp [ha]; simpa [bX] using h
theorem r32 {q:Option Bool} {fs bs:TV} {e:List TV} {p regs:Int} {a:DPad} {landing:Bool} (he:RPad q e a):ap prog 76 [.agg [fs,I p,I regs,bs],B landing,.agg e] (B (tt (B8 landing regs a))):=by
  obtain ⟨x,rfl,hx,_⟩:=he
  have h48:=r48 hx
  cases landing
  · refine ap.of (f76_MR _ _ _) ?_
    unfold f76_M
    repeat' (first
      | refine aa.chk rfl ?_
      | refine aa.tv rfl ?_
      | refine aa.tv (RL.len (by assumption)) ?_
      | refine aa.nat rfl ?_
      | refine aa.ite (v:=true) rfl (fun _=>?_) nofun
      | refine aa.ite (v:=false) rfl nofun (fun _=>?_)
      | refine aa.ite rfl (fun _=>?_) (fun _=>?_)
      | refine aa.call (by assumption) ?_
      | refine aa.tvs (by assumption) ?_
       )
    all_goals (apply dN; simp_all [B8])
  · refine ap.of (f76_MR _ _ _) ?_
    unfold f76_M
    repeat' (first
      | refine aa.chk rfl ?_
      | refine aa.tv rfl ?_
      | refine aa.tv (RL.len (by assumption)) ?_
      | refine aa.nat rfl ?_
      | refine aa.ite (v:=true) rfl (fun _=>?_) nofun
      | refine aa.ite (v:=false) rfl nofun (fun _=>?_)
      | refine aa.ite rfl (fun _=>?_) (fun _=>?_)
      | refine aa.call (by assumption) ?_
      | refine aa.tvs (by assumption) ?_
      | refine aa.call r47 ?_)
    all_goals (apply dN; simp_all [B8,bu,bX,rW,List.length_pos_iff] <;> omega)
def pn (fs:List DFunc) (regs:Int) (bs:List DBlock) (b:DBlock):Prop:=b.ins.length<=64/\B8 b.landing regs b.pad/\(∀ i,i < b.ins.length->∀ x,b.ins[i]? = some x->pj fs regs x)/\th fs regs bs b.fin
def wV (fs:List DFunc) (f:DFunc):Prop:=(0<=f.params/\f.params<=8/\f.params<=f.regs/\f.regs<=256)/\f.blocks.length<=64/\(∃ b,f.blocks[0]? = some b/\b.landing=false)/\∀ i,i < f.blocks.length->∀ b,f.blocks[i]? = some b->pn fs f.regs f.blocks b
def bB (m:DMod):Prop:=m.funcs.length<=16/\(∃ f,m.funcs[0]? = some f/\f.params=0)/\∀ i,i < m.funcs.length->∀ f,m.funcs[i]? = some f->wV m.funcs f
theorem r19 {q q' q2:Option Bool} {x y:TV} {e:List TV} {fs:List DFunc} {bs:List DBlock} {p regs:Int} {b:DBlock} (hx:RL q 3 (RFunc q) x fs) (hy:RL q2 14 (RBlock q2) y bs) (he:RBlock q' e b) :
  ap prog 66 [.agg [x,I p,I regs,y],.agg e] (B (tt (pn fs regs bs b))):=by
 obtain ⟨c,i,g,rfl,hc,hd,hi,hg,ho⟩:=he
 have h32:ap prog 76 [.agg [x,I p,I regs,y],B b.landing,.agg [I b.pad.dst,c,B b.pad.all,B b.pad.cleanup]] (B (tt (B8 b.landing regs b.pad))):=r32 (q:=q') ⟨c,rfl,hc,hd⟩
 have h34:ap prog 78 [.agg [x,I p,I regs,y],.agg [I b.fin.kind,I b.fin.a,I b.fin.dst,I b.fin.f,g,I b.fin.to,I b.fin.els,I b.fin.pad]] (B (tt (th fs regs bs b.fin))):=r34 (q':=q') hx hy ⟨g,rfl,hg,ho⟩
 refine ap.of (f66_MR _ _) ?_
 unfold f66_M
 refine aa.chk rfl (aa.chk rfl (aa.tv hi.len (aa.tv rfl (aa.ite rfl (fun h=>?_) fun h0=>?_))))
 ·simp at h
  exact bk fun h'=>by have:=h'.1; omega
 ·refine aa.call h32 (aa.chk rfl (aa.tv rfl (aa.ite rfl (fun h=>?_) fun h=>?_)))
  ·simp [bX] at h
   exact bk fun h'=>h h'.2.1
  ·simp [bu] at h h0
   refine aa.tv hi.len (f66_0_J ?_)
   rw [show tt (pn fs regs bs b)=tt (gm 0 b.ins.length (fun i=>∀ x,b.ins[i]? = some x->pj fs regs x)/\th fs regs bs b.fin) from bZ (by
    rw [kn]
    exact ⟨fun h=>h.2.2,fun h'=>⟨by omega,h,h'⟩⟩)]
   refine zE (g:=fun k=>f66_0 i (I b.ins.length) (I k) x (I p) (I regs) y (B b.landing) (I b.pad.dst) c (B b.pad.all) (B b.pad.cleanup) i (I b.fin.kind) (I b.fin.a) (I b.fin.dst) (I b.fin.f) g (I b.fin.to) (I b.fin.els) (I b.fin.pad)) ?_ ?_ b.ins.length 0 (by omega)
   ·unfold f66_0
    refine aa.tv rfl (aa.ite bg nofun fun _=>?_)
    refine f66_1_J ?_
    unfold f66_1
    exact aa.call h34 (aa.chk rfl aa.ret)
   ·intro k hk r h1 h2
    have ha:b.ins[k]? = some b.ins[k]:=EH hk
    obtain ⟨e,he,hr⟩:=hi.idx (k:=.i64) ha
    have h33:ap prog 77 [.agg [x,I p,I regs,y],.agg e] (B (tt (pj fs regs b.ins[k]))):=r33 hx hr
    obtain ⟨_,rfl,_⟩:=hr
    unfold f66_0
    refine aa.tv rfl (aa.ite (a7 hk) (fun _=>?_) nofun)
    refine aa.tvs he (aa.chk rfl (aa.call h33 (aa.chk rfl (aa.tv rfl (aa.ite rfl (fun h=>?_) fun h=>?_)))))
    ·rw [h1 (by simp [ha]; simpa [bX] using h)]; exact aa.ret
    ·refine aa.tv (inc hk hi.bnd) (f66_0_J (h2 ?_))
     simp [ha]; simpa [bu] using h
theorem r10 {q q':Option Bool} {e e':List TV} {m:DMod} {f:DFunc} (hm:RMod q e m) (hf:RFunc q' e' f):ap prog 50 [.agg e,.agg e'] (B (tt (wV m.funcs f))):=by
 obtain ⟨x,rfl,hx⟩:=hm
 obtain ⟨y,rfl,hy,_⟩:=hf
 refine ap.of (f50_MR _ _) ?_
 unfold f50_M
 refine aa.chk rfl (aa.chk rfl (aa.tv rfl (aa.ite rfl (fun h=>?_) fun g1=>?_)))
 ·simp at h; exact bk fun h'=>by have:=h'.1; omega
 refine aa.tv rfl (aa.ite rfl (fun h=>?_) fun g2=>?_)
 ·simp at h; exact bk fun h'=>by have:=h'.1; omega
 refine aa.tv rfl (aa.ite rfl (fun h=>?_) fun g3=>?_)
 ·simp at h; exact bk fun h'=>by have:=h'.1; omega
 refine aa.tv rfl (aa.ite rfl (fun h=>?_) fun g4=>?_)
 ·simp at h; exact bk fun h'=>by have:=h'.1; omega
 refine aa.tv hy.len (aa.tv rfl (aa.ite rfl (fun h=>?_) fun g5=>?_))
 ·simp at h
  refine bk ?_
  rintro ⟨_,_,⟨b,hb,_⟩,_⟩
  have:=(EG.1 hb).1
  omega
 refine aa.tv hy.len (aa.tv rfl (aa.ite rfl (fun h=>?_) fun g6=>?_))
 ·simp at h; exact bk fun h'=>by have:=h'.2.1; omega
 simp at g1 g2 g3 g4 g5 g6
 have hpos:0 < f.blocks.length:=by omega
 have hb0:f.blocks[0]? = some f.blocks[0]:=EH hpos
 obtain ⟨e0,he0,hr0⟩:=hy.idx (k:=.i64) hb0
 obtain ⟨_,_,_,rfl,_⟩:=hr0
 refine aa.tvs he0 (aa.chk rfl (aa.ite rfl (fun h=>?_) fun g7=>?_))
 ·refine bk ?_
  rintro ⟨_,_,⟨b,hb,hl⟩,_⟩
  rw [hb0] at hb
  simp at hb
  subst hb
  rw [hl] at h
  cases h
 refine aa.tv hy.len (f50_0_J ?_)
 rw [show tt (wV m.funcs f)=tt (∀ i,i < f.blocks.length->∀ b,f.blocks[i]? = some b->pn m.funcs f.regs f.blocks b) from bZ
  ⟨fun h=>h.2.2.2,fun h=>⟨⟨by omega,by omega,by omega,by omega⟩,by omega,⟨_,hb0,g7⟩,h⟩⟩]
 refine nT (g:=fun k=>f50_0 y (I f.blocks.length) (I k) x (I f.params) (I f.regs) y) ?_ ?_
 ·unfold f50_0
  refine aa.tv rfl (aa.ite bg nofun fun _=>?_)
  exact aa.ret
 ·intro k hk r h1 h2
  have ha:f.blocks[k]? = some f.blocks[k]:=EH hk
  obtain ⟨e,he,hr⟩:=hy.idx (k:=.i64) ha
  have h19:ap prog 66 [.agg [x,I f.params,I f.regs,y],.agg e] (B (tt (pn m.funcs f.regs f.blocks f.blocks[k]))):=r19 hx hy hr
  obtain ⟨_,_,_,rfl,_⟩:=hr
  unfold f50_0
  refine aa.tv rfl (aa.ite (a7 hk) (fun _=>?_) nofun)
  refine aa.tvs he (aa.chk rfl (aa.call h19 (aa.chk rfl (aa.tv rfl (aa.ite rfl (fun h=>?_) fun h=>?_)))))
  ·rw [h1 (by simp [ha]; simpa [bX] using h)]; exact aa.ret
  ·refine aa.tv (inc hk hy.bnd) (f50_0_J (h2 ?_))
   simp [ha]; simpa [bu] using h
theorem r8 {q:Option Bool} {e:List TV} {m:DMod} (hm:RMod q e m):ap prog 30 [.agg e] (B (tt (bB m))):=by
 have hm':=hm
 obtain ⟨x,rfl,hx⟩:=hm
 refine ap.of (f30_MR _) ?_
 unfold f30_M
 refine aa.chk rfl (aa.tv hx.len (aa.tv rfl (aa.ite rfl (fun h=>?_) fun g1=>?_)))
 ·simp at h
  refine bk ?_
  rintro ⟨_,⟨b,hb,_⟩,_⟩
  have:=(EG.1 hb).1
  omega
 refine aa.tv hx.len (aa.tv rfl (aa.ite rfl (fun h=>?_) fun g2=>?_))
 ·simp at h; exact bk fun h'=>by have:=h'.1; omega
 simp at g1 g2
 have hpos:0 < m.funcs.length:=by omega
 have hb0:m.funcs[0]? = some m.funcs[0]:=EH hpos
 obtain ⟨e0,he0,hr0⟩:=hx.idx (k:=.i64) hb0
 obtain ⟨_,rfl,_⟩:=hr0
 refine aa.tvs he0 (aa.chk rfl (aa.tv rfl (aa.ite rfl (fun h=>?_) fun g7=>?_)))
 ·refine bk ?_
  rintro ⟨_,⟨b,hb,hl⟩,_⟩
  rw [hb0] at hb
  simp at hb
  subst hb
  rw [hl] at h
  simp at h
 simp at g7
 refine aa.tv hx.len (f30_0_J ?_)
 rw [show tt (bB m)=tt (∀ i,i < m.funcs.length->∀ f,m.funcs[i]? = some f->wV m.funcs f) from bZ ⟨fun h=>h.2.2,fun h=>⟨by omega,⟨_,hb0,g7⟩,h⟩⟩]
 refine nT (g:=fun k=>f30_0 x (I m.funcs.length) (I k) x) ?_ ?_
 ·unfold f30_0
  refine aa.tv rfl (aa.ite bg nofun fun _=>?_)
  exact aa.ret
 ·intro k hk r h1 h2
  have ha:m.funcs[k]? = some m.funcs[k]:=EH hk
  obtain ⟨e,he,hr⟩:=hx.idx (k:=.i64) ha
  have h10:=r10 hm' hr
  obtain ⟨_,rfl,_⟩:=hr
  unfold f30_0
  refine aa.tv rfl (aa.ite (a7 hk) (fun _=>?_) nofun)
  refine aa.tvs he (aa.chk rfl (aa.call h10 (aa.chk rfl (aa.tv rfl (aa.ite rfl (fun h=>?_) fun h=>?_)))))
  ·rw [h1 (by simp [ha]; simpa [bX] using h)]; exact aa.ret
  ·refine aa.tv (inc hk hx.bnd) (f30_0_J (h2 ?_))
   simp [ha]; simpa [bu] using h
end Go.Ab.T12
end
section
set_option maxRecDepth 10000
namespace Go.Ab
def BD (b:DBlock):Prop:=b.ins.length<=70/\b.pad.catches.length<=20/\b.fin.args.length<=20/\∀ i,i < b.ins.length->∀ x,b.ins[i]? = some x->x.args.length<=20
def Cq (f:DFunc):Prop:=f.blocks.length<=70/\∀ i,i < f.blocks.length->∀ b,f.blocks[i]? = some b->BD b
def ph (m:DMod):Prop:=m.funcs.length<=20/\∀ i,i < m.funcs.length->∀ f,m.funcs[i]? = some f->Cq f
def kU:TV->List (List TV)
 | .sl _ _ xs=>xs
 | _=>[]
theorem CL {β:Type} {l:List β} {i:Nat} {a:β} (h:l[i]? = some a):l.set i a=l:=by
 apply List.ext_getElem?
 intro j
 rw [List.getElem?_set]
 by_cases hj:i=j
 ·subst hj; have:=(EG.1 h).1; simp only [if_true,this]; rw [h]
 ·simp [hj]
def RP {α:Type} (s:Nat) (R:Nat->List TV->α->Prop) (x:TV) (l:List α):Prop :=
 (x=.lit aV/\l=[])\/∃ xs,x=.sl true s xs/\xs.length=l.length/\xs.length<=9223372036854775807/\∀ i e a,xs[i]? = some e->l[i]? = some a->R i e a
section
variable {α:Type} {s:Nat} {R S:Nat->List TV->α->Prop} {x:TV} {l:List α}
theorem dV {β:Type}:∀ (l:List β) (n:Nat) (b:β),(ao l n b).length=l.length
 | [],_,_=>rfl
 | _ :: _,0,_=>rfl
 | a :: l,n + 1,b=>by simp [ao,dV l n b]
theorem ra {β:Type}:∀ (l:List β) (n:Nat) (b:β) (i:Nat),n < l.length->(ao l n b)[i]? = if i=n then some b else l[i]?
 | [],_,_,_,h=>by simp at h
 | _ :: _,0,_,0,_=>rfl
 | _ :: _,0,_,i + 1,_=>by simp [ao]
 | a :: l,n + 1,b,0,_=>by simp [ao]
 | a :: l,n + 1,b,i + 1,h=>by
  have:=ra l n b i (by simpa using h)
  simp [ao,this]
theorem RP.slLen (h:RP s R x l):Go.Ab.slLen x=some l.length:=by
 rcases h with ⟨rfl,rfl⟩ | ⟨xs,rfl,hl,hb,h⟩
 ·rfl
 ·simp [Go.Ab.slLen,hl]
theorem RP.slSize (h:RP s R x l):Go.Ab.slSize x s=true:=by
 rcases h with ⟨rfl,rfl⟩ | ⟨xs,rfl,hl,hb,h⟩
 ·rfl
 ·simp [Go.Ab.slSize]
theorem RP.row (h:RP s R x l) {i:Nat} {a:α} (hi:l[i]? = some a):∃ e,Go.Ab.pel x i=some e/\R i e a/\(∀ j y,e[j]? = some y->aG [(i,j)] x=some y) /\
  ∀ j ys,bj [] x i j ys=some (.sl true s (ao (kU x) i (bi e j ys))):=by
 rcases h with ⟨rfl,rfl⟩ | ⟨xs,rfl,hl,hb,h⟩
 ·simp at hi
 ·have hlt:=(EG.1 hi).1
  have hx:xs[i]? = some (xs[i]'(by omega)):=EH _
  refine ⟨_,hx,h i _ a hx hi,fun j y hy=>?_,fun j ys=>?_⟩
  ·simp only [aG,hx,hy]
  ·simp only [bj,aG,mu,hx,iV,kU]
theorem RP.ED (h:RP s R x l) {i:Nat} {a b:α} (hi:l[i]? = some a) {e:List TV} (hS:S i e b) (hR:∀ j e c,j≠i->R j e c->S j e c):RP s S (.sl true s (ao (kU x) i e)) (l.set i b):=by
 rcases h with ⟨rfl,rfl⟩ | ⟨xs,rfl,hl,hb,h⟩
 ·simp at hi
 ·have hlt:=(EG.1 hi).1
  refine .inr ⟨_,rfl,by simp [dV,kU,hl],by simp [dV,kU,hb],fun j e' c hj hc=>?_⟩
  rw [ra _ _ _ _ (by simp only [kU]; omega)] at hj
  simp only [kU] at hj
  rw [List.getElem?_set] at hc
  by_cases hji:j=i
  ·subst hji
   simp [hlt] at hj hc
   subst hj hc
   exact hS
  ·rw [if_neg hji] at hj
   rw [if_neg (fun h=>hji h.symm)] at hc
   exact hR j _ _ hji (h j _ _ hj hc)
theorem RP.set (h:RP s R x l) {i:Nat} {a:α} (hi:l[i]? = some a) {e:List TV} (hS:S i e a) (hR:∀ j e c,j≠i->R j e c->S j e c):RP s S (.sl true s (ao (kU x) i e)) l:=by
 have:=RP.ED h hi hS hR
 rwa [CL hi] at this
theorem RP.toRL {T:List TV->α->Prop} (h:RP s R x l) (hm:∀ i e a,i < l.length->R i e a->T e a):RL (some true) s T x l:=by
 rcases h with ⟨rfl,rfl⟩ | ⟨xs,rfl,hl,hb,h⟩
 ·exact .nil
 ·refine .sl (by simp) (F2.yL hl fun i e a he ha=>hm i e a ?_ (h i e a he ha)) hb
  exact (EG.1 ha).1
theorem RL.toRP {T:List TV->α->Prop} (h:RL (some true) s T x l) (hm:∀ i e a,T e a->R i e a):RP s R x l:=by
 rcases h with ⟨rfl,rfl⟩ | ⟨o,xs,rfl,hq,h,hb⟩
 ·exact .inl ⟨rfl,rfl⟩
 ·have:o=true:=hq true rfl
  subst this
  refine .inr ⟨xs,rfl,h.length,hb,fun i e a he ha=>?_⟩
  obtain ⟨e',he',hr⟩:=h.get ha
  rw [he] at he'
  cases he'
  exact hm _ _ _ hr
end
theorem ql:∀ (xs:List (List TV)),(∀ e ∈ xs,bm e=true)->lV xs=true
 | [],_=>rfl
 | e :: xs,h=>by
  simp only [lV,EJ]
  exact ⟨h e EN,ql xs fun e he=>h e (EO _ he)⟩
theorem F2.memL {α β:Type} {R:α->β->Prop} {xs:List α} {l:List β} (h:F2 R xs l) {e:α} (he:e ∈ xs):∃ a,a ∈ l/\R e a:=by
 obtain ⟨i,hi,rfl⟩:=List.mem_iff_getElem.1 he
 obtain ⟨a,ha,hr⟩:=h.getL (EH hi)
 exact ⟨a,EP ha,hr⟩
theorem RL.own {α:Type} {s:Nat} {R:List TV->α->Prop} {x:TV} {l:List α} (h:RL (some true) s R x l) (hm:∀ e a,R e a->bm e=true):isOwn x=true:=by
 rcases h with ⟨rfl,rfl⟩ | ⟨o,xs,rfl,hq,h,hb⟩
 ·rfl
 ·rw [hq true rfl]
  simp only [isOwn,Bool.true_and]
  refine ql _ fun e he=>?_
  obtain ⟨a,_,hr⟩:=h.memL he
  exact hm _ _ hr
theorem RI1.own {e:List TV} {n:Int} (h:RI1 e n):bm e=true:=by obtain ⟨rfl,_⟩:=h; rfl
theorem RW1.own {e:List TV} {n:Int} (h:RW1 e n):bm e=true:=by obtain ⟨rfl,_⟩:=h; rfl
theorem sU {α:Type} {q:Option Bool} {s:Nat} {R:List TV->α->Prop} {x:TV} {l:List α} (h:RL q s R x l) (z:List TV) {xs:List (List TV)} (hx:pelems s x=some xs):∃ y,pcopy s (.sl true s (List.replicate l.length z)) xs=some y/\RL (some true) s R y l:=by
 have hl:F2 R xs l/\xs.length<=9223372036854775807:=by
  rcases h with ⟨rfl,rfl⟩ | ⟨o,ys,rfl,hq,h,hb⟩
  ·change some []=some xs at hx; cases hx; exact ⟨.nil,by simp⟩
  ·simp [pelems] at hx; subst hx; exact ⟨h,hb⟩
 have hlen:=hl.1.length
 refine ⟨.sl true s (xs.take l.length ++ (List.replicate l.length z).drop xs.length),by simp [pcopy],?_⟩
 rw [<- hlen,List.take_length,List.drop_eq_nil_of_le (by simp),List.append_nil]
 exact .sl (by simp) hl.1 hl.2
end Go.Ab
namespace Go.Ab.T12
open Go Go.Ab Go.Proofs
theorem r7 {q : Option Bool} {e : List TV} {m : DMod} (hm : RMod q e m) : ∃ b, ap prog 7 [.agg e] (B b) ∧ (b = true → ph m) := by
 obtain ⟨x,rfl,hx⟩:=hm
 have no:∀ {p:Prg TV},aa prog 7 p (B false)->∃ b,aa prog 7 p (B b)/\(b=true->ph m):=fun h=>⟨false,h,nofun⟩
 by_cases hlen:m.funcs.length<=20
 ·have outer : ∀ d i (n : Int), i + d = m.funcs.length → 0 ≤ n → n ≤ (i : Int) * 4900 → (∀ j, j < i → ∀ f, m.funcs[j]? = some f → Cq f) → ∃ b, aa prog 7 (f7_0 (I n) (I i) x) (B b) ∧ (b = true → ph m) := by
   intro d
   induction d with
   | zero =>
    intro i n hi h0 hn hs
    have hi:i=m.funcs.length:=by omega
    subst hi
    refine ⟨decide (n<=2000),?_,fun _=>⟨hlen,hs⟩⟩
    unfold f7_0
    refine aa.tv (RL.len (by assumption)) (aa.tv rfl (aa.ite bg nofun fun _=>?_))
    exact aa.tv rfl aa.ret
   | succ d ih =>
    intro i n hi h0 hn hs
    have hk:i < m.funcs.length:=by omega
    have ha:m.funcs[i]? = some m.funcs[i]:=EH hk
    obtain ⟨e,he,hr⟩:=hx.idx (k:=.i64) ha
    generalize m.funcs[i]=f at ha hr
    obtain ⟨y,rfl,hy,_⟩:=hr
    by_cases hbl:f.blocks.length<=70
    ·have mid : ∀ d k (n : Int), k + d = f.blocks.length → 0 ≤ n → n ≤ (i : Int) * 4900 + k * 70 → (∀ j, j < k → ∀ b, f.blocks[j]? = some b → BD b) → ∃ b, aa prog 7 (f7_1 (I n) (I i) (I k) x) (B b) ∧ (b = true → ph m) := by
      intro d
      induction d with
      | zero =>
       intro k n hk' h0 hn hsb
       have hk':k=f.blocks.length:=by omega
       subst hk'
       obtain ⟨b,hb,himp⟩:=ih (i + 1) n (by omega) h0 (by simp; omega) (fun j hj g hg=>by
        by_cases hji:j=i
        ·subst hji; rw [ha] at hg; cases hg; exact ⟨hbl,fun j hj=>hsb j hj⟩
        ·exact hs j (by omega) g hg)
       refine ⟨b,?_,himp⟩
       unfold f7_1
       refine aa.tvs he (aa.chk rfl (aa.tv hy.len (aa.tv rfl (aa.ite bg nofun fun _=>?_))))
       exact aa.tv (inc hk hx.bnd) (f7_0_J hb)
      | succ d ihm =>
       intro k n hk' h0 hn hsb
       have hkb:k < f.blocks.length:=by omega
       have hab:f.blocks[k]? = some f.blocks[k]:=EH hkb
       obtain ⟨e2,he2,hr2⟩:=hy.idx (k:=.i64) hab
       generalize f.blocks[k]=b at hab hr2
       obtain ⟨c,is,g,rfl,hc,hd,his,hg,ho⟩:=hr2
       have start:∀ r,(¬ (b.ins.length<=70/\b.pad.catches.length<=20/\b.fin.args.length<=20)->r=B false)->(b.ins.length<=70/\b.pad.catches.length<=20/\b.fin.args.length<=20->aa prog 7 (f7_2 (I (n + b.ins.length)) (I i) (I k) (I (0:Nat)) x (B b.landing) (I b.pad.dst) c (B b.pad.all) (B b.pad.cleanup) is (I b.fin.kind) (I b.fin.a) (I b.fin.dst) (I b.fin.f) g (I b.fin.to) (I b.fin.els) (I b.fin.pad)) r)->aa prog 7 (f7_1 (I n) (I i) (I k) x) r:=by
        intro r h1 h2
        unfold f7_1
        refine aa.tvs he (aa.chk rfl (aa.tv hy.len (aa.tv rfl (aa.ite (a7 hkb) (fun _=>?_) nofun))))
        refine aa.tvs he (aa.chk rfl (aa.tvs he2 (aa.chk rfl (aa.tv his.len (aa.tv rfl (aa.ite rfl (fun h=>?_) fun g1=>?_))))))
        ·rw [h1 (by simp at h; omega)]; exact aa.ret
        ·refine aa.tv hc.len (aa.tv rfl (aa.ite rfl (fun h=>?_) fun g2=>?_))
         ·rw [h1 (by simp at h; omega)]; exact aa.ret
         ·refine aa.tv hg.len (aa.tv rfl (aa.ite rfl (fun h=>?_) fun g3=>?_))
          ·rw [h1 (by simp at h; omega)]; exact aa.ret
          ·simp at g1 g2 g3
           refine aa.tv his.len (aa.tv (padd (by constructor <;> omega)) (f7_2_J (h2 ⟨by omega,by omega,by omega⟩)))
       by_cases hsz:b.ins.length<=70/\b.pad.catches.length<=20/\b.fin.args.length<=20
       ·have inner:∀ d j,j + d=b.ins.length->(∀ t,t < j->∀ x,b.ins[t]? = some x->x.args.length<=20)->∃ r,aa prog 7 (f7_2 (I (n + b.ins.length)) (I i) (I k) (I j) x (B b.landing) (I b.pad.dst) c (B b.pad.all) (B b.pad.cleanup) is (I b.fin.kind) (I b.fin.a) (I b.fin.dst) (I b.fin.f) g (I b.fin.to) (I b.fin.els) (I b.fin.pad)) (B r)/\(r=true->ph m):=by
         intro d
         induction d with
         | zero =>
          intro j hj hs2
          have hj:j=b.ins.length:=by omega
          subst hj
          obtain ⟨r,hb,himp⟩:=ihm (k + 1) (n + b.ins.length) (by omega) (by omega) (by simp; omega) (fun j hj g hg=>by
           by_cases hji:j=k
           ·subst hji; rw [hab] at hg; cases hg; exact ⟨hsz.1,hsz.2.1,hsz.2.2,hs2⟩
           ·exact hsb j (by omega) g hg)
          refine ⟨r,?_,himp⟩
          unfold f7_2
          refine aa.tv (RL.len (by assumption)) (aa.tv rfl (aa.ite bg nofun fun _=>?_))
          exact aa.tv (inc hkb hy.bnd) (f7_1_J hb)
         | succ d ihi =>
          intro j hj hs2
          have hjb:j < b.ins.length:=by omega
          have hax:b.ins[j]? = some b.ins[j]:=EH hjb
          obtain ⟨e3,he3,hr3⟩:=his.idx (k:=.i64) hax
          generalize b.ins[j]=u at hax hr3
          obtain ⟨v,rfl,hv,_⟩:=hr3
          by_cases hu:u.args.length<=20
          ·obtain ⟨r,hb,himp⟩:=ihi (j + 1) (by omega) (fun t ht z hz=>by
            by_cases htj:t=j
            ·subst htj; rw [hax] at hz; cases hz; exact hu
            ·exact hs2 t (by omega) z hz)
           refine ⟨r,?_,himp⟩
           unfold f7_2
           refine aa.tv (RL.len (by assumption)) (aa.tv rfl (aa.ite (a7 hjb) (fun _=>?_) nofun))
           refine aa.tvs he3 (aa.chk rfl (aa.tv hv.len (aa.tv rfl (aa.ite rfl (fun h=>?_) fun _=>?_))))
           ·simp at h; omega
           ·exact aa.tv (inc hjb his.bnd) (f7_2_J hb)
          ·refine no ?_
           unfold f7_2
           refine aa.tv (RL.len (by assumption)) (aa.tv rfl (aa.ite (a7 hjb) (fun _=>?_) nofun))
           refine aa.tvs he3 (aa.chk rfl (aa.tv hv.len (aa.tv rfl (aa.ite rfl (fun h=>aa.ret) fun h=>?_))))
           simp at h; omega
        obtain ⟨r,hb,himp⟩:=inner b.ins.length 0 (by omega) (fun t ht=>by omega)
        exact ⟨r,start _ (fun h=>absurd hsz h) (fun _=>hb),himp⟩
       ·exact no (start _ (fun _=>rfl) (fun h=>absurd h hsz))
     obtain ⟨b,hb,himp⟩:=mid f.blocks.length 0 n (by omega) h0 (by simp; omega) (fun j hj=>by omega)
     refine ⟨b,?_,himp⟩
     unfold f7_0
     refine aa.tv (RL.len (by assumption)) (aa.tv rfl (aa.ite (a7 hk) (fun _=>?_) nofun))
     refine aa.tvs he (aa.chk rfl (aa.tv hy.len (aa.tv rfl (aa.ite rfl (fun h=>?_) fun _=>?_))))
     ·simp at h; omega
     ·exact f7_1_J hb
    ·refine no ?_
     unfold f7_0
     refine aa.tv (RL.len (by assumption)) (aa.tv rfl (aa.ite (a7 hk) (fun _=>?_) nofun))
     refine aa.tvs he (aa.chk rfl (aa.tv hy.len (aa.tv rfl (aa.ite rfl (fun h=>aa.ret) fun h=>?_))))
     simp at h; omega
  obtain ⟨b,hb,himp⟩:=outer m.funcs.length 0 0 (by omega) (by omega) (by simp) (fun j hj=>by omega)
  refine ⟨b,?_,himp⟩
  refine ap.of (f7_MR _) ?_
  unfold f7_M
  refine aa.chk rfl (aa.tv hx.len (aa.tv rfl (aa.ite rfl (fun h=>?_) fun _=>f7_0_J hb)))
  simp at h; omega
 ·refine ⟨false,?_,nofun⟩
  refine ap.of (f7_MR _) ?_
  unfold f7_M
  refine aa.chk rfl (aa.tv hx.len (aa.tv rfl (aa.ite rfl (fun _=>aa.ret) fun h=>?_)))
  simp at h; omega
theorem r39 {q:Option Bool} {x:TV} {l:List Int} (hx:RL q 1 RW1 x l) (hl:l.length<=4294967296):∃ y,ap prog 26 [x] y/\RL (some true) 1 RW1 y l:=by
 obtain ⟨xs,hxs,_⟩:=hx.elems
 obtain ⟨y,hy,hr⟩:=sU hx [.lit (.int .u16 0)] hxs
 have hn:=bh (k:=l.length) (by omega)
 have hle:(Nat.ble l.length 4294967296)=true:=by simpa using hl
 have hle':(Nat.ble l.length l.length)=true:=by simp
 have hown:=hr.own fun _ _ h=>h.own
 rcases hx with ⟨rfl,rfl⟩ | ⟨o,ys,rfl,hq,h,hb⟩
 ·refine ⟨.lit aV,?_,.nil⟩
  refine ap.of (f26_MR _) ?_
  unfold f26_M
  exact aa.tv rfl (aa.ite rfl (fun _=>aa.chk rfl aa.ret) nofun)
 ·refine ⟨y,?_,hr⟩
  refine ap.of (f26_MR _) ?_
  unfold f26_M
  refine aa.tv rfl (aa.ite rfl nofun fun _=>?_)
  refine aa.tv (v:=I l.length) (by simp [plen,h.length]) (aa.nat hn (aa.nat hn (aa.chk (by rw [hle,hle']; rfl) (aa.rws hxs (aa.tv hy (aa.nat rfl (aa.chk hown aa.ret)))))))
theorem r41 {q:Option Bool} {x:TV} {l:List Int} (hx:RL q 1 RI1 x l) (hl:l.length<=4294967296):∃ y,ap prog 45 [x] y/\RL (some true) 1 RI1 y l:=by
 obtain ⟨xs,hxs,_⟩:=hx.elems
 obtain ⟨y,hy,hr⟩:=sU hx [.lit (.int .i64 0)] hxs
 have hn:=bh (k:=l.length) (by omega)
 have hle:(Nat.ble l.length 4294967296)=true:=by simpa using hl
 have hle':(Nat.ble l.length l.length)=true:=by simp
 have hown:=hr.own fun _ _ h=>h.own
 rcases hx with ⟨rfl,rfl⟩ | ⟨o,ys,rfl,hq,h,hb⟩
 ·refine ⟨.lit aV,?_,.nil⟩
  refine ap.of (f45_MR _) ?_
  unfold f45_M
  exact aa.tv rfl (aa.ite rfl (fun _=>aa.chk rfl aa.ret) nofun)
 ·refine ⟨y,?_,hr⟩
  refine ap.of (f45_MR _) ?_
  unfold f45_M
  refine aa.tv rfl (aa.ite rfl nofun fun _=>?_)
  refine aa.tv (v:=I l.length) (by simp [plen,h.length]) (aa.nat hn (aa.nat hn (aa.chk (by rw [hle,hle']; rfl) (aa.rws hxs (aa.tv hy (aa.nat rfl (aa.chk hown aa.ret)))))))
end Go.Ab.T12
end
section
set_option maxRecDepth 10000
namespace Go.Ab
section
variable {α β:Type} {p:Way} {w y:TV} {s:Nat} {R:List TV->α->Prop} {Q:TV->β->Prop} {G:List α->DMod} {l:List α}
theorem RL.at (hy:RL (some true) s R y l) {k:Nat} {e:List TV} (he:Go.Ab.pel y k=some e):∃ xs,y=.sl true s xs/\xs[k]? = some e/\F2 R xs l/\xs.length<=9223372036854775807:=by
 rcases hy with ⟨rfl,rfl⟩ | ⟨o,xs,rfl,hq,h,hb⟩
 ·simp [Go.Ab.pel] at he
 ·have:o=true:=hq true rfl
  subst this
  exact ⟨xs,rfl,he,h,hb⟩
end
end Go.Ab
namespace Go.Ab.T12
open Go Go.Ab Go.Proofs
end Go.Ab.T12
end
section
set_option maxRecDepth 10000
namespace Go.Ab
section
variable {α:Type} {s:Nat} {R:List TV->α->Prop} {y:TV} {l:List α}
theorem RL.mz (hy:RL (some true) s R y l) {i:Nat} {e:List TV} (he:Go.Ab.pel y i=some e) {d:Nat} {ys:List TV} {a:α} (hR:R (bi e d ys) a):∃ y',bj [] y i d ys=some y'/\RL (some true) s R y' (l.set i a):=by
 obtain ⟨xs,rfl,hk,hf,hb⟩:=hy.at he
 refine ⟨.sl true s (ao xs i (bi e d ys)),by simp only [bj,aG,mu,hk,iV],.sl (by simp) (hf.set hR) (by rw [dV]; exact hb)⟩
end
end Go.Ab
namespace Go.Ab.T12
open Go Go.Ab Go.Proofs
end Go.Ab.T12
end
section
set_option maxRecDepth 10000
namespace Go.Ab
inductive Thr (m:DMod):Nat->Prop
 | thr {n i:Nat} {u:DFunc} {b:DBlock} (hu:m.funcs[n]? = some u) (hb:u.blocks[i]? = some b) (h:b.fin.kind=5\/b.fin.kind=6):Thr m n
 | inv {n i:Nat} {u:DFunc} {b pb:DBlock} (hu:m.funcs[n]? = some u) (hb:u.blocks[i]? = some b) (h:b.fin.kind=4) (hp:u.blocks[b.fin.pad.toNat]? = some pb) (ha:pb.pad.all=false) (ht:Thr m b.fin.f.toNat):Thr m n
 | call {n i k:Nat} {u:DFunc} {b:DBlock} {x:DIns} (hu:m.funcs[n]? = some u) (hb:u.blocks[i]? = some b) (hx:b.ins[k]? = some x) (h:x.op=11) (ht:Thr m x.f.toNat):Thr m n
inductive Doe (m:DMod) (P:Int->Prop):Nat->Prop
 | own {n i k:Nat} {u:DFunc} {b:DBlock} {x:DIns} (hu:m.funcs[n]? = some u) (hb:u.blocks[i]? = some b) (hx:b.ins[k]? = some x) (h:P x.op):Doe m P n
 | inv {n i:Nat} {u:DFunc} {b:DBlock} (hu:m.funcs[n]? = some u) (hb:u.blocks[i]? = some b) (h:b.fin.kind=4) (ht:Doe m P b.fin.f.toNat):Doe m P n
 | call {n i k:Nat} {u:DFunc} {b:DBlock} {x:DIns} (hu:m.funcs[n]? = some u) (hb:u.blocks[i]? = some b) (hx:b.ins[k]? = some x) (h:x.op=11) (ht:Doe m P x.f.toNat):Doe m P n
def kQ (F:List Bool) (b:DBlock):Prop:=∃ x ∈ b.ins,x.op=11/\F[x.f.toNat]? = some true
def A9 (F:List Bool) (b:DBlock):Prop:=b.fin.kind=4/\F[b.fin.f.toNat]? = some true
def xT (F:List Bool) (u:DFunc) (b:DBlock):Prop:=(b.fin.kind=5\/b.fin.kind=6)\/kQ F b\/(A9 F b/\∃ pb,u.blocks[b.fin.pad.toNat]? = some pb/\pb.pad.all=false)
def sQ (P:Int->Prop) (F:List Bool) (u:DFunc) (b:DBlock):Prop:=(∃ x ∈ b.ins,P x.op)\/kQ F b\/A9 F b
def vz (X:Nat->Prop) (F:List Bool):Prop:=∀ k:Nat,F[k]? = some true->X k
def ma (D:List Bool->DFunc->DBlock->Prop) (F:List Bool) (u:DFunc):Prop:=∃ b ∈ u.blocks,D F u b
def ClsL (m:DMod) (D:List Bool->DFunc->DBlock->Prop) (F:List Bool):Prop:=∀ (n:Nat) u,m.funcs[n]? = some u->ma D F u->F[n]? = some true
structure vv (m:DMod) (D:List Bool->DFunc->DBlock->Prop) (X:Nat->Prop):Prop where
 up:∀ F,vz X F->∀ (n:Nat) u,m.funcs[n]? = some u->ma D F u->X n
 dn:∀ F,ClsL m D F->∀ n,X n->F[n]? = some true
theorem uK {m:DMod} {X:Nat->Prop} {F:List Bool} {b:DBlock} (h:vz X F) (hc:kQ F b):∃ (k:Nat) (x:DIns),b.ins[k]? = some x/\x.op=11/\X x.f.toNat:=by
 obtain ⟨x,hx,h11,hF⟩:=hc
 obtain ⟨k,hk,rfl⟩:=List.mem_iff_getElem.1 hx
 exact ⟨k,_,EH hk,h11,h _ hF⟩
theorem AQ (m:DMod):vv m xT (Thr m):=by
 refine ⟨fun F hs n u hu ⟨b,hb,h⟩=>?_,fun F hc n h=>?_⟩
 ·obtain ⟨i,hi,rfl⟩:=List.mem_iff_getElem.1 hb
  have hbi:=EH hi
  rcases h with h | h | ⟨⟨h4,hF⟩,pb,hp,ha⟩
  ·exact .thr hu hbi h
  ·obtain ⟨k,x,hx,h11,ht⟩:=uK (m:=m) hs h
   exact .call hu hbi hx h11 ht
  ·exact .inv hu hbi h4 hp ha (hs _ hF)
 ·induction h with
  | thr hu hb h=>exact hc _ _ hu ⟨_,EP hb,.inl h⟩
  | inv hu hb h hp ha _ ih=>exact hc _ _ hu ⟨_,EP hb,.inr (.inr ⟨⟨h,ih⟩,_,hp,ha⟩)⟩
  | call hu hb hx h _ ih=>exact hc _ _ hu ⟨_,EP hb,.inr (.inl ⟨_,EP hx,h,ih⟩)⟩
theorem tF (m:DMod) (P:Int->Prop):vv m (sQ P) (Doe m P):=by
 refine ⟨fun F hs n u hu ⟨b,hb,h⟩=>?_,fun F hc n h=>?_⟩
 ·obtain ⟨i,hi,rfl⟩:=List.mem_iff_getElem.1 hb
  have hbi:=EH hi
  rcases h with ⟨x,hx,hP⟩ | h | ⟨h4,hF⟩
  ·obtain ⟨k,hk,rfl⟩:=List.mem_iff_getElem.1 hx
   exact .own hu hbi (EH hk) hP
  ·obtain ⟨k,x,hx,h11,ht⟩:=uK (m:=m) hs h
   exact .call hu hbi hx h11 ht
  ·exact .inv hu hbi h4 (hs _ hF)
 ·induction h with
  | own hu hb hx h=>exact hc _ _ hu ⟨_,EP hb,.inl ⟨_,EP hx,h⟩⟩
  | inv hu hb h _ ih=>exact hc _ _ hu ⟨_,EP hb,.inr (.inr ⟨h,ih⟩)⟩
  | call hu hb hx h _ ih=>exact hc _ _ hu ⟨_,EP hb,.inr (.inl ⟨_,EP hx,h,ih⟩)⟩
theorem uP (x:TV):yK x x=true:=by
 unfold yK
 exact Bool.or_eq_true _ _ |>.mpr (.inr (@decide_eq_true _ (Classical.propDecidable _) rfl))
theorem D4 {M:List Bool} {g:Nat} (h:M[g]? = some false):(M.set g true).count false + 1=M.count false:=by
 obtain ⟨hlt,hg⟩:=EG.1 h
 have hpos:0 < M.count false:=List.count_pos_iff.2 (EP h)
 rw [List.count_set hlt]
 simp [hg]
 omega
structure vu (m:DMod) (D:List Bool->DFunc->DBlock->Prop) (X:Nat->Prop) (F0 F:List Bool) (g:Bool) (n:Nat):Prop where
 len:F.length=m.funcs.length
 snd:vz X F
 no:g=false->F=F0/\∀ (k:Nat) u,k < n->m.funcs[k]? = some u->ma D F u->F[k]? = some true
 yes:g=true->F.count false < F0.count false
theorem vu.start {m:DMod} {D:List Bool->DFunc->DBlock->Prop} {X:Nat->Prop} {F:List Bool} (hl:F.length=m.funcs.length) (hs:vz X F):vu m D X F F false 0 :=
 ⟨hl,hs,fun _=>⟨rfl,fun k u h=>absurd h (Nat.not_lt_zero _)⟩,nofun⟩
theorem vu.hit {m:DMod} {D:List Bool->DFunc->DBlock->Prop} {X:Nat->Prop} {F0 F:List Bool} {g:Bool} {n:Nat} {u:DFunc} (hX:vv m D X) (h:vu m D X F0 F g n) (hn:F[n]? = some false) (hu:m.funcs[n]? = some u) (hh:ma D F u):vu m D X F0 (F.set n true) true (n + 1):=by
 have hlt:=(EG.1 hn).1
 refine ⟨by rw [List.length_set]; exact h.len,fun k hk=>?_,nofun,fun _=>?_⟩
 ·by_cases e:k=n
  ·subst e; exact hX.up F h.snd _ u hu hh
  ·rw [List.getElem?_set_ne (Ne.symm e)] at hk
   exact h.snd k hk
 ·have:=D4 hn
  cases g with
  | true=>have:=h.yes rfl; omega
  | false=>have:=(h.no rfl).1; subst this; omega
theorem vu.miss {m:DMod} {D:List Bool->DFunc->DBlock->Prop} {X:Nat->Prop} {F0 F:List Bool} {g:Bool} {n:Nat} (h:vu m D X F0 F g n) (hn:F[n]? = some true\/∀ u,m.funcs[n]? = some u->¬ ma D F u):vu m D X F0 F g (n + 1):=by
 refine ⟨h.len,h.snd,fun hg=>⟨(h.no hg).1,fun k u hk hu hh=>?_⟩,h.yes⟩
 by_cases e:k=n
 ·subst e
  rcases hn with hn | hn
  ·exact hn
  ·exact absurd hh (hn u hu)
 ·exact (h.no hg).2 k u (by omega) hu hh
theorem mX {A:AProg} {f:FuncId} {m:DMod} {D:List Bool->DFunc->DBlock->Prop} {X:Nat->Prop} (hX:vv m D X) {P0:Bool->TV->Prg TV} {P1:Bool->Nat->TV->Prg TV}
  (h0t:∀ w y,aa A f (P1 false 0 w) y->aa A f (P0 true w) y)
  (h0f:∀ w F,RBools (some true) w F->aa A f (P0 false w) w)
  (h1e:∀ g w y,aa A f (P0 g w) y->aa A f (P1 g m.funcs.length w) y)
  (h1s : ∀ g n w F c u y, F.length = m.funcs.length → RBools (some true) w F → F[n]? = some c → m.funcs[n]? = some u →
   ((c=true\/¬ ma D F u)->aa A f (P1 g (n + 1) w) y)->(∀ w',bj [] w n 0 [B true]=some w'->c=false->ma D F u->aa A f (P1 true (n + 1) w') y)->aa A f (P1 g n w) y) :
  ∀ (d:Nat) (F:List Bool) (w:TV),F.count false<=d->F.length=m.funcs.length->vz X F->RBools (some true) w F ->
   ∃ y F',aa A f (P0 true w) y/\RBools (some true) y F'/\F'.length=m.funcs.length/\∀ k:Nat,F'[k]? = some true ↔ X k:=by
 have fin:∀ {w F},F.length=m.funcs.length->vz X F->ClsL m D F->RBools (some true) w F->∃ y F',aa A f (P0 false w) y/\RBools (some true) y F'/\F'.length=m.funcs.length/\∀ k:Nat,F'[k]? = some true ↔ X k :=
  fun hl hs hc hw=>⟨_,_,h0f _ _ hw,hw,hl,fun k=>⟨hs k,hX.dn _ hc k⟩⟩
 have row:∀ (F0:List Bool) (K:∀ F w,F.count false < F0.count false->F.length=m.funcs.length->vz X F->RBools (some true) w F->∃ y F',aa A f (P0 true w) y/\RBools (some true) y F'/\F'.length=m.funcs.length/\∀ k:Nat,F'[k]? = some true ↔ X k),
   ∀ (d n:Nat) (F:List Bool) (g:Bool) (w:TV),n + d=m.funcs.length->vu m D X F0 F g n->RBools (some true) w F->∃ y F',aa A f (P1 g n w) y/\RBools (some true) y F'/\F'.length=m.funcs.length/\∀ k:Nat,F'[k]? = some true ↔ X k:=by
  intro F0 K d
  induction d with
  | zero =>
   intro n F g w hn hr hw
   have hn:n=m.funcs.length:=by omega
   subst hn
   cases g with
   | true =>
    obtain ⟨y,F',h1,h2⟩:=K F w (hr.yes rfl) hr.len hr.snd hw
    exact ⟨y,F',h1e _ _ _ h1,h2⟩
   | false =>
    obtain ⟨y,F',h1,h2⟩:=fin hr.len hr.snd (fun k u hu hh=>(hr.no rfl).2 k u (EG.1 hu).1 hu hh) hw
    exact ⟨y,F',h1e _ _ _ h1,h2⟩
  | succ d ih =>
   intro n F g w hn hr hw
   have hlt:n < m.funcs.length:=by omega
   have hu:=EH hlt
   have hc:F[n]? = some (F[n]'(by rw [hr.len]; exact hlt)):=EH _
   generalize m.funcs[n]=u at hu
   generalize F[n]'(by rw [hr.len]; exact hlt)=c at hc
   by_cases hm:c=true\/¬ ma D F u
   ·obtain ⟨y,F',h1,h2⟩:=ih (n + 1) F g w (by omega) (hr.miss (hm.imp (fun e=>by rw [hc,e]) fun h v hv=>by rw [hu] at hv; cases hv; exact h)) hw
    exact ⟨y,F',h1s g n w F c u y hr.len hw hc hu (fun _=>h1) (fun w' _ e hh=>by
     rcases hm with h | h
     ·rw [e] at h; cases h
     ·exact absurd hh h),h2⟩
   ·have hcf:c=false:=by
     cases c with
     | false=>rfl
     | true=>exact absurd (.inl rfl) hm
    subst hcf
    have hh:ma D F u:=Classical.byContradiction fun h=>hm (.inr h)
    obtain ⟨e,he,hR⟩:=hw.pel hc
    cases hR
    obtain ⟨w1,hs1,hw1⟩:=hw.mz he (d:=0) (ys:=[B true]) (a:=true) rfl
    obtain ⟨y,F',h1,h2⟩:=ih (n + 1) (F.set n true) true w1 (by omega) (hr.hit hX hc hu hh) hw1
    refine ⟨y,F',h1s g n w F false u y hr.len hw hc hu (fun h=>absurd h hm) (fun w' hs' _ _=>?_),h2⟩
    rw [hs1] at hs'
    cases hs'
    exact h1
 intro d
 induction d with
 | zero =>
  intro F w hd hl hs hw
  obtain ⟨y,F',h1,h2⟩:=row F (fun F' w' h=>by omega) m.funcs.length 0 F false w (by omega) (.start hl hs) hw
  exact ⟨y,F',h0t _ _ h1,h2⟩
 | succ d ih =>
  intro F w hd hl hs hw
  obtain ⟨y,F',h1,h2⟩:=row F (fun F' w' h hl' hs' hw'=>ih F' w' (by omega) hl' hs' hw') m.funcs.length 0 F false w (by omega) (.start hl hs) hw
  exact ⟨y,F',h0t _ _ h1,h2⟩
end Go.Ab
end
section
set_option maxRecDepth 10000
namespace Go.Ab
structure GI (m:DMod) (X:Nat->Prop) (F0 F:List Bool) (Z:List Bool->Prop):Prop where
 len:F.length=m.funcs.length
 snd:vz X F
 two:(F.count false < F0.count false/\∃ k:Nat,F0[k]? = some false/\X k)\/(F=F0/\Z F0)
def ZnL (m:DMod) (D:List Bool->DFunc->DBlock->Prop) (n:Nat) (F:List Bool):Prop:=∀ (k:Nat) u,k < n->m.funcs[k]? = some u->ma D F u->F[k]? = some true
section
variable {m:DMod} {D E:List Bool->DFunc->DBlock->Prop} {Q:List Bool->DIns->Prop} {X:Nat->Prop} {F0 F:List Bool} {Z Z':List Bool->Prop}
end
def IsX (m:DMod) (X:Nat->Prop) (y:TV):Prop:=∃ F:List Bool,RBools (some true) y F/\F.length=m.funcs.length/\∀ k:Nat,F[k]? = some true ↔ X k
end Go.Ab
end
section
set_option maxRecDepth 10000
namespace Go.Ab
theorem kF {a c:Int}:asBool (.lit (.bool (a == c)))=some (decide (a=c)):=by
 by_cases h:a=c
 ·subst h; simp [asBool]
 ·have h1:(a == c)=false:=by simpa using h
  simp only [asBool,h1,decide_eq_false h]
theorem Cf {α:Type} {q:Option Bool} {s:Nat} {R:List TV->α->Prop} {x:TV} {l:List α} (h:RL q s R x l):x.dG=true:=by
 rcases h with ⟨rfl,rfl⟩ | ⟨o,xs,rfl,_⟩ <;> rfl
theorem pt {p:Prop}:asBool (B (tt p))=some (tt p):=rfl
def yi (N:Nat) (u:DFunc) (b:DBlock):Prop:=(∀ x ∈ b.ins,x.op=11->0<=x.f/\x.f.toNat < N)/\(b.fin.kind=4->(0<=b.fin.f/\b.fin.f.toNat < N)/\0<=b.fin.pad/\∃ pb,u.blocks[b.fin.pad.toNat]? = some pb)
end Go.Ab
namespace Go.Ab.T12
open Go Go.Ab Go.Proofs
theorem rE {m:DMod} (h:bB m) {n k:Nat} {u:DFunc} {b:DBlock} (hu:m.funcs[n]? = some u) (hb:u.blocks[k]? = some b):yi m.funcs.length u b:=by
 have hB:=(h.2.2 n (EG.1 hu).1 u hu).2.2.2 k (EG.1 hb).1 b hb
 refine ⟨fun x hx h11=>?_,fun h4=>?_⟩
 ·obtain ⟨i,hi,rfl⟩:=List.mem_iff_getElem.1 hx
  have:=(hB.2.2.1 i hi _ (EH hi)).2.2.2.2.2
  rw [h11] at this
  obtain ⟨h0,g,hg,_⟩:=this.1 rfl
  exact ⟨h0,(EG.1 hg).1⟩
 ·obtain ⟨_,_,_,hc,_,_,hp⟩:=hB.2.2.2
  rw [h4] at hc hp
  obtain ⟨h0,g,hg,_⟩:=hc.1 rfl
  obtain ⟨h1,pb,hpb,_⟩:=hp.1 rfl
  exact ⟨⟨h0,(EG.1 hg).1⟩,h1,pb,hpb⟩
section
variable {q q':Option Bool} {w:TV} {F:List Bool} (hw:RBools q w F)
include hw
theorem Az {x:TV} {l:List DIns} (hx:RL q' 7 (RIns q') x l) (hn:∀ y ∈ l,y.op=11->0<=y.f/\y.f.toNat < F.length):∀ (d i:Nat),i + d=l.length ->
  aa prog 20 (f20_0 x (I l.length) (I i) w) (B (tt (∃ j,i<=j/\∃ y,l[j]? = some y/\y.op=11/\F[y.f.toNat]? = some true))):=by
 have hbnd:=hx.bnd
 intro d
 induction d with
 | zero =>
  intro i hi
  have hi:i=l.length:=by omega
  subst hi
  rw [eF (by rintro ⟨j,hj,y,hy,_⟩; have:=(EG.1 hy).1; omega)]
  unfold f20_0
  exact aa.tv rfl (aa.ite bg nofun fun _=>aa.tv rfl aa.ret)
 | succ d ih =>
  intro i hi
  have hlt:i < l.length:=by omega
  have hy:=EH hlt
  generalize l[i]=y at hy
  obtain ⟨e,he,hR⟩:=hx.idx (k:=.i64) hy
  obtain ⟨g,rfl,hg,ho⟩:=hR
  have hnext:=ih (i + 1) (by omega)
  have split:(∃ j,i<=j/\∃ y,l[j]? = some y/\y.op=11/\F[y.f.toNat]? = some true) ↔ (y.op=11/\F[y.f.toNat]? = some true)\/∃ j,i + 1<=j/\∃ y,l[j]? = some y/\y.op=11/\F[y.f.toNat]? = some true:=by
   constructor
   ·rintro ⟨j,hj,y',hy',h⟩
    by_cases e:j=i
    ·subst e; rw [hy] at hy'; cases hy'; exact .inl h
    ·exact .inr ⟨j,by omega,y',hy',h⟩
   ·rintro (h | ⟨j,hj,h⟩)
    ·exact ⟨i,Nat.le_refl _,y,hy,h⟩
    ·exact ⟨j,by omega,h⟩
  rw [bZ split]
  unfold f20_0
  refine aa.tv rfl (aa.ite (a7 hlt) (fun _=>?_) nofun)
  refine aa.tvs he (aa.chk rfl (aa.tv rfl (aa.ite kF (fun h=>?_) fun h=>?_)))
  ·have h11:y.op=11:=by simpa using h
   obtain ⟨h0,hlf⟩:=hn y (EP hy) h11
   have hc:=EH hlf
   generalize F[y.f.toNat]=c at hc
   obtain ⟨e2,he2,hR2⟩:=hw.bv (k:=.i64) h0 hc
   cases hR2
   refine aa.tvs he2 (aa.chk rfl (aa.ite rfl (fun h=>?_) fun h=>?_))
   ·have hcc:c=true:=h
    subst hcc
    rw [cg (.inl ⟨h11,hc⟩)]
    exact aa.tv (v:=B true) (by show some (TV.lit (.bool (decide ((i:Int) >= 0))))=_; rw [decide_eq_true (by omega)]) aa.ret
   ·have hcc:c=false:=h
    subst hcc
    rw [bZ (p':=∃ j,i + 1<=j/\∃ y,l[j]? = some y/\y.op=11/\F[y.f.toNat]? = some true) ⟨fun h=>h.elim (fun h=>by rw [hc] at h; cases h.2) id,.inr⟩]
    exact aa.tv (inc hlt hbnd) (f20_0_J hnext)
  ·have h11:¬ y.op=11:=by simpa using h
   rw [bZ (p':=∃ j,i + 1<=j/\∃ y,l[j]? = some y/\y.op=11/\F[y.f.toNat]? = some true) ⟨fun h=>h.elim (fun h=>absurd h.1 h11) id,.inr⟩]
   exact aa.tv (inc hlt hbnd) (f20_0_J hnext)
theorem sF {e:List TV} {u:DFunc} {b:DBlock} (he:RBlock q' e b) (hn:yi F.length u b):ap prog 20 [.agg e,w] (B (tt (kQ F b))):=by
 obtain ⟨c,i,g,rfl,_,_,hi,_⟩:=he
 have h:=Az hw hi hn.1 b.ins.length 0 (by omega)
 rw [bZ (p':=kQ F b) ⟨fun ⟨j,_,y,hy,h⟩=>⟨y,EP hy,h⟩,fun ⟨y,hy,h⟩=>by
  obtain ⟨j,hj,rfl⟩:=List.mem_iff_getElem.1 hy
  exact ⟨j,Nat.zero_le _,_,EH hj,h⟩⟩] at h
 refine ap.of (f20_MR _ _) ?_
 unfold f20_M
 exact aa.chk rfl (aa.chk (Cf hw) (aa.tv hi.len (f20_0_J h)))
theorem mI {e:List TV} {u:DFunc} {b:DBlock} (he:RBlock q' e b) (hn:yi F.length u b):ap prog 21 [.agg e,w] (B (tt (A9 F b))):=by
 obtain ⟨c,i,g,rfl,_⟩:=he
 refine ap.of (f21_MR _ _) ?_
 unfold f21_M
 refine aa.chk rfl (aa.tv rfl (aa.ite kF (fun h=>?_) fun h=>?_))
 ·have h4:b.fin.kind=4:=by simpa using h
  obtain ⟨h0,hlf⟩:=(hn.2 h4).1
  have hc:=EH hlf
  generalize F[b.fin.f.toNat]=c at hc
  obtain ⟨e2,he2,hR2⟩:=hw.bv (k:=.i64) h0 hc
  cases hR2
  refine aa.tvs he2 (aa.chk rfl ?_)
  exact dN ⟨fun h=>⟨h4,by rw [hc,h]⟩,fun h=>by have:=h.2; rw [hc] at this; exact Option.some.inj this⟩
 ·have h4:¬ b.fin.kind=4:=by simpa using h
  exact bk fun h=>h4 h.1
end
end Go.Ab.T12
end

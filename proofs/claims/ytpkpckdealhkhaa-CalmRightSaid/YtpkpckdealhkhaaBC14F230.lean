import Derived.Test.YtpkpckdealhkhaaBC14F12
import Derived.Test.YtpkpckdealhkhaaBC14F6
set_option linter.all false
section
set_option maxRecDepth 10000
namespace Go.Ab
inductive Thr (m:DMod):Nat->Prop
 | thr {n i:Nat} {u:DFunc} {b:DBlock} (hu:m.funcs[n]? = some u) (hb:u.blocks[i]? = some b) (h:b.fin.kind=5\/b.fin.kind=6):Thr m n
 | inv {n i:Nat} {u:DFunc} {b pb:DBlock} (hu:m.funcs[n]? = some u) (hb:u.blocks[i]? = some b) (h:b.fin.kind=4) (hp:u.blocks[b.fin.pad.toNat]? = some pb) (ha:pb.pad.all=false) (ht:Thr m b.fin.f.toNat):Thr m n
 | call {n i k:Nat} {u:DFunc} {b:DBlock} {x:DIns} (hu:m.funcs[n]? = some u) (hb:u.blocks[i]? = some b) (hx:b.ins[k]? = some x) (h:x.op=11) (ht:Thr m x.f.toNat):Thr m n
def mH (F:List Bool) (b:DBlock):Prop:=∃x∈b.ins,x.op=11/\F[x.f.toNat]? = some true
def BK (F:List Bool) (b:DBlock):Prop:=b.fin.kind=4/\F[b.fin.f.toNat]? = some true
def oK (F:List Bool) (u:DFunc) (b:DBlock):Prop:=(b.fin.kind=5\/b.fin.kind=6)\/mH F b\/(BK F b/\∃pb,u.blocks[b.fin.pad.toNat]? = some pb/\pb.pad.all=false)
def pB (X:Nat->Prop) (F:List Bool):Prop:=∀k:Nat,F[k]? = some true->X k
def oH (D:List Bool->DFunc->DBlock->Prop) (F:List Bool) (u:DFunc):Prop:=∃b∈u.blocks,D F u b
def AL (m:DMod) (D:List Bool->DFunc->DBlock->Prop) (F:List Bool):Prop:=∀(n:Nat) u,m.funcs[n]? = some u->oH D F u->F[n]? = some true
structure tz (m:DMod) (D:List Bool->DFunc->DBlock->Prop) (X:Nat->Prop):Prop where
 up:∀F,pB X F->∀(n:Nat) u,m.funcs[n]? = some u->oH D F u->X n
 dn:∀F,AL m D F->∀n,X n->F[n]? = some true
theorem xM {m:DMod} {X:Nat->Prop} {F:List Bool} {b:DBlock} (h:pB X F) (hc:mH F b):∃(k:Nat) (x:DIns),b.ins[k]? = some x/\x.op=11/\X x.f.toNat:=by
 obtain⟨x,hx,h11,hF⟩:=hc
 obtain⟨k,hk,rfl⟩:=List.mem_iff_getElem.1 hx
 exact⟨k,_,Ci hk,h11,h _ hF⟩
theorem nk (m:DMod):tz m oK (Thr m):=by
 refine⟨fun F hs n u hu ⟨b,hb,h⟩=>?_,fun F hc n h=>?_⟩
 ·obtain⟨i,hi,rfl⟩:=List.mem_iff_getElem.1 hb
  have hbi:=Ci hi
  rcases h with h|h|⟨⟨h4,hF⟩,pb,hp,ha⟩
  ·exact .thr hu hbi h
  ·obtain⟨k,x,hx,h11,ht⟩:=xM (m:=m) hs h
   exact .call hu hbi hx h11 ht
  ·exact .inv hu hbi h4 hp ha (hs _ hF)
 ·induction h with
  | thr hu hb h=>exact hc _ _ hu ⟨_,Cq hb,.inl h⟩
  | inv hu hb h hp ha _ ih=>exact hc _ _ hu ⟨_,Cq hb,.inr (.inr ⟨⟨h,ih⟩,_,hp,ha⟩)⟩
  | call hu hb hx h _ ih=>exact hc _ _ hu ⟨_,Cq hb,.inr (.inl ⟨_,Cq hx,h,ih⟩)⟩
theorem kv (x:TV):rh x x=true:=by
 unfold rh
 exact Bool.or_eq_true _ _ |>.mpr (.inr (@decide_eq_true _ (Classical.propDecidable _) rfl))
theorem xg {M:List Bool} {g:Nat} (h:M[g]? = some false):(M.set g true).count false+1=M.count false:=by
 obtain⟨hlt,hg⟩:=Ch.1 h
 have hpos:0<M.count false:=List.count_pos_iff.2 (Cq h)
 rw[List.count_set hlt]
 simp[hg]
 omega
structure t8 (m:DMod) (D:List Bool->DFunc->DBlock->Prop) (X:Nat->Prop) (F0 F:List Bool) (g:Bool) (n:Nat):Prop where
 len:F.length=m.funcs.length
 snd:pB X F
 no:g=false->F=F0/\∀(k:Nat) u,k<n->m.funcs[k]? = some u->oH D F u->F[k]? = some true
 yes:g=true->F.count false<F0.count false
theorem t8.start {m:DMod} {D:List Bool->DFunc->DBlock->Prop} {X:Nat->Prop} {F:List Bool} (hl:F.length=m.funcs.length) (hs:pB X F):t8 m D X F F false 0 :=
 ⟨hl,hs,fun _=>⟨rfl,fun k u h=>absurd h (Nat.not_lt_zero _)⟩,nofun⟩
theorem t8.hit {m:DMod} {D:List Bool->DFunc->DBlock->Prop} {X:Nat->Prop} {F0 F:List Bool} {g:Bool} {n:Nat} {u:DFunc} (hX:tz m D X) (h:t8 m D X F0 F g n) (hn:F[n]? = some false) (hu:m.funcs[n]? = some u) (hh:oH D F u):t8 m D X F0 (F.set n true) true (n+1):=by
 have hlt:=(Ch.1 hn).1
 refine⟨by rw[List.length_set];exact h.len,fun k hk=>?_,nofun,fun _=>?_⟩
 ·by_cases e:k=n
  ·subst e;exact hX.up F h.snd _ u hu hh
  ·rw[List.getElem?_set_ne (Ne.symm e)]at hk
   exact h.snd k hk
 ·have:=xg hn
  cases g with
  | true=>have:=h.yes rfl;omega
  | false=>have:=(h.no rfl).1;subst this;omega
theorem t8.miss {m:DMod} {D:List Bool->DFunc->DBlock->Prop} {X:Nat->Prop} {F0 F:List Bool} {g:Bool} {n:Nat} (h:t8 m D X F0 F g n) (hn:F[n]? = some true\/∀u,m.funcs[n]? = some u->¬oH D F u):t8 m D X F0 F g (n+1):=by
 refine⟨h.len,h.snd,fun hg=>⟨(h.no hg).1,fun k u hk hu hh=>?_⟩,h.yes⟩
 by_cases e:k=n
 ·subst e
  rcases hn with hn|hn
  ·exact hn
  ·exact absurd hh (hn u hu)
 ·exact(h.no hg).2 k u (by omega) hu hh
theorem wm {A:AProg} {f:FuncId} {m:DMod} {D:List Bool->DFunc->DBlock->Prop} {X:Nat->Prop} (hX:tz m D X) {P0:Bool->TV->Prg TV} {P1:Bool->Nat->TV->Prg TV}
  (h0t:∀w y,aa A f (P1 false 0 w) y->aa A f (P0 true w) y)
  (h0f:∀w F,RBools (some true) w F->aa A f (P0 false w) w)
  (h1e:∀g w y,aa A f (P0 g w) y->aa A f (P1 g m.funcs.length w) y)
  (h1s : ∀ g n w F c u y, F.length = m.funcs.length → RBools (some true) w F → F[n]? = some c → m.funcs[n]? = some u →
   ((c=true\/¬oH D F u)->aa A f (P1 g (n+1) w) y)->(∀w',fK [] w n 0 [B true]=some w'->c=false->oH D F u->aa A f (P1 true (n+1) w') y)->aa A f (P1 g n w) y) :
  ∀(d:Nat) (F:List Bool) (w:TV),F.count false<=d->F.length=m.funcs.length->pB X F->RBools (some true) w F ->
   ∃y F',aa A f (P0 true w) y/\RBools (some true) y F'/\F'.length=m.funcs.length/\∀k:Nat,F'[k]? = some true ↔ X k:=by
 have fin:∀{w F},F.length=m.funcs.length->pB X F->AL m D F->RBools (some true) w F->∃y F',aa A f (P0 false w) y/\RBools (some true) y F'/\F'.length=m.funcs.length/\∀k:Nat,F'[k]? = some true ↔ X k :=
  fun hl hs hc hw=>⟨_,_,h0f _ _ hw,hw,hl,fun k=>⟨hs k,hX.dn _ hc k⟩⟩
 have row:∀(F0:List Bool) (K:∀F w,F.count false<F0.count false->F.length=m.funcs.length->pB X F->RBools (some true) w F->∃y F',aa A f (P0 true w) y/\RBools (some true) y F'/\F'.length=m.funcs.length/\∀k:Nat,F'[k]? = some true ↔ X k),
   ∀(d n:Nat) (F:List Bool) (g:Bool) (w:TV),n+d=m.funcs.length->t8 m D X F0 F g n->RBools (some true) w F->∃y F',aa A f (P1 g n w) y/\RBools (some true) y F'/\F'.length=m.funcs.length/\∀k:Nat,F'[k]? = some true ↔ X k:=by
  intro F0 K d
  induction d with
  | zero =>
   intro n F g w hn hr hw
   have hn:n=m.funcs.length:=by omega
   subst hn
   cases g with
   | true =>
    obtain⟨y,F',h1,h2⟩:=K F w (hr.yes rfl) hr.len hr.snd hw
    exact⟨y,F',h1e _ _ _ h1,h2⟩
   | false =>
    obtain⟨y,F',h1,h2⟩:=fin hr.len hr.snd (fun k u hu hh=>(hr.no rfl).2 k u (Ch.1 hu).1 hu hh) hw
    exact⟨y,F',h1e _ _ _ h1,h2⟩
  | succ d ih =>
   intro n F g w hn hr hw
   have hlt:n<m.funcs.length:=by omega
   have hu:=Ci hlt
   have hc:F[n]? = some (F[n]'(by rw[hr.len];exact hlt)):=Ci _
   generalize m.funcs[n]=u at hu
   generalize F[n]'(by rw[hr.len];exact hlt)=c at hc
   by_cases hm:c=true\/¬oH D F u
   ·obtain⟨y,F',h1,h2⟩:=ih (n+1) F g w (by omega) (hr.miss (hm.imp (fun e=>by rw[hc,e]) fun h v hv=>by rw[hu]at hv;cases hv;exact h)) hw
    exact⟨y,F',h1s g n w F c u y hr.len hw hc hu (fun _=>h1) (fun w' _ e hh=>by
     rcases hm with h|h
     ·rw[e]at h;cases h
     ·exact absurd hh h),h2⟩
   ·have hcf:c=false:=by
     cases c with
     | false=>rfl
     | true=>exact absurd (.inl rfl) hm
    subst hcf
    have hh:oH D F u:=Classical.byContradiction fun h=>hm (.inr h)
    obtain⟨e,he,hR⟩:=hw.pel hc
    cases hR
    obtain⟨w1,hs1,hw1⟩:=hw.vz he (d:=0) (ys:=[B true]) (a:=true) rfl
    obtain⟨y,F',h1,h2⟩:=ih (n+1) (F.set n true) true w1 (by omega) (hr.hit hX hc hu hh) hw1
    refine⟨y,F',h1s g n w F false u y hr.len hw hc hu (fun h=>absurd h hm) (fun w' hs' _ _=>?_),h2⟩
    rw[hs1]at hs'
    cases hs'
    exact h1
 intro d
 induction d with
 | zero =>
  intro F w hd hl hs hw
  obtain⟨y,F',h1,h2⟩:=row F (fun F' w' h=>by omega) m.funcs.length 0 F false w (by omega) (.start hl hs) hw
  exact⟨y,F',h0t _ _ h1,h2⟩
 | succ d ih =>
  intro F w hd hl hs hw
  obtain⟨y,F',h1,h2⟩:=row F (fun F' w' h hl' hs' hw'=>ih F' w' (by omega) hl' hs' hw') m.funcs.length 0 F false w (by omega) (.start hl hs) hw
  exact⟨y,F',h0t _ _ h1,h2⟩
end Go.Ab
end
section
set_option maxRecDepth 10000
namespace Go.Ab
def pz (b:DBlock):DBlock:={ b with ins:=b.ins ++ [⟨11,b.fin.dst,0,0,0,b.fin.f,b.fin.args⟩],fin:=⟨2,0,0,0,[],b.fin.to,0,0⟩ }
structure CalmP (m n:DMod) (C:Nat->Nat->Prop) (X:DFunc->DBlock->Prop):Prop where
 here:∀(i:Nat) u,m.funcs[i]? = some u->∃u',n.funcs[i]? = some u'/\u'.params=u.params/\u'.regs=u.regs/\∀(j:Nat) b,u.blocks[j]? = some b->∃b',u'.blocks[j]? = some b'/\((¬C i j/\b'=b)\/(C i j/\b.fin.kind=4/\X u b/\b'=pz b))
end Go.Ab
namespace Go.Ab.C14
open Go Go.Ab Go.Proofs
section
variable {m n:DMod} {C:Nat->Nat->Prop} {X:DFunc->DBlock->Prop} (hM:ln m) (hC:CalmP m n C X)
include hM hC
end
end Go.Ab.C14
end
section
set_option maxRecDepth 10000
namespace Go.Ab
def mapU (F:List DBlock->DBlock->DBlock) (m:DMod):DMod:=⟨m.funcs.map fun u=>{ u with blocks:=u.blocks.map (F u.blocks) }⟩
end Go.Ab
namespace Go.Ab.C14
open Go Go.Ab Go.Proofs
section
variable {F:DBlock->DBlock}
end
section
variable {m:DMod} {F:List DBlock->DBlock->DBlock}
end
open Classical in
noncomputable def nY (m:DMod):DMod:=mapU (fun _ b=>if b.fin.kind=4/\¬Thr m b.fin.f.toNat/\b.ins.length<64 then pz b else b) m
end Go.Ab.C14
end
section
set_option maxRecDepth 10000
namespace Go.Ab
theorem dY {a c:Int}:asBool (.lit (.bool (a==c)))=some (decide (a=c)):=by
 by_cases h:a=c
 ·subst h;simp[asBool]
 ·have h1:(a==c)=false:=by simpa using h
  simp only[asBool,h1,decide_eq_false h]
theorem As {α:Type} {q:Option Bool} {s:Nat} {R:List TV->α->Prop} {x:TV} {l:List α} (h:RL q s R x l):x.gT=true:=by
 rcases h with⟨rfl,rfl⟩|⟨o,xs,rfl,_⟩<;>rfl
theorem AQ {p:Prop}:asBool (B (tt p))=some (tt p):=rfl
def wd (N:Nat) (u:DFunc) (b:DBlock):Prop:=(∀x∈b.ins,x.op=11->0<=x.f/\x.f.toNat<N)/\(b.fin.kind=4->(0<=b.fin.f/\b.fin.f.toNat<N)/\0<=b.fin.pad/\∃pb,u.blocks[b.fin.pad.toNat]? = some pb)
end Go.Ab
namespace Go.Ab.C14
open Go Go.Ab Go.Proofs
theorem pJ {m:DMod} (h:ln m) {n k:Nat} {u:DFunc} {b:DBlock} (hu:m.funcs[n]? = some u) (hb:u.blocks[k]? = some b):wd m.funcs.length u b:=by
 have hB:=(h.2.2 n (Ch.1 hu).1 u hu).2.2.2 k (Ch.1 hb).1 b hb
 refine⟨fun x hx h11=>?_,fun h4=>?_⟩
 ·obtain⟨i,hi,rfl⟩:=List.mem_iff_getElem.1 hx
  have:=(hB.2.2.1 i hi _ (Ci hi)).2.2.2.2.2
  rw[h11]at this
  obtain⟨h0,g,hg,_⟩:=this.1 rfl
  exact⟨h0,(Ch.1 hg).1⟩
 ·obtain⟨_,_,_,hc,_,_,hp⟩:=hB.2.2.2
  rw[h4]at hc hp
  obtain⟨h0,g,hg,_⟩:=hc.1 rfl
  obtain⟨h1,pb,hpb,_⟩:=hp.1 rfl
  exact⟨⟨h0,(Ch.1 hg).1⟩,h1,pb,hpb⟩
section
variable {q q':Option Bool} {w:TV} {F:List Bool} (hw:RBools q w F)
include hw
theorem yH {x:TV} {l:List DIns} (hx:RL q' 7 (RIns q') x l) (hn:∀y∈l,y.op=11->0<=y.f/\y.f.toNat<F.length):∀(d i:Nat),i+d=l.length ->
  aa prog 35 (f35_0 x (I l.length) (I i) w) (B (tt (∃j,i<=j/\∃y,l[j]? = some y/\y.op=11/\F[y.f.toNat]? = some true))):=by
 have hbnd:=hx.bnd
 intro d
 induction d with
 | zero =>
  intro i hi
  have hi:i=l.length:=by omega
  subst hi
  rw[gH (by rintro⟨j,hj,y,hy,_⟩;have:=(Ch.1 hy).1;omega)]
  unfold f35_0
  exact aa.tv rfl (aa.ite aI nofun fun _=>aa.tv rfl aa.ret)
 | succ d ih =>
  intro i hi
  have hlt:i<l.length:=by omega
  have hy:=Ci hlt
  generalize l[i]=y at hy
  obtain⟨e,he,hR⟩:=hx.idx (k:=.i64) hy
  obtain⟨g,rfl,hg,ho⟩:=hR
  have hnext:=ih (i+1) (by omega)
  have split:(∃j,i<=j/\∃y,l[j]? = some y/\y.op=11/\F[y.f.toNat]? = some true) ↔ (y.op=11/\F[y.f.toNat]? = some true)\/∃j,i+1<=j/\∃y,l[j]? = some y/\y.op=11/\F[y.f.toNat]? = some true:=by
   constructor
   ·rintro⟨j,hj,y',hy',h⟩
    by_cases e:j=i
    ·subst e;rw[hy]at hy';cases hy';exact .inl h
    ·exact .inr ⟨j,by omega,y',hy',h⟩
   ·rintro(h|⟨j,hj,h⟩)
    ·exact⟨i,Nat.le_refl _,y,hy,h⟩
    ·exact⟨j,by omega,h⟩
  rw[be split]
  unfold f35_0
  refine aa.tv rfl (aa.ite (aH hlt) (fun _=>?_) nofun)
  refine aa.tvs he (aa.chk rfl (aa.tv rfl (aa.ite dY (fun h=>?_) fun h=>?_)))
  ·have h11:y.op=11:=by simpa using h
   obtain⟨h0,hlf⟩:=hn y (Cq hy) h11
   have hc:=Ci hlf
   generalize F[y.f.toNat]=c at hc
   obtain⟨e2,he2,hR2⟩:=hw.ru (k:=.i64) h0 hc
   cases hR2
   refine aa.tvs he2 (aa.chk rfl (aa.ite rfl (fun h=>?_) fun h=>?_))
   ·have hcc:c=true:=h
    subst hcc
    rw[dH (.inl ⟨h11,hc⟩)]
    exact aa.tv (v:=B true) (by show some (TV.lit (.bool (decide ((i:Int) >= 0))))=_;rw[decide_eq_true (by omega)]) aa.ret
   ·have hcc:c=false:=h
    subst hcc
    rw[be (p':=∃j,i+1<=j/\∃y,l[j]? = some y/\y.op=11/\F[y.f.toNat]? = some true) ⟨fun h=>h.elim (fun h=>by rw[hc]at h;cases h.2) id,.inr⟩]
    exact aa.tv (inc hlt hbnd) (f35_0_J hnext)
  ·have h11:¬y.op=11:=by simpa using h
   rw[be (p':=∃j,i+1<=j/\∃y,l[j]? = some y/\y.op=11/\F[y.f.toNat]? = some true) ⟨fun h=>h.elim (fun h=>absurd h.1 h11) id,.inr⟩]
   exact aa.tv (inc hlt hbnd) (f35_0_J hnext)
theorem AC {e:List TV} {u:DFunc} {b:DBlock} (he:RBlock q' e b) (hn:wd F.length u b):ao prog 35 [.agg e,w] (B (tt (mH F b))):=by
 obtain⟨c,i,g,rfl,_,_,hi,_⟩:=he
 have h:=yH hw hi hn.1 b.ins.length 0 (by omega)
 rw[be (p':=mH F b) ⟨fun⟨j,_,y,hy,h⟩=>⟨y,Cq hy,h⟩,fun⟨y,hy,h⟩=>by
  obtain⟨j,hj,rfl⟩:=List.mem_iff_getElem.1 hy
  exact⟨j,Nat.zero_le _,_,Ci hj,h⟩⟩]at h
 refine ao.of (f35_MR _ _) ?_
 unfold f35_M
 exact aa.chk rfl (aa.chk (As hw) (aa.tv hi.len (f35_0_J h)))
theorem wj {e:List TV} {u:DFunc} {b:DBlock} (he:RBlock q' e b) (hn:wd F.length u b):ao prog 36 [.agg e,w] (B (tt (BK F b))):=by
 obtain⟨c,i,g,rfl,_⟩:=he
 refine ao.of (f36_MR _ _) ?_
 unfold f36_M
 refine aa.chk rfl (aa.tv rfl (aa.ite dY (fun h=>?_) fun h=>?_))
 ·have h4:b.fin.kind=4:=by simpa using h
  obtain⟨h0,hlf⟩:=(hn.2 h4).1
  have hc:=Ci hlf
  generalize F[b.fin.f.toNat]=c at hc
  obtain⟨e2,he2,hR2⟩:=hw.ru (k:=.i64) h0 hc
  cases hR2
  refine aa.tvs he2 (aa.chk rfl ?_)
  exact aJ ⟨fun h=>⟨h4,by rw[hc,h]⟩,fun h=>by have:=h.2;rw[hc]at this;exact Option.some.inj this⟩
 ·have h4:¬b.fin.kind=4:=by simpa using h
  exact aD fun h=>h4 h.1
end
end Go.Ab.C14
end
section
set_option maxRecDepth 10000
namespace Go.Ab
theorem geq0 {i:Nat}:pbin (.int .i64) .geq (I (i:Int)) (I 0)=some (B true):=by
 show some (TV.lit (.bool (decide ((i:Int) >= 0))))=_
 rw[decide_eq_true (by omega)]
theorem repF {n:Nat} (hn:n<=4294967296):RBools (some true) (.sl true 1 (List.replicate n [B false])) (List.replicate n false):=by
 refine .sl (by simp) ?_ (by simp;omega)
 clear hn
 induction n with
 | zero=>exact .nil
 | succ n ih=>exact .cons rfl ih
theorem vb {X:Nat->Prop} {n:Nat}:pB X (List.replicate n false):=fun k h=>by
 have:=List.eq_of_mem_replicate (Cq h)
 cases this
end Go.Ab
namespace Go.Ab.C14
open Go Go.Ab Go.Proofs
section
variable {q:Option Bool} {b w:TV} {m:DMod} (hb:RL q 3 (RFunc q) b m.funcs) (hM:ln m) {F:List Bool} (hl:F.length=m.funcs.length) (hw:RBools (some true) w F)
include hb hM hl hw
theorem outBlk {n:Nat} {u:DFunc} {bl:TV} {g:Bool} {y:TV} (hu:m.funcs[n]? = some u) (hbl:RL q 14 (RBlock q) bl u.blocks) (hF:F[n]? = some false)
  (miss:¬oH oK F u->aa prog 18 (f18_1 (B g) b (I m.funcs.length) (I (n+1:Nat)) b w) y)
  (hit:∀w',fK [] w n 0 [B true]=some w'->oH oK F u->aa prog 18 (f18_1 (B true) b (I m.funcs.length) (I (n+1:Nat)) b w') y) :
  ∀(d i:Nat),i+d=u.blocks.length->(∀j,j<i->∀c,u.blocks[j]? = some c->¬oK F u c) ->
   aa prog 18 (f18_2 bl (I u.blocks.length) (I i) (I u.params) (I u.regs) bl b w (B g) (I n) b (I m.funcs.length) (I n) (B true)) y:=by
 have hN:=hM.1
 have hbnd:=hbl.bnd
 have hlt:=(Ch.1 hF).1
 obtain⟨e0,he0,hR0⟩:=hw.pel hF
 cases hR0
 obtain⟨w1,hs1,hw1⟩:=hw.vz he0 (d:=0) (ys:=[B true]) (a:=true) rfl
 have ann:aB (I (n:Int))=some n:=aK (by omega)
 have hchk:(slSize w 1&&Nat.blt n F.length)=true:=by rw[hw.slSize];simpa using hlt
 have hinc:pbin (.int .i64) .add (I (n:Int)) (I (1:Int))=some (I ((n+1:Nat):Int)):=inc hlt (by omega)
 intro d
 induction d with
 | zero =>
  intro i hi hno
  have hi:i=u.blocks.length:=by omega
  subst hi
  unfold f18_2
  refine aa.tv rfl (aa.ite aI nofun fun _=>aa.tv (v:=B false) rfl (aa.ite (v:=true) rfl (fun _=>aa.ite (v:=false) rfl nofun fun _=>?_) nofun))
  refine aa.tv hinc (f18_1_J (miss ?_))
  rintro⟨c,hc,h⟩
  obtain⟨j,hj,rfl⟩:=List.mem_iff_getElem.1 hc
  exact hno j hj _ (Ci hj) h
 | succ d ih =>
  intro i hi hno
  have hil:i<u.blocks.length:=by omega
  have hc:=Ci hil
  generalize u.blocks[i]=c at hc
  have hnm:=pJ hM hu hc
  rw[<-hl]at hnm
  obtain⟨e,he,hR⟩:=hbl.idx (k:=.i64) hc
  have hR':=hR
  obtain⟨c2,c5,c10,rfl,h2,hd,h5,h10,hok⟩:=hR'
  have hwz:=hw.frz (S:=RB1) fun _ _ h=>h.frz
  have hcl:=AC hwz hR hnm
  have hiv:=wj hwz hR hnm
  have yes:oK F u c->aa prog 18 (f18_1 (B true) b (I m.funcs.length) (I (n+1:Nat)) b w1) y:=fun h=>hit w1 hs1 ⟨c,Cq hc,h⟩
  have no:¬oK F u c->aa prog 18 (f18_2 bl (I u.blocks.length) (I (i+1:Nat)) (I u.params) (I u.regs) bl b w (B g) (I n) b (I m.funcs.length) (I n) (B true)) y:=fun h =>
   ih (i+1) (by omega) fun j hj c' hc' h'=>by
    by_cases e:j=i
    ·subst e;rw[hc]at hc';cases hc';exact h h'
    ·exact hno j (by omega) c' hc' h'
  have three : ∀ z : Bool, (z = true ↔ c.fin.kind = 5 ∨ c.fin.kind = 6) →
    aa prog 18 (f18_3 (B z) w (I u.params) (I u.regs) bl (B c.landing) (I c.pad.dst) c2 (B c.pad.all) (B c.pad.cleanup) c5 (I c.fin.kind) (I c.fin.a) (I c.fin.dst) (I c.fin.f) c10 (I c.fin.to) (I c.fin.els) (I c.fin.pad) b (I u.params) (I u.regs) bl (B g) (I n) b (I m.funcs.length) (I n) (B true) bl (I i) (I u.blocks.length) (I i)) y:=by
   intro z hz
   unfold f18_3
   refine aa.ite rfl (fun h=>?_) fun h=>?_
   ·have hz1:z=true:=h
    refine aa.tv geq0 (aa.ite (v:=true) rfl (fun _=>aa.ite (v:=true) rfl (fun _=>?_) nofun) nofun)
    exact aa.nat hw.slLen (aa.nat ann (aa.chk hchk (aa.tvs he0 (aa.chk rfl (aa.tv hs1 (aa.tv hinc (f18_1_J (yes (.inl (hz.1 hz1))))))))))
   ·have hz0:¬(c.fin.kind=5\/c.fin.kind=6):=fun h'=>by rw[hz.2 h']at h;cases h
    refine aa.call hcl (aa.chk rfl (aa.ite AQ (fun h=>?_) fun h=>?_))
    ·refine aa.tv geq0 (aa.ite (v:=true) rfl (fun _=>aa.ite (v:=true) rfl (fun _=>?_) nofun) nofun)
     exact aa.nat hw.slLen (aa.nat ann (aa.chk hchk (aa.tvs he0 (aa.chk rfl (aa.tv hs1 (aa.tv hinc (f18_1_J (yes (.inr (.inl (aE.1 h)))))))))))
    ·have hc0:¬mH F c:=fun h'=>by rw[dH h']at h;cases h
     refine aa.call hiv (aa.chk rfl (aa.ite AQ (fun h=>?_) fun h=>?_))
     ·have hi1:=aE.1 h
      obtain⟨_,h0,pb,hpb⟩:=hnm.2 hi1.1
      obtain⟨e2,he2,hR2⟩:=hbl.ru (k:=.i64) h0 hpb
      obtain⟨p2,p5,p10,rfl,_⟩:=hR2
      refine aa.tvs he2 (aa.chk rfl (aa.tv rfl (aa.ite rfl (fun h=>?_) fun h=>?_)))
      ·have ha:pb.pad.all=false:=by simpa using h
       refine aa.tv geq0 (aa.ite (v:=true) rfl (fun _=>aa.ite (v:=true) rfl (fun _=>?_) nofun) nofun)
       exact aa.nat hw.slLen (aa.nat ann (aa.chk hchk (aa.tvs he0 (aa.chk rfl (aa.tv hs1 (aa.tv hinc (f18_1_J (yes (.inr (.inr ⟨hi1,pb,hpb,ha⟩))))))))))
      ·have ha:pb.pad.all=true:=by simpa using h
       refine aa.tv (inc hil hbnd) (f18_2_J (no ?_))
       rintro(h|h|⟨_,pb',hp',ha'⟩)
       ·exact hz0 h
       ·exact hc0 h
       ·rw[hpb]at hp';cases hp';rw[ha]at ha';cases ha'
     ·have hi0:¬BK F c:=fun h'=>by rw[dH h']at h;cases h
      refine aa.tv (inc hil hbnd) (f18_2_J (no ?_))
      rintro(h|h|⟨h,_⟩)
      ·exact hz0 h
      ·exact hc0 h
      ·exact hi0 h
  unfold f18_2
  refine aa.tv rfl (aa.ite (aH hil) (fun _=>?_) nofun)
  refine aa.tvs he (aa.chk rfl (aa.tv rfl (aa.ite dY (fun h=>?_) fun h=>?_)))
  ·have h5':c.fin.kind=5:=by simpa using h
   exact f18_3_J (three true ⟨fun _=>.inl h5',fun _=>rfl⟩)
  ·have h5':¬c.fin.kind=5:=by simpa using h
   exact aa.tv (v:=B (c.fin.kind==6)) rfl (f18_3_J (three _ ⟨fun h=>.inr (by simpa using h),fun h=>by simpa using h.resolve_left h5'⟩))
end
theorem rOut {q:Option Bool} {e:List TV} {m:DMod} (he:RMod q e m) (hM:ln m):∃y F,ao prog 18 [.agg e] y/\RBools (some true) y F/\F.length=m.funcs.length/\∀k:Nat,F[k]? = some true ↔ Thr m k:=by
 have hsh:=r8 he
 obtain⟨b,rfl,hb⟩:=he
 have hN:=hM.1
 obtain⟨y,F',h1,h2,h3,h4⟩:=wm (nk m) (A:=prog) (f:=18) (P0:=fun g w=>f18_0 (B g) b w) (P1:=fun g n w=>f18_1 (B g) b (I m.funcs.length) (I n) b w)
  (fun w y h => by
   unfold f18_0
   exact aa.ite (v:=true) rfl (fun _=>aa.tv hb.len (f18_1_J h)) nofun)
  (fun w F h => by
   unfold f18_0
   exact aa.ite (v:=false) rfl nofun fun _=>aa.chk (h.own fun _ _ h=>by cases h;rfl) aa.ret)
  (fun g w y h => by
   unfold f18_1
   exact aa.tv rfl (aa.ite aI nofun fun _=>f18_0_J h))
  (fun g n w F c u y hl hw hc hu miss hit => by
   have hlt:=(Ch.1 hu).1
   obtain⟨e1,he1,hR1⟩:=hb.idx (k:=.i64) hu
   obtain⟨bl,rfl,hbl,_⟩:=hR1
   obtain⟨e2,he2,hR2⟩:=hw.pel hc
   cases hR2
   unfold f18_1
   refine aa.tv rfl (aa.ite (aH hlt) (fun _=>?_) nofun)
   refine aa.tvs he1 (aa.chk rfl (aa.nat hw.slLen (aa.nat (aK (by omega)) (aa.chk (by rw[hw.slSize];simpa[hl]using hlt) (aa.tvs he2 (aa.chk rfl (aa.tv rfl ?_)))))))
   cases c with
   | true=>exact aa.ite (v:=false) rfl nofun fun _=>aa.tv (inc hlt (by omega)) (f18_1_J (miss (.inl rfl)))
   | false=>exact aa.ite (v:=true) rfl (fun _=>aa.tv hbl.len (f18_2_J (outBlk hb hM hl hw hu hbl hc (fun h=>miss (.inr h)) (fun w' hs h=>hit w' hs rfl h) u.blocks.length 0 (by omega) fun j hj=>by omega))) nofun)
  m.funcs.length _ _ (by simp) (by simp) vb (repF (n:=m.funcs.length) (by omega))
 refine⟨y,F',?_,h2,h3,h4⟩
 have han:aB (I (m.funcs.length:Int))=some m.funcs.length:=aK (by omega)
 refine ao.of (f18_MR _) ?_
 unfold f18_M
 refine aa.chk rfl (aa.chk rfl (aa.call hsh (aa.chk rfl (aa.tv rfl (aa.ite rfl (fun h=>?_) fun h=>?_)))))
 ·rw[dH hM]at h;cases h
 ·exact aa.tv hb.len (aa.nat han (aa.nat han (aa.chk (by simp;omega) (f18_0_J h1))))
end Go.Ab.C14
end
section
set_option maxRecDepth 10000
namespace Go.Ab
def cG {α:Type} (f:α->α) (l:List α) (i:Nat):List α:=(l.take i).map f++l.drop i
section
variable {α:Type} {f:α->α} {l:List α} {i:Nat} {a:α}
theorem kF:cG f l 0=l:=by simp[cG]
theorem mw:cG f l l.length=l.map f:=by simp[cG]
theorem cS:(cG f l i).length=l.length:=by simp[cG];omega
theorem gK (h:l[i]? = some a):(cG f l i)[i]? = some a:=by
 have:=(Ch.1 h).1
 unfold cG
 rw[Cs (by simp;omega)]
 simp only[List.length_map,List.length_take,List.getElem?_drop]
 rw[show i+(i-min i l.length)=i by omega]
 exact h
theorem jV (h:l[i]? = some a):(cG f l i).set i (f a)=cG f l (i+1):=by
 have hi:=(Ch.1 h).1
 apply List.ext_getElem?
 intro j
 rw[List.getElem?_set]
 unfold cG
 by_cases hj:i=j
 ·subst hj
  rw[if_pos rfl,if_pos (by simp;omega),Cr (by simp;omega),Cn,List.getElem?_take_of_lt (by omega),h]
  rfl
 ·rw[if_neg hj]
  rcases Nat.lt_or_ge j i with h1|h1
  ·rw[Cr (by simp;omega),Cr (by simp;omega),Cn,Cn,List.getElem?_take_of_lt (by omega),List.getElem?_take_of_lt (by omega)]
  ·rw[Cs (by simp;omega),Cs (by simp;omega)]
   simp only[List.length_map,List.length_take,List.getElem?_drop]
   congr 1
   omega
theorem rD (h:l[i]? = some a) (e:f a=a):cG f l (i+1)=cG f l i:=by
 rw[<-jV h,e]
 apply List.ext_getElem?
 intro j
 by_cases hj:j=i
 ·subst hj
  rw[List.getElem?_set_self (by rw[cS];exact(Ch.1 h).1),gK h]
 ·rw[List.getElem?_set_ne (Ne.symm hj)]
end
theorem cJ {α:Type}:∀(l:List α) (n:Nat) (b:α),ai l n b=l.set n b
 | [],_,_=>rfl
 | _::_,0,_=>rfl
 | a::l,n+1,b=>by simp[ai,cJ l n b]
def TR (xs:List (List TV)) (n:Nat) (P R:TV) (ys:List (List TV)):TV:=.sl true 3 (ai xs n [P,R,.sl true 14 ys])
section
variable {xs ys:List (List TV)} {n k j:Nat} {P R v z:TV} {e:List TV} (hn:n<xs.length)
include hn
theorem wC:(ai xs n [P,R,.sl true 14 ys])[n]? = some [P,R,.sl true 14 ys]:=by rw[cJ,List.getElem?_set_self hn]
theorem wl:aS [(n,2)] (TR xs n P R ys)=some (.sl true 14 ys):=by
 simp only[TR,aS,wC hn]
 rfl
theorem ib (hk:ys[k]? = some e):aS [(n,2),(k,j)] (TR xs n P R ys)=(match e[j]? with|some z=>some z|none=>none):=by
 simp only[TR,aS,wC hn]
 show(match ys[k]? with|some e=>(match e[j]? with|some z=>some z|none=>none)|none=>none)=_
 rw[hk]
theorem tA (hk:ys[k]? = some e) (hj:e[j]? = some z):fP [(n,2),(k,j)] (TR xs n P R ys) v=some (TR xs n P R (ai ys k (ai e j v))):=by
 have h2:([P,R,.sl true 14 ys]:List TV)[2]? = some (.sl true 14 ys):=rfl
 simp only[TR,fP,wC hn,h2,hk,hj]
 congr 2
 simp only[cJ,List.set_set]
 rfl
theorem BH (hk:ys[k]? = some e) {cs:List TV}:fK [(n,2)] (TR xs n P R ys) k 0 cs=some (TR xs n P R (ai ys k (bu e 0 cs))):=by
 have h2:([P,R,.sl true 14 ys]:List TV)[2]? = some (.sl true 14 ys):=rfl
 unfold fK
 rw[wl hn]
 simp only[rA,hk]
 simp only[TR,fP,wC hn,h2]
 congr 2
 simp only[cJ,List.set_set]
 rfl
end
theorem Bf {α:Type} {l:List α} {k:Nat} {a b:α}:ai (ai l k a) k b=ai l k b:=by rw[cJ,cJ,cJ,List.set_set]
theorem sK {α:Type} {l:List α} {k:Nat} {a:α} (h:k<l.length):(ai l k a)[k]? = some a:=by rw[cJ,List.getElem?_set_self h]
theorem RBlock.oF {q:Option Bool} {e:List TV} {b:DBlock} (h:RBlock q e b):ab cE e 0=true:=by
 obtain⟨c,i,g,rfl,hc,_,hi,hg,_⟩:=h
 simp[ab,cE,az,TV.isSc,scV,hc.isSl,hi.isSl,hg.isSl]
def nx (bs:List DBlock):Nat:=bs.countP fun b=>decide (b.fin.kind=4)
def b7 (fs:List DFunc) (i:Nat):Nat:=((fs.take i).map fun u=>nx u.blocks).sum
def kP (m:DMod):Nat:=(m.funcs.map fun u=>nx u.blocks).sum
theorem qp (m:DMod):b7 m.funcs m.funcs.length=kP m:=by simp[b7,kP]
theorem jC {fs:List DFunc} {i:Nat} {u:DFunc} (h:fs[i]? = some u):b7 fs (i+1)=b7 fs i+nx u.blocks:=by
 unfold b7
 rw[List.take_add_one,h]
 simp
theorem si {bs:List DBlock} {j:Nat} {b:DBlock} (h:bs[j]? = some b):nx (bs.take (j+1))=nx (bs.take j)+if b.fin.kind=4 then 1 else 0:=by
 unfold nx
 rw[List.take_add_one,h]
 simp only[Option.toList_some,List.countP_append,List.countP_cons,List.countP_nil,decide_eq_true_eq]
 omega
theorem s9 (bs:List DBlock):nx bs<=bs.length:=List.countP_le_length
def fewM (m:DMod):Prop:=m.funcs.length<=1000/\∀u∈m.funcs,u.blocks.length<=1000
theorem xp {fs:List DFunc} (h:∀u∈fs,u.blocks.length<=1000):∀i,b7 fs i<=i*1000:=by
 intro i
 induction i with
 | zero=>simp[b7]
 | succ i ih =>
  cases hu:fs[i]? with
  | none =>
   have:b7 fs (i+1)=b7 fs i:=by unfold b7;rw[List.take_add_one,hu];simp
   omega
  | some u =>
   rw[jC hu]
   have:=s9 u.blocks
   have:=h u (Cq hu)
   omega
theorem sa {m:DMod} (h:gJ m):fewM m:=⟨by have:=h.1;omega,fun u hu=>by
 obtain⟨i,hi,rfl⟩:=List.mem_iff_getElem.1 hu
 have:=(h.2 i hi _ (Ci hi)).1
 omega⟩
theorem addN {a b:Nat} (h:a+b<=9223372036854775807):pbin (.int .i64) .add (I (a:Int)) (I (b:Int))=some (I ((a+b:Nat):Int)):=by
 rw[padd (by constructor<;>omega)];simp
end Go.Ab
namespace Go.Ab.C14
open Go Go.Ab Go.Proofs
theorem qM {q:Option Bool} {e:List TV} {b:DBlock} (he:RBlock q e b):ao prog 27 [.agg e] (B (decide (b.fin.kind=4))):=by
 obtain⟨c,i,g,rfl,_⟩:=he
 refine ao.of (f27_MR _) ?_
 unfold f27_M
 refine aa.chk rfl (aa.tv rfl ?_)
 have:(b.fin.kind==4)=decide (b.fin.kind=4):=rfl
 rw[<-this]
 exact aa.ret
theorem yE {q q':Option Bool} {e:List TV} {b:DBlock} {w:TV} {F:List Bool} (he:RBlock q e b) (hw:RBools q' w F) (hn:b.fin.kind=4->0<=b.fin.f/\b.fin.f.toNat<F.length):ao prog 25 [.agg e,w] (B (tt (b.fin.kind=4/\F[b.fin.f.toNat]? = some false))):=by
 have h0:=qM he
 obtain⟨c,i,g,rfl,_⟩:=he
 refine ao.of (f25_MR _ _) ?_
 unfold f25_M
 refine aa.chk rfl (aa.call h0 (aa.chk rfl ?_))
 by_cases h4:b.fin.kind=4
 ·obtain⟨g0,g1⟩:=hn h4
  have hc:=Ci g1
  generalize F[b.fin.f.toNat]=x at hc
  obtain⟨e2,he2,hR2⟩:=hw.ru (k:=.i64) g0 hc
  cases hR2
  refine aa.ite (v:=true) (by simp[asBool,h4]) (fun _=>?_) nofun
  refine aa.tvs he2 (aa.chk rfl (aa.tv (v:=B (!x)) rfl ?_))
  refine aJ ⟨fun h=>⟨h4,by rw[hc];cases x<;>simp at h<;>rfl⟩,fun h=>?_⟩
  have:=h.2
  rw[hc]at this
  cases this
  rfl
 ·exact aa.ite (v:=false) (by simp[asBool,h4]) nofun fun _=>aD fun h=>h4 h.1
theorem rMany {q:Option Bool} {e:List TV} {m:DMod} (he:RMod q e m) (hf:fewM m):ao prog 10 [.agg e] (I (kP m:Nat)):=by
 obtain⟨x,rfl,hx⟩:=he
 have hle:=xp hf.2
 have inner:∀{i:Nat} {u:DFunc} {y:TV} {r:TV},m.funcs[i]? = some u->RL q 14 (RBlock q) y u.blocks->aa prog 10 (f10_0 (I (b7 m.funcs (i+1):Nat)) x (I m.funcs.length) (I ((i+1:Nat):Int))) r ->
   ∀d j,j+d=u.blocks.length->aa prog 10 (f10_1 (I ((b7 m.funcs i+nx (u.blocks.take j):Nat):Int)) x (I m.funcs.length) (I (i:Int)) y (I u.blocks.length) (I (j:Int))) r:=by
  intro i u y r hu hy hr d
  have hi:=(Ch.1 hu).1
  have hfi:=hf.1
  have hub:=hf.2 u (Cq hu)
  induction d with
  | zero =>
   intro j hj
   have hj:j=u.blocks.length:=by omega
   subst hj
   rw[List.take_length,<-jC hu]
   unfold f10_1
   exact aa.tv rfl (aa.ite aI nofun fun _=>aa.tv (inc hi (by omega)) (f10_0_J hr))
  | succ d ih =>
   intro j hj
   have hjl:j<u.blocks.length:=by omega
   obtain⟨b,hb⟩:∃b,u.blocks[j]? = some b:=⟨_,Ci hjl⟩
   obtain⟨e,he,hR⟩:=hy.idx (k:=.i64) hb
   have hI:=qM hR
   have hl1:=hle i
   have hl2:=s9 (u.blocks.take j)
   simp only[List.length_take]at hl2
   have ih':=ih (j+1) (by omega)
   rw[si hb]at ih'
   obtain⟨c,ii,g,rfl,_⟩:=hR
   unfold f10_1
   refine aa.tv rfl (aa.ite (aH hjl) (fun _=>?_) nofun)
   refine aa.tvs he (aa.chk rfl (aa.call hI (aa.chk rfl ?_)))
   by_cases h4:b.fin.kind=4
   ·rw[if_pos h4]at ih'
    refine aa.ite (v:=true) (by simp[asBool,h4]) (fun _=>?_) nofun
    exact aa.tv (addN (b:=1) (by omega)) (aa.tv (inc hjl (by omega)) (f10_1_J ih'))
   ·rw[if_neg h4]at ih'
    exact aa.ite (v:=false) (by simp[asBool,h4]) nofun fun _=>aa.tv (inc hjl (by omega)) (f10_1_J ih')
 have outer:∀d i,i+d=m.funcs.length->aa prog 10 (f10_0 (I (b7 m.funcs i:Nat)) x (I m.funcs.length) (I (i:Int))) (I (kP m:Nat)):=by
  intro d
  induction d with
  | zero =>
   intro i hi
   have hi:i=m.funcs.length:=by omega
   subst hi
   rw[qp]
   unfold f10_0
   exact aa.tv rfl (aa.ite aI nofun fun _=>aa.ret)
  | succ d ih =>
   intro i hi
   have hil:i<m.funcs.length:=by omega
   obtain⟨u,hu⟩:∃u,m.funcs[i]? = some u:=⟨_,Ci hil⟩
   obtain⟨e,he,y,rfl,hy,_⟩:=hx.idx (k:=.i64) hu
   have:=inner hu hy (ih (i+1) (by omega)) u.blocks.length 0 (by omega)
   rw[show b7 m.funcs i+nx (u.blocks.take 0)=b7 m.funcs i by simp[nx]]at this
   unfold f10_0
   exact aa.tv rfl (aa.ite (aH hil) (fun _=>aa.tvs he (aa.chk rfl (aa.tv hy.len (f10_1_J this)))) nofun)
 have:=outer m.funcs.length 0 (by omega)
 rw[show b7 m.funcs 0=0 by simp[b7]]at this
 refine ao.of (f10_MR _) ?_
 unfold f10_M
 exact aa.chk rfl (aa.tv hx.len (f10_0_J this))
theorem zM {q:Option Bool} {e:List TV} {m:DMod} (he:RMod q e m) (hf:fewM m):ao prog 11 [.agg e] (I (kP m:Nat)):=by
 obtain⟨x,rfl,hx⟩:=he
 have hle:=xp hf.2
 have inner:∀{i:Nat} {u:DFunc} {r:TV},m.funcs[i]? = some u->aa prog 11 (f11_0 (I (b7 m.funcs (i+1):Nat)) (I ((i+1:Nat):Int)) x) r ->
   ∀d j,j+d=u.blocks.length->aa prog 11 (f11_1 (I ((b7 m.funcs i+nx (u.blocks.take j):Nat):Int)) (I (i:Int)) (I (j:Int)) x) r:=by
  intro i u r hu hr d
  have hi:=(Ch.1 hu).1
  have hfi:=hf.1
  have hub:=hf.2 u (Cq hu)
  obtain⟨e,he,y,rfl,hy,_⟩:=hx.idx (k:=.i64) hu
  induction d with
  | zero =>
   intro j hj
   have hj:j=u.blocks.length:=by omega
   subst hj
   rw[List.take_length,<-jC hu]
   unfold f11_1
   exact aa.tvs he (aa.chk rfl (aa.tv hy.len (aa.tv rfl (aa.ite aI nofun fun _=>aa.tv (inc hi (by omega)) (f11_0_J hr)))))
  | succ d ih =>
   intro j hj
   have hjl:j<u.blocks.length:=by omega
   obtain⟨b,hb⟩:∃b,u.blocks[j]? = some b:=⟨_,Ci hjl⟩
   obtain⟨e,he2,hR⟩:=hy.idx (k:=.i64) hb
   have hl1:=hle i
   have hl2:=s9 (u.blocks.take j)
   simp only[List.length_take]at hl2
   have ih':=ih (j+1) (by omega)
   rw[si hb]at ih'
   obtain⟨c,ii,g,rfl,_⟩:=hR
   unfold f11_1
   refine aa.tvs he (aa.chk rfl (aa.tv hy.len (aa.tv rfl (aa.ite (aH hjl) (fun _=>?_) nofun))))
   refine aa.tvs he (aa.chk rfl (aa.tvs he2 (aa.chk rfl (aa.tv rfl ?_))))
   by_cases h4:b.fin.kind=4
   ·rw[if_pos h4]at ih'
    refine aa.ite (v:=true) (by simp[asBool,h4]) (fun _=>?_) nofun
    exact aa.tv (addN (b:=1) (by omega)) (aa.tv (inc hjl (by omega)) (f11_1_J ih'))
   ·rw[if_neg h4]at ih'
    exact aa.ite (v:=false) (by simp[asBool,h4]) nofun fun _=>aa.tv (inc hjl (by omega)) (f11_1_J ih')
 have outer:∀d i,i+d=m.funcs.length->aa prog 11 (f11_0 (I (b7 m.funcs i:Nat)) (I (i:Int)) x) (I (kP m:Nat)):=by
  intro d
  induction d with
  | zero =>
   intro i hi
   have hi:i=m.funcs.length:=by omega
   subst hi
   rw[qp]
   unfold f11_0
   exact aa.tv hx.len (aa.tv rfl (aa.ite aI nofun fun _=>aa.ret))
  | succ d ih =>
   intro i hi
   have hil:i<m.funcs.length:=by omega
   obtain⟨u,hu⟩:∃u,m.funcs[i]? = some u:=⟨_,Ci hil⟩
   have:=inner hu (ih (i+1) (by omega)) u.blocks.length 0 (by omega)
   rw[show b7 m.funcs i+nx (u.blocks.take 0)=b7 m.funcs i by simp[nx]]at this
   unfold f11_0
   exact aa.tv hx.len (aa.tv rfl (aa.ite (aH hil) (fun _=>f11_1_J this) nofun))
 have:=outer m.funcs.length 0 (by omega)
 rw[show b7 m.funcs 0=0 by simp[b7]]at this
 refine ao.of (f11_MR _) ?_
 unfold f11_M
 exact aa.chk rfl (f11_0_J this)
end Go.Ab.C14
end
section
set_option maxRecDepth 10000
namespace Go.Ab
structure OpK (w:TV) (X:List DFunc) (n k:Nat) (u:DFunc) (b:DBlock) (xs ys:List (List TV)) (c i g:TV):Prop where
 w:w=TR xs n (I u.params) (I u.regs) ys
 n:n<xs.length
 k:ys[k]? = some [B b.landing,I b.pad.dst,c,B b.pad.all,B b.pad.cleanup,i,I b.fin.kind,I b.fin.a,I b.fin.dst,I b.fin.f,g,I b.fin.to,I b.fin.els,I b.fin.pad]
 X:F2 (RFunc (some true)) xs X
 Y:F2 (RBlock (some true)) ys u.blocks
 xl:xs.length<=9223372036854775807
 yl:ys.length<=9223372036854775807
 c:RWords (some true) c b.pad.catches
 d:inI b.pad.dst
 i:RL (some true) 7 (RIns (some true)) i b.ins
 g:RInts (some true) g b.fin.args
 ok:b.fin.ok
 p:inI u.params
 r:inI u.regs
theorem openK {w:TV} {X:List DFunc} {n k:Nat} {u:DFunc} {b:DBlock} (h:RMod (some true) [w] ⟨X⟩) (hn:X[n]? = some u) (hk:u.blocks[k]? = some b):∃xs ys c i g,OpK w X n k u b xs ys c i g:=by
 obtain⟨_,hx,hw⟩:=h
 cases hx
 obtain⟨e,he,hR⟩:=hw.pel hn
 obtain⟨y,rfl,hy,ho1,ho2⟩:=hR
 rcases hw with⟨rfl,_⟩|⟨o,xs,rfl,hq,hf,hb⟩
 ·cases he
 have ho:o=true:=hq true rfl
 subst ho
 have he:xs[n]? = some [I u.params,I u.regs,y]:=he
 obtain⟨e2,he2,hR2⟩:=hy.pel hk
 rcases hy with⟨rfl,_⟩|⟨o,ys,rfl,hq2,hf2,hb2⟩
 ·cases he2
 have ho:o=true:=hq2 true rfl
 subst ho
 obtain⟨c,i,g,rfl,h1,h2,h3,h4,h5⟩:=hR2
 have hnl:=(Ch.1 he).1
 refine⟨xs,ys,c,i,g,?_,hnl,he2,hf,hf2,hb,hb2,h1,h2,h3,h4,h5,ho1,ho2⟩
 unfold TR
 rw[cJ]
 congr 1
 exact(mm he).symm
theorem OpK.close {w:TV} {X:List DFunc} {n k:Nat} {u:DFunc} {b b':DBlock} {xs ys:List (List TV)} {c i g:TV} (h:OpK w X n k u b xs ys c i g) {e:List TV} (he:RBlock (some true) e b') :
  RMod (some true) [TR xs n (I u.params) (I u.regs) (ai ys k e)] ⟨X.set n ⟨u.params,u.regs,u.blocks.set k b'⟩⟩ :=
 ⟨_,rfl,.sl (fun _ h=>Option.some.inj h) (h.X.set ⟨_,rfl,.sl (fun _ h=>Option.some.inj h) (h.Y.set he) (by rw[ca];exact h.yl),h.p,h.r⟩) (by rw[ca];exact h.xl)⟩
end Go.Ab
namespace Go.Ab.C14
open Go Go.Ab Go.Proofs
open Classical in
noncomputable def cq (m:DMod) (b:DBlock):DBlock:=if b.fin.kind=4/\¬Thr m b.fin.f.toNat/\b.ins.length<64 then pz b else b
section
variable {m:DMod} {F:List Bool} {wF:TV} (hF:RBools (some true) wF F) (hFl:F.length=m.funcs.length) (hFt:∀k:Nat,F[k]? = some true ↔ Thr m k)
include hF hFl hFt
theorem Be {X:List DFunc} {n:Nat} (hn:n<X.length) (hn2:n<=1000) {p r:Int} {Y0:List DBlock} (hlen:Y0.length<=1000) (hc:∀b∈Y0,b.ins.length<=1000/\(b.fin.kind=4->0<=b.fin.f/\b.fin.f.toNat<m.funcs.length)) {x0 y6 y7:TV} {Z:TV->Prop}
  (hz:∀w,RMod (some true) [w] ⟨X.set n ⟨p,r,Y0.map (cq m)⟩⟩->∃y,aa prog 9 (f9_0 x0 (I ((n+1:Nat):Int)) wF w) y/\Z y) :
  ∀(d k:Nat) (w:TV),k+d=Y0.length->RMod (some true) [w] ⟨X.set n ⟨p,r,cG (cq m) Y0 k⟩⟩->∃y,aa prog 9 (f9_1 x0 (I (n:Int)) n (I Y0.length) (I (k:Int)) wF y6 y7 n w) y/\Z y:=by
 intro d
 induction d with
 | zero =>
  intro k w hk hw
  have hk:k=Y0.length:=by omega
  subst hk
  rw[mw]at hw
  obtain⟨y,g1,g2⟩:=hz w hw
  refine⟨y,?_,g2⟩
  unfold f9_1
  exact aa.tv rfl (aa.ite aI nofun fun _=>aa.tv (inc (k:=n) (n:=1001) (by omega) (by omega)) (f9_0_J g1))
 | succ d ih =>
  intro k w hk hw
  have hkl:k<Y0.length:=by omega
  obtain⟨b,hb⟩:∃b,Y0[k]? = some b:=⟨_,Ci hkl⟩
  obtain⟨hci,hcf⟩:=hc b (Cq hb)
  have e1:(X.set n ⟨p,r,cG (cq m) Y0 k⟩)[n]? = some ⟨p,r,cG (cq m) Y0 k⟩:=List.getElem?_set_self hn
  obtain⟨xs,ys,c,i,g,hO⟩:=openK hw e1 (gK hb)
  obtain⟨rfl,on,ok,oX,oY,oxl,oyl,oc,od,oi,og,oo,op,orr⟩:=hO
  have hO:OpK _ _ n k ⟨p,r,cG (cq m) Y0 k⟩ b xs ys c i g:=⟨rfl,on,ok,oX,oY,oxl,oyl,oc,od,oi,og,oo,op,orr⟩
  have oyk:=(Ch.1 ok).1
  have oylen:ys.length=Y0.length:=by rw[oY.length];exact cS
  have ank:aB (I (k:Int))=some k:=aK (by omega)
  have gz:=wl (ys:=ys) (P:=I p) (R:=I r) on
  have sl:∀{zs:List (List TV)},zs.length=Y0.length->slLen (.sl true 14 zs)=some Y0.length/\(slSize (.sl true 14 zs) 14&&Nat.blt k Y0.length)=true:=fun h=>⟨by simp[slLen,h],by simp[slSize];exact hkl⟩
  have hR:RBlock (some true) [B b.landing,I b.pad.dst,c,B b.pad.all,B b.pad.cleanup,i,I b.fin.kind,I b.fin.a,I b.fin.dst,I b.fin.f,g,I b.fin.to,I b.fin.els,I b.fin.pad] b:=⟨c,i,g,rfl,oc,od,oi,og,oo⟩
  have hnd:=yE hR.frz (hF.frz fun _ _ h=>h.frz) (fun h=>by rw[hFl];exact hcf h)
  have hback:cq m b=b->∃y,aa prog 9 (f9_1 x0 (I (n:Int)) n (I Y0.length) (I ((k+1:Nat):Int)) wF y6 y7 n (TR xs n (I p) (I r) ys)) y/\Z y:=fun h=>ih (k+1) _ (by omega) (by rw[rD hb h];exact hw)
  have front:∀{y:TV},aa prog 9 (.ite (asBool (B (tt (b.fin.kind=4/\F[b.fin.f.toNat]? = some false)))) _ _) y->aa prog 9 (f9_1 x0 (I (n:Int)) n (I Y0.length) (I (k:Int)) wF y6 y7 n (TR xs n (I p) (I r) ys)) y:=fun{y} h=>by
   unfold f9_1
   refine aa.tv rfl (aa.ite (aH hkl) (fun _=>?_) nofun)
   exact aa.tv gz (aa.nat (sl oylen).1 (aa.nat ank (aa.chk (sl oylen).2 (aa.tv gz (aa.tvs ok (aa.chk hR.oF (aa.tv (ib on ok) (aa.tv (ib on ok) (aa.tv (ib on ok) (aa.call hnd (aa.chk rfl h)))))))))))
  by_cases h4:b.fin.kind=4/\F[b.fin.f.toNat]? = some false
  ·have hnt:¬Thr m b.fin.f.toNat:=fun h=>by rw[(hFt _).2 h]at h4;cases h4.2
   by_cases hl:b.ins.length<64
   ·have hG:cq m b=pz b:=if_pos ⟨h4.1,hnt,hl⟩
    have i11:inI 11:=by unfold inI;omega
    have i0:inI 0:=by unfold inI;omega
    have i2:inI 2:=by unfold inI;omega
    have w0:inW 0:=by unfold inW;omega
    have hrow:RIns (some true) [I 11,I b.fin.dst,I 0,I 0,W 0,I b.fin.f,g] ⟨11,b.fin.dst,0,0,0,b.fin.f,b.fin.args⟩:=⟨g,rfl,og,i11,oo.2.2.1,i0,i0,w0,oo.2.2.2.1⟩
    obtain⟨i',a1,a2⟩:=oi.app hrow (by omega)
    have hB:RBlock (some true) [B b.landing,I b.pad.dst,c,B b.pad.all,B b.pad.cleanup,i',I 2,I 0,I 0,I 0,.lit bj,I b.fin.to,I 0,I 0] (pz b):=⟨c,i',.lit bj,rfl,oc,od,a2,RL.nil,i2,i0,i0,i0,oo.2.2.2.2.1,i0,i0⟩
    have hend:=hO.close hB
    simp only[List.set_set]at hend
    rw[<-hG,jV hb]at hend
    obtain⟨y,g1,g2⟩:=ih (k+1) _ (by omega) hend
    refine⟨y,front (aa.ite (v:=true) (by rw[dH h4];rfl) (fun _=>?_) nofun),g2⟩
    refine aa.tv (ib on ok) (aa.tv oi.len (aa.tv rfl (aa.ite (v:=true) (by simp[asBool];omega) (fun _=>?_) nofun)))
    have k1:∀{e:List TV},(ai ys k e)[k]? = some e:=sK oyk
    have k3:∀{e:List TV} {zs:List (List TV)},zs.length=ys.length->(ai zs k e)[k]? = some e:=fun h=>sK (by omega)
    refine aa.tv (ib on ok) (aa.tv (tA on ok rfl) (aa.tv (ib on k1) (aa.tv (tA on k1 rfl) ?_)))
    refine aa.rws rfl (aa.tv (ib on (k3 (by simp only[ca]))) (aa.tv a1 (aa.tv (tA on (k3 (by simp only[ca])) rfl) ?_)))
    have hbq:Nat.beq n n=true:=Nat.beq_refl n
    refine aa.chk (by simp[kv]) (aa.chk (by simp[hbq]) (aa.chk (by simp[kv,hbq]) (aa.chk rfl (aa.chk (by simp[kv]) (aa.chk (by simp[hbq]) (aa.chk (by simp[kv,hbq]) ?_))))))
    have l2:(ai (ai (ai ys k (ai [B b.landing,I b.pad.dst,c,B b.pad.all,B b.pad.cleanup,i,I b.fin.kind,I b.fin.a,I b.fin.dst,I b.fin.f,g,I b.fin.to,I b.fin.els,I b.fin.pad] 2 TV.hole)) k (ai (ai [B b.landing,I b.pad.dst,c,B b.pad.all,B b.pad.cleanup,i,I b.fin.kind,I b.fin.a,I b.fin.dst,I b.fin.f,g,I b.fin.to,I b.fin.els,I b.fin.pad] 2 TV.hole) 10 TV.hole)) k (ai (ai (ai [B b.landing,I b.pad.dst,c,B b.pad.all,B b.pad.cleanup,i,I b.fin.kind,I b.fin.a,I b.fin.dst,I b.fin.f,g,I b.fin.to,I b.fin.els,I b.fin.pad] 2 TV.hole) 10 TV.hole) 5 TV.hole)).length=Y0.length:=by simp only[ca];exact oylen
    have gz3:=wl (ys:=ai (ai (ai ys k (ai [B b.landing,I b.pad.dst,c,B b.pad.all,B b.pad.cleanup,i,I b.fin.kind,I b.fin.a,I b.fin.dst,I b.fin.f,g,I b.fin.to,I b.fin.els,I b.fin.pad] 2 TV.hole)) k (ai (ai [B b.landing,I b.pad.dst,c,B b.pad.all,B b.pad.cleanup,i,I b.fin.kind,I b.fin.a,I b.fin.dst,I b.fin.f,g,I b.fin.to,I b.fin.els,I b.fin.pad] 2 TV.hole) 10 TV.hole)) k (ai (ai (ai [B b.landing,I b.pad.dst,c,B b.pad.all,B b.pad.cleanup,i,I b.fin.kind,I b.fin.a,I b.fin.dst,I b.fin.f,g,I b.fin.to,I b.fin.els,I b.fin.pad] 2 TV.hole) 10 TV.hole) 5 TV.hole)) (P:=I p) (R:=I r) on
    refine aa.tv gz3 (aa.nat (sl l2).1 (aa.nat ank (aa.chk (sl l2).2 (aa.tv gz3 (aa.tvs (k3 (by simp only[ca])) (aa.chk ?_ (aa.tv (BH on (k3 (by simp only[ca]))) (aa.tv (inc hkl (by omega)) ?_))))))))
    ·show(bD cE [B b.landing,I b.pad.dst,.hole,B b.pad.all,B b.pad.cleanup,.hole,I b.fin.kind,I b.fin.a,I b.fin.dst,I b.fin.f,.hole,I b.fin.to,I b.fin.els,I b.fin.pad] 0&&ab cE [B b.landing,I b.pad.dst,c,B b.pad.all,B b.pad.cleanup,i',I 2,I 0,I 0,I 0,.lit bj,I b.fin.to,I 0,I 0] 0)=true
     rw[hB.oF,Bool.and_true]
     rfl
    ·refine f9_1_J ?_
     simp only[Bf]
     have hE:∀E,E=[B b.landing,I b.pad.dst,c,B b.pad.all,B b.pad.cleanup,i',I 2,I 0,I 0,I 0,.lit bj,I b.fin.to,I 0,I 0]->aa prog 9 (f9_1 x0 (I (n:Int)) n (I Y0.length) (I ((k+1:Nat):Int)) wF y6 y7 n (TR xs n (I p) (I r) (ai ys k E))) y:=fun E h=>by rw[h];exact g1
     exact hE _ (by kernel_rfl)
   ·have hG:cq m b=b:=if_neg fun h=>hl h.2.2
    obtain⟨y,g1,g2⟩:=hback hG
    refine⟨y,front (aa.ite (v:=true) (by rw[dH h4];rfl) (fun _=>?_) nofun),g2⟩
    refine aa.tv (ib on ok) (aa.tv oi.len (aa.tv rfl (aa.ite (v:=false) (by simp[asBool];omega) nofun fun _=>?_)))
    exact aa.tv (inc hkl (by omega)) (f9_1_J g1)
  ·have hG:cq m b=b:=if_neg fun h=>h4 ⟨h.1,by
    have h1:=(hcf h.1).2
    rw[<-hFl]at h1
    rw[Ci h1]
    cases hx:F[b.fin.f.toNat]with
    | false=>rfl
    | true=>exact absurd ((hFt _).1 (by rw[Ci h1,hx])) h.2.1⟩
   obtain⟨y,g1,g2⟩:=hback hG
   refine⟨y,front (aa.ite (v:=false) (by rw[gH h4];rfl) nofun fun _=>?_),g2⟩
   exact aa.tv (inc hkl (by omega)) (f9_1_J g1)
end
end Go.Ab.C14
end

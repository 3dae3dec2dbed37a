import Derived.Test.YtpkpckdealhkhaaAM13f
import Derived.RangeFuncNested
set_option linter.all false
namespace Go.Ab
open Go.RowKit
theorem qN {w:World} {p:Addr} {u:Value} {ob:Obj} (hb:w.heap[p.block]? = some ob) (h:w.cell? p=some u):ob.isCells=true:=by
 unfold World.cell? at h
 rw[hb]at h
 cases ob with
 | cells vs ty fr=>rfl
 | _ =>
  exfalso
  split at h<;>simp_all
section
variable {P:Program} {w w':World} {I0:Nat->Prop} {g:Gh} {st:ASt} {a a':Act} {ov:List Value}
structure Shift (W W':Bs) (I0:Nat->Prop) (w w':World):Prop where
 bel:W'.Bel w'
 ok:W'.Ok I0
 size:w.heap.size<=w'.heap.size
 new:∀b,W.New b->b<w.heap.size->W'.New b/\w'.heap[b]? = w.heap[b]?
 old:∀b,I0 b->w'.heap[b]? = w.heap[b]?
 out:∀b ob,ob.isCells=true->W.w.heap[b]? = some ob->¬W.L b->W'.w.heap[b]? = some ob/\¬W'.L b
def FokY (W W':Bs) (f:CA->CA):Prop:=(∀c,(∀k,c≠.yl k)->f c=c)/\∀k,f (.yl k)=.junk\/(f (.yl k)=.yl k/\W'.Y k=W.Y k)
theorem rebase {W W':Bs} (hs:al W I0 NoR g st a ov w) (h:Shift W W' I0 w w') {f:CA->CA} (hY:FokY W W' f) (ht:a'.tmps=a.tmps) (hd:a'.defers=W'.ds):Sim W' I0 (st.aE f) a' ov w':=by
 have hIk:∀b,g.I b->w'.heap[b]? = w.heap[b]? := fun b hb=>by
  by_cases hn:W.New b
  ·exact(h.new b hn (hs.lt b hb)).2
  ·exact h.old b (hs.old b hn hb)
 have hft:∀j b,Foot g st.look j b->w'.heap[b]? = w.heap[b]? := fun j b hf=>(h.new b (hs.foot j b hf).1 (hs.foot j b hf).2.1).2
 obtain⟨g',hg'⟩:∃g':Gh,g'=⟨g.I,g.ρ,g.β,g.φ,⟨fun b=>(g.O b).filter Obj.isCells,W'.Y⟩⟩:=⟨_,rfl⟩
 have eI:g'.I=g.I:=by rw[hg']
 have eρ:g'.ρ=g.ρ:=by rw[hg']
 have eβ:g'.β=g.β:=by rw[hg']
 have eφ:g'.φ=g.φ:=by rw[hg']
 have hI:∀b,g.I b->g'.I b:=fun b hb=>by rw[eI];exact hb
 have lkc:∀j c,st.look j=some (.cells c)->(st.aE f).look j=some (.cells (mapC f c)):=fun j c h=>by rw[aS,h];rfl
 have lkt:∀j xs,st.look j=some (.tree xs)->(st.aE f).look j=some (.tree xs):=fun j c h=>by rw[aS,h];rfl
 have inv:∀j b,(st.aE f).look j=some b->∃b0,st.look j=some b0/\b=b0.bS f:=fun j b h=>by
  rw[aS]at h
  cases h0:st.look j with
  | none=>simp[h0]at h
  | some b0=>simp only[h0,F6,FR]at h;exact⟨b0,rfl,h.symm⟩
 have invT:∀j xs,(st.aE f).look j=some (.tree xs)->st.look j=some (.tree xs):=fun j xs h=>by
  obtain⟨b0,h1,h2⟩:=inv j _ h
  cases b0<;>simp[BC.bS]at h2
  subst h2
  exact h1
 have nm:∀j r p xs x v nd,st.look j=some (.tree xs)->xs[r]? = some x->Node w p x (g.ρ j r) v nd->Node w' p x (g.ρ j r) v nd:=fun j r p xs x v nd hl' hx hnd =>
  Node.mv (hs.trees j xs hl' r x hx) hIk (fun b h=>hft j b (.inr ⟨xs,r,hl',(FP.1 hx).1,h⟩)) hnd
 have hc:∀{p:Addr} {u:Value},nn w g p u->nn w' g' p u:=fun{p u} hc=>by
  rcases hc with⟨h1,h2⟩|⟨ob,h1,h2⟩
  ·exact .inl ⟨hI _ h1,by rw[<-h2];exact World.cell?_of_block (hIk _ h1)⟩
  ·refine .inr ⟨ob,?_,h2⟩
   have hoc:ob.isCells=true:=qN (hs.Eo h1) (h2 w (hs.Eo h1))
   rw[hg']
   show(g.O p.block).filter Obj.isCells=some ob
   rw[h1]
   simp[Option.filter,hoc]
 have hf0:∀c v,(∀k,c≠.yl k)->bW w g st.look c v->bW w' g' (st.aE f).look c v:=by
  intro c v hne hr
  cases c with
  | t x=>exact⟨hr.1.mv hIk hI,hr.2⟩
  | ptr j off=>obtain⟨c',h1,h2⟩:=hr;exact⟨_,lkc j c' h1,by rw[eβ];exact h2⟩
  | ref x off =>
   obtain⟨ad,cell,h1,h3⟩:=hr
   exact⟨ad,cell,h1,fun k c hk=>⟨hc (h3 k c hk).1,(h3 k c hk).2.1,(h3 k c hk).2.2.mv hIk hI⟩⟩
  | tptr j r p k q=>obtain⟨xs,x,ad,l,cap,s,n,h1,h2,h3,h4,h5⟩:=hr;exact⟨xs,x,ad,l,cap,s,n,lkt j xs h1,h2,by rw[eρ];exact nm j r p xs x _ _ h1 h2 h3,h4,h5⟩
  | sref j r p=>obtain⟨xs,x,nd,h1,h2,h3,h4⟩:=hr;exact⟨xs,x,nd,lkt j xs h1,h2,by rw[eρ];exact nm j r p xs x _ _ h1 h2 h3,h4⟩
  | swin j r p lo len=>obtain⟨xs,x,u,nd,h1,h2,h3,h4,h5⟩:=hr;exact⟨xs,x,u,nd,lkt j xs h1,h2,by rw[eρ];exact nm j r p xs x _ _ h1 h2 h3,h4,h5⟩
  | may j ty =>
   obtain⟨c',h1,⟨us,fr,h2⟩,h3⟩:=hr
   exact⟨_,lkc j c' h1,⟨us,fr,by rw[eβ,hft j _ (.inl ⟨c',h1,rfl⟩)];exact h2⟩,by rw[eβ];exact h3⟩
  | aptr j off len n=>obtain⟨c',h1,h2,h3⟩:=hr;exact⟨_,lkc j c' h1,h2,by rw[eβ];exact h3⟩
  | ifp ty j=>obtain⟨c',h1,h2⟩:=hr;exact⟨_,lkc j c' h1,by rw[eβ];exact h2⟩
  | fn1 q j=>obtain⟨c',h1,h2⟩:=hr;exact⟨_,lkc j c' h1,by rw[eβ];exact h2⟩
  | psl j n=>obtain⟨c',h1,h2⟩:=hr;exact⟨_,lkc j c' h1,by rw[eβ];exact h2⟩
  | yl n=>exact absurd rfl (hne n)
  | undef=>exact hr
  | junk=>exact hr
 have hf:∀c v,bW w g st.look c v->bW w' g' (st.aE f).look (f c) v:=by
  intro c v hr
  by_cases hk:∃k,c=.yl k
  ·obtain⟨k,rfl⟩:=hk
   rcases hY.2 k with e|⟨e1,e2⟩
   ·rw[e];trivial
   ·rw[e1]
    have hr:v=.func (.yield (g.O.y k)) #[] #[]:=hr
    show v=.func (.yield (g'.O.y k)) #[] #[]
    rw[hr,hg']
    show _=Value.func (.yield (W'.Y k)) #[] #[]
    rw[e2,hs.out.2]
  ·have hne:∀k,c≠.yl k:=fun k e=>hk ⟨k,e⟩
   rw[hY.1 c hne]
   exact hf0 c v hne hr
 have hfoot:∀j b,Foot g' (st.aE f).look j b->Foot g st.look j b:=fun j b h=>by
  rcases h with⟨c,h1,h2⟩|⟨xs,r,h1,h2,h3⟩
  ·obtain⟨b0,i1,i2⟩:=inv j _ h1
   cases b0<;>simp[BC.bS]at i2
   rw[eβ]at h2
   exact .inl ⟨_,i1,h2⟩
  ·rw[eφ]at h3
   exact .inr ⟨xs,r,invT j xs h1,h2,h3⟩
 refine⟨g',h.bel,by rw[eI];exact hs.sub,fun b hb=>?_,fun b hn hb=>?_,by rw[ht];simp only[ASt.aE,bT];exact hs.len,hd,
  ?_,by simp only[ASt.aE,bT];exact hs.olen,
  fO (w':=w') (g':=g') (st':=st.aE f) hf hIk hI (l:=st.out) (vs:=fun t=>ov.getD t undef) hs.outs,
  fun j c hl'=>?_,fun j xs hl' r x hx=>?_,fun j b hb=>?_,fun i j b h1 h2=>hs.apart i j b (hfoot i b h1) (hfoot j b h2),fun i xs r r' b h1 h2 h3 h4 h5=>hs.apartR i xs r r' b (invT i xs h1) h2 h3 (by rw[eφ]at h4;exact h4) (by rw[eφ]at h5;exact h5),fun b hb=>hb.elim,h.ok,fun b ob hb=>?_,by rw[hg']⟩
 ·rw[eI]at hb;exact Nat.lt_of_lt_of_le (hs.lt b hb) h.size
 ·rw[eI]at hb
  exact hs.old b (fun hN=>hn (h.new b hN (hs.lt b hb)).1) hb
 ·rw[ht]
  exact fO (w':=w') (g':=g') (st':=st.aE f) hf hIk hI (l:=st.slots) (vs:=fun t=>a.tmps.getD t undef) hs.slots
 ·obtain⟨b0,i1,i2⟩:=inv j _ hl'
  cases b0 with
  | tree xs=>simp[BC.bS]at i2
  | cells c0 =>
   simp only[BC.bS,BC.cells.injEq]at i2
   subst i2
   obtain⟨us,t,h1,h2⟩:=hs.cells j c0 i1
   exact⟨us,t,by rw[eβ,<-h1];exact hft j _ (.inl ⟨c0,i1,rfl⟩),h2.mapC hf⟩
 ·have hl2:=invT j xs hl'
  rw[eρ,eφ,eI]
  exact(hs.trees j xs hl2 r x hx).mv hIk (fun _ h=>h) (fun b h=>hft j b (.inr ⟨xs,r,hl2,(FP.1 hx).1,h⟩)) (fun _ h=>h)
 ·obtain⟨h1,h2,h3,_⟩:=hs.foot j b (hfoot j b hb)
  rw[eI]
  exact⟨(h.new b h1 h2).1,Nat.lt_of_lt_of_le h2 h.size,h3,fun h=>h⟩
 ·rw[hg']at hb
  have hb:(g.O b).filter Obj.isCells=some ob:=hb
  cases ho:g.O b with
  | none=>rw[ho]at hb;cases hb
  | some o2 =>
   rw[ho]at hb
   simp only[Option.filter]at hb
   split at hb
   ·rename_i hcel
    cases hb
    obtain⟨k1,k2⟩:=hs.out.1 b ob ho
    exact h.out b ob hcel k1 k2
   ·cases hb
theorem kQ {W W':Bs} (hs:Sim W I0 st a ov w) (h:Shift W W' I0 w w') (hY:W'.Y=W.Y) (ht:a'.tmps=a.tmps) (hd:a'.defers=W'.ds):Sim W' I0 st a' ov w':=by
 obtain⟨g,hs⟩:=hs
 have:=rebase (f:=id) hs h ⟨fun c _=>rfl,fun k=>.inr ⟨rfl,by rw[hY]⟩⟩ ht hd
 rwa[ci]at this
theorem Az {W W':Bs} (hs:Sim W I0 st a ov w) (h:Shift W W' I0 w w') {n:Nat} (hY:∀k,k<n->W'.Y k=W.Y k) (ht:a'.tmps=a.tmps) (hd:a'.defers=W'.ds):Sim W' I0 (st.aE (CA.unY n)) a' ov w':=by
 obtain⟨g,hs⟩:=hs
 refine rebase hs h ⟨fun c hc=>?_,fun k=>?_⟩ ht hd
 ·cases c with
  | yl k=>exact absurd rfl (hc k)
  | _=>rfl
 ·by_cases hk:k<n
  ·exact .inr ⟨by simp[CA.unY,lV hk],hY k hk⟩
  ·exact .inl (by simp[CA.unY,mR (Nat.le_of_not_lt hk)])
structure Marks (W B:Bs):Prop where
 at_:∀d∈B.ds,∃D,d={ target:=.collected D,args:=#[] }/\B.w.heap[D]? = some (.deferred (some []))/\¬B.New D/\W.New D
 nodup:B.ds.Nodup
structure Ext (W B:Bs):Prop where
 new:∀b,B.New b->W.New b
 bel:∀w,B.Bel w->W.Bel w
 G:B.G=W.G
 Y:B.Y=W.Y
 out:∀b ob,ob.isCells=true->B.w.heap[b]? = some ob->¬B.L b->W.w.heap[b]? = some ob/\¬W.L b
 marks:Marks W B
theorem Ext.refl {W:Bs} (h:W.ds=[]):Ext W W:=⟨fun _ h=>h,fun _ h=>h,rfl,rfl,fun _ _ _ h k=>⟨h,k⟩,⟨fun d hd=>(by rw[h]at hd;cases hd),(by rw[h];exact .nil)⟩⟩
def Bs.fix (B:Bs) (w:World) (X:Nat->Prop) (ds:List Deferred) (Y:Nat->Nat):Bs:=⟨w,fun b=>B.New b/\b<w.heap.size/\¬X b,B.G,ds,Y⟩
theorem ls {B:Bs} {b:Nat} (h:¬B.New b):b<B.w.heap.size/\¬B.L b:=⟨Nat.lt_of_not_le fun e=>h (.inl e),fun e=>h (.inr e)⟩
theorem eX {B:Bs} {w:World} {X:Nat->Prop} {ds:List Deferred} {Y:Nat->Nat} {b:Nat} (hB:B.w.heap.size<=w.heap.size) (h:(B.fix w X ds Y).New b):B.New b/\¬(X b/\b<w.heap.size):=by
 rcases h with h|h
 ·have h:w.heap.size<=b:=h
  exact⟨.inl (Nat.le_trans hB h),fun k=>by omega⟩
 ·exact⟨h.1,fun k=>h.2.2 k.1⟩
theorem tn {B:Bs} {w:World} {X:Nat->Prop} {ds:List Deferred} {Y:Nat->Nat} (hok:B.Ok I0) (hsz:B.w.heap.size<=w.heap.size) (h:∀b,I0 b->w.heap[b]? = B.w.heap[b]?):(B.fix w X ds Y).Ok I0 :=
 ⟨fun b hb => ⟨Nat.lt_of_lt_of_le (hok.1 b hb).1 hsz, fun k => by
  obtain⟨h1,h2⟩:=hok.1 b hb
  rcases k.1 with e|e
  ·omega
  ·exact h2 e⟩,B.G.mv h (fun _ h=>h) hok.2⟩
theorem l5 {B:Bs} (hok:B.Ok I0) {b:Nat} (hb:I0 b):¬B.New b:=fun h=>by
 obtain⟨h1,h2⟩:=hok.1 b hb
 rcases h with e|e
 ·omega
 ·exact h2 e
theorem cM {B:Bs} (h:B.Bel w) {b:Nat} (hb:¬B.New b):w.heap[b]? = B.w.heap[b]? := h.block b (ls hb).1 (ls hb).2
theorem a9 {w:World} {l k:Nat} {o:Obj} (h:k≠l):(w.putObj l o).heap[k]? = w.heap[k]? := World.putObj_heap_other h
theorem qB {W:Bs} (hW:W.Ok I0) {fn:Func} {tm:Array Value} {R:Ending->World->Prop}:∀(ds:List Deferred) (B:Bs) (w:World),B.ds=ds->Ext W B->Sim B I0 st { tmps:=tm,defers:=ds } ov w ->
  (∀w2 B2,Ext W B2->B2.ds=[]->Sim B2 I0 st { tmps:=tm,defers:=[] } ov w2->∃v,(results fn tm).run P w2=.ok v w2/\R (.returned v) w2)->LeavesInM (Rd none) 0 P fn tm R ds .returning w
 | [],B,w,hds,hE,hs,hR=>by
  exact hR w B hE hds hs
 | d :: ds, B, w, hds, hE, hs, hR => by
  have hs0:=hs
  obtain⟨g,hs0⟩:=hs0
  have hmem:d∈B.ds:=by rw[hds];exact FX
  obtain⟨D,rfl,hD,hDn,hDW⟩:=hE.marks.at_ d hmem
  have hDw:w.heap[D]? = some (.deferred (some [])):=(cM hs0.below hDn).trans hD
  have hDl:D<w.heap.size:=(FV.1 hDw).1
  have hnd:=hE.marks.nodup
  rw[hds]at hnd
  have hWw:W.Bel w:=hE.bel w hs0.below
  have hsz:B.w.heap.size<=w.heap.size:=hs0.below.size
  refine⟨by simp,.inl ⟨D,w.putObj D (.deferred none),rfl,run_takeDeferred hDw,?_⟩⟩
  refine qB hW ds (B.fix (w.putObj D (.deferred none)) (fun _=>False) ds B.Y) (w.putObj D (.deferred none)) rfl ⟨fun b hb=>hE.new b (eX (by simpa using hsz) hb).1,fun w2 hw2=>?_,hE.G,hE.Y,fun b ob hoc hb hl=>?_,⟨fun d2 hd2=>?_,(List.nodup_cons.1 hnd).2⟩⟩
   (kQ hs ⟨Bs.Bel.refl _,tn hs0.base (by simpa using hsz) (fun b hb=>?_),by simp,fun b hb hlt=>⟨.inr ⟨hb,by simpa using hlt,fun h=>h⟩,a9 fun e=>hDn (e▸hb)⟩,fun b hb=>a9 fun e=>l5 hW hb (e▸hDW),fun b ob hoc hb hl=>?_⟩ rfl rfl rfl) hR
  ·refine⟨hw2.os.trans hWw.os,hw2.tape.trans hWw.tape,hw2.output.trans hWw.output,Nat.le_trans hWw.size (by have:=hw2.size;simpa[Bs.fix]using this),fun k hk hkl=>?_⟩
   have hkW:¬W.New k:=fun e=>e.elim (fun e=>by omega) hkl
   have hkB:¬B.New k:=fun e=>hkW (hE.new k e)
   have h1:=hw2.block k (by show k<(w.putObj D _).heap.size;simp;exact Nat.lt_of_lt_of_le hk hWw.size) (fun e=>hkB e.1)
   rw[h1]
   exact(a9 (show k≠D from fun e=>hkW (by rw[e];exact hDW))).trans (hWw.block k hk hkl)
  ·have hb:(w.putObj D (.deferred none)).heap[b]? = some ob:=hb
   have hbD:b≠D:=fun e=>by
    subst e
    rw[World.putObj_heap_same hDl]at hb
    cases hb
    cases hoc
   rw[a9 hbD]at hb
   have hbl:b<w.heap.size:=(FV.1 hb).1
   have hbn:¬B.New b:=fun e=>hl ⟨e,by simpa using hbl,fun h=>h⟩
   exact hE.out b ob hoc (by rw[<-cM hs0.below hbn];exact hb) (ls hbn).2
  ·obtain⟨D2,rfl,k1,k2,k3⟩:=hE.marks.at_ d2 (by rw[hds];exact FY _ hd2)
   have hne:D2≠D:=fun e=>(List.nodup_cons.1 hnd).1 (by rw[<-e];exact hd2)
   exact⟨D2,rfl,(a9 hne).trans ((cM hs0.below k2).trans k1),fun e=>k2 (eX (by simpa using hsz) e).1,k3⟩
  ·exact(a9 (show b≠D from fun e=>l5 hW hb (by rw[e];exact hDW))).trans (cM hs0.below (l5 hs0.base hb))
  ·have hbn:¬B.New b:=fun e=>e.elim (fun e=>by have:=(FV.1 hb).1;omega) hl
   have hbD:b≠D:=fun e=>by
    subst e
    rw[hD]at hb
    cases hb
    cases hoc
   exact⟨(a9 hbD).trans ((cM hs0.below hbn).trans hb),fun e=>hbn e.1⟩
structure Ent (w w1:World) (l:Nat) (mk:List Deferred) (R:Loop):Prop where
 os:w1.os=w.os
 tape:w1.tape=w.tape
 output:w1.output=w.output
 size:w.heap.size<=w1.heap.size
 keep:∀k,k<w.heap.size->w1.heap[k]? = w.heap[k]?
 rc:w1.heap[l]? = some (.loop R)
 new:w.heap.size<=l
 fresh:∀k ob,w.heap.size<=k->w1.heap[k]? = some ob->ob.isCells=false
 marks:∀d∈mk,∃D,d={ target:=.collected D,args:=#[] }/\w.heap.size<=D/\D≠l/\w1.heap[D]? = some (.deferred (some []))
 nodup:mk.Nodup
theorem i9 (w:World) (o:Obj) {k:Nat} (h:k<w.heap.size):(w.alloc o).heap[k]? = w.heap[k]? := Below.heap_alloc _ _ _ (by omega)
theorem lH {w:World} {o ob:Obj} (ho:o.isCells=false) {k:Nat} (hk:w.heap.size<=k) (h:(w.alloc o).heap[k]? = some ob):ob.isCells=false:=by
 have hl:=(FV.1 h).1
 rw[World.size_alloc]at hl
 have e:k=w.heap.size:=by omega
 subst e
 rw[World.alloc_heap_new]at h
 cases h
 exact ho
theorem yV {ro:Option Nat} (hro:∀l,ro=some l->∃r,w.heap[l]? = some (.loop r)) (fn:FuncId) (tmps:Array Value) (ps:Array Tmp) (assign body:Code) :
  ∃l mk w1 R,(Instr.enterLoop fn tmps ps assign body ro).run P w=.ok (l,mk) w1/\Ent w w1 l mk R/\R.state=.ready/\R.pending=none/\R.tmps=tmps/\R.params=ps/\R.assign=assign/\R.body=body/\(ro.isSome=true->mk=[]):=by
 cases ro with
 | some l0 =>
  obtain⟨r,hr⟩:=hro l0 rfl
  refine⟨_,_,_,{ state:=.ready,pending:=none,fn,tmps,params:=ps,assign,body,defers:=r.defers },run_enterLoop_inner hr fn tmps ps assign body,⟨rfl,rfl,rfl,by simp,fun k hk=>i9 w _ hk,World.alloc_heap_new w _,Nat.le_refl _,fun k ob hk h=>lH rfl hk h,fun d hd=>by simp at hd,.nil⟩,rfl,rfl,rfl,rfl,rfl,rfl,fun _=>rfl⟩
 | none =>
  refine⟨_,_,_,{ state:=.ready,pending:=none,fn,tmps,params:=ps,assign,body,defers:=w.heap.size },run_enterLoop_outer fn tmps ps assign body,⟨rfl,rfl,rfl,by simp;omega,fun k hk=>?_,?_,by omega,fun k ob hk h=>?_,fun d hd=>?_,by simp⟩,rfl,rfl,rfl,rfl,rfl,rfl,fun h=>by cases h⟩
  ·exact(i9 _ _ (by simp;omega)).trans (i9 w _ hk)
  ·have:=World.alloc_heap_new (w.alloc (.deferred (some []))) (.loop { state:=.ready,pending:=none,fn,tmps,params:=ps,assign,body,defers:=w.heap.size })
   rwa[World.size_alloc]at this
  ·by_cases h2:(w.alloc (.deferred (some []))).heap.size<=k
   ·exact lH rfl h2 h
   ·rw[i9 _ _ (by omega)]at h
    exact lH rfl hk h
  ·simp only[List.mem_singleton]at hd
   subst hd
   exact⟨_,rfl,Nat.le_refl _,by omega,(i9 _ _ (by simp)).trans (World.alloc_heap_new w _)⟩
def Bs.over (B:Bs) (w w1:World) (n l:Nat):Bs:=B.fix w1 (fun b=>w.heap.size<=b) [] (fun k=>if k=n then l else B.Y k)
def Bs.behind (B:Bs) (w:World) (mk:List Deferred):Bs:=B.fix w (fun b=>({ target:=.collected b,args:=#[] }:Deferred)∈mk) (mk++B.ds) B.Y
theorem zI {B:Bs} {w1:World} {n l:Nat} {mk:List Deferred} {R:Loop} (hb:B.Bel w) (hok:B.Ok I0) (h:Ent w w1 l mk R):Shift B (B.over w w1 n l) I0 w w1:=by
 have hkeep:∀b,¬B.New b->w1.heap[b]? = B.w.heap[b]? := fun b hn=>(h.keep b (Nat.lt_of_lt_of_le (ls hn).1 hb.size)).trans (cM hb hn)
 refine⟨Bs.Bel.refl _,tn hok (Nat.le_trans hb.size h.size) (fun b hb'=>hkeep b (l5 hok hb')),h.size,fun b hn hlt=>⟨.inr ⟨hn,Nat.lt_of_lt_of_le hlt h.size,by omega⟩,h.keep b hlt⟩,fun b hb'=>h.keep b (Nat.lt_of_lt_of_le (hok.1 b hb').1 hb.size),fun b ob _ h1 h2=>?_⟩
 have hn:¬B.New b:=fun e=>e.elim (fun e=>by have:=(FV.1 h1).1;omega) h2
 exact⟨(hkeep b hn).trans h1,fun e=>hn e.1⟩
theorem BY {W B B2:Bs} {w1 w3:World} {n l:Nat} {mk:List Deferred} {R:Loop} {o:Obj} (hE:Ext W B) (hb:B.Bel w) (hok:B.Ok I0) (h:Ent w w1 l mk R) (hE2:Ext (B.over w w1 n l) B2) (hb2:B2.Bel w3) :
  Shift B2 (B.behind (w3.putObj l o) mk) I0 w3 (w3.putObj l o)/\Ext W (B.behind (w3.putObj l o) mk):=by
 have hc:(B.over w w1 n l).Bel w3:=hE2.bel w3 hb2
 have hsz13:w1.heap.size<=w3.heap.size:=hc.size
 have hszB:B.w.heap.size<=w3.heap.size:=Nat.le_trans hb.size (Nat.le_trans h.size hsz13)
 have hszP:B.w.heap.size<=(w3.putObj l o).heap.size:=by simpa using hszB
 have hnl:∀b,¬B.New b->b<w.heap.size:=fun b hn=>Nat.lt_of_lt_of_le (ls hn).1 hb.size
 have hkeep:∀b,¬B.New b->w3.heap[b]? = B.w.heap[b]? := fun b hn=>by
  have h1:w3.heap[b]? = w1.heap[b]? := hc.block b (Nat.lt_of_lt_of_le (hnl b hn) h.size) (fun e=>hn e.1)
  rw[h1,h.keep b (hnl b hn)]
  exact cM hb hn
 have hkeepP:∀b,¬B.New b->(w3.putObj l o).heap[b]? = B.w.heap[b]? := fun b hn=>(a9 (show b≠l from fun e=>by have:=hnl b hn;have:=h.new;omega)).trans (hkeep b hn)
 have hover:∀b,B2.New b->B.New b/\¬(w.heap.size<=b/\b<w1.heap.size):=fun b hb'=>eX (Nat.le_trans hb.size h.size) (hE2.new b hb')
 have hBel:B.Bel (w3.putObj l o):=⟨by show w3.os=_;exact hc.os.trans (h.os.trans hb.os),by show w3.tape=_;exact hc.tape.trans (h.tape.trans hb.tape),by show w3.output=_;exact hc.output.trans (h.output.trans hb.output),hszP,fun k hk hl=>hkeepP k (fun e=>e.elim (fun e=>by omega) hl)⟩
 have hll:l<w1.heap.size:=(FV.1 h.rc).1
 refine⟨⟨Bs.Bel.refl _,tn hok hszP (fun b hb'=>hkeepP b (l5 hok hb')),by simp,fun b hn hlt=>?_,fun b hb'=>a9 (show b≠l from fun e=>by have:=hnl b (l5 hok hb');have:=h.new;omega),fun b ob hoc h1 h2=>?_⟩,⟨fun b hn=>hE.new b (eX hszP hn).1,fun w' hw'=>?_,hE.G,hE.Y,fun b ob hoc h1 h2=>?_,⟨fun d hd=>?_,?_⟩⟩⟩
 ·obtain⟨k1,k2⟩:=hover b hn
  refine⟨.inr ⟨k1,by simpa using hlt,fun hm=>?_⟩,a9 (show b≠l from fun e=>k2 ⟨by rw[e];exact h.new,by rw[e];exact hll⟩)⟩
  obtain⟨D,e1,e2,_,e4⟩:=h.marks _ hm
  cases e1
  exact k2 ⟨e2,(FV.1 e4).1⟩
 ·obtain⟨j1,j2⟩:=hE2.out b ob hoc h1 h2
  have j1:w1.heap[b]? = some ob:=j1
  have hbl:b<w1.heap.size:=(FV.1 j1).1
  have hbw:b<w.heap.size:=Nat.lt_of_not_le fun e=>by have:=h.fresh b ob e j1;rw[hoc]at this;cases this
  have hn:¬B.New b:=fun e=>j2 ⟨e,hbl,by omega⟩
  refine⟨(hkeepP b hn).trans ?_,fun e=>hn e.1⟩
  rw[<-cM hb hn,<-h.keep b hbw]
  exact j1
 ·refine hE.bel w' ⟨hw'.os.trans hBel.os,hw'.tape.trans hBel.tape,hw'.output.trans hBel.output,Nat.le_trans hszP hw'.size,fun k hk hl=>?_⟩
  have hn:¬B.New k:=fun e=>e.elim (fun e=>by omega) hl
  exact(hw'.block k (Nat.lt_of_lt_of_le hk hszP) (fun e=>hn e.1)).trans (hkeepP k hn)
 ·have h1:(w3.putObj l o).heap[b]? = some ob:=h1
  have hbl:b<(w3.putObj l o).heap.size:=(FV.1 h1).1
  have hn:¬B.New b:=fun e=>h2 ⟨e,hbl,fun hm=>by
   obtain⟨D,e1,e2,e3,e4⟩:=h.marks _ hm
   cases e1
   rw[a9 e3,hc.block b (FV.1 e4).1 (fun e=>e.2.2 e2)]at h1
   have e4:(B.over w w1 n l).w.heap[b]? = some (.deferred (some [])):=e4
   rw[e4]at h1
   cases h1
   cases hoc⟩
  exact hE.out b ob hoc (by rw[<-hkeepP b hn];exact h1) (ls hn).2
 ·rcases List.mem_append.1 hd with hd|hd
  ·obtain⟨D,rfl,e2,e3,e4⟩:=h.marks d hd
   have hDl:=(FV.1 e4).1
   refine⟨D,rfl,(a9 e3).trans ((hc.block D hDl (fun e=>e.2.2 e2)).trans e4),fun e=>?_,hE.new D (.inl (Nat.le_trans hb.size e2))⟩
   exact(eX hszP e).2 ⟨hd,by simp;omega⟩
  ·obtain⟨D,rfl,k1,k2,k3⟩:=hE.marks.at_ d hd
   exact⟨D,rfl,(hkeepP D k2).trans k1,fun e=>k2 (eX hszP e).1,k3⟩
 ·refine List.nodup_append.2 ⟨h.nodup,hE.marks.nodup,fun d hd d2 hd2 e=>?_⟩
  subst e
  obtain⟨D,rfl,e2,_,_⟩:=h.marks d hd
  obtain⟨D2,e5,_,k2,_⟩:=hE.marks.at_ _ hd2
  cases e5
  have:=hnl D k2
  omega
def YOk (W:Bs) (ys:List Rng) (ov:List Value):Prop :=
 (∀ m y, ys[m]? = some y → ∃ R : Loop, W.w.heap[W.Y m]? = some (.loop R) ∧ ¬ W.New (W.Y m) ∧ R.params = y.ps ∧ R.assign = y.assign ∧ R.body = y.body ∧ R.tmps.size = y.nt ∧
  (ov.drop y.off).take y.nt=R.tmps.toList/\(y.busy=false->R.state=.ready/\R.pending=none)) /\
 ∀m m',m<ys.length->m'<ys.length->W.Y m=W.Y m'->m=m'
structure Fr where
 ov:List Value
 nt:Nat
 fi:FuncId
 W:Bs
 ys:List Rng
 ro:Option Nat
structure Fr.Ok (I0:Nat->Prop) (F:Fr):Prop where
 ys:YOk F.W F.ys F.ov
 ok:F.W.Ok I0
 ds:F.W.ds=[]
 ro:∀l,F.ro=some l->∃R:Loop,F.W.w.heap[l]? = some (.loop R)/\¬F.W.New l
 yI:∀m,m<F.ys.length->¬I0 (F.W.Y m)
def Bs.noD (B:Bs):Bs:=⟨B.w,B.L,B.G,[],B.Y⟩
theorem q9 {B:Bs} {w:World}:B.noD.Bel w ↔ B.Bel w:=⟨fun h=>⟨h.os,h.tape,h.output,h.size,h.block⟩,fun h=>⟨h.os,h.tape,h.output,h.size,h.block⟩⟩
theorem ve {B:Bs} (hb:B.Bel w) (hok:B.Ok I0):Shift B B.noD I0 w w:=⟨q9.2 hb,hok,Nat.le_refl _,fun b h _=>⟨h,rfl⟩,fun _ _=>rfl,fun b ob _ h k=>⟨h,k⟩⟩
theorem oJ {α:Type} {l t:List α} {off nt:Nat} {r:List α} (h:(l.drop off).take nt=r) (hr:r.length=nt):((l++t).drop off).take nt=r:=by
 have h1:=congrArg List.length h
 simp only[List.length_take,List.length_drop,hr]at h1
 by_cases h0:nt=0
 ·subst h0
  simp at h ⊢
  exact h
 ·rw[List.drop_append_of_le_length (by omega),List.take_append_of_le_length (by simp;omega)]
  exact h
theorem YOk.mono {W W':Bs} {ys:List Rng} {t:List Value} (h:YOk W ys ov) (hk:∀m,m<ys.length->W'.Y m=W.Y m/\W'.w.heap[W.Y m]? = W.w.heap[W.Y m]? /\ ¬W'.New (W.Y m)):YOk W' ys (ov++t):=by
 refine⟨fun m y hm=>?_,fun m m' hm hm' e=>?_⟩
 ·obtain⟨R,h1,h2,h3,h4,h5,h6,h7,h8⟩:=h.1 m y hm
  obtain⟨k1,k2,k3⟩:=hk m (FP.1 hm).1
  exact⟨R,by rw[k1,k2];exact h1,by rw[k1];exact k3,h3,h4,h5,h6,oJ h7 (by simpa using h6),h8⟩
 ·rw[(hk m hm).1,(hk m' hm').1]at e
  exact h.2 m m' hm hm' e
theorem Ext.keep {W B:Bs} (h:Ext W B) (hb:B.Bel B.w) {b:Nat} (hn:¬W.New b):B.w.heap[b]? = W.w.heap[b]? /\ ¬B.New b:=⟨cM (h.bel _ hb) hn,fun e=>hn (h.new b e)⟩
theorem YOk.ext {W B:Bs} {ys:List Rng} {t:List Value} (h:YOk W ys ov) (hE:Ext W B):YOk B.noD ys (ov++t) :=
 h.mono fun m hm=>by
  obtain⟨R,_,h2,_⟩:=h.1 m _ (FQ hm)
  obtain⟨k1,k2⟩:=hE.keep (Bs.Bel.refl B) h2
  exact⟨congrFun hE.Y m,k1,k2⟩
theorem Fr.Ok.opn {F:Fr} (h:F.Ok I0) {B:Bs} (hE:Ext F.W B) (hok:B.Ok I0) (t:List Value) (nt fi:Nat):Fr.Ok I0 ⟨F.ov++t,nt,fi,B.noD,F.ys,none⟩:=⟨h.ys.ext hE,hok,rfl,(fun l h=>by cases h),fun m hm=>by show ¬I0 (B.Y m);rw[hE.Y];exact h.yI m hm⟩
theorem Fr.Ok.over {F:Fr} (h:F.Ok I0) {B:Bs} (hE:Ext F.W B) (hb:B.Bel w) (hok:B.Ok I0) {w1:World} {l:Nat} {mk:List Deferred} {R:Loop} (he:Ent w w1 l mk R) (hR:R.state=.ready/\R.pending=none) {tm:Array Value} (ht:R.tmps=tm) (hnt:tm.size=F.nt)
  (nt fi:Nat):Fr.Ok I0 ⟨F.ov++tm.toList,nt,fi,B.over w w1 F.ys.length l,F.ys ++ [⟨F.ov.length,F.nt,F.fi,R.params,R.assign,R.body,false⟩],none⟩:=by
 have hold:∀m,m<F.ys.length->(B.over w w1 F.ys.length l).Y m=F.W.Y m/\w1.heap[F.W.Y m]? = F.W.w.heap[F.W.Y m]? /\ ¬(B.over w w1 F.ys.length l).New (F.W.Y m)/\F.W.Y m<w.heap.size:=fun m hm=>by
  obtain⟨R',_,h2,_⟩:=h.ys.1 m _ (FQ hm)
  obtain⟨k1,k2⟩:=hE.keep (Bs.Bel.refl B) h2
  have hlt:F.W.Y m<w.heap.size:=Nat.lt_of_lt_of_le (ls k2).1 hb.size
  refine⟨?_,?_,fun e=>k2 (eX (Nat.le_trans hb.size he.size) e).1,hlt⟩
  ·show(if m=F.ys.length then l else B.Y m)=_
   rw[if_neg (by omega),hE.Y]
  ·rw[he.keep _ hlt,cM hb k2];exact k1
 have hYn:(B.over w w1 F.ys.length l).Y F.ys.length=l:=by show(if F.ys.length=F.ys.length then l else _)=l;rw[if_pos rfl]
 have hl1:l<w1.heap.size:=(FV.1 he.rc).1
 refine⟨⟨fun m y hm=>?_,fun m m' hm hm' e=>?_⟩,tn hok (Nat.le_trans hb.size he.size) (fun b hb'=>?_),rfl,(fun l h=>by cases h),fun m hm=>?_⟩
 ·rcases Nat.lt_or_ge m F.ys.length with hlt|hge
  ·rw[F3 hlt]at hm
   obtain⟨R',h1,h2,h3,h4,h5,h6,h7,h8⟩:=h.ys.1 m y hm
   obtain⟨k1,k2,k3,_⟩:=hold m hlt
   exact⟨R',by show w1.heap[(B.over w w1 F.ys.length l).Y m]? = _;rw[k1,k2];exact h1,by show ¬(B.over w w1 F.ys.length l).New ((B.over w w1 F.ys.length l).Y m);rw[k1];exact k3,h3,h4,h5,h6,oJ h7 (by simpa using h6),h8⟩
  ·have hm':=(FP.1 hm).1
   have e:m=F.ys.length:=by simp at hm';omega
   subst e
   rw[F4 (Nat.le_refl _),Nat.sub_self]at hm
   simp only[List.getElem?_cons_zero,FR]at hm
   subst hm
   refine⟨R,by show w1.heap[(B.over w w1 F.ys.length l).Y F.ys.length]? = _;rw[hYn];exact he.rc,fun e=>?_,rfl,rfl,rfl,by rw[ht];exact hnt,?_,fun _=>hR⟩
   ·have e:(B.over w w1 F.ys.length l).New ((B.over w w1 F.ys.length l).Y F.ys.length):=e
    rw[hYn]at e
    exact(eX (Nat.le_trans hb.size he.size) e).2 ⟨he.new,hl1⟩
   ·rw[List.drop_append_of_le_length (Nat.le_refl _),List.drop_eq_nil_of_le (Nat.le_refl _),List.nil_append,ht,<-hnt]
    exact List.take_of_length_le (by simp)
 ·simp only[List.length_append,List.length_singleton]at hm hm'
  have e:(B.over w w1 F.ys.length l).Y m=(B.over w w1 F.ys.length l).Y m':=e
  have hln:=he.new
  rcases Nat.lt_or_ge m F.ys.length with h1|h1<;>rcases Nat.lt_or_ge m' F.ys.length with h2|h2
  ·rw[(hold m h1).1,(hold m' h2).1]at e
   exact h.ys.2 m m' h1 h2 e
  ·have e2:m'=F.ys.length:=by omega
   subst e2
   rw[(hold m h1).1,hYn]at e
   have:=(hold m h1).2.2.2
   omega
  ·have e2:m=F.ys.length:=by omega
   subst e2
   rw[(hold m' h2).1,hYn]at e
   have:=(hold m' h2).2.2.2
   omega
  ·omega
 ·exact(he.keep b (Nat.lt_of_lt_of_le (hok.1 b hb').1 hb.size)).trans (cM hb (l5 hok hb'))
 ·simp only[List.length_append,List.length_singleton]at hm
  show ¬I0 ((B.over w w1 F.ys.length l).Y m)
  rcases Nat.lt_or_ge m F.ys.length with h1|h1
  ·rw[(hold m h1).1];exact h.yI m h1
  ·have e2:m=F.ys.length:=by omega
   subst e2
   rw[hYn]
   intro e
   have:=(hok.1 l e).1
   have:=hb.size
   have:=he.new
   omega
structure Rnd (B W:Bs) (l:Nat) (R:Loop):Prop where
 new:∀b,W.New b->B.New b
 keep:∀b,¬B.New b->b≠l->¬W.New b/\W.w.heap[b]? = B.w.heap[b]?
 rc:W.w.heap[l]? = some (.loop { R with state:=.busy })
 own:¬W.New l
 own0:¬B.New l
 rc0:B.w.heap[l]? = some (.loop R)
 ready:R.state=.ready/\R.pending=none
 out:∀b ob,ob.isCells=true->W.w.heap[b]? = some ob->¬W.L b->B.w.heap[b]? = some ob/\¬B.L b
 size:B.w.heap.size<=W.w.heap.size
 os:W.w.os=B.w.os
 tape:W.w.tape=B.w.tape
 output:W.w.output=B.w.output
 Y:W.Y=B.Y
 G:W.G=B.G
 ds:W.ds=[]
def Bs.round (B:Bs) (w:World) (l:Nat) (R:Loop):Bs:=B.fix (w.putObj l (.loop { R with state:=.busy })) (fun _=>False) [] B.Y
theorem wN {B B1:Bs} {l:Nat} {R:Loop} (hE:Ext B.noD B1) (hb:B1.Bel w) (hok:B1.Ok I0) (hl:¬B.New l) (hr:B.w.heap[l]? = some (.loop R)) (hR:R.state=.ready/\R.pending=none) (hI:¬I0 l) :
  Rnd B (B1.round w l R) l R/\Shift B1 (B1.round w l R) I0 w (w.putObj l (.loop { R with state:=.busy }))/\(Instr.beginRound l).run P w=.ok () (w.putObj l (.loop { R with state:=.busy }))/\(B1.round w l R).Ok I0:=by
 have hW:B.Bel w:=q9.1 (hE.bel w hb)
 have hB1:∀b,¬B.New b->¬B1.New b:=fun b h e=>h (hE.new b e)
 have hwl:w.heap[l]? = some (.loop R):=(cM hW hl).trans hr
 have hll:l<w.heap.size:=(FV.1 hwl).1
 have hszP:B1.w.heap.size<=(w.putObj l (.loop { R with state:=.busy })).heap.size:=by simpa using hb.size
 have hkI:∀b,I0 b->b≠l:=fun b hb' e=>hI (e▸hb')
 have hok':(B1.round w l R).Ok I0:=tn hok hszP (fun b hb'=>(a9 (hkI b hb')).trans (cM hb (l5 hok hb')))
 refine⟨⟨fun b hn=>hE.new b (eX hszP hn).1,fun b hn hne=>⟨fun e=>hB1 b hn (eX hszP e).1,(a9 hne).trans (cM hW hn)⟩,World.putObj_heap_same hll,fun e=>hB1 l hl (eX hszP e).1,hl,hr,hR,fun b ob hoc h1 h2=>?_,Nat.le_trans hW.size (by show _<=(w.putObj l _).heap.size;simp),hW.os,hW.tape,hW.output,hE.Y,hE.G,rfl⟩,
  ⟨Bs.Bel.refl _,hok',by simp,fun b hn hlt=>⟨.inr ⟨hn,by simpa using hlt,fun h=>h⟩,a9 (show b≠l from fun e=>hB1 l hl (by rw[<-e];exact hn))⟩,fun b hb'=>a9 (hkI b hb'),fun b ob hoc h1 h2=>?_⟩,run_beginRound hwl hR.1,hok'⟩
 ·have h1:(w.putObj l (.loop { R with state:=.busy })).heap[b]? = some ob:=h1
  have hbl:b≠l:=fun e=>by
   subst e
   rw[World.putObj_heap_same hll]at h1
   cases h1
   cases hoc
  rw[a9 hbl]at h1
  have hn1:¬B1.New b:=fun e=>h2 ⟨e,by simpa using(FV.1 h1).1,fun h=>h⟩
  exact hE.out b ob hoc (by rw[<-cM hb hn1];exact h1) (ls hn1).2
 ·have hn1:¬B1.New b:=fun e=>e.elim (fun e=>by have:=(FV.1 h1).1;omega) h2
  have hbl:b≠l:=fun e=>by
   subst e
   rw[<-cM hb hn1,hwl]at h1
   cases h1
   cases hoc
  exact⟨(a9 hbl).trans ((cM hb hn1).trans h1),fun e=>hn1 e.1⟩
theorem Bp {B W B3:Bs} {l:Nat} {R:Loop} {w3:World} (h:Rnd B W l R) (hE:Ext W B3) (hb:B3.Bel w3) (hok:B.Ok I0) (hI:¬I0 l) :
  (Instr.endRound l none).run P w3=.ok (.bool true) (w3.putObj l (.loop R))/\Shift B3 B I0 w3 (w3.putObj l (.loop R)):=by
 have hW:W.Bel w3:=hE.bel w3 hb
 have hwl:w3.heap[l]? = some (.loop { R with state:=.busy }):=(cM hW h.own).trans h.rc
 have hll:l<w3.heap.size:=(FV.1 hwl).1
 have hR:({ R with state:=.busy }:Loop)={ R with state:=.busy }:=rfl
 have e:({ ({ R with state:=.busy }:Loop)with state:=.ready,pending:=none }:Loop)=R:=by
  obtain⟨h1,h2⟩:=h.ready
  cases R
  simp only at h1 h2
  subst h1 h2
  rfl
 have hrun:=run_endRound (P:=P) none hwl
 simp only[Option.isNone_none,if_true]at hrun
 rw[e]at hrun
 have hkI:∀b,I0 b->b≠l:=fun b hb' e=>hI (e▸hb')
 have hkeep:∀b,¬B.New b->b≠l->w3.heap[b]? = B.w.heap[b]? := fun b hn hne=>(cM hW (h.keep b hn hne).1).trans (h.keep b hn hne).2
 have hnew:∀b,B3.New b->B.New b/\b≠l:=fun b hn=>⟨h.new b (hE.new b hn),fun e=>h.own (e▸hE.new b hn)⟩
 refine⟨hrun,⟨hW.os.trans h.os,hW.tape.trans h.tape,hW.output.trans h.output,by simpa using Nat.le_trans h.size hW.size,fun k hk hl=>?_⟩,hok,by simp,fun b hn hlt=>⟨(hnew b hn).1,a9 (hnew b hn).2⟩,fun b hb'=>a9 (hkI b hb'),fun b ob hoc h1 h2=>?_⟩
 ·have hn:¬B.New k:=fun e=>e.elim (fun e=>by omega) hl
  by_cases hkl:k=l
  ·subst hkl
   rw[World.putObj_heap_same hll]
   exact h.rc0.symm
  ·exact(a9 hkl).trans (hkeep k hn hkl)
 ·obtain⟨k1,k2⟩:=hE.out b ob hoc h1 h2
  exact h.out b ob hoc k1 k2
theorem gA:∀(ys:List Rng) (m:Nat),(aY ys m).length=ys.length
 | [],_=>rfl
 | y::l,0=>rfl
 | y::l,m+1=>by simp[aY,gA l m]
theorem m9:∀{ys:List Rng} {m k:Nat} {y:Rng},(aY ys m)[k]? = some y->∃y0,ys[k]? = some y0/\((k=m/\y={ y0 with busy:=true })\/(k≠m/\y=y0))
 | [],m,k,y,h=>by simp[aY]at h
 | y0::l,0,0,y,h=>by simp[aY]at h;exact⟨y0,rfl,.inl ⟨rfl,h.symm⟩⟩
 | y0::l,0,k+1,y,h=>by simp[aY]at h;exact⟨y,by simpa using h,.inr ⟨by omega,rfl⟩⟩
 | y0::l,m+1,0,y,h=>by simp[aY]at h;exact⟨y0,rfl,.inr ⟨by omega,h.symm⟩⟩
 | y0::l,m+1,k+1,y,h=>by
  simp only[aY,List.getElem?_cons_succ]at h
  obtain⟨y1,h1,h2⟩:=m9 h
  exact⟨y1,by simpa using h1,h2.imp (fun h=>⟨by omega,h.2⟩) (fun h=>⟨by omega,h.2⟩)⟩
theorem YOk.busy {W:Bs} {ys:List Rng} (h:YOk W ys ov) (m:Nat):YOk W (aY ys m) ov:=by
 refine⟨fun k y hk=>?_,fun k k' hk hk' e=>h.2 k k' (by rwa[gA]at hk) (by rwa[gA]at hk') e⟩
 obtain⟨y0,h0,⟨rfl,rfl⟩|⟨_,rfl⟩⟩:=m9 hk
 ·obtain⟨R,h1,h2,h3,h4,h5,h6,h7,h8⟩:=h.1 k y0 h0
  exact⟨R,h1,h2,h3,h4,h5,h6,h7,fun h=>by cases h⟩
 ·exact h.1 k y h0
theorem Fr.Ok.yld0 {F:Fr} (h:F.Ok I0) {B:Bs} (hE:Ext F.W B) (hok:B.Ok I0) (t:List Value) (nt m fi:Nat) (hm:m<F.ys.length):Fr.Ok I0 ⟨F.ov++t,nt,fi,B.noD,aY F.ys m,some (F.W.Y m)⟩:=by
 refine⟨(h.ys.ext hE).busy m,hok,rfl,fun l hl=>?_,fun k hk=>by show ¬I0 (B.Y k);rw[hE.Y];exact h.yI k (by rwa[gA]at hk)⟩
 cases hl
 obtain⟨R,h1,h2,_⟩:=h.ys.1 m _ (FQ hm)
 obtain⟨k1,k2⟩:=hE.keep (Bs.Bel.refl B) h2
 exact⟨R,k1.trans h1,k2⟩
theorem Fr.Ok.yld1 {F:Fr} (h:F.Ok I0) {B W:Bs} (hE:Ext F.W B) {m:Nat} {R:Loop} (hm:m<F.ys.length) (hR:Rnd B W (F.W.Y m) R) (hok:W.Ok I0) (t:List Value) (nt fi:Nat):Fr.Ok I0 ⟨F.ov++t,nt,fi,W,aY F.ys m,some (F.W.Y m)⟩:=by
 refine⟨⟨fun k y hk=>?_,fun k k' hk hk' e=>?_⟩,hok,hR.ds,fun l hl=>?_,fun k hk=>by show ¬I0 (W.Y k);rw[hR.Y,hE.Y];exact h.yI k (by rwa[gA]at hk)⟩
 ·obtain⟨y0,h0,hy⟩:=m9 hk
  obtain⟨R',h1,h2,h3,h4,h5,h6,h7,h8⟩:=h.ys.1 k y0 h0
  obtain⟨k1,k2⟩:=hE.keep (Bs.Bel.refl B) h2
  have hYk:W.Y k=F.W.Y k:=by rw[hR.Y,hE.Y]
  rcases hy with⟨rfl,rfl⟩|⟨hne,rfl⟩
  ·have e:R'=R:=by
    have:=k1.symm.trans hR.rc0
    rw[h1]at this
    cases this
    rfl
   subst e
   exact⟨{ R' with state:=.busy },by rw[hYk];exact hR.rc,by rw[hYk];exact hR.own,h3,h4,h5,h6,oJ h7 (by simpa using h6),fun h=>by cases h⟩
  ·have hne2:F.W.Y k≠F.W.Y m:=fun e=>hne (h.ys.2 k m (FP.1 h0).1 hm e)
   obtain⟨j1,j2⟩:=hR.keep _ k2 hne2
   exact⟨R',by rw[hYk];exact j2.trans (k1.trans h1),by rw[hYk];exact j1,h3,h4,h5,h6,oJ h7 (by simpa using h6),h8⟩
 ·simp only[gA]at hk hk'
  rw[hR.Y,hE.Y]at e
  exact h.ys.2 k k' hk hk' e
 ·cases hl
  exact⟨_,hR.rc,hR.own⟩
end
end Go.Ab

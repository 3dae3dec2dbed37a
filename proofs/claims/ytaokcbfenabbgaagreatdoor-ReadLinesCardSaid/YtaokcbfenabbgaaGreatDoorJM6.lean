import Derived.Test.YtaokcbfenabbgaaGreatDoorJM3b
import Derived.Lib.AppendStr
import Derived.Laws.BytesString
set_option linter.all false
section
namespace Go.Ab
open Go.RowKit
structure Forn where
 at_:Nat->Option Obj
 y:Nat->Nat
instance:CoeFun Forn (fun _=>Nat->Option Obj):=⟨Forn.at_⟩
structure Gh where
 I:Nat->Prop
 ρ:Nat->Nat->Value
 β:Nat->Nat
 φ:Nat->Nat->Nat->Prop
 O:Forn
def lI (v:Value):Prop:=∃ a l c,v=.slice a l c
def sN (nd:Option (Nat × Nat)) (lo len:Nat) (u v:Value):Prop :=
 match nd with
 | some (s,n)=>lo + len<=n/\v=cut s lo len u
 | none=>lo=0/\len=0/\u=af/\v=af
def vh (w:World) (b:Nat) (ty:TypeId):Prop:=∃ vs fr,w.heap[b]? = some (.cells vs ty fr)
def j8 (w:World) (g:Gh) (p:Addr) (u:Value):Prop :=
 (g.I p.block/\w.cell? p=some u)\/∃ ob,g.O p.block=some ob/\∀ w':World,w'.heap[p.block]? = some ob->w'.cell? p=some u
def bm (w:World) (g:Gh) (look:Look):CA->Value->Prop
 | .t x,v=>Rep w g.I x v/\v.oneCell'=true
 | .ptr i off,v=>∃ cs,look i=some (.cells cs)/\v=.pointer (some ⟨g.β i,off,none⟩)
 | .ref x off, v => ∃ (a : Addr) (cell : Nat → Value), v = .pointer (some (a.add off)) ∧
   ∀ (j:Nat) (c:TV),x[j]? = some c->j8 w g (a.add j) (cell j)/\(cell j).oneCell'=true/\Rep w g.I c (cell j)
 | .tptr i r p k j,v=>∃ xs x a l cap s n,look i=some (.tree xs)/\xs[r]? = some x/\Node w p x (g.ρ i r) (.slice (some a) l cap) (some (s,n))/\k < n/\v=.pointer (some (a.add (k * s + j)))
 | .sref i r p,v=>∃ xs x nd,look i=some (.tree xs)/\xs[r]? = some x/\Node w p x (g.ρ i r) v nd/\lI v
 | .swin i r p lo len,v=>∃ xs x u nd,look i=some (.tree xs)/\xs[r]? = some x/\Node w p x (g.ρ i r) u nd/\lI u/\sN nd lo len u v
 | .may i ty,v=>∃ cs,look i=some (.cells cs)/\vh w (g.β i) ty/\(v=.pointer none\/v=.pointer (some ⟨g.β i,0,none⟩))
 | .aptr i off len n,v=>∃ cs,look i=some (.cells cs)/\n < len/\v=.pointer (some ⟨g.β i,off + n,none⟩)
 | .yl n,v=>v=.func (.yield (g.O.y n)) #[] #[]
 | .ifp ty i,v=>∃ cs,look i=some (.cells cs)/\v=.iface ty (.pointer (some ⟨g.β i,0,none⟩))
 | .psl i len,v=>∃ cs,look i=some (.cells cs)/\v=.slice (some ⟨g.β i,0,none⟩) len len
 | .fn1 f i,v=>∃ cs,look i=some (.cells cs)/\v=.func (.func f) #[] #[.pointer (some ⟨g.β i,0,none⟩)]
 | .undef,v=>v=undef
 | .junk,_=>True
def CR (w:World) (g:Gh) (look:Look) (cs:List CA) (vs:List Value):Prop :=
 vs.length=cs.length/\∀ (j:Nat) (c:CA) (u:Value),cs[j]? = some c->vs[j]? = some u->bm w g look c u/\u.oneCell'=true
def kg (w:World) (g:Gh) (look:Look):Bool->List CA->Value->Prop
 | true,cs,v=>∃ vs:Array Value,v=.agg vs/\CR w g look cs vs.toList
 | false,cs,v=>∃ c,cs=[c]/\bm w g look c v/\v.oneCell'=true
def br (w:World) (g:Gh) (look:Look):AV->Value->Prop
 | .one c,v=>bm w g look c v
 | .agg cs,v=>kg w g look true cs v
 | .tv x,v=>Rep w g.I x v
 | .bl b,v=>v=.bool b
 | .tups l,v=>∃ vs:Array Value,v=.tuple vs/\vs.size=l.length/\∀ (j:Nat) (b:Bool) (c:List CA),l[j]? = some (b,c)->kg w g look b c (vs.getD j undef)
 | .clo f cs,v=>∃ vs:Array Value,v=.func (.func f) #[] vs/\CR w g look cs vs.toList
def CA.okP (ok:Nat->Nat->Way->Prop):CA->Prop
 | .tptr i r p _ _=>ok i r p
 | .sref i r p=>ok i r p
 | .swin i r p _ _=>ok i r p
 | _=>True
structure Mv (ok:Nat->Nat->Way->Prop) (w:World) (g:Gh) (look:Look) (w':World) (g':Gh) (look':Look):Prop where
 heap:∀ b,g.I b->w'.heap[b]? = w.heap[b]?
 sub:∀ b,g.I b->g'.I b
 cells:∀ i cs,look i=some (.cells cs)->∃ cs',look' i=some (.cells cs')/\g'.β i=g.β i
 tyAt:∀ i cs ty,look i=some (.cells cs)->vh w (g.β i) ty->vh w' (g.β i) ty
 tree:∀ i r p xs x v nd,look i=some (.tree xs)->xs[r]? = some x->ok i r p->lI v->Node w p x (g.ρ i r) v nd->∃ xs' x',look' i=some (.tree xs')/\xs'[r]? = some x'/\Node w' p x' (g'.ρ i r) v nd
 out:g'.O=g.O
theorem j8.mv {w w':World} {g g':Gh} (hh:∀ b,g.I b->w'.heap[b]? = w.heap[b]?) (hI:∀ b,g.I b->g'.I b) (hO:g'.O=g.O) {p:Addr} {u:Value} (h:j8 w g p u):j8 w' g' p u:=by
 rcases h with ⟨h1,h2⟩ | ⟨ob,h1,h2⟩
 ·exact .inl ⟨hI _ h1,by rw [<- h2]; exact World.cell?_of_block (hh _ h1)⟩
 ·exact .inr ⟨ob,by rw [hO]; exact h1,h2⟩
section
variable {w w':World} {g g':Gh} {look look':Look} {ok:Nat->Nat->Way->Prop}
theorem bm.mv (m:Mv ok w g look w' g' look'):∀ {c:CA} {v:Value},c.okP ok->bm w g look c v->bm w' g' look' c v
 | .t x,v,_,⟨h,h1⟩=>⟨h.mv m.heap m.sub,h1⟩
 | .ptr i off,v,_,⟨cs,hl,hv⟩=>by
  obtain ⟨cs',h1,h2⟩:=m.cells i cs hl
  exact ⟨cs',h1,by rw [h2]; exact hv⟩
 | .ref x off,v,_,⟨a,cell,hv,h⟩ =>
  ⟨a,cell,hv,fun j c hj=>⟨(h j c hj).1.mv m.heap m.sub m.out,(h j c hj).2.1,(h j c hj).2.2.mv m.heap m.sub⟩⟩
 | .tptr i r p k j,v,ho,⟨xs,x,a,l,cap,s,n,hl,hx,hn,hk,hv⟩=>by
  obtain ⟨xs',x',h1,h2,h3⟩:=m.tree i r p xs x _ _ hl hx ho ⟨_,_,_,rfl⟩ hn
  exact ⟨xs',x',a,l,cap,s,n,h1,h2,h3,hk,hv⟩
 | .sref i r p,v,ho,⟨xs,x,nd,hl,hx,hn,hv⟩=>by
  obtain ⟨xs',x',h1,h2,h3⟩:=m.tree i r p xs x _ _ hl hx ho hv hn
  exact ⟨xs',x',nd,h1,h2,h3,hv⟩
 | .swin i r p lo len,v,ho,⟨xs,x,u,nd,hl,hx,hn,hu,hw⟩=>by
  obtain ⟨xs',x',h1,h2,h3⟩:=m.tree i r p xs x _ _ hl hx ho hu hn
  exact ⟨xs',x',u,nd,h1,h2,h3,hu,hw⟩
 | .may i ty,v,_,⟨cs,hl,ht,hv⟩=>by
  obtain ⟨cs',h1,h2⟩:=m.cells i cs hl
  exact ⟨cs',h1,by rw [h2]; exact m.tyAt i cs ty hl ht,by rw [h2]; exact hv⟩
 | .aptr i off len n,v,_,⟨cs,hl,hn,hv⟩=>by
  obtain ⟨cs',h1,h2⟩:=m.cells i cs hl
  exact ⟨cs',h1,hn,by rw [h2]; exact hv⟩
 | .yl n,v,_,h=>by show v=.func (.yield (g'.O.y n)) #[] #[]; rw [m.out]; exact h
 | .ifp ty i,v,_,⟨cs,hl,hv⟩=>by
  obtain ⟨cs',h1,h2⟩:=m.cells i cs hl
  exact ⟨cs',h1,by rw [h2]; exact hv⟩
 | .fn1 f i,v,_,⟨cs,hl,hv⟩=>by
  obtain ⟨cs',h1,h2⟩:=m.cells i cs hl
  exact ⟨cs',h1,by rw [h2]; exact hv⟩
 | .psl i n,v,_,⟨cs,hl,hv⟩=>by
  obtain ⟨cs',h1,h2⟩:=m.cells i cs hl
  exact ⟨cs',h1,by rw [h2]; exact hv⟩
 | .undef,v,_,h=>h
 | .junk,v,_,h=>h
theorem rG (f:CA->CA):∀ (l:List CA) (j:Nat),(mapC f l)[j]? = (l[j]?).map f
 | [],j=>by simp [mapC]
 | c :: l,0=>rfl
 | c :: l,j + 1=>by simp [mapC,rG f l j]
theorem mS (f:CA->CA) (l:List CA):(mapC f l).length=l.length:=by
 induction l with
 | nil=>rfl
 | cons c l ih=>simp [mapC,ih]
theorem vl (f:CA->CA):∀ (l:List (Bool × List CA)) (j:Nat),(jz f l)[j]? = (l[j]?).map fun p=>(p.1,mapC f p.2)
 | [],j=>by simp [jz]
 | (b,c) :: l,0=>rfl
 | (b,c) :: l,j + 1=>by simp [jz,vl f l j]
theorem AX (f:CA->CA) (l:List (Bool × List CA)):(jz f l).length=l.length:=by
 induction l with
 | nil=>rfl
 | cons c l ih=>obtain ⟨b,c⟩:=c; simp [jz,ih]
theorem kT (f:CA->CA):∀ (l:List AV) (j:Nat),(b8 f l)[j]? = (l[j]?).map (AV.bG f)
 | [],j=>by simp [b8]
 | c :: l,0=>rfl
 | c :: l,j + 1=>by simp [b8,kT f l j]
theorem aZ (f:CA->CA) (l:List AV):(b8 f l).length=l.length:=by
 induction l with
 | nil=>rfl
 | cons c l ih=>simp [b8,ih]
theorem nY (f:CA->CA):∀ (l:List (Option BC)) (j:Nat),(dM f l)[j]? = (l[j]?).map (Option.map (BC.be f))
 | [],j=>by simp [dM]
 | some b :: l,0=>rfl
 | none :: l,0=>rfl
 | some b :: l,j + 1=>by simp [dM,nY f l j]
 | none :: l,j + 1=>by simp [dM,nY f l j]
theorem kZ (f:CA->CA) (l:List (Option BC)):(dM f l).length=l.length:=by
 induction l with
 | nil=>rfl
 | cons c l ih=>cases c <;> simp [dM,ih]
theorem pM (l:List CA):mapC id l=l:=by
 induction l with
 | nil=>rfl
 | cons c l ih=>simp [mapC,ih]
theorem x6 (v:AV):v.bG id=v:=by
 cases v with
 | tups l =>
  have:∀ l:List (Bool × List CA),jz id l=l:=fun l=>by
   induction l with
   | nil=>rfl
   | cons c l ih=>obtain ⟨b,c⟩:=c; simp [jz,ih,pM]
  simp [AV.bG,this]
 | _=>simp [AV.bG,pM]
theorem CR.mapC {f:CA->CA} (hf:∀ c v,bm w g look c v->bm w' g' look' (f c) v) {cs:List CA} {vs:List Value} (h:CR w g look cs vs):CR w' g' look' (Ab.mapC f cs) vs:=by
 refine ⟨by rw [mS]; exact h.1,fun j c u hc hu=>?_⟩
 rw [rG] at hc
 cases hj:cs[j]? with
 | none=>simp [hj] at hc
 | some c' =>
  simp only [hj,D6,DU] at hc
  subst hc
  exact ⟨hf _ _ (h.2 j c' u hj hu).1,(h.2 j c' u hj hu).2⟩
theorem kg.mapC {f:CA->CA} (hf:∀ c v,bm w g look c v->bm w' g' look' (f c) v):∀ {b:Bool} {cs:List CA} {v:Value},kg w g look b cs v->kg w' g' look' b (Ab.mapC f cs) v
 | true,cs,v,⟨vs,h1,h2⟩=>⟨vs,h1,h2.mapC hf⟩
 | false,cs,v,⟨c,h1,h2,h3⟩=>⟨f c,by rw [h1]; rfl,hf _ _ h2,h3⟩
theorem br.bG {f:CA->CA} (hf:∀ c v,bm w g look c v->bm w' g' look' (f c) v) (hh:∀ b,g.I b->w'.heap[b]? = w.heap[b]?) (hI:∀ b,g.I b->g'.I b) :
  ∀ {x:AV} {v:Value},br w g look x v->br w' g' look' (x.bG f) v
 | .one c,v,h=>hf c v h
 | .agg cs,v,h=>kg.mapC (b:=true) hf h
 | .tv x,v,h=>Rep.mv hh hI h
 | .bl b,v,h=>h
 | .tups l, v, ⟨vs, h1, h2, h3⟩ => by
  refine ⟨vs,h1,by rw [AX]; exact h2,fun j b c hj=>?_⟩
  rw [vl] at hj
  cases hl:l[j]? with
  | none=>simp [hl] at hj
  | some p =>
   obtain ⟨b',c'⟩:=p
   simp only [hl,D6,DU,Prod.mk.injEq] at hj
   obtain ⟨rfl,rfl⟩:=hj
   exact (h3 j b' c' hl).mapC hf
 | .clo f cs,v,⟨vs,h1,h2⟩=>⟨vs,h1,h2.mapC hf⟩
theorem br.mv (m:Mv (fun _ _ _=>True) w g look w' g' look') {x:AV} {v:Value} (h:br w g look x v):br w' g' look' x v:=by
 have:=h.bG (f:=id) (w':=w') (g':=g') (look':=look') (fun c v hc=>bm.mv m (by cases c <;> trivial) hc) m.heap m.sub
 rwa [x6] at this
theorem CR.mv (m:Mv (fun _ _ _=>True) w g look w' g' look') {cs:List CA} {vs:List Value} (h:CR w g look cs vs):CR w' g' look' cs vs:=by
 have:=h.mapC (f:=id) (w':=w') (g':=g') (look':=look') (fun c v hc=>bm.mv m (by cases c <;> trivial) hc)
 rwa [pM] at this
end
def Foot (g:Gh) (look:Look) (i b:Nat):Prop:=(∃ cs,look i=some (.cells cs)/\b=g.β i)\/∃ xs r,look i=some (.tree xs)/\r < xs.length/\g.φ i r b
structure Laid where
 P:World->(Nat->Prop)->Prop
 mv:∀ {w w':World} {I I':Nat->Prop},(∀ b,I b->w'.heap[b]? = w.heap[b]?)->(∀ b,I b->I' b)->P w I->P w' I'
structure Bs where
 w:World
 L:Nat->Prop
 G:Laid
 ds:List Deferred:=[]
 Y:Nat->Nat:=fun _=>0
abbrev Bs.of (w:World) (L:Nat->Prop) (G:Laid):Bs:={ w:=w,L:=L,G:=G }
def Bs.New (B:Bs) (b:Nat):Prop:=B.w.heap.size<=b\/B.L b
structure Bs.Bel (B:Bs) (w':World):Prop where
 os:w'.os=B.w.os
 tape:w'.tape=B.w.tape
 output:w'.output=B.w.output
 size:B.w.heap.size<=w'.heap.size
 block:∀ k,k < B.w.heap.size->¬ B.L k->w'.heap[k]? = B.w.heap[k]?
theorem Bs.Bel.refl (B:Bs):B.Bel B.w:=⟨rfl,rfl,rfl,Nat.le_refl _,fun _ _ _=>rfl⟩
theorem Bs.New.of_le {B:Bs} {w:World} (h:B.Bel w) {b:Nat} (hb:w.heap.size<=b):B.New b:=.inl (Nat.le_trans h.size hb)
theorem Bs.Bel.step {B:Bs} {w w':World} (h:B.Bel w) (k:Below w.heap.size w w'):B.Bel w' :=
 ⟨k.os.trans h.os,k.tape.trans h.tape,k.output.trans h.output,Nat.le_trans h.size k.size,fun i hi hl=>(k.block i (Nat.lt_of_lt_of_le hi h.size)).trans (h.block i hi hl)⟩
theorem Bs.Bel.but {B:Bs} {w w':World} (h:B.Bel w) (ho:w'.os=w.os) (ht:w'.tape=w.tape) (hu:w'.output=w.output) (hs:w.heap.size<=w'.heap.size) (k:∀ i,i < w.heap.size->¬ B.New i->w'.heap[i]? = w.heap[i]?):B.Bel w' :=
 ⟨ho.trans h.os,ht.trans h.tape,hu.trans h.output,Nat.le_trans h.size hs,fun i hi hl=>(k i (Nat.lt_of_lt_of_le hi h.size) (fun e=>e.elim (fun e=>by omega) hl)).trans (h.block i hi hl)⟩
theorem Bs.Bel.setRow {B:Bs} {w:World} {g:Nat} (h:B.Bel w) (hg:B.New g) (cs:Array Value):B.Bel (w.setRow g cs) :=
 h.but rfl rfl rfl (by simp [World.setRow]) fun i _ hi=>setRow_other w g i cs (fun e=>hi (e ▸ hg))
def Bs.Ok (B:Bs) (I0:Nat->Prop):Prop:=(∀ b,I0 b->b < B.w.heap.size/\¬ B.L b)/\B.G.P B.w I0
structure aj (w0:Bs) (I0 R:Nat->Prop) (g:Gh) (st:ASt) (a:Act) (ov:List Value) (w:World):Prop where
 below:w0.Bel w
 sub:∀ b,I0 b->g.I b
 lt:∀ b,g.I b->b < w.heap.size
 old:∀ b,¬ w0.New b->g.I b->I0 b
 len:a.tmps.size=st.slots.length
 defers:a.defers=w0.ds
 slots:∀ (t:Nat) (v:AV),st.slots[t]? = some v->br w g st.look v (a.tmps.getD t undef)
 olen:ov.length=st.out.length
 outs:∀ (t:Nat) (v:AV),st.out[t]? = some v->br w g st.look v (ov.getD t undef)
 cells:∀ (i:Nat) (cs:List CA),st.look i=some (.cells cs)->∃ vs ty,w.heap[g.β i]? = some (.cells vs ty (0,0))/\CR w g st.look cs vs.toList
 trees:∀ (i:Nat) (xs:List TV),st.look i=some (.tree xs)->∀ (r:Nat) (x:TV),xs[r]? = some x->ak w g.I x (g.ρ i r) (g.φ i r)
 foot:∀ i b,Foot g st.look i b->w0.New b/\b < w.heap.size/\¬ g.I b/\¬ R b
 apart:∀ i j b,Foot g st.look i b->Foot g st.look j b->i=j
 apartR:∀ i xs r r' b,st.look i=some (.tree xs)->r < xs.length->r' < xs.length->g.φ i r b->g.φ i r' b->r=r'
 res:∀ b,R b->w0.New b/\b < w.heap.size/\¬ g.I b
 base:w0.Ok I0
 out:(∀ b ob,g.O b=some ob->w0.w.heap[b]? = some ob/\¬ w0.L b)/\g.O.y=w0.Y
def Sim (w0:Bs) (I0:Nat->Prop) (st:ASt) (a:Act) (ov:List Value) (w:World):Prop:=∃ g,aj w0 I0 (fun _=>False) g st a ov w
section
variable {w0:Bs} {w w':World} {I0 R R':Nat->Prop} {g g':Gh} {st st':ASt} {a:Act} {ov:List Value}
theorem ah (st:ASt) (i j:Nat) (b:Option BC):(st.ac i b).look j=if i=j/\i < st.boxes.length then b else st.look j:=by
 simp only [ASt.look,ASt.ac,ai,aV,List.getElem?_set]
 by_cases h:i=j
 ·subst h
  by_cases h2:i < st.boxes.length <;> simp [h2]
 ·simp [h]
theorem sA (st:ASt) (i:Nat) (b c:Option BC):(st.ac i b).ac i c=st.ac i c:=by
 simp [ASt.ac,ai]
theorem bQ (st:ASt) (d:Option Tmp) (v:AV):(st.put d v).look=st.look:=by cases d <;> rfl
theorem bI (st:ASt) (d:Option Tmp) (v:AV):(st.put d v).boxes=st.boxes:=by cases d <;> rfl
theorem mZ (st:ASt) (d:Option Tmp) (v:AV):(st.put d v).out=st.out:=by cases d <;> rfl
theorem ep {st:ASt} {i:Nat} {b:BC} (h:st.look i=some b):i < st.boxes.length:=by
 rcases Nat.lt_or_ge i st.boxes.length with h' | h'
 ·exact h'
 ·simp [ASt.look,aV,D5 h'] at h
theorem aF (st:ASt) (f:CA->CA) (i:Nat):(st.aq f).look i=(st.look i).map (BC.be f):=by
 simp only [ASt.look,ASt.aq,aV,nY]
 cases st.boxes[i]? with
 | none=>rfl
 | some b=>cases b <;> rfl
theorem aj.weaken (h:aj w0 I0 R g st a ov w) (hR:∀ b,R' b->R b):aj w0 I0 R' g st a ov w :=
 ⟨h.below,h.sub,h.lt,h.old,h.len,h.defers,h.slots,h.olen,h.outs,h.cells,h.trees,fun i b hb=>by obtain ⟨h1,h2,h3,h4⟩:=h.foot i b hb; exact ⟨h1,h2,h3,fun hr=>h4 (hR b hr)⟩,h.apart,h.apartR,fun b hb=>h.res b (hR b hb),h.base,h.out⟩
theorem aj.CE (h:aj w0 I0 R g st a ov w) {b:Nat} {ob:Obj} (ho:g.O b=some ob):w.heap[b]? = some ob:=by
 obtain ⟨h1,h2⟩:=h.out.1 b ob ho
 rw [<- h1]
 exact h.below.block b (DX.1 h1).1 h2
theorem aj.cellAt (h:aj w0 I0 R g st a ov w) {p:Addr} {u:Value} (hc:j8 w g p u):w.cell? p=some u:=by
 rcases hc with ⟨_,h2⟩ | ⟨ob,h1,h2⟩
 ·exact h2
 ·exact h2 w (h.CE h1)
theorem aj.laid (h:aj w0 I0 R g st a ov w) {I':Nat->Prop} (hI:∀ b,g.I b->I' b):w0.G.P w I' :=
 w0.G.mv (fun b hb=>h.below.block b (h.base.1 b hb).1 (h.base.1 b hb).2) (fun b hb=>hI b (h.sub b hb)) h.base.2
theorem aj.ev (h:aj w0 I0 R g st a ov w) (x:Operand):br w g st.look (st.ev x) (a.eval x):=by
 have con:∀ v:Value,br w g st.look (bif v.oneCell' then .one (.t (.lit v)) else .tv (.lit v)) v:=fun v=>by
  cases h1:v.oneCell' with
  | true=>exact ⟨.lit v,h1⟩
  | false=>exact .lit v
 cases x with
 | tmp t =>
  simp only [ASt.ev,Act.eval]
  cases ht:st.slots[t]? with
  | none=>rw [aV,ht]; exact trivial
  | some v=>rw [bz ht]; exact h.slots t v ht
 | const v =>
  cases v with
  | bool b=>rfl
  | int k n=>exact con (.int k n)
  | float k n=>exact con (.float k n)
  | complex k n m=>exact con (.complex k n m)
  | string s=>exact con (.string s)
  | pointer p=>exact con (.pointer p)
  | slice p l c=>exact con (.slice p l c)
  | map r=>exact con (.map r)
  | chan r=>exact con (.chan r)
  | func f x y=>exact con (.func f x y)
  | nilFunc=>exact con .nilFunc
  | iface t v=>exact con (.iface t v)
  | nilIface=>exact con .nilIface
  | agg cs=>exact con (.agg cs)
  | tuple cs=>exact con (.tuple cs)
 | global g=>exact .lit _
 | func f=>exact .lit _
theorem mX (l:Array Value) (d t:Nat) (v:Value):(l.setIfInBounds d v).getD t undef=if d=t/\d < l.size then v else l.getD t undef:=by
 simp only [D8,Array.getElem?_setIfInBounds]
 by_cases h:d=t
 ·subst h
  by_cases h2:d < l.size <;> simp [h2]
 ·simp [h]
theorem aj.put (h:aj w0 I0 R g st a ov w) (d:Option Tmp) {v:AV} {u:Value} (hv:br w g st.look v u):aj w0 I0 R g (st.put d v) (a.put d u) ov w:=by
 cases d with
 | none=>exact h
 | some d =>
  refine ⟨h.below,h.sub,h.lt,h.old,?_,h.defers,?_,h.olen,h.outs,h.cells,h.trees,h.foot,h.apart,h.apartR,h.res,h.base,h.out⟩
  ·simp [ASt.put,Act.put,ai,h.len]
  ·intro t x hx
   rw [bQ]
   simp only [ASt.put,ai,List.getElem?_set] at hx
   simp only [Act.put,mX]
   by_cases hd:d=t
   ·subst hd
    by_cases h2:d < st.slots.length
    ·simp [h2] at hx
     subst hx
     simp [h.len,h2]
     exact hv
    ·simp [h2] at hx
   ·simp only [hd,if_false] at hx
    simp only [hd,false_and,if_false]
    exact h.slots t x hx
theorem wb {t:Nat} {u:Value} (h:a.tmps.getD t undef=u):a.put (some t) u=a:=by
 subst h
 simp only [Act.put]
 congr 1
 apply Array.ext_getElem?
 intro i
 rw [Array.getElem?_setIfInBounds]
 by_cases hi:t=i
 ·subst hi
  by_cases hl:t < a.tmps.size
  ·simp [hl]
  ·simp [hl]
 ·simp [hi]
theorem cW {f:CA->CA} (hf:∀ c v,bm w g st.look c v->bm w' g' st'.look (f c) v) (hh:∀ b,g.I b->w'.heap[b]? = w.heap[b]?) (hI:∀ b,g.I b->g'.I b) {l:List AV} {vs:Nat->Value}
  (h:∀ (t:Nat) (v:AV),l[t]? = some v->br w g st.look v (vs t)):∀ (t:Nat) (v:AV),(b8 f l)[t]? = some v->br w' g' st'.look v (vs t):=by
 intro t v hv
 rw [kT] at hv
 cases hl:l[t]? with
 | none=>simp [hl] at hv
 | some v' =>
  simp only [hl,D6,DU] at hv
  subst hv
  exact (h t v' hl).bG hf hh hI
end
end Go.Ab
end
section
namespace Go.Ab
open Go.RowKit
section
variable {w0:Bs} {w w':World} {I0 R R':Nat->Prop} {g g':Gh} {st st':ASt} {a:Act} {ov:List Value}
theorem Bf (l:List AV):b8 id l=l:=by
 induction l with
 | nil=>rfl
 | cons c l ih=>simp [b8,ih,x6]
theorem BO (l:List (Option BC)):dM id l=l:=by
 induction l with
 | nil=>rfl
 | cons c l ih =>
  cases c with
  | none=>simp [dM,ih]
  | some b=>cases b <;> simp [dM,ih,BC.be,pM]
theorem bE (st:ASt):st.aq id=st:=by
 obtain ⟨a,b,c⟩:=st
 simp [ASt.aq,Bf,BO]
theorem qu {f:CA->CA} {o:Option BC} {cs':List CA} (h:o.map (BC.be f)=some (.cells cs')):∃ cs,o=some (.cells cs)/\cs'=mapC f cs:=by
 cases o with
 | none=>simp at h
 | some b =>
  cases b with
  | cells cs=>simp [BC.be] at h; exact ⟨cs,rfl,h.symm⟩
  | tree xs=>simp [BC.be] at h
theorem oj {f:CA->CA} {o:Option BC} {xs':List TV} (h:o.map (BC.be f)=some (.tree xs')):o=some (.tree xs'):=by
 cases o with
 | none=>simp at h
 | some b =>
  cases b with
  | cells cs=>simp [BC.be] at h
  | tree xs=>simp [BC.be] at h; rw [h]
theorem aj.change (hs:aj w0 I0 R g st a ov w) {i:Nat} {b':BC} (hi:i < st.boxes.length) (f:CA->CA) (g':Gh) (w':World) (R':Nat->Prop)
  (hw:w0.Bel w') (hsz:w.heap.size<=w'.heap.size) (hk:∀ b,b < w.heap.size->¬ Foot g st.look i b->¬ R b->w'.heap[b]? = w.heap[b]?)
  (hg:∀ j,j≠i->g'.β j=g.β j/\g'.ρ j=g.ρ j/\g'.φ j=g.φ j)
  (hI:∀ b,g.I b->g'.I b) (hIn:∀ b,g'.I b->g.I b\/Foot g st.look i b) (hIf:∀ b,g'.I b->¬ Foot g' ((st.aq f).ac i (some b')).look i b)
  (hf:∀ c v,bm w g st.look c v->bm w' g' ((st.aq f).ac i (some b')).look (f c) v)
  (hfoot:∀ b,Foot g' ((st.aq f).ac i (some b')).look i b->Foot g st.look i b\/R b\/(w.heap.size<=b/\b < w'.heap.size))
  (hR:∀ b,R' b->(R b\/Foot g st.look i b)/\¬ Foot g' ((st.aq f).ac i (some b')).look i b/\¬ g'.I b)
  (hcells:∀ cs,b'=.cells cs->∃ vs ty,w'.heap[g'.β i]? = some (.cells vs ty (0,0))/\CR w' g' ((st.aq f).ac i (some b')).look cs vs.toList)
  (htree:∀ xs,b'=.tree xs->(∀ (r:Nat) (x:TV),xs[r]? = some x->ak w' g'.I x (g'.ρ i r) (g'.φ i r))/\∀ r r' b,r < xs.length->r' < xs.length->g'.φ i r b->g'.φ i r' b->r=r') (hO:g'.O=g.O:=by rfl) :
  aj w0 I0 R' g' ((st.aq f).ac i (some b')) a ov w':=by
 have hlk:∀ j,((st.aq f).ac i (some b')).look j=if i=j then some b' else (st.look j).map (BC.be f):=fun j=>by
  rw [ah,aF]
  by_cases h:i=j
  ·subst h
   rw [if_pos ⟨rfl,by simp [ASt.aq,kZ]; exact hi⟩,if_pos rfl]
  ·rw [if_neg (fun h'=>h h'.1),if_neg h]
 have hF:∀ j b,j≠i->Foot g' ((st.aq f).ac i (some b')).look j b->Foot g st.look j b:=by
  intro j b hj h
  rcases h with ⟨cs,h1,h2⟩ | ⟨xs,r,h1,h2,h3⟩
  ·rw [hlk,if_neg (fun e=>hj e.symm)] at h1
   obtain ⟨cs0,h4,_⟩:=qu h1
   exact .inl ⟨cs0,h4,by rw [<- (hg j hj).1]; exact h2⟩
  ·rw [hlk,if_neg (fun e=>hj e.symm)] at h1
   exact .inr ⟨xs,r,oj h1,h2,by rw [<- (hg j hj).2.2]; exact h3⟩
 have hIk:∀ b,g.I b->w'.heap[b]? = w.heap[b]? := fun b hb=>hk b (hs.lt b hb) (fun h=>(hs.foot i b h).2.2.1 hb) (fun h=>(hs.res b h).2.2 hb)
 have hnew:∀ b,Foot g st.look i b->w0.New b/\b < w.heap.size:=fun b hb=>⟨(hs.foot i b hb).1,(hs.foot i b hb).2.1⟩
 have hfi:∀ b,Foot g' ((st.aq f).ac i (some b')).look i b->w0.New b/\b < w'.heap.size:=by
  intro b hb
  rcases hfoot b hb with h | h | h
  ·exact ⟨(hnew b h).1,Nat.lt_of_lt_of_le (hnew b h).2 hsz⟩
  ·exact ⟨(hs.res b h).1,Nat.lt_of_lt_of_le (hs.res b h).2.1 hsz⟩
  ·exact ⟨.of_le hs.below h.1,h.2⟩
 have hout:∀ i' j b,i'=i->j≠i->Foot g' ((st.aq f).ac i (some b')).look i' b->Foot g st.look j b->False:=by
  intro i' j b hi' hj h1 h2
  subst hi'
  rcases hfoot b h1 with h | h | h
  ·exact hj (hs.apart i' j b h h2).symm
  ·exact (hs.foot j b h2).2.2.2 h
  ·have:=(hs.foot j b h2).2.1; omega
 refine ⟨hw,fun b hb=>hI b (hs.sub b hb),fun b hb=>?_,fun b hlt hb=>?_,by simp only [ASt.ac,ASt.aq,aZ]; exact hs.len,hs.defers,
  cW (vs:=fun t=>a.tmps.getD t undef) hf hIk hI hs.slots,by simp only [ASt.ac,ASt.aq,aZ]; exact hs.olen,cW (vs:=fun t=>ov.getD t undef) hf hIk hI hs.outs,?_,?_,?_,?_,?_,?_,hs.base,by rw [hO]; exact hs.out⟩
 ·rcases hIn b hb with h | h
  ·exact Nat.lt_of_lt_of_le (hs.lt b h) hsz
  ·exact Nat.lt_of_lt_of_le (hnew b h).2 hsz
 ·rcases hIn b hb with h | h
  ·exact hs.old b hlt h
  ·exact absurd (hnew b h).1 hlt
 ·intro j cs hj
  rw [hlk] at hj
  by_cases hij:i=j
  ·subst hij
   rw [if_pos rfl] at hj
   exact hcells cs (Option.some.inj hj)
  ·rw [if_neg hij] at hj
   obtain ⟨cs0,h1,h2⟩:=qu hj
   subst h2
   obtain ⟨vs,ty,h3,h4⟩:=hs.cells j cs0 h1
   have hfj:Foot g st.look j (g.β j):=.inl ⟨cs0,h1,rfl⟩
   refine ⟨vs,ty,?_,h4.mapC hf⟩
   rw [(hg j (fun e=>hij e.symm)).1,hk _ (hs.foot j _ hfj).2.1 (fun h=>hij (hs.apart i j _ h hfj)) (hs.foot j _ hfj).2.2.2]
   exact h3
 ·intro j xs hj r x hx
  rw [hlk] at hj
  by_cases hij:i=j
  ·subst hij
   rw [if_pos rfl] at hj
   exact (htree xs (Option.some.inj hj)).1 r x hx
  ·rw [if_neg hij] at hj
   have h1:=oj hj
   have hj':j≠i:=fun e=>hij e.symm
   rw [(hg j hj').2.1,(hg j hj').2.2]
   have hr:r < xs.length:=(DS.1 hx).1
   refine (hs.trees j xs h1 r x hx).mv hIk hI (fun b hb=>?_) (fun _ h=>h)
   have hfj:Foot g st.look j b:=.inr ⟨xs,r,h1,hr,hb⟩
   exact hk b (hs.foot j b hfj).2.1 (fun h=>hij (hs.apart i j b h hfj)) (hs.foot j b hfj).2.2.2
 ·intro j b hb
  by_cases hij:j=i
  ·subst hij
   exact ⟨(hfi b hb).1,(hfi b hb).2,fun h=>hIf b h hb,fun h=>(hR b h).2.1 hb⟩
  ·have hfj:=hF j b hij hb
   obtain ⟨h1,h2,h3,h4⟩:=hs.foot j b hfj
   refine ⟨h1,Nat.lt_of_lt_of_le h2 hsz,fun h=>?_,fun h=>?_⟩
   ·rcases hIn b h with h5 | h5
    ·exact h3 h5
    ·exact hij (hs.apart i j b h5 hfj).symm
   ·rcases (hR b h).1 with h5 | h5
    ·exact h4 h5
    ·exact hij (hs.apart i j b h5 hfj).symm
 ·intro j k b hj hk'
  by_cases hji:j=i <;> by_cases hki:k=i
  ·rw [hji,hki]
  ·exact (hout j k b hji hki hj (hF k b hki hk')).elim
  ·exact (hout k j b hki hji hk' (hF j b hji hj)).elim
  ·exact hs.apart j k b (hF j b hji hj) (hF k b hki hk')
 ·intro j xs r r' b hj hr hr' hb hb'
  rw [hlk] at hj
  by_cases hij:i=j
  ·subst hij
   rw [if_pos rfl] at hj
   exact (htree xs (Option.some.inj hj)).2 r r' b hr hr' hb hb'
  ·rw [if_neg hij] at hj
   rw [(hg j (fun e=>hij e.symm)).2.2] at hb hb'
   exact hs.apartR j xs r r' b (oj hj) hr hr' hb hb'
 ·intro b hb
  obtain ⟨h1,h2,h3⟩:=hR b hb
  rcases h1 with h | h
  ·exact ⟨(hs.res b h).1,Nat.lt_of_lt_of_le (hs.res b h).2.1 hsz,h3⟩
  ·exact ⟨(hnew b h).1,Nat.lt_of_lt_of_le (hnew b h).2 hsz,h3⟩
def Gh.setβ (g:Gh) (i b:Nat):Gh:=⟨g.I,g.ρ,fun j=>if j=i then b else g.β j,g.φ,g.O⟩
def Gh.i7 (g:Gh) (i:Nat) (ρ:Nat->Value) (φ:Nat->Nat->Prop):Gh:=⟨g.I,fun j=>if j=i then ρ else g.ρ j,g.β,fun j=>if j=i then φ else g.φ j,g.O⟩
theorem bd {i:Nat} {b:BC} (h:st.bi i b=some st'):st.look i=none/\i < st.boxes.length/\st'=st.ac i (some b):=by
 unfold ASt.bi at h
 split at h
 ·cases h
 ·rename_i hl
  cases hb:i.blt st.boxes.length with
  | false=>simp [hb] at h
  | true=>simp only [hb,cond_true,DU] at h; exact ⟨hl,by simpa using hb,h.symm⟩
theorem Mv.add (hs:aj w0 I0 R g st a ov w) {i:Nat} {b:BC} (hi:i < st.boxes.length) (hn:st.look i=none) (hb:∀ k,k < w.heap.size->¬ R k->w'.heap[k]? = w.heap[k]?) {g':Gh} (hI:∀ b,g.I b->g'.I b)
  (hg:∀ j,j≠i->g'.β j=g.β j/\g'.ρ j=g.ρ j) (hO:g'.O=g.O:=by rfl):Mv (fun _ _ _=>True) w g st.look w' g' (st.ac i (some b)).look:=by
 have hlk:∀ j b',st.look j=some b'->(st.ac i (some b)).look j=some b'/\j≠i:=fun j b' hj=>by
  have hne:j≠i:=fun e=>by subst e; rw [hn] at hj; cases hj
  rw [ah,if_neg (fun h=>hne h.1.symm)]
  exact ⟨hj,hne⟩
 refine ⟨fun k hk=>hb k (hs.lt k hk) (fun h=>(hs.res k h).2.2 hk),hI,fun j cs hj=>⟨cs,(hlk j _ hj).1,(hg j (hlk j _ hj).2).1⟩,fun j cs ty hj ht=>?_,fun j r p xs x v nd hj hx _ hv hnd=>⟨xs,x,(hlk j _ hj).1,hx,?_⟩,hO⟩
 ·obtain ⟨vs,fr,h⟩:=ht
  have hf:=hs.foot j _ (.inl ⟨cs,hj,rfl⟩)
  exact ⟨vs,fr,by rw [hb _ hf.2.1 hf.2.2.2]; exact h⟩
 rw [(hg j (hlk j _ hj).2).2]
 have hr:r < xs.length:=(DS.1 hx).1
 exact Node.mv (hs.trees j xs hj r x hx) (fun k hk=>hb k (hs.lt k hk) (fun h=>(hs.res k h).2.2 hk)) (fun k hk=>hb k (hs.foot j k (.inr ⟨xs,r,hj,hr,hk⟩)).2.1 (hs.foot j k (.inr ⟨xs,r,hj,hr,hk⟩)).2.2.2) hnd
theorem aj.sm (hs:aj w0 I0 R g st a ov w) {i:Nat} {cs:List CA} (hi:i < st.boxes.length) (hn:st.look i=none) {vs:Array Value} {ty:TypeId} {k:Nat} (hb:Below w.heap.size w w') (hk:w.heap.size<=k)
  (hk2:k < w'.heap.size) (hh:w'.heap[k]? = some (.cells vs ty (0,0))) (hcr:CR w g st.look cs vs.toList) :
  aj w0 I0 R (g.setβ i k) (st.ac i (some (.cells cs))) a ov w'/\Mv (fun _ _ _=>True) w g st.look w' (g.setβ i k) (st.ac i (some (.cells cs))).look:=by
 have m:Mv (fun _ _ _=>True) w g st.look w' (g.setβ i k) (st.ac i (some (.cells cs))).look:=Mv.add hs hi hn (fun k hk _=>hb.block k hk) (fun _ h=>h) (fun j hj=>⟨by simp [Gh.setβ,hj],rfl⟩)
 refine ⟨?_,m⟩
 have hli:(st.ac i (some (.cells cs))).look i=some (.cells cs):=by rw [ah,if_pos ⟨rfl,hi⟩]
 have hfi:∀ b,Foot (g.setβ i k) (st.ac i (some (.cells cs))).look i b->b=k:=by
  rintro b (⟨cs',h1,h2⟩ | ⟨xs,r,h1,_⟩)
  ·simpa [Gh.setβ] using h2
  ·rw [hli] at h1; cases h1
 have:=hs.change (b':=.cells cs) hi id (g.setβ i k) w' R (hs.below.step hb) hb.size (fun b hb' _ _=>hb.block b hb') (fun j hj=>⟨by simp [Gh.setβ,hj],rfl,rfl⟩) (fun _ h=>h) (fun _ h=>.inl h)
  (fun b hb1 hb2=>by rw [bE] at hb2; have:=hfi b hb2; subst this; have:=hs.lt _ hb1; omega)
  (fun c v hc=>by rw [bE]; exact bm.mv m (by cases c <;> trivial) hc)
  (fun b hb2=>by rw [bE] at hb2; have:=hfi b hb2; subst this; exact .inr (.inr ⟨hk,hk2⟩))
  (fun b hb1=>⟨.inl hb1,fun hb2=>by rw [bE] at hb2; have:=hfi b hb2; subst this; have:=(hs.res _ hb1).2.1; omega,(hs.res b hb1).2.2⟩)
  (fun cs' h=>by cases h; rw [bE]; exact ⟨vs,ty,by simpa [Gh.setβ] using hh,hcr.mv m⟩) (fun xs h=>by cases h)
 rwa [bE] at this
theorem aj.li (hs:aj w0 I0 R g st a ov w) {i:Nat} {xs:List TV} (hi:i < st.boxes.length) (hn:st.look i=none) (hw:w0.Bel w') (hsz:w.heap.size<=w'.heap.size) (hb:∀ k,k < w.heap.size->¬ R k->w'.heap[k]? = w.heap[k]?) (ρ:Nat->Value) (F:Nat->Nat->Prop)
  (hr:∀ (r:Nat) (x:TV),xs[r]? = some x->ak w' g.I x (ρ r) (F r)) (hF:∀ r b,r < xs.length->F r b->R b\/(w.heap.size<=b/\b < w'.heap.size)) (hd:∀ r r' b,r < xs.length->r' < xs.length->F r b->F r' b->r=r') :
  aj w0 I0 (fun _=>False) (g.i7 i ρ F) (st.ac i (some (.tree xs))) a ov w'/\Mv (fun _ _ _=>True) w g st.look w' (g.i7 i ρ F) (st.ac i (some (.tree xs))).look:=by
 have m:Mv (fun _ _ _=>True) w g st.look w' (g.i7 i ρ F) (st.ac i (some (.tree xs))).look:=Mv.add hs hi hn hb (fun _ h=>h) (fun j hj=>⟨rfl,by simp [Gh.i7,hj]⟩)
 refine ⟨?_,m⟩
 have hli:(st.ac i (some (.tree xs))).look i=some (.tree xs):=by rw [ah,if_pos ⟨rfl,hi⟩]
 have hfi:∀ b,Foot (g.i7 i ρ F) (st.ac i (some (.tree xs))).look i b->∃ r,r < xs.length/\F r b:=by
  rintro b (⟨cs',h1,h2⟩ | ⟨xs',r,h1,h2,h3⟩)
  ·rw [hli] at h1; cases h1
  ·rw [hli] at h1
   cases h1
   exact ⟨r,h2,by simpa [Gh.i7] using h3⟩
 have:=hs.change (b':=.tree xs) hi id (g.i7 i ρ F) w' (fun _=>False) hw hsz (fun b hb' _ hr=>hb b hb' hr) (fun j hj=>⟨rfl,by simp [Gh.i7,hj],by simp [Gh.i7,hj]⟩) (fun _ h=>h) (fun _ h=>.inl h)
  (fun b hb1 hb2 => by
   rw [bE] at hb2
   obtain ⟨r,h1,h2⟩:=hfi b hb2
   rcases hF r b h1 h2 with h | h
   ·exact (hs.res b h).2.2 hb1
   ·have:=hs.lt b hb1; omega)
  (fun c v hc=>by rw [bE]; exact bm.mv m (by cases c <;> trivial) hc)
  (fun b hb2 => by
   rw [bE] at hb2
   obtain ⟨r,h1,h2⟩:=hfi b hb2
   exact .inr (hF r b h1 h2))
  (fun b hb1=>hb1.elim) (fun cs' h=>by cases h)
  (fun xs' h=>by cases h; exact ⟨fun r x hx=>by simpa [Gh.i7] using hr r x hx,fun r r' b h1 h2 h3 h4=>hd r r' b h1 h2 (by simpa [Gh.i7] using h3) (by simpa [Gh.i7] using h4)⟩)
 rwa [bE] at this
end
end Go.Ab
end
section
namespace Go.Ab
open Go.RowKit
section
variable {w0:Bs} {w w':World} {I0 R R':Nat->Prop} {g g':Gh} {st st':ASt} {a:Act} {ov:List Value}
theorem dX (st:ASt) (f:CA->CA):(st.aq f).boxes.length=st.boxes.length:=by simp [ASt.aq,kZ]
theorem aj.dN (hs:aj w0 I0 R g st a ov w) {i:Nat} {cs cs':List CA} (hl:st.look i=some (.cells cs)) {vs':Array Value} {ty:TypeId} (hw:w0.Bel w') (hsz:w.heap.size<=w'.heap.size)
  (hk:∀ b,b≠g.β i->w'.heap[b]? = w.heap[b]?) (hh:w'.heap[g.β i]? = some (.cells vs' ty (0,0))) (hty:vh w (g.β i) ty) (hcr:CR w g st.look cs' vs'.toList) :
  aj w0 I0 R g (st.ac i (some (.cells cs'))) a ov w':=by
 have hi:=ep hl
 have hlk:∀ j,(st.ac i (some (.cells cs'))).look j=if i=j then some (.cells cs') else st.look j:=fun j=>by
  rw [ah]
  by_cases h:i=j
  ·rw [if_pos ⟨h,hi⟩,if_pos h]
  ·rw [if_neg (fun h'=>h h'.1),if_neg h]
 have hfi:Foot g st.look i (g.β i):=.inl ⟨cs,hl,rfl⟩
 have m:Mv (fun _ _ _=>True) w g st.look w' g (st.ac i (some (.cells cs'))).look:=by
  refine ⟨fun b hb=>hk b (fun e=>(hs.foot i _ hfi).2.2.1 (e ▸ hb)),fun _ h=>h,fun j c hj=>?_,fun j c t hj ht=>?_,fun j r p xs x v nd hj hx _ hv hn=>?_,rfl⟩
  ·rw [hlk]
   by_cases h:i=j
   ·subst h; exact ⟨cs',by simp,rfl⟩
   ·exact ⟨c,by rw [if_neg h]; exact hj,rfl⟩
  ·obtain ⟨us,fr,h1⟩:=ht
   by_cases h:g.β j=g.β i
   ·obtain ⟨us',fr',h2⟩:=hty
    rw [h] at h1 ⊢
    rw [h2] at h1
    cases h1
    exact ⟨vs',_,hh⟩
   ·exact ⟨us,fr,by rw [hk _ h]; exact h1⟩
  ·have hne:i≠j:=fun e=>by subst e; rw [hl] at hj; cases hj
   have hr:r < xs.length:=(DS.1 hx).1
   refine ⟨xs,x,by rw [hlk,if_neg hne]; exact hj,hx,Node.mv (hs.trees j xs hj r x hx) (fun b hb=>hk b (fun e=>(hs.foot i _ hfi).2.2.1 (e ▸ hb))) (fun b hb=>hk b (fun e=>?_)) hn⟩
   subst e
   exact hne (hs.apart i j _ hfi (.inr ⟨xs,r,hj,hr,hb⟩))
 have hF:∀ b,Foot g (st.ac i (some (.cells cs'))).look i b->b=g.β i:=by
  rintro b (⟨c,h1,h2⟩ | ⟨xs,r,h1,_⟩)
  ·exact h2
  ·rw [hlk,if_pos rfl] at h1; cases h1
 have:=hs.change (b':=.cells cs') hi id g w' R hw hsz (fun b _ hb _=>hk b (fun e=>hb (e ▸ hfi))) (fun j _=>⟨rfl,rfl,rfl⟩) (fun _ h=>h) (fun _ h=>.inl h)
  (fun b hb1 hb2=>by rw [bE] at hb2; rw [hF b hb2] at hb1; exact (hs.foot i _ hfi).2.2.1 hb1)
  (fun c v hc=>by rw [bE]; exact bm.mv m (by cases c <;> trivial) hc)
  (fun b hb2=>by rw [bE] at hb2; rw [hF b hb2]; exact .inl hfi)
  (fun b hb1=>⟨.inl hb1,fun hb2=>by rw [bE] at hb2; rw [hF b hb2] at hb1; exact (hs.foot i _ hfi).2.2.2 hb1,(hs.res b hb1).2.2⟩)
  (fun c h=>by cases h; rw [bE]; exact ⟨vs',ty,hh,hcr.mv m⟩) (fun xs h=>by cases h)
 rwa [bE] at this
def Gh.cr (g:Gh) (I':Nat->Prop) (i r:Nat) (u:Value) (S:Nat->Prop):Gh :=
 ⟨I',fun j k=>if j=i/\k=r then u else g.ρ j k,g.β,fun j k=>if j=i/\k=r then S else g.φ j k,g.O⟩
theorem aj.eG (hs:aj w0 I0 R g st a ov w) {i r:Nat} {xs:List TV} {x:TV} (hl:st.look i=some (.tree xs)) (hx:xs[r]? = some x) (f:CA->CA) (ok:Way->Prop)
  (hf:∀ c,(f c=c/\c.okP (fun i' r' p=>i'=i->r'=r->ok p))\/f c=.junk) {w':World} {x':TV} {u':Value} {S' R' I':Nat->Prop} (hr:ak w' I' x' u' S')
  (hnode:∀ (p:Way) (v:Value) (nd:Option (Nat × Nat)),ok p->lI v->Node w p x (g.ρ i r) v nd->Node w' p x' u' v nd)
  (hw:w0.Bel w') (hsz:w.heap.size<=w'.heap.size) (hmem:∀ b,b < w.heap.size->¬ g.φ i r b->¬ R b->w'.heap[b]? = w.heap[b]?) (hS:∀ b,S' b->g.φ i r b\/R b\/(w.heap.size<=b/\b < w'.heap.size))
  (hR:∀ b,R' b->(R b\/g.φ i r b)/\¬ S' b/\¬ I' b) (hI:∀ b,g.I b->I' b) (hIn:∀ b,I' b->g.I b\/g.φ i r b) (hIS:∀ b,I' b->¬ S' b) :
  aj w0 I0 R' (g.cr I' i r u' S') ((st.aq f).ac i (some (.tree (au xs r x')))) a ov w' /\
   ∀ c v,bm w g st.look c v->bm w' (g.cr I' i r u' S') ((st.aq f).ac i (some (.tree (au xs r x')))).look (f c) v:=by
 have hi:=ep hl
 have hrl:r < xs.length:=(DS.1 hx).1
 rw [ai]
 have hlk:∀ j,((st.aq f).ac i (some (.tree (xs.set r x')))).look j=if i=j then some (.tree (xs.set r x')) else (st.look j).map (BC.be f):=fun j=>by
  rw [ah,aF]
  by_cases h:i=j
  ·subst h
   rw [if_pos ⟨rfl,by rw [dX]; exact hi⟩,if_pos rfl]
  ·rw [if_neg (fun h'=>h h'.1),if_neg h]
 have hfr:∀ k b,k < xs.length->g.φ i k b->Foot g st.look i b:=fun k b hk hb=>.inr ⟨xs,k,hl,hk,hb⟩
 have hIk:∀ b,g.I b->w'.heap[b]? = w.heap[b]? := fun b hb=>hmem b (hs.lt b hb) (fun h=>(hs.foot i b (hfr r b hrl h)).2.2.1 hb) (fun h=>(hs.res b h).2.2 hb)
 have hothers:∀ (k:Nat) (y:TV),k≠r->xs[k]? = some y->∀ b,g.φ i k b->w'.heap[b]? = w.heap[b]? := fun k y hk hy b hb=>by
  have hkl:=(DS.1 hy).1
  exact hmem b (hs.foot i b (hfr k b hkl hb)).2.1 (fun h=>hk (hs.apartR i xs k r b hl hkl hrl hb h)) (hs.foot i b (hfr k b hkl hb)).2.2.2
 have m : ∀ c v, bm w g st.look c v → bm w' (g.cr I' i r u' S') ((st.aq f).ac i (some (.tree (xs.set r x')))).look (f c) v := by
  have mv:Mv (fun i' r' p=>i'=i->r'=r->ok p) w g st.look w' (g.cr I' i r u' S') ((st.aq f).ac i (some (.tree (xs.set r x')))).look:=by
   refine ⟨hIk,hI,fun j cs hj=>?_,fun j cs ty hj ht=>?_,fun j k p ys y v nd hj hy ho hv hn=>?_,rfl⟩
   ·have hne:i≠j:=fun e=>by subst e; rw [hl] at hj; cases hj
    exact ⟨mapC f cs,by rw [hlk,if_neg hne,hj]; rfl,rfl⟩
   ·obtain ⟨us,fr,h1⟩:=ht
    have hne:i≠j:=fun e=>by subst e; rw [hl] at hj; cases hj
    have hfj:Foot g st.look j (g.β j):=.inl ⟨cs,hj,rfl⟩
    exact ⟨us,fr,by rw [hmem _ (hs.foot j _ hfj).2.1 (fun h=>hne (hs.apart i j _ (hfr r _ hrl h) hfj)) (hs.foot j _ hfj).2.2.2]; exact h1⟩
   ·by_cases hij:j=i
    ·subst hij
     rw [hl] at hj
     cases hj
     by_cases hkr:k=r
     ·subst hkr
      rw [hx] at hy
      cases hy
      refine ⟨xs.set k x',x',by rw [hlk,if_pos rfl],by rw [List.getElem?_set_self hrl],?_⟩
      have:(g.cr I' j k u' S').ρ j k=u':=by simp [Gh.cr]
      rw [this]
      exact hnode p v nd (ho rfl rfl) hv hn
     ·refine ⟨xs.set r x',y,by rw [hlk,if_pos rfl],by rw [List.getElem?_set_ne (fun h=>hkr h.symm)]; exact hy,?_⟩
      have:(g.cr I' j r u' S').ρ j k=g.ρ j k:=by simp [Gh.cr,hkr]
      rw [this]
      exact Node.mv (hs.trees j xs hl k y hy) hIk (hothers k y hkr hy) hn
    ·have hne:i≠j:=fun e=>hij e.symm
     have hk:k < ys.length:=(DS.1 hy).1
     refine ⟨ys,y,by rw [hlk,if_neg hne,hj]; rfl,hy,?_⟩
     have:(g.cr I' i r u' S').ρ j k=g.ρ j k:=by simp [Gh.cr,hij]
     rw [this]
     refine Node.mv (hs.trees j ys hj k y hy) hIk (fun b hb=>?_) hn
     have hfj:Foot g st.look j b:=.inr ⟨ys,k,hj,hk,hb⟩
     exact hmem b (hs.foot j b hfj).2.1 (fun h=>hij (hs.apart i j b (hfr r b hrl h) hfj).symm) (hs.foot j b hfj).2.2.2
  intro c v hc
  rcases hf c with ⟨h1,h2⟩ | h1
  ·rw [h1]
   exact bm.mv mv h2 hc
  ·rw [h1]
   trivial
 refine ⟨?_,m⟩
 have hF:∀ b,Foot (g.cr I' i r u' S') ((st.aq f).ac i (some (.tree (xs.set r x')))).look i b->S' b\/∃ k,k≠r/\k < xs.length/\g.φ i k b:=by
  rintro b (⟨c,h1,h2⟩ | ⟨ys,k,h1,h2,h3⟩)
  ·rw [hlk,if_pos rfl] at h1; cases h1
  ·rw [hlk,if_pos rfl] at h1
   cases h1
   rw [List.length_set] at h2
   by_cases hk:k=r
   ·subst hk
    simp only [Gh.cr,and_self,if_true] at h3
    exact .inl h3
   ·simp only [Gh.cr,hk,and_false,if_false] at h3
    exact .inr ⟨k,hk,h2,h3⟩
 refine hs.change (b':=.tree (xs.set r x')) hi f (g.cr I' i r u' S') w' R' hw hsz (fun b hb hn hr=>hmem b hb (fun h=>hn (hfr r b hrl h)) hr) (fun j hj=>⟨rfl,by funext k; simp [Gh.cr,hj],by funext k; simp [Gh.cr,hj]⟩) hI
  (fun b hb=>(hIn b hb).imp id (hfr r b hrl)) (fun b hb1 hb2=>?_) m (fun b hb2=>?_) (fun b hb1=>⟨(hR b hb1).1.imp id (hfr r b hrl),fun hb2=>?_,(hR b hb1).2.2⟩) (fun c h=>by cases h) (fun ys h=>?_)
 ·rcases hF b hb2 with h | ⟨k,h1,h2,h3⟩
  ·exact hIS b hb1 h
  ·rcases hIn b hb1 with h4 | h4
   ·exact (hs.foot i b (hfr k b h2 h3)).2.2.1 h4
   ·exact h1 (hs.apartR i xs k r b hl h2 hrl h3 h4)
 ·rcases hF b hb2 with h | ⟨k,h1,h2,h3⟩
  ·exact (hS b h).imp (hfr r b hrl) id
  ·exact .inl (hfr k b h2 h3)
 ·rcases hF b hb2 with h | ⟨k,h1,h2,h3⟩
  ·exact (hR b hb1).2.1 h
  ·rcases (hR b hb1).1 with h4 | h4
   ·exact (hs.foot i b (hfr k b h2 h3)).2.2.2 h4
   ·exact h1 (hs.apartR i xs k r b hl h2 hrl h3 h4)
 ·cases h
  constructor
  ·intro k y hy
   by_cases hk:k=r
   ·subst hk
    rw [List.getElem?_set_self hrl] at hy
    cases hy
    simp only [Gh.cr,and_self,if_true]
    exact hr
   ·rw [List.getElem?_set_ne (fun h=>hk h.symm)] at hy
    simp only [Gh.cr,hk,and_false,if_false]
    exact (hs.trees i xs hl k y hy).mv hIk hI (hothers k y hk hy) (fun _ h=>h)
  ·intro k k' b h1 h2 h3 h4
   rw [List.length_set] at h1 h2
   have cross:∀ k,k≠r->k < xs.length->g.φ i k b->S' b->False:=fun k hk hkl hb hsb=>by
    rcases hS b hsb with h | h | h
    ·exact hk (hs.apartR i xs k r b hl hkl hrl hb h)
    ·exact (hs.foot i b (hfr k b hkl hb)).2.2.2 h
    ·have:=(hs.foot i b (hfr k b hkl hb)).2.1; omega
   by_cases hk:k=r <;> by_cases hk':k'=r
   ·rw [hk,hk']
   ·subst hk
    simp only [Gh.cr,and_self,if_true,hk',and_false,if_false] at h3 h4
    exact (cross k' hk' h2 h4 h3).elim
   ·subst hk'
    simp only [Gh.cr,and_self,if_true,hk,and_false,if_false] at h3 h4
    exact (cross k hk h1 h3 h4).elim
   ·simp only [Gh.cr,hk,hk',and_false,if_false] at h3 h4
    exact hs.apartR i xs k k' b hl h1 h2 h3 h4
theorem eX (i r:Nat) (js:List Nat) (strict:Bool) (c:CA):(c.drop i r js strict=c/\c.okP (fun i' r' p=>i'=i->r'=r->leads strict js p=false))\/c.drop i r js strict=.junk:=by
 have key:∀ (i' r':Nat) (p:Way),dJ i r js strict i' r' p=false->(i'=i->r'=r->leads strict js p=false):=by
  intro i' r' p h h1 h2
  subst h1 h2
  simpa [dJ] using h
 cases c with
 | tptr i' r' p k j =>
  simp only [CA.drop]
  cases h:dJ i r js strict i' r' p with
  | true=>exact .inr rfl
  | false=>exact .inl ⟨rfl,key i' r' p h⟩
 | sref i' r' p =>
  simp only [CA.drop]
  cases h:dJ i r js strict i' r' p with
  | true=>exact .inr rfl
  | false=>exact .inl ⟨rfl,key i' r' p h⟩
 | swin i' r' p lo len =>
  simp only [CA.drop]
  cases h:dJ i r js strict i' r' p with
  | true=>exact .inr rfl
  | false=>exact .inl ⟨rfl,key i' r' p h⟩
 | _=>exact .inl ⟨rfl,trivial⟩
theorem gD (p:Way):leads false [] p=true:=by cases p <;> rfl
theorem jC:∀ (p q:Way),leads false (bg p) (p ++ q)=true
 | [],q=>gD q
 | (k,j) :: p,q=>by simp [bg,leads,jC p q]
theorem mG:∀ (p q:Way),q≠[]->leads true (bg p) (p ++ q)=true
 | [],q,h=>by cases q with | nil=>exact absurd rfl h | cons a q=>rfl
 | (k,j) :: p,q,h=>by simp [bg,leads,mG p q h]
theorem sg:∀ (p q:Way) (k j:Nat),leads false (bg p ++ [j]) (p ++ (k,j) :: q)=true
 | [],q,k,j=>by cases q <;> simp [bg,leads]
 | (k',j') :: p,q,k,j=>by simp [bg,leads,sg p q k j]
theorem oI (f f':CA->CA) (l:List CA):mapC f' (mapC f l)=mapC (f' ∘ f) l:=by
 induction l with
 | nil=>rfl
 | cons c l ih=>simp [mapC,ih]
theorem zd (f f':CA->CA) (l:List (Bool × List CA)):jz f' (jz f l)=jz (f' ∘ f) l:=by
 induction l with
 | nil=>rfl
 | cons c l ih=>obtain ⟨b,c⟩:=c; simp [jz,ih,oI]
theorem zX (f f':CA->CA) (v:AV):(v.bG f).bG f'=v.bG (f' ∘ f):=by
 cases v <;> simp [AV.bG,oI,zd]
theorem xT (f f':CA->CA) (l:List AV):b8 f' (b8 f l)=b8 (f' ∘ f) l:=by
 induction l with
 | nil=>rfl
 | cons c l ih=>simp [b8,ih,zX]
theorem wZ (f f':CA->CA) (l:List (Option BC)):dM f' (dM f l)=dM (f' ∘ f) l:=by
 induction l with
 | nil=>rfl
 | cons c l ih =>
  cases c with
  | none=>simp [dM,ih]
  | some b=>cases b <;> simp [dM,ih,BC.be,oI]
theorem zb (st:ASt) (f f':CA->CA):(st.aq f).aq f'=st.aq (f' ∘ f):=by
 simp [ASt.aq,xT,wZ]
theorem aj.take (hs:aj w0 I0 R g st a ov w) {i r:Nat} {xs:List TV} {x:TV} (hl:st.look i=some (.tree xs)) (hx:xs[r]? = some x) :
  aj w0 I0 (fun b=>R b\/g.φ i r b) (g.cr g.I i r (g.ρ i r) (fun _=>False)) ((st.aq (CA.drop i r [] false)).ac i (some (.tree (au xs r .hole)))) a ov w /\
  ak w g.I x (g.ρ i r) (g.φ i r)/\(∀ b,g.φ i r b->¬ R b) /\
   ∀ c v,bm w g st.look c v->bm w (g.cr g.I i r (g.ρ i r) (fun _=>False)) ((st.aq (CA.drop i r [] false)).ac i (some (.tree (au xs r .hole)))).look (c.drop i r [] false) v:=by
 have hrl:r < xs.length:=(DS.1 hx).1
 have hfr:∀ b,g.φ i r b->Foot g st.look i b:=fun b hb=>.inr ⟨xs,r,hl,hrl,hb⟩
 obtain ⟨h1,h2⟩:=hs.eG hl hx (CA.drop i r [] false) (fun p=>leads false [] p=false) (eX i r [] false) (w':=w) (x':=.hole) (u':=g.ρ i r) (S':=fun _=>False) (R':=fun b=>R b\/g.φ i r b) (I':=g.I) (.fr (.hole _))
  (fun p v nd ho _ _=>by rw [gD] at ho; cases ho) hs.below (Nat.le_refl _) (fun _ _ _ _=>rfl) (fun _ h=>h.elim) (fun b hb=>⟨hb,id,hb.elim (fun h=>(hs.res b h).2.2) (fun h=>(hs.foot i b (hfr b h)).2.2.1)⟩) (fun _ h=>h) (fun _ h=>.inl h) (fun _ _ h=>h)
 exact ⟨h1,hs.trees i xs hl r x hx,fun b hb=>(hs.foot i b (hfr b hb)).2.2.2,h2⟩
theorem aj.freeze (hs:aj w0 I0 R g st a ov w) {i r:Nat} {xs:List TV} {x:TV} (hl:st.look i=some (.tree xs)) (hx:xs[r]? = some x) :
  Rep w (fun b=>g.I b\/g.φ i r b) (frz x) (g.ρ i r) /\
   aj w0 I0 R (g.cr (fun b=>g.I b\/g.φ i r b) i r (g.ρ i r) (fun _=>False)) (st.ac i (some (.tree (au xs r (frz x))))) a ov w /\
   ∀ c v,bm w g st.look c v->bm w (g.cr (fun b=>g.I b\/g.φ i r b) i r (g.ρ i r) (fun _=>False)) (st.ac i (some (.tree (au xs r (frz x))))).look c v:=by
 have hrl:r < xs.length:=(DS.1 hx).1
 have hfr:∀ b,g.φ i r b->Foot g st.look i b:=fun b hb=>.inr ⟨xs,r,hl,hrl,hb⟩
 have hrep:=(hs.trees i xs hl r x hx).frz (I':=fun b=>g.I b\/g.φ i r b) (fun _ h=>.inl h) (fun _ h=>.inr h)
 have:=hs.eG hl hx id (fun _=>True) (fun c=>.inl ⟨rfl,by cases c <;> first | trivial | exact fun _ _=>trivial⟩) (w':=w) (R':=R) (S':=fun _=>False) (.fr hrep) (fun q v' nd _ _ hn=>Node.frz hn) hs.below (Nat.le_refl _) (fun _ _ _ _=>rfl) (fun b hb=>hb.elim)
  (fun b hb=>⟨.inl hb,fun h=>h,fun h=>h.elim (hs.res b hb).2.2 (fun h=>(hs.foot i b (hfr b h)).2.2.2 hb)⟩) (fun _ h=>.inl h) (fun b hb=>hb)
  (fun b hb h=>h)
 rw [bE] at this
 exact ⟨hrep,this.1,fun c v hc=>this.2 c v hc⟩
theorem aj.cool (hs:aj w0 I0 R g st a ov w) {i r:Nat} {xs:List TV} {x:TV} (hl:st.look i=some (.tree xs)) (hx:xs[r]? = some x) :
  ∃ g',aj w0 I0 R g' (st.ac i (some (.tree (au xs r (kf x))))) a ov w:=by
 have hrl:r < xs.length:=(DS.1 hx).1
 have hfr:∀ b,g.φ i r b->Foot g st.look i b:=fun b hb=>.inr ⟨xs,r,hl,hrl,hb⟩
 obtain ⟨S',hS',hrep⟩:=(hs.trees i xs hl r x hx).cool
 have:=hs.eG hl hx id (fun _=>True) (fun c=>.inl ⟨rfl,by cases c <;> first | trivial | exact fun _ _=>trivial⟩) (w':=w) (R':=R) (S':=S') hrep (fun q v' nd _ _ hn=>Node.cool hn) hs.below (Nat.le_refl _) (fun _ _ _ _=>rfl) (fun b hb=>.inl (hS' b hb))
  (fun b hb=>⟨.inl hb,fun h=>(hs.foot i b (hfr b (hS' b h))).2.2.2 hb,fun h=>h.elim (hs.res b hb).2.2 (fun h=>(hs.foot i b (hfr b h.1)).2.2.2 hb)⟩) (fun _ h=>.inl h) (fun b hb=>hb.elim .inl (fun h=>.inr h.1))
  (fun b hb h=>hb.elim (hs.foot i b (hfr b (hS' b h))).2.2.1 (fun hb=>hb.2 h))
 rw [bE] at this
 exact ⟨_,this.1⟩
end
end Go.Ab
end
section
namespace Go.Ab
open Go.RowKit
def ow:TypeDesc->Kd
 | .bool=>.bool
 | .int k=>.int k
 | .string=>.str
 | .slice e=>.slice e
 | .struct _=>.struct
 | .array n e=>.arr n e
 | .pointer _=>.ptr
 | _=>.other
def ny:TypeDesc->List (Nat × TypeId)
 | .struct fs=>fs.toList.map fun f=>(f.offset,f.type)
 | _=>[]
def tyOf (P : Program) (t : TypeId) : Option TyD :=
 match P.info? t,P.underlying t with
 | some i,some desc=>match i.zero with
  | some z => bif z.cells.size.beq i.size && z.cells.all Value.oneCell' && ((ow desc).isAgg || i.size.beq 1) && (ny desc).all (fun f => (P.info? f.2).isSome)
    then some ⟨i.size,i.bytes,ow desc,z.cells.toList,ny desc⟩ else none
  | none=>none
 | _,_=>none
structure aR (P:Program) (t:TypeId) (d:TyD):Prop where
 info:∃ i z,P.info? t=some i/\i.size=d.size/\i.bytes=d.bytes/\i.zero=some z/\z.cells.toList=d.zero
 und:∃ desc,P.underlying t=some desc/\ow desc=d.kd/\ny desc=d.fields
 zlen:d.zero.length=d.size
 zone:∀ v ∈ d.zero,v.oneCell'=true
 one:d.kd.isAgg=false->d.size=1
 flds:∀ f ∈ d.fields,(P.info? f.2).isSome=true
theorem aR.of {P:Program} {t:TypeId} {d:TyD} (h:tyOf P t=some d):aR P t d:=by
 unfold tyOf at h
 cases hi:P.info? t with
 | none=>simp [hi] at h
 | some i =>
  cases hu:P.underlying t with
  | none=>simp [hi,hu] at h
  | some desc =>
   cases hz:i.zero with
   | none=>simp [hi,hu,hz] at h
   | some z =>
    simp only [hi,hu,hz] at h
    cases hc:(z.cells.size.beq i.size && z.cells.all Value.oneCell' && ((ow desc).isAgg || i.size.beq 1) && (ny desc).all (fun f=>(P.info? f.2).isSome)) with
    | false=>simp [hc] at h
    | true =>
     simp only [hc,cond_true,DU] at h
     simp only [DV,ar,Bool.or_eq_true] at hc
     obtain ⟨⟨⟨h1,h2⟩,h3⟩,h4⟩:=hc
     subst h
     refine ⟨⟨i,z,hi,rfl,rfl,hz,rfl⟩,⟨desc,hu,rfl,rfl⟩,by simpa using h1,fun v hv=>?_,fun hk=>?_,fun f hf=>?_⟩
     ·rw [Array.all_eq_true_iff_forall_mem] at h2
      exact h2 v (by simpa using hv)
     ·rcases h3 with h3 | h3
      ·simp [hk] at h3
      ·exact h3
     ·rw [List.all_eq_true] at h4
      exact h4 f hf
abbrev Cal:=FuncId->List TV->TV->Prop
def Prg.hits {R:Type} (C:Cal):Prg R->R->Prop
 | .fail,_=>False
 | .ret e',e=>e'=e
 | .tv p k,e=>∃ v,p=some v/\(k v).hits C e
 | .tvs p k,e=>∃ v,p=some v/\(k v).hits C e
 | .rws p k,e=>∃ v,p=some v/\(k v).hits C e
 | .nat p k,e=>∃ v,p=some v/\(k v).hits C e
 | .chk b k,e=>b=true/\k.hits C e
 | .ite b t f,e=>∃ v,b=some v/\((v=true/\t.hits C e)\/(v=false/\f.hits C e))
 | .call f xs k,e=>∃ v,C f xs v/\(k v).hits C e
 | .jmp _ _,_=>False
section
variable {P:Program} {w:World}
theorem aM {t:TypeId} {d:TypeDesc} (h:P.underlying t=some d):(underlying t).run P w=.ok d w:=by simp [underlying,h]
theorem bP {t:TypeId} {d:TyD} (h:aR P t d):(sizeOf t).run P w=.ok d.size w:=by
 obtain ⟨i,z,hi,hs,_⟩:=h.info
 simp [sizeOf,typeInfo,hi,hs]
theorem rD {t:TypeId} {d:TyD} (h:aR P t d):∃ z,(zeroValue t).run P w=.ok z w/\z.cells.toList=d.zero:=by
 obtain ⟨i,z,hi,_,_,hz,hc⟩:=h.info
 exact ⟨z,by simp [zeroValue,typeInfo,hi,hz],hc⟩
theorem gA {t:TypeId} {d:TyD} (h:aR P t d):(isAgg t).run P w=.ok d.kd.isAgg w:=by
 obtain ⟨desc,hu,hk,_⟩:=h.und
 rw [<- hk]
 cases desc <;> simp [isAgg,underlying,hu,ow,Kd.isAgg]
end
section
variable {P:Program} {E:Env} {C:Cal} {w0:Bs} {w w':World} {I0 I R:Nat->Prop} {g g':Gh} {st st':ASt} {a:Act} {ov:List Value} {look:Look} {o:Oper} {Q:Exit->Act->World->Prop} {id:Nat}
theorem gW {next:Act->World->Prop} {v:Value} (h:(execOp a.eval o).run P w=.ok (.value v) w') (hn:next (a.put o.dst v) w'):o.wp P a w next Q:=by
 unfold Oper.wp; rw [h]; exact hn
theorem mq {next:Act->World->Prop} (h:(execOp a.eval o).run P w=.ok .skip w') (hn:next (a.put o.dst undef) w'):o.wp P a w next Q:=by
 unfold Oper.wp; rw [h]; exact hn
abbrev NoR:Nat->Prop:=fun _=>False
abbrev Good (P:Program) (w0:Bs) (I0:Nat->Prop) (ov:List Value) (o:Oper) (st':ASt) (a:Act) (w:World) (Q:Exit->Act->World->Prop):Prop:=o.wp P a w (fun a' w'=>Sim w0 I0 st' a' ov w') Q
abbrev vw (P:Program) (w0:Bs) (I0:Nat->Prop) (ov:List Value) (o:Oper) (st':ASt) (a:Act) (w:World):Prop:=∃ u,(execOp a.eval o).run P w=.ok (.value u) w/\Sim w0 I0 st' (a.put o.dst u) ov w
theorem qI (hs:aj w0 I0 NoR g st a ov w) {v:AV} {u:Value} (hrun:(execOp a.eval o).run P w=.ok (.value u) w) (hv:br w g st.look v u)
  (ha:(Eff.val v).app st o.dst=some st'):vw P w0 I0 ov o st' a w:=by
 simp only [Eff.app,DU] at ha
 subst ha
 exact ⟨u,hrun,⟨g,hs.put o.dst hv⟩⟩
theorem yF (hs:aj w0 I0 NoR g st a ov w) {x:TV} {u:Value} {e:Eff} (hrun:(execOp a.eval o).run P w=.ok (.value u) w) (hx:Rep w g.I x u) (h1:u.oneCell'=true)
  (hh:(vt x).hits C e) (ha:e.app st o.dst=some st'):vw P w0 I0 ov o st' a w:=by
 have he:e=.val (.one (.t x)):=hh.symm
 rw [he] at ha
 exact qI hs hrun (v:=.one (.t x)) ⟨hx,h1⟩ ha
theorem aJ (hs:aj w0 I0 NoR g st a ov w) {v:AV} {u:Value} (hrun:(execOp a.eval o).run P w=.ok (.value u) w) (hv:br w g st.look v u)
  (ha:(Eff.val v).app st o.dst=some st'):Good P w0 I0 ov o st' a w Q:=by
 simp only [Eff.app,DU] at ha
 subst ha
 exact gW hrun ⟨g,hs.put o.dst hv⟩
theorem yH {x:TV} {e:Eff} (h:(vt x).hits C e):e=.val (.one (.t x)):=h.symm
theorem cc (hs:aj w0 I0 NoR g st a ov w) {x:TV} {u:Value} {e:Eff} (hrun:(execOp a.eval o).run P w=.ok (.value u) w) (hx:Rep w g.I x u) (h1:u.oneCell'=true)
  (hh:(vt x).hits C e) (ha:e.app st o.dst=some st'):Good P w0 I0 ov o st' a w Q:=by
 rw [yH hh] at ha
 exact aJ hs hrun (v:=.one (.t x)) ⟨hx,h1⟩ ha
theorem bX {x:AV} {v:Value} {t:TV} (h:br w g look x v) (ht:x.tv? = some t):Rep w g.I t v:=by
 cases x with
 | one c=>cases c <;> simp [AV.tv?] at ht; subst ht; exact h.1
 | agg cs=>simp [AV.tv?] at ht
 | tv x=>simp [AV.tv?] at ht; subst ht; exact h
 | bl b=>simp [AV.tv?] at ht; subst ht; have:v=.bool b:=h; subst this; exact .lit _
 | tups l=>simp [AV.tv?] at ht
 | clo _ l=>simp [AV.tv?] at ht
theorem az {i r:Nat} {x:TV} (h:bL look i r=some x):∃ xs,look i=some (.tree xs)/\xs[r]? = some x:=by
 unfold bL at h
 split at h
 ·rename_i xs hl
  cases hb:r.blt xs.length with
  | false=>simp [hb] at h
  | true =>
   simp only [hb,cond_true,DU] at h
   have hr:r < xs.length:=by simpa using hb
   refine ⟨xs,hl,?_⟩
   rw [aV,DT hr] at h
   rw [DT hr,<- h]
   rfl
 ·cases h
theorem cV {S:Type} {p:Way} {x:TV} {k:TV->Prg S} {e:S} (h:(pE p x k).hits C e):∃ y,dC p x=some y/\(k y).hits C e:=by
 unfold pE at h
 split at h
 ·exact ⟨x,rfl,h⟩
 ·exact h
theorem zf {S:Type} {p:Way} {x y:TV} {k:TV->Prg S} {e:S} (h:(setO p x y k).hits C e):∃ z,lj p x y=some z/\(k z).hits C e:=by
 unfold setO at h
 split at h
 ·exact ⟨y,rfl,h⟩
 ·exact h
theorem aj.at (hs:aj w0 I0 R g st a ov w) {i r:Nat} {xs:List TV} {x y:TV} {p:Way} {v:Value} {nd:Option (Nat × Nat)} (hl:st.look i=some (.tree xs)) (hx:xs[r]? = some x)
  (hn:Node w p x (g.ρ i r) v nd) (hy:dC p x=some y):nd=y.nd/\∃ S',ak w g.I y v S'/\(∀ b,S' b->g.φ i r b):=by
 obtain ⟨v',S',n1,n2,n3,_⟩:=(hs.trees i xs hl r x hx).get hy
 obtain ⟨h1,h2⟩:=Node.unique hn n1
 subst h1
 exact ⟨h2,S',n2,n3⟩
theorem uZ {x:TV} {s n:Nat} (h:x.nd=some (s,n)):∃ o xs,x=.sl o s xs/\n=xs.length:=by
 cases x with
 | sl o s' xs=>simp only [TV.nd,DU,Prod.mk.injEq] at h; obtain ⟨rfl,rfl⟩:=h; exact ⟨o,xs,rfl,rfl⟩
 | _=>simp [TV.nd] at h
theorem cK {x y:TV} {lo len:Nat} {u v:Value} {S:Nat->Prop} {nd:Option (Nat × Nat)} (hr:ak w I x u S) (hnd:nd=x.nd) (hw:sN nd lo len u v) (hy:fX lo len x=some y):ak w I y v S:=by
 have:=hr.win hy
 subst hnd
 cases x with
 | sl o s xs =>
  simp only [TV.nd,sN] at hw
  rw [hw.2]
  exact this
 | lit z =>
  simp only [TV.nd,sN] at hw
  obtain ⟨_,_,h1,h2⟩:=hw
  subst h1 h2
  exact this
 | _=>simp [fX] at hy
theorem tr {S:Type} (hlk:∀ i b,look i=some b->st.look i=some b) (hs:aj w0 I0 R g st a ov w) {c:CA} {v:Value} {k:TV->Prg S} {e:S} (hc:bm w g st.look c v) (h:(gK look c k).hits C e) :
  ∃ x T,(k x).hits C e/\ak w g.I x v T:=by
 unfold gK at h
 split at h
 ·exact ⟨_,fun _=>False,h,.fr hc.1⟩
 ·split at h
  ·rename_i x hx
   obtain ⟨xs,h1,h2⟩:=az hx
   obtain ⟨y,h3,h4⟩:=cV h
   obtain ⟨xs',x',nd,g1,g2,g3,g4⟩:=hc
   rw [hlk _ _ h1] at g1
   cases g1
   rw [h2] at g2
   cases g2
   obtain ⟨_,S',r1,_⟩:=hs.at (hlk _ _ h1) h2 g3 h3
   exact ⟨y,S',h4,r1⟩
  ·exact h.elim
 ·split at h
  ·rename_i x hx
   obtain ⟨xs,h1,h2⟩:=az hx
   obtain ⟨y,h3,z,h4,h5⟩:=cV h
   obtain ⟨xs',x',u,nd,g1,g2,g3,g4,g5⟩:=hc
   rw [hlk _ _ h1] at g1
   cases g1
   rw [h2] at g2
   cases g2
   obtain ⟨e1,S',r1,_⟩:=hs.at (hlk _ _ h1) h2 g3 h3
   exact ⟨z,S',h5,cK r1 e1 g5 h4⟩
  ·exact h.elim
 ·exact h.elim
theorem nP {S:Type} (hlk:∀ i b,look i=some b->st.look i=some b) (hs:aj w0 I0 R g st a ov w) {x:AV} {v:Value} {k:TV->Prg S} {e:S} (hx:br w g st.look x v) (h:(rh look x k).hits C e) :
  ∃ y T,(k y).hits C e/\ak w g.I y v T:=by
 unfold rh at h
 split at h
 ·exact tr hlk hs hx h
 ·exact ⟨_,fun _=>False,h,.fr hx⟩
 ·have:v=.bool _:=hx
  subst this
  exact ⟨_,fun _=>False,h,.fr (.lit _)⟩
 ·exact h.elim
theorem uB {op:BinOp} {k:IntKind} {x y:Int} {r:TV} (h:fV op k x y=some r) (t:TypeId) :
    ∃ u,r=.lit u/\u.oneCell'=true/\(binOp op t (.int k x) (.int k y)).run P w=.ok u w:=by
  unfold fV at h
  cases op <;> simp only [DU, reduceCtorEq] at h <;>
    first
      | (subst h; exact ⟨_,rfl,rfl,by simp [binOp,Op.intArith,Op.intCmp,Op.intBits]⟩)
      | (split at h
         · cases h
         · rename_i hb
           simp only [DU] at h
           subst h
           exact ⟨_,rfl,rfl,by simp [binOp,Op.intDiv,hb]⟩)
theorem uC {op:BinOp} {x y:ByteArray} {r:TV} (h:kr op x y=some r) (t:TypeId) :
    ∃ u,r=.lit u/\u.oneCell'=true/\(binOp op t (.string x) (.string y)).run P w=.ok u w:=by
  unfold kr at h
  cases op <;> simp only [DU, reduceCtorEq] at h <;>
    first
      | (subst h; exact ⟨_,rfl,rfl,by simp [binOp,Op.stringOp]⟩)
      | (split at h
         · cases h
         · rename_i hb
           simp only [DU] at h
           subst h
           exact ⟨_,rfl,rfl,by simp only [binOp,Op.stringOp]; rw [if_neg hb]; rfl⟩)
theorem Dq {t:TypeId} {d:TyD} (h:aR P t d) (hk:d.kd=.bool):P.underlying t=some .bool:=by
 obtain ⟨desc,hu,hd,_⟩:=h.und
 rw [hk] at hd
 cases desc <;> simp [ow] at hd
 exact hu
theorem cR {t e:TypeId} {d:TyD} (h:aR P t d) (hk:d.kd=.slice e):P.underlying t=some (.slice e):=by
 obtain ⟨desc,hu,hd,_⟩:=h.und
 rw [hk] at hd
 cases desc <;> simp [ow] at hd
 subst hd
 exact hu
theorem qP {t:TypeId} {d:TyD} (h:aR P t d) (hk:d.kd=.str):P.underlying t=some .string:=by
 obtain ⟨desc,hu,hd,_⟩:=h.und
 rw [hk] at hd
 cases desc <;> simp [ow] at hd
 exact hu
theorem wV {t:TypeId} {k:IntKind} {d:TyD} (h:aR P t d) (hk:d.kd=.int k):P.underlying t=some (.int k):=by
 obtain ⟨desc,hu,hd,_⟩:=h.und
 rw [hk] at hd
 cases desc <;> simp [ow] at hd
 subst hd
 exact hu
theorem qB {t e:TypeId} {n:Nat} {d:TyD} (h:aR P t d) (hk:d.kd=.arr n e):P.underlying t=some (.array n e):=by
 obtain ⟨desc,hu,hd,_⟩:=h.und
 rw [hk] at hd
 cases desc <;> simp [ow] at hd
 obtain ⟨rfl,rfl⟩:=hd
 exact hu
theorem sO {t:TypeId} {d:TyD} (h:aR P t d) (hk:d.kd=.struct):∃ fs,P.underlying t=some (.struct fs)/\d.fields=fs.toList.map fun f=>(f.offset,f.type):=by
 obtain ⟨desc,hu,hd,hf⟩:=h.und
 rw [hk] at hd
 cases desc <;> simp [ow] at hd
 exact ⟨_,hu,hf.symm⟩
theorem zn {t:TypeId} (h:P.underlying t=some .bool) (n:Nat) (x y:Bool):(Op.equalIn (n + 1) t (.bool x) (.bool y)).run P w=.ok (x == y) w:=by
 simp only [Op.equalIn]; simp [aM h]
theorem Bb {t e:TypeId} (h:P.underlying t=some (.slice e)) (n:Nat) (l1 c1 l2 c2:Nat):(Op.equalIn (n + 1) t (.slice none l1 c1) (.slice none l2 c2)).run P w=.ok true w:=by
 simp only [Op.equalIn]; simp [aM h]
theorem zx {t e:TypeId} (h:P.underlying t=some (.slice e)) (n:Nat) (ad:Addr) (l1 c1 l2 c2:Nat):(Op.equalIn (n + 1) t (.slice (some ad) l1 c1) (.slice none l2 c2)).run P w=.ok false w:=by
 simp only [Op.equalIn]; simp [aM h]
theorem lC {op:BinOp} {b:Bool} {r:TV} (h:xq op b=some r) {t:TypeId} {x y:Value} (hx:∀ k n,x≠.int k n) (hf:∀ k n,x≠.float k n) (hc:∀ k m n,x≠.complex k m n) (hst:∀ s,x≠.string s)
  (he:(Op.equal t x y).run P w=.ok b w):∃ u,r=.lit u/\u.oneCell'=true/\(binOp op t x y).run P w=.ok u w:=by
 unfold xq at h
 cases op <;> simp only [DU,reduceCtorEq] at h <;> subst h <;> refine ⟨_,rfl,rfl,?_⟩ <;>
  (cases x <;> first | exact absurd rfl (hx _ _) | exact absurd rfl (hf _ _) | exact absurd rfl (hc _ _ _) | exact absurd rfl (hst _) | (simp only [binOp]; simp [he]))
theorem xU {op:BinOp} {x y r:TV} {u v:Value} {t:TypeId} {d:TyD} {S T:Nat->Prop} (ht:aR P t d) (h:pbin d.kd op x y=some r) (hx:ak w I x u S) (hy:ak w I y v T) (ox oy:Operand) :
  ∃ z,r=.lit z/\z.oneCell'=true/\(eqGuard op t ox oy u v).run P w=.ok () w/\(binOp op t u v).run P w=.ok z w:=by
 unfold pbin at h
 split at h
 ·rename_i k0 k a k' b hk
  have:=a8 hx; subst this
  have:=a8 hy; subst this
  split at h
  ·rename_i hkk
   subst hkk
   obtain ⟨z,rfl,h1,hr⟩:=uB (P:=P) (w:=w) h t
   exact ⟨z,rfl,h1,by simp only [eqGuard]; split <;> simp,hr⟩
  ·cases h
 ·rename_i a b hk
  have:=a8 hx; subst this
  have:=a8 hy; subst this
  obtain ⟨z,rfl,h1,hr⟩:=lC (P:=P) (w:=w) (t:=t) (x:=.bool a) (y:=.bool b) h (by simp) (by simp) (by simp) (by simp) (zn (Dq ht hk) 9999 a b)
  exact ⟨z,rfl,h1,by simp only [eqGuard]; split <;> simp,hr⟩
 ·rename_i a b hk
  have:=a8 hx; subst this
  have:=a8 hy; subst this
  obtain ⟨z,rfl,h1,hr⟩:=uC (P:=P) (w:=w) h t
  exact ⟨z,rfl,h1,by simp only [eqGuard]; split <;> simp,hr⟩
 ·rename_i e l1 c1 l2 c2 hk
  have:=a8 hx; subst this
  have:=a8 hy; subst this
  obtain ⟨z,rfl,h1,hr⟩:=lC (P:=P) (w:=w) (t:=t) (x:=.slice none l1 c1) (y:=.slice none l2 c2) h (by simp) (by simp) (by simp) (by simp) (Bb (cR ht hk) 9999 l1 c1 l2 c2)
  exact ⟨z,rfl,h1,by simp only [eqGuard]; split <;> simp,hr⟩
 ·rename_i e o s xs l2 c2 hk
  obtain ⟨ad,cap,rfl⟩:=pN hx
  have:=a8 hy; subst this
  obtain ⟨z,rfl,h1,hr⟩:=lC (P:=P) (w:=w) (t:=t) (x:=.slice (some ad) xs.length cap) (y:=.slice none l2 c2) h (by simp) (by simp) (by simp) (by simp) (zx (cR ht hk) 9999 ad xs.length cap l2 c2)
  exact ⟨z,rfl,h1,by simp only [eqGuard]; split <;> simp,hr⟩
 ·cases h
theorem vx {y:TV} {v:Value} {S:Nat->Prop} (h:jA y=true) (hy:ak w I y v S):v=af:=by
 unfold jA at h
 split at h
 ·exact a8 hy
 ·cases h
variable {dst:Option Tmp} {type:TypeId} {pos:String} {after:Array Edge} {guard:Option (Nat × Bool)}
theorem Dp (hs:aj w0 I0 NoR g st a ov w) {x:Operand} {e:Eff} (hh:(Prg.ret (Eff.val (st.ev x))).hits C e) (ha:e.app st dst=some st'):Good P w0 I0 ov ⟨dst,.move x,type,pos,after,guard⟩ st' a w Q:=by
 cases hh
 exact aJ hs (u:=a.eval x) (by simp [execOp]) (hs.ev x) ha
theorem zh (hs:aj w0 I0 NoR g st a ov w) {x:Operand} {e:Eff} (hh:(Prg.ret (Eff.val (st.ev x))).hits C e) (ha:e.app st dst=some st'):Good P w0 I0 ov ⟨dst,.assign x,type,pos,after,guard⟩ st' a w Q:=by
 cases hh
 exact aJ hs (u:=a.eval x) (by simp [execOp]) (hs.ev x) ha
theorem vM (hs:aj w0 I0 NoR g st a ov w) {c x y:Operand} {v:TV} {e:Eff} (hh:(Prg.ite (asBool v) (Prg.ret (Eff.val (st.ev x))) (Prg.ret (Eff.val (st.ev y)))).hits C e) (ha:e.app st dst=some st') (hc:Rep w g.I v (a.eval c)) :
  Good P w0 I0 ov ⟨dst,.pick c x y,type,pos,after,guard⟩ st' a w Q:=by
 obtain ⟨b,hb,hh⟩:=hh
 have hv:v=.lit (.bool b):=by
  unfold asBool at hb
  split at hb
  ·cases hb; rfl
  ·cases hb
 subst hv
 have hcv:a.eval c=.bool b:=by
  generalize a.eval c=u at hc
  cases hc; rfl
 rcases hh with ⟨rfl,hh⟩ | ⟨rfl,hh⟩
 ·have he:e=Eff.val (st.ev x):=by cases hh; rfl
  subst he
  exact aJ hs (u:=a.eval x) (by simp [execOp,hcv,Go.asBool]) (hs.ev x) ha
 ·have he:e=Eff.val (st.ev y):=by cases hh; rfl
  subst he
  exact aJ hs (u:=a.eval y) (by simp [execOp,hcv,Go.asBool]) (hs.ev y) ha
theorem Dw (hs:aj w0 I0 NoR g st a ov w) {c x y:Operand} {e:Eff} (hh:(opL E id look (.pick c x y) [st.ev c,st.ev x,st.ev y]).hits C e) (ha:e.app st dst=some st') :
  Good P w0 I0 ov ⟨dst,.pick c x y,type,pos,after,guard⟩ st' a w Q:=by
 simp only [opL] at hh
 have hc:=hs.ev c
 split at hh
 ·rename_i b hb
  rw [hb] at hc
  have hcv:a.eval c=.bool b:=hc
  cases hh
  cases b with
  | true=>exact aJ hs (u:=a.eval x) (by simp [execOp,hcv,Go.asBool]) (by simpa using hs.ev x) ha
  | false=>exact aJ hs (u:=a.eval y) (by simp [execOp,hcv,Go.asBool]) (by simpa using hs.ev y) ha
 ·rename_i v hb
  rw [hb] at hc
  exact vM hs hh ha hc
 ·rename_i v hb
  rw [hb] at hc
  exact vM hs hh ha hc.1
 ·exact hh.elim
theorem dA:∀ {cs:List CA} {xs:List TV},ek cs=some xs->cs=xs.map CA.t
 | [],xs,h=>by simp only [ek,DU] at h; subst h; rfl
 | c :: cs, xs, h => by
  cases c <;> simp only [ek,reduceCtorEq] at h
  split at h
  ·rename_i r hr
   simp only [DU] at h
   subst h
   rw [dA hr]
   rfl
  ·cases h
theorem op_un (hs:aj w0 I0 NoR g st a ov w) {op:UnOp} {xt:TypeId} {x:Operand} {e:Eff} (hh:(opL E id look (.unOp op xt x) [st.ev x]).hits C e) (ha:e.app st dst=some st') :
  Good P w0 I0 ov ⟨dst,.unOp op xt x,type,pos,after,guard⟩ st' a w Q:=by
 simp only [opL] at hh
 have hx:=hs.ev x
 split at hh
 ·rename_i b hb
  rw [hb] at hx
  have hv:a.eval x=.bool b:=hx
  cases hh
  exact aJ hs (v:=.bl !b) (u:=.bool !b) (by simp [execOp,hv,Op.unary]) rfl ha
 ·split at hh
  ·rename_i t ht
   have hr:=bX hx ht
   obtain ⟨v,hv,hh⟩:=hh
   unfold pun at hv
   split at hv <;> simp only [DU,reduceCtorEq] at hv
   ·subst hv
    have he:=aL hr
    exact cc hs (by simp [execOp,he,Op.unary]) (.lit _) rfl hh ha
   ·subst hv
    have he:=aL hr
    exact cc hs (by simp [execOp,he,Op.unary,Op.intArith]) (.lit _) rfl hh ha
  ·exact hh.elim
theorem xA (hE:∀ t d,E.T t=some d->aR P t d) (hlk:∀ i b,look i=some b->st.look i=some b) (hs:aj w0 I0 NoR g st a ov w) {xt dt:TypeId} {x:Operand} {e:Eff}
  (hh:(opL E id look (.convert xt dt x) [st.ev x]).hits C e) (ha:e.app st dst=some st'):Good P w0 I0 ov ⟨dst,.convert xt dt x,type,pos,after,guard⟩ st' a w Q:=by
 simp only [opL] at hh
 have hx:=hs.ev x
 split at hh
 ·rename_i ds0 d hT0 hT
  obtain ⟨ds,hds,_⟩:=(hE xt ds0 hT0).und
  have hty:=hE dt d hT
  unfold yj at hh
  split at hh
  ·exact hh.elim
  ·split at hh
   ·rename_i t ht
    have hr:=bX hx ht
    obtain ⟨v,hv,hh⟩:=hh
    unfold pconv at hv
    split at hv <;> simp only [DU,reduceCtorEq] at hv
    ·rename_i k k' n hk
     subst hv
     have he:=aL hr
     exact cc hs (by simp [execOp,he,convert,aM hds,aM (wV hty hk),Conv.intToInt]) (.lit _) rfl hh ha
    ·rename_i s hk
     subst hv
     have he:=aL hr
     exact cc hs (by simp [execOp,he,convert,aM hds,aM (qP hty hk)]) (.lit _) rfl hh ha
    ·rename_i k n hk
     subst hv
     have he:=aL hr
     exact cc hs (by simp [execOp,he,convert,aM hds,aM (qP hty hk),Conv.intToString]) (.lit _) rfl hh ha
   ·exact hh.elim
 ·exact hh.elim
theorem bv {agg:Bool} {cs:List CA} {v:AV} {u:Value} (h:ck agg cs=some v) (hc:kg w g look agg cs u):br w g look v u:=by
 cases agg with
 | true =>
  have:v=.agg cs:=by cases cs <;> simp [ck] at h <;> exact h.symm
  subst this
  exact hc
 | false =>
  obtain ⟨c,rfl,h2,h3⟩:=hc
  simp only [ck,cond_false,DU] at h
  subst h
  exact h2
theorem xE (hs:aj w0 I0 NoR g st a ov w) {j:Nat} {x:Operand} {e:Eff} (hh:(opL E id look (.extract x j) [st.ev x]).hits C e) (ha:e.app st dst=some st') :
  Good P w0 I0 ov ⟨dst,.extract x j,type,pos,after,guard⟩ st' a w Q:=by
 simp only [opL] at hh
 have hx:=hs.ev x
 split at hh
 ·rename_i l ht
  rw [ht] at hx
  obtain ⟨vs,hu,hl,hr⟩:=hx
  split at hh
  ·rename_i agg c hj
   split at hh
   ·rename_i v hv
    cases hh
    have hjl:j < vs.size:=by rw [hl]; exact (DS.1 hj).1
    obtain ⟨z,hg⟩:∃ z,vs[j]? = some z:=⟨_,Array.getElem?_eq_getElem hjl⟩
    have hz:vs.getD j undef=z:=by rw [D8,hg]; rfl
    refine aJ hs (u:=z) (by simp [execOp,hu,Instr.extract,hg]) ?_ ha
    have:=bv hv (hr j agg c hj)
    rwa [hz] at this
   ·exact hh.elim
  ·exact hh.elim
 ·exact hh.elim
theorem ic {look:Look} {i off len:Nat} {cs:List CA} {xs:List TV} (h:uk look i off len=some (cs,xs)) :
  look i=some (.cells cs)/\xs.length=len/\(len=0\/off + len<=cs.length)/\∀ (m:Nat) (x:TV),xs[m]? = some x->cs[off + m]? = some (.t x):=by
 unfold uk at h
 split at h
 ·rename_i cs0 hl
  split at h
  ·rename_i cs1 htk
   obtain ⟨k1,k2,k3⟩:=dY _ _ _ _ htk
   split at h
   ·rename_i xs0 hp
    simp only [DU,Prod.mk.injEq] at h
    obtain ⟨rfl,rfl⟩:=h
    have he:=dA hp
    have hlen:xs0.length=len:=by rw [<- k1,he,List.length_map]
    refine ⟨hl,hlen,k2,fun m x hm=>?_⟩
    have hml:=(DS.1 hm).1
    rw [<- k3 m (by omega),he,DY,hm]
    rfl
   ·cases h
  ·cases h
 ·cases h
theorem rY (n:Nat) (y:TV):∀ (xs:List TV) (j m:Nat),(ga n y j xs)[m]? = (xs[m]?).map fun x=>.t (CI n (j + m) y x)
 | [],j,m=>by simp [ga]
 | x :: xs,j,0=>by simp [ga]
 | x :: xs,j,m + 1=>by
  simp only [ga,List.getElem?_cons_succ]
  rw [rY n y xs (j + 1) m,show j + 1 + m=j + (m + 1) by omega]
theorem xn (n:Nat) (y:TV) (xs:List TV) (j:Nat):(ga n y j xs).length=xs.length:=by
 induction xs generalizing j with
 | nil=>rfl
 | cons x xs ih=>simp [ga,ih]
theorem wc (hs:aj w0 I0 NoR g st a ov w) {x:Operand} {e:Eff} (hh:(opL E id look (.nilCheck x) [st.ev x]).hits C e) (ha:e.app st dst=some st') :
  Good P w0 I0 ov ⟨dst,.nilCheck x,type,pos,after,guard⟩ st' a w Q:=by
 simp only [opL] at hh
 have hx:=hs.ev x
 split at hh
 ·rename_i i off ht
  cases hh
  rw [ht] at hx
  have hx':=hx
  obtain ⟨cs,_,hv⟩:=hx
  exact aJ hs (u:=a.eval x) (by simp [execOp,hv]) hx' ha
 ·rename_i y off ht
  cases hh
  rw [ht] at hx
  have hx':=hx
  obtain ⟨ad,cell,hv,_⟩:=hx
  exact aJ hs (u:=a.eval x) (by simp [execOp,hv]) hx' ha
 ·rename_i i r p k j ht
  cases hh
  rw [ht] at hx
  have hx':=hx
  obtain ⟨xs,x',ad,l,cap,s,n,_,_,_,_,hv⟩:=hx
  exact aJ hs (u:=a.eval x) (by simp [execOp,hv]) hx' ha
 ·rename_i i off len n ht
  cases hh
  rw [ht] at hx
  have hx':=hx
  obtain ⟨cs,_,_,hv⟩:=hx
  exact aJ hs (u:=a.eval x) (by simp [execOp,hv]) hx' ha
 ·exact hh.elim
end
end Go.Ab
end

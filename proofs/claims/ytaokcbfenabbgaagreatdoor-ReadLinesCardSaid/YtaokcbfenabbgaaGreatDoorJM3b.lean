import Derived.Test.YtaokcbfenabbgaaGreatDoorJM0
import Derived.Below
import Derived.Orders
import Derived.Laws.Cells
import Derived.Laws.OwnMore
import Derived.Laws.CopyOwn
import Derived.Maps.AppendAt
import Derived.Lib.FrozenHead
set_option linter.all false
section
namespace Go.Ab
open Go.RowKit
theorem aV {α:Type} (d:α):∀ (l:List α) (n:Nat),nth d l n=(l[n]?).getD d
 | [],n=>by simp [nth]
 | a :: l,0=>rfl
 | a :: l,n + 1=>by simp [nth,aV d l n]
theorem ai {α:Type}:∀ (l:List α) (n:Nat) (b:α),au l n b=l.set n b
 | [],n,b=>by simp [au]
 | a :: l,0,b=>rfl
 | a :: l,n + 1,b=>by simp [au,ai l n b]
theorem bz {α:Type} {d:α} {l:List α} {n:Nat} {a:α} (h:l[n]? = some a):nth d l n=a:=by rw [aV,h]; rfl
theorem ar (a b:Nat):a.beq b=true ↔ a=b:=⟨Nat.eq_of_beq_eq_true,fun h=>h ▸ Nat.beq_refl a⟩
theorem bN (n:Nat):∀ l:List Nat,bD n l=true ↔ n ∈ l
 | []=>by simp [bD]
 | a :: l => by
  cases h:a.beq n
  ·have:a≠n:=fun e=>by simp [e] at h
   simp only [bD,h,cond_false,bN n l,List.mem_cons]
   constructor
   ·exact .inr
   ·rintro (e | e)
    ·exact absurd e.symm this
    ·exact e
  ·simp only [bD,h,cond_true,List.mem_cons,true_iff]
   exact .inl ((ar a n).1 h).symm
theorem ej (a:Addr) (k:Nat):(a.add k).block=a.block:=by unfold Addr.add; split <;> rfl
theorem dO (a:Addr) (i j:Nat):(a.add i).add j=a.add (i + j):=by
 unfold Addr.add
 by_cases hi:i=0 <;> by_cases hj:j=0 <;> simp [hi,hj,Nat.add_assoc]
theorem fc (b o k:Nat):(⟨b,o,none⟩:Addr).add k=⟨b,o + k,none⟩:=by unfold Addr.add; split <;> simp_all
def spl {α:Type} (l:List α) (o:Nat) (ys:List α):List α:=l.take o ++ ys ++ l.drop (o + ys.length)
theorem gr {α:Type} {l ys:List α} {o:Nat} (h:o + ys.length<=l.length):(spl l o ys).length=l.length:=by
 simp only [spl,List.length_append,List.length_take,List.length_drop]
 omega
theorem cg {α:Type} {l ys:List α} {o:Nat} (h:o + ys.length<=l.length) (k:Nat):(spl l o ys)[k]? = if o<=k/\k < o + ys.length then ys[k - o]? else l[k]? := by
 have e1:(l.take o).length=o:=by simp; omega
 unfold spl
 by_cases h1:k < o
 ·rw [List.append_assoc,D3 (by omega),List.getElem?_take,if_pos h1,if_neg (by omega)]
 ·by_cases h2:k < o + ys.length
  ·rw [List.append_assoc,D4 (by omega),e1,D3 (by omega),if_pos (by omega)]
  ·rw [D4 (by simp; omega),List.getElem?_drop,if_neg (by omega)]
   congr 1
   simp
   omega
theorem eb {α:Type}:∀ (ps l:List α) (off:Nat),off + ps.length<=l.length->bF l off ps=spl l off ps
 | [],l,off,h=>by simp [bF,spl]
 | p :: ps, l, off, h => by
  have hlt:off < l.length:=by simp at h; omega
  simp only [bF]
  rw [ai,eb ps (l.set off p) (off + 1) (by simp at h ⊢; omega)]
  apply List.ext_getElem?
  intro k
  rw [cg (by simp at h ⊢; omega),cg h]
  simp only [List.length_cons,List.getElem?_set]
  by_cases h1:k < off
  ·rw [if_neg (by omega),if_neg (by omega),if_neg (by omega)]
  ·by_cases h2:k=off
   ·subst h2
    rw [if_neg (by omega),if_pos (by omega)]
    simp [hlt]
   ·by_cases h3:k < off + (ps.length + 1)
    ·rw [if_pos (by omega),if_pos (by omega)]
     rw [show k - off=(k - (off + 1)) + 1 by omega,List.getElem?_cons_succ]
    ·rw [if_neg (by omega),if_neg (by omega),if_neg (by omega)]
theorem dY {α:Type}:∀ (l:List α) (o n:Nat) (r:List α),jY l o n=some r->r.length=n/\(n=0\/o + n<=l.length)/\∀ j,j < n->r[j]? = l[o + j]?
 | l,o,0,r,h=>by cases l <;> simp [jY] at h <;> subst h <;> simp
 | [],o,n + 1,r,h=>by simp [jY] at h
 | a :: l, 0, n + 1, r, h => by
  simp only [jY] at h
  cases h1:jY l 0 n with
  | none=>simp [h1] at h
  | some r' =>
   simp only [h1,DU] at h
   subst h
   obtain ⟨i1,i2,i3⟩:=dY l 0 n r' h1
   refine ⟨by simp [i1],.inr (by simp; omega),fun j hj=>?_⟩
   cases j with
   | zero=>simp
   | succ j=>simpa using i3 j (by omega)
 | a :: l,o + 1,n + 1,r,h=>by
  simp only [jY] at h
  obtain ⟨i1,i2,i3⟩:=dY l o (n + 1) r h
  refine ⟨i1,.inr (by rcases i2 with i2 | i2 <;> simp <;> omega),fun j hj=>?_⟩
  rw [i3 j hj,show o + 1 + j=(o + j) + 1 by omega,List.getElem?_cons_succ]
theorem bO {α:Type} {s:Nat}:∀ {xs:List (List α)},(∀ x ∈ xs,x.length=s)->xs.flatten.length=xs.length * s
 | [],_=>by simp
 | x :: xs,h=>by
  simp only [List.flatten_cons,List.length_append,List.length_cons,h x DZ,bO (fun y hy=>h y (D0 _ hy)),Nat.add_mul]
  omega
theorem eF {α:Type} {s:Nat}:∀ {xs:List (List α)} {i j:Nat} {x:List α} {c:α},(∀ x ∈ xs,x.length=s)->xs[i]? = some x->x[j]? = some c->xs.flatten[i * s + j]? = some c
 | x :: xs,0,j,_,c,h,hi,hj=>by
  simp at hi
  subst hi
  rw [List.flatten_cons,D3 (by simp; exact (DS.1 hj).1)]
  simpa using hj
 | x :: xs,i + 1,j,y,c,h,hi,hj=>by
  simp at hi
  have hx:=h x DZ
  rw [List.flatten_cons,D4 (by rw [hx,Nat.add_mul]; omega),hx,show (i + 1) * s + j - s=i * s + j by rw [Nat.add_mul]; omega]
  exact eF (fun z hz=>h z (D0 _ hz)) hi hj
theorem take_add {α:Type} {x l:List α} {s n:Nat} (h:x.length=s):(x ++ l).take (s + n)=x ++ l.take n:=by
 subst h
 exact List.take_length_add_append n
theorem wN {α:Type} {x l:List α} {s n:Nat} (h:x.length=s):(x ++ l).drop (s + n)=l.drop n:=by
 subst h
 exact List.drop_length_add_append n
theorem nH (n s:Nat):(n + 1) * s=s + n * s:=by rw [Nat.add_mul]; omega
theorem nB {α:Type} {s:Nat}:∀ {xs:List (List α)} (n:Nat),(∀ x ∈ xs,x.length=s)->(xs.take n).flatten=xs.flatten.take (n * s)
 | [],n,_=>by simp
 | x :: xs,0,_=>by simp
 | x :: xs,n + 1,h=>by
  have hx:=h x DZ
  rw [List.take_succ_cons,List.flatten_cons,List.flatten_cons,nB n (fun z hz=>h z (D0 _ hz)),nH,take_add hx]
theorem oE {α:Type} {s:Nat}:∀ {xs:List (List α)} (n:Nat),(∀ x ∈ xs,x.length=s)->(xs.drop n).flatten=xs.flatten.drop (n * s)
 | [],n,_=>by simp
 | x :: xs,0,_=>by simp
 | x :: xs,n + 1,h=>by
  have hx:=h x DZ
  rw [List.drop_succ_cons,List.flatten_cons,oE n (fun z hz=>h z (D0 _ hz)),nH,wN hx]
theorem wj {α:Type} {s:Nat}:∀ {xs:List (List α)} {i:Nat} {x y:List α},(∀ x ∈ xs,x.length=s)->xs[i]? = some x->y.length=s->(xs.set i y).flatten=spl xs.flatten (i * s) y
 | x :: xs,0,_,y,h,hi,hy=>by
  simp at hi
  subst hi
  have hx:=h x DZ
  simp only [List.set_cons_zero,List.flatten_cons,Nat.zero_mul,spl,List.take_zero,List.nil_append,Nat.zero_add,hy,List.drop_append,hx,Nat.sub_self,List.drop_zero]
  rw [List.drop_of_length_le (by omega),List.nil_append]
 | x :: xs,i + 1,z,y,h,hi,hy=>by
  simp at hi
  have hx:=h x DZ
  have ih:=wj (fun z hz=>h z (D0 _ hz)) hi hy
  simp only [List.set_cons_succ,List.flatten_cons,ih,spl,nH,take_add hx,hy]
  rw [show s + i * s + s=s + (i * s + s) by omega,wN hx]
  simp only [List.append_assoc]
theorem yy {α:Type} {s:Nat} {xs:List (List α)} {i:Nat} {y:List α} (h:∀ x ∈ xs,x.length=s) (hy:y.length=s):∀ x ∈ xs.set i y,x.length=s:=by
 intro x hx
 rcases List.mem_or_eq_of_mem_set hx with h' | h'
 ·exact h x h'
 ·rw [h']; exact hy
theorem ve {α:Type} {s:Nat} {xs:List (List α)} {i j:Nat} {x ys:List α} (h:∀ x ∈ xs,x.length=s) (hi:xs[i]? = some x) (hj:j + ys.length<=x.length) :
  (xs.set i (spl x j ys)).flatten=spl xs.flatten (i * s + j) ys/\i * s + j + ys.length<=xs.flatten.length:=by
 have hx:=h x (D1 hi)
 have hlt:i < xs.length:=(DS.1 hi).1
 have hle:i * s + s<=xs.flatten.length:=by
  rw [bO h]
  have:=Nat.mul_le_mul_right s (Nat.succ_le_of_lt hlt)
  rw [Nat.succ_mul] at this
  exact this
 refine ⟨?_,by omega⟩
 rw [wj h hi (by rw [gr hj,hx])]
 apply List.ext_getElem?
 intro k
 rw [cg (l:=xs.flatten) (ys:=spl x j ys) (by rw [gr hj]; omega),cg (l:=xs.flatten) (ys:=ys) (by omega),gr hj,hx]
 by_cases h1:i * s<=k/\k < i * s + s
 ·rw [if_pos h1,cg hj]
  by_cases h2:j<=k - i * s/\k - i * s < j + ys.length
  ·rw [if_pos h2,if_pos (by omega)]
   congr 1
   omega
  ·rw [if_neg h2,if_neg (by omega)]
   have hk:k - i * s < x.length:=by omega
   have:=eF h hi (DT hk)
   rw [show i * s + (k - i * s)=k by omega] at this
   rw [this,DT hk]
 ·rw [if_neg h1,if_neg (by omega)]
inductive Rep (w:World) (I:Nat->Prop):TV->Value->Prop
 | lit (v:Value):Rep w I (.lit v) v
 | hole (v:Value):Rep w I .hole v
 | buf {s:ByteArray} (e:TypeId) (h:s.size=0):Rep w I (.buf s e) af
 | sl {size : Nat} {xs : List (List TV)} {a : Addr} {cap : Nat} (cell : Nat → Value) (hI : 0 < xs.length → I a.block) (hc : xs.length ≤ cap) (hm : cap ≤ maxLen)
   (hl:∀ x ∈ xs,x.length=size) (hcell:∀ k,k < xs.length * size->w.cell? (a.add k)=some (cell k)) (h1:∀ k,k < xs.length * size->(cell k).oneCell'=true)
   (hr:∀ (i:Nat) (x:List TV),xs[i]? = some x->∀ (j:Nat) (c:TV),x[j]? = some c->Rep w I c (cell (i * size + j))):Rep w I (.sl false size xs) (.slice (some a) xs.length cap)
 | agg {cs : List TV} {vs : Array Value} (hl : vs.size = cs.length) (h1 : ∀ j, j < vs.size → (vs.getD j undef).oneCell' = true)
   (hr:∀ (j:Nat) (c:TV),cs[j]? = some c->Rep w I c (vs.getD j undef)):Rep w I (.agg cs) (.agg vs)
 | tup {cs:List TV} {vs:Array Value} (hl:vs.size=cs.length) (hr:∀ (j:Nat) (c:TV),cs[j]? = some c->Rep w I c (vs.getD j undef)):Rep w I (.tup cs) (.tuple vs)
theorem Rep.mv {w w':World} {I I':Nat->Prop} (hh:∀ b,I b->w'.heap[b]? = w.heap[b]?) (hI:∀ b,I b->I' b) {x:TV} {v:Value} (h:Rep w I x v):Rep w' I' x v:=by
 induction h with
 | lit v=>exact .lit v
 | hole v=>exact .hole v
 | buf e h=>exact .buf e h
 | sl cell i c m l hcell h1 _ ih =>
  exact .sl cell (fun h=>hI _ (i h)) c m l (fun k hk=>by rw [<- hcell k hk]; exact World.cell?_of_block (by rw [ej]; exact hh _ (i (Nat.pos_of_ne_zero (fun e=>by simp [e] at hk))))) h1 ih
 | agg hl h1 _ ih=>exact .agg hl h1 ih
 | tup hl _ ih=>exact .tup hl ih
structure Row (w:World) (a:Addr) (n cap size:Nat) (us:List Value) (vs:Array Value) (ty:TypeId):Prop where
 heap:w.heap[a.block]? = some (.cells vs ty (0,0))
 spot:a.spot=none
 le:n<=cap
 max:cap<=maxLen
 fit:a.off + cap * size<=vs.size
 len:us.length=n * size
 cells:∀ k,k < n * size->vs[a.off + k]? = us[k]?
 one:∀ u ∈ us,u.oneCell'=true
theorem Row.cell {w:World} {a:Addr} {n cap size:Nat} {us:List Value} {vs:Array Value} {ty:TypeId} (h:Row w a n cap size us vs ty) {k:Nat} {u:Value} (hk:us[k]? = some u):w.cell? (a.add k)=some u:=by
 have hlt:k < n * size:=by rw [<- h.len]; exact (DS.1 hk).1
 have:a.add k=⟨a.block,a.off + k,none⟩:=by
  have:=h.spot
  obtain ⟨b,o,sp⟩:=a
  simp at this
  subst this
  exact fc b o k
 rw [this]
 simp only [World.cell?,h.heap]
 simp only [Option.isSome_none,Bool.false_eq_true,if_false]
 rw [h.cells k hlt,hk]
inductive ak (w:World) (I:Nat->Prop):TV->Value->(Nat->Prop)->Prop
 | fr {x:TV} {v:Value} {S:Nat->Prop} (h:Rep w I x v):ak w I x v S
 | sl {size : Nat} {xs : List (List TV)} {a : Addr} {cap : Nat} {S : Nat → Prop} (us : List Value) (vs : Array Value) (ty : TypeId) (F : Nat → Nat → Prop) (hS : S a.block)
   (row:Row w a xs.length cap size us vs ty) (hl:∀ x ∈ xs,x.length=size) (hr:∀ (k:Nat) (c:TV),xs.flatten[k]? = some c->ak w I c (us.getD k undef) (F k))
   (hF:∀ k b,F k b->S b/\b≠a.block) (hd:∀ k k' b,F k b->F k' b->k=k'):ak w I (.sl true size xs) (.slice (some a) xs.length cap) S
 | agg {cs : List TV} {vs : Array Value} {S : Nat → Prop} (F : Nat → Nat → Prop) (hl : vs.size = cs.length) (h1 : ∀ j, j < vs.size → (vs.getD j undef).oneCell' = true)
   (hr:∀ (j:Nat) (c:TV),cs[j]? = some c->ak w I c (vs.getD j undef) (F j)) (hF:∀ j b,F j b->S b) (hd:∀ k k' b,F k b->F k' b->k=k'):ak w I (.agg cs) (.agg vs) S
 | buf {s:ByteArray} {e:TypeId} {v:Value} {S:Nat->Prop} (h:w.ownsRowF 0 e 1 v s.size (Lib.strCells s)) (hS:∀ b,v.ownBlock=some b->S b):ak w I (.buf s e) v S
 | tup {cs : List TV} {vs : Array Value} {S : Nat → Prop} (F : Nat → Nat → Prop) (hl : vs.size = cs.length)
   (hr:∀ (j:Nat) (c:TV),cs[j]? = some c->ak w I c (vs.getD j undef) (F j)) (hF:∀ j b,F j b->S b) (hd:∀ k k' b,F k b->F k' b->k=k'):ak w I (.tup cs) (.tuple vs) S
theorem _root_.Go.World.ownsRowF.moved {w w':World} {base:Nat} {e:TypeId} {size:Nat} {v:Value} {n:Nat} {xs:List Value} (h:w.ownsRowF base e size v n xs) (hh:∀ b,v.ownBlock=some b->w'.heap[b]? = w.heap[b]?):w'.ownsRowF base e size v n xs:=by
 refine ⟨h.1,?_⟩
 rcases h.2 with hn | ⟨g,cap,cur,fz,rfl,hb,hgg,rest⟩
 ·exact .inl hn
 ·exact .inr ⟨g,cap,cur,fz,rfl,hb,by rw [hh g rfl]; exact hgg,rest⟩
theorem ak.mv {w w':World} {I I':Nat->Prop} (hI:∀ b,I b->w'.heap[b]? = w.heap[b]?) (hs:∀ b,I b->I' b) {x:TV} {v:Value} {S:Nat->Prop} (h:ak w I x v S) :
  ∀ {S':Nat->Prop},(∀ b,S b->w'.heap[b]? = w.heap[b]?)->(∀ b,S b->S' b)->ak w' I' x v S':=by
 induction h with
 | fr h=>intro S' _ _; exact .fr (h.mv hI hs)
 | @sl size xs a cap S us vs ty F hS row hl hr hF hd ih =>
  intro S' hh hSS
  exact .sl us vs ty F (hSS _ hS) ⟨by rw [hh _ hS]; exact row.heap,row.spot,row.le,row.max,row.fit,row.len,row.cells,row.one⟩ hl (fun k c hk=>ih k c hk (fun b hb=>hh b (hF k b hb).1) (fun b hb=>hb))
   (fun k b hb=>⟨hSS b (hF k b hb).1,(hF k b hb).2⟩) hd
 | @buf s e v S h hS =>
  intro S' hh hSS
  exact .buf (h.moved (fun b hb=>hh b (hS b hb))) (fun b hb=>hSS b (hS b hb))
 | @agg cs vs S F hl h1 hr hF hd ih =>
  intro S' hh hSS
  exact .agg F hl h1 (fun k c hk=>ih k c hk (fun b hb=>hh b (hF k b hb)) (fun b hb=>hb)) (fun k b hb=>hSS b (hF k b hb)) hd
 | @tup cs vs S F hl hr hF hd ih =>
  intro S' hh hSS
  exact .tup F hl (fun k c hk=>ih k c hk (fun b hb=>hh b (hF k b hb)) (fun b hb=>hb)) (fun k b hb=>hSS b (hF k b hb)) hd
theorem ak.mono {w:World} {I:Nat->Prop} {x:TV} {v:Value} {S S':Nat->Prop} (h:ak w I x v S) (hS:∀ b,S b->S' b):ak w I x v S' :=
 h.mv (fun _ _=>rfl) (fun _ h=>h) (fun _ _=>rfl) hS
theorem aL {w:World} {I:Nat->Prop} {v u:Value} (h:Rep w I (.lit v) u):u=v:=by cases h; rfl
theorem a8 {w:World} {I:Nat->Prop} {v u:Value} {S:Nat->Prop} (h:ak w I (.lit v) u S):u=v:=by cases h with | fr h=>exact aL h
theorem BI {w:World} {I:Nat->Prop} {s:Nat} {xs:List (List TV)} {u:Value} {S:Nat->Prop} (h:ak w I (.sl false s xs) u S):Rep w I (.sl false s xs) u:=by cases h with | fr h=>exact h
theorem pN {w:World} {I:Nat->Prop} {o:Bool} {s:Nat} {xs:List (List TV)} {u:Value} {S:Nat->Prop} (h:ak w I (.sl o s xs) u S):∃ a cap,u=.slice (some a) xs.length cap:=by
 cases h with
 | fr h=>cases h; exact ⟨_,_,rfl⟩
 | sl=>exact ⟨_,_,rfl⟩
theorem eh {w:World} {I:Nat->Prop} {x:TV} {u:Value} {S:Nat->Prop} (h:ak w I x u S) (hx:x.isSl=true):∃ a n cap,u=.slice a n cap:=by
 cases x with
 | lit v =>
  have:=a8 h
  subst this
  cases u <;> simp [TV.isSl,aG] at hx ⊢
 | sl o s xs=>obtain ⟨a,cap,rfl⟩:=pN h; exact ⟨_,_,_,rfl⟩
 | _=>simp [TV.isSl] at hx
theorem pH {v:Value} (h:scV v=true):v.oneCell'=true:=by cases v <;> first | rfl | simp [scV] at h
theorem dE {w:World} {I:Nat->Prop} {x:TV} {u:Value} {S:Nat->Prop} (h:ak w I x u S) (hx:x.isSc=true):x=.lit u/\scV u=true:=by
 cases x with
 | lit v =>
  have:=a8 h
  subst this
  exact ⟨rfl,hx⟩
 | _=>simp [TV.isSc] at hx
theorem CK {w:World} {I:Nat->Prop} {x:TV} {u:Value} {S:Nat->Prop} (h:ak w I x u S):Rep w I x.lf u:=by
 cases x with
 | lit v=>have:=a8 h; subst this; exact .lit _
 | _=>exact .hole _
theorem kJ:∀ l:List TV,uh l=l.map frz
 | []=>rfl
 | x :: l=>by simp [uh,kJ l]
theorem fM:∀ l:List (List TV),qQ l=l.map fun x=>x.map frz
 | []=>rfl
 | x :: l=>by simp [qQ,fM l,kJ]
theorem Cd:∀ l:List TV,lfL l=l.map TV.lf
 | []=>rfl
 | x :: l=>by simp [lfL,Cd l]
theorem yc:∀ l:List (List TV),iU l=l.map fun x=>x.map TV.lf
 | []=>rfl
 | x :: l=>by simp [iU,yc l,Cd]
theorem Rep.frz {w:World} {I:Nat->Prop} {x:TV} {v:Value} (h:Rep w I x v):Rep w I (frz x) v:=by
 induction h with
 | lit v=>exact .lit v
 | hole v=>exact .hole v
 | buf e h=>exact .hole _
 | @sl size xs a cap cell hI hc hm hl hcell h1 _ ih =>
  simp only [Ab.frz,fM]
  have hlen:(xs.map fun x=>x.map Ab.frz).length=xs.length:=by simp
  have key:Rep w I (.sl false size (xs.map fun x=>x.map Ab.frz)) (.slice (some a) (xs.map fun x=>x.map Ab.frz).length cap):=by
   refine .sl cell (by rw [hlen]; exact hI) (by rw [hlen]; exact hc) hm (fun x hx=>?_) (by rw [hlen]; exact hcell) (by rw [hlen]; exact h1) (fun i y hy j c hj=>?_)
   ·obtain ⟨y,hy,rfl⟩:=List.mem_map.1 hx
    simpa using hl y hy
   ·rw [DY] at hy
    cases hxi:xs[i]? with
    | none=>simp [hxi] at hy
    | some x =>
     simp only [hxi,D6,DU] at hy
     subst hy
     rw [DY] at hj
     cases hxj:x[j]? with
     | none=>simp [hxj] at hj
     | some c' =>
      simp only [hxj,D6,DU] at hj
      subst hj
      exact ih i x hxi j c' hxj
  rwa [hlen] at key
 | @agg cs vs hl h1 _ ih =>
  simp only [Ab.frz,kJ]
  refine .agg (by simpa using hl) h1 (fun j c hj=>?_)
  rw [DY] at hj
  cases hxj:cs[j]? with
  | none=>simp [hxj] at hj
  | some c'=>simp only [hxj,D6,DU] at hj; subst hj; exact ih j c' hxj
 | @tup cs vs hl _ ih =>
  simp only [Ab.frz,kJ]
  refine .tup (by simpa using hl) (fun j c hj=>?_)
  rw [DY] at hj
  cases hxj:cs[j]? with
  | none=>simp [hxj] at hj
  | some c'=>simp only [hxj,D6,DU] at hj; subst hj; exact ih j c' hxj
theorem ak.frz {w:World} {I I':Nat->Prop} (hI:∀ b,I b->I' b) {x:TV} {v:Value} {S:Nat->Prop} (h:ak w I x v S):(∀ b,S b->I' b)->Rep w I' (frz x) v:=by
 induction h with
 | fr h=>intro _; exact (h.mv (fun _ _=>rfl) hI).frz
 | buf _ _=>intro _; exact .hole _
 | @sl size xs a cap S us vs ty F hS row hl hr hF hd ih =>
  intro hSI
  simp only [Ab.frz,fM]
  have hlen:(xs.map fun x=>x.map Ab.frz).length=xs.length:=by simp
  have key:Rep w I' (.sl false size (xs.map fun x=>x.map Ab.frz)) (.slice (some a) (xs.map fun x=>x.map Ab.frz).length cap):=by
   refine .sl (fun k=>us.getD k undef) (fun _=>hSI _ hS) (by rw [hlen]; exact row.le) row.max (fun x hx=>?_) (fun k hk=>?_) (fun k hk=>?_) (fun i y hy j c hj=>?_)
   ·obtain ⟨y,hy,rfl⟩:=List.mem_map.1 hx
    simpa using hl y hy
   ·rw [hlen] at hk
    have:k < us.length:=by rw [row.len]; exact hk
    exact row.cell (by simp [DT this])
   ·rw [hlen] at hk
    have:k < us.length:=by rw [row.len]; exact hk
    simp only [D7,DT this,Option.getD_some]
    exact row.one _ (List.getElem_mem this)
   ·rw [DY] at hy
    cases hxi:xs[i]? with
    | none=>simp [hxi] at hy
    | some x =>
     simp only [hxi,D6,DU] at hy
     subst hy
     rw [DY] at hj
     cases hxj:x[j]? with
     | none=>simp [hxj] at hj
     | some c' =>
      simp only [hxj,D6,DU] at hj
      subst hj
      exact ih _ c' (eF hl hxi hxj) (fun b hb=>hSI b (hF _ b hb).1)
  rwa [hlen] at key
 | @agg cs vs S F hl h1 hr hF hd ih =>
  intro hSI
  simp only [Ab.frz,kJ]
  refine .agg (by simpa using hl) h1 (fun j c hj=>?_)
  rw [DY] at hj
  cases hxj:cs[j]? with
  | none=>simp [hxj] at hj
  | some c'=>simp only [hxj,D6,DU] at hj; subst hj; exact ih j c' hxj (fun b hb=>hSI b (hF j b hb))
 | @tup cs vs S F hl hr hF hd ih =>
  intro hSI
  simp only [Ab.frz,kJ]
  refine .tup (by simpa using hl) (fun j c hj=>?_)
  rw [DY] at hj
  cases hxj:cs[j]? with
  | none=>simp [hxj] at hj
  | some c'=>simp only [hxj,D6,DU] at hj; subst hj; exact ih j c' hxj (fun b hb=>hSI b (hF j b hb))
theorem eJ:∀ {l:List TV},bR l=true->∀ x ∈ l,aD x=true
 | [],_,x,hx=>by simp at hx
 | y :: l,h,x,hx=>by
  simp only [bR,DV] at h
  rcases List.mem_cons.1 hx with rfl | hx
  ·exact h.1
  ·exact eJ h.2 x hx
theorem oT:∀ {l:List (List TV)},lc l=true->∀ x ∈ l,bR x=true
 | [],_,x,hx=>by simp at hx
 | y :: l,h,x,hx=>by
  simp only [lc,DV] at h
  rcases List.mem_cons.1 hx with rfl | hx
  ·exact h.1
  ·exact oT h.2 x hx
theorem Rep.own {w:World} {I I':Nat->Prop} {x:TV} {v:Value} (h:Rep w I x v):aD x=true->Rep w I' x v:=by
 induction h with
 | lit v=>intro _; exact .lit v
 | hole v=>intro _; exact .hole v
 | buf e h=>intro _; exact .buf e h
 | sl=>intro h; simp [aD] at h
 | @agg cs vs hl h1 _ ih=>intro h; simp only [aD] at h; exact .agg hl h1 (fun j c hj=>ih j c hj (eJ h c (D1 hj)))
 | @tup cs vs hl _ ih=>intro h; simp only [aD] at h; exact .tup hl (fun j c hj=>ih j c hj (eJ h c (D1 hj)))
theorem ak.own {w:World} {I I':Nat->Prop} {x:TV} {v:Value} {S:Nat->Prop} (h:ak w I x v S):aD x=true->ak w I' x v S:=by
 induction h with
 | fr h=>intro ho; exact .fr (h.own ho)
 | buf h hS=>intro _; exact .buf h hS
 | @sl size xs a cap S us vs ty F hS row hl hr hF hd ih =>
  intro ho
  simp only [aD,Bool.true_and] at ho
  refine .sl us vs ty F hS row hl (fun k c hk=>ih k c hk ?_) hF hd
  obtain ⟨x,hx,hc⟩:=List.mem_flatten.1 (D1 hk)
  exact eJ (oT ho x hx) c hc
 | @agg cs vs S F hl h1 hr hF hd ih=>intro ho; simp only [aD] at ho; exact .agg F hl h1 (fun j c hj=>ih j c hj (eJ ho c (D1 hj))) hF hd
 | @tup cs vs S F hl hr hF hd ih=>intro ho; simp only [aD] at ho; exact .tup F hl (fun j c hj=>ih j c hj (eJ ho c (D1 hj))) hF hd
end Go.Ab
end
section
namespace Go.Ab
open Go.RowKit
def TV.nd (x:TV):Option (Nat × Nat):=match x with | .sl _ s xs=>some (s,xs.length) | _=>none
def Node (w:World):Way->TV->Value->Value->Option (Nat × Nat)->Prop
 | [],x,u,v,nd=>v=u/\nd=x.nd
 | (k,j) :: p,x,u,v,nd=>∃ o s xs a n cap e y u',x=.sl o s xs/\u=.slice (some a) n cap/\xs[k]? = some e/\e[j]? = some y/\w.cell? (a.add (k * s + j))=some u'/\Node w p y u' v nd
section
variable {w w':World} {I I':Nat->Prop} {x y:TV} {u v:Value} {S:Nat->Prop}
theorem getD_some {l:List Value} {k:Nat} {u:Value} (h:l[k]? = some u):l.getD k undef=u:=by simp [h]
theorem ak.child {o:Bool} {s:Nat} {xs:List (List TV)} (h:ak w I (.sl o s xs) u S) {k j:Nat} {e:List TV} {y:TV} (hk:xs[k]? = some e) (hj:e[j]? = some y) :
  ∃ a cap u' S',u=.slice (some a) xs.length cap/\w.cell? (a.add (k * s + j))=some u'/\u'.oneCell'=true/\ak w I y u' S'/\(∀ b,S' b->S b)/\(S a.block\/I a.block)/\e.length=s:=by
 have hlt:k < xs.length:=(DS.1 hk).1
 cases h with
 | fr h =>
  cases h with
  | @sl _ _ a cap cell hI hc hm hl hcell h1 hr =>
   have hel:=hl e (D1 hk)
   have hf:k * s + j < xs.length * s:=by
    have hj':=(DS.1 hj).1
    have:=Nat.mul_le_mul_right s (Nat.succ_le_of_lt hlt)
    rw [Nat.succ_mul] at this
    omega
   exact ⟨a,cap,_,fun _=>False,rfl,hcell _ hf,h1 _ hf,.fr (hr k e hk j y hj),fun _ h=>h.elim,.inr (hI (by omega)),hel⟩
 | @sl _ _ a cap S us vs ty F hS row hl hr hF hd =>
  have hel:=hl e (D1 hk)
  have hfg:=eF hl hk hj
  have hlt2:k * s + j < us.length:=by
   rw [row.len,<- bO hl]
   exact (DS.1 hfg).1
  have hu:=DT hlt2
  refine ⟨a,cap,us[k * s + j],F (k * s + j),rfl,row.cell hu,row.one _ (List.getElem_mem hlt2),?_,fun b hb=>(hF _ b hb).1,.inl hS,hel⟩
  have:=hr _ _ hfg
  rwa [getD_some hu] at this
theorem Node.mv:∀ {p:Way} {x:TV} {u v:Value} {nd:Option (Nat × Nat)} {S:Nat->Prop},ak w I x u S->(∀ b,I b->w'.heap[b]? = w.heap[b]?)->(∀ b,S b->w'.heap[b]? = w.heap[b]?)->Node w p x u v nd->Node w' p x u v nd
 | [],x,u,v,nd,S,_,_,_,h=>h
 | (k,j) :: p,x,u,v,nd,S,hr,hI,hS,⟨o,s,xs,a,n,cap,e,y,u',hx,hu,he,hy,hc,h⟩=>by
  subst hx
  obtain ⟨a',cap',u2,S',h1,h2,h3,h4,h5,h6,h7⟩:=hr.child he hy
  rw [hu] at h1
  cases h1
  rw [hc] at h2
  cases h2
  refine ⟨o,s,xs,a,_,_,e,y,u',rfl,hu,he,hy,?_,Node.mv h4 hI (fun b hb=>hS b (h5 b hb)) h⟩
  rw [<- hc]
  refine World.cell?_of_block ?_
  rw [ej]
  rcases h6 with h6 | h6
  ·exact hS _ h6
  ·exact hI _ h6
theorem ak.get:∀ {p:Way} {x y:TV} {u:Value} {S:Nat->Prop},ak w I x u S->dC p x=some y->∃ v S',Node w p x u v y.nd/\ak w I y v S'/\(∀ b,S' b->S b)/\(p≠[]->v.oneCell'=true)
 | [],x,y,u,S,hr,h=>by
  simp only [dC,DU] at h
  subst h
  exact ⟨u,S,⟨rfl,rfl⟩,hr,fun _ h=>h,fun h=>absurd rfl h⟩
 | (k, j) :: p, x, y, u, S, hr, h => by
  cases x with
  | sl o s xs =>
   simp only [dC] at h
   cases he:xs[k]? with
   | none=>simp [he] at h
   | some e =>
    simp only [he] at h
    cases hz:e[j]? with
    | none=>simp [hz] at h
    | some z =>
     simp only [hz] at h
     obtain ⟨a,cap,u',S1,h1,h2,h3,h4,h5,h6,h7⟩:=hr.child he hz
     obtain ⟨v,S2,n1,n2,n3,n4⟩:=ak.get h4 h
     refine ⟨v,S2,⟨o,s,xs,a,_,cap,e,z,u',rfl,h1,he,hz,h2,n1⟩,n2,fun b hb=>h5 b (n3 b hb),fun _=>?_⟩
     cases p with
     | nil=>rw [n1.1]; exact h3
     | cons=>exact n4 (by simp)
  | _=>simp [dC] at h
theorem Node.unique:∀ {p:Way} {x:TV} {u v v':Value} {nd nd':Option (Nat × Nat)},Node w p x u v nd->Node w p x u v' nd'->v=v'/\nd=nd'
 | [],x,u,v,v',nd,nd',h,h'=>⟨h.1.trans h'.1.symm,h.2.trans h'.2.symm⟩
 | (k,j) :: p,x,u,v,v',nd,nd',⟨o,s,xs,a,n,cap,e,y,u',hx,hu,he,hy,hc,h⟩,⟨o2,s2,xs2,a2,n2,cap2,e2,y2,u2,hx2,hu2,he2,hy2,hc2,h2⟩=>by
  subst hx
  cases hx2
  subst hu
  cases hu2
  rw [he] at he2
  cases he2
  rw [hy] at hy2
  cases hy2
  rw [hc] at hc2
  cases hc2
  exact Node.unique h h2
theorem ak.sub : ∀ {p : Way} {x y : TV} {u : Value} {S : Nat → Prop}, ak w I x u S → dC p x = some y →
  ∃ v Sy, ak w I y v Sy ∧ (∀ b, Sy b → S b) ∧ Node w p x u v y.nd ∧ (p ≠ [] → v.oneCell' = true) ∧
   ∀ (w':World) (I':Nat->Prop) (y' x':TV) (S':Nat->Prop),lj p x y'=some x'->(∀ b,I b->w'.heap[b]? = w.heap[b]?)->(∀ b,I b->I' b)->(∀ b,S b->¬ Sy b->w'.heap[b]? = w.heap[b]?) ->
    ak w' I' y' v S'->(∀ b,S' b->S b->Sy b)->ak w' I' x' u (fun b=>(S b/\¬ Sy b)\/S' b) /\
    ∀ (q:Way) (v':Value) (nd:Option (Nat × Nat)),(∀ q',q=p ++ q'->Node w q' y v v' nd->Node w' q' y' v v' nd)->Node w q x u v' nd->Node w' q x' u v' nd
 | [],x,y,u,S,hr,h=>by
  simp only [Ab.dC,DU] at h
  subst h
  refine ⟨u,S,hr,fun _ h=>h,⟨rfl,rfl⟩,fun h=>absurd rfl h,?_⟩
  intro w' I' y' x' S' hs hI hII hh hr' hd
  simp only [lj,DU] at hs
  subst hs
  exact ⟨hr'.mono (fun b hb=>.inr hb),fun q v' nd hq hn=>hq q rfl hn⟩
 | (k, j) :: p, x, y, u, S, hr, h => by
  cases x with
  | sl o s xs =>
   simp only [Ab.dC] at h
   cases he:xs[k]? with
   | none=>simp [he] at h
   | some e =>
    simp only [he] at h
    cases hz:e[j]? with
    | none=>simp [hz] at h
    | some z =>
     simp only [hz] at h
     cases o with
     | false =>
      obtain ⟨v,S',n1,n2,n3,n4⟩:=ak.get (p:=(k,j) :: p) (y:=y) hr (by simp only [Ab.dC,he,hz,h])
      refine ⟨v,S',n2,n3,n1,n4,?_⟩
      intro w' I' y' x' S2 hs
      simp [lj] at hs
     | true =>
      cases hr with
      | fr h=>cases h
      | @sl _ _ a cap S us vs ty F hS row hl hr hF hd =>
       have hel:=hl e (D1 he)
       have hjl:j < e.length:=(DS.1 hz).1
       have hfg:=eF hl he hz
       have hlt2:k * s + j < us.length:=by
        rw [row.len,<- bO hl]
        exact (DS.1 hfg).1
       have hu:=DT hlt2
       have hrz:=hr _ _ hfg
       rw [getD_some hu] at hrz
       obtain ⟨v,Sy,m1,m2,m3,m4,m5⟩:=ak.sub hrz h
       have hSyF:∀ b,Sy b->F (k * s + j) b:=m2
       refine ⟨v,Sy,m1,fun b hb=>(hF _ b (m2 b hb)).1,⟨true,s,xs,a,_,cap,e,z,us[k * s + j],rfl,rfl,he,hz,row.cell hu,m3⟩,fun _=>?_,?_⟩
       ·cases p with
        | nil=>rw [m3.1]; exact row.one _ (List.getElem_mem hlt2)
        | cons=>exact m4 (by simp)
       intro w' I' y' x' S' hs hI hII hh hr' hdis
       simp only [lj,he,hz] at hs
       cases hz':lj p z y' with
       | none=>simp [hz'] at hs
       | some z' =>
        simp only [hz',DU,ai] at hs
        subst hs
        have hablk:¬ Sy a.block:=fun hb=>(hF _ _ (m2 _ hb)).2 rfl
        obtain ⟨r1,r2⟩:=m5 w' I' y' z' S' hz' hI hII (fun b hb hn=>hh b (hF _ b hb).1 hn) hr' (fun b hb hb2=>hdis b hb (hF _ b hb2).1)
        have hset:e.set j z'=spl e j [z']:=by
         apply List.ext_getElem?
         intro m
         rw [cg (by simp; omega),List.getElem?_set]
         by_cases hjm:j=m
         ·subst hjm; simp [hjl]
         ·rw [if_neg hjm,if_neg (by simp; omega)]
        obtain ⟨f1,f2⟩:=ve (ys:=[z']) hl he (by simp; omega:j + [z'].length<=e.length)
        have hlen:(xs.set k (e.set j z')).length=xs.length:=by simp
        have hrow:Row w' a (xs.set k (e.set j z')).length cap s us vs ty:=by
         rw [hlen]
         exact ⟨by rw [hh _ hS hablk]; exact row.heap,row.spot,row.le,row.max,row.fit,row.len,row.cells,row.one⟩
        have hother:∀ m c,m≠k * s + j->xs.flatten[m]? = some c->ak w' I' c (us.getD m undef) (F m):=fun m c hm hc =>
         (hr m c hc).mv hI hII (fun b hb=>hh b (hF m b hb).1 (fun hs=>hm (hd m _ b hb (m2 b hs)))) (fun _ h=>h)
        constructor
        ·have key:ak w' I' (.sl true s (xs.set k (e.set j z'))) (.slice (some a) (xs.set k (e.set j z')).length cap) (fun b=>(S b/\¬ Sy b)\/S' b):=by
          refine .sl us vs ty (fun m b=>if m=k * s + j then (F (k * s + j) b/\¬ Sy b)\/S' b else F m b) (.inl ⟨hS,hablk⟩) hrow (yy hl (by simp [hel])) (fun m c hc=>?_) (fun m b hb=>?_) (fun m m' b hb hb'=>?_)
          ·rw [hset,f1,cg f2] at hc
           by_cases hm:m=k * s + j
           ·subst hm
            simp only [List.length_singleton,Nat.sub_self] at hc
            rw [if_pos (by omega)] at hc
            simp only [List.getElem?_cons_zero,DU] at hc
            subst hc
            simp only [if_true]
            rw [getD_some hu]
            exact r1
           ·rw [if_neg (by simp only [List.length_singleton]; omega)] at hc
            simp only [hm,if_false]
            exact hother m c hm hc
          ·by_cases hm:m=k * s + j
           ·subst hm
            simp only [if_true] at hb
            rcases hb with ⟨h1,h2⟩ | h1
            ·exact ⟨.inl ⟨(hF _ b h1).1,h2⟩,(hF _ b h1).2⟩
            ·exact ⟨.inr h1,fun e=>by subst e; exact hablk (hdis _ h1 hS)⟩
           ·simp only [hm,if_false] at hb
            exact ⟨.inl ⟨(hF _ b hb).1,fun hs=>hm (hd _ _ b hb (m2 b hs))⟩,(hF _ b hb).2⟩
          ·by_cases hm:m=k * s + j <;> by_cases hm':m'=k * s + j
           ·rw [hm,hm']
           ·simp only [hm,hm',if_true,if_false] at hb hb'
            rcases hb with ⟨h1,h2⟩ | h1
            ·exact hm ▸ hd _ _ b h1 hb'
            ·exact hm ▸ hd _ _ b (m2 b (hdis b h1 (hF _ b hb').1)) hb'
           ·simp only [hm,hm',if_true,if_false] at hb hb'
            rcases hb' with ⟨h1,h2⟩ | h1
            ·exact hm' ▸ hd _ _ b hb h1
            ·exact hm' ▸ hd _ _ b hb (m2 b (hdis b h1 (hF _ b hb).1))
           ·simp only [hm,hm',if_false] at hb hb'
            exact hd _ _ b hb hb'
         rwa [hlen] at key
        ·intro q v' nd hq hn
         cases q with
         | nil =>
          obtain ⟨e1,e2⟩:=hn
          exact ⟨e1,by rw [e2]; simp [TV.nd]⟩
         | cons kj q =>
          obtain ⟨k1,j1⟩:=kj
          obtain ⟨o2,s2,xs2,a2,n2,cap2,e2,y2,u2,hx2,hu2,he2,hy2,hc2,hn2⟩:=hn
          cases hx2
          cases hu2
          have hblk:∀ m,w'.cell? (a.add m)=w.cell? (a.add m):=fun m=>World.cell?_of_block (by rw [ej]; exact hh _ hS hablk)
          by_cases hk1:k1=k
          ·subst hk1
           rw [he] at he2
           cases he2
           have hk2:k1 < xs.length:=(DS.1 he).1
           by_cases hj1:j1=j
           ·subst hj1
            rw [hz] at hy2
            cases hy2
            have:u2=us[k1 * s + j1]:=by rw [row.cell hu] at hc2; exact (Option.some.inj hc2).symm
            subst this
            refine ⟨true,s,_,a,_,cap,e.set j1 z',z',us[k1 * s + j1],rfl,rfl,by rw [List.getElem?_set_self hk2],by rw [List.getElem?_set_self hjl],by rw [hblk]; exact hc2,?_⟩
            exact r2 q v' nd (fun q' hq'=>hq q' (by rw [hq']; rfl)) hn2
           ·refine ⟨true,s,_,a,_,cap,e.set j z',y2,u2,rfl,rfl,by rw [List.getElem?_set_self hk2],by rw [List.getElem?_set_ne (fun h=>hj1 h.symm)]; exact hy2,by rw [hblk]; exact hc2,?_⟩
            have hfg2:=eF hl he hy2
            have hm:k1 * s + j1≠k1 * s + j:=by omega
            have hr2:=hr _ _ hfg2
            have hlt3:k1 * s + j1 < us.length:=by rw [row.len,<- bO hl]; exact (DS.1 hfg2).1
            rw [getD_some (DT hlt3)] at hr2
            have:u2=us[k1 * s + j1]:=by rw [row.cell (DT hlt3)] at hc2; exact (Option.some.inj hc2).symm
            subst this
            exact Node.mv hr2 hI (fun b hb=>hh b (hF _ b hb).1 (fun hs=>hm (hd _ _ b hb (m2 b hs)))) hn2
          ·refine ⟨true,s,_,a,_,cap,e2,y2,u2,rfl,rfl,by rw [List.getElem?_set_ne (fun h=>hk1 h.symm)]; exact he2,hy2,by rw [hblk]; exact hc2,?_⟩
           have hfg2:=eF hl he2 hy2
           have hel2:=hl e2 (D1 he2)
           have hj2:j1 < e2.length:=(DS.1 hy2).1
           have hm:k1 * s + j1≠k * s + j:=by
            intro heq
            rcases Nat.lt_or_gt_of_ne hk1 with h' | h'
            ·have:=Nat.mul_le_mul_right s (Nat.succ_le_of_lt h')
             rw [Nat.succ_mul] at this
             omega
            ·have:=Nat.mul_le_mul_right s (Nat.succ_le_of_lt h')
             rw [Nat.succ_mul] at this
             omega
           have hr2:=hr _ _ hfg2
           have hlt3:k1 * s + j1 < us.length:=by rw [row.len,<- bO hl]; exact (DS.1 hfg2).1
           rw [getD_some (DT hlt3)] at hr2
           have:u2=us[k1 * s + j1]:=by rw [row.cell (DT hlt3)] at hc2; exact (Option.some.inj hc2).symm
           subst this
           exact Node.mv hr2 hI (fun b hb=>hh b (hF _ b hb).1 (fun hs=>hm (hd _ _ b hb (m2 b hs)))) hn2
  | _=>simp [Ab.dC] at h
end
end Go.Ab
end
section
namespace Go.Ab
open Go.RowKit
section
variable {P:Program} {w w':World} {I I':Nat->Prop} {x y:TV} {u v:Value} {S:Nat->Prop}
theorem wU {s k j k' j':Nat} (hj:j < s) (hj':j' < s) (h:k * s + j=k' * s + j'):k=k'/\j=j':=by
 have h1:k=k':=by
  rcases Nat.lt_trichotomy k k' with h2 | h2 | h2
  ·have:=Nat.mul_le_mul_right s (Nat.succ_le_of_lt h2)
   rw [Nat.succ_mul] at this
   omega
  ·exact h2
  ·have:=Nat.mul_le_mul_right s (Nat.succ_le_of_lt h2)
   rw [Nat.succ_mul] at this
   omega
 subst h1
 exact ⟨rfl,by omega⟩
theorem pQ {α:Type} {s:Nat} {xs:List (List α)} (h:∀ x ∈ xs,x.length=s) {k j:Nat} (hk:k < xs.length) (hj:j < s):∃ e c,xs[k]? = some e/\e[j]? = some c/\xs.flatten[k * s + j]? = some c:=by
 have hel:=h xs[k] (List.getElem_mem hk)
 have hje:j < xs[k].length:=by omega
 exact ⟨xs[k],xs[k][j],DT hk,DT hje,eF h (DT hk) (DT hje)⟩
theorem uN (a:Addr) (h:a.spot=none) (k:Nat):a.add k=⟨a.block,a.off + k,none⟩:=by
 obtain ⟨b,o,sp⟩:=a
 simp at h
 subst h
 exact fc b o k
theorem ak.write {s:Nat} {xs:List (List TV)} (h:ak w I (.sl true s xs) v S) (hnI:∀ b,S b->¬ I b):∃ a cap vs ty us,v=.slice (some a) xs.length cap/\S a.block/\Row w a xs.length cap s us vs ty /\
  ∀ (o:Nat) (ys:List TV) (us':List Value) (T:Nat->Nat->Prop) (w':World) (xs':List (List TV)),o + ys.length<=xs.flatten.length->us'.length=ys.length->(∀ u ∈ us',u.oneCell'=true) ->
   (∀ (m:Nat) (c:TV),ys[m]? = some c->ak w I c (us'.getD m undef) (T m))->(∀ m b,T m b->¬ S b)->(∀ m m' b,T m b->T m' b->m=m') ->
   w'.heap[a.block]? = some (.cells (spl vs.toList (a.off + o) us').toArray ty (0,0))->(∀ b,b≠a.block->w'.heap[b]? = w.heap[b]?)->xs'.length=xs.length->(∀ x ∈ xs',x.length=s)->xs'.flatten=spl xs.flatten o ys ->
   ak w' I (.sl true s xs') v (fun b=>S b\/∃ m,T m b) /\
   ∀ (q:Way) (v':Value) (nd:Option (Nat × Nat)),(∀ k1 j1 q1,q=(k1,j1) :: q1->¬ (o<=k1 * s + j1/\k1 * s + j1 < o + ys.length))->Node w q (.sl true s xs) v v' nd->Node w' q (.sl true s xs') v v' nd:=by
 cases h with
 | fr h=>cases h
 | @sl _ _ a cap S us vs ty F hS row hl hr hF hd =>
  refine ⟨a,cap,vs,ty,us,rfl,hS,row,?_⟩
  intro o ys us' T w' xs' ho hul h1 hy hT hTd hheap hoth hxl hxa hxf
  have hfl:=bO hl
  have hus:us.length=xs.flatten.length:=by rw [row.len,hfl]
  have hnIa:=hnI _ hS
  have hI:∀ b,I b->w'.heap[b]? = w.heap[b]? := fun b hb=>hoth b (fun e=>hnIa (e ▸ hb))
  have hfit:a.off + o + us'.length<=vs.toList.length:=by
   have:=row.fit
   have h2:xs.length * s<=cap * s:=Nat.mul_le_mul_right _ row.le
   simp only [Array.length_toList]
   omega
  have hsl:o + us'.length<=us.length:=by omega
  have hrow:Row w' a xs'.length cap s (spl us o us') (spl vs.toList (a.off + o) us').toArray ty:=by
   rw [hxl]
   refine ⟨hheap,row.spot,row.le,row.max,by rw [List.size_toArray,gr hfit]; exact row.fit,by rw [gr hsl]; exact row.len,fun k hk=>?_,fun u hu=>?_⟩
   ·rw [List.getElem?_toArray,cg hfit,cg hsl]
    by_cases hc:o<=k/\k < o + us'.length
    ·rw [if_pos hc,if_pos (by omega)]
     congr 1
     omega
    ·rw [if_neg hc,if_neg (by omega),DW]
     exact row.cells k hk
   ·obtain ⟨m,hm⟩:=List.mem_iff_getElem?.1 hu
    rw [cg hsl] at hm
    split at hm
    ·exact h1 u (D1 hm)
    ·exact row.one u (D1 hm)
  constructor
  ·have key:ak w' I (.sl true s xs') (.slice (some a) xs'.length cap) (fun b=>S b\/∃ m,T m b):=by
    refine .sl (spl us o us') _ ty (fun k b=>if o<=k/\k < o + ys.length then T (k - o) b else F k b) (.inl hS) hrow hxa (fun k c hc=>?_) (fun k b hb=>?_) (fun k k' b hb hb'=>?_)
    ·rw [hxf,cg ho] at hc
     have hg:(spl us o us').getD k undef=if o<=k/\k < o + ys.length then us'.getD (k - o) undef else us.getD k undef:=by
      simp only [D7,cg hsl,hul]
      split <;> rfl
     rw [hg]
     by_cases hk:o<=k/\k < o + ys.length
     ·rw [if_pos hk] at hc ⊢
      simp only [hk,and_self,if_true]
      exact (hy _ c hc).mv hI (fun _ h=>h) (fun b hb=>hoth b (fun e=>hT _ b hb (e ▸ hS))) (fun _ h=>h)
     ·rw [if_neg hk] at hc ⊢
      simp only [hk,if_false]
      exact (hr k c hc).mv hI (fun _ h=>h) (fun b hb=>hoth b (hF k b hb).2) (fun _ h=>h)
    ·by_cases hk:o<=k/\k < o + ys.length
     ·simp only [hk,and_self,if_true] at hb
      exact ⟨.inr ⟨_,hb⟩,fun e=>hT _ b hb (e ▸ hS)⟩
     ·simp only [hk,if_false] at hb
      exact ⟨.inl (hF k b hb).1,(hF k b hb).2⟩
    ·by_cases hk:o<=k/\k < o + ys.length <;> by_cases hk':o<=k'/\k' < o + ys.length
     ·simp only [hk,hk',and_self,if_true] at hb hb'
      have:=hTd _ _ b hb hb'
      omega
     ·simp only [hk,hk',and_self,if_true,if_false] at hb hb'
      exact absurd (hF k' b hb').1 (hT _ b hb)
     ·simp only [hk,hk',and_self,if_true,if_false] at hb hb'
      exact absurd (hF k b hb).1 (hT _ b hb')
     ·simp only [hk,hk',if_false] at hb hb'
      exact hd _ _ b hb hb'
   rwa [hxl] at key
  ·intro q v' nd hq hn
   cases q with
   | nil=>exact ⟨hn.1,by rw [hn.2]; simp [TV.nd,hxl]⟩
   | cons kj q =>
    obtain ⟨k1,j1⟩:=kj
    obtain ⟨o2,s2,xs2,a2,n2,cap2,e2,y2,u2,hx2,hu2,he2,hy2,hc2,hn2⟩:=hn
    cases hx2
    cases hu2
    have hel2:=hl e2 (D1 he2)
    have hj2:j1 < s:=by have:=(DS.1 hy2).1; omega
    have hk2:k1 < xs'.length:=by rw [hxl]; exact (DS.1 he2).1
    have hnot:=hq k1 j1 q rfl
    have hfg:=eF hl he2 hy2
    obtain ⟨e3,c3,g1,g2,g3⟩:=pQ hxa hk2 hj2
    rw [hxf,cg ho,if_neg hnot,hfg] at g3
    cases g3
    have hltu:k1 * s + j1 < us.length:=by rw [hus]; exact (DS.1 hfg).1
    have hug:=DT hltu
    have:u2=us[k1 * s + j1]:=by rw [row.cell hug] at hc2; exact (Option.some.inj hc2).symm
    subst this
    refine ⟨true,s,xs',a,_,cap,e3,y2,us[k1 * s + j1],rfl,rfl,g1,g2,hrow.cell ?_,?_⟩
    ·rw [cg hsl,if_neg (by omega)]; exact hug
    ·have hr2:=hr _ _ hfg
     rw [getD_some hug] at hr2
     exact Node.mv hr2 hI (fun b hb=>hoth b (hF _ b hb).2) hn2
def cut (s lo len:Nat):Value->Value
 | .slice (some a) n cap=>.slice (some (if cap=lo then a else a.add (lo * s))) len (cap - lo)
 | v=>v
def szOf:TV->Nat
 | .sl _ s _=>s
 | _=>0
theorem ak.win {lo len : Nat} (h : ak w I x v S) (hx : fX lo len x = some y) : ak w I y (cut (szOf x) lo len v) S := by
 unfold fX at hx
 split at hx
 ·rename_i o s xs
  split at hx
  ·rename_i hc
   simp only [DU] at hx
   subst hx
   have hlen:((xs.drop lo).take len).length=len:=by simp; omega
   have hall:∀ (hl:∀ x ∈ xs,x.length=s),∀ x ∈ (xs.drop lo).take len,x.length=s:=fun hl x hx=>hl x (List.mem_of_mem_drop (List.mem_of_mem_take hx))
   cases h with
   | fr h =>
    cases h with
    | @sl _ _ a cap cell hI hcap hm hl hcell h1 hr =>
     simp only [cut,szOf]
     by_cases h0:len=0
     ·subst h0
      have key:Rep w I (.sl false s ((xs.drop lo).take 0)) (.slice (some (if cap=lo then a else a.add (lo * s))) ((xs.drop lo).take 0).length (cap - lo)) :=
       .sl cell (by simp) (by simp) (by omega) (by simp) (by simp) (by simp) (by simp)
      rw [hlen] at key
      exact .fr key
     ·have hne:cap≠lo:=by omega
      rw [if_neg hne]
      have hlt:∀ k,k < len * s->lo * s + k < xs.length * s:=fun k hk=>by
       have:=Nat.mul_le_mul_right s hc
       rw [Nat.add_mul] at this
       omega
      have key:Rep w I (.sl false s ((xs.drop lo).take len)) (.slice (some (a.add (lo * s))) ((xs.drop lo).take len).length (cap - lo)):=by
       refine .sl (fun k=>cell (lo * s + k)) (fun _=>by rw [ej]; exact hI (by omega)) (by rw [hlen]; omega) (by omega) (hall hl) (fun k hk=>?_) (fun k hk=>?_) (fun i e hi j c hj=>?_)
       ·rw [hlen] at hk
        rw [dO]
        exact hcell _ (hlt k hk)
       ·rw [hlen] at hk
        exact h1 _ (hlt k hk)
       ·have hi':i < len:=by have:=(DS.1 hi).1; omega
        rw [List.getElem?_take_of_lt hi',List.getElem?_drop] at hi
        have:=hr (lo + i) e hi j c hj
        rw [Nat.add_mul,Nat.add_assoc] at this
        exact this
      rw [hlen] at key
      exact .fr key
   | @sl _ _ a cap S us vs ty F hS row hl hr hF hd =>
    simp only [cut,szOf]
    by_cases hcl:cap=lo
    ·have h0:len=0:=by have:=row.le; omega
     subst h0
     rw [if_pos hcl]
     have key:ak w I (.sl true s ((xs.drop lo).take 0)) (.slice (some a) ((xs.drop lo).take 0).length (cap - lo)) S:=by
      refine .sl [] vs ty (fun _ _=>False) hS ⟨row.heap,row.spot,by simp,by have:=row.max; omega,by have:=row.fit; rw [hcl]; simp; omega,by simp,by simp,by simp⟩ (by simp) (by simp) (fun _ _ h=>h.elim) (fun _ _ _ h=>h.elim)
     rw [hlen] at key
     exact key
    ·rw [if_neg hcl]
     have hfit:=row.fit
     have hsp:=row.spot
     have hle:=row.le
     have hax:a.add (lo * s)=⟨a.block,a.off + lo * s,none⟩:=uN a hsp _
     have hfl:((xs.drop lo).take len).flatten=(xs.flatten.drop (lo * s)).take (len * s):=by
      rw [nB _ (fun x hx=>hl x (List.mem_of_mem_drop hx)),oE _ hl]
     have hmul:lo * s + len * s<=xs.length * s:=by rw [<- Nat.add_mul]; exact Nat.mul_le_mul_right _ hc
     have key:ak w I (.sl true s ((xs.drop lo).take len)) (.slice (some (a.add (lo * s))) ((xs.drop lo).take len).length (cap - lo)) S:=by
      refine .sl ((us.drop (lo * s)).take (len * s)) vs ty (fun k=>F (lo * s + k)) (by rw [ej]; exact hS) ?_ (hall hl) (fun k c hk=>?_) (fun k b hb=>?_) (fun k k' b hb hb'=>?_)
      ·rw [hax,hlen]
       have hcm:(cap - lo) * s + lo * s=cap * s:=by rw [<- Nat.add_mul]; congr 1; omega
       refine ⟨row.heap,rfl,by omega,by have:=row.max; omega,?_,by simp [row.len]; omega,fun k hk=>?_,fun u hu=>row.one u (List.mem_of_mem_drop (List.mem_of_mem_take hu))⟩
       ·show a.off + lo * s + (cap - lo) * s<=vs.size
        omega
       ·show vs[a.off + lo * s + k]? = _
        rw [List.getElem?_take_of_lt hk,List.getElem?_drop,Nat.add_assoc]
        exact row.cells _ (by omega)
      ·rw [hfl] at hk
       have hk':k < len * s:=by
        have:=(DS.1 hk).1
        simp at this
        omega
       rw [List.getElem?_take_of_lt hk',List.getElem?_drop] at hk
       have:=hr _ c hk
       simp only [D7] at this ⊢
       rw [List.getElem?_take_of_lt hk',List.getElem?_drop]
       exact this
      ·rw [ej]; exact hF _ b hb
      ·have:=hd _ _ b hb hb'
       omega
     rw [hlen] at key
     exact key
  ·cases hx
 ·split at hx
  ·simp only [DU] at hx
   subst hx
   have:=a8 h
   subst this
   exact .fr (.lit _)
  ·cases hx
 ·cases hx
structure Src (w:World) (I:Nat->Prop) (s:Nat) (xs:List (List TV)) (v:Value) (us:List Value) (F:Nat->Nat->Prop):Prop where
 len:us.length=xs.length * s
 all:∀ x ∈ xs,x.length=s
 one:∀ u ∈ us,u.oneCell'=true
 form:∃ A c,v=.slice A xs.length c/\(A=none->xs=[])/\∀ ad,A=some ad->∀ (j:Nat) (u:Value),us[j]? = some u->w.cell? (ad.add j)=some u
 rep:∀ (k:Nat) (c:TV),xs.flatten[k]? = some c->ak w I c (us.getD k undef) (F k)
 apart:∀ k k' b,F k b->F k' b->k=k'
theorem Src.of {s:Nat} {xs:List (List TV)} (h:ak w I x v S) (hp:pelems s x=some xs):∃ us F,Src w I s xs v us F/\(∀ k b,F k b->S b)/\∀ k,xs=[]->k < us.length->False:=by
 unfold pelems at hp
 split at hp
 ·simp only [DU] at hp
  subst hp
  have:=a8 h
  subst this
  exact ⟨[],fun _ _=>False,⟨by simp,by simp,by simp,⟨none,_,rfl,fun _=>rfl,fun ad h=>by cases h⟩,by simp,fun _ _ _ h=>h.elim⟩,fun _ _ h=>h.elim,fun _ _ h=>by simp at h⟩
 ·rename_i o s' xs'
  split at hp
  ·rename_i hs
   subst hs
   simp only [DU] at hp
   subst hp
   cases h with
   | fr h =>
    cases h with
    | @sl _ _ a cap cell hI hcap hm hl hcell h1 hr =>
     have hg:∀ k,k < xs'.length * s'->((List.range (xs'.length * s')).map cell)[k]? = some (cell k):=fun k hk=>by simp [hk]
     refine ⟨(List.range (xs'.length * s')).map cell,fun _ _=>False,⟨by simp,hl,fun u hu=>?_,⟨some a,cap,rfl,by simp,fun ad he j u hu=>?_⟩,fun k c hc=>?_,fun _ _ _ h=>h.elim⟩,fun _ _ h=>h.elim,fun k h1 h2=>by subst h1; simp at h2⟩
     ·obtain ⟨k,hk,rfl⟩:=List.mem_map.1 hu
      exact h1 k (by simpa using hk)
     ·cases he
      have hj:j < xs'.length * s':=by have:=(DS.1 hu).1; simpa using this
      rw [hg j hj] at hu
      cases hu
      exact hcell j hj
     ·have hk:k < xs'.length * s':=by rw [<- bO hl]; exact (DS.1 hc).1
      simp only [D7,hg k hk,Option.getD_some]
      have hs0:0 < s':=by
       rcases Nat.eq_zero_or_pos s' with h0 | h0
       ·rw [h0] at hk; omega
       ·exact h0
      have hkd:k / s' < xs'.length:=Nat.div_lt_of_lt_mul (by rw [Nat.mul_comm]; exact hk)
      obtain ⟨e,c',g1,g2,g3⟩:=pQ hl hkd (Nat.mod_lt k hs0)
      rw [Nat.mul_comm,Nat.div_add_mod] at g3
      rw [hc] at g3
      cases g3
      have:=hr _ e g1 _ c g2
      rw [Nat.mul_comm,Nat.div_add_mod] at this
      exact .fr this
   | @sl _ _ a cap S us vs ty F hS row hl hr hF hd =>
    exact ⟨us,F,⟨row.len,hl,row.one,⟨some a,cap,rfl,by simp,fun ad he j u hu=>by cases he; exact row.cell hu⟩,hr,hd⟩,fun k b hb=>(hF k b hb).1,fun k h1 h2=>by subst h1; rw [row.len] at h2; simp at h2⟩
  ·cases hp
 ·cases hp
def Own (w:World) (s:Nat) (v:Value) (n:Nat) (us:List Value):Prop:=(v=af/\n=0/\us=[])\/∃ a cap vs ty,v=.slice (some a) n cap/\Row w a n cap s us vs ty
structure Grown (w w':World) (s:Nat) (v v':Value) (n:Nat) (us:List Value):Prop where
 form:(v'=v/\v=af/\n=0/\us=[]/\w'=w)\/∃ a cap vs ty,v'=.slice (some a) n cap/\Row w' a n cap s us vs ty/\((∃ a' n' c',v=.slice (some a') n' c'/\a'.block=a.block)\/a.block=w.heap.size)
 os:w'.os=w.os
 tape:w'.tape=w.tape
 output:w'.output=w.output
 size:w.heap.size<=w'.heap.size
 block:∀ k,k < w.heap.size->(∀ a n c,v=.slice (some a) n c->k≠a.block)->w'.heap[k]? = w.heap[k]?
 keep:n=0->v'=v
theorem xy (t ty e:TypeId) (i:TypeInfo) (z:Value) (ht:P.underlying t=some (.slice e)) (hi:P.info? e=some i) (hz:i.zero=some z) (hzs:z.cells.size=i.size)
  {n:Nat} {us:List Value} (hown:Own w i.size v n us) {A:Option Addr} {m c:Nat} {news:List Value} (hl:news.length=m * i.size) (hA:A=none->m=0) (hnews:∀ ad,A=some ad->∀ j u,news[j]? = some u->w.cell? (ad.add j)=some u)
  (h1:∀ u ∈ news,u.oneCell'=true) (h63:n + m<=maxLen) (hbytes:(n + m) * i.bytes<=140737488355328) :
  ∃ v' w',(Builtin.append_ #[t,t] ty #[v,.slice A m c]).run P w=.ok v' w'/\Grown w w' i.size v v' (n + m) (us ++ news):=by
 have hsmall:n + m<=9223372036854775807:=by simp only [maxLen] at h63; omega
 have hul:us.length=n * i.size:=by
  rcases hown with ⟨_,h0,h1⟩ | ⟨a,cap,vs,ty,_,hr⟩
  ·rw [h0,h1]; simp
  ·exact hr.len
 have hu1:∀ u ∈ us,u.oneCell'=true:=by
  rcases hown with ⟨_,h0,h1⟩ | ⟨a,cap,vs,ty,_,hr⟩
  ·rw [h1]; simp
  ·exact hr.one
 by_cases hm:m=0
 ·subst hm
  have hn:news=[]:=List.eq_nil_of_length_eq_zero (by simpa using hl)
  subst hn
  refine ⟨v,w,?_,?_⟩
  ·have hf:(Builtin.firstCells i.size 0 (.slice A 0 c)).run P w=.ok #[] w:=by
    cases A with
    | none=>exact run_firstCells_none w i.size 0 0 c
    | some ad=>exact run_firstCells_some (P:=P) w i.size 0 ad 0 c [] (by simp) (by simp)
   rcases hown with ⟨rfl,h0,h2⟩ | ⟨a,cap,vs,ty',rfl,hr⟩
   ·subst h0
    simp [af,Builtin.append_,run_underlying ht,sizeOf,typeInfo,hi,Builtin.lenOf,hf]
   ·simp [Builtin.append_,run_underlying ht,sizeOf,typeInfo,hi,Builtin.lenOf,hr.le,hf,storeCells]
  ·rw [Nat.add_zero,List.append_nil]
   refine ⟨?_,rfl,rfl,rfl,Nat.le_refl _,fun _ _ _=>rfl,fun _=>rfl⟩
   rcases hown with ⟨h2,h0,h3⟩ | ⟨a,cap,vs,ty',h2,hr⟩
   ·exact .inl ⟨rfl,h2,h0,h3,rfl⟩
   ·exact .inr ⟨a,cap,vs,ty',h2,hr,.inl ⟨a,n,cap,h2,rfl⟩⟩
 ·obtain ⟨ad,rfl⟩:∃ ad,A=some ad:=by
   cases A with
   | none=>exact absurd (hA rfl) hm
   | some ad=>exact ⟨ad,rfl⟩
  have hnews:=hnews ad rfl
  have hlen:(us ++ news).length=(n + m) * i.size:=by rw [List.length_append,hul,hl,Nat.add_mul]
  have grown:∀ (old:Nat),∃ arr,arr=us.toArray ++ news.toArray ++ Builtin.zeroCells z.cells (grownCap w (n + m) old e - (n + m)) /\
    Row (w.drew.alloc (.cells arr e)) ⟨w.heap.size,0,none⟩ (n + m) (grownCap w (n + m) old e) i.size (us ++ news) arr e:=by
   intro old
   have hge:=grownCap_ge w (n + m) old e
   have hcm:grownCap w (n + m) old e<=maxLen:=grownCap_le_maxLen w (n + m) old e h63
   refine ⟨_,rfl,heap_alloc_new w.drew _,rfl,hge,hcm,?_,hlen,fun k hk=>?_,fun u hu=>?_⟩
   ·simp only [Array.size_append,List.size_toArray,size_zeroCells,hzs,hul,hl,Nat.zero_add,<- Nat.add_mul]
    apply Nat.le_of_eq
    congr 1
    omega
   ·rw [Nat.zero_add,Array.getElem?_append_left (by simp [hul,hl,<- Nat.add_mul]; omega),List.append_toArray,List.getElem?_toArray]
   ·rcases List.mem_append.1 hu with h | h
    ·exact hu1 u h
    ·exact h1 u h
  have gl:∀ (arr:Array Value),(∀ k,k < w.heap.size->(w.drew.alloc (.cells arr e)).heap[k]? = w.heap[k]?):=fun arr k hk=>heap_alloc_old w.drew _ k hk
  rcases hown with ⟨rfl,h0,h2⟩ | ⟨a,cap,vs,ty',rfl,hr⟩
  ·subst h0 h2
   obtain ⟨arr,harr,hrow⟩:=grown 0
   have hrun:=run_append_nil (P:=P) w t ty e i z ht hi hz ad m c news hl hnews (by omega) (by omega) (by have hb:=hbytes; simp only [Nat.zero_add] at hb; omega)
   simp only [Nat.zero_add,List.nil_append,Array.empty_append] at harr hrow ⊢
   rw [<- harr] at hrun
   exact ⟨_,_,hrun,.inr ⟨_,_,arr,e,rfl,hrow,.inr rfl⟩,rfl,rfl,rfl,by simp,fun k hk _=>gl arr k hk,fun h=>absurd h (by omega)⟩
  ·by_cases hroom:n + m<=cap
   ·have hfit:a.off + n * i.size + news.length<=vs.size:=by
     have h3:=hr.fit
     have h4:(n + m) * i.size<=cap * i.size:=Nat.mul_le_mul_right _ hroom
     rw [Nat.add_mul] at h4
     omega
    have hf:=run_firstCells_some (P:=P) w i.size m ad m c news hl hnews
    have hst:=run_storeCells_at P a.block (a.off + n * i.size) ty' news 0 vs w hr.heap (by simpa using hfit) h1
    simp only [Nat.add_zero] at hst
    have hheap:=setRow_heap w a.block vs (vs.toList.take (a.off + n * i.size) ++ news ++ vs.toList.drop (a.off + n * i.size + news.length)).toArray ty' (0,0) hr.heap
    refine ⟨.slice (some a) (n + m) cap,w.setRow a.block (spl vs.toList (a.off + n * i.size) news).toArray,?_,.inr ⟨a,cap,(spl vs.toList (a.off + n * i.size) news).toArray,ty',rfl,?_,.inl ⟨a,n,cap,rfl,rfl⟩⟩,rfl,rfl,rfl,by simp,fun k _ hk=>setRow_other w a.block k _ (hk a n cap rfl),fun h=>absurd h (by omega)⟩
    ·simp only [spl]
     rw [<- uN a hr.spot] at hst
     simp [Builtin.append_,run_underlying ht,sizeOf,typeInfo,hi,Builtin.lenOf,hroom,hf,hst]
    ·have hfl:a.off + n * i.size + news.length<=vs.toList.length:=by simpa using hfit
     refine ⟨hheap,hr.spot,hroom,hr.max,by rw [List.size_toArray,gr hfl]; exact hr.fit,hlen,fun k hk=>?_,fun u hu=>?_⟩
     ·rw [List.getElem?_toArray,cg hfl]
      by_cases hk1:k < n * i.size
      ·rw [if_neg (by omega),DW,hr.cells k hk1,D3 (by omega)]
      ·rw [Nat.add_mul] at hk
       rw [if_pos (by omega),D4 (by omega)]
       congr 1
       omega
     ·rcases List.mem_append.1 hu with h | h
      ·exact hu1 u h
      ·exact h1 u h
   ·obtain ⟨arr,harr,hrow⟩:=grown cap
    have hrun:=run_append_grow (P:=P) w t ty e i z ht hi hz a n cap us hul (fun j u hu=>hr.cell hu) ad m c news hl hnews (by omega) (by omega) (growslice_fits (by omega) hbytes)
    rw [<- harr] at hrun
    exact ⟨_,_,hrun,.inr ⟨_,_,arr,e,rfl,hrow,.inr rfl⟩,rfl,rfl,rfl,by simp,fun k hk _=>gl arr k hk,fun h=>absurd h (by omega)⟩
end
end Go.Ab
end
section
namespace Go.Ab
open Go.RowKit
section
variable {P:Program} {w w':World} {I I':Nat->Prop} {x y:TV} {u v:Value} {S:Nat->Prop}
theorem ak.empty (h:ak w I x v S):(∀ b,¬ S b)->Rep w I x v:=by
 induction h with
 | fr h=>intro _; exact h
 | sl us vs ty F hS=>intro hn; exact absurd hS (hn _)
 | @buf s e v S h hS =>
  intro hn
  rcases h.2 with ⟨rfl,h0⟩ | ⟨g,cap,cur,fz,rfl,_⟩
  ·exact .buf e h0
  ·exact absurd (hS g rfl) (hn _)
 | @agg cs vs S F hl h1 hr hF hd ih=>intro hn; exact .agg hl h1 (fun j c hj=>ih j c hj (fun b hb=>hn b (hF j b hb)))
 | @tup cs vs S F hl hr hF hd ih=>intro hn; exact .tup hl (fun j c hj=>ih j c hj (fun b hb=>hn b (hF j b hb)))
theorem nd_frz (x:TV):(frz x).nd=x.nd:=by
 cases x <;> simp [frz,TV.nd,fM]
theorem Node.frz:∀ {q:Way} {x:TV} {u v:Value} {nd:Option (Nat × Nat)},Node w q x u v nd->Node w q (frz x) u v nd
 | [],x,u,v,nd,h=>⟨h.1,by rw [nd_frz]; exact h.2⟩
 | (k,j) :: q,x,u,v,nd,⟨o,s,xs,a,n,cap,e,y,u',hx,hu,he,hy,hc,h⟩=>by
  subst hx
  refine ⟨false,s,xs.map fun x=>x.map Ab.frz,a,n,cap,e.map Ab.frz,Ab.frz y,u',by simp [Ab.frz,fM],hu,by simp [he],by simp [hy],hc,Node.frz h⟩
theorem Node.cool {q:Way} {x:TV} {u v:Value} {nd:Option (Nat × Nat)} (h:Node w q x u v nd):Node w q (kf x) u v nd:=by
 cases x with
 | sl o s xs =>
  cases q with
  | nil =>
   refine ⟨h.1,?_⟩
   rw [h.2]
   simp [kf,TV.nd,fM]
  | cons kj q =>
   obtain ⟨k,j⟩:=kj
   obtain ⟨o',s',xs',a,n,cap,e,y,u',hx,hu,he,hy,hc,h⟩:=h
   cases hx
   exact ⟨o,s,xs.map fun x=>x.map Ab.frz,a,n,cap,e.map Ab.frz,Ab.frz y,u',by simp [kf,fM],hu,by simp [he],by simp [hy],hc,Node.frz h⟩
 | _=>exact h
theorem ak.cool (h:ak w I x v S):∃ S':Nat->Prop,(∀ b,S' b->S b)/\ak w (fun b=>I b\/(S b/\¬ S' b)) (kf x) v S':=by
 have same:kf x=x->∃ S':Nat->Prop,(∀ b,S' b->S b)/\ak w (fun b=>I b\/(S b/\¬ S' b)) (kf x) v S':=fun e=>by
  rw [e]
  exact ⟨S,fun _ h=>h,h.mv (fun _ _=>rfl) (fun _ h=>.inl h) (fun _ _=>rfl) (fun _ h=>h)⟩
 cases h with
 | fr h =>
  cases x with
  | sl o s xs =>
   refine ⟨fun _=>False,fun _ h=>h.elim,.fr ?_⟩
   cases o with
   | false =>
    have:=(h.mv (I':=fun b=>I b\/(S b/\¬ False)) (fun _ _=>rfl) (fun _ h=>.inl h)).frz
    simpa [Ab.frz,kf] using this
   | true=>exact absurd h (by intro h; cases h)
  | _=>exact ⟨S,fun _ h=>h,.fr (h.mv (fun _ _=>rfl) (fun _ h=>.inl h))⟩
 | @sl s xs a cap _ us vs ty F hS row hl hr hF hd =>
  refine ⟨fun b=>b=a.block,fun b hb=>hb ▸ hS,?_⟩
  have e:kf (.sl true s xs)=.sl true s (xs.map fun x=>x.map Ab.frz):=by simp [kf,fM]
  rw [e]
  have hlen:(xs.map fun x=>x.map Ab.frz).length=xs.length:=by simp
  have hfl:(xs.map fun x=>x.map Ab.frz).flatten=xs.flatten.map Ab.frz:=by rw [List.map_flatten]
  have key:=ak.sl (w:=w) (I:=fun b=>I b\/(S b/\¬ b=a.block)) (size:=s) (xs:=xs.map fun x=>x.map Ab.frz) (a:=a) (cap:=cap) (S:=fun b=>b=a.block) us vs ty (fun _ _=>False) rfl (by rw [hlen]; exact row)
   (fun x hx => by
    obtain ⟨y,hy,rfl⟩:=List.mem_map.1 hx
    rw [List.length_map]
    exact hl y hy)
   (fun k c hc => by
    rw [hfl,DY] at hc
    cases hk:xs.flatten[k]? with
    | none=>rw [hk] at hc; cases hc
    | some c' =>
     rw [hk] at hc
     cases hc
     exact .fr ((hr k c' hk).frz (fun _ h=>.inl h) (fun b hb=>.inr (hF k b hb))))
   (fun k b h=>h.elim) (fun k k' b h=>h.elim)
  rw [hlen] at key
  exact key
 | agg F hl h1 hr hF hd=>exact same rfl
 | buf h hS=>exact same rfl
 | tup F hl hr hF hd=>exact same rfl
theorem ak.app {s:Nat} {news:List (List TV)} (h:ak w I x v S) (hp:papp s x news=some y):∃ n us,Own w s v n us/\n + news.length<=room/\slLen y=some (n + news.length)/\(∀ a m c,v=.slice (some a) m c->S a.block)/\(∃ a c,v=.slice a n c) /\
  ∀ (w':World) (v':Value) (us2:List Value) (T:Nat->Nat->Prop),us2.length=news.length * s->(∀ x ∈ news,x.length=s)->(∀ (k:Nat) (c:TV),news.flatten[k]? = some c->ak w I c (us2.getD k undef) (T k)) ->
   (∀ k k' b,T k b->T k' b->k=k')->(∀ b,I b->b < w.heap.size)->(∀ b,S b->b < w.heap.size/\¬ I b)->(∀ k b,T k b->b < w.heap.size/\¬ S b)->Grown w w' s v v' (n + news.length) (us ++ us2) ->
   ak w' I y v' (fun b=>S b\/(b=w.heap.size/\b < w'.heap.size)\/∃ k,T k b)/\(∃ a c,v'=.slice a (n + news.length) c):=by
 have core:∀ (xs:List (List TV)) (us:List Value) (F:Nat->Nat->Prop),(∀ x ∈ xs,x.length=s)->us.length=xs.length * s->(∀ (k:Nat) (c:TV),xs.flatten[k]? = some c->ak w I c (us.getD k undef) (F k)) ->
   (∀ k b,F k b->S b/\∀ a m c,v=.slice (some a) m c->b≠a.block)->(∀ k k' b,F k b->F k' b->k=k') ->
   ∀ (w':World) (a:Addr) (cap:Nat) (vs:Array Value) (ty:TypeId) (us2:List Value) (T:Nat->Nat->Prop),us2.length=news.length * s->(∀ x ∈ news,x.length=s)->(∀ (k:Nat) (c:TV),news.flatten[k]? = some c->ak w I c (us2.getD k undef) (T k)) ->
   (∀ k k' b,T k b->T k' b->k=k')->(∀ b,I b->b < w.heap.size)->(∀ b,S b->b < w.heap.size/\¬ I b)->(∀ k b,T k b->b < w.heap.size/\¬ S b)->(∀ a m c,v=.slice (some a) m c->S a.block) ->
   Row w' a (xs.length + news.length) cap s (us ++ us2) vs ty->((∃ a' n' c',v=.slice (some a') n' c'/\a'.block=a.block)\/a.block=w.heap.size) ->
   (∀ k,k < w.heap.size->(∀ a n c,v=.slice (some a) n c->k≠a.block)->w'.heap[k]? = w.heap[k]?) ->
   ak w' I (.sl true s (xs ++ news)) (.slice (some a) (xs.length + news.length) cap) (fun b=>S b\/(b=w.heap.size/\b < w'.heap.size)\/∃ k,T k b):=by
  intro xs us F hl hul hr hF hd w' a cap vs ty us2 T hul2 hl2 hr2 hd2 hI hS hT hva hrow hab hblk
  have hfl:=bO hl
  have hfl2:=bO hl2
  have keep:∀ b,b < w.heap.size->(∀ a m c,v=.slice (some a) m c->b≠a.block)->w'.heap[b]? = w.heap[b]? := hblk
  have hIk:∀ b,I b->w'.heap[b]? = w.heap[b]? := fun b hb=>keep b (hI b hb) (fun a m c hv e=>(hS _ (hva a m c hv)).2 (e ▸ hb))
  have hablk:S a.block\/a.block=w.heap.size:=by
   rcases hab with ⟨a',n',c',h1,h2⟩ | h1
   ·exact .inl (h2 ▸ hva a' n' c' h1)
   ·exact .inr h1
  have hTa:∀ k b,T k b->b≠a.block:=fun k b hb e=>by
   rcases hablk with h1 | h1
   ·exact (hT k b hb).2 (e ▸ h1)
   ·have:=(hT k b hb).1; omega
  have hFa:∀ k b,F k b->b≠a.block:=fun k b hb e=>by
   rcases hab with ⟨a',n',c',h1,h2⟩ | h1
   ·exact (hF k b hb).2 a' n' c' h1 (e.trans h2.symm)
   ·have:=(hS b (hF k b hb).1).1; omega
  have key:ak w' I (.sl true s (xs ++ news)) (.slice (some a) (xs ++ news).length cap) (fun b=>S b\/(b=w.heap.size/\b < w'.heap.size)\/∃ k,T k b):=by
   refine .sl (us ++ us2) vs ty (fun k b=>if k < xs.length * s then F k b else T (k - xs.length * s) b) ?_ (by rw [List.length_append]; exact hrow) (fun x hx=>?_) (fun k c hc=>?_) (fun k b hb=>?_) (fun k k' b hb hb'=>?_)
   ·rcases hablk with h1 | h1
    ·exact .inl h1
    ·exact .inr (.inl ⟨h1,(DX.1 hrow.heap).1⟩)
   ·rcases List.mem_append.1 hx with h1 | h1
    ·exact hl x h1
    ·exact hl2 x h1
   ·rw [List.flatten_append] at hc
    by_cases hk:k < xs.length * s
    ·simp only [hk,if_true]
     rw [D3 (by omega)] at hc
     have:=hr k c hc
     rw [D7,D3 (by omega),<- D7]
     exact this.mv hIk (fun _ h=>h) (fun b hb=>keep b (hS b (hF k b hb).1).1 (hF k b hb).2) (fun _ h=>h)
    ·simp only [hk,if_false]
     rw [D4 (by omega),hfl] at hc
     have:=hr2 _ c hc
     rw [D7,D4 (by omega),hul,<- D7]
     exact this.mv hIk (fun _ h=>h) (fun b hb=>keep b (hT _ b hb).1 (fun a' m c' hv e=>(hT _ b hb).2 (e ▸ hva a' m c' hv))) (fun _ h=>h)
   ·by_cases hk:k < xs.length * s
    ·simp only [hk,if_true] at hb
     exact ⟨.inl (hF k b hb).1,hFa k b hb⟩
    ·simp only [hk,if_false] at hb
     exact ⟨.inr (.inr ⟨_,hb⟩),hTa _ b hb⟩
   ·by_cases hk:k < xs.length * s <;> by_cases hk':k' < xs.length * s
    ·simp only [hk,hk',if_true] at hb hb'
     exact hd _ _ b hb hb'
    ·simp only [hk,hk',if_true,if_false] at hb hb'
     exact absurd (hF k b hb).1 (hT _ b hb').2
    ·simp only [hk,hk',if_true,if_false] at hb hb'
     exact absurd (hF k' b hb').1 (hT _ b hb).2
    ·simp only [hk,hk',if_false] at hb hb'
     have:=hd2 _ _ b hb hb'
     omega
  rwa [List.length_append] at key
 unfold papp at hp
 split at hp
 ·split at hp
  ·rename_i hroom
   simp only [DU] at hp
   subst hp
   have:=a8 h
   subst this
   refine ⟨0,[],.inl ⟨rfl,rfl,rfl⟩,by omega,?_,fun a m c hv=>(by cases hv),⟨none,0,rfl⟩,?_⟩
   ·cases news <;> simp [CY,slLen,af]
   intro w' v' us2 T hul2 hl2 hr2 hd2 hI hS hT hg
   rcases hg.form with ⟨e1,e2,e3,e4,e5⟩ | ⟨a,cap,vs,ty,e1,hrow,hab⟩
   ·have:news=[]:=List.eq_nil_of_length_eq_zero (by omega)
    subst this
    subst e1
    exact ⟨.fr (.lit _),none,0,rfl⟩
   ·subst e1
    have hab':a.block=w.heap.size:=by
     rcases hab with ⟨a',n',c',h1,h2⟩ | h1
     ·cases h1
     ·exact h1
    have r:=core [] [] (fun _ _=>False) (by simp) (by simp) (by simp) (fun _ _ h=>h.elim) (fun _ _ _ h=>h.elim) w' a cap vs ty us2 T hul2 hl2 hr2 hd2 hI hS hT (fun a m c hv=>by cases hv) (by simpa using hrow) (.inr hab') hg.block
    simp only [List.length_nil,Nat.zero_add,List.nil_append] at r ⊢
    refine ⟨?_,_,_,rfl⟩
    cases hn:news with
    | nil=>subst hn; have:=hg.keep rfl; cases this
    | cons z l=>rw [hn] at r; simpa [CY] using r
  ·cases hp
 ·rename_i s' xs
  split at hp
  ·rename_i hc
   obtain ⟨rfl,hroom⟩:=hc
   simp only [DU] at hp
   subst hp
   cases h with
   | fr h=>cases h
   | @sl _ _ a cap S us vs ty F hS row hl hr hF hd =>
    refine ⟨xs.length,us,.inr ⟨a,cap,vs,ty,rfl,row⟩,hroom,by simp [slLen],fun a' m c hv=>by cases hv; exact hS,⟨_,_,rfl⟩,?_⟩
    intro w' v' us2 T hul2 hl2 hr2 hd2 hI hS' hT hg
    rcases hg.form with ⟨e1,e2,e3,e4,e5⟩ | ⟨a2,cap2,vs2,ty2,e1,hrow2,hab⟩
    ·cases e2
    ·subst e1
     exact ⟨core xs us F hl row.len hr (fun k b hb=>⟨(hF k b hb).1,fun a' m c hv=>by cases hv; exact (hF k b hb).2⟩) hd w' a2 cap2 vs2 ty2 us2 T hul2 hl2 hr2 hd2 hI hS' hT (fun a' m c hv=>by cases hv; exact hS) hrow2 hab hg.block,_,_,rfl⟩
  ·cases hp
 ·cases hp
end
end Go.Ab
end

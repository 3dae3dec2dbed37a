import Derived.Test.YthfcodidfelpoaaAM11
set_option linter.all false
namespace Go.Ab
open Go.RowKit
section
variable {P:Program} {E:Env} {C:Cal} {w0:Bs} {w w':World} {I0 I R:Nat->Prop} {g g':Gh} {st st':ASt} {a:Act} {ov:List Value} {look:Look} {Q:Exit->Act->World->Prop} {id:Nat}
variable {dst:Option Tmp} {type:TypeId} {pos:String} {after:Array Edge} {guard:Option (Nat × Bool)}
def Da (P:Program) (G:Laid) (f:FuncId) (args:List TV) (r:TV):Prop :=
 ∀ (I : Nat → Prop) (w : World) (vals : Array Value), G.P w I → (∀ b, I b → b < w.heap.size) → vals.size = args.length → (∀ (j : Nat) (x : TV), args[j]? = some x → Rep w I x (vals.getD j undef)) →
  (callFunc f vals).run P w=.ok (.enter f vals) w /\
  Calls P f vals w fun e w'=>∃ v,e=.returned v/\Below w.heap.size w w'/\∃ I' S:Nat->Prop,(∀ b,I b->I' b)/\(∀ b,I' b->b < w'.heap.size)/\(∀ b,b < w.heap.size->I' b->I b) /\
   (∀ b,S b->w.heap.size<=b/\b < w'.heap.size/\¬ I' b)/\al w' I' r v S
def Ay (P:Program) (G:Laid) (f:FuncId) (xs:List TV) (r:TV):Prop :=
 ∃ asz cs, xs = asz ++ [.agg cs] ∧ ∀ (I : Nat → Prop) (w : World) (b : Nat) (vs : Array Value) (ty : TypeId) (vals : Array Value), G.P w I → (∀ b, I b → b < w.heap.size) → w.heap[b]? = some (.cells vs ty (0, 0)) → (∀ u ∈ vs.toList, u.oneCell' = true) →
  ¬ I b->vs.size=cs.length->b < w.heap.size->(∀ (j:Nat) (c:TV),cs[j]? = some c->Rep w I c (vs.getD j undef))->vals.size=xs.length->vals.getD asz.length undef=.pointer (some ⟨b,0,none⟩)->(∀ (j:Nat) (x:TV),asz[j]? = some x->Rep w I x (vals.getD j undef)) ->
  (callFunc f vals).run P w=.ok (.enter f vals) w /\
  Calls P f vals w fun e w'=>∃ v,e=.returned v/\Below w.heap.size w w'/\∃ I' S:Nat->Prop,(∀ b,I b->I' b)/\(∀ b,I' b->b < w'.heap.size)/\(∀ b,b < w.heap.size->I' b->I b) /\
   (∀ b,S b->w.heap.size<=b/\b < w'.heap.size/\¬ I' b)/\al w' I' r v S
def Aq (P : Program) (G : Laid) (f : FuncId) (xs : List TV) (r : TV) : Prop :=
  ∃ z asz,xs=z :: asz /\
  ((z = .lit aF ∧ r = .lit aF ∧ ∀ (I : Nat → Prop) (w : World) (vals : Array Value), vals.size = xs.length → vals.getD 0 undef = aF → (∀ (j : Nat) (x : TV), asz[j]? = some x → Rep w I x (vals.getD (j + 1) undef)) →
      (callFunc f vals).run P w=.ok (.enter f vals) w/\Calls P f vals w fun e w'=>e=.returned (.tuple #[])/\Below w.heap.size w w') \/
   ∃ rows rows', z = .sl true 1 rows ∧ r = .sl true 1 rows' ∧ rows'.length = rows.length ∧
    ∀ (I : Nat → Prop) (w : World) (a : Addr) (cap : Nat) (us : List Value) (vs : Array Value) (ty : TypeId) (F : Nat → Nat → Prop) (vals : Array Value), G.P w I → (∀ b, I b → b < w.heap.size) → w.heap[a.block]? = some (.cells vs ty (0, 0)) → a.spot = none → ¬ I a.block →
      a.off + rows.length<=vs.size->us.length=rows.length->(∀ k,k < rows.length->vs[a.off + k]? = us[k]?)->(∀ u ∈ us,u.oneCell'=true)->(∀ x ∈ rows,x.length=1) ->
      (∀ (k:Nat) (x:List TV) (c:TV),rows[k]? = some x->x[0]? = some c->al w I c (us.getD k undef) (F k))->(∀ k b,F k b->b≠a.block/\b < w.heap.size/\¬ I b) ->
      vals.size=xs.length->vals.getD 0 undef=.slice (some a) rows.length cap->(∀ (j:Nat) (x:TV),asz[j]? = some x->Rep w I x (vals.getD (j + 1) undef)) ->
      (callFunc f vals).run P w=.ok (.enter f vals) w/\Calls P f vals w fun e w'=>e=.returned (.tuple #[])/\w'.os=w.os/\w'.tape=w.tape/\w'.output=w.output/\w.heap.size<=w'.heap.size /\
        (∀ b,b < w.heap.size->b≠a.block->w'.heap[b]? = w.heap[b]?)/\∃ (us':List Value) (σ:Nat->Nat),us'.length=us.length/\w'.heap[a.block]? = some (.cells (spl vs.toList a.off us').toArray ty (0,0)) /\
          (∀ k,k < rows.length->σ k < rows.length/\us'[k]? = us[σ k]? /\ rows'[k]? = rows[σ k]?)/\∀ k k',k < rows.length->k' < rows.length->σ k=σ k'->k=k')
theorem al.turned {I:Nat->Prop} {S:Nat->Prop} {v:Value} {xs:List (List TV)} (h:al w I (.sl true 1 xs) v S) (hnI:∀ b,S b->¬ I b) (hSl:∀ b,S b->b < w.heap.size) (hIl:∀ b,I b->b < w.heap.size) :
  ∃ (a : Addr) (cap : Nat) (vs : Array Value) (ty : TypeId) (us : List Value) (F : Nat → Nat → Prop), v = .slice (some a) xs.length cap ∧ S a.block ∧ Row w a xs.length cap 1 us vs ty ∧ (∀ x ∈ xs, x.length = 1) ∧
   (∀ (k:Nat) (x:List TV) (c:TV),xs[k]? = some x->x[0]? = some c->al w I c (us.getD k undef) (F k))/\(∀ k b,F k b->S b/\b≠a.block) /\
   ∀ (lo n:Nat) (σ:Nat->Nat) (us':List Value) (w':World) (ws:List (List TV)),lo + n<=xs.length->(∀ k,k < n->σ k < n/\us'[k]? = us[lo + σ k]? /\ ws[k]? = xs[lo + σ k]?)->(∀ k k',k < n->k' < n->σ k=σ k'->k=k')->us'.length=n->ws.length=n ->
    w'.heap[a.block]? = some (.cells (spl vs.toList (a.off + lo) us').toArray ty (0,0))->(∀ b,b < w.heap.size->b≠a.block->w'.heap[b]? = w.heap[b]?) ->
    al w' I (.sl true 1 (xs.take lo ++ (ws ++ xs.drop (lo + n)))) v S:=by
 cases h with
 | fr h=>cases h
 | @sl _ _ a cap S us vs ty F hS row hl hr hF hd =>
  refine ⟨a,cap,vs,ty,us,F,rfl,hS,row,hl,fun k x c hx hc=>?_,hF,?_⟩
  ·have:=cY hl hx hc
   rw [Nat.mul_one,Nat.add_zero] at this
   exact hr k c this
  intro lo n σ us' w' ws hle hσ hinj hul hwl hheap hoth
  have hrl:=row.len
  rw [Nat.mul_one] at hrl
  have hcap:=row.le
  have hf:=row.fit
  rw [Nat.mul_one] at hf
  have hfit:a.off + lo + us'.length<=vs.toList.length:=by simp only [Array.length_toList]; omega
  have hsl:lo + us'.length<=us.length:=by omega
  have hxl:(xs.take lo ++ (ws ++ xs.drop (lo + n))).length=xs.length:=by simp; omega
  have hxg:∀ k,(xs.take lo ++ (ws ++ xs.drop (lo + n)))[k]? = if lo<=k/\k < lo + n then ws[k - lo]? else xs[k]? := fun k=>by
   have:=bH (l:=xs) (ys:=ws) (o:=lo) (by omega) k
   rw [hwl] at this
   rw [<- this]
   simp only [spl,hwl,List.append_assoc]
  have hone:∀ u ∈ us',u.oneCell'=true:=fun u hu=>by
   obtain ⟨m,hm⟩:=List.mem_iff_getElem?.1 hu
   have hmn:m < n:=by rw [<- hul]; exact (FE.1 hm).1
   rw [(hσ m hmn).2.1] at hm
   exact row.one u (FN hm)
  have hrow:Row w' a xs.length cap 1 (spl us lo us') (spl vs.toList (a.off + lo) us').toArray ty:=by
   refine ⟨hheap,row.spot,row.le,row.max,by rw [List.size_toArray,fg hfit]; exact row.fit,by rw [fg hsl]; exact row.len,fun k hk=>?_,fun u hu=>?_⟩
   ·rw [List.getElem?_toArray,bH hfit,bH hsl]
    by_cases hc:lo<=k/\k < lo + us'.length
    ·rw [if_pos hc,if_pos (by omega)]
     congr 1
     omega
    ·rw [if_neg hc,if_neg (by omega),FI]
     exact row.cells k hk
   ·obtain ⟨m,hm⟩:=List.mem_iff_getElem?.1 hu
    rw [bH hsl] at hm
    split at hm
    ·exact hone u (FN hm)
    ·exact row.one u (FN hm)
  have hwall:∀ x ∈ xs.take lo ++ (ws ++ xs.drop (lo + n)),x.length=1:=fun x hx=>by
   obtain ⟨m,hm⟩:=List.mem_iff_getElem?.1 hx
   rw [hxg] at hm
   split at hm
   ·rename_i hc
    rw [(hσ (m - lo) (by omega)).2.2] at hm
    exact hl x (FN hm)
   ·exact hl x (FN hm)
  have hI:∀ b,I b->w'.heap[b]? = w.heap[b]? := fun b hb=>hoth b (hIl b hb) (fun e=>hnI _ hS (e ▸ hb))
  have key:al w' I (.sl true 1 (xs.take lo ++ (ws ++ xs.drop (lo + n)))) (.slice (some a) (xs.take lo ++ (ws ++ xs.drop (lo + n))).length cap) S:=by
   refine .sl (spl us lo us') _ ty (fun k b=>if lo<=k/\k < lo + n then F (lo + σ (k - lo)) b else F k b) hS (by rw [hxl]; exact hrow) hwall (fun k c hc=>?_) (fun k b hb=>?_) (fun k k' b hb hb'=>?_)
   ·have hk0:k < (xs.take lo ++ (ws ++ xs.drop (lo + n))).flatten.length:=(FE.1 hc).1
    rw [bU hwall,Nat.mul_one] at hk0
    obtain ⟨e,c',h1,h2,h3⟩:=nZ hwall hk0 (j:=0) (by decide)
    rw [Nat.mul_one,Nat.add_zero,hc] at h3
    cases h3
    rw [hxg] at h1
    have hg:(spl us lo us').getD k undef=if lo<=k/\k < lo + n then us'.getD (k - lo) undef else us.getD k undef:=by
     simp only [FS,bH hsl,hul]
     split <;> rfl
    rw [hg]
    by_cases hk:lo<=k/\k < lo + n
    ·rw [if_pos hk] at h1 ⊢
     simp only [hk,and_self,if_true]
     obtain ⟨s1,s2,s3⟩:=hσ (k - lo) (by omega)
     rw [s3] at h1
     have:=cY hl h1 h2
     rw [Nat.mul_one,Nat.add_zero] at this
     have e1:us'.getD (k - lo) undef=us.getD (lo + σ (k - lo)) undef:=by simp only [FS,s2]
     rw [e1]
     exact (hr _ c this).mv hI (fun _ h=>h) (fun b hb=>hoth b (hSl b (hF _ b hb).1) (hF _ b hb).2) (fun _ h=>h)
    ·rw [if_neg hk] at h1 ⊢
     simp only [hk,if_false]
     have:=cY hl h1 h2
     rw [Nat.mul_one,Nat.add_zero] at this
     exact (hr k c this).mv hI (fun _ h=>h) (fun b hb=>hoth b (hSl b (hF k b hb).1) (hF k b hb).2) (fun _ h=>h)
   ·by_cases hk:lo<=k/\k < lo + n
    ·simp only [hk,and_self,if_true] at hb
     exact hF _ b hb
    ·simp only [hk,if_false] at hb
     exact hF k b hb
   ·by_cases hk:lo<=k/\k < lo + n <;> by_cases hk':lo<=k'/\k' < lo + n
    ·simp only [hk,hk',and_self,if_true] at hb hb'
     have h1:=hd _ _ b hb hb'
     have:=hinj (k - lo) (k' - lo) (by omega) (by omega) (by omega)
     omega
    ·simp only [hk,hk',and_self,if_true,if_false] at hb hb'
     have h1:=hd _ _ b hb hb'
     have:=(hσ (k - lo) (by omega)).1
     omega
    ·simp only [hk,hk',and_self,if_true,if_false] at hb hb'
     have h1:=hd _ _ b hb hb'
     have:=(hσ (k' - lo) (by omega)).1
     omega
    ·simp only [hk,hk',if_false] at hb hb'
     exact hd _ _ b hb hb'
  rwa [hxl] at key
def D8 (w:World) (I:Nat->Prop) (b:Nat) (c:TV) (v:Value) (F:Nat->Prop):Prop :=
 (c.eV=true/\(v=.pointer none\/v=.pointer (some ⟨b,0,none⟩)))\/(c.eV=false/\al w I c v F)
def Fs (P:Program) (G:Laid) (c:Nat × Nat) (f:FuncId) (xs:List TV) (r:TV):Prop :=
 ∃ x args,xs=x :: args/\∀ (I:Nat->Prop) (w:World) (b:Nat) (vs:Array Value) (ty:TypeId) (vals:Array Value),G.P w I->(∀ b,I b->b < w.heap.size)->w.heap[b]? = some (.cells vs ty (0,0))->(∀ u ∈ vs.toList,u.oneCell'=true) ->
  ¬ I b->vs.size=c.2->c.1 < c.2->b < w.heap.size->Rep w I x (vs.getD c.1 undef)->vals.size=xs.length->vals.getD 0 undef=.pointer (some ⟨b,0,none⟩)->(∀ (j:Nat) (y:TV),args[j]? = some y->Rep w I y (vals.getD (j + 1) undef)) ->
  (callFunc f vals).run P w=.ok (.enter f vals) w/\Calls P f vals w fun e w'=>∃ v,e=.returned v/\Below w.heap.size w w'/\∃ I':Nat->Prop,(∀ b,I b->I' b)/\(∀ b,I' b->b < w'.heap.size)/\(∀ b,b < w.heap.size->I' b->I b)/\Rep w' I' r v
def Bx (w:World) (I:Nat->Prop) (ld:fI) (b:Nat) (cs:List TV) (S:Nat->Prop):Prop :=
 S b/\∃ (vs:Array Value) (ty:TypeId) (F:Nat->Nat->Prop),w.heap[b]? = some (.cells vs ty (0,0))/\vs.size=cs.length /\
  (∀ (k:Nat) (c:TV),cs[k]? = some c->D8 w I b c (vs.getD k undef) (F k)/\(vs.getD k undef).oneCell'=true/\(c.eV=true->ty=ld.ty)) /\
  (∀ k b',F k b'->S b'/\b'≠b)/\∀ k k' b',F k b'->F k' b'->k=k'
def Ff (P:Program) (G:Laid) (ld:fI) (f:FuncId) (xs:List TV) (r:TV):Prop :=
 ∃ cs args r0 cs',xs=.tup cs :: args/\r=.tup [r0,.tup cs'] /\
 ∀ (I : Nat → Prop) (w : World) (b : Nat) (vals : Array Value) (L : Nat → Prop), G.P w I → (∀ b, I b → b < w.heap.size) → (∀ b, L b → b < w.heap.size ∧ ¬ I b) → Bx w I ld b cs L →
  vals.size=xs.length->vals.getD 0 undef=.pointer (some ⟨b,0,none⟩)->(∀ (j:Nat) (x:TV),args[j]? = some x->Rep w I x (vals.getD (j + 1) undef)) ->
  (callFunc f vals).run P w=.ok (.enter f vals) w /\
  Calls P f vals w fun e w'=>∃ v,e=.returned v/\(Bs.of w L G).Bel w'/\∃ I' L' S:Nat->Prop,(∀ b,I b->I' b)/\(∀ b,I' b->b < w'.heap.size)/\(∀ b,¬ (Bs.of w L G).New b->I' b->I b) /\
   (∀ b,L' b->(Bs.of w L G).New b/\b < w'.heap.size/\¬ I' b)/\al w' I' r0 v S/\Bx w' I' ld b cs' L'
theorem jz {i:Nat}:∀ {cs:List CA},(∀ c ∈ cs,c=.junk)->mapC (CA.unM i) cs=cs
 | [],_=>rfl
 | c :: cs,h=>by
  have h0:=h c FL
  subst h0
  simp only [mapC,CA.unM,jz (i:=i) (cs:=cs) (fun c hc=>h c (FM _ hc))]
theorem ai.Fa (hs:ai w0 I0 R g st a ov w) {i:Nat} {cs:List CA} (hl:st.look i=some (.cells cs)) (hj:∀ c ∈ cs,c=.junk) {L:Nat->Prop} {G:Laid} (hL:∀ b,L b->b=g.β i\/R b) (hb:(Bs.of w L G).Bel w') {vs:Array Value} {ty:TypeId}
  (hh:w'.heap[g.β i]? = some (.cells vs ty (0,0))) (hn:vs.size=cs.length) (hone:∀ u ∈ vs.toList,u.oneCell'=true) {I' R':Nat->Prop} (hI:∀ b,g.I b->I' b) (hlt:∀ b,I' b->b < w'.heap.size)
  (hold:∀ b,¬ (Bs.of w L G).New b->I' b->g.I b) (hβ:¬ I' (g.β i)) (hR:∀ b,R' b->(R b\/w.heap.size<=b)/\b < w'.heap.size/\¬ I' b/\b≠g.β i):ai w0 I0 R' ⟨I',g.ρ,g.β,g.φ,g.O⟩ (st.au (CA.unM i)) a ov w':=by
 have hfi:Foot g st.look i (g.β i):=.inl ⟨cs,hl,rfl⟩
 have hnL:∀ j b,Foot g st.look j b->j≠i->¬ L b:=fun j b hf hne hlb=>by
  rcases hL b hlb with e | e
  ·subst e; exact hne (hs.apart j i _ hf hfi)
  ·exact (hs.foot j b hf).2.2.2 e
 have hft:∀ j b,Foot g st.look j b->j≠i->w'.heap[b]? = w.heap[b]? := fun j b h hne=>hb.block b (hs.foot j b h).2.1 (hnL j b h hne)
 have hIk:∀ b,g.I b->w'.heap[b]? = w.heap[b]? := fun b h=>hb.block b (hs.lt b h) (fun hlb=>by
  rcases hL b hlb with e | e
  ·subst e; exact (hs.foot i _ hfi).2.2.1 h
  ·exact (hs.res b e).2.2 h)
 have hLN:∀ b,L b->w0.New b:=fun b hlb=>by
  rcases hL b hlb with e | e
  ·subst e; exact (hs.foot i _ hfi).1
  ·exact (hs.res b e).1
 have hci:∀ j cs',st.look j=some (.tree cs')->j≠i:=fun j cs' h e=>by subst e; rw [hl] at h; cases h
 have lkc:∀ j c,st.look j=some (.cells c)->(st.au (CA.unM i)).look j=some (.cells (mapC (CA.unM i) c)):=fun j c h=>by rw [aI,h]; rfl
 have lkt:∀ j xs,st.look j=some (.tree xs)->(st.au (CA.unM i)).look j=some (.tree xs):=fun j c h=>by rw [aI,h]; rfl
 have inv:∀ j b,(st.au (CA.unM i)).look j=some b->∃ b0,st.look j=some b0/\b=b0.bq (CA.unM i):=fun j b h=>by
  rw [aI] at h
  cases h0:st.look j with
  | none=>simp [h0] at h
  | some b0=>simp only [h0,FR,FG] at h; exact ⟨b0,rfl,h.symm⟩
 have invT:∀ j xs,(st.au (CA.unM i)).look j=some (.tree xs)->st.look j=some (.tree xs):=fun j xs h=>by
  obtain ⟨b0,h1,h2⟩:=inv j _ h
  cases b0 <;> simp [BC.bq] at h2
  subst h2
  exact h1
 have nm:∀ j r p xs x v nd,st.look j=some (.tree xs)->xs[r]? = some x->Node w p x (g.ρ j r) v nd->Node w' p x (g.ρ j r) v nd:=fun j r p xs x v nd hl' hx hnd =>
  Node.mv (hs.trees j xs hl' r x hx) hIk (fun b h=>hft j b (.inr ⟨xs,r,hl',(FE.1 hx).1,h⟩) (hci j xs hl')) hnd
 have hf:∀ c v,bE w g st.look c v->bE w' ⟨I',g.ρ,g.β,g.φ,g.O⟩ (st.au (CA.unM i)).look (c.unM i) v:=by
  intro c v h
  cases c with
  | t x=>exact ⟨h.1.mv hIk hI,h.2⟩
  | ptr j off=>obtain ⟨c',h1,h2⟩:=h; exact ⟨_,lkc j c' h1,h2⟩
  | ref x off =>
   obtain ⟨ad,cell,h1,h3⟩:=h
   exact ⟨ad,cell,h1,fun k c hk=>⟨lM.mv (g':=⟨I',g.ρ,g.β,g.φ,g.O⟩) hIk hI rfl (h3 k c hk).1,(h3 k c hk).2.1,(h3 k c hk).2.2.mv hIk hI⟩⟩
  | tptr j r p k q=>obtain ⟨xs,x,ad,l,cap,s,n,h1,h2,h3,h4,h5⟩:=h; exact ⟨xs,x,ad,l,cap,s,n,lkt j xs h1,h2,nm j r p xs x _ _ h1 h2 h3,h4,h5⟩
  | sref j r p=>obtain ⟨xs,x,nd,h1,h2,h3,h4⟩:=h; exact ⟨xs,x,nd,lkt j xs h1,h2,nm j r p xs x _ _ h1 h2 h3,h4⟩
  | swin j r p lo len=>obtain ⟨xs,x,u,nd,h1,h2,h3,h4,h5⟩:=h; exact ⟨xs,x,u,nd,lkt j xs h1,h2,nm j r p xs x _ _ h1 h2 h3,h4,h5⟩
  | may j ty =>
   simp only [CA.unM]
   cases hji:j.beq i with
   | true=>exact trivial
   | false =>
    obtain ⟨c',h1,⟨us,fr,h2⟩,h3⟩:=h
    have hne:j≠i:=fun e=>by subst e; simp at hji
    exact ⟨_,lkc j c' h1,⟨us,fr,by show w'.heap[g.β j]? = _; rw [hft j _ (.inl ⟨c',h1,rfl⟩) hne]; exact h2⟩,h3⟩
  | aptr j off len n=>obtain ⟨c',h1,h2,h3⟩:=h; exact ⟨_,lkc j c' h1,h2,h3⟩
  | ifp ty j=>obtain ⟨c',h1,h2⟩:=h; exact ⟨_,lkc j c' h1,h2⟩
  | fn1 q j=>obtain ⟨c',h1,h2⟩:=h; exact ⟨_,lkc j c' h1,h2⟩
  | psl j n=>obtain ⟨c',h1,h2⟩:=h; exact ⟨_,lkc j c' h1,h2⟩
  | yl n=>exact h
  | undef=>exact h
  | junk=>exact h
 have hfoot:∀ j b,Foot ⟨I',g.ρ,g.β,g.φ,g.O⟩ (st.au (CA.unM i)).look j b->Foot g st.look j b:=fun j b h=>by
  rcases h with ⟨c,h1,h2⟩ | ⟨xs,r,h1,h2,h3⟩
  ·obtain ⟨b0,i1,i2⟩:=inv j _ h1
   cases b0 <;> simp [BC.bq] at i2
   exact .inl ⟨_,i1,h2⟩
  ·exact .inr ⟨xs,r,invT j xs h1,h2,h3⟩
 have hsz:w.heap.size<=w'.heap.size:=hb.size
 refine ⟨hs.below.but hb.os hb.tape hb.output hb.size (fun k hk hnew=>hb.block k hk (fun h=>hnew (hLN k h))),fun b h=>hI b (hs.sub b h),hlt,fun b h1 h2=>hs.old b h1 (hold b (fun h=>h1 (h.elim (fun h=>.of_le hs.below h) (hLN b))) h2),by simp only [ASt.au,bi]; exact hs.len,hs.defers,
  dG (w':=w') (g':=⟨I',g.ρ,g.β,g.φ,g.O⟩) (st':=st.au (CA.unM i)) hf hIk hI (l:=st.slots) (vs:=fun t=>a.tmps.getD t undef) hs.slots,by simp only [ASt.au,bi]; exact hs.olen,
  dG (w':=w') (g':=⟨I',g.ρ,g.β,g.φ,g.O⟩) (st':=st.au (CA.unM i)) hf hIk hI (l:=st.out) (vs:=fun t=>ov.getD t undef) hs.outs,
  fun j c hl'=>?_,fun j xs hl' r x hx=>?_,fun j b h=>?_,fun i j b h1 h2=>hs.apart i j b (hfoot i b h1) (hfoot j b h2),fun i xs r r' b h1 h2 h3 h4 h5=>hs.apartR i xs r r' b (invT i xs h1) h2 h3 h4 h5,fun b hr=>?_,hs.base,hs.out⟩
 ·obtain ⟨b0,i1,i2⟩:=inv j _ hl'
  cases b0 with
  | tree xs=>simp [BC.bq] at i2
  | cells c0 =>
   simp only [BC.bq,BC.cells.injEq] at i2
   subst i2
   by_cases e:j=i
   ·subst e
    rw [hl] at i1
    cases i1
    rw [jz hj]
    refine ⟨vs,ty,hh,by simpa using hn,fun k c u hc hu=>?_⟩
    have:=hj c (FN hc)
    subst this
    exact ⟨trivial,hone u (FN hu)⟩
   ·obtain ⟨us,t,h1,h2⟩:=hs.cells j c0 i1
    exact ⟨us,t,by rw [<- h1]; exact hft j _ (.inl ⟨c0,i1,rfl⟩) e,h2.mapC hf⟩
 ·have hl2:=invT j xs hl'
  exact (hs.trees j xs hl2 r x hx).mv hIk hI (fun b h=>hft j b (.inr ⟨xs,r,hl2,(FE.1 hx).1,h⟩) (hci j xs hl2)) (fun _ h=>h)
 ·replace h:=hfoot j b h
  obtain ⟨h1,h2,h3,h4⟩:=hs.foot j b h
  refine ⟨h1,Nat.lt_of_lt_of_le h2 hsz,fun h'=>?_,fun h'=>?_⟩
  ·by_cases e:j=i
   ·subst e
    rcases h with ⟨c,_,e2⟩ | ⟨xs,r,e2,_⟩
    ·rw [e2] at h'; exact hβ h'
    ·rw [hl] at e2; cases e2
   ·exact h3 (hold b (fun hn=>hn.elim (fun hn=>by have:w.heap.size<=b:=hn; omega) (hnL j b h e)) h')
  ·obtain ⟨q1,_,_,q4⟩:=hR b h'
   rcases q1 with q1 | q1
   ·exact h4 q1
   ·omega
 ·obtain ⟨q1,q2,q3,_⟩:=hR b hr
  refine ⟨?_,q2,q3⟩
  rcases q1 with q1 | q1
  ·exact (hs.res b q1).1
  ·exact .of_le hs.below q1
theorem ai.grow (hs:ai w0 I0 R g st a ov w) (hb:Below w.heap.size w w') {I' R':Nat->Prop} (hI:∀ b,g.I b->I' b) (hlt:∀ b,I' b->b < w'.heap.size) (hold:∀ b,b < w.heap.size->I' b->g.I b)
  (hR:∀ b,R' b->R b\/(w.heap.size<=b/\b < w'.heap.size/\¬ I' b)):ai w0 I0 R' ⟨I',g.ρ,g.β,g.φ,g.O⟩ st a ov w':=by
 have hft:∀ i b,Foot g st.look i b->w'.heap[b]? = w.heap[b]? := fun i b h=>hb.block b (hs.foot i b h).2.1
 have m:Mv (fun _ _ _=>True) w g st.look w' ⟨I',g.ρ,g.β,g.φ,g.O⟩ st.look:=by
  refine ⟨fun b h=>hb.block b (hs.lt b h),hI,fun i cs h=>⟨cs,h,rfl⟩,fun i cs ty h ht=>(by
   obtain ⟨vs,fr,h1⟩:=ht
   exact ⟨vs,fr,by rw [hft i _ (.inl ⟨cs,h,rfl⟩)]; exact h1⟩),fun i r p xs x v nd hl hx _ _ hn=>⟨xs,x,hl,hx,?_⟩,rfl⟩
  exact Node.mv (hs.trees i xs hl r x hx) (fun b h=>hb.block b (hs.lt b h)) (fun b h=>hft i b (.inr ⟨xs,r,hl,(FE.1 hx).1,h⟩)) hn
 have hfoot:∀ i b,Foot ⟨I',g.ρ,g.β,g.φ,g.O⟩ st.look i b->Foot g st.look i b:=fun i b h=>h
 refine ⟨hs.below.step hb,fun b h=>hI b (hs.sub b h),hlt,fun b h1 h2=>hs.old b h1 (hold b (by have:=mt (Bs.New.of_le hs.below (b:=b)) h1; omega) h2),hs.len,hs.defers,fun t v hv=>(hs.slots t v hv).mv m,hs.olen,fun t v hv=>(hs.outs t v hv).mv m,
  fun i cs hl=>?_,fun i xs hl r x hx=>?_,fun i b h=>?_,fun i j b h1 h2=>hs.apart i j b h1 h2,hs.apartR,fun b hr=>?_,hs.base,hs.out⟩
 ·obtain ⟨vs,ty,h1,h2⟩:=hs.cells i cs hl
  exact ⟨vs,ty,by rw [<- h1]; exact hft i _ (.inl ⟨cs,hl,rfl⟩),h2.mv m⟩
 ·exact (hs.trees i xs hl r x hx).mv (fun b h=>hb.block b (hs.lt b h)) hI (fun b h=>hft i b (.inr ⟨xs,r,hl,(FE.1 hx).1,h⟩)) (fun _ h=>h)
 ·obtain ⟨h1,h2,h3,h4⟩:=hs.foot i b h
  refine ⟨h1,Nat.lt_of_lt_of_le h2 hb.size,fun h'=>h3 (hold b h2 h'),fun h'=>?_⟩
  rcases hR b h' with h' | h'
  ·exact h4 h'
  ·omega
 ·rcases hR b hr with h | h
  ·obtain ⟨h1,h2,h3⟩:=hs.res b h
   exact ⟨h1,Nat.lt_of_lt_of_le h2 hb.size,fun h'=>h3 (hold b h2 h')⟩
  ·exact ⟨.of_le hs.below h.1,h.2.1,h.2.2⟩
def Wide (g:Gh) (look:Look) (I2:Nat->Prop):Prop:=(∀ b,g.I b->I2 b)/\∀ i b,Foot g look i b->I2 b
theorem ub {T:Type} (hlk:∀ i b,look i=some b->st.look i=some b) (hs:ai w0 I0 R g st a ov w) {c:CA} {u:Value} {k:TV->Prg T} {e:T} (hc:bE w g st.look c u) (h:(tV look c k).hits C e) :
  ∃ y,(k y).hits C e/\∀ I2,Wide g st.look I2->Rep w I2 y u:=by
 cases c with
 | t x=>exact ⟨x,h,fun I2 hw=>hc.1.mv (fun _ _=>rfl) hw.1⟩
 | sref i r p =>
  simp only [tV,iR] at h
  split at h
  ·rename_i x hx
   obtain ⟨xs,h1,h2⟩:=aw hx
   obtain ⟨y,h3,h4⟩:=cz h
   obtain ⟨xs',x',nd,g1,g2,g3,g4⟩:=hc
   rw [hlk _ _ h1] at g1
   cases g1
   rw [h2] at g2
   cases g2
   obtain ⟨_,S',r1,r2⟩:=hs.at (hlk _ _ h1) h2 g3 h3
   exact ⟨_,h4,fun I2 hw=>r1.frz hw.1 (fun b hb=>hw.2 i b (.inr ⟨xs,r,hlk _ _ h1,(FE.1 h2).1,r2 b hb⟩))⟩
  ·exact h.elim
 | swin i r p lo len =>
  simp only [tV,iR] at h
  split at h
  ·rename_i x hx
   obtain ⟨xs,h1,h2⟩:=aw hx
   obtain ⟨y,h3,z,h4,h5⟩:=cz h
   obtain ⟨xs',x',u,nd,g1,g2,g3,g4,g5⟩:=hc
   rw [hlk _ _ h1] at g1
   cases g1
   rw [h2] at g2
   cases g2
   obtain ⟨e1,S',r1,r2⟩:=hs.at (hlk _ _ h1) h2 g3 h3
   exact ⟨_,h5,fun I2 hw=>(dw r1 e1 g5 h4).frz hw.1 (fun b hb=>hw.2 i b (.inr ⟨xs,r,hlk _ _ h1,(FE.1 h2).1,r2 b hb⟩))⟩
  ·exact h.elim
 | _=>exact h.elim
theorem tg {T:Type} (hlk:∀ i b,look i=some b->st.look i=some b) (hs:ai w0 I0 R g st a ov w):∀ {cs:List CA} {us:List Value} {k:List TV->Prg T} {e:T},CR w g st.look cs us->(Ag look cs k).hits C e ->
  ∃ ys,(k ys).hits C e/\ys.length=cs.length/\∀ I2,Wide g st.look I2->∀ (m:Nat) (y:TV) (u:Value),ys[m]? = some y->us[m]? = some u->Rep w I2 y u
 | [],us,k,e,hcr,h=>⟨[],h,rfl,fun I2 _ m y u hy=>by simp at hy⟩
 | c :: l, us, k, e, hcr, h => by
  obtain ⟨u0,us',rfl⟩:∃ u0 us',us=u0 :: us':=by
   cases us with
   | nil=>have:=hcr.1; simp at this
   | cons u0 us'=>exact ⟨u0,us',rfl⟩
  have hc:=hcr.2 0 c u0 rfl rfl
  have hcr':CR w g st.look l us':=⟨by have:=hcr.1; simpa using this,fun j c' u hc' hu'=>hcr.2 (j + 1) c' u (by simpa using hc') (by simpa using hu')⟩
  obtain ⟨y,h1,h2⟩:=ub hlk hs hc.1 h
  obtain ⟨ys,h3,h4,h5⟩:=tg hlk hs hcr' h1
  refine ⟨y :: ys,h3,by simp [h4],fun I2 hw m y' u hy hu=>?_⟩
  cases m with
  | zero=>simp at hy hu; subst hy hu; exact h2 I2 hw
  | succ m=>simp at hy hu; exact h5 I2 hw m y' u hy hu
theorem zP {ys:List TV} {vs:Array Value} (hl:vs.toList.length=ys.length) (h1:∀ (j:Nat) (u:Value),vs.toList[j]? = some u->u.oneCell'=true) (hr:∀ (m:Nat) (y:TV) (u:Value),ys[m]? = some y->vs.toList[m]? = some u->Rep w I y u):Rep w I (.agg ys) (.agg vs):=by
 refine .agg (by simpa using hl) (fun j hj=>?_) (fun j c hj=>?_)
 ·have:vs.toList[j]? = some vs[j]:=by simp [hj]
  rw [FU,Array.getElem?_eq_getElem hj]
  exact h1 j _ this
 ·have hj':j < vs.size:=by have:=(FE.1 hj).1; simp at hl; omega
  have:vs.toList[j]? = some vs[j]:=by simp [hj']
  rw [FU,Array.getElem?_eq_getElem hj']
  exact hr j c _ hj this
theorem za {T:Type} (hlk:∀ i b,look i=some b->st.look i=some b) (hs:ai w0 I0 R g st a ov w) {v:AV} {u:Value} {k:TV->Prg T} {e:T} (hv:bL w g st.look v u) (h:(tL look v k).hits C e) :
  ∃ y,(k y).hits C e/\∀ I2,Wide g st.look I2->Rep w I2 y u:=by
 cases v with
 | one c=>exact ub hlk hs hv h
 | tv x=>exact ⟨x,h,fun I2 hw=>Rep.mv (fun _ _=>rfl) hw.1 hv⟩
 | bl b =>
  have:u=.bool b:=hv
  subst this
  exact ⟨_,h,fun I2 _=>.lit _⟩
 | tups l=>exact h.elim
 | clo _ l=>exact h.elim
 | agg cs =>
  obtain ⟨vs,rfl,hcr⟩:=hv
  obtain ⟨ys,h1,h2,h3⟩:=tg hlk hs hcr h
  refine ⟨_,h1,fun I2 hw=>zP (by rw [h2]; exact hcr.1) (fun j u hu=>?_) (h3 I2 hw)⟩
  have hj:j < cs.length:=by rw [<- hcr.1]; exact (FE.1 hu).1
  exact (hcr.2 j _ u (FF hj) hu).2
def oD (w:World) (g:Gh) (look:Look):List AV->List Value->Prop
 | [],[]=>True
 | v :: l,u :: us=>bL w g look v u/\oD w g look l us
 | _,_=>False
theorem oD.len:∀ {l:List AV} {us:List Value},oD w g look l us->us.length=l.length
 | [],[],_=>rfl
 | v :: l,u :: us,h=>by simp [h.2.len]
 | [],u :: us,h=>h.elim
 | v :: l,[],h=>h.elim
theorem ai.evs (hs:ai w0 I0 R g st a ov w):∀ (xs:List Operand),oD w g st.look (xs.map st.ev) (xs.map a.eval)
 | []=>trivial
 | x :: xs=>⟨hs.ev x,hs.evs xs⟩
theorem fq {T:Type} (hlk:∀ i b,look i=some b->st.look i=some b) (hs:ai w0 I0 R g st a ov w):∀ {vs:List AV} {us:List Value} {k:List TV->Prg T} {e:T},oD w g st.look vs us->(lends look vs k).hits C e ->
  ∃ ys,(k ys).hits C e/\ys.length=vs.length/\∀ I2,Wide g st.look I2->∀ (m:Nat) (y:TV),ys[m]? = some y->Rep w I2 y (us.getD m undef)
 | [],us,k,e,hr,h=>⟨[],h,rfl,fun I2 _ m y hy=>by simp at hy⟩
 | v :: l,[],k,e,hr,h=>hr.elim
 | v :: l,u :: us,k,e,hr,h=>by
  obtain ⟨y,h1,h2⟩:=za hlk hs hr.1 h
  obtain ⟨ys,h3,h4,h5⟩:=fq hlk hs hr.2 h1
  refine ⟨y :: ys,h3,by simp [h4],fun I2 hw m y' hy=>?_⟩
  cases m with
  | zero=>simp at hy ⊢; subst hy; exact h2 I2 hw
  | succ m=>simp at hy ⊢; simpa using h5 I2 hw m y' hy
def ir (g:Gh) (rs:List (Nat × Nat)) (I2:Nat->Prop):Prop:=(∀ b,g.I b->I2 b)/\∀ i r,(i,r) ∈ rs->∀ b,g.φ i r b->I2 b
def Roots (look:Look) (rs:List (Nat × Nat)):Prop:=∀ i r,(i,r) ∈ rs->∃ xs x,look i=some (.tree xs)/\xs[r]? = some x
theorem uM {x:TV} {v:Value} {S:Nat->Prop} {I2:Nat->Prop} (h:al w g.I x v S) (hf:x.fH=true) (hI:∀ b,g.I b->I2 b):Rep w I2 x v:=by
 cases h with
 | fr h=>exact h.mv (fun _ _=>rfl) hI
 | sl=>simp [TV.fH] at hf
 | agg=>simp [TV.fH] at hf
 | tup=>simp [TV.fH] at hf
 | buf=>simp [TV.fH] at hf
theorem rV {T:Type} (hlk:∀ i b,look i=some b->st.look i=some b) (hs:ai w0 I0 R g st a ov w) {c:CA} {u:Value} {k:TV->List (Nat × Nat)->Prg T} {e:T} (hc:bE w g st.look c u) (h:(t9 look c k).hits C e) :
  ∃ y rs,(k y rs).hits C e/\Roots st.look rs/\∀ I2,ir g rs I2->Rep w I2 y u:=by
 cases c with
 | t x=>exact ⟨x,[],h,fun i r hm=>by simp at hm,fun I2 hw=>hc.1.mv (fun _ _=>rfl) hw.1⟩
 | sref i r p =>
  simp only [t9] at h
  split at h
  ·rename_i x hx
   obtain ⟨xs,h1,h2⟩:=aw hx
   obtain ⟨xs',x',nd,g1,g2,g3,g4⟩:=hc
   rw [hlk _ _ h1] at g1
   cases g1
   rw [h2] at g2
   cases g2
   have hroot:Roots st.look [(i,r)]:=fun i' r' hm=>by
    simp only [List.mem_singleton,Prod.mk.injEq] at hm
    obtain ⟨rfl,rfl⟩:=hm
    exact ⟨xs,x,hlk _ _ h1,h2⟩
   split at h
   ·refine ⟨_,_,h,hroot,fun I2 hw=>?_⟩
    rw [g3.1]
    exact (hs.trees i xs (hlk _ _ h1) r x h2).frz hw.1 (hw.2 i r (by simp))
   ·obtain ⟨y,hy,hf,h⟩:=h
    obtain ⟨_,S',r1,r2⟩:=hs.at (hlk _ _ h1) h2 g3 hy
    exact ⟨_,_,h,fun i r hm=>by simp at hm,fun I2 hw=>uM r1 hf hw.1⟩
  ·exact h.elim
 | swin i r p lo len =>
  simp only [t9] at h
  split at h
  ·rename_i x hx
   obtain ⟨xs,h1,h2⟩:=aw hx
   obtain ⟨xs',x',u,nd,g1,g2,g3,g4,g5⟩:=hc
   rw [hlk _ _ h1] at g1
   cases g1
   rw [h2] at g2
   cases g2
   have hroot:Roots st.look [(i,r)]:=fun i' r' hm=>by
    simp only [List.mem_singleton,Prod.mk.injEq] at hm
    obtain ⟨rfl,rfl⟩:=hm
    exact ⟨xs,x,hlk _ _ h1,h2⟩
   split at h
   ·obtain ⟨y,hy,h⟩:=h
    refine ⟨_,_,h,hroot,fun I2 hw=>?_⟩
    have hr:=hs.trees i xs (hlk _ _ h1) r x h2
    rw [<- g3.1] at hr
    exact (dw hr g3.2 g5 hy).frz hw.1 (hw.2 i r (by simp))
   ·obtain ⟨z,hz,y,hy,hf,h⟩:=h
    obtain ⟨e1,S',r1,_⟩:=hs.at (hlk _ _ h1) h2 g3 hz
    exact ⟨_,_,h,fun i r hm=>by simp at hm,fun I2 hw=>uM (dw r1 e1 g5 hy) hf hw.1⟩
  ·exact h.elim
 | _=>exact h.elim
theorem Roots.app {rs rs':List (Nat × Nat)} (h:Roots look rs) (h':Roots look rs'):Roots look (rs ++ rs'):=fun i r hm=>by
 rcases List.mem_append.1 hm with hm | hm
 ·exact h i r hm
 ·exact h' i r hm
theorem ir.left {rs rs':List (Nat × Nat)} {I2:Nat->Prop} (h:ir g (rs ++ rs') I2):ir g rs I2:=⟨h.1,fun i r hm=>h.2 i r (List.mem_append_left _ hm)⟩
theorem ir.right {rs rs':List (Nat × Nat)} {I2:Nat->Prop} (h:ir g (rs ++ rs') I2):ir g rs' I2:=⟨h.1,fun i r hm=>h.2 i r (List.mem_append_right _ hm)⟩
theorem uc {T:Type} (hlk:∀ i b,look i=some b->st.look i=some b) (hs:ai w0 I0 R g st a ov w):∀ {cs:List CA} {us:List Value} {k:List TV->List (Nat × Nat)->Prg T} {e:T},CR w g st.look cs us->(Af look cs k).hits C e ->
  ∃ ys rs,(k ys rs).hits C e/\Roots st.look rs/\ys.length=cs.length/\∀ I2,ir g rs I2->∀ (m:Nat) (y:TV) (u:Value),ys[m]? = some y->us[m]? = some u->Rep w I2 y u
 | [],us,k,e,hcr,h=>⟨[],[],h,fun i r hm=>by simp at hm,rfl,fun I2 _ m y u hy=>by simp at hy⟩
 | c :: l, us, k, e, hcr, h => by
  obtain ⟨u0,us',rfl⟩:∃ u0 us',us=u0 :: us':=by
   cases us with
   | nil=>have:=hcr.1; simp at this
   | cons u0 us'=>exact ⟨u0,us',rfl⟩
  have hc:=hcr.2 0 c u0 rfl rfl
  have hcr':CR w g st.look l us':=⟨by have:=hcr.1; simpa using this,fun j c' u hc' hu'=>hcr.2 (j + 1) c' u (by simpa using hc') (by simpa using hu')⟩
  obtain ⟨y,rs,h1,h0,h2⟩:=rV hlk hs hc.1 h
  obtain ⟨ys,rs',h3,h0',h4,h5⟩:=uc hlk hs hcr' h1
  refine ⟨y :: ys,rs ++ rs',h3,h0.app h0',by simp [h4],fun I2 hw m y' u hy hu=>?_⟩
  cases m with
  | zero=>simp at hy hu; subst hy hu; exact h2 I2 hw.left
  | succ m=>simp at hy hu; exact h5 I2 hw.right m y' u hy hu
theorem yS {T:Type} (hlk:∀ i b,look i=some b->st.look i=some b) (hs:ai w0 I0 R g st a ov w) {v:AV} {u:Value} {k:TV->List (Nat × Nat)->Prg T} {e:T} (hv:bL w g st.look v u) (h:(sO look v k).hits C e) :
  ∃ y rs,(k y rs).hits C e/\Roots st.look rs/\∀ I2,ir g rs I2->Rep w I2 y u:=by
 cases v with
 | one c=>exact rV hlk hs hv h
 | tv x=>exact ⟨x,[],h,fun i r hm=>by simp at hm,fun I2 hw=>Rep.mv (fun _ _=>rfl) hw.1 hv⟩
 | bl b =>
  have:u=.bool b:=hv
  subst this
  exact ⟨_,[],h,fun i r hm=>by simp at hm,fun I2 _=>.lit _⟩
 | tups l=>exact h.elim
 | clo _ l=>exact h.elim
 | agg cs =>
  obtain ⟨vs,rfl,hcr⟩:=hv
  obtain ⟨ys,rs,h1,h0,h2,h3⟩:=uc hlk hs hcr h
  refine ⟨_,rs,h1,h0,fun I2 hw=>zP (by rw [h2]; exact hcr.1) (fun j u hu=>?_) (h3 I2 hw)⟩
  have hj:j < cs.length:=by rw [<- hcr.1]; exact (FE.1 hu).1
  exact (hcr.2 j _ u (FF hj) hu).2
theorem ny {T:Type} (hlk:∀ i b,look i=some b->st.look i=some b) (hs:ai w0 I0 R g st a ov w):∀ {vs:List AV} {us:List Value} {k:List TV->List (Nat × Nat)->Prg T} {e:T},oD w g st.look vs us->(hands look vs k).hits C e ->
  ∃ ys rs,(k ys rs).hits C e/\Roots st.look rs/\ys.length=vs.length/\∀ I2,ir g rs I2->∀ (m:Nat) (y:TV),ys[m]? = some y->Rep w I2 y (us.getD m undef)
 | [],us,k,e,hr,h=>⟨[],[],h,fun i r hm=>by simp at hm,rfl,fun I2 _ m y hy=>by simp at hy⟩
 | v :: l,[],k,e,hr,h=>hr.elim
 | v :: l,u :: us,k,e,hr,h=>by
  obtain ⟨y,rs,h1,h0,h2⟩:=yS hlk hs hr.1 h
  obtain ⟨ys,rs',h3,h0',h4,h5⟩:=ny hlk hs hr.2 h1
  refine ⟨y :: ys,rs ++ rs',h3,h0.app h0',by simp [h4],fun I2 hw m y' hy=>?_⟩
  cases m with
  | zero=>simp at hy ⊢; subst hy; exact h2 I2 hw.left
  | succ m=>simp at hy ⊢; simpa using h5 I2 hw.right m y' hy
theorem kO:∀ (rs:List (Nat × Nat)) {st:ASt} {g:Gh},ai w0 I0 R g st a ov w->Roots st.look rs->df rs=true ->
  ∃ st1 g1,ae dst (uX rs) st=some st1/\ai w0 I0 R g1 st1 a ov w/\ir g rs g1.I/\st1.out.length=st.out.length/\∀ j cs,st.look j=some (.cells cs)->st1.look j=some (.cells cs)/\g1.β j=g.β j
 | [],st,g,hs,hr,hn=>⟨st,g,rfl,hs,⟨fun _ h=>h,fun i r hm=>by simp at hm⟩,rfl,fun _ _ h=>⟨h,rfl⟩⟩
 | (i, r) :: rs, st, g, hs, hr, hn => by
  obtain ⟨xs,x,hl,hx⟩:=hr i r (by simp)
  obtain ⟨h1,h2,h3⟩:=hs.freeze hl hx
  simp only [df,FH,Bool.not_eq_true'] at hn
  have hne:∀ i' r',(i',r') ∈ rs->¬ (i'=i/\r'=r):=fun i' r' hm ⟨e1,e2⟩=>by
   subst e1 e2
   have:=hn.1
   rw [bX] at this
   exact this hm
  have hrl:r < xs.length:=(FE.1 hx).1
  have hlook:∀ j,(st.ac i (some (.tree (ak xs r (frz x))))).look j=if i=j then some (.tree (ak xs r (frz x))) else st.look j:=fun j=>by
   rw [ag]
   by_cases h:i=j
   ·subst h; rw [if_pos ⟨rfl,gp hl⟩,if_pos rfl]
   ·rw [if_neg (fun h'=>h h'.1),if_neg h]
  obtain ⟨st1,g1,q1,q2,q3,q4,q5⟩:=kO rs h2 (fun i' r' hm=>by
   obtain ⟨xs',x',hl',hx'⟩:=hr i' r' (FM _ hm)
   rw [hlook]
   by_cases h:i=i'
   ·subst h
    rw [hl] at hl'
    cases hl'
    refine ⟨_,x',by rw [if_pos rfl],?_⟩
    rw [ah,List.getElem?_set,if_neg (fun e=>hne _ _ hm ⟨rfl,e.symm⟩)]
    exact hx'
   ·exact ⟨xs',x',by rw [if_neg h]; exact hl',hx'⟩) hn.2
  refine ⟨st1,g1,?_,q2,⟨fun b hb=>q3.1 b (.inl hb),fun i' r' hm b hb=>?_⟩,q4,fun j cs hj=>(by
   have hne:i≠j:=fun e=>by subst e; rw [hl] at hj; cases hj
   obtain ⟨z1,z2⟩:=q5 j cs (by rw [hlook,if_neg hne]; exact hj)
   exact ⟨z1,z2⟩)⟩
  ·have hro:bG st.look i r=some x:=by
    simp only [bG,hl]
    have hb:r.blt xs.length=true:=by simpa using hrl
    rw [hb,bT hx]
    rfl
   simp only [uX,ae,Prim.app,hro,cf,hl]
   exact q1
  ·rcases List.mem_cons.1 hm with hm | hm
   ·cases hm
    exact q3.1 b (.inr hb)
   ·refine q3.2 i' r' hm b ?_
    have:¬ (i'=i/\r'=r):=hne i' r' hm
    simp only [Gh.cU]
    rw [if_neg this]
    exact hb
end
end Go.Ab

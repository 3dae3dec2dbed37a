import Derived.Test.YtpkpckdealhkhaaAM14b
import Derived.LoopN
set_option linter.all false
namespace Go.Ab
open Go.RowKit
def turns (ro:Option Nat) (P:Program) (c:Code) (Q:Exit->Act->World->Prop) (a:Act) (w:World):Prop :=
 ∀b k cs,b.roundOf=ro->∃e a' w',Q e a' w'/\ArrivesIn (Machine.fenced P (Rd ro)) P (lone (b.atR a (.code c :: .inLoop c::k)) cs w) b k cs e a' w'
theorem vg (ro:Option Nat) (P:Program) (m:Machine):m.fenced P (Rd ro):=fenced_wide P m
theorem yp {ro:Option Nat} {P:Program} {c:Code} {Q:Exit->Act->World->Prop} {a:Act} {w:World} (h:c.wpIn (Rd ro) 0 P (Exit.then (turns ro P c Q) Q) a w):turns ro P c Q a w:=by
 intro b k cs hro
 obtain⟨e,a₁,w₁,hq,harr⟩:=h b (.inLoop c::k) cs hro trivial (Fa _)
 cases e with
 | normal =>
  obtain⟨e₂,a₂,w₂,hq₂,harr₂⟩:=hq b k cs hro
  exact⟨e₂,a₂,w₂,hq₂,.of_steps (StepsIn.trans harr (.one (vg ro P _) stepR_inLoop)) harr₂⟩
 | exit id=>exact⟨_,a₁,w₁,hq,.pass (x:=.inLoop c) rfl (fun _ _=>.inl (by simp)) harr⟩
 | goto l=>exact⟨_,a₁,w₁,hq,.pass (x:=.inLoop c) rfl (fun _ _=>.inl (by simp)) harr⟩
 | ret=>exact⟨_,a₁,w₁,hq,.pass (x:=.inLoop c) rfl (fun _ _=>.inl (by simp)) harr⟩
 | panic ch=>exact⟨_,a₁,w₁,hq,.pass (x:=.inLoop c) rfl (fun _ _=>.inl (by simp)) harr⟩
 | outgrown=>exact⟨_,a₁,w₁,hq,.pass (x:=.inLoop c) rfl (fun _ _=>.inl (by simp)) harr⟩
theorem tV {ro:Option Nat} {P:Program} {c:Code} {Q:Exit->Act->World->Prop} {a:Act} {w:World} (h:turns ro P c Q a w):(Code.loop c).wpIn (Rd ro) 0 P Q a w:=by
 intro b k cs hro _ _
 obtain⟨e,a',w',hq,harr⟩:=h b k cs hro
 exact⟨e,a',w',hq,.of_steps (.one (vg ro P _) stepR_loop) harr⟩
def kP:AEx->Exit
 | .normal=>.normal
 | .ret=>.ret
 | .exit id=>.exit id
section
variable {P:Program} {E:Env} {C:Cal} {w0:Bs} {w w':World} {I0 I R:Nat->Prop} {g g':Gh} {st st':ASt} {a:Act} {ov:List Value} {look:Look} {T:Type} {J:List Nat->ASt->T->Prop}
def m8 (tmps:Array Value):ResultVar->Sem Value
 | .tmp t=>pure (tmps.getD t undef)
 | .cell a t=>do loadVar t (<-asAddr (tmps.getD a undef))
theorem s8 (fn:Func) (tmps:Array Value):results fn tmps=(do let vs <-fn.results.mapM (m8 tmps);pure (if h:vs.size=1 then vs[0]else .tuple vs)):=by
 unfold results
 congr 1
theorem wY (hT : ∀ t d, E.T t = some d → ba P t d) (hs : al w0 I0 NoR g st a ov w) {rv : ResultVar} {x : AV} (h : yj E.T st rv = some x) :
  ∃v,(m8 a.tmps rv).run P w=.ok v w/\bX w g st.look x v:=by
 cases rv with
 | tmp t =>
  simp only[yj,FR]at h
  subst h
  exact⟨a.tmps.getD t undef,by simp[m8],hs.ev (.tmp t)⟩
 | cell ad t =>
  simp only[yj]at h
  split at h
  ·rename_i i d hv hd
   have ht:=hT _ _ hd
   have hrep:bX w g st.look (nth (.one .junk) st.slots ad) (a.tmps.getD ad undef):=hs.ev (.tmp ad)
   rw[hv]at hrep
   obtain⟨cs',hl',hval⟩:=hrep
   split at h
   ·rename_i cs hl
    rw[hl]at hl'
    simp only[FR,BC.cells.injEq]at hl'
    subst hl'
    obtain⟨vs,ty,h4,hcr⟩:=hs.cells i cs hl
    split at h
    ·rename_i cs1 htk
     obtain⟨k1,k2,k3⟩:=fg _ _ _ _ htk
     have hn0:(bif d.kd.isAgg then d.size else 1)=cs1.length:=k1.symm
     have h5:vs.toList.length=cs.length:=hcr.1
     have hcr1:CR w g st.look cs1 (vs.toList.take cs1.length):=by
      refine⟨?_,fun j c u hc hu=>?_⟩
      ·rcases k2 with k2|k2
       ·have:cs1=[]:=List.eq_nil_of_length_eq_zero (by omega)
        subst this;simp
       ·simp at h5 ⊢;omega
      ·have hj:j<cs1.length:=(FP.1 hc).1
       rw[List.getElem?_take_of_lt hj]at hu
       rw[k3 j (by omega),Nat.zero_add]at hc
       exact hcr.2 _ c u hc hu
     have hcell:∀(j:Nat) (u:Value),(vs.toList.take cs1.length)[j]? = some u->w.cell? ((⟨g.β i,0,none⟩:Addr).add j)=some u:=fun j u hu=>by
      have hj:j<cs1.length:=by
       have:=(FP.1 hu).1
       simp at this
       omega
      rw[List.getElem?_take_of_lt hj,FU]at hu
      rw[gH,cell_of_row w (g.β i) _ vs ty (0,0) h4,Nat.zero_add]
      exact hu
     obtain⟨r1,r2⟩:=eA (w:=w) ht (ad:=⟨g.β i,0,none⟩) (by rw[hn0];exact hcr1.1) hcell
     cases hk:d.kd.isAgg with
     | true =>
      rw[hk]at h
      exact⟨.agg (vs.toList.take cs1.length).toArray,by simp[m8,hval,asAddr,r1 hk],bV h ⟨_,rfl,by simpa using hcr1⟩⟩
     | false =>
      rw[hk]at h hn0
      match cs1,hn0,hcr1,h,r2 with
      | [c],_,hcr1,h,r2 =>
       have h0:(vs.toList.take 1).length=1:=hcr1.1
       have hu:(vs.toList.take 1)[0]? = some ((vs.toList.take 1)[0]'(by omega)):=FQ _
       have hh:=hcr1.2 0 c _ rfl hu
       exact⟨_,by simp only[m8,hval,asAddr,Sem.run_bind,Sem.run_pure,Result.andThen_ok];exact r2 hk _ hu,bV h ⟨c,rfl,hh.1,hh.2⟩⟩
    ·cases h
   ·cases h
  ·cases h
theorem km (hT:∀t d,E.T t=some d->ba P t d) (hs:al w0 I0 NoR g st a ov w):∀(rs:List ResultVar) (xs:List AV),kf E.T st rs=some xs ->
  ∃vs:List Value,(rs.mapM (m8 a.tmps)).run P w=.ok vs w/\oQ w g st.look xs vs
 | [],xs,h=>by simp[kf]at h;subst h;exact⟨[],by simp,trivial⟩
 | rv :: rs, xs, h => by
  simp only[kf]at h
  cases h1:yj E.T st rv with
  | none=>simp[h1]at h
  | some x =>
   cases h2:kf E.T st rs with
   | none=>simp[h1,h2]at h
   | some xs' =>
    simp only[h1,h2,FR]at h
    subst h
    obtain⟨v,hr,hv⟩:=wY (P:=P) hT hs h1
    obtain⟨vs,hrs,hvs⟩:=km hT hs rs xs' h2
    refine⟨v::vs,?_,hv,hvs⟩
    simp only[List.mapM_cons,Sem.run_bind,hr,Result.andThen_ok,hrs,Sem.run_pure]
theorem fn1_of {f:FuncId} {i:Nat} {v:Value} (hx:bX w g look (.clo f [.ptr i 0]) v):bW w g look (.fn1 f i) v:=by
 obtain⟨vs,rfl,hcr⟩:=hx
 have h1:vs.size=1:=by simpa using hcr.1
 have h2:=(hcr.2 0 (.ptr i 0) (vs.getD 0 undef) rfl (by rw[FU,Array.getElem?_eq_getElem (by omega)];simp[h1])).1
 obtain⟨cs,hl,hv⟩:=h2
 refine⟨cs,hl,?_⟩
 have:vs=#[vs.getD 0 undef]:=by
  apply Array.ext
  ·simpa using h1
  ·intro q hq hq2
   have:q=0:=by simp at hq2;omega
   subst this
   simp[h1]
 rw[this,hv]
theorem xi {agg:Bool} {n:Nat} {x:AV} {k:List CA->Prg T} {r:T} {v:Value} (hx:bX w g look x v) (h:(x.bd agg n k).goes C J r):∃cs,(k cs).goes C J r/\lP w g look agg cs v:=by
 cases agg with
 | false =>
  cases x with
  | one c =>
   simp only[AV.bd]at h
   cases hk:c.kept with
   | false=>simp[hk,Prg.goes]at h
   | true =>
    simp only[hk,cond_true]at h
    exact⟨[c],h,c,rfl,hx,sF hx hk⟩
  | tv x =>
   obtain⟨h1,h⟩:=h
   have h1':v.oneCell'=true:=by
    cases hx with
    | lit v=>exact h1
    | hole v=>simp[TV.eS]at h1
    | buf e h=>simp[TV.eS]at h1
    | sl=>rfl
    | agg=>simp[TV.eS]at h1
    | tup=>simp[TV.eS]at h1
   exact⟨[.t x],h,_,rfl,⟨hx,h1'⟩,h1'⟩
  | bl b =>
   have:v=.bool b:=hx
   subst this
   exact⟨[.t (.lit (.bool b))],h,_,rfl,⟨.lit _,rfl⟩,rfl⟩
  | agg cs=>exact h.elim
  | tups l=>exact h.elim
  | clo f l =>
   unfold AV.bd at h
   split at h
   all_goals first|(rename_i heq;cases heq;done)|skip
   all_goals first|exact h.elim|skip
   rename_i f' i heq0 heq
   cases heq
   refine⟨[.fn1 f i],h,_,rfl,?_,?_⟩
   ·exact fn1_of hx
   ·obtain⟨vs,rfl,_⟩:=hx;rfl
 | true =>
  cases x with
  | agg cs =>
   simp only[AV.bd]at h
   cases hk:cs.length.beq n with
   | false=>simp[hk,Prg.goes]at h
   | true =>
    simp only[hk,cond_true]at h
    exact⟨cs,h,hx⟩
  | tv x =>
   obtain⟨h1,h⟩:=h
   have hx:Rep w g.I x v:=hx
   cases hx with
   | lit v=>simp[TV.isAgg]at h1
   | hole v=>simp[TV.isAgg]at h1
   | buf e h=>simp[TV.isAgg]at h1
   | sl=>simp[TV.isAgg]at h1
   | tup=>simp[TV.isAgg]at h1
   | @agg cs vs hl h1' hr =>
    have hn:cs.length=n:=(az _ _).1 h1
    refine⟨_,h,vs,rfl,by simp[hl,hn],fun j c u hc hu=>?_⟩
    have hlt:j<n:=by
     have:=(FP.1 hc).1
     simpa using this
    rw[FW,List.getElem?_range hlt]at hc
    simp only[F6,FR]at hc
    subst hc
    have hj2:j<cs.length:=by omega
    have hcell:TV.cell (.agg cs) j=cs[j]:=by simp only[TV.cell];exact b7 (FQ hj2)
    rw[hcell]
    have hu':vs.getD j undef=u:=by
     simp only[FU]at hu
     rw[F8,hu];rfl
    rw[<-hu']
    exact⟨⟨hr j _ (FQ hj2),h1' j (by omega)⟩,h1' j (by omega)⟩
  | one c=>exact h.elim
  | bl b=>exact h.elim
  | tups l=>exact h.elim
  | clo _ l=>exact h.elim
theorem qc:∀{ds:List TyD} {vs:List AV} {us:List Value} {k:List (Bool × List CA)->Prg T} {r:T},oQ w g look vs us->(tA ds vs k).goes C J r ->
  ∃l,(k l).goes C J r/\l.length=us.length/\∀(j:Nat) (b:Bool) (c:List CA),l[j]? = some (b,c)->lP w g look b c (us.getD j undef)
 | [],[],us,k,r,hr,h=>by
  have:us=[]:=by cases us with|nil=>rfl|cons u us=>exact hr.elim
  subst this
  exact⟨[],h,rfl,fun j b c hj=>by simp at hj⟩
 | d::ds,v::vs,[],k,r,hr,h=>hr.elim
 | d::ds,v::vs,u::us,k,r,hr,h=>by
  obtain⟨cs,h1,h2⟩:=xi hr.1 h
  obtain⟨l,h3,h4,h5⟩:=qc hr.2 h1
  refine⟨_,h3,by simp[h4],fun j b c hj=>?_⟩
  cases j with
  | zero=>simp at hj;obtain⟨rfl,rfl⟩:=hj;exact h2
  | succ j=>simp at hj;exact h5 j b c hj
 | [],v::vs,us,k,r,hr,h=>h.elim
 | d::ds,[],us,k,r,hr,h=>h.elim
theorem tK {L:List Nat} {m:Nat} (hn:ie L=true) (hs:Sim w0 I0 st a ov w):Sim w0 I0 (nu L m st) a ov w:=by
 obtain⟨g,hs⟩:=hs
 have hlook:∀k,(nu L m st).look k=(L[k]?).bind fun i=>(st.look i).map (BC.bS (CA.ren L)):=fun k=>by
  simp only[nu,ASt.look,bi,List.getElem?_append,pr,pO]
  by_cases hk:k<L.length
  ·rw[if_pos hk,FQ hk]
   rfl
  ·have hL:L[k]? = none:=F5 (by omega)
   rw[if_neg hk,hL,List.getElem?_replicate]
   split<;>rfl
 obtain⟨g',hg'⟩:∃g':Gh,g'=⟨g.I,fun k=>g.ρ (nth 0 L k),fun k=>g.β (nth 0 L k),fun k=>g.φ (nth 0 L k),g.O⟩:=⟨_,rfl⟩
 have hat:∀{k i:Nat},L[k]? = some i->nth 0 L k=i:=fun h=>b7 h
 have eI:g'.I=g.I:=by rw[hg']
 have eO:g'.O=g.O:=by rw[hg']
 have hlk:∀{k i:Nat} {b:BC},L[k]? = some i->st.look i=some b->(nu L m st).look k=some (b.bS (CA.ren L)):=fun{k i b} h1 h2=>by rw[hlook,h1];simp[h2]
 have inv:∀{k:Nat} {b:BC},(nu L m st).look k=some b->∃i b0,L[k]? = some i/\st.look i=some b0/\b=b0.bS (CA.ren L):=fun{k b} h=>by
  rw[hlook]at h
  cases hk:L[k]? with
  | none=>simp[hk]at h
  | some i =>
   simp only[hk,Option.bind_some]at h
   cases hb:st.look i with
   | none=>simp[hb]at h
   | some b0=>simp only[hb,F6,FR]at h;exact⟨i,b0,rfl,hb,h.symm⟩
 have hf:∀c v,bW w g st.look c v->bW w g' (nu L m st).look (c.ren L) v:=by
  intro c v h
  cases c with
  | t x=>exact⟨by rw[eI];exact h.1,h.2⟩
  | ptr i off =>
   simp only[CA.ren]
   split
   ·rename_i k hk
    replace hk:L[k]? = some i:=(aW hk).2
    obtain⟨cs,h1,h2⟩:=h
    exact⟨_,hlk hk h1,by rw[hg'];simp only[];rw[hat hk];exact h2⟩
   ·trivial
  | ref x off =>
   obtain⟨ad,cell,h1,h3⟩:=h
   exact⟨ad,cell,h1,fun j c hj=>⟨(h3 j c hj).1.mv (fun _ _=>rfl) (fun b hb=>by rw[eI];exact hb) eO,(h3 j c hj).2.1,by rw[eI];exact(h3 j c hj).2.2⟩⟩
  | tptr i r p k j =>
   simp only[CA.ren]
   split
   ·rename_i m hm
    replace hm:L[m]? = some i:=(aW hm).2
    obtain⟨xs,x,ad,l,cap,s,n,h1,h2,h3,h4,h5⟩:=h
    refine⟨xs,x,ad,l,cap,s,n,hlk hm h1,h2,?_,h4,h5⟩
    rw[hg'];simp only[];rw[hat hm];exact h3
   ·trivial
  | sref i r p =>
   simp only[CA.ren]
   split
   ·rename_i m hm
    replace hm:L[m]? = some i:=(aW hm).2
    obtain⟨xs,x,nd,h1,h2,h3,h4⟩:=h
    refine⟨xs,x,nd,hlk hm h1,h2,?_,h4⟩
    rw[hg'];simp only[];rw[hat hm];exact h3
   ·trivial
  | swin i r p lo len =>
   simp only[CA.ren]
   split
   ·rename_i m hm
    replace hm:L[m]? = some i:=(aW hm).2
    obtain⟨xs,x,u,nd,h1,h2,h3,h4,h5⟩:=h
    refine⟨xs,x,u,nd,hlk hm h1,h2,?_,h4,h5⟩
    rw[hg'];simp only[];rw[hat hm];exact h3
   ·trivial
  | yl n=>show v=.func (.yield (g'.O.y n)) #[] #[];rw[eO];exact h
  | ifp ty i =>
   simp only[CA.ren]
   split
   ·rename_i k hk
    replace hk:L[k]? = some i:=(aW hk).2
    obtain⟨cs,h1,h2⟩:=h
    exact⟨_,hlk hk h1,by rw[hg'];simp only[];rw[hat hk];exact h2⟩
   ·trivial
  | fn1 q i =>
   simp only[CA.ren]
   split
   ·rename_i k hk
    replace hk:L[k]? = some i:=(aW hk).2
    obtain⟨cs,h1,h2⟩:=h
    exact⟨_,hlk hk h1,by rw[hg'];simp only[];rw[hat hk];exact h2⟩
   ·trivial
  | psl i n =>
   simp only[CA.ren]
   split
   ·rename_i k hk
    replace hk:L[k]? = some i:=(aW hk).2
    obtain⟨cs,h1,h2⟩:=h
    exact⟨_,hlk hk h1,by rw[hg'];simp only[];rw[hat hk];exact h2⟩
   ·trivial
  | aptr i off len n =>
   simp only[CA.ren]
   split
   ·rename_i k hk
    replace hk:L[k]? = some i:=(aW hk).2
    obtain⟨cs,h1,h2,h3⟩:=h
    exact⟨_,hlk hk h1,h2,by rw[hg'];simp only[];rw[hat hk];exact h3⟩
   ·trivial
  | may i ty =>
   simp only[CA.ren]
   split
   ·rename_i k hk
    replace hk:L[k]? = some i:=(aW hk).2
    obtain⟨cs,h1,h2,h3⟩:=h
    refine⟨_,hlk hk h1,?_,?_⟩
    ·rw[hg'];simp only[];rw[hat hk];exact h2
    ·rw[hg'];simp only[];rw[hat hk];exact h3
   ·trivial
  | undef=>exact h
  | junk=>exact h
 have foot:∀{k b:Nat},Foot g' (nu L m st).look k b->∃i,L[k]? = some i/\Foot g st.look i b:=by
  rintro k b (⟨cs,h1,h2⟩|⟨xs,r,h1,h2,h3⟩)
  ·obtain⟨i,b0,i1,i2,i3⟩:=inv h1
   refine⟨i,i1,?_⟩
   rw[hg']at h2
   simp only[]at h2
   rw[hat i1]at h2
   cases b0 with
   | cells cs0=>exact .inl ⟨cs0,i2,h2⟩
   | tree xs=>simp[BC.bS]at i3
  ·obtain⟨i,b0,i1,i2,i3⟩:=inv h1
   refine⟨i,i1,?_⟩
   rw[hg']at h3
   simp only[]at h3
   rw[hat i1]at h3
   cases b0 with
   | cells cs0=>simp[BC.bS]at i3
   | tree xs0=>simp only[BC.bS,BC.tree.injEq]at i3;subst i3;exact .inr ⟨xs,r,i2,h2,h3⟩
 refine⟨g',hs.below,by rw[eI];exact hs.sub,by rw[eI];exact hs.lt,by rw[eI];exact hs.old,by simp only[nu,bT];exact hs.len,hs.defers,fun t v hv=>?_,by simp only[nu,bT];exact hs.olen,?_,fun k cs hl=>?_,fun k xs hl r x hx=>?_,
  fun k b hb=>?_,fun k k' b hb hb'=>?_,fun k xs r r' b hl h1 h2 h3 h4=>?_,fun b hb=>hb.elim,hs.base,by rw[eO];exact hs.out⟩
 ·exact fO (w':=w) (g':=g') (st':=nu L m st) hf (fun _ _=>rfl) (fun b hb=>by rw[eI];exact hb) (l:=st.slots) (vs:=fun t=>a.tmps.getD t undef) hs.slots t v hv
 ·exact fO (w':=w) (g':=g') (st':=nu L m st) hf (fun _ _=>rfl) (fun b hb=>by rw[eI];exact hb) (l:=st.out) (vs:=fun t=>ov.getD t undef) hs.outs
 ·obtain⟨i,b0,i1,i2,i3⟩:=inv hl
  cases b0 with
  | tree xs=>simp[BC.bS]at i3
  | cells cs0 =>
   simp only[BC.bS,BC.cells.injEq]at i3
   subst i3
   obtain⟨vs,ty,c1,c2⟩:=hs.cells i cs0 i2
   refine⟨vs,ty,?_,c2.mapC hf⟩
   rw[hg'];simp only[];rw[hat i1];exact c1
 ·obtain⟨i,b0,i1,i2,i3⟩:=inv hl
  cases b0 with
  | cells cs0=>simp[BC.bS]at i3
  | tree xs0 =>
   simp only[BC.bS,BC.tree.injEq]at i3
   subst i3
   have:=hs.trees i xs i2 r x hx
   rw[hg'];simp only[];rw[hat i1];exact this
 ·obtain⟨i,i1,i2⟩:=foot hb
  rw[eI]
  exact hs.foot i b i2
 ·obtain⟨i,i1,i2⟩:=foot hb
  obtain⟨j,j1,j2⟩:=foot hb'
  have:=hs.apart i j b i2 j2
  subst this
  exact nj hn k k' i i1 j1
 ·obtain⟨i,b0,i1,i2,i3⟩:=inv hl
  cases b0 with
  | cells cs0=>simp[BC.bS]at i3
  | tree xs0 =>
   simp only[BC.bS,BC.tree.injEq]at i3
   subst i3
   rw[hg']at h3 h4
   simp only[]at h3 h4
   rw[hat i1]at h3 h4
   exact hs.apartR i xs r r' b i2 h1 h2 h3 h4
theorem lX {m:Nat} {k:ASt->Prg T} {r:T} (hs:Sim w0 I0 st a ov w) (h:(gi m st k).goes C J r):∃st2,(k st2).goes C J r/\Sim w0 I0 st2 a ov w:=by
 unfold gi at h
 simp only[dR,o0]at h
 cases hc:ie (g8 st)&&(g8 st).length.ble dY&&dY.ble st.boxes.length with
 | false=>rw[hc]at h;exact h.elim
 | true =>
  rw[hc]at h
  simp only[FS]at hc
  exact⟨_,h,tK hc.1.1 hs⟩
theorem sZ (hT:∀t d,E.T t=some d->ba P t d) {f:FuncId} {fn:Func} {nt:Nat} {d:Option Tmp} {K:ASt->Prg T} {e:AEx} {a0:Act} {r:T} (hs:Sim w0 I0 st a (ov++a0.tmps.toList) w) (hnt:a0.tmps.size=nt) (hd:a0.defers=w0.ds)
  (h:(uM E f fn nt d K e st).goes C J r):(e=.normal\/e=.ret)/\∃v,(results fn a.tmps).run P w=.ok v w/\∃st2,(K st2).goes C J r/\Sim w0 I0 st2 (a0.put d v) ov w:=by
 have he:e=.normal\/e=.ret:=by
  cases e with
  | normal=>exact .inl rfl
  | ret=>exact .inr rfl
  | exit i=>exact h.elim
 obtain⟨g,hs⟩:=hs
 refine⟨he,?_⟩
 have h:(match kf E.T st fn.results.toList,oP E.T (E.rts f)with
  | some vs, some ds => bif nt.ble st.out.length then wg ds vs fun v =>
    gi fn.ntmps (ASt.put ⟨st.out.drop (st.out.length-nt),st.boxes,st.out.take (st.out.length-nt)⟩ d v) K else .fail
  | _,_=>.fail).goes C J r:=by rcases he with rfl|rfl<;>exact h
 split at h
 ·rename_i avs ds hav hds
  cases hle:nt.ble st.out.length with
  | false=>rw[hle]at h;exact h.elim
  | true =>
   rw[hle]at h
   simp only[cond_true]at h
   obtain⟨us,hrun,hreps⟩:=km (P:=P) hT hs _ _ hav
   have hm:(results fn a.tmps).run P w=.ok (if h:us.toArray.size=1 then us.toArray[0]else .tuple us.toArray) w:=by
    rw[s8,Array.mapM_eq_mapM_toList,<-bind_pure_comp]
    simp only[Sem.run_bind,hrun,Result.andThen_ok,Sem.run_pure]
   have hol:=hs.olen
   simp only[List.length_append,Array.length_toList,hnt]at hol
   have hk:st.out.length-nt=ov.length:=by omega
   rw[hk]at h
   have hc:al w0 I0 NoR g ⟨st.out.drop ov.length,st.boxes,st.out.take ov.length⟩ a0 ov w:=by
    refine⟨hs.below,hs.sub,hs.lt,hs.old,by simp;omega,hd,fun t v hv=>?_,by simp;omega,fun t v hv=>?_,hs.cells,hs.trees,hs.foot,hs.apart,hs.apartR,hs.res,hs.base,hs.out⟩
    ·simp only[List.getElem?_drop]at hv
     have:=hs.outs (ov.length+t) v hv
     have e1:(ov++a0.tmps.toList).getD (ov.length+t) undef=a0.tmps.getD t undef:=by
      rw[F7,F4 (by omega),Nat.add_sub_cancel_left,FU,F8]
     rw[e1]at this
     exact this
    ·have ht:t<ov.length:=by
      have:=(FP.1 hv).1
      simp at this
      omega
     rw[List.getElem?_take_of_lt ht]at hv
     have:=hs.outs t v hv
     have e1:(ov++a0.tmps.toList).getD t undef=ov.getD t undef:=by
      rw[F7,F3 ht,F7]
     rw[e1]at this
     exact this
   have fin:∀(v:AV) (u:Value),bX w g st.look v u->(gi fn.ntmps (ASt.put ⟨st.out.drop ov.length,st.boxes,st.out.take ov.length⟩ d v) K).goes C J r->∃st2,(K st2).goes C J r/\Sim w0 I0 st2 (a0.put d u) ov w :=
    fun v u hv hk=>lX ⟨g,hc.put d hv⟩ hk
   have hul:=hreps.len
   have many:us.length≠1->(tA ds avs fun l=>gi fn.ntmps (ASt.put ⟨st.out.drop ov.length,st.boxes,st.out.take ov.length⟩ d (.tups l)) K).goes C J r ->
     ∃v,(results fn a.tmps).run P w=.ok v w/\∃st2,(K st2).goes C J r/\Sim w0 I0 st2 (a0.put d v) ov w:=by
    intro hne hk
    obtain⟨l,h1,h2,h3⟩:=qc hreps hk
    refine⟨.tuple us.toArray,by rw[hm,dif_neg (by simpa using hne)],fin (.tups l) _ ⟨us.toArray,rfl,by simp[h2],fun j b c hj=>?_⟩ h1⟩
    have:=h3 j b c hj
    rwa[show us.toArray.getD j undef=us.getD j undef by simp[F7]]
   match avs,hreps,hul,h,many with
   | [],hreps,hul,h,many=>exact many (by simp at hul;simp[hul]) h
   | v::v2::l,hreps,hul,h,many=>exact many (by simp at hul;omega) h
   | [v],hreps,hul,h,many =>
    match us,hreps,hul,hm with
    | [u],hreps,_,hm=>exact⟨u,by simpa using hm,fin v u hreps.1 h⟩
 ·exact h.elim
theorem tq (hs:Sim w0 I0 st a ov w) {ntmps:Nat} {vs:List AV} {vals:Array Value} (hle:vs.length<=ntmps) (hsz:vals.size=vs.length)
  (ks:Option (List Nat)) (hreps:∀g,al w0 I0 (fun _=>False) g st a ov w->∀(j:Nat) (v:AV),vs[j]? = some v->bX w g st.look v (vals.getD j undef)) :
  Sim w0 I0 (jC ntmps vs (j7 ks st)) { tmps:=vals++Array.replicate (ntmps-vals.size) undef,defers:=w0.ds } (ov++a.tmps.toList) w:=by
 obtain⟨g,hs⟩:=hs
 have hreps:=hreps g hs
 replace hs:al w0 I0 (fun _=>False) g (j7 ks st) a ov w:=by
  cases ks with
  | none=>exact hs
  | some ks=>exact un hs
 have hlk0:(j7 ks st).look=st.look:=by cases ks<;>rfl
 rw[<-hlk0]at hreps
 generalize j7 ks st=st at hs hreps ⊢
 have hlk:(jC ntmps vs st).look=st.look:=by
  funext i
  simp only[jC,ASt.look,bi]
  by_cases h:i<st.boxes.length
  ·rw[F3 h]
  ·rw[F4 (by omega),F5 (l:=st.boxes) (by omega),List.getElem?_replicate]
   split<;>rfl
 refine⟨g,hs.below,hs.sub,hs.lt,hs.old,by simp[jC,hsz],rfl,fun t v hv=>?_,?_,fun t v hv=>?_,by rw[hlk];exact hs.cells,by rw[hlk];exact hs.trees,by rw[hlk];exact hs.foot,by rw[hlk];exact hs.apart,by rw[hlk];exact hs.apartR,hs.res,hs.base,hs.out⟩
 ·rw[hlk]
  simp only[jC,List.getElem?_append]at hv
  by_cases ht:t<vs.length
  ·simp only[ht,if_true]at hv
   have:=hreps t v hv
   have hg:(vals++Array.replicate (ntmps-vals.size) undef).getD t undef=vals.getD t undef:=by
    have:t<vals.size:=by omega
    rw[F8,Array.getElem?_append_left this,<-F8]
   show bX w g st.look v ((vals++Array.replicate (ntmps-vals.size) undef).getD t undef)
   rw[hg]
   exact this
  ·simp only[ht,if_false,List.getElem?_replicate]at hv
   split at hv
   ·simp only[FR]at hv
    subst hv
    show(vals++Array.replicate (ntmps-vals.size) undef).getD t undef=undef
    rw[F8,Array.getElem?_append_right (by omega),Array.getElem?_replicate]
    split<;>rfl
   ·cases hv
 ·simp[jC,hs.olen,hs.len]
 ·rw[hlk]
  simp only[jC,List.getElem?_append]at hv
  have hol:=hs.olen
  by_cases ht:t<st.out.length
  ·simp only[ht,if_true]at hv
   have:=hs.outs t v hv
   rwa[show(ov++a.tmps.toList).getD t undef=ov.getD t undef by rw[F7,F3 (by omega),F7]]
  ·simp only[ht,if_false]at hv
   have:=hs.slots (t-st.out.length) v hv
   rwa[show(ov++a.tmps.toList).getD t undef=a.tmps.getD (t-st.out.length) undef by
    rw[F7,F4 (by omega),FU,F8,hol]]
end
section
variable {P:Program} {w0:Bs} {w:World} {I0:Nat->Prop} {g:Gh} {st:ASt} {a:Act} {ov:List Value} {look:Look}
theorem vu:∀{ps:List Tmp} {vs:List AV} {us:List Value} {l:List AV} {t:Array Value},vs.length=us.length->(∀(j:Nat) (v:AV) (u:Value),vs[j]? = some v->us[j]? = some u->bX w g look v u)->l.length=t.size ->
  (∀(j:Nat) (v:AV),l[j]? = some v->bX w g look v (t.getD j undef)) ->
  (jH ps vs l).length=((ps.zip us).foldl (fun t (p,v)=>t.setIfInBounds p v) t).size/\∀(j:Nat) (v:AV),(jH ps vs l)[j]? = some v->bX w g look v (((ps.zip us).foldl (fun t (p,v)=>t.setIfInBounds p v) t).getD j undef)
 | [],vs,us,l,t,hl,hv,hlt,h=>⟨by simpa[jH]using hlt,by simpa[jH]using h⟩
 | p::ps,[],[],l,t,hl,hv,hlt,h=>⟨by simpa[jH]using hlt,by simpa[jH]using h⟩
 | p::ps,[],u::us,l,t,hl,hv,hlt,h=>by cases hl
 | p::ps,v::vs,[],l,t,hl,hv,hlt,h=>by cases hl
 | p :: ps, v :: vs, u :: us, l, t, hl, hv, hlt, h => by
  simp only[jH,List.zip_cons_cons,List.foldl_cons]
  refine vu (by simpa using hl) (fun j v u hj hu=>hv (j+1) v u (by simpa using hj) (by simpa using hu)) (by simpa[ah]using hlt) (fun j x hx=>?_)
  rw[ah,List.getElem?_set]at hx
  by_cases e:p=j
  ·subst e
   have hpl:p<l.length:=by
    rcases Nat.lt_or_ge p l.length with h'|h'
    ·exact h'
    ·simp[Nat.not_lt.2 h']at hx
   simp only[hpl,if_true,FR]at hx
   subst hx
   have:(t.setIfInBounds p u).getD p undef=u:=by
    have:p<t.size:=by rw[<-hlt];exact hpl
    simp[this]
   rw[this]
   exact hv 0 v u rfl rfl
  ·simp only[e,if_false]at hx
   have:(t.setIfInBounds p u).getD j undef=t.getD j undef:=by
    rw[F8,F8,Array.getElem?_setIfInBounds_ne e]
   rw[this]
   exact h j x hx
end
def d6 (P:Program) (ops:Array Oper) (draw:Bool) (ro:Option Nat) (Q:Exit->Act->World->Prop) (j:Nat) (a:Act) (w:World):Prop :=
 match draw with
 | false=>wpOpsIn (Rd ro) 0 P ops Q (List.range' j (ops.size-j)) a w
 | true=>wpAnyIn (Rd ro) 0 P .any ops Q (ops.size-j) (gJ ops.size j) a w
def sm (P:Program) (ops:Array Oper) (draw:Bool) (ro:Option Nat) (Q:Exit->Act->World->Prop) (j:Nat) (o:Oper) (a0:Act) (v:Value) (w':World):Prop :=
 d6 P ops draw ro Q (j+1) (a0.put o.dst v) w'/\(draw=true->dW draw ops.toList j=false->∀(U:List Nat) (c:Oper),ju ops.toList j=some U->zl ops.toList j U c->∀(listed:Array Bool) (a1:Act) (vals:List (Tmp × Value)),listed.size=ops.size->xF ops listed->(∀k,j<=k->k<ops.size->listed.getD k true=false)->(∀q∈unlisted j listed,q∈U)->unlisted j listed≠[] ->
  vals.map (fun p=>some p.1)=d0 ops.toList (unlisted j listed)->a0=uT a1 vals->wpAnyIn (Rd ro) 0 P .any ops Q ((unlisted j listed).length-1+(ops.size-j)) (listed.setIfInBounds j true) (a1.put o.dst v) w')
def ym (P:Program) (fn:Func) (ops:Array Oper) (draw:Bool) (ro:Option Nat) (Q:Exit->Act->World->Prop) (j:Nat) (o:Oper) (a0:Act):Exit->Act->World->Prop :=
 bodyPostM (Rd none) 0 P fn fun e w'=>∃v,e=.returned v/\sm P ops draw ro Q j o a0 v w'
def sK (P:Program) (fn:Func) (Q:Exit->Act->World->Prop) (l:Nat) (a1:Act):Exit->Act->World->Prop :=
 bodyPostM (Rd none) 0 P fn fun e w'=>(∃v,e=.returned v)/\∃w4,(Instr.endLoop l).run P w'=.ok none w4/\Q .normal a1 w4
def iC (P:Program) (ops:Array Oper) (draw:Bool) (ro:Option Nat) (Q:Exit->Act->World->Prop) (j:Nat) (o:Oper) (a1:Act):Ending->World->Prop :=
 fun e w'=>∃v,e=.returned v/\d6 P ops draw ro Q (j+1) (a1.put o.dst v) w'
def pE (P:Program) (l:Nat) (body:Code) (R:Ending->World->Prop):Exit->Act->World->Prop :=
 Exit.then (fun a₁ w₁=>∃w₂,(Instr.beginRound l).run P w₁=.ok () w₂/\body.wpIn (Rd (some l)) 0 P (roundPost P l R) a₁ w₂) (fun _ _ _=>False)
inductive At (P:Program) (L:Opn) (I0:Nat->Prop) (body:Code) (Q0:Exit->Act->World->Prop) (F0:Fr):List Nat->Code->(Exit->Act->World->Prop)->Fr->Prop
 | top:At P L I0 body Q0 F0 [] body Q0 F0
 | seq0 {rp a b Q F}:At P L I0 body Q0 F0 rp (.seq a b) Q F->At P L I0 body Q0 F0 (0::rp) a (Exit.then (b.wpIn (Rd F.ro) 0 P Q) Q) F
 | seq1 {rp a b Q F}:At P L I0 body Q0 F0 rp (.seq a b) Q F->At P L I0 body Q0 F0 (1::rp) b Q F
 | cond0 {rp c a b Q F}:At P L I0 body Q0 F0 rp (.cond c a b) Q F->At P L I0 body Q0 F0 (0::rp) a Q F
 | cond1 {rp c a b Q F}:At P L I0 body Q0 F0 rp (.cond c a b) Q F->At P L I0 body Q0 F0 (1::rp) b Q F
 | block {rp id c Q F}:At P L I0 body Q0 F0 rp (.block id c) Q F->At P L I0 body Q0 F0 (0::rp) c (Exit.inBlock id Q) F
 | loop {rp c Q F}:At P L I0 body Q0 F0 rp (.loop c) Q F->At P L I0 body Q0 F0 (0::rp) c (Exit.then (turns F.ro P c Q) Q) F
 | opn {rp id ops draw Q F y o f fn} (a0 : Act) (B : Bs) : At P L I0 body Q0 F0 rp (.region id ops draw) Q F → ops[y % 1000]? = some o → qo L y o.op = some (f, fn) → a0.tmps.size = F.nt → a0.defers = B.ds → Ext F.W B → (F.ro.isSome = true → B.ds = []) → B.Ok I0 →
   At P L I0 body Q0 F0 ((2*y+2)::rp) (cq fn) (ym P fn ops draw F.ro Q (y%1000) o a0) ⟨F.ov++a0.tmps.toList,fn.ntmps,f,B.noD,F.ys,none⟩
 | rng {rp g ps assign c Q F f fn} (a0 : Act) (B : Bs) (w w1 : World) (l : Nat) (mk : List Deferred) (R : Loop) : At P L I0 body Q0 F0 rp (.rangeFunc g ps assign c) Q F → L.fns f = some fn → a0.tmps.size = F.nt → a0.defers = B.ds → Ext F.W B → (F.ro.isSome = true → B.ds = []) → B.Bel w → B.Ok I0 → Ent w w1 l mk R →
   (F.ro.isSome=true->mk=[])->(R.state=.ready/\R.pending=none)->R.tmps=a0.tmps->R.params=ps->R.assign=assign->R.body=c ->
   At P L I0 body Q0 F0 (f::rp) (cq fn) (sK P fn Q l ⟨a0.tmps,mk++a0.defers⟩) ⟨F.ov++a0.tmps.toList,fn.ntmps,f,B.over w w1 F.ys.length l,F.ys ++ [⟨F.ov.length,F.nt,F.fi,ps,assign,c,false⟩],none⟩
 | yld0 {rp id ops draw Q F m j y o} (a1 : Act) (B : Bs) (R : Loop) : At P L I0 body Q0 F0 rp (.region id ops draw) Q F → ops[j]? = some o → j < 1000 → F.ys[m]? = some y → a1.tmps.size = F.nt → a1.defers = B.ds → Ext F.W B → (F.ro.isSome = true → B.ds = []) → B.Ok I0 →
   B.w.heap[F.W.Y m]? = some (.loop R)->¬B.New (F.W.Y m)->(R.state=.ready/\R.pending=none) ->
   At P L I0 body Q0 F0 (kL 0 m j::rp) y.assign (pE P (F.W.Y m) y.body (iC P ops draw F.ro Q j o a1)) ⟨F.ov++a1.tmps.toList,y.nt,y.fi,B.noD,aY F.ys m,some (F.W.Y m)⟩
 | yld1 {rp id ops draw Q F m j y o} (a1 : Act) (B W : Bs) (R : Loop) : At P L I0 body Q0 F0 rp (.region id ops draw) Q F → ops[j]? = some o → j < 1000 → F.ys[m]? = some y → a1.tmps.size = F.nt → a1.defers = B.ds → Ext F.W B → (F.ro.isSome = true → B.ds = []) → B.Ok I0 →
   Rnd B W (F.W.Y m) R->W.Ok I0 ->
   At P L I0 body Q0 F0 (kL 1 m j::rp) y.body (roundPost P (F.W.Y m) (iC P ops draw F.ro Q j o a1)) ⟨F.ov++a1.tmps.toList,y.nt,y.fi,W,aY F.ys m,some (F.W.Y m)⟩
theorem At.ok {P:Program} {L:Opn} {I0:Nat->Prop} {body:Code} {Q0:Exit->Act->World->Prop} {F0:Fr} (h0:F0.Ok I0) {rp:List Nat} {c:Code} {Q:Exit->Act->World->Prop} {F:Fr} (h:At P L I0 body Q0 F0 rp c Q F):F.Ok I0:=by
 induction h with
 | top=>exact h0
 | seq0 _ ih=>exact ih
 | seq1 _ ih=>exact ih
 | cond0 _ ih=>exact ih
 | cond1 _ ih=>exact ih
 | block _ ih=>exact ih
 | loop _ ih=>exact ih
 | opn a0 B _ _ _ _ _ hE _ hok ih=>exact ih.opn hE hok _ _ _
 | rng a0 B w w1 l mk R _ _ hnt _ hE _ hb hok he _ hR ht hp ha hc ih=>subst hp ha hc;exact ih.over hE hb hok he hR ht hnt _ _
 | yld0 a1 B R _ _ _ hy _ _ hE _ hok _ _ _ ih=>exact ih.yld0 hE hok _ _ _ _ (FP.1 hy).1
 | yld1 a1 B W R _ _ _ hy _ _ hE _ hok hR hWok ih=>exact ih.yld1 hE (FP.1 hy).1 hR hWok _ _ _
def eK (I0:Nat->Prop) (F:Fr) (st:ASt) (a:Act) (w:World):Prop:=∃B,Ext F.W B/\(F.ro.isSome=true->B.ds=[])/\Sim B I0 st a F.ov w
inductive AtF (P:Program) (L:Opn) (I0:Nat->Prop):List Nat->Code->(Exit->Act->World->Prop)->Fr->Code->(Exit->Act->World->Prop)->Fr->Prop
 | here {c Q F}:AtF P L I0 [] c Q F c Q F
 | seq0 {p a b Q F c' Q' F'}:AtF P L I0 p a (Exit.then (b.wpIn (Rd F.ro) 0 P Q) Q) F c' Q' F'->AtF P L I0 (0::p) (.seq a b) Q F c' Q' F'
 | seq1 {p a b Q F c' Q' F'}:AtF P L I0 p b Q F c' Q' F'->AtF P L I0 (1::p) (.seq a b) Q F c' Q' F'
 | cond0 {p c a b Q F c' Q' F'}:AtF P L I0 p a Q F c' Q' F'->AtF P L I0 (0::p) (.cond c a b) Q F c' Q' F'
 | cond1 {p c a b Q F c' Q' F'}:AtF P L I0 p b Q F c' Q' F'->AtF P L I0 (1::p) (.cond c a b) Q F c' Q' F'
 | block {p id c Q F c' Q' F'}:AtF P L I0 p c (Exit.inBlock id Q) F c' Q' F'->AtF P L I0 (0::p) (.block id c) Q F c' Q' F'
 | loop {p c Q F c' Q' F'}:AtF P L I0 p c (Exit.then (turns F.ro P c Q) Q) F c' Q' F'->AtF P L I0 (0::p) (.loop c) Q F c' Q' F'
 | opn {p id ops draw Q F y o f fn c' Q' F'} (a0 : Act) (B : Bs) : ops[y % 1000]? = some o → qo L y o.op = some (f, fn) → a0.tmps.size = F.nt → a0.defers = B.ds → Ext F.W B → (F.ro.isSome = true → B.ds = []) → B.Ok I0 →
   AtF P L I0 p (cq fn) (ym P fn ops draw F.ro Q (y%1000) o a0) ⟨F.ov++a0.tmps.toList,fn.ntmps,f,B.noD,F.ys,none⟩ c' Q' F'->AtF P L I0 ((2*y+2)::p) (.region id ops draw) Q F c' Q' F'
 | rng {p g ps assign c Q F f fn c' Q' F'} (a0 : Act) (B : Bs) (w w1 : World) (l : Nat) (mk : List Deferred) (R : Loop) : L.fns f = some fn → a0.tmps.size = F.nt → a0.defers = B.ds → Ext F.W B → (F.ro.isSome = true → B.ds = []) → B.Bel w → B.Ok I0 → Ent w w1 l mk R →
   (F.ro.isSome=true->mk=[])->(R.state=.ready/\R.pending=none)->R.tmps=a0.tmps->R.params=ps->R.assign=assign->R.body=c ->
   AtF P L I0 p (cq fn) (sK P fn Q l ⟨a0.tmps,mk++a0.defers⟩) ⟨F.ov++a0.tmps.toList,fn.ntmps,f,B.over w w1 F.ys.length l,F.ys ++ [⟨F.ov.length,F.nt,F.fi,ps,assign,c,false⟩],none⟩ c' Q' F' ->
   AtF P L I0 (f::p) (.rangeFunc g ps assign c) Q F c' Q' F'
 | yld0 {p id ops draw Q F m j y o c' Q' F'} (a1 : Act) (B : Bs) (R : Loop) : ops[j]? = some o → j < 1000 → F.ys[m]? = some y → a1.tmps.size = F.nt → a1.defers = B.ds → Ext F.W B → (F.ro.isSome = true → B.ds = []) → B.Ok I0 →
   B.w.heap[F.W.Y m]? = some (.loop R)->¬B.New (F.W.Y m)->(R.state=.ready/\R.pending=none) ->
   AtF P L I0 p y.assign (pE P (F.W.Y m) y.body (iC P ops draw F.ro Q j o a1)) ⟨F.ov++a1.tmps.toList,y.nt,y.fi,B.noD,aY F.ys m,some (F.W.Y m)⟩ c' Q' F'->AtF P L I0 (kL 0 m j::p) (.region id ops draw) Q F c' Q' F'
 | yld1 {p id ops draw Q F m j y o c' Q' F'} (a1 : Act) (B W : Bs) (R : Loop) : ops[j]? = some o → j < 1000 → F.ys[m]? = some y → a1.tmps.size = F.nt → a1.defers = B.ds → Ext F.W B → (F.ro.isSome = true → B.ds = []) → B.Ok I0 →
   Rnd B W (F.W.Y m) R->W.Ok I0 ->
   AtF P L I0 p y.body (roundPost P (F.W.Y m) (iC P ops draw F.ro Q j o a1)) ⟨F.ov++a1.tmps.toList,y.nt,y.fi,W,aY F.ys m,some (F.W.Y m)⟩ c' Q' F'->AtF P L I0 (kL 1 m j::p) (.region id ops draw) Q F c' Q' F'
theorem AtF.trans {P:Program} {L:Opn} {I0:Nat->Prop} {p q:List Nat} {c c1 c2:Code} {Q Q1 Q2:Exit->Act->World->Prop} {F F1 F2:Fr} (h:AtF P L I0 p c Q F c1 Q1 F1) (h':AtF P L I0 q c1 Q1 F1 c2 Q2 F2):AtF P L I0 (p++q) c Q F c2 Q2 F2:=by
 induction h with
 | here=>exact h'
 | seq0 _ ih=>exact .seq0 (ih h')
 | seq1 _ ih=>exact .seq1 (ih h')
 | cond0 _ ih=>exact .cond0 (ih h')
 | cond1 _ ih=>exact .cond1 (ih h')
 | block _ ih=>exact .block (ih h')
 | loop _ ih=>exact .loop (ih h')
 | opn a0 B h1 h2 h3 h4 h5 h6 h7 _ ih=>exact .opn a0 B h1 h2 h3 h4 h5 h6 h7 (ih h')
 | rng a0 B w w1 l mk R h1 h2 h3 h4 h5 h6 h7 h8 h9 h10 h11 h12 h13 h14 _ ih=>exact .rng a0 B w w1 l mk R h1 h2 h3 h4 h5 h6 h7 h8 h9 h10 h11 h12 h13 h14 (ih h')
 | yld0 a1 B R h1 h2 h3 h4 h5 h6 h7 h8 h9 h10 h11 _ ih=>exact .yld0 a1 B R h1 h2 h3 h4 h5 h6 h7 h8 h9 h10 h11 (ih h')
 | yld1 a1 B W R h1 h2 h3 h4 h5 h6 h7 h8 h9 h10 _ ih=>exact .yld1 a1 B W R h1 h2 h3 h4 h5 h6 h7 h8 h9 h10 (ih h')
theorem At.toF {P:Program} {L:Opn} {I0:Nat->Prop} {body:Code} {Q0:Exit->Act->World->Prop} {F0:Fr} {rp:List Nat} {c:Code} {Q:Exit->Act->World->Prop} {F:Fr} (h:At P L I0 body Q0 F0 rp c Q F):AtF P L I0 rp.reverse body Q0 F0 c Q F:=by
 induction h with
 | top=>exact .here
 | seq0 _ ih=>rw[List.reverse_cons];exact ih.trans (.seq0 .here)
 | seq1 _ ih=>rw[List.reverse_cons];exact ih.trans (.seq1 .here)
 | cond0 _ ih=>rw[List.reverse_cons];exact ih.trans (.cond0 .here)
 | cond1 _ ih=>rw[List.reverse_cons];exact ih.trans (.cond1 .here)
 | block _ ih=>rw[List.reverse_cons];exact ih.trans (.block .here)
 | loop _ ih=>rw[List.reverse_cons];exact ih.trans (.loop .here)
 | opn a0 B _ h1 h2 h3 h4 h5 h6 h7 ih=>rw[List.reverse_cons];exact ih.trans (.opn a0 B h1 h2 h3 h4 h5 h6 h7 .here)
 | rng a0 B w w1 l mk R _ h1 h2 h3 h4 h5 h6 h7 h8 h9 h10 h11 h12 h13 h14 ih=>rw[List.reverse_cons];exact ih.trans (.rng a0 B w w1 l mk R h1 h2 h3 h4 h5 h6 h7 h8 h9 h10 h11 h12 h13 h14 .here)
 | yld0 a1 B R _ h1 h2 h3 h4 h5 h6 h7 h8 h9 h10 h11 ih=>rw[List.reverse_cons];exact ih.trans (.yld0 a1 B R h1 h2 h3 h4 h5 h6 h7 h8 h9 h10 h11 .here)
 | yld1 a1 B W R _ h1 h2 h3 h4 h5 h6 h7 h8 h9 h10 ih=>rw[List.reverse_cons];exact ih.trans (.yld1 a1 B W R h1 h2 h3 h4 h5 h6 h7 h8 h9 h10 .here)
def Fz (P:Program) (t:TypeId) (name:String) (f:FuncId) (d:Bool):Prop :=
 ∀(w:World) (p:Addr) (v:Value),p.spot=none->(d=true->w.cell? p=some v)->(method (P.types.size+Made.depth) t (.pointer (some p)) name).run P w=.ok (f,if d=true then v else .pointer (some p)) w
structure pY (P:Program) (L:Opn):Prop where
 fn : ∀ f fn, L.fns f = some fn → P.funcs[f]? = some fn ∧ (fn.name == "runtime.NumGoroutine") = false ∧ fn.body.isSome = true
 mth:∀t name f d,L.mth t name=some (f,d)->Fz P t name f d
section
variable {P:Program} {E:Env} {C:Cal} {G0:Laid} {I0:Nat->Prop} {R:Type} {J:List Nat->ASt->R->Prop} {r:R} {L:Opn} {body:Code} {Q0:Exit->Act->World->Prop} {F0:Fr}
theorem At.gl (h0:F0.W.G=G0) {rp:List Nat} {c:Code} {Q:Exit->Act->World->Prop} {F:Fr} (h:At P L I0 body Q0 F0 rp c Q F):F.W.G=G0:=by
 induction h with
 | top=>exact h0
 | seq0 _ ih=>exact ih
 | seq1 _ ih=>exact ih
 | cond0 _ ih=>exact ih
 | cond1 _ ih=>exact ih
 | block _ ih=>exact ih
 | loop _ ih=>exact ih
 | opn a0 B _ _ _ _ _ hE _ _ ih=>exact hE.G.trans ih
 | rng a0 B w w1 l mk R _ _ _ _ hE _ _ _ _ _ _ _ _ _ _ ih=>exact hE.G.trans ih
 | yld0 a1 B R _ _ _ _ _ _ hE _ _ _ _ _ ih=>exact hE.G.trans ih
 | yld1 a1 B W R _ _ _ _ _ _ hE _ _ hR _ ih=>exact hR.G.trans (hE.G.trans ih)
abbrev JOk (P:Program) (L:Opn) (I0:Nat->Prop) (body:Code) (Q0:Exit->Act->World->Prop) (F0:Fr) (J:List Nat->ASt->R->Prop) (r:R):Prop :=
 ∀rp c Q F st a w,At P L I0 body Q0 F0 rp c Q F->J rp st r->eK I0 F st a w->c.wpIn (Rd F.ro) 0 P Q a w
abbrev qp (P:Program) (E:Env) (C:Cal) (L:Opn) (I0:Nat->Prop) (body:Code) (Q0:Exit->Act->World->Prop) (F0:Fr) (J:List Nat->ASt->R->Prop) (r:R) (n:Nat):Prop :=
 ∀rp id ops draw (K:ASt->Prg R) Q F st a w,At P L I0 body Q0 F0 rp (.region id ops draw) Q F->(dJ E L n F.nt F.fi F.ys id rp ops.toList draw K st).goes C J r->eK I0 F st a w ->
  (∀st' a w,(K st').goes C J r->eK I0 F st' a w->Q .normal a w)->(Code.region id ops draw).wpIn (Rd F.ro) 0 P Q a w
abbrev nG (P:Program) (E:Env) (C:Cal) (L:Opn) (I0:Nat->Prop) (body:Code) (Q0:Exit->Act->World->Prop) (F0:Fr) (J:List Nat->ASt->R->Prop) (r:R) (n:Nat):Prop :=
 ∀rp g ps assign c (K:ASt->Prg R) Q F st a w,At P L I0 body Q0 F0 rp (.rangeFunc g ps assign c) Q F->(dA E L n F.nt F.fi F.ys rp g ps assign c K st).goes C J r->eK I0 F st a w ->
  (∀st' a w,(K st').goes C J r->eK I0 F st' a w->Q .normal a w)->(Code.rangeFunc g ps assign c).wpIn (Rd F.ro) 0 P Q a w
theorem cb {n:Nat} (hR:qp P E C L I0 body Q0 F0 J r n) (hG:nG P E C L I0 body Q0 F0 J r n) (hJ:JOk P L I0 body Q0 F0 J r) {F:Fr}:∀(c:Code) (rp:List Nat) (K:AEx->ASt->Prg R) (Q:Exit->Act->World->Prop) (st:ASt) (a:Act) (w:World),At P L I0 body Q0 F0 rp c Q F ->
  (dv E (dJ E L n F.nt F.fi F.ys) (dA E L n F.nt F.fi F.ys) (L.ann F.fi) (L.jn F.fi) rp c K st).goes C J r->eK I0 F st a w->(∀e st' a w,(K e st').goes C J r->eK I0 F st' a w->Q (kP e) a w)->c.wpIn (Rd F.ro) 0 P Q a w
 | .skip,rp,K,Q,st,a,w,hat,h,hs,hQ=>wpIn_skip (hQ .normal st a w h hs)
 | .region id ops draw,rp,K,Q,st,a,w,hat,h,hs,hQ=>by
  obtain⟨B,hE,hm,hs1⟩:=hs
  obtain⟨st1,h1,hs1⟩:=B8 hs1 h
  exact hR rp id ops draw _ Q F st1 a w hat h1 ⟨B,hE,hm,hs1⟩ (fun st' a w hk hs'=>hQ .normal st' a w hk hs')
 | .seq x y, rp, K, Q, st, a, w, hat, h, hs, hQ => by
  refine wpIn_seq (cb hR hG hJ x (0::rp) _ _ st a w hat.seq0 h hs (fun e st' a' w' hk hs'=>?_))
  cases e with
  | normal =>
   simp only[qq]at hk
   cases han:io (L.jn F.fi) y with
   | none =>
    rw[han]at hk
    exact cb hR hG hJ y (1::rp) K Q st' a' w' hat.seq1 hk hs' hQ
   | some an =>
    rw[han]at hk
    obtain⟨B,hE,hm,hs'⟩:=hs'
    obtain⟨st2,h2,hs2⟩:=kS hs' hk
    exact hJ (1::rp) y Q _ st2 a' w' hat.seq1 h2 ⟨B,hE,hm,hs2⟩
  | ret=>exact hQ .ret st' a' w' hk hs'
  | exit id=>exact hQ (.exit id) st' a' w' hk hs'
 | .cond c x y, rp, K, Q, st, a, w, hat, h, hs, hQ => by
  simp only[dv]at h
  have hs0:=hs
  obtain⟨B,hE,hm,hs1⟩:=hs
  have hev:bX w hs1.choose st.look (st.ev c) (a.eval c):=hs1.choose_spec.ev c
  split at h
  ·rename_i v hv
   rw[hv]at hev
   have hcv:a.eval c=.bool v:=hev
   refine wpIn_cond hcv ?_
   cases v with
   | true=>exact cb hR hG hJ x (0::rp) K Q st a w hat.cond0 h hs0 hQ
   | false=>exact cb hR hG hJ y (1::rp) K Q st a w hat.cond1 h hs0 hQ
  ·split at h
   ·rename_i v hv
    obtain⟨b,hb,h⟩:=h
    have:=qr hb
    subst this
    have hcv:a.eval c=.bool b:=bM (cG hev hv)
    refine wpIn_cond hcv ?_
    rcases h with⟨rfl,h⟩|⟨rfl,h⟩
    ·exact cb hR hG hJ x (0::rp) K Q st a w hat.cond0 h hs0 hQ
    ·exact cb hR hG hJ y (1::rp) K Q st a w hat.cond1 h hs0 hQ
   ·exact h.elim
 | .block id c, rp, K, Q, st, a, w, hat, h, hs, hQ => by
  refine wpIn_block (cb hR hG hJ c (0::rp) _ _ st a w hat.block h hs (fun e st' a' w' hk hs'=>?_))
  cases e with
  | normal=>exact hQ .normal st' a' w' hk hs'
  | ret=>exact hQ .ret st' a' w' hk hs'
  | exit i =>
   simp only[lJ]at hk
   simp only[kP,Exit.inBlock]
   cases hb:i.beq id with
   | true =>
    simp only[hb,cond_true]at hk
    rw[if_pos ((az _ _).1 hb)]
    exact hQ .normal st' a' w' hk hs'
   | false =>
    simp only[hb,cond_false]at hk
    rw[if_neg (fun e=>by subst e;simp at hb)]
    exact hQ (.exit i) st' a' w' hk hs'
 | .loop c, rp, K, Q, st, a, w, hat, h, hs, hQ => by
  simp only[dv,uQ]at h
  cases han:io (L.ann F.fi) c with
  | none=>rw[han]at h;exact h.elim
  | some an =>
   rw[han]at h
   obtain⟨B,hE,hm,hs⟩:=hs
   obtain⟨st2,h2,hs2⟩:=kS hs h
   exact tV (yp (hJ (0::rp) c _ _ st2 a w hat.loop h2 ⟨B,hE,hm,hs2⟩))
 | .exit id,rp,K,Q,st,a,w,hat,h,hs,hQ=>wpIn_exit (hQ (.exit id) st a w h hs)
 | .ret,rp,K,Q,st,a,w,hat,h,hs,hQ=>wpIn_ret (hQ .ret st a w h hs)
 | .rangeFunc g ps assign c,rp,K,Q,st,a,w,hat,h,hs,hQ=>hG rp g ps assign c _ Q F st a w hat h hs (fun st' a w hk hs'=>hQ .normal st' a w hk hs')
 | .scope _,rp,K,Q,st,a,w,hat,h,hs,hQ=>h.elim
 | .label _,rp,K,Q,st,a,w,hat,h,hs,hQ=>h.elim
 | .goto _,rp,K,Q,st,a,w,hat,h,hs,hQ=>h.elim
 | .refuse _,rp,K,Q,st,a,w,hat,h,hs,hQ=>h.elim
theorem qv {v:Value} {f:FuncId} {cs:List CA} (h:vQ v=some (f,cs)):v=.func (.func f) #[] #[]/\cs=[]:=by
 unfold vQ at h
 split at h
 ·rename_i f' ts us
  cases hb:(ts.size.beq 0&&us.size.beq 0)with
  | false=>rw[hb]at h;cases h
  | true =>
   rw[hb]at h
   simp only[FS]at hb
   obtain rfl:=Array.size_eq_zero_iff.mp (Nat.eq_of_beq_eq_true hb.1)
   obtain rfl:=Array.size_eq_zero_iff.mp (Nat.eq_of_beq_eq_true hb.2)
   simp only[cond_true,FR,Prod.mk.injEq]at h
   exact⟨by rw[h.1],h.2.symm⟩
 ·cases h
theorem zY {v:AV} {f:FuncId} {cs:List CA} {w:World} {g:Gh} {look:Look} {u:Value} (h:v.vD=some (f,cs)) (hv:bX w g look v u):∃vs:Array Value,u=.func (.func f) #[] vs/\CR w g look cs vs.toList:=by
 cases v with
 | clo f' cs' =>
  simp only[AV.vD,FR,Prod.mk.injEq]at h
  obtain⟨rfl,rfl⟩:=h
  exact hv
 | one c =>
  cases c with
  | fn1 f' i =>
   simp only[AV.vD,FR,Prod.mk.injEq]at h
   obtain⟨rfl,rfl⟩:=h
   obtain⟨cs,hl,hu⟩:=hv
   refine⟨_,hu,rfl,fun j c u hc hu=>?_⟩
   cases j with
   | zero =>
    simp at hc hu
    subst hc hu
    exact⟨⟨cs,hl,rfl⟩,rfl⟩
   | succ j=>simp at hc
  | t x =>
   cases x with
   | lit v =>
    obtain⟨rfl,rfl⟩:=qv h
    obtain⟨hv,_⟩:=hv
    cases hv
    exact⟨#[],rfl,rfl,fun j c u hc _=>by simp at hc⟩
   | _=>cases h
  | _=>cases h
 | tv x =>
  cases x with
  | lit v =>
   obtain⟨rfl,rfl⟩:=qv h
   cases(show Rep _ _ _ _ from hv)
   exact⟨#[],rfl,rfl,fun j c u hc _=>by simp at hc⟩
  | _=>cases h
 | _=>cases h
theorem ng {st:ASt} {j y:Nat} {o:Op} {f:FuncId} {fn:Func} {rv:List AV} {cap:List CA} (h:ss L st j o=some (y,f,fn,rv,cap)):L.fns f=some fn /\
  ((∃ args tys, o = .call ⟨.value (.func f), args, tys⟩ ∧ y = j ∧ rv = [] ∧ cap = []) ∨ (∃ t args tys, o = .call ⟨.value (.tmp t), args, tys⟩ ∧ y = (f + 1) * 1000 + j ∧ rv = [] ∧ (nth (.one .junk) st.slots t).vD = some (f, cap)) ∨
   ∃t nm args tys ty i d r,o=.call ⟨.invoke (.tmp t) nm,args,tys⟩/\y=(f+1)*1000+j/\rv=[r]/\cap=[]/\nth (.one .junk) st.slots t=.one (.ifp ty i)/\L.mth ty nm=some (f,d)/\vT st i d=some r):=by
 unfold ss at h
 split at h
 ·rename_i f' args tys
  split at h
  ·rename_i fn' hf
   simp only[FR,Prod.mk.injEq]at h
   obtain⟨rfl,rfl,rfl,rfl,rfl⟩:=h
   exact⟨hf,.inl ⟨args,tys,rfl,rfl,rfl,rfl⟩⟩
  ·cases h
 ·rename_i t args tys
  split at h
  ·rename_i f' cs hv
   split at h
   ·rename_i fn' hf
    simp only[FR,Prod.mk.injEq]at h
    obtain⟨rfl,rfl,rfl,rfl,rfl⟩:=h
    exact⟨hf,.inr (.inl ⟨t,args,tys,rfl,rfl,rfl,hv⟩)⟩
   ·cases h
  ·cases h
 ·rename_i t nm args tys
  split at h
  ·rename_i f' r hv
   split at h
   ·rename_i fn' hf
    simp only[FR,Prod.mk.injEq]at h
    obtain⟨rfl,rfl,rfl,rfl,rfl⟩:=h
    unfold FG at hv
    split at hv
    ·rename_i ty i heq
     split at hv
     ·rename_i f2 d hm
      split at hv
      ·rename_i r2 hr
       simp only[FR,Prod.mk.injEq]at hv
       obtain⟨rfl,rfl⟩:=hv
       exact⟨hf,.inr (.inr ⟨t,nm,args,tys,ty,i,d,_,rfl,rfl,rfl,rfl,heq,hm,hr⟩)⟩
      ·cases hv
     ·cases hv
    ·cases hv
   ·cases h
  ·cases h
 ·cases h
theorem DA {st:ASt} {j y:Nat} {o:Op} {f:FuncId} {fn:Func} {rv:List AV} {cap:List CA} (h:ss L st j o=some (y,f,fn,rv,cap)) (hj:j<1000):y%1000=j/\qo L y o=some (f,fn):=by
 have hm:((f+1)*1000+j)%1000=j:=by rw[Nat.add_comm,Nat.add_mul_mod_self_right];exact Nat.mod_eq_of_lt hj
 have hd:((f+1)*1000+j) / 1000=f+1:=by rw[Nat.add_comm,Nat.add_mul_div_right _ _ (by decide),Nat.div_eq_of_lt hj,Nat.zero_add]
 obtain⟨hf,⟨args,tys,rfl,rfl,_⟩|⟨t,args,tys,rfl,rfl,_⟩|⟨t,nm,args,tys,ty,i,d,r,rfl,rfl,_⟩⟩:=ng h
 ·refine⟨Nat.mod_eq_of_lt hj,?_⟩
  simp only[qo,hf,lV hj,cond_true]
 ·exact⟨hm,by simp only[qo,hd,hf]⟩
 ·exact⟨hm,by simp only[qo,hd,hf]⟩
theorem xN {c:CA} {cs:List CA} {vs:Array Value} {w:World} {g:Gh} {look:Look} {b:Nat} {ty:TypeId} (hheap:w.heap[b]? = some (.cells vs ty (0,0))) (hcr:CR w g look [c] vs.toList):∃u,w.cell? ⟨b,0,none⟩=some u/\bW w g look c u:=by
 have h1:vs.size=1:=by simpa using hcr.1
 have h2:vs.toList[0]? = some (vs.getD 0 undef):=by rw[FU,Array.getElem?_eq_getElem (by omega)];simp[h1]
 refine⟨_,?_,(hcr.2 0 c _ rfl h2).1⟩
 rw[cell_of_row w b 0 vs ty (0,0) hheap,<-FU]
 exact h2
def xM (P:Program) (I0:Nat->Prop) (st:ASt) (a:Act) (ov:List Value) (w:World) (B:Bs) (o:Oper) (f:FuncId) (rv:List AV) (cap:List CA):Prop :=
  ∃(vals:Array Value) (x:Operand) (xs:List Operand),o.op.operands.toList=x::xs/\vals.size=rv.length+xs.length+cap.length/\(∀c,o.op≠.defer c) /\
   (∀a1:Act,(∀z∈o.op.operands.toList,a1.eval z=a.eval z)->(execOp a1.eval o).run P w=.ok (.enter f vals) w) /\
   ∀g,al B I0 (fun _=>False) g st a ov w->∀(k:Nat) (v:AV),(rv++xs.map st.ev++cap.map AV.one)[k]? = some v->bX w g st.look v (vals.getD k undef)
theorem Ca (hL:pY P L) {st:ASt} {a:Act} {ov:List Value} {w:World} {B:Bs} {j y:Nat} {o:Oper} {f:FuncId} {fn:Func} {rv:List AV} {cap:List CA} (hof:ss L st j o.op=some (y,f,fn,rv,cap)) (hs:Sim B I0 st a ov w) :
  xM P I0 st a ov w B o f rv cap:=by
 obtain⟨hfn,hcal⟩:=ng hof
 obtain⟨h1,h2,h3⟩:=hL.fn f fn hfn
 obtain⟨c',hb⟩:∃c,fn.body=some c:=by
  cases hb:fn.body with
  | none=>rw[hb]at h3;cases h3
  | some c=>exact⟨c,rfl⟩
 have hcf:∀vals:Array Value,(callFunc f vals).run P w=.ok (.enter f vals) w:=fun vals=>by
  simp only[callFunc,Sem.run_bind,run_program,Result.andThen_ok,h1,h2,hb]
  simp
 have rargs:∀g,al B I0 (fun _=>False) g st a ov w->∀(args:Array Operand) (k:Nat) (v:AV),(args.toList.map st.ev)[k]? = some v->bX w g st.look v ((args.map a.eval).getD k undef):=fun g hs args k v hv=>by
  rw[FW]at hv
  cases hj:args.toList[k]? with
  | none=>rw[hj]at hv;cases hv
  | some x =>
   rw[hj]at hv
   simp only[F6,FR]at hv
   subst hv
   have:(args.map a.eval).getD k undef=a.eval x:=by
    rw[FU]at hj
    rw[F8,Array.getElem?_map,hj];rfl
   rw[this]
   have h5:=hs.ev x
   cases x<;>exact h5
 have val : ∀ (c : Operand) (args : Array Operand) (tys : Array TypeId) (cv : Array Value), o.op = .call ⟨.value c, args, tys⟩ → a.eval c = .func (.func f) #[] cv → rv = [] → cv.size = cap.length →
   (∀g,al B I0 (fun _=>False) g st a ov w->∀(k:Nat) (c:CA),cap[k]? = some c->bW w g st.look c (cv.getD k undef))->xM P I0 st a ov w B o f rv cap:=by
  intro c args tys cv hop hev hrv hcv hcap
  refine⟨args.map a.eval++cv,c,args.toList,by rw[hop];simp[Op.operands,Call.operands],by rw[hrv];simp[hcv],(fun q hq=>by rw[hop]at hq;cases hq),fun a1 hev1=>?_,fun g hs k v hv=>?_⟩
  ·have e1:a1.eval c=a.eval c:=hev1 c (by rw[hop];simp[Op.operands,Call.operands])
   have e2:args.map a1.eval=args.map a.eval:=Array.map_congr_left fun z hz=>hev1 z (by rw[hop];simp[Op.operands,Call.operands];exact .inr hz)
   obtain⟨dst,op,type,pos,after,guard⟩:=o
   simp only at hop
   subst hop
   simp only[execOp,resolve,e1,e2,hev,Deferred.ofValue,Sem.run_bind,Sem.run_pure,Result.andThen_ok,invoke]
   simpa using hcf _
  ·rw [hrv, List.nil_append] at hv
   rcases Nat.lt_or_ge k args.size with hja|hja
   ·rw[F3 (by simpa using hja)]at hv
    have:=rargs g hs args k v hv
    rwa[F8,Array.getElem?_append_left (by simpa using hja),<-F8]
   ·rw[F4 (by simpa using hja),FW]at hv
    simp only[List.length_map,Array.length_toList]at hv
    cases hj:cap[k-args.size]? with
    | none=>rw[hj]at hv;cases hv
    | some x =>
     rw[hj]at hv
     simp only[F6,FR]at hv
     subst hv
     have:(args.map a.eval++cv).getD k undef=cv.getD (k-args.size) undef:=by
      rw[F8,Array.getElem?_append_right (by simpa using hja),F8]
      simp
     rw[this]
     exact hcap g hs _ x hj
 rcases hcal with⟨args,tys,hop,_,hrv,rfl⟩|⟨t,args,tys,hop,_,hrv,hv⟩|⟨t,nm,args,tys,ty,i,d,r,hop,_,hrv,hcap,hv,hm,hr⟩
 ·exact val (.func f) args tys #[] hop rfl hrv rfl (fun g hs k c hc=>by simp at hc)
 ·have key:∀g,al B I0 (fun _=>False) g st a ov w->∃vs:Array Value,a.eval (.tmp t)=.func (.func f) #[] vs/\CR w g st.look cap vs.toList:=fun g hs=>zY hv (hs.ev (.tmp t))
  obtain⟨g0,hs0⟩:=hs
  obtain⟨cv,h1,h2⟩:=key g0 hs0
  refine val (.tmp t) args tys cv hop h1 hrv (by simpa using h2.1) (fun g hs k c hc=>?_)
  obtain⟨cv',h1',h2'⟩:=key g hs
  rw[h1]at h1'
  simp only[Value.func.injEq,true_and]at h1'
  subst h1'
  have hk:k<cv.size:=by
   have:=(FP.1 hc).1
   have:=h2'.1
   simp at this
   omega
  have:=(h2'.2 k c cv[k] hc (by simp[hk])).1
  rwa[F8,Array.getElem?_eq_getElem hk]
 ·-- a method
  have hmo:=hL.mth ty nm f d hm
  have hev:∀g,al B I0 (fun _=>False) g st a ov w->∃cs,st.look i=some (.cells cs)/\a.eval (.tmp t)=.iface ty (.pointer (some ⟨g.β i,0,none⟩)):=fun g hs=>by
   have:=hs.ev (.tmp t)
   rw[show st.ev (.tmp t)=.one (.ifp ty i) from hv]at this
   exact this
  have hrecv : ∃ u, (∀ p : Addr, (∃ g, al B I0 (fun _ => False) g st a ov w ∧ p = ⟨g.β i, 0, none⟩) → (method (P.types.size + Made.depth) ty (.pointer (some p)) nm).run P w = .ok (f, u) w) ∧ ∀ g, al B I0 (fun _ => False) g st a ov w → bX w g st.look r u := by
   obtain⟨g0,hs0⟩:=hs
   obtain⟨cs0,hl0,he0⟩:=hev g0 hs0
   have hβ:∀g,al B I0 (fun _=>False) g st a ov w->g.β i=g0.β i:=fun g hs=>by
    obtain⟨_,_,he⟩:=hev g hs
    rw[he0]at he
    simp only[Value.iface.injEq,Value.pointer.injEq,FR,Addr.mk.injEq,true_and,and_true]at he
    exact he.symm
   cases d with
   | false =>
    simp only[vT,FR]at hr
    subst hr
    refine⟨.pointer (some ⟨g0.β i,0,none⟩),fun p ⟨g,hs,hp⟩=>?_,fun g hs=>?_⟩
    ·rw[hp,hβ g hs]
     exact hmo w _ undef rfl (fun h=>by cases h)
    ·exact⟨cs0,hl0,by rw[hβ g hs]⟩
   | true =>
    simp only[vT,hl0]at hr
    split at hr
    ·rename_i c heq
     cases heq
     cases hk:c.kept with
     | false=>rw[hk]at hr;cases hr
     | true =>
      rw[hk]at hr
      simp only[cond_true,FR]at hr
      subst hr
      obtain⟨vs,tv,hheap,hcr⟩:=hs0.cells i _ hl0
      obtain⟨u,hu,hru⟩:=xN (cs:=[]) hheap hcr
      refine⟨u,fun p ⟨g,hs,hp⟩=>?_,fun g hs=>?_⟩
      ·rw[hp,hβ g hs]
       have:=hmo w ⟨g0.β i,0,none⟩ u rfl (fun _=>hu)
       simpa using this
      ·obtain⟨vs',tv',hheap',hcr'⟩:=hs.cells i _ hl0
       obtain⟨u',hu',hru'⟩:=xN (cs:=[]) hheap' hcr'
       rw[hβ g hs,hu]at hu'
       cases hu'
       exact hru'
    ·cases hr
  obtain⟨u,hmr,hrr⟩:=hrecv
  refine⟨#[u]++args.map a.eval,.tmp t,args.toList,by rw[hop];simp[Op.operands,Call.operands],by rw[hrv,hcap];simp[Nat.add_comm],(fun q hq=>by rw[hop]at hq;cases hq),fun a1 hev1=>?_,fun g hs k v hk=>?_⟩
  ·have e1:a1.eval (.tmp t)=a.eval (.tmp t):=hev1 _ (by rw[hop];simp[Op.operands,Call.operands])
   have e2:args.map a1.eval=args.map a.eval:=Array.map_congr_left fun z hz=>hev1 z (by rw[hop];simp[Op.operands,Call.operands];exact .inr hz)
   obtain⟨g0,hs0⟩:=hs
   obtain⟨cs0,hl0,he0⟩:=hev g0 hs0
   have hmr0:=hmr _ ⟨g0,hs0,rfl⟩
   obtain⟨dst,op,type,pos,after,guard⟩:=o
   simp only at hop
   subst hop
   have hcm:(callMethod (.iface ty (.pointer (some ⟨g0.β i,0,none⟩))) nm (args.map a.eval)).run P w=.ok (.enter f (#[u]++args.map a.eval)) w:=by
    simp only[callMethod,Sem.run_bind,run_program,Result.andThen_ok,hmr0]
    exact hcf _
   have e3:∀q:Value,(#[q]++args.map a.eval)[0]? = some q:=fun q=>by rw[Array.getElem?_append_left (by simp)];rfl
   have e4:∀q:Value,(#[q]++args.map a.eval).extract 1 (#[q]++args.map a.eval).size=args.map a.eval:=fun q=>by
    apply Array.ext
    ·simp
    ·intro k h1 h2
     rw[Array.getElem_extract,Array.getElem_append_right (by simp)]
     simp
   simp only[execOp,resolve,e1,e2,he0,Sem.run_bind,Sem.run_pure,Result.andThen_ok,invoke,e3,e4]
   exact hcm
  ·rw[hrv,hcap]at hk
   cases k with
   | zero =>
    simp at hk
    subst hk
    have:(#[u]++args.map a.eval).getD 0 undef=u:=by rw[F8,Array.getElem?_append_left (by simp)];rfl
    rw[this]
    exact hrr g hs
   | succ k =>
    have hk:(args.toList.map st.ev)[k]? = some v:=by simpa using hk
    have:(#[u]++args.map a.eval).getD (k+1) undef=(args.map a.eval).getD k undef:=by
     rw[F8,Array.getElem?_append_right (by simp),F8]
     simp
    rw[this]
    exact rargs g hs args k v hk
theorem nW {fn:Func} {F:Fr} (hF:F.Ok I0) {Z:Ending->World->Prop} {st:ASt} {a:Act} {w:World} {e:AEx} (he:e=.normal\/e=.ret) (hs:eK I0 F st a w)
  (hZ:∀w2 B2,Ext F.W B2->B2.ds=[]->Sim B2 I0 st { tmps:=a.tmps,defers:=[] } F.ov w2->∃v,(results fn a.tmps).run P w2=.ok v w2/\Z (.returned v) w2):bodyPostM (Rd none) 0 P fn Z (kP e) a w:=by
 obtain⟨B,hE,_,hs⟩:=hs
 have hd:a.defers=B.ds:=by obtain⟨g,hs⟩:=hs;exact hs.defers
 have key:LeavesInM (Rd none) 0 P fn a.tmps Z a.defers .returning w:=by
  rw[hd]
  refine qB hF.ok B.ds B w rfl hE ?_ hZ
  rw[<-hd]
  exact hs
 rcases he with rfl|rfl<;>exact key
theorem yu {F:Fr} {B B2:Bs} {st:ASt} {t:Array Value} {ov:List Value} {w:World} (hok:B.Ok I0) (hE:Ext B.noD B2) (h2:B2.ds=[]) (hs:Sim B2 I0 st { tmps:=t,defers:=[] } ov w):Sim B I0 st { tmps:=t,defers:=B.ds } ov w:=by
 have hb:B2.Bel w:=by obtain⟨g,hs⟩:=hs;exact hs.below
 exact kQ hs ⟨q9.1 (hE.bel w hb),hok,Nat.le_refl _,fun b h _=>⟨hE.new b h,rfl⟩,fun _ _=>rfl,hE.out⟩ hE.Y.symm rfl rfl
theorem lZ {B:Bs} {ops:Array Oper} {o:Oper} {st:ASt} {a:Act} {ov:List Value} {w:World} (hs:Sim B I0 st a ov w) (h:ik ops.toList o st=true):Region.wanted o (yielded ops a.tmps)=true:=by
 have hv:bh ops.toList o st=some (some true):=by
  unfold ik at h
  split at h
  ·assumption
  ·cases h
 obtain⟨g,hs⟩:=hs
 cases hg:o.guard with
 | none=>simp[Region.wanted,hg]
 | some q =>
  obtain⟨j,want⟩:=q
  cases hd:(ops[j]?).bind (·.dst)with
  | none =>
   have hd':(ops.toList[j]?).bind (·.dst)=none:=by rw[FU];exact hd
   simp only[bh,hg,hd']at hv
   cases hv
  | some t=>exact(mU hd hs hv hg).2 rfl
theorem lT (hE:gh P G0 E C) (h0:F0.Ok I0) (hL:pY P L) {n:Nat} (hR:qp P E C L I0 body Q0 F0 J r n) (hG:nG P E C L I0 body Q0 F0 J r n) (hJ:JOk P L I0 body Q0 F0 J r) {rp:List Nat} {id:Nat} {ops:Array Oper} {draw:Bool} {Q:Exit->Act->World->Prop} {F:Fr}
  (hat:At P L I0 body Q0 F0 rp (.region id ops draw) Q F) {j y:Nat} {o:Oper} (ho:ops[j]? = some o) {f:FuncId} {fn:Func} {rv:List AV} {cap:List CA} {K:ASt->Prg R} {st:ASt} {a:Act} {w:World} (hof:ss L st j o.op=some (y,f,fn,rv,cap))
  (h:(tL E L (dJ E L n) (dA E L n) F.nt F.fi F.ys id rp j y o f fn rv cap K st).goes C J r) (hs:eK I0 F st a w) (hK:∀st' v w',(K st').goes C J r->eK I0 F st' (a.put o.dst v) w'->sm P ops draw F.ro Q j o a v w') :
  ∃vals:Array Value,(∀c,o.op≠.defer c)/\(∀a1:Act,(∀z∈o.op.operands.toList,a1.eval z=a.eval z)->(execOp a1.eval o).run P w=.ok (.enter f vals) w)/\Calls P f vals w (fun e w'=>∃v,e=.returned v/\sm P ops draw F.ro Q j o a v w'):=by
 obtain⟨B,hX,hXd,hs⟩:=hs
 obtain⟨hfn,_⟩:=ng hof
 obtain⟨h1,h2,h3⟩:=hL.fn f fn hfn
 have hBok:B.Ok I0:=by obtain⟨g,hs⟩:=hs;exact hs.base
 have hBel:B.Bel w:=by obtain⟨g,hs⟩:=hs;exact hs.below
 have hdef:a.defers=B.ds:=by obtain⟨g,hs⟩:=hs;exact hs.defers
 obtain⟨vals,x,xs,hops,hvs,hnd,hrun,hreps⟩:=Ca hL hof hs
 unfold tL at h
 rw[hops]at h
 simp only[]at h
 cases hle:(rv.length+xs.length).beq fn.params.size&&(rv.length+xs.length+cap.length).ble fn.ntmps&&(st.slots.length.beq F.nt&&j.blt 1000)with
 | false=>rw[hle]at h;exact h.elim
 | true =>
  rw[hle]at h
  simp only[cond_true,dR]at h
  simp only[FS,Nat.ble_eq,az]at hle
  obtain⟨⟨hl1,hl2⟩,hl3,hj1⟩:=hle
  have hj1:j<1000:=oS hj1
  obtain⟨hyj,hop2⟩:=DA hof hj1
  obtain⟨c',hb⟩:∃c,fn.body=some c:=by
   cases hb:fn.body with
   | none=>rw[hb]at h3;cases h3
   | some c=>exact⟨c,rfl⟩
  have hbo:cq fn=c':=by simp[cq,hb]
  have hlen:a.tmps.size=F.nt:=by obtain⟨g,hs⟩:=hs;rw[hs.len,hl3]
  have hs1:Sim B.noD I0 st { tmps:=a.tmps,defers:=[] } F.ov w:=kQ hs (ve hBel hBok) rfl rfl rfl
  have hback:∀g,al B.noD I0 (fun _=>False) g st { tmps:=a.tmps,defers:=[] } F.ov w->al B I0 (fun _=>False) g st a F.ov w:=fun g hs1 =>
   ⟨q9.1 hs1.below,hs1.sub,hs1.lt,hs1.old,hs1.len,hdef,hs1.slots,hs1.olen,hs1.outs,hs1.cells,hs1.trees,hs1.foot,hs1.apart,hs1.apartR,hs1.res,hs1.base,hs1.out⟩
  have hsim:=tq (ntmps:=fn.ntmps) (vs:=rv++xs.map st.ev++cap.map AV.one) (vals:=vals) hs1 (by simpa[Nat.add_assoc]using hl2) (by rw[hvs];simp[Nat.add_assoc]) (L.kp F.fi (AF id j)) (fun g hs j v hv=>hreps g (hback g hs) j v hv)
  have hat2:=hat.opn (y:=y) a B (by rw[hyj];exact ho) hop2 hlen hdef hX hXd hBok
  rw[hyj]at hat2
  have hwp:=cb hR hG hJ (F:=⟨F.ov++a.tmps.toList,fn.ntmps,f,B.noD,F.ys,none⟩) (cq fn) ((2*y+2)::rp) _ _ _ _ _ hat2 h ⟨B.noD,.refl rfl,(fun _=>rfl),hsim⟩ (fun e st' a' w' hk hs'=>by
   have he:e=.normal\/e=.ret:=by
    cases e with
    | normal=>exact .inl rfl
    | ret=>exact .inr rfl
    | exit i=>exact hk.elim
   refine nW (hat2.ok h0) he hs' (fun w2 B2 hE2 hd2 hs2=>?_)
   obtain⟨_,v,hres,st2,hk2,hs3⟩:=sZ hE.1 (yu (F:=F) hBok hE2 hd2 hs2) hlen hdef hk
   exact⟨v,hres,v,rfl,hK st2 v w2 hk2 ⟨B,hX,hXd,hs3⟩⟩)
  refine⟨vals,hnd,hrun,?_⟩
  rw[hbo]at hwp
  exact(iS (ro:=none) (n:=0)).1 (callsIn_of_wp_marks h1 hb trivial hwp)
theorem tg {ops:Array Oper} {draw:Bool} {ro:Option Nat} {Q:Exit->Act->World->Prop} {j:Nat} {o:Oper} (ho:ops[j]? = some o) {a a1:Act} {w:World} {f:FuncId} {vals:Array Value} {X:Act->World->Prop} (hnd:∀c,o.op≠.defer c)
  (hrun:(execOp a1.eval o).run P w=.ok (.enter f vals) w) (hc:Calls P f vals w (fun e w'=>∃v,e=.returned v/\sm P ops draw ro Q j o a v w')) (hw:Region.wanted o (yielded ops a1.tmps)=true) (hX:∀v w',sm P ops draw ro Q j o a v w'->X (a1.put o.dst v) w') :
  wpOpIn (Rd ro) 0 P ops Q j X a1 w:=by
 unfold wpOpIn
 rw[ho]
 simp only[hw,if_true]
 refine⟨fun _ _=>trivial,?_⟩
 rw[Oper.semAt_eq _ _ _ hnd,hrun]
 refine⟨fun h=>by simp[Rd,Fence.wide]at h,iS.2 (hc.mono ?_)⟩
 rintro e w' ⟨v,rfl,hv⟩
 exact hX v w' hv
theorem Ap {B:Bs} {st:ASt} {a' a0:Act} {ov:List Value} {w:World} {nt:Nat} (hs:Sim B I0 st a' (ov++a0.tmps.toList) w) (hnt:a0.tmps.size=nt) (hd:a0.defers=B.ds):Sim B I0 (st.cut nt) a0 ov w:=by
 obtain⟨g,hs⟩:=hs
 have hol:=hs.olen
 simp only[List.length_append,Array.length_toList,hnt]at hol
 have hk:st.out.length-nt=ov.length:=by omega
 unfold ASt.cut
 rw[hk]
 refine⟨g,hs.below,hs.sub,hs.lt,hs.old,by simp;omega,hd,fun t v hv=>?_,by simp;omega,fun t v hv=>?_,hs.cells,hs.trees,hs.foot,hs.apart,hs.apartR,hs.res,hs.base,hs.out⟩
 ·simp only[List.getElem?_drop]at hv
  have:=hs.outs (ov.length+t) v hv
  have e1:(ov++a0.tmps.toList).getD (ov.length+t) undef=a0.tmps.getD t undef:=by
   rw[F7,F4 (by omega),Nat.add_sub_cancel_left,FU,F8]
  rw[e1]at this
  exact this
 ·have ht:t<ov.length:=by
   have:=(FP.1 hv).1
   simp at this
   omega
  rw[List.getElem?_take_of_lt ht]at hv
  have:=hs.outs t v hv
  have e1:(ov++a0.tmps.toList).getD t undef=ov.getD t undef:=by
   rw[F7,F3 ht,F7]
  rw[e1]at this
  exact this
theorem wQ {ys:List Rng} {st:ASt} {o:Op} {m:Nat} {y:Rng} (h:te ys st o=some (m,y)):∃t args tys,o=.call ⟨.value (.tmp t),args,tys⟩/\nth (.one .junk) st.slots t=.one (.yl m)/\ys[m]? = some y:=by
 unfold te at h
 split at h
 ·rename_i t args tys
  split at h
  ·rename_i m' hm
   split at h
   ·rename_i y' hy
    simp only[FR,Prod.mk.injEq]at h
    obtain⟨rfl,rfl⟩:=h
    refine⟨t,args,tys,rfl,?_,hy⟩
    revert hm
    cases nth (.one .junk) st.slots t with
    | one c=>cases c<;>simp[AV.ylOf]
    | _=>simp[AV.ylOf]
   ·cases h
  ·cases h
 ·cases h
theorem rS {F:Fr} {m j:Nat} {y:Rng} {o:Oper} {ops:Array Oper} {draw:Bool} {Q:Exit->Act->World->Prop} {B W:Bs} {Rc:Loop} {a1:Act} {K:ASt->Prg R} (hq:Rnd B W (F.W.Y m) Rc) (hX:Ext F.W B) (hXd:F.ro.isSome=true->B.ds=[]) (hBok:B.Ok I0) (hIl:¬I0 (F.W.Y m)) (hlen:a1.tmps.size=F.nt) (hdef:a1.defers=B.ds)
  (hK:∀st' a' w',(K st').goes C J r->eK I0 F st' a' w'->d6 P ops draw F.ro Q (j+1) a' w') {e:AEx} {st3:ASt} {a3:Act} {w3:World} (hk3:(eZ y F.nt o.dst K e st3).goes C J r)
  (hs3:eK I0 ⟨F.ov++a1.tmps.toList,y.nt,y.fi,W,aY F.ys m,some (F.W.Y m)⟩ st3 a3 w3):roundPost P (F.W.Y m) (iC P ops draw F.ro Q j o a1) (kP e) a3 w3:=by
 cases e with
 | ret=>exact hk3.elim
 | exit i=>exact hk3.elim
 | normal =>
  obtain⟨B3,hE3,_,hs3⟩:=hs3
  have hb3:B3.Bel w3:=by obtain⟨g,hs3⟩:=hs3;exact hs3.below
  obtain⟨p1,p2⟩:=Bp (P:=P) hq hE3 hb3 hBok hIl
  refine⟨_,_,p1,_,rfl,?_⟩
  have hs4:Sim B I0 st3 { tmps:=a3.tmps,defers:=B.ds } (F.ov++a1.tmps.toList) (w3.putObj (F.W.Y m) (.loop Rc)):=kQ hs3 p2 (by rw[hE3.Y,hq.Y]) rfl rfl
  simp only[eZ]at hk3
  cases hle2:F.nt.ble st3.out.length with
  | false=>rw[hle2]at hk3;exact hk3.elim
  | true =>
   rw[hle2]at hk3
   simp only[cond_true]at hk3
   obtain⟨g5,hs5⟩:=Ap hs4 hlen hdef
   obtain⟨st6,hk6,hs6⟩:=lX ⟨g5,hs5.put o.dst (v:=.bl true) (u:=.bool true) rfl⟩ hk3
   exact hK st6 _ _ hk6 ⟨B,hX,hXd,hs6⟩
theorem tS {n:Nat} (hR:qp P E C L I0 body Q0 F0 J r n) (hG:nG P E C L I0 body Q0 F0 J r n) (hJ:JOk P L I0 body Q0 F0 J r) {rp:List Nat} {id:Nat} {F:Fr} {m j:Nat} {y:Rng} {o:Oper} {ops:Array Oper} {draw:Bool} {Q:Exit->Act->World->Prop} {B:Bs} {Rc:Loop} {a1:Act} {K:ASt->Prg R}
  (hat:At P L I0 body Q0 F0 rp (.region id ops draw) Q F) (ho:ops[j]? = some o) (hj1:j<1000) (hy:F.ys[m]? = some y) (hX:Ext F.W B) (hXd:F.ro.isSome=true->B.ds=[]) (hBok:B.Ok I0) (hIl:¬I0 (F.W.Y m)) (hlen:a1.tmps.size=F.nt) (hdef:a1.defers=B.ds) (hBl:B.w.heap[F.W.Y m]? = some (.loop Rc)) (k2:¬B.New (F.W.Y m)) (hready:Rc.state=.ready/\Rc.pending=none)
  (hK:∀st' a' w',(K st').goes C J r->eK I0 F st' a' w'->d6 P ops draw F.ro Q (j+1) a' w') {e:AEx} {st':ASt} {a':Act} {w':World}
  (hk:(ph (dv E (dJ E L n y.nt y.fi (aY F.ys m)) (dA E L n y.nt y.fi (aY F.ys m)) (L.ann y.fi) (L.jn y.fi) (kL 1 m j::rp) y.body (eZ y F.nt o.dst K)) e st').goes C J r)
  (hs':eK I0 ⟨F.ov++a1.tmps.toList,y.nt,y.fi,B.noD,aY F.ys m,some (F.W.Y m)⟩ st' a' w'):pE P (F.W.Y m) y.body (iC P ops draw F.ro Q j o a1) (kP e) a' w':=by
 cases e with
 | ret=>exact hk.elim
 | exit i=>exact hk.elim
 | normal =>
  obtain⟨B1,hE1,hd1,hs'⟩:=hs'
  have hd1:B1.ds=[]:=hd1 rfl
  have hb1:B1.Bel w':=by obtain⟨g,hs'⟩:=hs';exact hs'.below
  have hok1:B1.Ok I0:=by obtain⟨g,hs'⟩:=hs';exact hs'.base
  obtain⟨q1,q2,q3,q4⟩:=wN (P:=P) hE1 hb1 hok1 k2 hBl hready hIl
  refine⟨_,q3,?_⟩
  have hat1:=hat.yld1 (y:=y) (m:=m) a1 B (B1.round w' (F.W.Y m) Rc) Rc ho hj1 hy hlen hdef hX hXd hBok q1 q4
  have ha':a'.defers=[]:=by obtain⟨g,hs'⟩:=hs';rw[hs'.defers,hd1]
  exact cb hR hG hJ (F:=⟨F.ov++a1.tmps.toList,y.nt,y.fi,B1.round w' (F.W.Y m) Rc,aY F.ys m,some (F.W.Y m)⟩) y.body (kL 1 m j::rp) _ _ _ _ _ hat1 hk ⟨_,.refl rfl,(fun _=>rfl),kQ hs' q2 rfl rfl ha'⟩ (fun e st3 a3 w3 hk3 hs3=>rS q1 hX hXd hBok hIl hlen hdef hK hk3 hs3)
theorem qE (hE:gh P G0 E C) (h0:F0.Ok I0) {n:Nat} (hR:qp P E C L I0 body Q0 F0 J r n) (hG:nG P E C L I0 body Q0 F0 J r n) (hJ:JOk P L I0 body Q0 F0 J r) {rp:List Nat} {id:Nat} {ops:Array Oper} {draw:Bool} {Q:Exit->Act->World->Prop} {F:Fr}
  (hat:At P L I0 body Q0 F0 rp (.region id ops draw) Q F) {j m:Nat} {y:Rng} {o:Oper} (ho:ops[j]? = some o) {K:ASt->Prg R} {st:ASt} {a:Act} {w:World} (hof:te F.ys st o.op=some (m,y))
  (h:(tM E L (dJ E L n) (dA E L n) F.nt F.fi F.ys id rp j m y o K st).goes C J r) (hs:eK I0 F st a w) (hdn:ik ops.toList o st=true) (hK:∀st' a' w',(K st').goes C J r->eK I0 F st' a' w'->d6 P ops draw F.ro Q (j+1) a' w') :
  wpOpIn (Rd F.ro) 0 P ops Q j (d6 P ops draw F.ro Q (j+1)) a w:=by
 obtain⟨B,hX,hXd,hs⟩:=hs
 have hw:=lZ hs hdn
 obtain⟨t,args,tys,hop,hv,hy⟩:=wQ hof
 have hok:=hat.ok h0
 obtain⟨Rc,r1,r2,r3,r4,r5,r6,r7,r8⟩:=hok.ys.1 m y hy
 have hml:m<F.ys.length:=(FP.1 hy).1
 obtain⟨k1,k2⟩:=hX.keep (Bs.Bel.refl B) r2
 have hBl:B.w.heap[F.W.Y m]? = some (.loop Rc):=k1.trans r1
 have hBel:B.Bel w:=by obtain⟨g,hs⟩:=hs;exact hs.below
 have hBok:B.Ok I0:=by obtain⟨g,hs⟩:=hs;exact hs.base
 have hdef:a.defers=B.ds:=by obtain⟨g,hs⟩:=hs;exact hs.defers
 have hwl:w.heap[F.W.Y m]? = some (.loop Rc):=(cM hBel k2).trans hBl
 have hIl:¬I0 (F.W.Y m):=hok.yI m hml
 have hev:a.eval (.tmp t)=.func (.yield (F.W.Y m)) #[] #[]:=by
  obtain⟨g,hs⟩:=hs
  have:=hs.ev (.tmp t)
  rw[show st.ev (.tmp t)=.one (.yl m) from hv]at this
  have this:a.eval (.tmp t)=.func (.yield (g.O.y m)) #[] #[]:=this
  rw[this,hs.out.2,hX.Y]
 unfold tM at h
 split at h
 ·rename_i x xs hops
  have hxs:xs=args.toList:=by
   rw[hop]at hops
   simp[Op.operands,Call.operands]at hops
   exact hops.2.symm
  subst hxs
  cases hle:args.toList.length.beq y.ps.size&&(st.slots.length.beq F.nt&&(j.blt 1000&&(!y.busy&&(y.off+y.nt).ble st.out.length)))with
  | false=>rw[hle]at h;exact h.elim
  | true =>
   rw[hle]at h
   simp only[cond_true,dR]at h
   simp only[FS,Nat.ble_eq,az,Bool.not_eq_true']at hle
   obtain⟨hl1,hl2,hj1,hbz,hl3⟩:=hle
   have hj1:j<1000:=oS hj1
   have hlen:a.tmps.size=F.nt:=by obtain⟨g,hs⟩:=hs;rw[hs.len,hl2]
   have hready:=r8 hbz
   have hsize:(args.map a.eval).size=Rc.params.size:=by rw[r3];simpa using hl1
   have hrun:(execOp a.eval o).run P w=.ok (.round (F.W.Y m) Rc.fn ((Rc.params.zip (args.map a.eval)).foldl (fun tmps (t,a)=>tmps.setIfInBounds t a) Rc.tmps) y.assign y.body) w:=by
    have hy:=run_yield (P:=P) (args:=args.map a.eval) hwl hsize
    rw[r4,r5]at hy
    obtain⟨dst,op,type,pos,after,guard⟩:=o
    simp only at hop
    subst hop
    simp only[execOp,resolve,hev,Deferred.ofValue,Sem.run_bind,Sem.run_pure,Result.andThen_ok,invoke]
    simpa using hy
   have hs1:Sim B.noD I0 st { tmps:=a.tmps,defers:=[] } F.ov w:=kQ hs (ve hBel hBok) rfl rfl rfl
   have hvals:∀g,al B.noD I0 (fun _=>False) g st { tmps:=a.tmps,defers:=[] } F.ov w ->
     (jH y.ps.toList (args.toList.map st.ev) ((st.out.drop y.off).take y.nt)).length=((Rc.params.zip (args.map a.eval)).foldl (fun tmps (t,a)=>tmps.setIfInBounds t a) Rc.tmps).size /\
     ∀(j:Nat) (v:AV),(jH y.ps.toList (args.toList.map st.ev) ((st.out.drop y.off).take y.nt))[j]? = some v->bX w g st.look v (((Rc.params.zip (args.map a.eval)).foldl (fun tmps (t,a)=>tmps.setIfInBounds t a) Rc.tmps).getD j undef):=fun g hs=>by
    have e:(Rc.params.zip (args.map a.eval)).foldl (fun tmps (t,a)=>tmps.setIfInBounds t a) Rc.tmps=((y.ps.toList.zip (args.toList.map a.eval)).foldl (fun t (p,v)=>t.setIfInBounds p v) Rc.tmps):=by
     rw[<-Array.foldl_toList,Array.toList_zip,r3,Array.toList_map]
    rw[e]
    refine vu (by simp) (fun j v u hj hu=>?_) ?_ (fun j v hj=>?_)
    ·rw[FW]at hj hu
     cases hx:args.toList[j]? with
     | none=>rw[hx]at hj;cases hj
     | some x =>
      rw[hx]at hj hu
      simp only[F6,FR]at hj hu
      subst hj hu
      have h5:=hs.ev x
      cases x<;>exact h5
    ·have:=hs.olen
     simp only[List.length_take,List.length_drop]
     omega
    ·have hjn:j<y.nt:=by
      have:=(FP.1 hj).1
      simp only[List.length_take]at this
      omega
     rw[List.getElem?_take_of_lt hjn,List.getElem?_drop]at hj
     have h5:=hs.outs (y.off+j) v hj
     have e2:F.ov.getD (y.off+j) undef=Rc.tmps.getD j undef:=by
      have h6:=congrArg (fun l:List Value=>l[j]?) r7
      simp only[List.getElem?_take_of_lt hjn,List.getElem?_drop,FU]at h6
      rw[F7,h6,F8]
     rw[e2]at h5
     exact h5
   obtain⟨vals,hvs⟩:∃vals,vals=(Rc.params.zip (args.map a.eval)).foldl (fun tmps (t,a)=>tmps.setIfInBounds t a) Rc.tmps:=⟨_,rfl⟩
   rw[<-hvs]at hrun hvals
   have hvl:vals.size=(jH y.ps.toList (args.toList.map st.ev) ((st.out.drop y.off).take y.nt)).length:=by
    obtain⟨g,hs⟩:=hs1
    exact(hvals g hs).1.symm
   have hvn:vals.size=y.nt:=by
    have:∀(l:List (Tmp × Value)) (t:Array Value),(l.foldl (fun t (p,v)=>t.setIfInBounds p v) t).size=t.size:=fun l=>by
     induction l with
     | nil=>intro t;rfl
     | cons x l ih=>intro t;simp only[List.foldl_cons];rw[ih];simp
    rw[hvs,<-Array.foldl_toList,this,r6]
   have hsim:=tq (ntmps:=y.nt) (vs:=jH y.ps.toList (args.toList.map st.ev) ((st.out.drop y.off).take y.nt)) (vals:=vals) hs1 (by omega) hvl (L.kp F.fi (AF id j)) (fun g hs j v hv=>(hvals g hs).2 j v hv)
   have hact:({ tmps:=vals++Array.replicate (y.nt-vals.size) undef,defers:=B.noD.ds }:Act)={ tmps:=vals,defers:=[] }:=by
    rw[hvn,Nat.sub_self]
    simp[Bs.noD]
   rw[hact]at hsim
   have hat0:=hat.yld0 (y:=y) (m:=m) a B Rc ho hj1 hy hlen hdef hX hXd hBok hBl k2 hready
   have hwp:=cb hR hG hJ (F:=⟨F.ov++a.tmps.toList,y.nt,y.fi,B.noD,aY F.ys m,some (F.W.Y m)⟩) y.assign (kL 0 m j::rp) _ _ _ _ _ hat0 h ⟨B.noD,.refl rfl,(fun _=>rfl),hsim⟩ (fun e st' a' w' hk hs'=>tS hR hG hJ hat ho hj1 hy hX hXd hBok hIl hlen hdef hBl k2 hready hK hk hs')
   unfold wpOpIn
   rw[ho]
   simp only[hw,if_true]
   refine⟨fun _ _=>trivial,?_⟩
   rw[Oper.semAt_eq _ _ _ (fun c hc=>by rw[hop]at hc;cases hc),hrun]
   refine⟨fun h=>by simp[Rd,Fence.wide]at h,(roundIn_of_wpIn (F:=Rd F.ro) (n:=0) trivial hwp).mono ?_⟩
   rintro e w' ⟨v,rfl,hv⟩
   exact hv
 ·exact h.elim
theorem vB {F:Fr} {B:Bs} {w w1:World} {l:Nat} {mk:List Deferred} {Rc:Loop} {f:FuncId} {fn:Func} {ps:Array Tmp} {assign c:Code} {a:Act} {K:ASt->Prg R} {Q:Exit->Act->World->Prop}
  (hFo:Fr.Ok I0 ⟨F.ov++a.tmps.toList,fn.ntmps,f,B.over w w1 F.ys.length l,F.ys ++ [⟨F.ov.length,F.nt,F.fi,ps,assign,c,false⟩],none⟩) (hX:Ext F.W B) (hXd:F.ro.isSome=true->B.ds=[]) (hBel:B.Bel w) (hBok:B.Ok I0) (hlen:a.tmps.size=F.nt) (hdef:a.defers=B.ds) (he:Ent w w1 l mk Rc) (r7:F.ro.isSome=true->mk=[]) (hready:Rc.state=.ready/\Rc.pending=none)
  (hQ:∀st' a w,(K st').goes C J r->eK I0 F st' a w->Q .normal a w) {e:AEx} {st':ASt} {a':Act} {w':World} (hk:(yh fn F.ys.length F.nt K e st').goes C J r)
  (hs':eK I0 ⟨F.ov++a.tmps.toList,fn.ntmps,f,B.over w w1 F.ys.length l,F.ys ++ [⟨F.ov.length,F.nt,F.fi,ps,assign,c,false⟩],none⟩ st' a' w'):sK P fn Q l ⟨a.tmps,mk++a.defers⟩ (kP e) a' w':=by
 obtain⟨r1,r2⟩:=hready
 have he':e=.normal\/e=.ret:=by
  cases e with
  | normal=>exact .inl rfl
  | ret=>exact .inr rfl
  | exit i=>exact hk.elim
 refine nW hFo he' hs' (fun w2 B2 hE2 hd2 hs2=>?_)
 have hk:(bif fn.results.size.beq 0&&F.nt.ble st'.out.length then gi fn.ntmps ((st'.aE (CA.unY F.ys.length)).cut F.nt) K else .fail).goes C J r:=by rcases he' with rfl|rfl<;>exact hk
 cases hle2:fn.results.size.beq 0&&F.nt.ble st'.out.length with
 | false=>rw[hle2]at hk;exact hk.elim
 | true =>
  rw[hle2]at hk
  simp only[cond_true]at hk
  simp only[FS,az]at hle2
  have hb2:B2.Bel w2:=by obtain⟨g,hs2⟩:=hs2;exact hs2.below
  have hres:∃v,(results fn a'.tmps).run P w2=.ok v w2:=by
   have e0:fn.results=#[]:=Array.eq_empty_of_size_eq_zero hle2.1
   exact⟨.tuple #[],by simp[results,e0]⟩
  obtain⟨v,hres⟩:=hres
  have hov:(B.over w w1 F.ys.length l).Bel w2:=hE2.bel w2 hb2
  have hnl:¬(B.over w w1 F.ys.length l).New l:=fun e=>(eX (Nat.le_trans hBel.size he.size) e).2 ⟨he.new,(FV.1 he.rc).1⟩
  have hl2:w2.heap[l]? = some (.loop Rc):=(cM hov hnl).trans he.rc
  have hend:=(run_endLoop (P:=P) hl2 (by rw[r1];simp)).trans (congrArg (fun p=>Result.ok p _) r2)
  obtain⟨q1,q2⟩:=BY (o:=.loop { Rc with state:=.exhausted }) hX hBel hBok he hE2 hb2
  have hs3:=Az (n:=F.ys.length) (a':={ tmps:=a'.tmps,defers:=mk++B.ds }) hs2 q1 (fun k hk=>by
   show B.Y k=_
   rw[hE2.Y]
   show _=(if k=F.ys.length then l else B.Y k)
   rw[if_neg (by omega)]) rfl rfl
  have hs4:=Ap (a0:={ tmps:=a.tmps,defers:=mk++a.defers }) (nt:=F.nt) hs3 hlen (by rw[hdef];rfl)
  obtain⟨st6,hk6,hs6⟩:=lX hs4 hk
  exact⟨v,hres,⟨v,rfl⟩,_,hend,hQ st6 _ _ hk6 ⟨_,q2,fun hro=>by show mk++B.ds=[];rw[r7 hro,hXd hro];rfl,hs6⟩⟩
theorem xV (hE : gh P G0 E C) (h0 : F0.Ok I0) (hL : pY P L) {n : Nat} (hR : qp P E C L I0 body Q0 F0 J r n) (hG : nG P E C L I0 body Q0 F0 J r n) (hJ : JOk P L I0 body Q0 F0 J r) : nG P E C L I0 body Q0 F0 J r (n + 1) := by
 intro rp gO ps assign c K Q F st a w hat h hs hQ
 obtain⟨B,hX,hXd,hs⟩:=hs
 simp only[dA,uG]at h
 have hok:=hat.ok h0
 have hBel:B.Bel w:=by obtain⟨g,hs⟩:=hs;exact hs.below
 have hBok:B.Ok I0:=by obtain⟨g,hs⟩:=hs;exact hs.base
 have hdef:a.defers=B.ds:=by obtain⟨g,hs⟩:=hs;exact hs.defers
 have hol:st.out.length=F.ov.length:=by obtain⟨g,hs⟩:=hs;exact hs.olen.symm
 have hmo:(st.aE (CA.unY F.ys.length)).out.length=F.ov.length:=by rw[<-hol];simp only[ASt.aE,bT]
 split at h
 ·rename_i f cs hclo
  split at h
  ·rename_i fn hfn
   obtain⟨f1,f2,f3⟩:=hL.fn f fn hfn
   cases hle:Nat.beq fn.params.size 1&&((cs.length+1).ble fn.ntmps&&(st.aE (CA.unY F.ys.length)).slots.length.beq F.nt)with
   | false=>rw[hle]at h;exact h.elim
   | true =>
    rw[hle]at h
    simp only[cond_true,dR]at h
    simp only[FS,Nat.ble_eq,az]at hle
    obtain⟨hl1,hl2,hl3⟩:=hle
    have hlen:a.tmps.size=F.nt:=by
     obtain⟨g,hs⟩:=hs
     rw[hs.len,<-hl3]
     simp only[ASt.aE,bT]
    obtain⟨cd,hb⟩:∃c,fn.body=some c:=by
     cases hb:fn.body with
     | none=>rw[hb]at f3;cases f3
     | some c=>exact⟨c,rfl⟩
    have hbo:cq fn=cd:=by simp[cq,hb]
    refine wpIn_rangeFunc (fun fid _=>?_)
    obtain⟨l,mk,w1,Rc,hrun,he,r1,r2,r3,r4,r5,r6,r7⟩:=yV (P:=P) (w:=w) (ro:=F.ro) (fun l0 hl0=>by
     obtain⟨R',h1,h2⟩:=hok.ro l0 hl0
     obtain⟨k1,k2⟩:=hX.keep (Bs.Bel.refl B) h2
     exact⟨R',(cM hBel k2).trans (k1.trans h1)⟩) fid a.tmps ps assign c
    have hs1:Sim (B.over w w1 F.ys.length l) I0 (st.aE (CA.unY F.ys.length)) { tmps:=a.tmps,defers:=[] } F.ov w1:=Az hs (zI hBel hBok he) (fun k hk=>by show(if k=F.ys.length then l else B.Y k)=_;rw[if_neg (by omega)]) rfl rfl
    have hkey:∀g,al (B.over w w1 F.ys.length l) I0 (fun _=>False) g (st.aE (CA.unY F.ys.length)) { tmps:=a.tmps,defers:=[] } F.ov w1->∃cv:Array Value,a.eval gO=.func (.func f) #[] cv/\CR w1 g (st.aE (CA.unY F.ys.length)).look cs cv.toList:=fun g hs1=>by
     obtain⟨cv,h1,h2⟩:=zY hclo (hs1.ev gO)
     refine⟨cv,?_,h2⟩
     cases gO<;>exact h1
    obtain⟨cv,hev,hcvl⟩:∃cv:Array Value,a.eval gO=.func (.func f) #[] cv/\cv.size=cs.length:=by
     obtain⟨g,hs1⟩:=hs1
     obtain⟨cv,h1,h2⟩:=hkey g hs1
     exact⟨cv,h1,by have:=h2.1;simpa using this⟩
    have hcap:∀g,al (B.over w w1 F.ys.length l) I0 (fun _=>False) g (st.aE (CA.unY F.ys.length)) { tmps:=a.tmps,defers:=[] } F.ov w1->∀(k:Nat) (c:CA),cs[k]? = some c->bW w1 g (st.aE (CA.unY F.ys.length)).look c (cv.getD k undef):=fun g hs1 k c hc=>by
     obtain⟨cv',h1',h2'⟩:=hkey g hs1
     rw[hev]at h1'
     simp only[Value.func.injEq,true_and]at h1'
     subst h1'
     have hk:k<cv.size:=by
      have:=(FP.1 hc).1
      omega
     have:=(h2'.2 k c cv[k] hc (by simp[hk])).1
     rwa[F8,Array.getElem?_eq_getElem hk]
    have hsim:=tq (ntmps:=fn.ntmps) (vs:=.one (.yl F.ys.length)::cs.map AV.one) (vals:=#[.func (.yield l) #[] #[]]++cv) hs1 (by simpa using hl2) (by simp[hcvl];omega) none (fun g hs j v hv=>by
     cases j with
     | zero =>
      simp only[List.getElem?_cons_zero,FR]at hv
      subst hv
      have e1:(#[Value.func (.yield l) #[] #[]]++cv).getD 0 undef=.func (.yield l) #[] #[]:=by
       rw[F8,Array.getElem?_append_left (by simp)]
       rfl
      rw[e1]
      show _=Value.func (.yield (g.O.y F.ys.length)) #[] #[]
      rw[hs.out.2]
      show _=Value.func (.yield (if F.ys.length=F.ys.length then l else B.Y F.ys.length)) #[] #[]
      rw[if_pos rfl]
     | succ k =>
      simp only[List.getElem?_cons_succ,FW]at hv
      cases hk:cs[k]? with
      | none=>rw[hk]at hv;cases hv
      | some c =>
       rw[hk]at hv
       simp only[F6,FR]at hv
       subst hv
       have e1:(#[Value.func (.yield l) #[] #[]]++cv).getD (k+1) undef=cv.getD k undef:=by
        rw[F8,F8,Array.getElem?_append_right (by simp)]
        rfl
       rw[e1]
       exact hcap g hs k c hk)
    have hat2:=hat.rng a B w w1 l mk Rc hfn hlen hdef hX hXd hBel hBok he r7 ⟨r1,r2⟩ r3 r4 r5 r6
    rw[hmo]at h
    have hwp:=cb hR hG hJ (F:=⟨F.ov++a.tmps.toList,fn.ntmps,f,B.over w w1 F.ys.length l,F.ys ++ [⟨F.ov.length,F.nt,F.fi,ps,assign,c,false⟩],none⟩) (cq fn) (f::rp) _ _ _ _ _ hat2 h ⟨_,.refl rfl,(fun _=>rfl),hsim⟩ (fun e st' a' w' hk hs'=>vB (hat2.ok h0) hX hXd hBel hBok hlen hdef he r7 ⟨r1,r2⟩ hQ hk hs')
    have hcf:(callFunc f (#[.func (.yield l) #[] #[]]++cv)).run P w1=.ok (.enter f (#[.func (.yield l) #[] #[]]++cv)) w1:=by
     simp only[callFunc,Sem.run_bind,run_program,Result.andThen_ok,f1,f2,hb]
     simp
    refine⟨l,mk,w1,{ target:=.fn (.func f) cv,args:=#[.func (.yield l) #[] #[]] },w1,f,#[.func (.yield l) #[] #[]]++cv,w1,hrun,?_,fun _ _=>trivial,?_,fun h=>by simp[Rd,Fence.wide]at h,?_⟩
    ·simp only[resolve,hev]
     simp[go_sem]
    ·simpa[invoke,go_sem]using hcf
    ·rw[hbo]at hwp
     refine iS.2 ((iS (ro:=none) (n:=0)).1 ((callsIn_of_wp_marks f1 hb trivial hwp).mono ?_))
     rintro e w' ⟨⟨v,rfl⟩,w4,h1,h2⟩
     exact⟨none,w4,h1,h2⟩
  ·exact h.elim
 ·exact h.elim
def FK (E : Env) (C : Cal) (J : List Nat → ASt → R → Prop) (r : R) (L : Opn) (reg : A3 R) (rg : Bi R) (nt : Nat) (fi : FuncId) (ys : List Rng) (id : Nat) (rp : List Nat) (all : List Oper) (K : ASt → Prg R) (j : Nat) (ex : List (List Nat)) (st : ASt) : Prop :=
  ∃ m mid, j ≤ m ∧ m ≤ all.length ∧ da E C ex all (List.range' j (m - j)) st.nfS mid.nfS ∧ ((m = all.length ∧ (K mid).goes C J r) ∨
   ∃o,all[m]? = some o/\ik all o mid=true/\(((dW true all m=true\/∃U,ju all m=some U)/\∃y f fn rv cap,ss L mid m o.op=some (y,f,fn,rv,cap)/\(tL E L reg rg nt fi ys id rp m y o f fn rv cap (mL E true all m fun st'=>eV E L reg rg nt fi ys id rp true all K (m+1) (all.drop (m+1)) (kU E.T true st' all) st') mid).goes C J r) \/
    dW true all m=true/\∃q y,te ys mid o.op=some (q,y)/\(tM E L reg rg nt fi ys id rp m q y o (fun st'=>eV E L reg rg nt fi ys id rp true all K (m+1) (all.drop (m+1)) (kU E.T true st' all) st') mid).goes C J r))
theorem ul {reg:A3 R} {rg:Bi R} {nt:Nat} {fi:FuncId} {ys:List Rng} {id:Nat} {rp:List Nat} {all:List Oper} {K:ASt->Prg R}:∀(l:List Oper) (j:Nat) (ex:List (List Nat)) (st:ASt),l=all.drop j->j<=all.length->(eV E L reg rg nt fi ys id rp true all K j l ex st).goes C J r ->
  FK E C J r L reg rg nt fi ys id rp all K j ex st
 | [], j, ex, st, hl, hj, h => by
  have:all.length<=j:=by
   have:=congrArg List.length hl
   simp at this
   omega
  have hj':j=all.length:=by omega
  subst hj'
  exact⟨all.length,st,Nat.le_refl _,Nat.le_refl _,by rw[Nat.sub_self];exact .nil _,.inl ⟨rfl,h⟩⟩
 | o :: rest, j, ex, st, hl, hj, h => by
  have hjo:all[j]? = some o:=by
   have:(all.drop j)[0]? = some o:=by rw[<-hl];rfl
   simpa using this
  have hjl:j<all.length:=(FP.1 hjo).1
  have hrest:rest=all.drop (j+1):=by
   have:=congrArg List.tail hl
   simpa using this
  have plain:(opQ E all (lx true ex all j o) (iw (eV E L reg rg nt fi ys id rp true all K (j+1) rest ex)) st).goes C J r->FK E C J r L reg rg nt fi ys id rp all K j ex st:=fun h=>by
   simp only[kg]at h
   obtain⟨st1,h1,h2⟩:=lz h
   obtain⟨m,mid,k1,k2,k3,k4⟩:=ul rest (j+1) ex st1 hrest (by omega) h2
   refine⟨m,mid,by omega,k2,?_,k4⟩
   rw[show m-j=(m-(j+1))+1 by omega,List.range'_succ]
   exact .cons hjo h1 k3
  simp only[eV]at h
  split at h
  ·rename_i y f fn rv cap hof
   cases hdn:ik all o st with
   | false=>rw[hdn]at h;exact plain h
   | true =>
   rw[hdn]at h
   simp only[cond_true]at h
   cases hb:dW true all j||(ju all j).isSome with
   | false=>rw[hb]at h;exact h.elim
   | true =>
    rw[hb]at h
    simp only[cond_true]at h
    simp only[Bool.or_eq_true,Option.isSome_iff_exists]at hb
    rw[hrest]at h
    exact⟨j,st,Nat.le_refl _,hj,by rw[Nat.sub_self];exact .nil _,.inr ⟨o,hjo,hdn,.inl ⟨hb,y,f,fn,rv,cap,hof,h⟩⟩⟩
  ·split at h
   ·rename_i q y hof
    cases hdn:ik all o st with
    | false=>rw[hdn]at h;exact plain h
    | true =>
    rw[hdn]at h
    simp only[cond_true,Bool.not_true,Bool.false_or]at h
    cases hb:oq all j&&oq all (j+1)with
    | false=>rw[hb]at h;exact h.elim
    | true =>
     rw[hb]at h
     simp only[cond_true]at h
     have hb:dW true all j=true:=by unfold dW;rw[hb];rfl
     rw[hrest]at h
     exact⟨j,st,Nat.le_refl _,hj,by rw[Nat.sub_self];exact .nil _,.inr ⟨o,hjo,hdn,.inr ⟨hb,q,y,hof,h⟩⟩⟩
   ·exact plain h
theorem DK {B:Bs} {st:ASt} {a a':Act} {ov:List Value} {w:World} {d:Tmp} (hsz:a'.tmps.size=a.tmps.size) (hd:a'.defers=a.defers) (h:∀t,t≠d->a'.tmps.getD t undef=a.tmps.getD t undef) (hs:Sim B I0 st a ov w):Sim B I0 (st.put (some d) (.one .junk)) a' ov w:=by
 obtain⟨g,hs⟩:=hs
 refine⟨g,hs.below,hs.sub,hs.lt,hs.old,by rw[hsz,hs.len];simp[ASt.put,ah],hd.trans hs.defers,fun t v hv=>?_,hs.olen,hs.outs,hs.cells,hs.trees,hs.foot,hs.apart,hs.apartR,hs.res,hs.base,hs.out⟩
 simp only[ASt.put,ah,List.getElem?_set]at hv
 by_cases e:d=t
 ·subst e
  rw[if_pos rfl]at hv
  split at hv
  ·simp only[FR]at hv
   subst hv
   exact trivial
  ·cases hv
 ·rw[if_neg e]at hv
  rw[h t (fun e'=>e e'.symm)]
  exact hs.slots t v hv
theorem j3 {a:Act} {d:Option Tmp} {v:Value} {t:Nat} (h:d≠some t):(a.put d v).tmps.getD t undef=a.tmps.getD t undef:=by
 cases d with
 | none=>rfl
 | some d =>
  show(a.tmps.setIfInBounds d v).getD t undef=_
  rw[oK,if_neg (fun e=>h (by rw[e.1]))]
theorem sr (a:Act) (d:Option Tmp) (v:Value):(a.put d v).tmps.size=a.tmps.size:=by cases d<;>simp[Act.put]
theorem tw:∀(vals:List (Tmp × Value)) (a:Act),(uT a vals).tmps.size=a.tmps.size/\(uT a vals).defers=a.defers/\∀t,(∀p∈vals,p.1≠t)->(uT a vals).tmps.getD t undef=a.tmps.getD t undef
 | [],a=>⟨rfl,rfl,fun _ _=>rfl⟩
 | p::vals,a=>by
  obtain⟨h1,h2,h3⟩:=tw vals (a.put (some p.1) p.2)
  exact⟨h1.trans (sr _ _ _),h2,fun t ht=>(h3 t (fun q hq=>ht q (FY _ hq))).trans (j3 (fun e=>ht p FX (Option.some.inj e)))⟩
theorem uo {B:Bs} {ov:List Value} {w:World} {dst:Option Tmp} {v:Value}:∀(vals:List (Tmp × Value)) (a:Act) (st:ASt),(∀p∈vals,dst≠some p.1)->Sim B I0 st ((uT a vals).put dst v) ov w->Sim B I0 (gC (vals.map fun p=>some p.1) st) (a.put dst v) ov w
 | [],_,_,_,hs=>hs
 | p :: vals, a, st, hne, hs => by
  have hs2:=uo vals (a.put (some p.1) p.2) st (fun q hq=>hne q (FY _ hq)) hs
  show Sim B I0 ((gC (vals.map fun p=>some p.1) st).put (some p.1) (.one .junk)) (a.put dst v) ov w
  refine DK (by simp only[sr]) (by cases dst<;>rfl) (fun t ht=>?_) hs2
  by_cases hct:dst=some t
  ·rw[hct]
   show(a.tmps.setIfInBounds t v).getD t undef=((a.put (some p.1) p.2).tmps.setIfInBounds t v).getD t undef
   rw[oK,oK,sr]
   split
   ·rfl
   ·exact(j3 (fun e=>ht (Option.some.inj e).symm)).symm
  ·rw[j3 hct,j3 hct,j3 (fun e=>ht (Option.some.inj e).symm)]
theorem xJ {b:Bool} {p:Prg R} (h:((bif b then p else .fail):Prg R).goes C J r):b=true/\p.goes C J r:=by
 cases b with
 | true=>exact⟨rfl,h⟩
 | false=>exact h.elim
def FE (P:Program) (E:Env) (C:Cal) (L:Opn) (I0:Nat->Prop) (J:List Nat->ASt->R->Prop) (r:R) (n:Nat) (id:Nat) (rp:List Nat) (ops:Array Oper) (Q:Exit->Act->World->Prop) (F:Fr) (K:ASt->Prg R) (j:Nat):Prop :=
 ∀(l:List Oper) (ex:List (List Nat)) (st st0:ASt) (pre:List Nat) (listed:Array Bool) (a:Act) (w:World) (B:Bs),l=ops.toList.drop j->j<=ops.size->(eV E L (dJ E L n) (dA E L n) F.nt F.fi F.ys id rp true ops.toList K j l ex st).goes C J r->Ext F.W B->(F.ro.isSome=true->B.ds=[]) ->
  listed.size=ops.size->(∀(k:Nat) (o:Oper),ops[k]? = some o->listed.getD k true=true->∀e∈o.after,Region.binds .any e=true->listed.getD e.on false=true)->(∀m,j<=m->m<=ops.size->unlisted m listed=pre++List.range' j (m-j))->(∀k,j<=k->k<ops.size->listed.getD k true=false) ->
  da E C ex ops.toList pre st0.nfS st.nfS->Sim B I0 st0 a F.ov w->wpAnyIn (Rd F.ro) 0 P .any ops Q (pre.length+(ops.size-j)) listed a w
theorem jh {ops:Array Oper} (hok:bB ops.toList=true) {m:Nat}:∀(k:Nat) (o:Oper),ops[k]? = some o->(gJ ops.size m).getD k true=true->∀e∈o.after,Region.binds .any e=true->(gJ ops.size m).getD e.on false=true:=by
 intro k o hk hlk e he hb
 have hks:k<ops.size:=(FV.1 hk).1
 rw[cA hks]at hlk
 have hkm:k<m:=oS hlk
 have hlt2:=bw ((cY ops.toList 0 hok k o (by rw[FU];exact hk)).1) e (by simpa using he) hb
 simp only[Nat.zero_add]at hlt2
 rw[cA (by omega),lV (by omega)]
theorem pB {n:Nat} {id:Nat} {rp:List Nat} {ops:Array Oper} {draw:Bool} {Q:Exit->Act->World->Prop} {F:Fr} {K:ASt->Prg R} {j:Nat} {o:Oper} (ho:ops[j]? = some o) (hok:draw=true->bB ops.toList=true)
  (hF:draw=false->∀st' a' w',(eV E L (dJ E L n) (dA E L n) F.nt F.fi F.ys id rp draw ops.toList K (j+1) (ops.toList.drop (j+1)) (kU E.T draw st' ops.toList) st').goes C J r->eK I0 F st' a' w'->d6 P ops draw F.ro Q (j+1) a' w')
  (hT:draw=true->FE P E C L I0 J r n id rp ops Q F K (j+1)) {st':ASt} {a0:Act} {v:Value} {w':World}
  (h:(mL E draw ops.toList j (fun st'=>eV E L (dJ E L n) (dA E L n) F.nt F.fi F.ys id rp draw ops.toList K (j+1) (ops.toList.drop (j+1)) (kU E.T draw st' ops.toList) st') st').goes C J r) (hs:eK I0 F st' (a0.put o.dst v) w'):sm P ops draw F.ro Q j o a0 v w':=by
 have hjl:j<ops.size:=(FV.1 ho).1
 have first:∀st2:ASt,(eV E L (dJ E L n) (dA E L n) F.nt F.fi F.ys id rp draw ops.toList K (j+1) (ops.toList.drop (j+1)) (kU E.T draw st2 ops.toList) st2).goes C J r->eK I0 F st2 (a0.put o.dst v) w'->d6 P ops draw F.ro Q (j+1) (a0.put o.dst v) w':=by
  intro st2 h hs
  cases draw with
  | false=>exact hF rfl st2 _ w' h hs
  | true =>
   obtain⟨B,hX,hXd,hs⟩:=hs
   have:=hT rfl _ _ st2 st2 [] (gJ ops.size (j+1)) _ w' B rfl hjl h hX hXd (fD _ _) (jh (hok rfl)) (fun m h1 h2=>jA h1 h2) (fun k h1 h2=>by rw[cA h2];exact mR h1) (.nil _) hs
   unfold d6
   simpa using this
 unfold mL at h
 cases hb:dW draw ops.toList j with
 | true =>
  rw[hb]at h
  exact⟨first st' h hs,fun _ hb2=>by rw[hb]at hb2;cases hb2⟩
 | false =>
  rw[hb]at h
  simp only[cond_false]at h
  have hdr:draw=true:=by
   cases draw with
   | true=>rfl
   | false=>simp[dW]at hb
  subst hdr
  split at h
  ·rename_i U c hu hc
   unfold CK at h
   simp only[o0,dR]at h
   obtain⟨hn,h⟩:=xJ h
   obtain⟨B,hX,hXd,hs⟩:=hs
   generalize hst2:nu (Fy c.dst st') 0 st'=st2 at h
   have hs2:Sim B I0 st2 (a0.put o.dst v) F.ov w':=by rw[<-hst2];exact tK hn hs
   obtain⟨h3,hall⟩:=iv h
   refine⟨first st2 h3 ⟨B,hX,hXd,hs2⟩,fun _ _ U' c' hu' hl listed a1 vals hsz hcl hup hsub hne hds ha0=>?_⟩
   rw[hu]at hu'
   cases hu'
   have e3:=hl.hj
   rw[hc]at e3
   cases e3
   have hco:c=o:=by
    rw[FU,ho]at hc
    exact(Option.some.inj hc).symm
   subst hco
   subst ha0
   obtain⟨_,_,hp⟩:=yz hu
   obtain⟨st3,h1,heq⟩:=hall _ (E2 hp hsub) hne
   have hld:∀u∈unlisted j listed,oU ops.toList c u:=fun u hu=>hl.ld u (hsub u hu)
   rw[Bn hld h1 heq]at h1
   have hne2:∀p∈vals,c.dst≠some p.1:=fun p hp=>by
    have:some p.1∈d0 ops.toList (unlisted j listed):=by rw[<-hds];exact List.mem_map_of_mem (f:=fun p:Tmp × Value=>some p.1) hp
    simp only[d0,List.mem_map]at this
    obtain⟨u,hu,e⟩:=this
    obtain⟨o,d,k1,k2,k3,k4,k5⟩:=hld u hu
    rw[k1]at e
    simp only[Option.bind_some,k3]at e
    rw[<-e]
    exact k5
   have hs4:=uo vals a1 st2 hne2 hs2
   rw[hds]at hs4
   have hclo:xF ops (listed.setIfInBounds j true):=by
    intro k ok hk hlk e he hbn
    by_cases hkj:k=j
    ·subst hkj
     rw[ho]at hk
     cases hk
     refine getD_set_true ?_
     cases hb2:listed.getD e.on false with
     | true=>rfl
     | false =>
      exfalso
      have hlt2:=bw ((cY ops.toList 0 (hok rfl) k c (by rw[FU];exact ho)).1) e (by simpa using he) hbn
      simp only[Nat.zero_add]at hlt2
      have hmem:e.on∈unlisted k listed:=by
       simp only[unlisted,List.mem_filter,List.mem_range,Bool.not_eq_true']
       refine⟨hlt2,?_⟩
       rw[F8,Array.getElem?_eq_getElem (by omega)]at hb2 ⊢
       exact hb2
      have h6:=hl.none_ k (by simpa using hjl) (Nat.le_refl _) (fun hm=>absurd (hl.lt k hm) (Nat.lt_irrefl _)) _ (hsub _ hmem)
      rw[mo (by rw[FU];exact ho)]at h6
      have h7:=yw (acc:=(behind ops.toList).take k) (es:=c.after.toList) (e:=e) (by simpa using he) hbn
      rw[h6]at h7
      cases h7
    ·rw[getD_set_ne true (fun e=>hkj e.symm)]at hlk
     exact getD_set_true (hcl k ok hk hlk e he hbn)
   have:=hT rfl _ _ st2 (gC (d0 ops.toList (unlisted j listed)) st2) (unlisted j listed) (listed.setIfInBounds j true) _ w' B rfl hjl h3 hX hXd (by simpa using hsz) hclo (fun m h1 h2=>tW hsz hup h1 h2)
    (fun k h1 h2=>by rw[getD_set_ne true (by omega)];exact hup k (by omega) h2) h1 hs4
   have hpos:0<(unlisted j listed).length:=List.length_pos_iff.2 hne
   rwa[show(unlisted j listed).length+(ops.size-(j+1))=(unlisted j listed).length-1+(ops.size-j) by omega]at this
  ·exact h.elim
theorem AK (hE:gh P G0 E C) (h0:F0.Ok I0) (hg0:F0.W.G=G0) (hL:pY P L) {n:Nat} (hR:qp P E C L I0 body Q0 F0 J r n) (hG:nG P E C L I0 body Q0 F0 J r n) (hJ:JOk P L I0 body Q0 F0 J r) {rp:List Nat} {id:Nat} {ops:Array Oper} {Q:Exit->Act->World->Prop} {F:Fr}
  (hat:At P L I0 body Q0 F0 rp (.region id ops true) Q F) (hok:bB ops.toList=true) {K:ASt->Prg R} (hK:∀st' a w,(K st').goes C J r->eK I0 F st' a w->Q .normal a w) :
  ∀(d j:Nat),ops.size-j<=d->FE P E C L I0 J r n id rp ops Q F K j:=by
 have hEB:∀B:Bs,Ext F.W B->gh P B.G E C:=fun B hX=>by rw[hX.G,hat.gl hg0];exact hE
 intro d
 induction d using Nat.strongRecOn with
 | _ d ih =>
 intro j hd l ex st st0 pre listed a w B hl hj h hX hXd hsz hcl hun hup hpre hs
 have hl2:ops.toList.length=ops.size:=by simp
 obtain⟨m,mid,k1,k2,k3,k4⟩:=ul l j ex st hl (by rw[hl2];exact hj) h
 rw[hl2]at k2
 have hrun:=mK hpre k3
 have next:∀{o:Oper} {a0:Act} (ho:ops[m]? = some o) (hml:m<ops.size),∀st' v w',(mL E true ops.toList m (fun st'=>eV E L (dJ E L n) (dA E L n) F.nt F.fi F.ys id rp true ops.toList K (m+1) (ops.toList.drop (m+1)) (kU E.T true st' ops.toList) st') st').goes C J r->eK I0 F st' (a0.put o.dst v) w'->sm P ops true F.ro Q m o a0 v w' :=
  fun{o a0} ho hml st' v w' hk hs'=>pB ho (fun _=>hok) (fun e=>by cases e) (fun _=>ih (ops.size-(m+1)) (by omega) (m+1) (Nat.le_refl _)) hk hs'
 have key:∀a w,(dW true ops.toList m=true\/(∃U c,zl ops.toList m U c)\/m=ops.size)->Sim B I0 mid.nfS a F.ov w->wpAnyIn (Rd F.ro) 0 P .any ops Q (ops.size-m) (gJ ops.size m) a w:=by
  intro a w hbars hs
  rcases k4 with⟨k4,k5⟩|⟨o,ho,hdn,k5⟩
  ·have hq:=hK mid a w k5 ⟨B,hX,hXd,eM hs⟩
   rw[k4,hl2,Nat.sub_self]
   refine⟨?_,hq⟩
   rw[List.eq_nil_iff_forall_not_mem]
   intro i hi
   rw[mem_ready]at hi
   obtain⟨h0,o,ho,_⟩:=hi
   have hi2:=(FV.1 ho).1
   rw[cA hi2,lV hi2]at h0
   cases h0
  ·have ho':ops[m]? = some o:=by rw[<-FU];exact ho
   have hml:m<ops.size:=(FV.1 ho').1
   have hbm:∀i,m<i->i<ops.size->(nth 0 (behind ops.toList) i).testBit m=true:=fun i hi hi2=>by
    rcases hbars with hb|⟨U,c,hlat⟩|hb
    ·simp only[dW,Bool.not_true,Bool.false_or,FS]at hb
     exact zi hb.2 (by rw[hl2];exact hi2) hi (Nat.lt_succ_self m)
    ·exact wA hlat.b2 (by rw[hl2];exact hi2) hi (Nat.lt_succ_self m) (fun hm=>absurd (hlat.lt m hm) (Nat.lt_irrefl _))
    ·omega
   rw[show ops.size-m=(ops.size-(m+1))+1 by omega]
   have hrdy:m∈Region.ready .any ops (gJ ops.size m):=ye hok (fD _ _) hml (by rw[cA hml];exact mR (Nat.le_refl _)) (fun i hi=>by rw[cA (by omega)];exact lV hi)
   refine⟨fun hr=>(by rw[hr]at hrdy;cases hrdy),fun i hi=>?_⟩
   have him:i=m:=by
    rw[mem_ready]at hi
    obtain⟨h0,oi,hoi,hedges⟩:=hi
    have hi2:=(FV.1 hoi).1
    rw[cA hi2]at h0
    have hmi:m<=i:=oZ h0
    rcases Nat.lt_or_ge m i with hlt|hge
    ·exfalso
     have:=iu hok (fD _ _) (jh hok) i oi hoi hedges m (hbm i hlt hi2)
     rw[cA hml,mR (Nat.le_refl _)]at this
     cases this
    ·omega
   subst him
   have hnext:(gJ ops.size i).setIfInBounds i true=gJ ops.size (i+1):=by
    refine uO (by simp[fD]) (fun k hk hk2=>?_) (fun k hk hk2=>?_)
    ·by_cases e:k=i
     ·subst e;simp[fD,hk]
     ·rw[getD_set_ne true (fun h=>e h.symm),cA hk,lV (by omega)]
    ·rw[getD_set_ne true (by omega),cA hk,mR (by omega)]
   rw[hnext]
   rcases k5 with⟨_,y,f,fn,rv,cap,hof,k5⟩|⟨hb,q,y,hof,k5⟩
   ·obtain⟨vals,e1,e2,e3⟩:=lT hE h0 hL hR hG hJ hat ho' hof k5 ⟨B,hX,hXd,eM hs⟩ (next ho' hml)
    refine tg ho' e1 (e2 a (fun _ _=>rfl)) e3 (lZ (eM hs) hdn) (fun v w' hr=>?_)
    have:=hr.1
    unfold d6 at this
    exact this
   ·refine qE hE h0 hR hG hJ hat ho' hof k5 ⟨B,hX,hXd,eM hs⟩ hdn (fun st' a' w' hk hs'=>?_)
    obtain⟨B',hX',hXd',hs'⟩:=hs'
    have:=ih (ops.size-(i+1)) (by omega) (i+1) (Nat.le_refl _) _ _ st' st' [] (gJ ops.size (i+1)) a' w' B' rfl hml hk hX' hXd' (fD _ _) (jh hok) (fun m h1 h2=>jA h1 h2) (fun k h1 h2=>by rw[cA h2];exact mR h1) (.nil _) hs'
    unfold d6
    simpa using this
 have hlen:(unlisted m listed).length=pre.length+(m-j):=by rw[hun m k1 k2];simp
 have fin:∀{U:List Nat},(∀i,m<=i->i<ops.size->∀q,q<m->q∉U->(nth 0 (behind ops.toList) i).testBit q=true)->(∀i,m<i->i<ops.size->(nth 0 (behind ops.toList) i).testBit m=true) ->
   (∀a w,Sim B I0 mid.nfS a F.ov w->wpAnyIn (Rd F.ro) 0 P .any ops Q (ops.size-m) (gJ ops.size m) a w) ->
   (m < ops.size → ∀ (listed : Array Bool) (st : ASt) (a : Act) (w : World), listed.size = ops.size → xF ops listed → (∀ k, m ≤ k → k < ops.size → listed.getD k true = false) → (∀ q ∈ unlisted m listed, q ∈ U) → unlisted m listed ≠ [] →
    da E C ex ops.toList (unlisted m listed) st mid.nfS->Sim B I0 st a F.ov w->wpOpIn (Rd F.ro) 0 P ops Q m (fun a' w'=>wpAnyIn (Rd F.ro) 0 P .any ops Q ((unlisted m listed).length-1+(ops.size-m)) (listed.setIfInBounds m true) a' w') a w) ->
   wpAnyIn (Rd F.ro) 0 P .any ops Q (pre.length+(ops.size-j)) listed a w:=fun{U} g1 g2 g3 g4=>by
  have:=BS (ro:=F.ro) (ex:=ex) (hEB B hX) hok k2 (U:=U) g1 g2 (fin:=mid.nfS) (fe:=ops.size-m) g3 g4 (pre.length+(m-j)) listed st0.nfS a w hsz hlen hcl (fun k h1 h2=>hup k (by omega) h2) (by rw[hun m k1 k2];exact hrun) (ww hs)
  rwa[show pre.length+(m-j)+(ops.size-m)=pre.length+(ops.size-j) by omega]at this
 have nobody:m<ops.size->∀(listed:Array Bool) (st:ASt) (a:Act) (w:World),listed.size=ops.size->xF ops listed->(∀k,m<=k->k<ops.size->listed.getD k true=false)->(∀q∈unlisted m listed,q∈([]:List Nat))->unlisted m listed≠[] ->
    da E C ex ops.toList (unlisted m listed) st mid.nfS->Sim B I0 st a F.ov w->wpOpIn (Rd F.ro) 0 P ops Q m (fun a' w'=>wpAnyIn (Rd F.ro) 0 P .any ops Q ((unlisted m listed).length-1+(ops.size-m)) (listed.setIfInBounds m true) a' w') a w :=
  fun _ listed _ _ _ _ _ _ h hne=>absurd (List.eq_nil_iff_forall_not_mem.2 fun q hq=>List.not_mem_nil (h q hq)) hne
 have strict:dW true ops.toList m=true->wpAnyIn (Rd F.ro) 0 P .any ops Q (pre.length+(ops.size-j)) listed a w:=fun hb=>by
  have hb':=hb
  simp only[dW,Bool.not_true,Bool.false_or,FS]at hb'
  exact fin (U:=[]) (fun i hi hi2 q hq _=>zi hb'.1 (by rw[hl2];exact hi2) hi hq) (fun i hi hi2=>zi hb'.2 (by rw[hl2];exact hi2) hi (Nat.lt_succ_self m)) (fun a w hs=>key a w (.inl hb) hs) nobody
 have k4':=k4
 rcases k4 with⟨k4,k5⟩|⟨o,ho,hdn,⟨hb|⟨u,hu⟩,y,f,fn,rv,cap,hof,k5⟩|⟨hb,_⟩⟩
 ·have hms:m=ops.size:=by rw[k4,hl2]
  exact fin (U:=[]) (fun i hi hi2=>by omega) (fun i hi hi2=>by omega) (fun a w hs=>key a w (.inr (.inr hms)) hs) nobody
 ·exact strict hb
 ·cases hb:dW true ops.toList m with
  | true=>exact strict hb
  | false =>
  obtain⟨c,hlat,_⟩:=yz hu
  have ho':ops[m]? = some o:=by rw[<-FU];exact ho
  have hco:c=o:=by have:=hlat.hj;rw[ho]at this;exact(Option.some.inj this).symm
  subst hco
  refine fin (U:=u) (fun i hi hi2 q hq hne=>wA hlat.b1 (by rw[hl2];exact hi2) hi hq hne) (fun i hi hi2=>wA hlat.b2 (by rw[hl2];exact hi2) hi (Nat.lt_succ_self m) (fun hm=>absurd (hlat.lt m hm) (Nat.lt_irrefl _))) (fun a w hs=>key a w (.inr (.inl ⟨u,c,hlat⟩)) hs) (fun hml lst sta a1 w1 q1 q2 q3 q4 q5 hr1 hs1=>?_)
  have hld:∀x∈unlisted m lst,oU ops.toList c x:=fun x hx=>hlat.ld x (q4 x hx)
  obtain⟨vals,hds,hs2⟩:=vl (hEB B hX) hld hs1 hr1
  obtain⟨vs,f1,f2,f3⟩:=lT hE h0 hL hR hG hJ hat ho' hof k5 ⟨B,hX,hXd,eM hs2⟩ (next ho' hml)
  refine tg ho' f1 (f2 a1 (fun z hz=>?_)) f3 (by simp[Region.wanted,hlat.grd]) (fun v w' hr=>hr.2 rfl hb u c hu hlat lst a1 vals q1 q2 q3 q4 q5 hds rfl)
  cases z with
  | tmp t =>
   refine((tw vals a1).2.2 t (fun p hp e=>?_)).symm
   have hd:some p.1∈d0 ops.toList (unlisted m lst):=by rw[<-hds];exact List.mem_map_of_mem (f:=fun p:Tmp × Value=>some p.1) hp
   simp only[d0,List.mem_map]at hd
   obtain⟨x,hx,e2⟩:=hd
   obtain⟨ox,d,r1,r2,r3,r4,r5⟩:=hld x hx
   rw[r1]at e2
   simp only[Option.bind_some,r3,FR]at e2
   rw[e2,e]at r4
   exact r4 (cu hz)
  | const c=>rfl
  | global g=>rfl
  | func f=>rfl
 ·exact strict hb
theorem ka (hE : gh P G0 E C) (h0 : F0.Ok I0) (hg0 : F0.W.G = G0) (hL : pY P L) {n : Nat} (hR : qp P E C L I0 body Q0 F0 J r n) (hG : nG P E C L I0 body Q0 F0 J r n) (hJ : JOk P L I0 body Q0 F0 J r) {rp : List Nat} {id : Nat} {ops : Array Oper} {draw : Bool} {Q : Exit → Act → World → Prop} {F : Fr}
  (hat:At P L I0 body Q0 F0 rp (.region id ops draw) Q F) (hok:draw=true->bB ops.toList=true) {K:ASt->Prg R} (hK:∀st' a w,(K st').goes C J r->eK I0 F st' a w->Q .normal a w) :
  ∀(d j:Nat) (l:List Oper) (ex:List (List Nat)) (st:ASt) (a:Act) (w:World),l=ops.toList.drop j->j<=ops.size->ops.size-j<=d->(eV E L (dJ E L n) (dA E L n) F.nt F.fi F.ys id rp draw ops.toList K j l ex st).goes C J r->eK I0 F st a w->d6 P ops draw F.ro Q j a w:=by
 have hEB:∀B:Bs,Ext F.W B->gh P B.G E C:=fun B hX=>by rw[hX.G,hat.gl hg0];exact hE
 intro d
 induction d with
 | zero =>
  intro j l ex st a w hl hj hd h hs
  have hjs:j=ops.size:=by omega
  have hl0:l=[]:=by rw[hl,hjs,List.drop_eq_nil_of_le (by simp)]
  subst hl0
  simp only[eV]at h
  have hq:=hK st a w h hs
  unfold d6
  cases draw with
  | false=>rw[hjs,Nat.sub_self];exact hq
  | true =>
   rw[hjs,Nat.sub_self]
   refine⟨?_,hq⟩
   rw[List.eq_nil_iff_forall_not_mem]
   intro i hi
   rw[mem_ready]at hi
   obtain⟨h0,o,ho,_⟩:=hi
   have hi2:=(FV.1 ho).1
   rw[cA hi2,lV hi2]at h0
   cases h0
 | succ d ih =>
  intro j l ex st a w hl hj hd h hs
  have hl2:ops.toList.length=ops.size:=by simp
  cases draw with
  | false =>
   cases l with
   | nil =>
    have hjs:j=ops.size:=by
     have:=congrArg List.length hl
     simp at this
     omega
    simp only[eV]at h
    unfold d6
    rw[hjs,Nat.sub_self]
    exact hK st a w h hs
   | cons o rest =>
    have hjo:ops[j]? = some o:=by
     have:(ops.toList.drop j)[0]? = some o:=by rw[<-hl];rfl
     simpa using this
    have hjl:j<ops.size:=(FV.1 hjo).1
    have hrest:rest=ops.toList.drop (j+1):=by
     have:=congrArg List.tail hl
     simpa using this
    have hstep:wpOpIn (Rd F.ro) 0 P ops Q j (d6 P ops false F.ro Q (j+1)) a w:=by
     have plain:(opQ E ops.toList (lx false ex ops.toList j o) (iw (eV E L (dJ E L n) (dA E L n) F.nt F.fi F.ys id rp false ops.toList K (j+1) rest ex)) st).goes C J r->wpOpIn (Rd F.ro) 0 P ops Q j (d6 P ops false F.ro Q (j+1)) a w:=fun h=>by
      simp only[kg]at h
      obtain⟨st1,h1,h2⟩:=lz h
      obtain⟨B,hX,hXd,hs⟩:=hs
      exact wpOpIn_mono (fun a' w' hs'=>ih (j+1) rest ex st1 a' w' hrest (by omega) (by omega) h2 ⟨B,hX,hXd,eM hs'⟩) (mA (hEB B hX) (i:=lx false ex ops.toList j o) hjo (ww hs) h1)
     simp only[eV]at h
     split at h
     ·rename_i y f fn rv cap hof
      cases hdn:ik ops.toList o st with
      | false=>rw[hdn]at h;exact plain h
      | true =>
       rw[hdn]at h
       simp only[cond_true,dW,Bool.not_false,Bool.true_or]at h
       rw[hrest]at h
       obtain⟨vals,e1,e2,e3⟩:=lT hE h0 hL hR hG hJ hat hjo hof h hs (fun st' v w' hk hs'=>pB hjo (fun e=>by cases e) (fun _ st2 a2 w2 h2 hs2=>ih (j+1) _ _ st2 a2 w2 rfl (by omega) (by omega) h2 hs2) (fun e=>by cases e) hk hs')
       obtain⟨B,hX,hXd,hs⟩:=hs
       exact tg hjo e1 (e2 a (fun _ _=>rfl)) e3 (lZ hs hdn) (fun v w' hr=>hr.1)
     ·split at h
      ·rename_i q y hof
       cases hdn:ik ops.toList o st with
       | false=>rw[hdn]at h;exact plain h
       | true =>
        rw[hdn]at h
        simp only[cond_true,Bool.not_false,Bool.true_or]at h
        exact qE hE h0 hR hG hJ hat hjo hof h hs hdn (fun st' a' w' hk hs'=>ih (j+1) rest _ st' a' w' hrest (by omega) (by omega) hk hs')
      ·exact plain h
    unfold d6 at hstep ⊢
    rw[show ops.size-j=(ops.size-(j+1))+1 by omega,List.range'_succ,wpOpsIn_cons]
    exact hstep
  | true =>
   obtain⟨B,hX,hXd,hs⟩:=hs
   have:=AK hE h0 hg0 hL hR hG hJ hat (hok rfl) hK (d+1) j hd l ex st st [] (gJ ops.size j) a w B hl hj h hX hXd (fD _ _) (jh (hok rfl)) (fun m h1 h2=>jA h1 h2) (fun k h1 h2=>by rw[cA h2];exact mR h1) (.nil _) hs
   unfold d6
   simpa using this
theorem cn (hE:gh P G0 E C) (h0:F0.Ok I0) (hg0:F0.W.G=G0) (hm:P.follows .mixedOrders=true) (hL:pY P L) (hJ:JOk P L I0 body Q0 F0 J r):∀n,qp P E C L I0 body Q0 F0 J r n/\nG P E C L I0 body Q0 F0 J r n:=by
 have plain:∀{rp id ops draw} {K:ASt->Prg R} {Q F st a w},At P L I0 body Q0 F0 rp (.region id ops draw) Q F->(kH E ops.toList draw K st).goes C J r->eK I0 F st a w ->
   (∀st' a w,(K st').goes C J r->eK I0 F st' a w->Q .normal a w)->(Code.region id ops draw).wpIn (Rd F.ro) 0 P Q a w:=fun{rp id ops draw K Q F st a w} hat h hs hQ=>by
  obtain⟨B,hX,hXd,hs⟩:=hs
  exact vI (by rw[hX.G,hat.gl hg0];exact hE) hm hs h (fun st' a w hk hs'=>hQ st' a w hk ⟨B,hX,hXd,hs'⟩)
 intro n
 induction n with
 | zero =>
  refine⟨?_,?_⟩
  ·intro rp id ops draw K Q F st a w hat h hs hQ
   simp only[dJ]at h
   exact plain hat h hs hQ
  ·intro rp g ps assign c K Q F st a w hat h hs hQ
   simp only[dA]at h
   exact h.elim
 | succ n ih =>
  refine⟨?_,xV hE h0 hL ih.1 ih.2 hJ⟩
  intro rp id ops draw K Q F st a w hat h hs hQ
  simp only[dJ]at h
  cases ha:rl L ops.toList with
  | false =>
   rw[ha]at h
   exact plain hat h hs hQ
  | true =>
   rw[ha]at h
   simp only[cond_true]at h
   cases hd:!draw||bB ops.toList with
   | false=>rw[hd]at h;exact h.elim
   | true =>
    rw[hd]at h
    simp only[cond_true]at h
    have hok:draw=true->bB ops.toList=true:=fun e=>by subst e;simpa using hd
    cases draw with
    | false =>
     have:=ka hE h0 hg0 hL ih.1 ih.2 hJ hat hok hQ ops.size 0 ops.toList _ st a w rfl (Nat.zero_le _) (by omega) h hs
     refine wpIn_region ?_
     rw[List.range_eq_range']
     exact this
    | true =>
     refine wpIn_region_any hm ?_
     have hs':eK I0 F st a { w with drawn:=w.drawn+1 }:=by
      obtain⟨B,hX,hXd,g,hs⟩:=hs
      exact⟨B,hX,hXd,_,hs.grow (w':={ w with drawn:=w.drawn+1 }) (I':=g.I) (R':=NoR) ⟨rfl,rfl,rfl,Nat.le_refl _,fun _ _=>rfl⟩ (fun _ h=>h) hs.lt (fun _ _ h=>h) (fun _ h=>h.elim)⟩
     have:=ka hE h0 hg0 hL ih.1 ih.2 hJ hat hok hQ ops.size 0 ops.toList _ st a _ rfl (Nat.zero_le _) (by omega) h hs'
     rw[<-Bx]
     exact this
theorem vv {z m j:Nat} (hz:z<2) (hj:j<1000):(kL z m j%2).beq 0=false/\(kL z m j-3) / 2%1000=j/\(kL z m j-3) / 2 / 1000 / 2=m/\(kL z m j-3) / 2 / 1000%2=z:=by
 unfold kL
 have h0:(2*((2*m+z)*1000+j)+3)%2=1:=by omega
 rw[h0]
 have h1:(2*((2*m+z)*1000+j)+3-3) / 2=(2*m+z)*1000+j:=by omega
 rw[h1]
 refine⟨rfl,by omega,by omega,by omega⟩
theorem nbeq10:Nat.beq 1 0=false:=rfl
theorem BT (y:Nat):((2*y+2)%2).beq 0=true/\(2*y+2) / 2-1=y:=by
 have h0:(2*y+2)%2=0:=by omega
 rw[h0]
 exact⟨rfl,by omega⟩
theorem Dj (hE : gh P G0 E C) (h0 : F0.Ok I0) (hg0 : F0.W.G = G0) (hm : P.follows .mixedOrders = true) (hL : pY P L) (hJ : JOk P L I0 body Q0 F0 J r) {p : List Nat} {c cT : Code} {Q QT : Exit → Act → World → Prop} {F FT : Fr} (hf : AtF P L I0 p c Q F cT QT FT) :
  ∀(n:Nat) (rp:List Nat) (K:AEx->ASt->Prg R) (st:ASt) (a:Act) (w:World),At P L I0 body Q0 F0 rp c Q F->(goQ E L p n F.ov.length F.nt F.fi F.ys rp c K st).goes C J r->eK I0 FT st a w ->
   (∀e st' a w,(K e st').goes C J r->eK I0 F st' a w->Q (kP e) a w)->cT.wpIn (Rd FT.ro) 0 P QT a w:=by
 induction hf with
 | here =>
  intro n rp K st a w hat h hs hK
  rw[AN]at h
  exact cb (cn hE h0 hg0 hm hL hJ n).1 (cn hE h0 hg0 hm hL hJ n).2 hJ _ rp K _ st a w hat h hs hK
 | @seq0 p x y Q F c' Q' F' hf ih =>
  intro n rp K st a w hat h hs hK
  rw[DU]at h
  refine ih n (0::rp) _ st a w hat.seq0 h hs (fun e st' a w hk hs=>?_)
  cases e with
  | normal =>
   simp only[qq]at hk
   cases han:io (L.jn F.fi) y with
   | none =>
    rw[han]at hk
    exact cb (cn hE h0 hg0 hm hL hJ n).1 (cn hE h0 hg0 hm hL hJ n).2 hJ y (1::rp) _ Q st' a w hat.seq1 hk hs hK
   | some an =>
    rw[han]at hk
    obtain⟨B,hX,hXd,hs⟩:=hs
    obtain⟨st2,h2,hs2⟩:=kS hs hk
    exact hJ (1::rp) y Q _ st2 a w hat.seq1 h2 ⟨B,hX,hXd,hs2⟩
  | ret=>exact hK .ret st' a w hk hs
  | exit id=>exact hK (.exit id) st' a w hk hs
 | seq1 hf ih =>
  intro n rp K st a w hat h hs hK
  rw[D4]at h
  exact ih n (1::rp) K st a w hat.seq1 h hs hK
 | cond0 hf ih =>
  intro n rp K st a w hat h hs hK
  rw[A6]at h
  exact ih n (0::rp) K st a w hat.cond0 h hs hK
 | cond1 hf ih =>
  intro n rp K st a w hat h hs hK
  rw[A4]at h
  exact ih n (1::rp) K st a w hat.cond1 h hs hK
 | @block p id c Q F c' Q' F' hf ih =>
  intro n rp K st a w hat h hs hK
  rw[Bh]at h
  refine ih n (0::rp) _ st a w hat.block h hs (fun e st' a w hk hs=>?_)
  cases e with
  | normal=>exact hK .normal st' a w hk hs
  | ret=>exact hK .ret st' a w hk hs
  | exit i =>
   simp only[lJ]at hk
   simp only[kP,Exit.inBlock]
   cases hb:i.beq id with
   | true =>
    simp only[hb,cond_true]at hk
    rw[if_pos ((az _ _).1 hb)]
    exact hK .normal st' a w hk hs
   | false =>
    simp only[hb,cond_false]at hk
    rw[if_neg (fun e=>by subst e;simp at hb)]
    exact hK (.exit i) st' a w hk hs
 | @loop p c Q F c' Q' F' hf ih =>
  intro n rp K st a w hat h hs hK
  rw[Cr]at h
  refine ih n (0::rp) _ st a w hat.loop h hs (fun e st' a w hk hs=>?_)
  cases e with
  | normal =>
   simp only[rq,uQ]at hk
   cases han:io (L.ann F.fi) c with
   | none=>rw[han]at hk;exact hk.elim
   | some an =>
    rw[han]at hk
    obtain⟨B,hX,hXd,hs⟩:=hs
    obtain⟨st2,h2,hs2⟩:=kS hs hk
    exact yp (hJ (0::rp) c _ _ st2 a w hat.loop h2 ⟨B,hX,hXd,hs2⟩)
  | ret=>exact hK .ret st' a w hk hs
  | exit id=>exact hK (.exit id) st' a w hk hs
 | @opn p id ops draw Q F y o f fn c' Q' F' a0 B ho hof h3 h4 hX hXd hBok hf ih =>
  intro n rp K st a w hat h hs hK
  cases n with
  | zero=>rw[rD]at h;exact h.elim
  | succ n =>
   have ho':ops.toList[y%1000]? = some o:=by rw[FU];exact ho
   obtain⟨e1,e2⟩:=BT y
   rw[qS]at h
   simp only[e1,e2,ho',hof,cond_true]at h
   have hok:draw=true->bB ops.toList=true:=fun e=>by
    subst e
    cases hd:bB ops.toList with
    | true=>rfl
    | false=>rw[hd]at h;exact h.elim
   have h:(goQ E L p n (F.ov.length+F.nt) fn.ntmps f F.ys ((2*y+2)::rp) (cq fn)
       (uM E f fn F.nt o.dst (mL E draw ops.toList (y%1000) fun st'=>eV E L (dJ E L n) (dA E L n) F.nt F.fi F.ys id rp draw ops.toList (K .normal) (y%1000+1) (ops.toList.drop (y%1000+1)) (kU E.T draw st' ops.toList) st')) st).goes C J r:=by
    cases hb:!draw||bB ops.toList with
    | true=>rw[hb]at h;exact h
    | false=>rw[hb]at h;exact h.elim
   have hjl:y%1000<ops.size:=(FV.1 ho).1
   have hat2:=hat.opn a0 B ho hof h3 h4 hX hXd hBok
   rw[show F.ov.length+F.nt=(F.ov++a0.tmps.toList).length by simp[h3]]at h
   refine ih n ((2*y+2)::rp) _ st a w hat2 h hs (fun e st' a w hk hs=>?_)
   have he:e=.normal\/e=.ret:=by
    cases e with
    | normal=>exact .inl rfl
    | ret=>exact .inr rfl
    | exit i=>exact hk.elim
   refine nW (hat2.ok h0) he hs (fun w2 B2 hE2 hd2 hs2=>?_)
   obtain⟨_,v,hres,st2,hk2,hs3⟩:=sZ hE.1 (yu (F:=F) hBok hE2 hd2 hs2) h3 h4 hk
   refine⟨v,hres,v,rfl,pB (L:=L) ho hok (fun _ st3 a3 w3 h3 hs3=>ka hE h0 hg0 hL (cn hE h0 hg0 hm hL hJ n).1 (cn hE h0 hg0 hm hL hJ n).2 hJ hat hok (fun st' a w hk hs=>hK .normal st' a w hk hs) ops.size (y%1000+1) _ _ st3 a3 w3 rfl hjl (by omega) h3 hs3) (fun e=>?_) hk2 ⟨B,hX,hXd,hs3⟩⟩
   subst e
   exact AK hE h0 hg0 hL (cn hE h0 hg0 hm hL hJ n).1 (cn hE h0 hg0 hm hL hJ n).2 hJ hat (hok rfl) (fun st' a w hk hs=>hK .normal st' a w hk hs) _ (y%1000+1) (Nat.le_refl _)
 | @rng p g ps assign c Q F f fn c' Q' F' a0 B w0 w1 l mk Rc hfn hnt hdef hX hXd hBel hBok he hmk hready ht hp ha hc hf ih =>
  intro n rp K st a w hat h hs hK
  cases n with
  | zero=>rw[Cm]at h;exact h.elim
  | succ n =>
   rw[Ag]at h
   simp only[hfn]at h
   rw[show F.ov.length+F.nt=(F.ov++a0.tmps.toList).length by simp[hnt]]at h
   have hat2:=hat.rng a0 B w0 w1 l mk Rc hfn hnt hdef hX hXd hBel hBok he hmk hready ht hp ha hc
   exact ih n (f::rp) _ st a w hat2 h hs (fun e st' a w hk hs=>vB (hat2.ok h0) hX hXd hBel hBok hnt hdef he hmk hready (fun st' a w hk hs=>hK .normal st' a w hk hs) hk hs)
 | @yld0 p id ops draw Q F m j y o c' Q' F' a1 B Rc ho hj hy hnt hdef hX hXd hBok hBl k2 hready hf ih =>
  intro n rp K st a w hat h hs hK
  cases n with
  | zero=>rw[rD]at h;exact h.elim
  | succ n =>
   obtain⟨e1,e2,e3,e4⟩:=vv (z:=0) (m:=m) (by decide) hj
   have ho':ops.toList[j]? = some o:=by rw[FU];exact ho
   rw[qS]at h
   simp only[e1,e2,e3,e4,ho',hy,cond_false,cond_true,Nat.beq_refl]at h
   have hIl:¬I0 (F.W.Y m):=(hat.ok h0).yI m (FP.1 hy).1
   have hok:draw=true->bB ops.toList=true:=fun e=>by
    subst e
    cases hd:bB ops.toList with
    | true=>rfl
    | false=>rw[hd]at h;exact h.elim
   have h : (goQ E L p n (F.ov.length + F.nt) y.nt y.fi (aY F.ys m) (kL 0 m j :: rp) y.assign
        (ph (dv E (dJ E L n y.nt y.fi (aY F.ys m)) (dA E L n y.nt y.fi (aY F.ys m)) (L.ann y.fi) (L.jn y.fi) (kL 1 m j :: rp) y.body
         (eZ y F.nt o.dst (fun st'=>eV E L (dJ E L n) (dA E L n) F.nt F.fi F.ys id rp draw ops.toList (K .normal) (j+1) (ops.toList.drop (j+1)) (kU E.T draw st' ops.toList) st')))) st).goes C J r:=by
    cases hb:!draw||bB ops.toList with
    | true=>rw[hb]at h;exact h
    | false=>rw[hb]at h;exact h.elim
   rw[show F.ov.length+F.nt=(F.ov++a1.tmps.toList).length by simp[hnt]]at h
   have hjl:j<ops.size:=(FV.1 ho).1
   have hat2:=hat.yld0 a1 B Rc ho hj hy hnt hdef hX hXd hBok hBl k2 hready
   refine ih n _ _ st a w hat2 h hs (fun e st' a w hk hs=>tS (cn hE h0 hg0 hm hL hJ n).1 (cn hE h0 hg0 hm hL hJ n).2 hJ hat ho hj hy hX hXd hBok hIl hnt hdef hBl k2 hready (fun st2 a2 w2 hk2 hs2=>?_) hk hs)
   exact ka hE h0 hg0 hL (cn hE h0 hg0 hm hL hJ n).1 (cn hE h0 hg0 hm hL hJ n).2 hJ hat hok (fun st' a w hk hs=>hK .normal st' a w hk hs) ops.size (j+1) _ _ st2 _ w2 rfl hjl (by omega) hk2 hs2
 | @yld1 p id ops draw Q F m j y o c' Q' F' a1 B W Rc ho hj hy hnt hdef hX hXd hBok hq hWok hf ih =>
  intro n rp K st a w hat h hs hK
  cases n with
  | zero=>rw[rD]at h;exact h.elim
  | succ n =>
   obtain⟨e1,e2,e3,e4⟩:=vv (z:=1) (m:=m) (by decide) hj
   have ho':ops.toList[j]? = some o:=by rw[FU];exact ho
   rw[qS]at h
   simp only[e1,e2,e3,e4,ho',hy,cond_false,nbeq10]at h
   have hIl:¬I0 (F.W.Y m):=(hat.ok h0).yI m (FP.1 hy).1
   have hok:draw=true->bB ops.toList=true:=fun e=>by
    subst e
    cases hd:bB ops.toList with
    | true=>rfl
    | false=>rw[hd]at h;exact h.elim
   have h:(goQ E L p n (F.ov.length+F.nt) y.nt y.fi (aY F.ys m) (kL 1 m j::rp) y.body
         (eZ y F.nt o.dst (fun st'=>eV E L (dJ E L n) (dA E L n) F.nt F.fi F.ys id rp draw ops.toList (K .normal) (j+1) (ops.toList.drop (j+1)) (kU E.T draw st' ops.toList) st')) st).goes C J r:=by
    cases hb:!draw||bB ops.toList with
    | true=>rw[hb]at h;exact h
    | false=>rw[hb]at h;exact h.elim
   rw[show F.ov.length+F.nt=(F.ov++a1.tmps.toList).length by simp[hnt]]at h
   have hjl:j<ops.size:=(FV.1 ho).1
   have hat2:=hat.yld1 a1 B W Rc ho hj hy hnt hdef hX hXd hBok hq hWok
   refine ih n _ _ st a w hat2 h hs (fun e st' a w hk hs=>rS hq hX hXd hBok hIl hnt hdef (fun st2 a2 w2 hk2 hs2=>?_) hk hs)
   exact ka hE h0 hg0 hL (cn hE h0 hg0 hm hL hJ n).1 (cn hE h0 hg0 hm hL hJ n).2 hJ hat hok (fun st' a w hk hs=>hK .normal st' a w hk hs) ops.size (j+1) _ _ st2 _ w2 rfl hjl (by omega) hk2 hs2
theorem eB {C':FuncId->List TV->Option TV} {J':List Nat->ASt->Option R}:∀{p:Prg R} {r:R},p.run C' J'=some r->p.goes (fun f xs v=>C' f xs=some v) (fun rp st r=>J' rp st=some r) r
 | .fail,r,h=>by simp[Prg.run]at h
 | .ret r',r,h=>by simpa[Prg.run,Prg.goes]using h
 | .tv p k,r,h=>by
  simp only[Prg.run,Option.bind_eq_some_iff]at h
  obtain⟨v,h1,h2⟩:=h
  exact⟨v,h1,eB h2⟩
 | .tvs p k,r,h=>by
  simp only[Prg.run,Option.bind_eq_some_iff]at h
  obtain⟨v,h1,h2⟩:=h
  exact⟨v,h1,eB h2⟩
 | .rws p k,r,h=>by
  simp only[Prg.run,Option.bind_eq_some_iff]at h
  obtain⟨v,h1,h2⟩:=h
  exact⟨v,h1,eB h2⟩
 | .nat p k,r,h=>by
  simp only[Prg.run,Option.bind_eq_some_iff]at h
  obtain⟨v,h1,h2⟩:=h
  exact⟨v,h1,eB h2⟩
 | .chk b k,r,h=>by
  cases b with
  | false=>simp[Prg.run]at h
  | true=>exact⟨rfl,eB h⟩
 | .ite b t e,r,h=>by
  simp only[Prg.run,Option.bind_eq_some_iff]at h
  obtain⟨v,h1,h2⟩:=h
  cases v with
  | true=>exact⟨true,h1,.inl ⟨rfl,eB h2⟩⟩
  | false=>exact⟨false,h1,.inr ⟨rfl,eB h2⟩⟩
 | .call f xs k,r,h=>by
  simp only[Prg.run,Option.bind_eq_some_iff]at h
  obtain⟨v,h1,h2⟩:=h
  exact⟨v,h1,eB h2⟩
 | .jmp p st,r,h=>h
end
end Go.Ab

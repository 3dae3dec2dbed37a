import Derived.Test.YtpkpckdealhkhaaAM14b
import Derived.LoopN
set_option linter.all false
namespace Go.Ab
open Go.RowKit
def turns (ro:Option Nat) (P:Program) (c:Code) (Q:Exit->Act->World->Prop) (a:Act) (w:World):Prop :=
 ∀b k cs,b.roundOf=ro->∃e a' w',Q e a' w'/\ArrivesIn (Machine.fenced P (Rd ro)) P (lone (b.atR a (.code c :: .inLoop c::k)) cs w) b k cs e a' w'
theorem uU (ro:Option Nat) (P:Program) (m:Machine):m.fenced P (Rd ro):=fenced_wide P m
theorem wY {ro:Option Nat} {P:Program} {c:Code} {Q:Exit->Act->World->Prop} {a:Act} {w:World} (h:c.wpIn (Rd ro) 0 P (Exit.then (turns ro P c Q) Q) a w):turns ro P c Q a w:=by
 intro b k cs hro;obtain⟨e,a₁,w₁,hq,harr⟩:=h b (.inLoop c::k) cs hro trivial (FD _);cases e with
 | normal =>
  obtain⟨e₂,a₂,w₂,hq₂,harr₂⟩:=hq b k cs hro;exact⟨e₂,a₂,w₂,hq₂,.of_steps (StepsIn.trans harr (.one (uU ro P _) stepR_inLoop)) harr₂⟩
 | exit id=>exact⟨_,a₁,w₁,hq,.pass (x:=.inLoop c) rfl (fun _ _=>.inl (by simp)) harr⟩
 | goto l=>exact⟨_,a₁,w₁,hq,.pass (x:=.inLoop c) rfl (fun _ _=>.inl (by simp)) harr⟩
 | ret=>exact⟨_,a₁,w₁,hq,.pass (x:=.inLoop c) rfl (fun _ _=>.inl (by simp)) harr⟩
 | panic ch=>exact⟨_,a₁,w₁,hq,.pass (x:=.inLoop c) rfl (fun _ _=>.inl (by simp)) harr⟩
 | outgrown=>exact⟨_,a₁,w₁,hq,.pass (x:=.inLoop c) rfl (fun _ _=>.inl (by simp)) harr⟩
theorem ur {ro:Option Nat} {P:Program} {c:Code} {Q:Exit->Act->World->Prop} {a:Act} {w:World} (h:turns ro P c Q a w):(Code.loop c).wpIn (Rd ro) 0 P Q a w:=by
 intro b k cs hro _ _;obtain⟨e,a',w',hq,harr⟩:=h b k cs hro;exact⟨e,a',w',hq,.of_steps (.one (uU ro P _) stepR_loop) harr⟩
def kT:AEx->Exit
 | .normal=>.normal
 | .ret=>.ret
 | .exit id=>.exit id
section
variable {P:Program} {E:Env} {C:Cal} {w0:Bs} {w w':World} {I0 I R:Nat->Prop} {g g':Gh} {st st':ASt} {a:Act} {ov:List Value} {look:Look} {T:Type} {J:List Nat->ASt->T->Prop}
def kA (tmps:Array Value):ResultVar->Sem Value
 | .tmp t=>pure (tmps.getD t undef)
 | .cell a t=>do loadVar t (<-asAddr (tmps.getD a undef))
theorem kr (fn:Func) (tmps:Array Value):results fn tmps=(do let vs <-fn.results.mapM (kA tmps);pure (if h:vs.size=1 then vs[0]else .tuple vs)):=by
 unfold results;congr 1
theorem yk (hT : ∀ t d, E.T t = some d → aW P t d) (hs : al w0 I0 NoR g st a ov w) {rv : ResultVar} {x : AV} (h : xn E.T st rv = some x) :
  ∃v,(kA a.tmps rv).run P w=.ok v w/\bM w g st.look x v:=by
 cases rv with
 | tmp t =>
  simp only[xn,Gj]at h;subst h;exact⟨a.tmps.getD t undef,by simp[kA],hs.ev (.tmp t)⟩
 | cell ad t =>
  simp only[xn]at h;split at h
  ·rename_i i d hv hd
   have ht:=hT _ _ hd;have hrep:bM w g st.look (nth (.one .junk) st.slots ad) (a.tmps.getD ad undef):=hs.ev (.tmp ad);rw[hv]at hrep;obtain⟨cs',hl',hval⟩:=hrep;split at h
   ·rename_i cs hl
    rw[hl]at hl';simp only[Gj,BC.cells.injEq]at hl';subst hl';obtain⟨vs,ty,h4,hcr⟩:=hs.cells i cs hl;split at h
    ·rename_i cs1 htk
     obtain⟨k1,k2,k3⟩:=fa _ _ _ _ htk;have hn0:(bif d.kd.isAgg then d.size else 1)=cs1.length:=k1.symm;have h5:vs.toList.length=cs.length:=hcr.1;have hcr1:CR w g st.look cs1 (vs.toList.take cs1.length):=by
      refine⟨?_,fun j c u hc hu=>?_⟩
      ·rcases k2 with k2|k2
       ·have:cs1=[]:=List.eq_nil_of_length_eq_zero (by omega)
        subst this;simp
       ·simp at h5 ⊢;omega
      ·have hj:j<cs1.length:=(Gg.1 hc).1
       rw[List.getElem?_take_of_lt hj]at hu;rw[k3 j (by omega),Nat.zero_add]at hc;exact hcr.2 _ c u hc hu
     have hcell:∀(j:Nat) (u:Value),(vs.toList.take cs1.length)[j]? = some u->w.cell? ((⟨g.β i,0,none⟩:Addr).add j)=some u:=fun j u hu=>by
      have hj:j<cs1.length:=by
       have:=(Gg.1 hu).1;simp at this;omega
      rw[List.getElem?_take_of_lt hj,Gl]at hu;rw[eH,cell_of_row w (g.β i) _ vs ty (0,0) h4,Nat.zero_add];exact hu
     obtain⟨r1,r2⟩:=d9 (w:=w) ht (ad:=⟨g.β i,0,none⟩) (by rw[hn0];exact hcr1.1) hcell;cases hk:d.kd.isAgg with
     | true =>
      rw[hk]at h;exact⟨.agg (vs.toList.take cs1.length).toArray,by simp[kA,hval,asAddr,r1 hk],bS h ⟨_,rfl,by simpa using hcr1⟩⟩
     | false =>
      rw[hk]at h hn0
      match cs1,hn0,hcr1,h,r2 with
      | [c],_,hcr1,h,r2 =>
       have h0:(vs.toList.take 1).length=1:=hcr1.1;have hu:(vs.toList.take 1)[0]? = some ((vs.toList.take 1)[0]'(by omega)):=Gi _;have hh:=hcr1.2 0 c _ rfl hu;exact⟨_,by simp only[kA,hval,asAddr,Sem.run_bind,Sem.run_pure,Result.andThen_ok];exact r2 hk _ hu,bS h ⟨c,rfl,hh.1,hh.2⟩⟩
    ·cases h
   ·cases h
  ·cases h
theorem fO (hT:∀t d,E.T t=some d->aW P t d) (hs:al w0 I0 NoR g st a ov w):∀(rs:List ResultVar) (xs:List AV),i6 E.T st rs=some xs ->
  ∃vs:List Value,(rs.mapM (kA a.tmps)).run P w=.ok vs w/\nJ w g st.look xs vs
 | [],xs,h=>by simp[i6]at h;subst h;exact⟨[],by simp,trivial⟩
 | rv :: rs, xs, h => by
  simp only[i6]at h;cases h1:xn E.T st rv with
  | none=>simp[h1]at h
  | some x =>
   cases h2:i6 E.T st rs with
   | none=>simp[h1,h2]at h
   | some xs' =>
    simp only[h1,h2,Gj]at h;subst h;obtain⟨v,hr,hv⟩:=yk (P:=P) hT hs h1;obtain⟨vs,hrs,hvs⟩:=fO hT hs rs xs' h2;refine⟨v::vs,?_,hv,hvs⟩;simp only[List.mapM_cons,Sem.run_bind,hr,Result.andThen_ok,hrs,Sem.run_pure]
theorem fn1_of {f:FuncId} {i:Nat} {v:Value} (hx:bM w g look (.clo f [.ptr i 0]) v):bG w g look (.fn1 f i) v:=by
 obtain⟨vs,rfl,hcr⟩:=hx;have h1:vs.size=1:=by simpa using hcr.1
 have h2:=(hcr.2 0 (.ptr i 0) (vs.getD 0 undef) rfl (by rw[Gl,Array.getElem?_eq_getElem (by omega)];simp[h1])).1;obtain⟨cs,hl,hv⟩:=h2;refine⟨cs,hl,?_⟩;have:vs=#[vs.getD 0 undef]:=by
  apply Array.ext
  ·simpa using h1
  ·intro q hq hq2
   have:q=0:=by simp at hq2;omega
   subst this;simp[h1]
 rw[this,hv]
theorem xp {agg:Bool} {n:Nat} {x:AV} {k:List CA->Prg T} {r:T} {v:Value} (hx:bM w g look x v) (h:(x.ba agg n k).goes C J r):∃cs,(k cs).goes C J r/\lP w g look agg cs v:=by
 cases agg with
 | false =>
  cases x with
  | one c =>
   simp only[AV.ba]at h;cases hk:c.kept with
   | false=>simp[hk,Prg.goes]at h
   | true =>
    simp only[hk,cond_true]at h;exact⟨[c],h,c,rfl,hx,rR hx hk⟩
  | tv x =>
   obtain⟨h1,h⟩:=h;have h1':v.oneCell'=true:=by
    cases hx with
    | lit v=>exact h1
    | hole v=>simp[TV.eL]at h1
    | buf e h=>simp[TV.eL]at h1
    | sl=>rfl
    | agg=>simp[TV.eL]at h1
    | tup=>simp[TV.eL]at h1
   exact⟨[.t x],h,_,rfl,⟨hx,h1'⟩,h1'⟩
  | bl b =>
   have:v=.bool b:=hx;subst this;exact⟨[.t (.lit (.bool b))],h,_,rfl,⟨.lit _,rfl⟩,rfl⟩
  | agg cs=>exact h.elim
  | tups l=>exact h.elim
  | clo f l =>
   unfold AV.ba at h;split at h;all_goals first|(rename_i heq;cases heq;done)|skip
   all_goals first|exact h.elim|skip
   rename_i f' i heq0 heq;cases heq;refine⟨[.fn1 f i],h,_,rfl,?_,?_⟩
   ·exact fn1_of hx
   ·obtain⟨vs,rfl,_⟩:=hx;rfl
 | true =>
  cases x with
  | agg cs =>
   simp only[AV.ba]at h;cases hk:cs.length.beq n with
   | false=>simp[hk,Prg.goes]at h
   | true =>
    simp only[hk,cond_true]at h;exact⟨cs,h,hx⟩
  | tv x =>
   obtain⟨h1,h⟩:=h;have hx:Rep w g.I x v:=hx;cases hx with
   | lit v=>simp[TV.isAgg]at h1
   | hole v=>simp[TV.isAgg]at h1
   | buf e h=>simp[TV.isAgg]at h1
   | sl=>simp[TV.isAgg]at h1
   | tup=>simp[TV.isAgg]at h1
   | @agg cs vs hl h1' hr =>
    have hn:cs.length=n:=(aC _ _).1 h1;refine⟨_,h,vs,rfl,by simp[hl,hn],fun j c u hc hu=>?_⟩;have hlt:j<n:=by
     have:=(Gg.1 hc).1;simpa using this
    rw[Gn,List.getElem?_range hlt]at hc;simp only[Gv,Gj]at hc;subst hc;have hj2:j<cs.length:=by omega
    have hcell:TV.cell (.agg cs) j=cs[j]:=by simp only[TV.cell];exact bX (Gi hj2)
    rw[hcell];have hu':vs.getD j undef=u:=by
     simp only[Gl]at hu;rw[Gx,hu];rfl
    rw[<-hu'];exact⟨⟨hr j _ (Gi hj2),h1' j (by omega)⟩,h1' j (by omega)⟩
  | one c=>exact h.elim
  | bl b=>exact h.elim
  | tups l=>exact h.elim
  | clo _ l=>exact h.elim
theorem qe:∀{ds:List TyD} {vs:List AV} {us:List Value} {k:List (Bool × List CA)->Prg T} {r:T},nJ w g look vs us->(tS ds vs k).goes C J r ->
  ∃l,(k l).goes C J r/\l.length=us.length/\∀(j:Nat) (b:Bool) (c:List CA),l[j]? = some (b,c)->lP w g look b c (us.getD j undef)
 | [],[],us,k,r,hr,h=>by
  have:us=[]:=by cases us with|nil=>rfl|cons u us=>exact hr.elim
  subst this;exact⟨[],h,rfl,fun j b c hj=>by simp at hj⟩
 | d::ds,v::vs,[],k,r,hr,h=>hr.elim
 | d::ds,v::vs,u::us,k,r,hr,h=>by
  obtain⟨cs,h1,h2⟩:=xp hr.1 h;obtain⟨l,h3,h4,h5⟩:=qe hr.2 h1;refine⟨_,h3,by simp[h4],fun j b c hj=>?_⟩;cases j with
  | zero=>simp at hj;obtain⟨rfl,rfl⟩:=hj;exact h2
  | succ j=>simp at hj;exact h5 j b c hj
 | [],v::vs,us,k,r,hr,h=>h.elim
 | d::ds,[],us,k,r,hr,h=>h.elim
theorem rD {L:List Nat} {m:Nat} (hn:ic L=true) (hs:Sim w0 I0 st a ov w):Sim w0 I0 (nz L m st) a ov w:=by
 obtain⟨g,hs⟩:=hs;have hlook:∀k,(nz L m st).look k=(L[k]?).bind fun i=>(st.look i).map (BC.bz (CA.ren L)):=fun k=>by
  simp only[nz,ASt.look,aS,List.getElem?_append,o0,qa];by_cases hk:k<L.length
  ·rw[if_pos hk,Gi hk]
   rfl
  ·have hL:L[k]? = none:=Gu (by omega)
   rw[if_neg hk,hL,List.getElem?_replicate];split<;>rfl
 obtain⟨g',hg'⟩:∃g':Gh,g'=⟨g.I,fun k=>g.ρ (nth 0 L k),fun k=>g.β (nth 0 L k),fun k=>g.φ (nth 0 L k),g.O⟩:=⟨_,rfl⟩;have hat:∀{k i:Nat},L[k]? = some i->nth 0 L k=i:=fun h=>bX h
 have eI:g'.I=g.I:=by rw[hg']
 have eO:g'.O=g.O:=by rw[hg']
 have hlk:∀{k i:Nat} {b:BC},L[k]? = some i->st.look i=some b->(nz L m st).look k=some (b.bz (CA.ren L)):=fun{k i b} h1 h2=>by rw[hlook,h1];simp[h2]
 have inv:∀{k:Nat} {b:BC},(nz L m st).look k=some b->∃i b0,L[k]? = some i/\st.look i=some b0/\b=b0.bz (CA.ren L):=fun{k b} h=>by
  rw[hlook]at h;cases hk:L[k]? with
  | none=>simp[hk]at h
  | some i =>
   simp only[hk,Option.bind_some]at h;cases hb:st.look i with
   | none=>simp[hb]at h
   | some b0=>simp only[hb,Gv,Gj]at h;exact⟨i,b0,rfl,hb,h.symm⟩
 have hf:∀c v,bG w g st.look c v->bG w g' (nz L m st).look (c.ren L) v:=by
  intro c v h;cases c with
  | t x=>exact⟨by rw[eI];exact h.1,h.2⟩
  | ptr i off =>
   simp only[CA.ren];split
   ·rename_i k hk
    replace hk:L[k]? = some i:=(aV hk).2;obtain⟨cs,h1,h2⟩:=h;exact⟨_,hlk hk h1,by rw[hg'];simp only[];rw[hat hk];exact h2⟩
   ·trivial
  | ref x off =>
   obtain⟨ad,cell,h1,h3⟩:=h;exact⟨ad,cell,h1,fun j c hj=>⟨(h3 j c hj).1.mv (fun _ _=>rfl) (fun b hb=>by rw[eI];exact hb) eO,(h3 j c hj).2.1,by rw[eI];exact(h3 j c hj).2.2⟩⟩
  | tptr i r p k j =>
   simp only[CA.ren];split
   ·rename_i m hm
    replace hm:L[m]? = some i:=(aV hm).2;obtain⟨xs,x,ad,l,cap,s,n,h1,h2,h3,h4,h5⟩:=h;refine⟨xs,x,ad,l,cap,s,n,hlk hm h1,h2,?_,h4,h5⟩;rw[hg'];simp only[];rw[hat hm];exact h3
   ·trivial
  | sref i r p =>
   simp only[CA.ren];split
   ·rename_i m hm
    replace hm:L[m]? = some i:=(aV hm).2;obtain⟨xs,x,nd,h1,h2,h3,h4⟩:=h;refine⟨xs,x,nd,hlk hm h1,h2,?_,h4⟩;rw[hg'];simp only[];rw[hat hm];exact h3
   ·trivial
  | swin i r p lo len =>
   simp only[CA.ren];split
   ·rename_i m hm
    replace hm:L[m]? = some i:=(aV hm).2;obtain⟨xs,x,u,nd,h1,h2,h3,h4,h5⟩:=h;refine⟨xs,x,u,nd,hlk hm h1,h2,?_,h4,h5⟩;rw[hg'];simp only[];rw[hat hm];exact h3
   ·trivial
  | yl n=>show v=.func (.yield (g'.O.y n)) #[] #[];rw[eO];exact h
  | ifp ty i =>
   simp only[CA.ren];split
   ·rename_i k hk
    replace hk:L[k]? = some i:=(aV hk).2;obtain⟨cs,h1,h2⟩:=h;exact⟨_,hlk hk h1,by rw[hg'];simp only[];rw[hat hk];exact h2⟩
   ·trivial
  | fn1 q i =>
   simp only[CA.ren];split
   ·rename_i k hk
    replace hk:L[k]? = some i:=(aV hk).2;obtain⟨cs,h1,h2⟩:=h;exact⟨_,hlk hk h1,by rw[hg'];simp only[];rw[hat hk];exact h2⟩
   ·trivial
  | psl i n =>
   simp only[CA.ren];split
   ·rename_i k hk
    replace hk:L[k]? = some i:=(aV hk).2;obtain⟨cs,h1,h2⟩:=h;exact⟨_,hlk hk h1,by rw[hg'];simp only[];rw[hat hk];exact h2⟩
   ·trivial
  | aptr i off len n =>
   simp only[CA.ren];split
   ·rename_i k hk
    replace hk:L[k]? = some i:=(aV hk).2;obtain⟨cs,h1,h2,h3⟩:=h;exact⟨_,hlk hk h1,h2,by rw[hg'];simp only[];rw[hat hk];exact h3⟩
   ·trivial
  | may i ty =>
   simp only[CA.ren];split
   ·rename_i k hk
    replace hk:L[k]? = some i:=(aV hk).2;obtain⟨cs,h1,h2,h3⟩:=h;refine⟨_,hlk hk h1,?_,?_⟩
    ·rw[hg'];simp only[];rw[hat hk];exact h2
    ·rw[hg'];simp only[];rw[hat hk];exact h3
   ·trivial
  | undef=>exact h
  | junk=>exact h
 have foot:∀{k b:Nat},Foot g' (nz L m st).look k b->∃i,L[k]? = some i/\Foot g st.look i b:=by
  rintro k b (⟨cs,h1,h2⟩|⟨xs,r,h1,h2,h3⟩)
  ·obtain⟨i,b0,i1,i2,i3⟩:=inv h1
   refine⟨i,i1,?_⟩;rw[hg']at h2;simp only[]at h2;rw[hat i1]at h2;cases b0 with
   | cells cs0=>exact .inl ⟨cs0,i2,h2⟩
   | tree xs=>simp[BC.bz]at i3
  ·obtain⟨i,b0,i1,i2,i3⟩:=inv h1
   refine⟨i,i1,?_⟩;rw[hg']at h3;simp only[]at h3;rw[hat i1]at h3;cases b0 with
   | cells cs0=>simp[BC.bz]at i3
   | tree xs0=>simp only[BC.bz,BC.tree.injEq]at i3;subst i3;exact .inr ⟨xs,r,i2,h2,h3⟩
 refine⟨g',hs.below,by rw[eI];exact hs.sub,by rw[eI];exact hs.lt,by rw[eI];exact hs.old,by simp only[nz,bm];exact hs.len,hs.defers,fun t v hv=>?_,by simp only[nz,bm];exact hs.olen,?_,fun k cs hl=>?_,fun k xs hl r x hx=>?_,
  fun k b hb=>?_,fun k k' b hb hb'=>?_,fun k xs r r' b hl h1 h2 h3 h4=>?_,fun b hb=>hb.elim,hs.base,by rw[eO];exact hs.out⟩
 ·exact dO (w':=w) (g':=g') (st':=nz L m st) hf (fun _ _=>rfl) (fun b hb=>by rw[eI];exact hb) (l:=st.slots) (vs:=fun t=>a.tmps.getD t undef) hs.slots t v hv
 ·exact dO (w':=w) (g':=g') (st':=nz L m st) hf (fun _ _=>rfl) (fun b hb=>by rw[eI];exact hb) (l:=st.out) (vs:=fun t=>ov.getD t undef) hs.outs
 ·obtain⟨i,b0,i1,i2,i3⟩:=inv hl
  cases b0 with
  | tree xs=>simp[BC.bz]at i3
  | cells cs0 =>
   simp only[BC.bz,BC.cells.injEq]at i3;subst i3;obtain⟨vs,ty,c1,c2⟩:=hs.cells i cs0 i2;refine⟨vs,ty,?_,c2.mapC hf⟩;rw[hg'];simp only[];rw[hat i1];exact c1
 ·obtain⟨i,b0,i1,i2,i3⟩:=inv hl
  cases b0 with
  | cells cs0=>simp[BC.bz]at i3
  | tree xs0 =>
   simp only[BC.bz,BC.tree.injEq]at i3;subst i3;have:=hs.trees i xs i2 r x hx;rw[hg'];simp only[];rw[hat i1];exact this
 ·obtain⟨i,i1,i2⟩:=foot hb
  rw[eI];exact hs.foot i b i2
 ·obtain⟨i,i1,i2⟩:=foot hb
  obtain⟨j,j1,j2⟩:=foot hb';have:=hs.apart i j b i2 j2;subst this;exact np hn k k' i i1 j1
 ·obtain⟨i,b0,i1,i2,i3⟩:=inv hl
  cases b0 with
  | cells cs0=>simp[BC.bz]at i3
  | tree xs0 =>
   simp only[BC.bz,BC.tree.injEq]at i3;subst i3;rw[hg']at h3 h4;simp only[]at h3 h4;rw[hat i1]at h3 h4;exact hs.apartR i xs r r' b i2 h1 h2 h3 h4
theorem lD {m:Nat} {k:ASt->Prg T} {r:T} (hs:Sim w0 I0 st a ov w) (h:(gu m st k).goes C J r):∃st2,(k st2).goes C J r/\Sim w0 I0 st2 a ov w:=by
 unfold gu at h;simp only[dQ,pD]at h;cases hc:ic (ip st)&&(ip st).length.ble dl&&dl.ble st.boxes.length with
 | false=>rw[hc]at h;exact h.elim
 | true =>
  rw[hc]at h;simp only[Gk]at hc;exact⟨_,h,rD hc.1.1 hs⟩
theorem sw (hT:∀t d,E.T t=some d->aW P t d) {f:FuncId} {fn:Func} {nt:Nat} {d:Option Tmp} {K:ASt->Prg T} {e:AEx} {a0:Act} {r:T} (hs:Sim w0 I0 st a (ov++a0.tmps.toList) w) (hnt:a0.tmps.size=nt) (hd:a0.defers=w0.ds)
  (h:(uB E f fn nt d K e st).goes C J r):(e=.normal\/e=.ret)/\∃v,(results fn a.tmps).run P w=.ok v w/\∃st2,(K st2).goes C J r/\Sim w0 I0 st2 (a0.put d v) ov w:=by
 have he:e=.normal\/e=.ret:=by
  cases e with
  | normal=>exact .inl rfl
  | ret=>exact .inr rfl
  | exit i=>exact h.elim
 obtain⟨g,hs⟩:=hs;refine⟨he,?_⟩;have h:(match i6 E.T st fn.results.toList,mI E.T (E.rts f)with
  | some vs, some ds => bif nt.ble st.out.length then wl ds vs fun v =>
    gu fn.ntmps (ASt.put ⟨st.out.drop (st.out.length-nt),st.boxes,st.out.take (st.out.length-nt)⟩ d v) K else .fail
  | _,_=>.fail).goes C J r:=by rcases he with rfl|rfl<;>exact h
 split at h
 ·rename_i avs ds hav hds
  cases hle:nt.ble st.out.length with
  | false=>rw[hle]at h;exact h.elim
  | true =>
   rw[hle]at h;simp only[cond_true]at h;obtain⟨us,hrun,hreps⟩:=fO (P:=P) hT hs _ _ hav;have hm:(results fn a.tmps).run P w=.ok (if h:us.toArray.size=1 then us.toArray[0]else .tuple us.toArray) w:=by
    rw[kr,Array.mapM_eq_mapM_toList,<-bind_pure_comp];simp only[Sem.run_bind,hrun,Result.andThen_ok,Sem.run_pure]
   have hol:=hs.olen;simp only[List.length_append,Array.length_toList,hnt]at hol;have hk:st.out.length-nt=ov.length:=by omega
   rw[hk]at h;have hc:al w0 I0 NoR g ⟨st.out.drop ov.length,st.boxes,st.out.take ov.length⟩ a0 ov w:=by
    refine⟨hs.below,hs.sub,hs.lt,hs.old,by simp;omega,hd,fun t v hv=>?_,by simp;omega,fun t v hv=>?_,hs.cells,hs.trees,hs.foot,hs.apart,hs.apartR,hs.res,hs.base,hs.out⟩
    ·simp only[List.getElem?_drop]at hv
     have:=hs.outs (ov.length+t) v hv;have e1:(ov++a0.tmps.toList).getD (ov.length+t) undef=a0.tmps.getD t undef:=by
      rw[Gw,Gt (by omega),Nat.add_sub_cancel_left,Gl,Gx]
     rw[e1]at this;exact this
    ·have ht:t<ov.length:=by
      have:=(Gg.1 hv).1;simp at this;omega
     rw[List.getElem?_take_of_lt ht]at hv;have:=hs.outs t v hv;have e1:(ov++a0.tmps.toList).getD t undef=ov.getD t undef:=by
      rw[Gw,Gs ht,Gw]
     rw[e1]at this;exact this
   have fin:∀(v:AV) (u:Value),bM w g st.look v u->(gu fn.ntmps (ASt.put ⟨st.out.drop ov.length,st.boxes,st.out.take ov.length⟩ d v) K).goes C J r->∃st2,(K st2).goes C J r/\Sim w0 I0 st2 (a0.put d u) ov w :=
    fun v u hv hk=>lD ⟨g,hc.put d hv⟩ hk
   have hul:=hreps.len;have many:us.length≠1->(tS ds avs fun l=>gu fn.ntmps (ASt.put ⟨st.out.drop ov.length,st.boxes,st.out.take ov.length⟩ d (.tups l)) K).goes C J r ->
     ∃v,(results fn a.tmps).run P w=.ok v w/\∃st2,(K st2).goes C J r/\Sim w0 I0 st2 (a0.put d v) ov w:=by
    intro hne hk;obtain⟨l,h1,h2,h3⟩:=qe hreps hk;refine⟨.tuple us.toArray,by rw[hm,dif_neg (by simpa using hne)],fin (.tups l) _ ⟨us.toArray,rfl,by simp[h2],fun j b c hj=>?_⟩ h1⟩;have:=h3 j b c hj;rwa[show us.toArray.getD j undef=us.getD j undef by simp[Gw]]
   match avs,hreps,hul,h,many with
   | [],hreps,hul,h,many=>exact many (by simp at hul;simp[hul]) h
   | v::v2::l,hreps,hul,h,many=>exact many (by simp at hul;omega) h
   | [v],hreps,hul,h,many =>
    match us,hreps,hul,hm with
    | [u],hreps,_,hm=>exact⟨u,by simpa using hm,fin v u hreps.1 h⟩
 ·exact h.elim
theorem tB (hs:Sim w0 I0 st a ov w) {ntmps:Nat} {vs:List AV} {vals:Array Value} (hle:vs.length<=ntmps) (hsz:vals.size=vs.length)
  (ks:Option (List Nat)) (hreps:∀g,al w0 I0 (fun _=>False) g st a ov w->∀(j:Nat) (v:AV),vs[j]? = some v->bM w g st.look v (vals.getD j undef)) :
  Sim w0 I0 (jv ntmps vs (jY ks st)) { tmps:=vals++Array.replicate (ntmps-vals.size) undef,defers:=w0.ds } (ov++a.tmps.toList) w:=by
 obtain⟨g,hs⟩:=hs;have hreps:=hreps g hs;replace hs:al w0 I0 (fun _=>False) g (jY ks st) a ov w:=by
  cases ks with
  | none=>exact hs
  | some ks=>exact vK hs
 have hlk0:(jY ks st).look=st.look:=by cases ks<;>rfl
 rw[<-hlk0]at hreps;generalize jY ks st=st at hs hreps ⊢;have hlk:(jv ntmps vs st).look=st.look:=by
  funext i;simp only[jv,ASt.look,aS];by_cases h:i<st.boxes.length
  ·rw[Gs h]
  ·rw[Gt (by omega),Gu (l:=st.boxes) (by omega),List.getElem?_replicate]
   split<;>rfl
 refine⟨g,hs.below,hs.sub,hs.lt,hs.old,by simp[jv,hsz],rfl,fun t v hv=>?_,?_,fun t v hv=>?_,by rw[hlk];exact hs.cells,by rw[hlk];exact hs.trees,by rw[hlk];exact hs.foot,by rw[hlk];exact hs.apart,by rw[hlk];exact hs.apartR,hs.res,hs.base,hs.out⟩
 ·rw[hlk]
  simp only[jv,List.getElem?_append]at hv;by_cases ht:t<vs.length
  ·simp only[ht,if_true]at hv
   have:=hreps t v hv;have hg:(vals++Array.replicate (ntmps-vals.size) undef).getD t undef=vals.getD t undef:=by
    have:t<vals.size:=by omega
    rw[Gx,Array.getElem?_append_left this,<-Gx]
   show bM w g st.look v ((vals++Array.replicate (ntmps-vals.size) undef).getD t undef);rw[hg];exact this
  ·simp only[ht,if_false,List.getElem?_replicate]at hv
   split at hv
   ·simp only[Gj]at hv
    subst hv;show(vals++Array.replicate (ntmps-vals.size) undef).getD t undef=undef;rw[Gx,Array.getElem?_append_right (by omega),Array.getElem?_replicate];split<;>rfl
   ·cases hv
 ·simp[jv,hs.olen,hs.len]
 ·rw[hlk]
  simp only[jv,List.getElem?_append]at hv;have hol:=hs.olen;by_cases ht:t<st.out.length
  ·simp only[ht,if_true]at hv
   have:=hs.outs t v hv;rwa[show(ov++a.tmps.toList).getD t undef=ov.getD t undef by rw[Gw,Gs (by omega),Gw]]
  ·simp only[ht,if_false]at hv
   have:=hs.slots (t-st.out.length) v hv;rwa[show(ov++a.tmps.toList).getD t undef=a.tmps.getD (t-st.out.length) undef by
    rw[Gw,Gt (by omega),Gl,Gx,hol]]
end
section
variable {P:Program} {w0:Bs} {w:World} {I0:Nat->Prop} {g:Gh} {st:ASt} {a:Act} {ov:List Value} {look:Look}
theorem vJ:∀{ps:List Tmp} {vs:List AV} {us:List Value} {l:List AV} {t:Array Value},vs.length=us.length->(∀(j:Nat) (v:AV) (u:Value),vs[j]? = some v->us[j]? = some u->bM w g look v u)->l.length=t.size ->
  (∀(j:Nat) (v:AV),l[j]? = some v->bM w g look v (t.getD j undef)) ->
  (jM ps vs l).length=((ps.zip us).foldl (fun t (p,v)=>t.setIfInBounds p v) t).size/\∀(j:Nat) (v:AV),(jM ps vs l)[j]? = some v->bM w g look v (((ps.zip us).foldl (fun t (p,v)=>t.setIfInBounds p v) t).getD j undef)
 | [],vs,us,l,t,hl,hv,hlt,h=>⟨by simpa[jM]using hlt,by simpa[jM]using h⟩
 | p::ps,[],[],l,t,hl,hv,hlt,h=>⟨by simpa[jM]using hlt,by simpa[jM]using h⟩
 | p::ps,[],u::us,l,t,hl,hv,hlt,h=>by cases hl
 | p::ps,v::vs,[],l,t,hl,hv,hlt,h=>by cases hl
 | p :: ps, v :: vs, u :: us, l, t, hl, hv, hlt, h => by
  simp only[jM,List.zip_cons_cons,List.foldl_cons];refine vJ (by simpa using hl) (fun j v u hj hu=>hv (j+1) v u (by simpa using hj) (by simpa using hu)) (by simpa[ah]using hlt) (fun j x hx=>?_);rw[ah,List.getElem?_set]at hx;by_cases e:p=j
  ·subst e
   have hpl:p<l.length:=by
    rcases Nat.lt_or_ge p l.length with h'|h'
    ·exact h'
    ·simp[Nat.not_lt.2 h']at hx
   simp only[hpl,if_true,Gj]at hx;subst hx;have:(t.setIfInBounds p u).getD p undef=u:=by
    have:p<t.size:=by rw[<-hlt];exact hpl
    simp[this]
   rw[this];exact hv 0 v u rfl rfl
  ·simp only[e,if_false]at hx
   have:(t.setIfInBounds p u).getD j undef=t.getD j undef:=by
    rw[Gx,Gx,Array.getElem?_setIfInBounds_ne e]
   rw[this];exact h j x hx
end
def dT (P:Program) (ops:Array Oper) (draw:Bool) (ro:Option Nat) (Q:Exit->Act->World->Prop) (j:Nat) (a:Act) (w:World):Prop :=
 match draw with
 | false=>wpOpsIn (Rd ro) 0 P ops Q (List.range' j (ops.size-j)) a w
 | true=>wpAnyIn (Rd ro) 0 P .any ops Q (ops.size-j) (gM ops.size j) a w
def so (P:Program) (ops:Array Oper) (draw:Bool) (ro:Option Nat) (Q:Exit->Act->World->Prop) (j:Nat) (o:Oper) (a0:Act) (v:Value) (w':World):Prop :=
 dT P ops draw ro Q (j+1) (a0.put o.dst v) w'/\(draw=true->d0 draw ops.toList j=false->∀(U:List Nat) (c:Oper),jm ops.toList j=some U->yU ops.toList j U c->∀(listed:Array Bool) (a1:Act) (vals:List (Tmp × Value)),listed.size=ops.size->yg ops listed->(∀k,j<=k->k<ops.size->listed.getD k true=false)->(∀q∈unlisted j listed,q∈U)->unlisted j listed≠[] ->
  vals.map (fun p=>some p.1)=dW ops.toList (unlisted j listed)->a0=uG a1 vals->wpAnyIn (Rd ro) 0 P .any ops Q ((unlisted j listed).length-1+(ops.size-j)) (listed.setIfInBounds j true) (a1.put o.dst v) w')
def xH (P:Program) (fn:Func) (ops:Array Oper) (draw:Bool) (ro:Option Nat) (Q:Exit->Act->World->Prop) (j:Nat) (o:Oper) (a0:Act):Exit->Act->World->Prop :=
 bodyPostM (Rd none) 0 P fn fun e w'=>∃v,e=.returned v/\so P ops draw ro Q j o a0 v w'
def tj (P:Program) (fn:Func) (Q:Exit->Act->World->Prop) (l:Nat) (a1:Act):Exit->Act->World->Prop :=
 bodyPostM (Rd none) 0 P fn fun e w'=>(∃v,e=.returned v)/\∃w4,(Instr.endLoop l).run P w'=.ok none w4/\Q .normal a1 w4
def iI (P:Program) (ops:Array Oper) (draw:Bool) (ro:Option Nat) (Q:Exit->Act->World->Prop) (j:Nat) (o:Oper) (a1:Act):Ending->World->Prop :=
 fun e w'=>∃v,e=.returned v/\dT P ops draw ro Q (j+1) (a1.put o.dst v) w'
def pX (P:Program) (l:Nat) (body:Code) (R:Ending->World->Prop):Exit->Act->World->Prop :=
 Exit.then (fun a₁ w₁=>∃w₂,(Instr.beginRound l).run P w₁=.ok () w₂/\body.wpIn (Rd (some l)) 0 P (roundPost P l R) a₁ w₂) (fun _ _ _=>False)
inductive At (P:Program) (L:Opn) (I0:Nat->Prop) (body:Code) (Q0:Exit->Act->World->Prop) (F0:Fr):List Nat->Code->(Exit->Act->World->Prop)->Fr->Prop
 | top:At P L I0 body Q0 F0 [] body Q0 F0
 | seq0 {rp a b Q F}:At P L I0 body Q0 F0 rp (.seq a b) Q F->At P L I0 body Q0 F0 (0::rp) a (Exit.then (b.wpIn (Rd F.ro) 0 P Q) Q) F
 | seq1 {rp a b Q F}:At P L I0 body Q0 F0 rp (.seq a b) Q F->At P L I0 body Q0 F0 (1::rp) b Q F
 | cond0 {rp c a b Q F}:At P L I0 body Q0 F0 rp (.cond c a b) Q F->At P L I0 body Q0 F0 (0::rp) a Q F
 | cond1 {rp c a b Q F}:At P L I0 body Q0 F0 rp (.cond c a b) Q F->At P L I0 body Q0 F0 (1::rp) b Q F
 | block {rp id c Q F}:At P L I0 body Q0 F0 rp (.block id c) Q F->At P L I0 body Q0 F0 (0::rp) c (Exit.inBlock id Q) F
 | loop {rp c Q F}:At P L I0 body Q0 F0 rp (.loop c) Q F->At P L I0 body Q0 F0 (0::rp) c (Exit.then (turns F.ro P c Q) Q) F
 | opn {rp id ops draw Q F y o f fn} (a0 : Act) (B : Bs) : At P L I0 body Q0 F0 rp (.region id ops draw) Q F → ops[y % 1000]? = some o → qJ L y o.op = some (f, fn) → a0.tmps.size = F.nt → a0.defers = B.ds → Ext F.W B → (F.ro.isSome = true → B.ds = []) → B.Ok I0 →
   At P L I0 body Q0 F0 ((2*y+2)::rp) (cm fn) (xH P fn ops draw F.ro Q (y%1000) o a0) ⟨F.ov++a0.tmps.toList,fn.ntmps,f,B.noD,F.ys,none⟩
 | rng {rp g ps assign c Q F f fn} (a0 : Act) (B : Bs) (w w1 : World) (l : Nat) (mk : List Deferred) (R : Loop) : At P L I0 body Q0 F0 rp (.rangeFunc g ps assign c) Q F → L.fns f = some fn → a0.tmps.size = F.nt → a0.defers = B.ds → Ext F.W B → (F.ro.isSome = true → B.ds = []) → B.Bel w → B.Ok I0 → Ent w w1 l mk R →
   (F.ro.isSome=true->mk=[])->(R.state=.ready/\R.pending=none)->R.tmps=a0.tmps->R.params=ps->R.assign=assign->R.body=c ->
   At P L I0 body Q0 F0 (f::rp) (cm fn) (tj P fn Q l ⟨a0.tmps,mk++a0.defers⟩) ⟨F.ov++a0.tmps.toList,fn.ntmps,f,B.over w w1 F.ys.length l,F.ys ++ [⟨F.ov.length,F.nt,F.fi,ps,assign,c,false⟩],none⟩
 | yld0 {rp id ops draw Q F m j y o} (a1 : Act) (B : Bs) (R : Loop) : At P L I0 body Q0 F0 rp (.region id ops draw) Q F → ops[j]? = some o → j < 1000 → F.ys[m]? = some y → a1.tmps.size = F.nt → a1.defers = B.ds → Ext F.W B → (F.ro.isSome = true → B.ds = []) → B.Ok I0 →
   B.w.heap[F.W.Y m]? = some (.loop R)->¬B.New (F.W.Y m)->(R.state=.ready/\R.pending=none) ->
   At P L I0 body Q0 F0 (kB 0 m j::rp) y.assign (pX P (F.W.Y m) y.body (iI P ops draw F.ro Q j o a1)) ⟨F.ov++a1.tmps.toList,y.nt,y.fi,B.noD,aX F.ys m,some (F.W.Y m)⟩
 | yld1 {rp id ops draw Q F m j y o} (a1 : Act) (B W : Bs) (R : Loop) : At P L I0 body Q0 F0 rp (.region id ops draw) Q F → ops[j]? = some o → j < 1000 → F.ys[m]? = some y → a1.tmps.size = F.nt → a1.defers = B.ds → Ext F.W B → (F.ro.isSome = true → B.ds = []) → B.Ok I0 →
   Rnd B W (F.W.Y m) R->W.Ok I0 ->
   At P L I0 body Q0 F0 (kB 1 m j::rp) y.body (roundPost P (F.W.Y m) (iI P ops draw F.ro Q j o a1)) ⟨F.ov++a1.tmps.toList,y.nt,y.fi,W,aX F.ys m,some (F.W.Y m)⟩
theorem At.ok {P:Program} {L:Opn} {I0:Nat->Prop} {body:Code} {Q0:Exit->Act->World->Prop} {F0:Fr} (h0:F0.Ok I0) {rp:List Nat} {c:Code} {Q:Exit->Act->World->Prop} {F:Fr} (h:At P L I0 body Q0 F0 rp c Q F):F.Ok I0:=by
 induction h with
 | top=>exact h0
 | seq0 _ ih=>exact ih
 | seq1 _ ih=>exact ih
 | cond0 _ ih=>exact ih
 | cond1 _ ih=>exact ih
 | block _ ih=>exact ih
 | loop _ ih=>exact ih
 | opn a0 B _ _ _ _ _ hE _ hok ih=>exact ih.opn hE hok _ _ _
 | rng a0 B w w1 l mk R _ _ hnt _ hE _ hb hok he _ hR ht hp ha hc ih=>subst hp ha hc;exact ih.over hE hb hok he hR ht hnt _ _
 | yld0 a1 B R _ _ _ hy _ _ hE _ hok _ _ _ ih=>exact ih.yld0 hE hok _ _ _ _ (Gg.1 hy).1
 | yld1 a1 B W R _ _ _ hy _ _ hE _ hok hR hWok ih=>exact ih.yld1 hE (Gg.1 hy).1 hR hWok _ _ _
def eD (I0:Nat->Prop) (F:Fr) (st:ASt) (a:Act) (w:World):Prop:=∃B,Ext F.W B/\(F.ro.isSome=true->B.ds=[])/\Sim B I0 st a F.ov w
inductive AtF (P:Program) (L:Opn) (I0:Nat->Prop):List Nat->Code->(Exit->Act->World->Prop)->Fr->Code->(Exit->Act->World->Prop)->Fr->Prop
 | here {c Q F}:AtF P L I0 [] c Q F c Q F
 | seq0 {p a b Q F c' Q' F'}:AtF P L I0 p a (Exit.then (b.wpIn (Rd F.ro) 0 P Q) Q) F c' Q' F'->AtF P L I0 (0::p) (.seq a b) Q F c' Q' F'
 | seq1 {p a b Q F c' Q' F'}:AtF P L I0 p b Q F c' Q' F'->AtF P L I0 (1::p) (.seq a b) Q F c' Q' F'
 | cond0 {p c a b Q F c' Q' F'}:AtF P L I0 p a Q F c' Q' F'->AtF P L I0 (0::p) (.cond c a b) Q F c' Q' F'
 | cond1 {p c a b Q F c' Q' F'}:AtF P L I0 p b Q F c' Q' F'->AtF P L I0 (1::p) (.cond c a b) Q F c' Q' F'
 | block {p id c Q F c' Q' F'}:AtF P L I0 p c (Exit.inBlock id Q) F c' Q' F'->AtF P L I0 (0::p) (.block id c) Q F c' Q' F'
 | loop {p c Q F c' Q' F'}:AtF P L I0 p c (Exit.then (turns F.ro P c Q) Q) F c' Q' F'->AtF P L I0 (0::p) (.loop c) Q F c' Q' F'
 | opn {p id ops draw Q F y o f fn c' Q' F'} (a0 : Act) (B : Bs) : ops[y % 1000]? = some o → qJ L y o.op = some (f, fn) → a0.tmps.size = F.nt → a0.defers = B.ds → Ext F.W B → (F.ro.isSome = true → B.ds = []) → B.Ok I0 →
   AtF P L I0 p (cm fn) (xH P fn ops draw F.ro Q (y%1000) o a0) ⟨F.ov++a0.tmps.toList,fn.ntmps,f,B.noD,F.ys,none⟩ c' Q' F'->AtF P L I0 ((2*y+2)::p) (.region id ops draw) Q F c' Q' F'
 | rng {p g ps assign c Q F f fn c' Q' F'} (a0 : Act) (B : Bs) (w w1 : World) (l : Nat) (mk : List Deferred) (R : Loop) : L.fns f = some fn → a0.tmps.size = F.nt → a0.defers = B.ds → Ext F.W B → (F.ro.isSome = true → B.ds = []) → B.Bel w → B.Ok I0 → Ent w w1 l mk R →
   (F.ro.isSome=true->mk=[])->(R.state=.ready/\R.pending=none)->R.tmps=a0.tmps->R.params=ps->R.assign=assign->R.body=c ->
   AtF P L I0 p (cm fn) (tj P fn Q l ⟨a0.tmps,mk++a0.defers⟩) ⟨F.ov++a0.tmps.toList,fn.ntmps,f,B.over w w1 F.ys.length l,F.ys ++ [⟨F.ov.length,F.nt,F.fi,ps,assign,c,false⟩],none⟩ c' Q' F' ->
   AtF P L I0 (f::p) (.rangeFunc g ps assign c) Q F c' Q' F'
 | yld0 {p id ops draw Q F m j y o c' Q' F'} (a1 : Act) (B : Bs) (R : Loop) : ops[j]? = some o → j < 1000 → F.ys[m]? = some y → a1.tmps.size = F.nt → a1.defers = B.ds → Ext F.W B → (F.ro.isSome = true → B.ds = []) → B.Ok I0 →
   B.w.heap[F.W.Y m]? = some (.loop R)->¬B.New (F.W.Y m)->(R.state=.ready/\R.pending=none) ->
   AtF P L I0 p y.assign (pX P (F.W.Y m) y.body (iI P ops draw F.ro Q j o a1)) ⟨F.ov++a1.tmps.toList,y.nt,y.fi,B.noD,aX F.ys m,some (F.W.Y m)⟩ c' Q' F'->AtF P L I0 (kB 0 m j::p) (.region id ops draw) Q F c' Q' F'
 | yld1 {p id ops draw Q F m j y o c' Q' F'} (a1 : Act) (B W : Bs) (R : Loop) : ops[j]? = some o → j < 1000 → F.ys[m]? = some y → a1.tmps.size = F.nt → a1.defers = B.ds → Ext F.W B → (F.ro.isSome = true → B.ds = []) → B.Ok I0 →
   Rnd B W (F.W.Y m) R->W.Ok I0 ->
   AtF P L I0 p y.body (roundPost P (F.W.Y m) (iI P ops draw F.ro Q j o a1)) ⟨F.ov++a1.tmps.toList,y.nt,y.fi,W,aX F.ys m,some (F.W.Y m)⟩ c' Q' F'->AtF P L I0 (kB 1 m j::p) (.region id ops draw) Q F c' Q' F'
theorem AtF.trans {P:Program} {L:Opn} {I0:Nat->Prop} {p q:List Nat} {c c1 c2:Code} {Q Q1 Q2:Exit->Act->World->Prop} {F F1 F2:Fr} (h:AtF P L I0 p c Q F c1 Q1 F1) (h':AtF P L I0 q c1 Q1 F1 c2 Q2 F2):AtF P L I0 (p++q) c Q F c2 Q2 F2:=by
 induction h with
 | here=>exact h'
 | seq0 _ ih=>exact .seq0 (ih h')
 | seq1 _ ih=>exact .seq1 (ih h')
 | cond0 _ ih=>exact .cond0 (ih h')
 | cond1 _ ih=>exact .cond1 (ih h')
 | block _ ih=>exact .block (ih h')
 | loop _ ih=>exact .loop (ih h')
 | opn a0 B h1 h2 h3 h4 h5 h6 h7 _ ih=>exact .opn a0 B h1 h2 h3 h4 h5 h6 h7 (ih h')
 | rng a0 B w w1 l mk R h1 h2 h3 h4 h5 h6 h7 h8 h9 h10 h11 h12 h13 h14 _ ih=>exact .rng a0 B w w1 l mk R h1 h2 h3 h4 h5 h6 h7 h8 h9 h10 h11 h12 h13 h14 (ih h')
 | yld0 a1 B R h1 h2 h3 h4 h5 h6 h7 h8 h9 h10 h11 _ ih=>exact .yld0 a1 B R h1 h2 h3 h4 h5 h6 h7 h8 h9 h10 h11 (ih h')
 | yld1 a1 B W R h1 h2 h3 h4 h5 h6 h7 h8 h9 h10 _ ih=>exact .yld1 a1 B W R h1 h2 h3 h4 h5 h6 h7 h8 h9 h10 (ih h')
theorem At.toF {P:Program} {L:Opn} {I0:Nat->Prop} {body:Code} {Q0:Exit->Act->World->Prop} {F0:Fr} {rp:List Nat} {c:Code} {Q:Exit->Act->World->Prop} {F:Fr} (h:At P L I0 body Q0 F0 rp c Q F):AtF P L I0 rp.reverse body Q0 F0 c Q F:=by
 induction h with
 | top=>exact .here
 | seq0 _ ih=>rw[List.reverse_cons];exact ih.trans (.seq0 .here)
 | seq1 _ ih=>rw[List.reverse_cons];exact ih.trans (.seq1 .here)
 | cond0 _ ih=>rw[List.reverse_cons];exact ih.trans (.cond0 .here)
 | cond1 _ ih=>rw[List.reverse_cons];exact ih.trans (.cond1 .here)
 | block _ ih=>rw[List.reverse_cons];exact ih.trans (.block .here)
 | loop _ ih=>rw[List.reverse_cons];exact ih.trans (.loop .here)
 | opn a0 B _ h1 h2 h3 h4 h5 h6 h7 ih=>rw[List.reverse_cons];exact ih.trans (.opn a0 B h1 h2 h3 h4 h5 h6 h7 .here)
 | rng a0 B w w1 l mk R _ h1 h2 h3 h4 h5 h6 h7 h8 h9 h10 h11 h12 h13 h14 ih=>rw[List.reverse_cons];exact ih.trans (.rng a0 B w w1 l mk R h1 h2 h3 h4 h5 h6 h7 h8 h9 h10 h11 h12 h13 h14 .here)
 | yld0 a1 B R _ h1 h2 h3 h4 h5 h6 h7 h8 h9 h10 h11 ih=>rw[List.reverse_cons];exact ih.trans (.yld0 a1 B R h1 h2 h3 h4 h5 h6 h7 h8 h9 h10 h11 .here)
 | yld1 a1 B W R _ h1 h2 h3 h4 h5 h6 h7 h8 h9 h10 ih=>rw[List.reverse_cons];exact ih.trans (.yld1 a1 B W R h1 h2 h3 h4 h5 h6 h7 h8 h9 h10 .here)
def FY (P:Program) (t:TypeId) (name:String) (f:FuncId) (d:Bool):Prop :=
 ∀(w:World) (p:Addr) (v:Value),p.spot=none->(d=true->w.cell? p=some v)->(method (P.types.size+Made.depth) t (.pointer (some p)) name).run P w=.ok (f,if d=true then v else .pointer (some p)) w
structure qD (P:Program) (L:Opn):Prop where
 fn : ∀ f fn, L.fns f = some fn → P.funcs[f]? = some fn ∧ (fn.name == "runtime.NumGoroutine") = false ∧ fn.body.isSome = true
 mth:∀t name f d,L.mth t name=some (f,d)->FY P t name f d
section
variable {P:Program} {E:Env} {C:Cal} {G0:Laid} {I0:Nat->Prop} {R:Type} {J:List Nat->ASt->R->Prop} {r:R} {L:Opn} {body:Code} {Q0:Exit->Act->World->Prop} {F0:Fr}
theorem At.gl (h0:F0.W.G=G0) {rp:List Nat} {c:Code} {Q:Exit->Act->World->Prop} {F:Fr} (h:At P L I0 body Q0 F0 rp c Q F):F.W.G=G0:=by
 induction h with
 | top=>exact h0
 | seq0 _ ih=>exact ih
 | seq1 _ ih=>exact ih
 | cond0 _ ih=>exact ih
 | cond1 _ ih=>exact ih
 | block _ ih=>exact ih
 | loop _ ih=>exact ih
 | opn a0 B _ _ _ _ _ hE _ _ ih=>exact hE.G.trans ih
 | rng a0 B w w1 l mk R _ _ _ _ hE _ _ _ _ _ _ _ _ _ _ ih=>exact hE.G.trans ih
 | yld0 a1 B R _ _ _ _ _ _ hE _ _ _ _ _ ih=>exact hE.G.trans ih
 | yld1 a1 B W R _ _ _ _ _ _ hE _ _ hR _ ih=>exact hR.G.trans (hE.G.trans ih)
abbrev JOk (P:Program) (L:Opn) (I0:Nat->Prop) (body:Code) (Q0:Exit->Act->World->Prop) (F0:Fr) (J:List Nat->ASt->R->Prop) (r:R):Prop :=
 ∀rp c Q F st a w,At P L I0 body Q0 F0 rp c Q F->J rp st r->eD I0 F st a w->c.wpIn (Rd F.ro) 0 P Q a w
abbrev qg (P:Program) (E:Env) (C:Cal) (L:Opn) (I0:Nat->Prop) (body:Code) (Q0:Exit->Act->World->Prop) (F0:Fr) (J:List Nat->ASt->R->Prop) (r:R) (n:Nat):Prop :=
 ∀rp id ops draw (K:ASt->Prg R) Q F st a w,At P L I0 body Q0 F0 rp (.region id ops draw) Q F->(dE E L n F.nt F.fi F.ys id rp ops.toList draw K st).goes C J r->eD I0 F st a w ->
  (∀st' a w,(K st').goes C J r->eD I0 F st' a w->Q .normal a w)->(Code.region id ops draw).wpIn (Rd F.ro) 0 P Q a w
abbrev nK (P:Program) (E:Env) (C:Cal) (L:Opn) (I0:Nat->Prop) (body:Code) (Q0:Exit->Act->World->Prop) (F0:Fr) (J:List Nat->ASt->R->Prop) (r:R) (n:Nat):Prop :=
 ∀rp g ps assign c (K:ASt->Prg R) Q F st a w,At P L I0 body Q0 F0 rp (.rangeFunc g ps assign c) Q F->(dF E L n F.nt F.fi F.ys rp g ps assign c K st).goes C J r->eD I0 F st a w ->
  (∀st' a w,(K st').goes C J r->eD I0 F st' a w->Q .normal a w)->(Code.rangeFunc g ps assign c).wpIn (Rd F.ro) 0 P Q a w
theorem b8 {n:Nat} (hR:qg P E C L I0 body Q0 F0 J r n) (hG:nK P E C L I0 body Q0 F0 J r n) (hJ:JOk P L I0 body Q0 F0 J r) {F:Fr}:∀(c:Code) (rp:List Nat) (K:AEx->ASt->Prg R) (Q:Exit->Act->World->Prop) (st:ASt) (a:Act) (w:World),At P L I0 body Q0 F0 rp c Q F ->
  (dq E (dE E L n F.nt F.fi F.ys) (dF E L n F.nt F.fi F.ys) (L.ann F.fi) (L.jn F.fi) rp c K st).goes C J r->eD I0 F st a w->(∀e st' a w,(K e st').goes C J r->eD I0 F st' a w->Q (kT e) a w)->c.wpIn (Rd F.ro) 0 P Q a w
 | .skip,rp,K,Q,st,a,w,hat,h,hs,hQ=>wpIn_skip (hQ .normal st a w h hs)
 | .region id ops draw,rp,K,Q,st,a,w,hat,h,hs,hQ=>by
  obtain⟨B,hE,hm,hs1⟩:=hs;obtain⟨st1,h1,hs1⟩:=Bz hs1 h;exact hR rp id ops draw _ Q F st1 a w hat h1 ⟨B,hE,hm,hs1⟩ (fun st' a w hk hs'=>hQ .normal st' a w hk hs')
 | .seq x y, rp, K, Q, st, a, w, hat, h, hs, hQ => by
  refine wpIn_seq (b8 hR hG hJ x (0::rp) _ _ st a w hat.seq0 h hs (fun e st' a' w' hk hs'=>?_));cases e with
  | normal =>
   simp only[qd]at hk;cases han:iu (L.jn F.fi) y with
   | none =>
    rw[han]at hk;exact b8 hR hG hJ y (1::rp) K Q st' a' w' hat.seq1 hk hs' hQ
   | some an =>
    rw[han]at hk;obtain⟨B,hE,hm,hs'⟩:=hs';obtain⟨st2,h2,hs2⟩:=kR hs' hk;exact hJ (1::rp) y Q _ st2 a' w' hat.seq1 h2 ⟨B,hE,hm,hs2⟩
  | ret=>exact hQ .ret st' a' w' hk hs'
  | exit id=>exact hQ (.exit id) st' a' w' hk hs'
 | .cond c x y, rp, K, Q, st, a, w, hat, h, hs, hQ => by
  simp only[dq]at h;have hs0:=hs;obtain⟨B,hE,hm,hs1⟩:=hs;have hev:bM w hs1.choose st.look (st.ev c) (a.eval c):=hs1.choose_spec.ev c;split at h
  ·rename_i v hv
   rw[hv]at hev;have hcv:a.eval c=.bool v:=hev;refine wpIn_cond hcv ?_;cases v with
   | true=>exact b8 hR hG hJ x (0::rp) K Q st a w hat.cond0 h hs0 hQ
   | false=>exact b8 hR hG hJ y (1::rp) K Q st a w hat.cond1 h hs0 hQ
  ·split at h
   ·rename_i v hv
    obtain⟨b,hb,h⟩:=h;have:=qI hb;subst this;have hcv:a.eval c=.bool b:=bO (cw hev hv);refine wpIn_cond hcv ?_;rcases h with⟨rfl,h⟩|⟨rfl,h⟩
    ·exact b8 hR hG hJ x (0::rp) K Q st a w hat.cond0 h hs0 hQ
    ·exact b8 hR hG hJ y (1::rp) K Q st a w hat.cond1 h hs0 hQ
   ·exact h.elim
 | .block id c, rp, K, Q, st, a, w, hat, h, hs, hQ => by
  refine wpIn_block (b8 hR hG hJ c (0::rp) _ _ st a w hat.block h hs (fun e st' a' w' hk hs'=>?_));cases e with
  | normal=>exact hQ .normal st' a' w' hk hs'
  | ret=>exact hQ .ret st' a' w' hk hs'
  | exit i =>
   simp only[lN]at hk;simp only[kT,Exit.inBlock];cases hb:i.beq id with
   | true =>
    simp only[hb,cond_true]at hk;rw[if_pos ((aC _ _).1 hb)];exact hQ .normal st' a' w' hk hs'
   | false =>
    simp only[hb,cond_false]at hk;rw[if_neg (fun e=>by subst e;simp at hb)];exact hQ (.exit i) st' a' w' hk hs'
 | .loop c, rp, K, Q, st, a, w, hat, h, hs, hQ => by
  simp only[dq,u6]at h;cases han:iu (L.ann F.fi) c with
  | none=>rw[han]at h;exact h.elim
  | some an =>
   rw[han]at h;obtain⟨B,hE,hm,hs⟩:=hs;obtain⟨st2,h2,hs2⟩:=kR hs h;exact ur (wY (hJ (0::rp) c _ _ st2 a w hat.loop h2 ⟨B,hE,hm,hs2⟩))
 | .exit id,rp,K,Q,st,a,w,hat,h,hs,hQ=>wpIn_exit (hQ (.exit id) st a w h hs)
 | .ret,rp,K,Q,st,a,w,hat,h,hs,hQ=>wpIn_ret (hQ .ret st a w h hs)
 | .rangeFunc g ps assign c,rp,K,Q,st,a,w,hat,h,hs,hQ=>hG rp g ps assign c _ Q F st a w hat h hs (fun st' a w hk hs'=>hQ .normal st' a w hk hs')
 | .scope _,rp,K,Q,st,a,w,hat,h,hs,hQ=>h.elim
 | .label _,rp,K,Q,st,a,w,hat,h,hs,hQ=>h.elim
 | .goto _,rp,K,Q,st,a,w,hat,h,hs,hQ=>h.elim
 | .refuse _,rp,K,Q,st,a,w,hat,h,hs,hQ=>h.elim
theorem qR {v:Value} {f:FuncId} {cs:List CA} (h:wP v=some (f,cs)):v=.func (.func f) #[] #[]/\cs=[]:=by
 unfold wP at h;split at h
 ·rename_i f' ts us
  cases hb:(ts.size.beq 0&&us.size.beq 0)with
  | false=>rw[hb]at h;cases h
  | true =>
   rw[hb]at h;simp only[Gk]at hb;obtain rfl:=Array.size_eq_zero_iff.mp (Nat.eq_of_beq_eq_true hb.1);obtain rfl:=Array.size_eq_zero_iff.mp (Nat.eq_of_beq_eq_true hb.2);simp only[cond_true,Gj,Prod.mk.injEq]at h;exact⟨by rw[h.1],h.2.symm⟩
 ·cases h
theorem AM {v:AV} {f:FuncId} {cs:List CA} {w:World} {g:Gh} {look:Look} {u:Value} (h:v.vR=some (f,cs)) (hv:bM w g look v u):∃vs:Array Value,u=.func (.func f) #[] vs/\CR w g look cs vs.toList:=by
 cases v with
 | clo f' cs' =>
  simp only[AV.vR,Gj,Prod.mk.injEq]at h;obtain⟨rfl,rfl⟩:=h;exact hv
 | one c =>
  cases c with
  | fn1 f' i =>
   simp only[AV.vR,Gj,Prod.mk.injEq]at h;obtain⟨rfl,rfl⟩:=h;obtain⟨cs,hl,hu⟩:=hv;refine⟨_,hu,rfl,fun j c u hc hu=>?_⟩;cases j with
   | zero =>
    simp at hc hu;subst hc hu;exact⟨⟨cs,hl,rfl⟩,rfl⟩
   | succ j=>simp at hc
  | t x =>
   cases x with
   | lit v =>
    obtain⟨rfl,rfl⟩:=qR h;obtain⟨hv,_⟩:=hv;cases hv;exact⟨#[],rfl,rfl,fun j c u hc _=>by simp at hc⟩
   | _=>cases h
  | _=>cases h
 | tv x =>
  cases x with
  | lit v =>
   obtain⟨rfl,rfl⟩:=qR h;cases(show Rep _ _ _ _ from hv);exact⟨#[],rfl,rfl,fun j c u hc _=>by simp at hc⟩
  | _=>cases h
 | _=>cases h
theorem nb {st:ASt} {j y:Nat} {o:Op} {f:FuncId} {fn:Func} {rv:List AV} {cap:List CA} (h:sM L st j o=some (y,f,fn,rv,cap)):L.fns f=some fn /\
  ((∃ args tys, o = .call ⟨.value (.func f), args, tys⟩ ∧ y = j ∧ rv = [] ∧ cap = []) ∨ (∃ t args tys, o = .call ⟨.value (.tmp t), args, tys⟩ ∧ y = (f + 1) * 1000 + j ∧ rv = [] ∧ (nth (.one .junk) st.slots t).vR = some (f, cap)) ∨
   ∃t nm args tys ty i d r,o=.call ⟨.invoke (.tmp t) nm,args,tys⟩/\y=(f+1)*1000+j/\rv=[r]/\cap=[]/\nth (.one .junk) st.slots t=.one (.ifp ty i)/\L.mth ty nm=some (f,d)/\wB st i d=some r):=by
 unfold sM at h;split at h
 ·rename_i f' args tys
  split at h
  ·rename_i fn' hf
   simp only[Gj,Prod.mk.injEq]at h;obtain⟨rfl,rfl,rfl,rfl,rfl⟩:=h;exact⟨hf,.inl ⟨args,tys,rfl,rfl,rfl,rfl⟩⟩
  ·cases h
 ·rename_i t args tys
  split at h
  ·rename_i f' cs hv
   split at h
   ·rename_i fn' hf
    simp only[Gj,Prod.mk.injEq]at h;obtain⟨rfl,rfl,rfl,rfl,rfl⟩:=h;exact⟨hf,.inr (.inl ⟨t,args,tys,rfl,rfl,rfl,hv⟩)⟩
   ·cases h
  ·cases h
 ·rename_i t nm args tys
  split at h
  ·rename_i f' r hv
   split at h
   ·rename_i fn' hf
    simp only[Gj,Prod.mk.injEq]at h;obtain⟨rfl,rfl,rfl,rfl,rfl⟩:=h;unfold F4 at hv;split at hv
    ·rename_i ty i heq
     split at hv
     ·rename_i f2 d hm
      split at hv
      ·rename_i r2 hr
       simp only[Gj,Prod.mk.injEq]at hv;obtain⟨rfl,rfl⟩:=hv;exact⟨hf,.inr (.inr ⟨t,nm,args,tys,ty,i,d,_,rfl,rfl,rfl,rfl,heq,hm,hr⟩)⟩
      ·cases hv
     ·cases hv
    ·cases hv
   ·cases h
  ·cases h
 ·cases h
theorem Df {st:ASt} {j y:Nat} {o:Op} {f:FuncId} {fn:Func} {rv:List AV} {cap:List CA} (h:sM L st j o=some (y,f,fn,rv,cap)) (hj:j<1000):y%1000=j/\qJ L y o=some (f,fn):=by
 have hm:((f+1)*1000+j)%1000=j:=by rw[Nat.add_comm,Nat.add_mul_mod_self_right];exact Nat.mod_eq_of_lt hj
 have hd:((f+1)*1000+j) / 1000=f+1:=by rw[Nat.add_comm,Nat.add_mul_div_right _ _ (by decide),Nat.div_eq_of_lt hj,Nat.zero_add]
 obtain⟨hf,⟨args,tys,rfl,rfl,_⟩|⟨t,args,tys,rfl,rfl,_⟩|⟨t,nm,args,tys,ty,i,d,r,rfl,rfl,_⟩⟩:=nb h
 ·refine⟨Nat.mod_eq_of_lt hj,?_⟩
  simp only[qJ,hf,lO hj,cond_true]
 ·exact⟨hm,by simp only[qJ,hd,hf]⟩
 ·exact⟨hm,by simp only[qJ,hd,hf]⟩
theorem yF {c:CA} {cs:List CA} {vs:Array Value} {w:World} {g:Gh} {look:Look} {b:Nat} {ty:TypeId} (hheap:w.heap[b]? = some (.cells vs ty (0,0))) (hcr:CR w g look [c] vs.toList):∃u,w.cell? ⟨b,0,none⟩=some u/\bG w g look c u:=by
 have h1:vs.size=1:=by simpa using hcr.1
 have h2:vs.toList[0]? = some (vs.getD 0 undef):=by rw[Gl,Array.getElem?_eq_getElem (by omega)];simp[h1]
 refine⟨_,?_,(hcr.2 0 c _ rfl h2).1⟩;rw[cell_of_row w b 0 vs ty (0,0) hheap,<-Gl];exact h2
def yH (P:Program) (I0:Nat->Prop) (st:ASt) (a:Act) (ov:List Value) (w:World) (B:Bs) (o:Oper) (f:FuncId) (rv:List AV) (cap:List CA):Prop :=
  ∃(vals:Array Value) (x:Operand) (xs:List Operand),o.op.operands.toList=x::xs/\vals.size=rv.length+xs.length+cap.length/\(∀c,o.op≠.defer c) /\
   (∀a1:Act,(∀z∈o.op.operands.toList,a1.eval z=a.eval z)->(execOp a1.eval o).run P w=.ok (.enter f vals) w) /\
   ∀g,al B I0 (fun _=>False) g st a ov w->∀(k:Nat) (v:AV),(rv++xs.map st.ev++cap.map AV.one)[k]? = some v->bM w g st.look v (vals.getD k undef)
theorem Bg (hL:qD P L) {st:ASt} {a:Act} {ov:List Value} {w:World} {B:Bs} {j y:Nat} {o:Oper} {f:FuncId} {fn:Func} {rv:List AV} {cap:List CA} (hof:sM L st j o.op=some (y,f,fn,rv,cap)) (hs:Sim B I0 st a ov w) :
  yH P I0 st a ov w B o f rv cap:=by
 obtain⟨hfn,hcal⟩:=nb hof;obtain⟨h1,h2,h3⟩:=hL.fn f fn hfn;obtain⟨c',hb⟩:∃c,fn.body=some c:=by
  cases hb:fn.body with
  | none=>rw[hb]at h3;cases h3
  | some c=>exact⟨c,rfl⟩
 have hcf:∀vals:Array Value,(callFunc f vals).run P w=.ok (.enter f vals) w:=fun vals=>by
  simp only[callFunc,Sem.run_bind,run_program,Result.andThen_ok,h1,h2,hb];simp
 have rargs:∀g,al B I0 (fun _=>False) g st a ov w->∀(args:Array Operand) (k:Nat) (v:AV),(args.toList.map st.ev)[k]? = some v->bM w g st.look v ((args.map a.eval).getD k undef):=fun g hs args k v hv=>by
  rw[Gn]at hv;cases hj:args.toList[k]? with
  | none=>rw[hj]at hv;cases hv
  | some x =>
   rw[hj]at hv;simp only[Gv,Gj]at hv;subst hv;have:(args.map a.eval).getD k undef=a.eval x:=by
    rw[Gl]at hj;rw[Gx,Array.getElem?_map,hj];rfl
   rw[this];have h5:=hs.ev x;cases x<;>exact h5
 have val : ∀ (c : Operand) (args : Array Operand) (tys : Array TypeId) (cv : Array Value), o.op = .call ⟨.value c, args, tys⟩ → a.eval c = .func (.func f) #[] cv → rv = [] → cv.size = cap.length →
   (∀g,al B I0 (fun _=>False) g st a ov w->∀(k:Nat) (c:CA),cap[k]? = some c->bG w g st.look c (cv.getD k undef))->yH P I0 st a ov w B o f rv cap:=by
  intro c args tys cv hop hev hrv hcv hcap;refine⟨args.map a.eval++cv,c,args.toList,by rw[hop];simp[Op.operands,Call.operands],by rw[hrv];simp[hcv],(fun q hq=>by rw[hop]at hq;cases hq),fun a1 hev1=>?_,fun g hs k v hv=>?_⟩
  ·have e1:a1.eval c=a.eval c:=hev1 c (by rw[hop];simp[Op.operands,Call.operands])
   have e2:args.map a1.eval=args.map a.eval:=Array.map_congr_left fun z hz=>hev1 z (by rw[hop];simp[Op.operands,Call.operands];exact .inr hz)
   obtain⟨dst,op,type,pos,after,guard⟩:=o;simp only at hop;subst hop;simp only[execOp,resolve,e1,e2,hev,Deferred.ofValue,Sem.run_bind,Sem.run_pure,Result.andThen_ok,invoke];simpa using hcf _
  ·rw [hrv, List.nil_append] at hv
   rcases Nat.lt_or_ge k args.size with hja|hja
   ·rw[Gs (by simpa using hja)]at hv
    have:=rargs g hs args k v hv;rwa[Gx,Array.getElem?_append_left (by simpa using hja),<-Gx]
   ·rw[Gt (by simpa using hja),Gn]at hv
    simp only[List.length_map,Array.length_toList]at hv;cases hj:cap[k-args.size]? with
    | none=>rw[hj]at hv;cases hv
    | some x =>
     rw[hj]at hv;simp only[Gv,Gj]at hv;subst hv;have:(args.map a.eval++cv).getD k undef=cv.getD (k-args.size) undef:=by
      rw[Gx,Array.getElem?_append_right (by simpa using hja),Gx];simp
     rw[this];exact hcap g hs _ x hj
 rcases hcal with⟨args,tys,hop,_,hrv,rfl⟩|⟨t,args,tys,hop,_,hrv,hv⟩|⟨t,nm,args,tys,ty,i,d,r,hop,_,hrv,hcap,hv,hm,hr⟩
 ·exact val (.func f) args tys #[] hop rfl hrv rfl (fun g hs k c hc=>by simp at hc)
 ·have key:∀g,al B I0 (fun _=>False) g st a ov w->∃vs:Array Value,a.eval (.tmp t)=.func (.func f) #[] vs/\CR w g st.look cap vs.toList:=fun g hs=>AM hv (hs.ev (.tmp t))
  obtain⟨g0,hs0⟩:=hs;obtain⟨cv,h1,h2⟩:=key g0 hs0;refine val (.tmp t) args tys cv hop h1 hrv (by simpa using h2.1) (fun g hs k c hc=>?_);obtain⟨cv',h1',h2'⟩:=key g hs;rw[h1]at h1';simp only[Value.func.injEq,true_and]at h1';subst h1';have hk:k<cv.size:=by
   have:=(Gg.1 hc).1;have:=h2'.1;simp at this;omega
  have:=(h2'.2 k c cv[k] hc (by simp[hk])).1;rwa[Gx,Array.getElem?_eq_getElem hk]
 ·-- a method
  have hmo:=hL.mth ty nm f d hm;have hev:∀g,al B I0 (fun _=>False) g st a ov w->∃cs,st.look i=some (.cells cs)/\a.eval (.tmp t)=.iface ty (.pointer (some ⟨g.β i,0,none⟩)):=fun g hs=>by
   have:=hs.ev (.tmp t);rw[show st.ev (.tmp t)=.one (.ifp ty i) from hv]at this;exact this
  have hrecv : ∃ u, (∀ p : Addr, (∃ g, al B I0 (fun _ => False) g st a ov w ∧ p = ⟨g.β i, 0, none⟩) → (method (P.types.size + Made.depth) ty (.pointer (some p)) nm).run P w = .ok (f, u) w) ∧ ∀ g, al B I0 (fun _ => False) g st a ov w → bM w g st.look r u := by
   obtain⟨g0,hs0⟩:=hs;obtain⟨cs0,hl0,he0⟩:=hev g0 hs0;have hβ:∀g,al B I0 (fun _=>False) g st a ov w->g.β i=g0.β i:=fun g hs=>by
    obtain⟨_,_,he⟩:=hev g hs;rw[he0]at he;simp only[Value.iface.injEq,Value.pointer.injEq,Gj,Addr.mk.injEq,true_and,and_true]at he;exact he.symm
   cases d with
   | false =>
    simp only[wB,Gj]at hr;subst hr;refine⟨.pointer (some ⟨g0.β i,0,none⟩),fun p ⟨g,hs,hp⟩=>?_,fun g hs=>?_⟩
    ·rw[hp,hβ g hs]
     exact hmo w _ undef rfl (fun h=>by cases h)
    ·exact⟨cs0,hl0,by rw[hβ g hs]⟩
   | true =>
    simp only[wB,hl0]at hr;split at hr
    ·rename_i c heq
     cases heq;cases hk:c.kept with
     | false=>rw[hk]at hr;cases hr
     | true =>
      rw[hk]at hr;simp only[cond_true,Gj]at hr;subst hr;obtain⟨vs,tv,hheap,hcr⟩:=hs0.cells i _ hl0;obtain⟨u,hu,hru⟩:=yF (cs:=[]) hheap hcr;refine⟨u,fun p ⟨g,hs,hp⟩=>?_,fun g hs=>?_⟩
      ·rw[hp,hβ g hs]
       have:=hmo w ⟨g0.β i,0,none⟩ u rfl (fun _=>hu);simpa using this
      ·obtain⟨vs',tv',hheap',hcr'⟩:=hs.cells i _ hl0
       obtain⟨u',hu',hru'⟩:=yF (cs:=[]) hheap' hcr';rw[hβ g hs,hu]at hu';cases hu';exact hru'
    ·cases hr
  obtain⟨u,hmr,hrr⟩:=hrecv;refine⟨#[u]++args.map a.eval,.tmp t,args.toList,by rw[hop];simp[Op.operands,Call.operands],by rw[hrv,hcap];simp[Nat.add_comm],(fun q hq=>by rw[hop]at hq;cases hq),fun a1 hev1=>?_,fun g hs k v hk=>?_⟩
  ·have e1:a1.eval (.tmp t)=a.eval (.tmp t):=hev1 _ (by rw[hop];simp[Op.operands,Call.operands])
   have e2:args.map a1.eval=args.map a.eval:=Array.map_congr_left fun z hz=>hev1 z (by rw[hop];simp[Op.operands,Call.operands];exact .inr hz)
   obtain⟨g0,hs0⟩:=hs;obtain⟨cs0,hl0,he0⟩:=hev g0 hs0;have hmr0:=hmr _ ⟨g0,hs0,rfl⟩;obtain⟨dst,op,type,pos,after,guard⟩:=o;simp only at hop;subst hop;have hcm:(callMethod (.iface ty (.pointer (some ⟨g0.β i,0,none⟩))) nm (args.map a.eval)).run P w=.ok (.enter f (#[u]++args.map a.eval)) w:=by
    simp only[callMethod,Sem.run_bind,run_program,Result.andThen_ok,hmr0];exact hcf _
   have e3:∀q:Value,(#[q]++args.map a.eval)[0]? = some q:=fun q=>by rw[Array.getElem?_append_left (by simp)];rfl
   have e4:∀q:Value,(#[q]++args.map a.eval).extract 1 (#[q]++args.map a.eval).size=args.map a.eval:=fun q=>by
    apply Array.ext
    ·simp
    ·intro k h1 h2
     rw[Array.getElem_extract,Array.getElem_append_right (by simp)];simp
   simp only[execOp,resolve,e1,e2,he0,Sem.run_bind,Sem.run_pure,Result.andThen_ok,invoke,e3,e4];exact hcm
  ·rw[hrv,hcap]at hk
   cases k with
   | zero =>
    simp at hk;subst hk;have:(#[u]++args.map a.eval).getD 0 undef=u:=by rw[Gx,Array.getElem?_append_left (by simp)];rfl
    rw[this];exact hrr g hs
   | succ k =>
    have hk:(args.toList.map st.ev)[k]? = some v:=by simpa using hk
    have:(#[u]++args.map a.eval).getD (k+1) undef=(args.map a.eval).getD k undef:=by
     rw[Gx,Array.getElem?_append_right (by simp),Gx];simp
    rw[this];exact rargs g hs args k v hk
theorem oP {fn:Func} {F:Fr} (hF:F.Ok I0) {Z:Ending->World->Prop} {st:ASt} {a:Act} {w:World} {e:AEx} (he:e=.normal\/e=.ret) (hs:eD I0 F st a w)
  (hZ:∀w2 B2,Ext F.W B2->B2.ds=[]->Sim B2 I0 st { tmps:=a.tmps,defers:=[] } F.ov w2->∃v,(results fn a.tmps).run P w2=.ok v w2/\Z (.returned v) w2):bodyPostM (Rd none) 0 P fn Z (kT e) a w:=by
 obtain⟨B,hE,_,hs⟩:=hs;have hd:a.defers=B.ds:=by obtain⟨g,hs⟩:=hs;exact hs.defers
 have key:LeavesInM (Rd none) 0 P fn a.tmps Z a.defers .returning w:=by
  rw[hd];refine qv hF.ok B.ds B w rfl hE ?_ hZ;rw[<-hd];exact hs
 rcases he with rfl|rfl<;>exact key
theorem yO {F:Fr} {B B2:Bs} {st:ASt} {t:Array Value} {ov:List Value} {w:World} (hok:B.Ok I0) (hE:Ext B.noD B2) (h2:B2.ds=[]) (hs:Sim B2 I0 st { tmps:=t,defers:=[] } ov w):Sim B I0 st { tmps:=t,defers:=B.ds } ov w:=by
 have hb:B2.Bel w:=by obtain⟨g,hs⟩:=hs;exact hs.below
 exact kv hs ⟨rA.1 (hE.bel w hb),hok,Nat.le_refl _,fun b h _=>⟨hE.new b h,rfl⟩,fun _ _=>rfl,hE.out⟩ hE.Y.symm rfl rfl
theorem lq {B:Bs} {ops:Array Oper} {o:Oper} {st:ASt} {a:Act} {ov:List Value} {w:World} (hs:Sim B I0 st a ov w) (h:ij ops.toList o st=true):Region.wanted o (yielded ops a.tmps)=true:=by
 have hv:bd ops.toList o st=some (some true):=by
  unfold ij at h;split at h
  ·assumption
  ·cases h
 obtain⟨g,hs⟩:=hs;cases hg:o.guard with
 | none=>simp[Region.wanted,hg]
 | some q =>
  obtain⟨j,want⟩:=q;cases hd:(ops[j]?).bind (·.dst)with
  | none =>
   have hd':(ops.toList[j]?).bind (·.dst)=none:=by rw[Gl];exact hd
   simp only[bd,hg,hd']at hv;cases hv
  | some t=>exact(nj hd hs hv hg).2 rfl
theorem lv (hE:gc P G0 E C) (h0:F0.Ok I0) (hL:qD P L) {n:Nat} (hR:qg P E C L I0 body Q0 F0 J r n) (hG:nK P E C L I0 body Q0 F0 J r n) (hJ:JOk P L I0 body Q0 F0 J r) {rp:List Nat} {id:Nat} {ops:Array Oper} {draw:Bool} {Q:Exit->Act->World->Prop} {F:Fr}
  (hat:At P L I0 body Q0 F0 rp (.region id ops draw) Q F) {j y:Nat} {o:Oper} (ho:ops[j]? = some o) {f:FuncId} {fn:Func} {rv:List AV} {cap:List CA} {K:ASt->Prg R} {st:ASt} {a:Act} {w:World} (hof:sM L st j o.op=some (y,f,fn,rv,cap))
  (h:(sY E L (dE E L n) (dF E L n) F.nt F.fi F.ys id rp j y o f fn rv cap K st).goes C J r) (hs:eD I0 F st a w) (hK:∀st' v w',(K st').goes C J r->eD I0 F st' (a.put o.dst v) w'->so P ops draw F.ro Q j o a v w') :
  ∃vals:Array Value,(∀c,o.op≠.defer c)/\(∀a1:Act,(∀z∈o.op.operands.toList,a1.eval z=a.eval z)->(execOp a1.eval o).run P w=.ok (.enter f vals) w)/\Calls P f vals w (fun e w'=>∃v,e=.returned v/\so P ops draw F.ro Q j o a v w'):=by
 obtain⟨B,hX,hXd,hs⟩:=hs;obtain⟨hfn,_⟩:=nb hof;obtain⟨h1,h2,h3⟩:=hL.fn f fn hfn;have hBok:B.Ok I0:=by obtain⟨g,hs⟩:=hs;exact hs.base
 have hBel:B.Bel w:=by obtain⟨g,hs⟩:=hs;exact hs.below
 have hdef:a.defers=B.ds:=by obtain⟨g,hs⟩:=hs;exact hs.defers
 obtain⟨vals,x,xs,hops,hvs,hnd,hrun,hreps⟩:=Bg hL hof hs;unfold sY at h;rw[hops]at h;simp only[]at h;cases hle:(rv.length+xs.length).beq fn.params.size&&(rv.length+xs.length+cap.length).ble fn.ntmps&&(st.slots.length.beq F.nt&&j.blt 1000)with
 | false=>rw[hle]at h;exact h.elim
 | true =>
  rw[hle]at h;simp only[cond_true,dQ]at h;simp only[Gk,Nat.ble_eq,aC]at hle;obtain⟨⟨hl1,hl2⟩,hl3,hj1⟩:=hle;have hj1:j<1000:=pY hj1;obtain⟨hyj,hop2⟩:=Df hof hj1;obtain⟨c',hb⟩:∃c,fn.body=some c:=by
   cases hb:fn.body with
   | none=>rw[hb]at h3;cases h3
   | some c=>exact⟨c,rfl⟩
  have hbo:cm fn=c':=by simp[cm,hb]
  have hlen:a.tmps.size=F.nt:=by obtain⟨g,hs⟩:=hs;rw[hs.len,hl3]
  have hs1:Sim B.noD I0 st { tmps:=a.tmps,defers:=[] } F.ov w:=kv hs (vw hBel hBok) rfl rfl rfl;have hback:∀g,al B.noD I0 (fun _=>False) g st { tmps:=a.tmps,defers:=[] } F.ov w->al B I0 (fun _=>False) g st a F.ov w:=fun g hs1 =>
   ⟨rA.1 hs1.below,hs1.sub,hs1.lt,hs1.old,hs1.len,hdef,hs1.slots,hs1.olen,hs1.outs,hs1.cells,hs1.trees,hs1.foot,hs1.apart,hs1.apartR,hs1.res,hs1.base,hs1.out⟩
  have hsim:=tB (ntmps:=fn.ntmps) (vs:=rv++xs.map st.ev++cap.map AV.one) (vals:=vals) hs1 (by simpa[Nat.add_assoc]using hl2) (by rw[hvs];simp[Nat.add_assoc]) (L.kp F.fi (Am id j)) (fun g hs j v hv=>hreps g (hback g hs) j v hv);have hat2:=hat.opn (y:=y) a B (by rw[hyj];exact ho) hop2 hlen hdef hX hXd hBok;rw[hyj]at hat2;have hwp:=b8 hR hG hJ (F:=⟨F.ov++a.tmps.toList,fn.ntmps,f,B.noD,F.ys,none⟩) (cm fn) ((2*y+2)::rp) _ _ _ _ _ hat2 h ⟨B.noD,.refl rfl,(fun _=>rfl),hsim⟩ (fun e st' a' w' hk hs'=>by
   have he:e=.normal\/e=.ret:=by
    cases e with
    | normal=>exact .inl rfl
    | ret=>exact .inr rfl
    | exit i=>exact hk.elim
   refine oP (hat2.ok h0) he hs' (fun w2 B2 hE2 hd2 hs2=>?_);obtain⟨_,v,hres,st2,hk2,hs3⟩:=sw hE.1 (yO (F:=F) hBok hE2 hd2 hs2) hlen hdef hk;exact⟨v,hres,v,rfl,hK st2 v w2 hk2 ⟨B,hX,hXd,hs3⟩⟩)
  refine⟨vals,hnd,hrun,?_⟩;rw[hbo]at hwp;exact(fX (ro:=none) (n:=0)).1 (callsIn_of_wp_marks h1 hb trivial hwp)
theorem t8 {ops:Array Oper} {draw:Bool} {ro:Option Nat} {Q:Exit->Act->World->Prop} {j:Nat} {o:Oper} (ho:ops[j]? = some o) {a a1:Act} {w:World} {f:FuncId} {vals:Array Value} {X:Act->World->Prop} (hnd:∀c,o.op≠.defer c)
  (hrun:(execOp a1.eval o).run P w=.ok (.enter f vals) w) (hc:Calls P f vals w (fun e w'=>∃v,e=.returned v/\so P ops draw ro Q j o a v w')) (hw:Region.wanted o (yielded ops a1.tmps)=true) (hX:∀v w',so P ops draw ro Q j o a v w'->X (a1.put o.dst v) w') :
  wpOpIn (Rd ro) 0 P ops Q j X a1 w:=by
 unfold wpOpIn;rw[ho];simp only[hw,if_true];refine⟨fun _ _=>trivial,?_⟩;rw[Oper.semAt_eq _ _ _ hnd,hrun];refine⟨fun h=>by simp[Rd,Fence.wide]at h,fX.2 (hc.mono ?_)⟩;rintro e w' ⟨v,rfl,hv⟩;exact hX v w' hv
theorem Aq {B:Bs} {st:ASt} {a' a0:Act} {ov:List Value} {w:World} {nt:Nat} (hs:Sim B I0 st a' (ov++a0.tmps.toList) w) (hnt:a0.tmps.size=nt) (hd:a0.defers=B.ds):Sim B I0 (st.cut nt) a0 ov w:=by
 obtain⟨g,hs⟩:=hs;have hol:=hs.olen;simp only[List.length_append,Array.length_toList,hnt]at hol;have hk:st.out.length-nt=ov.length:=by omega
 unfold ASt.cut;rw[hk];refine⟨g,hs.below,hs.sub,hs.lt,hs.old,by simp;omega,hd,fun t v hv=>?_,by simp;omega,fun t v hv=>?_,hs.cells,hs.trees,hs.foot,hs.apart,hs.apartR,hs.res,hs.base,hs.out⟩
 ·simp only[List.getElem?_drop]at hv
  have:=hs.outs (ov.length+t) v hv;have e1:(ov++a0.tmps.toList).getD (ov.length+t) undef=a0.tmps.getD t undef:=by
   rw[Gw,Gt (by omega),Nat.add_sub_cancel_left,Gl,Gx]
  rw[e1]at this;exact this
 ·have ht:t<ov.length:=by
   have:=(Gg.1 hv).1;simp at this;omega
  rw[List.getElem?_take_of_lt ht]at hv;have:=hs.outs t v hv;have e1:(ov++a0.tmps.toList).getD t undef=ov.getD t undef:=by
   rw[Gw,Gs ht,Gw]
  rw[e1]at this;exact this
theorem xI {ys:List Rng} {st:ASt} {o:Op} {m:Nat} {y:Rng} (h:sN ys st o=some (m,y)):∃t args tys,o=.call ⟨.value (.tmp t),args,tys⟩/\nth (.one .junk) st.slots t=.one (.yl m)/\ys[m]? = some y:=by
 unfold sN at h;split at h
 ·rename_i t args tys
  split at h
  ·rename_i m' hm
   split at h
   ·rename_i y' hy
    simp only[Gj,Prod.mk.injEq]at h;obtain⟨rfl,rfl⟩:=h;refine⟨t,args,tys,rfl,?_,hy⟩;revert hm;cases nth (.one .junk) st.slots t with
    | one c=>cases c<;>simp[AV.ylOf]
    | _=>simp[AV.ylOf]
   ·cases h
  ·cases h
 ·cases h
theorem tW {F:Fr} {m j:Nat} {y:Rng} {o:Oper} {ops:Array Oper} {draw:Bool} {Q:Exit->Act->World->Prop} {B W:Bs} {Rc:Loop} {a1:Act} {K:ASt->Prg R} (hq:Rnd B W (F.W.Y m) Rc) (hX:Ext F.W B) (hXd:F.ro.isSome=true->B.ds=[]) (hBok:B.Ok I0) (hIl:¬I0 (F.W.Y m)) (hlen:a1.tmps.size=F.nt) (hdef:a1.defers=B.ds)
  (hK:∀st' a' w',(K st').goes C J r->eD I0 F st' a' w'->dT P ops draw F.ro Q (j+1) a' w') {e:AEx} {st3:ASt} {a3:Act} {w3:World} (hk3:(eS y F.nt o.dst K e st3).goes C J r)
  (hs3:eD I0 ⟨F.ov++a1.tmps.toList,y.nt,y.fi,W,aX F.ys m,some (F.W.Y m)⟩ st3 a3 w3):roundPost P (F.W.Y m) (iI P ops draw F.ro Q j o a1) (kT e) a3 w3:=by
 cases e with
 | ret=>exact hk3.elim
 | exit i=>exact hk3.elim
 | normal =>
  obtain⟨B3,hE3,_,hs3⟩:=hs3;have hb3:B3.Bel w3:=by obtain⟨g,hs3⟩:=hs3;exact hs3.below
  obtain⟨p1,p2⟩:=Cz (P:=P) hq hE3 hb3 hBok hIl;refine⟨_,_,p1,_,rfl,?_⟩;have hs4:Sim B I0 st3 { tmps:=a3.tmps,defers:=B.ds } (F.ov++a1.tmps.toList) (w3.putObj (F.W.Y m) (.loop Rc)):=kv hs3 p2 (by rw[hE3.Y,hq.Y]) rfl rfl;simp only[eS]at hk3;cases hle2:F.nt.ble st3.out.length with
  | false=>rw[hle2]at hk3;exact hk3.elim
  | true =>
   rw[hle2]at hk3;simp only[cond_true]at hk3;obtain⟨g5,hs5⟩:=Aq hs4 hlen hdef;obtain⟨st6,hk6,hs6⟩:=lD ⟨g5,hs5.put o.dst (v:=.bl true) (u:=.bool true) rfl⟩ hk3;exact hK st6 _ _ hk6 ⟨B,hX,hXd,hs6⟩
theorem te {n:Nat} (hR:qg P E C L I0 body Q0 F0 J r n) (hG:nK P E C L I0 body Q0 F0 J r n) (hJ:JOk P L I0 body Q0 F0 J r) {rp:List Nat} {id:Nat} {F:Fr} {m j:Nat} {y:Rng} {o:Oper} {ops:Array Oper} {draw:Bool} {Q:Exit->Act->World->Prop} {B:Bs} {Rc:Loop} {a1:Act} {K:ASt->Prg R}
  (hat:At P L I0 body Q0 F0 rp (.region id ops draw) Q F) (ho:ops[j]? = some o) (hj1:j<1000) (hy:F.ys[m]? = some y) (hX:Ext F.W B) (hXd:F.ro.isSome=true->B.ds=[]) (hBok:B.Ok I0) (hIl:¬I0 (F.W.Y m)) (hlen:a1.tmps.size=F.nt) (hdef:a1.defers=B.ds) (hBl:B.w.heap[F.W.Y m]? = some (.loop Rc)) (k2:¬B.New (F.W.Y m)) (hready:Rc.state=.ready/\Rc.pending=none)
  (hK:∀st' a' w',(K st').goes C J r->eD I0 F st' a' w'->dT P ops draw F.ro Q (j+1) a' w') {e:AEx} {st':ASt} {a':Act} {w':World}
  (hk:(pj (dq E (dE E L n y.nt y.fi (aX F.ys m)) (dF E L n y.nt y.fi (aX F.ys m)) (L.ann y.fi) (L.jn y.fi) (kB 1 m j::rp) y.body (eS y F.nt o.dst K)) e st').goes C J r)
  (hs':eD I0 ⟨F.ov++a1.tmps.toList,y.nt,y.fi,B.noD,aX F.ys m,some (F.W.Y m)⟩ st' a' w'):pX P (F.W.Y m) y.body (iI P ops draw F.ro Q j o a1) (kT e) a' w':=by
 cases e with
 | ret=>exact hk.elim
 | exit i=>exact hk.elim
 | normal =>
  obtain⟨B1,hE1,hd1,hs'⟩:=hs';have hd1:B1.ds=[]:=hd1 rfl;have hb1:B1.Bel w':=by obtain⟨g,hs'⟩:=hs';exact hs'.below
  have hok1:B1.Ok I0:=by obtain⟨g,hs'⟩:=hs';exact hs'.base
  obtain⟨q1,q2,q3,q4⟩:=xd (P:=P) hE1 hb1 hok1 k2 hBl hready hIl;refine⟨_,q3,?_⟩;have hat1:=hat.yld1 (y:=y) (m:=m) a1 B (B1.round w' (F.W.Y m) Rc) Rc ho hj1 hy hlen hdef hX hXd hBok q1 q4;have ha':a'.defers=[]:=by obtain⟨g,hs'⟩:=hs';rw[hs'.defers,hd1]
  exact b8 hR hG hJ (F:=⟨F.ov++a1.tmps.toList,y.nt,y.fi,B1.round w' (F.W.Y m) Rc,aX F.ys m,some (F.W.Y m)⟩) y.body (kB 1 m j::rp) _ _ _ _ _ hat1 hk ⟨_,.refl rfl,(fun _=>rfl),kv hs' q2 rfl rfl ha'⟩ (fun e st3 a3 w3 hk3 hs3=>tW q1 hX hXd hBok hIl hlen hdef hK hk3 hs3)
theorem qM (hE:gc P G0 E C) (h0:F0.Ok I0) {n:Nat} (hR:qg P E C L I0 body Q0 F0 J r n) (hG:nK P E C L I0 body Q0 F0 J r n) (hJ:JOk P L I0 body Q0 F0 J r) {rp:List Nat} {id:Nat} {ops:Array Oper} {draw:Bool} {Q:Exit->Act->World->Prop} {F:Fr}
  (hat:At P L I0 body Q0 F0 rp (.region id ops draw) Q F) {j m:Nat} {y:Rng} {o:Oper} (ho:ops[j]? = some o) {K:ASt->Prg R} {st:ASt} {a:Act} {w:World} (hof:sN F.ys st o.op=some (m,y))
  (h:(rQ E L (dE E L n) (dF E L n) F.nt F.fi F.ys id rp j m y o K st).goes C J r) (hs:eD I0 F st a w) (hdn:ij ops.toList o st=true) (hK:∀st' a' w',(K st').goes C J r->eD I0 F st' a' w'->dT P ops draw F.ro Q (j+1) a' w') :
  wpOpIn (Rd F.ro) 0 P ops Q j (dT P ops draw F.ro Q (j+1)) a w:=by
 obtain⟨B,hX,hXd,hs⟩:=hs;have hw:=lq hs hdn;obtain⟨t,args,tys,hop,hv,hy⟩:=xI hof;have hok:=hat.ok h0;obtain⟨Rc,r1,r2,r3,r4,r5,r6,r7,r8⟩:=hok.ys.1 m y hy;have hml:m<F.ys.length:=(Gg.1 hy).1;obtain⟨k1,k2⟩:=hX.keep (Bs.Bel.refl B) r2;have hBl:B.w.heap[F.W.Y m]? = some (.loop Rc):=k1.trans r1;have hBel:B.Bel w:=by obtain⟨g,hs⟩:=hs;exact hs.below
 have hBok:B.Ok I0:=by obtain⟨g,hs⟩:=hs;exact hs.base
 have hdef:a.defers=B.ds:=by obtain⟨g,hs⟩:=hs;exact hs.defers
 have hwl:w.heap[F.W.Y m]? = some (.loop Rc):=(cM hBel k2).trans hBl;have hIl:¬I0 (F.W.Y m):=hok.yI m hml;have hev:a.eval (.tmp t)=.func (.yield (F.W.Y m)) #[] #[]:=by
  obtain⟨g,hs⟩:=hs;have:=hs.ev (.tmp t);rw[show st.ev (.tmp t)=.one (.yl m) from hv]at this;have this:a.eval (.tmp t)=.func (.yield (g.O.y m)) #[] #[]:=this;rw[this,hs.out.2,hX.Y]
 unfold rQ at h;split at h
 ·rename_i x xs hops
  have hxs:xs=args.toList:=by
   rw[hop]at hops;simp[Op.operands,Call.operands]at hops;exact hops.2.symm
  subst hxs;cases hle:args.toList.length.beq y.ps.size&&(st.slots.length.beq F.nt&&(j.blt 1000&&(!y.busy&&(y.off+y.nt).ble st.out.length)))with
  | false=>rw[hle]at h;exact h.elim
  | true =>
   rw[hle]at h;simp only[cond_true,dQ]at h;simp only[Gk,Nat.ble_eq,aC,Bool.not_eq_true']at hle;obtain⟨hl1,hl2,hj1,hbz,hl3⟩:=hle;have hj1:j<1000:=pY hj1;have hlen:a.tmps.size=F.nt:=by obtain⟨g,hs⟩:=hs;rw[hs.len,hl2]
   have hready:=r8 hbz;have hsize:(args.map a.eval).size=Rc.params.size:=by rw[r3];simpa using hl1
   have hrun:(execOp a.eval o).run P w=.ok (.round (F.W.Y m) Rc.fn ((Rc.params.zip (args.map a.eval)).foldl (fun tmps (t,a)=>tmps.setIfInBounds t a) Rc.tmps) y.assign y.body) w:=by
    have hy:=run_yield (P:=P) (args:=args.map a.eval) hwl hsize;rw[r4,r5]at hy;obtain⟨dst,op,type,pos,after,guard⟩:=o;simp only at hop;subst hop;simp only[execOp,resolve,hev,Deferred.ofValue,Sem.run_bind,Sem.run_pure,Result.andThen_ok,invoke];simpa using hy
   have hs1:Sim B.noD I0 st { tmps:=a.tmps,defers:=[] } F.ov w:=kv hs (vw hBel hBok) rfl rfl rfl;have hvals:∀g,al B.noD I0 (fun _=>False) g st { tmps:=a.tmps,defers:=[] } F.ov w ->
     (jM y.ps.toList (args.toList.map st.ev) ((st.out.drop y.off).take y.nt)).length=((Rc.params.zip (args.map a.eval)).foldl (fun tmps (t,a)=>tmps.setIfInBounds t a) Rc.tmps).size /\
     ∀(j:Nat) (v:AV),(jM y.ps.toList (args.toList.map st.ev) ((st.out.drop y.off).take y.nt))[j]? = some v->bM w g st.look v (((Rc.params.zip (args.map a.eval)).foldl (fun tmps (t,a)=>tmps.setIfInBounds t a) Rc.tmps).getD j undef):=fun g hs=>by
    have e:(Rc.params.zip (args.map a.eval)).foldl (fun tmps (t,a)=>tmps.setIfInBounds t a) Rc.tmps=((y.ps.toList.zip (args.toList.map a.eval)).foldl (fun t (p,v)=>t.setIfInBounds p v) Rc.tmps):=by
     rw[<-Array.foldl_toList,Array.toList_zip,r3,Array.toList_map]
    rw[e];refine vJ (by simp) (fun j v u hj hu=>?_) ?_ (fun j v hj=>?_)
    ·rw[Gn]at hj hu
     cases hx:args.toList[j]? with
     | none=>rw[hx]at hj;cases hj
     | some x =>
      rw[hx]at hj hu;simp only[Gv,Gj]at hj hu;subst hj hu;have h5:=hs.ev x;cases x<;>exact h5
    ·have:=hs.olen
     simp only[List.length_take,List.length_drop];omega
    ·have hjn:j<y.nt:=by
      have:=(Gg.1 hj).1;simp only[List.length_take]at this;omega
     rw[List.getElem?_take_of_lt hjn,List.getElem?_drop]at hj;have h5:=hs.outs (y.off+j) v hj;have e2:F.ov.getD (y.off+j) undef=Rc.tmps.getD j undef:=by
      have h6:=congrArg (fun l:List Value=>l[j]?) r7;simp only[List.getElem?_take_of_lt hjn,List.getElem?_drop,Gl]at h6;rw[Gw,h6,Gx]
     rw[e2]at h5;exact h5
   obtain⟨vals,hvs⟩:∃vals,vals=(Rc.params.zip (args.map a.eval)).foldl (fun tmps (t,a)=>tmps.setIfInBounds t a) Rc.tmps:=⟨_,rfl⟩;rw[<-hvs]at hrun hvals;have hvl:vals.size=(jM y.ps.toList (args.toList.map st.ev) ((st.out.drop y.off).take y.nt)).length:=by
    obtain⟨g,hs⟩:=hs1;exact(hvals g hs).1.symm
   have hvn:vals.size=y.nt:=by
    have:∀(l:List (Tmp × Value)) (t:Array Value),(l.foldl (fun t (p,v)=>t.setIfInBounds p v) t).size=t.size:=fun l=>by
     induction l with
     | nil=>intro t;rfl
     | cons x l ih=>intro t;simp only[List.foldl_cons];rw[ih];simp
    rw[hvs,<-Array.foldl_toList,this,r6]
   have hsim:=tB (ntmps:=y.nt) (vs:=jM y.ps.toList (args.toList.map st.ev) ((st.out.drop y.off).take y.nt)) (vals:=vals) hs1 (by omega) hvl (L.kp F.fi (Am id j)) (fun g hs j v hv=>(hvals g hs).2 j v hv);have hact:({ tmps:=vals++Array.replicate (y.nt-vals.size) undef,defers:=B.noD.ds }:Act)={ tmps:=vals,defers:=[] }:=by
    rw[hvn,Nat.sub_self];simp[Bs.noD]
   rw[hact]at hsim;have hat0:=hat.yld0 (y:=y) (m:=m) a B Rc ho hj1 hy hlen hdef hX hXd hBok hBl k2 hready;have hwp:=b8 hR hG hJ (F:=⟨F.ov++a.tmps.toList,y.nt,y.fi,B.noD,aX F.ys m,some (F.W.Y m)⟩) y.assign (kB 0 m j::rp) _ _ _ _ _ hat0 h ⟨B.noD,.refl rfl,(fun _=>rfl),hsim⟩ (fun e st' a' w' hk hs'=>te hR hG hJ hat ho hj1 hy hX hXd hBok hIl hlen hdef hBl k2 hready hK hk hs');unfold wpOpIn;rw[ho];simp only[hw,if_true];refine⟨fun _ _=>trivial,?_⟩;rw[Oper.semAt_eq _ _ _ (fun c hc=>by rw[hop]at hc;cases hc),hrun];refine⟨fun h=>by simp[Rd,Fence.wide]at h,(roundIn_of_wpIn (F:=Rd F.ro) (n:=0) trivial hwp).mono ?_⟩;rintro e w' ⟨v,rfl,hv⟩;exact hv
 ·exact h.elim
theorem vF {F:Fr} {B:Bs} {w w1:World} {l:Nat} {mk:List Deferred} {Rc:Loop} {f:FuncId} {fn:Func} {ps:Array Tmp} {assign c:Code} {a:Act} {K:ASt->Prg R} {Q:Exit->Act->World->Prop}
  (hFo:Fr.Ok I0 ⟨F.ov++a.tmps.toList,fn.ntmps,f,B.over w w1 F.ys.length l,F.ys ++ [⟨F.ov.length,F.nt,F.fi,ps,assign,c,false⟩],none⟩) (hX:Ext F.W B) (hXd:F.ro.isSome=true->B.ds=[]) (hBel:B.Bel w) (hBok:B.Ok I0) (hlen:a.tmps.size=F.nt) (hdef:a.defers=B.ds) (he:Ent w w1 l mk Rc) (r7:F.ro.isSome=true->mk=[]) (hready:Rc.state=.ready/\Rc.pending=none)
  (hQ:∀st' a w,(K st').goes C J r->eD I0 F st' a w->Q .normal a w) {e:AEx} {st':ASt} {a':Act} {w':World} (hk:(xU fn F.ys.length F.nt K e st').goes C J r)
  (hs':eD I0 ⟨F.ov++a.tmps.toList,fn.ntmps,f,B.over w w1 F.ys.length l,F.ys ++ [⟨F.ov.length,F.nt,F.fi,ps,assign,c,false⟩],none⟩ st' a' w'):tj P fn Q l ⟨a.tmps,mk++a.defers⟩ (kT e) a' w':=by
 obtain⟨r1,r2⟩:=hready;have he':e=.normal\/e=.ret:=by
  cases e with
  | normal=>exact .inl rfl
  | ret=>exact .inr rfl
  | exit i=>exact hk.elim
 refine oP hFo he' hs' (fun w2 B2 hE2 hd2 hs2=>?_);have hk:(bif fn.results.size.beq 0&&F.nt.ble st'.out.length then gu fn.ntmps ((st'.aw (CA.unY F.ys.length)).cut F.nt) K else .fail).goes C J r:=by rcases he' with rfl|rfl<;>exact hk
 cases hle2:fn.results.size.beq 0&&F.nt.ble st'.out.length with
 | false=>rw[hle2]at hk;exact hk.elim
 | true =>
  rw[hle2]at hk;simp only[cond_true]at hk;simp only[Gk,aC]at hle2;have hb2:B2.Bel w2:=by obtain⟨g,hs2⟩:=hs2;exact hs2.below
  have hres:∃v,(results fn a'.tmps).run P w2=.ok v w2:=by
   have e0:fn.results=#[]:=Array.eq_empty_of_size_eq_zero hle2.1;exact⟨.tuple #[],by simp[results,e0]⟩
  obtain⟨v,hres⟩:=hres;have hov:(B.over w w1 F.ys.length l).Bel w2:=hE2.bel w2 hb2;have hnl:¬(B.over w w1 F.ys.length l).New l:=fun e=>(eW (Nat.le_trans hBel.size he.size) e).2 ⟨he.new,(Gm.1 he.rc).1⟩
  have hl2:w2.heap[l]? = some (.loop Rc):=(cM hov hnl).trans he.rc;have hend:=(run_endLoop (P:=P) hl2 (by rw[r1];simp)).trans (congrArg (fun p=>Result.ok p _) r2);obtain⟨q1,q2⟩:=BF (o:=.loop { Rc with state:=.exhausted }) hX hBel hBok he hE2 hb2;have hs3:=AW (n:=F.ys.length) (a':={ tmps:=a'.tmps,defers:=mk++B.ds }) hs2 q1 (fun k hk=>by
   show B.Y k=_;rw[hE2.Y];show _=(if k=F.ys.length then l else B.Y k);rw[if_neg (by omega)]) rfl rfl
  have hs4:=Aq (a0:={ tmps:=a.tmps,defers:=mk++a.defers }) (nt:=F.nt) hs3 hlen (by rw[hdef];rfl);obtain⟨st6,hk6,hs6⟩:=lD hs4 hk;exact⟨v,hres,⟨v,rfl⟩,_,hend,hQ st6 _ _ hk6 ⟨_,q2,fun hro=>by show mk++B.ds=[];rw[r7 hro,hXd hro];rfl,hs6⟩⟩
theorem yC (hE : gc P G0 E C) (h0 : F0.Ok I0) (hL : qD P L) {n : Nat} (hR : qg P E C L I0 body Q0 F0 J r n) (hG : nK P E C L I0 body Q0 F0 J r n) (hJ : JOk P L I0 body Q0 F0 J r) : nK P E C L I0 body Q0 F0 J r (n + 1) := by
 intro rp gO ps assign c K Q F st a w hat h hs hQ;obtain⟨B,hX,hXd,hs⟩:=hs;simp only[dF,vb]at h;have hok:=hat.ok h0;have hBel:B.Bel w:=by obtain⟨g,hs⟩:=hs;exact hs.below
 have hBok:B.Ok I0:=by obtain⟨g,hs⟩:=hs;exact hs.base
 have hdef:a.defers=B.ds:=by obtain⟨g,hs⟩:=hs;exact hs.defers
 have hol:st.out.length=F.ov.length:=by obtain⟨g,hs⟩:=hs;exact hs.olen.symm
 have hmo:(st.aw (CA.unY F.ys.length)).out.length=F.ov.length:=by rw[<-hol];simp only[ASt.aw,bm]
 split at h
 ·rename_i f cs hclo
  split at h
  ·rename_i fn hfn
   obtain⟨f1,f2,f3⟩:=hL.fn f fn hfn;cases hle:Nat.beq fn.params.size 1&&((cs.length+1).ble fn.ntmps&&(st.aw (CA.unY F.ys.length)).slots.length.beq F.nt)with
   | false=>rw[hle]at h;exact h.elim
   | true =>
    rw[hle]at h;simp only[cond_true,dQ]at h;simp only[Gk,Nat.ble_eq,aC]at hle;obtain⟨hl1,hl2,hl3⟩:=hle;have hlen:a.tmps.size=F.nt:=by
     obtain⟨g,hs⟩:=hs;rw[hs.len,<-hl3];simp only[ASt.aw,bm]
    obtain⟨cd,hb⟩:∃c,fn.body=some c:=by
     cases hb:fn.body with
     | none=>rw[hb]at f3;cases f3
     | some c=>exact⟨c,rfl⟩
    have hbo:cm fn=cd:=by simp[cm,hb]
    refine wpIn_rangeFunc (fun fid _=>?_);obtain⟨l,mk,w1,Rc,hrun,he,r1,r2,r3,r4,r5,r6,r7⟩:=za (P:=P) (w:=w) (ro:=F.ro) (fun l0 hl0=>by
     obtain⟨R',h1,h2⟩:=hok.ro l0 hl0;obtain⟨k1,k2⟩:=hX.keep (Bs.Bel.refl B) h2;exact⟨R',(cM hBel k2).trans (k1.trans h1)⟩) fid a.tmps ps assign c
    have hs1:Sim (B.over w w1 F.ys.length l) I0 (st.aw (CA.unY F.ys.length)) { tmps:=a.tmps,defers:=[] } F.ov w1:=AW hs (zv hBel hBok he) (fun k hk=>by show(if k=F.ys.length then l else B.Y k)=_;rw[if_neg (by omega)]) rfl rfl;have hkey:∀g,al (B.over w w1 F.ys.length l) I0 (fun _=>False) g (st.aw (CA.unY F.ys.length)) { tmps:=a.tmps,defers:=[] } F.ov w1->∃cv:Array Value,a.eval gO=.func (.func f) #[] cv/\CR w1 g (st.aw (CA.unY F.ys.length)).look cs cv.toList:=fun g hs1=>by
     obtain⟨cv,h1,h2⟩:=AM hclo (hs1.ev gO);refine⟨cv,?_,h2⟩;cases gO<;>exact h1
    obtain⟨cv,hev,hcvl⟩:∃cv:Array Value,a.eval gO=.func (.func f) #[] cv/\cv.size=cs.length:=by
     obtain⟨g,hs1⟩:=hs1;obtain⟨cv,h1,h2⟩:=hkey g hs1;exact⟨cv,h1,by have:=h2.1;simpa using this⟩
    have hcap:∀g,al (B.over w w1 F.ys.length l) I0 (fun _=>False) g (st.aw (CA.unY F.ys.length)) { tmps:=a.tmps,defers:=[] } F.ov w1->∀(k:Nat) (c:CA),cs[k]? = some c->bG w1 g (st.aw (CA.unY F.ys.length)).look c (cv.getD k undef):=fun g hs1 k c hc=>by
     obtain⟨cv',h1',h2'⟩:=hkey g hs1;rw[hev]at h1';simp only[Value.func.injEq,true_and]at h1';subst h1';have hk:k<cv.size:=by
      have:=(Gg.1 hc).1;omega
     have:=(h2'.2 k c cv[k] hc (by simp[hk])).1;rwa[Gx,Array.getElem?_eq_getElem hk]
    have hsim:=tB (ntmps:=fn.ntmps) (vs:=.one (.yl F.ys.length)::cs.map AV.one) (vals:=#[.func (.yield l) #[] #[]]++cv) hs1 (by simpa using hl2) (by simp[hcvl];omega) none (fun g hs j v hv=>by
     cases j with
     | zero =>
      simp only[List.getElem?_cons_zero,Gj]at hv;subst hv;have e1:(#[Value.func (.yield l) #[] #[]]++cv).getD 0 undef=.func (.yield l) #[] #[]:=by
       rw[Gx,Array.getElem?_append_left (by simp)];rfl
      rw[e1];show _=Value.func (.yield (g.O.y F.ys.length)) #[] #[];rw[hs.out.2];show _=Value.func (.yield (if F.ys.length=F.ys.length then l else B.Y F.ys.length)) #[] #[];rw[if_pos rfl]
     | succ k =>
      simp only[List.getElem?_cons_succ,Gn]at hv;cases hk:cs[k]? with
      | none=>rw[hk]at hv;cases hv
      | some c =>
       rw[hk]at hv;simp only[Gv,Gj]at hv;subst hv;have e1:(#[Value.func (.yield l) #[] #[]]++cv).getD (k+1) undef=cv.getD k undef:=by
        rw[Gx,Gx,Array.getElem?_append_right (by simp)];rfl
       rw[e1];exact hcap g hs k c hk)
    have hat2:=hat.rng a B w w1 l mk Rc hfn hlen hdef hX hXd hBel hBok he r7 ⟨r1,r2⟩ r3 r4 r5 r6;rw[hmo]at h;have hwp:=b8 hR hG hJ (F:=⟨F.ov++a.tmps.toList,fn.ntmps,f,B.over w w1 F.ys.length l,F.ys ++ [⟨F.ov.length,F.nt,F.fi,ps,assign,c,false⟩],none⟩) (cm fn) (f::rp) _ _ _ _ _ hat2 h ⟨_,.refl rfl,(fun _=>rfl),hsim⟩ (fun e st' a' w' hk hs'=>vF (hat2.ok h0) hX hXd hBel hBok hlen hdef he r7 ⟨r1,r2⟩ hQ hk hs');have hcf:(callFunc f (#[.func (.yield l) #[] #[]]++cv)).run P w1=.ok (.enter f (#[.func (.yield l) #[] #[]]++cv)) w1:=by
     simp only[callFunc,Sem.run_bind,run_program,Result.andThen_ok,f1,f2,hb];simp
    refine⟨l,mk,w1,{ target:=.fn (.func f) cv,args:=#[.func (.yield l) #[] #[]] },w1,f,#[.func (.yield l) #[] #[]]++cv,w1,hrun,?_,fun _ _=>trivial,?_,fun h=>by simp[Rd,Fence.wide]at h,?_⟩
    ·simp only[resolve,hev]
     simp[go_sem]
    ·simpa[invoke,go_sem]using hcf
    ·rw[hbo]at hwp
     refine fX.2 ((fX (ro:=none) (n:=0)).1 ((callsIn_of_wp_marks f1 hb trivial hwp).mono ?_));rintro e w' ⟨⟨v,rfl⟩,w4,h1,h2⟩;exact⟨none,w4,h1,h2⟩
  ·exact h.elim
 ·exact h.elim
def F7 (E : Env) (C : Cal) (J : List Nat → ASt → R → Prop) (r : R) (L : Opn) (reg : BP R) (rg : BR R) (nt : Nat) (fi : FuncId) (ys : List Rng) (id : Nat) (rp : List Nat) (all : List Oper) (K : ASt → Prg R) (j : Nat) (ex : List (List Nat)) (st : ASt) : Prop :=
  ∃ m mid, j ≤ m ∧ m ≤ all.length ∧ cZ E C ex all (List.range' j (m - j)) st.nfS mid.nfS ∧ ((m = all.length ∧ (K mid).goes C J r) ∨
   ∃o,all[m]? = some o/\ij all o mid=true/\(((d0 true all m=true\/∃U,jm all m=some U)/\∃y f fn rv cap,sM L mid m o.op=some (y,f,fn,rv,cap)/\(sY E L reg rg nt fi ys id rp m y o f fn rv cap (mP E true all m fun st'=>eN E L reg rg nt fi ys id rp true all K (m+1) (all.drop (m+1)) (ko E.T true st' all) st') mid).goes C J r) \/
    d0 true all m=true/\∃q y,sN ys mid o.op=some (q,y)/\(rQ E L reg rg nt fi ys id rp m q y o (fun st'=>eN E L reg rg nt fi ys id rp true all K (m+1) (all.drop (m+1)) (ko E.T true st' all) st') mid).goes C J r))
theorem vj {reg:BP R} {rg:BR R} {nt:Nat} {fi:FuncId} {ys:List Rng} {id:Nat} {rp:List Nat} {all:List Oper} {K:ASt->Prg R}:∀(l:List Oper) (j:Nat) (ex:List (List Nat)) (st:ASt),l=all.drop j->j<=all.length->(eN E L reg rg nt fi ys id rp true all K j l ex st).goes C J r ->
  F7 E C J r L reg rg nt fi ys id rp all K j ex st
 | [], j, ex, st, hl, hj, h => by
  have:all.length<=j:=by
   have:=congrArg List.length hl;simp at this;omega
  have hj':j=all.length:=by omega
  subst hj';exact⟨all.length,st,Nat.le_refl _,Nat.le_refl _,by rw[Nat.sub_self];exact .nil _,.inl ⟨rfl,h⟩⟩
 | o :: rest, j, ex, st, hl, hj, h => by
  have hjo:all[j]? = some o:=by
   have:(all.drop j)[0]? = some o:=by rw[<-hl];rfl
   simpa using this
  have hjl:j<all.length:=(Gg.1 hjo).1;have hrest:rest=all.drop (j+1):=by
   have:=congrArg List.tail hl;simpa using this
  have plain:(opQ E all (lT true ex all j o) (iy (eN E L reg rg nt fi ys id rp true all K (j+1) rest ex)) st).goes C J r->F7 E C J r L reg rg nt fi ys id rp all K j ex st:=fun h=>by
   simp only[kN]at h;obtain⟨st1,h1,h2⟩:=ln h;obtain⟨m,mid,k1,k2,k3,k4⟩:=vj rest (j+1) ex st1 hrest (by omega) h2;refine⟨m,mid,by omega,k2,?_,k4⟩;rw[show m-j=(m-(j+1))+1 by omega,List.range'_succ];exact .cons hjo h1 k3
  simp only[eN]at h;split at h
  ·rename_i y f fn rv cap hof
   cases hdn:ij all o st with
   | false=>rw[hdn]at h;exact plain h
   | true =>
   rw[hdn]at h;simp only[cond_true]at h;cases hb:d0 true all j||(jm all j).isSome with
   | false=>rw[hb]at h;exact h.elim
   | true =>
    rw[hb]at h;simp only[cond_true]at h;simp only[Bool.or_eq_true,Option.isSome_iff_exists]at hb;rw[hrest]at h;exact⟨j,st,Nat.le_refl _,hj,by rw[Nat.sub_self];exact .nil _,.inr ⟨o,hjo,hdn,.inl ⟨hb,y,f,fn,rv,cap,hof,h⟩⟩⟩
  ·split at h
   ·rename_i q y hof
    cases hdn:ij all o st with
    | false=>rw[hdn]at h;exact plain h
    | true =>
    rw[hdn]at h;simp only[cond_true,Bool.not_true,Bool.false_or]at h;cases hb:oL all j&&oL all (j+1)with
    | false=>rw[hb]at h;exact h.elim
    | true =>
     rw[hb]at h;simp only[cond_true]at h;have hb:d0 true all j=true:=by unfold d0;rw[hb];rfl
     rw[hrest]at h;exact⟨j,st,Nat.le_refl _,hj,by rw[Nat.sub_self];exact .nil _,.inr ⟨o,hjo,hdn,.inr ⟨hb,q,y,hof,h⟩⟩⟩
   ·exact plain h
theorem Dh {B:Bs} {st:ASt} {a a':Act} {ov:List Value} {w:World} {d:Tmp} (hsz:a'.tmps.size=a.tmps.size) (hd:a'.defers=a.defers) (h:∀t,t≠d->a'.tmps.getD t undef=a.tmps.getD t undef) (hs:Sim B I0 st a ov w):Sim B I0 (st.put (some d) (.one .junk)) a' ov w:=by
 obtain⟨g,hs⟩:=hs;refine⟨g,hs.below,hs.sub,hs.lt,hs.old,by rw[hsz,hs.len];simp[ASt.put,ah],hd.trans hs.defers,fun t v hv=>?_,hs.olen,hs.outs,hs.cells,hs.trees,hs.foot,hs.apart,hs.apartR,hs.res,hs.base,hs.out⟩;simp only[ASt.put,ah,List.getElem?_set]at hv;by_cases e:d=t
 ·subst e
  rw[if_pos rfl]at hv;split at hv
  ·simp only[Gj]at hv
   subst hv;exact trivial
  ·cases hv
 ·rw[if_neg e]at hv
  rw[h t (fun e'=>e e'.symm)];exact hs.slots t v hv
theorem jP {a:Act} {d:Option Tmp} {v:Value} {t:Nat} (h:d≠some t):(a.put d v).tmps.getD t undef=a.tmps.getD t undef:=by
 cases d with
 | none=>rfl
 | some d =>
  show(a.tmps.setIfInBounds d v).getD t undef=_;rw[oQ,if_neg (fun e=>h (by rw[e.1]))]
theorem rF (a:Act) (d:Option Tmp) (v:Value):(a.put d v).tmps.size=a.tmps.size:=by cases d<;>simp[Act.put]
theorem ua:∀(vals:List (Tmp × Value)) (a:Act),(uG a vals).tmps.size=a.tmps.size/\(uG a vals).defers=a.defers/\∀t,(∀p∈vals,p.1≠t)->(uG a vals).tmps.getD t undef=a.tmps.getD t undef
 | [],a=>⟨rfl,rfl,fun _ _=>rfl⟩
 | p::vals,a=>by
  obtain⟨h1,h2,h3⟩:=ua vals (a.put (some p.1) p.2);exact⟨h1.trans (rF _ _ _),h2,fun t ht=>(h3 t (fun q hq=>ht q (Gq _ hq))).trans (jP (fun e=>ht p Gp (Option.some.inj e)))⟩
theorem vy {B:Bs} {ov:List Value} {w:World} {dst:Option Tmp} {v:Value}:∀(vals:List (Tmp × Value)) (a:Act) (st:ASt),(∀p∈vals,dst≠some p.1)->Sim B I0 st ((uG a vals).put dst v) ov w->Sim B I0 (gi (vals.map fun p=>some p.1) st) (a.put dst v) ov w
 | [],_,_,_,hs=>hs
 | p :: vals, a, st, hne, hs => by
  have hs2:=vy vals (a.put (some p.1) p.2) st (fun q hq=>hne q (Gq _ hq)) hs;show Sim B I0 ((gi (vals.map fun p=>some p.1) st).put (some p.1) (.one .junk)) (a.put dst v) ov w;refine Dh (by simp only[rF]) (by cases dst<;>rfl) (fun t ht=>?_) hs2;by_cases hct:dst=some t
  ·rw[hct]
   show(a.tmps.setIfInBounds t v).getD t undef=((a.put (some p.1) p.2).tmps.setIfInBounds t v).getD t undef;rw[oQ,oQ,rF];split
   ·rfl
   ·exact(jP (fun e=>ht (Option.some.inj e).symm)).symm
  ·rw[jP hct,jP hct,jP (fun e=>ht (Option.some.inj e).symm)]
theorem yq {b:Bool} {p:Prg R} (h:((bif b then p else .fail):Prg R).goes C J r):b=true/\p.goes C J r:=by
 cases b with
 | true=>exact⟨rfl,h⟩
 | false=>exact h.elim
def F6 (P:Program) (E:Env) (C:Cal) (L:Opn) (I0:Nat->Prop) (J:List Nat->ASt->R->Prop) (r:R) (n:Nat) (id:Nat) (rp:List Nat) (ops:Array Oper) (Q:Exit->Act->World->Prop) (F:Fr) (K:ASt->Prg R) (j:Nat):Prop :=
 ∀(l:List Oper) (ex:List (List Nat)) (st st0:ASt) (pre:List Nat) (listed:Array Bool) (a:Act) (w:World) (B:Bs),l=ops.toList.drop j->j<=ops.size->(eN E L (dE E L n) (dF E L n) F.nt F.fi F.ys id rp true ops.toList K j l ex st).goes C J r->Ext F.W B->(F.ro.isSome=true->B.ds=[]) ->
  listed.size=ops.size->(∀(k:Nat) (o:Oper),ops[k]? = some o->listed.getD k true=true->∀e∈o.after,Region.binds .any e=true->listed.getD e.on false=true)->(∀m,j<=m->m<=ops.size->unlisted m listed=pre++List.range' j (m-j))->(∀k,j<=k->k<ops.size->listed.getD k true=false) ->
  cZ E C ex ops.toList pre st0.nfS st.nfS->Sim B I0 st0 a F.ov w->wpAnyIn (Rd F.ro) 0 P .any ops Q (pre.length+(ops.size-j)) listed a w
theorem je {ops:Array Oper} (hok:bC ops.toList=true) {m:Nat}:∀(k:Nat) (o:Oper),ops[k]? = some o->(gM ops.size m).getD k true=true->∀e∈o.after,Region.binds .any e=true->(gM ops.size m).getD e.on false=true:=by
 intro k o hk hlk e he hb;have hks:k<ops.size:=(Gm.1 hk).1;rw[co hks]at hlk;have hkm:k<m:=pY hlk;have hlt2:=bw ((cY ops.toList 0 hok k o (by rw[Gl];exact hk)).1) e (by simpa using he) hb;simp only[Nat.zero_add]at hlt2;rw[co (by omega),lO (by omega)]
theorem o6 {n:Nat} {id:Nat} {rp:List Nat} {ops:Array Oper} {draw:Bool} {Q:Exit->Act->World->Prop} {F:Fr} {K:ASt->Prg R} {j:Nat} {o:Oper} (ho:ops[j]? = some o) (hok:draw=true->bC ops.toList=true)
  (hF:draw=false->∀st' a' w',(eN E L (dE E L n) (dF E L n) F.nt F.fi F.ys id rp draw ops.toList K (j+1) (ops.toList.drop (j+1)) (ko E.T draw st' ops.toList) st').goes C J r->eD I0 F st' a' w'->dT P ops draw F.ro Q (j+1) a' w')
  (hT:draw=true->F6 P E C L I0 J r n id rp ops Q F K (j+1)) {st':ASt} {a0:Act} {v:Value} {w':World}
  (h:(mP E draw ops.toList j (fun st'=>eN E L (dE E L n) (dF E L n) F.nt F.fi F.ys id rp draw ops.toList K (j+1) (ops.toList.drop (j+1)) (ko E.T draw st' ops.toList) st') st').goes C J r) (hs:eD I0 F st' (a0.put o.dst v) w'):so P ops draw F.ro Q j o a0 v w':=by
 have hjl:j<ops.size:=(Gm.1 ho).1;have first:∀st2:ASt,(eN E L (dE E L n) (dF E L n) F.nt F.fi F.ys id rp draw ops.toList K (j+1) (ops.toList.drop (j+1)) (ko E.T draw st2 ops.toList) st2).goes C J r->eD I0 F st2 (a0.put o.dst v) w'->dT P ops draw F.ro Q (j+1) (a0.put o.dst v) w':=by
  intro st2 h hs;cases draw with
  | false=>exact hF rfl st2 _ w' h hs
  | true =>
   obtain⟨B,hX,hXd,hs⟩:=hs;have:=hT rfl _ _ st2 st2 [] (gM ops.size (j+1)) _ w' B rfl hjl h hX hXd (ft _ _) (je (hok rfl)) (fun m h1 h2=>jC h1 h2) (fun k h1 h2=>by rw[co h2];exact mT h1) (.nil _) hs;unfold dT;simpa using this
 unfold mP at h;cases hb:d0 draw ops.toList j with
 | true =>
  rw[hb]at h;exact⟨first st' h hs,fun _ hb2=>by rw[hb]at hb2;cases hb2⟩
 | false =>
  rw[hb]at h;simp only[cond_false]at h;have hdr:draw=true:=by
   cases draw with
   | true=>rfl
   | false=>simp[d0]at hb
  subst hdr;split at h
  ·rename_i U c hu hc
   unfold DY at h;simp only[pD,dQ]at h;obtain⟨hn,h⟩:=yq h;obtain⟨B,hX,hXd,hs⟩:=hs;generalize hst2:nz (Ga c.dst st') 0 st'=st2 at h;have hs2:Sim B I0 st2 (a0.put o.dst v) F.ov w':=by rw[<-hst2];exact rD hn hs
   obtain⟨h3,hall⟩:=iB h;refine⟨first st2 h3 ⟨B,hX,hXd,hs2⟩,fun _ _ U' c' hu' hl listed a1 vals hsz hcl hup hsub hne hds ha0=>?_⟩;rw[hu]at hu';cases hu';have e3:=hl.hj;rw[hc]at e3;cases e3;have hco:c=o:=by
    rw[Gl,ho]at hc;exact(Option.some.inj hc).symm
   subst hco;subst ha0;obtain⟨_,_,hp⟩:=yA hu;obtain⟨st3,h1,heq⟩:=hall _ (FB hp hsub) hne;have hld:∀u∈unlisted j listed,pm ops.toList c u:=fun u hu=>hl.ld u (hsub u hu)
   rw[Bl hld h1 heq]at h1;have hne2:∀p∈vals,c.dst≠some p.1:=fun p hp=>by
    have:some p.1∈dW ops.toList (unlisted j listed):=by rw[<-hds];exact List.mem_map_of_mem (f:=fun p:Tmp × Value=>some p.1) hp
    simp only[dW,List.mem_map]at this;obtain⟨u,hu,e⟩:=this;obtain⟨o,d,k1,k2,k3,k4,k5⟩:=hld u hu;rw[k1]at e;simp only[Option.bind_some,k3]at e;rw[<-e];exact k5
   have hs4:=vy vals a1 st2 hne2 hs2;rw[hds]at hs4;have hclo:yg ops (listed.setIfInBounds j true):=by
    intro k ok hk hlk e he hbn;by_cases hkj:k=j
    ·subst hkj
     rw[ho]at hk;cases hk;refine getD_set_true ?_;cases hb2:listed.getD e.on false with
     | true=>rfl
     | false =>
      exfalso;have hlt2:=bw ((cY ops.toList 0 (hok rfl) k c (by rw[Gl];exact ho)).1) e (by simpa using he) hbn;simp only[Nat.zero_add]at hlt2;have hmem:e.on∈unlisted k listed:=by
       simp only[unlisted,List.mem_filter,List.mem_range,Bool.not_eq_true'];refine⟨hlt2,?_⟩;rw[Gx,Array.getElem?_eq_getElem (by omega)]at hb2 ⊢;exact hb2
      have h6:=hl.none_ k (by simpa using hjl) (Nat.le_refl _) (fun hm=>absurd (hl.lt k hm) (Nat.lt_irrefl _)) _ (hsub _ hmem);rw[mg (by rw[Gl];exact ho)]at h6;have h7:=xV (acc:=(behind ops.toList).take k) (es:=c.after.toList) (e:=e) (by simpa using he) hbn;rw[h6]at h7;cases h7
    ·rw[getD_set_ne true (fun e=>hkj e.symm)]at hlk
     exact getD_set_true (hcl k ok hk hlk e he hbn)
   have:=hT rfl _ _ st2 (gi (dW ops.toList (unlisted j listed)) st2) (unlisted j listed) (listed.setIfInBounds j true) _ w' B rfl hjl h3 hX hXd (by simpa using hsz) hclo (fun m h1 h2=>um hsz hup h1 h2)
    (fun k h1 h2=>by rw[getD_set_ne true (by omega)];exact hup k (by omega) h2) h1 hs4
   have hpos:0<(unlisted j listed).length:=List.length_pos_iff.2 hne;rwa[show(unlisted j listed).length+(ops.size-(j+1))=(unlisted j listed).length-1+(ops.size-j) by omega]at this
  ·exact h.elim
theorem AN (hE:gc P G0 E C) (h0:F0.Ok I0) (hg0:F0.W.G=G0) (hL:qD P L) {n:Nat} (hR:qg P E C L I0 body Q0 F0 J r n) (hG:nK P E C L I0 body Q0 F0 J r n) (hJ:JOk P L I0 body Q0 F0 J r) {rp:List Nat} {id:Nat} {ops:Array Oper} {Q:Exit->Act->World->Prop} {F:Fr}
  (hat:At P L I0 body Q0 F0 rp (.region id ops true) Q F) (hok:bC ops.toList=true) {K:ASt->Prg R} (hK:∀st' a w,(K st').goes C J r->eD I0 F st' a w->Q .normal a w) :
  ∀(d j:Nat),ops.size-j<=d->F6 P E C L I0 J r n id rp ops Q F K j:=by
 have hEB:∀B:Bs,Ext F.W B->gc P B.G E C:=fun B hX=>by rw[hX.G,hat.gl hg0];exact hE
 intro d;induction d using Nat.strongRecOn with
 | _ d ih =>
 intro j hd l ex st st0 pre listed a w B hl hj h hX hXd hsz hcl hun hup hpre hs;have hl2:ops.toList.length=ops.size:=by simp
 obtain⟨m,mid,k1,k2,k3,k4⟩:=vj l j ex st hl (by rw[hl2];exact hj) h;rw[hl2]at k2;have hrun:=mL hpre k3;have next:∀{o:Oper} {a0:Act} (ho:ops[m]? = some o) (hml:m<ops.size),∀st' v w',(mP E true ops.toList m (fun st'=>eN E L (dE E L n) (dF E L n) F.nt F.fi F.ys id rp true ops.toList K (m+1) (ops.toList.drop (m+1)) (ko E.T true st' ops.toList) st') st').goes C J r->eD I0 F st' (a0.put o.dst v) w'->so P ops true F.ro Q m o a0 v w' :=
  fun{o a0} ho hml st' v w' hk hs'=>o6 ho (fun _=>hok) (fun e=>by cases e) (fun _=>ih (ops.size-(m+1)) (by omega) (m+1) (Nat.le_refl _)) hk hs'
 have key:∀a w,(d0 true ops.toList m=true\/(∃U c,yU ops.toList m U c)\/m=ops.size)->Sim B I0 mid.nfS a F.ov w->wpAnyIn (Rd F.ro) 0 P .any ops Q (ops.size-m) (gM ops.size m) a w:=by
  intro a w hbars hs;rcases k4 with⟨k4,k5⟩|⟨o,ho,hdn,k5⟩
  ·have hq:=hK mid a w k5 ⟨B,hX,hXd,eF hs⟩
   rw[k4,hl2,Nat.sub_self];refine⟨?_,hq⟩;rw[List.eq_nil_iff_forall_not_mem];intro i hi;rw[mem_ready]at hi;obtain⟨h0,o,ho,_⟩:=hi;have hi2:=(Gm.1 ho).1;rw[co hi2,lO hi2]at h0;cases h0
  ·have ho':ops[m]? = some o:=by rw[<-Gl];exact ho
   have hml:m<ops.size:=(Gm.1 ho').1;have hbm:∀i,m<i->i<ops.size->(nth 0 (behind ops.toList) i).testBit m=true:=fun i hi hi2=>by
    rcases hbars with hb|⟨U,c,hlat⟩|hb
    ·simp only[d0,Bool.not_true,Bool.false_or,Gk]at hb
     exact yR hb.2 (by rw[hl2];exact hi2) hi (Nat.lt_succ_self m)
    ·exact wR hlat.b2 (by rw[hl2];exact hi2) hi (Nat.lt_succ_self m) (fun hm=>absurd (hlat.lt m hm) (Nat.lt_irrefl _))
    ·omega
   rw[show ops.size-m=(ops.size-(m+1))+1 by omega];have hrdy:m∈Region.ready .any ops (gM ops.size m):=yd hok (ft _ _) hml (by rw[co hml];exact mT (Nat.le_refl _)) (fun i hi=>by rw[co (by omega)];exact lO hi);refine⟨fun hr=>(by rw[hr]at hrdy;cases hrdy),fun i hi=>?_⟩;have him:i=m:=by
    rw[mem_ready]at hi;obtain⟨h0,oi,hoi,hedges⟩:=hi;have hi2:=(Gm.1 hoi).1;rw[co hi2]at h0;have hmi:m<=i:=pt h0;rcases Nat.lt_or_ge m i with hlt|hge
    ·exfalso
     have:=iC hok (ft _ _) (je hok) i oi hoi hedges m (hbm i hlt hi2);rw[co hml,mT (Nat.le_refl _)]at this;cases this
    ·omega
   subst him;have hnext:(gM ops.size i).setIfInBounds i true=gM ops.size (i+1):=by
    refine u5 (by simp[ft]) (fun k hk hk2=>?_) (fun k hk hk2=>?_)
    ·by_cases e:k=i
     ·subst e;simp[ft,hk]
     ·rw[getD_set_ne true (fun h=>e h.symm),co hk,lO (by omega)]
    ·rw[getD_set_ne true (by omega),co hk,mT (by omega)]
   rw[hnext];rcases k5 with⟨_,y,f,fn,rv,cap,hof,k5⟩|⟨hb,q,y,hof,k5⟩
   ·obtain⟨vals,e1,e2,e3⟩:=lv hE h0 hL hR hG hJ hat ho' hof k5 ⟨B,hX,hXd,eF hs⟩ (next ho' hml)
    refine t8 ho' e1 (e2 a (fun _ _=>rfl)) e3 (lq (eF hs) hdn) (fun v w' hr=>?_);have:=hr.1;unfold dT at this;exact this
   ·refine qM hE h0 hR hG hJ hat ho' hof k5 ⟨B,hX,hXd,eF hs⟩ hdn (fun st' a' w' hk hs'=>?_)
    obtain⟨B',hX',hXd',hs'⟩:=hs';have:=ih (ops.size-(i+1)) (by omega) (i+1) (Nat.le_refl _) _ _ st' st' [] (gM ops.size (i+1)) a' w' B' rfl hml hk hX' hXd' (ft _ _) (je hok) (fun m h1 h2=>jC h1 h2) (fun k h1 h2=>by rw[co h2];exact mT h1) (.nil _) hs';unfold dT;simpa using this
 have hlen:(unlisted m listed).length=pre.length+(m-j):=by rw[hun m k1 k2];simp
 have fin:∀{U:List Nat},(∀i,m<=i->i<ops.size->∀q,q<m->q∉U->(nth 0 (behind ops.toList) i).testBit q=true)->(∀i,m<i->i<ops.size->(nth 0 (behind ops.toList) i).testBit m=true) ->
   (∀a w,Sim B I0 mid.nfS a F.ov w->wpAnyIn (Rd F.ro) 0 P .any ops Q (ops.size-m) (gM ops.size m) a w) ->
   (m < ops.size → ∀ (listed : Array Bool) (st : ASt) (a : Act) (w : World), listed.size = ops.size → yg ops listed → (∀ k, m ≤ k → k < ops.size → listed.getD k true = false) → (∀ q ∈ unlisted m listed, q ∈ U) → unlisted m listed ≠ [] →
    cZ E C ex ops.toList (unlisted m listed) st mid.nfS->Sim B I0 st a F.ov w->wpOpIn (Rd F.ro) 0 P ops Q m (fun a' w'=>wpAnyIn (Rd F.ro) 0 P .any ops Q ((unlisted m listed).length-1+(ops.size-m)) (listed.setIfInBounds m true) a' w') a w) ->
   wpAnyIn (Rd F.ro) 0 P .any ops Q (pre.length+(ops.size-j)) listed a w:=fun{U} g1 g2 g3 g4=>by
  have:=Cg (ro:=F.ro) (ex:=ex) (hEB B hX) hok k2 (U:=U) g1 g2 (fin:=mid.nfS) (fe:=ops.size-m) g3 g4 (pre.length+(m-j)) listed st0.nfS a w hsz hlen hcl (fun k h1 h2=>hup k (by omega) h2) (by rw[hun m k1 k2];exact hrun) (wL hs);rwa[show pre.length+(m-j)+(ops.size-m)=pre.length+(ops.size-j) by omega]at this
 have nobody:m<ops.size->∀(listed:Array Bool) (st:ASt) (a:Act) (w:World),listed.size=ops.size->yg ops listed->(∀k,m<=k->k<ops.size->listed.getD k true=false)->(∀q∈unlisted m listed,q∈([]:List Nat))->unlisted m listed≠[] ->
    cZ E C ex ops.toList (unlisted m listed) st mid.nfS->Sim B I0 st a F.ov w->wpOpIn (Rd F.ro) 0 P ops Q m (fun a' w'=>wpAnyIn (Rd F.ro) 0 P .any ops Q ((unlisted m listed).length-1+(ops.size-m)) (listed.setIfInBounds m true) a' w') a w :=
  fun _ listed _ _ _ _ _ _ h hne=>absurd (List.eq_nil_iff_forall_not_mem.2 fun q hq=>List.not_mem_nil (h q hq)) hne
 have strict:d0 true ops.toList m=true->wpAnyIn (Rd F.ro) 0 P .any ops Q (pre.length+(ops.size-j)) listed a w:=fun hb=>by
  have hb':=hb;simp only[d0,Bool.not_true,Bool.false_or,Gk]at hb';exact fin (U:=[]) (fun i hi hi2 q hq _=>yR hb'.1 (by rw[hl2];exact hi2) hi hq) (fun i hi hi2=>yR hb'.2 (by rw[hl2];exact hi2) hi (Nat.lt_succ_self m)) (fun a w hs=>key a w (.inl hb) hs) nobody
 have k4':=k4;rcases k4 with⟨k4,k5⟩|⟨o,ho,hdn,⟨hb|⟨u,hu⟩,y,f,fn,rv,cap,hof,k5⟩|⟨hb,_⟩⟩
 ·have hms:m=ops.size:=by rw[k4,hl2]
  exact fin (U:=[]) (fun i hi hi2=>by omega) (fun i hi hi2=>by omega) (fun a w hs=>key a w (.inr (.inr hms)) hs) nobody
 ·exact strict hb
 ·cases hb:d0 true ops.toList m with
  | true=>exact strict hb
  | false =>
  obtain⟨c,hlat,_⟩:=yA hu;have ho':ops[m]? = some o:=by rw[<-Gl];exact ho
  have hco:c=o:=by have:=hlat.hj;rw[ho]at this;exact(Option.some.inj this).symm
  subst hco;refine fin (U:=u) (fun i hi hi2 q hq hne=>wR hlat.b1 (by rw[hl2];exact hi2) hi hq hne) (fun i hi hi2=>wR hlat.b2 (by rw[hl2];exact hi2) hi (Nat.lt_succ_self m) (fun hm=>absurd (hlat.lt m hm) (Nat.lt_irrefl _))) (fun a w hs=>key a w (.inr (.inl ⟨u,c,hlat⟩)) hs) (fun hml lst sta a1 w1 q1 q2 q3 q4 q5 hr1 hs1=>?_);have hld:∀x∈unlisted m lst,pm ops.toList c x:=fun x hx=>hlat.ld x (q4 x hx)
  obtain⟨vals,hds,hs2⟩:=uV (hEB B hX) hld hs1 hr1;obtain⟨vs,f1,f2,f3⟩:=lv hE h0 hL hR hG hJ hat ho' hof k5 ⟨B,hX,hXd,eF hs2⟩ (next ho' hml);refine t8 ho' f1 (f2 a1 (fun z hz=>?_)) f3 (by simp[Region.wanted,hlat.grd]) (fun v w' hr=>hr.2 rfl hb u c hu hlat lst a1 vals q1 q2 q3 q4 q5 hds rfl);cases z with
  | tmp t =>
   refine((ua vals a1).2.2 t (fun p hp e=>?_)).symm;have hd:some p.1∈dW ops.toList (unlisted m lst):=by rw[<-hds];exact List.mem_map_of_mem (f:=fun p:Tmp × Value=>some p.1) hp
   simp only[dW,List.mem_map]at hd;obtain⟨x,hx,e2⟩:=hd;obtain⟨ox,d,r1,r2,r3,r4,r5⟩:=hld x hx;rw[r1]at e2;simp only[Option.bind_some,r3,Gj]at e2;rw[e2,e]at r4;exact r4 (cE hz)
  | const c=>rfl
  | global g=>rfl
  | func f=>rfl
 ·exact strict hb
theorem jQ (hE : gc P G0 E C) (h0 : F0.Ok I0) (hg0 : F0.W.G = G0) (hL : qD P L) {n : Nat} (hR : qg P E C L I0 body Q0 F0 J r n) (hG : nK P E C L I0 body Q0 F0 J r n) (hJ : JOk P L I0 body Q0 F0 J r) {rp : List Nat} {id : Nat} {ops : Array Oper} {draw : Bool} {Q : Exit → Act → World → Prop} {F : Fr}
  (hat:At P L I0 body Q0 F0 rp (.region id ops draw) Q F) (hok:draw=true->bC ops.toList=true) {K:ASt->Prg R} (hK:∀st' a w,(K st').goes C J r->eD I0 F st' a w->Q .normal a w) :
  ∀(d j:Nat) (l:List Oper) (ex:List (List Nat)) (st:ASt) (a:Act) (w:World),l=ops.toList.drop j->j<=ops.size->ops.size-j<=d->(eN E L (dE E L n) (dF E L n) F.nt F.fi F.ys id rp draw ops.toList K j l ex st).goes C J r->eD I0 F st a w->dT P ops draw F.ro Q j a w:=by
 have hEB:∀B:Bs,Ext F.W B->gc P B.G E C:=fun B hX=>by rw[hX.G,hat.gl hg0];exact hE
 intro d;induction d with
 | zero =>
  intro j l ex st a w hl hj hd h hs;have hjs:j=ops.size:=by omega
  have hl0:l=[]:=by rw[hl,hjs,List.drop_eq_nil_of_le (by simp)]
  subst hl0;simp only[eN]at h;have hq:=hK st a w h hs;unfold dT;cases draw with
  | false=>rw[hjs,Nat.sub_self];exact hq
  | true =>
   rw[hjs,Nat.sub_self];refine⟨?_,hq⟩;rw[List.eq_nil_iff_forall_not_mem];intro i hi;rw[mem_ready]at hi;obtain⟨h0,o,ho,_⟩:=hi;have hi2:=(Gm.1 ho).1;rw[co hi2,lO hi2]at h0;cases h0
 | succ d ih =>
  intro j l ex st a w hl hj hd h hs;have hl2:ops.toList.length=ops.size:=by simp
  cases draw with
  | false =>
   cases l with
   | nil =>
    have hjs:j=ops.size:=by
     have:=congrArg List.length hl;simp at this;omega
    simp only[eN]at h;unfold dT;rw[hjs,Nat.sub_self];exact hK st a w h hs
   | cons o rest =>
    have hjo:ops[j]? = some o:=by
     have:(ops.toList.drop j)[0]? = some o:=by rw[<-hl];rfl
     simpa using this
    have hjl:j<ops.size:=(Gm.1 hjo).1;have hrest:rest=ops.toList.drop (j+1):=by
     have:=congrArg List.tail hl;simpa using this
    have hstep:wpOpIn (Rd F.ro) 0 P ops Q j (dT P ops false F.ro Q (j+1)) a w:=by
     have plain:(opQ E ops.toList (lT false ex ops.toList j o) (iy (eN E L (dE E L n) (dF E L n) F.nt F.fi F.ys id rp false ops.toList K (j+1) rest ex)) st).goes C J r->wpOpIn (Rd F.ro) 0 P ops Q j (dT P ops false F.ro Q (j+1)) a w:=fun h=>by
      simp only[kN]at h;obtain⟨st1,h1,h2⟩:=ln h;obtain⟨B,hX,hXd,hs⟩:=hs;exact wpOpIn_mono (fun a' w' hs'=>ih (j+1) rest ex st1 a' w' hrest (by omega) (by omega) h2 ⟨B,hX,hXd,eF hs'⟩) (l9 (hEB B hX) (i:=lT false ex ops.toList j o) hjo (wL hs) h1)
     simp only[eN]at h;split at h
     ·rename_i y f fn rv cap hof
      cases hdn:ij ops.toList o st with
      | false=>rw[hdn]at h;exact plain h
      | true =>
       rw[hdn]at h;simp only[cond_true,d0,Bool.not_false,Bool.true_or]at h;rw[hrest]at h;obtain⟨vals,e1,e2,e3⟩:=lv hE h0 hL hR hG hJ hat hjo hof h hs (fun st' v w' hk hs'=>o6 hjo (fun e=>by cases e) (fun _ st2 a2 w2 h2 hs2=>ih (j+1) _ _ st2 a2 w2 rfl (by omega) (by omega) h2 hs2) (fun e=>by cases e) hk hs');obtain⟨B,hX,hXd,hs⟩:=hs;exact t8 hjo e1 (e2 a (fun _ _=>rfl)) e3 (lq hs hdn) (fun v w' hr=>hr.1)
     ·split at h
      ·rename_i q y hof
       cases hdn:ij ops.toList o st with
       | false=>rw[hdn]at h;exact plain h
       | true =>
        rw[hdn]at h;simp only[cond_true,Bool.not_false,Bool.true_or]at h;exact qM hE h0 hR hG hJ hat hjo hof h hs hdn (fun st' a' w' hk hs'=>ih (j+1) rest _ st' a' w' hrest (by omega) (by omega) hk hs')
      ·exact plain h
    unfold dT at hstep ⊢;rw[show ops.size-j=(ops.size-(j+1))+1 by omega,List.range'_succ,wpOpsIn_cons];exact hstep
  | true =>
   obtain⟨B,hX,hXd,hs⟩:=hs;have:=AN hE h0 hg0 hL hR hG hJ hat (hok rfl) hK (d+1) j hd l ex st st [] (gM ops.size j) a w B hl hj h hX hXd (ft _ _) (je (hok rfl)) (fun m h1 h2=>jC h1 h2) (fun k h1 h2=>by rw[co h2];exact mT h1) (.nil _) hs;unfold dT;simpa using this
theorem ci (hE:gc P G0 E C) (h0:F0.Ok I0) (hg0:F0.W.G=G0) (hm:P.follows .mixedOrders=true) (hL:qD P L) (hJ:JOk P L I0 body Q0 F0 J r):∀n,qg P E C L I0 body Q0 F0 J r n/\nK P E C L I0 body Q0 F0 J r n:=by
 have plain:∀{rp id ops draw} {K:ASt->Prg R} {Q F st a w},At P L I0 body Q0 F0 rp (.region id ops draw) Q F->(kb E ops.toList draw K st).goes C J r->eD I0 F st a w ->
   (∀st' a w,(K st').goes C J r->eD I0 F st' a w->Q .normal a w)->(Code.region id ops draw).wpIn (Rd F.ro) 0 P Q a w:=fun{rp id ops draw K Q F st a w} hat h hs hQ=>by
  obtain⟨B,hX,hXd,hs⟩:=hs;exact wx (by rw[hX.G,hat.gl hg0];exact hE) hm hs h (fun st' a w hk hs'=>hQ st' a w hk ⟨B,hX,hXd,hs'⟩)
 intro n;induction n with
 | zero =>
  refine⟨?_,?_⟩
  ·intro rp id ops draw K Q F st a w hat h hs hQ
   simp only[dE]at h;exact plain hat h hs hQ
  ·intro rp g ps assign c K Q F st a w hat h hs hQ
   simp only[dF]at h;exact h.elim
 | succ n ih =>
  refine⟨?_,yC hE h0 hL ih.1 ih.2 hJ⟩;intro rp id ops draw K Q F st a w hat h hs hQ;simp only[dE]at h;cases ha:rx L ops.toList with
  | false =>
   rw[ha]at h;exact plain hat h hs hQ
  | true =>
   rw[ha]at h;simp only[cond_true]at h;cases hd:!draw||bC ops.toList with
   | false=>rw[hd]at h;exact h.elim
   | true =>
    rw[hd]at h;simp only[cond_true]at h;have hok:draw=true->bC ops.toList=true:=fun e=>by subst e;simpa using hd
    cases draw with
    | false =>
     have:=jQ hE h0 hg0 hL ih.1 ih.2 hJ hat hok hQ ops.size 0 ops.toList _ st a w rfl (Nat.zero_le _) (by omega) h hs;refine wpIn_region ?_;rw[List.range_eq_range'];exact this
    | true =>
     refine wpIn_region_any hm ?_;have hs':eD I0 F st a { w with drawn:=w.drawn+1 }:=by
      obtain⟨B,hX,hXd,g,hs⟩:=hs;exact⟨B,hX,hXd,_,hs.grow (w':={ w with drawn:=w.drawn+1 }) (I':=g.I) (R':=NoR) ⟨rfl,rfl,rfl,Nat.le_refl _,fun _ _=>rfl⟩ (fun _ h=>h) hs.lt (fun _ _ h=>h) (fun _ h=>h.elim)⟩
     have:=jQ hE h0 hg0 hL ih.1 ih.2 hJ hat hok hQ ops.size 0 ops.toList _ st a _ rfl (Nat.zero_le _) (by omega) h hs';rw[<-CB];exact this
theorem u7 {z m j:Nat} (hz:z<2) (hj:j<1000):(kB z m j%2).beq 0=false/\(kB z m j-3) / 2%1000=j/\(kB z m j-3) / 2 / 1000 / 2=m/\(kB z m j-3) / 2 / 1000%2=z:=by
 unfold kB;have h0:(2*((2*m+z)*1000+j)+3)%2=1:=by omega
 rw[h0];have h1:(2*((2*m+z)*1000+j)+3-3) / 2=(2*m+z)*1000+j:=by omega
 rw[h1];refine⟨rfl,by omega,by omega,by omega⟩
theorem nbeq10:Nat.beq 1 0=false:=rfl
theorem BJ (y:Nat):((2*y+2)%2).beq 0=true/\(2*y+2) / 2-1=y:=by
 have h0:(2*y+2)%2=0:=by omega
 rw[h0];exact⟨rfl,by omega⟩
theorem DT (hE : gc P G0 E C) (h0 : F0.Ok I0) (hg0 : F0.W.G = G0) (hm : P.follows .mixedOrders = true) (hL : qD P L) (hJ : JOk P L I0 body Q0 F0 J r) {p : List Nat} {c cT : Code} {Q QT : Exit → Act → World → Prop} {F FT : Fr} (hf : AtF P L I0 p c Q F cT QT FT) :
  ∀(n:Nat) (rp:List Nat) (K:AEx->ASt->Prg R) (st:ASt) (a:Act) (w:World),At P L I0 body Q0 F0 rp c Q F->(goQ E L p n F.ov.length F.nt F.fi F.ys rp c K st).goes C J r->eD I0 FT st a w ->
   (∀e st' a w,(K e st').goes C J r->eD I0 F st' a w->Q (kT e) a w)->cT.wpIn (Rd FT.ro) 0 P QT a w:=by
 induction hf with
 | here =>
  intro n rp K st a w hat h hs hK;rw[AP]at h;exact b8 (ci hE h0 hg0 hm hL hJ n).1 (ci hE h0 hg0 hm hL hJ n).2 hJ _ rp K _ st a w hat h hs hK
 | @seq0 p x y Q F c' Q' F' hf ih =>
  intro n rp K st a w hat h hs hK;rw[CS]at h;refine ih n (0::rp) _ st a w hat.seq0 h hs (fun e st' a w hk hs=>?_);cases e with
  | normal =>
   simp only[qd]at hk;cases han:iu (L.jn F.fi) y with
   | none =>
    rw[han]at hk;exact b8 (ci hE h0 hg0 hm hL hJ n).1 (ci hE h0 hg0 hm hL hJ n).2 hJ y (1::rp) _ Q st' a w hat.seq1 hk hs hK
   | some an =>
    rw[han]at hk;obtain⟨B,hX,hXd,hs⟩:=hs;obtain⟨st2,h2,hs2⟩:=kR hs hk;exact hJ (1::rp) y Q _ st2 a w hat.seq1 h2 ⟨B,hX,hXd,hs2⟩
  | ret=>exact hK .ret st' a w hk hs
  | exit id=>exact hK (.exit id) st' a w hk hs
 | seq1 hf ih =>
  intro n rp K st a w hat h hs hK;rw[CX]at h;exact ih n (1::rp) K st a w hat.seq1 h hs hK
 | cond0 hf ih =>
  intro n rp K st a w hat h hs hK;rw[BB]at h;exact ih n (0::rp) K st a w hat.cond0 h hs hK
 | cond1 hf ih =>
  intro n rp K st a w hat h hs hK;rw[Bo]at h;exact ih n (1::rp) K st a w hat.cond1 h hs hK
 | @block p id c Q F c' Q' F' hf ih =>
  intro n rp K st a w hat h hs hK;rw[BV]at h;refine ih n (0::rp) _ st a w hat.block h hs (fun e st' a w hk hs=>?_);cases e with
  | normal=>exact hK .normal st' a w hk hs
  | ret=>exact hK .ret st' a w hk hs
  | exit i =>
   simp only[lN]at hk;simp only[kT,Exit.inBlock];cases hb:i.beq id with
   | true =>
    simp only[hb,cond_true]at hk;rw[if_pos ((aC _ _).1 hb)];exact hK .normal st' a w hk hs
   | false =>
    simp only[hb,cond_false]at hk;rw[if_neg (fun e=>by subst e;simp at hb)];exact hK (.exit i) st' a w hk hs
 | @loop p c Q F c' Q' F' hf ih =>
  intro n rp K st a w hat h hs hK;rw[EF]at h;refine ih n (0::rp) _ st a w hat.loop h hs (fun e st' a w hk hs=>?_);cases e with
  | normal =>
   simp only[s9,u6]at hk;cases han:iu (L.ann F.fi) c with
   | none=>rw[han]at hk;exact hk.elim
   | some an =>
    rw[han]at hk;obtain⟨B,hX,hXd,hs⟩:=hs;obtain⟨st2,h2,hs2⟩:=kR hs hk;exact wY (hJ (0::rp) c _ _ st2 a w hat.loop h2 ⟨B,hX,hXd,hs2⟩)
  | ret=>exact hK .ret st' a w hk hs
  | exit id=>exact hK (.exit id) st' a w hk hs
 | @opn p id ops draw Q F y o f fn c' Q' F' a0 B ho hof h3 h4 hX hXd hBok hf ih =>
  intro n rp K st a w hat h hs hK;cases n with
  | zero=>rw[rI]at h;exact h.elim
  | succ n =>
   have ho':ops.toList[y%1000]? = some o:=by rw[Gl];exact ho
   obtain⟨e1,e2⟩:=BJ y;rw[rd]at h;simp only[e1,e2,ho',hof,cond_true]at h;have hok:draw=true->bC ops.toList=true:=fun e=>by
    subst e;cases hd:bC ops.toList with
    | true=>rfl
    | false=>rw[hd]at h;exact h.elim
   have h:(goQ E L p n (F.ov.length+F.nt) fn.ntmps f F.ys ((2*y+2)::rp) (cm fn)
       (uB E f fn F.nt o.dst (mP E draw ops.toList (y%1000) fun st'=>eN E L (dE E L n) (dF E L n) F.nt F.fi F.ys id rp draw ops.toList (K .normal) (y%1000+1) (ops.toList.drop (y%1000+1)) (ko E.T draw st' ops.toList) st')) st).goes C J r:=by
    cases hb:!draw||bC ops.toList with
    | true=>rw[hb]at h;exact h
    | false=>rw[hb]at h;exact h.elim
   have hjl:y%1000<ops.size:=(Gm.1 ho).1;have hat2:=hat.opn a0 B ho hof h3 h4 hX hXd hBok;rw[show F.ov.length+F.nt=(F.ov++a0.tmps.toList).length by simp[h3]]at h;refine ih n ((2*y+2)::rp) _ st a w hat2 h hs (fun e st' a w hk hs=>?_);have he:e=.normal\/e=.ret:=by
    cases e with
    | normal=>exact .inl rfl
    | ret=>exact .inr rfl
    | exit i=>exact hk.elim
   refine oP (hat2.ok h0) he hs (fun w2 B2 hE2 hd2 hs2=>?_);obtain⟨_,v,hres,st2,hk2,hs3⟩:=sw hE.1 (yO (F:=F) hBok hE2 hd2 hs2) h3 h4 hk;refine⟨v,hres,v,rfl,o6 (L:=L) ho hok (fun _ st3 a3 w3 h3 hs3=>jQ hE h0 hg0 hL (ci hE h0 hg0 hm hL hJ n).1 (ci hE h0 hg0 hm hL hJ n).2 hJ hat hok (fun st' a w hk hs=>hK .normal st' a w hk hs) ops.size (y%1000+1) _ _ st3 a3 w3 rfl hjl (by omega) h3 hs3) (fun e=>?_) hk2 ⟨B,hX,hXd,hs3⟩⟩;subst e;exact AN hE h0 hg0 hL (ci hE h0 hg0 hm hL hJ n).1 (ci hE h0 hg0 hm hL hJ n).2 hJ hat (hok rfl) (fun st' a w hk hs=>hK .normal st' a w hk hs) _ (y%1000+1) (Nat.le_refl _)
 | @rng p g ps assign c Q F f fn c' Q' F' a0 B w0 w1 l mk Rc hfn hnt hdef hX hXd hBel hBok he hmk hready ht hp ha hc hf ih =>
  intro n rp K st a w hat h hs hK;cases n with
  | zero=>rw[El]at h;exact h.elim
  | succ n =>
   rw[A9]at h;simp only[hfn]at h;rw[show F.ov.length+F.nt=(F.ov++a0.tmps.toList).length by simp[hnt]]at h;have hat2:=hat.rng a0 B w0 w1 l mk Rc hfn hnt hdef hX hXd hBel hBok he hmk hready ht hp ha hc;exact ih n (f::rp) _ st a w hat2 h hs (fun e st' a w hk hs=>vF (hat2.ok h0) hX hXd hBel hBok hnt hdef he hmk hready (fun st' a w hk hs=>hK .normal st' a w hk hs) hk hs)
 | @yld0 p id ops draw Q F m j y o c' Q' F' a1 B Rc ho hj hy hnt hdef hX hXd hBok hBl k2 hready hf ih =>
  intro n rp K st a w hat h hs hK;cases n with
  | zero=>rw[rI]at h;exact h.elim
  | succ n =>
   obtain⟨e1,e2,e3,e4⟩:=u7 (z:=0) (m:=m) (by decide) hj;have ho':ops.toList[j]? = some o:=by rw[Gl];exact ho
   rw[rd]at h;simp only[e1,e2,e3,e4,ho',hy,cond_false,cond_true,Nat.beq_refl]at h;have hIl:¬I0 (F.W.Y m):=(hat.ok h0).yI m (Gg.1 hy).1;have hok:draw=true->bC ops.toList=true:=fun e=>by
    subst e;cases hd:bC ops.toList with
    | true=>rfl
    | false=>rw[hd]at h;exact h.elim
   have h : (goQ E L p n (F.ov.length + F.nt) y.nt y.fi (aX F.ys m) (kB 0 m j :: rp) y.assign
        (pj (dq E (dE E L n y.nt y.fi (aX F.ys m)) (dF E L n y.nt y.fi (aX F.ys m)) (L.ann y.fi) (L.jn y.fi) (kB 1 m j :: rp) y.body
         (eS y F.nt o.dst (fun st'=>eN E L (dE E L n) (dF E L n) F.nt F.fi F.ys id rp draw ops.toList (K .normal) (j+1) (ops.toList.drop (j+1)) (ko E.T draw st' ops.toList) st')))) st).goes C J r:=by
    cases hb:!draw||bC ops.toList with
    | true=>rw[hb]at h;exact h
    | false=>rw[hb]at h;exact h.elim
   rw[show F.ov.length+F.nt=(F.ov++a1.tmps.toList).length by simp[hnt]]at h;have hjl:j<ops.size:=(Gm.1 ho).1;have hat2:=hat.yld0 a1 B Rc ho hj hy hnt hdef hX hXd hBok hBl k2 hready;refine ih n _ _ st a w hat2 h hs (fun e st' a w hk hs=>te (ci hE h0 hg0 hm hL hJ n).1 (ci hE h0 hg0 hm hL hJ n).2 hJ hat ho hj hy hX hXd hBok hIl hnt hdef hBl k2 hready (fun st2 a2 w2 hk2 hs2=>?_) hk hs);exact jQ hE h0 hg0 hL (ci hE h0 hg0 hm hL hJ n).1 (ci hE h0 hg0 hm hL hJ n).2 hJ hat hok (fun st' a w hk hs=>hK .normal st' a w hk hs) ops.size (j+1) _ _ st2 _ w2 rfl hjl (by omega) hk2 hs2
 | @yld1 p id ops draw Q F m j y o c' Q' F' a1 B W Rc ho hj hy hnt hdef hX hXd hBok hq hWok hf ih =>
  intro n rp K st a w hat h hs hK;cases n with
  | zero=>rw[rI]at h;exact h.elim
  | succ n =>
   obtain⟨e1,e2,e3,e4⟩:=u7 (z:=1) (m:=m) (by decide) hj;have ho':ops.toList[j]? = some o:=by rw[Gl];exact ho
   rw[rd]at h;simp only[e1,e2,e3,e4,ho',hy,cond_false,nbeq10]at h;have hIl:¬I0 (F.W.Y m):=(hat.ok h0).yI m (Gg.1 hy).1;have hok:draw=true->bC ops.toList=true:=fun e=>by
    subst e;cases hd:bC ops.toList with
    | true=>rfl
    | false=>rw[hd]at h;exact h.elim
   have h:(goQ E L p n (F.ov.length+F.nt) y.nt y.fi (aX F.ys m) (kB 1 m j::rp) y.body
         (eS y F.nt o.dst (fun st'=>eN E L (dE E L n) (dF E L n) F.nt F.fi F.ys id rp draw ops.toList (K .normal) (j+1) (ops.toList.drop (j+1)) (ko E.T draw st' ops.toList) st')) st).goes C J r:=by
    cases hb:!draw||bC ops.toList with
    | true=>rw[hb]at h;exact h
    | false=>rw[hb]at h;exact h.elim
   rw[show F.ov.length+F.nt=(F.ov++a1.tmps.toList).length by simp[hnt]]at h;have hjl:j<ops.size:=(Gm.1 ho).1;have hat2:=hat.yld1 a1 B W Rc ho hj hy hnt hdef hX hXd hBok hq hWok;refine ih n _ _ st a w hat2 h hs (fun e st' a w hk hs=>tW hq hX hXd hBok hIl hnt hdef (fun st2 a2 w2 hk2 hs2=>?_) hk hs);exact jQ hE h0 hg0 hL (ci hE h0 hg0 hm hL hJ n).1 (ci hE h0 hg0 hm hL hJ n).2 hJ hat hok (fun st' a w hk hs=>hK .normal st' a w hk hs) ops.size (j+1) _ _ st2 _ w2 rfl hjl (by omega) hk2 hs2
theorem dN {C':FuncId->List TV->Option TV} {J':List Nat->ASt->Option R}:∀{p:Prg R} {r:R},p.run C' J'=some r->p.goes (fun f xs v=>C' f xs=some v) (fun rp st r=>J' rp st=some r) r
 | .fail,r,h=>by simp[Prg.run]at h
 | .ret r',r,h=>by simpa[Prg.run,Prg.goes]using h
 | .tv p k,r,h=>by
  simp only[Prg.run,Option.bind_eq_some_iff]at h;obtain⟨v,h1,h2⟩:=h;exact⟨v,h1,dN h2⟩
 | .tvs p k,r,h=>by
  simp only[Prg.run,Option.bind_eq_some_iff]at h;obtain⟨v,h1,h2⟩:=h;exact⟨v,h1,dN h2⟩
 | .rws p k,r,h=>by
  simp only[Prg.run,Option.bind_eq_some_iff]at h;obtain⟨v,h1,h2⟩:=h;exact⟨v,h1,dN h2⟩
 | .nat p k,r,h=>by
  simp only[Prg.run,Option.bind_eq_some_iff]at h;obtain⟨v,h1,h2⟩:=h;exact⟨v,h1,dN h2⟩
 | .chk b k,r,h=>by
  cases b with
  | false=>simp[Prg.run]at h
  | true=>exact⟨rfl,dN h⟩
 | .ite b t e,r,h=>by
  simp only[Prg.run,Option.bind_eq_some_iff]at h;obtain⟨v,h1,h2⟩:=h;cases v with
  | true=>exact⟨true,h1,.inl ⟨rfl,dN h2⟩⟩
  | false=>exact⟨false,h1,.inr ⟨rfl,dN h2⟩⟩
 | .call f xs k,r,h=>by
  simp only[Prg.run,Option.bind_eq_some_iff]at h;obtain⟨v,h1,h2⟩:=h;exact⟨v,h1,dN h2⟩
 | .jmp p st,r,h=>h
end
end Go.Ab

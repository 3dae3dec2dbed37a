import Derived.Test.YthgejdenjmjkoaaDM13f
import Derived.LoopN
namespace Go.Ab
open Go.RowKit
set_option linter.unusedVariables false
def turns (P:Program) (c:Code) (Q:Exit→Act→World→Prop) (a:Act) (w:World):Prop :=
 ∀ b k cs,∃ e a' w',Q e a' w'∧Arrives P (lone (b.at a (.code c :: .inLoop c :: k)) cs w) b k cs e a' w'
theorem turns_of {P:Program} {c:Code} {Q:Exit→Act→World→Prop} {a:Act} {w:World} (h:c.wp P (Exit.then (turns P c Q) Q) a w):turns P c Q a w:=by
 intro b k cs
 obtain ⟨e,a₁,w₁,hq,harr⟩:=h b (.inLoop c :: k) cs
 cases e with
 | normal =>
  obtain ⟨e₂,a₂,w₂,hq₂,harr₂⟩:=hq b k cs
  exact ⟨e₂,a₂,w₂,hq₂,.of_steps (Steps.trans harr (.one step_inLoop)) harr₂⟩
 | exit id=>exact ⟨_,a₁,w₁,hq,.pass (x:=.inLoop c) rfl (fun _ _=>.inl (by simp)) harr⟩
 | goto l=>exact ⟨_,a₁,w₁,hq,.pass (x:=.inLoop c) rfl (fun _ _=>.inl (by simp)) harr⟩
 | ret=>exact ⟨_,a₁,w₁,hq,.pass (x:=.inLoop c) rfl (fun _ _=>.inl (by simp)) harr⟩
 | panic ch=>exact ⟨_,a₁,w₁,hq,.pass (x:=.inLoop c) rfl (fun _ _=>.inl (by simp)) harr⟩
 | outgrown=>exact ⟨_,a₁,w₁,hq,.pass (x:=.inLoop c) rfl (fun _ _=>.inl (by simp)) harr⟩
theorem loop_of_turns {P:Program} {c:Code} {Q:Exit→Act→World→Prop} {a:Act} {w:World} (h:turns P c Q a w):(Code.loop c).wp P Q a w:=by
 intro b k cs
 obtain ⟨e,a',w',hq,harr⟩:=h b k cs
 exact ⟨e,a',w',hq,.of_steps (.one step_loop) harr⟩
def exitOf:AEx→Exit
 | .normal=>.normal
 | .ret=>.ret
 | .exit id=>.exit id
section
variable {P:Program} {E:Env} {C:Cal} {w0:Bs} {w w':World} {I0 I R:Nat→Prop} {g g':Gh} {st st':ASt} {a:Act} {ov:List Value} {look:Look} {T:Type} {J:List Nat→ASt→T→Prop}
def resSem (tmps:Array Value):ResultVar→Sem Value
 | .tmp t=>pure (tmps.getD t undef)
 | .cell a t=>do loadVar t (← asAddr (tmps.getD a undef))
theorem results_eq (fn:Func) (tmps:Array Value):results fn tmps=(do let vs ← fn.results.mapM (resSem tmps); pure (if h:vs.size=1 then vs[0] else .tuple vs)):=by
 unfold results
 congr 1
theorem resAV_sound (hT : ∀ t d, E.T t = some d → TyOk P t d) (hs : SimI w0 I0 NoR g st a ov w) {rv : ResultVar} {x : AV} (h : resAV E.T st rv = some x) :
  ∃ v,(resSem a.tmps rv).run P w=.ok v w∧RepA w g st.look x v:=by
 cases rv with
 | tmp t =>
  simp only [resAV,Option.some.injEq] at h
  subst h
  exact ⟨a.tmps.getD t undef,by simp [resSem],hs.ev (.tmp t)⟩
 | cell ad t =>
  simp only [resAV] at h
  split at h
  ·rename_i i d hv hd
   have ht:=hT _ _ hd
   have hrep:RepA w g st.look (nth (.one .junk) st.slots ad) (a.tmps.getD ad undef):=hs.ev (.tmp ad)
   rw [hv] at hrep
   obtain ⟨cs',hl',hval⟩:=hrep
   split at h
   ·rename_i cs hl
    rw [hl] at hl'
    simp only [Option.some.injEq,BC.cells.injEq] at hl'
    subst hl'
    obtain ⟨vs,ty,h4,hcr⟩:=hs.cells i cs hl
    split at h
    ·rename_i cs1 htk
     obtain ⟨k1,k2,k3⟩:=takeN_spec _ _ _ _ htk
     have hn0:(bif d.kd.isAgg then d.size else 1)=cs1.length:=k1.symm
     have h5:vs.toList.length=cs.length:=hcr.1
     have hcr1:CR w g st.look cs1 (vs.toList.take cs1.length):=by
      refine ⟨?_,fun j c u hc hu=>?_⟩
      ·rcases k2 with k2 | k2
       ·have:cs1=[]:=List.eq_nil_of_length_eq_zero (by omega)
        subst this; simp
       ·simp at h5 ⊢; omega
      ·have hj:j < cs1.length:=(List.getElem?_eq_some_iff.1 hc).1
       rw [List.getElem?_take_of_lt hj] at hu
       rw [k3 j (by omega),Nat.zero_add] at hc
       exact hcr.2 _ c u hc hu
     have hcell:∀ (j:Nat) (u:Value),(vs.toList.take cs1.length)[j]? = some u→w.cell? ((⟨g.β i,0,none⟩:Addr).add j)=some u:=fun j u hu=>by
      have hj:j < cs1.length:=by
       have:=(List.getElem?_eq_some_iff.1 hu).1
       simp at this
       omega
      rw [List.getElem?_take_of_lt hj,Array.getElem?_toList] at hu
      rw [add_lit,cell_of_row w (g.β i) _ vs ty (0,0) h4,Nat.zero_add]
      exact hu
     obtain ⟨r1,r2⟩:=run_loadVar (w:=w) ht (ad:=⟨g.β i,0,none⟩) (by rw [hn0]; exact hcr1.1) hcell
     cases hk:d.kd.isAgg with
     | true =>
      rw [hk] at h
      exact ⟨.agg (vs.toList.take cs1.length).toArray,by simp [resSem,hval,asAddr,r1 hk],ofCells_rep h ⟨_,rfl,by simpa using hcr1⟩⟩
     | false =>
      rw [hk] at h hn0
      match cs1,hn0,hcr1,h,r2 with
      | [c],_,hcr1,h,r2 =>
       have h0:(vs.toList.take 1).length=1:=hcr1.1
       have hu:(vs.toList.take 1)[0]? = some ((vs.toList.take 1)[0]'(by omega)):=List.getElem?_eq_getElem _
       have hh:=hcr1.2 0 c _ rfl hu
       exact ⟨_,by simp only [resSem,hval,asAddr,Sem.run_bind,Sem.run_pure,Result.andThen_ok]; exact r2 hk _ hu,ofCells_rep h ⟨c,rfl,hh.1,hh.2⟩⟩
    ·cases h
   ·cases h
  ·cases h
theorem resAVs_sound (hT:∀ t d,E.T t=some d→TyOk P t d) (hs:SimI w0 I0 NoR g st a ov w):∀ (rs:List ResultVar) (xs:List AV),resAVs E.T st rs=some xs →
  ∃ vs:List Value,(rs.mapM (resSem a.tmps)).run P w=.ok vs w∧RepAs w g st.look xs vs
 | [],xs,h=>by simp [resAVs] at h; subst h; exact ⟨[],by simp,trivial⟩
 | rv :: rs, xs, h => by
  simp only [resAVs] at h
  cases h1:resAV E.T st rv with
  | none=>simp [h1] at h
  | some x =>
   cases h2:resAVs E.T st rs with
   | none=>simp [h1,h2] at h
   | some xs' =>
    simp only [h1,h2,Option.some.injEq] at h
    subst h
    obtain ⟨v,hr,hv⟩:=resAV_sound (P:=P) hT hs h1
    obtain ⟨vs,hrs,hvs⟩:=resAVs_sound hT hs rs xs' h2
    refine ⟨v :: vs,?_,hv,hvs⟩
    simp only [List.mapM_cons,Sem.run_bind,hr,Result.andThen_ok,hrs,Sem.run_pure]
theorem cellsO_goes {agg:Bool} {n:Nat} {x:AV} {k:List CA→Prg T} {r:T} {v:Value} (hx:RepA w g look x v) (h:(x.cellsO agg n k).goes C J r):∃ cs,(k cs).goes C J r∧RepCs w g look agg cs v:=by
 cases agg with
 | false =>
  cases x with
  | one c =>
   simp only [AV.cellsO] at h
   cases hk:c.kept with
   | false=>simp [hk,Prg.goes] at h
   | true =>
    simp only [hk,cond_true] at h
    exact ⟨[c],h,c,rfl,hx,kept_one hx hk⟩
  | tv x =>
   obtain ⟨h1,h⟩:=h
   have h1':v.oneCell'=true:=by
    cases hx with
    | lit v=>exact h1
    | hole v=>simp [TV.isOne] at h1
    | buf e h=>simp [TV.isOne] at h1
    | sl=>rfl
    | agg=>simp [TV.isOne] at h1
    | tup=>simp [TV.isOne] at h1
   exact ⟨[.t x],h,_,rfl,⟨hx,h1'⟩,h1'⟩
  | bl b =>
   have:v=.bool b:=hx
   subst this
   exact ⟨[.t (.lit (.bool b))],h,_,rfl,⟨.lit _,rfl⟩,rfl⟩
  | agg cs=>exact h.elim
  | tups l=>exact h.elim
  | clo _ l=>exact h.elim
 | true =>
  cases x with
  | agg cs =>
   simp only [AV.cellsO] at h
   cases hk:cs.length.beq n with
   | false=>simp [hk,Prg.goes] at h
   | true =>
    simp only [hk,cond_true] at h
    exact ⟨cs,h,hx⟩
  | tv x =>
   obtain ⟨h1,h⟩:=h
   have hx:Rep w g.I x v:=hx
   cases hx with
   | lit v=>simp [TV.isAgg] at h1
   | hole v=>simp [TV.isAgg] at h1
   | buf e h=>simp [TV.isAgg] at h1
   | sl=>simp [TV.isAgg] at h1
   | tup=>simp [TV.isAgg] at h1
   | @agg cs vs hl h1' hr =>
    have hn:cs.length=n:=(beq_iff _ _).1 h1
    refine ⟨_,h,vs,rfl,by simp [hl,hn],fun j c u hc hu=>?_⟩
    have hlt:j < n:=by
     have:=(List.getElem?_eq_some_iff.1 hc).1
     simpa using this
    rw [List.getElem?_map,List.getElem?_range hlt] at hc
    simp only [Option.map_some,Option.some.injEq] at hc
    subst hc
    have hj2:j < cs.length:=by omega
    have hcell:TV.cell (.agg cs) j=cs[j]:=by simp only [TV.cell]; exact nth_some (List.getElem?_eq_getElem hj2)
    rw [hcell]
    have hu':vs.getD j undef=u:=by
     simp only [Array.getElem?_toList] at hu
     rw [Array.getD_eq_getD_getElem?,hu]; rfl
    rw [← hu']
    exact ⟨⟨hr j _ (List.getElem?_eq_getElem hj2),h1' j (by omega)⟩,h1' j (by omega)⟩
  | one c=>exact h.elim
  | bl b=>exact h.elim
  | tups l=>exact h.elim
  | clo _ l=>exact h.elim
theorem tupRes_goes:∀ {ds:List TyD} {vs:List AV} {us:List Value} {k:List (Bool × List CA)→Prg T} {r:T},RepAs w g look vs us→(tupRes ds vs k).goes C J r →
  ∃ l,(k l).goes C J r∧l.length=us.length∧∀ (j:Nat) (b:Bool) (c:List CA),l[j]? = some (b,c)→RepCs w g look b c (us.getD j undef)
 | [],[],us,k,r,hr,h=>by
  have:us=[]:=by cases us with | nil=>rfl | cons u us=>exact hr.elim
  subst this
  exact ⟨[],h,rfl,fun j b c hj=>by simp at hj⟩
 | d :: ds,v :: vs,[],k,r,hr,h=>hr.elim
 | d :: ds,v :: vs,u :: us,k,r,hr,h=>by
  obtain ⟨cs,h1,h2⟩:=cellsO_goes hr.1 h
  obtain ⟨l,h3,h4,h5⟩:=tupRes_goes hr.2 h1
  refine ⟨_,h3,by simp [h4],fun j b c hj=>?_⟩
  cases j with
  | zero=>simp at hj; obtain ⟨rfl,rfl⟩:=hj; exact h2
  | succ j=>simp at hj; exact h5 j b c hj
 | [],v :: vs,us,k,r,hr,h=>h.elim
 | d :: ds,[],us,k,r,hr,h=>h.elim
theorem renK_sound {L:List Nat} {m:Nat} (hn:nodupB L=true) (hs:Sim w0 I0 st a ov w):Sim w0 I0 (renK L m st) a ov w:=by
 obtain ⟨g,hs⟩:=hs
 have hlook:∀ k,(renK L m st).look k=(L[k]?).bind fun i=>(st.look i).map (BC.mapB (CA.ren L)):=fun k=>by
  simp only [renK,ASt.look,nth_eq,List.getElem?_append,pickB_len,pickB_get]
  by_cases hk:k < L.length
  ·rw [if_pos hk,List.getElem?_eq_getElem hk]
   rfl
  ·have hL:L[k]? = none:=List.getElem?_eq_none (by omega)
   rw [if_neg hk,hL,List.getElem?_replicate]
   split <;> rfl
 obtain ⟨g',hg'⟩:∃ g':Gh,g'=⟨g.I,fun k=>g.ρ (nth 0 L k),fun k=>g.β (nth 0 L k),fun k=>g.φ (nth 0 L k),g.O⟩:=⟨_,rfl⟩
 have hat:∀ {k i:Nat},L[k]? = some i→nth 0 L k=i:=fun h=>nth_some h
 have eI:g'.I=g.I:=by rw [hg']
 have eO:g'.O=g.O:=by rw [hg']
 have hlk:∀ {k i:Nat} {b:BC},L[k]? = some i→st.look i=some b→(renK L m st).look k=some (b.mapB (CA.ren L)):=fun {k i b} h1 h2=>by rw [hlook,h1]; simp [h2]
 have inv:∀ {k:Nat} {b:BC},(renK L m st).look k=some b→∃ i b0,L[k]? = some i∧st.look i=some b0∧b=b0.mapB (CA.ren L):=fun {k b} h=>by
  rw [hlook] at h
  cases hk:L[k]? with
  | none=>simp [hk] at h
  | some i =>
   simp only [hk,Option.bind_some] at h
   cases hb:st.look i with
   | none=>simp [hb] at h
   | some b0=>simp only [hb,Option.map_some,Option.some.injEq] at h; exact ⟨i,b0,rfl,hb,h.symm⟩
 have hf:∀ c v,RepC w g st.look c v→RepC w g' (renK L m st).look (c.ren L) v:=by
  intro c v h
  cases c with
  | t x=>exact ⟨by rw [eI]; exact h.1,h.2⟩
  | ptr i off =>
   simp only [CA.ren]
   split
   ·rename_i k hk
    replace hk:L[k]? = some i:=(idxIn_some hk).2
    obtain ⟨cs,h1,h2⟩:=h
    exact ⟨_,hlk hk h1,by rw [hg']; simp only []; rw [hat hk]; exact h2⟩
   ·trivial
  | ref x off =>
   obtain ⟨ad,cell,h1,h3⟩:=h
   exact ⟨ad,cell,h1,fun j c hj=>⟨(h3 j c hj).1.mv (fun _ _=>rfl) (fun b hb=>by rw [eI]; exact hb) eO,(h3 j c hj).2.1,by rw [eI]; exact (h3 j c hj).2.2⟩⟩
  | tptr i r p k j =>
   simp only [CA.ren]
   split
   ·rename_i m hm
    replace hm:L[m]? = some i:=(idxIn_some hm).2
    obtain ⟨xs,x,ad,l,cap,s,n,h1,h2,h3,h4,h5⟩:=h
    refine ⟨xs,x,ad,l,cap,s,n,hlk hm h1,h2,?_,h4,h5⟩
    rw [hg']; simp only []; rw [hat hm]; exact h3
   ·trivial
  | sref i r p =>
   simp only [CA.ren]
   split
   ·rename_i m hm
    replace hm:L[m]? = some i:=(idxIn_some hm).2
    obtain ⟨xs,x,nd,h1,h2,h3,h4⟩:=h
    refine ⟨xs,x,nd,hlk hm h1,h2,?_,h4⟩
    rw [hg']; simp only []; rw [hat hm]; exact h3
   ·trivial
  | swin i r p lo len =>
   simp only [CA.ren]
   split
   ·rename_i m hm
    replace hm:L[m]? = some i:=(idxIn_some hm).2
    obtain ⟨xs,x,u,nd,h1,h2,h3,h4,h5⟩:=h
    refine ⟨xs,x,u,nd,hlk hm h1,h2,?_,h4,h5⟩
    rw [hg']; simp only []; rw [hat hm]; exact h3
   ·trivial
  | aptr i off len n =>
   simp only [CA.ren]
   split
   ·rename_i k hk
    replace hk:L[k]? = some i:=(idxIn_some hk).2
    obtain ⟨cs,h1,h2,h3⟩:=h
    exact ⟨_,hlk hk h1,h2,by rw [hg']; simp only []; rw [hat hk]; exact h3⟩
   ·trivial
  | may i ty =>
   simp only [CA.ren]
   split
   ·rename_i k hk
    replace hk:L[k]? = some i:=(idxIn_some hk).2
    obtain ⟨cs,h1,h2,h3⟩:=h
    refine ⟨_,hlk hk h1,?_,?_⟩
    ·rw [hg']; simp only []; rw [hat hk]; exact h2
    ·rw [hg']; simp only []; rw [hat hk]; exact h3
   ·trivial
  | undef=>exact h
  | junk=>exact h
 have foot:∀ {k b:Nat},Foot g' (renK L m st).look k b→∃ i,L[k]? = some i∧Foot g st.look i b:=by
  rintro k b (⟨cs,h1,h2⟩ | ⟨xs,r,h1,h2,h3⟩)
  ·obtain ⟨i,b0,i1,i2,i3⟩:=inv h1
   refine ⟨i,i1,?_⟩
   rw [hg'] at h2
   simp only [] at h2
   rw [hat i1] at h2
   cases b0 with
   | cells cs0=>exact .inl ⟨cs0,i2,h2⟩
   | tree xs=>simp [BC.mapB] at i3
  ·obtain ⟨i,b0,i1,i2,i3⟩:=inv h1
   refine ⟨i,i1,?_⟩
   rw [hg'] at h3
   simp only [] at h3
   rw [hat i1] at h3
   cases b0 with
   | cells cs0=>simp [BC.mapB] at i3
   | tree xs0=>simp only [BC.mapB,BC.tree.injEq] at i3; subst i3; exact .inr ⟨xs,r,i2,h2,h3⟩
 refine ⟨g',hs.below,by rw [eI]; exact hs.sub,by rw [eI]; exact hs.lt,by rw [eI]; exact hs.old,by simp only [renK,mapAs_len]; exact hs.len,hs.defers,fun t v hv=>?_,by simp only [renK,mapAs_len]; exact hs.olen,?_,fun k cs hl=>?_,fun k xs hl r x hx=>?_,
  fun k b hb=>?_,fun k k' b hb hb'=>?_,fun k xs r r' b hl h1 h2 h3 h4=>?_,fun b hb=>hb.elim,hs.base,by rw [eO]; exact hs.out⟩
 ·exact slots_map (w':=w) (g':=g') (st':=renK L m st) hf (fun _ _=>rfl) (fun b hb=>by rw [eI]; exact hb) (l:=st.slots) (vs:=fun t=>a.tmps.getD t undef) hs.slots t v hv
 ·exact slots_map (w':=w) (g':=g') (st':=renK L m st) hf (fun _ _=>rfl) (fun b hb=>by rw [eI]; exact hb) (l:=st.out) (vs:=fun t=>ov.getD t undef) hs.outs
 ·obtain ⟨i,b0,i1,i2,i3⟩:=inv hl
  cases b0 with
  | tree xs=>simp [BC.mapB] at i3
  | cells cs0 =>
   simp only [BC.mapB,BC.cells.injEq] at i3
   subst i3
   obtain ⟨vs,ty,c1,c2⟩:=hs.cells i cs0 i2
   refine ⟨vs,ty,?_,c2.mapC hf⟩
   rw [hg']; simp only []; rw [hat i1]; exact c1
 ·obtain ⟨i,b0,i1,i2,i3⟩:=inv hl
  cases b0 with
  | cells cs0=>simp [BC.mapB] at i3
  | tree xs0 =>
   simp only [BC.mapB,BC.tree.injEq] at i3
   subst i3
   have:=hs.trees i xs i2 r x hx
   rw [hg']; simp only []; rw [hat i1]; exact this
 ·obtain ⟨i,i1,i2⟩:=foot hb
  rw [eI]
  exact hs.foot i b i2
 ·obtain ⟨i,i1,i2⟩:=foot hb
  obtain ⟨j,j1,j2⟩:=foot hb'
  have:=hs.apart i j b i2 j2
  subst this
  exact nodupB_inj hn k k' i i1 j1
 ·obtain ⟨i,b0,i1,i2,i3⟩:=inv hl
  cases b0 with
  | cells cs0=>simp [BC.mapB] at i3
  | tree xs0 =>
   simp only [BC.mapB,BC.tree.injEq] at i3
   subst i3
   rw [hg'] at h3 h4
   simp only [] at h3 h4
   rw [hat i1] at h3 h4
   exact hs.apartR i xs r r' b i2 h1 h2 h3 h4
theorem canonK_goes {m:Nat} {k:ASt→Prg T} {r:T} (hs:Sim w0 I0 st a ov w) (h:(canonK m st k).goes C J r):∃ st2,(k st2).goes C J r∧Sim w0 I0 st2 a ov w:=by
 unfold canonK at h
 simp only [forceS_eq,fNs_eq] at h
 cases hc:nodupB (canonL st) && (canonL st).length.ble canonN && canonN.ble st.boxes.length with
 | false=>rw [hc] at h; exact h.elim
 | true =>
  rw [hc] at h
  simp only [Bool.and_eq_true] at hc
  exact ⟨_,h,renK_sound hc.1.1 hs⟩
theorem back_sound (hT:∀ t d,E.T t=some d→TyOk P t d) {f:FuncId} {fn:Func} {nt:Nat} {d:Option Tmp} {K:ASt→Prg T} {e:AEx} {a0:Act} {r:T} (hs:Sim w0 I0 st a (ov ++ a0.tmps.toList) w) (hnt:a0.tmps.size=nt) (hd:a0.defers=[])
  (h:(backQ E f fn nt d K e st).goes C J r):(e=.normal∨e=.ret)∧a.defers=[]∧∃ v,(results fn a.tmps).run P w=.ok v w∧∃ st2,(K st2).goes C J r∧Sim w0 I0 st2 (a0.put d v) ov w:=by
 have he:e=.normal∨e=.ret:=by
  cases e with
  | normal=>exact .inl rfl
  | ret=>exact .inr rfl
  | exit i=>exact h.elim
 obtain ⟨g,hs⟩:=hs
 refine ⟨he,hs.defers,?_⟩
 have h:(match resAVs E.T st fn.results.toList,tysOf E.T (E.rts f) with
  | some vs, some ds => bif nt.ble st.out.length then backAV ds vs fun v =>
    canonK fn.ntmps (ASt.put ⟨st.out.drop (st.out.length - nt),st.boxes,st.out.take (st.out.length - nt)⟩ d v) K else .fail
  | _,_=>.fail).goes C J r:=by rcases he with rfl | rfl <;> exact h
 split at h
 ·rename_i avs ds hav hds
  cases hle:nt.ble st.out.length with
  | false=>rw [hle] at h; exact h.elim
  | true =>
   rw [hle] at h
   simp only [cond_true] at h
   obtain ⟨us,hrun,hreps⟩:=resAVs_sound (P:=P) hT hs _ _ hav
   have hm:(results fn a.tmps).run P w=.ok (if h:us.toArray.size=1 then us.toArray[0] else .tuple us.toArray) w:=by
    rw [results_eq,Array.mapM_eq_mapM_toList,← bind_pure_comp]
    simp only [Sem.run_bind,hrun,Result.andThen_ok,Sem.run_pure]
   have hol:=hs.olen
   simp only [List.length_append,Array.length_toList,hnt] at hol
   have hk:st.out.length - nt=ov.length:=by omega
   rw [hk] at h
   have hc:SimI w0 I0 NoR g ⟨st.out.drop ov.length,st.boxes,st.out.take ov.length⟩ a0 ov w:=by
    refine ⟨hs.below,hs.sub,hs.lt,hs.old,by simp; omega,hd,fun t v hv=>?_,by simp; omega,fun t v hv=>?_,hs.cells,hs.trees,hs.foot,hs.apart,hs.apartR,hs.res,hs.base,hs.out⟩
    ·simp only [List.getElem?_drop] at hv
     have:=hs.outs (ov.length + t) v hv
     have e1:(ov ++ a0.tmps.toList).getD (ov.length + t) undef=a0.tmps.getD t undef:=by
      rw [List.getD_eq_getElem?_getD,List.getElem?_append_right (by omega),Nat.add_sub_cancel_left,Array.getElem?_toList,Array.getD_eq_getD_getElem?]
     rw [e1] at this
     exact this
    ·have ht:t < ov.length:=by
      have:=(List.getElem?_eq_some_iff.1 hv).1
      simp at this
      omega
     rw [List.getElem?_take_of_lt ht] at hv
     have:=hs.outs t v hv
     have e1:(ov ++ a0.tmps.toList).getD t undef=ov.getD t undef:=by
      rw [List.getD_eq_getElem?_getD,List.getElem?_append_left ht,List.getD_eq_getElem?_getD]
     rw [e1] at this
     exact this
   have fin:∀ (v:AV) (u:Value),RepA w g st.look v u→(canonK fn.ntmps (ASt.put ⟨st.out.drop ov.length,st.boxes,st.out.take ov.length⟩ d v) K).goes C J r→∃ st2,(K st2).goes C J r∧Sim w0 I0 st2 (a0.put d u) ov w :=
    fun v u hv hk=>canonK_goes ⟨g,hc.put d hv⟩ hk
   have hul:=hreps.len
   have many:us.length≠1→(tupRes ds avs fun l=>canonK fn.ntmps (ASt.put ⟨st.out.drop ov.length,st.boxes,st.out.take ov.length⟩ d (.tups l)) K).goes C J r →
     ∃ v,(results fn a.tmps).run P w=.ok v w∧∃ st2,(K st2).goes C J r∧Sim w0 I0 st2 (a0.put d v) ov w:=by
    intro hne hk
    obtain ⟨l,h1,h2,h3⟩:=tupRes_goes hreps hk
    refine ⟨.tuple us.toArray,by rw [hm,dif_neg (by simpa using hne)],fin (.tups l) _ ⟨us.toArray,rfl,by simp [h2],fun j b c hj=>?_⟩ h1⟩
    have:=h3 j b c hj
    rwa [show us.toArray.getD j undef=us.getD j undef by simp [List.getD_eq_getElem?_getD]]
   match avs,hreps,hul,h,many with
   | [],hreps,hul,h,many=>exact many (by simp at hul; simp [hul]) h
   | v :: v2 :: l,hreps,hul,h,many=>exact many (by simp at hul; omega) h
   | [v],hreps,hul,h,many =>
    match us,hreps,hul,hm with
    | [u],hreps,_,hm=>exact ⟨u,by simpa using hm,fin v u hreps.1 h⟩
 ·exact h.elim
theorem open_sim (hs:Sim w0 I0 st a ov w) {ntmps:Nat} {vs:List AV} {vals:Array Value} (hle:vs.length≤ntmps) (hsz:vals.size=vs.length)
  (ks:Option (List Nat)) (hreps:∀ g,SimI w0 I0 (fun _=>False) g st a ov w→∀ (j:Nat) (v:AV),vs[j]? = some v→RepA w g st.look v (vals.getD j undef)) :
  Sim w0 I0 (openSt ntmps vs (putAside ks st)) { tmps:=vals ++ Array.replicate (ntmps - vals.size) undef,defers:=[] } (ov ++ a.tmps.toList) w:=by
 obtain ⟨g,hs⟩:=hs
 have hreps:=hreps g hs
 replace hs:SimI w0 I0 (fun _=>False) g (putAside ks st) a ov w:=by
  cases ks with
  | none=>exact hs
  | some ks=>exact keep_simI hs
 have hlk0:(putAside ks st).look=st.look:=by cases ks <;> rfl
 rw [← hlk0] at hreps
 generalize putAside ks st=st at hs hreps ⊢
 have hlk:(openSt ntmps vs st).look=st.look:=by
  funext i
  simp only [openSt,ASt.look,nth_eq]
  by_cases h:i < st.boxes.length
  ·rw [List.getElem?_append_left h]
  ·rw [List.getElem?_append_right (by omega),List.getElem?_eq_none (l:=st.boxes) (by omega),List.getElem?_replicate]
   split <;> rfl
 refine ⟨g,hs.below,hs.sub,hs.lt,hs.old,by simp [openSt,hsz],rfl,fun t v hv=>?_,?_,fun t v hv=>?_,by rw [hlk]; exact hs.cells,by rw [hlk]; exact hs.trees,by rw [hlk]; exact hs.foot,by rw [hlk]; exact hs.apart,by rw [hlk]; exact hs.apartR,hs.res,hs.base,hs.out⟩
 ·rw [hlk]
  simp only [openSt,List.getElem?_append] at hv
  by_cases ht:t < vs.length
  ·simp only [ht,if_true] at hv
   have:=hreps t v hv
   have hg:(vals ++ Array.replicate (ntmps - vals.size) undef).getD t undef=vals.getD t undef:=by
    have:t < vals.size:=by omega
    rw [Array.getD_eq_getD_getElem?,Array.getElem?_append_left this,← Array.getD_eq_getD_getElem?]
   show RepA w g st.look v ((vals ++ Array.replicate (ntmps - vals.size) undef).getD t undef)
   rw [hg]
   exact this
  ·simp only [ht,if_false,List.getElem?_replicate] at hv
   split at hv
   ·simp only [Option.some.injEq] at hv
    subst hv
    show (vals ++ Array.replicate (ntmps - vals.size) undef).getD t undef=undef
    rw [Array.getD_eq_getD_getElem?,Array.getElem?_append_right (by omega),Array.getElem?_replicate]
    split <;> rfl
   ·cases hv
 ·simp [openSt,hs.olen,hs.len]
 ·rw [hlk]
  simp only [openSt,List.getElem?_append] at hv
  have hol:=hs.olen
  by_cases ht:t < st.out.length
  ·simp only [ht,if_true] at hv
   have:=hs.outs t v hv
   rwa [show (ov ++ a.tmps.toList).getD t undef=ov.getD t undef by rw [List.getD_eq_getElem?_getD,List.getElem?_append_left (by omega),List.getD_eq_getElem?_getD]]
  ·simp only [ht,if_false] at hv
   have:=hs.slots (t - st.out.length) v hv
   rwa [show (ov ++ a.tmps.toList).getD t undef=a.tmps.getD (t - st.out.length) undef by
    rw [List.getD_eq_getElem?_getD,List.getElem?_append_right (by omega),Array.getElem?_toList,Array.getD_eq_getD_getElem?,hol]]
end
def restWp (P:Program) (ops:Array Oper) (draw:Bool) (Q:Exit→Act→World→Prop) (j:Nat) (a:Act) (w:World):Prop :=
 match draw with
 | false=>wpOps P ops Q (List.range' j (ops.size - j)) a w
 | true=>wpAny P .any ops Q (ops.size - j) (upTo ops.size j) a w
def openPost (P:Program) (fn:Func) (ops:Array Oper) (draw:Bool) (Q:Exit→Act→World→Prop) (j:Nat) (o:Oper) (a0:Act):Exit→Act→World→Prop :=
 bodyPost P fn fun e w'=>∃ v,e=.returned v∧restWp P ops draw Q (j + 1) (a0.put o.dst v) w'
inductive At (P:Program) (L:Opn) (body:Code) (Q0:Exit→Act→World→Prop) (ov0:List Value) (nt0:Nat):List Nat→Code→(Exit→Act→World→Prop)→List Value→Nat→Prop
 | top:At P L body Q0 ov0 nt0 [] body Q0 ov0 nt0
 | seq0 {rp a b Q ov nt}:At P L body Q0 ov0 nt0 rp (.seq a b) Q ov nt→At P L body Q0 ov0 nt0 (0 :: rp) a (Exit.then (b.wp P Q) Q) ov nt
 | seq1 {rp a b Q ov nt}:At P L body Q0 ov0 nt0 rp (.seq a b) Q ov nt→At P L body Q0 ov0 nt0 (1 :: rp) b Q ov nt
 | cond0 {rp c a b Q ov nt}:At P L body Q0 ov0 nt0 rp (.cond c a b) Q ov nt→At P L body Q0 ov0 nt0 (0 :: rp) a Q ov nt
 | cond1 {rp c a b Q ov nt}:At P L body Q0 ov0 nt0 rp (.cond c a b) Q ov nt→At P L body Q0 ov0 nt0 (1 :: rp) b Q ov nt
 | block {rp id c Q ov nt}:At P L body Q0 ov0 nt0 rp (.block id c) Q ov nt→At P L body Q0 ov0 nt0 (0 :: rp) c (Exit.inBlock id Q) ov nt
 | loop {rp c Q ov nt}:At P L body Q0 ov0 nt0 rp (.loop c) Q ov nt→At P L body Q0 ov0 nt0 (0 :: rp) c (Exit.then (turns P c Q) Q) ov nt
 | opn {rp id ops draw Q ov nt y o f fn} (a0 : Act) : At P L body Q0 ov0 nt0 rp (.region id ops draw) Q ov nt → ops[y % 1000]? = some o → openP L y o.op = some (f, fn) → a0.tmps.size = nt → a0.defers = [] →
   At P L body Q0 ov0 nt0 ((y + 2) :: rp) (bodyOf fn) (openPost P fn ops draw Q (y % 1000) o a0) (ov ++ a0.tmps.toList) fn.ntmps
inductive AtF (P:Program) (L:Opn):List Nat→Code→(Exit→Act→World→Prop)→List Value→Nat→Code→(Exit→Act→World→Prop)→List Value→Nat→Prop
 | here {c Q ov nt}:AtF P L [] c Q ov nt c Q ov nt
 | seq0 {p a b Q ov nt c' Q' ov' nt'}:AtF P L p a (Exit.then (b.wp P Q) Q) ov nt c' Q' ov' nt'→AtF P L (0 :: p) (.seq a b) Q ov nt c' Q' ov' nt'
 | seq1 {p a b Q ov nt c' Q' ov' nt'}:AtF P L p b Q ov nt c' Q' ov' nt'→AtF P L (1 :: p) (.seq a b) Q ov nt c' Q' ov' nt'
 | cond0 {p c a b Q ov nt c' Q' ov' nt'}:AtF P L p a Q ov nt c' Q' ov' nt'→AtF P L (0 :: p) (.cond c a b) Q ov nt c' Q' ov' nt'
 | cond1 {p c a b Q ov nt c' Q' ov' nt'}:AtF P L p b Q ov nt c' Q' ov' nt'→AtF P L (1 :: p) (.cond c a b) Q ov nt c' Q' ov' nt'
 | block {p id c Q ov nt c' Q' ov' nt'}:AtF P L p c (Exit.inBlock id Q) ov nt c' Q' ov' nt'→AtF P L (0 :: p) (.block id c) Q ov nt c' Q' ov' nt'
 | loop {p c Q ov nt c' Q' ov' nt'}:AtF P L p c (Exit.then (turns P c Q) Q) ov nt c' Q' ov' nt'→AtF P L (0 :: p) (.loop c) Q ov nt c' Q' ov' nt'
 | opn {p id ops draw Q ov nt y o f fn c' Q' ov' nt'} (a0 : Act) : ops[y % 1000]? = some o → openP L y o.op = some (f, fn) → a0.tmps.size = nt → a0.defers = [] →
   AtF P L p (bodyOf fn) (openPost P fn ops draw Q (y % 1000) o a0) (ov ++ a0.tmps.toList) fn.ntmps c' Q' ov' nt'→AtF P L ((y + 2) :: p) (.region id ops draw) Q ov nt c' Q' ov' nt'
theorem AtF.trans {P:Program} {L:Opn} {p q:List Nat} {c c1 c2:Code} {Q Q1 Q2:Exit→Act→World→Prop} {ov ov1 ov2:List Value} {nt nt1 nt2:Nat} (h:AtF P L p c Q ov nt c1 Q1 ov1 nt1) (h':AtF P L q c1 Q1 ov1 nt1 c2 Q2 ov2 nt2):AtF P L (p ++ q) c Q ov nt c2 Q2 ov2 nt2:=by
 induction h with
 | here=>exact h'
 | seq0 _ ih=>exact .seq0 (ih h')
 | seq1 _ ih=>exact .seq1 (ih h')
 | cond0 _ ih=>exact .cond0 (ih h')
 | cond1 _ ih=>exact .cond1 (ih h')
 | block _ ih=>exact .block (ih h')
 | loop _ ih=>exact .loop (ih h')
 | opn a0 h1 h2 h3 h4 _ ih=>exact .opn a0 h1 h2 h3 h4 (ih h')
theorem At.toF {P:Program} {L:Opn} {body:Code} {Q0:Exit→Act→World→Prop} {ov0:List Value} {nt0:Nat} {rp:List Nat} {c:Code} {Q:Exit→Act→World→Prop} {ov:List Value} {nt:Nat} (h:At P L body Q0 ov0 nt0 rp c Q ov nt):AtF P L rp.reverse body Q0 ov0 nt0 c Q ov nt:=by
 induction h with
 | top=>exact .here
 | seq0 _ ih=>rw [List.reverse_cons]; exact ih.trans (.seq0 .here)
 | seq1 _ ih=>rw [List.reverse_cons]; exact ih.trans (.seq1 .here)
 | cond0 _ ih=>rw [List.reverse_cons]; exact ih.trans (.cond0 .here)
 | cond1 _ ih=>rw [List.reverse_cons]; exact ih.trans (.cond1 .here)
 | block _ ih=>rw [List.reverse_cons]; exact ih.trans (.block .here)
 | loop _ ih=>rw [List.reverse_cons]; exact ih.trans (.loop .here)
 | opn a0 _ h1 h2 h3 h4 ih=>rw [List.reverse_cons]; exact ih.trans (.opn a0 h1 h2 h3 h4 .here)
def OpnOk (P : Program) (L : Opn) : Prop := ∀ f fn, L.fns f = some fn → P.funcs[f]? = some fn ∧ (fn.name == "runtime.NumGoroutine") = false ∧ fn.body.isSome = true
section
variable {P:Program} {E:Env} {C:Cal} {w0:Bs} {I0:Nat→Prop} {R:Type} {J:List Nat→ASt→R→Prop} {r:R} {L:Opn} {body:Code} {Q0:Exit→Act→World→Prop} {ov0:List Value} {nt0:Nat}
abbrev JOk (P:Program) (L:Opn) (w0:Bs) (I0:Nat→Prop) (body:Code) (Q0:Exit→Act→World→Prop) (ov0:List Value) (nt0:Nat) (J:List Nat→ASt→R→Prop) (r:R):Prop :=
 ∀ rp c Q ov nt st a w,At P L body Q0 ov0 nt0 rp c Q ov nt→J rp st r→Sim w0 I0 st a ov w→c.wp P Q a w
abbrev RegOk (P:Program) (E:Env) (C:Cal) (L:Opn) (w0:Bs) (I0:Nat→Prop) (body:Code) (Q0:Exit→Act→World→Prop) (ov0:List Value) (nt0:Nat) (J:List Nat→ASt→R→Prop) (r:R) (n:Nat):Prop :=
 ∀ (kp:Nat→Option (List Nat)) rp id ops draw (K:ASt→Prg R) Q ov nt st a w,At P L body Q0 ov0 nt0 rp (.region id ops draw) Q ov nt→(regQ E L n nt kp id rp ops.toList draw K st).goes C J r→Sim w0 I0 st a ov w →
  (∀ st' a w,(K st').goes C J r→Sim w0 I0 st' a ov w→Q .normal a w)→(Code.region id ops draw).wp P Q a w
theorem code_sound {n:Nat} (hR:RegOk P E C L w0 I0 body Q0 ov0 nt0 J r n) (hJ:JOk P L w0 I0 body Q0 ov0 nt0 J r) {ann jn:Nat→Option Ann} {kp:Nat→Option (List Nat)} {ov:List Value} {nt:Nat}:∀ (c:Code) (rp:List Nat) (K:AEx→ASt→Prg R) (Q:Exit→Act→World→Prop) (st:ASt) (a:Act) (w:World),At P L body Q0 ov0 nt0 rp c Q ov nt →
  (codeQ E (regQ E L n nt kp) ann jn rp c K st).goes C J r→Sim w0 I0 st a ov w→(∀ e st' a w,(K e st').goes C J r→Sim w0 I0 st' a ov w→Q (exitOf e) a w)→c.wp P Q a w
 | .skip,rp,K,Q,st,a,w,hat,h,hs,hQ=>wp_skip (hQ .normal st a w h hs)
 | .region id ops draw,rp,K,Q,st,a,w,hat,h,hs,hQ=>hR kp rp id ops draw _ Q ov nt st a w hat h hs (fun st' a w hk hs'=>hQ .normal st' a w hk hs')
 | .seq x y, rp, K, Q, st, a, w, hat, h, hs, hQ => by
  refine wp_seq (code_sound hR hJ x (0 :: rp) _ _ st a w hat.seq0 h hs (fun e st' a' w' hk hs'=>?_))
  cases e with
  | normal =>
   simp only [thenQ] at hk
   cases han:annAt jn y with
   | none =>
    rw [han] at hk
    exact code_sound hR hJ y (1 :: rp) K Q st' a' w' hat.seq1 hk hs' hQ
   | some an =>
    rw [han] at hk
    obtain ⟨st2,h2,hs2⟩:=norm_sound hs' hk
    exact hJ (1 :: rp) y Q _ _ st2 a' w' hat.seq1 h2 hs2
  | ret=>exact hQ .ret st' a' w' hk hs'
  | exit id=>exact hQ (.exit id) st' a' w' hk hs'
 | .cond c x y, rp, K, Q, st, a, w, hat, h, hs, hQ => by
  simp only [codeQ] at h
  have hev:RepA w hs.choose st.look (st.ev c) (a.eval c):=hs.choose_spec.ev c
  split at h
  ·rename_i v hv
   rw [hv] at hev
   have hcv:a.eval c=.bool v:=hev
   refine wp_cond hcv ?_
   cases v with
   | true=>exact code_sound hR hJ x (0 :: rp) K Q st a w hat.cond0 h hs hQ
   | false=>exact code_sound hR hJ y (1 :: rp) K Q st a w hat.cond1 h hs hQ
  ·split at h
   ·rename_i v hv
    obtain ⟨b,hb,h⟩:=h
    have:=asBool_some hb
    subst this
    have hcv:a.eval c=.bool b:=rep_lit (tv_rep hev hv)
    refine wp_cond hcv ?_
    rcases h with ⟨rfl,h⟩ | ⟨rfl,h⟩
    ·exact code_sound hR hJ x (0 :: rp) K Q st a w hat.cond0 h hs hQ
    ·exact code_sound hR hJ y (1 :: rp) K Q st a w hat.cond1 h hs hQ
   ·exact h.elim
 | .block id c, rp, K, Q, st, a, w, hat, h, hs, hQ => by
  refine wp_block (code_sound hR hJ c (0 :: rp) _ _ st a w hat.block h hs (fun e st' a' w' hk hs'=>?_))
  cases e with
  | normal=>exact hQ .normal st' a' w' hk hs'
  | ret=>exact hQ .ret st' a' w' hk hs'
  | exit i =>
   simp only [blockQ] at hk
   simp only [exitOf,Exit.inBlock]
   cases hb:i.beq id with
   | true =>
    simp only [hb,cond_true] at hk
    rw [if_pos ((beq_iff _ _).1 hb)]
    exact hQ .normal st' a' w' hk hs'
   | false =>
    simp only [hb,cond_false] at hk
    rw [if_neg (fun e=>by subst e; simp at hb)]
    exact hQ (.exit i) st' a' w' hk hs'
 | .loop c, rp, K, Q, st, a, w, hat, h, hs, hQ => by
  simp only [codeQ,headQ] at h
  cases han:annAt ann c with
  | none=>rw [han] at h; exact h.elim
  | some an =>
   rw [han] at h
   obtain ⟨st2,h2,hs2⟩:=norm_sound hs h
   exact loop_of_turns (turns_of (hJ (0 :: rp) c _ _ _ st2 a w hat.loop h2 hs2))
 | .exit id,rp,K,Q,st,a,w,hat,h,hs,hQ=>wp_exit (hQ (.exit id) st a w h hs)
 | .ret,rp,K,Q,st,a,w,hat,h,hs,hQ=>wp_ret (hQ .ret st a w h hs)
 | .rangeFunc _ _ _ _,rp,K,Q,st,a,w,hat,h,hs,hQ=>h.elim
 | .scope _,rp,K,Q,st,a,w,hat,h,hs,hQ=>h.elim
 | .label _,rp,K,Q,st,a,w,hat,h,hs,hQ=>h.elim
 | .goto _,rp,K,Q,st,a,w,hat,h,hs,hQ=>h.elim
 | .refuse _,rp,K,Q,st,a,w,hat,h,hs,hQ=>h.elim
theorem cloOf_some {v:AV} {f:FuncId} {cs:List CA} (h:v.cloOf=some (f,cs)):v=.clo f cs:=by
 cases v <;> simp [AV.cloOf] at h
 obtain ⟨rfl,rfl⟩:=h
 rfl
theorem openF_some {st:ASt} {j y:Nat} {o:Op} {f:FuncId} {fn:Func} {cap:List CA} (h:openF L st j o=some (y,f,fn,cap)):L.fns f=some fn ∧
  ((∃ args tys,o=.call ⟨.value (.func f),args,tys⟩∧y=j∧cap=[])∨∃ t args tys,o=.call ⟨.value (.tmp t),args,tys⟩∧y=(f + 1) * 1000 + j∧nth (.one .junk) st.slots t=.clo f cap):=by
 unfold openF at h
 split at h
 ·rename_i f' args tys
  split at h
  ·rename_i fn' hf
   simp only [Option.some.injEq,Prod.mk.injEq] at h
   obtain ⟨rfl,rfl,rfl,rfl⟩:=h
   exact ⟨hf,.inl ⟨args,tys,rfl,rfl,rfl⟩⟩
  ·cases h
 ·rename_i t args tys
  split at h
  ·rename_i f' cs hv
   split at h
   ·rename_i fn' hf
    simp only [Option.some.injEq,Prod.mk.injEq] at h
    obtain ⟨rfl,rfl,rfl,rfl⟩:=h
    exact ⟨hf,.inr ⟨t,args,tys,rfl,rfl,cloOf_some hv⟩⟩
   ·cases h
  ·cases h
 ·cases h
theorem openF_at {st:ASt} {j y:Nat} {o:Op} {f:FuncId} {fn:Func} {cap:List CA} (h:openF L st j o=some (y,f,fn,cap)) (hj:j < 1000):y % 1000=j∧openP L y o=some (f,fn):=by
 obtain ⟨hf,⟨args,tys,rfl,rfl,_⟩ | ⟨t,args,tys,rfl,rfl,_⟩⟩:=openF_some h
 ·refine ⟨Nat.mod_eq_of_lt hj,?_⟩
  simp only [openP,hf,blt_t hj,cond_true]
 ·refine ⟨by rw [Nat.add_comm,Nat.add_mul_mod_self_right]; exact Nat.mod_eq_of_lt hj,?_⟩
  have:((f + 1) * 1000 + j) / 1000=f + 1:=by rw [Nat.add_comm,Nat.add_mul_div_right _ _ (by decide),Nat.div_eq_of_lt hj,Nat.zero_add]
  simp only [openP,this,hf]
theorem enter_sound (hE:EnvOk P w0.G E C) (hL:OpnOk P L) {n:Nat} (hR:RegOk P E C L w0 I0 body Q0 ov0 nt0 J r n) (hJ:JOk P L w0 I0 body Q0 ov0 nt0 J r) {kp:Nat→Option (List Nat)} {rp:List Nat} {id:Nat} {ops:Array Oper} {draw:Bool} {Q:Exit→Act→World→Prop} {ov:List Value} {nt:Nat}
  (hat:At P L body Q0 ov0 nt0 rp (.region id ops draw) Q ov nt) {j y:Nat} {o:Oper} (ho:ops[j]? = some o) {f:FuncId} {fn:Func} {cap:List CA} {K:ASt→Prg R} {st:ASt} {a:Act} {w:World} (hof:openF L st j o.op=some (y,f,fn,cap))
  (h:(enterQ E L (regQ E L n) nt kp id rp j y o f fn cap K st).goes C J r) (hs:Sim w0 I0 st a ov w) (hK:∀ st' a' w',(K st').goes C J r→Sim w0 I0 st' a' ov w'→restWp P ops draw Q (j + 1) a' w') :
  wpOp P ops Q j (restWp P ops draw Q (j + 1)) a w:=by
 obtain ⟨hfn,hcal⟩:=openF_some hof
 obtain ⟨h1,h2,h3⟩:=hL f fn hfn
 have hcal:∃ (c:Operand) (args:Array Operand) (tys:Array TypeId) (cv:Array Value),o.op=.call ⟨.value c,args,tys⟩∧a.eval c=.func (.func f) #[] cv∧cv.size=cap.length ∧
   ∀ g,SimI w0 I0 (fun _=>False) g st a ov w→∀ (k:Nat) (c:CA),cap[k]? = some c→RepC w g st.look c (cv.getD k undef):=by
  rcases hcal with ⟨args,tys,hop,_,rfl⟩ | ⟨t,args,tys,hop,_,hv⟩
  ·exact ⟨.func f,args,tys,#[],hop,rfl,rfl,fun g hs k c hc=>by simp at hc⟩
  ·have key:∀ g,SimI w0 I0 (fun _=>False) g st a ov w→RepA w g st.look (.clo f cap) (a.eval (.tmp t)):=fun g hs=>by
    have:=hs.ev (.tmp t)
    rwa [show st.ev (.tmp t)=.clo f cap from hv] at this
   obtain ⟨g0,hs0⟩:=hs
   obtain ⟨cv,h1,h2⟩:=key g0 hs0
   refine ⟨.tmp t,args,tys,cv,hop,h1,by simpa using h2.1,fun g hs k c hc=>?_⟩
   obtain ⟨cv',h1',h2'⟩:=key g hs
   rw [h1] at h1'
   simp only [Value.func.injEq,true_and] at h1'
   subst h1'
   have hk:k < cv.size:=by
    have:=(List.getElem?_eq_some_iff.1 hc).1
    have:=h2'.1
    simp at this
    omega
   have:=(h2'.2 k c cv[k] hc (by simp [hk])).1
   rwa [Array.getD_eq_getD_getElem?,Array.getElem?_eq_getElem hk]
 obtain ⟨c,args,tys,cv,hop,hev,hcv,hcap⟩:=hcal
 unfold enterQ at h
 split at h
 ·rename_i x xs hg hops
  have hxs:xs=args.toList:=by
   rw [hop] at hops
   simp [Op.operands,Call.operands] at hops
   exact hops.2.symm
  subst hxs
  cases hle:args.toList.length.beq fn.params.size && (args.toList.length + cap.length).ble fn.ntmps && (st.slots.length.beq nt && j.blt 1000) with
  | false=>rw [hle] at h; exact h.elim
  | true =>
   rw [hle] at h
   simp only [cond_true,forceS_eq] at h
   simp only [Bool.and_eq_true,Nat.ble_eq,beq_iff] at hle
   obtain ⟨⟨hl1,hl2⟩,hl3,hj1⟩:=hle
   have hj1:j < 1000:=lt_of_blt hj1
   obtain ⟨hyj,hop2⟩:=openF_at hof hj1
   obtain ⟨c',hb⟩:∃ c,fn.body=some c:=by
    cases hb:fn.body with
    | none=>rw [hb] at h3; cases h3
    | some c=>exact ⟨c,rfl⟩
   have hbo:bodyOf fn=c':=by simp [bodyOf,hb]
   have hlen:a.tmps.size=nt:=by obtain ⟨g,hs⟩:=hs; rw [hs.len,hl3]
   have hdef:a.defers=[]:=by obtain ⟨g,hs⟩:=hs; exact hs.defers
   have hcf:(callFunc f (args.map a.eval ++ cv)).run P w=.ok (.enter f (args.map a.eval ++ cv)) w:=by
    simp only [callFunc,Sem.run_bind,run_program,Result.andThen_ok,h1,h2,hb]
    simp
   have hrun:(execOp a.eval o).run P w=.ok (.enter f (args.map a.eval ++ cv)) w:=by
    obtain ⟨dst,op,type,pos,after,guard⟩:=o
    simp only at hop
    subst hop
    simp only [execOp,resolve,hev,Deferred.ofValue,Sem.run_bind,Sem.run_pure,Result.andThen_ok,invoke]
    simpa using hcf
   have hsim:=open_sim (ntmps:=fn.ntmps) (vs:=args.toList.map st.ev ++ cap.map AV.one) (vals:=args.map a.eval ++ cv) hs (by simpa using hl2) (by simp [hcv]) (kp (keyAt id j)) (fun g hs j v hv=>by
    rcases Nat.lt_or_ge j args.size with hja | hja
    ·rw [List.getElem?_append_left (by simpa using hja),List.getElem?_map] at hv
     cases hj:args.toList[j]? with
     | none=>rw [hj] at hv; cases hv
     | some x =>
      rw [hj] at hv
      simp only [Option.map_some,Option.some.injEq] at hv
      subst hv
      have:(args.map a.eval ++ cv).getD j undef=a.eval x:=by
       rw [Array.getElem?_toList] at hj
       rw [Array.getD_eq_getD_getElem?,Array.getElem?_append_left (by simpa using hja),Array.getElem?_map,hj]; rfl
      rw [this]
      exact hs.ev x
    ·rw [List.getElem?_append_right (by simpa using hja),List.getElem?_map] at hv
     simp only [List.length_map,Array.length_toList] at hv
     cases hj:cap[j - args.size]? with
     | none=>rw [hj] at hv; cases hv
     | some x =>
      rw [hj] at hv
      simp only [Option.map_some,Option.some.injEq] at hv
      subst hv
      have:(args.map a.eval ++ cv).getD j undef=cv.getD (j - args.size) undef:=by
       rw [Array.getD_eq_getD_getElem?,Array.getElem?_append_right (by simpa using hja),Array.getD_eq_getD_getElem?]
       simp
      rw [this]
      exact hcap g hs _ x hj)
   have hat2:=hat.opn (y:=y) a (by rw [hyj]; exact ho) hop2 hlen hdef
   rw [hyj] at hat2
   have hwp:=code_sound hR hJ (bodyOf fn) ((y + 2) :: rp) _ _ _ _ _ hat2 h hsim (fun e st' a' w' hk hs'=>by
    obtain ⟨he,hd,v,hres,st2,hk2,hs2⟩:=back_sound hE.1 hs' hlen hdef hk
    have:a'.defers=[]∧∃ v,(results fn a'.tmps).run P w'=.ok v w'∧∃ v',Ending.returned v=.returned v'∧restWp P ops draw Q (j + 1) (a.put o.dst v') w':=⟨hd,v,hres,v,rfl,hK st2 _ w' hk2 hs2⟩
    rcases he with rfl | rfl <;> exact this)
   unfold wpOp
   rw [ho]
   simp only [Region.wanted,hg,if_true]
   refine .inl ?_
   unfold Oper.wp
   rw [hrun]
   simp only [Oper.upon]
   rw [hbo] at hwp
   refine (calls_of_wp h1 hb hwp).mono ?_
   rintro e w' ⟨v,rfl,hv⟩
   exact hv
 ·exact h.elim
theorem seg_split {reg:RegH R} {nt:Nat} {kp:Nat→Option (List Nat)} {id:Nat} {rp:List Nat} {all:List Oper} {K:ASt→Prg R}:∀ (l:List Oper) (j:Nat) (ex:List (List Nat)) (st:ASt),l=all.drop j→j≤all.length→(segQ E L reg nt kp id rp true all K j l ex st).goes C J r →
  ∃ m mid,j≤m∧m≤all.length∧RunIdx E C ex all (List.range' j (m - j)) st.nfS mid.nfS∧((m=all.length∧(K mid).goes C J r) ∨
   ∃ o y f fn cap,all[m]? = some o∧openF L mid m o.op=some (y,f,fn,cap)∧barAt all m=true∧barAt all (m + 1)=true∧(enterQ E L reg nt kp id rp m y o f fn cap (fun st'=>segQ E L reg nt kp id rp true all K (m + 1) (all.drop (m + 1)) (exOf true st' all) st') mid).goes C J r)
 | [], j, ex, st, hl, hj, h => by
  have:all.length≤j:=by
   have:=congrArg List.length hl
   simp at this
   omega
  have hj':j=all.length:=by omega
  subst hj'
  exact ⟨all.length,st,Nat.le_refl _,Nat.le_refl _,by rw [Nat.sub_self]; exact .nil _,.inl ⟨rfl,h⟩⟩
 | o :: rest, j, ex, st, hl, hj, h => by
  have hjo:all[j]? = some o:=by
   have:(all.drop j)[0]? = some o:=by rw [← hl]; rfl
   simpa using this
  have hjl:j < all.length:=(List.getElem?_eq_some_iff.1 hjo).1
  have hrest:rest=all.drop (j + 1):=by
   have:=congrArg List.tail hl
   simpa using this
  simp only [segQ] at h
  split at h
  ·rename_i y f fn cap hof
   simp only [Bool.not_true,Bool.false_or] at h
   cases hb:barAt all j && barAt all (j + 1) with
   | false=>rw [hb] at h; exact h.elim
   | true =>
    rw [hb] at h
    simp only [cond_true] at h
    simp only [Bool.and_eq_true] at hb
    rw [hrest] at h
    exact ⟨j,st,Nat.le_refl _,hj,by rw [Nat.sub_self]; exact .nil _,.inr ⟨o,y,f,fn,cap,hjo,hof,hb.1,hb.2,h⟩⟩
  ·simp only [forceSt_eq] at h
   obtain ⟨st1,h1,h2⟩:=opQ_goes h
   obtain ⟨m,mid,k1,k2,k3,k4⟩:=seg_split rest (j + 1) ex st1 hrest (by omega) h2
   refine ⟨m,mid,by omega,k2,?_,k4⟩
   rw [show m - j=(m - (j + 1)) + 1 by omega,List.range'_succ]
   exact .cons hjo h1 k3
theorem seg_sound (hE:EnvOk P w0.G E C) (hL:OpnOk P L) {n:Nat} (hR:RegOk P E C L w0 I0 body Q0 ov0 nt0 J r n) (hJ:JOk P L w0 I0 body Q0 ov0 nt0 J r) {kp:Nat→Option (List Nat)} {rp:List Nat} {id:Nat} {ops:Array Oper} {draw:Bool} {Q:Exit→Act→World→Prop} {ov:List Value} {nt:Nat}
  (hat:At P L body Q0 ov0 nt0 rp (.region id ops draw) Q ov nt) (hok:draw=true→drawOk ops.toList=true) {K:ASt→Prg R} (hK:∀ st' a w,(K st').goes C J r→Sim w0 I0 st' a ov w→Q .normal a w) :
  ∀ (d j:Nat) (l:List Oper) (ex:List (List Nat)) (st:ASt) (a:Act) (w:World),l=ops.toList.drop j→j≤ops.size→ops.size - j≤d→(segQ E L (regQ E L n) nt kp id rp draw ops.toList K j l ex st).goes C J r→Sim w0 I0 st a ov w→restWp P ops draw Q j a w:=by
 intro d
 induction d with
 | zero =>
  intro j l ex st a w hl hj hd h hs
  have hjs:j=ops.size:=by omega
  have hl0:l=[]:=by rw [hl,hjs,List.drop_eq_nil_of_le (by simp)]
  subst hl0
  simp only [segQ] at h
  have hq:=hK st a w h hs
  unfold restWp
  cases draw with
  | false=>rw [hjs,Nat.sub_self]; exact hq
  | true =>
   rw [hjs,Nat.sub_self]
   refine ⟨?_,hq⟩
   rw [List.eq_nil_iff_forall_not_mem]
   intro i hi
   rw [mem_ready] at hi
   obtain ⟨h0,o,ho,_⟩:=hi
   have hi2:=(Array.getElem?_eq_some_iff.1 ho).1
   rw [upTo_get hi2,blt_t hi2] at h0
   cases h0
 | succ d ih =>
  intro j l ex st a w hl hj hd h hs
  have hl2:ops.toList.length=ops.size:=by simp
  cases draw with
  | false =>
   cases l with
   | nil =>
    have hjs:j=ops.size:=by
     have:=congrArg List.length hl
     simp at this
     omega
    simp only [segQ] at h
    unfold restWp
    rw [hjs,Nat.sub_self]
    exact hK st a w h hs
   | cons o rest =>
    have hjo:ops[j]? = some o:=by
     have:(ops.toList.drop j)[0]? = some o:=by rw [← hl]; rfl
     simpa using this
    have hjl:j < ops.size:=(Array.getElem?_eq_some_iff.1 hjo).1
    have hrest:rest=ops.toList.drop (j + 1):=by
     have:=congrArg List.tail hl
     simpa using this
    have hstep:wpOp P ops Q j (restWp P ops false Q (j + 1)) a w:=by
     simp only [segQ] at h
     split at h
     ·rename_i y f fn cap hof
      simp only [Bool.not_false,Bool.true_or,cond_true] at h
      exact enter_sound hE hL hR hJ hat hjo hof h hs (fun st' a' w' hk hs'=>ih (j + 1) rest _ st' a' w' hrest (by omega) (by omega) hk hs')
     ·simp only [forceSt_eq] at h
      obtain ⟨st1,h1,h2⟩:=opQ_goes h
      refine wpOp_mono (fun a' w' hs'=>ih (j + 1) rest ex st1 a' w' hrest (by omega) (by omega) h2 (sim_of_nf hs')) (opN_sound hE (i:=itemOf false ex ops.toList j o) hjo (sim_nf hs) h1)
    unfold restWp at hstep ⊢
    rw [show ops.size - j=(ops.size - (j + 1)) + 1 by omega,List.range'_succ,wpOps_cons]
    exact hstep
  | true =>
   obtain ⟨m,mid,k1,k2,k3,k4⟩:=seg_split l j ex st hl (by rw [hl2]; exact hj) h
   rw [hl2] at k2
   have hbar:∀ i,m≤i→i < ops.size→∀ q,q < m→(nth 0 (behind ops.toList) i).testBit q=true:=by
    intro i hi hi2 q hq
    rcases k4 with ⟨k4,_⟩ | ⟨o,y,f,fn,cap,_,_,k4,_⟩
    ·omega
    ·exact bar_at k4 (by rw [hl2]; exact hi2) hi hq
   have key:∀ a w,Sim w0 I0 mid.nfS a ov w→wpAny P .any ops Q (ops.size - m) (upTo ops.size m) a w:=by
    intro a w hs
    rcases k4 with ⟨k4,k5⟩ | ⟨o,y,f,fn,cap,ho,hof,kb1,kb2,k5⟩
    ·have hq:=hK mid a w k5 (sim_of_nf hs)
     rw [k4,hl2,Nat.sub_self]
     refine ⟨?_,hq⟩
     rw [List.eq_nil_iff_forall_not_mem]
     intro i hi
     rw [mem_ready] at hi
     obtain ⟨h0,o,ho,_⟩:=hi
     have hi2:=(Array.getElem?_eq_some_iff.1 ho).1
     rw [upTo_get hi2,blt_t hi2] at h0
     cases h0
    ·have ho':ops[m]? = some o:=by rw [← Array.getElem?_toList]; exact ho
     have hml:m < ops.size:=(Array.getElem?_eq_some_iff.1 ho').1
     rw [show ops.size - m=(ops.size - (m + 1)) + 1 by omega]
     have hcl:∀ (k:Nat) (o:Oper),ops[k]? = some o→(upTo ops.size m).getD k true=true→∀ e ∈ o.after,Region.binds .any e=true→(upTo ops.size m).getD e.on false=true:=by
      intro k o hk hlk e he hb
      have hks:k < ops.size:=(Array.getElem?_eq_some_iff.1 hk).1
      rw [upTo_get hks] at hlk
      have hkm:k < m:=lt_of_blt hlk
      have hlt2:=edgesBelow_spec ((allOk_spec ops.toList 0 (hok rfl) k o (by rw [Array.getElem?_toList]; exact hk)).1) e (by simpa using he) hb
      simp only [Nat.zero_add] at hlt2
      rw [upTo_get (by omega),blt_t (by omega)]
     have hrdy:m ∈ Region.ready .any ops (upTo ops.size m):=ready_of (hok rfl) (upTo_size _ _) hml (by rw [upTo_get hml]; exact blt_f (Nat.le_refl _)) (fun i hi=>by rw [upTo_get (by omega)]; exact blt_t hi)
     refine ⟨fun hr=>(by rw [hr] at hrdy; cases hrdy),fun i hi=>?_⟩
     have him:i=m:=by
      rw [mem_ready] at hi
      obtain ⟨h0,oi,hoi,hedges⟩:=hi
      have hi2:=(Array.getElem?_eq_some_iff.1 hoi).1
      rw [upTo_get hi2] at h0
      have hmi:m≤i:=le_of_blt h0
      rcases Nat.lt_or_ge m i with hlt | hge
      ·exfalso
       have:=ahead_listed (hok rfl) (upTo_size _ _) hcl i oi hoi hedges m (bar_at kb2 (by rw [hl2]; exact hi2) hlt (Nat.lt_succ_self m))
       rw [upTo_get hml,blt_f (Nat.le_refl _)] at this
       cases this
      ·omega
     subst him
     have hnext:(upTo ops.size i).setIfInBounds i true=upTo ops.size (i + 1):=by
      refine listed_eq (by simp [upTo_size]) (fun k hk hk2=>?_) (fun k hk hk2=>?_)
      ·by_cases e:k=i
       ·subst e; simp [upTo_size,hk]
       ·rw [getD_set_ne true (fun h=>e h.symm),upTo_get hk,blt_t (by omega)]
      ·rw [getD_set_ne true (by omega),upTo_get hk,blt_f (by omega)]
     rw [hnext]
     exact enter_sound hE hL hR hJ hat ho' hof k5 (sim_of_nf hs) (fun st' a' w' hk hs'=>ih (i + 1) _ _ st' a' w' rfl (by omega) (by omega) hk hs')
   have:=draw_bar (ex:=ex) hE (hok rfl) k1 k2 hbar (fe:=ops.size - m) key k3 (sim_nf hs)
   unfold restWp
   rwa [show m - j + (ops.size - m)=ops.size - j by omega] at this
theorem reg_sound (hE:EnvOk P w0.G E C) (hm:P.follows .mixedOrders=true) (hL:OpnOk P L) (hJ:JOk P L w0 I0 body Q0 ov0 nt0 J r):∀ n,RegOk P E C L w0 I0 body Q0 ov0 nt0 J r n:=by
 intro n
 induction n with
 | zero =>
  intro kp rp id ops draw K Q ov nt st a w hat h hs hQ
  exact region_sound hE hm hs h hQ
 | succ n ih =>
  intro kp rp id ops draw K Q ov nt st a w hat h hs hQ
  simp only [regQ] at h
  cases ha:anyOpen L ops.toList with
  | false =>
   rw [ha] at h
   exact region_sound hE hm hs h hQ
  | true =>
   rw [ha] at h
   simp only [cond_true] at h
   cases hd:!draw || drawOk ops.toList with
   | false=>rw [hd] at h; exact h.elim
   | true =>
    rw [hd] at h
    simp only [cond_true] at h
    have hok:draw=true→drawOk ops.toList=true:=fun e=>by subst e; simpa using hd
    cases draw with
    | false =>
     have:=seg_sound hE hL ih hJ hat hok hQ ops.size 0 ops.toList _ st a w rfl (Nat.zero_le _) (by omega) h hs
     refine wp_region ?_
     rw [List.range_eq_range']
     exact this
    | true =>
     refine wp_region_any hm ?_
     have hs':Sim w0 I0 st a ov { w with drawn:=w.drawn + 1 }:=by
      obtain ⟨g,hs⟩:=hs
      exact ⟨_,hs.grow (w':={ w with drawn:=w.drawn + 1 }) (I':=g.I) (R':=NoR) ⟨rfl,rfl,rfl,Nat.le_refl _,fun _ _=>rfl⟩ (fun _ h=>h) hs.lt (fun _ _ h=>h) (fun _ h=>h.elim)⟩
     have:=seg_sound hE hL ih hJ hat hok hQ ops.size 0 ops.toList _ st a _ rfl (Nat.zero_le _) (by omega) h hs'
     rw [← upTo_zero]
     exact this
theorem go_sound (hE:EnvOk P w0.G E C) (hm:P.follows .mixedOrders=true) (hL:OpnOk P L) (hJ:JOk P L w0 I0 body Q0 ov0 nt0 J r) {p:List Nat} {c cT:Code} {Q QT:Exit→Act→World→Prop} {ov ovT:List Value} {nt ntT:Nat} (hf:AtF P L p c Q ov nt cT QT ovT ntT) :
  ∀ (n:Nat) (kp:Nat→Option (List Nat)) (ann jn:Nat→Option Ann) (rp:List Nat) (K:AEx→ASt→Prg R) (st:ASt) (a:Act) (w:World),At P L body Q0 ov0 nt0 rp c Q ov nt→(goQ E L p n nt kp ann jn rp c K st).goes C J r→Sim w0 I0 st a ovT w →
   (∀ e st' a w,(K e st').goes C J r→Sim w0 I0 st' a ov w→Q (exitOf e) a w)→cT.wp P QT a w:=by
 induction hf with
 | here =>
  intro n kp ann jn rp K st a w hat h hs hK
  exact code_sound (reg_sound hE hm hL hJ n) hJ _ rp K _ st a w hat h hs hK
 | @seq0 p x y Q ov nt c' Q' ov' nt' hf ih =>
  intro n kp ann jn rp K st a w hat h hs hK
  simp only [goQ] at h
  refine ih n kp ann jn (0 :: rp) _ st a w hat.seq0 h hs (fun e st' a w hk hs=>?_)
  cases e with
  | normal =>
   simp only [thenQ] at hk
   cases han:annAt jn y with
   | none =>
    rw [han] at hk
    exact code_sound (reg_sound hE hm hL hJ n) hJ y (1 :: rp) _ Q st' a w hat.seq1 hk hs hK
   | some an =>
    rw [han] at hk
    obtain ⟨st2,h2,hs2⟩:=norm_sound hs hk
    exact hJ (1 :: rp) y Q _ _ st2 a w hat.seq1 h2 hs2
  | ret=>exact hK .ret st' a w hk hs
  | exit id=>exact hK (.exit id) st' a w hk hs
 | seq1 hf ih =>
  intro n kp ann jn rp K st a w hat h hs hK
  simp only [goQ] at h
  exact ih n kp ann jn (1 :: rp) K st a w hat.seq1 h hs hK
 | cond0 hf ih =>
  intro n kp ann jn rp K st a w hat h hs hK
  simp only [goQ] at h
  exact ih n kp ann jn (0 :: rp) K st a w hat.cond0 h hs hK
 | cond1 hf ih =>
  intro n kp ann jn rp K st a w hat h hs hK
  simp only [goQ] at h
  exact ih n kp ann jn (1 :: rp) K st a w hat.cond1 h hs hK
 | @block p id c Q ov nt c' Q' ov' nt' hf ih =>
  intro n kp ann jn rp K st a w hat h hs hK
  simp only [goQ] at h
  refine ih n kp ann jn (0 :: rp) _ st a w hat.block h hs (fun e st' a w hk hs=>?_)
  cases e with
  | normal=>exact hK .normal st' a w hk hs
  | ret=>exact hK .ret st' a w hk hs
  | exit i =>
   simp only [blockQ] at hk
   simp only [exitOf,Exit.inBlock]
   cases hb:i.beq id with
   | true =>
    simp only [hb,cond_true] at hk
    rw [if_pos ((beq_iff _ _).1 hb)]
    exact hK .normal st' a w hk hs
   | false =>
    simp only [hb,cond_false] at hk
    rw [if_neg (fun e=>by subst e; simp at hb)]
    exact hK (.exit i) st' a w hk hs
 | @loop p c Q ov nt c' Q' ov' nt' hf ih =>
  intro n kp ann jn rp K st a w hat h hs hK
  simp only [goQ] at h
  refine ih n kp ann jn (0 :: rp) _ st a w hat.loop h hs (fun e st' a w hk hs=>?_)
  cases e with
  | normal =>
   simp only [roundQ,headQ] at hk
   cases han:annAt ann c with
   | none=>rw [han] at hk; exact hk.elim
   | some an =>
    rw [han] at hk
    obtain ⟨st2,h2,hs2⟩:=norm_sound hs hk
    exact turns_of (hJ (0 :: rp) c _ _ _ st2 a w hat.loop h2 hs2)
  | ret=>exact hK .ret st' a w hk hs
  | exit id=>exact hK (.exit id) st' a w hk hs
 | @opn p id ops draw Q ov nt y o f fn c' Q' ov' nt' a0 ho hof h3 h4 hf ih =>
  intro n kp ann jn rp K st a w hat h hs hK
  cases n with
  | zero=>simp only [goQ] at h; exact h.elim
  | succ n =>
   have ho':ops.toList[y % 1000]? = some o:=by rw [Array.getElem?_toList]; exact ho
   simp only [goQ,ho',hof] at h
   have hok:draw=true→drawOk ops.toList=true:=fun e=>by
    subst e
    cases hd:drawOk ops.toList with
    | true=>rfl
    | false=>rw [hd] at h; exact h.elim
   have h:(goQ E L p n fn.ntmps (L.kp f) (L.ann f) (L.jn f) ((y + 2) :: rp) (bodyOf fn)
       (backQ E f fn nt o.dst (fun st'=>segQ E L (regQ E L n) nt kp id rp draw ops.toList (K .normal) (y % 1000 + 1) (ops.toList.drop (y % 1000 + 1)) (exOf draw st' ops.toList) st')) st).goes C J r:=by
    cases hb:!draw || drawOk ops.toList with
    | true=>rw [hb] at h; exact h
    | false=>rw [hb] at h; exact h.elim
   have hjl:y % 1000 < ops.size:=(Array.getElem?_eq_some_iff.1 ho).1
   refine ih n (L.kp f) (L.ann f) (L.jn f) ((y + 2) :: rp) _ st a w (hat.opn a0 ho hof h3 h4) h hs (fun e st' a w hk hs=>?_)
   obtain ⟨he,hd,v,hres,st2,hk2,hs2⟩:=back_sound hE.1 hs h3 h4 hk
   have:a.defers=[]∧∃ v,(results fn a.tmps).run P w=.ok v w∧∃ v',Ending.returned v=.returned v'∧restWp P ops draw Q (y % 1000 + 1) (a0.put o.dst v') w :=
    ⟨hd,v,hres,v,rfl,seg_sound hE hL (reg_sound hE hm hL hJ n) hJ hat hok (fun st' a w hk hs=>hK .normal st' a w hk hs) ops.size (y % 1000 + 1) _ _ st2 _ w rfl hjl (by omega) hk2 hs2⟩
   rcases he with rfl | rfl <;> exact this
theorem run_goes {C':FuncId→List TV→Option TV} {J':List Nat→ASt→Option R}:∀ {p:Prg R} {r:R},p.run C' J'=some r→p.goes (fun f xs v=>C' f xs=some v) (fun rp st r=>J' rp st=some r) r
 | .fail,r,h=>by simp [Prg.run] at h
 | .ret r',r,h=>by simpa [Prg.run,Prg.goes] using h
 | .tv p k,r,h=>by
  simp only [Prg.run,Option.bind_eq_some_iff] at h
  obtain ⟨v,h1,h2⟩:=h
  exact ⟨v,h1,run_goes h2⟩
 | .tvs p k,r,h=>by
  simp only [Prg.run,Option.bind_eq_some_iff] at h
  obtain ⟨v,h1,h2⟩:=h
  exact ⟨v,h1,run_goes h2⟩
 | .rws p k,r,h=>by
  simp only [Prg.run,Option.bind_eq_some_iff] at h
  obtain ⟨v,h1,h2⟩:=h
  exact ⟨v,h1,run_goes h2⟩
 | .nat p k,r,h=>by
  simp only [Prg.run,Option.bind_eq_some_iff] at h
  obtain ⟨v,h1,h2⟩:=h
  exact ⟨v,h1,run_goes h2⟩
 | .chk b k,r,h=>by
  cases b with
  | false=>simp [Prg.run] at h
  | true=>exact ⟨rfl,run_goes h⟩
 | .ite b t e,r,h=>by
  simp only [Prg.run,Option.bind_eq_some_iff] at h
  obtain ⟨v,h1,h2⟩:=h
  cases v with
  | true=>exact ⟨true,h1,.inl ⟨rfl,run_goes h2⟩⟩
  | false=>exact ⟨false,h1,.inr ⟨rfl,run_goes h2⟩⟩
 | .call f xs k,r,h=>by
  simp only [Prg.run,Option.bind_eq_some_iff] at h
  obtain ⟨v,h1,h2⟩:=h
  exact ⟨v,h1,run_goes h2⟩
 | .jmp p st,r,h=>h
end
end Go.Ab

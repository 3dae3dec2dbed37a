import Derived.Test.YtfnpejmlcbkepaaCM13b
import Derived.OrdersIn
set_option linter.all false
section
namespace Go.Ab
open Go.RowKit
def Prg.goes {R:Type} (C:Cal) (J:List Nat->ASt->R->Prop):Prg R->R->Prop
 | .fail,_=>False
 | .ret e',e=>e'=e
 | .tv p k,e=>∃ v,p=some v/\(k v).goes C J e
 | .tvs p k,e=>∃ v,p=some v/\(k v).goes C J e
 | .rws p k,e=>∃ v,p=some v/\(k v).goes C J e
 | .nat p k,e=>∃ v,p=some v/\(k v).goes C J e
 | .chk b k,e=>b=true/\k.goes C J e
 | .ite b t f,e=>∃ v,b=some v/\((v=true/\t.goes C J e)\/(v=false/\f.goes C J e))
 | .call f xs k,e=>∃ v,C f xs v/\(k v).goes C J e
 | .jmp p st,e=>J p st e
theorem Prg.dW {R S:Type} {C:Cal} {J:List Nat->ASt->S->Prop} {f:R->Prg S} {r:S}:∀ {p:Prg R},(p.bind f).goes C J r->∃ e,p.hits C e/\(f e).goes C J r
 | .fail,h=>h.elim
 | .ret e,h=>⟨e,rfl,h⟩
 | .tv p k,⟨v,h1,h⟩=>by obtain ⟨e,h2,h3⟩:=Prg.dW h; exact ⟨e,⟨v,h1,h2⟩,h3⟩
 | .tvs p k,⟨v,h1,h⟩=>by obtain ⟨e,h2,h3⟩:=Prg.dW h; exact ⟨e,⟨v,h1,h2⟩,h3⟩
 | .rws p k,⟨v,h1,h⟩=>by obtain ⟨e,h2,h3⟩:=Prg.dW h; exact ⟨e,⟨v,h1,h2⟩,h3⟩
 | .nat p k,⟨v,h1,h⟩=>by obtain ⟨e,h2,h3⟩:=Prg.dW h; exact ⟨e,⟨v,h1,h2⟩,h3⟩
 | .chk b k,⟨h1,h⟩=>by obtain ⟨e,h2,h3⟩:=Prg.dW (p:=k) h; exact ⟨e,⟨h1,h2⟩,h3⟩
 | .ite b t f,⟨v,h1,.inl ⟨h2,h⟩⟩=>by obtain ⟨e,h3,h4⟩:=Prg.dW (p:=t) h; exact ⟨e,⟨v,h1,.inl ⟨h2,h3⟩⟩,h4⟩
 | .ite b t f,⟨v,h1,.inr ⟨h2,h⟩⟩=>by obtain ⟨e,h3,h4⟩:=Prg.dW (p:=f) h; exact ⟨e,⟨v,h1,.inr ⟨h2,h3⟩⟩,h4⟩
 | .call f xs k,⟨v,h1,h⟩=>by obtain ⟨e,h2,h3⟩:=Prg.dW h; exact ⟨e,⟨v,h1,h2⟩,h3⟩
 | .jmp _ _,h=>h.elim
section
variable {P:Program} {E:Env} {C:Cal} {w0:Bs} {w w':World} {I0 I R:Nat->Prop} {g g':Gh} {st st' s1 s2:ASt} {a:Act} {ov:List Value} {look:Look} {Q:Exit->Act->World->Prop} {id:Nat}
def uF (E:Env) (C:Cal) (i:Item) (s s':ASt):Prop:=∃ e,(opL E (s.nid i.o.dst) (banned (aM i.ban s.base) s.look) i.o.op (i.o.op.operands.toList.map s.ev)).hits C e /\
 (i.dr=true->okE i s e=true)/\e.nfE.app s i.o.dst=some s'
def kw (E:Env) (C:Cal) (i:Item) (s s':ASt):Prop:=∃ e,(opL E (s.nid i.o.dst) (banned (aM i.ban s.base) s.look) i.o.op (i.o.op.operands.toList.map s.ev)).hits C e /\
 (i.dr=true->(e.plain=true/\e.lX s.base i.own=true)/\(bS i.push s i.o.dst e=true/\cH i s e=true))/\e.nfE.app s i.o.dst=some s'
def ic (E:Env) (C:Cal) (i:Item) (s s':ASt):Prop:=∃ e,(opL E (s.nid i.o.dst) (banned (aM i.ban s.base) s.look) i.o.op (i.o.op.operands.toList.map s.ev)).hits C e /\
 cD i s e=true/\e.nfE.app s i.o.dst=some s'
def OpN (E:Env) (C:Cal) (ops:List Oper) (i:Item) (s s':ASt):Prop :=
 (aQ ops i.o s=some (some true)/\uF E C i s s')\/(∃ b,aQ ops i.o s=some b/\b≠some true/\s'=dh i.o s)
def OpP (E:Env) (C:Cal) (ops:List Oper) (i:Item) (s s':ASt):Prop :=
 (aQ ops i.o s=some (some true)/\kw E C i s s')\/(∃ b,aQ ops i.o s=some b/\b≠some true/\s'=dh i.o s)
theorem kw.toN {i:Item} (hsh:i.shut=false) {s s':ASt}:kw E C i s s'->uF E C i s s':=fun ⟨e,h1,h2,h3⟩=>⟨e,h1,fun hd=>by obtain ⟨⟨a,b⟩,c,d⟩:=h2 hd; simp only [okE,a,b,c,d,hsh,Bool.and_self,cond_false,Bool.true_or,Bool.or_true],h3⟩
theorem ic.toN {i:Item} {s s':ASt}:ic E C i s s'->uF E C i s s':=fun ⟨e,h1,h2,h3⟩=>⟨e,h1,fun hd=>by simp only [okE,h2,Bool.or_true],h3⟩
theorem OpP.toN {ops:List Oper} {i:Item} (hsh:i.shut=false) {s s':ASt}:OpP E C ops i s s'->OpN E C ops i s s'
 | .inl ⟨h,h'⟩=>.inl ⟨h,h'.toN hsh⟩
 | .inr h=>.inr h
theorem OpN.parts {ops:List Oper} {i:Item} {s s':ASt} (hd:i.dr=true) (hsh:i.shut=false) (hlo:i.loose=false):OpN E C ops i s s'->OpP E C ops i s s'\/(aQ ops i.o s=some (some true)/\ic E C i s s')
 | .inr h=>.inl (.inr h)
 | .inl ⟨h, e, h1, h2, h3⟩ => by
  have h2:=h2 hd
  unfold okE at h2
  rw [hlo,hsh,Bool.false_and,Bool.false_or,Bool.or_eq_true] at h2
  rcases h2 with h2 | h2
  ·simp only [cond_false,CB] at h2
   exact .inl (.inl ⟨h,e,h1,fun _=>h2,h3⟩)
  ·exact .inr ⟨h,e,h1,h2,h3⟩
theorem zk {i:Item} {s:ASt} {e:Eff} (h:okE i s e.nfE=true):okE i s e=true:=by
 unfold okE at h ⊢
 rw [Bool.or_eq_true] at h ⊢
 rcases h with h | h
 ·refine .inl ?_
  have:bX i s e.nfE=bX i s e:=by unfold bX; simp only [oc,wc,qE]
  rwa [this] at h
 refine .inr ?_
 rw [Bool.or_eq_true] at h ⊢
 rcases h with h | h
 ·rw [mN,uW] at h
  have:bS i.push s i.o.dst e.nfE=bS i.push s i.o.dst e:=by unfold bS; rw [bR]
  rw [this] at h
  have e2:gp i s e.nfE=gp i s e:=by unfold gp; rw [j4,bR]
  have e3:cH i s e.nfE=cH i s e:=by unfold cH; rw [bR,pd]
  rw [e2,e3] at h
  exact .inl h
 ·refine .inr ?_
  unfold cD at h ⊢
  split at h
  ·rename_i s' j y h1 h2
   have he:=gZ h2
   have:e=e.nfE:=by
    cases e with
    | gen ps v =>
     simp only [Eff.nfE,Eff.gen.injEq] at he
     rcases az v with h | ⟨b,h,_⟩
     ·show Eff.gen ps v=Eff.gen ps v.nf
      rw [h]
     ·rw [h] at he; cases he.2
    | _=>simp only [Eff.nfE,reduceCtorEq] at he
   rw [this,h1,h2]
   exact h
  ·cases h
inductive zm (E:Env) (C:Cal) (ops:List Oper):List Item->ASt->ASt->Prop
 | nil (s:ASt):zm E C ops [] s s
 | cons {i:Item} {l:List Item} {s s1 s':ASt} (h:OpN E C ops i s s1) (r:zm E C ops l s1 s'):zm E C ops (i :: l) s s'
theorem oX {v:TV} {b:Bool} (h:asBool v=some b):v=.lit (.bool b):=by
 unfold asBool at h
 split at h
 ·simp only [Cz] at h; subst h; rfl
 ·cases h
theorem wV {T:Type} {J:List Nat->ASt->T->Prop} {i:Item} {K:ASt->Prg T} {r:T} (h:(lO E i K st).goes C J r):∃ st1,uF E C i st.nfS st1.nfS/\(K st1).goes C J r:=by
 unfold lO at h
 obtain ⟨e,h1,h2⟩:=Prg.dW h
 obtain ⟨e',h3,h4⟩:=opL_nf h1
 unfold effQ at h2
 cases hc:i.dr && !(okE i st e) with
 | true=>rw [hc] at h2; exact h2.elim
 | false =>
  rw [hc] at h2
  simp only [cond_false] at h2
  split at h2
  ·rename_i st1 ha
   refine ⟨st1,⟨e',?_,fun hd=>?_,?_⟩,h2⟩
   ·have:i.o.op.operands.toList.map st.nfS.ev=(i.o.op.operands.toList.map st.ev).map AV.nf:=by
     rw [List.map_map]
     apply List.map_congr_left
     intro x _
     exact qB st x
    rw [this,tV,np,kz]
    exact h3
   ·refine zk ?_
    rw [h4]
    exact okE_nf (by simpa [hd] using hc)
   ·rw [h4]
    exact app_nf ha
  ·exact h2.elim
theorem oW {g:Nat} {v v':AV} (h:nth (.one .junk) st.slots g=v) (hv:v.nf=v'.nf):(st.put (some g) v').nfS=st.nfS:=by
 rw [ir]
 simp only [ASt.put]
 have:al st.nfS.slots g v'.nf=st.nfS.slots:=by
  rw [ag]
  apply List.ext_getElem?
  intro t
  rw [List.getElem?_set]
  by_cases ht:g=t
  ·subst ht
   cases hs:st.slots[g]? with
   | none =>
    have:st.nfS.slots[g]? = none:=by simp [ASt.nfS,hs]
    have hlt:¬ g < st.nfS.slots.length:=by
     intro hlt
     rw [Cy hlt] at this
     cases this
    simp [hlt]
   | some u =>
    rw [bA hs] at h
    subst h
    have hlt:g < st.nfS.slots.length:=by simp [ASt.nfS]; exact (Cx.1 hs).1
    simp only [if_true,hlt]
    rw [<- hv]
    simp [ASt.nfS,hs]
  ·simp [ht]
 rw [this]
theorem iW {T:Type} {J:List Nat->ASt->T->Prop} {ops:List Oper} {i:Item} {K:ASt->Prg T} {r:T} (h:(opQ E ops i K st).goes C J r):∃ st1,OpN E C ops i st.nfS st1.nfS/\(K st1).goes C J r:=by
 unfold opQ at h
 have skip:∀ {s:ASt} {b:Option Bool},s.nfS=st.nfS->aQ ops i.o st.nfS=some b->b≠some true->(K (dh i.o s)).goes C J r->∃ st1,OpN E C ops i st.nfS st1.nfS/\(K st1).goes C J r:=by
  intro s b he hg hb hk
  refine ⟨_,.inr ⟨b,hg,hb,?_⟩,hk⟩
  simp only [dh]
  rw [ir,he]
  rfl
 have run:∀ {s:ASt},s.nfS=st.nfS->aQ ops i.o st.nfS=some (some true)->(lO E i K s).goes C J r->∃ st1,OpN E C ops i st.nfS st1.nfS/\(K st1).goes C J r:=by
  intro s he hg hk
  obtain ⟨st1,h1,h2⟩:=wV hk
  rw [he] at h1
  exact ⟨st1,.inl ⟨hg,h1⟩,h2⟩
 cases hg:i.o.guard with
 | none =>
  simp only [hg] at h
  exact run rfl (by simp [aQ,hg]) h
 | some q =>
  obtain ⟨j,want⟩:=q
  simp only [hg] at h
  cases hd:(ops[j]?).bind (·.dst) with
  | none=>simp only [hd] at h; exact h.elim
  | some g =>
   simp only [hd] at h
   have gv:∀ {v:AV},nth (.one .junk) st.slots g=v->aQ ops i.o st.nfS=(match v.nf with | .one .undef=>some none | .bl b=>some (some (b == want)) | _=>none):=by
    intro v hv
    simp only [aQ,hg,hd,jh,hv]
    generalize v.nf=u
    cases u with
    | one c=>cases c <;> rfl
    | _=>rfl
   have ite:∀ {v:TV} {x y:Prg T},(Prg.ite (asBool v) x y).goes C J r->∃ b,v=.lit (.bool b)/\(bif b then x else y).goes C J r:=by
    rintro v x y ⟨b,hb,h⟩
    refine ⟨b,oX hb,?_⟩
    rcases h with ⟨rfl,h⟩ | ⟨rfl,h⟩ <;> exact h
   cases hs:nth (.one .junk) st.slots g with
   | one c =>
    simp only [hs] at h
    cases c with
    | undef=>exact skip rfl (by rw [gv hs]; rfl) (by simp) h
    | t v =>
     obtain ⟨b,rfl,h'⟩:=ite h
     have he:(st.put (some g) (.bl b)).nfS=st.nfS:=oW hs rfl
     have hgd:=gv hs
     simp only [AV.nf] at hgd
     cases b <;> cases want <;> simp only [cond_true,cond_false] at h'
     ·exact run he (by rw [hgd]; rfl) h'
     ·exact skip (b:=some false) he (by rw [hgd]; rfl) (by simp) h'
     ·exact skip (b:=some false) he (by rw [hgd]; rfl) (by simp) h'
     ·exact run he (by rw [hgd]; rfl) h'
    | _=>exact h.elim
   | agg cs=>simp only [hs] at h; exact h.elim
   | tups cs=>simp only [hs] at h; exact h.elim
   | clo _ cs=>simp only [hs] at h; exact h.elim
   | tv v =>
    simp only [hs] at h
    obtain ⟨b,rfl,h'⟩:=ite h
    have he:(st.put (some g) (.bl b)).nfS=st.nfS:=oW hs rfl
    have hgd:=gv hs
    simp only [AV.nf] at hgd
    cases b <;> cases want <;> simp only [cond_true,cond_false] at h'
    ·exact run he (by rw [hgd]; rfl) h'
    ·exact skip (b:=some false) he (by rw [hgd]; rfl) (by simp) h'
    ·exact skip (b:=some false) he (by rw [hgd]; rfl) (by simp) h'
    ·exact run he (by rw [hgd]; rfl) h'
   | bl b =>
    simp only [hs] at h
    have hgd:=gv hs
    simp only [AV.nf] at hgd
    cases b <;> cases want <;> simp only [cond_true,cond_false] at h
    ·exact run rfl (by rw [hgd]; rfl) h
    ·exact skip (b:=some false) rfl (by rw [hgd]; rfl) (by simp) h
    ·exact skip (b:=some false) rfl (by rw [hgd]; rfl) (by simp) h
    ·exact run rfl (by rw [hgd]; rfl) h
theorem iQ {T:Type} {J:List Nat->ASt->T->Prop} {ops:List Oper} {K:ASt->Prg T} {r:T}:∀ {l:List Item} {st:ASt},(Aa E ops l K st).goes C J r->∃ fin,zm E C ops l st.nfS fin.nfS/\(K fin).goes C J r
 | [],st,h=>⟨st,.nil _,h⟩
 | i :: l,st,h=>by
  simp only [Aa,jr] at h
  obtain ⟨st1,h1,h2⟩:=iW h
  obtain ⟨fin,h3,h4⟩:=iQ h2
  exact ⟨fin,.cons h1 h3,h4⟩
theorem nL (ban:List Nat) (st:ASt):∀ i b,banned ban st.look i=some b->st.look i=some b:=fun i b h=>by
 unfold banned at h
 cases hm:br i ban with
 | true=>simp [hm] at h
 | false=>simpa [hm] using h
theorem lZ {ops:Array Oper} {o:Oper} {j:Nat} {want:Bool} {t:Tmp} (hg:(ops[j]?).bind (·.dst)=some t) (hs:ah w0 I0 R g st a ov w) {b:Option Bool} (hv:aQ ops.toList o st=some b) (ho:o.guard=some (j,want)) :
  (Region.wanted o (yielded ops a.tmps)=true ↔ b=some true):=by
 have hg':(ops.toList[j]?).bind (·.dst)=some t:=by rw [CC]; exact hg
 simp only [aQ,ho,hg'] at hv
 simp only [Region.wanted,ho,yielded,hg,Option.bind_some]
 cases hsl:st.slots[t]? with
 | none=>rw [aI,hsl] at hv; simp at hv
 | some v =>
  have hrep:=hs.slots t v hsl
  have hlt:t < a.tmps.size:=by rw [hs.len]; exact (Cx.1 hsl).1
  have hget:a.tmps[t]? = some (a.tmps.getD t undef):=by simp [hlt]
  rw [bA hsl] at hv
  obtain ⟨u,hu⟩:∃ u,u=a.tmps.getD t undef:=⟨_,rfl⟩
  rw [<- hu] at hrep hget
  rw [hget]
  split at hv
  ·simp only [Cz] at hv
   subst hv
   have:u=undef:=hrep
   subst this
   simp [undef]
  ·simp only [Cz] at hv
   subst hv
   have:u=.bool _:=hrep
   subst this
   simp
  ·cases hv
def Rd (ro:Option Nat):Fence:={ Fence.wide with round:=ro }
theorem rd_in {ro:Option Nat} {P:Program} {m m':Machine}:StepsIn (Machine.fenced P (Rd ro)) P m m' ↔ Steps P m m':=stepsIn_wide
theorem fg {ro:Option Nat} {n:Nat} {P:Program} {f:FuncId} {args:Array Value} {w:World} {R:Ending->World->Prop}:CallsIn (Rd ro) n P f args w R ↔ Calls P f args w R:=callsIn_wide
theorem BK {ro:Option Nat} (n:Nat):(Rd ro).room n:=room_wide n
theorem wz {ro:Option Nat} {o:Oper} (hd:∀ c,o.op≠.defer c) {a:Act} {w:World} {next:Act->World->Prop} {Q:Exit->Act->World->Prop} (h:o.wp P a w next Q):o.wpIn (Rd ro) 0 P a w next Q:=by
 refine ⟨fun _ _=>trivial,?_⟩
 rw [Oper.semAt_eq _ _ _ hd]
 unfold Oper.wp at h
 generalize (execOp a.eval o).run P w=r at *
 cases r with
 | ok x w' =>
  cases x <;> simp only [Oper.upon] at h <;> simp only [Oper.uponIn] <;>
   first
    | exact h
    | exact ⟨fun h=>by simp [Rd,Fence.wide] at h,fg.2 h⟩
    | exact ⟨fun h=>by simp [Rd,Fence.wide] at h,fun c cs _=>by obtain ⟨v,w',r,s⟩:=h c cs; exact ⟨v,w',r,rd_in.2 s⟩⟩
 | halt x w'=>cases x <;> simp only [Oper.upon] at h <;> simp only [Oper.uponIn] <;> exact h
theorem lu (hE:gf P w0.G E C) {ops:Array Oper} {n:Nat} {i:Item} (hn:ops[n]? = some i.o) (hs:Sim w0 I0 st a ov w) (h:OpN E C ops.toList i st st') {ro:Option Nat}:wpOpIn (Rd ro) 0 P ops Q n (fun a' w'=>Sim w0 I0 st' a' ov w') a w:=by
 obtain ⟨g,hs⟩:=hs
 unfold wpOpIn
 rw [hn]
 simp only []
 have run:uF E C i st st'->i.o.wpIn (Rd ro) 0 P a w (fun a' w'=>Sim w0 I0 st' a' ov w') Q:=fun ⟨e,h1,_,h3⟩=>by
  obtain ⟨st1,h4,h5⟩:=xM h3
  refine wz (fun c hc=>?_) (Oper.wp_mono (fun a' w' hh=>h5 w0 I0 a' ov w' hh) (Ar hE (nL _ st) hs h1 h4))
  rw [hc] at h1
  simp only [opL] at h1
  exact h1.elim
 have skip:st'=dh i.o st->Sim w0 I0 st' (a.put i.o.dst undef) ov w:=fun h=>by
  subst h
  exact ⟨g,hs.put i.o.dst (v:=.one .undef) rfl⟩
 cases hg:i.o.guard with
 | none =>
  have hw:Region.wanted i.o (yielded ops a.tmps)=true:=by simp [Region.wanted,hg]
  rw [if_pos hw]
  rcases h with ⟨_,h⟩ | ⟨b,hb,hne,_⟩
  ·exact run h
  ·simp [aQ,hg] at hb
   exact absurd hb.symm hne
 | some q =>
  obtain ⟨j,want⟩:=q
  cases hd:(ops[j]?).bind (·.dst) with
  | none =>
   have hd':(ops.toList[j]?).bind (·.dst)=none:=by rw [CC]; exact hd
   rcases h with ⟨h,_⟩ | ⟨b,hb,_⟩
   ·simp only [aQ,hg,hd'] at h; cases h
   ·simp only [aQ,hg,hd'] at hb; cases hb
  | some t =>
   rcases h with ⟨hv,h⟩ | ⟨b,hv,hne,h⟩
   ·rw [if_pos ((lZ hd hs hv hg).2 rfl)]
    exact run h
   ·rw [if_neg (fun hw=>hne ((lZ hd hs hv hg).1 hw))]
    exact ⟨fun _ _=>trivial,skip h⟩
theorem ce {t:Nat}:∀ {l:List Operand},.tmp t ∈ l->t ∈ cp l
 | x :: l, h => by
  rcases List.mem_cons.1 h with rfl | h
  ·simp [cp]
  ·have:=ce h
   cases x <;> simp [cp,this]
theorem aV {d:Option Nat} {l:List Nat} (h:dl d l=true):∀ t,d=some t->t ∉ l:=fun t ht hm=>by
 subst ht
 simp only [dl,Bool.not_eq_true',] at h
 rw [(bL _ _).2 hm] at h
 cases h
def iy (d:Option Nat) (s t:ASt):Prop:=s.slots.length=t.slots.length/\∀ k,d≠some k->nth (.one .junk) s.slots k=nth (.one .junk) t.slots k
theorem ei (st:ASt) (d:Option Tmp) (v:AV) (k:Nat) (h:d≠some k):nth (.one .junk) (st.put d v).slots k=nth (.one .junk) st.slots k:=by
 cases d with
 | none=>rfl
 | some d =>
  have:d≠k:=fun e=>h (by rw [e])
  simp only [ASt.put,ag,aI,List.getElem?_set,this,if_false]
theorem BH {d:Option Nat} {s t:ASt} (h:iy d s t) {x:Operand} (hx:∀ k,x=.tmp k->d≠some k):s.ev x=t.ev x:=by
 cases x with
 | tmp k=>exact h.2 k (hx k rfl)
 | const v=>cases v <;> rfl
 | _=>rfl
theorem dC {d:Option Nat} {s t:ASt} (h:iy d s t) {l:List Operand} (hx:dl d (cp l)=true):l.map s.ev=l.map t.ev:=by
 apply List.map_congr_left
 intro x hxl
 refine BH h (fun k hk e=>?_)
 subst hk
 exact aV hx k e (ce hxl)
theorem jP {d:Option Nat} {s t:ASt} {ops:List Oper} {o:Oper} (h:iy d s t) (hx:dl d (nI ops o)=true):aQ ops o s=aQ ops o t:=by
 unfold aQ
 cases hg:o.guard with
 | none=>rfl
 | some q =>
  obtain ⟨j,want⟩:=q
  simp only []
  cases hd:(ops[j]?).bind (·.dst) with
  | none=>rfl
  | some g =>
   have:nth (.one .junk) s.slots g=nth (.one .junk) t.slots g:=h.2 g (fun e=>aV hx g e (by simp [nI,hg,hd]))
   simp only [this]
theorem oT (n:Nat):∀ (a b:List Nat),br n (a ++ b)=(br n a || br n b)
 | [],b=>rfl
 | x :: a,b=>by
  simp only [List.cons_append,br]
  cases x.beq n <;> simp [oT n a b]
theorem ar {d:Option Nat} {a b:List Nat} (h:dl d (a ++ b)=true):dl d a=true/\dl d b=true:=by
 cases d with
 | none=>exact ⟨rfl,rfl⟩
 | some d =>
  simp only [dl,oT,Bool.not_or,CB] at h
  exact h
theorem bT {b:BC} {v:AV} {d:Option Tmp} (ha:(Eff.new b v).app st d=some st'):∃ d',d=some d'/\st.look (st.nid d)=none/\st.nid d < st.boxes.length/\st'=(st.ab (st.nid d) (some b)).put d v:=by
 cases d with
 | none=>simp [Eff.app] at ha
 | some d =>
  simp only [Eff.app] at ha
  split at ha
  ·rename_i s1 hs1
   obtain ⟨h1,h2,rfl⟩:=aZ hs1
   simp only [Cz] at ha
   exact ⟨d,rfl,h1,h2,ha.symm⟩
  ·cases ha
theorem iB {b:BC} {v:AV} {d:Tmp} (h1:st.look (st.nid (some d))=none) (h2:st.nid (some d) < st.boxes.length):(Eff.new b v).app st (some d)=some ((st.ab (st.nid (some d)) (some b)).put (some d) v):=by
 have h2':(st.nid (some d)).blt st.boxes.length=true:=by simpa using h2
 simp only [Eff.app,ASt.bc,h1,h2',cond_true]
theorem fx {e:Eff} {d:Option Nat} (hp:e.plain=true) (ha:e.app st d=some st'):iy d st' st/\st'.boxes.length=st.boxes.length/\st'.out=st.out:=by
 cases e with
 | val v =>
  simp only [Eff.app,Cz] at ha
  subst ha
  refine ⟨⟨?_,fun k hk=>ei st d v k hk⟩,by rw [bp],by rw [jL]⟩
  cases d <;> simp [ASt.put,ag]
 | new b v =>
  obtain ⟨dd,rfl,hl,hlt,rfl⟩:=bT ha
  refine ⟨⟨?_,fun k hk=>?_⟩,by rw [bp]; simp [ASt.ab,ag],by rw [jL]; rfl⟩
  ·simp [ASt.put,ASt.ab,ag]
  ·rw [ei _ _ _ _ hk]; rfl
 | upd i b v =>
  simp only [Eff.app,Cz] at ha
  subst ha
  refine ⟨⟨?_,fun k hk=>?_⟩,by rw [bp]; simp [ASt.ab,ag],by rw [jL]; rfl⟩
  ·cases d <;> simp [ASt.put,ASt.ab,ag]
  ·rw [ei _ _ _ _ hk]; rfl
 | _=>simp [Eff.plain] at hp
inductive Move (c:Cls) (st:ASt):Eff->Prop
 | val (v:AV) (h:c=.N\/c=.R\/c=.B\/c=.P):Move c st (.val v)
 | new (b:BC) (v:AV) (h:c=.A\/c=.B\/c=.P):Move c st (.new b v)
 | upd (i:Nat) (b:BC) (v:AV) (h:c=.W) (hl:(st.look i).isSome=true):Move c st (.upd i b v)
theorem Move.nf {c:Cls} {e:Eff} (h:Move c st e):Move c st e.nfE:=by
 cases h with
 | val v h=>exact .val _ h
 | new b v h=>exact .new _ _ h
 | upd i b v h hl=>exact .upd _ _ _ h hl
theorem pJ {op:Op} {ban:List Nat} {vs:List AV} {e:Eff} (hx:(aj op).isX=false) (hp:e.plain=true) (hh:(opL E id (banned ban st.look) op vs).hits C e):Move (aj op) st e:=by
 cases hc:aj op with
 | N=>obtain ⟨v,rfl⟩:=(B9 hc vs).hits hh; exact .val v (.inl rfl)
 | R=>obtain ⟨v,rfl⟩:=(AG hc vs).hits hh; exact .val v (.inr (.inl rfl))
 | A=>obtain ⟨b,row,rfl⟩:=(cls_A hc vs).hits hh; exact .new b row (.inl rfl)
 | B =>
  rcases (cls_B hc vs).hits hh hp with ⟨v,rfl⟩ | ⟨b,v,rfl⟩
  ·exact .val v (.inr (.inr (.inl rfl)))
  ·exact .new b v (.inr (.inl rfl))
 | P =>
  rcases (cls_P hc vs).hits hh hp with ⟨v,rfl⟩ | ⟨b,v,rfl⟩
  ·exact .val v (.inr (.inr (.inr rfl)))
  ·exact .new b v (.inr (.inr rfl))
 | W =>
  obtain ⟨i,b,v,rfl,hl⟩:=(zN hc vs).hits hh hp
  obtain ⟨c,hc'⟩:=Option.isSome_iff_exists.1 hl
  exact .upd i b v rfl (by rw [nL ban st i c hc']; rfl)
 | X=>simp [hc,Cls.isX] at hx
theorem sH {a b:Nat} (h:a≠b):unlike (some a) (some b)=true:=by
 simp only [unlike,Bool.not_eq_true']
 cases hb:a.beq b with
 | false=>rfl
 | true=>exact absurd ((am _ _).1 hb) h
theorem f8 {a b:Option Nat} (h:unlike a b=true):unlike b a=true:=by
 cases a with
 | none=>cases b <;> rfl
 | some p =>
  cases b with
  | none=>rfl
  | some q=>exact sH (fun e=>by subst e; simp [unlike] at h)
theorem dK (st:ASt) {d d':Option Nat} (h:unlike d d'=true) (u v:AV):(st.put d u).put d' v=(st.put d' v).put d u:=by
 cases d with
 | none=>rfl
 | some d =>
  cases d' with
  | none=>rfl
  | some d' =>
   have hne:d≠d':=fun e=>by subst e; simp [unlike] at h
   simp only [ASt.put,ag]
   rw [List.set_comm _ _ hne]
theorem eJ (st:ASt) {i j:Nat} (h:i≠j) (b c:Option BC):(st.ab i b).ab j c=(st.ab j c).ab i b:=by
 simp only [ASt.ab,ag]
 rw [List.set_comm _ _ h]
theorem aF (st:ASt) (i:Nat) (b:Option BC) (d:Option Nat) (v:AV):(st.put d v).ab i b=(st.ab i b).put d v:=by cases d <;> rfl
theorem aN (st:ASt) (d d':Option Tmp) (v:AV):(st.put d v).nid d'=st.nid d':=by cases d' <;> simp [ASt.nid,jL]
theorem aT (st:ASt) (i:Nat) (b:Option BC) (d':Option Tmp):(st.ab i b).nid d'=st.nid d':=by cases d' <;> rfl
theorem nid_ne {d d':Nat} (h:d≠d'):st.nid (some d)≠st.nid (some d'):=by simp only [ASt.nid]; omega
theorem kI {e:Eff} {d:Option Nat} {c:Cls} (hm:Move c st e) (ha:e.app st d=some s1) :
  (∀ j,(∃ v,e=.val v)->s1.look j=st.look j)/\(∀ j b row,e=.new b row->s1.look j=if st.nid d=j then some b else st.look j)/\(∀ j i b v,e=.upd i b v->s1.look j=if i=j then some b else st.look j):=by
 refine ⟨fun j ⟨v,hv⟩=>?_,fun j b row hb=>?_,fun j i b v hu=>?_⟩
 ·subst hv
  simp only [Eff.app,Cz] at ha
  subst ha
  rw [aS]
 ·subst hb
  obtain ⟨dd,rfl,hl,hlt,rfl⟩:=bT ha
  rw [aS,af]
  by_cases h:st.nid (some dd)=j
  ·subst h; simp [hlt]
  ·simp [h]
 ·subst hu
  simp only [Eff.app,Cz] at ha
  subst ha
  rw [aS,af]
  cases hm with
  | upd _ _ _ _ hl =>
   obtain ⟨c,hc⟩:=Option.isSome_iff_exists.1 hl
   by_cases h:i=j
   ·subst h; simp [fb hc]
   ·simp [h]
theorem dS {ban:List Nat} {s t:ASt} (h:∀ j,j ∉ ban->s.look j=t.look j):banned ban s.look=banned ban t.look:=by
 funext j
 unfold banned
 cases hm:br j ban with
 | true=>rfl
 | false=>simp only [cond_false]; exact h j (fun e=>by rw [(bL _ _).2 e] at hm; cases hm)
theorem Aq {cx cy:Cls} {dx dy:Option Nat} {ex ey:Eff} (hu:unlike dx dy=true) (mx:Move cx st ex) (my:Move cy s1 ey) (hx:ex.app st dx=some s1) (hy:ey.app s1 dy=some s2)
  (hb:∀ i b v,ey=.upd i b v->(∃ b row,ex=.new b row)->st.nid dx≠i) (hw:∀ i b v i' b' v',ex=.upd i b v->ey=.upd i' b' v'->i≠i'):∃ s1',ey.app st dy=some s1'/\ex.app s1' dx=some s2:=by
 cases mx with
 | val u hc =>
  simp only [Eff.app,Cz] at hx
  subst hx
  cases my with
  | val v hc' =>
   simp only [Eff.app,Cz] at hy
   subst hy
   exact ⟨_,rfl,by simp only [Eff.app]; rw [dK st hu]⟩
  | new b v hc' =>
   obtain ⟨d,rfl,hl,hlt,rfl⟩:=bT hy
   rw [aS,aN] at hl
   rw [bp,aN] at hlt
   refine ⟨_,iB hl hlt,?_⟩
   simp only [Eff.app,Cz]
   rw [aF,dK _ hu,aN]
  | upd i b v hc' hl =>
   simp only [Eff.app,Cz] at hy
   subst hy
   refine ⟨_,rfl,?_⟩
   simp only [Eff.app,Cz]
   rw [aF,dK _ hu]
 | new b u hc =>
  obtain ⟨d,rfl,hl,hlt,rfl⟩:=bT hx
  have hlk:∀ j,((st.ab (st.nid (some d)) (some b)).put (some d) u).look j=if st.nid (some d)=j then some b else st.look j:=fun j=>by
   rw [aS,af]
   by_cases h:st.nid (some d)=j
   ·rw [if_pos ⟨h,hlt⟩,if_pos h]
   ·rw [if_neg (fun h'=>h h'.1),if_neg h]
  cases my with
  | val v hc' =>
   simp only [Eff.app,Cz] at hy
   subst hy
   refine ⟨_,rfl,?_⟩
   rw [iB (by rw [aS,aN]; exact hl) (by rw [bp,aN]; exact hlt),aN,aF,dK _ hu]
  | new b' v hc' =>
   obtain ⟨d',rfl,hl',hlt',rfl⟩:=bT hy
   have hne:d≠d':=fun e=>by subst e; simp [unlike] at hu
   have hni:st.nid (some d)≠st.nid (some d'):=nid_ne hne
   rw [aN,aT] at hl' hlt'
   rw [hlk,if_neg hni] at hl'
   have hlt2:st.nid (some d') < st.boxes.length:=by rw [bp] at hlt'; simpa [ASt.ab,ag] using hlt'
   refine ⟨_,iB hl' hlt2,?_⟩
   rw [iB (by rw [aS,aN,aT,af,if_neg (fun h=>hni h.1.symm)]; exact hl) (by rw [bp,aN,aT]; simpa [ASt.ab,ag] using hlt)]
   rw [aN,aT,aN,aT,aF,aF,eJ _ hni,dK _ (d:=some d) (d':=some d') hu]
  | upd i b' v hc' hl' =>
   simp only [Eff.app,Cz] at hy
   subst hy
   have hid:=hb i b' v rfl ⟨b,u,rfl⟩
   refine ⟨_,rfl,?_⟩
   rw [iB (by rw [aS,aN,aT,af,if_neg (fun h=>hid h.1.symm)]; exact hl) (by rw [bp,aN,aT]; simpa [ASt.ab,ag] using hlt)]
   rw [aN,aT,aF,aF,eJ _ hid,dK _ (d:=some d) (d':=dy) hu]
 | upd i b u hc hl =>
  simp only [Eff.app,Cz] at hx
  subst hx
  subst hc
  cases my with
  | val v hc' =>
   simp only [Eff.app,Cz] at hy
   subst hy
   refine ⟨_,rfl,?_⟩
   simp only [Eff.app,Cz]
   rw [aF,dK _ hu]
  | new b' v hc' =>
   obtain ⟨d',rfl,hl',hlt',rfl⟩:=bT hy
   rw [aN,aT] at hl' hlt'
   rw [aS,af] at hl'
   obtain ⟨c,hc2⟩:=Option.isSome_iff_exists.1 hl
   have hlt2:st.nid (some d') < st.boxes.length:=by rw [bp] at hlt'; simpa [ASt.ab,ag] using hlt'
   have hne:i≠st.nid (some d'):=fun e=>by rw [if_pos ⟨e,fb hc2⟩] at hl'; cases hl'
   have hl3:st.look (st.nid (some d'))=none:=by
    rw [if_neg (fun h=>hne h.1)] at hl'; exact hl'
   refine ⟨_,iB hl3 hlt2,?_⟩
   simp only [Eff.app,Cz]
   rw [aN,aT,aF,aF,eJ _ hne,dK _ (d:=some d') (d':=dx) (f8 hu)]
  | upd i' b' v hc' hl' =>
   have hne:=hw i b u i' b' v rfl rfl
   simp only [Eff.app,Cz] at hy
   subst hy
   refine ⟨_,rfl,?_⟩
   simp only [Eff.app,Cz]
   rw [aF,aF,eJ _ hne,dK _ hu]
theorem tU {p:Prop} [Decidable p] {c d:Cls} (h:(if p then c else .N)=d) (hd:d≠.N):c=d:=by
 by_cases hp:p
 ·rwa [if_pos hp] at h
 ·rw [if_neg hp] at h; exact absurd h.symm hd
theorem oJ {p:Prop} [Decidable p] {c:Cls} (h:(if p then c else .N)=.A\/(if p then c else .N)=.B\/(if p then c else .N)=.P):c.makes=true:=by
 rcases h with h | h | h <;> rw [tU h (by simp)] <;> rfl
theorem jZ {ps:List Nat} {s t:ASt} {d:Option Nat} {e:Eff} (hb:s.base=t.base) (h:∀ k,d=some k->nth (.one .junk) s.slots k=nth (.one .junk) t.slots k):bS ps s d e=bS ps t d e:=by
 unfold bS
 congr 1
 funext k
 cases d with
 | none=>rw [hb]
 | some d=>simp only [hb,h d rfl]
theorem gQ {i:Item} {s t:ASt} {e:Eff} (hb:s.base=t.base) (hd:∀ k,i.o.dst=some k->nth (.one .junk) s.slots k=nth (.one .junk) t.slots k) (h:i.o.op.operands.toList.map s.ev=i.o.op.operands.toList.map t.ev):cH i s e=cH i t e:=by
 unfold cH
 have:∀ b,iD s i.o.dst b=iD t i.o.dst b:=fun b=>by
  cases hk:i.o.dst with
  | none=>rfl
  | some d=>simp only [iD,hd d hk]
 have hD:∀ b,fM s i.o.dst b=fM t i.o.dst b:=fun b=>by
  cases hk:i.o.dst with
  | none=>rfl
  | some d=>simp only [fM,hd d hk]
 simp only [hb,h,this,hD]
theorem eS {a b:Option Nat} (h:unlike a b=true):∀ k,b=some k->a≠some k:=fun k hk e=>by subst hk; subst e; simp [unlike] at h
theorem As {ops : List Oper} {x y : Item} (hap : ca ops x.o y.o = true) (hxd : x.dr = true) (hyd : y.dr = true) (hxx : (aj x.o.op).isX = false) (hyx : (aj y.o.op).isX = false)
  (hbx:(aj x.o.op).makes=true->∀ d,x.o.dst=some d->d ∈ y.ban.1) (hby:(aj y.o.op).makes=true->∀ d,y.o.dst=some d->d ∈ x.ban.1)
  (hox:(aj y.o.op).reads=true->y.ban ∈ x.own) (hoy:(aj x.o.op).reads=true->x.ban ∈ y.own) (h1:OpP E C ops x st s1) (h2:OpP E C ops y s1 s2) :
  ∃ s1',OpP E C ops y st s1'/\OpP E C ops x s1' s2:=by
 simp only [ca,CB] at hap
 obtain ⟨⟨⟨⟨hg,hfx⟩,hfy⟩,hu⟩,_⟩:=hap
 obtain ⟨hfx1,hfx2⟩:=ar hfx
 obtain ⟨hfy1,hfy2⟩:=ar hfy
 have hu':unlike y.o.dst x.o.dst=true:=f8 hu
 have dec:∀ {i:Item} {s s':ASt},i.dr=true->(aj i.o.op).isX=false->OpP E C ops i s s'->∃ e,(aQ ops i.o s=some (some true)->bS i.push s i.o.dst e=true/\cH i s e=true)/\Move (if aQ ops i.o s=some (some true) then aj i.o.op else .N) s e/\e.nfE.app s i.o.dst=some s' /\
   ((aQ ops i.o s=some (some true)/\(opL E (s.nid i.o.dst) (banned (aM i.ban s.base) s.look) i.o.op (i.o.op.operands.toList.map s.ev)).hits C e/\(e.plain=true/\e.lX s.base i.own=true))\/(∃ b,aQ ops i.o s=some b/\b≠some true/\e=.val (.one .undef))):=by
  intro i s s' hd hx h
  rcases h with ⟨hg,e,k1,k2,k3⟩ | ⟨b,hg,hb,h⟩
  ·refine ⟨e,fun _=>(k2 hd).2,?_,k3,.inl ⟨hg,k1,(k2 hd).1⟩⟩
   rw [if_pos hg]
   exact pJ hx (k2 hd).1.1 k1
  ·refine ⟨.val (.one .undef),fun h=>absurd (Option.some.inj (hg.symm.trans h)) hb,?_,?_,.inr ⟨b,hg,hb,rfl⟩⟩
   ·rw [if_neg (by rw [hg]; simpa using hb)]
    exact .val _ (.inl rfl)
   ·rw [h]; rfl
 obtain ⟨ex,cx,mx,ax,hx⟩:=dec hxd hxx h1
 obtain ⟨ey,cy,my,ay,hy⟩:=dec hyd hyx h2
 have px:ex.nfE.plain=true:=by rw [mN]; cases mx <;> rfl
 have py:ey.nfE.plain=true:=by rw [mN]; cases my <;> rfl
 obtain ⟨sb1,_,so1⟩:=fx px ax
 have hb1:s1.base=st.base:=by simp [ASt.base,so1]
 have hn1:∀ d,s1.nid d=st.nid d:=fun d=>by cases d <;> simp [ASt.nid,so1]
 have hgy:aQ ops y.o s1=aQ ops y.o st:=jP sb1 hfx1
 have hvy:y.o.op.operands.toList.map s1.ev=y.o.op.operands.toList.map st.ev:=dC sb1 hfx2
 have inO:∀ {base:Nat} {own:List (List Nat × List Nat)} {ban:List Nat × List Nat} {i:Nat} {b:BC} {v:AV},Eff.lX base own (.upd i b v)=true->ban ∈ own->i ∈ aM ban base:=fun {base own ban i b v} h hm=>by
  simp only [Eff.lX,List.all_eq_true] at h
  exact (bL _ _).1 (h ban hm)
 have inBan:∀ {d:Nat} {ban:List Nat × List Nat} {s:ASt},d ∈ ban.1->s.nid (some d) ∈ aM ban s.base:=fun {d ban s} h=>List.mem_append_left _ (List.mem_map.2 ⟨d,h,rfl⟩)
 have hW:∀ i b v i' b' v',ex=.upd i b v->ey=.upd i' b' v'->i≠i':=by
  rintro i b v i' b' v' rfl rfl rfl
  rcases hx with ⟨_,_,_,ho⟩ | ⟨_,_,_,he⟩
  ·rcases hy with ⟨_,hh,_⟩ | ⟨_,_,_,he⟩
   ·have hWy:aj y.o.op=.W:=by
     cases my with
     | upd _ _ _ hc _=>exact tU hc (by simp)
    have hin:=inO ho (hox (by rw [hWy]; rfl))
    obtain ⟨i',b2,v2,he,hl⟩:=(zN hWy _).hits hh rfl
    cases he
    unfold banned at hl
    rw [hb1,(bL _ _).2 hin] at hl
    simp at hl
   ·cases he
  ·cases he
 have hban:∀ i b v,ey=.upd i b v->(∃ b row,ex=.new b row)->st.nid x.o.dst≠i:=by
  rintro i b v rfl ⟨b',row,rfl⟩ hd
  obtain ⟨d,hdx,_⟩:=bT ax
  rcases hy with ⟨_,hh,_⟩ | ⟨_,_,_,he⟩
  ·have hmk:(aj x.o.op).makes=true:=by
    cases mx with
    | new _ _ hc=>exact oJ hc
   have hin:=inBan (s:=st) (hbx hmk d hdx)
   have hW:aj y.o.op=.W:=by
    cases my with
    | upd _ _ _ hc _=>exact tU hc (by simp)
   obtain ⟨i',b2,v2,he,hl⟩:=(zN hW _).hits hh rfl
   cases he
   unfold banned at hl
   rw [hdx] at hd
   rw [hd] at hin
   rw [hb1,(bL _ _).2 hin] at hl
   simp at hl
  ·cases he
 have nfU:∀ {e:Eff} {i b v},e.nfE=.upd i b v->∃ v',e=.upd i b v':=fun {e i b v} h=>by
  cases e <;> simp only [Eff.nfE,Eff.upd.injEq,reduceCtorEq] at h
  obtain ⟨rfl,rfl,_⟩:=h
  exact ⟨_,rfl⟩
 have nfN:∀ {e:Eff},(∃ b v,e.nfE=.new b v)->∃ b v,e=.new b v:=fun {e} ⟨b,v,h⟩=>by
  cases e <;> simp only [Eff.nfE,Eff.new.injEq,reduceCtorEq] at h
  exact ⟨_,_,rfl⟩
 obtain ⟨s1',ay',ax'⟩:=Aq hu mx.nf my.nf ax ay (fun i b v hy hx=>by obtain ⟨v',h⟩:=nfU hy; exact hban i b v' h (nfN hx))
  (fun i b v i' b' v' hx hy=>by obtain ⟨u,h⟩:=nfU hx; obtain ⟨u',h'⟩:=nfU hy; exact hW i b u i' b' u' h h')
 obtain ⟨sb2,_,so2⟩:=fx py ay'
 have hb2:s1'.base=st.base:=by simp [ASt.base,so2]
 have hn2:∀ d,s1'.nid d=st.nid d:=fun d=>by cases d <;> simp [ASt.nid,so2]
 have hgx:aQ ops x.o s1'=aQ ops x.o st:=jP sb2 hfy1
 have hvx:x.o.op.operands.toList.map s1'.ev=x.o.op.operands.toList.map st.ev:=dC sb2 hfy2
 have readsOf:∀ {o:Op},(aj o).isX=false->¬ (aj o=.N\/aj o=.A)->(aj o).reads=true:=fun {o} hx hf=>by
  cases hc:aj o with
  | N=>exact absurd (.inl hc) hf
  | A=>exact absurd (.inr hc) hf
  | X=>rw [hc] at hx; cases hx
  | _=>rfl
 refine ⟨s1',?_,?_⟩
 ·rcases hy with ⟨hgv,hh,hp⟩ | ⟨b,hgv,hb,rfl⟩
  ·rw [hgy] at hgv
   have hcl:bS y.push st y.o.dst ey=true/\cH y st ey=true:=by
    rw [<- jZ hb1 (fun k hk=>sb1.2 k (eS hu k hk)),<- gQ (s:=s1) hb1 (fun k hk=>sb1.2 k (eS hu k hk)) hvy]
    exact cy (by rw [hgy]; exact hgv)
   refine .inl ⟨hgv,ey,?_,fun _=>⟨by rw [<- hb1]; exact hp,hcl⟩,ay'⟩
   rw [hvy,hn1,hb1] at hh
   by_cases hfree:aj y.o.op=.N\/aj y.o.op=.A
   ·rw [tf hfree]; exact hh
   ·have:banned (aM y.ban st.base) st.look=banned (aM y.ban st.base) s1.look:=by
     refine dS (fun j hj=>?_)
     obtain ⟨l1,l2,l3⟩:=kI mx.nf ax
     cases mx with
     | val u hc=>exact (l1 j ⟨_,rfl⟩).symm
     | new b row hc =>
      have hmk:(aj x.o.op).makes=true:=oJ hc
      rw [l2 j b _ rfl]
      obtain ⟨d,hdx,_⟩:=bT ax
      split
      ·rename_i hd
       rw [hdx] at hd
       exact absurd (hd ▸ inBan (s:=st) (hbx hmk d hdx)) hj
      ·rfl
     | upd i b v hc hl =>
      rw [l3 j i b _ rfl]
      split
      ·rename_i hij
       subst hij
       rcases hx with ⟨_,_,_,ho⟩ | ⟨_,_,_,he⟩
       ·exact absurd (inO ho (hox (readsOf hyx hfree))) hj
       ·cases he
      ·rfl
    rw [this]; exact hh
  ·rw [hgy] at hgv
   refine .inr ⟨b,hgv,hb,?_⟩
   simp only [Eff.nfE,Eff.app,Cz] at ay'
   exact ay'.symm
 ·rcases hx with ⟨hgv,hh,hp⟩ | ⟨b,hgv,hb,rfl⟩
  ·have hcl : bS x.push s1' x.o.dst ex = true ∧ cH x s1' ex = true := by
    rw [jZ hb2 (fun k hk=>sb2.2 k (eS hu' k hk)),gQ (s:=s1') hb2 (fun k hk=>sb2.2 k (eS hu' k hk)) hvx]
    exact cx hgv
   refine .inl ⟨by rw [hgx,hgv],ex,?_,fun _=>⟨by rw [hb2]; exact hp,hcl⟩,ax'⟩
   rw [hvx,hn2,hb2]
   by_cases hfree:aj x.o.op=.N\/aj x.o.op=.A
   ·rw [tf hfree]; exact hh
   ·have:banned (aM x.ban st.base) s1'.look=banned (aM x.ban st.base) st.look:=by
     refine dS (fun j hj=>?_)
     have my':Move (if aQ ops y.o s1=some (some true) then aj y.o.op else .N) st ey:=by
      cases my with
      | val v hc=>exact .val v hc
      | new b row hc=>exact .new b row hc
      | upd i b v hc hl =>
       refine .upd i b v hc ?_
       obtain ⟨l1,l2,l3⟩:=kI mx.nf ax
       cases mx with
       | val u hc=>rw [l1 i ⟨_,rfl⟩] at hl; exact hl
       | new b' row hc =>
        rw [l2 i b' _ rfl] at hl
        rw [if_neg (hban i b v rfl ⟨b',row,rfl⟩)] at hl
        exact hl
       | upd i' b' v' hc' hl' =>
        rw [l3 i i' b' _ rfl] at hl
        by_cases he:i'=i
        ·subst he; exact hl'
        ·rw [if_neg he] at hl; exact hl
     obtain ⟨l1,l2,l3⟩:=kI my'.nf ay'
     cases my' with
     | val u hc=>exact l1 j ⟨_,rfl⟩
     | new b row hc =>
      have hmk:(aj y.o.op).makes=true:=oJ hc
      rw [l2 j b _ rfl]
      obtain ⟨d,hdy,_⟩:=bT ay'
      split
      ·rename_i hd
       rw [hdy] at hd
       exact absurd (hd ▸ inBan (s:=st) (hby hmk d hdy)) hj
      ·rfl
     | upd i b v hc hl =>
      rw [l3 j i b _ rfl]
      split
      ·rename_i hij
       subst hij
       rcases hy with ⟨_,_,_,ho⟩ | ⟨_,_,_,he⟩
       ·rw [hb1] at ho
        exact absurd (inO ho (hoy (readsOf hxx hfree))) hj
       ·cases he
      ·rfl
    rw [this]; exact hh
  ·refine .inr ⟨b,by rw [hgx,hgv],hb,?_⟩
   simp only [Eff.nfE,Eff.app,Cz] at ax'
   exact ax'.symm
end
end Go.Ab
end
section
namespace Go.Ab
open Go.RowKit
theorem gG {k:Nat} {l:List Nat}:(!br k l)=true ↔ k ∉ l:=by
 rw [Bool.not_eq_true']
 constructor
 ·intro h hm
  rw [(bL _ _).2 hm] at h
  cases h
 ·intro h
  cases hb:br k l with
  | false=>rfl
  | true=>exact absurd ((bL _ _).1 hb) h
theorem iF {k s:Nat}:∀ {l:List AV} {n:Nat},eK k s n l=true ↔ ∀ t,n + t≠s->k ∉ (nth (.one .junk) l t).dm
 | [],n=>by simp [eK,nth,AV.dm,m9]
 | v :: l, n => by
  simp only [eK,CB,Bool.or_eq_true,iF (l:=l) (n:=n + 1),gG]
  constructor
  ·rintro ⟨h1,h2⟩ t ht
   cases t with
   | zero =>
    rcases h1 with h1 | h1
    ·exact absurd ((am _ _).1 h1) ht
    ·exact h1
   | succ t=>exact h2 t (by omega)
  ·intro h
   refine ⟨?_,fun t ht=>h (t + 1) (by omega)⟩
   by_cases hn:n=s
   ·exact .inl ((am _ _).2 hn)
   ·exact .inr (h 0 hn)
theorem ct {k:Nat}:∀ {l:List (Option BC)},df k l=true ↔ ∀ i b,nth none l i=some b->k ∉ b.kn
 | []=>by simp [df,nth]
 | some c :: l => by
  simp only [df,CB,ct (l:=l),gG]
  constructor
  ·rintro ⟨h1,h2⟩ i b hb
   cases i with
   | zero=>simp only [nth,Cz] at hb; subst hb; exact h1
   | succ i=>exact h2 i b hb
  ·intro h
   exact ⟨h 0 c rfl,fun i b hb=>h (i + 1) b hb⟩
 | none :: l => by
  simp only [df,ct (l:=l)]
  constructor
  ·intro h2 i b hb
   cases i with
   | zero=>simp only [nth,reduceCtorEq] at hb
   | succ i=>exact h2 i b hb
  ·intro h i b hb
   exact h (i + 1) b hb
structure Pu (st:ASt) (s m k:Nat):Prop where
 hk:k=st.base + m
 slot:nth (.one .junk) st.slots s=.one (.sref k 0 [])
 look:∃ x,st.look k=some (.tree [x])
 slots:∀ t,t≠s->k ∉ (nth (.one .junk) st.slots t).dm
 boxes:∀ i b,st.look i=some b->k ∉ b.kn
 out:k ∉ fj st.out
abbrev qr (k:Nat) (y:TV):Eff:=.gen [.drop k 0 [] false,.root k 0 y] (.one (.sref k 0 []))
def bi (st:ASt) (d:Option Tmp) (s k:Nat) (y:TV):ASt:=((st.put (some s) (.one .junk)).ab k (some (.tree [y]))).put d (.one (.sref k 0 []))
theorem se {k:Nat} {v:AV} (h:iX k v=true):v=.one (.sref k 0 []):=by
 unfold iX at h
 split at h
 ·rw [(am _ _).1 h]
 ·cases h
theorem ub {b:Option BC} (h:tO b=true):∃ x,b=some (.tree [x]):=by
 unfold tO at h
 split at h
 ·exact ⟨_,rfl⟩
 ·cases h
theorem eR {o:Item} {st:ASt} {e:Eff} (h:cD o st e=true):∃ s y,ao o.o.op=some s/\e=qr (st.base + o.root) y/\Pu st s o.root (st.base + o.root):=by
 unfold cD at h
 split at h
 ·rename_i s i y h1 h2
  simp only [CB] at h
  obtain ⟨⟨⟨⟨⟨a1,a2⟩,a3⟩,a4⟩,a5⟩,a6⟩:=h
  have a1:=(am _ _).1 a1
  subst a1
  exact ⟨s,y,h1,gZ h2,rfl,se a2,ub a3,fun t ht=>iF.1 a4 t (by omega),ct.1 a5,gG.1 a6⟩
 ·cases h
theorem ni {o:Item} {st:ASt} {s k:Nat} {y:TV} (hs:ao o.o.op=some s) (pu:Pu st s o.root k):cD o st (qr k y)=true:=by
 obtain ⟨x,hx⟩:=pu.look
 unfold cD
 simp only [hs,lS,CB]
 refine ⟨⟨⟨⟨⟨(am _ _).2 pu.hk,?_⟩,?_⟩,iF.2 (fun t ht=>pu.slots t (by omega))⟩,ct.2 pu.boxes⟩,gG.2 pu.out⟩
 ·rw [pu.slot]; exact (am _ _).2 rfl
 ·rw [hx]; rfl
theorem xy {k:Nat} {c:CA} (h:k ∉ m9 c):CA.drop k 0 [] false c=c:=by
 have key:∀ {i r:Nat} {p:Way},k≠i->cP k 0 [] false i r p=false:=fun {i r p} hne=>by
  have:k.beq i=false:=by
   cases hb:k.beq i with
   | false=>rfl
   | true=>exact absurd ((am _ _).1 hb) hne
  simp only [cP,this,Bool.false_and]
 cases c <;> first
  | rfl
  | (simp only [m9,List.mem_singleton] at h; simp only [CA.drop,key h,cond_false])
theorem jd {k:Nat}:∀ {l:List CA},k ∉ kg l->mapC (CA.drop k 0 [] false) l=l
 | [],_=>rfl
 | c :: l,h=>by
  simp only [kg,List.mem_append,not_or] at h
  simp only [mapC,xy h.1,jd h.2]
theorem tG {k:Nat}:∀ {l:List (Bool × List CA)},k ∉ pq l->iI (CA.drop k 0 [] false) l=l
 | [],_=>rfl
 | (b,c) :: l,h=>by
  simp only [pq,List.mem_append,not_or] at h
  simp only [iI,jd h.1,tG h.2]
theorem vI {k:Nat} {v:AV} (h:k ∉ v.dm):v.bE (CA.drop k 0 [] false)=v:=by
 cases v <;> simp only [AV.dm] at h <;> simp only [AV.bE]
 ·rw [xy h]
 ·rw [jd h]
 ·rw [tG h]
 ·rw [jd h]
theorem nQ {k:Nat}:∀ {l:List AV},(∀ t,k ∉ (nth (.one .junk) l t).dm)->bI (CA.drop k 0 [] false) l=l
 | [],_=>rfl
 | v :: l,h=>by
  simp only [bI]
  rw [vI (v:=v) (h 0),nQ (fun t=>h (t + 1))]
theorem qC {k:Nat}:∀ {l:List AV},k ∉ fj l->∀ t,k ∉ (nth (.one .junk) l t).dm
 | [],_,t=>by simp [nth,AV.dm,m9]
 | v :: l,h,t=>by
  simp only [fj,List.mem_append,not_or] at h
  cases t with
  | zero=>exact h.1
  | succ t=>exact qC h.2 t
theorem nO {k:Nat}:∀ {l:List (Option BC)},(∀ i b,nth none l i=some b->k ∉ b.kn)->dp (CA.drop k 0 [] false) l=l
 | [],_=>rfl
 | some b :: l,h=>by
  simp only [dp]
  rw [nO (fun i b hb=>h (i + 1) b hb)]
  have:=h 0 b rfl
  cases b with
  | cells cs=>simp only [BC.a9]; rw [jd this]
  | tree xs=>rfl
 | none :: l,h=>by
  simp only [dp]
  rw [nO (fun i b hb=>h (i + 1) b hb)]
theorem th {k:Nat}:∀ {l:List AV} {s:Nat},nth (.one .junk) l s=.one (.sref k 0 [])->(∀ t,t≠s->k ∉ (nth (.one .junk) l t).dm)->bI (CA.drop k 0 [] false) l=al l s (.one .junk)
 | [],s,h,_=>by simp [nth] at h
 | v :: l,0,h,hf=>by
  simp only [nth] at h
  subst h
  simp only [bI,al]
  rw [nQ (fun t=>hf (t + 1) (by omega))]
  simp [AV.bE,CA.drop,cP,leads]
 | v :: l,s + 1,h,hf=>by
  simp only [bI,al]
  rw [vI (v:=v) (hf 0 (by omega)),th (s:=s) h (fun t ht=>hf (t + 1) (by omega))]
theorem mQ {st:ASt} {s m k:Nat} {y:TV} {d:Option Tmp} (pu:Pu st s m k):(qr k y).app st d=some (bi st d s k y):=by
 obtain ⟨x,hx⟩:=pu.look
 have h1:st.ap (CA.drop k 0 [] false)=st.put (some s) (.one .junk):=by
  simp only [ASt.ap,ASt.put]
  rw [th pu.slot pu.slots,nO pu.boxes,nQ (qC pu.out)]
 have h2:(st.put (some s) (.one .junk)).look k=some (.tree [x]):=by rw [aS]; exact hx
 simp only [Eff.app,ac,Prim.app,h1,bN,h2,al,bi]
section
variable {E:Env} {C:Cal} {st s1 s2:ASt} {d:Option Tmp} {e:Eff} {s m k:Nat} {y:TV}
theorem uS {l:List AV} {t:Nat} {v:AV}:nth (.one .junk) (al l t v) t=v\/nth (.one .junk) (al l t v) t=.one .junk:=by
 rw [aI,ag,List.getElem?_set]
 by_cases h:t < l.length
 ·left; simp [h]
 ·right; simp [h]
theorem ju (hv:cK e\/cM e) (ha:e.app st d=some s1):iy d s1 st/\s1.out=st.out/\(∀ j b,st.look j=some b->s1.look j=some b) /\
  (∀ j b,s1.look j=some b->st.look j=some b\/((∀ r ∈ b.kn,r ∈ cN e)/\∃ dd,d=some dd/\j=st.base + dd/\cM e))/\(∀ t,d=some t->∀ r ∈ (nth (.one .junk) s1.slots t).dm,r ∈ cN e):=by
 have hp:e.plain=true:=by rcases hv with ⟨v,rfl⟩ | ⟨b,v,rfl⟩ <;> rfl
 obtain ⟨p1,_,p3⟩:=fx hp ha
 refine ⟨p1,p3,?_⟩
 rcases hv with ⟨v,rfl⟩ | ⟨b,v,rfl⟩
 ·simp only [Eff.app,Cz] at ha
  subst ha
  refine ⟨fun j b h=>by rw [aS]; exact h,fun j b h=>by rw [aS] at h; exact .inl h,fun t ht r hr=>?_⟩
  subst ht
  simp only [ASt.put] at hr
  rcases uS (l:=st.slots) (t:=t) (v:=v) with h | h
  ·rw [h] at hr; exact hr
  ·rw [h] at hr; cases hr
 ·obtain ⟨dd,rfl,h1,h2,rfl⟩:=bT ha
  refine ⟨fun j c h=>?_,fun j c h=>?_,fun t ht r hr=>?_⟩
  ·rw [aS,af,if_neg (fun hh=>by rw [hh.1,h] at h1; cases h1)]; exact h
  ·rw [aS,af] at h
   by_cases hj:st.nid (some dd)=j/\st.nid (some dd) < st.boxes.length
   ·rw [if_pos hj] at h
    simp only [Cz] at h
    subst h
    exact .inr ⟨fun r hr=>List.mem_append_left _ hr,dd,rfl,hj.1.symm,b,v,rfl⟩
   ·rw [if_neg hj] at h; exact .inl h
  ·have ht:=Option.some.inj ht
   subst ht
   simp only [ASt.put,ASt.ab] at hr
   rcases uS (l:=st.slots) (t:=dd) (v:=v) with h | h
   ·rw [h] at hr; exact List.mem_append_right _ hr
   ·rw [h] at hr; cases hr
theorem oa {ps:List Nat} (h:bS ps st d e=true) (hs:s ∈ ps):st.base + s ∉ cN e/\∀ t,d=some t->st.base + s ∉ (nth (.one .junk) st.slots t).dm:=by
 unfold bS at h
 rw [List.all_eq_true] at h
 have:=h s hs
 rw [CB] at this
 refine ⟨gG.1 this.1,fun t ht=>?_⟩
 subst ht
 exact gG.1 this.2
theorem Pu.back (pu:Pu s1 s m k) (hv:cK e\/cM e) (ha:e.app st d=some s1) (hd:d≠some s) (hdm:d≠some m) (hc:∀ t,d=some t->k ∉ (nth (.one .junk) st.slots t).dm):Pu st s m k:=by
 obtain ⟨f1,f2,f3,f4,f5⟩:=ju hv ha
 have hb:s1.base=st.base:=by simp [ASt.base,f2]
 have hk:=pu.hk
 rw [hb] at hk
 refine ⟨hk,by rw [<- f1.2 s hd]; exact pu.slot,?_,fun t ht=>?_,fun i b hi=>pu.boxes i b (f3 i b hi),by rw [<- f2]; exact pu.out⟩
 ·obtain ⟨x,hx⟩:=pu.look
  rcases f4 k _ hx with h | ⟨_,dd,hdd,h,_⟩
  ·exact ⟨x,h⟩
  ·exact absurd (Nat.add_left_cancel (h.symm.trans hk)) (fun h=>hdm (by rw [hdd]; exact congrArg some h))
 ·by_cases hdt:d=some t
  ·exact hc t hdt
  ·rw [<- f1.2 t hdt]; exact pu.slots t ht
theorem Pu.fwd (pu:Pu st s m k) (hv:cK e\/cM e) (ha:e.app st d=some s1) (hd:d≠some s) (hc:k ∉ cN e):Pu s1 s m k:=by
 obtain ⟨f1,f2,f3,f4,f5⟩:=ju hv ha
 have hb:s1.base=st.base:=by simp [ASt.base,f2]
 refine ⟨by rw [hb]; exact pu.hk,by rw [f1.2 s hd]; exact pu.slot,?_,fun t ht=>?_,fun i b hi=>?_,by rw [f2]; exact pu.out⟩
 ·obtain ⟨x,hx⟩:=pu.look
  exact ⟨x,f3 k _ hx⟩
 ·by_cases hdt:d=some t
  ·exact fun hm=>hc (f5 t hdt k hm)
  ·rw [f1.2 t hdt]; exact pu.slots t ht
 ·rcases f4 i b hi with h | ⟨h,_⟩
  ·exact pu.boxes i b h
  ·exact fun hm=>hc (h k hm)
theorem vX {s:Nat} (h:d≠some s):unlike d (some s)=true:=by
 cases d with
 | none=>rfl
 | some d=>exact sH (fun e=>h (by rw [e]))
theorem ql {dx dy:Option Tmp} {v:AV} (hds:dx≠some s) (hu:unlike dx dy=true):bi (st.put dx v) dy s k y=(bi st dy s k y).put dx v:=by
 simp only [bi]
 rw [dK _ (vX hds),aF,dK _ hu]
theorem wP {dy:Option Tmp} {i:Nat} {b:Option BC} (hi:k≠i):bi (st.ab i b) dy s k y=(bi st dy s k y).ab i b:=by
 simp only [bi]
 rw [aF _ i b dy,show (st.ab i b).put (some s) (.one .junk)=(st.put (some s) (.one .junk)).ab i b from (aF ..).symm,eJ _ (fun h=>hi h.symm)]
theorem er {dy:Option Tmp} (d':Option Tmp):(bi st dy s k y).nid d'=st.nid d':=by
 simp only [bi]
 rw [aN,aT,aN]
theorem iu {dy:Option Tmp} {j:Nat} (hj:k≠j):(bi st dy s k y).look j=st.look j:=by
 simp only [bi]
 rw [aS,af,if_neg (fun h=>hj h.1),aS]
theorem qV {dy:Option Tmp}:(bi st dy s k y).boxes.length=st.boxes.length:=by
 simp only [bi]
 rw [bp]
 simp only [ASt.ab,ag,List.length_set,bp]
theorem mg {dy:Option Tmp}:(bi st dy s k y).out=st.out:=by
 simp only [bi]
 rw [jL]
 simp only [ASt.ab,jL]
theorem gc {dy:Option Tmp} {t:Nat} (h1:t≠s) (h2:dy≠some t):nth (.one .junk) (bi st dy s k y).slots t=nth (.one .junk) st.slots t:=by
 simp only [bi]
 rw [ei _ _ _ _ h2]
 show nth (.one .junk) (st.put (some s) (.one .junk)).slots t=_
 rw [ei _ _ _ _ (fun e=>h1 (Option.some.inj e).symm)]
theorem sw {dx dy:Option Tmp} (hv:cK e\/cM e) (ha:e.app st dx=some s1) (hds:dx≠some s) (hdm:dx≠some m) (hu:unlike dx dy=true) (hk:k=st.base + m):e.app (bi st dy s k y) dx=some (bi s1 dy s k y):=by
 rcases hv with ⟨v,rfl⟩ | ⟨b,v,rfl⟩
 ·simp only [Eff.app,Cz] at ha
  subst ha
  simp only [Eff.app,ql hds hu]
 ·obtain ⟨dd,rfl,h1,h2,rfl⟩:=bT ha
  have hne:k≠st.nid (some dd):=fun h=>hdm (congrArg some (Nat.add_left_cancel (h.symm.trans hk:st.base + dd=st.base + m)))
  rw [iB (by rw [er,iu hne]; exact h1) (by rw [er,qV]; exact h2),er,ql hds hu,wP hne]
theorem yZ {dx dy:Option Tmp} (hv:cK e\/cM e) (ha:e.app (bi st dx s k y) dy=some s2) (hdm:dy≠some m) (hk:k=st.base + m):∃ s1,e.app st dy=some s1:=by
 rcases hv with ⟨v,rfl⟩ | ⟨b,v,rfl⟩
 ·exact ⟨_,rfl⟩
 ·obtain ⟨dd,rfl,h1,h2,rfl⟩:=bT ha
  have hne:k≠st.nid (some dd):=fun h=>hdm (congrArg some (Nat.add_left_cancel (h.symm.trans hk:st.base + dd=st.base + m)))
  rw [er,iu hne] at h1
  rw [er,qV] at h2
  exact ⟨_,iB h1 h2⟩
end
section
variable {E:Env} {C:Cal} {st s1 s2:ASt} {x y:Item} {s:Nat}
theorem bU {o:Op} (h:ao o=some s):aj o=.P/\s ∈ cp o.operands.toList:=by
 unfold ao at h
 split at h
 ·rename_i l h1 h2
  simp only [Cz] at h
  subst h
  rw [h2]
  exact ⟨h1,CG⟩
 ·cases h
theorem kw.grows (hd:x.dr=true) (hx:(aj x.o.op).isX=false) (hw:aj x.o.op≠.W) {e:Eff}
  (h1:(opL E (st.nid x.o.dst) (banned (aM x.ban st.base) st.look) x.o.op (x.o.op.operands.toList.map st.ev)).hits C e)
  (h2:x.dr=true->(e.plain=true/\e.lX st.base x.own=true)/\(bS x.push st x.o.dst e=true/\cH x st e=true)) :
  (cK e\/cM e)/\(cM e->(aj x.o.op).makes=true):=by
 have mx:=pJ hx (h2 hd).1.1 h1
 cases mx with
 | val v h=>exact ⟨.inl ⟨v,rfl⟩,fun ⟨b,v',h⟩=>by cases h⟩
 | new b v h=>exact ⟨.inr ⟨b,v,rfl⟩,fun _=>by rcases h with h | h | h <;> rw [h] <;> rfl⟩
 | upd i b v h hl=>exact absurd h hw
theorem tB {e:Eff} (h:cK e\/cM e):(cK e.nfE\/cM e.nfE)/\(cM e.nfE->cM e):=by
 rcases h with ⟨v,rfl⟩ | ⟨b,v,rfl⟩
 ·exact ⟨.inl ⟨_,rfl⟩,fun ⟨b,v',h⟩=>by cases h⟩
 ·exact ⟨.inr ⟨_,_,rfl⟩,fun _=>⟨_,_,rfl⟩⟩
theorem po {e:Eff} (h:cK e\/cM e) (b:Nat) (l:List (List Nat × List Nat)):e.lX b l=true:=by
 rcases h with ⟨v,rfl⟩ | ⟨b,v,rfl⟩ <;> rfl
theorem pf {e:Eff} (h:cK e\/cM e):e.plain=true:=by
 rcases h with ⟨v,rfl⟩ | ⟨b,v,rfl⟩ <;> rfl
theorem t9 {d:Nat} {ban:List Nat × List Nat} {b:Nat} (h:d ∈ ban.1):b + d ∈ aM ban b:=List.mem_append_left _ (List.mem_map.2 ⟨d,h,rfl⟩)
theorem jT {dy:Option Tmp} {k:Nat} {z:TV} {l:List Operand} (h1:s ∉ cp l) (h2:dl dy (cp l)=true):l.map (bi st dy s k z).ev=l.map st.ev:=by
 apply List.map_congr_left
 intro o ho
 cases o with
 | tmp t =>
  have ht:=ce ho
  exact gc (fun e=>h1 (e ▸ ht)) (fun e=>aV h2 t e ht)
 | const v=>cases v <;> rfl
 | _=>rfl
theorem yV (hs:ao y.o.op=some s) (hxd:x.dr=true) (hxx:(aj x.o.op).isX=false) (hxw:aj x.o.op≠.W) (hfx:dl x.o.dst (cp y.o.op.operands.toList)=true)
  (hfy:dl y.o.dst (cp x.o.op.operands.toList)=true) (hu:unlike x.o.dst y.o.dst=true) (hns:s ∉ cp x.o.op.operands.toList) (hbx:(aj x.o.op).makes=true->∀ d,x.o.dst=some d->d ∈ y.ban.1)
  (hsx:y.root ∈ x.ban.1) (hpx:y.root ∈ x.push) (hdm:x.o.dst≠some y.root) (h1:kw E C x st s1) (h2:ic E C y s1 s2):∃ s1',ic E C y st s1'/\kw E C x s1' s2:=by
 obtain ⟨ex,hhx,cx,ax⟩:=h1
 obtain ⟨ey,hhy,oy,ay⟩:=h2
 obtain ⟨s',z,hs',rfl,pu⟩:=eR oy
 rw [hs] at hs'
 cases hs'
 obtain ⟨gx,mkx⟩:=kw.grows hxd hxx hxw hhx cx
 obtain ⟨gx',mkx'⟩:=tB gx
 obtain ⟨f1,f2,f3,f4,f5⟩:=ju gx' ax
 have hb:s1.base=st.base:=by simp [ASt.base,f2]
 have hn:∀ d,s1.nid d=st.nid d:=fun d=>by cases d <;> simp [ASt.nid,f2]
 have hds:x.o.dst≠some s:=fun e=>aV hfx s e (bU hs).2
 obtain ⟨c1,c2⟩:=oa (cx hxd).2.1 hpx
 have pu0:Pu st s y.root (s1.base + y.root):=pu.back gx' ax hds hdm (by rw [hb]; exact c2)
 have ay':(qr (s1.base + y.root) z).app s1 y.o.dst=some s2:=ay
 rw [mQ pu] at ay'
 simp only [Cz] at ay'
 subst ay'
 have hk:s1.base + y.root=st.base + y.root:=by rw [hb]
 refine ⟨bi st y.o.dst s (s1.base + y.root) z,⟨qr (s1.base + y.root) z,?_,ni hs pu0,mQ pu0⟩,⟨ex,?_,fun hd=>⟨⟨pf gx,po gx _ _⟩,?_⟩,sw gx' ax hds hdm hu hk⟩⟩
 ·rw [dC f1 hfx, hn, hb] at hhy
  have:banned (aM y.ban st.base) st.look=banned (aM y.ban st.base) s1.look:=by
   refine dS (fun j hj=>?_)
   cases hl:s1.look j with
   | none =>
    cases hl0:st.look j with
    | none=>rfl
    | some b=>rw [f3 j b hl0] at hl; cases hl
   | some b =>
    rcases f4 j b hl with h | ⟨_,dd,hdd,h,hnew⟩
    ·exact h
    ·exfalso
     subst h
     exact hj (t9 (hbx (mkx (mkx' hnew)) dd hdd))
  rw [this,hb]; exact hhy
 ·have hout:(bi st y.o.dst s (s1.base + y.root) z).base=st.base:=by simp [ASt.base,mg]
  rw [jT hns hfy,er,hout]
  have:banned (aM x.ban st.base) (bi st y.o.dst s (s1.base + y.root) z).look=banned (aM x.ban st.base) st.look:=by
   refine dS (fun j hj=>iu (fun e=>?_))
   subst e
   rw [hb] at hj
   exact hj (t9 hsx)
  rw [this]; exact hhx
 ·have hout:(bi st y.o.dst s (s1.base + y.root) z).base=st.base:=by simp [ASt.base,mg]
  rw [jZ (t:=st) hout (fun t ht=>gc (fun e=>hds (by rw [ht,e])) (fun e=>(eS (f8 hu)) t ht e)),gQ (t:=st) hout (fun t ht=>gc (fun e=>hds (by rw [ht,e])) (fun e=>(eS (f8 hu)) t ht e)) (jT hns hfy)]
  exact (cx hd).2
theorem w9 (hs:ao x.o.op=some s) (hyd:y.dr=true) (hyx:(aj y.o.op).isX=false) (hyw:aj y.o.op≠.W) (hfx:dl x.o.dst (cp y.o.op.operands.toList)=true)
  (hfy:dl y.o.dst (cp x.o.op.operands.toList)=true) (hu:unlike x.o.dst y.o.dst=true) (hns:s ∉ cp y.o.op.operands.toList) (hby:(aj y.o.op).makes=true->∀ d,y.o.dst=some d->d ∈ x.ban.1)
  (hsy:x.root ∈ y.ban.1) (hpy:x.root ∈ y.push) (hdm:y.o.dst≠some x.root) (h1:ic E C x st s1) (h2:kw E C y s1 s2):∃ s1',kw E C y st s1'/\ic E C x s1' s2:=by
 obtain ⟨ex,hhx,ox,ax⟩:=h1
 obtain ⟨ey,hhy,cy,ay⟩:=h2
 obtain ⟨s',z,hs',rfl,pu⟩:=eR ox
 rw [hs] at hs'
 cases hs'
 have hu':=f8 hu
 have ax':(qr (st.base + x.root) z).app st x.o.dst=some s1:=ax
 rw [mQ pu] at ax'
 simp only [Cz] at ax'
 subst ax'
 have hout:(bi st x.o.dst s (st.base + x.root) z).base=st.base:=by simp [ASt.base,mg]
 obtain ⟨gy,mky⟩:=kw.grows hyd hyx hyw hhy cy
 obtain ⟨gy',mky'⟩:=tB gy
 have hds:y.o.dst≠some s:=fun e=>aV hfy s e (bU hs).2
 obtain ⟨s1',ay'⟩:=yZ gy' ay hdm rfl
 have he:=sw (y:=z) gy' ay' hds hdm hu' (rfl:st.base + x.root=st.base + x.root)
 rw [he] at ay
 simp only [Cz] at ay
 subst ay
 have hcs:bS y.push (bi st x.o.dst s (st.base + x.root) z) y.o.dst ey=bS y.push st y.o.dst ey:=jZ hout (fun t ht=>gc (fun e=>hds (by rw [ht,e])) (fun e=>(eS hu) t ht e))
 have hc:=(cy hyd).2
 rw [hcs,gQ (t:=st) hout (fun t ht=>gc (fun e=>hds (by rw [ht,e])) (fun e=>(eS hu) t ht e)) (jT hns hfx)] at hc
 obtain ⟨c1,c2⟩:=oa hc.1 hpy
 obtain ⟨f1,f2,f3,f4,f5⟩:=ju gy' ay'
 have hb:s1'.base=st.base:=by simp [ASt.base,f2]
 have hn:∀ d,s1'.nid d=st.nid d:=fun d=>by cases d <;> simp [ASt.nid,f2]
 have pu1:Pu s1' s x.root (st.base + x.root):=pu.fwd gy' ay' hds (by rw [bR]; exact c1)
 refine ⟨s1',⟨ey,?_,fun hd=>⟨⟨pf gy,po gy _ _⟩,hc⟩,ay'⟩,⟨qr (st.base + x.root) z,?_,ni hs pu1,mQ pu1⟩⟩
 ·rw [jT hns hfx,er,hout] at hhy
  have:banned (aM y.ban st.base) (bi st x.o.dst s (st.base + x.root) z).look=banned (aM y.ban st.base) st.look:=by
   refine dS (fun j hj=>iu (fun e=>?_))
   subst e
   exact hj (t9 hsy)
  rw [<- this]; exact hhy
 ·rw [dC f1 hfy, hn, hb]
  have:banned (aM x.ban st.base) s1'.look=banned (aM x.ban st.base) st.look:=by
   refine dS (fun j hj=>?_)
   cases hl:s1'.look j with
   | none =>
    cases hl0:st.look j with
    | none=>rfl
    | some b=>rw [f3 j b hl0] at hl; cases hl
   | some b =>
    rcases f4 j b hl with h | ⟨_,dd,hdd,h,hnew⟩
    ·exact h.symm
    ·exfalso
     subst h
     exact hj (t9 (hby (mky (mky' hnew)) dd hdd))
  rw [this]; exact hhx
theorem aE {ops:List Oper} {o:Oper} (h:o.guard.isNone=true) (t:ASt):aQ ops o t=some (some true):=by
 unfold aQ
 rw [Option.isNone_iff_eq_none.1 h]
theorem OpP.step {ops:List Oper} (h:x.o.guard.isNone=true):OpP E C ops x st s1->kw E C x st s1
 | .inl ⟨_,h'⟩=>h'
 | .inr ⟨b,hb,hne,_⟩=>by rw [aE h] at hb; exact absurd (Option.some.inj hb).symm hne
theorem zo {ops:List Oper} (hap:ca ops x.o y.o=true) (hxs:x.shut=false) (hys:y.shut=false) (hxl:x.loose=false) (hyl:y.loose=false) (hxd:x.dr=true) (hyd:y.dr=true) (hxx:(aj x.o.op).isX=false) (hyx:(aj y.o.op).isX=false)
  (hbx:(aj x.o.op).makes=true->∀ d,x.o.dst=some d->d ∈ y.ban.1) (hby:(aj y.o.op).makes=true->∀ d,y.o.dst=some d->d ∈ x.ban.1)
  (hox:(aj y.o.op).reads=true->y.ban ∈ x.own) (hoy:(aj x.o.op).reads=true->x.ban ∈ y.own)
  (hpx:∀ s,ao y.o.op=some s->y.root=jt ops 20 s/\y.root ∈ x.ban.1/\y.root ∈ x.push) (hpy:∀ s,ao x.o.op=some s->x.root=jt ops 20 s/\x.root ∈ y.ban.1/\x.root ∈ y.push) (h1:OpN E C ops x st s1) (h2:OpN E C ops y s1 s2) :
  ∃ s1',OpN E C ops y st s1'/\OpN E C ops x s1' s2:=by
 have hap':=hap
 simp only [ca,CB] at hap'
 obtain ⟨⟨⟨⟨hg,hfx⟩,hfy⟩,hu⟩,ha1,ha2⟩:=hap'
 rcases h1.parts hxd hxs hxl with p1 | ⟨g1,p1⟩
 ·rcases h2.parts hyd hys hyl with p2 | ⟨g2,p2⟩
  ·obtain ⟨s1',q1,q2⟩:=As hap hxd hyd hxx hyx hbx hby hox hoy p1 p2
   exact ⟨s1',q1.toN hys,q2.toN hxs⟩
  ·obtain ⟨s,z,hs,-⟩:=eR p2.choose_spec.2.1
   simp only [lh,hs,CB,gG] at ha2
   have hx:aj x.o.op≠.W:=fun h=>by rw [h,(bU hs).1] at hg; cases hg
   obtain ⟨s1',q1,q2⟩:=yV hs hxd hxx hx (ar hfx).2 (ar hfy).2 hu (fun h=>ha2.1.2 (List.mem_append_right _ h)) hbx (hpx s hs).2.1 (hpx s hs).2.2 (fun h=>aV ha2.2 _ h (by rw [(hpx s hs).1]; exact CG)) (p1.step ha2.1.1.2) p2
   exact ⟨s1',.inl ⟨aE ha2.1.1.1 _,q1.toN⟩,.inl ⟨aE ha2.1.1.2 _,q2.toN hxs⟩⟩
 ·obtain ⟨s,z,hs,-⟩:=eR p1.choose_spec.2.1
  simp only [lh,hs,CB,gG] at ha1
  rcases h2.parts hyd hys hyl with p2 | ⟨g2,p2⟩
  ·have hy:aj y.o.op≠.W:=fun h=>by rw [h,(bU hs).1] at hg; cases hg
   obtain ⟨s1',q1,q2⟩:=w9 hs hyd hyx hy (ar hfx).2 (ar hfy).2 hu (fun h=>ha1.1.2 (List.mem_append_right _ h)) hby (hpy s hs).2.1 (hpy s hs).2.2 (fun h=>aV ha1.2 _ h (by rw [(hpy s hs).1]; exact CG)) p1 (p2.step ha1.1.1.2)
   exact ⟨s1',.inl ⟨aE ha1.1.1.2 _,q1.toN hys⟩,.inl ⟨aE ha1.1.1.1 _,q2.toN⟩⟩
  ·obtain ⟨s',z',hs',-⟩:=eR p2.choose_spec.2.1
   rw [(bU hs).1,(bU hs').1] at hg
   cases hg
end
end Go.Ab
end

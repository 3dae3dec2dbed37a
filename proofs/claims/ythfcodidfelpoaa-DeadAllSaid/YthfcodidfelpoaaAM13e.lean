import Derived.Test.YthfcodidfelpoaaAM13b
import Derived.OrdersIn
set_option linter.all false
section
namespace Go.Ab
open Go.RowKit
def Prg.goes {R:Type} (C:Cal) (J:List Nat->ASt->R->Prop):Prg R->R->Prop
 | .fail,_=>False
 | .ret e',e=>e'=e
 | .tv p k,e=>∃ v,p=some v/\(k v).goes C J e
 | .tvs p k,e=>∃ v,p=some v/\(k v).goes C J e
 | .rws p k,e=>∃ v,p=some v/\(k v).goes C J e
 | .nat p k,e=>∃ v,p=some v/\(k v).goes C J e
 | .chk b k,e=>b=true/\k.goes C J e
 | .ite b t f,e=>∃ v,b=some v/\((v=true/\t.goes C J e)\/(v=false/\f.goes C J e))
 | .call f xs k,e=>∃ v,C f xs v/\(k v).goes C J e
 | .jmp p st,e=>J p st e
theorem Prg.eR {R S:Type} {C:Cal} {J:List Nat->ASt->S->Prop} {f:R->Prg S} {r:S}:∀ {p:Prg R},(p.bind f).goes C J r->∃ e,p.hits C e/\(f e).goes C J r
 | .fail,h=>h.elim
 | .ret e,h=>⟨e,rfl,h⟩
 | .tv p k,⟨v,h1,h⟩=>by obtain ⟨e,h2,h3⟩:=Prg.eR h; exact ⟨e,⟨v,h1,h2⟩,h3⟩
 | .tvs p k,⟨v,h1,h⟩=>by obtain ⟨e,h2,h3⟩:=Prg.eR h; exact ⟨e,⟨v,h1,h2⟩,h3⟩
 | .rws p k,⟨v,h1,h⟩=>by obtain ⟨e,h2,h3⟩:=Prg.eR h; exact ⟨e,⟨v,h1,h2⟩,h3⟩
 | .nat p k,⟨v,h1,h⟩=>by obtain ⟨e,h2,h3⟩:=Prg.eR h; exact ⟨e,⟨v,h1,h2⟩,h3⟩
 | .chk b k,⟨h1,h⟩=>by obtain ⟨e,h2,h3⟩:=Prg.eR (p:=k) h; exact ⟨e,⟨h1,h2⟩,h3⟩
 | .ite b t f,⟨v,h1,.inl ⟨h2,h⟩⟩=>by obtain ⟨e,h3,h4⟩:=Prg.eR (p:=t) h; exact ⟨e,⟨v,h1,.inl ⟨h2,h3⟩⟩,h4⟩
 | .ite b t f,⟨v,h1,.inr ⟨h2,h⟩⟩=>by obtain ⟨e,h3,h4⟩:=Prg.eR (p:=f) h; exact ⟨e,⟨v,h1,.inr ⟨h2,h3⟩⟩,h4⟩
 | .call f xs k,⟨v,h1,h⟩=>by obtain ⟨e,h2,h3⟩:=Prg.eR h; exact ⟨e,⟨v,h1,h2⟩,h3⟩
 | .jmp _ _,h=>h.elim
section
variable {P:Program} {E:Env} {C:Cal} {w0:Bs} {w w':World} {I0 I R:Nat->Prop} {g g':Gh} {st st' s1 s2:ASt} {a:Act} {ov:List Value} {look:Look} {Q:Exit->Act->World->Prop} {id:Nat}
def xf (E:Env) (C:Cal) (i:Item) (s s':ASt):Prop:=∃ e,(opL E (s.nid i.o.dst) (banned (aX i.ban s.base) s.look) i.o.op (i.o.op.operands.toList.map s.ev)).hits C e /\
 (i.dr=true->okE i s e=true)/\e.nfE.app s i.o.dst=some s'
def lW (E:Env) (C:Cal) (i:Item) (s s':ASt):Prop:=∃ e,(opL E (s.nid i.o.dst) (banned (aX i.ban s.base) s.look) i.o.op (i.o.op.operands.toList.map s.ev)).hits C e /\
 (i.dr=true->(e.plain=true/\e.ns s.base i.own=true)/\(ci i.push s i.o.dst e=true/\dc i s e=true))/\e.nfE.app s i.o.dst=some s'
def jc (E:Env) (C:Cal) (i:Item) (s s':ASt):Prop:=∃ e,(opL E (s.nid i.o.dst) (banned (aX i.ban s.base) s.look) i.o.op (i.o.op.operands.toList.map s.ev)).hits C e /\
 cZ i s e=true/\e.nfE.app s i.o.dst=some s'
def OpN (E:Env) (C:Cal) (ops:List Oper) (i:Item) (s s':ASt):Prop :=
 (bc ops i.o s=some (some true)/\xf E C i s s')\/(∃ b,bc ops i.o s=some b/\b≠some true/\s'=dR i.o s)
def OpP (E:Env) (C:Cal) (ops:List Oper) (i:Item) (s s':ASt):Prop :=
 (bc ops i.o s=some (some true)/\lW E C i s s')\/(∃ b,bc ops i.o s=some b/\b≠some true/\s'=dR i.o s)
theorem lW.toN {i:Item} (hsh:i.shut=false) {s s':ASt}:lW E C i s s'->xf E C i s s':=fun ⟨e,h1,h2,h3⟩=>⟨e,h1,fun hd=>by obtain ⟨⟨a,b⟩,c,d⟩:=h2 hd; simp only [okE,a,b,c,d,hsh,Bool.and_self,cond_false,Bool.true_or,Bool.or_true],h3⟩
theorem jc.toN {i:Item} {s s':ASt}:jc E C i s s'->xf E C i s s':=fun ⟨e,h1,h2,h3⟩=>⟨e,h1,fun hd=>by simp only [okE,h2,Bool.or_true],h3⟩
theorem OpP.toN {ops:List Oper} {i:Item} (hsh:i.shut=false) {s s':ASt}:OpP E C ops i s s'->OpN E C ops i s s'
 | .inl ⟨h,h'⟩=>.inl ⟨h,h'.toN hsh⟩
 | .inr h=>.inr h
theorem OpN.parts {ops:List Oper} {i:Item} {s s':ASt} (hd:i.dr=true) (hsh:i.shut=false) (hlo:i.loose=false):OpN E C ops i s s'->OpP E C ops i s s'\/(bc ops i.o s=some (some true)/\jc E C i s s')
 | .inr h=>.inl (.inr h)
 | .inl ⟨h, e, h1, h2, h3⟩ => by
  have h2:=h2 hd
  unfold okE at h2
  rw [hlo,hsh,Bool.false_and,Bool.false_or,Bool.or_eq_true] at h2
  rcases h2 with h2 | h2
  ·simp only [cond_false,FH] at h2
   exact .inl (.inl ⟨h,e,h1,fun _=>h2,h3⟩)
  ·exact .inr ⟨h,e,h1,h2,h3⟩
theorem BJ {i:Item} {s:ASt} {e:Eff} (h:okE i s e.nfE=true):okE i s e=true:=by
 unfold okE at h ⊢
 rw [Bool.or_eq_true] at h ⊢
 rcases h with h | h
 ·refine .inl ?_
  have:cr i s e.nfE=cr i s e:=by unfold cr; simp only [pm,yJ,sM]
  rwa [this] at h
 refine .inr ?_
 rw [Bool.or_eq_true] at h ⊢
 rcases h with h | h
 ·rw [oh,wV] at h
  have:ci i.push s i.o.dst e.nfE=ci i.push s i.o.dst e:=by unfold ci; rw [ck]
  rw [this] at h
  have e2:ip i s e.nfE=ip i s e:=by unfold ip; rw [kJ,ck]
  have e3:dc i s e.nfE=dc i s e:=by unfold dc; rw [ck,qz]
  rw [e2,e3] at h
  exact .inl h
 ·refine .inr ?_
  unfold cZ at h ⊢
  split at h
  ·rename_i s' j y h1 h2
   have he:=je h2
   have:e=e.nfE:=by
    cases e with
    | gen ps v =>
     simp only [Eff.nfE,Eff.gen.injEq] at he
     rcases aE v with h | ⟨b,h,_⟩
     ·show Eff.gen ps v=Eff.gen ps v.nf
      rw [h]
     ·rw [h] at he; cases he.2
    | _=>simp only [Eff.nfE,reduceCtorEq] at he
   rw [this,h1,h2]
   exact h
  ·cases h
inductive Bw (E:Env) (C:Cal) (ops:List Oper):List Item->ASt->ASt->Prop
 | nil (s:ASt):Bw E C ops [] s s
 | cons {i:Item} {l:List Item} {s s1 s':ASt} (h:OpN E C ops i s s1) (r:Bw E C ops l s1 s'):Bw E C ops (i :: l) s s'
theorem qD {v:TV} {b:Bool} (h:asBool v=some b):v=.lit (.bool b):=by
 unfold asBool at h
 split at h
 ·simp only [FG] at h; subst h; rfl
 ·cases h
theorem zm {T:Type} {J:List Nat->ASt->T->Prop} {i:Item} {K:ASt->Prg T} {r:T} (h:(nr E i K st).goes C J r):∃ st1,xf E C i st.nfS st1.nfS/\(K st1).goes C J r:=by
 unfold nr at h
 obtain ⟨e,h1,h2⟩:=Prg.eR h
 obtain ⟨e',h3,h4⟩:=opL_nf h1
 unfold effQ at h2
 cases hc:i.dr && !(okE i st e) with
 | true=>rw [hc] at h2; exact h2.elim
 | false =>
  rw [hc] at h2
  simp only [cond_false] at h2
  split at h2
  ·rename_i st1 ha
   refine ⟨st1,⟨e',?_,fun hd=>?_,?_⟩,h2⟩
   ·have:i.o.op.operands.toList.map st.nfS.ev=(i.o.op.operands.toList.map st.ev).map AV.nf:=by
     rw [List.map_map]
     apply List.map_congr_left
     intro x _
     exact tG st x
    rw [this,wi,pd,l8]
    exact h3
   ·refine BJ ?_
    rw [h4]
    exact okE_nf (by simpa [hd] using hc)
   ·rw [h4]
    exact app_nf ha
  ·exact h2.elim
theorem qP {g:Nat} {v v':AV} (h:nth (.one .junk) st.slots g=v) (hv:v.nf=v'.nf):(st.put (some g) v').nfS=st.nfS:=by
 rw [jr]
 simp only [ASt.put]
 have:ak st.nfS.slots g v'.nf=st.nfS.slots:=by
  rw [ah]
  apply List.ext_getElem?
  intro t
  rw [List.getElem?_set]
  by_cases ht:g=t
  ·subst ht
   cases hs:st.slots[g]? with
   | none =>
    have:st.nfS.slots[g]? = none:=by simp [ASt.nfS,hs]
    have hlt:¬ g < st.nfS.slots.length:=by
     intro hlt
     rw [FF hlt] at this
     cases this
    simp [hlt]
   | some u =>
    rw [bT hs] at h
    subst h
    have hlt:g < st.nfS.slots.length:=by simp [ASt.nfS]; exact (FE.1 hs).1
    simp only [if_true,hlt]
    rw [<- hv]
    simp [ASt.nfS,hs]
  ·simp [ht]
 rw [this]
theorem jO {T:Type} {J:List Nat->ASt->T->Prop} {ops:List Oper} {i:Item} {K:ASt->Prg T} {r:T} (h:(opQ E ops i K st).goes C J r):∃ st1,OpN E C ops i st.nfS st1.nfS/\(K st1).goes C J r:=by
 unfold opQ at h
 have skip:∀ {s:ASt} {b:Option Bool},s.nfS=st.nfS->bc ops i.o st.nfS=some b->b≠some true->(K (dR i.o s)).goes C J r->∃ st1,OpN E C ops i st.nfS st1.nfS/\(K st1).goes C J r:=by
  intro s b he hg hb hk
  refine ⟨_,.inr ⟨b,hg,hb,?_⟩,hk⟩
  simp only [dR]
  rw [jr,he]
  rfl
 have run:∀ {s:ASt},s.nfS=st.nfS->bc ops i.o st.nfS=some (some true)->(nr E i K s).goes C J r->∃ st1,OpN E C ops i st.nfS st1.nfS/\(K st1).goes C J r:=by
  intro s he hg hk
  obtain ⟨st1,h1,h2⟩:=zm hk
  rw [he] at h1
  exact ⟨st1,.inl ⟨hg,h1⟩,h2⟩
 cases hg:i.o.guard with
 | none =>
  simp only [hg] at h
  exact run rfl (by simp [bc,hg]) h
 | some q =>
  obtain ⟨j,want⟩:=q
  simp only [hg] at h
  cases hd:(ops[j]?).bind (·.dst) with
  | none=>simp only [hd] at h; exact h.elim
  | some g =>
   simp only [hd] at h
   have gv:∀ {v:AV},nth (.one .junk) st.slots g=v->bc ops i.o st.nfS=(match v.nf with | .one .undef=>some none | .bl b=>some (some (b == want)) | _=>none):=by
    intro v hv
    simp only [bc,hg,hd,jM,hv]
    generalize v.nf=u
    cases u with
    | one c=>cases c <;> rfl
    | _=>rfl
   have ite:∀ {v:TV} {x y:Prg T},(Prg.ite (asBool v) x y).goes C J r->∃ b,v=.lit (.bool b)/\(bif b then x else y).goes C J r:=by
    rintro v x y ⟨b,hb,h⟩
    refine ⟨b,qD hb,?_⟩
    rcases h with ⟨rfl,h⟩ | ⟨rfl,h⟩ <;> exact h
   cases hs:nth (.one .junk) st.slots g with
   | one c =>
    simp only [hs] at h
    cases c with
    | undef=>exact skip rfl (by rw [gv hs]; rfl) (by simp) h
    | t v =>
     obtain ⟨b,rfl,h'⟩:=ite h
     have he:(st.put (some g) (.bl b)).nfS=st.nfS:=qP hs rfl
     have hgd:=gv hs
     simp only [AV.nf] at hgd
     cases b <;> cases want <;> simp only [cond_true,cond_false] at h'
     ·exact run he (by rw [hgd]; rfl) h'
     ·exact skip (b:=some false) he (by rw [hgd]; rfl) (by simp) h'
     ·exact skip (b:=some false) he (by rw [hgd]; rfl) (by simp) h'
     ·exact run he (by rw [hgd]; rfl) h'
    | _=>exact h.elim
   | agg cs=>simp only [hs] at h; exact h.elim
   | tups cs=>simp only [hs] at h; exact h.elim
   | clo _ cs=>simp only [hs] at h; exact h.elim
   | tv v =>
    simp only [hs] at h
    obtain ⟨b,rfl,h'⟩:=ite h
    have he:(st.put (some g) (.bl b)).nfS=st.nfS:=qP hs rfl
    have hgd:=gv hs
    simp only [AV.nf] at hgd
    cases b <;> cases want <;> simp only [cond_true,cond_false] at h'
    ·exact run he (by rw [hgd]; rfl) h'
    ·exact skip (b:=some false) he (by rw [hgd]; rfl) (by simp) h'
    ·exact skip (b:=some false) he (by rw [hgd]; rfl) (by simp) h'
    ·exact run he (by rw [hgd]; rfl) h'
   | bl b =>
    simp only [hs] at h
    have hgd:=gv hs
    simp only [AV.nf] at hgd
    cases b <;> cases want <;> simp only [cond_true,cond_false] at h
    ·exact run rfl (by rw [hgd]; rfl) h
    ·exact skip (b:=some false) rfl (by rw [hgd]; rfl) (by simp) h
    ·exact skip (b:=some false) rfl (by rw [hgd]; rfl) (by simp) h
    ·exact run rfl (by rw [hgd]; rfl) h
theorem km {T:Type} {J:List Nat->ASt->T->Prop} {ops:List Oper} {K:ASt->Prg T} {r:T}:∀ {l:List Item} {st:ASt},(Ce E ops l K st).goes C J r->∃ fin,Bw E C ops l st.nfS fin.nfS/\(K fin).goes C J r
 | [],st,h=>⟨st,.nil _,h⟩
 | i :: l,st,h=>by
  simp only [Ce,lh] at h
  obtain ⟨st1,h1,h2⟩:=jO h
  obtain ⟨fin,h3,h4⟩:=km h2
  exact ⟨fin,.cons h1 h3,h4⟩
theorem qn (ban:List Nat) (st:ASt):∀ i b,banned ban st.look i=some b->st.look i=some b:=fun i b h=>by
 unfold banned at h
 cases hm:bO i ban with
 | true=>simp [hm] at h
 | false=>simpa [hm] using h
theorem nR {ops:Array Oper} {o:Oper} {j:Nat} {want:Bool} {t:Tmp} (hg:(ops[j]?).bind (·.dst)=some t) (hs:ai w0 I0 R g st a ov w) {b:Option Bool} (hv:bc ops.toList o st=some b) (ho:o.guard=some (j,want)) :
  (Region.wanted o (yielded ops a.tmps)=true ↔ b=some true):=by
 have hg':(ops.toList[j]?).bind (·.dst)=some t:=by rw [FI]; exact hg
 simp only [bc,ho,hg'] at hv
 simp only [Region.wanted,ho,yielded,hg,Option.bind_some]
 cases hsl:st.slots[t]? with
 | none=>rw [aS,hsl] at hv; simp at hv
 | some v =>
  have hrep:=hs.slots t v hsl
  have hlt:t < a.tmps.size:=by rw [hs.len]; exact (FE.1 hsl).1
  have hget:a.tmps[t]? = some (a.tmps.getD t undef):=by simp [hlt]
  rw [bT hsl] at hv
  obtain ⟨u,hu⟩:∃ u,u=a.tmps.getD t undef:=⟨_,rfl⟩
  rw [<- hu] at hrep hget
  rw [hget]
  split at hv
  ·simp only [FG] at hv
   subst hv
   have:u=undef:=hrep
   subst this
   simp [undef]
  ·simp only [FG] at hv
   subst hv
   have:u=.bool _:=hrep
   subst this
   simp
  ·cases hv
def Rd (ro:Option Nat):Fence:={ Fence.wide with round:=ro }
theorem rd_in {ro:Option Nat} {P:Program} {m m':Machine}:StepsIn (Machine.fenced P (Rd ro)) P m m' ↔ Steps P m m':=stepsIn_wide
theorem f9 {ro:Option Nat} {n:Nat} {P:Program} {f:FuncId} {args:Array Value} {w:World} {R:Ending->World->Prop}:CallsIn (Rd ro) n P f args w R ↔ Calls P f args w R:=callsIn_wide
theorem EW {ro:Option Nat} (n:Nat):(Rd ro).room n:=room_wide n
theorem zA {ro:Option Nat} {o:Oper} (hd:∀ c,o.op≠.defer c) {a:Act} {w:World} {next:Act->World->Prop} {Q:Exit->Act->World->Prop} (h:o.wp P a w next Q):o.wpIn (Rd ro) 0 P a w next Q:=by
 refine ⟨fun _ _=>trivial,?_⟩
 rw [Oper.semAt_eq _ _ _ hd]
 unfold Oper.wp at h
 generalize (execOp a.eval o).run P w=r at *
 cases r with
 | ok x w' =>
  cases x <;> simp only [Oper.upon] at h <;> simp only [Oper.uponIn] <;>
   first
    | exact h
    | exact ⟨fun h=>by simp [Rd,Fence.wide] at h,f9.2 h⟩
    | exact ⟨fun h=>by simp [Rd,Fence.wide] at h,fun c cs _=>by obtain ⟨v,w',r,s⟩:=h c cs; exact ⟨v,w',r,rd_in.2 s⟩⟩
 | halt x w'=>cases x <;> simp only [Oper.upon] at h <;> simp only [Oper.uponIn] <;> exact h
theorem mH (hE:gR P w0.G E C) {ops:Array Oper} {n:Nat} {i:Item} (hn:ops[n]? = some i.o) (hs:Sim w0 I0 st a ov w) (h:OpN E C ops.toList i st st') {ro:Option Nat}:wpOpIn (Rd ro) 0 P ops Q n (fun a' w'=>Sim w0 I0 st' a' ov w') a w:=by
 obtain ⟨g,hs⟩:=hs
 unfold wpOpIn
 rw [hn]
 simp only []
 have run:xf E C i st st'->i.o.wpIn (Rd ro) 0 P a w (fun a' w'=>Sim w0 I0 st' a' ov w') Q:=fun ⟨e,h1,_,h3⟩=>by
  obtain ⟨st1,h4,h5⟩:=Ah h3
  refine zA (fun c hc=>?_) (Oper.wp_mono (fun a' w' hh=>h5 w0 I0 a' ov w' hh) (Cv hE (qn _ st) hs h1 h4))
  rw [hc] at h1
  simp only [opL] at h1
  exact h1.elim
 have skip:st'=dR i.o st->Sim w0 I0 st' (a.put i.o.dst undef) ov w:=fun h=>by
  subst h
  exact ⟨g,hs.put i.o.dst (v:=.one .undef) rfl⟩
 cases hg:i.o.guard with
 | none =>
  have hw:Region.wanted i.o (yielded ops a.tmps)=true:=by simp [Region.wanted,hg]
  rw [if_pos hw]
  rcases h with ⟨_,h⟩ | ⟨b,hb,hne,_⟩
  ·exact run h
  ·simp [bc,hg] at hb
   exact absurd hb.symm hne
 | some q =>
  obtain ⟨j,want⟩:=q
  cases hd:(ops[j]?).bind (·.dst) with
  | none =>
   have hd':(ops.toList[j]?).bind (·.dst)=none:=by rw [FI]; exact hd
   rcases h with ⟨h,_⟩ | ⟨b,hb,_⟩
   ·simp only [bc,hg,hd'] at h; cases h
   ·simp only [bc,hg,hd'] at hb; cases hb
  | some t =>
   rcases h with ⟨hv,h⟩ | ⟨b,hv,hne,h⟩
   ·rw [if_pos ((nR hd hs hv hg).2 rfl)]
    exact run h
   ·rw [if_neg (fun hw=>hne ((nR hd hs hv hg).1 hw))]
    exact ⟨fun _ _=>trivial,skip h⟩
theorem cD {t:Nat}:∀ {l:List Operand},.tmp t ∈ l->t ∈ cQ l
 | x :: l, h => by
  rcases List.mem_cons.1 h with rfl | h
  ·simp [cQ]
  ·have:=cD h
   cases x <;> simp [cQ,this]
theorem bd {d:Option Nat} {l:List Nat} (h:dO d l=true):∀ t,d=some t->t ∉ l:=fun t ht hm=>by
 subst ht
 simp only [dO,Bool.not_eq_true',] at h
 rw [(cb _ _).2 hm] at h
 cases h
def jq (d:Option Nat) (s t:ASt):Prop:=s.slots.length=t.slots.length/\∀ k,d≠some k->nth (.one .junk) s.slots k=nth (.one .junk) t.slots k
theorem fh (st:ASt) (d:Option Tmp) (v:AV) (k:Nat) (h:d≠some k):nth (.one .junk) (st.put d v).slots k=nth (.one .junk) st.slots k:=by
 cases d with
 | none=>rfl
 | some d =>
  have:d≠k:=fun e=>h (by rw [e])
  simp only [ASt.put,ah,aS,List.getElem?_set,this,if_false]
theorem El {d:Option Nat} {s t:ASt} (h:jq d s t) {x:Operand} (hx:∀ k,x=.tmp k->d≠some k):s.ev x=t.ev x:=by
 cases x with
 | tmp k=>exact h.2 k (hx k rfl)
 | const v=>cases v <;> rfl
 | _=>rfl
theorem ej {d:Option Nat} {s t:ASt} (h:jq d s t) {l:List Operand} (hx:dO d (cQ l)=true):l.map s.ev=l.map t.ev:=by
 apply List.map_congr_left
 intro x hxl
 refine El h (fun k hk e=>?_)
 subst hk
 exact bd hx k e (cD hxl)
theorem kI {d:Option Nat} {s t:ASt} {ops:List Oper} {o:Oper} (h:jq d s t) (hx:dO d (pz ops o)=true):bc ops o s=bc ops o t:=by
 unfold bc
 cases hg:o.guard with
 | none=>rfl
 | some q =>
  obtain ⟨j,want⟩:=q
  simp only []
  cases hd:(ops[j]?).bind (·.dst) with
  | none=>rfl
  | some g =>
   have:nth (.one .junk) s.slots g=nth (.one .junk) t.slots g:=h.2 g (fun e=>bd hx g e (by simp [pz,hg,hd]))
   simp only [this]
theorem qM (n:Nat):∀ (a b:List Nat),bO n (a ++ b)=(bO n a || bO n b)
 | [],b=>rfl
 | x :: a,b=>by
  simp only [List.cons_append,bO]
  cases x.beq n <;> simp [qM n a b]
theorem aA {d:Option Nat} {a b:List Nat} (h:dO d (a ++ b)=true):dO d a=true/\dO d b=true:=by
 cases d with
 | none=>exact ⟨rfl,rfl⟩
 | some d =>
  simp only [dO,qM,Bool.not_or,FH] at h
  exact h
theorem cm {b:BC} {v:AV} {d:Option Tmp} (ha:(Eff.new b v).app st d=some st'):∃ d',d=some d'/\st.look (st.nid d)=none/\st.nid d < st.boxes.length/\st'=(st.ac (st.nid d) (some b)).put d v:=by
 cases d with
 | none=>simp [Eff.app] at ha
 | some d =>
  simp only [Eff.app] at ha
  split at ha
  ·rename_i s1 hs1
   obtain ⟨h1,h2,rfl⟩:=bm hs1
   simp only [FG] at ha
   exact ⟨d,rfl,h1,h2,ha.symm⟩
  ·cases ha
theorem jt {b:BC} {v:AV} {d:Tmp} (h1:st.look (st.nid (some d))=none) (h2:st.nid (some d) < st.boxes.length):(Eff.new b v).app st (some d)=some ((st.ac (st.nid (some d)) (some b)).put (some d) v):=by
 have h2':(st.nid (some d)).blt st.boxes.length=true:=by simpa using h2
 simp only [Eff.app,ASt.bz,h1,h2',cond_true]
theorem gz {e:Eff} {d:Option Nat} (hp:e.plain=true) (ha:e.app st d=some st'):jq d st' st/\st'.boxes.length=st.boxes.length/\st'.out=st.out:=by
 cases e with
 | val v =>
  simp only [Eff.app,FG] at ha
  subst ha
  refine ⟨⟨?_,fun k hk=>fh st d v k hk⟩,by rw [bN],by rw [kB]⟩
  cases d <;> simp [ASt.put,ah]
 | new b v =>
  obtain ⟨dd,rfl,hl,hlt,rfl⟩:=cm ha
  refine ⟨⟨?_,fun k hk=>?_⟩,by rw [bN]; simp [ASt.ac,ah],by rw [kB]; rfl⟩
  ·simp [ASt.put,ASt.ac,ah]
  ·rw [fh _ _ _ _ hk]; rfl
 | upd i b v =>
  simp only [Eff.app,FG] at ha
  subst ha
  refine ⟨⟨?_,fun k hk=>?_⟩,by rw [bN]; simp [ASt.ac,ah],by rw [kB]; rfl⟩
  ·cases d <;> simp [ASt.put,ASt.ac,ah]
  ·rw [fh _ _ _ _ hk]; rfl
 | _=>simp [Eff.plain] at hp
inductive Move (c:Cls) (st:ASt):Eff->Prop
 | val (v:AV) (h:c=.N\/c=.R\/c=.B\/c=.P):Move c st (.val v)
 | new (b:BC) (v:AV) (h:c=.A\/c=.B\/c=.P):Move c st (.new b v)
 | upd (i:Nat) (b:BC) (v:AV) (h:c=.W) (hl:(st.look i).isSome=true):Move c st (.upd i b v)
theorem Move.nf {c:Cls} {e:Eff} (h:Move c st e):Move c st e.nfE:=by
 cases h with
 | val v h=>exact .val _ h
 | new b v h=>exact .new _ _ h
 | upd i b v h hl=>exact .upd _ _ _ h hl
theorem rF {op:Op} {ban:List Nat} {vs:List AV} {e:Eff} (hx:(am op).isX=false) (hp:e.plain=true) (hh:(opL E id (banned ban st.look) op vs).hits C e):Move (am op) st e:=by
 cases hc:am op with
 | N=>obtain ⟨v,rfl⟩:=(Fv hc vs).hits hh; exact .val v (.inl rfl)
 | R=>obtain ⟨v,rfl⟩:=(Cc hc vs).hits hh; exact .val v (.inr (.inl rfl))
 | A=>obtain ⟨b,row,rfl⟩:=(cls_A hc vs).hits hh; exact .new b row (.inl rfl)
 | B =>
  rcases (cls_B hc vs).hits hh hp with ⟨v,rfl⟩ | ⟨b,v,rfl⟩
  ·exact .val v (.inr (.inr (.inl rfl)))
  ·exact .new b v (.inr (.inl rfl))
 | P =>
  rcases (cls_P hc vs).hits hh hp with ⟨v,rfl⟩ | ⟨b,v,rfl⟩
  ·exact .val v (.inr (.inr (.inr rfl)))
  ·exact .new b v (.inr (.inr rfl))
 | W =>
  obtain ⟨i,b,v,rfl,hl⟩:=(B9 hc vs).hits hh hp
  obtain ⟨c,hc'⟩:=Option.isSome_iff_exists.1 hl
  exact .upd i b v rfl (by rw [qn ban st i c hc']; rfl)
 | X=>simp [hc,Cls.isX] at hx
theorem va {a b:Nat} (h:a≠b):unlike (some a) (some b)=true:=by
 simp only [unlike,Bool.not_eq_true']
 cases hb:a.beq b with
 | false=>rfl
 | true=>exact absurd ((ap _ _).1 hb) h
theorem gT {a b:Option Nat} (h:unlike a b=true):unlike b a=true:=by
 cases a with
 | none=>cases b <;> rfl
 | some p =>
  cases b with
  | none=>rfl
  | some q=>exact va (fun e=>by subst e; simp [unlike] at h)
theorem en (st:ASt) {d d':Option Nat} (h:unlike d d'=true) (u v:AV):(st.put d u).put d' v=(st.put d' v).put d u:=by
 cases d with
 | none=>rfl
 | some d =>
  cases d' with
  | none=>rfl
  | some d' =>
   have hne:d≠d':=fun e=>by subst e; simp [unlike] at h
   simp only [ASt.put,ah]
   rw [List.set_comm _ _ hne]
theorem fQ (st:ASt) {i j:Nat} (h:i≠j) (b c:Option BC):(st.ac i b).ac j c=(st.ac j c).ac i b:=by
 simp only [ASt.ac,ah]
 rw [List.set_comm _ _ h]
theorem aO (st:ASt) (i:Nat) (b:Option BC) (d:Option Nat) (v:AV):(st.put d v).ac i b=(st.ac i b).put d v:=by cases d <;> rfl
theorem aZ (st:ASt) (d d':Option Tmp) (v:AV):(st.put d v).nid d'=st.nid d':=by cases d' <;> simp [ASt.nid,kB]
theorem be (st:ASt) (i:Nat) (b:Option BC) (d':Option Tmp):(st.ac i b).nid d'=st.nid d':=by cases d' <;> rfl
theorem nid_ne {d d':Nat} (h:d≠d'):st.nid (some d)≠st.nid (some d'):=by simp only [ASt.nid]; omega
theorem lI {e:Eff} {d:Option Nat} {c:Cls} (hm:Move c st e) (ha:e.app st d=some s1) :
  (∀ j,(∃ v,e=.val v)->s1.look j=st.look j)/\(∀ j b row,e=.new b row->s1.look j=if st.nid d=j then some b else st.look j)/\(∀ j i b v,e=.upd i b v->s1.look j=if i=j then some b else st.look j):=by
 refine ⟨fun j ⟨v,hv⟩=>?_,fun j b row hb=>?_,fun j i b v hu=>?_⟩
 ·subst hv
  simp only [Eff.app,FG] at ha
  subst ha
  rw [bg]
 ·subst hb
  obtain ⟨dd,rfl,hl,hlt,rfl⟩:=cm ha
  rw [bg,ag]
  by_cases h:st.nid (some dd)=j
  ·subst h; simp [hlt]
  ·simp [h]
 ·subst hu
  simp only [Eff.app,FG] at ha
  subst ha
  rw [bg,ag]
  cases hm with
  | upd _ _ _ _ hl =>
   obtain ⟨c,hc⟩:=Option.isSome_iff_exists.1 hl
   by_cases h:i=j
   ·subst h; simp [gp hc]
   ·simp [h]
theorem eK {ban:List Nat} {s t:ASt} (h:∀ j,j ∉ ban->s.look j=t.look j):banned ban s.look=banned ban t.look:=by
 funext j
 unfold banned
 cases hm:bO j ban with
 | true=>rfl
 | false=>simp only [cond_false]; exact h j (fun e=>by rw [(cb _ _).2 e] at hm; cases hm)
theorem Dn {cx cy:Cls} {dx dy:Option Nat} {ex ey:Eff} (hu:unlike dx dy=true) (mx:Move cx st ex) (my:Move cy s1 ey) (hx:ex.app st dx=some s1) (hy:ey.app s1 dy=some s2)
  (hb:∀ i b v,ey=.upd i b v->(∃ b row,ex=.new b row)->st.nid dx≠i) (hw:∀ i b v i' b' v',ex=.upd i b v->ey=.upd i' b' v'->i≠i'):∃ s1',ey.app st dy=some s1'/\ex.app s1' dx=some s2:=by
 cases mx with
 | val u hc =>
  simp only [Eff.app,FG] at hx
  subst hx
  cases my with
  | val v hc' =>
   simp only [Eff.app,FG] at hy
   subst hy
   exact ⟨_,rfl,by simp only [Eff.app]; rw [en st hu]⟩
  | new b v hc' =>
   obtain ⟨d,rfl,hl,hlt,rfl⟩:=cm hy
   rw [bg,aZ] at hl
   rw [bN,aZ] at hlt
   refine ⟨_,jt hl hlt,?_⟩
   simp only [Eff.app,FG]
   rw [aO,en _ hu,aZ]
  | upd i b v hc' hl =>
   simp only [Eff.app,FG] at hy
   subst hy
   refine ⟨_,rfl,?_⟩
   simp only [Eff.app,FG]
   rw [aO,en _ hu]
 | new b u hc =>
  obtain ⟨d,rfl,hl,hlt,rfl⟩:=cm hx
  have hlk:∀ j,((st.ac (st.nid (some d)) (some b)).put (some d) u).look j=if st.nid (some d)=j then some b else st.look j:=fun j=>by
   rw [bg,ag]
   by_cases h:st.nid (some d)=j
   ·rw [if_pos ⟨h,hlt⟩,if_pos h]
   ·rw [if_neg (fun h'=>h h'.1),if_neg h]
  cases my with
  | val v hc' =>
   simp only [Eff.app,FG] at hy
   subst hy
   refine ⟨_,rfl,?_⟩
   rw [jt (by rw [bg,aZ]; exact hl) (by rw [bN,aZ]; exact hlt),aZ,aO,en _ hu]
  | new b' v hc' =>
   obtain ⟨d',rfl,hl',hlt',rfl⟩:=cm hy
   have hne:d≠d':=fun e=>by subst e; simp [unlike] at hu
   have hni:st.nid (some d)≠st.nid (some d'):=nid_ne hne
   rw [aZ,be] at hl' hlt'
   rw [hlk,if_neg hni] at hl'
   have hlt2:st.nid (some d') < st.boxes.length:=by rw [bN] at hlt'; simpa [ASt.ac,ah] using hlt'
   refine ⟨_,jt hl' hlt2,?_⟩
   rw [jt (by rw [bg,aZ,be,ag,if_neg (fun h=>hni h.1.symm)]; exact hl) (by rw [bN,aZ,be]; simpa [ASt.ac,ah] using hlt)]
   rw [aZ,be,aZ,be,aO,aO,fQ _ hni,en _ (d:=some d) (d':=some d') hu]
  | upd i b' v hc' hl' =>
   simp only [Eff.app,FG] at hy
   subst hy
   have hid:=hb i b' v rfl ⟨b,u,rfl⟩
   refine ⟨_,rfl,?_⟩
   rw [jt (by rw [bg,aZ,be,ag,if_neg (fun h=>hid h.1.symm)]; exact hl) (by rw [bN,aZ,be]; simpa [ASt.ac,ah] using hlt)]
   rw [aZ,be,aO,aO,fQ _ hid,en _ (d:=some d) (d':=dy) hu]
 | upd i b u hc hl =>
  simp only [Eff.app,FG] at hx
  subst hx
  subst hc
  cases my with
  | val v hc' =>
   simp only [Eff.app,FG] at hy
   subst hy
   refine ⟨_,rfl,?_⟩
   simp only [Eff.app,FG]
   rw [aO,en _ hu]
  | new b' v hc' =>
   obtain ⟨d',rfl,hl',hlt',rfl⟩:=cm hy
   rw [aZ,be] at hl' hlt'
   rw [bg,ag] at hl'
   obtain ⟨c,hc2⟩:=Option.isSome_iff_exists.1 hl
   have hlt2:st.nid (some d') < st.boxes.length:=by rw [bN] at hlt'; simpa [ASt.ac,ah] using hlt'
   have hne:i≠st.nid (some d'):=fun e=>by rw [if_pos ⟨e,gp hc2⟩] at hl'; cases hl'
   have hl3:st.look (st.nid (some d'))=none:=by
    rw [if_neg (fun h=>hne h.1)] at hl'; exact hl'
   refine ⟨_,jt hl3 hlt2,?_⟩
   simp only [Eff.app,FG]
   rw [aZ,be,aO,aO,fQ _ hne,en _ (d:=some d') (d':=dx) (gT hu)]
  | upd i' b' v hc' hl' =>
   have hne:=hw i b u i' b' v rfl rfl
   simp only [Eff.app,FG] at hy
   subst hy
   refine ⟨_,rfl,?_⟩
   simp only [Eff.app,FG]
   rw [aO,aO,fQ _ hne,en _ hu]
theorem wq {p:Prop} [Decidable p] {c d:Cls} (h:(if p then c else .N)=d) (hd:d≠.N):c=d:=by
 by_cases hp:p
 ·rwa [if_pos hp] at h
 ·rw [if_neg hp] at h; exact absurd h.symm hd
theorem pU {p:Prop} [Decidable p] {c:Cls} (h:(if p then c else .N)=.A\/(if p then c else .N)=.B\/(if p then c else .N)=.P):c.makes=true:=by
 rcases h with h | h | h <;> rw [wq h (by simp)] <;> rfl
theorem kq {ps:List Nat} {s t:ASt} {d:Option Nat} {e:Eff} (hb:s.base=t.base) (h:∀ k,d=some k->nth (.one .junk) s.slots k=nth (.one .junk) t.slots k):ci ps s d e=ci ps t d e:=by
 unfold ci
 congr 1
 funext k
 cases d with
 | none=>rw [hb]
 | some d=>simp only [hb,h d rfl]
theorem iN {i:Item} {s t:ASt} {e:Eff} (hb:s.base=t.base) (hd:∀ k,i.o.dst=some k->nth (.one .junk) s.slots k=nth (.one .junk) t.slots k) (h:i.o.op.operands.toList.map s.ev=i.o.op.operands.toList.map t.ev):dc i s e=dc i t e:=by
 unfold dc
 have:∀ b,jh s i.o.dst b=jh t i.o.dst b:=fun b=>by
  cases hk:i.o.dst with
  | none=>rfl
  | some d=>simp only [jh,hd d hk]
 have hD:∀ b,ig s i.o.dst b=ig t i.o.dst b:=fun b=>by
  cases hk:i.o.dst with
  | none=>rfl
  | some d=>simp only [ig,hd d hk]
 simp only [hb,h,this,hD]
theorem fR {a b:Option Nat} (h:unlike a b=true):∀ k,b=some k->a≠some k:=fun k hk e=>by subst hk; subst e; simp [unlike] at h
theorem Db {ops : List Oper} {x y : Item} (hap : cC ops x.o y.o = true) (hxd : x.dr = true) (hyd : y.dr = true) (hxx : (am x.o.op).isX = false) (hyx : (am y.o.op).isX = false)
  (hbx:(am x.o.op).makes=true->∀ d,x.o.dst=some d->d ∈ y.ban.1) (hby:(am y.o.op).makes=true->∀ d,y.o.dst=some d->d ∈ x.ban.1)
  (hox:(am y.o.op).reads=true->y.ban ∈ x.own) (hoy:(am x.o.op).reads=true->x.ban ∈ y.own) (h1:OpP E C ops x st s1) (h2:OpP E C ops y s1 s2) :
  ∃ s1',OpP E C ops y st s1'/\OpP E C ops x s1' s2:=by
 simp only [cC,FH] at hap
 obtain ⟨⟨⟨⟨hg,hfx⟩,hfy⟩,hu⟩,_⟩:=hap
 obtain ⟨hfx1,hfx2⟩:=aA hfx
 obtain ⟨hfy1,hfy2⟩:=aA hfy
 have hu':unlike y.o.dst x.o.dst=true:=gT hu
 have dec:∀ {i:Item} {s s':ASt},i.dr=true->(am i.o.op).isX=false->OpP E C ops i s s'->∃ e,(bc ops i.o s=some (some true)->ci i.push s i.o.dst e=true/\dc i s e=true)/\Move (if bc ops i.o s=some (some true) then am i.o.op else .N) s e/\e.nfE.app s i.o.dst=some s' /\
   ((bc ops i.o s=some (some true)/\(opL E (s.nid i.o.dst) (banned (aX i.ban s.base) s.look) i.o.op (i.o.op.operands.toList.map s.ev)).hits C e/\(e.plain=true/\e.ns s.base i.own=true))\/(∃ b,bc ops i.o s=some b/\b≠some true/\e=.val (.one .undef))):=by
  intro i s s' hd hx h
  rcases h with ⟨hg,e,k1,k2,k3⟩ | ⟨b,hg,hb,h⟩
  ·refine ⟨e,fun _=>(k2 hd).2,?_,k3,.inl ⟨hg,k1,(k2 hd).1⟩⟩
   rw [if_pos hg]
   exact rF hx (k2 hd).1.1 k1
  ·refine ⟨.val (.one .undef),fun h=>absurd (Option.some.inj (hg.symm.trans h)) hb,?_,?_,.inr ⟨b,hg,hb,rfl⟩⟩
   ·rw [if_neg (by rw [hg]; simpa using hb)]
    exact .val _ (.inl rfl)
   ·rw [h]; rfl
 obtain ⟨ex,cx,mx,ax,hx⟩:=dec hxd hxx h1
 obtain ⟨ey,cy,my,ay,hy⟩:=dec hyd hyx h2
 have px:ex.nfE.plain=true:=by rw [oh]; cases mx <;> rfl
 have py:ey.nfE.plain=true:=by rw [oh]; cases my <;> rfl
 obtain ⟨sb1,_,so1⟩:=gz px ax
 have hb1:s1.base=st.base:=by simp [ASt.base,so1]
 have hn1:∀ d,s1.nid d=st.nid d:=fun d=>by cases d <;> simp [ASt.nid,so1]
 have hgy:bc ops y.o s1=bc ops y.o st:=kI sb1 hfx1
 have hvy:y.o.op.operands.toList.map s1.ev=y.o.op.operands.toList.map st.ev:=ej sb1 hfx2
 have inO:∀ {base:Nat} {own:List (List Nat × List Nat)} {ban:List Nat × List Nat} {i:Nat} {b:BC} {v:AV},Eff.ns base own (.upd i b v)=true->ban ∈ own->i ∈ aX ban base:=fun {base own ban i b v} h hm=>by
  simp only [Eff.ns,List.all_eq_true] at h
  exact (cb _ _).1 (h ban hm)
 have inBan:∀ {d:Nat} {ban:List Nat × List Nat} {s:ASt},d ∈ ban.1->s.nid (some d) ∈ aX ban s.base:=fun {d ban s} h=>List.mem_append_left _ (List.mem_map.2 ⟨d,h,rfl⟩)
 have hW:∀ i b v i' b' v',ex=.upd i b v->ey=.upd i' b' v'->i≠i':=by
  rintro i b v i' b' v' rfl rfl rfl
  rcases hx with ⟨_,_,_,ho⟩ | ⟨_,_,_,he⟩
  ·rcases hy with ⟨_,hh,_⟩ | ⟨_,_,_,he⟩
   ·have hWy:am y.o.op=.W:=by
     cases my with
     | upd _ _ _ hc _=>exact wq hc (by simp)
    have hin:=inO ho (hox (by rw [hWy]; rfl))
    obtain ⟨i',b2,v2,he,hl⟩:=(B9 hWy _).hits hh rfl
    cases he
    unfold banned at hl
    rw [hb1,(cb _ _).2 hin] at hl
    simp at hl
   ·cases he
  ·cases he
 have hban:∀ i b v,ey=.upd i b v->(∃ b row,ex=.new b row)->st.nid x.o.dst≠i:=by
  rintro i b v rfl ⟨b',row,rfl⟩ hd
  obtain ⟨d,hdx,_⟩:=cm ax
  rcases hy with ⟨_,hh,_⟩ | ⟨_,_,_,he⟩
  ·have hmk:(am x.o.op).makes=true:=by
    cases mx with
    | new _ _ hc=>exact pU hc
   have hin:=inBan (s:=st) (hbx hmk d hdx)
   have hW:am y.o.op=.W:=by
    cases my with
    | upd _ _ _ hc _=>exact wq hc (by simp)
   obtain ⟨i',b2,v2,he,hl⟩:=(B9 hW _).hits hh rfl
   cases he
   unfold banned at hl
   rw [hdx] at hd
   rw [hd] at hin
   rw [hb1,(cb _ _).2 hin] at hl
   simp at hl
  ·cases he
 have nfU:∀ {e:Eff} {i b v},e.nfE=.upd i b v->∃ v',e=.upd i b v':=fun {e i b v} h=>by
  cases e <;> simp only [Eff.nfE,Eff.upd.injEq,reduceCtorEq] at h
  obtain ⟨rfl,rfl,_⟩:=h
  exact ⟨_,rfl⟩
 have nfN:∀ {e:Eff},(∃ b v,e.nfE=.new b v)->∃ b v,e=.new b v:=fun {e} ⟨b,v,h⟩=>by
  cases e <;> simp only [Eff.nfE,Eff.new.injEq,reduceCtorEq] at h
  exact ⟨_,_,rfl⟩
 obtain ⟨s1',ay',ax'⟩:=Dn hu mx.nf my.nf ax ay (fun i b v hy hx=>by obtain ⟨v',h⟩:=nfU hy; exact hban i b v' h (nfN hx))
  (fun i b v i' b' v' hx hy=>by obtain ⟨u,h⟩:=nfU hx; obtain ⟨u',h'⟩:=nfU hy; exact hW i b u i' b' u' h h')
 obtain ⟨sb2,_,so2⟩:=gz py ay'
 have hb2:s1'.base=st.base:=by simp [ASt.base,so2]
 have hn2:∀ d,s1'.nid d=st.nid d:=fun d=>by cases d <;> simp [ASt.nid,so2]
 have hgx:bc ops x.o s1'=bc ops x.o st:=kI sb2 hfy1
 have hvx:x.o.op.operands.toList.map s1'.ev=x.o.op.operands.toList.map st.ev:=ej sb2 hfy2
 have readsOf:∀ {o:Op},(am o).isX=false->¬ (am o=.N\/am o=.A)->(am o).reads=true:=fun {o} hx hf=>by
  cases hc:am o with
  | N=>exact absurd (.inl hc) hf
  | A=>exact absurd (.inr hc) hf
  | X=>rw [hc] at hx; cases hx
  | _=>rfl
 refine ⟨s1',?_,?_⟩
 ·rcases hy with ⟨hgv,hh,hp⟩ | ⟨b,hgv,hb,rfl⟩
  ·rw [hgy] at hgv
   have hcl:ci y.push st y.o.dst ey=true/\dc y st ey=true:=by
    rw [<- kq hb1 (fun k hk=>sb1.2 k (fR hu k hk)),<- iN (s:=s1) hb1 (fun k hk=>sb1.2 k (fR hu k hk)) hvy]
    exact cy (by rw [hgy]; exact hgv)
   refine .inl ⟨hgv,ey,?_,fun _=>⟨by rw [<- hb1]; exact hp,hcl⟩,ay'⟩
   rw [hvy,hn1,hb1] at hh
   by_cases hfree:am y.o.op=.N\/am y.o.op=.A
   ·rw [vH hfree]; exact hh
   ·have:banned (aX y.ban st.base) st.look=banned (aX y.ban st.base) s1.look:=by
     refine eK (fun j hj=>?_)
     obtain ⟨l1,l2,l3⟩:=lI mx.nf ax
     cases mx with
     | val u hc=>exact (l1 j ⟨_,rfl⟩).symm
     | new b row hc =>
      have hmk:(am x.o.op).makes=true:=pU hc
      rw [l2 j b _ rfl]
      obtain ⟨d,hdx,_⟩:=cm ax
      split
      ·rename_i hd
       rw [hdx] at hd
       exact absurd (hd ▸ inBan (s:=st) (hbx hmk d hdx)) hj
      ·rfl
     | upd i b v hc hl =>
      rw [l3 j i b _ rfl]
      split
      ·rename_i hij
       subst hij
       rcases hx with ⟨_,_,_,ho⟩ | ⟨_,_,_,he⟩
       ·exact absurd (inO ho (hox (readsOf hyx hfree))) hj
       ·cases he
      ·rfl
    rw [this]; exact hh
  ·rw [hgy] at hgv
   refine .inr ⟨b,hgv,hb,?_⟩
   simp only [Eff.nfE,Eff.app,FG] at ay'
   exact ay'.symm
 ·rcases hx with ⟨hgv,hh,hp⟩ | ⟨b,hgv,hb,rfl⟩
  ·have hcl : ci x.push s1' x.o.dst ex = true ∧ dc x s1' ex = true := by
    rw [kq hb2 (fun k hk=>sb2.2 k (fR hu' k hk)),iN (s:=s1') hb2 (fun k hk=>sb2.2 k (fR hu' k hk)) hvx]
    exact cx hgv
   refine .inl ⟨by rw [hgx,hgv],ex,?_,fun _=>⟨by rw [hb2]; exact hp,hcl⟩,ax'⟩
   rw [hvx,hn2,hb2]
   by_cases hfree:am x.o.op=.N\/am x.o.op=.A
   ·rw [vH hfree]; exact hh
   ·have:banned (aX x.ban st.base) s1'.look=banned (aX x.ban st.base) st.look:=by
     refine eK (fun j hj=>?_)
     have my':Move (if bc ops y.o s1=some (some true) then am y.o.op else .N) st ey:=by
      cases my with
      | val v hc=>exact .val v hc
      | new b row hc=>exact .new b row hc
      | upd i b v hc hl =>
       refine .upd i b v hc ?_
       obtain ⟨l1,l2,l3⟩:=lI mx.nf ax
       cases mx with
       | val u hc=>rw [l1 i ⟨_,rfl⟩] at hl; exact hl
       | new b' row hc =>
        rw [l2 i b' _ rfl] at hl
        rw [if_neg (hban i b v rfl ⟨b',row,rfl⟩)] at hl
        exact hl
       | upd i' b' v' hc' hl' =>
        rw [l3 i i' b' _ rfl] at hl
        by_cases he:i'=i
        ·subst he; exact hl'
        ·rw [if_neg he] at hl; exact hl
     obtain ⟨l1,l2,l3⟩:=lI my'.nf ay'
     cases my' with
     | val u hc=>exact l1 j ⟨_,rfl⟩
     | new b row hc =>
      have hmk:(am y.o.op).makes=true:=pU hc
      rw [l2 j b _ rfl]
      obtain ⟨d,hdy,_⟩:=cm ay'
      split
      ·rename_i hd
       rw [hdy] at hd
       exact absurd (hd ▸ inBan (s:=st) (hby hmk d hdy)) hj
      ·rfl
     | upd i b v hc hl =>
      rw [l3 j i b _ rfl]
      split
      ·rename_i hij
       subst hij
       rcases hy with ⟨_,_,_,ho⟩ | ⟨_,_,_,he⟩
       ·rw [hb1] at ho
        exact absurd (inO ho (hoy (readsOf hxx hfree))) hj
       ·cases he
      ·rfl
    rw [this]; exact hh
  ·refine .inr ⟨b,by rw [hgx,hgv],hb,?_⟩
   simp only [Eff.nfE,Eff.app,FG] at ax'
   exact ax'.symm
end
end Go.Ab
end
section
namespace Go.Ab
open Go.RowKit
theorem iI {k:Nat} {l:List Nat}:(!bO k l)=true ↔ k ∉ l:=by
 rw [Bool.not_eq_true']
 constructor
 ·intro h hm
  rw [(cb _ _).2 hm] at h
  cases h
 ·intro h
  cases hb:bO k l with
  | false=>rfl
  | true=>exact absurd ((cb _ _).1 hb) h
theorem jD {k s:Nat}:∀ {l:List AV} {n:Nat},fY k s n l=true ↔ ∀ t,n + t≠s->k ∉ (nth (.one .junk) l t).dS
 | [],n=>by simp [fY,nth,AV.dS,oF]
 | v :: l, n => by
  simp only [fY,FH,Bool.or_eq_true,jD (l:=l) (n:=n + 1),iI]
  constructor
  ·rintro ⟨h1,h2⟩ t ht
   cases t with
   | zero =>
    rcases h1 with h1 | h1
    ·exact absurd ((ap _ _).1 h1) ht
    ·exact h1
   | succ t=>exact h2 t (by omega)
  ·intro h
   refine ⟨?_,fun t ht=>h (t + 1) (by omega)⟩
   by_cases hn:n=s
   ·exact .inl ((ap _ _).2 hn)
   ·exact .inr (h 0 hn)
theorem cO {k:Nat}:∀ {l:List (Option BC)},dH k l=true ↔ ∀ i b,nth none l i=some b->k ∉ b.lF
 | []=>by simp [dH,nth]
 | some c :: l => by
  simp only [dH,FH,cO (l:=l),iI]
  constructor
  ·rintro ⟨h1,h2⟩ i b hb
   cases i with
   | zero=>simp only [nth,FG] at hb; subst hb; exact h1
   | succ i=>exact h2 i b hb
  ·intro h
   exact ⟨h 0 c rfl,fun i b hb=>h (i + 1) b hb⟩
 | none :: l => by
  simp only [dH,cO (l:=l)]
  constructor
  ·intro h2 i b hb
   cases i with
   | zero=>simp only [nth,reduceCtorEq] at hb
   | succ i=>exact h2 i b hb
  ·intro h i b hb
   exact h (i + 1) b hb
structure Pu (st:ASt) (s m k:Nat):Prop where
 hk:k=st.base + m
 slot:nth (.one .junk) st.slots s=.one (.sref k 0 [])
 look:∃ x,st.look k=some (.tree [x])
 slots:∀ t,t≠s->k ∉ (nth (.one .junk) st.slots t).dS
 boxes:∀ i b,st.look i=some b->k ∉ b.lF
 out:k ∉ gw st.out
abbrev sP (k:Nat) (y:TV):Eff:=.gen [.drop k 0 [] false,.root k 0 y] (.one (.sref k 0 []))
def bF (st:ASt) (d:Option Tmp) (s k:Nat) (y:TV):ASt:=((st.put (some s) (.one .junk)).ac k (some (.tree [y]))).put d (.one (.sref k 0 []))
theorem ut {k:Nat} {v:AV} (h:ki k v=true):v=.one (.sref k 0 []):=by
 unfold ki at h
 split at h
 ·rw [(ap _ _).1 h]
 ·cases h
theorem wI {b:Option BC} (h:wA b=true):∃ x,b=some (.tree [x]):=by
 unfold wA at h
 split at h
 ·exact ⟨_,rfl⟩
 ·cases h
theorem fU {o:Item} {st:ASt} {e:Eff} (h:cZ o st e=true):∃ s y,ar o.o.op=some s/\e=sP (st.base + o.root) y/\Pu st s o.root (st.base + o.root):=by
 unfold cZ at h
 split at h
 ·rename_i s i y h1 h2
  simp only [FH] at h
  obtain ⟨⟨⟨⟨⟨a1,a2⟩,a3⟩,a4⟩,a5⟩,a6⟩:=h
  have a1:=(ap _ _).1 a1
  subst a1
  exact ⟨s,y,h1,je h2,rfl,ut a2,wI a3,fun t ht=>jD.1 a4 t (by omega),cO.1 a5,iI.1 a6⟩
 ·cases h
theorem pe {o:Item} {st:ASt} {s k:Nat} {y:TV} (hs:ar o.o.op=some s) (pu:Pu st s o.root k):cZ o st (sP k y)=true:=by
 obtain ⟨x,hx⟩:=pu.look
 unfold cZ
 simp only [hs,nh,FH]
 refine ⟨⟨⟨⟨⟨(ap _ _).2 pu.hk,?_⟩,?_⟩,jD.2 (fun t ht=>pu.slots t (by omega))⟩,cO.2 pu.boxes⟩,iI.2 pu.out⟩
 ·rw [pu.slot]; exact (ap _ _).2 rfl
 ·rw [hx]; rfl
theorem zM {k:Nat} {c:CA} (h:k ∉ oF c):CA.drop k 0 [] false c=c:=by
 have key:∀ {i r:Nat} {p:Way},k≠i->dq k 0 [] false i r p=false:=fun {i r p} hne=>by
  have:k.beq i=false:=by
   cases hb:k.beq i with
   | false=>rfl
   | true=>exact absurd ((ap _ _).1 hb) hne
  simp only [dq,this,Bool.false_and]
 cases c <;> first
  | rfl
  | (simp only [oF,List.mem_singleton] at h; simp only [CA.drop,key h,cond_false])
theorem j6 {k:Nat}:∀ {l:List CA},k ∉ lA l->mapC (CA.drop k 0 [] false) l=l
 | [],_=>rfl
 | c :: l,h=>by
  simp only [lA,List.mem_append,not_or] at h
  simp only [mapC,zM h.1,j6 h.2]
theorem uW {k:Nat}:∀ {l:List (Bool × List CA)},k ∉ qJ l->jF (CA.drop k 0 [] false) l=l
 | [],_=>rfl
 | (b,c) :: l,h=>by
  simp only [qJ,List.mem_append,not_or] at h
  simp only [jF,j6 h.1,uW h.2]
theorem xl {k:Nat} {v:AV} (h:k ∉ v.dS):v.bW (CA.drop k 0 [] false)=v:=by
 cases v <;> simp only [AV.dS] at h <;> simp only [AV.bW]
 ·rw [zM h]
 ·rw [j6 h]
 ·rw [uW h]
 ·rw [j6 h]
theorem pq {k:Nat}:∀ {l:List AV},(∀ t,k ∉ (nth (.one .junk) l t).dS)->b8 (CA.drop k 0 [] false) l=l
 | [],_=>rfl
 | v :: l,h=>by
  simp only [b8]
  rw [xl (v:=v) (h 0),pq (fun t=>h (t + 1))]
theorem tF {k:Nat}:∀ {l:List AV},k ∉ gw l->∀ t,k ∉ (nth (.one .junk) l t).dS
 | [],_,t=>by simp [nth,AV.dS,oF]
 | v :: l,h,t=>by
  simp only [gw,List.mem_append,not_or] at h
  cases t with
  | zero=>exact h.1
  | succ t=>exact tF h.2 t
theorem pC {k:Nat}:∀ {l:List (Option BC)},(∀ i b,nth none l i=some b->k ∉ b.lF)->dW (CA.drop k 0 [] false) l=l
 | [],_=>rfl
 | some b :: l,h=>by
  simp only [dW]
  rw [pC (fun i b hb=>h (i + 1) b hb)]
  have:=h 0 b rfl
  cases b with
  | cells cs=>simp only [BC.bq]; rw [j6 this]
  | tree xs=>rfl
 | none :: l,h=>by
  simp only [dW]
  rw [pC (fun i b hb=>h (i + 1) b hb)]
theorem uN {k:Nat}:∀ {l:List AV} {s:Nat},nth (.one .junk) l s=.one (.sref k 0 [])->(∀ t,t≠s->k ∉ (nth (.one .junk) l t).dS)->b8 (CA.drop k 0 [] false) l=ak l s (.one .junk)
 | [],s,h,_=>by simp [nth] at h
 | v :: l,0,h,hf=>by
  simp only [nth] at h
  subst h
  simp only [b8,ak]
  rw [pq (fun t=>hf (t + 1) (by omega))]
  simp [AV.bW,CA.drop,dq,leads]
 | v :: l,s + 1,h,hf=>by
  simp only [b8,ak]
  rw [xl (v:=v) (hf 0 (by omega)),uN (s:=s) h (fun t ht=>hf (t + 1) (by omega))]
theorem oY {st:ASt} {s m k:Nat} {y:TV} {d:Option Tmp} (pu:Pu st s m k):(sP k y).app st d=some (bF st d s k y):=by
 obtain ⟨x,hx⟩:=pu.look
 have h1:st.au (CA.drop k 0 [] false)=st.put (some s) (.one .junk):=by
  simp only [ASt.au,ASt.put]
  rw [uN pu.slot pu.slots,pC pu.boxes,pq (tF pu.out)]
 have h2:(st.put (some s) (.one .junk)).look k=some (.tree [x]):=by rw [bg]; exact hx
 simp only [Eff.app,ae,Prim.app,h1,cf,h2,ak,bF]
section
variable {E:Env} {C:Cal} {st s1 s2:ASt} {d:Option Tmp} {e:Eff} {s m k:Nat} {y:TV}
theorem xN {l:List AV} {t:Nat} {v:AV}:nth (.one .junk) (ak l t v) t=v\/nth (.one .junk) (ak l t v) t=.one .junk:=by
 rw [aS,ah,List.getElem?_set]
 by_cases h:t < l.length
 ·left; simp [h]
 ·right; simp [h]
theorem lq (hv:da e\/di e) (ha:e.app st d=some s1):jq d s1 st/\s1.out=st.out/\(∀ j b,st.look j=some b->s1.look j=some b) /\
  (∀ j b,s1.look j=some b->st.look j=some b\/((∀ r ∈ b.lF,r ∈ dp e)/\∃ dd,d=some dd/\j=st.base + dd/\di e))/\(∀ t,d=some t->∀ r ∈ (nth (.one .junk) s1.slots t).dS,r ∈ dp e):=by
 have hp:e.plain=true:=by rcases hv with ⟨v,rfl⟩ | ⟨b,v,rfl⟩ <;> rfl
 obtain ⟨p1,_,p3⟩:=gz hp ha
 refine ⟨p1,p3,?_⟩
 rcases hv with ⟨v,rfl⟩ | ⟨b,v,rfl⟩
 ·simp only [Eff.app,FG] at ha
  subst ha
  refine ⟨fun j b h=>by rw [bg]; exact h,fun j b h=>by rw [bg] at h; exact .inl h,fun t ht r hr=>?_⟩
  subst ht
  simp only [ASt.put] at hr
  rcases xN (l:=st.slots) (t:=t) (v:=v) with h | h
  ·rw [h] at hr; exact hr
  ·rw [h] at hr; cases hr
 ·obtain ⟨dd,rfl,h1,h2,rfl⟩:=cm ha
  refine ⟨fun j c h=>?_,fun j c h=>?_,fun t ht r hr=>?_⟩
  ·rw [bg,ag,if_neg (fun hh=>by rw [hh.1,h] at h1; cases h1)]; exact h
  ·rw [bg,ag] at h
   by_cases hj:st.nid (some dd)=j/\st.nid (some dd) < st.boxes.length
   ·rw [if_pos hj] at h
    simp only [FG] at h
    subst h
    exact .inr ⟨fun r hr=>List.mem_append_left _ hr,dd,rfl,hj.1.symm,b,v,rfl⟩
   ·rw [if_neg hj] at h; exact .inl h
  ·have ht:=Option.some.inj ht
   subst ht
   simp only [ASt.put,ASt.ac] at hr
   rcases xN (l:=st.slots) (t:=dd) (v:=v) with h | h
   ·rw [h] at hr; exact List.mem_append_right _ hr
   ·rw [h] at hr; cases hr
theorem pE {ps:List Nat} (h:ci ps st d e=true) (hs:s ∈ ps):st.base + s ∉ dp e/\∀ t,d=some t->st.base + s ∉ (nth (.one .junk) st.slots t).dS:=by
 unfold ci at h
 rw [List.all_eq_true] at h
 have:=h s hs
 rw [FH] at this
 refine ⟨iI.1 this.1,fun t ht=>?_⟩
 subst ht
 exact iI.1 this.2
theorem Pu.back (pu:Pu s1 s m k) (hv:da e\/di e) (ha:e.app st d=some s1) (hd:d≠some s) (hdm:d≠some m) (hc:∀ t,d=some t->k ∉ (nth (.one .junk) st.slots t).dS):Pu st s m k:=by
 obtain ⟨f1,f2,f3,f4,f5⟩:=lq hv ha
 have hb:s1.base=st.base:=by simp [ASt.base,f2]
 have hk:=pu.hk
 rw [hb] at hk
 refine ⟨hk,by rw [<- f1.2 s hd]; exact pu.slot,?_,fun t ht=>?_,fun i b hi=>pu.boxes i b (f3 i b hi),by rw [<- f2]; exact pu.out⟩
 ·obtain ⟨x,hx⟩:=pu.look
  rcases f4 k _ hx with h | ⟨_,dd,hdd,h,_⟩
  ·exact ⟨x,h⟩
  ·exact absurd (Nat.add_left_cancel (h.symm.trans hk)) (fun h=>hdm (by rw [hdd]; exact congrArg some h))
 ·by_cases hdt:d=some t
  ·exact hc t hdt
  ·rw [<- f1.2 t hdt]; exact pu.slots t ht
theorem Pu.fwd (pu:Pu st s m k) (hv:da e\/di e) (ha:e.app st d=some s1) (hd:d≠some s) (hc:k ∉ dp e):Pu s1 s m k:=by
 obtain ⟨f1,f2,f3,f4,f5⟩:=lq hv ha
 have hb:s1.base=st.base:=by simp [ASt.base,f2]
 refine ⟨by rw [hb]; exact pu.hk,by rw [f1.2 s hd]; exact pu.slot,?_,fun t ht=>?_,fun i b hi=>?_,by rw [f2]; exact pu.out⟩
 ·obtain ⟨x,hx⟩:=pu.look
  exact ⟨x,f3 k _ hx⟩
 ·by_cases hdt:d=some t
  ·exact fun hm=>hc (f5 t hdt k hm)
  ·rw [f1.2 t hdt]; exact pu.slots t ht
 ·rcases f4 i b hi with h | ⟨h,_⟩
  ·exact pu.boxes i b h
  ·exact fun hm=>hc (h k hm)
theorem xV {s:Nat} (h:d≠some s):unlike d (some s)=true:=by
 cases d with
 | none=>rfl
 | some d=>exact va (fun e=>h (by rw [e]))
theorem sQ {dx dy:Option Tmp} {v:AV} (hds:dx≠some s) (hu:unlike dx dy=true):bF (st.put dx v) dy s k y=(bF st dy s k y).put dx v:=by
 simp only [bF]
 rw [en _ (xV hds),aO,en _ hu]
theorem yH {dy:Option Tmp} {i:Nat} {b:Option BC} (hi:k≠i):bF (st.ac i b) dy s k y=(bF st dy s k y).ac i b:=by
 simp only [bF]
 rw [aO _ i b dy,show (st.ac i b).put (some s) (.one .junk)=(st.put (some s) (.one .junk)).ac i b from (aO ..).symm,fQ _ (fun h=>hi h.symm)]
theorem fG {dy:Option Tmp} (d':Option Tmp):(bF st dy s k y).nid d'=st.nid d':=by
 simp only [bF]
 rw [aZ,be,aZ]
theorem jp {dy:Option Tmp} {j:Nat} (hj:k≠j):(bF st dy s k y).look j=st.look j:=by
 simp only [bF]
 rw [bg,ag,if_neg (fun h=>hj h.1),bg]
theorem tH {dy:Option Tmp}:(bF st dy s k y).boxes.length=st.boxes.length:=by
 simp only [bF]
 rw [bN]
 simp only [ASt.ac,ah,List.length_set,bN]
theorem nN {dy:Option Tmp}:(bF st dy s k y).out=st.out:=by
 simp only [bF]
 rw [kB]
 simp only [ASt.ac,kB]
theorem ie {dy:Option Tmp} {t:Nat} (h1:t≠s) (h2:dy≠some t):nth (.one .junk) (bF st dy s k y).slots t=nth (.one .junk) st.slots t:=by
 simp only [bF]
 rw [fh _ _ _ _ h2]
 show nth (.one .junk) (st.put (some s) (.one .junk)).slots t=_
 rw [fh _ _ _ _ (fun e=>h1 (Option.some.inj e).symm)]
theorem vq {dx dy:Option Tmp} (hv:da e\/di e) (ha:e.app st dx=some s1) (hds:dx≠some s) (hdm:dx≠some m) (hu:unlike dx dy=true) (hk:k=st.base + m):e.app (bF st dy s k y) dx=some (bF s1 dy s k y):=by
 rcases hv with ⟨v,rfl⟩ | ⟨b,v,rfl⟩
 ·simp only [Eff.app,FG] at ha
  subst ha
  simp only [Eff.app,sQ hds hu]
 ·obtain ⟨dd,rfl,h1,h2,rfl⟩:=cm ha
  have hne:k≠st.nid (some dd):=fun h=>hdm (congrArg some (Nat.add_left_cancel (h.symm.trans hk:st.base + dd=st.base + m)))
  rw [jt (by rw [fG,jp hne]; exact h1) (by rw [fG,tH]; exact h2),fG,sQ hds hu,yH hne]
theorem Br {dx dy:Option Tmp} (hv:da e\/di e) (ha:e.app (bF st dx s k y) dy=some s2) (hdm:dy≠some m) (hk:k=st.base + m):∃ s1,e.app st dy=some s1:=by
 rcases hv with ⟨v,rfl⟩ | ⟨b,v,rfl⟩
 ·exact ⟨_,rfl⟩
 ·obtain ⟨dd,rfl,h1,h2,rfl⟩:=cm ha
  have hne:k≠st.nid (some dd):=fun h=>hdm (congrArg some (Nat.add_left_cancel (h.symm.trans hk:st.base + dd=st.base + m)))
  rw [fG,jp hne] at h1
  rw [fG,tH] at h2
  exact ⟨_,jt h1 h2⟩
end
section
variable {E:Env} {C:Cal} {st s1 s2:ASt} {x y:Item} {s:Nat}
theorem ct {o:Op} (h:ar o=some s):am o=.P/\s ∈ cQ o.operands.toList:=by
 unfold ar at h
 split at h
 ·rename_i l h1 h2
  simp only [FG] at h
  subst h
  rw [h2]
  exact ⟨h1,FL⟩
 ·cases h
theorem lW.grows (hd:x.dr=true) (hx:(am x.o.op).isX=false) (hw:am x.o.op≠.W) {e:Eff}
  (h1:(opL E (st.nid x.o.dst) (banned (aX x.ban st.base) st.look) x.o.op (x.o.op.operands.toList.map st.ev)).hits C e)
  (h2:x.dr=true->(e.plain=true/\e.ns st.base x.own=true)/\(ci x.push st x.o.dst e=true/\dc x st e=true)) :
  (da e\/di e)/\(di e->(am x.o.op).makes=true):=by
 have mx:=rF hx (h2 hd).1.1 h1
 cases mx with
 | val v h=>exact ⟨.inl ⟨v,rfl⟩,fun ⟨b,v',h⟩=>by cases h⟩
 | new b v h=>exact ⟨.inr ⟨b,v,rfl⟩,fun _=>by rcases h with h | h | h <;> rw [h] <;> rfl⟩
 | upd i b v h hl=>exact absurd h hw
theorem vm {e:Eff} (h:da e\/di e):(da e.nfE\/di e.nfE)/\(di e.nfE->di e):=by
 rcases h with ⟨v,rfl⟩ | ⟨b,v,rfl⟩
 ·exact ⟨.inl ⟨_,rfl⟩,fun ⟨b,v',h⟩=>by cases h⟩
 ·exact ⟨.inr ⟨_,_,rfl⟩,fun _=>⟨_,_,rfl⟩⟩
theorem qI {e:Eff} (h:da e\/di e) (b:Nat) (l:List (List Nat × List Nat)):e.ns b l=true:=by
 rcases h with ⟨v,rfl⟩ | ⟨b,v,rfl⟩ <;> rfl
theorem qC {e:Eff} (h:da e\/di e):e.plain=true:=by
 rcases h with ⟨v,rfl⟩ | ⟨b,v,rfl⟩ <;> rfl
theorem vT {d:Nat} {ban:List Nat × List Nat} {b:Nat} (h:d ∈ ban.1):b + d ∈ aX ban b:=List.mem_append_left _ (List.mem_map.2 ⟨d,h,rfl⟩)
theorem kH {dy:Option Tmp} {k:Nat} {z:TV} {l:List Operand} (h1:s ∉ cQ l) (h2:dO dy (cQ l)=true):l.map (bF st dy s k z).ev=l.map st.ev:=by
 apply List.map_congr_left
 intro o ho
 cases o with
 | tmp t =>
  have ht:=cD ho
  exact ie (fun e=>h1 (e ▸ ht)) (fun e=>bd h2 t e ht)
 | const v=>cases v <;> rfl
 | _=>rfl
theorem Bt (hs:ar y.o.op=some s) (hxd:x.dr=true) (hxx:(am x.o.op).isX=false) (hxw:am x.o.op≠.W) (hfx:dO x.o.dst (cQ y.o.op.operands.toList)=true)
  (hfy:dO y.o.dst (cQ x.o.op.operands.toList)=true) (hu:unlike x.o.dst y.o.dst=true) (hns:s ∉ cQ x.o.op.operands.toList) (hbx:(am x.o.op).makes=true->∀ d,x.o.dst=some d->d ∈ y.ban.1)
  (hsx:y.root ∈ x.ban.1) (hpx:y.root ∈ x.push) (hdm:x.o.dst≠some y.root) (h1:lW E C x st s1) (h2:jc E C y s1 s2):∃ s1',jc E C y st s1'/\lW E C x s1' s2:=by
 obtain ⟨ex,hhx,cx,ax⟩:=h1
 obtain ⟨ey,hhy,oy,ay⟩:=h2
 obtain ⟨s',z,hs',rfl,pu⟩:=fU oy
 rw [hs] at hs'
 cases hs'
 obtain ⟨gx,mkx⟩:=lW.grows hxd hxx hxw hhx cx
 obtain ⟨gx',mkx'⟩:=vm gx
 obtain ⟨f1,f2,f3,f4,f5⟩:=lq gx' ax
 have hb:s1.base=st.base:=by simp [ASt.base,f2]
 have hn:∀ d,s1.nid d=st.nid d:=fun d=>by cases d <;> simp [ASt.nid,f2]
 have hds:x.o.dst≠some s:=fun e=>bd hfx s e (ct hs).2
 obtain ⟨c1,c2⟩:=pE (cx hxd).2.1 hpx
 have pu0:Pu st s y.root (s1.base + y.root):=pu.back gx' ax hds hdm (by rw [hb]; exact c2)
 have ay':(sP (s1.base + y.root) z).app s1 y.o.dst=some s2:=ay
 rw [oY pu] at ay'
 simp only [FG] at ay'
 subst ay'
 have hk:s1.base + y.root=st.base + y.root:=by rw [hb]
 refine ⟨bF st y.o.dst s (s1.base + y.root) z,⟨sP (s1.base + y.root) z,?_,pe hs pu0,oY pu0⟩,⟨ex,?_,fun hd=>⟨⟨qC gx,qI gx _ _⟩,?_⟩,vq gx' ax hds hdm hu hk⟩⟩
 ·rw [ej f1 hfx, hn, hb] at hhy
  have:banned (aX y.ban st.base) st.look=banned (aX y.ban st.base) s1.look:=by
   refine eK (fun j hj=>?_)
   cases hl:s1.look j with
   | none =>
    cases hl0:st.look j with
    | none=>rfl
    | some b=>rw [f3 j b hl0] at hl; cases hl
   | some b =>
    rcases f4 j b hl with h | ⟨_,dd,hdd,h,hnew⟩
    ·exact h
    ·exfalso
     subst h
     exact hj (vT (hbx (mkx (mkx' hnew)) dd hdd))
  rw [this,hb]; exact hhy
 ·have hout:(bF st y.o.dst s (s1.base + y.root) z).base=st.base:=by simp [ASt.base,nN]
  rw [kH hns hfy,fG,hout]
  have:banned (aX x.ban st.base) (bF st y.o.dst s (s1.base + y.root) z).look=banned (aX x.ban st.base) st.look:=by
   refine eK (fun j hj=>jp (fun e=>?_))
   subst e
   rw [hb] at hj
   exact hj (vT hsx)
  rw [this]; exact hhx
 ·have hout:(bF st y.o.dst s (s1.base + y.root) z).base=st.base:=by simp [ASt.base,nN]
  rw [kq (t:=st) hout (fun t ht=>ie (fun e=>hds (by rw [ht,e])) (fun e=>(fR (gT hu)) t ht e)),iN (t:=st) hout (fun t ht=>ie (fun e=>hds (by rw [ht,e])) (fun e=>(fR (gT hu)) t ht e)) (kH hns hfy)]
  exact (cx hd).2
theorem yW (hs:ar x.o.op=some s) (hyd:y.dr=true) (hyx:(am y.o.op).isX=false) (hyw:am y.o.op≠.W) (hfx:dO x.o.dst (cQ y.o.op.operands.toList)=true)
  (hfy:dO y.o.dst (cQ x.o.op.operands.toList)=true) (hu:unlike x.o.dst y.o.dst=true) (hns:s ∉ cQ y.o.op.operands.toList) (hby:(am y.o.op).makes=true->∀ d,y.o.dst=some d->d ∈ x.ban.1)
  (hsy:x.root ∈ y.ban.1) (hpy:x.root ∈ y.push) (hdm:y.o.dst≠some x.root) (h1:jc E C x st s1) (h2:lW E C y s1 s2):∃ s1',lW E C y st s1'/\jc E C x s1' s2:=by
 obtain ⟨ex,hhx,ox,ax⟩:=h1
 obtain ⟨ey,hhy,cy,ay⟩:=h2
 obtain ⟨s',z,hs',rfl,pu⟩:=fU ox
 rw [hs] at hs'
 cases hs'
 have hu':=gT hu
 have ax':(sP (st.base + x.root) z).app st x.o.dst=some s1:=ax
 rw [oY pu] at ax'
 simp only [FG] at ax'
 subst ax'
 have hout:(bF st x.o.dst s (st.base + x.root) z).base=st.base:=by simp [ASt.base,nN]
 obtain ⟨gy,mky⟩:=lW.grows hyd hyx hyw hhy cy
 obtain ⟨gy',mky'⟩:=vm gy
 have hds:y.o.dst≠some s:=fun e=>bd hfy s e (ct hs).2
 obtain ⟨s1',ay'⟩:=Br gy' ay hdm rfl
 have he:=vq (y:=z) gy' ay' hds hdm hu' (rfl:st.base + x.root=st.base + x.root)
 rw [he] at ay
 simp only [FG] at ay
 subst ay
 have hcs:ci y.push (bF st x.o.dst s (st.base + x.root) z) y.o.dst ey=ci y.push st y.o.dst ey:=kq hout (fun t ht=>ie (fun e=>hds (by rw [ht,e])) (fun e=>(fR hu) t ht e))
 have hc:=(cy hyd).2
 rw [hcs,iN (t:=st) hout (fun t ht=>ie (fun e=>hds (by rw [ht,e])) (fun e=>(fR hu) t ht e)) (kH hns hfx)] at hc
 obtain ⟨c1,c2⟩:=pE hc.1 hpy
 obtain ⟨f1,f2,f3,f4,f5⟩:=lq gy' ay'
 have hb:s1'.base=st.base:=by simp [ASt.base,f2]
 have hn:∀ d,s1'.nid d=st.nid d:=fun d=>by cases d <;> simp [ASt.nid,f2]
 have pu1:Pu s1' s x.root (st.base + x.root):=pu.fwd gy' ay' hds (by rw [ck]; exact c1)
 refine ⟨s1',⟨ey,?_,fun hd=>⟨⟨qC gy,qI gy _ _⟩,hc⟩,ay'⟩,⟨sP (st.base + x.root) z,?_,pe hs pu1,oY pu1⟩⟩
 ·rw [kH hns hfx,fG,hout] at hhy
  have:banned (aX y.ban st.base) (bF st x.o.dst s (st.base + x.root) z).look=banned (aX y.ban st.base) st.look:=by
   refine eK (fun j hj=>jp (fun e=>?_))
   subst e
   exact hj (vT hsy)
  rw [<- this]; exact hhy
 ·rw [ej f1 hfy, hn, hb]
  have:banned (aX x.ban st.base) s1'.look=banned (aX x.ban st.base) st.look:=by
   refine eK (fun j hj=>?_)
   cases hl:s1'.look j with
   | none =>
    cases hl0:st.look j with
    | none=>rfl
    | some b=>rw [f3 j b hl0] at hl; cases hl
   | some b =>
    rcases f4 j b hl with h | ⟨_,dd,hdd,h,hnew⟩
    ·exact h.symm
    ·exfalso
     subst h
     exact hj (vT (hby (mky (mky' hnew)) dd hdd))
  rw [this]; exact hhx
theorem aP {ops:List Oper} {o:Oper} (h:o.guard.isNone=true) (t:ASt):bc ops o t=some (some true):=by
 unfold bc
 rw [Option.isNone_iff_eq_none.1 h]
theorem OpP.step {ops:List Oper} (h:x.o.guard.isNone=true):OpP E C ops x st s1->lW E C x st s1
 | .inl ⟨_,h'⟩=>h'
 | .inr ⟨b,hb,hne,_⟩=>by rw [aP h] at hb; exact absurd (Option.some.inj hb).symm hne
theorem DJ {ops:List Oper} (hap:cC ops x.o y.o=true) (hxs:x.shut=false) (hys:y.shut=false) (hxl:x.loose=false) (hyl:y.loose=false) (hxd:x.dr=true) (hyd:y.dr=true) (hxx:(am x.o.op).isX=false) (hyx:(am y.o.op).isX=false)
  (hbx:(am x.o.op).makes=true->∀ d,x.o.dst=some d->d ∈ y.ban.1) (hby:(am y.o.op).makes=true->∀ d,y.o.dst=some d->d ∈ x.ban.1)
  (hox:(am y.o.op).reads=true->y.ban ∈ x.own) (hoy:(am x.o.op).reads=true->x.ban ∈ y.own)
  (hpx:∀ s,ar y.o.op=some s->y.root=kX ops 20 s/\y.root ∈ x.ban.1/\y.root ∈ x.push) (hpy:∀ s,ar x.o.op=some s->x.root=kX ops 20 s/\x.root ∈ y.ban.1/\x.root ∈ y.push) (h1:OpN E C ops x st s1) (h2:OpN E C ops y s1 s2) :
  ∃ s1',OpN E C ops y st s1'/\OpN E C ops x s1' s2:=by
 have hap':=hap
 simp only [cC,FH] at hap'
 obtain ⟨⟨⟨⟨hg,hfx⟩,hfy⟩,hu⟩,ha1,ha2⟩:=hap'
 rcases h1.parts hxd hxs hxl with p1 | ⟨g1,p1⟩
 ·rcases h2.parts hyd hys hyl with p2 | ⟨g2,p2⟩
  ·obtain ⟨s1',q1,q2⟩:=Db hap hxd hyd hxx hyx hbx hby hox hoy p1 p2
   exact ⟨s1',q1.toN hys,q2.toN hxs⟩
  ·obtain ⟨s,z,hs,-⟩:=fU p2.choose_spec.2.1
   simp only [mY,hs,FH,iI] at ha2
   have hx:am x.o.op≠.W:=fun h=>by rw [h,(ct hs).1] at hg; cases hg
   obtain ⟨s1',q1,q2⟩:=Bt hs hxd hxx hx (aA hfx).2 (aA hfy).2 hu (fun h=>ha2.1.2 (List.mem_append_right _ h)) hbx (hpx s hs).2.1 (hpx s hs).2.2 (fun h=>bd ha2.2 _ h (by rw [(hpx s hs).1]; exact FL)) (p1.step ha2.1.1.2) p2
   exact ⟨s1',.inl ⟨aP ha2.1.1.1 _,q1.toN⟩,.inl ⟨aP ha2.1.1.2 _,q2.toN hxs⟩⟩
 ·obtain ⟨s,z,hs,-⟩:=fU p1.choose_spec.2.1
  simp only [mY,hs,FH,iI] at ha1
  rcases h2.parts hyd hys hyl with p2 | ⟨g2,p2⟩
  ·have hy:am y.o.op≠.W:=fun h=>by rw [h,(ct hs).1] at hg; cases hg
   obtain ⟨s1',q1,q2⟩:=yW hs hyd hyx hy (aA hfx).2 (aA hfy).2 hu (fun h=>ha1.1.2 (List.mem_append_right _ h)) hby (hpy s hs).2.1 (hpy s hs).2.2 (fun h=>bd ha1.2 _ h (by rw [(hpy s hs).1]; exact FL)) p1 (p2.step ha1.1.1.2)
   exact ⟨s1',.inl ⟨aP ha1.1.1.2 _,q1.toN hys⟩,.inl ⟨aP ha1.1.1.1 _,q2.toN⟩⟩
  ·obtain ⟨s',z',hs',-⟩:=fU p2.choose_spec.2.1
   rw [(ct hs).1,(ct hs').1] at hg
   cases hg
end
end Go.Ab
end

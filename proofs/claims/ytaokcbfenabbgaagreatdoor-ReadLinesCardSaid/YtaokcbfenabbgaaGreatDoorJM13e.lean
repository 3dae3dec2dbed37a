import Derived.Test.YtaokcbfenabbgaaGreatDoorJM13b
import Derived.OrdersIn
set_option linter.all false
section
namespace Go.Ab
open Go.RowKit
def Prg.goes {R:Type} (C:Cal) (J:List Nat->ASt->R->Prop):Prg R->R->Prop
 | .fail,_=>False
 | .ret e',e=>e'=e
 | .tv p k,e=>∃ v,p=some v/\(k v).goes C J e
 | .tvs p k,e=>∃ v,p=some v/\(k v).goes C J e
 | .rws p k,e=>∃ v,p=some v/\(k v).goes C J e
 | .nat p k,e=>∃ v,p=some v/\(k v).goes C J e
 | .chk b k,e=>b=true/\k.goes C J e
 | .ite b t f,e=>∃ v,b=some v/\((v=true/\t.goes C J e)\/(v=false/\f.goes C J e))
 | .call f xs k,e=>∃ v,C f xs v/\(k v).goes C J e
 | .jmp p st,e=>J p st e
theorem Prg.dF {R S:Type} {C:Cal} {J:List Nat->ASt->S->Prop} {f:R->Prg S} {r:S}:∀ {p:Prg R},(p.bind f).goes C J r->∃ e,p.hits C e/\(f e).goes C J r
 | .fail,h=>h.elim
 | .ret e,h=>⟨e,rfl,h⟩
 | .tv p k,⟨v,h1,h⟩=>by obtain ⟨e,h2,h3⟩:=Prg.dF h; exact ⟨e,⟨v,h1,h2⟩,h3⟩
 | .tvs p k,⟨v,h1,h⟩=>by obtain ⟨e,h2,h3⟩:=Prg.dF h; exact ⟨e,⟨v,h1,h2⟩,h3⟩
 | .rws p k,⟨v,h1,h⟩=>by obtain ⟨e,h2,h3⟩:=Prg.dF h; exact ⟨e,⟨v,h1,h2⟩,h3⟩
 | .nat p k,⟨v,h1,h⟩=>by obtain ⟨e,h2,h3⟩:=Prg.dF h; exact ⟨e,⟨v,h1,h2⟩,h3⟩
 | .chk b k,⟨h1,h⟩=>by obtain ⟨e,h2,h3⟩:=Prg.dF (p:=k) h; exact ⟨e,⟨h1,h2⟩,h3⟩
 | .ite b t f,⟨v,h1,.inl ⟨h2,h⟩⟩=>by obtain ⟨e,h3,h4⟩:=Prg.dF (p:=t) h; exact ⟨e,⟨v,h1,.inl ⟨h2,h3⟩⟩,h4⟩
 | .ite b t f,⟨v,h1,.inr ⟨h2,h⟩⟩=>by obtain ⟨e,h3,h4⟩:=Prg.dF (p:=f) h; exact ⟨e,⟨v,h1,.inr ⟨h2,h3⟩⟩,h4⟩
 | .call f xs k,⟨v,h1,h⟩=>by obtain ⟨e,h2,h3⟩:=Prg.dF h; exact ⟨e,⟨v,h1,h2⟩,h3⟩
 | .jmp _ _,h=>h.elim
section
variable {P:Program} {E:Env} {C:Cal} {w0:Bs} {w w':World} {I0 I R:Nat->Prop} {g g':Gh} {st st' s1 s2:ASt} {a:Act} {ov:List Value} {look:Look} {Q:Exit->Act->World->Prop} {id:Nat}
def vE (E:Env) (C:Cal) (i:Item) (s s':ASt):Prop:=∃ e,(opL E (s.nid i.o.dst) (banned (bj i.ban s.base) s.look) i.o.op (i.o.op.operands.toList.map s.ev)).hits C e /\
 (i.dr=true->okE i s e=true)/\e.nfE.app s i.o.dst=some s'
def yb (E:Env) (C:Cal) (i:Item) (s s':ASt):Prop:=∃ e,(opL E (s.nid i.o.dst) (banned (bj i.ban s.base) s.look) i.o.op (i.o.op.operands.toList.map s.ev)).hits C e /\
 (i.dr=true->(e.plain=true/\e.pt s.base i.own=true)/\(cb i.push s i.o.dst e=true/\cF i s e=true))/\e.nfE.app s i.o.dst=some s'
def rd (E:Env) (C:Cal) (i:Item) (s s':ASt):Prop:=∃ e,(opL E (s.nid i.o.dst) (banned (bj i.ban s.base) s.look) i.o.op (i.o.op.operands.toList.map s.ev)).hits C e /\
 i8 i s e=true/\e.nfE.app s i.o.dst=some s'
def OpN (E:Env) (C:Cal) (ops:List Oper) (i:Item) (s s':ASt):Prop :=
 (aU ops i.o s=some (some true)/\vE E C i s s')\/(∃ b,aU ops i.o s=some b/\b≠some true/\s'=dc i.o s)
def OpP (E:Env) (C:Cal) (ops:List Oper) (i:Item) (s s':ASt):Prop :=
 (aU ops i.o s=some (some true)/\yb E C i s s')\/(∃ b,aU ops i.o s=some b/\b≠some true/\s'=dc i.o s)
theorem yb.toN {i:Item} (hsh:i.shut=false) {s s':ASt}:yb E C i s s'->vE E C i s s':=fun ⟨e,h1,h2,h3⟩=>⟨e,h1,fun hd=>by obtain ⟨⟨a,b⟩,c,d⟩:=h2 hd; simp only [okE,a,b,c,d,hsh,Bool.and_self,cond_false,Bool.true_or,Bool.or_true],h3⟩
theorem rd.toN {i:Item} {s s':ASt}:rd E C i s s'->vE E C i s s':=fun ⟨e,h1,h2,h3⟩=>⟨e,h1,fun hd=>by simp only [okE,h2,Bool.or_true],h3⟩
theorem OpP.toN {ops:List Oper} {i:Item} (hsh:i.shut=false) {s s':ASt}:OpP E C ops i s s'->OpN E C ops i s s'
 | .inl ⟨h,h'⟩=>.inl ⟨h,h'.toN hsh⟩
 | .inr h=>.inr h
theorem OpN.parts {ops:List Oper} {i:Item} {s s':ASt} (hd:i.dr=true) (hsh:i.shut=false) (hlo:i.loose=false):OpN E C ops i s s'->OpP E C ops i s s'\/(aU ops i.o s=some (some true)/\rd E C i s s')
 | .inr h=>.inl (.inr h)
 | .inl ⟨h, e, h1, h2, h3⟩ => by
  have h2:=h2 hd
  unfold okE at h2
  rw [hlo,hsh,Bool.false_and,Bool.false_or,Bool.or_eq_true] at h2
  rcases h2 with h2 | h2
  ·simp only [cond_false,DV] at h2
   exact .inl (.inl ⟨h,e,h1,fun _=>h2,h3⟩)
  ·exact .inr ⟨h,e,h1,h2,h3⟩
theorem zU {i:Item} {s:ASt} {e:Eff} (h:okE i s e.nfE=true):okE i s e=true:=by
 unfold okE at h ⊢
 rw [Bool.or_eq_true] at h ⊢
 rcases h with h | h
 ·refine .inl ?_
  have:b7 i s e.nfE=b7 i s e:=by unfold b7; simp only [oD,xw,qO]
  rwa [this] at h
 refine .inr ?_
 rw [Bool.or_eq_true] at h ⊢
 rcases h with h | h
 ·rw [ng,va] at h
  have:cb i.push s i.o.dst e.nfE=cb i.push s i.o.dst e:=by unfold cb; rw [bY]
  rw [this] at h
  have e2:fY i s e.nfE=fY i s e:=by unfold fY; rw [jk,bY]
  have e3:cF i s e.nfE=cF i s e:=by unfold cF; rw [bY,o1]
  rw [e2,e3] at h
  exact .inl h
 ·exact nomatch h
inductive Ah (E:Env) (C:Cal) (ops:List Oper):List Item->ASt->ASt->Prop
 | nil (s:ASt):Ah E C ops [] s s
 | cons {i:Item} {l:List Item} {s s1 s':ASt} (h:OpN E C ops i s s1) (r:Ah E C ops l s1 s'):Ah E C ops (i :: l) s s'
theorem pp {v:TV} {b:Bool} (h:asBool v=some b):v=.lit (.bool b):=by
 unfold asBool at h
 split at h
 ·simp only [DU] at h; subst h; rfl
 ·cases h
theorem xh {T:Type} {J:List Nat->ASt->T->Prop} {i:Item} {K:ASt->Prg T} {r:T} (h:(lu E i K st).goes C J r):∃ st1,vE E C i st.nfS st1.nfS/\(K st1).goes C J r:=by
 unfold lu at h
 obtain ⟨e,h1,h2⟩:=Prg.dF h
 obtain ⟨e',h3,h4⟩:=opL_nf h1
 unfold effQ at h2
 cases hc:i.dr && !(okE i st e) with
 | true=>rw [hc] at h2; exact h2.elim
 | false =>
  rw [hc] at h2
  simp only [cond_false] at h2
  split at h2
  ·rename_i st1 ha
   refine ⟨st1,⟨e',?_,fun hd=>?_,?_⟩,h2⟩
   ·have:i.o.op.operands.toList.map st.nfS.ev=(i.o.op.operands.toList.map st.ev).map AV.nf:=by
     rw [List.map_map]
     apply List.map_congr_left
     intro x _
     exact qg st x
    rw [this,uJ,mY,kE]
    exact h3
   ·refine zU ?_
    rw [h4]
    exact okE_nf (by simpa [hd] using hc)
   ·rw [h4]
    exact app_nf ha
  ·exact h2.elim
theorem pr {g:Nat} {v v':AV} (h:nth (.one .junk) st.slots g=v) (hv:v.nf=v'.nf):(st.put (some g) v').nfS=st.nfS:=by
 rw [hU]
 simp only [ASt.put]
 have:au st.nfS.slots g v'.nf=st.nfS.slots:=by
  rw [ai]
  apply List.ext_getElem?
  intro t
  rw [List.getElem?_set]
  by_cases ht:g=t
  ·subst ht
   cases hs:st.slots[g]? with
   | none =>
    have:st.nfS.slots[g]? = none:=by simp [ASt.nfS,hs]
    have hlt:¬ g < st.nfS.slots.length:=by
     intro hlt
     rw [DT hlt] at this
     cases this
    simp [hlt]
   | some u =>
    rw [bz hs] at h
    subst h
    have hlt:g < st.nfS.slots.length:=by simp [ASt.nfS]; exact (DS.1 hs).1
    simp only [if_true,hlt]
    rw [<- hv]
    simp [ASt.nfS,hs]
  ·simp [ht]
 rw [this]
theorem iF {T:Type} {J:List Nat->ASt->T->Prop} {ops:List Oper} {i:Item} {K:ASt->Prg T} {r:T} (h:(opQ E ops i K st).goes C J r):∃ st1,OpN E C ops i st.nfS st1.nfS/\(K st1).goes C J r:=by
 unfold opQ at h
 have skip:∀ {s:ASt} {b:Option Bool},s.nfS=st.nfS->aU ops i.o st.nfS=some b->b≠some true->(K (dc i.o s)).goes C J r->∃ st1,OpN E C ops i st.nfS st1.nfS/\(K st1).goes C J r:=by
  intro s b he hg hb hk
  refine ⟨_,.inr ⟨b,hg,hb,?_⟩,hk⟩
  simp only [dc]
  rw [hU,he]
  rfl
 have run:∀ {s:ASt},s.nfS=st.nfS->aU ops i.o st.nfS=some (some true)->(lu E i K s).goes C J r->∃ st1,OpN E C ops i st.nfS st1.nfS/\(K st1).goes C J r:=by
  intro s he hg hk
  obtain ⟨st1,h1,h2⟩:=xh hk
  rw [he] at h1
  exact ⟨st1,.inl ⟨hg,h1⟩,h2⟩
 cases hg:i.o.guard with
 | none =>
  simp only [hg] at h
  exact run rfl (by simp [aU,hg]) h
 | some q =>
  obtain ⟨j,want⟩:=q
  simp only [hg] at h
  cases hd:(ops[j]?).bind (·.dst) with
  | none=>simp only [hd] at h; exact h.elim
  | some g =>
   simp only [hd] at h
   have gv:∀ {v:AV},nth (.one .junk) st.slots g=v->aU ops i.o st.nfS=(match v.nf with | .one .undef=>some none | .bl b=>some (some (b == want)) | _=>none):=by
    intro v hv
    simp only [aU,hg,hd,kv,hv]
    generalize v.nf=u
    cases u with
    | one c=>cases c <;> rfl
    | _=>rfl
   have ite:∀ {v:TV} {x y:Prg T},(Prg.ite (asBool v) x y).goes C J r->∃ b,v=.lit (.bool b)/\(bif b then x else y).goes C J r:=by
    rintro v x y ⟨b,hb,h⟩
    refine ⟨b,pp hb,?_⟩
    rcases h with ⟨rfl,h⟩ | ⟨rfl,h⟩ <;> exact h
   cases hs:nth (.one .junk) st.slots g with
   | one c =>
    simp only [hs] at h
    cases c with
    | undef=>exact skip rfl (by rw [gv hs]; rfl) (by simp) h
    | t v =>
     obtain ⟨b,rfl,h'⟩:=ite h
     have he:(st.put (some g) (.bl b)).nfS=st.nfS:=pr hs rfl
     have hgd:=gv hs
     simp only [AV.nf] at hgd
     cases b <;> cases want <;> simp only [cond_true,cond_false] at h'
     ·exact run he (by rw [hgd]; rfl) h'
     ·exact skip (b:=some false) he (by rw [hgd]; rfl) (by simp) h'
     ·exact skip (b:=some false) he (by rw [hgd]; rfl) (by simp) h'
     ·exact run he (by rw [hgd]; rfl) h'
    | _=>exact h.elim
   | agg cs=>simp only [hs] at h; exact h.elim
   | tups cs=>simp only [hs] at h; exact h.elim
   | clo _ cs=>simp only [hs] at h; exact h.elim
   | tv v =>
    simp only [hs] at h
    obtain ⟨b,rfl,h'⟩:=ite h
    have he:(st.put (some g) (.bl b)).nfS=st.nfS:=pr hs rfl
    have hgd:=gv hs
    simp only [AV.nf] at hgd
    cases b <;> cases want <;> simp only [cond_true,cond_false] at h'
    ·exact run he (by rw [hgd]; rfl) h'
    ·exact skip (b:=some false) he (by rw [hgd]; rfl) (by simp) h'
    ·exact skip (b:=some false) he (by rw [hgd]; rfl) (by simp) h'
    ·exact run he (by rw [hgd]; rfl) h'
   | bl b =>
    simp only [hs] at h
    have hgd:=gv hs
    simp only [AV.nf] at hgd
    cases b <;> cases want <;> simp only [cond_true,cond_false] at h
    ·exact run rfl (by rw [hgd]; rfl) h
    ·exact skip (b:=some false) rfl (by rw [hgd]; rfl) (by simp) h
    ·exact skip (b:=some false) rfl (by rw [hgd]; rfl) (by simp) h
    ·exact run rfl (by rw [hgd]; rfl) h
theorem iD {T:Type} {J:List Nat->ASt->T->Prop} {ops:List Oper} {K:ASt->Prg T} {r:T}:∀ {l:List Item} {st:ASt},(AK E ops l K st).goes C J r->∃ fin,Ah E C ops l st.nfS fin.nfS/\(K fin).goes C J r
 | [],st,h=>⟨st,.nil _,h⟩
 | i :: l,st,h=>by
  simp only [AK,ju] at h
  obtain ⟨st1,h1,h2⟩:=iF h
  obtain ⟨fin,h3,h4⟩:=iD h2
  exact ⟨fin,.cons h1 h3,h4⟩
theorem nI (ban:List Nat) (st:ASt):∀ i b,banned ban st.look i=some b->st.look i=some b:=fun i b h=>by
 unfold banned at h
 cases hm:bD i ban with
 | true=>simp [hm] at h
 | false=>simpa [hm] using h
theorem l9 {ops:Array Oper} {o:Oper} {j:Nat} {want:Bool} {t:Tmp} (hg:(ops[j]?).bind (·.dst)=some t) (hs:aj w0 I0 R g st a ov w) {b:Option Bool} (hv:aU ops.toList o st=some b) (ho:o.guard=some (j,want)) :
  (Region.wanted o (yielded ops a.tmps)=true ↔ b=some true):=by
 have hg':(ops.toList[j]?).bind (·.dst)=some t:=by rw [DW]; exact hg
 simp only [aU,ho,hg'] at hv
 simp only [Region.wanted,ho,yielded,hg,Option.bind_some]
 cases hsl:st.slots[t]? with
 | none=>rw [aV,hsl] at hv; simp at hv
 | some v =>
  have hrep:=hs.slots t v hsl
  have hlt:t < a.tmps.size:=by rw [hs.len]; exact (DS.1 hsl).1
  have hget:a.tmps[t]? = some (a.tmps.getD t undef):=by simp [hlt]
  rw [bz hsl] at hv
  obtain ⟨u,hu⟩:∃ u,u=a.tmps.getD t undef:=⟨_,rfl⟩
  rw [<- hu] at hrep hget
  rw [hget]
  split at hv
  ·simp only [DU] at hv
   subst hv
   have:u=undef:=hrep
   subst this
   simp [undef]
  ·simp only [DU] at hv
   subst hv
   have:u=.bool _:=hrep
   subst this
   simp
  ·cases hv
def Rd (ro:Option Nat):Fence:={ Fence.wide with round:=ro }
theorem rd_in {ro:Option Nat} {P:Program} {m m':Machine}:StepsIn (Machine.fenced P (Rd ro)) P m m' ↔ Steps P m m':=stepsIn_wide
theorem fx {ro:Option Nat} {n:Nat} {P:Program} {f:FuncId} {args:Array Value} {w:World} {R:Ending->World->Prop}:CallsIn (Rd ro) n P f args w R ↔ Calls P f args w R:=callsIn_wide
theorem CQ {ro:Option Nat} (n:Nat):(Rd ro).room n:=room_wide n
theorem xC {ro:Option Nat} {o:Oper} (hd:∀ c,o.op≠.defer c) {a:Act} {w:World} {next:Act->World->Prop} {Q:Exit->Act->World->Prop} (h:o.wp P a w next Q):o.wpIn (Rd ro) 0 P a w next Q:=by
 refine ⟨fun _ _=>trivial,?_⟩
 rw [Oper.semAt_eq _ _ _ hd]
 unfold Oper.wp at h
 generalize (execOp a.eval o).run P w=r at *
 cases r with
 | ok x w' =>
  cases x <;> simp only [Oper.upon] at h <;> simp only [Oper.uponIn] <;>
   first
    | exact h
    | exact ⟨fun h=>by simp [Rd,Fence.wide] at h,fx.2 h⟩
    | exact ⟨fun h=>by simp [Rd,Fence.wide] at h,fun c cs _=>by obtain ⟨v,w',r,s⟩:=h c cs; exact ⟨v,w',r,rd_in.2 s⟩⟩
 | halt x w'=>cases x <;> simp only [Oper.upon] at h <;> simp only [Oper.uponIn] <;> exact h
theorem kP (hE:fJ P w0.G E C) {ops:Array Oper} {n:Nat} {i:Item} (hn:ops[n]? = some i.o) (hs:Sim w0 I0 st a ov w) (h:OpN E C ops.toList i st st') {ro:Option Nat}:wpOpIn (Rd ro) 0 P ops Q n (fun a' w'=>Sim w0 I0 st' a' ov w') a w:=by
 obtain ⟨g,hs⟩:=hs
 unfold wpOpIn
 rw [hn]
 simp only []
 have run:vE E C i st st'->i.o.wpIn (Rd ro) 0 P a w (fun a' w'=>Sim w0 I0 st' a' ov w') Q:=fun ⟨e,h1,_,h3⟩=>by
  obtain ⟨st1,h4,h5⟩:=xY h3
  refine xC (fun c hc=>?_) (Oper.wp_mono (fun a' w' hh=>h5 w0 I0 a' ov w' hh) (BD hE (nI _ st) hs h1 h4))
  rw [hc] at h1
  simp only [opL] at h1
  exact h1.elim
 have skip:st'=dc i.o st->Sim w0 I0 st' (a.put i.o.dst undef) ov w:=fun h=>by
  subst h
  exact ⟨g,hs.put i.o.dst (v:=.one .undef) rfl⟩
 cases hg:i.o.guard with
 | none =>
  have hw:Region.wanted i.o (yielded ops a.tmps)=true:=by simp [Region.wanted,hg]
  rw [if_pos hw]
  rcases h with ⟨_,h⟩ | ⟨b,hb,hne,_⟩
  ·exact run h
  ·simp [aU,hg] at hb
   exact absurd hb.symm hne
 | some q =>
  obtain ⟨j,want⟩:=q
  cases hd:(ops[j]?).bind (·.dst) with
  | none =>
   have hd':(ops.toList[j]?).bind (·.dst)=none:=by rw [DW]; exact hd
   rcases h with ⟨h,_⟩ | ⟨b,hb,_⟩
   ·simp only [aU,hg,hd'] at h; cases h
   ·simp only [aU,hg,hd'] at hb; cases hb
  | some t =>
   rcases h with ⟨hv,h⟩ | ⟨b,hv,hne,h⟩
   ·rw [if_pos ((l9 hd hs hv hg).2 rfl)]
    exact run h
   ·rw [if_neg (fun hw=>hne ((l9 hd hs hv hg).1 hw))]
    exact ⟨fun _ _=>trivial,skip h⟩
theorem cn {t:Nat}:∀ {l:List Operand},.tmp t ∈ l->t ∈ eQ l
 | x :: l, h => by
  rcases List.mem_cons.1 h with rfl | h
  ·simp [eQ]
  ·have:=cn h
   cases x <;> simp [eQ,this]
theorem bU {d:Option Nat} {l:List Nat} (h:eW d l=true):∀ t,d=some t->t ∉ l:=fun t ht hm=>by
 subst ht
 simp only [eW,Bool.not_eq_true',] at h
 rw [(bN _ _).2 hm] at h
 cases h
def jd (d:Option Nat) (s t:ASt):Prop:=s.slots.length=t.slots.length/\∀ k,d≠some k->nth (.one .junk) s.slots k=nth (.one .junk) t.slots k
theorem fb (st:ASt) (d:Option Tmp) (v:AV) (k:Nat) (h:d≠some k):nth (.one .junk) (st.put d v).slots k=nth (.one .junk) st.slots k:=by
 cases d with
 | none=>rfl
 | some d =>
  have:d≠k:=fun e=>h (by rw [e])
  simp only [ASt.put,ai,aV,List.getElem?_set,this,if_false]
theorem Dz {d:Option Nat} {s t:ASt} (h:jd d s t) {x:Operand} (hx:∀ k,x=.tmp k->d≠some k):s.ev x=t.ev x:=by
 cases x with
 | tmp k=>exact h.2 k (hx k rfl)
 | const v=>cases v <;> rfl
 | _=>rfl
theorem em {d:Option Nat} {s t:ASt} (h:jd d s t) {l:List Operand} (hx:eW d (eQ l)=true):l.map s.ev=l.map t.ev:=by
 apply List.map_congr_left
 intro x hxl
 refine Dz h (fun k hk e=>?_)
 subst hk
 exact bU hx k e (cn hxl)
theorem jf {d:Option Nat} {s t:ASt} {ops:List Oper} {o:Oper} (h:jd d s t) (hx:eW d (nD ops o)=true):aU ops o s=aU ops o t:=by
 unfold aU
 cases hg:o.guard with
 | none=>rfl
 | some q =>
  obtain ⟨j,want⟩:=q
  simp only []
  cases hd:(ops[j]?).bind (·.dst) with
  | none=>rfl
  | some g =>
   have:nth (.one .junk) s.slots g=nth (.one .junk) t.slots g:=h.2 g (fun e=>bU hx g e (by simp [nD,hg,hd]))
   simp only [this]
theorem oR (n:Nat):∀ (a b:List Nat),bD n (a ++ b)=(bD n a || bD n b)
 | [],b=>rfl
 | x :: a,b=>by
  simp only [List.cons_append,bD]
  cases x.beq n <;> simp [oR n a b]
theorem aE {d:Option Nat} {a b:List Nat} (h:eW d (a ++ b)=true):eW d a=true/\eW d b=true:=by
 cases d with
 | none=>exact ⟨rfl,rfl⟩
 | some d =>
  simp only [eW,oR,Bool.not_or,DV] at h
  exact h
theorem cB {b:BC} {v:AV} {d:Option Tmp} (ha:(Eff.new b v).app st d=some st'):∃ d',d=some d'/\st.look (st.nid d)=none/\st.nid d < st.boxes.length/\st'=(st.ac (st.nid d) (some b)).put d v:=by
 cases d with
 | none=>simp [Eff.app] at ha
 | some d =>
  simp only [Eff.app] at ha
  split at ha
  ·rename_i s1 hs1
   obtain ⟨h1,h2,rfl⟩:=bd hs1
   simp only [DU] at ha
   exact ⟨d,rfl,h1,h2,ha.symm⟩
  ·cases ha
theorem lg {b:BC} {v:AV} {d:Tmp} (h1:st.look (st.nid (some d))=none) (h2:st.nid (some d) < st.boxes.length):(Eff.new b v).app st (some d)=some ((st.ac (st.nid (some d)) (some b)).put (some d) v):=by
 have h2':(st.nid (some d)).blt st.boxes.length=true:=by simpa using h2
 simp only [Eff.app,ASt.bi,h1,h2',cond_true]
theorem gC {e:Eff} {d:Option Nat} (hp:e.plain=true) (ha:e.app st d=some st'):jd d st' st/\st'.boxes.length=st.boxes.length/\st'.out=st.out:=by
 cases e with
 | val v =>
  simp only [Eff.app,DU] at ha
  subst ha
  refine ⟨⟨?_,fun k hk=>fb st d v k hk⟩,by rw [bI],by rw [mZ]⟩
  cases d <;> simp [ASt.put,ai]
 | new b v =>
  obtain ⟨dd,rfl,hl,hlt,rfl⟩:=cB ha
  refine ⟨⟨?_,fun k hk=>?_⟩,by rw [bI]; simp [ASt.ac,ai],by rw [mZ]; rfl⟩
  ·simp [ASt.put,ASt.ac,ai]
  ·rw [fb _ _ _ _ hk]; rfl
 | upd i b v =>
  simp only [Eff.app,DU] at ha
  subst ha
  refine ⟨⟨?_,fun k hk=>?_⟩,by rw [bI]; simp [ASt.ac,ai],by rw [mZ]; rfl⟩
  ·cases d <;> simp [ASt.put,ASt.ac,ai]
  ·rw [fb _ _ _ _ hk]; rfl
 | _=>simp [Eff.plain] at hp
inductive Move (c:Cls) (st:ASt):Eff->Prop
 | val (v:AV) (h:c=.N\/c=.R\/c=.B\/c=.P):Move c st (.val v)
 | new (b:BC) (v:AV) (h:c=.A\/c=.B\/c=.P):Move c st (.new b v)
 | upd (i:Nat) (b:BC) (v:AV) (h:c=.W) (hl:(st.look i).isSome=true):Move c st (.upd i b v)
theorem Move.nf {c:Cls} {e:Eff} (h:Move c st e):Move c st e.nfE:=by
 cases h with
 | val v h=>exact .val _ h
 | new b v h=>exact .new _ _ h
 | upd i b v h hl=>exact .upd _ _ _ h hl
theorem uX {op:Op} {ban:List Nat} {vs:List AV} {e:Eff} (hx:(ap op).isX=false) (hp:e.plain=true) (hh:(opL E id (banned ban st.look) op vs).hits C e):Move (ap op) st e:=by
 cases hc:ap op with
 | N=>obtain ⟨v,rfl⟩:=(DO hc vs).hits hh; exact .val v (.inl rfl)
 | R=>obtain ⟨v,rfl⟩:=(AS hc vs).hits hh; exact .val v (.inr (.inl rfl))
 | A=>obtain ⟨b,row,rfl⟩:=(cls_A hc vs).hits hh; exact .new b row (.inl rfl)
 | B =>
  rcases (cls_B hc vs).hits hh hp with ⟨v,rfl⟩ | ⟨b,v,rfl⟩
  ·exact .val v (.inr (.inr (.inl rfl)))
  ·exact .new b v (.inr (.inl rfl))
 | P =>
  rcases (cls_P hc vs).hits hh hp with ⟨v,rfl⟩ | ⟨b,v,rfl⟩
  ·exact .val v (.inr (.inr (.inr rfl)))
  ·exact .new b v (.inr (.inr rfl))
 | W =>
  obtain ⟨i,b,v,rfl,hl⟩:=(BJ hc vs).hits hh hp
  obtain ⟨c,hc'⟩:=Option.isSome_iff_exists.1 hl
  exact .upd i b v rfl (by rw [nI ban st i c hc']; rfl)
 | X=>simp [hc,Cls.isX] at hx
theorem zK {a b:Nat} (h:a≠b):unlike (some a) (some b)=true:=by
 simp only [unlike,Bool.not_eq_true']
 cases hb:a.beq b with
 | false=>rfl
 | true=>exact absurd ((ar _ _).1 hb) h
theorem pd {a b:Option Nat} (h:unlike a b=true):unlike b a=true:=by
 cases a with
 | none=>cases b <;> rfl
 | some p =>
  cases b with
  | none=>rfl
  | some q=>exact zK (fun e=>by subst e; simp [unlike] at h)
theorem eC (st:ASt) {d d':Option Nat} (h:unlike d d'=true) (u v:AV):(st.put d u).put d' v=(st.put d' v).put d u:=by
 cases d with
 | none=>rfl
 | some d =>
  cases d' with
  | none=>rfl
  | some d' =>
   have hne:d≠d':=fun e=>by subst e; simp [unlike] at h
   simp only [ASt.put,ai]
   rw [List.set_comm _ _ hne]
theorem fq (st:ASt) {i j:Nat} (h:i≠j) (b c:Option BC):(st.ac i b).ac j c=(st.ac j c).ac i b:=by
 simp only [ASt.ac,ai]
 rw [List.set_comm _ _ h]
theorem aQ (st:ASt) (i:Nat) (b:Option BC) (d:Option Nat) (v:AV):(st.put d v).ac i b=(st.ac i b).put d v:=by cases d <;> rfl
theorem aW (st:ASt) (d d':Option Tmp) (v:AV):(st.put d v).nid d'=st.nid d':=by cases d' <;> simp [ASt.nid,mZ]
theorem a9 (st:ASt) (i:Nat) (b:Option BC) (d':Option Tmp):(st.ac i b).nid d'=st.nid d':=by cases d' <;> rfl
theorem nid_ne {d d':Nat} (h:d≠d'):st.nid (some d)≠st.nid (some d'):=by simp only [ASt.nid]; omega
theorem ka {e:Eff} {d:Option Nat} {c:Cls} (hm:Move c st e) (ha:e.app st d=some s1) :
  (∀ j,(∃ v,e=.val v)->s1.look j=st.look j)/\(∀ j b row,e=.new b row->s1.look j=if st.nid d=j then some b else st.look j)/\(∀ j i b v,e=.upd i b v->s1.look j=if i=j then some b else st.look j):=by
 refine ⟨fun j ⟨v,hv⟩=>?_,fun j b row hb=>?_,fun j i b v hu=>?_⟩
 ·subst hv
  simp only [Eff.app,DU] at ha
  subst ha
  rw [bQ]
 ·subst hb
  obtain ⟨dd,rfl,hl,hlt,rfl⟩:=cB ha
  rw [bQ,ah]
  by_cases h:st.nid (some dd)=j
  ·subst h; simp [hlt]
  ·simp [h]
 ·subst hu
  simp only [Eff.app,DU] at ha
  subst ha
  rw [bQ,ah]
  cases hm with
  | upd _ _ _ _ hl =>
   obtain ⟨c,hc⟩:=Option.isSome_iff_exists.1 hl
   by_cases h:i=j
   ·subst h; simp [ep hc]
   ·simp [h]
theorem nq {ban:List Nat} {s t:ASt} (h:∀ j,j ∉ ban->s.look j=t.look j):banned ban s.look=banned ban t.look:=by
 funext j
 unfold banned
 cases hm:bD j ban with
 | true=>rfl
 | false=>simp only [cond_false]; exact h j (fun e=>by rw [(bN _ _).2 e] at hm; cases hm)
theorem BM {cx cy:Cls} {dx dy:Option Nat} {ex ey:Eff} (hu:unlike dx dy=true) (mx:Move cx st ex) (my:Move cy s1 ey) (hx:ex.app st dx=some s1) (hy:ey.app s1 dy=some s2)
  (hb:∀ i b v,ey=.upd i b v->(∃ b row,ex=.new b row)->st.nid dx≠i) (hw:∀ i b v i' b' v',ex=.upd i b v->ey=.upd i' b' v'->i≠i'):∃ s1',ey.app st dy=some s1'/\ex.app s1' dx=some s2:=by
 cases mx with
 | val u hc =>
  simp only [Eff.app,DU] at hx
  subst hx
  cases my with
  | val v hc' =>
   simp only [Eff.app,DU] at hy
   subst hy
   exact ⟨_,rfl,by simp only [Eff.app]; rw [eC st hu]⟩
  | new b v hc' =>
   obtain ⟨d,rfl,hl,hlt,rfl⟩:=cB hy
   rw [bQ,aW] at hl
   rw [bI,aW] at hlt
   refine ⟨_,lg hl hlt,?_⟩
   simp only [Eff.app,DU]
   rw [aQ,eC _ hu,aW]
  | upd i b v hc' hl =>
   simp only [Eff.app,DU] at hy
   subst hy
   refine ⟨_,rfl,?_⟩
   simp only [Eff.app,DU]
   rw [aQ,eC _ hu]
 | new b u hc =>
  obtain ⟨d,rfl,hl,hlt,rfl⟩:=cB hx
  have hlk:∀ j,((st.ac (st.nid (some d)) (some b)).put (some d) u).look j=if st.nid (some d)=j then some b else st.look j:=fun j=>by
   rw [bQ,ah]
   by_cases h:st.nid (some d)=j
   ·rw [if_pos ⟨h,hlt⟩,if_pos h]
   ·rw [if_neg (fun h'=>h h'.1),if_neg h]
  cases my with
  | val v hc' =>
   simp only [Eff.app,DU] at hy
   subst hy
   refine ⟨_,rfl,?_⟩
   rw [lg (by rw [bQ,aW]; exact hl) (by rw [bI,aW]; exact hlt),aW,aQ,eC _ hu]
  | new b' v hc' =>
   obtain ⟨d',rfl,hl',hlt',rfl⟩:=cB hy
   have hne:d≠d':=fun e=>by subst e; simp [unlike] at hu
   have hni:st.nid (some d)≠st.nid (some d'):=nid_ne hne
   rw [aW,a9] at hl' hlt'
   rw [hlk,if_neg hni] at hl'
   have hlt2:st.nid (some d') < st.boxes.length:=by rw [bI] at hlt'; simpa [ASt.ac,ai] using hlt'
   refine ⟨_,lg hl' hlt2,?_⟩
   rw [lg (by rw [bQ,aW,a9,ah,if_neg (fun h=>hni h.1.symm)]; exact hl) (by rw [bI,aW,a9]; simpa [ASt.ac,ai] using hlt)]
   rw [aW,a9,aW,a9,aQ,aQ,fq _ hni,eC _ (d:=some d) (d':=some d') hu]
  | upd i b' v hc' hl' =>
   simp only [Eff.app,DU] at hy
   subst hy
   have hid:=hb i b' v rfl ⟨b,u,rfl⟩
   refine ⟨_,rfl,?_⟩
   rw [lg (by rw [bQ,aW,a9,ah,if_neg (fun h=>hid h.1.symm)]; exact hl) (by rw [bI,aW,a9]; simpa [ASt.ac,ai] using hlt)]
   rw [aW,a9,aQ,aQ,fq _ hid,eC _ (d:=some d) (d':=dy) hu]
 | upd i b u hc hl =>
  simp only [Eff.app,DU] at hx
  subst hx
  subst hc
  cases my with
  | val v hc' =>
   simp only [Eff.app,DU] at hy
   subst hy
   refine ⟨_,rfl,?_⟩
   simp only [Eff.app,DU]
   rw [aQ,eC _ hu]
  | new b' v hc' =>
   obtain ⟨d',rfl,hl',hlt',rfl⟩:=cB hy
   rw [aW,a9] at hl' hlt'
   rw [bQ,ah] at hl'
   obtain ⟨c,hc2⟩:=Option.isSome_iff_exists.1 hl
   have hlt2:st.nid (some d') < st.boxes.length:=by rw [bI] at hlt'; simpa [ASt.ac,ai] using hlt'
   have hne:i≠st.nid (some d'):=fun e=>by rw [if_pos ⟨e,ep hc2⟩] at hl'; cases hl'
   have hl3:st.look (st.nid (some d'))=none:=by
    rw [if_neg (fun h=>hne h.1)] at hl'; exact hl'
   refine ⟨_,lg hl3 hlt2,?_⟩
   simp only [Eff.app,DU]
   rw [aW,a9,aQ,aQ,fq _ hne,eC _ (d:=some d') (d':=dx) (pd hu)]
  | upd i' b' v hc' hl' =>
   have hne:=hw i b u i' b' v rfl rfl
   simp only [Eff.app,DU] at hy
   subst hy
   refine ⟨_,rfl,?_⟩
   simp only [Eff.app,DU]
   rw [aQ,aQ,fq _ hne,eC _ hu]
theorem uS {p:Prop} [Decidable p] {c d:Cls} (h:(if p then c else .N)=d) (hd:d≠.N):c=d:=by
 by_cases hp:p
 ·rwa [if_pos hp] at h
 ·rw [if_neg hp] at h; exact absurd h.symm hd
theorem oq {p:Prop} [Decidable p] {c:Cls} (h:(if p then c else .N)=.A\/(if p then c else .N)=.B\/(if p then c else .N)=.P):c.makes=true:=by
 rcases h with h | h | h <;> rw [uS h (by simp)] <;> rfl
theorem rO {ps:List Nat} {s t:ASt} {d:Option Nat} {e:Eff} (hb:s.base=t.base) (h:∀ k,d=some k->nth (.one .junk) s.slots k=nth (.one .junk) t.slots k):cb ps s d e=cb ps t d e:=by
 unfold cb
 congr 1
 funext k
 cases d with
 | none=>rw [hb]
 | some d=>simp only [hb,h d rfl]
theorem kO {i:Item} {s t:ASt} {e:Eff} (hb:s.base=t.base) (hd:∀ k,i.o.dst=some k->nth (.one .junk) s.slots k=nth (.one .junk) t.slots k) (h:i.o.op.operands.toList.map s.ev=i.o.op.operands.toList.map t.ev):cF i s e=cF i t e:=by
 unfold cF
 have:∀ b,ig s i.o.dst b=ig t i.o.dst b:=fun b=>by
  cases hk:i.o.dst with
  | none=>rfl
  | some d=>simp only [ig,hd d hk]
 have hD:∀ b,fG s i.o.dst b=fG t i.o.dst b:=fun b=>by
  cases hk:i.o.dst with
  | none=>rfl
  | some d=>simp only [fG,hd d hk]
 simp only [hb,h,this,hD]
theorem kY {a b:Option Nat} (h:unlike a b=true):∀ k,b=some k->a≠some k:=fun k hk e=>by subst hk; subst e; simp [unlike] at h
theorem BL {ops : List Oper} {x y : Item} (hap : bW ops x.o y.o = true) (hxd : x.dr = true) (hyd : y.dr = true) (hxx : (ap x.o.op).isX = false) (hyx : (ap y.o.op).isX = false)
  (hbx:(ap x.o.op).makes=true->∀ d,x.o.dst=some d->d ∈ y.ban.1) (hby:(ap y.o.op).makes=true->∀ d,y.o.dst=some d->d ∈ x.ban.1)
  (hox:(ap y.o.op).reads=true->y.ban ∈ x.own) (hoy:(ap x.o.op).reads=true->x.ban ∈ y.own) (h1:OpP E C ops x st s1) (h2:OpP E C ops y s1 s2) :
  ∃ s1',OpP E C ops y st s1'/\OpP E C ops x s1' s2:=by
 simp only [bW,DV] at hap
 obtain ⟨⟨⟨⟨hg,hfx⟩,hfy⟩,hu⟩,_⟩:=hap
 obtain ⟨hfx1,hfx2⟩:=aE hfx
 obtain ⟨hfy1,hfy2⟩:=aE hfy
 have hu':unlike y.o.dst x.o.dst=true:=pd hu
 have dec:∀ {i:Item} {s s':ASt},i.dr=true->(ap i.o.op).isX=false->OpP E C ops i s s'->∃ e,(aU ops i.o s=some (some true)->cb i.push s i.o.dst e=true/\cF i s e=true)/\Move (if aU ops i.o s=some (some true) then ap i.o.op else .N) s e/\e.nfE.app s i.o.dst=some s' /\
   ((aU ops i.o s=some (some true)/\(opL E (s.nid i.o.dst) (banned (bj i.ban s.base) s.look) i.o.op (i.o.op.operands.toList.map s.ev)).hits C e/\(e.plain=true/\e.pt s.base i.own=true))\/(∃ b,aU ops i.o s=some b/\b≠some true/\e=.val (.one .undef))):=by
  intro i s s' hd hx h
  rcases h with ⟨hg,e,k1,k2,k3⟩ | ⟨b,hg,hb,h⟩
  ·refine ⟨e,fun _=>(k2 hd).2,?_,k3,.inl ⟨hg,k1,(k2 hd).1⟩⟩
   rw [if_pos hg]
   exact uX hx (k2 hd).1.1 k1
  ·refine ⟨.val (.one .undef),fun h=>absurd (Option.some.inj (hg.symm.trans h)) hb,?_,?_,.inr ⟨b,hg,hb,rfl⟩⟩
   ·rw [if_neg (by rw [hg]; simpa using hb)]
    exact .val _ (.inl rfl)
   ·rw [h]; rfl
 obtain ⟨ex,cx,mx,ax,hx⟩:=dec hxd hxx h1
 obtain ⟨ey,cy,my,ay,hy⟩:=dec hyd hyx h2
 have px:ex.nfE.plain=true:=by rw [ng]; cases mx <;> rfl
 have py:ey.nfE.plain=true:=by rw [ng]; cases my <;> rfl
 obtain ⟨sb1,_,so1⟩:=gC px ax
 have hb1:s1.base=st.base:=by simp [ASt.base,so1]
 have hn1:∀ d,s1.nid d=st.nid d:=fun d=>by cases d <;> simp [ASt.nid,so1]
 have hgy:aU ops y.o s1=aU ops y.o st:=jf sb1 hfx1
 have hvy:y.o.op.operands.toList.map s1.ev=y.o.op.operands.toList.map st.ev:=em sb1 hfx2
 have inO:∀ {base:Nat} {own:List (List Nat × List Nat)} {ban:List Nat × List Nat} {i:Nat} {b:BC} {v:AV},Eff.pt base own (.upd i b v)=true->ban ∈ own->i ∈ bj ban base:=fun {base own ban i b v} h hm=>by
  simp only [Eff.pt,List.all_eq_true] at h
  exact (bN _ _).1 (h ban hm)
 have inBan:∀ {d:Nat} {ban:List Nat × List Nat} {s:ASt},d ∈ ban.1->s.nid (some d) ∈ bj ban s.base:=fun {d ban s} h=>List.mem_append_left _ (List.mem_map.2 ⟨d,h,rfl⟩)
 have hW:∀ i b v i' b' v',ex=.upd i b v->ey=.upd i' b' v'->i≠i':=by
  rintro i b v i' b' v' rfl rfl rfl
  rcases hx with ⟨_,_,_,ho⟩ | ⟨_,_,_,he⟩
  ·rcases hy with ⟨_,hh,_⟩ | ⟨_,_,_,he⟩
   ·have hWy:ap y.o.op=.W:=by
     cases my with
     | upd _ _ _ hc _=>exact uS hc (by simp)
    have hin:=inO ho (hox (by rw [hWy]; rfl))
    obtain ⟨i',b2,v2,he,hl⟩:=(BJ hWy _).hits hh rfl
    cases he
    unfold banned at hl
    rw [hb1,(bN _ _).2 hin] at hl
    simp at hl
   ·cases he
  ·cases he
 have hban:∀ i b v,ey=.upd i b v->(∃ b row,ex=.new b row)->st.nid x.o.dst≠i:=by
  rintro i b v rfl ⟨b',row,rfl⟩ hd
  obtain ⟨d,hdx,_⟩:=cB ax
  rcases hy with ⟨_,hh,_⟩ | ⟨_,_,_,he⟩
  ·have hmk:(ap x.o.op).makes=true:=by
    cases mx with
    | new _ _ hc=>exact oq hc
   have hin:=inBan (s:=st) (hbx hmk d hdx)
   have hW:ap y.o.op=.W:=by
    cases my with
    | upd _ _ _ hc _=>exact uS hc (by simp)
   obtain ⟨i',b2,v2,he,hl⟩:=(BJ hW _).hits hh rfl
   cases he
   unfold banned at hl
   rw [hdx] at hd
   rw [hd] at hin
   rw [hb1,(bN _ _).2 hin] at hl
   simp at hl
  ·cases he
 have nfU:∀ {e:Eff} {i b v},e.nfE=.upd i b v->∃ v',e=.upd i b v':=fun {e i b v} h=>by
  cases e <;> simp only [Eff.nfE,Eff.upd.injEq,reduceCtorEq] at h
  obtain ⟨rfl,rfl,_⟩:=h
  exact ⟨_,rfl⟩
 have nfN:∀ {e:Eff},(∃ b v,e.nfE=.new b v)->∃ b v,e=.new b v:=fun {e} ⟨b,v,h⟩=>by
  cases e <;> simp only [Eff.nfE,Eff.new.injEq,reduceCtorEq] at h
  exact ⟨_,_,rfl⟩
 obtain ⟨s1',ay',ax'⟩:=BM hu mx.nf my.nf ax ay (fun i b v hy hx=>by obtain ⟨v',h⟩:=nfU hy; exact hban i b v' h (nfN hx))
  (fun i b v i' b' v' hx hy=>by obtain ⟨u,h⟩:=nfU hx; obtain ⟨u',h'⟩:=nfU hy; exact hW i b u i' b' u' h h')
 obtain ⟨sb2,_,so2⟩:=gC py ay'
 have hb2:s1'.base=st.base:=by simp [ASt.base,so2]
 have hn2:∀ d,s1'.nid d=st.nid d:=fun d=>by cases d <;> simp [ASt.nid,so2]
 have hgx:aU ops x.o s1'=aU ops x.o st:=jf sb2 hfy1
 have hvx:x.o.op.operands.toList.map s1'.ev=x.o.op.operands.toList.map st.ev:=em sb2 hfy2
 have readsOf:∀ {o:Op},(ap o).isX=false->¬ (ap o=.N\/ap o=.A)->(ap o).reads=true:=fun {o} hx hf=>by
  cases hc:ap o with
  | N=>exact absurd (.inl hc) hf
  | A=>exact absurd (.inr hc) hf
  | X=>rw [hc] at hx; cases hx
  | _=>rfl
 refine ⟨s1',?_,?_⟩
 ·rcases hy with ⟨hgv,hh,hp⟩ | ⟨b,hgv,hb,rfl⟩
  ·rw [hgy] at hgv
   have hcl:cb y.push st y.o.dst ey=true/\cF y st ey=true:=by
    rw [<- rO hb1 (fun k hk=>sb1.2 k (kY hu k hk)),<- kO (s:=s1) hb1 (fun k hk=>sb1.2 k (kY hu k hk)) hvy]
    exact cy (by rw [hgy]; exact hgv)
   refine .inl ⟨hgv,ey,?_,fun _=>⟨by rw [<- hb1]; exact hp,hcl⟩,ay'⟩
   rw [hvy,hn1,hb1] at hh
   by_cases hfree:ap y.o.op=.N\/ap y.o.op=.A
   ·rw [sT hfree]; exact hh
   ·have:banned (bj y.ban st.base) st.look=banned (bj y.ban st.base) s1.look:=by
     refine nq (fun j hj=>?_)
     obtain ⟨l1,l2,l3⟩:=ka mx.nf ax
     cases mx with
     | val u hc=>exact (l1 j ⟨_,rfl⟩).symm
     | new b row hc =>
      have hmk:(ap x.o.op).makes=true:=oq hc
      rw [l2 j b _ rfl]
      obtain ⟨d,hdx,_⟩:=cB ax
      split
      ·rename_i hd
       rw [hdx] at hd
       exact absurd (hd ▸ inBan (s:=st) (hbx hmk d hdx)) hj
      ·rfl
     | upd i b v hc hl =>
      rw [l3 j i b _ rfl]
      split
      ·rename_i hij
       subst hij
       rcases hx with ⟨_,_,_,ho⟩ | ⟨_,_,_,he⟩
       ·exact absurd (inO ho (hox (readsOf hyx hfree))) hj
       ·cases he
      ·rfl
    rw [this]; exact hh
  ·rw [hgy] at hgv
   refine .inr ⟨b,hgv,hb,?_⟩
   simp only [Eff.nfE,Eff.app,DU] at ay'
   exact ay'.symm
 ·rcases hx with ⟨hgv,hh,hp⟩ | ⟨b,hgv,hb,rfl⟩
  ·have hcl : cb x.push s1' x.o.dst ex = true ∧ cF x s1' ex = true := by
    rw [rO hb2 (fun k hk=>sb2.2 k (kY hu' k hk)),kO (s:=s1') hb2 (fun k hk=>sb2.2 k (kY hu' k hk)) hvx]
    exact cx hgv
   refine .inl ⟨by rw [hgx,hgv],ex,?_,fun _=>⟨by rw [hb2]; exact hp,hcl⟩,ax'⟩
   rw [hvx,hn2,hb2]
   by_cases hfree:ap x.o.op=.N\/ap x.o.op=.A
   ·rw [sT hfree]; exact hh
   ·have:banned (bj x.ban st.base) s1'.look=banned (bj x.ban st.base) st.look:=by
     refine nq (fun j hj=>?_)
     have my':Move (if aU ops y.o s1=some (some true) then ap y.o.op else .N) st ey:=by
      cases my with
      | val v hc=>exact .val v hc
      | new b row hc=>exact .new b row hc
      | upd i b v hc hl =>
       refine .upd i b v hc ?_
       obtain ⟨l1,l2,l3⟩:=ka mx.nf ax
       cases mx with
       | val u hc=>rw [l1 i ⟨_,rfl⟩] at hl; exact hl
       | new b' row hc =>
        rw [l2 i b' _ rfl] at hl
        rw [if_neg (hban i b v rfl ⟨b',row,rfl⟩)] at hl
        exact hl
       | upd i' b' v' hc' hl' =>
        rw [l3 i i' b' _ rfl] at hl
        by_cases he:i'=i
        ·subst he; exact hl'
        ·rw [if_neg he] at hl; exact hl
     obtain ⟨l1,l2,l3⟩:=ka my'.nf ay'
     cases my' with
     | val u hc=>exact l1 j ⟨_,rfl⟩
     | new b row hc =>
      have hmk:(ap y.o.op).makes=true:=oq hc
      rw [l2 j b _ rfl]
      obtain ⟨d,hdy,_⟩:=cB ay'
      split
      ·rename_i hd
       rw [hdy] at hd
       exact absurd (hd ▸ inBan (s:=st) (hby hmk d hdy)) hj
      ·rfl
     | upd i b v hc hl =>
      rw [l3 j i b _ rfl]
      split
      ·rename_i hij
       subst hij
       rcases hy with ⟨_,_,_,ho⟩ | ⟨_,_,_,he⟩
       ·rw [hb1] at ho
        exact absurd (inO ho (hoy (readsOf hxx hfree))) hj
       ·cases he
      ·rfl
    rw [this]; exact hh
  ·refine .inr ⟨b,by rw [hgx,hgv],hb,?_⟩
   simp only [Eff.nfE,Eff.app,DU] at ax'
   exact ax'.symm
end
end Go.Ab
end
section
namespace Go.Ab
open Go.RowKit
theorem pU {k:Nat} {l:List Nat}:(!bD k l)=true ↔ k ∉ l:=by
 rw [Bool.not_eq_true']
 constructor
 ·intro h hm
  rw [(bN _ _).2 hm] at h
  cases h
 ·intro h
  cases hb:bD k l with
  | false=>rfl
  | true=>exact absurd ((bN _ _).1 hb) h
theorem fa {k:Nat}:∀ {l:List (Option BC)},ec k l=true ↔ ∀ i b,nth none l i=some b->k ∉ b.me
 | []=>by simp [ec,nth]
 | some c :: l => by
  simp only [ec,DV,fa (l:=l),pU]
  constructor
  ·rintro ⟨h1,h2⟩ i b hb
   cases i with
   | zero=>simp only [nth,DU] at hb; subst hb; exact h1
   | succ i=>exact h2 i b hb
  ·intro h
   exact ⟨h 0 c rfl,fun i b hb=>h (i + 1) b hb⟩
 | none :: l => by
  simp only [ec,fa (l:=l)]
  constructor
  ·intro h2 i b hb
   cases i with
   | zero=>simp only [nth,reduceCtorEq] at hb
   | succ i=>exact h2 i b hb
  ·intro h i b hb
   exact h (i + 1) b hb
section
variable {E:Env} {C:Cal} {st s1 s2:ASt} {d:Option Tmp} {e:Eff} {s m k:Nat} {y:TV}
theorem Ap {ps:List Nat} (h:cb ps st d e=true) (hs:s ∈ ps):st.base + s ∉ dP e/\∀ t,d=some t->st.base + s ∉ (nth (.one .junk) st.slots t).gi:=by
 unfold cb at h
 rw [List.all_eq_true] at h
 have:=h s hs
 rw [DV] at this
 refine ⟨pU.1 this.1,fun t ht=>?_⟩
 subst ht
 exact pU.1 this.2
end
section
variable {E:Env} {C:Cal} {st s1 s2:ASt} {x y:Item} {s:Nat}
theorem nh {o:Op} (h:aB o=some s):ap o=.P/\s ∈ eQ o.operands.toList:=by
 unfold aB at h
 split at h
 ·rename_i l h1 h2
  simp only [DU] at h
  subst h
  rw [h2]
  exact ⟨h1,DZ⟩
 ·cases h
theorem aX {ops:List Oper} {o:Oper} (h:o.guard.isNone=true) (t:ASt):aU ops o t=some (some true):=by
 unfold aU
 rw [Option.isNone_iff_eq_none.1 h]
theorem OpP.step {ops:List Oper} (h:x.o.guard.isNone=true):OpP E C ops x st s1->yb E C x st s1
 | .inl ⟨_,h'⟩=>h'
 | .inr ⟨b,hb,hne,_⟩=>by rw [aX h] at hb; exact absurd (Option.some.inj hb).symm hne
theorem AD {ops:List Oper} (hap:bW ops x.o y.o=true) (hxs:x.shut=false) (hys:y.shut=false) (hxl:x.loose=false) (hyl:y.loose=false) (hxd:x.dr=true) (hyd:y.dr=true) (hxx:(ap x.o.op).isX=false) (hyx:(ap y.o.op).isX=false)
  (hbx:(ap x.o.op).makes=true->∀ d,x.o.dst=some d->d ∈ y.ban.1) (hby:(ap y.o.op).makes=true->∀ d,y.o.dst=some d->d ∈ x.ban.1)
  (hox:(ap y.o.op).reads=true->y.ban ∈ x.own) (hoy:(ap x.o.op).reads=true->x.ban ∈ y.own)
  (hpx:∀ s,aB y.o.op=some s->y.root=jl ops 20 s/\y.root ∈ x.ban.1/\y.root ∈ x.push) (hpy:∀ s,aB x.o.op=some s->x.root=jl ops 20 s/\x.root ∈ y.ban.1/\x.root ∈ y.push) (h1:OpN E C ops x st s1) (h2:OpN E C ops y s1 s2) :
  ∃ s1',OpN E C ops y st s1'/\OpN E C ops x s1' s2:=by
 have hap':=hap
 simp only [bW,DV] at hap'
 obtain ⟨⟨⟨⟨hg,hfx⟩,hfy⟩,hu⟩,ha1,ha2⟩:=hap'
 rcases h1.parts hxd hxs hxl with p1 | ⟨g1,p1⟩
 ·rcases h2.parts hyd hys hyl with p2 | ⟨g2,p2⟩
  ·obtain ⟨s1',q1,q2⟩:=BL hap hxd hyd hxx hyx hbx hby hox hoy p1 p2
   exact ⟨s1',q1.toN hys,q2.toN hxs⟩
  ·exact absurd p2.choose_spec.2.1 Bool.false_ne_true
 ·exact absurd p1.choose_spec.2.1 Bool.false_ne_true
end
end Go.Ab
end

import Derived.Test.YtdfmiamebejhoaaHM13b
import Derived.OrdersIn
set_option linter.all false
section
namespace Go.Ab
open Go.RowKit
def Prg.goes {R:Type} (C:Cal) (J:List Nat→ASt→R→Prop):Prg R→R→Prop
 | .fail,_=>False
 | .ret e',e=>e'=e
 | .tv p k,e=>∃ v,p=some v∧(k v).goes C J e
 | .tvs p k,e=>∃ v,p=some v∧(k v).goes C J e
 | .rws p k,e=>∃ v,p=some v∧(k v).goes C J e
 | .nat p k,e=>∃ v,p=some v∧(k v).goes C J e
 | .chk b k,e=>b=true∧k.goes C J e
 | .ite b t f,e=>∃ v,b=some v∧((v=true∧t.goes C J e)∨(v=false∧f.goes C J e))
 | .call f xs k,e=>∃ v,C f xs v∧(k v).goes C J e
 | .jmp p st,e=>J p st e
theorem Prg.eh {R S:Type} {C:Cal} {J:List Nat→ASt→S→Prop} {f:R→Prg S} {r:S}:∀ {p:Prg R},(p.bind f).goes C J r→∃ e,p.hits C e∧(f e).goes C J r
 | .fail,h=>h.elim
 | .ret e,h=>⟨e,rfl,h⟩
 | .tv p k,⟨v,h1,h⟩=>by obtain ⟨e,h2,h3⟩:=Prg.eh h; exact ⟨e,⟨v,h1,h2⟩,h3⟩
 | .tvs p k,⟨v,h1,h⟩=>by obtain ⟨e,h2,h3⟩:=Prg.eh h; exact ⟨e,⟨v,h1,h2⟩,h3⟩
 | .rws p k,⟨v,h1,h⟩=>by obtain ⟨e,h2,h3⟩:=Prg.eh h; exact ⟨e,⟨v,h1,h2⟩,h3⟩
 | .nat p k,⟨v,h1,h⟩=>by obtain ⟨e,h2,h3⟩:=Prg.eh h; exact ⟨e,⟨v,h1,h2⟩,h3⟩
 | .chk b k,⟨h1,h⟩=>by obtain ⟨e,h2,h3⟩:=Prg.eh (p:=k) h; exact ⟨e,⟨h1,h2⟩,h3⟩
 | .ite b t f,⟨v,h1,.inl ⟨h2,h⟩⟩=>by obtain ⟨e,h3,h4⟩:=Prg.eh (p:=t) h; exact ⟨e,⟨v,h1,.inl ⟨h2,h3⟩⟩,h4⟩
 | .ite b t f,⟨v,h1,.inr ⟨h2,h⟩⟩=>by obtain ⟨e,h3,h4⟩:=Prg.eh (p:=f) h; exact ⟨e,⟨v,h1,.inr ⟨h2,h3⟩⟩,h4⟩
 | .call f xs k,⟨v,h1,h⟩=>by obtain ⟨e,h2,h3⟩:=Prg.eh h; exact ⟨e,⟨v,h1,h2⟩,h3⟩
 | .jmp _ _,h=>h.elim
section
variable {P:Program} {E:Env} {C:Cal} {w0:Bs} {w w':World} {I0 I R:Nat→Prop} {g g':Gh} {st st' s1 s2:ASt} {a:Act} {ov:List Value} {look:Look} {Q:Exit→Act→World→Prop} {id:Nat}
def wy (E:Env) (C:Cal) (i:Item) (s s':ASt):Prop:=∃ e,(opL E (s.nid i.o.dst) (banned (aU i.ban s.base) s.look) i.o.op (i.o.op.operands.toList.map s.ev)).hits C e ∧
 (i.dr=true→okE i s e=true)∧e.nfE.app s i.o.dst=some s'
def kW (E:Env) (C:Cal) (i:Item) (s s':ASt):Prop:=∃ e,(opL E (s.nid i.o.dst) (banned (aU i.ban s.base) s.look) i.o.op (i.o.op.operands.toList.map s.ev)).hits C e ∧
 (i.dr=true→(e.plain=true∧e.mj s.base i.own=true)∧(b9 i.push s i.o.dst e=true∧cO i s e=true))∧e.nfE.app s i.o.dst=some s'
def ir (E:Env) (C:Cal) (i:Item) (s s':ASt):Prop:=∃ e,(opL E (s.nid i.o.dst) (banned (aU i.ban s.base) s.look) i.o.op (i.o.op.operands.toList.map s.ev)).hits C e ∧
 cP i s e=true∧e.nfE.app s i.o.dst=some s'
def OpN (E:Env) (C:Cal) (ops:List Oper) (i:Item) (s s':ASt):Prop :=
 (aZ ops i.o s=some (some true)∧wy E C i s s')∨(∃ b,aZ ops i.o s=some b∧b≠some true∧s'=dD i.o s)
def OpP (E:Env) (C:Cal) (ops:List Oper) (i:Item) (s s':ASt):Prop :=
 (aZ ops i.o s=some (some true)∧kW E C i s s')∨(∃ b,aZ ops i.o s=some b∧b≠some true∧s'=dD i.o s)
theorem kW.toN {i:Item} (hsh:i.shut=false) {s s':ASt}:kW E C i s s'→wy E C i s s':=fun ⟨e,h1,h2,h3⟩=>⟨e,h1,fun hd=>by obtain ⟨⟨a,b⟩,c,d⟩:=h2 hd; simp only [okE,a,b,c,d,hsh,Bool.and_self,cond_false,Bool.true_or,Bool.or_true],h3⟩
theorem ir.toN {i:Item} {s s':ASt}:ir E C i s s'→wy E C i s s':=fun ⟨e,h1,h2,h3⟩=>⟨e,h1,fun hd=>by simp only [okE,h2,Bool.or_true],h3⟩
theorem OpP.toN {ops:List Oper} {i:Item} (hsh:i.shut=false) {s s':ASt}:OpP E C ops i s s'→OpN E C ops i s s'
 | .inl ⟨h,h'⟩=>.inl ⟨h,h'.toN hsh⟩
 | .inr h=>.inr h
theorem OpN.parts {ops:List Oper} {i:Item} {s s':ASt} (hd:i.dr=true) (hsh:i.shut=false) (hlo:i.loose=false):OpN E C ops i s s'→OpP E C ops i s s'∨(aZ ops i.o s=some (some true)∧ir E C i s s')
 | .inr h=>.inl (.inr h)
 | .inl ⟨h, e, h1, h2, h3⟩ => by
  have h2:=h2 hd
  unfold okE at h2
  rw [hlo,hsh,Bool.false_and,Bool.false_or,Bool.or_eq_true] at h2
  rcases h2 with h2 | h2
  ·simp only [cond_false,C9] at h2
   exact .inl (.inl ⟨h,e,h1,fun _=>h2,h3⟩)
  ·exact .inr ⟨h,e,h1,h2,h3⟩
theorem zw {i:Item} {s:ASt} {e:Eff} (h:okE i s e.nfE=true):okE i s e=true:=by
 unfold okE at h ⊢
 rw [Bool.or_eq_true] at h ⊢
 rcases h with h | h
 ·refine .inl ?_
  have:ce i s e.nfE=ce i s e:=by unfold ce; simp only [oW,xn,qx]
  rwa [this] at h
 refine .inr ?_
 rw [Bool.or_eq_true] at h ⊢
 rcases h with h | h
 ·rw [nq,wo] at h
  have:b9 i.push s i.o.dst e.nfE=b9 i.push s i.o.dst e:=by unfold b9; rw [bZ]
  rw [this] at h
  have e2:gD i s e.nfE=gD i s e:=by unfold gD; rw [j7,bZ]
  have e3:cO i s e.nfE=cO i s e:=by unfold cO; rw [bZ,pe]
  rw [e2,e3] at h
  exact .inl h
 ·refine .inr ?_
  unfold cP at h ⊢
  split at h
  ·rename_i s' j y h1 h2
   have he:=ip h2
   have:e=e.nfE:=by
    cases e with
    | gen ps v =>
     simp only [Eff.nfE,Eff.gen.injEq] at he
     rcases aC v with h | ⟨b,h,_⟩
     ·show Eff.gen ps v=Eff.gen ps v.nf
      rw [h]
     ·rw [h] at he; cases he.2
    | _=>simp only [Eff.nfE,reduceCtorEq] at he
   rw [this,h1,h2]
   exact h
  ·cases h
inductive yU (E:Env) (C:Cal) (ops:List Oper):List Item→ASt→ASt→Prop
 | nil (s:ASt):yU E C ops [] s s
 | cons {i:Item} {l:List Item} {s s1 s':ASt} (h:OpN E C ops i s s1) (r:yU E C ops l s1 s'):yU E C ops (i :: l) s s'
theorem pR {v:TV} {b:Bool} (h:asBool v=some b):v=.lit (.bool b):=by
 unfold asBool at h
 split at h
 ·simp only [C8] at h; subst h; rfl
 ·cases h
theorem xr {T:Type} {J:List Nat→ASt→T→Prop} {i:Item} {K:ASt→Prg T} {r:T} (h:(l8 E i K st).goes C J r):∃ st1,wy E C i st.nfS st1.nfS∧(K st1).goes C J r:=by
 unfold l8 at h
 obtain ⟨e,h1,h2⟩:=Prg.eh h
 obtain ⟨e',h3,h4⟩:=opL_nf h1
 unfold effQ at h2
 cases hc:i.dr && !(okE i st e) with
 | true=>rw [hc] at h2; exact h2.elim
 | false =>
  rw [hc] at h2
  simp only [cond_false] at h2
  split at h2
  ·rename_i st1 ha
   refine ⟨st1,⟨e',?_,fun hd=>?_,?_⟩,h2⟩
   ·have:i.o.op.operands.toList.map st.nfS.ev=(i.o.op.operands.toList.map st.ev).map AV.nf:=by
     rw [List.map_map]
     apply List.map_congr_left
     intro x _
     exact sD st x
    rw [this,uM,nE,kV]
    exact h3
   ·refine zw ?_
    rw [h4]
    exact okE_nf (by simpa [hd] using hc)
   ·rw [h4]
    exact app_nf ha
  ·exact h2.elim
theorem pS {g:Nat} {v v':AV} (h:nth (.one .junk) st.slots g=v) (hv:v.nf=v'.nf):(st.put (some g) v').nfS=st.nfS:=by
 rw [iL]
 simp only [ASt.put]
 have:am st.nfS.slots g v'.nf=st.nfS.slots:=by
  rw [ah]
  apply List.ext_getElem?
  intro t
  rw [List.getElem?_set]
  by_cases ht:g=t
  ·subst ht
   cases hs:st.slots[g]? with
   | none =>
    have:st.nfS.slots[g]? = none:=by simp [ASt.nfS,hs]
    have hlt:¬ g < st.nfS.slots.length:=by
     intro hlt
     rw [C7 hlt] at this
     cases this
    simp [hlt]
   | some u =>
    rw [bL hs] at h
    subst h
    have hlt:g < st.nfS.slots.length:=by simp [ASt.nfS]; exact (C6.1 hs).1
    simp only [if_true,hlt]
    rw [← hv]
    simp [ASt.nfS,hs]
  ·simp [ht]
 rw [this]
theorem i7 {T:Type} {J:List Nat→ASt→T→Prop} {ops:List Oper} {i:Item} {K:ASt→Prg T} {r:T} (h:(opQ E ops i K st).goes C J r):∃ st1,OpN E C ops i st.nfS st1.nfS∧(K st1).goes C J r:=by
 unfold opQ at h
 have skip:∀ {s:ASt} {b:Option Bool},s.nfS=st.nfS→aZ ops i.o st.nfS=some b→b≠some true→(K (dD i.o s)).goes C J r→∃ st1,OpN E C ops i st.nfS st1.nfS∧(K st1).goes C J r:=by
  intro s b he hg hb hk
  refine ⟨_,.inr ⟨b,hg,hb,?_⟩,hk⟩
  simp only [dD]
  rw [iL,he]
  rfl
 have run:∀ {s:ASt},s.nfS=st.nfS→aZ ops i.o st.nfS=some (some true)→(l8 E i K s).goes C J r→∃ st1,OpN E C ops i st.nfS st1.nfS∧(K st1).goes C J r:=by
  intro s he hg hk
  obtain ⟨st1,h1,h2⟩:=xr hk
  rw [he] at h1
  exact ⟨st1,.inl ⟨hg,h1⟩,h2⟩
 cases hg:i.o.guard with
 | none =>
  simp only [hg] at h
  exact run rfl (by simp [aZ,hg]) h
 | some q =>
  obtain ⟨j,want⟩:=q
  simp only [hg] at h
  cases hd:(ops[j]?).bind (·.dst) with
  | none=>simp only [hd] at h; exact h.elim
  | some g =>
   simp only [hd] at h
   have gv:∀ {v:AV},nth (.one .junk) st.slots g=v→aZ ops i.o st.nfS=(match v.nf with | .one .undef=>some none | .bl b=>some (some (b == want)) | _=>none):=by
    intro v hv
    simp only [aZ,hg,hd,jx,hv]
    generalize v.nf=u
    cases u with
    | one c=>cases c <;> rfl
    | _=>rfl
   have ite:∀ {v:TV} {x y:Prg T},(Prg.ite (asBool v) x y).goes C J r→∃ b,v=.lit (.bool b)∧(bif b then x else y).goes C J r:=by
    rintro v x y ⟨b,hb,h⟩
    refine ⟨b,pR hb,?_⟩
    rcases h with ⟨rfl,h⟩ | ⟨rfl,h⟩ <;> exact h
   cases hs:nth (.one .junk) st.slots g with
   | one c =>
    simp only [hs] at h
    cases c with
    | undef=>exact skip rfl (by rw [gv hs]; rfl) (by simp) h
    | t v =>
     obtain ⟨b,rfl,h'⟩:=ite h
     have he:(st.put (some g) (.bl b)).nfS=st.nfS:=pS hs rfl
     have hgd:=gv hs
     simp only [AV.nf] at hgd
     cases b <;> cases want <;> simp only [cond_true,cond_false] at h'
     ·exact run he (by rw [hgd]; rfl) h'
     ·exact skip (b:=some false) he (by rw [hgd]; rfl) (by simp) h'
     ·exact skip (b:=some false) he (by rw [hgd]; rfl) (by simp) h'
     ·exact run he (by rw [hgd]; rfl) h'
    | _=>exact h.elim
   | agg cs=>simp only [hs] at h; exact h.elim
   | tups cs=>simp only [hs] at h; exact h.elim
   | clo _ cs=>simp only [hs] at h; exact h.elim
   | tv v =>
    simp only [hs] at h
    obtain ⟨b,rfl,h'⟩:=ite h
    have he:(st.put (some g) (.bl b)).nfS=st.nfS:=pS hs rfl
    have hgd:=gv hs
    simp only [AV.nf] at hgd
    cases b <;> cases want <;> simp only [cond_true,cond_false] at h'
    ·exact run he (by rw [hgd]; rfl) h'
    ·exact skip (b:=some false) he (by rw [hgd]; rfl) (by simp) h'
    ·exact skip (b:=some false) he (by rw [hgd]; rfl) (by simp) h'
    ·exact run he (by rw [hgd]; rfl) h'
   | bl b =>
    simp only [hs] at h
    have hgd:=gv hs
    simp only [AV.nf] at hgd
    cases b <;> cases want <;> simp only [cond_true,cond_false] at h
    ·exact run rfl (by rw [hgd]; rfl) h
    ·exact skip (b:=some false) rfl (by rw [hgd]; rfl) (by simp) h
    ·exact skip (b:=some false) rfl (by rw [hgd]; rfl) (by simp) h
    ·exact run rfl (by rw [hgd]; rfl) h
theorem ji {T:Type} {J:List Nat→ASt→T→Prop} {ops:List Oper} {K:ASt→Prg T} {r:T}:∀ {l:List Item} {st:ASt},(Aa E ops l K st).goes C J r→∃ fin,yU E C ops l st.nfS fin.nfS∧(K fin).goes C J r
 | [],st,h=>⟨st,.nil _,h⟩
 | i :: l,st,h=>by
  simp only [Aa,km] at h
  obtain ⟨st1,h1,h2⟩:=i7 h
  obtain ⟨fin,h3,h4⟩:=ji h2
  exact ⟨fin,.cons h1 h3,h4⟩
theorem oa (ban:List Nat) (st:ASt):∀ i b,banned ban st.look i=some b→st.look i=some b:=fun i b h=>by
 unfold banned at h
 cases hm:bE i ban with
 | true=>simp [hm] at h
 | false=>simpa [hm] using h
theorem mM {ops:Array Oper} {o:Oper} {j:Nat} {want:Bool} {t:Tmp} (hg:(ops[j]?).bind (·.dst)=some t) (hs:ai w0 I0 R g st a ov w) {b:Option Bool} (hv:aZ ops.toList o st=some b) (ho:o.guard=some (j,want)) :
  (Region.wanted o (yielded ops a.tmps)=true ↔ b=some true):=by
 have hg':(ops.toList[j]?).bind (·.dst)=some t:=by rw [Da]; exact hg
 simp only [aZ,ho,hg'] at hv
 simp only [Region.wanted,ho,yielded,hg,Option.bind_some]
 cases hsl:st.slots[t]? with
 | none=>rw [aN,hsl] at hv; simp at hv
 | some v =>
  have hrep:=hs.slots t v hsl
  have hlt:t < a.tmps.size:=by rw [hs.len]; exact (C6.1 hsl).1
  have hget:a.tmps[t]? = some (a.tmps.getD t undef):=by simp [hlt]
  rw [bL hsl] at hv
  obtain ⟨u,hu⟩:∃ u,u=a.tmps.getD t undef:=⟨_,rfl⟩
  rw [← hu] at hrep hget
  rw [hget]
  split at hv
  ·simp only [C8] at hv
   subst hv
   have:u=undef:=hrep
   subst this
   simp [undef]
  ·simp only [C8] at hv
   subst hv
   have:u=.bool _:=hrep
   subst this
   simp
  ·cases hv
def Rd (ro:Option Nat):Fence:={ Fence.wide with round:=ro }
theorem rd_in {ro:Option Nat} {P:Program} {m m':Machine}:StepsIn (Machine.fenced P (Rd ro)) P m m' ↔ Steps P m m':=stepsIn_wide
theorem fu {ro:Option Nat} {n:Nat} {P:Program} {f:FuncId} {args:Array Value} {w:World} {R:Ending→World→Prop}:CallsIn (Rd ro) n P f args w R ↔ Calls P f args w R:=callsIn_wide
theorem Cz {ro:Option Nat} (n:Nat):(Rd ro).room n:=room_wide n
theorem xz {ro:Option Nat} {o:Oper} (hd:∀ c,o.op≠.defer c) {a:Act} {w:World} {next:Act→World→Prop} {Q:Exit→Act→World→Prop} (h:o.wp P a w next Q):o.wpIn (Rd ro) 0 P a w next Q:=by
 refine ⟨fun _ _=>trivial,?_⟩
 rw [Oper.semAt_eq _ _ _ hd]
 unfold Oper.wp at h
 generalize (execOp a.eval o).run P w=r at *
 cases r with
 | ok x w' =>
  cases x <;> simp only [Oper.upon] at h <;> simp only [Oper.uponIn] <;>
   first
    | exact h
    | exact ⟨fun h=>by simp [Rd,Fence.wide] at h,fu.2 h⟩
    | exact ⟨fun h=>by simp [Rd,Fence.wide] at h,fun c cs _=>by obtain ⟨v,w',r,s⟩:=h c cs; exact ⟨v,w',r,rd_in.2 s⟩⟩
 | halt x w'=>cases x <;> simp only [Oper.upon] at h <;> simp only [Oper.uponIn] <;> exact h
theorem lE (hE:gf P w0.G E C) {ops:Array Oper} {n:Nat} {i:Item} (hn:ops[n]? = some i.o) (hs:Sim w0 I0 st a ov w) (h:OpN E C ops.toList i st st') {ro:Option Nat}:wpOpIn (Rd ro) 0 P ops Q n (fun a' w'=>Sim w0 I0 st' a' ov w') a w:=by
 obtain ⟨g,hs⟩:=hs
 unfold wpOpIn
 rw [hn]
 simp only []
 have run:wy E C i st st'→i.o.wpIn (Rd ro) 0 P a w (fun a' w'=>Sim w0 I0 st' a' ov w') Q:=fun ⟨e,h1,_,h3⟩=>by
  obtain ⟨st1,h4,h5⟩:=yb h3
  refine xz (fun c hc=>?_) (Oper.wp_mono (fun a' w' hh=>h5 w0 I0 a' ov w' hh) (Bj hE (oa _ st) hs h1 h4))
  rw [hc] at h1
  simp only [opL] at h1
  exact h1.elim
 have skip:st'=dD i.o st→Sim w0 I0 st' (a.put i.o.dst undef) ov w:=fun h=>by
  subst h
  exact ⟨g,hs.put i.o.dst (v:=.one .undef) rfl⟩
 cases hg:i.o.guard with
 | none =>
  have hw:Region.wanted i.o (yielded ops a.tmps)=true:=by simp [Region.wanted,hg]
  rw [if_pos hw]
  rcases h with ⟨_,h⟩ | ⟨b,hb,hne,_⟩
  ·exact run h
  ·simp [aZ,hg] at hb
   exact absurd hb.symm hne
 | some q =>
  obtain ⟨j,want⟩:=q
  cases hd:(ops[j]?).bind (·.dst) with
  | none =>
   have hd':(ops.toList[j]?).bind (·.dst)=none:=by rw [Da]; exact hd
   rcases h with ⟨h,_⟩ | ⟨b,hb,_⟩
   ·simp only [aZ,hg,hd'] at h; cases h
   ·simp only [aZ,hg,hd'] at hb; cases hb
  | some t =>
   rcases h with ⟨hv,h⟩ | ⟨b,hv,hne,h⟩
   ·rw [if_pos ((mM hd hs hv hg).2 rfl)]
    exact run h
   ·rw [if_neg (fun hw=>hne ((mM hd hs hv hg).1 hw))]
    exact ⟨fun _ _=>trivial,skip h⟩
theorem co {t:Nat}:∀ {l:List Operand},.tmp t ∈ l→t ∈ cF l
 | x :: l, h => by
  rcases List.mem_cons.1 h with rfl | h
  ·simp [cF]
  ·have:=co h
   cases x <;> simp [cF,this]
theorem ba {d:Option Nat} {l:List Nat} (h:dB d l=true):∀ t,d=some t→t ∉ l:=fun t ht hm=>by
 subst ht
 simp only [dB,Bool.not_eq_true',] at h
 rw [(bT _ _).2 hm] at h
 cases h
def iG (d:Option Nat) (s t:ASt):Prop:=s.slots.length=t.slots.length∧∀ k,d≠some k→nth (.one .junk) s.slots k=nth (.one .junk) t.slots k
theorem eE (st:ASt) (d:Option Tmp) (v:AV) (k:Nat) (h:d≠some k):nth (.one .junk) (st.put d v).slots k=nth (.one .junk) st.slots k:=by
 cases d with
 | none=>rfl
 | some d =>
  have:d≠k:=fun e=>h (by rw [e])
  simp only [ASt.put,ah,aN,List.getElem?_set,this,if_false]
theorem BW {d:Option Nat} {s t:ASt} (h:iG d s t) {x:Operand} (hx:∀ k,x=.tmp k→d≠some k):s.ev x=t.ev x:=by
 cases x with
 | tmp k=>exact h.2 k (hx k rfl)
 | const v=>cases v <;> rfl
 | _=>rfl
theorem dW {d:Option Nat} {s t:ASt} (h:iG d s t) {l:List Operand} (hx:dB d (cF l)=true):l.map s.ev=l.map t.ev:=by
 apply List.map_congr_left
 intro x hxl
 refine BW h (fun k hk e=>?_)
 subst hk
 exact ba hx k e (co hxl)
theorem kg {d:Option Nat} {s t:ASt} {ops:List Oper} {o:Oper} (h:iG d s t) (hx:dB d (oO ops o)=true):aZ ops o s=aZ ops o t:=by
 unfold aZ
 cases hg:o.guard with
 | none=>rfl
 | some q =>
  obtain ⟨j,want⟩:=q
  simp only []
  cases hd:(ops[j]?).bind (·.dst) with
  | none=>rfl
  | some g =>
   have:nth (.one .junk) s.slots g=nth (.one .junk) t.slots g:=h.2 g (fun e=>ba hx g e (by simp [oO,hg,hd]))
   simp only [this]
theorem pD (n:Nat):∀ (a b:List Nat),bE n (a ++ b)=(bE n a || bE n b)
 | [],b=>rfl
 | x :: a,b=>by
  simp only [List.cons_append,bE]
  cases x.beq n <;> simp [pD n a b]
theorem au {d:Option Nat} {a b:List Nat} (h:dB d (a ++ b)=true):dB d a=true∧dB d b=true:=by
 cases d with
 | none=>exact ⟨rfl,rfl⟩
 | some d =>
  simp only [dB,pD,Bool.not_or,C9] at h
  exact h
theorem ca {b:BC} {v:AV} {d:Option Tmp} (ha:(Eff.new b v).app st d=some st'):∃ d',d=some d'∧st.look (st.nid d)=none∧st.nid d < st.boxes.length∧st'=(st.ab (st.nid d) (some b)).put d v:=by
 cases d with
 | none=>simp [Eff.app] at ha
 | some d =>
  simp only [Eff.app] at ha
  split at ha
  ·rename_i s1 hs1
   obtain ⟨h1,h2,rfl⟩:=bh hs1
   simp only [C8] at ha
   exact ⟨d,rfl,h1,h2,ha.symm⟩
  ·cases ha
theorem iJ {b:BC} {v:AV} {d:Tmp} (h1:st.look (st.nid (some d))=none) (h2:st.nid (some d) < st.boxes.length):(Eff.new b v).app st (some d)=some ((st.ab (st.nid (some d)) (some b)).put (some d) v):=by
 have h2':(st.nid (some d)).blt st.boxes.length=true:=by simpa using h2
 simp only [Eff.app,ASt.bo,h1,h2',cond_true]
theorem fG {e:Eff} {d:Option Nat} (hp:e.plain=true) (ha:e.app st d=some st'):iG d st' st∧st'.boxes.length=st.boxes.length∧st'.out=st.out:=by
 cases e with
 | val v =>
  simp only [Eff.app,C8] at ha
  subst ha
  refine ⟨⟨?_,fun k hk=>eE st d v k hk⟩,by rw [bD],by rw [jM]⟩
  cases d <;> simp [ASt.put,ah]
 | new b v =>
  obtain ⟨dd,rfl,hl,hlt,rfl⟩:=ca ha
  refine ⟨⟨?_,fun k hk=>?_⟩,by rw [bD]; simp [ASt.ab,ah],by rw [jM]; rfl⟩
  ·simp [ASt.put,ASt.ab,ah]
  ·rw [eE _ _ _ _ hk]; rfl
 | upd i b v =>
  simp only [Eff.app,C8] at ha
  subst ha
  refine ⟨⟨?_,fun k hk=>?_⟩,by rw [bD]; simp [ASt.ab,ah],by rw [jM]; rfl⟩
  ·cases d <;> simp [ASt.put,ASt.ab,ah]
  ·rw [eE _ _ _ _ hk]; rfl
 | _=>simp [Eff.plain] at hp
inductive Move (c:Cls) (st:ASt):Eff→Prop
 | val (v:AV) (h:c=.N∨c=.R∨c=.B∨c=.P):Move c st (.val v)
 | new (b:BC) (v:AV) (h:c=.A∨c=.B∨c=.P):Move c st (.new b v)
 | upd (i:Nat) (b:BC) (v:AV) (h:c=.W) (hl:(st.look i).isSome=true):Move c st (.upd i b v)
theorem Move.nf {c:Cls} {e:Eff} (h:Move c st e):Move c st e.nfE:=by
 cases h with
 | val v h=>exact .val _ h
 | new b v h=>exact .new _ _ h
 | upd i b v h hl=>exact .upd _ _ _ h hl
theorem qr {op:Op} {ban:List Nat} {vs:List AV} {e:Eff} (hx:(al op).isX=false) (hp:e.plain=true) (hh:(opL E id (banned ban st.look) op vs).hits C e):Move (al op) st e:=by
 cases hc:al op with
 | N=>obtain ⟨v,rfl⟩:=(CN hc vs).hits hh; exact .val v (.inl rfl)
 | R=>obtain ⟨v,rfl⟩:=(AP hc vs).hits hh; exact .val v (.inr (.inl rfl))
 | A=>obtain ⟨b,row,rfl⟩:=(cls_A hc vs).hits hh; exact .new b row (.inl rfl)
 | B =>
  rcases (cls_B hc vs).hits hh hp with ⟨v,rfl⟩ | ⟨b,v,rfl⟩
  ·exact .val v (.inr (.inr (.inl rfl)))
  ·exact .new b v (.inr (.inl rfl))
 | P =>
  rcases (cls_P hc vs).hits hh hp with ⟨v,rfl⟩ | ⟨b,v,rfl⟩
  ·exact .val v (.inr (.inr (.inr rfl)))
  ·exact .new b v (.inr (.inr rfl))
 | W =>
  obtain ⟨i,b,v,rfl,hl⟩:=(Ae hc vs).hits hh hp
  obtain ⟨c,hc'⟩:=Option.isSome_iff_exists.1 hl
  exact .upd i b v rfl (by rw [oa ban st i c hc']; rfl)
 | X=>simp [hc,Cls.isX] at hx
theorem th {a b:Nat} (h:a≠b):unlike (some a) (some b)=true:=by
 simp only [unlike,Bool.not_eq_true']
 cases hb:a.beq b with
 | false=>rfl
 | true=>exact absurd ((ao _ _).1 hb) h
theorem gr {a b:Option Nat} (h:unlike a b=true):unlike b a=true:=by
 cases a with
 | none=>cases b <;> rfl
 | some p =>
  cases b with
  | none=>rfl
  | some q=>exact th (fun e=>by subst e; simp [unlike] at h)
theorem dM (st:ASt) {d d':Option Nat} (h:unlike d d'=true) (u v:AV):(st.put d u).put d' v=(st.put d' v).put d u:=by
 cases d with
 | none=>rfl
 | some d =>
  cases d' with
  | none=>rfl
  | some d' =>
   have hne:d≠d':=fun e=>by subst e; simp [unlike] at h
   simp only [ASt.put,ah]
   rw [List.set_comm _ _ hne]
theorem eW (st:ASt) {i j:Nat} (h:i≠j) (b c:Option BC):(st.ab i b).ab j c=(st.ab j c).ab i b:=by
 simp only [ASt.ab,ah]
 rw [List.set_comm _ _ h]
theorem aK (st:ASt) (i:Nat) (b:Option BC) (d:Option Nat) (v:AV):(st.put d v).ab i b=(st.ab i b).put d v:=by cases d <;> rfl
theorem aV (st:ASt) (d d':Option Tmp) (v:AV):(st.put d v).nid d'=st.nid d':=by cases d' <;> simp [ASt.nid,jM]
theorem a7 (st:ASt) (i:Nat) (b:Option BC) (d':Option Tmp):(st.ab i b).nid d'=st.nid d':=by cases d' <;> rfl
theorem nid_ne {d d':Nat} (h:d≠d'):st.nid (some d)≠st.nid (some d'):=by simp only [ASt.nid]; omega
theorem ln {e:Eff} {d:Option Nat} {c:Cls} (hm:Move c st e) (ha:e.app st d=some s1) :
  (∀ j,(∃ v,e=.val v)→s1.look j=st.look j)∧(∀ j b row,e=.new b row→s1.look j=if st.nid d=j then some b else st.look j)∧(∀ j i b v,e=.upd i b v→s1.look j=if i=j then some b else st.look j):=by
 refine ⟨fun j ⟨v,hv⟩=>?_,fun j b row hb=>?_,fun j i b v hu=>?_⟩
 ·subst hv
  simp only [Eff.app,C8] at ha
  subst ha
  rw [a8]
 ·subst hb
  obtain ⟨dd,rfl,hl,hlt,rfl⟩:=ca ha
  rw [a8,ag]
  by_cases h:st.nid (some dd)=j
  ·subst h; simp [hlt]
  ·simp [h]
 ·subst hu
  simp only [Eff.app,C8] at ha
  subst ha
  rw [a8,ag]
  cases hm with
  | upd _ _ _ _ hl =>
   obtain ⟨c,hc⟩:=Option.isSome_iff_exists.1 hl
   by_cases h:i=j
   ·subst h; simp [fm hc]
   ·simp [h]
theorem d8 {ban:List Nat} {s t:ASt} (h:∀ j,j ∉ ban→s.look j=t.look j):banned ban s.look=banned ban t.look:=by
 funext j
 unfold banned
 cases hm:bE j ban with
 | true=>rfl
 | false=>simp only [cond_false]; exact h j (fun e=>by rw [(bT _ _).2 e] at hm; cases hm)
theorem Bh {cx cy:Cls} {dx dy:Option Nat} {ex ey:Eff} (hu:unlike dx dy=true) (mx:Move cx st ex) (my:Move cy s1 ey) (hx:ex.app st dx=some s1) (hy:ey.app s1 dy=some s2)
  (hb:∀ i b v,ey=.upd i b v→(∃ b row,ex=.new b row)→st.nid dx≠i) (hw:∀ i b v i' b' v',ex=.upd i b v→ey=.upd i' b' v'→i≠i'):∃ s1',ey.app st dy=some s1'∧ex.app s1' dx=some s2:=by
 cases mx with
 | val u hc =>
  simp only [Eff.app,C8] at hx
  subst hx
  cases my with
  | val v hc' =>
   simp only [Eff.app,C8] at hy
   subst hy
   exact ⟨_,rfl,by simp only [Eff.app]; rw [dM st hu]⟩
  | new b v hc' =>
   obtain ⟨d,rfl,hl,hlt,rfl⟩:=ca hy
   rw [a8,aV] at hl
   rw [bD,aV] at hlt
   refine ⟨_,iJ hl hlt,?_⟩
   simp only [Eff.app,C8]
   rw [aK,dM _ hu,aV]
  | upd i b v hc' hl =>
   simp only [Eff.app,C8] at hy
   subst hy
   refine ⟨_,rfl,?_⟩
   simp only [Eff.app,C8]
   rw [aK,dM _ hu]
 | new b u hc =>
  obtain ⟨d,rfl,hl,hlt,rfl⟩:=ca hx
  have hlk:∀ j,((st.ab (st.nid (some d)) (some b)).put (some d) u).look j=if st.nid (some d)=j then some b else st.look j:=fun j=>by
   rw [a8,ag]
   by_cases h:st.nid (some d)=j
   ·rw [if_pos ⟨h,hlt⟩,if_pos h]
   ·rw [if_neg (fun h'=>h h'.1),if_neg h]
  cases my with
  | val v hc' =>
   simp only [Eff.app,C8] at hy
   subst hy
   refine ⟨_,rfl,?_⟩
   rw [iJ (by rw [a8,aV]; exact hl) (by rw [bD,aV]; exact hlt),aV,aK,dM _ hu]
  | new b' v hc' =>
   obtain ⟨d',rfl,hl',hlt',rfl⟩:=ca hy
   have hne:d≠d':=fun e=>by subst e; simp [unlike] at hu
   have hni:st.nid (some d)≠st.nid (some d'):=nid_ne hne
   rw [aV,a7] at hl' hlt'
   rw [hlk,if_neg hni] at hl'
   have hlt2:st.nid (some d') < st.boxes.length:=by rw [bD] at hlt'; simpa [ASt.ab,ah] using hlt'
   refine ⟨_,iJ hl' hlt2,?_⟩
   rw [iJ (by rw [a8,aV,a7,ag,if_neg (fun h=>hni h.1.symm)]; exact hl) (by rw [bD,aV,a7]; simpa [ASt.ab,ah] using hlt)]
   rw [aV,a7,aV,a7,aK,aK,eW _ hni,dM _ (d:=some d) (d':=some d') hu]
  | upd i b' v hc' hl' =>
   simp only [Eff.app,C8] at hy
   subst hy
   have hid:=hb i b' v rfl ⟨b,u,rfl⟩
   refine ⟨_,rfl,?_⟩
   rw [iJ (by rw [a8,aV,a7,ag,if_neg (fun h=>hid h.1.symm)]; exact hl) (by rw [bD,aV,a7]; simpa [ASt.ab,ah] using hlt)]
   rw [aV,a7,aK,aK,eW _ hid,dM _ (d:=some d) (d':=dy) hu]
 | upd i b u hc hl =>
  simp only [Eff.app,C8] at hx
  subst hx
  subst hc
  cases my with
  | val v hc' =>
   simp only [Eff.app,C8] at hy
   subst hy
   refine ⟨_,rfl,?_⟩
   simp only [Eff.app,C8]
   rw [aK,dM _ hu]
  | new b' v hc' =>
   obtain ⟨d',rfl,hl',hlt',rfl⟩:=ca hy
   rw [aV,a7] at hl' hlt'
   rw [a8,ag] at hl'
   obtain ⟨c,hc2⟩:=Option.isSome_iff_exists.1 hl
   have hlt2:st.nid (some d') < st.boxes.length:=by rw [bD] at hlt'; simpa [ASt.ab,ah] using hlt'
   have hne:i≠st.nid (some d'):=fun e=>by rw [if_pos ⟨e,fm hc2⟩] at hl'; cases hl'
   have hl3:st.look (st.nid (some d'))=none:=by
    rw [if_neg (fun h=>hne h.1)] at hl'; exact hl'
   refine ⟨_,iJ hl3 hlt2,?_⟩
   simp only [Eff.app,C8]
   rw [aV,a7,aK,aK,eW _ hne,dM _ (d:=some d') (d':=dx) (gr hu)]
  | upd i' b' v hc' hl' =>
   have hne:=hw i b u i' b' v rfl rfl
   simp only [Eff.app,C8] at hy
   subst hy
   refine ⟨_,rfl,?_⟩
   simp only [Eff.app,C8]
   rw [aK,aK,eW _ hne,dM _ hu]
theorem uK {p:Prop} [Decidable p] {c d:Cls} (h:(if p then c else .N)=d) (hd:d≠.N):c=d:=by
 by_cases hp:p
 ·rwa [if_pos hp] at h
 ·rw [if_neg hp] at h; exact absurd h.symm hd
theorem oN {p:Prop} [Decidable p] {c:Cls} (h:(if p then c else .N)=.A∨(if p then c else .N)=.B∨(if p then c else .N)=.P):c.makes=true:=by
 rcases h with h | h | h <;> rw [uK h (by simp)] <;> rfl
theorem kr {ps:List Nat} {s t:ASt} {d:Option Nat} {e:Eff} (hb:s.base=t.base) (h:∀ k,d=some k→nth (.one .junk) s.slots k=nth (.one .junk) t.slots k):b9 ps s d e=b9 ps t d e:=by
 unfold b9
 congr 1
 funext k
 cases d with
 | none=>rw [hb]
 | some d=>simp only [hb,h d rfl]
theorem g9 {i:Item} {s t:ASt} {e:Eff} (hb:s.base=t.base) (hd:∀ k,i.o.dst=some k→nth (.one .junk) s.slots k=nth (.one .junk) t.slots k) (h:i.o.op.operands.toList.map s.ev=i.o.op.operands.toList.map t.ev):cO i s e=cO i t e:=by
 unfold cO
 have:∀ b,iB s i.o.dst b=iB t i.o.dst b:=fun b=>by
  cases hk:i.o.dst with
  | none=>rfl
  | some d=>simp only [iB,hd d hk]
 have hD:∀ b,gu s i.o.dst b=gu t i.o.dst b:=fun b=>by
  cases hk:i.o.dst with
  | none=>rfl
  | some d=>simp only [gu,hd d hk]
 simp only [hb,h,this,hD]
theorem eZ {a b:Option Nat} (h:unlike a b=true):∀ k,b=some k→a≠some k:=fun k hk e=>by subst hk; subst e; simp [unlike] at h
theorem AC {ops : List Oper} {x y : Item} (hap : cm ops x.o y.o = true) (hxd : x.dr = true) (hyd : y.dr = true) (hxx : (al x.o.op).isX = false) (hyx : (al y.o.op).isX = false)
  (hbx:(al x.o.op).makes=true→∀ d,x.o.dst=some d→d ∈ y.ban.1) (hby:(al y.o.op).makes=true→∀ d,y.o.dst=some d→d ∈ x.ban.1)
  (hox:(al y.o.op).reads=true→y.ban ∈ x.own) (hoy:(al x.o.op).reads=true→x.ban ∈ y.own) (h1:OpP E C ops x st s1) (h2:OpP E C ops y s1 s2) :
  ∃ s1',OpP E C ops y st s1'∧OpP E C ops x s1' s2:=by
 simp only [cm,C9] at hap
 obtain ⟨⟨⟨⟨hg,hfx⟩,hfy⟩,hu⟩,_⟩:=hap
 obtain ⟨hfx1,hfx2⟩:=au hfx
 obtain ⟨hfy1,hfy2⟩:=au hfy
 have hu':unlike y.o.dst x.o.dst=true:=gr hu
 have dec:∀ {i:Item} {s s':ASt},i.dr=true→(al i.o.op).isX=false→OpP E C ops i s s'→∃ e,(aZ ops i.o s=some (some true)→b9 i.push s i.o.dst e=true∧cO i s e=true)∧Move (if aZ ops i.o s=some (some true) then al i.o.op else .N) s e∧e.nfE.app s i.o.dst=some s' ∧
   ((aZ ops i.o s=some (some true)∧(opL E (s.nid i.o.dst) (banned (aU i.ban s.base) s.look) i.o.op (i.o.op.operands.toList.map s.ev)).hits C e∧(e.plain=true∧e.mj s.base i.own=true))∨(∃ b,aZ ops i.o s=some b∧b≠some true∧e=.val (.one .undef))):=by
  intro i s s' hd hx h
  rcases h with ⟨hg,e,k1,k2,k3⟩ | ⟨b,hg,hb,h⟩
  ·refine ⟨e,fun _=>(k2 hd).2,?_,k3,.inl ⟨hg,k1,(k2 hd).1⟩⟩
   rw [if_pos hg]
   exact qr hx (k2 hd).1.1 k1
  ·refine ⟨.val (.one .undef),fun h=>absurd (Option.some.inj (hg.symm.trans h)) hb,?_,?_,.inr ⟨b,hg,hb,rfl⟩⟩
   ·rw [if_neg (by rw [hg]; simpa using hb)]
    exact .val _ (.inl rfl)
   ·rw [h]; rfl
 obtain ⟨ex,cx,mx,ax,hx⟩:=dec hxd hxx h1
 obtain ⟨ey,cy,my,ay,hy⟩:=dec hyd hyx h2
 have px:ex.nfE.plain=true:=by rw [nq]; cases mx <;> rfl
 have py:ey.nfE.plain=true:=by rw [nq]; cases my <;> rfl
 obtain ⟨sb1,_,so1⟩:=fG px ax
 have hb1:s1.base=st.base:=by simp [ASt.base,so1]
 have hn1:∀ d,s1.nid d=st.nid d:=fun d=>by cases d <;> simp [ASt.nid,so1]
 have hgy:aZ ops y.o s1=aZ ops y.o st:=kg sb1 hfx1
 have hvy:y.o.op.operands.toList.map s1.ev=y.o.op.operands.toList.map st.ev:=dW sb1 hfx2
 have inO:∀ {base:Nat} {own:List (List Nat × List Nat)} {ban:List Nat × List Nat} {i:Nat} {b:BC} {v:AV},Eff.mj base own (.upd i b v)=true→ban ∈ own→i ∈ aU ban base:=fun {base own ban i b v} h hm=>by
  simp only [Eff.mj,List.all_eq_true] at h
  exact (bT _ _).1 (h ban hm)
 have inBan:∀ {d:Nat} {ban:List Nat × List Nat} {s:ASt},d ∈ ban.1→s.nid (some d) ∈ aU ban s.base:=fun {d ban s} h=>List.mem_append_left _ (List.mem_map.2 ⟨d,h,rfl⟩)
 have hW:∀ i b v i' b' v',ex=.upd i b v→ey=.upd i' b' v'→i≠i':=by
  rintro i b v i' b' v' rfl rfl rfl
  rcases hx with ⟨_,_,_,ho⟩ | ⟨_,_,_,he⟩
  ·rcases hy with ⟨_,hh,_⟩ | ⟨_,_,_,he⟩
   ·have hWy:al y.o.op=.W:=by
     cases my with
     | upd _ _ _ hc _=>exact uK hc (by simp)
    have hin:=inO ho (hox (by rw [hWy]; rfl))
    obtain ⟨i',b2,v2,he,hl⟩:=(Ae hWy _).hits hh rfl
    cases he
    unfold banned at hl
    rw [hb1,(bT _ _).2 hin] at hl
    simp at hl
   ·cases he
  ·cases he
 have hban:∀ i b v,ey=.upd i b v→(∃ b row,ex=.new b row)→st.nid x.o.dst≠i:=by
  rintro i b v rfl ⟨b',row,rfl⟩ hd
  obtain ⟨d,hdx,_⟩:=ca ax
  rcases hy with ⟨_,hh,_⟩ | ⟨_,_,_,he⟩
  ·have hmk:(al x.o.op).makes=true:=by
    cases mx with
    | new _ _ hc=>exact oN hc
   have hin:=inBan (s:=st) (hbx hmk d hdx)
   have hW:al y.o.op=.W:=by
    cases my with
    | upd _ _ _ hc _=>exact uK hc (by simp)
   obtain ⟨i',b2,v2,he,hl⟩:=(Ae hW _).hits hh rfl
   cases he
   unfold banned at hl
   rw [hdx] at hd
   rw [hd] at hin
   rw [hb1,(bT _ _).2 hin] at hl
   simp at hl
  ·cases he
 have nfU:∀ {e:Eff} {i b v},e.nfE=.upd i b v→∃ v',e=.upd i b v':=fun {e i b v} h=>by
  cases e <;> simp only [Eff.nfE,Eff.upd.injEq,reduceCtorEq] at h
  obtain ⟨rfl,rfl,_⟩:=h
  exact ⟨_,rfl⟩
 have nfN:∀ {e:Eff},(∃ b v,e.nfE=.new b v)→∃ b v,e=.new b v:=fun {e} ⟨b,v,h⟩=>by
  cases e <;> simp only [Eff.nfE,Eff.new.injEq,reduceCtorEq] at h
  exact ⟨_,_,rfl⟩
 obtain ⟨s1',ay',ax'⟩:=Bh hu mx.nf my.nf ax ay (fun i b v hy hx=>by obtain ⟨v',h⟩:=nfU hy; exact hban i b v' h (nfN hx))
  (fun i b v i' b' v' hx hy=>by obtain ⟨u,h⟩:=nfU hx; obtain ⟨u',h'⟩:=nfU hy; exact hW i b u i' b' u' h h')
 obtain ⟨sb2,_,so2⟩:=fG py ay'
 have hb2:s1'.base=st.base:=by simp [ASt.base,so2]
 have hn2:∀ d,s1'.nid d=st.nid d:=fun d=>by cases d <;> simp [ASt.nid,so2]
 have hgx:aZ ops x.o s1'=aZ ops x.o st:=kg sb2 hfy1
 have hvx:x.o.op.operands.toList.map s1'.ev=x.o.op.operands.toList.map st.ev:=dW sb2 hfy2
 have readsOf:∀ {o:Op},(al o).isX=false→¬ (al o=.N∨al o=.A)→(al o).reads=true:=fun {o} hx hf=>by
  cases hc:al o with
  | N=>exact absurd (.inl hc) hf
  | A=>exact absurd (.inr hc) hf
  | X=>rw [hc] at hx; cases hx
  | _=>rfl
 refine ⟨s1',?_,?_⟩
 ·rcases hy with ⟨hgv,hh,hp⟩ | ⟨b,hgv,hb,rfl⟩
  ·rw [hgy] at hgv
   have hcl:b9 y.push st y.o.dst ey=true∧cO y st ey=true:=by
    rw [← kr hb1 (fun k hk=>sb1.2 k (eZ hu k hk)),← g9 (s:=s1) hb1 (fun k hk=>sb1.2 k (eZ hu k hk)) hvy]
    exact cy (by rw [hgy]; exact hgv)
   refine .inl ⟨hgv,ey,?_,fun _=>⟨by rw [← hb1]; exact hp,hcl⟩,ay'⟩
   rw [hvy,hn1,hb1] at hh
   by_cases hfree:al y.o.op=.N∨al y.o.op=.A
   ·rw [tL hfree]; exact hh
   ·have:banned (aU y.ban st.base) st.look=banned (aU y.ban st.base) s1.look:=by
     refine d8 (fun j hj=>?_)
     obtain ⟨l1,l2,l3⟩:=ln mx.nf ax
     cases mx with
     | val u hc=>exact (l1 j ⟨_,rfl⟩).symm
     | new b row hc =>
      have hmk:(al x.o.op).makes=true:=oN hc
      rw [l2 j b _ rfl]
      obtain ⟨d,hdx,_⟩:=ca ax
      split
      ·rename_i hd
       rw [hdx] at hd
       exact absurd (hd ▸ inBan (s:=st) (hbx hmk d hdx)) hj
      ·rfl
     | upd i b v hc hl =>
      rw [l3 j i b _ rfl]
      split
      ·rename_i hij
       subst hij
       rcases hx with ⟨_,_,_,ho⟩ | ⟨_,_,_,he⟩
       ·exact absurd (inO ho (hox (readsOf hyx hfree))) hj
       ·cases he
      ·rfl
    rw [this]; exact hh
  ·rw [hgy] at hgv
   refine .inr ⟨b,hgv,hb,?_⟩
   simp only [Eff.nfE,Eff.app,C8] at ay'
   exact ay'.symm
 ·rcases hx with ⟨hgv,hh,hp⟩ | ⟨b,hgv,hb,rfl⟩
  ·have hcl : b9 x.push s1' x.o.dst ex = true ∧ cO x s1' ex = true := by
    rw [kr hb2 (fun k hk=>sb2.2 k (eZ hu' k hk)),g9 (s:=s1') hb2 (fun k hk=>sb2.2 k (eZ hu' k hk)) hvx]
    exact cx hgv
   refine .inl ⟨by rw [hgx,hgv],ex,?_,fun _=>⟨by rw [hb2]; exact hp,hcl⟩,ax'⟩
   rw [hvx,hn2,hb2]
   by_cases hfree:al x.o.op=.N∨al x.o.op=.A
   ·rw [tL hfree]; exact hh
   ·have:banned (aU x.ban st.base) s1'.look=banned (aU x.ban st.base) st.look:=by
     refine d8 (fun j hj=>?_)
     have my':Move (if aZ ops y.o s1=some (some true) then al y.o.op else .N) st ey:=by
      cases my with
      | val v hc=>exact .val v hc
      | new b row hc=>exact .new b row hc
      | upd i b v hc hl =>
       refine .upd i b v hc ?_
       obtain ⟨l1,l2,l3⟩:=ln mx.nf ax
       cases mx with
       | val u hc=>rw [l1 i ⟨_,rfl⟩] at hl; exact hl
       | new b' row hc =>
        rw [l2 i b' _ rfl] at hl
        rw [if_neg (hban i b v rfl ⟨b',row,rfl⟩)] at hl
        exact hl
       | upd i' b' v' hc' hl' =>
        rw [l3 i i' b' _ rfl] at hl
        by_cases he:i'=i
        ·subst he; exact hl'
        ·rw [if_neg he] at hl; exact hl
     obtain ⟨l1,l2,l3⟩:=ln my'.nf ay'
     cases my' with
     | val u hc=>exact l1 j ⟨_,rfl⟩
     | new b row hc =>
      have hmk:(al y.o.op).makes=true:=oN hc
      rw [l2 j b _ rfl]
      obtain ⟨d,hdy,_⟩:=ca ay'
      split
      ·rename_i hd
       rw [hdy] at hd
       exact absurd (hd ▸ inBan (s:=st) (hby hmk d hdy)) hj
      ·rfl
     | upd i b v hc hl =>
      rw [l3 j i b _ rfl]
      split
      ·rename_i hij
       subst hij
       rcases hy with ⟨_,_,_,ho⟩ | ⟨_,_,_,he⟩
       ·rw [hb1] at ho
        exact absurd (inO ho (hoy (readsOf hxx hfree))) hj
       ·cases he
      ·rfl
    rw [this]; exact hh
  ·refine .inr ⟨b,by rw [hgx,hgv],hb,?_⟩
   simp only [Eff.nfE,Eff.app,C8] at ax'
   exact ax'.symm
end
end Go.Ab
end
section
namespace Go.Ab
open Go.RowKit
theorem gV {k:Nat} {l:List Nat}:(!bE k l)=true ↔ k ∉ l:=by
 rw [Bool.not_eq_true']
 constructor
 ·intro h hm
  rw [(bT _ _).2 hm] at h
  cases h
 ·intro h
  cases hb:bE k l with
  | false=>rfl
  | true=>exact absurd ((bT _ _).1 hb) h
theorem iY {k s:Nat}:∀ {l:List AV} {n:Nat},fc k s n l=true ↔ ∀ t,n + t≠s→k ∉ (nth (.one .junk) l t).dF
 | [],n=>by simp [fc,nth,AV.dF,nO]
 | v :: l, n => by
  simp only [fc,C9,Bool.or_eq_true,iY (l:=l) (n:=n + 1),gV]
  constructor
  ·rintro ⟨h1,h2⟩ t ht
   cases t with
   | zero =>
    rcases h1 with h1 | h1
    ·exact absurd ((ao _ _).1 h1) ht
    ·exact h1
   | succ t=>exact h2 t (by omega)
  ·intro h
   refine ⟨?_,fun t ht=>h (t + 1) (by omega)⟩
   by_cases hn:n=s
   ·exact .inl ((ao _ _).2 hn)
   ·exact .inr (h 0 hn)
theorem cE {k:Nat}:∀ {l:List (Option BC)},dv k l=true ↔ ∀ i b,nth none l i=some b→k ∉ b.kE
 | []=>by simp [dv,nth]
 | some c :: l => by
  simp only [dv,C9,cE (l:=l),gV]
  constructor
  ·rintro ⟨h1,h2⟩ i b hb
   cases i with
   | zero=>simp only [nth,C8] at hb; subst hb; exact h1
   | succ i=>exact h2 i b hb
  ·intro h
   exact ⟨h 0 c rfl,fun i b hb=>h (i + 1) b hb⟩
 | none :: l => by
  simp only [dv,cE (l:=l)]
  constructor
  ·intro h2 i b hb
   cases i with
   | zero=>simp only [nth,reduceCtorEq] at hb
   | succ i=>exact h2 i b hb
  ·intro h i b hb
   exact h (i + 1) b hb
structure Pu (st:ASt) (s m k:Nat):Prop where
 hk:k=st.base + m
 slot:nth (.one .junk) st.slots s=.one (.sref k 0 [])
 look:∃ x,st.look k=some (.tree [x])
 slots:∀ t,t≠s→k ∉ (nth (.one .junk) st.slots t).dF
 boxes:∀ i b,st.look i=some b→k ∉ b.kE
 out:k ∉ fx st.out
abbrev so (k:Nat) (y:TV):Eff:=.gen [.drop k 0 [] false,.root k 0 y] (.one (.sref k 0 []))
def bB (st:ASt) (d:Option Tmp) (s k:Nat) (y:TV):ASt:=((st.put (some s) (.one .junk)).ab k (some (.tree [y]))).put d (.one (.sref k 0 []))
theorem sI {k:Nat} {v:AV} (h:i6 k v=true):v=.one (.sref k 0 []):=by
 unfold i6 at h
 split at h
 ·rw [(ao _ _).1 h]
 ·cases h
theorem uC {b:Option BC} (h:uR b=true):∃ x,b=some (.tree [x]):=by
 unfold uR at h
 split at h
 ·exact ⟨_,rfl⟩
 ·cases h
theorem fh {o:Item} {st:ASt} {e:Eff} (h:cP o st e=true):∃ s y,ap o.o.op=some s∧e=so (st.base + o.root) y∧Pu st s o.root (st.base + o.root):=by
 unfold cP at h
 split at h
 ·rename_i s i y h1 h2
  simp only [C9] at h
  obtain ⟨⟨⟨⟨⟨a1,a2⟩,a3⟩,a4⟩,a5⟩,a6⟩:=h
  have a1:=(ao _ _).1 a1
  subst a1
  exact ⟨s,y,h1,ip h2,rfl,sI a2,uC a3,fun t ht=>iY.1 a4 t (by omega),cE.1 a5,gV.1 a6⟩
 ·cases h
theorem mT {o:Item} {st:ASt} {s k:Nat} {y:TV} (hs:ap o.o.op=some s) (pu:Pu st s o.root k):cP o st (so k y)=true:=by
 obtain ⟨x,hx⟩:=pu.look
 unfold cP
 simp only [hs,mf,C9]
 refine ⟨⟨⟨⟨⟨(ao _ _).2 pu.hk,?_⟩,?_⟩,iY.2 (fun t ht=>pu.slots t (by omega))⟩,cE.2 pu.boxes⟩,gV.2 pu.out⟩
 ·rw [pu.slot]; exact (ao _ _).2 rfl
 ·rw [hx]; rfl
theorem yw {k:Nat} {c:CA} (h:k ∉ nO c):CA.drop k 0 [] false c=c:=by
 have key:∀ {i r:Nat} {p:Way},k≠i→di k 0 [] false i r p=false:=fun {i r p} hne=>by
  have:k.beq i=false:=by
   cases hb:k.beq i with
   | false=>rfl
   | true=>exact absurd ((ao _ _).1 hb) hne
  simp only [di,this,Bool.false_and]
 cases c <;> first
  | rfl
  | (simp only [nO,List.mem_singleton] at h; simp only [CA.drop,key h,cond_false])
theorem jb {k:Nat}:∀ {l:List CA},k ∉ kA l→mapC (CA.drop k 0 [] false) l=l
 | [],_=>rfl
 | c :: l,h=>by
  simp only [kA,List.mem_append,not_or] at h
  simp only [mapC,yw h.1,jb h.2]
theorem t7 {k:Nat}:∀ {l:List (Bool × List CA)},k ∉ pN l→iR (CA.drop k 0 [] false) l=l
 | [],_=>rfl
 | (b,c) :: l,h=>by
  simp only [pN,List.mem_append,not_or] at h
  simp only [iR,jb h.1,t7 h.2]
theorem wr {k:Nat} {v:AV} (h:k ∉ v.dF):v.bM (CA.drop k 0 [] false)=v:=by
 cases v <;> simp only [AV.dF] at h <;> simp only [AV.bM]
 ·rw [yw h]
 ·rw [jb h]
 ·rw [t7 h]
 ·rw [jb h]
theorem oG {k:Nat}:∀ {l:List AV},(∀ t,k ∉ (nth (.one .junk) l t).dF)→bQ (CA.drop k 0 [] false) l=l
 | [],_=>rfl
 | v :: l,h=>by
  simp only [bQ]
  rw [wr (v:=v) (h 0),oG (fun t=>h (t + 1))]
theorem rU {k:Nat}:∀ {l:List AV},k ∉ fx l→∀ t,k ∉ (nth (.one .junk) l t).dF
 | [],_,t=>by simp [nth,AV.dF,nO]
 | v :: l,h,t=>by
  simp only [fx,List.mem_append,not_or] at h
  cases t with
  | zero=>exact h.1
  | succ t=>exact rU h.2 t
theorem oq {k:Nat}:∀ {l:List (Option BC)},(∀ i b,nth none l i=some b→k ∉ b.kE)→dG (CA.drop k 0 [] false) l=l
 | [],_=>rfl
 | some b :: l,h=>by
  simp only [dG]
  rw [oq (fun i b hb=>h (i + 1) b hb)]
  have:=h 0 b rfl
  cases b with
  | cells cs=>simp only [BC.bk]; rw [jb this]
  | tree xs=>rfl
 | none :: l,h=>by
  simp only [dG]
  rw [oq (fun i b hb=>h (i + 1) b hb)]
theorem tz {k:Nat}:∀ {l:List AV} {s:Nat},nth (.one .junk) l s=.one (.sref k 0 [])→(∀ t,t≠s→k ∉ (nth (.one .junk) l t).dF)→bQ (CA.drop k 0 [] false) l=am l s (.one .junk)
 | [],s,h,_=>by simp [nth] at h
 | v :: l,0,h,hf=>by
  simp only [nth] at h
  subst h
  simp only [bQ,am]
  rw [oG (fun t=>hf (t + 1) (by omega))]
  simp [AV.bM,CA.drop,di,leads]
 | v :: l,s + 1,h,hf=>by
  simp only [bQ,am]
  rw [wr (v:=v) (hf 0 (by omega)),tz (s:=s) h (fun t ht=>hf (t + 1) (by omega))]
theorem nD {st:ASt} {s m k:Nat} {y:TV} {d:Option Tmp} (pu:Pu st s m k):(so k y).app st d=some (bB st d s k y):=by
 obtain ⟨x,hx⟩:=pu.look
 have h1:st.aq (CA.drop k 0 [] false)=st.put (some s) (.one .junk):=by
  simp only [ASt.aq,ASt.put]
  rw [tz pu.slot pu.slots,oq pu.boxes,oG (rU pu.out)]
 have h2:(st.put (some s) (.one .junk)).look k=some (.tree [x]):=by rw [a8]; exact hx
 simp only [Eff.app,ae,Prim.app,h1,bW,h2,am,bB]
section
variable {E:Env} {C:Cal} {st s1 s2:ASt} {d:Option Tmp} {e:Eff} {s m k:Nat} {y:TV}
theorem vW {l:List AV} {t:Nat} {v:AV}:nth (.one .junk) (am l t v) t=v∨nth (.one .junk) (am l t v) t=.one .junk:=by
 rw [aN,ah,List.getElem?_set]
 by_cases h:t < l.length
 ·left; simp [h]
 ·right; simp [h]
theorem jS (hv:cU e∨cW e) (ha:e.app st d=some s1):iG d s1 st∧s1.out=st.out∧(∀ j b,st.look j=some b→s1.look j=some b) ∧
  (∀ j b,s1.look j=some b→st.look j=some b∨((∀ r ∈ b.kE,r ∈ cZ e)∧∃ dd,d=some dd∧j=st.base + dd∧cW e))∧(∀ t,d=some t→∀ r ∈ (nth (.one .junk) s1.slots t).dF,r ∈ cZ e):=by
 have hp:e.plain=true:=by rcases hv with ⟨v,rfl⟩ | ⟨b,v,rfl⟩ <;> rfl
 obtain ⟨p1,_,p3⟩:=fG hp ha
 refine ⟨p1,p3,?_⟩
 rcases hv with ⟨v,rfl⟩ | ⟨b,v,rfl⟩
 ·simp only [Eff.app,C8] at ha
  subst ha
  refine ⟨fun j b h=>by rw [a8]; exact h,fun j b h=>by rw [a8] at h; exact .inl h,fun t ht r hr=>?_⟩
  subst ht
  simp only [ASt.put] at hr
  rcases vW (l:=st.slots) (t:=t) (v:=v) with h | h
  ·rw [h] at hr; exact hr
  ·rw [h] at hr; cases hr
 ·obtain ⟨dd,rfl,h1,h2,rfl⟩:=ca ha
  refine ⟨fun j c h=>?_,fun j c h=>?_,fun t ht r hr=>?_⟩
  ·rw [a8,ag,if_neg (fun hh=>by rw [hh.1,h] at h1; cases h1)]; exact h
  ·rw [a8,ag] at h
   by_cases hj:st.nid (some dd)=j∧st.nid (some dd) < st.boxes.length
   ·rw [if_pos hj] at h
    simp only [C8] at h
    subst h
    exact .inr ⟨fun r hr=>List.mem_append_left _ hr,dd,rfl,hj.1.symm,b,v,rfl⟩
   ·rw [if_neg hj] at h; exact .inl h
  ·have ht:=Option.some.inj ht
   subst ht
   simp only [ASt.put,ASt.ab] at hr
   rcases vW (l:=st.slots) (t:=dd) (v:=v) with h | h
   ·rw [h] at hr; exact List.mem_append_right _ hr
   ·rw [h] at hr; cases hr
theorem oc {ps:List Nat} (h:b9 ps st d e=true) (hs:s ∈ ps):st.base + s ∉ cZ e∧∀ t,d=some t→st.base + s ∉ (nth (.one .junk) st.slots t).dF:=by
 unfold b9 at h
 rw [List.all_eq_true] at h
 have:=h s hs
 rw [C9] at this
 refine ⟨gV.1 this.1,fun t ht=>?_⟩
 subst ht
 exact gV.1 this.2
theorem Pu.back (pu:Pu s1 s m k) (hv:cU e∨cW e) (ha:e.app st d=some s1) (hd:d≠some s) (hdm:d≠some m) (hc:∀ t,d=some t→k ∉ (nth (.one .junk) st.slots t).dF):Pu st s m k:=by
 obtain ⟨f1,f2,f3,f4,f5⟩:=jS hv ha
 have hb:s1.base=st.base:=by simp [ASt.base,f2]
 have hk:=pu.hk
 rw [hb] at hk
 refine ⟨hk,by rw [← f1.2 s hd]; exact pu.slot,?_,fun t ht=>?_,fun i b hi=>pu.boxes i b (f3 i b hi),by rw [← f2]; exact pu.out⟩
 ·obtain ⟨x,hx⟩:=pu.look
  rcases f4 k _ hx with h | ⟨_,dd,hdd,h,_⟩
  ·exact ⟨x,h⟩
  ·exact absurd (Nat.add_left_cancel (h.symm.trans hk)) (fun h=>hdm (by rw [hdd]; exact congrArg some h))
 ·by_cases hdt:d=some t
  ·exact hc t hdt
  ·rw [← f1.2 t hdt]; exact pu.slots t ht
theorem Pu.fwd (pu:Pu st s m k) (hv:cU e∨cW e) (ha:e.app st d=some s1) (hd:d≠some s) (hc:k ∉ cZ e):Pu s1 s m k:=by
 obtain ⟨f1,f2,f3,f4,f5⟩:=jS hv ha
 have hb:s1.base=st.base:=by simp [ASt.base,f2]
 refine ⟨by rw [hb]; exact pu.hk,by rw [f1.2 s hd]; exact pu.slot,?_,fun t ht=>?_,fun i b hi=>?_,by rw [f2]; exact pu.out⟩
 ·obtain ⟨x,hx⟩:=pu.look
  exact ⟨x,f3 k _ hx⟩
 ·by_cases hdt:d=some t
  ·exact fun hm=>hc (f5 t hdt k hm)
  ·rw [f1.2 t hdt]; exact pu.slots t ht
 ·rcases f4 i b hi with h | ⟨h,_⟩
  ·exact pu.boxes i b h
  ·exact fun hm=>hc (h k hm)
theorem vo {s:Nat} (h:d≠some s):unlike d (some s)=true:=by
 cases d with
 | none=>rfl
 | some d=>exact th (fun e=>h (by rw [e]))
theorem qN {dx dy:Option Tmp} {v:AV} (hds:dx≠some s) (hu:unlike dx dy=true):bB (st.put dx v) dy s k y=(bB st dy s k y).put dx v:=by
 simp only [bB]
 rw [dM _ (vo hds),aK,dM _ hu]
theorem xp {dy:Option Tmp} {i:Nat} {b:Option BC} (hi:k≠i):bB (st.ab i b) dy s k y=(bB st dy s k y).ab i b:=by
 simp only [bB]
 rw [aK _ i b dy,show (st.ab i b).put (some s) (.one .junk)=(st.put (some s) (.one .junk)).ab i b from (aK ..).symm,eW _ (fun h=>hi h.symm)]
theorem eJ {dy:Option Tmp} (d':Option Tmp):(bB st dy s k y).nid d'=st.nid d':=by
 simp only [bB]
 rw [aV,a7,aV]
theorem iC {dy:Option Tmp} {j:Nat} (hj:k≠j):(bB st dy s k y).look j=st.look j:=by
 simp only [bB]
 rw [a8,ag,if_neg (fun h=>hj h.1),a8]
theorem rf {dy:Option Tmp}:(bB st dy s k y).boxes.length=st.boxes.length:=by
 simp only [bB]
 rw [bD]
 simp only [ASt.ab,ah,List.length_set,bD]
theorem mK {dy:Option Tmp}:(bB st dy s k y).out=st.out:=by
 simp only [bB]
 rw [jM]
 simp only [ASt.ab,jM]
theorem fY {dy:Option Tmp} {t:Nat} (h1:t≠s) (h2:dy≠some t):nth (.one .junk) (bB st dy s k y).slots t=nth (.one .junk) st.slots t:=by
 simp only [bB]
 rw [eE _ _ _ _ h2]
 show nth (.one .junk) (st.put (some s) (.one .junk)).slots t=_
 rw [eE _ _ _ _ (fun e=>h1 (Option.some.inj e).symm)]
theorem tZ {dx dy:Option Tmp} (hv:cU e∨cW e) (ha:e.app st dx=some s1) (hds:dx≠some s) (hdm:dx≠some m) (hu:unlike dx dy=true) (hk:k=st.base + m):e.app (bB st dy s k y) dx=some (bB s1 dy s k y):=by
 rcases hv with ⟨v,rfl⟩ | ⟨b,v,rfl⟩
 ·simp only [Eff.app,C8] at ha
  subst ha
  simp only [Eff.app,qN hds hu]
 ·obtain ⟨dd,rfl,h1,h2,rfl⟩:=ca ha
  have hne:k≠st.nid (some dd):=fun h=>hdm (congrArg some (Nat.add_left_cancel (h.symm.trans hk:st.base + dd=st.base + m)))
  rw [iJ (by rw [eJ,iC hne]; exact h1) (by rw [eJ,rf]; exact h2),eJ,qN hds hu,xp hne]
theorem zg {dx dy:Option Tmp} (hv:cU e∨cW e) (ha:e.app (bB st dx s k y) dy=some s2) (hdm:dy≠some m) (hk:k=st.base + m):∃ s1,e.app st dy=some s1:=by
 rcases hv with ⟨v,rfl⟩ | ⟨b,v,rfl⟩
 ·exact ⟨_,rfl⟩
 ·obtain ⟨dd,rfl,h1,h2,rfl⟩:=ca ha
  have hne:k≠st.nid (some dd):=fun h=>hdm (congrArg some (Nat.add_left_cancel (h.symm.trans hk:st.base + dd=st.base + m)))
  rw [eJ,iC hne] at h1
  rw [eJ,rf] at h2
  exact ⟨_,iJ h1 h2⟩
end
section
variable {E:Env} {C:Cal} {st s1 s2:ASt} {x y:Item} {s:Nat}
theorem cg {o:Op} (h:ap o=some s):al o=.P∧s ∈ cF o.operands.toList:=by
 unfold ap at h
 split at h
 ·rename_i l h1 h2
  simp only [C8] at h
  subst h
  rw [h2]
  exact ⟨h1,Dd⟩
 ·cases h
theorem kW.grows (hd:x.dr=true) (hx:(al x.o.op).isX=false) (hw:al x.o.op≠.W) {e:Eff}
  (h1:(opL E (st.nid x.o.dst) (banned (aU x.ban st.base) st.look) x.o.op (x.o.op.operands.toList.map st.ev)).hits C e)
  (h2:x.dr=true→(e.plain=true∧e.mj st.base x.own=true)∧(b9 x.push st x.o.dst e=true∧cO x st e=true)) :
  (cU e∨cW e)∧(cW e→(al x.o.op).makes=true):=by
 have mx:=qr hx (h2 hd).1.1 h1
 cases mx with
 | val v h=>exact ⟨.inl ⟨v,rfl⟩,fun ⟨b,v',h⟩=>by cases h⟩
 | new b v h=>exact ⟨.inr ⟨b,v,rfl⟩,fun _=>by rcases h with h | h | h <;> rw [h] <;> rfl⟩
 | upd i b v h hl=>exact absurd h hw
theorem sZ {e:Eff} (h:cU e∨cW e):(cU e.nfE∨cW e.nfE)∧(cW e.nfE→cW e):=by
 rcases h with ⟨v,rfl⟩ | ⟨b,v,rfl⟩
 ·exact ⟨.inl ⟨_,rfl⟩,fun ⟨b,v',h⟩=>by cases h⟩
 ·exact ⟨.inr ⟨_,_,rfl⟩,fun _=>⟨_,_,rfl⟩⟩
theorem pl {e:Eff} (h:cU e∨cW e) (b:Nat) (l:List (List Nat × List Nat)):e.mj b l=true:=by
 rcases h with ⟨v,rfl⟩ | ⟨b,v,rfl⟩ <;> rfl
theorem pK {e:Eff} (h:cU e∨cW e):e.plain=true:=by
 rcases h with ⟨v,rfl⟩ | ⟨b,v,rfl⟩ <;> rfl
theorem uO {d:Nat} {ban:List Nat × List Nat} {b:Nat} (h:d ∈ ban.1):b + d ∈ aU ban b:=List.mem_append_left _ (List.mem_map.2 ⟨d,h,rfl⟩)
theorem jU {dy:Option Tmp} {k:Nat} {z:TV} {l:List Operand} (h1:s ∉ cF l) (h2:dB dy (cF l)=true):l.map (bB st dy s k z).ev=l.map st.ev:=by
 apply List.map_congr_left
 intro o ho
 cases o with
 | tmp t =>
  have ht:=co ho
  exact fY (fun e=>h1 (e ▸ ht)) (fun e=>ba h2 t e ht)
 | const v=>cases v <;> rfl
 | _=>rfl
theorem yP (hs:ap y.o.op=some s) (hxd:x.dr=true) (hxx:(al x.o.op).isX=false) (hxw:al x.o.op≠.W) (hfx:dB x.o.dst (cF y.o.op.operands.toList)=true)
  (hfy:dB y.o.dst (cF x.o.op.operands.toList)=true) (hu:unlike x.o.dst y.o.dst=true) (hns:s ∉ cF x.o.op.operands.toList) (hbx:(al x.o.op).makes=true→∀ d,x.o.dst=some d→d ∈ y.ban.1)
  (hsx:y.root ∈ x.ban.1) (hpx:y.root ∈ x.push) (hdm:x.o.dst≠some y.root) (h1:kW E C x st s1) (h2:ir E C y s1 s2):∃ s1',ir E C y st s1'∧kW E C x s1' s2:=by
 obtain ⟨ex,hhx,cx,ax⟩:=h1
 obtain ⟨ey,hhy,oy,ay⟩:=h2
 obtain ⟨s',z,hs',rfl,pu⟩:=fh oy
 rw [hs] at hs'
 cases hs'
 obtain ⟨gx,mkx⟩:=kW.grows hxd hxx hxw hhx cx
 obtain ⟨gx',mkx'⟩:=sZ gx
 obtain ⟨f1,f2,f3,f4,f5⟩:=jS gx' ax
 have hb:s1.base=st.base:=by simp [ASt.base,f2]
 have hn:∀ d,s1.nid d=st.nid d:=fun d=>by cases d <;> simp [ASt.nid,f2]
 have hds:x.o.dst≠some s:=fun e=>ba hfx s e (cg hs).2
 obtain ⟨c1,c2⟩:=oc (cx hxd).2.1 hpx
 have pu0:Pu st s y.root (s1.base + y.root):=pu.back gx' ax hds hdm (by rw [hb]; exact c2)
 have ay':(so (s1.base + y.root) z).app s1 y.o.dst=some s2:=ay
 rw [nD pu] at ay'
 simp only [C8] at ay'
 subst ay'
 have hk:s1.base + y.root=st.base + y.root:=by rw [hb]
 refine ⟨bB st y.o.dst s (s1.base + y.root) z,⟨so (s1.base + y.root) z,?_,mT hs pu0,nD pu0⟩,⟨ex,?_,fun hd=>⟨⟨pK gx,pl gx _ _⟩,?_⟩,tZ gx' ax hds hdm hu hk⟩⟩
 ·rw [dW f1 hfx, hn, hb] at hhy
  have:banned (aU y.ban st.base) st.look=banned (aU y.ban st.base) s1.look:=by
   refine d8 (fun j hj=>?_)
   cases hl:s1.look j with
   | none =>
    cases hl0:st.look j with
    | none=>rfl
    | some b=>rw [f3 j b hl0] at hl; cases hl
   | some b =>
    rcases f4 j b hl with h | ⟨_,dd,hdd,h,hnew⟩
    ·exact h
    ·exfalso
     subst h
     exact hj (uO (hbx (mkx (mkx' hnew)) dd hdd))
  rw [this,hb]; exact hhy
 ·have hout:(bB st y.o.dst s (s1.base + y.root) z).base=st.base:=by simp [ASt.base,mK]
  rw [jU hns hfy,eJ,hout]
  have:banned (aU x.ban st.base) (bB st y.o.dst s (s1.base + y.root) z).look=banned (aU x.ban st.base) st.look:=by
   refine d8 (fun j hj=>iC (fun e=>?_))
   subst e
   rw [hb] at hj
   exact hj (uO hsx)
  rw [this]; exact hhx
 ·have hout:(bB st y.o.dst s (s1.base + y.root) z).base=st.base:=by simp [ASt.base,mK]
  rw [kr (t:=st) hout (fun t ht=>fY (fun e=>hds (by rw [ht,e])) (fun e=>(eZ (gr hu)) t ht e)),g9 (t:=st) hout (fun t ht=>fY (fun e=>hds (by rw [ht,e])) (fun e=>(eZ (gr hu)) t ht e)) (jU hns hfy)]
  exact (cx hd).2
theorem xG (hs:ap x.o.op=some s) (hyd:y.dr=true) (hyx:(al y.o.op).isX=false) (hyw:al y.o.op≠.W) (hfx:dB x.o.dst (cF y.o.op.operands.toList)=true)
  (hfy:dB y.o.dst (cF x.o.op.operands.toList)=true) (hu:unlike x.o.dst y.o.dst=true) (hns:s ∉ cF y.o.op.operands.toList) (hby:(al y.o.op).makes=true→∀ d,y.o.dst=some d→d ∈ x.ban.1)
  (hsy:x.root ∈ y.ban.1) (hpy:x.root ∈ y.push) (hdm:y.o.dst≠some x.root) (h1:ir E C x st s1) (h2:kW E C y s1 s2):∃ s1',kW E C y st s1'∧ir E C x s1' s2:=by
 obtain ⟨ex,hhx,ox,ax⟩:=h1
 obtain ⟨ey,hhy,cy,ay⟩:=h2
 obtain ⟨s',z,hs',rfl,pu⟩:=fh ox
 rw [hs] at hs'
 cases hs'
 have hu':=gr hu
 have ax':(so (st.base + x.root) z).app st x.o.dst=some s1:=ax
 rw [nD pu] at ax'
 simp only [C8] at ax'
 subst ax'
 have hout:(bB st x.o.dst s (st.base + x.root) z).base=st.base:=by simp [ASt.base,mK]
 obtain ⟨gy,mky⟩:=kW.grows hyd hyx hyw hhy cy
 obtain ⟨gy',mky'⟩:=sZ gy
 have hds:y.o.dst≠some s:=fun e=>ba hfy s e (cg hs).2
 obtain ⟨s1',ay'⟩:=zg gy' ay hdm rfl
 have he:=tZ (y:=z) gy' ay' hds hdm hu' (rfl:st.base + x.root=st.base + x.root)
 rw [he] at ay
 simp only [C8] at ay
 subst ay
 have hcs:b9 y.push (bB st x.o.dst s (st.base + x.root) z) y.o.dst ey=b9 y.push st y.o.dst ey:=kr hout (fun t ht=>fY (fun e=>hds (by rw [ht,e])) (fun e=>(eZ hu) t ht e))
 have hc:=(cy hyd).2
 rw [hcs,g9 (t:=st) hout (fun t ht=>fY (fun e=>hds (by rw [ht,e])) (fun e=>(eZ hu) t ht e)) (jU hns hfx)] at hc
 obtain ⟨c1,c2⟩:=oc hc.1 hpy
 obtain ⟨f1,f2,f3,f4,f5⟩:=jS gy' ay'
 have hb:s1'.base=st.base:=by simp [ASt.base,f2]
 have hn:∀ d,s1'.nid d=st.nid d:=fun d=>by cases d <;> simp [ASt.nid,f2]
 have pu1:Pu s1' s x.root (st.base + x.root):=pu.fwd gy' ay' hds (by rw [bZ]; exact c1)
 refine ⟨s1',⟨ey,?_,fun hd=>⟨⟨pK gy,pl gy _ _⟩,hc⟩,ay'⟩,⟨so (st.base + x.root) z,?_,mT hs pu1,nD pu1⟩⟩
 ·rw [jU hns hfx,eJ,hout] at hhy
  have:banned (aU y.ban st.base) (bB st x.o.dst s (st.base + x.root) z).look=banned (aU y.ban st.base) st.look:=by
   refine d8 (fun j hj=>iC (fun e=>?_))
   subst e
   exact hj (uO hsy)
  rw [← this]; exact hhy
 ·rw [dW f1 hfy, hn, hb]
  have:banned (aU x.ban st.base) s1'.look=banned (aU x.ban st.base) st.look:=by
   refine d8 (fun j hj=>?_)
   cases hl:s1'.look j with
   | none =>
    cases hl0:st.look j with
    | none=>rfl
    | some b=>rw [f3 j b hl0] at hl; cases hl
   | some b =>
    rcases f4 j b hl with h | ⟨_,dd,hdd,h,hnew⟩
    ·exact h.symm
    ·exfalso
     subst h
     exact hj (uO (hby (mky (mky' hnew)) dd hdd))
  rw [this]; exact hhx
theorem aJ {ops:List Oper} {o:Oper} (h:o.guard.isNone=true) (t:ASt):aZ ops o t=some (some true):=by
 unfold aZ
 rw [Option.isNone_iff_eq_none.1 h]
theorem OpP.step {ops:List Oper} (h:x.o.guard.isNone=true):OpP E C ops x st s1→kW E C x st s1
 | .inl ⟨_,h'⟩=>h'
 | .inr ⟨b,hb,hne,_⟩=>by rw [aJ h] at hb; exact absurd (Option.some.inj hb).symm hne
theorem Ar {ops:List Oper} (hap:cm ops x.o y.o=true) (hxs:x.shut=false) (hys:y.shut=false) (hxl:x.loose=false) (hyl:y.loose=false) (hxd:x.dr=true) (hyd:y.dr=true) (hxx:(al x.o.op).isX=false) (hyx:(al y.o.op).isX=false)
  (hbx:(al x.o.op).makes=true→∀ d,x.o.dst=some d→d ∈ y.ban.1) (hby:(al y.o.op).makes=true→∀ d,y.o.dst=some d→d ∈ x.ban.1)
  (hox:(al y.o.op).reads=true→y.ban ∈ x.own) (hoy:(al x.o.op).reads=true→x.ban ∈ y.own)
  (hpx:∀ s,ap y.o.op=some s→y.root=jP ops 20 s∧y.root ∈ x.ban.1∧y.root ∈ x.push) (hpy:∀ s,ap x.o.op=some s→x.root=jP ops 20 s∧x.root ∈ y.ban.1∧x.root ∈ y.push) (h1:OpN E C ops x st s1) (h2:OpN E C ops y s1 s2) :
  ∃ s1',OpN E C ops y st s1'∧OpN E C ops x s1' s2:=by
 have hap':=hap
 simp only [cm,C9] at hap'
 obtain ⟨⟨⟨⟨hg,hfx⟩,hfy⟩,hu⟩,ha1,ha2⟩:=hap'
 rcases h1.parts hxd hxs hxl with p1 | ⟨g1,p1⟩
 ·rcases h2.parts hyd hys hyl with p2 | ⟨g2,p2⟩
  ·obtain ⟨s1',q1,q2⟩:=AC hap hxd hyd hxx hyx hbx hby hox hoy p1 p2
   exact ⟨s1',q1.toN hys,q2.toN hxs⟩
  ·obtain ⟨s,z,hs,-⟩:=fh p2.choose_spec.2.1
   simp only [lI,hs,C9,gV] at ha2
   have hx:al x.o.op≠.W:=fun h=>by rw [h,(cg hs).1] at hg; cases hg
   obtain ⟨s1',q1,q2⟩:=yP hs hxd hxx hx (au hfx).2 (au hfy).2 hu (fun h=>ha2.1.2 (List.mem_append_right _ h)) hbx (hpx s hs).2.1 (hpx s hs).2.2 (fun h=>ba ha2.2 _ h (by rw [(hpx s hs).1]; exact Dd)) (p1.step ha2.1.1.2) p2
   exact ⟨s1',.inl ⟨aJ ha2.1.1.1 _,q1.toN⟩,.inl ⟨aJ ha2.1.1.2 _,q2.toN hxs⟩⟩
 ·obtain ⟨s,z,hs,-⟩:=fh p1.choose_spec.2.1
  simp only [lI,hs,C9,gV] at ha1
  rcases h2.parts hyd hys hyl with p2 | ⟨g2,p2⟩
  ·have hy:al y.o.op≠.W:=fun h=>by rw [h,(cg hs).1] at hg; cases hg
   obtain ⟨s1',q1,q2⟩:=xG hs hyd hyx hy (au hfx).2 (au hfy).2 hu (fun h=>ha1.1.2 (List.mem_append_right _ h)) hby (hpy s hs).2.1 (hpy s hs).2.2 (fun h=>ba ha1.2 _ h (by rw [(hpy s hs).1]; exact Dd)) p1 (p2.step ha1.1.1.2)
   exact ⟨s1',.inl ⟨aJ ha1.1.1.2 _,q1.toN hys⟩,.inl ⟨aJ ha1.1.1.1 _,q2.toN⟩⟩
  ·obtain ⟨s',z',hs',-⟩:=fh p2.choose_spec.2.1
   rw [(cg hs).1,(cg hs').1] at hg
   cases hg
end
end Go.Ab
end

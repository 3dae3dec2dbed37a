import Derived.Test.YtpkpckdealhkhaaAM13b
import Derived.OrdersIn
set_option linter.all false
section
namespace Go.Ab
open Go.RowKit
def Prg.goes {R:Type} (C:Cal) (J:List Nat->ASt->R->Prop):Prg R->R->Prop
 | .fail,_=>False
 | .ret e',e=>e'=e
 | .tv p k,e=>∃v,p=some v/\(k v).goes C J e
 | .tvs p k,e=>∃v,p=some v/\(k v).goes C J e
 | .rws p k,e=>∃v,p=some v/\(k v).goes C J e
 | .nat p k,e=>∃v,p=some v/\(k v).goes C J e
 | .chk b k,e=>b=true/\k.goes C J e
 | .ite b t f,e=>∃v,b=some v/\((v=true/\t.goes C J e)\/(v=false/\f.goes C J e))
 | .call f xs k,e=>∃v,C f xs v/\(k v).goes C J e
 | .jmp p st,e=>J p st e
theorem Prg.eJ {R S:Type} {C:Cal} {J:List Nat->ASt->S->Prop} {f:R->Prg S} {r:S}:∀{p:Prg R},(p.bind f).goes C J r->∃e,p.hits C e/\(f e).goes C J r
 | .fail,h=>h.elim
 | .ret e,h=>⟨e,rfl,h⟩
 | .tv p k,⟨v,h1,h⟩=>by obtain⟨e,h2,h3⟩:=Prg.eJ h;exact⟨e,⟨v,h1,h2⟩,h3⟩
 | .tvs p k,⟨v,h1,h⟩=>by obtain⟨e,h2,h3⟩:=Prg.eJ h;exact⟨e,⟨v,h1,h2⟩,h3⟩
 | .rws p k,⟨v,h1,h⟩=>by obtain⟨e,h2,h3⟩:=Prg.eJ h;exact⟨e,⟨v,h1,h2⟩,h3⟩
 | .nat p k,⟨v,h1,h⟩=>by obtain⟨e,h2,h3⟩:=Prg.eJ h;exact⟨e,⟨v,h1,h2⟩,h3⟩
 | .chk b k,⟨h1,h⟩=>by obtain⟨e,h2,h3⟩:=Prg.eJ (p:=k) h;exact⟨e,⟨h1,h2⟩,h3⟩
 | .ite b t f,⟨v,h1,.inl ⟨h2,h⟩⟩=>by obtain⟨e,h3,h4⟩:=Prg.eJ (p:=t) h;exact⟨e,⟨v,h1,.inl ⟨h2,h3⟩⟩,h4⟩
 | .ite b t f,⟨v,h1,.inr ⟨h2,h⟩⟩=>by obtain⟨e,h3,h4⟩:=Prg.eJ (p:=f) h;exact⟨e,⟨v,h1,.inr ⟨h2,h3⟩⟩,h4⟩
 | .call f xs k,⟨v,h1,h⟩=>by obtain⟨e,h2,h3⟩:=Prg.eJ h;exact⟨e,⟨v,h1,h2⟩,h3⟩
 | .jmp _ _,h=>h.elim
section
variable {P:Program} {E:Env} {C:Cal} {w0:Bs} {w w':World} {I0 I R:Nat->Prop} {g g':Gh} {st st' s1 s2:ASt} {a:Act} {ov:List Value} {look:Look} {Q:Exit->Act->World->Prop} {id:Nat}
def yE (E:Env) (C:Cal) (i:Item) (s s':ASt):Prop:=∃e,(opL E (s.nid i.o.dst) (banned (bE i.ban s.base) s.look) i.o.op (i.o.op.operands.toList.map s.ev)).hits C e /\
 (i.dr=true->okE i s e=true)/\e.nfE.app s i.o.dst=some s'
def AU (E:Env) (C:Cal) (i:Item) (s s':ASt):Prop:=∃e,(opL E (s.nid i.o.dst) (banned (bE i.ban s.base) s.look) i.o.op (i.o.op.operands.toList.map s.ev)).hits C e /\
 (i.dr=true->(e.plain=true/\e.qU s.base i.own=true)/\(cO i.push s i.o.dst e=true/\dD i s e=true))/\e.nfE.app s i.o.dst=some s'
def tz (E:Env) (C:Cal) (i:Item) (s s':ASt):Prop:=∃e,(opL E (s.nid i.o.dst) (banned (bE i.ban s.base) s.look) i.o.op (i.o.op.operands.toList.map s.ev)).hits C e /\
 kU i s e=true/\e.nfE.app s i.o.dst=some s'
def OpN (E:Env) (C:Cal) (ops:List Oper) (i:Item) (s s':ASt):Prop :=
 (bd ops i.o s=some (some true)/\yE E C i s s')\/(∃b,bd ops i.o s=some b/\b≠some true/\s'=dZ i.o s)
def OpP (E:Env) (C:Cal) (ops:List Oper) (i:Item) (s s':ASt):Prop :=
 (bd ops i.o s=some (some true)/\AU E C i s s')\/(∃b,bd ops i.o s=some b/\b≠some true/\s'=dZ i.o s)
theorem AU.toN {i:Item} (hsh:i.shut=false) {s s':ASt}:AU E C i s s'->yE E C i s s':=fun⟨e,h1,h2,h3⟩=>⟨e,h1,fun hd=>by obtain⟨⟨a,b⟩,c,d⟩:=h2 hd;simp only[okE,a,b,c,d,hsh,Bool.and_self,cond_false,Bool.true_or,Bool.or_true],h3⟩
theorem tz.toN {i:Item} {s s':ASt}:tz E C i s s'->yE E C i s s':=fun⟨e,h1,h2,h3⟩=>⟨e,h1,fun hd=>by simp only[okE,h2,Bool.or_true],h3⟩
theorem OpP.toN {ops:List Oper} {i:Item} (hsh:i.shut=false) {s s':ASt}:OpP E C ops i s s'->OpN E C ops i s s'
 | .inl ⟨h,h'⟩=>.inl ⟨h,h'.toN hsh⟩
 | .inr h=>.inr h
theorem OpN.parts {ops:List Oper} {i:Item} {s s':ASt} (hd:i.dr=true) (hsh:i.shut=false) (hlo:i.loose=false):OpN E C ops i s s'->OpP E C ops i s s'\/(bd ops i.o s=some (some true)/\tz E C i s s')
 | .inr h=>.inl (.inr h)
 | .inl ⟨h, e, h1, h2, h3⟩ => by
  have h2:=h2 hd;unfold okE at h2;rw[hlo,hsh,Bool.false_and,Bool.false_or,Bool.or_eq_true]at h2;rcases h2 with h2|h2
  ·simp only[cond_false,Gk]at h2
   exact .inl (.inl ⟨h,e,h1,fun _=>h2,h3⟩)
  ·exact .inr ⟨h,e,h1,h2,h3⟩
theorem B4 {i:Item} {s:ASt} {e:Eff} (h:okE i s e.nfE=true):okE i s e=true:=by
 unfold okE at h ⊢;rw[Bool.or_eq_true]at h ⊢;rcases h with h|h
 ·refine .inl ?_
  have:cC i s e.nfE=cC i s e:=by unfold cC;simp only[pa,zj,sk]
  rwa[this]at h
 refine .inr ?_;rw[Bool.or_eq_true]at h ⊢;rcases h with h|h
 ·rw[nG,yy]at h
  have:cO i.push s i.o.dst e.nfE=cO i.push s i.o.dst e:=by unfold cO;rw[cD]
  rw[this]at h;have e2:ie i s e.nfE=ie i s e:=by unfold ie;rw[j9,cD]
  have e3:dD i s e.nfE=dD i s e:=by unfold dD;rw[cD,qk]
  rw[e2,e3]at h;exact .inl h
 ·exact nomatch h
inductive Bh (E:Env) (C:Cal) (ops:List Oper):List Item->ASt->ASt->Prop
 | nil (s:ASt):Bh E C ops [] s s
 | cons {i:Item} {l:List Item} {s s1 s':ASt} (h:OpN E C ops i s s1) (r:Bh E C ops l s1 s'):Bh E C ops (i::l) s s'
theorem qI {v:TV} {b:Bool} (h:asBool v=some b):v=.lit (.bool b):=by
 unfold asBool at h;split at h
 ·simp only[Gj]at h;subst h;rfl
 ·cases h
theorem zV {T:Type} {J:List Nat->ASt->T->Prop} {i:Item} {K:ASt->Prg T} {r:T} (h:(mO E i K st).goes C J r):∃st1,yE E C i st.nfS st1.nfS/\(K st1).goes C J r:=by
 unfold mO at h;obtain⟨e,h1,h2⟩:=Prg.eJ h;obtain⟨e',h3,h4⟩:=opL_nf h1;unfold effQ at h2;cases hc:i.dr && !(okE i st e)with
 | true=>rw[hc]at h2;exact h2.elim
 | false =>
  rw[hc]at h2;simp only[cond_false]at h2;split at h2
  ·rename_i st1 ha
   refine⟨st1,⟨e',?_,fun hd=>?_,?_⟩,h2⟩
   ·have:i.o.op.operands.toList.map st.nfS.ev=(i.o.op.operands.toList.map st.ev).map AV.nf:=by
     rw[List.map_map];apply List.map_congr_left;intro x _;exact rV st x
    rw[this,we,nU,lL];exact h3
   ·refine B4 ?_
    rw[h4];exact okE_nf (by simpa[hd]using hc)
   ·rw[h4]
    exact app_nf ha
  ·exact h2.elim
theorem qK {g:Nat} {v v':AV} (h:nth (.one .junk) st.slots g=v) (hv:v.nf=v'.nf):(st.put (some g) v').nfS=st.nfS:=by
 rw[j5];simp only[ASt.put];have:ak st.nfS.slots g v'.nf=st.nfS.slots:=by
  rw[ah];apply List.ext_getElem?;intro t;rw[List.getElem?_set];by_cases ht:g=t
  ·subst ht
   cases hs:st.slots[g]? with
   | none =>
    have:st.nfS.slots[g]? = none:=by simp[ASt.nfS,hs]
    have hlt:¬g<st.nfS.slots.length:=by
     intro hlt;rw[Gi hlt]at this;cases this
    simp[hlt]
   | some u =>
    rw[bX hs]at h;subst h;have hlt:g<st.nfS.slots.length:=by simp[ASt.nfS];exact(Gg.1 hs).1
    simp only[if_true,hlt];rw[<-hv];simp[ASt.nfS,hs]
  ·simp[ht]
 rw[this]
theorem ln {T:Type} {J:List Nat->ASt->T->Prop} {ops:List Oper} {i:Item} {K:ASt->Prg T} {r:T} (h:(opQ E ops i K st).goes C J r):∃st1,OpN E C ops i st.nfS st1.nfS/\(K st1).goes C J r:=by
 unfold opQ at h;have skip:∀{s:ASt} {b:Option Bool},s.nfS=st.nfS->bd ops i.o st.nfS=some b->b≠some true->(K (dZ i.o s)).goes C J r->∃st1,OpN E C ops i st.nfS st1.nfS/\(K st1).goes C J r:=by
  intro s b he hg hb hk;refine⟨_,.inr ⟨b,hg,hb,?_⟩,hk⟩;simp only[dZ];rw[j5,he];rfl
 have run:∀{s:ASt},s.nfS=st.nfS->bd ops i.o st.nfS=some (some true)->(mO E i K s).goes C J r->∃st1,OpN E C ops i st.nfS st1.nfS/\(K st1).goes C J r:=by
  intro s he hg hk;obtain⟨st1,h1,h2⟩:=zV hk;rw[he]at h1;exact⟨st1,.inl ⟨hg,h1⟩,h2⟩
 cases hg:i.o.guard with
 | none =>
  simp only[hg]at h;exact run rfl (by simp[bd,hg]) h
 | some q =>
  obtain⟨j,want⟩:=q;simp only[hg]at h;cases hd:(ops[j]?).bind (·.dst)with
  | none=>simp only[hd]at h;exact h.elim
  | some g =>
   simp only[hd]at h;have gv:∀{v:AV},nth (.one .junk) st.slots g=v->bd ops i.o st.nfS=(match v.nf with | .one .undef=>some none | .bl b=>some (some (b==want))|_=>none):=by
    intro v hv;simp only[bd,hg,hd,sg,hv];generalize v.nf=u;cases u with
    | one c=>cases c<;>rfl
    | _=>rfl
   have ite:∀{v:TV} {x y:Prg T},(Prg.ite (asBool v) x y).goes C J r->∃b,v=.lit (.bool b)/\(bif b then x else y).goes C J r:=by
    rintro v x y ⟨b,hb,h⟩;refine⟨b,qI hb,?_⟩;rcases h with⟨rfl,h⟩|⟨rfl,h⟩<;>exact h
   cases hs:nth (.one .junk) st.slots g with
   | one c =>
    simp only[hs]at h;cases c with
    | undef=>exact skip rfl (by rw[gv hs];rfl) (by simp) h
    | t v =>
     obtain⟨b,rfl,h'⟩:=ite h;have he:(st.put (some g) (.bl b)).nfS=st.nfS:=qK hs rfl;have hgd:=gv hs;simp only[AV.nf]at hgd;cases b<;>cases want<;>simp only[cond_true,cond_false]at h'
     ·exact run he (by rw[hgd];rfl) h'
     ·exact skip (b:=some false) he (by rw[hgd];rfl) (by simp) h'
     ·exact skip (b:=some false) he (by rw[hgd];rfl) (by simp) h'
     ·exact run he (by rw[hgd];rfl) h'
    | _=>exact h.elim
   | agg cs=>simp only[hs]at h;exact h.elim
   | tups cs=>simp only[hs]at h;exact h.elim
   | clo _ cs=>simp only[hs]at h;exact h.elim
   | tv v =>
    simp only[hs]at h;obtain⟨b,rfl,h'⟩:=ite h;have he:(st.put (some g) (.bl b)).nfS=st.nfS:=qK hs rfl;have hgd:=gv hs;simp only[AV.nf]at hgd;cases b<;>cases want<;>simp only[cond_true,cond_false]at h'
    ·exact run he (by rw[hgd];rfl) h'
    ·exact skip (b:=some false) he (by rw[hgd];rfl) (by simp) h'
    ·exact skip (b:=some false) he (by rw[hgd];rfl) (by simp) h'
    ·exact run he (by rw[hgd];rfl) h'
   | bl b =>
    simp only[hs]at h;have hgd:=gv hs;simp only[AV.nf]at hgd;cases b<;>cases want<;>simp only[cond_true,cond_false]at h
    ·exact run rfl (by rw[hgd];rfl) h
    ·exact skip (b:=some false) rfl (by rw[hgd];rfl) (by simp) h
    ·exact skip (b:=some false) rfl (by rw[hgd];rfl) (by simp) h
    ·exact run rfl (by rw[hgd];rfl) h
theorem j3 {T:Type} {J:List Nat->ASt->T->Prop} {ops:List Oper} {K:ASt->Prg T} {r:T}:∀{l:List Item} {st:ASt},(Et E ops l K st).goes C J r->∃fin,Bh E C ops l st.nfS fin.nfS/\(K fin).goes C J r
 | [],st,h=>⟨st,.nil _,h⟩
 | i::l,st,h=>by
  simp only[Et,kN]at h;obtain⟨st1,h1,h2⟩:=ln h;obtain⟨fin,h3,h4⟩:=j3 h2;exact⟨fin,.cons h1 h3,h4⟩
theorem pP (ban:List Nat) (st:ASt):∀i b,banned ban st.look i=some b->st.look i=some b:=fun i b h=>by
 unfold banned at h;cases hm:bT i ban with
 | true=>simp[hm]at h
 | false=>simpa[hm]using h
theorem nj {ops:Array Oper} {o:Oper} {j:Nat} {want:Bool} {t:Tmp} (hg:(ops[j]?).bind (·.dst)=some t) (hs:al w0 I0 R g st a ov w) {b:Option Bool} (hv:bd ops.toList o st=some b) (ho:o.guard=some (j,want)) :
  (Region.wanted o (yielded ops a.tmps)=true ↔ b=some true):=by
 have hg':(ops.toList[j]?).bind (·.dst)=some t:=by rw[Gl];exact hg
 simp only[bd,ho,hg']at hv;simp only[Region.wanted,ho,yielded,hg,Option.bind_some];cases hsl:st.slots[t]? with
 | none=>rw[aS,hsl]at hv;simp at hv
 | some v =>
  have hrep:=hs.slots t v hsl;have hlt:t<a.tmps.size:=by rw[hs.len];exact(Gg.1 hsl).1
  have hget:a.tmps[t]? = some (a.tmps.getD t undef):=by simp[hlt]
  rw[bX hsl]at hv;obtain⟨u,hu⟩:∃u,u=a.tmps.getD t undef:=⟨_,rfl⟩;rw[<-hu]at hrep hget;rw[hget];split at hv
  ·simp only[Gj]at hv
   subst hv;have:u=undef:=hrep;subst this;simp[undef]
  ·simp only[Gj]at hv
   subst hv;have:u=.bool _:=hrep;subst this;simp
  ·cases hv
def Rd (ro:Option Nat):Fence:={ Fence.wide with round:=ro }
theorem rd_in {ro:Option Nat} {P:Program} {m m':Machine}:StepsIn (Machine.fenced P (Rd ro)) P m m' ↔ Steps P m m':=stepsIn_wide
theorem fX {ro:Option Nat} {n:Nat} {P:Program} {f:FuncId} {args:Array Value} {w:World} {R:Ending->World->Prop}:CallsIn (Rd ro) n P f args w R ↔ Calls P f args w R:=callsIn_wide
theorem FD {ro:Option Nat} (n:Nat):(Rd ro).room n:=room_wide n
theorem zy {ro:Option Nat} {o:Oper} (hd:∀c,o.op≠.defer c) {a:Act} {w:World} {next:Act->World->Prop} {Q:Exit->Act->World->Prop} (h:o.wp P a w next Q):o.wpIn (Rd ro) 0 P a w next Q:=by
 refine⟨fun _ _=>trivial,?_⟩;rw[Oper.semAt_eq _ _ _ hd];unfold Oper.wp at h;generalize (execOp a.eval o).run P w=r at *;cases r with
 | ok x w' =>
  cases x<;>simp only[Oper.upon]at h<;>simp only[Oper.uponIn] <;>
   first
    | exact h
    | exact⟨fun h=>by simp[Rd,Fence.wide]at h,fX.2 h⟩
    | exact⟨fun h=>by simp[Rd,Fence.wide]at h,fun c cs _=>by obtain⟨v,w',r,s⟩:=h c cs;exact⟨v,w',r,rd_in.2 s⟩⟩
 | halt x w'=>cases x<;>simp only[Oper.upon]at h<;>simp only[Oper.uponIn]<;>exact h
theorem l9 (hE:gc P w0.G E C) {ops:Array Oper} {n:Nat} {i:Item} (hn:ops[n]? = some i.o) (hs:Sim w0 I0 st a ov w) (h:OpN E C ops.toList i st st') {ro:Option Nat}:wpOpIn (Rd ro) 0 P ops Q n (fun a' w'=>Sim w0 I0 st' a' ov w') a w:=by
 obtain⟨g,hs⟩:=hs;unfold wpOpIn;rw[hn];simp only[];have run:yE E C i st st'->i.o.wpIn (Rd ro) 0 P a w (fun a' w'=>Sim w0 I0 st' a' ov w') Q:=fun⟨e,h1,_,h3⟩=>by
  obtain⟨st1,h4,h5⟩:=Bc h3;refine zy (fun c hc=>?_) (Oper.wp_mono (fun a' w' hh=>h5 w0 I0 a' ov w' hh) (DR hE (pP _ st) hs h1 h4));rw[hc]at h1;simp only[opL]at h1;exact h1.elim
 have skip:st'=dZ i.o st->Sim w0 I0 st' (a.put i.o.dst undef) ov w:=fun h=>by
  subst h;exact⟨g,hs.put i.o.dst (v:=.one .undef) rfl⟩
 cases hg:i.o.guard with
 | none =>
  have hw:Region.wanted i.o (yielded ops a.tmps)=true:=by simp[Region.wanted,hg]
  rw[if_pos hw];rcases h with⟨_,h⟩|⟨b,hb,hne,_⟩
  ·exact run h
  ·simp[bd,hg]at hb
   exact absurd hb.symm hne
 | some q =>
  obtain⟨j,want⟩:=q;cases hd:(ops[j]?).bind (·.dst)with
  | none =>
   have hd':(ops.toList[j]?).bind (·.dst)=none:=by rw[Gl];exact hd
   rcases h with⟨h,_⟩|⟨b,hb,_⟩
   ·simp only[bd,hg,hd']at h;cases h
   ·simp only[bd,hg,hd']at hb;cases hb
  | some t =>
   rcases h with⟨hv,h⟩|⟨b,hv,hne,h⟩
   ·rw[if_pos ((nj hd hs hv hg).2 rfl)]
    exact run h
   ·rw[if_neg (fun hw=>hne ((nj hd hs hv hg).1 hw))]
    exact⟨fun _ _=>trivial,skip h⟩
theorem cE {t:Nat}:∀{l:List Operand},.tmp t∈l->t∈jy l
 | x :: l, h => by
  rcases List.mem_cons.1 h with rfl|h
  ·simp[jy]
  ·have:=cE h
   cases x<;>simp[jy,this]
theorem cA {d:Option Nat} {l:List Nat} (h:gk d l=true):∀t,d=some t->t∉l:=fun t ht hm=>by
 subst ht;simp only[gk,Bool.not_eq_true',]at h;rw[(bW _ _).2 hm]at h;cases h
def ky (d:Option Nat) (s t:ASt):Prop:=s.slots.length=t.slots.length/\∀k,d≠some k->nth (.one .junk) s.slots k=nth (.one .junk) t.slots k
theorem gC (st:ASt) (d:Option Tmp) (v:AV) (k:Nat) (h:d≠some k):nth (.one .junk) (st.put d v).slots k=nth (.one .junk) st.slots k:=by
 cases d with
 | none=>rfl
 | some d =>
  have:d≠k:=fun e=>h (by rw[e])
  simp only[ASt.put,ah,aS,List.getElem?_set,this,if_false]
theorem Ft {d:Option Nat} {s t:ASt} (h:ky d s t) {x:Operand} (hx:∀k,x=.tmp k->d≠some k):s.ev x=t.ev x:=by
 cases x with
 | tmp k=>exact h.2 k (hx k rfl)
 | const v=>cases v<;>rfl
 | _=>rfl
theorem fV {d:Option Nat} {s t:ASt} (h:ky d s t) {l:List Operand} (hx:gk d (jy l)=true):l.map s.ev=l.map t.ev:=by
 apply List.map_congr_left;intro x hxl;refine Ft h (fun k hk e=>?_);subst hk;exact cA hx k e (cE hxl)
theorem kE {d:Option Nat} {s t:ASt} {ops:List Oper} {o:Oper} (h:ky d s t) (hx:gk d (o5 ops o)=true):bd ops o s=bd ops o t:=by
 unfold bd;cases hg:o.guard with
 | none=>rfl
 | some q =>
  obtain⟨j,want⟩:=q;simp only[];cases hd:(ops[j]?).bind (·.dst)with
  | none=>rfl
  | some g =>
   have:nth (.one .junk) s.slots g=nth (.one .junk) t.slots g:=h.2 g (fun e=>cA hx g e (by simp[o5,hg,hd]));simp only[this]
theorem qA (n:Nat):∀(a b:List Nat),bT n (a++b)=(bT n a||bT n b)
 | [],b=>rfl
 | x::a,b=>by
  simp only[List.cons_append,bT];cases x.beq n<;>simp[qA n a b]
theorem aJ {d:Option Nat} {a b:List Nat} (h:gk d (a++b)=true):gk d a=true/\gk d b=true:=by
 cases d with
 | none=>exact⟨rfl,rfl⟩
 | some d =>
  simp only[gk,qA,Bool.not_or,Gk]at h;exact h
theorem dk {b:BC} {v:AV} {d:Option Tmp} (ha:(Eff.new b v).app st d=some st'):∃d',d=some d'/\st.look (st.nid d)=none/\st.nid d<st.boxes.length/\st'=(st.ac (st.nid d) (some b)).put d v:=by
 cases d with
 | none=>simp[Eff.app]at ha
 | some d =>
  simp only[Eff.app]at ha;split at ha
  ·rename_i s1 hs1
   obtain⟨h1,h2,rfl⟩:=bi hs1;simp only[Gj]at ha;exact⟨d,rfl,h1,h2,ha.symm⟩
  ·cases ha
theorem mo {b:BC} {v:AV} {d:Tmp} (h1:st.look (st.nid (some d))=none) (h2:st.nid (some d)<st.boxes.length):(Eff.new b v).app st (some d)=some ((st.ac (st.nid (some d)) (some b)).put (some d) v):=by
 have h2':(st.nid (some d)).blt st.boxes.length=true:=by simpa using h2
 simp only[Eff.app,ASt.bv,h1,h2',cond_true]
theorem iE {e:Eff} {d:Option Nat} (hp:e.plain=true) (ha:e.app st d=some st'):ky d st' st/\st'.boxes.length=st.boxes.length/\st'.out=st.out:=by
 cases e with
 | val v =>
  simp only[Eff.app,Gj]at ha;subst ha;refine⟨⟨?_,fun k hk=>gC st d v k hk⟩,by rw[cg],by rw[nA]⟩;cases d<;>simp[ASt.put,ah]
 | new b v =>
  obtain⟨dd,rfl,hl,hlt,rfl⟩:=dk ha;refine⟨⟨?_,fun k hk=>?_⟩,by rw[cg];simp[ASt.ac,ah],by rw[nA];rfl⟩
  ·simp[ASt.put,ASt.ac,ah]
  ·rw[gC _ _ _ _ hk];rfl
 | upd i b v =>
  simp only[Eff.app,Gj]at ha;subst ha;refine⟨⟨?_,fun k hk=>?_⟩,by rw[cg];simp[ASt.ac,ah],by rw[nA];rfl⟩
  ·cases d<;>simp[ASt.put,ASt.ac,ah]
  ·rw[gC _ _ _ _ hk];rfl
 | _=>simp[Eff.plain]at hp
inductive Move (c:Cls) (st:ASt):Eff->Prop
 | val (v:AV) (h:c=.N\/c=.R\/c=.B\/c=.P):Move c st (.val v)
 | new (b:BC) (v:AV) (h:c=.A\/c=.B\/c=.P):Move c st (.new b v)
 | upd (i:Nat) (b:BC) (v:AV) (h:c=.W) (hl:(st.look i).isSome=true):Move c st (.upd i b v)
theorem Move.nf {c:Cls} {e:Eff} (h:Move c st e):Move c st e.nfE:=by
 cases h with
 | val v h=>exact .val _ h
 | new b v h=>exact .new _ _ h
 | upd i b v h hl=>exact .upd _ _ _ h hl
theorem wz {op:Op} {ban:List Nat} {vs:List AV} {e:Eff} (hx:(aq op).isX=false) (hp:e.plain=true) (hh:(opL E id (banned ban st.look) op vs).hits C e):Move (aq op) st e:=by
 cases hc:aq op with
 | N=>obtain⟨v,rfl⟩:=(A2 hc vs).hits hh;exact .val v (.inl rfl)
 | R=>obtain⟨v,rfl⟩:=(DC hc vs).hits hh;exact .val v (.inr (.inl rfl))
 | A=>obtain⟨b,row,rfl⟩:=(cls_A hc vs).hits hh;exact .new b row (.inl rfl)
 | B =>
  rcases(cls_B hc vs).hits hh hp with⟨v,rfl⟩|⟨b,v,rfl⟩
  ·exact .val v (.inr (.inr (.inl rfl)))
  ·exact .new b v (.inr (.inl rfl))
 | P =>
  rcases(cls_P hc vs).hits hh hp with⟨v,rfl⟩|⟨b,v,rfl⟩
  ·exact .val v (.inr (.inr (.inr rfl)))
  ·exact .new b v (.inr (.inr rfl))
 | W =>
  obtain⟨i,b,v,rfl,hl⟩:=(Ev hc vs).hits hh hp;obtain⟨c,hc'⟩:=Option.isSome_iff_exists.1 hl;exact .upd i b v rfl (by rw[pP ban st i c hc'];rfl)
 | X=>simp[hc,Cls.isX]at hx
theorem BO {a b:Nat} (h:a≠b):unlike (some a) (some b)=true:=by
 simp only[unlike,Bool.not_eq_true'];cases hb:a.beq b with
 | false=>rfl
 | true=>exact absurd ((aC _ _).1 hb) h
theorem qP {a b:Option Nat} (h:unlike a b=true):unlike b a=true:=by
 cases a with
 | none=>cases b<;>rfl
 | some p =>
  cases b with
  | none=>rfl
  | some q=>exact BO (fun e=>by subst e;simp[unlike]at h)
theorem fH (st:ASt) {d d':Option Nat} (h:unlike d d'=true) (u v:AV):(st.put d u).put d' v=(st.put d' v).put d u:=by
 cases d with
 | none=>rfl
 | some d =>
  cases d' with
  | none=>rfl
  | some d' =>
   have hne:d≠d':=fun e=>by subst e;simp[unlike]at h
   simp only[ASt.put,ah];rw[List.set_comm _ _ hne]
theorem gY (st:ASt) {i j:Nat} (h:i≠j) (b c:Option BC):(st.ac i b).ac j c=(st.ac j c).ac i b:=by
 simp only[ASt.ac,ah];rw[List.set_comm _ _ h]
theorem a8 (st:ASt) (i:Nat) (b:Option BC) (d:Option Nat) (v:AV):(st.put d v).ac i b=(st.ac i b).put d v:=by cases d<;>rfl
theorem bh (st:ASt) (d d':Option Tmp) (v:AV):(st.put d v).nid d'=st.nid d':=by cases d'<;>simp[ASt.nid,nA]
theorem bp (st:ASt) (i:Nat) (b:Option BC) (d':Option Tmp):(st.ac i b).nid d'=st.nid d':=by cases d'<;>rfl
theorem nid_ne {d d':Nat} (h:d≠d'):st.nid (some d)≠st.nid (some d'):=by simp only[ASt.nid];omega
theorem lX {e:Eff} {d:Option Nat} {c:Cls} (hm:Move c st e) (ha:e.app st d=some s1) :
  (∀j,(∃v,e=.val v)->s1.look j=st.look j)/\(∀j b row,e=.new b row->s1.look j=if st.nid d=j then some b else st.look j)/\(∀j i b v,e=.upd i b v->s1.look j=if i=j then some b else st.look j):=by
 refine⟨fun j ⟨v,hv⟩=>?_,fun j b row hb=>?_,fun j i b v hu=>?_⟩
 ·subst hv
  simp only[Eff.app,Gj]at ha;subst ha;rw[cq]
 ·subst hb
  obtain⟨dd,rfl,hl,hlt,rfl⟩:=dk ha;rw[cq,ag];by_cases h:st.nid (some dd)=j
  ·subst h;simp[hlt]
  ·simp[h]
 ·subst hu
  simp only[Eff.app,Gj]at ha;subst ha;rw[cq,ag];cases hm with
  | upd _ _ _ _ hl =>
   obtain⟨c,hc⟩:=Option.isSome_iff_exists.1 hl;by_cases h:i=j
   ·subst h;simp[fQ hc]
   ·simp[h]
theorem nP {ban:List Nat} {s t:ASt} (h:∀j,j∉ban->s.look j=t.look j):banned ban s.look=banned ban t.look:=by
 funext j;unfold banned;cases hm:bT j ban with
 | true=>rfl
 | false=>simp only[cond_false];exact h j (fun e=>by rw[(bW _ _).2 e]at hm;cases hm)
theorem Dr {cx cy:Cls} {dx dy:Option Nat} {ex ey:Eff} (hu:unlike dx dy=true) (mx:Move cx st ex) (my:Move cy s1 ey) (hx:ex.app st dx=some s1) (hy:ey.app s1 dy=some s2)
  (hb:∀i b v,ey=.upd i b v->(∃b row,ex=.new b row)->st.nid dx≠i) (hw:∀i b v i' b' v',ex=.upd i b v->ey=.upd i' b' v'->i≠i'):∃s1',ey.app st dy=some s1'/\ex.app s1' dx=some s2:=by
 cases mx with
 | val u hc =>
  simp only[Eff.app,Gj]at hx;subst hx;cases my with
  | val v hc' =>
   simp only[Eff.app,Gj]at hy;subst hy;exact⟨_,rfl,by simp only[Eff.app];rw[fH st hu]⟩
  | new b v hc' =>
   obtain⟨d,rfl,hl,hlt,rfl⟩:=dk hy;rw[cq,bh]at hl;rw[cg,bh]at hlt;refine⟨_,mo hl hlt,?_⟩;simp only[Eff.app,Gj];rw[a8,fH _ hu,bh]
  | upd i b v hc' hl =>
   simp only[Eff.app,Gj]at hy;subst hy;refine⟨_,rfl,?_⟩;simp only[Eff.app,Gj];rw[a8,fH _ hu]
 | new b u hc =>
  obtain⟨d,rfl,hl,hlt,rfl⟩:=dk hx;have hlk:∀j,((st.ac (st.nid (some d)) (some b)).put (some d) u).look j=if st.nid (some d)=j then some b else st.look j:=fun j=>by
   rw[cq,ag];by_cases h:st.nid (some d)=j
   ·rw[if_pos ⟨h,hlt⟩,if_pos h]
   ·rw[if_neg (fun h'=>h h'.1),if_neg h]
  cases my with
  | val v hc' =>
   simp only[Eff.app,Gj]at hy;subst hy;refine⟨_,rfl,?_⟩;rw[mo (by rw[cq,bh];exact hl) (by rw[cg,bh];exact hlt),bh,a8,fH _ hu]
  | new b' v hc' =>
   obtain⟨d',rfl,hl',hlt',rfl⟩:=dk hy;have hne:d≠d':=fun e=>by subst e;simp[unlike]at hu
   have hni:st.nid (some d)≠st.nid (some d'):=nid_ne hne;rw[bh,bp]at hl' hlt';rw[hlk,if_neg hni]at hl';have hlt2:st.nid (some d')<st.boxes.length:=by rw[cg]at hlt';simpa[ASt.ac,ah]using hlt'
   refine⟨_,mo hl' hlt2,?_⟩;rw[mo (by rw[cq,bh,bp,ag,if_neg (fun h=>hni h.1.symm)];exact hl) (by rw[cg,bh,bp];simpa[ASt.ac,ah]using hlt)];rw[bh,bp,bh,bp,a8,a8,gY _ hni,fH _ (d:=some d) (d':=some d') hu]
  | upd i b' v hc' hl' =>
   simp only[Eff.app,Gj]at hy;subst hy;have hid:=hb i b' v rfl ⟨b,u,rfl⟩;refine⟨_,rfl,?_⟩;rw[mo (by rw[cq,bh,bp,ag,if_neg (fun h=>hid h.1.symm)];exact hl) (by rw[cg,bh,bp];simpa[ASt.ac,ah]using hlt)];rw[bh,bp,a8,a8,gY _ hid,fH _ (d:=some d) (d':=dy) hu]
 | upd i b u hc hl =>
  simp only[Eff.app,Gj]at hx;subst hx;subst hc;cases my with
  | val v hc' =>
   simp only[Eff.app,Gj]at hy;subst hy;refine⟨_,rfl,?_⟩;simp only[Eff.app,Gj];rw[a8,fH _ hu]
  | new b' v hc' =>
   obtain⟨d',rfl,hl',hlt',rfl⟩:=dk hy;rw[bh,bp]at hl' hlt';rw[cq,ag]at hl';obtain⟨c,hc2⟩:=Option.isSome_iff_exists.1 hl;have hlt2:st.nid (some d')<st.boxes.length:=by rw[cg]at hlt';simpa[ASt.ac,ah]using hlt'
   have hne:i≠st.nid (some d'):=fun e=>by rw[if_pos ⟨e,fQ hc2⟩]at hl';cases hl'
   have hl3:st.look (st.nid (some d'))=none:=by
    rw[if_neg (fun h=>hne h.1)]at hl';exact hl'
   refine⟨_,mo hl3 hlt2,?_⟩;simp only[Eff.app,Gj];rw[bh,bp,a8,a8,gY _ hne,fH _ (d:=some d') (d':=dx) (qP hu)]
  | upd i' b' v hc' hl' =>
   have hne:=hw i b u i' b' v rfl rfl;simp only[Eff.app,Gj]at hy;subst hy;refine⟨_,rfl,?_⟩;simp only[Eff.app,Gj];rw[a8,a8,gY _ hne,fH _ hu]
theorem wt {p:Prop} [Decidable p] {c d:Cls} (h:(if p then c else .N)=d) (hd:d≠.N):c=d:=by
 by_cases hp:p
 ·rwa[if_pos hp]at h
 ·rw[if_neg hp]at h;exact absurd h.symm hd
theorem pr {p:Prop} [Decidable p] {c:Cls} (h:(if p then c else .N)=.A\/(if p then c else .N)=.B\/(if p then c else .N)=.P):c.makes=true:=by
 rcases h with h|h|h<;>rw[wt h (by simp)]<;>rfl
theorem t9 {ps:List Nat} {s t:ASt} {d:Option Nat} {e:Eff} (hb:s.base=t.base) (h:∀k,d=some k->nth (.one .junk) s.slots k=nth (.one .junk) t.slots k):cO ps s d e=cO ps t d e:=by
 unfold cO;congr 1;funext k;cases d with
 | none=>rw[hb]
 | some d=>simp only[hb,h d rfl]
theorem mF {i:Item} {s t:ASt} {e:Eff} (hb:s.base=t.base) (hd:∀k,i.o.dst=some k->nth (.one .junk) s.slots k=nth (.one .junk) t.slots k) (h:i.o.op.operands.toList.map s.ev=i.o.op.operands.toList.map t.ev):dD i s e=dD i t e:=by
 unfold dD;have:∀b,jc s i.o.dst b=jc t i.o.dst b:=fun b=>by
  cases hk:i.o.dst with
  | none=>rfl
  | some d=>simp only[jc,hd d hk]
 have hD:∀b,gT s i.o.dst b=gT t i.o.dst b:=fun b=>by
  cases hk:i.o.dst with
  | none=>rfl
  | some d=>simp only[gT,hd d hk]
 simp only[hb,h,this,hD]
theorem me {a b:Option Nat} (h:unlike a b=true):∀k,b=some k->a≠some k:=fun k hk e=>by subst hk;subst e;simp[unlike]at h
theorem DG {ops : List Oper} {x y : Item} (hap : cG ops x.o y.o = true) (hxd : x.dr = true) (hyd : y.dr = true) (hxx : (aq x.o.op).isX = false) (hyx : (aq y.o.op).isX = false)
  (hbx:(aq x.o.op).makes=true->∀d,x.o.dst=some d->d∈y.ban.1) (hby:(aq y.o.op).makes=true->∀d,y.o.dst=some d->d∈x.ban.1)
  (hox:(aq y.o.op).reads=true->y.ban∈x.own) (hoy:(aq x.o.op).reads=true->x.ban∈y.own) (h1:OpP E C ops x st s1) (h2:OpP E C ops y s1 s2) :
  ∃s1',OpP E C ops y st s1'/\OpP E C ops x s1' s2:=by
 simp only[cG,Gk]at hap;obtain⟨⟨⟨⟨hg,hfx⟩,hfy⟩,hu⟩,_⟩:=hap;obtain⟨hfx1,hfx2⟩:=aJ hfx;obtain⟨hfy1,hfy2⟩:=aJ hfy;have hu':unlike y.o.dst x.o.dst=true:=qP hu;have dec:∀{i:Item} {s s':ASt},i.dr=true->(aq i.o.op).isX=false->OpP E C ops i s s'->∃e,(bd ops i.o s=some (some true)->cO i.push s i.o.dst e=true/\dD i s e=true)/\Move (if bd ops i.o s=some (some true)then aq i.o.op else .N) s e/\e.nfE.app s i.o.dst=some s' /\
   ((bd ops i.o s=some (some true)/\(opL E (s.nid i.o.dst) (banned (bE i.ban s.base) s.look) i.o.op (i.o.op.operands.toList.map s.ev)).hits C e/\(e.plain=true/\e.qU s.base i.own=true))\/(∃b,bd ops i.o s=some b/\b≠some true/\e=.val (.one .undef))):=by
  intro i s s' hd hx h;rcases h with⟨hg,e,k1,k2,k3⟩|⟨b,hg,hb,h⟩
  ·refine⟨e,fun _=>(k2 hd).2,?_,k3,.inl ⟨hg,k1,(k2 hd).1⟩⟩
   rw[if_pos hg];exact wz hx (k2 hd).1.1 k1
  ·refine⟨.val (.one .undef),fun h=>absurd (Option.some.inj (hg.symm.trans h)) hb,?_,?_,.inr ⟨b,hg,hb,rfl⟩⟩
   ·rw[if_neg (by rw[hg];simpa using hb)]
    exact .val _ (.inl rfl)
   ·rw[h];rfl
 obtain⟨ex,cx,mx,ax,hx⟩:=dec hxd hxx h1;obtain⟨ey,cy,my,ay,hy⟩:=dec hyd hyx h2;have px:ex.nfE.plain=true:=by rw[nG];cases mx<;>rfl
 have py:ey.nfE.plain=true:=by rw[nG];cases my<;>rfl
 obtain⟨sb1,_,so1⟩:=iE px ax;have hb1:s1.base=st.base:=by simp[ASt.base,so1]
 have hn1:∀d,s1.nid d=st.nid d:=fun d=>by cases d<;>simp[ASt.nid,so1]
 have hgy:bd ops y.o s1=bd ops y.o st:=kE sb1 hfx1;have hvy:y.o.op.operands.toList.map s1.ev=y.o.op.operands.toList.map st.ev:=fV sb1 hfx2;have inO:∀{base:Nat} {own:List (List Nat × List Nat)} {ban:List Nat × List Nat} {i:Nat} {b:BC} {v:AV},Eff.qU base own (.upd i b v)=true->ban∈own->i∈bE ban base:=fun{base own ban i b v} h hm=>by
  simp only[Eff.qU,List.all_eq_true]at h;exact(bW _ _).1 (h ban hm)
 have inBan:∀{d:Nat} {ban:List Nat × List Nat} {s:ASt},d∈ban.1->s.nid (some d)∈bE ban s.base:=fun{d ban s} h=>List.mem_append_left _ (List.mem_map.2 ⟨d,h,rfl⟩)
 have hW:∀i b v i' b' v',ex=.upd i b v->ey=.upd i' b' v'->i≠i':=by
  rintro i b v i' b' v' rfl rfl rfl;rcases hx with⟨_,_,_,ho⟩|⟨_,_,_,he⟩
  ·rcases hy with⟨_,hh,_⟩|⟨_,_,_,he⟩
   ·have hWy:aq y.o.op=.W:=by
     cases my with
     | upd _ _ _ hc _=>exact wt hc (by simp)
    have hin:=inO ho (hox (by rw[hWy];rfl));obtain⟨i',b2,v2,he,hl⟩:=(Ev hWy _).hits hh rfl;cases he;unfold banned at hl;rw[hb1,(bW _ _).2 hin]at hl;simp at hl
   ·cases he
  ·cases he
 have hban:∀i b v,ey=.upd i b v->(∃b row,ex=.new b row)->st.nid x.o.dst≠i:=by
  rintro i b v rfl ⟨b',row,rfl⟩ hd;obtain⟨d,hdx,_⟩:=dk ax;rcases hy with⟨_,hh,_⟩|⟨_,_,_,he⟩
  ·have hmk:(aq x.o.op).makes=true:=by
    cases mx with
    | new _ _ hc=>exact pr hc
   have hin:=inBan (s:=st) (hbx hmk d hdx);have hW:aq y.o.op=.W:=by
    cases my with
    | upd _ _ _ hc _=>exact wt hc (by simp)
   obtain⟨i',b2,v2,he,hl⟩:=(Ev hW _).hits hh rfl;cases he;unfold banned at hl;rw[hdx]at hd;rw[hd]at hin;rw[hb1,(bW _ _).2 hin]at hl;simp at hl
  ·cases he
 have nfU:∀{e:Eff} {i b v},e.nfE=.upd i b v->∃v',e=.upd i b v':=fun{e i b v} h=>by
  cases e<;>simp only[Eff.nfE,Eff.upd.injEq,reduceCtorEq]at h;obtain⟨rfl,rfl,_⟩:=h;exact⟨_,rfl⟩
 have nfN:∀{e:Eff},(∃b v,e.nfE=.new b v)->∃b v,e=.new b v:=fun{e} ⟨b,v,h⟩=>by
  cases e<;>simp only[Eff.nfE,Eff.new.injEq,reduceCtorEq]at h;exact⟨_,_,rfl⟩
 obtain⟨s1',ay',ax'⟩:=Dr hu mx.nf my.nf ax ay (fun i b v hy hx=>by obtain⟨v',h⟩:=nfU hy;exact hban i b v' h (nfN hx))
  (fun i b v i' b' v' hx hy=>by obtain⟨u,h⟩:=nfU hx;obtain⟨u',h'⟩:=nfU hy;exact hW i b u i' b' u' h h')
 obtain⟨sb2,_,so2⟩:=iE py ay';have hb2:s1'.base=st.base:=by simp[ASt.base,so2]
 have hn2:∀d,s1'.nid d=st.nid d:=fun d=>by cases d<;>simp[ASt.nid,so2]
 have hgx:bd ops x.o s1'=bd ops x.o st:=kE sb2 hfy1;have hvx:x.o.op.operands.toList.map s1'.ev=x.o.op.operands.toList.map st.ev:=fV sb2 hfy2;have readsOf:∀{o:Op},(aq o).isX=false->¬(aq o=.N\/aq o=.A)->(aq o).reads=true:=fun{o} hx hf=>by
  cases hc:aq o with
  | N=>exact absurd (.inl hc) hf
  | A=>exact absurd (.inr hc) hf
  | X=>rw[hc]at hx;cases hx
  | _=>rfl
 refine⟨s1',?_,?_⟩
 ·rcases hy with⟨hgv,hh,hp⟩|⟨b,hgv,hb,rfl⟩
  ·rw [hgy] at hgv
   have hcl:cO y.push st y.o.dst ey=true/\dD y st ey=true:=by
    rw[<-t9 hb1 (fun k hk=>sb1.2 k (me hu k hk)),<-mF (s:=s1) hb1 (fun k hk=>sb1.2 k (me hu k hk)) hvy];exact cy (by rw[hgy];exact hgv)
   refine .inl ⟨hgv,ey,?_,fun _=>⟨by rw[<-hb1];exact hp,hcl⟩,ay'⟩;rw[hvy,hn1,hb1]at hh;by_cases hfree:aq y.o.op=.N\/aq y.o.op=.A
   ·rw[vQ hfree];exact hh
   ·have:banned (bE y.ban st.base) st.look=banned (bE y.ban st.base) s1.look:=by
     refine nP (fun j hj=>?_);obtain⟨l1,l2,l3⟩:=lX mx.nf ax;cases mx with
     | val u hc=>exact(l1 j ⟨_,rfl⟩).symm
     | new b row hc =>
      have hmk:(aq x.o.op).makes=true:=pr hc;rw[l2 j b _ rfl];obtain⟨d,hdx,_⟩:=dk ax;split
      ·rename_i hd
       rw[hdx]at hd;exact absurd (hd▸inBan (s:=st) (hbx hmk d hdx)) hj
      ·rfl
     | upd i b v hc hl =>
      rw[l3 j i b _ rfl];split
      ·rename_i hij
       subst hij;rcases hx with⟨_,_,_,ho⟩|⟨_,_,_,he⟩
       ·exact absurd (inO ho (hox (readsOf hyx hfree))) hj
       ·cases he
      ·rfl
    rw[this];exact hh
  ·rw[hgy]at hgv
   refine .inr ⟨b,hgv,hb,?_⟩;simp only[Eff.nfE,Eff.app,Gj]at ay';exact ay'.symm
 ·rcases hx with⟨hgv,hh,hp⟩|⟨b,hgv,hb,rfl⟩
  ·have hcl : cO x.push s1' x.o.dst ex = true ∧ dD x s1' ex = true := by
    rw[t9 hb2 (fun k hk=>sb2.2 k (me hu' k hk)),mF (s:=s1') hb2 (fun k hk=>sb2.2 k (me hu' k hk)) hvx];exact cx hgv
   refine .inl ⟨by rw[hgx,hgv],ex,?_,fun _=>⟨by rw[hb2];exact hp,hcl⟩,ax'⟩;rw[hvx,hn2,hb2];by_cases hfree:aq x.o.op=.N\/aq x.o.op=.A
   ·rw[vQ hfree];exact hh
   ·have:banned (bE x.ban st.base) s1'.look=banned (bE x.ban st.base) st.look:=by
     refine nP (fun j hj=>?_);have my':Move (if bd ops y.o s1=some (some true)then aq y.o.op else .N) st ey:=by
      cases my with
      | val v hc=>exact .val v hc
      | new b row hc=>exact .new b row hc
      | upd i b v hc hl =>
       refine .upd i b v hc ?_;obtain⟨l1,l2,l3⟩:=lX mx.nf ax;cases mx with
       | val u hc=>rw[l1 i ⟨_,rfl⟩]at hl;exact hl
       | new b' row hc =>
        rw[l2 i b' _ rfl]at hl;rw[if_neg (hban i b v rfl ⟨b',row,rfl⟩)]at hl;exact hl
       | upd i' b' v' hc' hl' =>
        rw[l3 i i' b' _ rfl]at hl;by_cases he:i'=i
        ·subst he;exact hl'
        ·rw[if_neg he]at hl;exact hl
     obtain⟨l1,l2,l3⟩:=lX my'.nf ay';cases my' with
     | val u hc=>exact l1 j ⟨_,rfl⟩
     | new b row hc =>
      have hmk:(aq y.o.op).makes=true:=pr hc;rw[l2 j b _ rfl];obtain⟨d,hdy,_⟩:=dk ay';split
      ·rename_i hd
       rw[hdy]at hd;exact absurd (hd▸inBan (s:=st) (hby hmk d hdy)) hj
      ·rfl
     | upd i b v hc hl =>
      rw[l3 j i b _ rfl];split
      ·rename_i hij
       subst hij;rcases hy with⟨_,_,_,ho⟩|⟨_,_,_,he⟩
       ·rw[hb1]at ho
        exact absurd (inO ho (hoy (readsOf hxx hfree))) hj
       ·cases he
      ·rfl
    rw[this];exact hh
  ·refine .inr ⟨b,by rw[hgx,hgv],hb,?_⟩
   simp only[Eff.nfE,Eff.app,Gj]at ax';exact ax'.symm
end
end Go.Ab
end
section
namespace Go.Ab
open Go.RowKit
theorem ri {k:Nat} {l:List Nat}:(!bT k l)=true ↔ k∉l:=by
 rw[Bool.not_eq_true'];constructor
 ·intro h hm
  rw[(bW _ _).2 hm]at h;cases h
 ·intro h
  cases hb:bT k l with
  | false=>rfl
  | true=>exact absurd ((bW _ _).1 hb) h
theorem gE {k:Nat}:∀{l:List (Option BC)},fu k l=true ↔ ∀i b,nth none l i=some b->k∉b.ny
 | []=>by simp[fu,nth]
 | some c :: l => by
  simp only[fu,Gk,gE (l:=l),ri];constructor
  ·rintro⟨h1,h2⟩ i b hb
   cases i with
   | zero=>simp only[nth,Gj]at hb;subst hb;exact h1
   | succ i=>exact h2 i b hb
  ·intro h
   exact⟨h 0 c rfl,fun i b hb=>h (i+1) b hb⟩
 | none :: l => by
  simp only[fu,gE (l:=l)];constructor
  ·intro h2 i b hb
   cases i with
   | zero=>simp only[nth,reduceCtorEq]at hb
   | succ i=>exact h2 i b hb
  ·intro h i b hb
   exact h (i+1) b hb
section
variable {E:Env} {C:Cal} {st s1 s2:ASt} {d:Option Tmp} {e:Eff} {s m k:Nat} {y:TV}
theorem Cl {ps:List Nat} (h:cO ps st d e=true) (hs:s∈ps):st.base+s∉eY e/\∀t,d=some t->st.base+s∉(nth (.one .junk) st.slots t).iq:=by
 unfold cO at h;rw[List.all_eq_true]at h;have:=h s hs;rw[Gk]at this;refine⟨ri.1 this.1,fun t ht=>?_⟩;subst ht;exact ri.1 this.2
end
section
variable {E:Env} {C:Cal} {st s1 s2:ASt} {x y:Item} {s:Nat}
theorem ol {o:Op} (h:aE o=some s):aq o=.P/\s∈jy o.operands.toList:=by
 unfold aE at h;split at h
 ·rename_i l h1 h2
  simp only[Gj]at h;subst h;rw[h2];exact⟨h1,Gp⟩
 ·cases h
theorem bk {ops:List Oper} {o:Oper} (h:o.guard.isNone=true) (t:ASt):bd ops o t=some (some true):=by
 unfold bd;rw[Option.isNone_iff_eq_none.1 h]
theorem OpP.step {ops:List Oper} (h:x.o.guard.isNone=true):OpP E C ops x st s1->AU E C x st s1
 | .inl ⟨_,h'⟩=>h'
 | .inr ⟨b,hb,hne,_⟩=>by rw[bk h]at hb;exact absurd (Option.some.inj hb).symm hne
theorem C6 {ops:List Oper} (hap:cG ops x.o y.o=true) (hxs:x.shut=false) (hys:y.shut=false) (hxl:x.loose=false) (hyl:y.loose=false) (hxd:x.dr=true) (hyd:y.dr=true) (hxx:(aq x.o.op).isX=false) (hyx:(aq y.o.op).isX=false)
  (hbx:(aq x.o.op).makes=true->∀d,x.o.dst=some d->d∈y.ban.1) (hby:(aq y.o.op).makes=true->∀d,y.o.dst=some d->d∈x.ban.1)
  (hox:(aq y.o.op).reads=true->y.ban∈x.own) (hoy:(aq x.o.op).reads=true->x.ban∈y.own)
  (hpx:∀s,aE y.o.op=some s->y.root=kL ops 20 s/\y.root∈x.ban.1/\y.root∈x.push) (hpy:∀s,aE x.o.op=some s->x.root=kL ops 20 s/\x.root∈y.ban.1/\x.root∈y.push) (h1:OpN E C ops x st s1) (h2:OpN E C ops y s1 s2) :
  ∃s1',OpN E C ops y st s1'/\OpN E C ops x s1' s2:=by
 have hap':=hap;simp only[cG,Gk]at hap';obtain⟨⟨⟨⟨hg,hfx⟩,hfy⟩,hu⟩,ha1,ha2⟩:=hap';rcases h1.parts hxd hxs hxl with p1|⟨g1,p1⟩
 ·rcases h2.parts hyd hys hyl with p2|⟨g2,p2⟩
  ·obtain⟨s1',q1,q2⟩:=DG hap hxd hyd hxx hyx hbx hby hox hoy p1 p2
   exact⟨s1',q1.toN hys,q2.toN hxs⟩
  ·exact absurd p2.choose_spec.2.1 Bool.false_ne_true
 ·exact absurd p1.choose_spec.2.1 Bool.false_ne_true
end
end Go.Ab
end

import Derived.Test.YtpkpckdealhkhaaAM5b
import Derived.Lib.AppendStr
import Derived.Laws.BytesString
set_option linter.all false
namespace Go.Ab
open Go.RowKit
def o5:TypeDesc->Kd
 | .bool=>.bool
 | .int k=>.int k
 | .string=>.str
 | .slice e=>.slice e
 | .struct _=>.struct
 | .array n e=>.arr n e
 | .pointer _=>.ptr
 | _=>.other
def nI:TypeDesc->List (Nat × TypeId)
 | .struct fs=>fs.toList.map fun f=>(f.offset,f.type)
 | _=>[]
def tyOf (P : Program) (t : TypeId) : Option TyD :=
 match P.info? t,P.underlying t with
 | some i,some desc=>match i.zero with
  | some z => bif z.cells.size.beq i.size && z.cells.all Value.oneCell' && ((o5 desc).isAgg || i.size.beq 1) && (nI desc).all (fun f => (P.info? f.2).isSome)
    then some ⟨i.size,i.bytes,o5 desc,z.cells.toList,nI desc⟩else none
  | none=>none
 | _,_=>none
structure ba (P:Program) (t:TypeId) (d:TyD):Prop where
 info:∃i z,P.info? t=some i/\i.size=d.size/\i.bytes=d.bytes/\i.zero=some z/\z.cells.toList=d.zero
 und:∃desc,P.underlying t=some desc/\o5 desc=d.kd/\nI desc=d.fields
 zlen:d.zero.length=d.size
 zone:∀v∈d.zero,v.oneCell'=true
 one:d.kd.isAgg=false->d.size=1
 flds:∀f∈d.fields,(P.info? f.2).isSome=true
theorem ba.of {P:Program} {t:TypeId} {d:TyD} (h:tyOf P t=some d):ba P t d:=by
 unfold tyOf at h
 cases hi:P.info? t with
 | none=>simp[hi]at h
 | some i =>
  cases hu:P.underlying t with
  | none=>simp[hi,hu]at h
  | some desc =>
   cases hz:i.zero with
   | none=>simp[hi,hu,hz]at h
   | some z =>
    simp only[hi,hu,hz]at h
    cases hc:(z.cells.size.beq i.size&&z.cells.all Value.oneCell'&&((o5 desc).isAgg||i.size.beq 1)&&(nI desc).all (fun f=>(P.info? f.2).isSome))with
    | false=>simp[hc]at h
    | true =>
     simp only[hc,cond_true,FR]at h
     simp only[FS,az,Bool.or_eq_true]at hc
     obtain⟨⟨⟨h1,h2⟩,h3⟩,h4⟩:=hc
     subst h
     refine⟨⟨i,z,hi,rfl,rfl,hz,rfl⟩,⟨desc,hu,rfl,rfl⟩,by simpa using h1,fun v hv=>?_,fun hk=>?_,fun f hf=>?_⟩
     ·rw[Array.all_eq_true_iff_forall_mem]at h2
      exact h2 v (by simpa using hv)
     ·rcases h3 with h3|h3
      ·simp[hk]at h3
      ·exact h3
     ·rw[List.all_eq_true]at h4
      exact h4 f hf
abbrev Cal:=FuncId->List TV->TV->Prop
def Prg.hits {R:Type} (C:Cal):Prg R->R->Prop
 | .fail,_=>False
 | .ret e',e=>e'=e
 | .tv p k,e=>∃v,p=some v/\(k v).hits C e
 | .tvs p k,e=>∃v,p=some v/\(k v).hits C e
 | .rws p k,e=>∃v,p=some v/\(k v).hits C e
 | .nat p k,e=>∃v,p=some v/\(k v).hits C e
 | .chk b k,e=>b=true/\k.hits C e
 | .ite b t f,e=>∃v,b=some v/\((v=true/\t.hits C e)\/(v=false/\f.hits C e))
 | .call f xs k,e=>∃v,C f xs v/\(k v).hits C e
 | .jmp _ _,_=>False
section
variable {P:Program} {w:World}
theorem aT {t:TypeId} {d:TypeDesc} (h:P.underlying t=some d):(underlying t).run P w=.ok d w:=by simp[underlying,h]
theorem cB {t:TypeId} {d:TyD} (h:ba P t d):(sizeOf t).run P w=.ok d.size w:=by
 obtain⟨i,z,hi,hs,_⟩:=h.info
 simp[sizeOf,typeInfo,hi,hs]
theorem rz {t:TypeId} {d:TyD} (h:ba P t d):∃z,(zeroValue t).run P w=.ok z w/\z.cells.toList=d.zero:=by
 obtain⟨i,z,hi,_,_,hz,hc⟩:=h.info
 exact⟨z,by simp[zeroValue,typeInfo,hi,hz],hc⟩
theorem iI {t:TypeId} {d:TyD} (h:ba P t d):(isAgg t).run P w=.ok d.kd.isAgg w:=by
 obtain⟨desc,hu,hk,_⟩:=h.und
 rw[<-hk]
 cases desc<;>simp[isAgg,underlying,hu,o5,Kd.isAgg]
end
section
variable {P:Program} {E:Env} {C:Cal} {w0:Bs} {w w':World} {I0 I R:Nat->Prop} {g g':Gh} {st st':ASt} {a:Act} {ov:List Value} {look:Look} {o:Oper} {Q:Exit->Act->World->Prop} {id:Nat}
theorem gI {next:Act->World->Prop} {v:Value} (h:(execOp a.eval o).run P w=.ok (.value v) w') (hn:next (a.put o.dst v) w'):o.wp P a w next Q:=by
 unfold Oper.wp;rw[h];exact hn
theorem oL {next:Act->World->Prop} (h:(execOp a.eval o).run P w=.ok .skip w') (hn:next (a.put o.dst undef) w'):o.wp P a w next Q:=by
 unfold Oper.wp;rw[h];exact hn
abbrev NoR:Nat->Prop:=fun _=>False
abbrev Good (P:Program) (w0:Bs) (I0:Nat->Prop) (ov:List Value) (o:Oper) (st':ASt) (a:Act) (w:World) (Q:Exit->Act->World->Prop):Prop:=o.wp P a w (fun a' w'=>Sim w0 I0 st' a' ov w') Q
abbrev qy (P:Program) (w0:Bs) (I0:Nat->Prop) (ov:List Value) (o:Oper) (st':ASt) (a:Act) (w:World):Prop:=∃u,(execOp a.eval o).run P w=.ok (.value u) w/\Sim w0 I0 st' (a.put o.dst u) ov w
theorem lm (hs:al w0 I0 NoR g st a ov w) {v:AV} {u:Value} (hrun:(execOp a.eval o).run P w=.ok (.value u) w) (hv:bX w g st.look v u)
  (ha:(Eff.val v).app st o.dst=some st'):qy P w0 I0 ov o st' a w:=by
 simp only[Eff.app,FR]at ha
 subst ha
 exact⟨u,hrun,⟨g,hs.put o.dst hv⟩⟩
theorem zZ (hs:al w0 I0 NoR g st a ov w) {x:TV} {u:Value} {e:Eff} (hrun:(execOp a.eval o).run P w=.ok (.value u) w) (hx:Rep w g.I x u) (h1:u.oneCell'=true)
  (hh:(vt x).hits C e) (ha:e.app st o.dst=some st'):qy P w0 I0 ov o st' a w:=by
 have he:e=.val (.one (.t x)):=hh.symm
 rw[he]at ha
 exact lm hs hrun (v:=.one (.t x)) ⟨hx,h1⟩ ha
theorem aR (hs:al w0 I0 NoR g st a ov w) {v:AV} {u:Value} (hrun:(execOp a.eval o).run P w=.ok (.value u) w) (hv:bX w g st.look v u)
  (ha:(Eff.val v).app st o.dst=some st'):Good P w0 I0 ov o st' a w Q:=by
 simp only[Eff.app,FR]at ha
 subst ha
 exact gI hrun ⟨g,hs.put o.dst hv⟩
theorem zV {x:TV} {e:Eff} (h:(vt x).hits C e):e=.val (.one (.t x)):=h.symm
theorem cO (hs:al w0 I0 NoR g st a ov w) {x:TV} {u:Value} {e:Eff} (hrun:(execOp a.eval o).run P w=.ok (.value u) w) (hx:Rep w g.I x u) (h1:u.oneCell'=true)
  (hh:(vt x).hits C e) (ha:e.app st o.dst=some st'):Good P w0 I0 ov o st' a w Q:=by
 rw[zV hh]at ha
 exact aR hs hrun (v:=.one (.t x)) ⟨hx,h1⟩ ha
theorem cG {x:AV} {v:Value} {t:TV} (h:bX w g look x v) (ht:x.tv? = some t):Rep w g.I t v:=by
 cases x with
 | one c=>cases c<;>simp[AV.tv?]at ht;subst ht;exact h.1
 | agg cs=>simp[AV.tv?]at ht
 | tv x=>simp[AV.tv?]at ht;subst ht;exact h
 | bl b=>simp[AV.tv?]at ht;subst ht;have:v=.bool b:=h;subst this;exact .lit _
 | tups l=>simp[AV.tv?]at ht
 | clo _ l=>simp[AV.tv?]at ht
theorem aD {i r:Nat} {x:TV} (h:cj look i r=some x):∃xs,look i=some (.tree xs)/\xs[r]? = some x:=by
 unfold cj at h
 split at h
 ·rename_i xs hl
  cases hb:r.blt xs.length with
  | false=>simp[hb]at h
  | true =>
   simp only[hb,cond_true,FR]at h
   have hr:r<xs.length:=by simpa using hb
   refine⟨xs,hl,?_⟩
   rw[bi,FQ hr]at h
   rw[FQ hr,<-h]
   rfl
 ·cases h
theorem dP {S:Type} {p:Way} {x:TV} {k:TV->Prg S} {e:S} (h:(qJ p x k).hits C e):∃y,a8 p x=some y/\(k y).hits C e:=by
 unfold qJ at h
 split at h
 ·exact⟨x,rfl,h⟩
 ·exact h
theorem Cd {S:Type} {p:Way} {x y:TV} {k:TV->Prg S} {e:S} (h:(setO p x y k).hits C e):∃z,iA p x y=some z/\(k z).hits C e:=by
 unfold setO at h
 split at h
 ·exact⟨y,rfl,h⟩
 ·exact h
theorem al.at (hs:al w0 I0 R g st a ov w) {i r:Nat} {xs:List TV} {x y:TV} {p:Way} {v:Value} {nd:Option (Nat × Nat)} (hl:st.look i=some (.tree xs)) (hx:xs[r]? = some x)
  (hn:Node w p x (g.ρ i r) v nd) (hy:a8 p x=some y):nd=y.nd/\∃S',aq w g.I y v S'/\(∀b,S' b->g.φ i r b):=by
 obtain⟨v',S',n1,n2,n3,_⟩:=(hs.trees i xs hl r x hx).get hy
 obtain⟨h1,h2⟩:=Node.unique hn n1
 subst h1
 exact⟨h2,S',n2,n3⟩
theorem wC {x:TV} {s n:Nat} (h:x.nd=some (s,n)):∃o xs,x=.sl o s xs/\n=xs.length:=by
 cases x with
 | sl o s' xs=>simp only[TV.nd,FR,Prod.mk.injEq]at h;obtain⟨rfl,rfl⟩:=h;exact⟨o,xs,rfl,rfl⟩
 | _=>simp[TV.nd]at h
theorem dI {x y:TV} {lo len:Nat} {u v:Value} {S:Nat->Prop} {nd:Option (Nat × Nat)} (hr:aq w I x u S) (hnd:nd=x.nd) (hw:vr nd lo len u v) (hy:lh lo len x=some y):aq w I y v S:=by
 have:=hr.win hy
 subst hnd
 cases x with
 | sl o s xs =>
  simp only[TV.nd,vr]at hw
  rw[hw.2]
  exact this
 | lit z =>
  simp only[TV.nd,vr]at hw
  obtain⟨_,_,h1,h2⟩:=hw
  subst h1 h2
  exact this
 | _=>simp[lh]at hy
theorem uJ {S:Type} (hlk:∀i b,look i=some b->st.look i=some b) (hs:al w0 I0 R g st a ov w) {c:CA} {v:Value} {k:TV->Prg S} {e:S} (hc:bW w g st.look c v) (h:(iZ look c k).hits C e) :
  ∃x T,(k x).hits C e/\aq w g.I x v T:=by
 unfold iZ at h
 split at h
 ·exact⟨_,fun _=>False,h,.fr hc.1⟩
 ·split at h
  ·rename_i x hx
   obtain⟨xs,h1,h2⟩:=aD hx
   obtain⟨y,h3,h4⟩:=dP h
   obtain⟨xs',x',nd,g1,g2,g3,g4⟩:=hc
   rw[hlk _ _ h1]at g1
   cases g1
   rw[h2]at g2
   cases g2
   obtain⟨_,S',r1,_⟩:=hs.at (hlk _ _ h1) h2 g3 h3
   exact⟨y,S',h4,r1⟩
  ·exact h.elim
 ·split at h
  ·rename_i x hx
   obtain⟨xs,h1,h2⟩:=aD hx
   obtain⟨y,h3,z,h4,h5⟩:=dP h
   obtain⟨xs',x',u,nd,g1,g2,g3,g4,g5⟩:=hc
   rw[hlk _ _ h1]at g1
   cases g1
   rw[h2]at g2
   cases g2
   obtain⟨e1,S',r1,_⟩:=hs.at (hlk _ _ h1) h2 g3 h3
   exact⟨z,S',h5,dI r1 e1 g5 h4⟩
  ·exact h.elim
 ·exact h.elim
theorem pA {S:Type} (hlk:∀i b,look i=some b->st.look i=some b) (hs:al w0 I0 R g st a ov w) {x:AV} {v:Value} {k:TV->Prg S} {e:S} (hx:bX w g st.look x v) (h:(tC look x k).hits C e) :
  ∃y T,(k y).hits C e/\aq w g.I y v T:=by
 unfold tC at h
 split at h
 ·exact uJ hlk hs hx h
 ·exact⟨_,fun _=>False,h,.fr hx⟩
 ·have:v=.bool _:=hx
  subst this
  exact⟨_,fun _=>False,h,.fr (.lit _)⟩
 ·exact h.elim
theorem wx {op:BinOp} {k:IntKind} {x y:Int} {r:TV} (h:kM op k x y=some r) (t:TypeId) :
    ∃u,r=.lit u/\u.oneCell'=true/\(binOp op t (.int k x) (.int k y)).run P w=.ok u w:=by
  unfold kM at h
  cases op <;> simp only [FR, reduceCtorEq] at h <;>
    first
      | (subst h;exact⟨_,rfl,rfl,by simp[binOp,Op.intArith,Op.intCmp,Op.intBits]⟩)
      | (split at h
         · cases h
         · rename_i hb
           simp only[FR]at h
           subst h
           exact⟨_,rfl,rfl,by simp[binOp,Op.intDiv,hb]⟩)
theorem wB {op:BinOp} {x y:ByteArray} {r:TV} (h:yL op x y=some r) (t:TypeId) :
    ∃u,r=.lit u/\u.oneCell'=true/\(binOp op t (.string x) (.string y)).run P w=.ok u w:=by
  unfold yL at h
  cases op <;> simp only [FR, reduceCtorEq] at h <;>
    first
      | (subst h;exact⟨_,rfl,rfl,by simp[binOp,Op.stringOp]⟩)
      | (split at h
         · cases h
         · rename_i hb
           simp only[FR]at h
           subst h
           exact⟨_,rfl,rfl,by simp only[binOp,Op.stringOp];rw[if_neg hb];rfl⟩)
theorem ED {t:TypeId} {d:TyD} (h:ba P t d) (hk:d.kd=.bool):P.underlying t=some .bool:=by
 obtain⟨desc,hu,hd,_⟩:=h.und
 rw[hk]at hd
 cases desc<;>simp[o5]at hd
 exact hu
theorem dL {t e:TypeId} {d:TyD} (h:ba P t d) (hk:d.kd=.slice e):P.underlying t=some (.slice e):=by
 obtain⟨desc,hu,hd,_⟩:=h.und
 rw[hk]at hd
 cases desc<;>simp[o5]at hd
 subst hd
 exact hu
theorem rN {t:TypeId} {d:TyD} (h:ba P t d) (hk:d.kd=.str):P.underlying t=some .string:=by
 obtain⟨desc,hu,hd,_⟩:=h.und
 rw[hk]at hd
 cases desc<;>simp[o5]at hd
 exact hu
theorem yT {t:TypeId} {k:IntKind} {d:TyD} (h:ba P t d) (hk:d.kd=.int k):P.underlying t=some (.int k):=by
 obtain⟨desc,hu,hd,_⟩:=h.und
 rw[hk]at hd
 cases desc<;>simp[o5]at hd
 subst hd
 exact hu
theorem so {t e:TypeId} {n:Nat} {d:TyD} (h:ba P t d) (hk:d.kd=.arr n e):P.underlying t=some (.array n e):=by
 obtain⟨desc,hu,hd,_⟩:=h.und
 rw[hk]at hd
 cases desc<;>simp[o5]at hd
 obtain⟨rfl,rfl⟩:=hd
 exact hu
theorem vj {t:TypeId} {d:TyD} (h:ba P t d) (hk:d.kd=.struct):∃fs,P.underlying t=some (.struct fs)/\d.fields=fs.toList.map fun f=>(f.offset,f.type):=by
 obtain⟨desc,hu,hd,hf⟩:=h.und
 rw[hk]at hd
 cases desc<;>simp[o5]at hd
 exact⟨_,hu,hf.symm⟩
theorem BP {t:TypeId} (h:P.underlying t=some .bool) (n:Nat) (x y:Bool):(Op.equalIn (n+1) t (.bool x) (.bool y)).run P w=.ok (x==y) w:=by
 simp only[Op.equalIn];simp[aT h]
theorem C8 {t e:TypeId} (h:P.underlying t=some (.slice e)) (n:Nat) (l1 c1 l2 c2:Nat):(Op.equalIn (n+1) t (.slice none l1 c1) (.slice none l2 c2)).run P w=.ok true w:=by
 simp only[Op.equalIn];simp[aT h]
theorem Bz {t e:TypeId} (h:P.underlying t=some (.slice e)) (n:Nat) (ad:Addr) (l1 c1 l2 c2:Nat):(Op.equalIn (n+1) t (.slice (some ad) l1 c1) (.slice none l2 c2)).run P w=.ok false w:=by
 simp only[Op.equalIn];simp[aT h]
theorem mX {op:BinOp} {b:Bool} {r:TV} (h:yS op b=some r) {t:TypeId} {x y:Value} (hx:∀k n,x≠.int k n) (hf:∀k n,x≠.float k n) (hc:∀k m n,x≠.complex k m n) (hst:∀s,x≠.string s)
  (he:(Op.equal t x y).run P w=.ok b w):∃u,r=.lit u/\u.oneCell'=true/\(binOp op t x y).run P w=.ok u w:=by
 unfold yS at h
 cases op<;>simp only[FR,reduceCtorEq]at h<;>subst h<;>refine⟨_,rfl,rfl,?_⟩ <;>
  (cases x<;>first|exact absurd rfl (hx _ _)|exact absurd rfl (hf _ _)|exact absurd rfl (hc _ _ _)|exact absurd rfl (hst _)|(simp only[binOp];simp[he]))
theorem yP {op:BinOp} {x y r:TV} {u v:Value} {t:TypeId} {d:TyD} {S T:Nat->Prop} (ht:ba P t d) (h:pbin d.kd op x y=some r) (hx:aq w I x u S) (hy:aq w I y v T) (ox oy:Operand) :
  ∃z,r=.lit z/\z.oneCell'=true/\(eqGuard op t ox oy u v).run P w=.ok () w/\(binOp op t u v).run P w=.ok z w:=by
 unfold pbin at h
 split at h
 ·rename_i k0 k a k' b hk
  have:=bq hx;subst this
  have:=bq hy;subst this
  split at h
  ·rename_i hkk
   subst hkk
   obtain⟨z,rfl,h1,hr⟩:=wx (P:=P) (w:=w) h t
   exact⟨z,rfl,h1,by simp only[eqGuard];split<;>simp,hr⟩
  ·cases h
 ·rename_i a b hk
  have:=bq hx;subst this
  have:=bq hy;subst this
  obtain⟨z,rfl,h1,hr⟩:=mX (P:=P) (w:=w) (t:=t) (x:=.bool a) (y:=.bool b) h (by simp) (by simp) (by simp) (by simp) (BP (ED ht hk) 9999 a b)
  exact⟨z,rfl,h1,by simp only[eqGuard];split<;>simp,hr⟩
 ·rename_i a b hk
  have:=bq hx;subst this
  have:=bq hy;subst this
  obtain⟨z,rfl,h1,hr⟩:=wB (P:=P) (w:=w) h t
  exact⟨z,rfl,h1,by simp only[eqGuard];split<;>simp,hr⟩
 ·rename_i e l1 c1 l2 c2 hk
  have:=bq hx;subst this
  have:=bq hy;subst this
  obtain⟨z,rfl,h1,hr⟩:=mX (P:=P) (w:=w) (t:=t) (x:=.slice none l1 c1) (y:=.slice none l2 c2) h (by simp) (by simp) (by simp) (by simp) (C8 (dL ht hk) 9999 l1 c1 l2 c2)
  exact⟨z,rfl,h1,by simp only[eqGuard];split<;>simp,hr⟩
 ·rename_i e o s xs l2 c2 hk
  obtain⟨ad,cap,rfl⟩:=qX hx
  have:=bq hy;subst this
  obtain⟨z,rfl,h1,hr⟩:=mX (P:=P) (w:=w) (t:=t) (x:=.slice (some ad) xs.length cap) (y:=.slice none l2 c2) h (by simp) (by simp) (by simp) (by simp) (Bz (dL ht hk) 9999 ad xs.length cap l2 c2)
  exact⟨z,rfl,h1,by simp only[eqGuard];split<;>simp,hr⟩
 ·cases h
theorem Cv {y:TV} {v:Value} {S:Nat->Prop} (h:ra y=true) (hy:aq w I y v S):v=bc:=by
 unfold ra at h
 split at h
 ·exact bq hy
 ·cases h
variable {dst:Option Tmp} {type:TypeId} {pos:String} {after:Array Edge} {guard:Option (Nat × Bool)}
theorem EQ (hs:al w0 I0 NoR g st a ov w) {x:Operand} {e:Eff} (hh:(Prg.ret (Eff.val (st.ev x))).hits C e) (ha:e.app st dst=some st'):Good P w0 I0 ov ⟨dst,.move x,type,pos,after,guard⟩ st' a w Q:=by
 cases hh
 exact aR hs (u:=a.eval x) (by simp[execOp]) (hs.ev x) ha
theorem BB (hs:al w0 I0 NoR g st a ov w) {x:Operand} {e:Eff} (hh:(Prg.ret (Eff.val (st.ev x))).hits C e) (ha:e.app st dst=some st'):Good P w0 I0 ov ⟨dst,.assign x,type,pos,after,guard⟩ st' a w Q:=by
 cases hh
 exact aR hs (u:=a.eval x) (by simp[execOp]) (hs.ev x) ha
theorem xo (hs:al w0 I0 NoR g st a ov w) {c x y:Operand} {v:TV} {e:Eff} (hh:(Prg.ite (asBool v) (Prg.ret (Eff.val (st.ev x))) (Prg.ret (Eff.val (st.ev y)))).hits C e) (ha:e.app st dst=some st') (hc:Rep w g.I v (a.eval c)) :
  Good P w0 I0 ov ⟨dst,.pick c x y,type,pos,after,guard⟩ st' a w Q:=by
 obtain⟨b,hb,hh⟩:=hh
 have hv:v=.lit (.bool b):=by
  unfold asBool at hb
  split at hb
  ·cases hb;rfl
  ·cases hb
 subst hv
 have hcv:a.eval c=.bool b:=by
  generalize a.eval c=u at hc
  cases hc;rfl
 rcases hh with⟨rfl,hh⟩|⟨rfl,hh⟩
 ·have he:e=Eff.val (st.ev x):=by cases hh;rfl
  subst he
  exact aR hs (u:=a.eval x) (by simp[execOp,hcv,Go.asBool]) (hs.ev x) ha
 ·have he:e=Eff.val (st.ev y):=by cases hh;rfl
  subst he
  exact aR hs (u:=a.eval y) (by simp[execOp,hcv,Go.asBool]) (hs.ev y) ha
theorem EG (hs:al w0 I0 NoR g st a ov w) {c x y:Operand} {e:Eff} (hh:(opL E id look (.pick c x y) [st.ev c,st.ev x,st.ev y]).hits C e) (ha:e.app st dst=some st') :
  Good P w0 I0 ov ⟨dst,.pick c x y,type,pos,after,guard⟩ st' a w Q:=by
 simp only[opL]at hh
 have hc:=hs.ev c
 split at hh
 ·rename_i b hb
  rw[hb]at hc
  have hcv:a.eval c=.bool b:=hc
  cases hh
  cases b with
  | true=>exact aR hs (u:=a.eval x) (by simp[execOp,hcv,Go.asBool]) (by simpa using hs.ev x) ha
  | false=>exact aR hs (u:=a.eval y) (by simp[execOp,hcv,Go.asBool]) (by simpa using hs.ev y) ha
 ·rename_i v hb
  rw[hb]at hc
  exact xo hs hh ha hc
 ·rename_i v hb
  rw[hb]at hc
  exact xo hs hh ha hc.1
 ·exact hh.elim
theorem eN:∀{cs:List CA} {xs:List TV},fS cs=some xs->cs=xs.map CA.t
 | [],xs,h=>by simp only[fS,FR]at h;subst h;rfl
 | c :: cs, xs, h => by
  cases c<;>simp only[fS,reduceCtorEq]at h
  split at h
  ·rename_i r hr
   simp only[FR]at h
   subst h
   rw[eN hr]
   rfl
  ·cases h
theorem op_un (hs:al w0 I0 NoR g st a ov w) {op:UnOp} {xt:TypeId} {x:Operand} {e:Eff} (hh:(opL E id look (.unOp op xt x) [st.ev x]).hits C e) (ha:e.app st dst=some st') :
  Good P w0 I0 ov ⟨dst,.unOp op xt x,type,pos,after,guard⟩ st' a w Q:=by
 simp only[opL]at hh
 have hx:=hs.ev x
 split at hh
 ·rename_i b hb
  rw[hb]at hx
  have hv:a.eval x=.bool b:=hx
  cases hh
  exact aR hs (v:=.bl !b) (u:=.bool !b) (by simp[execOp,hv,Op.unary]) rfl ha
 ·split at hh
  ·rename_i t ht
   have hr:=cG hx ht
   obtain⟨v,hv,hh⟩:=hh
   unfold pun at hv
   split at hv<;>simp only[FR,reduceCtorEq]at hv
   ·subst hv
    have he:=bM hr
    exact cO hs (by simp[execOp,he,Op.unary]) (.lit _) rfl hh ha
   ·subst hv
    have he:=bM hr
    exact cO hs (by simp[execOp,he,Op.unary,Op.intArith]) (.lit _) rfl hh ha
  ·exact hh.elim
theorem zN (hE:∀t d,E.T t=some d->ba P t d) (hlk:∀i b,look i=some b->st.look i=some b) (hs:al w0 I0 NoR g st a ov w) {xt dt:TypeId} {x:Operand} {e:Eff}
  (hh:(opL E id look (.convert xt dt x) [st.ev x]).hits C e) (ha:e.app st dst=some st'):Good P w0 I0 ov ⟨dst,.convert xt dt x,type,pos,after,guard⟩ st' a w Q:=by
 simp only[opL]at hh
 have hx:=hs.ev x
 split at hh
 ·rename_i ds0 d hT0 hT
  obtain⟨ds,hds,_⟩:=(hE xt ds0 hT0).und
  have hty:=hE dt d hT
  unfold As at hh
  split at hh
  ·exact hh.elim
  ·split at hh
   ·rename_i t ht
    have hr:=cG hx ht
    obtain⟨v,hv,hh⟩:=hh
    unfold pconv at hv
    split at hv<;>simp only[FR,reduceCtorEq]at hv
    ·rename_i k k' n hk
     subst hv
     have he:=bM hr
     exact cO hs (by simp[execOp,he,convert,aT hds,aT (yT hty hk),Conv.intToInt]) (.lit _) rfl hh ha
    ·rename_i s hk
     subst hv
     have he:=bM hr
     exact cO hs (by simp[execOp,he,convert,aT hds,aT (rN hty hk)]) (.lit _) rfl hh ha
    ·rename_i k n hk
     subst hv
     have he:=bM hr
     exact cO hs (by simp[execOp,he,convert,aT hds,aT (rN hty hk),Conv.intToString]) (.lit _) rfl hh ha
   ·exact hh.elim
 ·exact hh.elim
theorem bV {agg:Bool} {cs:List CA} {v:AV} {u:Value} (h:dh agg cs=some v) (hc:lP w g look agg cs u):bX w g look v u:=by
 cases agg with
 | true =>
  have:v=.agg cs:=by cases cs<;>simp[dh]at h<;>exact h.symm
  subst this
  exact hc
 | false =>
  obtain⟨c,rfl,h2,h3⟩:=hc
  simp only[dh,cond_false,FR]at h
  subst h
  exact h2
theorem zv (hs:al w0 I0 NoR g st a ov w) {j:Nat} {x:Operand} {e:Eff} (hh:(opL E id look (.extract x j) [st.ev x]).hits C e) (ha:e.app st dst=some st') :
  Good P w0 I0 ov ⟨dst,.extract x j,type,pos,after,guard⟩ st' a w Q:=by
 simp only[opL]at hh
 have hx:=hs.ev x
 split at hh
 ·rename_i l ht
  rw[ht]at hx
  obtain⟨vs,hu,hl,hr⟩:=hx
  split at hh
  ·rename_i agg c hj
   split at hh
   ·rename_i v hv
    cases hh
    have hjl:j<vs.size:=by rw[hl];exact(FP.1 hj).1
    obtain⟨z,hg⟩:∃z,vs[j]? = some z:=⟨_,Array.getElem?_eq_getElem hjl⟩
    have hz:vs.getD j undef=z:=by rw[F8,hg];rfl
    refine aR hs (u:=z) (by simp[execOp,hu,Instr.extract,hg]) ?_ ha
    have:=bV hv (hr j agg c hj)
    rwa[hz]at this
   ·exact hh.elim
  ·exact hh.elim
 ·exact hh.elim
theorem jj {look:Look} {i off len:Nat} {cs:List CA} {xs:List TV} (h:vM look i off len=some (cs,xs)) :
  look i=some (.cells cs)/\xs.length=len/\(len=0\/off+len<=cs.length)/\∀(m:Nat) (x:TV),xs[m]? = some x->cs[off+m]? = some (.t x):=by
 unfold vM at h
 split at h
 ·rename_i cs0 hl
  split at h
  ·rename_i cs1 htk
   obtain⟨k1,k2,k3⟩:=fg _ _ _ _ htk
   split at h
   ·rename_i xs0 hp
    simp only[FR,Prod.mk.injEq]at h
    obtain⟨rfl,rfl⟩:=h
    have he:=eN hp
    have hlen:xs0.length=len:=by rw[<-k1,he,List.length_map]
    refine⟨hl,hlen,k2,fun m x hm=>?_⟩
    have hml:=(FP.1 hm).1
    rw[<-k3 m (by omega),he,FW,hm]
    rfl
   ·cases h
  ·cases h
 ·cases h
theorem sw (n:Nat) (y:TV):∀(xs:List TV) (j m:Nat),(ib n y j xs)[m]? = (xs[m]?).map fun x=>.t (dq n (j+m) y x)
 | [],j,m=>by simp[ib]
 | x::xs,j,0=>by simp[ib]
 | x::xs,j,m+1=>by
  simp only[ib,List.getElem?_cons_succ]
  rw[sw n y xs (j+1) m,show j+1+m=j+(m+1) by omega]
theorem zy (n:Nat) (y:TV) (xs:List TV) (j:Nat):(ib n y j xs).length=xs.length:=by
 induction xs generalizing j with
 | nil=>rfl
 | cons x xs ih=>simp[ib,ih]
theorem yd (hs:al w0 I0 NoR g st a ov w) {x:Operand} {e:Eff} (hh:(opL E id look (.nilCheck x) [st.ev x]).hits C e) (ha:e.app st dst=some st') :
  Good P w0 I0 ov ⟨dst,.nilCheck x,type,pos,after,guard⟩ st' a w Q:=by
 simp only[opL]at hh
 have hx:=hs.ev x
 split at hh
 ·rename_i i off ht
  cases hh
  rw[ht]at hx
  have hx':=hx
  obtain⟨cs,_,hv⟩:=hx
  exact aR hs (u:=a.eval x) (by simp[execOp,hv]) hx' ha
 ·rename_i y off ht
  cases hh
  rw[ht]at hx
  have hx':=hx
  obtain⟨ad,cell,hv,_⟩:=hx
  exact aR hs (u:=a.eval x) (by simp[execOp,hv]) hx' ha
 ·rename_i i r p k j ht
  cases hh
  rw[ht]at hx
  have hx':=hx
  obtain⟨xs,x',ad,l,cap,s,n,_,_,_,_,hv⟩:=hx
  exact aR hs (u:=a.eval x) (by simp[execOp,hv]) hx' ha
 ·rename_i i off len n ht
  cases hh
  rw[ht]at hx
  have hx':=hx
  obtain⟨cs,_,_,hv⟩:=hx
  exact aR hs (u:=a.eval x) (by simp[execOp,hv]) hx' ha
 ·exact hh.elim
end
end Go.Ab

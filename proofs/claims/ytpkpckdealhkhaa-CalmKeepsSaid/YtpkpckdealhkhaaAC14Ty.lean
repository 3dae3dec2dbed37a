import Derived.Test.YtpkpckdealhkhaaAM16
import Derived.ProofKit
import Derived.OpenShut
import Derived.Carry
import Derived.Deep.Slices
import Derived.Test.YtpkpckdealhkhaaAC14T
set_option linter.all false
section
namespace Go.Ab
open Go.RowKit Go.ChangeShapes Go.WideShapes
inductive bA (P:Program):TypeId->List TV->Prop
 | int {t:TypeId} {k:IntKind} {n:Int} (hu:P.underlying t=some (.int k)) (hw:(Lit.int k n).wf=true):bA P t [.lit (.int k n)]
 | bool {t:TypeId} {b:Bool} (hu:P.underlying t=some .bool):bA P t [.lit (.bool b)]
 | str {t:TypeId} {s:ByteArray} (hu:P.underlying t=some .string) (hl:s.size<=maxLen):bA P t [.lit (.string s)]
 | nil {t e:TypeId} (hu:P.underlying t=some (.slice e)):bA P t [.lit a9]
 | sl {t e:TypeId} {xs:List (List TV)} (hu:P.underlying t=some (.slice e)) (hl:xs.length<=maxLen) (h:∀(i:Nat) (x:List TV),xs[i]? = some x->bA P e x):bA P t [.sl false (P.cellsOf e) xs]
 | struct {t : TypeId} {fs : Array Field} {cs : List TV} (hu : P.underlying t = some (.struct fs)) (hl : cs.length = P.cellsOf t)
   (h:∀(i:Nat) (f:Field),fs[i]? = some f->bA P f.type ((cs.drop f.offset).take (P.cellsOf f.type))):bA P t cs
 | arr {t e:TypeId} {n:Nat} {cs:List TV} (hu:P.underlying t=some (.array n e)) (hl:cs.length=P.cellsOf t) (h:∀i,i<n->bA P e ((cs.drop (i*P.cellsOf e)).take (P.cellsOf e))):bA P t cs
def df (P:Program):Nat->TypeId->Bool
 | 0,_=>false
 | n+1,t=>match P.underlying t with
  | some (.int _)=>P.cellsOf t==1
  | some .bool=>P.cellsOf t==1
  | some .string=>P.cellsOf t==1
  | some (.slice e)=>(P.cellsOf t==1&&decide (0<P.cellsOf e))&&df P n e
  | some (.struct fs)=>fs.toList.all (fun f=>df P n f.type)&&sideBySide P fs.toList 0 (P.cellsOf t)
  | some (.array m e)=>df P n e&&(P.cellsOf t==m*P.cellsOf e)
  | _=>false
where
 sideBySide (P:Program):List Field->Nat->Nat->Bool
  | [],o,e=>o==e
  | f::fs,o,e=>f.offset==o&&sideBySide P fs (o+P.cellsOf f.type) e
section
variable {H:Type} {enc:TypeId × Value->H} {P:Program} {w:World} {spare:Nat->Bool} {held:Bool}
def dJ (w:World) (I:Nat->Prop) (xs:List TV) (vs:List Value):Prop:=vs.length=xs.length/\∀(j:Nat) (x:TV) (v:Value),xs[j]? = some x->vs[j]? = some v->Rep w I x v/\v.oneCell'=true
theorem dJ.append {I:Nat->Prop} {a b:List TV} {x y:List Value} (h1:dJ w I a x) (h2:dJ w I b y):dJ w I (a++b) (x++y):=by
 refine⟨by simp[h1.1,h2.1],fun j c u hc hu=>?_⟩;rw[List.getElem?_append]at hc hu;rw[h1.1]at hu;by_cases h:j<a.length
 ·simp only[h,if_true]at hc hu;exact h1.2 j c u hc hu
 ·simp only[h,if_false]at hc hu;exact h2.2 _ c u hc hu
theorem dJ.one {I:Nat->Prop} {x:TV} {v:Value} (h:Rep w I x v) (h1:v.oneCell'=true):dJ w I [x] [v]:=by
 refine⟨rfl,fun j c u hc hu=>?_⟩;cases j with
 | zero=>simp at hc hu;subst hc hu;exact⟨h,h1⟩
 | succ j=>simp at hc
theorem EQ {α:Type} [Inhabited α] {n:Nat} {p:Nat->α->Prop} (h:∀i,i<n->∃x,p i x):∃l:List α,l.length=n/\∀i x,l[i]? = some x->p i x:=by
 obtain⟨f,hf⟩:=Go.Deep.choose_lt h;refine⟨(List.range n).map f,by simp,fun i x hx=>?_⟩;have hi:i<n:=by have:=(Gg.1 hx).1;simpa using this
 rw[Gn,List.getElem?_range hi]at hx;simp only[Gv,Gj]at hx;subst hx;exact hf i hi
theorem len1 {v:Value} {n:Nat} (h:n=1):[v].length=n:=by rw[h];rfl
theorem qZ : ∀ (k : Nat) (t : TypeId) (fuel : Nat) (cs : List Value) (x : DataW H × List MemPlace), df P k t = true → DataW.trod enc P w 0 spare held fuel t cs = some x →
  ∃xs:List TV,bA P t xs/\dJ w (fun b=>b<w.heap.size) xs cs/\cs.length=P.cellsOf t
 | 0,t,fuel,cs,x,hp,h=>by simp[df]at hp
 | k + 1, t, fuel, cs, x, hp, h => by
  simp only[df]at hp;cases hu:P.underlying t with
  | none=>simp[hu]at hp
  | some d =>
   simp only[hu]at hp;cases d with
   | int kd =>
    obtain⟨n,rfl,_,hw⟩:=DataW.trod_int hu h;exact⟨[.lit (.int kd n)],.int hu hw,.one (.lit _) rfl,len1 (by simpa using hp)⟩
   | bool =>
    obtain⟨b,rfl,_⟩:=DataW.trod_bool hu h;exact⟨[.lit (.bool b)],.bool hu,.one (.lit _) rfl,len1 (by simpa using hp)⟩
   | string =>
    obtain⟨s,rfl,_,hl⟩:=DataW.trod_string hu h;exact⟨[.lit (.string s)],.str hu hl,.one (.lit _) rfl,len1 (by simpa using hp)⟩
   | slice e =>
    simp only[Gk]at hp;have hc1:P.cellsOf t=1:=by simpa using hp.1.1
    have hpe:0<P.cellsOf e:=by simpa using hp.1.2
    rcases Go.Deep.open_slice hu h with⟨rfl,_⟩|⟨a,len,cap,m,n,D,Pl,rfl,_,hle,hcm,hm,_,hel⟩
    ·exact⟨[.lit a9],.nil hu,.one (.lit _) rfl,by rw[hc1];rfl⟩
    ·have hlm:len<=m:=by rw[hm];split<;>omega
     have each:∀i,i<len->∃p:List TV × List Value,bA P e p.1/\dJ w (fun b=>b<w.heap.size) p.1 p.2/\p.2.length=P.cellsOf e/\∀j,j<P.cellsOf e->w.cell? (a.add (i*P.cellsOf e+j))=p.2[j]? := by
      intro i hi;obtain⟨cs',hcs,ht⟩:=hel i (by omega);obtain⟨ys,h1,h2,h3⟩:=qZ k e n cs' _ hp.2 ht;obtain⟨_,hcl,hat⟩:=World.cells?_some hcs;refine⟨(ys,cs'),h1,h2,h3,fun j hj=>?_⟩;rw[<-hat j hj,Go.Ab.eZ]
     obtain⟨l,hl,hprop⟩:=EQ each;have hsz:∀(i:Nat) (p:List TV × List Value),l[i]? = some p->p.1.length=P.cellsOf e/\p.2.length=P.cellsOf e:=fun i p hp'=>by
      obtain⟨_,h2,h3,_⟩:=hprop i p hp';exact⟨by rw[<-h2.1];exact h3,h3⟩
     refine⟨[.sl false (P.cellsOf e) (l.map (·.1))],.sl hu (by simp[hl];omega) (fun i y hy=>?_),.one ?_ rfl,by rw[hc1];rfl⟩
     ·rw[Gn]at hy
      cases hli:l[i]? with
      | none=>simp[hli]at hy
      | some p=>simp only[hli,Gv,Gj]at hy;subst hy;exact(hprop i p hli).1
     ·have hll:(l.map (·.1)).length=len:=by simp[hl]
      have cellAt:∀q,q<len*P.cellsOf e->∃i j p,i<len/\j<P.cellsOf e/\q=i*P.cellsOf e+j/\l[i]? = some p/\∃u,p.2[j]? = some u/\w.cell? (a.add q)=some u/\u.oneCell'=true:=by
       intro q hq;have hpos:0<P.cellsOf e:=hpe;have hi:q / P.cellsOf e<len:=Nat.div_lt_of_lt_mul (by rw[Nat.mul_comm];exact hq);have hj:q%P.cellsOf e<P.cellsOf e:=Nat.mod_lt _ hpos;have hq':q=q / P.cellsOf e*P.cellsOf e+q%P.cellsOf e:=by rw[Nat.mul_comm];exact(Nat.div_add_mod q _).symm
       have hli:l[q / P.cellsOf e]? = some (l[q / P.cellsOf e]'(by rw[hl];exact hi)):=Gi _;obtain⟨_,h2,h3,h4⟩:=hprop _ _ hli;have hu':(l[q / P.cellsOf e]'(by rw[hl];exact hi)).2[q%P.cellsOf e]? = some ((l[q / P.cellsOf e]'(by rw[hl];exact hi)).2[q%P.cellsOf e]'(by rw[h3];exact hj)):=Gi _;have hx1:(l[q / P.cellsOf e]'(by rw[hl];exact hi)).1[q%P.cellsOf e]? = some ((l[q / P.cellsOf e]'(by rw[hl];exact hi)).1[q%P.cellsOf e]'(by rw[(hsz _ _ hli).1];exact hj)):=Gi _;refine⟨_,_,_,hi,hj,hq',hli,_,hu',?_,(h2.2 _ _ _ hx1 hu').2⟩;have:=h4 _ hj;rw[<-hq']at this;rw[this,hu']
      have key:Rep w (fun b=>b<w.heap.size) (.sl false (P.cellsOf e) (l.map (·.1))) (.slice (some a) (l.map (·.1)).length cap):=by
       refine .sl (fun q=>(w.cell? (a.add q)).getD undef) (fun hp'=>?_) (by rw[hll];exact hle) hcm (fun y hy=>?_) (fun q hq=>?_) (fun q hq=>?_) (fun i y hy j c hj=>?_)
       ·rw[hll]at hp'
        obtain⟨i,j,p,_,_,_,_,u,_,hu',_⟩:=cellAt 0 (Nat.mul_pos hp' hpe);have:=World.block_lt_of_cell? w _ hu';rwa[fF]at this
       ·obtain⟨p,hp1,rfl⟩:=List.mem_map.1 hy
        obtain⟨i,hi,rfl⟩:=List.mem_iff_getElem.1 hp1;exact(hsz i _ (Gi hi)).1
       ·rw[hll]at hq
        obtain⟨i,j,p,_,_,_,_,u,_,hu',_⟩:=cellAt q hq;rw[hu'];rfl
       ·rw[hll]at hq
        obtain⟨i,j,p,_,_,_,_,u,_,hu',h1⟩:=cellAt q hq;rw[hu'];exact h1
       ·rw[Gn]at hy
        cases hli:l[i]? with
        | none=>simp[hli]at hy
        | some p =>
         simp only[hli,Gv,Gj]at hy;subst hy;obtain⟨_,h2,h3,h4⟩:=hprop i p hli;have hjs:j<P.cellsOf e:=by have:=(Gg.1 hj).1;have:=(hsz i p hli).1;omega
         have hu':p.2[j]? = some (p.2[j]'(by omega)):=Gi _;rw[h4 j hjs,hu'];exact(h2.2 j c _ hj hu').1
      rw[hll]at key;exact key
   | struct fs =>
    simp only[Gk,List.all_eq_true]at hp;obtain⟨hall,hside⟩:=hp;obtain⟨ys,n,_,_,hlen,hyl,hf⟩:=DataW.trod_struct hu h;have fields:∀(l:List Field) (o e:Nat),(∀f∈l,df P k f.type=true/\∃y,DataW.trod enc P w 0 spare held n f.type ((cs.drop f.offset).take (P.cellsOf f.type))=some y)->df.sideBySide P l o e=true->e=cs.length ->
      o<=e/\∃xs:List TV,dJ w (fun b=>b<w.heap.size) xs (cs.drop o)/\∀(i:Nat) (f:Field),l[i]? = some f->o<=f.offset/\bA P f.type ((xs.drop (f.offset-o)).take (P.cellsOf f.type)):=by
     intro l;induction l with
     | nil =>
      intro o e _ hs he;have:o=e:=by simpa[df.sideBySide]using hs
      subst this;subst he;exact⟨Nat.le_refl _,[],by simp[dJ],fun i f hf=>by simp at hf⟩
     | cons f l ih =>
      intro o e hfs hs he;simp only[df.sideBySide,Gk]at hs;have hfo:f.offset=o:=by simpa using hs.1
      obtain⟨hle,xs,hxs,hty⟩:=ih (o+P.cellsOf f.type) e (fun g hg=>hfs g (Gq _ hg)) hs.2 he;obtain⟨hpf,y,hy⟩:=hfs f Gp;obtain⟨zs,hz1,hz2,hz3⟩:=qZ k f.type n _ y hpf hy;rw[hfo]at hz2 hz3;have hzl:zs.length=P.cellsOf f.type:=by rw[<-hz2.1];exact hz3
      refine⟨by omega,zs++xs,?_,fun i g hg=>?_⟩
      ·have:cs.drop o=(cs.drop o).take (P.cellsOf f.type)++cs.drop (o+P.cellsOf f.type):=by
        rw[<-List.drop_drop,List.take_append_drop]
       rw[this];exact hz2.append hxs
      ·cases i with
       | zero =>
        simp at hg;subst hg;refine⟨by omega,?_⟩;rw[hfo,Nat.sub_self,List.drop_zero,<-hzl,List.take_left];exact hz1
       | succ i =>
        simp at hg;obtain⟨h1,h2⟩:=hty i g hg;refine⟨by omega,?_⟩;rw[List.drop_append,List.drop_eq_nil_of_le (by omega),List.nil_append];rw[hzl,show g.offset-o-P.cellsOf f.type=g.offset-(o+P.cellsOf f.type) by omega];exact h2
    obtain⟨_,xs,hxs,hty⟩:=fields fs.toList 0 (P.cellsOf t) (fun f hf'=>by
     obtain⟨i,hi,rfl⟩:=List.mem_iff_getElem.1 hf';refine⟨hall _ hf',?_⟩;have hi':i<fs.size:=by simpa using hi
     have:=hf i _ (Array.getElem?_eq_getElem hi');rw[Array.getElem_toList,this];exact⟨_,Gi (by omega)⟩) hside hlen.symm
    simp only[List.drop_zero]at hxs;exact⟨xs,.struct hu (by rw[<-hxs.1];exact hlen) (fun i f hf'=>by
     have:=(hty i f (by rw[Gl];exact hf')).2;simpa using this),hxs,hlen⟩
   | array m e =>
    simp only[Gk]at hp;have hct:P.cellsOf t=m*P.cellsOf e:=by simpa using hp.2
    obtain⟨ys,n,_,_,hlen,hyl,hf⟩:=DataW.trod_array hu h;have parts : ∀ q, q ≤ m → ∃ xs : List TV, dJ w (fun b => b < w.heap.size) xs (cs.take (q * P.cellsOf e)) ∧ ∀ i, i < q → bA P e ((xs.drop (i * P.cellsOf e)).take (P.cellsOf e)) := by
     intro q;induction q with
     | zero=>intro _;exact⟨[],by simp[dJ],fun i hi=>by omega⟩
     | succ q ih =>
      intro hq;obtain⟨xs,h1,h2⟩:=ih (by omega);have hy:DataW.trod enc P w 0 spare held n e ((cs.drop (q*P.cellsOf e)).take (P.cellsOf e))=some (ys[q]'(by omega)):=by
       rw[hf q (by omega)];exact Gi _
      obtain⟨zs,hz1,hz2,hz3⟩:=qZ k e n _ _ hp.1 hy;have hzl:zs.length=P.cellsOf e:=by rw[<-hz2.1];exact hz3
      have hxl:xs.length=q*P.cellsOf e:=by
       rw[<-h1.1,List.length_take,hlen,hct];exact Nat.min_eq_left (Nat.mul_le_mul_right _ (by omega))
      refine⟨xs++zs,?_,fun i hi=>?_⟩
      ·have:cs.take ((q+1)*P.cellsOf e)=cs.take (q*P.cellsOf e)++(cs.drop (q*P.cellsOf e)).take (P.cellsOf e):=by
        rw[Nat.add_mul,Nat.one_mul,List.take_add]
       rw[this];exact h1.append hz2
      ·by_cases hiq:i<q
       ·have hle:i*P.cellsOf e+P.cellsOf e<=xs.length:=by
         rw[hxl];have:(i+1)*P.cellsOf e<=q*P.cellsOf e:=Nat.mul_le_mul_right _ hiq;rw[Nat.add_mul]at this;omega
        rw[List.drop_append_of_le_length (by omega),List.take_append_of_le_length (by simp;omega)];exact h2 i hiq
       ·have:i=q:=by omega
        subst this;rw[<-hxl,List.drop_left,<-hzl,List.take_length];exact hz1
    obtain⟨xs,h1,h2⟩:=parts m (Nat.le_refl _);rw[<-hct,<-hlen,List.take_length]at h1;exact⟨xs,.arr hu (by rw[<-h1.1];exact hlen) h2,h1,hlen⟩
   | _=>simp at hp
def ym (P:Program) (t:TypeId) (x:TV):Prop:=((∃cs,x=.agg cs/\bA P t cs)/\((∃fs,P.underlying t=some (.struct fs))\/∃n e,P.underlying t=some (.array n e)))\/(bA P t [x]/\(∀fs,P.underlying t≠some (.struct fs))/\∀n e,P.underlying t≠some (.array n e))
theorem CK {k:Nat} {t:TypeId} {v:Value} {d:DataW H} {ps:List MemPlace} {r:Reach} {b0:Nat} (hp:df P k t=true) (hv:Value.okWide P w r b0 t v) (h:DataW.Trod enc P w 0 spare held t v d ps) :
  ∃x,ym P t x/\Rep w (fun b=>b<w.heap.size) x v:=by
 obtain⟨fuel,hf⟩:=h;obtain⟨xs,hty,hrep,hlen⟩:=qZ k t fuel _ _ hp hf;have agg:∀cs:Array Value,v=.agg cs->Rep w (fun b=>b<w.heap.size) (.agg xs) v:=fun cs hc=>by
  subst hc;have hl:cs.size=xs.length:=by simpa[Value.cells]using hrep.1
  refine .agg hl (fun j hj=>?_) (fun j c hj=>?_)
  ·have h1:xs[j]? = some (xs[j]'(by omega)):=Gi _
   have h2:cs.toList[j]? = some (cs.getD j undef):=by rw[Gl,Array.getElem?_eq_getElem hj];simp[hj]
   exact(hrep.2 j _ _ h1 h2).2
  ·have hj':j<cs.size:=by have:=(Gg.1 hj).1;omega
   have h2:cs.toList[j]? = some (cs.getD j undef):=by rw[Gl,Array.getElem?_eq_getElem hj'];simp[hj']
   exact(hrep.2 j _ _ hj h2).1
 have one:v.cells=#[v]->∃y,xs=[y]/\Rep w (fun b=>b<w.heap.size) y v:=fun hc=>by
  rw[hc]at hrep
  match xs,hrep with
  | [y],hrep=>exact⟨y,rfl,(hrep.2 0 y v rfl rfl).1⟩
  | [],hrep=>have:=hrep.1;simp at this
  | _::_::_,hrep=>have:=hrep.1;simp at this
 cases k with
 | zero=>simp[df]at hp
 | succ k =>
  simp only[df]at hp;cases hu:P.underlying t with
  | none=>simp[hu]at hp
  | some desc =>
   simp only[hu]at hp;cases desc with
   | int kd =>
    obtain⟨n,rfl⟩:=okWide_int hu hv;obtain⟨y,rfl,hy⟩:=one rfl;exact⟨y,.inr ⟨hty,by simp[hu],by simp[hu]⟩,hy⟩
   | bool =>
    obtain⟨n,rfl⟩:=okWide_bool hu hv;obtain⟨y,rfl,hy⟩:=one rfl;exact⟨y,.inr ⟨hty,by simp[hu],by simp[hu]⟩,hy⟩
   | string =>
    obtain⟨n,rfl⟩:=okWide_string hu hv;obtain⟨y,rfl,hy⟩:=one rfl;exact⟨y,.inr ⟨hty,by simp[hu],by simp[hu]⟩,hy⟩
   | slice e =>
    obtain⟨a,l,c,rfl⟩:=okWide_slice hu hv;obtain⟨y,rfl,hy⟩:=one rfl;exact⟨y,.inr ⟨hty,by simp[hu],by simp[hu]⟩,hy⟩
   | struct fs =>
    obtain⟨cs,rfl,_⟩:=okWide_struct hu hv;exact⟨.agg xs,.inl ⟨⟨xs,rfl,hty⟩,.inl ⟨fs,hu⟩⟩,agg cs rfl⟩
   | array n e =>
    have hag:∃cs,v=.agg cs:=by
     unfold Value.okWide at hv;simp only[hu]at hv;cases v<;>simp_all
    obtain⟨cs,rfl⟩:=hag;exact⟨.agg xs,.inl ⟨⟨xs,rfl,hty⟩,.inr ⟨n,e,hu⟩⟩,agg cs rfl⟩
   | _=>simp at hp
end
end Go.Ab
end
section
namespace Go.Ab
open Go.RowKit Go.ChangeShapes Go.WideShapes
def wS (P:Program):List TypeId->List TV->Prop
 | [],[]=>True
 | t::ts,x::xs=>ym P t x/\wS P ts xs
 | _,_=>False
section
variable {H:Type} {enc:TypeId × Value->H} {P:Program} {W W':World}
theorem oW:∀(ts:List TypeId) (vs:List Value) (ds:List (DataW H)) (ps:List MemPlace) {base:Nat},(∀t∈ts,df P 24 t=true)->(∀(j:Nat) t v,ts[j]? = some t->vs[j]? = some v->Value.okWide P W .any base t v) ->
  DataW.TrodAll enc P W 0 (fun _=>true) true ts vs ds ps->∃xs,wS P ts xs/\xs.length=vs.length/\∀(j:Nat) (x:TV) (v:Value),xs[j]? = some x->vs[j]? = some v->Rep W (fun b=>b<W.heap.size) x v
 | [],vs,ds,ps,base,hp,hv,h=>by
  obtain⟨rfl,rfl,rfl⟩:=trodAll_nil h;exact⟨[],trivial,rfl,fun j x v hx=>by simp at hx⟩
 | t::ts,vs,ds,ps,base,hp,hv,h=>by
  obtain⟨v,vs1,d,ds1,a,b,rfl,rfl,rfl,h1,h2⟩:=trodAll_cons h;obtain⟨x,hx,hr⟩:=CK (hp t Gp) (hv 0 t v rfl rfl) h1;obtain⟨xs,hxs,hl,hrs⟩:=oW ts vs1 ds1 b (fun t' ht'=>hp t' (Gq _ ht')) (fun j t' v' h1' h2'=>hv (j+1) t' v' (by simpa using h1') (by simpa using h2')) h2;refine⟨x::xs,⟨hx,hxs⟩,by simp[hl],fun j y u hy hu=>?_⟩;cases j with
  | zero=>simp at hy hu;subst hy hu;exact hr
  | succ j=>simp at hy hu;exact hrs j y u hy hu
theorem mG (hl:laidOutB P=true) (hb:Below W.heap.size W W'):∀(ts:List TypeId) (vs:List Value) (ds:List (DataW H)) (ps:List MemPlace),(∀t∈ts,P.readableRec t=true/\t<P.types.size)->(∀p∈ps,p.block<W.heap.size) ->
  DataW.TrodAll enc P W 0 (fun _=>true) true ts vs ds ps->DataW.TrodAll enc P W' 0 (fun b=>decide (b<W.heap.size)) true ts vs ds ps
 | [],vs,ds,ps,hr,hlt,h=>by
  obtain⟨rfl,rfl,rfl⟩:=trodAll_nil h;rfl
 | t::ts,vs,ds,ps,hr,hlt,h=>by
  obtain⟨v,vs1,d,ds1,a,b,rfl,rfl,rfl,h1,h2⟩:=trodAll_cons h;exact⟨a,b,Below.trod hl (hr t Gp).1 (hr t Gp).2 h1 hb (fun p hp=>hlt p (List.mem_append_left _ hp)),mG hl hb ts vs1 ds1 b (fun t' ht'=>hr t' (Gq _ ht')) (fun p hp=>hlt p (List.mem_append_right _ hp)) h2,rfl⟩
theorem CI {A:AProg} {G:Laid} (hA:A.Ok P G) (hG:G.P W (fun b=>b<W.heap.size)) {fid:FuncId} (hln:(A.lent fid,A.peek fid,A.turn fid,A.eye fid)=(none,none,false,false)) {f:Func} (hlaid:laidOutB P=true) (hpar:∀t∈f.params.toList,df P 24 t=true/\P.readableRec t=true/\t<P.types.size)
  {bt:TypeId} (hres:f.resultTypes=#[bt]) (hbt:P.underlying bt=some .bool) {s:ChangeSpec} (hvars:s.vars=[])
  (hs:∀ds:List (DataW H),ds.length=f.params.size->s.fn H ds={ results:=[.lit (.bool true)],args:=ds })
  (hlaw:∀xs,wS P f.params.toList xs->∃n,acall A n fid xs=some (.lit (.bool true)))
  {args:Array Value} {ds gs:List (DataW H)} {before:List MemPlace} {base:Nat} (hval:∀(j:Nat) t v,f.params[j]? = some t->args[j]? = some v->Value.okWide P W .any base t v)
  (hW:DataW.Whole enc P f.params.toList s.vars false W args.toList ds gs before) :
  Calls P fid args W fun e W'=>∃v,e=.returned v/\s.post enc P f false true false false W args v W':=by
 have hW':=hW;obtain⟨p,q,hT,hV,hpq,hfz,hnd⟩:=hW;rw[hvars]at hV;have hgs:gs=[]/\q=[]:=trodVars_none hV;obtain⟨hg0,hq0⟩:=hgs;subst hg0 hq0;rw[List.append_nil]at hpq;subst hpq;obtain⟨xs,hxs,hxl,hxr⟩:=oW f.params.toList args.toList ds before (fun t ht=>(hpar t ht).1) (fun j t v h1 h2=>hval j t v (by simpa using h1) (by simpa using h2)) hT;obtain⟨n,hn⟩:=hlaw xs hxs;have hc:=((((((qL hA n fid xs _ hn).2 (Prod.mk.inj (Prod.mk.inj (Prod.mk.inj hln).2).2).1).2 (Prod.mk.inj (Prod.mk.inj (Prod.mk.inj hln).2).2).2).1 (Prod.mk.inj (Prod.mk.inj hln).2).1).1 (Prod.mk.inj hln).1).1 (fun b=>b<W.heap.size) W args hG (fun _ h=>h) (by simpa using hxl.symm) (fun j x hx=>by
  have hj:j<args.size:=by have:=(Gg.1 hx).1;simp at hxl;omega
  exact hxr j x _ hx (by rw[Gl,Array.getElem?_eq_getElem hj];simp[hj]))).2
 refine hc.mono ?_;rintro e W' ⟨v,rfl,hb,I2,S,_,_,_,_,hv⟩;have:=bo hv;subst this;have hlen:ds.length=f.params.size:=by
  have:∀(ts:List TypeId) (vs:List Value) (ds:List (DataW H)) (ps:List MemPlace),DataW.TrodAll enc P W 0 (fun _=>true) true ts vs ds ps->ds.length=ts.length:=by
   intro ts;induction ts with
   | nil=>intro vs ds ps h;obtain⟨rfl,rfl,rfl⟩:=trodAll_nil h;rfl
   | cons t ts ih=>intro vs ds ps h;obtain⟨v,vs1,d,ds1,a,b,rfl,rfl,rfl,h1,h2⟩:=trodAll_cons h;simp[ih _ _ _ h2]
  simpa using this _ _ _ _ hT
 have hlt:∀p∈before,p.block<W.heap.size:=fun p hp=>hW'.lt p hp
 refine⟨_,rfl,ds,[],before,[],before,[],hW',?_,?_,?_,?_,fun h=>by cases h⟩
 ·rw[List.append_nil,hs ds hlen,hres]
  exact trodAll_cons_mk (shut_bool hbt true) rfl
 ·rw[List.append_nil,hs ds hlen]
  exact mG hlaid hb _ _ _ _ (fun t ht=>(hpar t ht).2) hlt hT
 ·rw[List.append_nil,hs ds hlen,hvars]
  rfl
 ·exact World.keptBut_mono (fun p hp=>⟨hp,.inr (.inl hp)⟩) (hb.frame (· ∈ before))
end
end Go.Ab
end
section
namespace Go.Ab
section
variable {P:Program}
theorem E6:∀t e,tr [] t=some e->aW P t e:=fun t e h=>by simp[tr]at h
theorem Ds {l:List (Nat × TyD)} {k:Nat} {d:TyD} (h1:tyOf P k=some d) (h:∀t e,tr l t=some e->aW P t e):∀t e,tr ((k,d)::l) t=some e->aW P t e:=by
 intro t e he;simp only[tr]at he;cases hk:k.beq t with
 | true =>
  rw[hk]at he;have:k=t:=Nat.eq_of_beq_eq_true hk;subst this;cases he;exact aW.of h1
 | false=>rw[hk]at he;exact h t e he
def Fi (P : Program) (f : FuncId) (fn : Func) : Prop := P.funcs[f]? = some fn ∧ (fn.name == "runtime.NumGoroutine") = false ∧ fn.body.isSome = true
theorem fn_nil:∀(f:FuncId) (e:Func),(none:Option Func)=some e->Fi P f e:=fun f e h=>by cases h
theorem aj {g : FuncId → Option Func} {k : FuncId} {fn : Func} (h1 : P.funcs[k]? = some fn) (h2 : (fn.name == "runtime.NumGoroutine") = false) (h3 : fn.body.isSome = true) (h : ∀ f e, g f = some e → Fi P f e) :
  ∀f e,(bif Nat.beq f k then some fn else g f)=some e->Fi P f e:=by
 intro f e he;cases hk:Nat.beq f k with
 | true =>
  rw[hk]at he;have:f=k:=Nat.eq_of_beq_eq_true hk;subst this;cases he;exact⟨h1,h2,h3⟩
 | false=>rw[hk]at he;exact h f e he
theorem bA.Ac {t:TypeId} {k:IntKind} {cs:List TV} (h:bA P t cs) (hu:P.underlying t=some (.int k)):∃n,cs=[.lit (.int k n)]/\(Lit.int k n).wf=true:=by
 cases h with
 | int hu' hw=>rw[hu]at hu';cases hu';exact⟨_,rfl,hw⟩
 | bool hu'=>rw[hu]at hu';cases hu'
 | str hu'=>rw[hu]at hu';cases hu'
 | nil hu'=>rw[hu]at hu';cases hu'
 | sl hu'=>rw[hu]at hu';cases hu'
 | struct hu'=>rw[hu]at hu';cases hu'
 | arr hu'=>rw[hu]at hu';cases hu'
theorem bA.FE {t:TypeId} {cs:List TV} (h:bA P t cs) (hu:P.underlying t=some .bool):∃b,cs=[.lit (.bool b)]:=by
 cases h with
 | int hu' hw=>rw[hu]at hu';cases hu'
 | bool hu'=>exact⟨_,rfl⟩
 | str hu'=>rw[hu]at hu';cases hu'
 | nil hu'=>rw[hu]at hu';cases hu'
 | sl hu'=>rw[hu]at hu';cases hu'
 | struct hu'=>rw[hu]at hu';cases hu'
 | arr hu'=>rw[hu]at hu';cases hu'
theorem F2.EL {α:Type} {R:List TV->α->Prop}:∀(xs:List (List TV)),(∀(i:Nat) x,xs[i]? = some x->∃a,R x a)->∃l,F2 R xs l
 | [],_=>⟨[],.nil⟩
 | x::xs,h=>by
  obtain⟨a,ha⟩:=h 0 x rfl;obtain⟨l,hl⟩:=F2.EL xs fun i y hy=>h (i+1) y (by simpa using hy)
  exact⟨a::l,.cons ha hl⟩
theorem bA.yQ {α:Type} {R:List TV->α->Prop} {t e:TypeId} {s:Nat} {cs:List TV} (h:bA P t cs) (hu:P.underlying t=some (.slice e)) (hs:P.cellsOf e=s) (hR:∀x,bA P e x->∃a,R x a):∃x l,cs=[x]/\RL (some false) s R x l:=by
 subst hs;cases h with
 | int hu' hw=>rw[hu]at hu';cases hu'
 | bool hu'=>rw[hu]at hu';cases hu'
 | str hu' hl=>rw[hu]at hu';cases hu'
 | nil hu'=>exact⟨_,[],rfl,.nil⟩
 | sl hu' hl h =>
  rw[hu]at hu';cases hu';obtain⟨l,hl'⟩:=F2.EL _ fun i x hx=>hR x (h i x hx)
  exact⟨_,l,rfl,.sl (by simp) hl' (by have:maxLen=9223372036854775807:=rfl;omega)⟩
 | struct hu'=>rw[hu]at hu';cases hu'
 | arr hu'=>rw[hu]at hu';cases hu'
theorem bA.iM {t:TypeId} {fs:Array Field} {cs:List TV} (h:bA P t cs) (hu:P.underlying t=some (.struct fs)):cs.length=P.cellsOf t/\∀(i:Nat) (f:Field),fs[i]? = some f->bA P f.type ((cs.drop f.offset).take (P.cellsOf f.type)):=by
 cases h with
 | int hu' hw=>rw[hu]at hu';cases hu'
 | bool hu'=>rw[hu]at hu';cases hu'
 | str hu' hl=>rw[hu]at hu';cases hu'
 | nil hu'=>rw[hu]at hu';cases hu'
 | sl hu'=>rw[hu]at hu';cases hu'
 | struct hu' hl h=>rw[hu]at hu';cases hu';exact⟨hl,h⟩
 | arr hu'=>rw[hu]at hu';cases hu'
theorem wf_i64 {n:Int} (h:(Lit.int .i64 n).wf=true):inI n:=by
 simp only[Lit.wf,Gk,decide_eq_true_eq]at h;exact h
theorem wf_u16 {n:Int} (h:(Lit.int .u16 n).wf=true):inW n:=by
 simp only[Lit.wf,Gk,decide_eq_true_eq]at h;exact h
end
end Go.Ab
end
section
set_option maxRecDepth 100000
namespace Go.Ab.C14
open Go Go.Ab Go.Proofs Go.Lib Go.RowKit
theorem ok_ty:∀t d,tab t=some d->aW Try.prog t d:=by
 repeat refine Ds (by kernel_rfl) ?_
 exact E6
theorem ok_fn:∀f e,fns f=some e->Fi Try.prog f e:=by
 refine aj Try.func4 (by kernel_rfl) (by kernel_rfl) ?_;refine aj Try.func6 (by kernel_rfl) (by kernel_rfl) ?_;refine aj Try.func7 (by kernel_rfl) (by kernel_rfl) ?_;refine aj Try.func8 (by kernel_rfl) (by kernel_rfl) ?_;refine aj Try.func9 (by kernel_rfl) (by kernel_rfl) ?_;refine aj Try.func10 (by kernel_rfl) (by kernel_rfl) ?_;refine aj Try.func12 (by kernel_rfl) (by kernel_rfl) ?_;refine aj Try.func13 (by kernel_rfl) (by kernel_rfl) ?_;refine aj Try.func15 (by kernel_rfl) (by kernel_rfl) ?_;refine aj Try.func16 (by kernel_rfl) (by kernel_rfl) ?_;refine aj Try.func17 (by kernel_rfl) (by kernel_rfl) ?_;refine aj Try.func18 (by kernel_rfl) (by kernel_rfl) ?_;refine aj Try.func19 (by kernel_rfl) (by kernel_rfl) ?_;refine aj Try.func20 (by kernel_rfl) (by kernel_rfl) ?_;refine aj Try.func21 (by kernel_rfl) (by kernel_rfl) ?_;refine aj Try.func22 (by kernel_rfl) (by kernel_rfl) ?_
 refine aj Try.func23 (by kernel_rfl) (by kernel_rfl) ?_;refine aj Try.func24 (by kernel_rfl) (by kernel_rfl) ?_;refine aj Try.func25 (by kernel_rfl) (by kernel_rfl) ?_;refine aj Try.func26 (by kernel_rfl) (by kernel_rfl) ?_;refine aj Try.func27 (by kernel_rfl) (by kernel_rfl) ?_;refine aj Try.func28 (by kernel_rfl) (by kernel_rfl) ?_;refine aj Try.func29 (by kernel_rfl) (by kernel_rfl) ?_;refine aj Try.func32 (by kernel_rfl) (by kernel_rfl) ?_;refine aj Try.func33 (by kernel_rfl) (by kernel_rfl) ?_;refine aj Try.func34 (by kernel_rfl) (by kernel_rfl) ?_;refine aj Try.func35 (by kernel_rfl) (by kernel_rfl) ?_;refine aj Try.func36 (by kernel_rfl) (by kernel_rfl) ?_;refine aj Try.func37 (by kernel_rfl) (by kernel_rfl) ?_;refine aj Try.func38 (by kernel_rfl) (by kernel_rfl) ?_;refine aj Try.func39 (by kernel_rfl) (by kernel_rfl) ?_;refine aj Try.func40 (by kernel_rfl) (by kernel_rfl) ?_
 refine aj Try.func41 (by kernel_rfl) (by kernel_rfl) ?_;refine aj Try.func42 (by kernel_rfl) (by kernel_rfl) ?_;refine aj Try.func43 (by kernel_rfl) (by kernel_rfl) ?_;refine aj Try.func44 (by kernel_rfl) (by kernel_rfl) ?_;refine aj Try.func45 (by kernel_rfl) (by kernel_rfl) ?_;refine aj Try.func46 (by kernel_rfl) (by kernel_rfl) ?_;refine aj Try.func47 (by kernel_rfl) (by kernel_rfl) ?_;refine aj Try.func49 (by kernel_rfl) (by kernel_rfl) ?_;refine aj Try.func50 (by kernel_rfl) (by kernel_rfl) ?_;refine aj Try.func51 (by kernel_rfl) (by kernel_rfl) ?_;refine aj Try.func52 (by kernel_rfl) (by kernel_rfl) ?_;refine aj Try.func53 (by kernel_rfl) (by kernel_rfl) ?_;refine aj Try.func54 (by kernel_rfl) (by kernel_rfl) ?_;refine aj Try.func55 (by kernel_rfl) (by kernel_rfl) ?_;refine aj Try.func56 (by kernel_rfl) (by kernel_rfl) ?_;refine aj Try.func57 (by kernel_rfl) (by kernel_rfl) ?_
 refine aj Try.func58 (by kernel_rfl) (by kernel_rfl) ?_;refine aj Try.func59 (by kernel_rfl) (by kernel_rfl) ?_;refine aj Try.func60 (by kernel_rfl) (by kernel_rfl) ?_;refine aj Try.func61 (by kernel_rfl) (by kernel_rfl) ?_;refine aj Try.func62 (by kernel_rfl) (by kernel_rfl) ?_;refine aj Try.func63 (by kernel_rfl) (by kernel_rfl) ?_;refine aj Try.func64 (by kernel_rfl) (by kernel_rfl) ?_;refine aj Try.func65 (by kernel_rfl) (by kernel_rfl) ?_;refine aj Try.func66 (by kernel_rfl) (by kernel_rfl) ?_;refine aj Try.func67 (by kernel_rfl) (by kernel_rfl) ?_;refine aj Try.func68 (by kernel_rfl) (by kernel_rfl) ?_;refine aj Try.func69 (by kernel_rfl) (by kernel_rfl) ?_;refine aj Try.func70 (by kernel_rfl) (by kernel_rfl) ?_;refine aj Try.func71 (by kernel_rfl) (by kernel_rfl) ?_;refine aj Try.func72 (by kernel_rfl) (by kernel_rfl) ?_;refine aj Try.func73 (by kernel_rfl) (by kernel_rfl) ?_
 refine aj Try.func74 (by kernel_rfl) (by kernel_rfl) ?_;refine aj Try.func75 (by kernel_rfl) (by kernel_rfl) ?_;refine aj Try.func76 (by kernel_rfl) (by kernel_rfl) ?_;refine aj Try.func77 (by kernel_rfl) (by kernel_rfl) ?_;refine aj Try.func78 (by kernel_rfl) (by kernel_rfl) ?_;refine aj Try.func79 (by kernel_rfl) (by kernel_rfl) ?_;refine aj Try.func80 (by kernel_rfl) (by kernel_rfl) ?_;refine aj Try.func81 (by kernel_rfl) (by kernel_rfl) ?_;refine aj Try.func82 (by kernel_rfl) (by kernel_rfl) ?_;refine aj Try.func83 (by kernel_rfl) (by kernel_rfl) ?_;refine aj Try.func84 (by kernel_rfl) (by kernel_rfl) ?_;refine aj Try.func85 (by kernel_rfl) (by kernel_rfl) ?_;refine aj Try.func86 (by kernel_rfl) (by kernel_rfl) ?_;refine aj Try.func87 (by kernel_rfl) (by kernel_rfl) ?_;refine aj Try.func88 (by kernel_rfl) (by kernel_rfl) ?_;exact fn_nil
def noG:Laid:=⟨fun _ _=>True,fun _ _ _=>trivial⟩
theorem ok:prog.Ok Try.prog noG:=⟨ok_ty,ok_fn,by kernel_rfl,fun f g xs r hg hr=>(by cases hg),fun _ _ _ _ h=>(by cases h)⟩
end Go.Ab.C14
end
section
set_option maxRecDepth 100000
namespace Go.Ab.C14
open Go Go.Ab Go.Proofs
theorem aA {cs:List TV} {n:Nat} (h:cs.length=n+1):∃c r,cs=c::r/\r.length=n:=by
 cases cs with
 | nil=>simp at h
 | cons c r=>exact⟨c,r,rfl,by simpa using h⟩
theorem l7 {cs:List TV} (h:cs.length=0):cs=[]:=List.length_eq_zero_iff.1 h
theorem iw:Try.prog.cellsOf 3=1:=by kernel_rfl
theorem Di:Try.prog.cellsOf 53=1:=by kernel_rfl
theorem zM:Try.prog.cellsOf 4=1:=by kernel_rfl
theorem FM:Try.prog.cellsOf 55=7:=by kernel_rfl
theorem F8:Try.prog.cellsOf 46=8:=by kernel_rfl
theorem FZ:Try.prog.cellsOf 42=4:=by kernel_rfl
theorem Ad:Try.prog.cellsOf 48=14:=by kernel_rfl
theorem Ep:Try.prog.cellsOf 40=3:=by kernel_rfl
theorem c_mod:Try.prog.cellsOf 24=1:=by kernel_rfl
theorem CY:Try.prog.cellsOf 44=1:=by kernel_rfl
theorem E2:Try.prog.cellsOf 33=1:=by kernel_rfl
theorem c_inss:Try.prog.cellsOf 43=1:=by kernel_rfl
theorem DI:Try.prog.cellsOf 38=1:=by kernel_rfl
theorem FA:Try.prog.cellsOf 22=1:=by kernel_rfl
theorem FK {cs:List TV} (h:bA Try.prog 3 cs):∃n,RI1 cs n:=by
 obtain⟨n,rfl,hw⟩:=h.Ac Try.underlying3;exact⟨n,rfl,wf_i64 hw⟩
theorem Es {cs:List TV} (h:bA Try.prog 53 cs):∃n,RW1 cs n:=by
 obtain⟨n,rfl,hw⟩:=h.Ac Try.underlying53;exact⟨n,rfl,wf_u16 hw⟩
theorem fo {c:TV} (h:bA Try.prog 3 [c]):∃n,c=I n/\inI n:=by
 obtain⟨n,h1,h2⟩:=FK h;exact⟨n,by simpa using h1,h2⟩
theorem Fm {c:TV} (h:bA Try.prog 53 [c]):∃n,c=W n/\inW n:=by
 obtain⟨n,h1,h2⟩:=Es h;exact⟨n,by simpa using h1,h2⟩
theorem wd {c:TV} (h:bA Try.prog 4 [c]):∃b,c=B b:=by
 obtain⟨b,h1⟩:=h.FE Try.underlying4;exact⟨b,by simpa using h1⟩
theorem DQ {c:TV} (h:bA Try.prog 44 [c]):∃l,RInts (some false) c l:=by
 obtain⟨x,l,hx,hl⟩:=h.yQ Try.underlying44 iw fun _ h=>FK h
 simp at hx;subst hx;exact⟨l,hl⟩
theorem AB {c:TV} (h:bA Try.prog 33 [c]):∃l,RWords (some false) c l:=by
 obtain⟨x,l,hx,hl⟩:=h.yQ Try.underlying33 Di fun _ h=>Es h
 simp at hx;subst hx;exact⟨l,hl⟩
theorem h_ins {cs:List TV} (h:bA Try.prog 55 cs):∃a,RIns (some false) cs a:=by
 obtain⟨hl,hf⟩:=h.iM Try.underlying55;rw[FM]at hl;obtain⟨c0,cs,rfl,k0⟩:=aA hl;obtain⟨c1,cs,rfl,k1⟩:=aA k0;obtain⟨c2,cs,rfl,k2⟩:=aA k1;obtain⟨c3,cs,rfl,k3⟩:=aA k2;obtain⟨c4,cs,rfl,k4⟩:=aA k3;obtain⟨c5,cs,rfl,k5⟩:=aA k4;obtain⟨c6,cs,rfl,k6⟩:=aA k5;obtain rfl:=l7 k6;obtain⟨n0,rfl,g0⟩:=fo (c:=c0) (by have:=hf 0 _ rfl;simpa[iw]using this);obtain⟨n1,rfl,g1⟩:=fo (c:=c1) (by have:=hf 1 _ rfl;simpa[iw]using this);obtain⟨n2,rfl,g2⟩:=fo (c:=c2) (by have:=hf 2 _ rfl;simpa[iw]using this);obtain⟨n3,rfl,g3⟩:=fo (c:=c3) (by have:=hf 3 _ rfl;simpa[iw]using this);obtain⟨n4,rfl,g4⟩:=Fm (c:=c4) (by have:=hf 4 _ rfl;simpa[Di]using this);obtain⟨n5,rfl,g5⟩:=fo (c:=c5) (by have:=hf 5 _ rfl;simpa[iw]using this);obtain⟨l,hls⟩:=DQ (c:=c6) (by have:=hf 6 _ rfl;simpa[CY]using this);exact⟨⟨n0,n1,n2,n3,n4,n5,l⟩,_,rfl,hls,g0,g1,g2,g3,g4,g5⟩
theorem h_end {cs:List TV} (h:bA Try.prog 46 cs):∃a,REnd (some false) cs a:=by
 obtain⟨hl,hf⟩:=h.iM Try.underlying46;rw[F8]at hl;obtain⟨c0,cs,rfl,k0⟩:=aA hl;obtain⟨c1,cs,rfl,k1⟩:=aA k0;obtain⟨c2,cs,rfl,k2⟩:=aA k1;obtain⟨c3,cs,rfl,k3⟩:=aA k2;obtain⟨c4,cs,rfl,k4⟩:=aA k3;obtain⟨c5,cs,rfl,k5⟩:=aA k4;obtain⟨c6,cs,rfl,k6⟩:=aA k5;obtain⟨c7,cs,rfl,k7⟩:=aA k6;obtain rfl:=l7 k7;obtain⟨n0,rfl,g0⟩:=fo (c:=c0) (by have:=hf 0 _ rfl;simpa[iw]using this);obtain⟨n1,rfl,g1⟩:=fo (c:=c1) (by have:=hf 1 _ rfl;simpa[iw]using this);obtain⟨n2,rfl,g2⟩:=fo (c:=c2) (by have:=hf 2 _ rfl;simpa[iw]using this);obtain⟨n3,rfl,g3⟩:=fo (c:=c3) (by have:=hf 3 _ rfl;simpa[iw]using this);obtain⟨l,hls⟩:=DQ (c:=c4) (by have:=hf 4 _ rfl;simpa[CY]using this);obtain⟨n5,rfl,g5⟩:=fo (c:=c5) (by have:=hf 5 _ rfl;simpa[iw]using this);obtain⟨n6,rfl,g6⟩:=fo (c:=c6) (by have:=hf 6 _ rfl;simpa[iw]using this);obtain⟨n7,rfl,g7⟩:=fo (c:=c7) (by have:=hf 7 _ rfl;simpa[iw]using this)
 exact⟨⟨n0,n1,n2,n3,l,n5,n6,n7⟩,_,rfl,hls,g0,g1,g2,g3,g5,g6,g7⟩
theorem h_pad {cs:List TV} (h:bA Try.prog 42 cs):∃a,RPad (some false) cs a:=by
 obtain⟨hl,hf⟩:=h.iM Try.underlying42;rw[FZ]at hl;obtain⟨c0,cs,rfl,k0⟩:=aA hl;obtain⟨c1,cs,rfl,k1⟩:=aA k0;obtain⟨c2,cs,rfl,k2⟩:=aA k1;obtain⟨c3,cs,rfl,k3⟩:=aA k2;obtain rfl:=l7 k3;obtain⟨n0,rfl,g0⟩:=fo (c:=c0) (by have:=hf 0 _ rfl;simpa[iw]using this);obtain⟨l,hls⟩:=AB (c:=c1) (by have:=hf 1 _ rfl;simpa[E2]using this);obtain⟨b2,rfl⟩:=wd (c:=c2) (by have:=hf 2 _ rfl;simpa[zM]using this);obtain⟨b3,rfl⟩:=wd (c:=c3) (by have:=hf 3 _ rfl;simpa[zM]using this);exact⟨⟨n0,l,b2,b3⟩,_,rfl,hls,g0⟩
theorem Fu {cs:List TV} (h:bA Try.prog 48 cs):∃a,RBlock (some false) cs a:=by
 obtain⟨hl,hf⟩:=h.iM Try.underlying48;rw[Ad]at hl;obtain⟨c0,cs,rfl,k0⟩:=aA hl;obtain⟨c1,cs,rfl,k1⟩:=aA k0;obtain⟨c2,cs,rfl,k2⟩:=aA k1;obtain⟨c3,cs,rfl,k3⟩:=aA k2;obtain⟨c4,cs,rfl,k4⟩:=aA k3;obtain⟨c5,cs,rfl,k5⟩:=aA k4;obtain⟨c6,cs,rfl,k6⟩:=aA k5;obtain⟨c7,cs,rfl,k7⟩:=aA k6;obtain⟨c8,cs,rfl,k8⟩:=aA k7;obtain⟨c9,cs,rfl,k9⟩:=aA k8;obtain⟨c10,cs,rfl,k10⟩:=aA k9;obtain⟨c11,cs,rfl,k11⟩:=aA k10;obtain⟨c12,cs,rfl,k12⟩:=aA k11;obtain⟨c13,cs,rfl,k13⟩:=aA k12;obtain rfl:=l7 k13;obtain⟨b0,rfl⟩:=wd (c:=c0) (by have:=hf 0 _ rfl;simpa[zM]using this);obtain⟨p,cc,hp,hpc,hpd⟩:=h_pad (cs:=[c1,c2,c3,c4]) (by have:=hf 1 _ rfl;simpa[FZ]using this);obtain⟨x,is,hx,his⟩:=bA.yQ (cs:=[c5]) (by have:=hf 2 _ rfl;simpa[c_inss]using this) Try.underlying43 FM fun _ h=>h_ins h
 obtain⟨e,gg,he,heg,heo⟩:=h_end (cs:=[c6,c7,c8,c9,c10,c11,c12,c13]) (by have:=hf 3 _ rfl;simpa[F8]using this);simp at hp hx he;obtain⟨rfl,rfl,rfl,rfl⟩:=hp;subst hx;obtain⟨rfl,rfl,rfl,rfl,rfl,rfl,rfl,rfl⟩:=he;exact⟨⟨b0,p,is,e⟩,_,_,_,rfl,hpc,hpd,his,heg,heo⟩
theorem h_func {cs:List TV} (h:bA Try.prog 40 cs):∃a,RFunc (some false) cs a:=by
 obtain⟨hl,hf⟩:=h.iM Try.underlying40;rw[Ep]at hl;obtain⟨c0,cs,rfl,k0⟩:=aA hl;obtain⟨c1,cs,rfl,k1⟩:=aA k0;obtain⟨c2,cs,rfl,k2⟩:=aA k1;obtain rfl:=l7 k2;obtain⟨n0,rfl,g0⟩:=fo (c:=c0) (by have:=hf 0 _ rfl;simpa[iw]using this);obtain⟨n1,rfl,g1⟩:=fo (c:=c1) (by have:=hf 1 _ rfl;simpa[iw]using this);obtain⟨x,bs,hx,hbs⟩:=bA.yQ (cs:=[c2]) (by have:=hf 2 _ rfl;simpa[DI]using this) Try.underlying38 Ad fun _ h=>Fu h
 simp at hx;subst hx;exact⟨⟨n0,n1,bs⟩,_,rfl,hbs,g0,g1⟩
theorem h_mod {cs:List TV} (h:bA Try.prog 24 cs):∃a,RMod (some false) cs a:=by
 obtain⟨hl,hf⟩:=h.iM Try.underlying24;rw[c_mod]at hl;obtain⟨c0,cs,rfl,k0⟩:=aA hl;obtain rfl:=l7 k0;obtain⟨x,fs,hx,hfs⟩:=bA.yQ (cs:=[c0]) (by have:=hf 0 _ rfl;simpa[FA]using this) Try.underlying22 Ep fun _ h=>h_func h
 simp at hx;subst hx;exact⟨⟨fs⟩,_,rfl,hfs⟩
theorem v_mod {x:TV} (h:ym Try.prog 24 x):∃cs m,x=.agg cs/\RMod (some false) cs m:=by
 rcases h with⟨⟨cs,rfl,h⟩,_⟩|⟨_,h,_⟩
 ·obtain⟨m,hm⟩:=h_mod h;exact⟨cs,m,rfl,hm⟩
 ·exact absurd Try.underlying24 (h _)
theorem v_byte {x:TV} (h:ym Try.prog 5 x):∃n,x=.lit (.int .u8 n)/\(Lit.int .u8 n).wf=true:=by
 rcases h with⟨⟨cs,rfl,h⟩,h2⟩|⟨h,_,_⟩
 ·rcases h2 with⟨fs,h2⟩|⟨n,e,h2⟩<;>(rw[Try.underlying5]at h2;cases h2)
 ·obtain⟨n,h1,h2⟩:=h.Ac Try.underlying5
  exact⟨n,by simpa using h1,h2⟩
theorem v_words {x:TV} (h:ym Try.prog 33 x):∃l,RWords (some false) x l:=by
 rcases h with⟨⟨cs,rfl,h⟩,h2⟩|⟨h,_,_⟩
 ·rcases h2 with⟨fs,h2⟩|⟨n,e,h2⟩<;>(rw[Try.underlying33]at h2;cases h2)
 ·exact AB h
end Go.Ab.C14
end

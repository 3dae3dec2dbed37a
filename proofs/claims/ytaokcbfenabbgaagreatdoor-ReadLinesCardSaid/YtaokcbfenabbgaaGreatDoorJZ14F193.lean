import Derived.Test.YtaokcbfenabbgaaGreatDoorJM16
import Derived.ProofKit
import Derived.OpenShut
import Derived.Carry
import Derived.Deep.Slices
import Derived.Lib.FrozenHead2
import Derived.Lib.Builder
import Derived.WalkKit
import Derived.Below
import Derived.Test.YtaokcbfenabbgaaGreatDoorJZ14Xa
import Derived.Lib.LaidTab
import Derived.Lib.Itoa
import Derived.Sort.Grow
import Derived.Deep.Draws
import Derived.Shelf.Strings.SplitShaped
import Derived.Shelf.Strings.Shaped
import Derived.Test.YtaokcbfenabbgaaGreatDoorJZ14F192
import Derived.Lib.ParseIntBCases
set_option linter.all false
section
namespace Go.Ab
open Go.RowKit Go.ChangeShapes Go.WideShapes
inductive eH (P:Program):TypeId->List TV->Prop
 | int {t:TypeId} {k:IntKind} {n:Int} (hu:P.underlying t=some (.int k)) (hw:(Lit.int k n).wf=true):eH P t [.lit (.int k n)]
 | bool {t:TypeId} {b:Bool} (hu:P.underlying t=some .bool):eH P t [.lit (.bool b)]
 | str {t:TypeId} {s:ByteArray} (hu:P.underlying t=some .string) (hl:s.size<=maxLen):eH P t [.lit (.string s)]
 | nil {t e:TypeId} (hu:P.underlying t=some (.slice e)):eH P t [.lit af]
 | sl {t e:TypeId} {xs:List (List TV)} (hu:P.underlying t=some (.slice e)) (hl:xs.length<=maxLen) (h:∀ (i:Nat) (x:List TV),xs[i]? = some x->eH P e x):eH P t [.sl false (P.cellsOf e) xs]
 | struct {t : TypeId} {fs : Array Field} {cs : List TV} (hu : P.underlying t = some (.struct fs)) (hl : cs.length = P.cellsOf t)
   (h:∀ (i:Nat) (f:Field),fs[i]? = some f->eH P f.type ((cs.drop f.offset).take (P.cellsOf f.type))):eH P t cs
 | arr {t e:TypeId} {n:Nat} {cs:List TV} (hu:P.underlying t=some (.array n e)) (hl:cs.length=P.cellsOf t) (h:∀ i,i < n->eH P e ((cs.drop (i * P.cellsOf e)).take (P.cellsOf e))):eH P t cs
def ct (P:Program):Nat->TypeId->Bool
 | 0,_=>false
 | n + 1,t=>match P.underlying t with
  | some (.int _)=>P.cellsOf t == 1
  | some .bool=>P.cellsOf t == 1
  | some .string=>P.cellsOf t == 1
  | some (.slice e)=>(P.cellsOf t == 1 && decide (0 < P.cellsOf e)) && ct P n e
  | some (.struct fs)=>fs.toList.all (fun f=>ct P n f.type) && sideBySide P fs.toList 0 (P.cellsOf t)
  | some (.array m e)=>ct P n e && (P.cellsOf t == m * P.cellsOf e)
  | _=>false
where
 sideBySide (P:Program):List Field->Nat->Nat->Bool
  | [],o,e=>o == e
  | f :: fs,o,e=>f.offset == o && sideBySide P fs (o + P.cellsOf f.type) e
section
variable {H:Type} {enc:TypeId × Value->H} {P:Program} {w:World} {spare:Nat->Bool} {held:Bool}
def cS (w:World) (I:Nat->Prop) (xs:List TV) (vs:List Value):Prop:=vs.length=xs.length/\∀ (j:Nat) (x:TV) (v:Value),xs[j]? = some x->vs[j]? = some v->Rep w I x v/\v.oneCell'=true
theorem cS.append {I:Nat->Prop} {a b:List TV} {x y:List Value} (h1:cS w I a x) (h2:cS w I b y):cS w I (a ++ b) (x ++ y):=by
 refine ⟨by simp [h1.1,h2.1],fun j c u hc hu=>?_⟩
 rw [List.getElem?_append] at hc hu
 rw [h1.1] at hu
 by_cases h:j < a.length
 ·simp only [h,if_true] at hc hu; exact h1.2 j c u hc hu
 ·simp only [h,if_false] at hc hu; exact h2.2 _ c u hc hu
theorem cS.one {I:Nat->Prop} {x:TV} {v:Value} (h:Rep w I x v) (h1:v.oneCell'=true):cS w I [x] [v]:=by
 refine ⟨rfl,fun j c u hc hu=>?_⟩
 cases j with
 | zero=>simp at hc hu; subst hc hu; exact ⟨h,h1⟩
 | succ j=>simp at hc
theorem CZ {α:Type} [Inhabited α] {n:Nat} {p:Nat->α->Prop} (h:∀ i,i < n->∃ x,p i x):∃ l:List α,l.length=n/\∀ i x,l[i]? = some x->p i x:=by
 obtain ⟨f,hf⟩:=Go.Deep.choose_lt h
 refine ⟨(List.range n).map f,by simp,fun i x hx=>?_⟩
 have hi:i < n:=by have:=(DS.1 hx).1; simpa using this
 rw [DY,List.getElem?_range hi] at hx
 simp only [D6,DU] at hx
 subst hx
 exact hf i hi
theorem len1 {v:Value} {n:Nat} (h:n=1):[v].length=n:=by rw [h]; rfl
theorem pI : ∀ (k : Nat) (t : TypeId) (fuel : Nat) (cs : List Value) (x : DataW H × List MemPlace), ct P k t = true → DataW.trod enc P w 0 spare held fuel t cs = some x →
  ∃ xs:List TV,eH P t xs/\cS w (fun b=>b < w.heap.size) xs cs/\cs.length=P.cellsOf t
 | 0,t,fuel,cs,x,hp,h=>by simp [ct] at hp
 | k + 1, t, fuel, cs, x, hp, h => by
  simp only [ct] at hp
  cases hu:P.underlying t with
  | none=>simp [hu] at hp
  | some d =>
   simp only [hu] at hp
   cases d with
   | int kd =>
    obtain ⟨n,rfl,_,hw⟩:=DataW.trod_int hu h
    exact ⟨[.lit (.int kd n)],.int hu hw,.one (.lit _) rfl,len1 (by simpa using hp)⟩
   | bool =>
    obtain ⟨b,rfl,_⟩:=DataW.trod_bool hu h
    exact ⟨[.lit (.bool b)],.bool hu,.one (.lit _) rfl,len1 (by simpa using hp)⟩
   | string =>
    obtain ⟨s,rfl,_,hl⟩:=DataW.trod_string hu h
    exact ⟨[.lit (.string s)],.str hu hl,.one (.lit _) rfl,len1 (by simpa using hp)⟩
   | slice e =>
    simp only [DV] at hp
    have hc1:P.cellsOf t=1:=by simpa using hp.1.1
    have hpe:0 < P.cellsOf e:=by simpa using hp.1.2
    rcases Go.Deep.open_slice hu h with ⟨rfl,_⟩ | ⟨a,len,cap,m,n,D,Pl,rfl,_,hle,hcm,hm,_,hel⟩
    ·exact ⟨[.lit af],.nil hu,.one (.lit _) rfl,by rw [hc1]; rfl⟩
    ·have hlm:len<=m:=by rw [hm]; split <;> omega
     have each:∀ i,i < len->∃ p:List TV × List Value,eH P e p.1/\cS w (fun b=>b < w.heap.size) p.1 p.2/\p.2.length=P.cellsOf e/\∀ j,j < P.cellsOf e->w.cell? (a.add (i * P.cellsOf e + j))=p.2[j]? := by
      intro i hi
      obtain ⟨cs',hcs,ht⟩:=hel i (by omega)
      obtain ⟨ys,h1,h2,h3⟩:=pI k e n cs' _ hp.2 ht
      obtain ⟨_,hcl,hat⟩:=World.cells?_some hcs
      refine ⟨(ys,cs'),h1,h2,h3,fun j hj=>?_⟩
      rw [<- hat j hj,Go.Ab.dO]
     obtain ⟨l,hl,hprop⟩:=CZ each
     have hsz:∀ (i:Nat) (p:List TV × List Value),l[i]? = some p->p.1.length=P.cellsOf e/\p.2.length=P.cellsOf e:=fun i p hp'=>by
      obtain ⟨_,h2,h3,_⟩:=hprop i p hp'
      exact ⟨by rw [<- h2.1]; exact h3,h3⟩
     refine ⟨[.sl false (P.cellsOf e) (l.map (·.1))],.sl hu (by simp [hl]; omega) (fun i y hy=>?_),.one ?_ rfl,by rw [hc1]; rfl⟩
     ·rw [DY] at hy
      cases hli:l[i]? with
      | none=>simp [hli] at hy
      | some p=>simp only [hli,D6,DU] at hy; subst hy; exact (hprop i p hli).1
     ·have hll:(l.map (·.1)).length=len:=by simp [hl]
      have cellAt:∀ q,q < len * P.cellsOf e->∃ i j p,i < len/\j < P.cellsOf e/\q=i * P.cellsOf e + j/\l[i]? = some p/\∃ u,p.2[j]? = some u/\w.cell? (a.add q)=some u/\u.oneCell'=true:=by
       intro q hq
       have hpos:0 < P.cellsOf e:=hpe
       have hi:q / P.cellsOf e < len:=Nat.div_lt_of_lt_mul (by rw [Nat.mul_comm]; exact hq)
       have hj:q % P.cellsOf e < P.cellsOf e:=Nat.mod_lt _ hpos
       have hq':q=q / P.cellsOf e * P.cellsOf e + q % P.cellsOf e:=by rw [Nat.mul_comm]; exact (Nat.div_add_mod q _).symm
       have hli:l[q / P.cellsOf e]? = some (l[q / P.cellsOf e]'(by rw [hl]; exact hi)):=DT _
       obtain ⟨_,h2,h3,h4⟩:=hprop _ _ hli
       have hu':(l[q / P.cellsOf e]'(by rw [hl]; exact hi)).2[q % P.cellsOf e]? = some ((l[q / P.cellsOf e]'(by rw [hl]; exact hi)).2[q % P.cellsOf e]'(by rw [h3]; exact hj)):=DT _
       have hx1:(l[q / P.cellsOf e]'(by rw [hl]; exact hi)).1[q % P.cellsOf e]? = some ((l[q / P.cellsOf e]'(by rw [hl]; exact hi)).1[q % P.cellsOf e]'(by rw [(hsz _ _ hli).1]; exact hj)):=DT _
       refine ⟨_,_,_,hi,hj,hq',hli,_,hu',?_,(h2.2 _ _ _ hx1 hu').2⟩
       have:=h4 _ hj
       rw [<- hq'] at this
       rw [this,hu']
      have key:Rep w (fun b=>b < w.heap.size) (.sl false (P.cellsOf e) (l.map (·.1))) (.slice (some a) (l.map (·.1)).length cap):=by
       refine .sl (fun q=>(w.cell? (a.add q)).getD undef) (fun hp'=>?_) (by rw [hll]; exact hle) hcm (fun y hy=>?_) (fun q hq=>?_) (fun q hq=>?_) (fun i y hy j c hj=>?_)
       ·rw [hll] at hp'
        obtain ⟨i,j,p,_,_,_,_,u,_,hu',_⟩:=cellAt 0 (Nat.mul_pos hp' hpe)
        have:=World.block_lt_of_cell? w _ hu'
        rwa [ej] at this
       ·obtain ⟨p,hp1,rfl⟩:=List.mem_map.1 hy
        obtain ⟨i,hi,rfl⟩:=List.mem_iff_getElem.1 hp1
        exact (hsz i _ (DT hi)).1
       ·rw [hll] at hq
        obtain ⟨i,j,p,_,_,_,_,u,_,hu',_⟩:=cellAt q hq
        rw [hu']; rfl
       ·rw [hll] at hq
        obtain ⟨i,j,p,_,_,_,_,u,_,hu',h1⟩:=cellAt q hq
        rw [hu']; exact h1
       ·rw [DY] at hy
        cases hli:l[i]? with
        | none=>simp [hli] at hy
        | some p =>
         simp only [hli,D6,DU] at hy
         subst hy
         obtain ⟨_,h2,h3,h4⟩:=hprop i p hli
         have hjs:j < P.cellsOf e:=by have:=(DS.1 hj).1; have:=(hsz i p hli).1; omega
         have hu':p.2[j]? = some (p.2[j]'(by omega)):=DT _
         rw [h4 j hjs,hu']
         exact (h2.2 j c _ hj hu').1
      rw [hll] at key
      exact key
   | struct fs =>
    simp only [DV,List.all_eq_true] at hp
    obtain ⟨hall,hside⟩:=hp
    obtain ⟨ys,n,_,_,hlen,hyl,hf⟩:=DataW.trod_struct hu h
    have fields:∀ (l:List Field) (o e:Nat),(∀ f ∈ l,ct P k f.type=true/\∃ y,DataW.trod enc P w 0 spare held n f.type ((cs.drop f.offset).take (P.cellsOf f.type))=some y)->ct.sideBySide P l o e=true->e=cs.length ->
      o<=e/\∃ xs:List TV,cS w (fun b=>b < w.heap.size) xs (cs.drop o)/\∀ (i:Nat) (f:Field),l[i]? = some f->o<=f.offset/\eH P f.type ((xs.drop (f.offset - o)).take (P.cellsOf f.type)):=by
     intro l
     induction l with
     | nil =>
      intro o e _ hs he
      have:o=e:=by simpa [ct.sideBySide] using hs
      subst this
      subst he
      exact ⟨Nat.le_refl _,[],by simp [cS],fun i f hf=>by simp at hf⟩
     | cons f l ih =>
      intro o e hfs hs he
      simp only [ct.sideBySide,DV] at hs
      have hfo:f.offset=o:=by simpa using hs.1
      obtain ⟨hle,xs,hxs,hty⟩:=ih (o + P.cellsOf f.type) e (fun g hg=>hfs g (D0 _ hg)) hs.2 he
      obtain ⟨hpf,y,hy⟩:=hfs f DZ
      obtain ⟨zs,hz1,hz2,hz3⟩:=pI k f.type n _ y hpf hy
      rw [hfo] at hz2 hz3
      have hzl:zs.length=P.cellsOf f.type:=by rw [<- hz2.1]; exact hz3
      refine ⟨by omega,zs ++ xs,?_,fun i g hg=>?_⟩
      ·have:cs.drop o=(cs.drop o).take (P.cellsOf f.type) ++ cs.drop (o + P.cellsOf f.type):=by
        rw [<- List.drop_drop,List.take_append_drop]
       rw [this]
       exact hz2.append hxs
      ·cases i with
       | zero =>
        simp at hg
        subst hg
        refine ⟨by omega,?_⟩
        rw [hfo,Nat.sub_self,List.drop_zero,<- hzl,List.take_left]
        exact hz1
       | succ i =>
        simp at hg
        obtain ⟨h1,h2⟩:=hty i g hg
        refine ⟨by omega,?_⟩
        rw [List.drop_append,List.drop_eq_nil_of_le (by omega),List.nil_append]
        rw [hzl,show g.offset - o - P.cellsOf f.type=g.offset - (o + P.cellsOf f.type) by omega]
        exact h2
    obtain ⟨_,xs,hxs,hty⟩:=fields fs.toList 0 (P.cellsOf t) (fun f hf'=>by
     obtain ⟨i,hi,rfl⟩:=List.mem_iff_getElem.1 hf'
     refine ⟨hall _ hf',?_⟩
     have hi':i < fs.size:=by simpa using hi
     have:=hf i _ (Array.getElem?_eq_getElem hi')
     rw [Array.getElem_toList,this]
     exact ⟨_,DT (by omega)⟩) hside hlen.symm
    simp only [List.drop_zero] at hxs
    exact ⟨xs,.struct hu (by rw [<- hxs.1]; exact hlen) (fun i f hf'=>by
     have:=(hty i f (by rw [DW]; exact hf')).2
     simpa using this),hxs,hlen⟩
   | array m e =>
    simp only [DV] at hp
    have hct:P.cellsOf t=m * P.cellsOf e:=by simpa using hp.2
    obtain ⟨ys,n,_,_,hlen,hyl,hf⟩:=DataW.trod_array hu h
    have parts : ∀ q, q ≤ m → ∃ xs : List TV, cS w (fun b => b < w.heap.size) xs (cs.take (q * P.cellsOf e)) ∧ ∀ i, i < q → eH P e ((xs.drop (i * P.cellsOf e)).take (P.cellsOf e)) := by
     intro q
     induction q with
     | zero=>intro _; exact ⟨[],by simp [cS],fun i hi=>by omega⟩
     | succ q ih =>
      intro hq
      obtain ⟨xs,h1,h2⟩:=ih (by omega)
      have hy:DataW.trod enc P w 0 spare held n e ((cs.drop (q * P.cellsOf e)).take (P.cellsOf e))=some (ys[q]'(by omega)):=by
       rw [hf q (by omega)]; exact DT _
      obtain ⟨zs,hz1,hz2,hz3⟩:=pI k e n _ _ hp.1 hy
      have hzl:zs.length=P.cellsOf e:=by rw [<- hz2.1]; exact hz3
      have hxl:xs.length=q * P.cellsOf e:=by
       rw [<- h1.1,List.length_take,hlen,hct]
       exact Nat.min_eq_left (Nat.mul_le_mul_right _ (by omega))
      refine ⟨xs ++ zs,?_,fun i hi=>?_⟩
      ·have:cs.take ((q + 1) * P.cellsOf e)=cs.take (q * P.cellsOf e) ++ (cs.drop (q * P.cellsOf e)).take (P.cellsOf e):=by
        rw [Nat.add_mul,Nat.one_mul,List.take_add]
       rw [this]
       exact h1.append hz2
      ·by_cases hiq:i < q
       ·have hle:i * P.cellsOf e + P.cellsOf e<=xs.length:=by
         rw [hxl]
         have:(i + 1) * P.cellsOf e<=q * P.cellsOf e:=Nat.mul_le_mul_right _ hiq
         rw [Nat.add_mul] at this
         omega
        rw [List.drop_append_of_le_length (by omega),List.take_append_of_le_length (by simp; omega)]
        exact h2 i hiq
       ·have:i=q:=by omega
        subst this
        rw [<- hxl,List.drop_left,<- hzl,List.take_length]
        exact hz1
    obtain ⟨xs,h1,h2⟩:=parts m (Nat.le_refl _)
    rw [<- hct,<- hlen,List.take_length] at h1
    exact ⟨xs,.arr hu (by rw [<- h1.1]; exact hlen) h2,h1,hlen⟩
   | _=>simp at hp
def Bt (P:Program) (t:TypeId) (x:TV):Prop:=((∃ cs,x=.agg cs/\eH P t cs)/\((∃ fs,P.underlying t=some (.struct fs))\/∃ n e,P.underlying t=some (.array n e)))\/(eH P t [x]/\(∀ fs,P.underlying t≠some (.struct fs))/\∀ n e,P.underlying t≠some (.array n e))
theorem Ci {k:Nat} {t:TypeId} {v:Value} {d:DataW H} {ps:List MemPlace} {r:Reach} {b0:Nat} (hp:ct P k t=true) (hv:Value.okWide P w r b0 t v) (h:DataW.Trod enc P w 0 spare held t v d ps) :
  ∃ x,Bt P t x/\Rep w (fun b=>b < w.heap.size) x v:=by
 obtain ⟨fuel,hf⟩:=h
 obtain ⟨xs,hty,hrep,hlen⟩:=pI k t fuel _ _ hp hf
 have agg:∀ cs:Array Value,v=.agg cs->Rep w (fun b=>b < w.heap.size) (.agg xs) v:=fun cs hc=>by
  subst hc
  have hl:cs.size=xs.length:=by simpa [Value.cells] using hrep.1
  refine .agg hl (fun j hj=>?_) (fun j c hj=>?_)
  ·have h1:xs[j]? = some (xs[j]'(by omega)):=DT _
   have h2:cs.toList[j]? = some (cs.getD j undef):=by rw [DW,Array.getElem?_eq_getElem hj]; simp [hj]
   exact (hrep.2 j _ _ h1 h2).2
  ·have hj':j < cs.size:=by have:=(DS.1 hj).1; omega
   have h2:cs.toList[j]? = some (cs.getD j undef):=by rw [DW,Array.getElem?_eq_getElem hj']; simp [hj']
   exact (hrep.2 j _ _ hj h2).1
 have one:v.cells=#[v]->∃ y,xs=[y]/\Rep w (fun b=>b < w.heap.size) y v:=fun hc=>by
  rw [hc] at hrep
  match xs,hrep with
  | [y],hrep=>exact ⟨y,rfl,(hrep.2 0 y v rfl rfl).1⟩
  | [],hrep=>have:=hrep.1; simp at this
  | _ :: _ :: _,hrep=>have:=hrep.1; simp at this
 cases k with
 | zero=>simp [ct] at hp
 | succ k =>
  simp only [ct] at hp
  cases hu:P.underlying t with
  | none=>simp [hu] at hp
  | some desc =>
   simp only [hu] at hp
   cases desc with
   | int kd =>
    obtain ⟨n,rfl⟩:=okWide_int hu hv
    obtain ⟨y,rfl,hy⟩:=one rfl
    exact ⟨y,.inr ⟨hty,by simp [hu],by simp [hu]⟩,hy⟩
   | bool =>
    obtain ⟨n,rfl⟩:=okWide_bool hu hv
    obtain ⟨y,rfl,hy⟩:=one rfl
    exact ⟨y,.inr ⟨hty,by simp [hu],by simp [hu]⟩,hy⟩
   | string =>
    obtain ⟨n,rfl⟩:=okWide_string hu hv
    obtain ⟨y,rfl,hy⟩:=one rfl
    exact ⟨y,.inr ⟨hty,by simp [hu],by simp [hu]⟩,hy⟩
   | slice e =>
    obtain ⟨a,l,c,rfl⟩:=okWide_slice hu hv
    obtain ⟨y,rfl,hy⟩:=one rfl
    exact ⟨y,.inr ⟨hty,by simp [hu],by simp [hu]⟩,hy⟩
   | struct fs =>
    obtain ⟨cs,rfl,_⟩:=okWide_struct hu hv
    exact ⟨.agg xs,.inl ⟨⟨xs,rfl,hty⟩,.inl ⟨fs,hu⟩⟩,agg cs rfl⟩
   | array n e =>
    have hag:∃ cs,v=.agg cs:=by
     unfold Value.okWide at hv
     simp only [hu] at hv
     cases v <;> simp_all
    obtain ⟨cs,rfl⟩:=hag
    exact ⟨.agg xs,.inl ⟨⟨xs,rfl,hty⟩,.inr ⟨n,e,hu⟩⟩,agg cs rfl⟩
   | _=>simp at hp
end
end Go.Ab
end
section
namespace Go.Ab
open Go.RowKit Go.ChangeShapes Go.WideShapes
def uV (P:Program):List TypeId->List TV->Prop
 | [],[]=>True
 | t :: ts,x :: xs=>Bt P t x/\uV P ts xs
 | _,_=>False
section
variable {H:Type} {enc:TypeId × Value->H} {P:Program} {W W':World}
theorem mf:∀ (ts:List TypeId) (vs:List Value) (ds:List (DataW H)) (ps:List MemPlace) {base:Nat},(∀ t ∈ ts,ct P 24 t=true)->(∀ (j:Nat) t v,ts[j]? = some t->vs[j]? = some v->Value.okWide P W .any base t v) ->
  DataW.TrodAll enc P W 0 (fun _=>true) true ts vs ds ps->∃ xs,uV P ts xs/\xs.length=vs.length/\∀ (j:Nat) (x:TV) (v:Value),xs[j]? = some x->vs[j]? = some v->Rep W (fun b=>b < W.heap.size) x v
 | [],vs,ds,ps,base,hp,hv,h=>by
  obtain ⟨rfl,rfl,rfl⟩:=trodAll_nil h
  exact ⟨[],trivial,rfl,fun j x v hx=>by simp at hx⟩
 | t :: ts,vs,ds,ps,base,hp,hv,h=>by
  obtain ⟨v,vs1,d,ds1,a,b,rfl,rfl,rfl,h1,h2⟩:=trodAll_cons h
  obtain ⟨x,hx,hr⟩:=Ci (hp t DZ) (hv 0 t v rfl rfl) h1
  obtain ⟨xs,hxs,hl,hrs⟩:=mf ts vs1 ds1 b (fun t' ht'=>hp t' (D0 _ ht')) (fun j t' v' h1' h2'=>hv (j + 1) t' v' (by simpa using h1') (by simpa using h2')) h2
  refine ⟨x :: xs,⟨hx,hxs⟩,by simp [hl],fun j y u hy hu=>?_⟩
  cases j with
  | zero=>simp at hy hu; subst hy hu; exact hr
  | succ j=>simp at hy hu; exact hrs j y u hy hu
theorem ly (hl:laidOutB P=true) (hb:Below W.heap.size W W'):∀ (ts:List TypeId) (vs:List Value) (ds:List (DataW H)) (ps:List MemPlace),(∀ t ∈ ts,P.readableRec t=true/\t < P.types.size)->(∀ p ∈ ps,p.block < W.heap.size) ->
  DataW.TrodAll enc P W 0 (fun _=>true) true ts vs ds ps->DataW.TrodAll enc P W' 0 (fun b=>decide (b < W.heap.size)) true ts vs ds ps
 | [],vs,ds,ps,hr,hlt,h=>by
  obtain ⟨rfl,rfl,rfl⟩:=trodAll_nil h
  rfl
 | t :: ts,vs,ds,ps,hr,hlt,h=>by
  obtain ⟨v,vs1,d,ds1,a,b,rfl,rfl,rfl,h1,h2⟩:=trodAll_cons h
  exact ⟨a,b,Below.trod hl (hr t DZ).1 (hr t DZ).2 h1 hb (fun p hp=>hlt p (List.mem_append_left _ hp)),ly hl hb ts vs1 ds1 b (fun t' ht'=>hr t' (D0 _ ht')) (fun p hp=>hlt p (List.mem_append_right _ hp)) h2,rfl⟩
theorem Cs {A:AProg} {G:Laid} (hA:A.Ok P G) (hG:G.P W (fun b=>b < W.heap.size)) {fid:FuncId} (hln:(A.lent fid,A.peek fid,A.turn fid,A.eye fid)=(none,none,false,false)) {f:Func} (hlaid:laidOutB P=true) (hpar:∀ t ∈ f.params.toList,ct P 24 t=true/\P.readableRec t=true/\t < P.types.size)
  {bt:TypeId} (hres:f.resultTypes=#[bt]) (hbt:P.underlying bt=some .bool) {s:ChangeSpec} (hvars:s.vars=[])
  (hs:∀ ds:List (DataW H),ds.length=f.params.size->s.fn H ds={ results:=[.lit (.bool true)],args:=ds })
  (hlaw:∀ xs,uV P f.params.toList xs->∃ n,acall A n fid xs=some (.lit (.bool true)))
  {args:Array Value} {ds gs:List (DataW H)} {before:List MemPlace} {base:Nat} (hval:∀ (j:Nat) t v,f.params[j]? = some t->args[j]? = some v->Value.okWide P W .any base t v)
  (hW:DataW.Whole enc P f.params.toList s.vars false W args.toList ds gs before) :
  Calls P fid args W fun e W'=>∃ v,e=.returned v/\s.post enc P f false true false false W args v W':=by
 have hW':=hW
 obtain ⟨p,q,hT,hV,hpq,hfz,hnd⟩:=hW
 rw [hvars] at hV
 have hgs:gs=[]/\q=[]:=trodVars_none hV
 obtain ⟨hg0,hq0⟩:=hgs
 subst hg0 hq0
 rw [List.append_nil] at hpq
 subst hpq
 obtain ⟨xs,hxs,hxl,hxr⟩:=mf f.params.toList args.toList ds before (fun t ht=>(hpar t ht).1) (fun j t v h1 h2=>hval j t v (by simpa using h1) (by simpa using h2)) hT
 obtain ⟨n,hn⟩:=hlaw xs hxs
 have hc:=((((((pl hA n fid xs _ hn).2 (Prod.mk.inj (Prod.mk.inj (Prod.mk.inj hln).2).2).1).2 (Prod.mk.inj (Prod.mk.inj (Prod.mk.inj hln).2).2).2).1 (Prod.mk.inj (Prod.mk.inj hln).2).1).1 (Prod.mk.inj hln).1).1 (fun b=>b < W.heap.size) W args hG (fun _ h=>h) (by simpa using hxl.symm) (fun j x hx=>by
  have hj:j < args.size:=by have:=(DS.1 hx).1; simp at hxl; omega
  exact hxr j x _ hx (by rw [DW,Array.getElem?_eq_getElem hj]; simp [hj]))).2
 refine hc.mono ?_
 rintro e W' ⟨v,rfl,hb,I2,S,_,_,_,_,hv⟩
 have:=a8 hv
 subst this
 have hlen:ds.length=f.params.size:=by
  have:∀ (ts:List TypeId) (vs:List Value) (ds:List (DataW H)) (ps:List MemPlace),DataW.TrodAll enc P W 0 (fun _=>true) true ts vs ds ps->ds.length=ts.length:=by
   intro ts
   induction ts with
   | nil=>intro vs ds ps h; obtain ⟨rfl,rfl,rfl⟩:=trodAll_nil h; rfl
   | cons t ts ih=>intro vs ds ps h; obtain ⟨v,vs1,d,ds1,a,b,rfl,rfl,rfl,h1,h2⟩:=trodAll_cons h; simp [ih _ _ _ h2]
  simpa using this _ _ _ _ hT
 have hlt:∀ p ∈ before,p.block < W.heap.size:=fun p hp=>hW'.lt p hp
 refine ⟨_,rfl,ds,[],before,[],before,[],hW',?_,?_,?_,?_,fun h=>by cases h⟩
 ·rw [List.append_nil,hs ds hlen,hres]
  exact trodAll_cons_mk (shut_bool hbt true) rfl
 ·rw [List.append_nil,hs ds hlen]
  exact ly hlaid hb _ _ _ _ (fun t ht=>(hpar t ht).2) hlt hT
 ·rw [List.append_nil,hs ds hlen,hvars]
  rfl
 ·exact World.keptBut_mono (fun p hp=>⟨hp,.inr (.inl hp)⟩) (hb.frame (· ∈ before))
end
end Go.Ab
end
section
namespace Go.Ab
open Go Go.Lib Go.RowKit
def Next (w:World) (v v':Value):Prop:=∀ k,v'.ownBlock=some k->v.ownBlock=some k\/w.heap.size<=k
section
variable {P:Program} (w:World)
theorem vW (t u ty e:TypeId) (i:TypeInfo) (ht:P.underlying t=some (.slice e)) (hu:P.underlying u=some .string) (hi:P.info? e=some i) (hz:i.zero=some (.int .u8 0)) (hsize:i.size=1) (hby:i.bytes=1)
  (v:Value) (n:Nat) (xs:List Value) (hown:w.ownsRowF 0 e 1 v n xs) (s:ByteArray) (h63:n + s.size<=maxLen) (hbytes:n + s.size<=140737488355328) {v':Value} {w':World}
  (hrun:(Builtin.append_ #[t,u] ty #[v,.string s]).run P w=.ok v' w'):Next w v v':=by
 intro k hk
 rcases hown.2 with ⟨rfl,rfl⟩ | ⟨g,cap,cur,fz,rfl,hbg,hg,hfz,hnc,hcm,hcs,htake⟩
 ·obtain ⟨v1,w1,h1,h2,_⟩:=run_append_own_stringF (P:=P) w w.heap.size t u ty e i ht hu hi hz hsize hby (.slice none 0 0) 0 xs ⟨hown.1,.inl ⟨rfl,rfl⟩⟩ s h63 hbytes (Nat.le_refl _)
  rw [hrun] at h1
  cases h1
  exact .inr (h2.lt k hk).1
 ·have hsmall:n + s.size<=9223372036854775807:=by simp only [maxLen] at h63; omega
  have hxl:xs.length=n:=by simpa using hown.1
  by_cases hroom:n + s.size<=cap
  ·have hcs':cur.size=cap:=by simpa using hcs
   have hr:=run_append_room_stringF (P:=P) w t u ty e i ht hu hi hsize g n cap cur fz hg (by simpa using hfz) s hroom (by omega)
   rw [hrun] at hr
   cases hr
   exact .inl hk
  ·have holds:∀ j u,xs[j]? = some u->w.cell? ((⟨g,0,none⟩:Addr).add j)=some u:=hown.cells (g:=g) rfl
   have hr:=run_append_grow_string (P:=P) w t u ty e i (.int .u8 0) ht hu hi hz ⟨g,0,none⟩ n cap xs (by rw [hsize]; simpa using hxl) holds s (by omega) (by omega) (by rw [hby]; exact growslice_fits (by omega) (by omega))
   rw [hrun] at hr
   cases hr
   simp [Value.ownBlock] at hk
   exact .inr (by omega)
theorem xM (t ty e:TypeId) (i:TypeInfo) (z:Value) (ht:P.underlying t=some (.slice e)) (hi:P.info? e=some i) (hz:i.zero=some z) (hsize:i.size=1) (hby:i.bytes=1) (hzs:z.cells.size=1)
  (v:Value) (n:Nat) (xs:List Value) (hown:w.ownsRowF 0 e 1 v n xs) (a:Addr) (m c:Nat) (news:List Value) (hl:news.length=m) (hnews:∀ j u,news[j]? = some u->w.cell? (a.add j)=some u) (h1:∀ u ∈ news,u.oneCell'=true)
  (h63:n + m<=maxLen) (hbytes:n + m<=140737488355328) {v':Value} {w':World} (hrun:(Builtin.append_ #[t,t] ty #[v,.slice (some a) m c]).run P w=.ok v' w'):Next w v v':=by
 intro k hk
 rcases hown.2 with ⟨rfl,rfl⟩ | ⟨g,cap,cur,fz,rfl,hbg,hg,hfz,hnc,hcm,hcs,htake⟩
 ·obtain ⟨v1,w1,r1,r2,_⟩:=run_append_ownF (P:=P) w w.heap.size t ty e i z 1 1 ht hi hz hsize hby hzs (by decide) (.slice none 0 0) 0 xs ⟨hown.1,.inl ⟨rfl,rfl⟩⟩ a m c news (by simpa using hl) hnews h1 h63 (by simpa using hbytes) (Nat.le_refl _)
  rw [hrun] at r1
  cases r1
  exact .inr (r2.lt k hk).1
 ·have hsmall:n + m<=9223372036854775807:=by simp only [maxLen] at h63; omega
  by_cases hroom:n + m<=cap
  ·have hfit:n * i.size + news.length<=cur.size:=by rw [hl,hcs,hsize]; omega
   have hr:=run_append_roomF (P:=P) w t ty e i ht hi g n cap cur fz hg (by rw [hsize]; exact hfz) a m c news (by rw [hl,hsize]; omega) hnews h1 hroom hfit
   rw [hrun] at hr
   cases hr
   exact .inl hk
  ·have holds:∀ j u,xs[j]? = some u->w.cell? ((⟨g,0,none⟩:Addr).add j)=some u:=hown.cells (g:=g) rfl
   have hr:=run_append_grow (P:=P) w t ty e i z ht hi hz ⟨g,0,none⟩ n cap xs (by rw [hsize]; exact hown.1) holds a m c news (by rw [hl,hsize]; omega) hnews (by omega) (by omega) (growslice_fits (by omega) (by rw [hby]; omega))
   rw [hrun] at hr
   cases hr
   simp [Value.ownBlock] at hk
   exact .inr (by omega)
end
section
variable {P:Program} {w:World} {ops:Array Oper} {rest:List Oper} {o:Oper} {a:Act} {Q:Exit->Act->World->Prop}
theorem pA (hgd:o.guard=none) (sl x:Operand) (t u:TypeId)
  (ho:o.op=.call { callee:=.builtin .append,args:=#[sl,x],argTypes:=#[t,u] })
  (e:TypeId) (i:TypeInfo) (ht:P.underlying t=some (.slice e)) (hu:P.underlying u=some .string) (hi:P.info? e=some i) (hz:i.zero=some (.int .u8 0)) (hsize:i.size=1) (hby:i.bytes=1)
  (v:Value) (n:Nat) (xs:List Value) (hs:a.eval sl=v) (hown:w.ownsRowF 0 e 1 v n xs) (s:ByteArray) (hx:a.eval x=.string s)
  (h63:n + s.size<=maxLen) (hbytes:n + s.size<=140737488355328)
  (h:∀ v' w',w'.ownsRowF 0 e 1 v' (n + s.size) (xs ++ strCells s)->w.grownBy w' v.ownBlock->Next w v v'->wpList P ops Q rest (a.put o.dst v') w'):wpList P ops Q (o :: rest) a w:=by
 refine wpList_plain hgd fun K hK=>?_
 obtain ⟨v',w',hr,h2,h3,_⟩:=run_append_own_stringF (P:=P) w 0 t u o.type e i ht hu hi hz hsize hby v n xs hown s h63 hbytes (Nat.zero_le _)
 have h4:=vW (P:=P) w t u o.type e i ht hu hi hz hsize hby v n xs hown s h63 hbytes hr
 unfold Oper.wp execOp
 simp only [ho,resolve,invoke,builtin,Sem.run_bind,Sem.run_pure,Result.andThen_ok,List.map_toArray,List.map_cons,List.map_nil,hs,hx,hr]
 exact hK _ _ (h v' w' h2 h3 h4)
theorem pz (hgd:o.guard=none) (sl x:Operand) (t:TypeId)
  (ho:o.op=.call { callee:=.builtin .append,args:=#[sl,x],argTypes:=#[t,t] })
  (e:TypeId) (i:TypeInfo) (z:Value) (ht:P.underlying t=some (.slice e)) (hi:P.info? e=some i) (hz:i.zero=some z) (hsize:i.size=1) (hby:i.bytes=1) (hzs:z.cells.size=1)
  (v:Value) (n:Nat) (xs:List Value) (hs:a.eval sl=v) (hown:w.ownsRowF 0 e 1 v n xs) (ad:Addr) (m c:Nat) (news:List Value) (hx:a.eval x=.slice (some ad) m c) (hl:news.length=m)
  (hnews:∀ j u,news[j]? = some u->w.cell? (ad.add j)=some u) (h1:∀ u ∈ news,u.oneCell'=true) (h63:n + m<=maxLen) (hbytes:n + m<=140737488355328)
  (h:∀ v' w',w'.ownsRowF 0 e 1 v' (n + m) (xs ++ news)->w.grownBy w' v.ownBlock->Next w v v'->wpList P ops Q rest (a.put o.dst v') w'):wpList P ops Q (o :: rest) a w:=by
 refine wpList_plain hgd fun K hK=>?_
 obtain ⟨v',w',hr,h2,h3,_⟩:=run_append_ownF (P:=P) w 0 t o.type e i z 1 1 ht hi hz hsize hby hzs (by decide) v n xs hown ad m c news (by simpa using hl) hnews h1 h63 (by simpa using hbytes) (Nat.zero_le _)
 have h4:=xM (P:=P) w t o.type e i z ht hi hz hsize hby hzs v n xs hown ad m c news hl hnews h1 h63 hbytes hr
 unfold Oper.wp execOp
 simp only [ho,resolve,invoke,builtin,Sem.run_bind,Sem.run_pure,Result.andThen_ok,List.map_toArray,List.map_cons,List.map_nil,hs,hx,hr]
 exact hK _ _ (h v' w' h2 h3 h4)
end
structure Exact (b:Nat) (v:Value) (w w':World):Prop where
 os:w'.os=w.os
 tape:w'.tape=w.tape
 output:w'.output=w.output
 size:w.heap.size<=w'.heap.size
 block:∀ k,k < w.heap.size->k≠b->v.ownBlock≠some k->w'.heap[k]? = w.heap[k]?
structure Bld (T e:TypeId) (b:Nat) (p v:Value) (bs:List Value) (w:World):Prop where
 first:p=.pointer none\/p=.pointer (some ⟨b,0,none⟩)
 heap:w.heap[b]? = some (.cells #[p,v] T (0,0))
 own:w.ownsRowF 0 e 1 v bs.length bs
 ne:v.ownBlock≠some b
theorem Exact.refl (b:Nat) (v:Value) (w:World):Exact b v w w:=⟨rfl,rfl,rfl,Nat.le_refl _,fun _ _ _ _=>rfl⟩
theorem Exact.setCell {b o:Nat} {v:Value} {w w1:World} (h:Exact b v w w1) (u:Value):Exact b v w (w1.setCell ⟨b,o,none⟩ u) :=
 ⟨h.os,h.tape,h.output,by simpa [World.setCell] using h.size,fun k hk hb hv=>by rw [Below.heap_setCell _ _ _ _ hb]; exact h.block k hk hb hv⟩
theorem Exact.grown {b:Nat} {v:Value} {w w1 w2:World} (h:Exact b v w w1) (hg:w1.grownBy w2 v.ownBlock):Exact b v w w2 :=
 ⟨hg.os.trans h.os, hg.tape.trans h.tape, hg.output.trans h.output, Nat.le_trans h.size hg.size, fun k hk hb hv => by
  rw [hg.block k (Nat.lt_of_lt_of_le hk h.size) (fun e=>hv e.symm)]; exact h.block k hk hb hv⟩
theorem Exact.alloc {b:Nat} {v:Value} {w w1:World} (h:Exact b v w w1) (o:Obj):Exact b v w (w1.alloc o) :=
 ⟨h.os, h.tape, h.output, Nat.le_trans h.size (by simp), fun k hk hb hv => by
  rw [Below.heap_alloc _ _ _ (Nat.lt_of_lt_of_le hk h.size)]; exact h.block k hk hb hv⟩
theorem Bld.lt {T e:TypeId} {b:Nat} {p v:Value} {bs:List Value} {w:World} (h:Bld T e b p v bs w):b < w.heap.size:=by
 rcases Nat.lt_or_ge b w.heap.size with h' | h'
 ·exact h'
 ·have:=h.heap; simp [Array.getElem?_eq_none h'] at this
theorem Bld.at {T e:TypeId} {b:Nat} {p v:Value} {bs:List Value} {w:World} (h:Bld T e b p v bs w):BuilderAtF T e 0 b p bs w:=⟨Nat.zero_le _,v,h.heap,h.own,h.ne⟩
theorem Bld.put {T e:TypeId} {b:Nat} {v v':Value} {bs':List Value} {w:World} (hb:w.heap[b]? = some (.cells #[.pointer (some ⟨b,0,none⟩),v] T (0,0))) (hown:w.ownsRowF 0 e 1 v' bs'.length bs') (hTe:T≠e) :
  Bld T e b (.pointer (some ⟨b,0,none⟩)) v' bs' (w.setCell ⟨b,1,none⟩ v'):=by
 obtain ⟨_,v1,h1,h2,h3⟩:=BuilderAtF.put (B:=0) (p:=.pointer (some ⟨b,0,none⟩)) (Nat.zero_le _) hb hown hTe
 have:(w.setCell ⟨b,1,none⟩ v').heap[b]? = some (.cells #[.pointer (some ⟨b,0,none⟩),v'] T (0,0)):=by
  simp [World.setCell,Array.getElem?_modify,hb]
 rw [this] at h1
 simp only [DU,Obj.cells.injEq,and_true] at h1
 have e1:v'=v1:=by simpa using h1
 subst e1
 exact ⟨.inr rfl,this,h2,h3⟩
theorem Exact.drew {b:Nat} {v:Value} {w w1:World} (h:Exact b v w w1):Exact b v w w1.drew:=⟨h.os,h.tape,h.output,h.size,h.block⟩
theorem Exact.freeze {b g:Nat} {v:Value} {w w1:World} (h:Exact b v w w1) (hg:v.ownBlock=some g) (n:Nat):Exact b v w (w1.freeze ⟨g,0,none⟩ n):=by
 unfold World.freeze
 split
 ·exact h
 ·refine ⟨h.os,h.tape,h.output,by simpa using h.size,fun k hk hb hv=>?_⟩
  have hne:k≠g:=fun e=>hv (by rw [hg,e])
  rw [<- h.block k hk hb hv]
  simp [Array.getElem?_modify,Ne.symm hne]
end Go.Ab
end
section
namespace Go.Ab
open Go Go.Lib Go.RowKit
theorem mN {x:TV} (h:x.bq=true):x=lS:=by
 unfold TV.bq at h
 split at h
 ·rfl
 ·cases h
section
variable {P:Program} {G:Laid} {f:FuncId}
theorem mH {T e:TypeId} {s s':ByteArray} {args:List TV} {r0:TV} {u:Value} (hr0:∀ w I,Rep w I r0 u) (henter:∀ vals w,(callFunc f vals).run P w=.ok (.enter f vals) w)
  (h : ∀ (b : Nat) (p v : Value) (w : World) (I : Nat → Prop) (vals : Array Value), Bld T e b p v (strCells s) w → vals.size = args.length + 1 → vals.getD 0 undef = .pointer (some ⟨b, 0, none⟩) → (∀ (j : Nat) (x : TV), args[j]? = some x → Rep w I x (vals.getD (j + 1) undef)) →
   Calls P f vals w fun e' w'=>e'=.returned u/\∃ p' v',Bld T e b p' v' (strCells s') w'/\Exact b v w w'/\Next w v v') :
  na P G ⟨T,[.may,.bf e]⟩ f (.tup [lS,.buf s e] :: args) (.tup [r0,.tup [lS,.buf s' e]]):=by
 refine ⟨_,_,_,_,rfl,rfl,fun I w b vals L hG hlt hL hV hsz h0 hargs=>⟨henter vals w,?_⟩⟩
 obtain ⟨hb,vs,ty,F,v1,v2,v3,v4,v5⟩:=hV
 obtain ⟨m1,m2,m3⟩:=v3 0 lS rfl
 obtain ⟨n1,n2,_⟩:=v3 1 (.buf s e) rfl
 have hty:ty=T:=m3 rfl
 subst hty
 have hp:vs.getD 0 undef=.pointer none\/vs.getD 0 undef=.pointer (some ⟨b,0,none⟩):=by
  rcases m1 with ⟨_,h⟩ | ⟨h,_⟩
  ·exact h
  ·cases h
 have hbuf:w.ownsRowF 0 e 1 (vs.getD 1 undef) s.size (strCells s)/\∀ k,(vs.getD 1 undef).ownBlock=some k->F 1 k:=by
  rcases n1 with ⟨h,_⟩ | ⟨_,h⟩
  ·cases h
  ·generalize vs.getD 1 undef=v at h
   cases h with
   | fr h =>
    cases h with
    | buf _ h0 =>
     refine ⟨⟨by rw [strCells_length]; omega,.inl ⟨rfl,h0⟩⟩,fun k hk=>by simp [af,Value.ownBlock] at hk⟩
   | buf h hS=>exact ⟨h,hS⟩
 have hvs:vs=#[vs.getD 0 undef,vs.getD 1 undef]:=by
  have h2:vs.size=2:=v2
  apply Array.ext
  ·simp [h2]
  ·intro i hi1 hi2
   have:i=0\/i=1:=by omega
   rcases this with rfl | rfl <;> simp [h2]
 have hB:Bld ty e b (vs.getD 0 undef) (vs.getD 1 undef) (strCells s) w:=⟨hp,by rw [v1]; congr 2,by rw [strCells_length]; exact hbuf.1,fun h=>(v4 1 b (hbuf.2 b h)).2 rfl⟩
 refine (h b _ _ w I vals hB (by simpa using hsz) h0 hargs).mono ?_
 rintro e' w' ⟨rfl,p',v',hB',hex,hnext⟩
 have hown:∀ k,(vs.getD 1 undef).ownBlock=some k->L k/\k≠b:=fun k hk=>v4 1 k (hbuf.2 k hk)
 refine ⟨u,rfl,⟨hex.os,hex.tape,hex.output,hex.size,fun k hk hl=>hex.block k hk (fun e=>hl (e ▸ hb)) (fun e=>hl (hown k e).1)⟩,I,fun k=>k=b\/v'.ownBlock=some k,fun _=>False,fun _ h=>h,fun k hk=>Nat.lt_of_lt_of_le (hlt k hk) hex.size,fun _ _ h=>h,fun k hk=>?_,.fr (hr0 _ _),.inl rfl,#[p',v'],ty,fun k b'=>k=1/\v'.ownBlock=some b',hB'.heap,rfl,fun k c hc=>?_,fun k b' hb'=>⟨.inr hb'.2,fun e=>hB'.ne (e ▸ hb'.2)⟩,fun k k' b' h1 h2=>h1.1.trans h2.1.symm⟩
 ·rcases hk with rfl | hk
  ·exact ⟨.inr hb,Nat.lt_of_lt_of_le (hL k hb).1 hex.size,(hL k hb).2⟩
  ·have hlt':k < w'.heap.size:=(hB'.own.lt k hk).2
   rcases hnext k hk with h1 | h1
   ·exact ⟨.inr (hown k h1).1,hlt',(hL k (hown k h1).1).2⟩
   ·exact ⟨.inl h1,hlt',fun h2=>by have:=hlt k h2; omega⟩
 ·match k,hc with
  | 0,hc =>
   simp at hc
   subst hc
   refine ⟨.inl ⟨rfl,hB'.first⟩,?_,fun _=>rfl⟩
   rcases hB'.first with rfl | rfl <;> rfl
  | 1,hc =>
   simp at hc
   subst hc
   have ho:=hB'.own
   rw [strCells_length] at ho
   refine ⟨.inr ⟨rfl,.buf ho (fun b' hb'=>⟨rfl,hb'⟩)⟩,?_,fun h=>by cases h⟩
   show v'.oneCell'=true
   rcases ho.2 with ⟨rfl,_⟩ | ⟨g,cap,cur,fz,rfl,_⟩ <;> rfl
theorem fE {fn : Func} (hfn : P.funcs[f]? = some fn) (hname : (fn.name == "runtime.NumGoroutine") = false) (hbody : fn.body.isSome = true) : ∀ vals w, (callFunc f vals).run P w = .ok (.enter f vals) w := fun vals w => by
 cases hb:fn.body with
 | none=>rw [hb] at hbody; cases hbody
 | some c =>
  simp only [callFunc,Sem.run_bind,run_program,Result.andThen_ok,hfn,hname,hb]
  simp
theorem xW {vals:Array Value} {a:Value} (h:vals.size=1) (h0:vals.getD 0 undef=a):vals=#[a]:=by
 apply Array.ext
 ·simp [h]
 ·intro i hi1 hi2
  have:i=0:=by omega
  subst this
  simp [h] at h0
  simp [h0]
theorem AE {vals:Array Value} {a b:Value} (h:vals.size=2) (h0:vals.getD 0 undef=a) (h1:vals.getD 1 undef=b):vals=#[a,b]:=by
 apply Array.ext
 ·simp [h]
 ·intro i hi1 hi2
  have:i=0\/i=1:=by omega
  rcases this with rfl | rfl
  ·simp [h] at h0
   simp [h0]
  ·simp [h] at h1
   simp [h1]
theorem un (s t:ByteArray):strCells (s ++ t)=strCells s ++ strCells t:=by
 simp [strCells,ByteArray.data_append]
theorem sq (s:ByteArray) (c:UInt8):strCells (s.push c)=strCells s ++ [.int .u8 c.toNat]:=by
 simp [strCells,ByteArray.push]
def Dv (P:Program):Laid where
 P w I := TabIs P w "internal/strconv.uint64pow10" .u64 pow10Tab ∧ ∀ g, P.globalNamed "internal/strconv.uint64pow10" = some g → I g
 mv:=by
  rintro w w' I I' hh hI ⟨h1,h2⟩
  refine ⟨?_,fun g hg=>hI g (h2 g hg)⟩
  unfold TabIs World.var? at h1 ⊢
  cases hg : P.globalNamed "internal/strconv.uint64pow10" with
  | none=>rw [hg] at h1; cases h1
  | some g =>
   rw [hg] at h1
   simp only [Option.bind_some] at h1 ⊢
   rw [hh g (h2 g hg)]
   exact h1
theorem wh (w:World) (k:Nat) (os:Array Obj):Below w.heap.size w (Sort.grow (w.drewN k) os) :=
 ⟨rfl, rfl, rfl, by simp [Sort.grow, World.drewN], fun i hi => by
  show (w.heap ++ os)[i]? = _
  rw [Array.getElem?_append_left hi]⟩
end
def fR (P:Program) (G:Laid) (lent:FuncId->Option dn) (pure:FuncId->Bool) (f:FuncId) (g:List TV->Option TV):Prop :=
 ∀ xs r,g xs=some r->(lent f=none->eM P G f xs r/\(pure f=true->aD r=true))/\∀ ld,lent f=some ld->na P G ld f xs r
section
variable {P:Program} {G:Laid} {lent:FuncId->Option dn} {pure:FuncId->Bool}
theorem fR.v {f:FuncId} {g:List TV->Option TV} {ld:dn} (hl:lent f=some ld) (h:∀ {xs r},g xs=some r->na P G ld f xs r):fR P G lent pure f g:=fun xs r hr =>
 ⟨fun h'=>(by rw [hl] at h'; cases h'),fun ld' h'=>(by rw [hl] at h'; cases h'; exact h hr)⟩
theorem fR.p {f:FuncId} {g:List TV->Option TV} (hl:lent f=none) (hp:pure f=false) (h:∀ {xs r},g xs=some r->eM P G f xs r):fR P G lent pure f g:=fun xs r hr =>
 ⟨fun _=>⟨h hr,fun h'=>(by rw [hp] at h'; cases h')⟩,fun ld' h'=>(by rw [hl] at h'; cases h')⟩
theorem CP:∀ (f:FuncId) (g:List TV->Option TV),(none:Option (List TV->Option TV))=some g->fR P G lent pure f g:=fun f e h=>by cases h
theorem fL {h:FuncId->Option (List TV->Option TV)} {k:FuncId} {g0:List TV->Option TV} (h1:fR P G lent pure k g0) (hr:∀ f g,h f=some g->fR P G lent pure f g):∀ f g,(bif Nat.beq f k then some g0 else h f)=some g->fR P G lent pure f g:=by
 intro f g he
 cases hk:Nat.beq f k with
 | true =>
  rw [hk] at he
  have:f=k:=Nat.eq_of_beq_eq_true hk
  subst this
  cases he
  exact h1
 | false=>rw [hk] at he; exact hr f g he
end
end Go.Ab
end
section
namespace Go.Ab
open Go Go.Lib Go.RowKit Go.Proofs Go.Shelf
variable {P:Program} {ρ:Ren}
def m8 (P:Program):Laid where
 P w I := (Dv P).P w I ∧ (∀ g, P.globalNamed "internal/bytealg.MaxLen" = some g → (∃ m, w.cell? ⟨g, 0, none⟩ = some (.int .i64 m)) ∧ I g) ∧
  (∀ n, n = "strconv.ErrSyntax" ∨ n = "strconv.ErrRange" → ∀ g, P.globalNamed n = some g → (∃ tp p, w.var? P n = some #[.iface tp p]) ∧ I g)
 mv:=by
  rintro w w' I I' hh hI ⟨h1,h2,h3⟩
  refine ⟨(Dv P).mv hh hI h1,fun g hg=>?_,fun n hn g hg=>?_⟩
  ·obtain ⟨⟨m,hm⟩,hI'⟩:=h2 g hg
   exact ⟨⟨m,by rw [World.cell?_of_block (hh g hI')]; exact hm⟩,hI g hI'⟩
  ·obtain ⟨⟨tp,p,hp⟩,hI'⟩:=h3 n hn g hg
   refine ⟨⟨tp,p,?_⟩,hI g hI'⟩
   unfold World.var? at hp ⊢
   rw [hg] at hp ⊢
   simp only [Option.bind_some] at hp ⊢
   rw [hh g hI']
   exact hp
theorem eM.wide {f:FuncId} {xs:List TV} {r:TV} (h:eM P (Dv P) f xs r):eM P (m8 P) f xs r:=fun I w vals hG=>h I w vals hG.1
theorem arrX3 {vals:Array Value} {a b c:Value} (h:vals.size=3) (h0:vals.getD 0 undef=a) (h1:vals.getD 1 undef=b) (h2:vals.getD 2 undef=c):vals=#[a,b,c]:=by
 apply Array.ext
 ·simp [h]
 ·intro i hi1 hi2
  have:i=0\/i=1\/i=2:=by omega
  rcases this with rfl | rfl | rfl
  ·simp [h] at h0
   simp [h0]
  ·simp [h] at h1
   simp [h1]
  ·simp [h] at h2
   simp [h2]
theorem oZ (w:World) (k:Nat):Below w.heap.size w (w.drewN k):=by
 exact ⟨rfl,rfl,rfl,by simp [World.drewN],fun i hi=>by simp [World.drewN]⟩
theorem Dt (L:LaysM.n145 P ρ) (henter:∀ vals w,(callFunc (ρ.f 145) vals).run P w=.ok (.enter (ρ.f 145) vals) w) {xs:List TV} {r:TV} (h:CV xs=some r):eM P (m8 P) (ρ.f 145) xs r:=by
 unfold CV at h
 split at h
 ·rename_i s p
  cases hc:Nat.blt s.size 4294967281 with
  | false=>rw [hc] at h; cases h
  | true =>
   rw [hc] at h
   simp only [cond_true,DU] at h
   subst h
   intro I w vals hG hlt hsz hargs
   have:=AE (by simpa using hsz) (aL (hargs 0 _ rfl)) (aL (hargs 1 _ rfl))
   subst this
   obtain ⟨⟨m,hm⟩,_⟩:=hG.2.1 _ L.m1
   refine ⟨henter _ w,(Any.strings_Cut { L with } s p m w (by simpa using hc) hm).mono ?_⟩
   rintro e w' ⟨rfl,n,rfl⟩
   refine ⟨_,rfl,oZ w n,I,fun _=>False,fun _ h=>h,fun b hb=>Nat.lt_of_lt_of_le (hlt b hb) (oZ w n).size,fun _ _ h=>h,fun _ h=>h.elim,.fr (.tup rfl ?_)⟩
   intro j c hj
   match j,hj with
   | 0,hj=>cases hj; exact .lit _
   | 1,hj=>cases hj; exact .lit _
   | 2,hj=>cases hj; exact .lit _
 ·cases h
theorem xN (l:List ByteArray) (k:Nat):(mz l)[k]? = (l[k]?).map fun s=>[TV.lit (.string s)]:=by
 simp [mz]
theorem xl (L:LaysM.n147 P ρ) (henter:∀ vals w,(callFunc (ρ.f 147) vals).run P w=.ok (.enter (ρ.f 147) vals) w) {xs:List TV} {r:TV} (h:kQ xs=some r):eM P (m8 P) (ρ.f 147) xs r:=by
 unfold kQ at h
 split at h
 ·rename_i s p n
  cases hc:Nat.blt s.size 4294967281 && (Nat.blt 0 p.size && decide (1<=n/\n<=9223372036854775807)) with
  | false=>rw [hc] at h; cases h
  | true =>
   rw [hc] at h
   simp only [cond_true,DU] at h
   subst h
   simp only [DV,decide_eq_true_eq,Nat.blt_eq] at hc
   obtain ⟨h1,h2,h3,h4⟩:=hc
   obtain ⟨k,rfl⟩:=Int.eq_ofNat_of_zero_le (show 0<=n by omega)
   intro I w vals hG hlt hsz hargs
   have:=arrX3 (by simpa using hsz) (aL (hargs 0 _ rfl)) (aL (hargs 1 _ rfl)) (aL (hargs 2 _ rfl))
   subst this
   obtain ⟨⟨m,hm⟩,_⟩:=hG.2.1 _ L.m1
   have hk1:1<=k:=by omega
   refine ⟨henter _ w,(Any.strings_SplitN { L with } L.i9 s p k m w h1 hm h2 hk1 (by omega)).mono ?_⟩
   rintro e w' ⟨rfl,rfl⟩
   have hlen:(Lib.splitB p 0 (min k (s.size + 1) - 1) s).length<=min k (s.size + 1):=by
    have:=Lib.splitB_length_le p 0 (min k (s.size + 1) - 1) s
    omega
   generalize hl:Lib.splitB p 0 (min k (s.size + 1) - 1) s=l at hlen
   have hcell:∀ j,j < l.length->∃ x,l[j]? = some x/\(Lib.cellsOf l (min k (s.size + 1)))[j]? = some (.string x):=by
    intro j hj
    refine ⟨l[j],DT hj,?_⟩
    simp only [Lib.cellsOf,List.getElem?_toArray]
    rw [D3 (by simpa using hj)]
    simp [DT hj]
   have hheap:(w.alloc (.cells (Lib.cellsOf l (min k (s.size + 1))) (ρ.t 9))).heap[w.heap.size]? = some (.cells (Lib.cellsOf l (min k (s.size + 1))) (ρ.t 9) (0,0)):=by
    show (w.heap.push _)[w.heap.size]? = _
    exact Array.getElem?_push_size
   refine ⟨_,rfl,cz w _,fun b=>I b\/b=w.heap.size,fun _=>False,fun _ h=>.inl h,?_,?_,fun _ h=>h.elim,.fr ?_⟩
   ·intro b hb
    have hs:(w.alloc (.cells (Lib.cellsOf l (min k (s.size + 1))) (ρ.t 9))).heap.size=w.heap.size + 1:=Array.size_push _
    rw [hs]
    rcases hb with hb | rfl
    ·exact Nat.lt_succ_of_lt (hlt b hb)
    ·exact Nat.lt_succ_self _
   ·intro b hb h'
    rcases h' with h' | rfl
    ·exact h'
    ·exact absurd hb (Nat.lt_irrefl _)
   ·have hl2:l.length=(mz l).length:=by simp [mz]
    rw [Int.toNat_natCast,hl,hl2]
    refine .sl (fun j=>(Lib.cellsOf l (min k (s.size + 1))).getD j undef) (fun _=>.inr rfl) (by rw [<- hl2]; exact hlen) (by unfold maxLen; omega) ?_ ?_ ?_ ?_
    ·intro x hx
     simp only [mz,List.mem_map] at hx
     obtain ⟨y,_,rfl⟩:=hx
     rfl
    ·intro j hj
     rw [<- hl2,Nat.mul_one] at hj
     obtain ⟨x,_,hx⟩:=hcell j hj
     have e:(⟨w.heap.size,0,none⟩:Addr).add j=⟨w.heap.size,j,none⟩:=by
      cases j <;> simp [Addr.add]
     rw [e]
     simp only [World.cell?,hheap,hx,D8,Option.getD_some]
     rfl
    ·intro j hj
     rw [<- hl2,Nat.mul_one] at hj
     obtain ⟨x,_,hx⟩:=hcell j hj
     simp only [D8,hx,Option.getD_some]
     rfl
    ·intro i x hi j c hj
     rw [xN] at hi
     cases hx:l[i]? with
     | none=>rw [hx] at hi; cases hi
     | some y =>
      rw [hx] at hi
      cases hi
      have hi':i < l.length:=by
       rw [DS] at hx
       exact hx.1
      match j,hj with
      | 0,hj =>
       cases hj
       obtain ⟨z,hz,hz'⟩:=hcell i hi'
       rw [hx] at hz
       cases hz
       simp only [D8,Nat.mul_one,Nat.add_zero,hz',Option.getD_some]
       exact .lit _
 ·cases h
end Go.Ab
end
section
set_option maxRecDepth 20000
namespace Go.Ab
open Go.Ab.Z14
theorem wv:∀ {w:List UInt8},plain w->Lib.index w [32]=-1
 | [],_=>rfl
 | c :: w,h=>by
  have h1:(c == 32)=false:=h c (by simp)
  have h2:=wv (w:=w) fun d hd=>h d (by simp [hd])
  have h3:¬ (32:UInt8)=c:=fun e=>by subst e; simp at h1
  simp [Lib.index,h2,h3]
theorem vS:∀ {w r:List UInt8},plain w->Lib.index (w ++ 32 :: r) [32]=(w.length:Nat)
 | [],r,_=>by simp [Lib.index]
 | c :: w,r,h=>by
  have h1:(c == 32)=false:=h c (by simp)
  have h2:=vS (w:=w) (r:=r) fun d hd=>h d (by simp [hd])
  have h3:¬ (32:UInt8)=c:=fun e=>by subst e; simp at h1
  have h4:¬ ((w.length:Nat):Int)=-1:=by omega
  rw [List.cons_append,Lib.index,h2]
  simp [h3,h4]
theorem rC:∀ (ts:List (List UInt8)) (k:Nat) (w:List UInt8),plain w->(∀ t,t ∈ ts->plain t)->ts.length<=k->Lib.splitK [32] 0 k (dV w ts)=w :: ts
 | [],0,w,_,_,_=>by simp [dV,Lib.splitK]
 | [],k + 1,w,h,_,_=>by simp [dV,Lib.splitK,wv h]
 | t :: ts,0,w,_,_,hk=>by simp at hk
 | t :: ts, k + 1, w, h, ht, hk => by
  have e:dV w (t :: ts)=w ++ 32 :: dV t ts:=by simp [dV]
  have hi:Lib.index (w ++ 32 :: dV t ts) [32]=(w.length:Nat):=vS h
  have h4:¬ ((w.length:Nat):Int)=-1:=by omega
  rw [e,Lib.splitK,hi]
  have ih:=rC ts k t (ht t (by simp)) (fun x hx=>ht x (by simp [hx])) (by simpa using hk)
  have e2:(w ++ 32 :: dV t ts).drop (((w.length:Nat):Int).toNat + [(32:UInt8)].length)=dV t ts:=by
   rw [Int.toNat_natCast,<- List.drop_drop,List.drop_left]; rfl
  have e3:(w ++ 32 :: dV t ts).take (((w.length:Nat):Int).toNat + 0)=w:=by rw [Int.toNat_natCast,Nat.add_zero,List.take_left]
  rw [e2,e3,ih]
  simp [h4]
def jK (s:List UInt8):List (List UInt8):=(Lib.splitB ⟨⟨[32]⟩⟩ 0 (min 14 (s.length + 1) - 1) ⟨⟨s⟩⟩).map (·.data.toList)
theorem og (s:List UInt8):jK s=Lib.splitK [32] 0 (min 14 (s.length + 1) - 1) s:=Lib.splitB_data _ _ _ _
theorem Ck (w:List UInt8) (ts:List (List UInt8)):ts.length<=(dV w ts).length:=by
 induction ts generalizing w with
 | nil=>simp
 | cons t ts ih =>
  have e:dV w (t :: ts)=w ++ 32 :: dV t ts:=by simp [dV]
  rw [e]
  have:=ih t
  simp only [List.length_append,List.length_cons]
  omega
theorem xa {w:List UInt8} {ts:List (List UInt8)} (h:plain w) (ht:∀ t,t ∈ ts->plain t) (hl:ts.length<=13):jK (dV w ts)=w :: ts:=by
 rw [og]
 exact rC ts _ w h ht (by have:=Ck w ts; omega)
theorem kt (s:List UInt8):∃ w ts,jK s=w :: ts/\ts.length<=13:=by
 have hlen:(jK s).length<=14:=by
  unfold jK
  rw [List.length_map]
  have:=Lib.splitB_length_le ⟨⟨[32]⟩⟩ 0 (min 14 (s.length + 1) - 1) ⟨⟨s⟩⟩
  omega
 rw [og] at hlen ⊢
 generalize min 14 (s.length + 1) - 1=k at hlen ⊢
 cases k with
 | zero=>exact ⟨s,[],rfl,by simp⟩
 | succ k =>
  rw [Lib.splitK] at hlen ⊢
  split
  ·exact ⟨s,[],rfl,by simp⟩
  ·rename_i h
   rw [if_neg h] at hlen
   exact ⟨_,_,rfl,by simpa using hlen⟩
theorem A6:∀ (l:List UInt8) (a:Nat),l.all fO=true->l.foldl (fun n c=>10 * n + (c.toNat - 48)) a<=65535->a<=l.foldl (fun n c=>10 * n + (c.toNat - 48)) a/\Lib.parseUintM 65535 a l=.ok (l.foldl (fun n c=>10 * n + (c.toNat - 48)) a)
 | [],a,_,h=>⟨Nat.le_refl _,rfl⟩
 | c :: l,a,hd,h=>by
  simp only [List.all_cons,DV] at hd
  have hc:48<=c.toNat/\c.toNat<=57:=of_decide_eq_true hd.1
  rw [List.foldl_cons] at h ⊢
  obtain ⟨h1,h2⟩:=A6 l _ hd.2 h
  refine ⟨by omega,?_⟩
  rw [Lib.parseUintM,if_pos hc,if_neg (by omega),if_neg (by omega),<- h2,Nat.mul_comm]
def puV (t:List UInt8):Int:=(ss ⟨⟨t⟩⟩:Nat)
theorem c9 (t:List UInt8):0<=puV t/\puV t<=65535:=by
 unfold puV ss
 split
 ·rename_i u hp
  have:=Lib.parseUintB_le hp
  omega
 ·exact ⟨by decide,by decide⟩
 ·exact ⟨by decide,by decide⟩
theorem Bi:∀ u:Nat,(Lib.decDigits u).all fO=true:=by
 intro u
 induction u using Nat.strongRecOn with
 | _ u ih =>
  rw [Lib.decDigits]
  split
  ·rename_i h
   have e:(UInt8.ofNat (48 + u)).toNat=48 + u:=by rw [UInt8.toNat_ofNat']; omega
   simp only [List.all_cons,List.all_nil,Bool.and_true,fO,e]
   exact decide_eq_true ⟨by omega,by omega⟩
  ·rename_i h
   have e:(UInt8.ofNat (48 + u % 10)).toNat=48 + u % 10:=by rw [UInt8.toNat_ofNat']; omega
   rw [List.all_append,ih (u / 10) (by omega)]
   simp only [List.all_cons,List.all_nil,Bool.and_true,fO,e,Bool.true_and]
   exact decide_eq_true ⟨by omega,by omega⟩
theorem qn {n:Int} (h0:0<=n) (h:n<=65535):puV (Lib.itoa n)=n:=by
 have hv:=wg n.toNat
 obtain ⟨h1,h2⟩:=A6 (Lib.decDigits n.toNat) 0 (Bi _) (by show d6 _<=_; rw [hv]; omega)
 have e:Lib.parseUintB 16 (Lib.itoa n)=.ok n.toNat:=by
  rw [rn h0,Lib.parseUintB,if_neg (xc _)]
  show Lib.parseUintM 65535 0 _=_
  rw [h2]
  exact congrArg Lib.NumEnd.ok hv
 unfold puV ss
 show ((match Lib.parseUintB 16 (Lib.itoa n) with | .ok u=>u | .range=>65535 | _=>0:Nat):Int)=n
 rw [e]
 show ((n.toNat:Nat):Int)=n
 omega
end Go.Ab
namespace Go.Ab.Z14
open Go Go.Ab Go.Proofs
theorem dR {t:List UInt8} (h:t.length<=4000000000):aw prog 48 [Sb t] (I (puV t)):=by
 refine aw.ext (g:=Cl) rfl ?_
 have:Nat.ble (ByteArray.mk ⟨t⟩).size 281474976710656=true:=by
  have e:(ByteArray.mk ⟨t⟩).size=t.length:=rfl
  rw [e,Nat.ble_eq]; omega
 simp only [Cl,this,cond_true]
 rfl
theorem xS {s:List UInt8} (h:s.length<=4000000000):∃ v,aw prog 19 [Sb s] v/\RStrs (some false) v (jK s):=by
 refine ⟨.sl false 1 (mz (Lib.splitB ⟨⟨[32]⟩⟩ 0 (min 14 (s.length + 1) - 1) ⟨⟨s⟩⟩)),?_,?_⟩
 ·refine aw.of (f19_MR _) ?_
  unfold f19_M
  refine aa.call (aw.ext (g:=kQ) rfl ?_) (aa.chk rfl aa.ret)
  have:Nat.blt (ByteArray.mk ⟨s⟩).size 4294967281=true:=by
   have e:(ByteArray.mk ⟨s⟩).size=s.length:=rfl
   rw [e,Nat.blt_eq]; omega
  simp only [kQ,this,Bool.true_and]
  rfl
 ·refine .sl (by simp) ?_ ?_
  ·unfold jK mz
   generalize Lib.splitB ⟨⟨[32]⟩⟩ 0 (min 14 (s.length + 1) - 1) ⟨⟨s⟩⟩=l
   induction l with
   | nil=>exact .nil
   | cons a l ih=>exact .cons rfl ih
  ·have:=Lib.splitB_length_le ⟨⟨[32]⟩⟩ 0 (min 14 (s.length + 1) - 1) ⟨⟨s⟩⟩
   simp only [mz,List.length_map]
   omega
end Go.Ab.Z14
end

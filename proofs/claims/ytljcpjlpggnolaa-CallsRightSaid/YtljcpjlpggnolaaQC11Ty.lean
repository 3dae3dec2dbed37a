import Derived.Test.YtljcpjlpggnolaaQM16
import Derived.ProofKit
import Derived.OpenShut
import Derived.Carry
import Derived.Deep.Slices
import Derived.Test.YtljcpjlpggnolaaQC11T
import Derived.Test.YtljcpjlpggnolaaProg
import Derived.WalkKit
import Derived.Deep.LoopGhost
import Derived.Deep.Draws
import Derived.Lib.Walk
import Derived.Lib.Small
import Derived.Shelf.SlSortCmp.NoneTotal
import Derived.Shelf.Sort.Plain
import Derived.Shelf.Slices.In.SortNone
import Derived.Ground.SlsfProg
import Derived.Ground.NamesProg
import Derived.Test.YtljcpjlpggnolaaQC11F162
set_option linter.all false
section
namespace Go.Ab
open Go.RowKit Go.ChangeShapes Go.WideShapes
inductive bv (P:Program):TypeId→List TV→Prop
 | int {t:TypeId} {k:IntKind} {n:Int} (hu:P.underlying t=some (.int k)) (hw:(Lit.int k n).wf=true):bv P t [.lit (.int k n)]
 | bool {t:TypeId} {b:Bool} (hu:P.underlying t=some .bool):bv P t [.lit (.bool b)]
 | str {t:TypeId} {s:ByteArray} (hu:P.underlying t=some .string) (hl:s.size≤maxLen):bv P t [.lit (.string s)]
 | nil {t e:TypeId} (hu:P.underlying t=some (.slice e)):bv P t [.lit aK]
 | sl {t e:TypeId} {xs:List (List TV)} (hu:P.underlying t=some (.slice e)) (hl:xs.length≤maxLen) (h:∀ (i:Nat) (x:List TV),xs[i]? = some x→bv P e x):bv P t [.sl false (P.cellsOf e) xs]
 | struct {t : TypeId} {fs : Array Field} {cs : List TV} (hu : P.underlying t = some (.struct fs)) (hl : cs.length = P.cellsOf t)
   (h:∀ (i:Nat) (f:Field),fs[i]? = some f→bv P f.type ((cs.drop f.offset).take (P.cellsOf f.type))):bv P t cs
 | arr {t e:TypeId} {n:Nat} {cs:List TV} (hu:P.underlying t=some (.array n e)) (hl:cs.length=P.cellsOf t) (h:∀ i,i < n→bv P e ((cs.drop (i * P.cellsOf e)).take (P.cellsOf e))):bv P t cs
def cZ (P:Program):Nat→TypeId→Bool
 | 0,_=>false
 | n + 1,t=>match P.underlying t with
  | some (.int _)=>P.cellsOf t == 1
  | some .bool=>P.cellsOf t == 1
  | some .string=>P.cellsOf t == 1
  | some (.slice e)=>(P.cellsOf t == 1 && decide (0 < P.cellsOf e)) && cZ P n e
  | some (.struct fs)=>fs.toList.all (fun f=>cZ P n f.type) && sideBySide P fs.toList 0 (P.cellsOf t)
  | some (.array m e)=>cZ P n e && (P.cellsOf t == m * P.cellsOf e)
  | _=>false
where
 sideBySide (P:Program):List Field→Nat→Nat→Bool
  | [],o,e=>o == e
  | f :: fs,o,e=>f.offset == o && sideBySide P fs (o + P.cellsOf f.type) e
section
variable {H:Type} {enc:TypeId × Value→H} {P:Program} {w:World} {spare:Nat→Bool} {held:Bool}
def dK (w:World) (I:Nat→Prop) (xs:List TV) (vs:List Value):Prop:=vs.length=xs.length∧∀ (j:Nat) (x:TV) (v:Value),xs[j]? = some x→vs[j]? = some v→Rep w I x v∧v.oneCell'=true
theorem dK.append {I:Nat→Prop} {a b:List TV} {x y:List Value} (h1:dK w I a x) (h2:dK w I b y):dK w I (a ++ b) (x ++ y):=by
 refine ⟨by simp [h1.1,h2.1],fun j c u hc hu=>?_⟩
 rw [List.getElem?_append] at hc hu
 rw [h1.1] at hu
 by_cases h:j < a.length
 ·simp only [h,if_true] at hc hu; exact h1.2 j c u hc hu
 ·simp only [h,if_false] at hc hu; exact h2.2 _ c u hc hu
theorem dK.one {I:Nat→Prop} {x:TV} {v:Value} (h:Rep w I x v) (h1:v.oneCell'=true):dK w I [x] [v]:=by
 refine ⟨rfl,fun j c u hc hu=>?_⟩
 cases j with
 | zero=>simp at hc hu; subst hc hu; exact ⟨h,h1⟩
 | succ j=>simp at hc
theorem Ff {α:Type} [Inhabited α] {n:Nat} {p:Nat→α→Prop} (h:∀ i,i < n→∃ x,p i x):∃ l:List α,l.length=n∧∀ i x,l[i]? = some x→p i x:=by
 obtain ⟨f,hf⟩:=Go.Deep.choose_lt h
 refine ⟨(List.range n).map f,by simp,fun i x hx=>?_⟩
 have hi:i < n:=by have:=(Gu.1 hx).1; simpa using this
 rw [GA,List.getElem?_range hi] at hx
 simp only [GH,Gw] at hx
 subst hx
 exact hf i hi
theorem len1 {v:Value} {n:Nat} (h:n=1):[v].length=n:=by rw [h]; rfl
theorem rF : ∀ (k : Nat) (t : TypeId) (fuel : Nat) (cs : List Value) (x : DataW H × List MemPlace), cZ P k t = true → DataW.trod enc P w 0 spare held fuel t cs = some x →
  ∃ xs:List TV,bv P t xs∧dK w (fun b=>b < w.heap.size) xs cs∧cs.length=P.cellsOf t
 | 0,t,fuel,cs,x,hp,h=>by simp [cZ] at hp
 | k + 1, t, fuel, cs, x, hp, h => by
  simp only [cZ] at hp
  cases hu:P.underlying t with
  | none=>simp [hu] at hp
  | some d =>
   simp only [hu] at hp
   cases d with
   | int kd =>
    obtain ⟨n,rfl,_,hw⟩:=DataW.trod_int hu h
    exact ⟨[.lit (.int kd n)],.int hu hw,.one (.lit _) rfl,len1 (by simpa using hp)⟩
   | bool =>
    obtain ⟨b,rfl,_⟩:=DataW.trod_bool hu h
    exact ⟨[.lit (.bool b)],.bool hu,.one (.lit _) rfl,len1 (by simpa using hp)⟩
   | string =>
    obtain ⟨s,rfl,_,hl⟩:=DataW.trod_string hu h
    exact ⟨[.lit (.string s)],.str hu hl,.one (.lit _) rfl,len1 (by simpa using hp)⟩
   | slice e =>
    simp only [Gx] at hp
    have hc1:P.cellsOf t=1:=by simpa using hp.1.1
    have hpe:0 < P.cellsOf e:=by simpa using hp.1.2
    rcases Go.Deep.open_slice hu h with ⟨rfl,_⟩ | ⟨a,len,cap,m,n,D,Pl,rfl,_,hle,hcm,hm,_,hel⟩
    ·exact ⟨[.lit aK],.nil hu,.one (.lit _) rfl,by rw [hc1]; rfl⟩
    ·have hlm:len≤m:=by rw [hm]; split <;> omega
     have each:∀ i,i < len→∃ p:List TV × List Value,bv P e p.1∧dK w (fun b=>b < w.heap.size) p.1 p.2∧p.2.length=P.cellsOf e∧∀ j,j < P.cellsOf e→w.cell? (a.add (i * P.cellsOf e + j))=p.2[j]? := by
      intro i hi
      obtain ⟨cs',hcs,ht⟩:=hel i (by omega)
      obtain ⟨ys,h1,h2,h3⟩:=rF k e n cs' _ hp.2 ht
      obtain ⟨_,hcl,hat⟩:=World.cells?_some hcs
      refine ⟨(ys,cs'),h1,h2,h3,fun j hj=>?_⟩
      rw [← hat j hj,Go.Ab.fk]
     obtain ⟨l,hl,hprop⟩:=Ff each
     have hsz:∀ (i:Nat) (p:List TV × List Value),l[i]? = some p→p.1.length=P.cellsOf e∧p.2.length=P.cellsOf e:=fun i p hp'=>by
      obtain ⟨_,h2,h3,_⟩:=hprop i p hp'
      exact ⟨by rw [← h2.1]; exact h3,h3⟩
     refine ⟨[.sl false (P.cellsOf e) (l.map (·.1))],.sl hu (by simp [hl]; omega) (fun i y hy=>?_),.one ?_ rfl,by rw [hc1]; rfl⟩
     ·rw [GA] at hy
      cases hli:l[i]? with
      | none=>simp [hli] at hy
      | some p=>simp only [hli,GH,Gw] at hy; subst hy; exact (hprop i p hli).1
     ·have hll:(l.map (·.1)).length=len:=by simp [hl]
      have cellAt:∀ q,q < len * P.cellsOf e→∃ i j p,i < len∧j < P.cellsOf e∧q=i * P.cellsOf e + j∧l[i]? = some p∧∃ u,p.2[j]? = some u∧w.cell? (a.add q)=some u∧u.oneCell'=true:=by
       intro q hq
       have hpos:0 < P.cellsOf e:=hpe
       have hi:q / P.cellsOf e < len:=Nat.div_lt_of_lt_mul (by rw [Nat.mul_comm]; exact hq)
       have hj:q % P.cellsOf e < P.cellsOf e:=Nat.mod_lt _ hpos
       have hq':q=q / P.cellsOf e * P.cellsOf e + q % P.cellsOf e:=by rw [Nat.mul_comm]; exact (Nat.div_add_mod q _).symm
       have hli:l[q / P.cellsOf e]? = some (l[q / P.cellsOf e]'(by rw [hl]; exact hi)):=Gv _
       obtain ⟨_,h2,h3,h4⟩:=hprop _ _ hli
       have hu':(l[q / P.cellsOf e]'(by rw [hl]; exact hi)).2[q % P.cellsOf e]? = some ((l[q / P.cellsOf e]'(by rw [hl]; exact hi)).2[q % P.cellsOf e]'(by rw [h3]; exact hj)):=Gv _
       have hx1:(l[q / P.cellsOf e]'(by rw [hl]; exact hi)).1[q % P.cellsOf e]? = some ((l[q / P.cellsOf e]'(by rw [hl]; exact hi)).1[q % P.cellsOf e]'(by rw [(hsz _ _ hli).1]; exact hj)):=Gv _
       refine ⟨_,_,_,hi,hj,hq',hli,_,hu',?_,(h2.2 _ _ _ hx1 hu').2⟩
       have:=h4 _ hj
       rw [← hq'] at this
       rw [this,hu']
      have key:Rep w (fun b=>b < w.heap.size) (.sl false (P.cellsOf e) (l.map (·.1))) (.slice (some a) (l.map (·.1)).length cap):=by
       refine .sl (fun q=>(w.cell? (a.add q)).getD undef) (fun hp'=>?_) (by rw [hll]; exact hle) hcm (fun y hy=>?_) (fun q hq=>?_) (fun q hq=>?_) (fun i y hy j c hj=>?_)
       ·rw [hll] at hp'
        obtain ⟨i,j,p,_,_,_,_,u,_,hu',_⟩:=cellAt 0 (Nat.mul_pos hp' hpe)
        have:=World.block_lt_of_cell? w _ hu'
        rwa [eR] at this
       ·obtain ⟨p,hp1,rfl⟩:=List.mem_map.1 hy
        obtain ⟨i,hi,rfl⟩:=List.mem_iff_getElem.1 hp1
        exact (hsz i _ (Gv hi)).1
       ·rw [hll] at hq
        obtain ⟨i,j,p,_,_,_,_,u,_,hu',_⟩:=cellAt q hq
        rw [hu']; rfl
       ·rw [hll] at hq
        obtain ⟨i,j,p,_,_,_,_,u,_,hu',h1⟩:=cellAt q hq
        rw [hu']; exact h1
       ·rw [GA] at hy
        cases hli:l[i]? with
        | none=>simp [hli] at hy
        | some p =>
         simp only [hli,GH,Gw] at hy
         subst hy
         obtain ⟨_,h2,h3,h4⟩:=hprop i p hli
         have hjs:j < P.cellsOf e:=by have:=(Gu.1 hj).1; have:=(hsz i p hli).1; omega
         have hu':p.2[j]? = some (p.2[j]'(by omega)):=Gv _
         rw [h4 j hjs,hu']
         exact (h2.2 j c _ hj hu').1
      rw [hll] at key
      exact key
   | struct fs =>
    simp only [Gx,List.all_eq_true] at hp
    obtain ⟨hall,hside⟩:=hp
    obtain ⟨ys,n,_,_,hlen,hyl,hf⟩:=DataW.trod_struct hu h
    have fields:∀ (l:List Field) (o e:Nat),(∀ f ∈ l,cZ P k f.type=true∧∃ y,DataW.trod enc P w 0 spare held n f.type ((cs.drop f.offset).take (P.cellsOf f.type))=some y)→cZ.sideBySide P l o e=true→e=cs.length →
      o≤e∧∃ xs:List TV,dK w (fun b=>b < w.heap.size) xs (cs.drop o)∧∀ (i:Nat) (f:Field),l[i]? = some f→o≤f.offset∧bv P f.type ((xs.drop (f.offset - o)).take (P.cellsOf f.type)):=by
     intro l
     induction l with
     | nil =>
      intro o e _ hs he
      have:o=e:=by simpa [cZ.sideBySide] using hs
      subst this
      subst he
      exact ⟨Nat.le_refl _,[],by simp [dK],fun i f hf=>by simp at hf⟩
     | cons f l ih =>
      intro o e hfs hs he
      simp only [cZ.sideBySide,Gx] at hs
      have hfo:f.offset=o:=by simpa using hs.1
      obtain ⟨hle,xs,hxs,hty⟩:=ih (o + P.cellsOf f.type) e (fun g hg=>hfs g (GC _ hg)) hs.2 he
      obtain ⟨hpf,y,hy⟩:=hfs f GB
      obtain ⟨zs,hz1,hz2,hz3⟩:=rF k f.type n _ y hpf hy
      rw [hfo] at hz2 hz3
      have hzl:zs.length=P.cellsOf f.type:=by rw [← hz2.1]; exact hz3
      refine ⟨by omega,zs ++ xs,?_,fun i g hg=>?_⟩
      ·have:cs.drop o=(cs.drop o).take (P.cellsOf f.type) ++ cs.drop (o + P.cellsOf f.type):=by
        rw [← List.drop_drop,List.take_append_drop]
       rw [this]
       exact hz2.append hxs
      ·cases i with
       | zero =>
        simp at hg
        subst hg
        refine ⟨by omega,?_⟩
        rw [hfo,Nat.sub_self,List.drop_zero,← hzl,List.take_left]
        exact hz1
       | succ i =>
        simp at hg
        obtain ⟨h1,h2⟩:=hty i g hg
        refine ⟨by omega,?_⟩
        rw [List.drop_append,List.drop_eq_nil_of_le (by omega),List.nil_append]
        rw [hzl,show g.offset - o - P.cellsOf f.type=g.offset - (o + P.cellsOf f.type) by omega]
        exact h2
    obtain ⟨_,xs,hxs,hty⟩:=fields fs.toList 0 (P.cellsOf t) (fun f hf'=>by
     obtain ⟨i,hi,rfl⟩:=List.mem_iff_getElem.1 hf'
     refine ⟨hall _ hf',?_⟩
     have hi':i < fs.size:=by simpa using hi
     have:=hf i _ (Array.getElem?_eq_getElem hi')
     rw [Array.getElem_toList,this]
     exact ⟨_,Gv (by omega)⟩) hside hlen.symm
    simp only [List.drop_zero] at hxs
    exact ⟨xs,.struct hu (by rw [← hxs.1]; exact hlen) (fun i f hf'=>by
     have:=(hty i f (by rw [Gy]; exact hf')).2
     simpa using this),hxs,hlen⟩
   | array m e =>
    simp only [Gx] at hp
    have hct:P.cellsOf t=m * P.cellsOf e:=by simpa using hp.2
    obtain ⟨ys,n,_,_,hlen,hyl,hf⟩:=DataW.trod_array hu h
    have parts : ∀ q, q ≤ m → ∃ xs : List TV, dK w (fun b => b < w.heap.size) xs (cs.take (q * P.cellsOf e)) ∧ ∀ i, i < q → bv P e ((xs.drop (i * P.cellsOf e)).take (P.cellsOf e)) := by
     intro q
     induction q with
     | zero=>intro _; exact ⟨[],by simp [dK],fun i hi=>by omega⟩
     | succ q ih =>
      intro hq
      obtain ⟨xs,h1,h2⟩:=ih (by omega)
      have hy:DataW.trod enc P w 0 spare held n e ((cs.drop (q * P.cellsOf e)).take (P.cellsOf e))=some (ys[q]'(by omega)):=by
       rw [hf q (by omega)]; exact Gv _
      obtain ⟨zs,hz1,hz2,hz3⟩:=rF k e n _ _ hp.1 hy
      have hzl:zs.length=P.cellsOf e:=by rw [← hz2.1]; exact hz3
      have hxl:xs.length=q * P.cellsOf e:=by
       rw [← h1.1,List.length_take,hlen,hct]
       exact Nat.min_eq_left (Nat.mul_le_mul_right _ (by omega))
      refine ⟨xs ++ zs,?_,fun i hi=>?_⟩
      ·have:cs.take ((q + 1) * P.cellsOf e)=cs.take (q * P.cellsOf e) ++ (cs.drop (q * P.cellsOf e)).take (P.cellsOf e):=by
        rw [Nat.add_mul,Nat.one_mul,List.take_add]
       rw [this]
       exact h1.append hz2
      ·by_cases hiq:i < q
       ·have hle:i * P.cellsOf e + P.cellsOf e≤xs.length:=by
         rw [hxl]
         have:(i + 1) * P.cellsOf e≤q * P.cellsOf e:=Nat.mul_le_mul_right _ hiq
         rw [Nat.add_mul] at this
         omega
        rw [List.drop_append_of_le_length (by omega),List.take_append_of_le_length (by simp; omega)]
        exact h2 i hiq
       ·have:i=q:=by omega
        subst this
        rw [← hxl,List.drop_left,← hzl,List.take_length]
        exact hz1
    obtain ⟨xs,h1,h2⟩:=parts m (Nat.le_refl _)
    rw [← hct,← hlen,List.take_length] at h1
    exact ⟨xs,.arr hu (by rw [← h1.1]; exact hlen) h2,h1,hlen⟩
   | _=>simp at hp
def AY (P:Program) (t:TypeId) (x:TV):Prop:=((∃ cs,x=.agg cs∧bv P t cs)∧((∃ fs,P.underlying t=some (.struct fs))∨∃ n e,P.underlying t=some (.array n e)))∨(bv P t [x]∧(∀ fs,P.underlying t≠some (.struct fs))∧∀ n e,P.underlying t≠some (.array n e))
theorem Dd {k:Nat} {t:TypeId} {v:Value} {d:DataW H} {ps:List MemPlace} {r:Reach} {b0:Nat} (hp:cZ P k t=true) (hv:Value.okWide P w r b0 t v) (h:DataW.Trod enc P w 0 spare held t v d ps) :
  ∃ x,AY P t x∧Rep w (fun b=>b < w.heap.size) x v:=by
 obtain ⟨fuel,hf⟩:=h
 obtain ⟨xs,hty,hrep,hlen⟩:=rF k t fuel _ _ hp hf
 have agg:∀ cs:Array Value,v=.agg cs→Rep w (fun b=>b < w.heap.size) (.agg xs) v:=fun cs hc=>by
  subst hc
  have hl:cs.size=xs.length:=by simpa [Value.cells] using hrep.1
  refine .agg hl (fun j hj=>?_) (fun j c hj=>?_)
  ·have h1:xs[j]? = some (xs[j]'(by omega)):=Gv _
   have h2:cs.toList[j]? = some (cs.getD j undef):=by rw [Gy,Array.getElem?_eq_getElem hj]; simp [hj]
   exact (hrep.2 j _ _ h1 h2).2
  ·have hj':j < cs.size:=by have:=(Gu.1 hj).1; omega
   have h2:cs.toList[j]? = some (cs.getD j undef):=by rw [Gy,Array.getElem?_eq_getElem hj']; simp [hj']
   exact (hrep.2 j _ _ hj h2).1
 have one:v.cells=#[v]→∃ y,xs=[y]∧Rep w (fun b=>b < w.heap.size) y v:=fun hc=>by
  rw [hc] at hrep
  match xs,hrep with
  | [y],hrep=>exact ⟨y,rfl,(hrep.2 0 y v rfl rfl).1⟩
  | [],hrep=>have:=hrep.1; simp at this
  | _ :: _ :: _,hrep=>have:=hrep.1; simp at this
 cases k with
 | zero=>simp [cZ] at hp
 | succ k =>
  simp only [cZ] at hp
  cases hu:P.underlying t with
  | none=>simp [hu] at hp
  | some desc =>
   simp only [hu] at hp
   cases desc with
   | int kd =>
    obtain ⟨n,rfl⟩:=okWide_int hu hv
    obtain ⟨y,rfl,hy⟩:=one rfl
    exact ⟨y,.inr ⟨hty,by simp [hu],by simp [hu]⟩,hy⟩
   | bool =>
    obtain ⟨n,rfl⟩:=okWide_bool hu hv
    obtain ⟨y,rfl,hy⟩:=one rfl
    exact ⟨y,.inr ⟨hty,by simp [hu],by simp [hu]⟩,hy⟩
   | string =>
    obtain ⟨n,rfl⟩:=okWide_string hu hv
    obtain ⟨y,rfl,hy⟩:=one rfl
    exact ⟨y,.inr ⟨hty,by simp [hu],by simp [hu]⟩,hy⟩
   | slice e =>
    obtain ⟨a,l,c,rfl⟩:=okWide_slice hu hv
    obtain ⟨y,rfl,hy⟩:=one rfl
    exact ⟨y,.inr ⟨hty,by simp [hu],by simp [hu]⟩,hy⟩
   | struct fs =>
    obtain ⟨cs,rfl,_⟩:=okWide_struct hu hv
    exact ⟨.agg xs,.inl ⟨⟨xs,rfl,hty⟩,.inl ⟨fs,hu⟩⟩,agg cs rfl⟩
   | array n e =>
    have hag:∃ cs,v=.agg cs:=by
     unfold Value.okWide at hv
     simp only [hu] at hv
     cases v <;> simp_all
    obtain ⟨cs,rfl⟩:=hag
    exact ⟨.agg xs,.inl ⟨⟨xs,rfl,hty⟩,.inr ⟨n,e,hu⟩⟩,agg cs rfl⟩
   | _=>simp at hp
end
end Go.Ab
end
section
namespace Go.Ab
open Go.RowKit Go.ChangeShapes Go.WideShapes
def wZ (P:Program):List TypeId→List TV→Prop
 | [],[]=>True
 | t :: ts,x :: xs=>AY P t x∧wZ P ts xs
 | _,_=>False
section
variable {H:Type} {enc:TypeId × Value→H} {P:Program} {W W':World}
theorem o7:∀ (ts:List TypeId) (vs:List Value) (ds:List (DataW H)) (ps:List MemPlace) {base:Nat},(∀ t ∈ ts,cZ P 24 t=true)→(∀ (j:Nat) t v,ts[j]? = some t→vs[j]? = some v→Value.okWide P W .any base t v) →
  DataW.TrodAll enc P W 0 (fun _=>true) true ts vs ds ps→∃ xs,wZ P ts xs∧xs.length=vs.length∧∀ (j:Nat) (x:TV) (v:Value),xs[j]? = some x→vs[j]? = some v→Rep W (fun b=>b < W.heap.size) x v
 | [],vs,ds,ps,base,hp,hv,h=>by
  obtain ⟨rfl,rfl,rfl⟩:=trodAll_nil h
  exact ⟨[],trivial,rfl,fun j x v hx=>by simp at hx⟩
 | t :: ts,vs,ds,ps,base,hp,hv,h=>by
  obtain ⟨v,vs1,d,ds1,a,b,rfl,rfl,rfl,h1,h2⟩:=trodAll_cons h
  obtain ⟨x,hx,hr⟩:=Dd (hp t GB) (hv 0 t v rfl rfl) h1
  obtain ⟨xs,hxs,hl,hrs⟩:=o7 ts vs1 ds1 b (fun t' ht'=>hp t' (GC _ ht')) (fun j t' v' h1' h2'=>hv (j + 1) t' v' (by simpa using h1') (by simpa using h2')) h2
  refine ⟨x :: xs,⟨hx,hxs⟩,by simp [hl],fun j y u hy hu=>?_⟩
  cases j with
  | zero=>simp at hy hu; subst hy hu; exact hr
  | succ j=>simp at hy hu; exact hrs j y u hy hu
theorem nu (hl:laidOutB P=true) (hb:Below W.heap.size W W'):∀ (ts:List TypeId) (vs:List Value) (ds:List (DataW H)) (ps:List MemPlace),(∀ t ∈ ts,P.readableRec t=true∧t < P.types.size)→(∀ p ∈ ps,p.block < W.heap.size) →
  DataW.TrodAll enc P W 0 (fun _=>true) true ts vs ds ps→DataW.TrodAll enc P W' 0 (fun b=>decide (b < W.heap.size)) true ts vs ds ps
 | [],vs,ds,ps,hr,hlt,h=>by
  obtain ⟨rfl,rfl,rfl⟩:=trodAll_nil h
  rfl
 | t :: ts,vs,ds,ps,hr,hlt,h=>by
  obtain ⟨v,vs1,d,ds1,a,b,rfl,rfl,rfl,h1,h2⟩:=trodAll_cons h
  exact ⟨a,b,Below.trod hl (hr t GB).1 (hr t GB).2 h1 hb (fun p hp=>hlt p (List.mem_append_left _ hp)),nu hl hb ts vs1 ds1 b (fun t' ht'=>hr t' (GC _ ht')) (fun p hp=>hlt p (List.mem_append_right _ hp)) h2,rfl⟩
theorem Dc {A:AProg} {G:Laid} (hA:A.Ok P G) (hG:G.P W (fun b=>b < W.heap.size)) {fid:FuncId} (hln:(A.lent fid,A.peek fid,A.turn fid,A.eye fid)=(none,none,false,false)) {f:Func} (hlaid:laidOutB P=true) (hpar:∀ t ∈ f.params.toList,cZ P 24 t=true∧P.readableRec t=true∧t < P.types.size)
  {bt:TypeId} (hres:f.resultTypes=#[bt]) (hbt:P.underlying bt=some .bool) {s:ChangeSpec} (hvars:s.vars=[])
  (hs:∀ ds:List (DataW H),ds.length=f.params.size→s.fn H ds={ results:=[.lit (.bool true)],args:=ds })
  (hlaw:∀ xs,wZ P f.params.toList xs→∃ n,acall A n fid xs=some (.lit (.bool true)))
  {args:Array Value} {ds gs:List (DataW H)} {before:List MemPlace} {base:Nat} (hval:∀ (j:Nat) t v,f.params[j]? = some t→args[j]? = some v→Value.okWide P W .any base t v)
  (hW:DataW.Whole enc P f.params.toList s.vars false W args.toList ds gs before) :
  Calls P fid args W fun e W'=>∃ v,e=.returned v∧s.post enc P f false true false false W args v W':=by
 have hW':=hW
 obtain ⟨p,q,hT,hV,hpq,hfz,hnd⟩:=hW
 rw [hvars] at hV
 have hgs:gs=[]∧q=[]:=trodVars_none hV
 obtain ⟨hg0,hq0⟩:=hgs
 subst hg0 hq0
 rw [List.append_nil] at hpq
 subst hpq
 obtain ⟨xs,hxs,hxl,hxr⟩:=o7 f.params.toList args.toList ds before (fun t ht=>(hpar t ht).1) (fun j t v h1 h2=>hval j t v (by simpa using h1) (by simpa using h2)) hT
 obtain ⟨n,hn⟩:=hlaw xs hxs
 have hc:=((((((qZ hA n fid xs _ hn).2 (Prod.mk.inj (Prod.mk.inj (Prod.mk.inj hln).2).2).1).2 (Prod.mk.inj (Prod.mk.inj (Prod.mk.inj hln).2).2).2).1 (Prod.mk.inj (Prod.mk.inj hln).2).1).1 (Prod.mk.inj hln).1).1 (fun b=>b < W.heap.size) W args hG (fun _ h=>h) (by simpa using hxl.symm) (fun j x hx=>by
  have hj:j < args.size:=by have:=(Gu.1 hx).1; simp at hxl; omega
  exact hxr j x _ hx (by rw [Gy,Array.getElem?_eq_getElem hj]; simp [hj]))).2
 refine hc.mono ?_
 rintro e W' ⟨v,rfl,hb,I2,S,_,_,_,_,hv⟩
 have:=aT hv
 subst this
 have hlen:ds.length=f.params.size:=by
  have:∀ (ts:List TypeId) (vs:List Value) (ds:List (DataW H)) (ps:List MemPlace),DataW.TrodAll enc P W 0 (fun _=>true) true ts vs ds ps→ds.length=ts.length:=by
   intro ts
   induction ts with
   | nil=>intro vs ds ps h; obtain ⟨rfl,rfl,rfl⟩:=trodAll_nil h; rfl
   | cons t ts ih=>intro vs ds ps h; obtain ⟨v,vs1,d,ds1,a,b,rfl,rfl,rfl,h1,h2⟩:=trodAll_cons h; simp [ih _ _ _ h2]
  simpa using this _ _ _ _ hT
 have hlt:∀ p ∈ before,p.block < W.heap.size:=fun p hp=>hW'.lt p hp
 refine ⟨_,rfl,ds,[],before,[],before,[],hW',?_,?_,?_,?_,fun h=>by cases h⟩
 ·rw [List.append_nil,hs ds hlen,hres]
  exact trodAll_cons_mk (shut_bool hbt true) rfl
 ·rw [List.append_nil,hs ds hlen]
  exact nu hlaid hb _ _ _ _ (fun t ht=>(hpar t ht).2) hlt hT
 ·rw [List.append_nil,hs ds hlen,hvars]
  rfl
 ·exact World.keptBut_mono (fun p hp=>⟨hp,.inr (.inl hp)⟩) (hb.frame (· ∈ before))
end
end Go.Ab
end
section
namespace Go.Ab
section
variable {P:Program}
theorem E3:∀ t e,ux [] t=some e→aS P t e:=fun t e h=>by simp [ux] at h
theorem DW {l:List (Nat × TyD)} {k:Nat} {d:TyD} (h1:tyOf P k=some d) (h:∀ t e,ux l t=some e→aS P t e):∀ t e,ux ((k,d) :: l) t=some e→aS P t e:=by
 intro t e he
 simp only [ux] at he
 cases hk:k.beq t with
 | true =>
  rw [hk] at he
  have:k=t:=Nat.eq_of_beq_eq_true hk
  subst this
  cases he
  exact aS.of h1
 | false=>rw [hk] at he; exact h t e he
def Fj (P : Program) (f : FuncId) (fn : Func) : Prop := P.funcs[f]? = some fn ∧ (fn.name == "runtime.NumGoroutine") = false ∧ fn.body.isSome = true
theorem fn_nil:∀ (f:FuncId) (e:Func),(none:Option Func)=some e→Fj P f e:=fun f e h=>by cases h
theorem aA {g : FuncId → Option Func} {k : FuncId} {fn : Func} (h1 : P.funcs[k]? = some fn) (h2 : (fn.name == "runtime.NumGoroutine") = false) (h3 : fn.body.isSome = true) (h : ∀ f e, g f = some e → Fj P f e) :
  ∀ f e,(bif Nat.beq f k then some fn else g f)=some e→Fj P f e:=by
 intro f e he
 cases hk:Nat.beq f k with
 | true =>
  rw [hk] at he
  have:f=k:=Nat.eq_of_beq_eq_true hk
  subst this
  cases he
  exact ⟨h1,h2,h3⟩
 | false=>rw [hk] at he; exact h f e he
theorem bv.EX {t:TypeId} {k:IntKind} {cs:List TV} (h:bv P t cs) (hu:P.underlying t=some (.int k)):∃ n,cs=[.lit (.int k n)]∧(Lit.int k n).wf=true:=by
 cases h with
 | int hu' hw=>rw [hu] at hu'; cases hu'; exact ⟨_,rfl,hw⟩
 | bool hu'=>rw [hu] at hu'; cases hu'
 | str hu'=>rw [hu] at hu'; cases hu'
 | nil hu'=>rw [hu] at hu'; cases hu'
 | sl hu'=>rw [hu] at hu'; cases hu'
 | struct hu'=>rw [hu] at hu'; cases hu'
 | arr hu'=>rw [hu] at hu'; cases hu'
theorem bv.FX {t:TypeId} {cs:List TV} (h:bv P t cs) (hu:P.underlying t=some .bool):∃ b,cs=[.lit (.bool b)]:=by
 cases h with
 | int hu' hw=>rw [hu] at hu'; cases hu'
 | bool hu'=>exact ⟨_,rfl⟩
 | str hu'=>rw [hu] at hu'; cases hu'
 | nil hu'=>rw [hu] at hu'; cases hu'
 | sl hu'=>rw [hu] at hu'; cases hu'
 | struct hu'=>rw [hu] at hu'; cases hu'
 | arr hu'=>rw [hu] at hu'; cases hu'
theorem F2.EZ {α:Type} {R:List TV→α→Prop}:∀ (xs:List (List TV)),(∀ (i:Nat) x,xs[i]? = some x→∃ a,R x a)→∃ l,F2 R xs l
 | [],_=>⟨[],.nil⟩
 | x :: xs,h=>by
  obtain ⟨a,ha⟩:=h 0 x rfl
  obtain ⟨l,hl⟩:=F2.EZ xs fun i y hy=>h (i + 1) y (by simpa using hy)
  exact ⟨a :: l,.cons ha hl⟩
theorem bv.zo {α:Type} {R:List TV→α→Prop} {t e:TypeId} {s:Nat} {cs:List TV} (h:bv P t cs) (hu:P.underlying t=some (.slice e)) (hs:P.cellsOf e=s) (hR:∀ x,bv P e x→∃ a,R x a):∃ x l,cs=[x]∧RL (some false) s R x l:=by
 subst hs
 cases h with
 | int hu' hw=>rw [hu] at hu'; cases hu'
 | bool hu'=>rw [hu] at hu'; cases hu'
 | str hu' hl=>rw [hu] at hu'; cases hu'
 | nil hu'=>exact ⟨_,[],rfl,.nil⟩
 | sl hu' hl h =>
  rw [hu] at hu'
  cases hu'
  obtain ⟨l,hl'⟩:=F2.EZ _ fun i x hx=>hR x (h i x hx)
  exact ⟨_,l,rfl,.sl (by simp) hl' (by have:maxLen=9223372036854775807:=rfl; omega)⟩
 | struct hu'=>rw [hu] at hu'; cases hu'
 | arr hu'=>rw [hu] at hu'; cases hu'
theorem bv.ja {t:TypeId} {fs:Array Field} {cs:List TV} (h:bv P t cs) (hu:P.underlying t=some (.struct fs)):cs.length=P.cellsOf t∧∀ (i:Nat) (f:Field),fs[i]? = some f→bv P f.type ((cs.drop f.offset).take (P.cellsOf f.type)):=by
 cases h with
 | int hu' hw=>rw [hu] at hu'; cases hu'
 | bool hu'=>rw [hu] at hu'; cases hu'
 | str hu' hl=>rw [hu] at hu'; cases hu'
 | nil hu'=>rw [hu] at hu'; cases hu'
 | sl hu'=>rw [hu] at hu'; cases hu'
 | struct hu' hl h=>rw [hu] at hu'; cases hu'; exact ⟨hl,h⟩
 | arr hu'=>rw [hu] at hu'; cases hu'
theorem wf_i64 {n:Int} (h:(Lit.int .i64 n).wf=true):inI n:=by
 simp only [Lit.wf,Gx,decide_eq_true_eq] at h
 exact h
theorem wf_u16 {n:Int} (h:(Lit.int .u16 n).wf=true):inW n:=by
 simp only [Lit.wf,Gx,decide_eq_true_eq] at h
 exact h
end
end Go.Ab
end
section
set_option maxRecDepth 100000
namespace Go.Ab
open Go.RowKit Go.Proofs
variable {P:Program} {t:TypeId} {name:String} {f:FuncId} {ti:TypeInfo} {m:Method} {el:TypeId}
theorem Fc (hi:P.info? t=some ti) (hm:ti.methods.find? (fun m=>m.name == name)=some m) (hp:m.path=#[]) (hf:m.func=some (f,true)) (hu:P.underlying t=some (.pointer el)):lU P t name f false:=by
 intro w p v hs hv
 show Sem.run P (method ((P.types.size + (Made.depth - 1)) + 1) t (.pointer (some p)) name) w=_
 rw [method]
 simp [run_typeInfo w hi,hm,hp,hf,follow,receiverAt,run_underlying hu,Place.get]
theorem DB (t : TypeId) (p : Addr) (s : String) : Builtin.ssaWrapNilChk_ #[t] t #[.pointer (some p), strVal "", strVal s] = pure (.pointer (some p)) := rfl
theorem FO (hi:P.info? t=some ti) (hm:ti.methods.find? (fun m=>m.name == name)=some m) (hp:m.path=#[]) (hf:m.func=some (f,false)) (hu:P.underlying t=some (.pointer el)) (ha:∀ w,(isAgg el).run P w=.ok false w):lU P t name f true:=by
 intro w p v hs hv
 show Sem.run P (method ((P.types.size + (Made.depth - 1)) + 1) t (.pointer (some p)) name) w=_
 rw [method]
 simp [run_typeInfo w hi,hm,hp,hf,follow,receiverAt,run_underlying hu,Place.get,DB,loadVar,ha,asAddr,hv rfl]
theorem DR {e:TypeId} {d:TypeDesc} (h:P.underlying e=some d) (h1:∀ fs,d≠.struct fs) (h2:∀ n x,d≠.array n x) (w:World):(isAgg e).run P w=.ok false w:=by
 cases d <;> first | exact absurd rfl (h1 _) | exact absurd rfl (h2 _ _) | simp [isAgg,run_underlying h]
theorem tA {d:Bool} (h:((P.info? t).bind fun ti=>(ti.methods.find? fun m=>m.name == name).map fun m=>(m.path.toList.length,m.func))=some (0,some (f,!d))) (hu:P.underlying t=some (.pointer el)) {de:TypeDesc} (he:P.underlying el=some de) (h1:∀ fs,de≠.struct fs) (h2:∀ n x,de≠.array n x):lU P t name f d:=by
 cases hi:P.info? t with
 | none=>rw [hi] at h; cases h
 | some ti =>
  rw [hi] at h
  have h:((ti.methods.find? fun m=>m.name == name).map fun m=>(m.path.toList.length,m.func))=some (0,some (f,!d)):=h
  cases hm:ti.methods.find? fun m=>m.name == name with
  | none=>rw [hm] at h; cases h
  | some m =>
   rw [hm] at h
   simp only [GH,Gw,Prod.mk.injEq] at h
   have hp:m.path=#[]:=by
    have:=h.1
    simpa using this
   cases d with
   | true=>exact FO hi hm hp h.2 hu (DR he h1 h2)
   | false=>exact Fc hi hm hp h.2 hu
end Go.Ab
namespace Go.Ab.C11
open Go Go.Ab Go.Proofs
theorem mth96 : lU Try.prog 71 "Len" 96 true := tA (el := 69) (de := .slice 3) (by kernel_rfl) (by kernel_rfl) (by kernel_rfl) (fun _ h => by cases h) fun _ _ h => by cases h
theorem mth97 : lU Try.prog 71 "Less" 97 true := tA (el := 69) (de := .slice 3) (by kernel_rfl) (by kernel_rfl) (by kernel_rfl) (fun _ h => by cases h) fun _ _ h => by cases h
theorem mth98 : lU Try.prog 71 "Swap" 98 true := tA (el := 69) (de := .slice 3) (by kernel_rfl) (by kernel_rfl) (by kernel_rfl) (fun _ h => by cases h) fun _ _ h => by cases h
theorem mth99 : lU Try.prog 71 "Pop" 99 false := tA (el := 69) (de := .slice 3) (by kernel_rfl) (by kernel_rfl) (by kernel_rfl) (fun _ h => by cases h) fun _ _ h => by cases h
theorem mth100 : lU Try.prog 71 "Push" 100 false := tA (el := 69) (de := .slice 3) (by kernel_rfl) (by kernel_rfl) (by kernel_rfl) (fun _ h => by cases h) fun _ _ h => by cases h
end Go.Ab.C11
end
section
set_option maxRecDepth 100000
namespace Go.Ab.C11
open Go Go.Ab Go.Proofs Go.RowKit Go.Lib
def sgn (a b:Int):Int:=if a < b then -1 else if b < a then 1 else 0
set_option maxHeartbeats 1000000 in
theorem Au (x:Int) (w:World):Calls Try.prog 63 #[.int .i64 x] w fun e w'=>e=.returned (.bool false)∧w'=w:=by
 go_enter Try.func63,Try.ntmps63
 go_wp2
 go_ret
 exact ⟨by simp,rfl⟩
set_option maxHeartbeats 1000000 in
theorem yO (x y:Int) (w:World):Calls Try.prog 57 #[.int .i64 x,.int .i64 y] w fun e w'=>e=.returned (.int .i64 (sgn x y))∧w'=w:=by
 go_enter Try.func57,Try.ntmps57
 go_wp2_with (go_at_call 63; refine (Au _ _).mono ?_; rintro e w' ⟨rfl,hw⟩; rw [hw])
 all_goals (go_ret; refine ⟨?_,rfl⟩; unfold sgn; (repeat' split) <;> first | rfl | (exfalso; omega))
theorem kx {xs:List Int} {k:Nat} (h:k < xs.length):xs.drop k=xs.getD k 0 :: xs.drop (k + 1):=by
 rw [List.drop_eq_getElem_cons h,GJ,Gv h]
 rfl
theorem Ez {xs ys:List Int} {k:Nat} {R:Int} (hk:k < xs.length) (hk':k < ys.length) (h:dJ (xs.drop k) (ys.drop k)=R) (he:sgn (xs.getD k 0) (ys.getD k 0)=0):dJ (xs.drop (k + 1)) (ys.drop (k + 1))=R:=by
 rw [kx hk,kx hk',dJ] at h
 unfold sgn at he
 split at he
 ·cases he
 ·rename_i h1
  split at he
  ·cases he
  ·rename_i h2
   rw [if_neg h1,if_neg h2] at h
   exact h
theorem Ea {xs ys:List Int} {k:Nat} {R:Int} (hk:k < xs.length) (hk':k < ys.length) (h:dJ (xs.drop k) (ys.drop k)=R) (he:¬ sgn (xs.getD k 0) (ys.getD k 0)=0):sgn (xs.getD k 0) (ys.getD k 0)=R:=by
 rw [kx hk,kx hk',dJ] at h
 unfold sgn at he ⊢
 split at he
 ·rename_i h1
  rw [if_pos h1] at h ⊢
  exact h
 ·rename_i h1
  split at he
  ·rename_i h2
   rw [if_neg h1,if_pos h2] at h ⊢
   exact h
  ·exact absurd rfl he
set_option maxHeartbeats 4000000 in
theorem wV (b1 o1 n c b2 o2 m d:Nat) (xs ys:List Int) (w:World) (hx:xs.length=n) (hy:ys.length=m) (hbig:n≤9223372036854775807) (hbig2:m≤9223372036854775807) (hc1:∀ j,j < xs.length→w.cell? ⟨b1,o1 + j,none⟩=some (.int .i64 (xs.getD j 0))) (hc2:∀ j,j < ys.length→w.cell? ⟨b2,o2 + j,none⟩=some (.int .i64 (ys.getD j 0))) :
  Calls Try.prog 39 #[.slice (some ⟨b1,o1,none⟩) n c,.slice (some ⟨b2,o2,none⟩) m d] w fun e w'=>e=.returned (.int .i64 (dJ xs ys))∧∃ q,w'=w.drewN q:=by
 obtain ⟨R,hR⟩:∃ R,dJ xs ys=R:=⟨_,rfl⟩
 have hR0:dJ (xs.drop 0) (ys.drop 0)=R:=by simpa using hR
 rw [hR]
 go_enter Try.func39,Try.ntmps39
 go_wp2
 go_loopg [11] n (fun g s11 wr=>∃ k q:Nat,k≤n∧k≤m∧n - k≤g∧s11=.int .i64 k∧wr=w.drewN q∧Aside (dJ (xs.drop k) (ys.drop k)=R))
 case atStart=>exact ⟨0,0,Nat.zero_le _,Nat.zero_le _,by omega,rfl,rfl,hR0⟩
 case round =>
  obtain ⟨k,q,hk,hkm,hg,rfl,rfl,heq⟩:=hrel
  by_cases hlt:k < n
  ·have g1:w.cell? ⟨b1,o1 + k,none⟩=some (.int .i64 (xs.getD k 0)):=hc1 k (by omega)
   by_cases hlt2:k < m
   ·have g2:w.cell? ⟨b2,o2 + k,none⟩=some (.int .i64 (ys.getD k 0)):=hc2 k (by omega)
    have A1:Aside (k < xs.length):=by rw [hx]; exact hlt
    have A2:Aside (k < ys.length):=by rw [hy]; exact hlt2
    clear hc1 hc2 hx hy
    generalize hxk:xs.getD k 0=x at g1
    generalize hyk:ys.getD k 0=y at g2
    have B:Aside (xs.getD k 0=x∧ys.getD k 0=y):=⟨hxk,hyk⟩
    clear hxk hyk
    by_cases hxy:sgn x y=0
    ·go_wp2_with (go_at_call 57; refine (yO _ _ _).mono ?_; rintro e w' ⟨rfl,rfl⟩)
     go_roundg (n - (k + 1))
     case measure=>omega
     case rel =>
      refine ⟨k + 1,q,by omega,by omega,by omega,by go_num,rfl,?_⟩
      exact Ez A1.out A2.out heq.out (by rw [B.out.1,B.out.2]; exact hxy)
    ·go_wp2_with (go_at_call 57; refine (yO _ _ _).mono ?_; rintro e w' ⟨rfl,rfl⟩)
     go_ret
     refine ⟨?_,q,rfl⟩
     have hh:=Ea A1.out A2.out heq.out (by rw [B.out.1,B.out.2]; exact hxy)
     rw [B.out.1,B.out.2] at hh
     rw [← hh]
     rfl
   ·clear hc1 hc2
    go_wp2
    go_ret
    refine ⟨?_,q,rfl⟩
    have hh:=heq.out
    rw [kx (by omega:k < xs.length),List.drop_eq_nil_of_le (by omega:ys.length≤k),dJ] at hh
    rw [← hh]
    rfl
  ·have:k=n:=by omega
   subst this
   clear hc1 hc2
   have hh:=heq.out
   rw [List.drop_eq_nil_of_le (by omega:xs.length≤k)] at hh
   by_cases hkm':k < m
   ·rw [kx (by omega:k < ys.length),dJ] at hh
    go_wp2
    go_ret
    refine ⟨?_,q,rfl⟩
    rw [← hh]
    rfl
   ·rw [List.drop_eq_nil_of_le (by omega:ys.length≤k),dJ] at hh
    go_wp2
    go_ret
    refine ⟨?_,q,rfl⟩
    rw [← hh]
    rfl
end Go.Ab.C11
end
section
namespace Go.Proofs
open Go.Shelf
def Try.CQ:Go.Shelf.Ren:=⟨fun | 6=>38 | 15=>31 | 14=>56 | 28=>49 | 29=>50 | 20=>66 | 21=>67 | 22=>68 | 23=>69 | 24=>70 | 25=>71 | 26=>72 | 27=>73 | 46=>76 | 47=>59 | 48=>60 | 49=>77 | 50=>78 | 57=>79 | n=>n,fun | 22=>34 | 24=>28 | 25=>79 | 3=>3 | 39=>68 | 0=>0 | 53=>90 | 55=>92 | 4=>4 | 46=>82 | 45=>81 | 50=>87 | 5=>5 | 9=>9 | 66=>105 | 70=>109 | 76=>120 | 77=>121 | n=>n,fun | n=>n⟩
theorem Try.sortL:Go.Proofs.SlLaysF.n6 Try.prog Try.CQ:={
 mixed:=by kernel_rfl
 f6:=⟨Try.f38.name,by decide,Try.func38.trans (congrArg some (by kernel_rfl))⟩
 f14:=⟨Try.f56.name,by decide,Try.func56.trans (congrArg some (by kernel_rfl))⟩
 f15:=Try.func31.trans (congrArg some (by kernel_rfl))
 f20:=⟨Try.f66.name,by decide,Try.func66.trans (congrArg some (by kernel_rfl))⟩
 f21:=⟨Try.f67.name,by decide,Try.func67.trans (congrArg some (by kernel_rfl))⟩
 f22:=⟨Try.f68.name,by decide,Try.func68.trans (congrArg some (by kernel_rfl))⟩
 f23:=⟨Try.f69.name,by decide,Try.func69.trans (congrArg some (by kernel_rfl))⟩
 f24:=⟨Try.f70.name,by decide,Try.func70.trans (congrArg some (by kernel_rfl))⟩
 f25:=⟨Try.f71.name,by decide,Try.func71.trans (congrArg some (by kernel_rfl))⟩
 f26:=⟨Try.f72.name,by decide,Try.func72.trans (congrArg some (by kernel_rfl))⟩
 f27:=⟨Try.f73.name,by decide,Try.func73.trans (congrArg some (by kernel_rfl))⟩
 f28:=Try.func49.trans (congrArg some (by kernel_rfl))
 f29:=Try.func50.trans (congrArg some (by kernel_rfl))
 f46:=⟨Try.f76.name,by decide,Try.func76.trans (congrArg some (by kernel_rfl))⟩
 f47:=Try.func59.trans (congrArg some (by kernel_rfl))
 f48:=Try.func60.trans (congrArg some (by kernel_rfl))
 f49:=⟨Try.f77.name,by decide,Try.func77.trans (congrArg some (by kernel_rfl))⟩
 f50:=⟨Try.f78.name,by decide,Try.func78.trans (congrArg some (by kernel_rfl))⟩
 f57:=⟨Try.f79.name,by decide,Try.func79.trans (congrArg some (by kernel_rfl))⟩
 t0:=Try.underlying0
 a0:=Try.isAgg0
 z0:=Try.sizeOf0
 v0:=Try.zeroValue0
 t3:=Try.underlying3
 a3:=Try.isAgg3
 z3:=Try.sizeOf3
 v3:=Try.zeroValue3
 t4:=Try.underlying4
 a4:=Try.isAgg4
 z4:=Try.sizeOf4
 v4:=Try.zeroValue4
 t5:=Try.underlying5
 a5:=Try.isAgg5
 z5:=Try.sizeOf5
 v5:=Try.zeroValue5
 t9:=Try.underlying9
 a9:=Try.isAgg9
 z9:=Try.sizeOf9
 v9:=Try.zeroValue9
 t22:=Try.underlying34
 a22:=Try.isAgg34
 z22:=Try.sizeOf34
 v22:=Try.zeroValue34
 a24:=Try.isAgg28
 z24:=Try.sizeOf28
 t25:=Try.underlying79
 a25:=Try.isAgg79
 z25:=Try.sizeOf79
 v25:=Try.zeroValue79
 t39:=Try.underlying68
 a39:=Try.isAgg68
 z39:=Try.sizeOf68
 v39:=Try.zeroValue68
 t45:=Try.underlying81
 a45:=Try.isAgg81
 z45:=Try.sizeOf81
 v45:=Try.zeroValue81
 t46:=Try.underlying82
 a46:=Try.isAgg82
 z46:=Try.sizeOf82
 v46:=Try.zeroValue82
 t50:=Try.underlying87
 a50:=Try.isAgg87
 z50:=Try.sizeOf87
 v50:=Try.zeroValue87
 t53:=Try.underlying90
 a53:=Try.isAgg90
 z53:=Try.sizeOf90
 v53:=Try.zeroValue90
 t55:=Try.underlying92
 a55:=Try.isAgg92
 z55:=Try.sizeOf92
 v55:=Try.zeroValue92
 t66:=Try.underlying105
 a66:=Try.isAgg105
 z66:=Try.sizeOf105
 v66:=Try.zeroValue105
 t70:=Try.underlying109
 a70:=Try.isAgg109
 z70:=Try.sizeOf109
 v70:=Try.zeroValue109
 t76:=Try.underlying120
 a76:=Try.isAgg120
 z76:=Try.sizeOf120
 v76:=Try.zeroValue120
 t77:=Try.underlying121
 a77:=Try.isAgg121
 z77:=Try.sizeOf121
 v77:=Try.zeroValue121 }
def Try.zn:Go.Shelf.Ren:=⟨fun | 189=>22 | 125=>31 | 257=>30 | 128=>49 | 129=>50 | 294=>40 | 295=>41 | 296=>42 | 297=>43 | 298=>44 | 299=>45 | 216=>46 | 300=>47 | 301=>48 | 328=>58 | 329=>59 | 330=>60 | 331=>61 | 332=>62 | 215=>63 | 343=>74 | n=>n,fun | 28=>28 | 3=>3 | 46=>68 | 0=>0 | 51=>90 | 53=>92 | 4=>4 | 183=>82 | 182=>81 | 131=>87 | 5=>5 | 9=>9 | 218=>105 | 222=>109 | 228=>120 | 229=>121 | n=>n,fun | n=>n⟩
theorem Try.lays189:Go.Proofs.Lays.n189 Try.prog Try.zn:={
 mixed:=by kernel_rfl
 f125:=Try.func31.trans (congrArg some (by kernel_rfl))
 f128:=Try.func49.trans (congrArg some (by kernel_rfl))
 f129:=Try.func50.trans (congrArg some (by kernel_rfl))
 f189:=Try.func22.trans (congrArg some (by kernel_rfl))
 f215:=Try.func63.trans (congrArg some (by kernel_rfl))
 f216:=Try.func46.trans (congrArg some (by kernel_rfl))
 f257:=Try.func30.trans (congrArg some (by kernel_rfl))
 f294:=Try.func40.trans (congrArg some (by kernel_rfl))
 f295:=Try.func41.trans (congrArg some (by kernel_rfl))
 f296:=Try.func42.trans (congrArg some (by kernel_rfl))
 f297:=Try.func43.trans (congrArg some (by kernel_rfl))
 f298:=Try.func44.trans (congrArg some (by kernel_rfl))
 f299:=Try.func45.trans (congrArg some (by kernel_rfl))
 f300:=Try.func47.trans (congrArg some (by kernel_rfl))
 f301:=Try.func48.trans (congrArg some (by kernel_rfl))
 f328:=Try.func58.trans (congrArg some (by kernel_rfl))
 f329:=Try.func59.trans (congrArg some (by kernel_rfl))
 f330:=Try.func60.trans (congrArg some (by kernel_rfl))
 f331:=Try.func61.trans (congrArg some (by kernel_rfl))
 f332:=Try.func62.trans (congrArg some (by kernel_rfl))
 f343:=Try.func74.trans (congrArg some (by kernel_rfl))
 t0:=Try.underlying0
 a0:=Try.isAgg0
 z0:=Try.sizeOf0
 v0:=Try.zeroValue0
 t3:=Try.underlying3
 a3:=Try.isAgg3
 z3:=Try.sizeOf3
 v3:=Try.zeroValue3
 t4:=Try.underlying4
 a4:=Try.isAgg4
 z4:=Try.sizeOf4
 v4:=Try.zeroValue4
 t5:=Try.underlying5
 a5:=Try.isAgg5
 z5:=Try.sizeOf5
 v5:=Try.zeroValue5
 t9:=Try.underlying9
 a9:=Try.isAgg9
 z9:=Try.sizeOf9
 v9:=Try.zeroValue9
 t28:=Try.underlying28
 a28:=Try.isAgg28
 z28:=Try.sizeOf28
 v28:=Try.zeroValue28
 t46:=Try.underlying68
 a46:=Try.isAgg68
 z46:=Try.sizeOf68
 v46:=Try.zeroValue68
 t51:=Try.underlying90
 a51:=Try.isAgg90
 z51:=Try.sizeOf90
 v51:=Try.zeroValue90
 t53:=Try.underlying92
 a53:=Try.isAgg92
 z53:=Try.sizeOf92
 v53:=Try.zeroValue92
 t131:=Try.underlying87
 a131:=Try.isAgg87
 z131:=Try.sizeOf87
 v131:=Try.zeroValue87
 t182:=Try.underlying81
 a182:=Try.isAgg81
 z182:=Try.sizeOf81
 v182:=Try.zeroValue81
 t183:=Try.underlying82
 a183:=Try.isAgg82
 z183:=Try.sizeOf82
 v183:=Try.zeroValue82
 t218:=Try.underlying105
 a218:=Try.isAgg105
 z218:=Try.sizeOf105
 v218:=Try.zeroValue105
 t222:=Try.underlying109
 a222:=Try.isAgg109
 z222:=Try.sizeOf109
 v222:=Try.zeroValue109
 t228:=Try.underlying120
 a228:=Try.isAgg120
 z228:=Try.sizeOf120
 v228:=Try.zeroValue120
 t229:=Try.underlying121
 a229:=Try.isAgg121
 z229:=Try.sizeOf121
 v229:=Try.zeroValue121 }
end Go.Proofs
end
section
set_option maxRecDepth 100000
namespace Go.Ab.C11
open Go Go.Ab Go.Proofs Go.Lib Go.RowKit
theorem ok_ty:∀ t d,tab t=some d→aS Try.prog t d:=by
 repeat refine DW (by kernel_rfl) ?_
 exact E3
theorem ok_fn:∀ f e,fns f=some e→Fj Try.prog f e:=by
 refine aA Try.func3 (by kernel_rfl) (by kernel_rfl) ?_
 refine aA Try.func6 (by kernel_rfl) (by kernel_rfl) ?_
 refine aA Try.func7 (by kernel_rfl) (by kernel_rfl) ?_
 refine aA Try.func8 (by kernel_rfl) (by kernel_rfl) ?_
 refine aA Try.func9 (by kernel_rfl) (by kernel_rfl) ?_
 refine aA Try.func10 (by kernel_rfl) (by kernel_rfl) ?_
 refine aA Try.func11 (by kernel_rfl) (by kernel_rfl) ?_
 refine aA Try.func12 (by kernel_rfl) (by kernel_rfl) ?_
 refine aA Try.func13 (by kernel_rfl) (by kernel_rfl) ?_
 refine aA Try.func14 (by kernel_rfl) (by kernel_rfl) ?_
 refine aA Try.func15 (by kernel_rfl) (by kernel_rfl) ?_
 refine aA Try.func16 (by kernel_rfl) (by kernel_rfl) ?_
 refine aA Try.func17 (by kernel_rfl) (by kernel_rfl) ?_
 refine aA Try.func18 (by kernel_rfl) (by kernel_rfl) ?_
 refine aA Try.func19 (by kernel_rfl) (by kernel_rfl) ?_
 refine aA Try.func20 (by kernel_rfl) (by kernel_rfl) ?_
 refine aA Try.func21 (by kernel_rfl) (by kernel_rfl) ?_
 refine aA Try.func23 (by kernel_rfl) (by kernel_rfl) ?_
 refine aA Try.func24 (by kernel_rfl) (by kernel_rfl) ?_
 refine aA Try.func25 (by kernel_rfl) (by kernel_rfl) ?_
 refine aA Try.func26 (by kernel_rfl) (by kernel_rfl) ?_
 refine aA Try.func27 (by kernel_rfl) (by kernel_rfl) ?_
 refine aA Try.func28 (by kernel_rfl) (by kernel_rfl) ?_
 refine aA Try.func29 (by kernel_rfl) (by kernel_rfl) ?_
 refine aA Try.func32 (by kernel_rfl) (by kernel_rfl) ?_
 refine aA Try.func33 (by kernel_rfl) (by kernel_rfl) ?_
 refine aA Try.func34 (by kernel_rfl) (by kernel_rfl) ?_
 refine aA Try.func35 (by kernel_rfl) (by kernel_rfl) ?_
 refine aA Try.func36 (by kernel_rfl) (by kernel_rfl) ?_
 refine aA Try.func37 (by kernel_rfl) (by kernel_rfl) ?_
 refine aA Try.func39 (by kernel_rfl) (by kernel_rfl) ?_
 refine aA Try.func51 (by kernel_rfl) (by kernel_rfl) ?_
 refine aA Try.func52 (by kernel_rfl) (by kernel_rfl) ?_
 refine aA Try.func53 (by kernel_rfl) (by kernel_rfl) ?_
 refine aA Try.func54 (by kernel_rfl) (by kernel_rfl) ?_
 refine aA Try.func55 (by kernel_rfl) (by kernel_rfl) ?_
 refine aA Try.func57 (by kernel_rfl) (by kernel_rfl) ?_
 refine aA Try.func63 (by kernel_rfl) (by kernel_rfl) ?_
 refine aA Try.func64 (by kernel_rfl) (by kernel_rfl) ?_
 refine aA Try.func65 (by kernel_rfl) (by kernel_rfl) ?_
 refine aA Try.func75 (by kernel_rfl) (by kernel_rfl) ?_
 refine aA Try.func96 (by kernel_rfl) (by kernel_rfl) ?_
 refine aA Try.func97 (by kernel_rfl) (by kernel_rfl) ?_
 refine aA Try.func98 (by kernel_rfl) (by kernel_rfl) ?_
 refine aA Try.func99 (by kernel_rfl) (by kernel_rfl) ?_
 refine aA Try.func100 (by kernel_rfl) (by kernel_rfl) ?_
 exact fn_nil
def noG:Laid:=⟨fun _ _=>True,fun _ _ _=>trivial⟩
theorem Eu:∀ f g xs r,ext f=some g→g xs=some r→turn f=true∧s7 Try.prog noG f xs r:=by
 intro f g xs r hg hr
 unfold ext at hg
 cases h0:f.beq 22 with
 | true =>
  rw [h0] at hg
  cases hg
  have e:=Nat.eq_of_beq_eq_true h0
  subst e
  exact ⟨rfl,xA Try.lays189 rfl (enters_of Try.func22 (by kernel_rfl) rfl) hr⟩
 | false =>
  rw [h0] at hg
  cases h1:f.beq 38 with
  | true =>
   rw [h1] at hg
   cases hg
   have e:=Nat.eq_of_beq_eq_true h1
   subst e
   exact ⟨rfl,wj Try.sortL rfl (enters_of Try.func38 (by kernel_rfl) rfl) (enters_of Try.func39 (by kernel_rfl) rfl) (fun b1 o1 n c b2 o2 m d xs ys w h1 h2 h3 h4 h5 h6=>wV b1 o1 n c b2 o2 m d xs ys w h1 h2 h3 h4 h5 h6) hr⟩
  | false =>
   rw [h1] at hg
   cases hg
theorem ok_mth:∀ t name f d,mth t name=some (f,d)→lU Try.prog t name f d:=by
 intro t name f d h
 unfold mth at h
 split at h
 ·rename_i hh
  obtain ⟨h1,rfl⟩:=hh
  have e:=Nat.eq_of_beq_eq_true h1
  subst e
  cases h
  exact mth96
 ·skip
  split at h
  ·rename_i hh
   obtain ⟨h1,rfl⟩:=hh
   have e:=Nat.eq_of_beq_eq_true h1
   subst e
   cases h
   exact mth97
  ·skip
   split at h
   ·rename_i hh
    obtain ⟨h1,rfl⟩:=hh
    have e:=Nat.eq_of_beq_eq_true h1
    subst e
    cases h
    exact mth98
   ·skip
    split at h
    ·rename_i hh
     obtain ⟨h1,rfl⟩:=hh
     have e:=Nat.eq_of_beq_eq_true h1
     subst e
     cases h
     exact mth99
    ·skip
     split at h
     ·rename_i hh
      obtain ⟨h1,rfl⟩:=hh
      have e:=Nat.eq_of_beq_eq_true h1
      subst e
      cases h
      exact mth100
     ·cases h
theorem ok:prog.Ok Try.prog noG:=⟨ok_ty,ok_fn,by kernel_rfl,fun f g xs r hg hr=>⟨fun _=>(Eu f g xs r hg hr).2,fun h=>by have h:turn f=false:=h; rw [(Eu f g xs r hg hr).1] at h; cases h⟩,ok_mth⟩
end Go.Ab.C11
end
section
set_option maxRecDepth 100000
namespace Go.Ab.C11
open Go Go.Ab Go.Proofs
theorem aB {cs:List TV} {n:Nat} (h:cs.length=n + 1):∃ c r,cs=c :: r∧r.length=n:=by
 cases cs with
 | nil=>simp at h
 | cons c r=>exact ⟨c,r,rfl,by simpa using h⟩
theorem nh {cs:List TV} (h:cs.length=0):cs=[]:=List.length_eq_zero_iff.1 h
theorem iM:Try.prog.cellsOf 3=1:=by kernel_rfl
theorem EE:Try.prog.cellsOf 39=1:=by kernel_rfl
theorem zQ:Try.prog.cellsOf 4=1:=by kernel_rfl
theorem Gl:Try.prog.cellsOf 41=7:=by kernel_rfl
theorem Gm:Try.prog.cellsOf 47=8:=by kernel_rfl
theorem Gp:Try.prog.cellsOf 45=4:=by kernel_rfl
theorem AL:Try.prog.cellsOf 49=14:=by kernel_rfl
theorem D3:Try.prog.cellsOf 38=3:=by kernel_rfl
theorem c_mod:Try.prog.cellsOf 24=1:=by kernel_rfl
theorem Dp:Try.prog.cellsOf 28=1:=by kernel_rfl
theorem Fp:Try.prog.cellsOf 43=1:=by kernel_rfl
theorem c_inss:Try.prog.cellsOf 42=1:=by kernel_rfl
theorem Da:Try.prog.cellsOf 36=1:=by kernel_rfl
theorem Fd:Try.prog.cellsOf 22=1:=by kernel_rfl
theorem Gn {cs:List TV} (h:bv Try.prog 3 cs):∃ n,RI1 cs n:=by
 obtain ⟨n,rfl,hw⟩:=h.EX Try.underlying3
 exact ⟨n,rfl,wf_i64 hw⟩
theorem C2 {cs:List TV} (h:bv Try.prog 39 cs):∃ n,RW1 cs n:=by
 obtain ⟨n,rfl,hw⟩:=h.EX Try.underlying39
 exact ⟨n,rfl,wf_u16 hw⟩
theorem fb {c:TV} (h:bv Try.prog 3 [c]):∃ n,c=I n∧inI n:=by
 obtain ⟨n,h1,h2⟩:=Gn h
 exact ⟨n,by simpa using h1,h2⟩
theorem FD {c:TV} (h:bv Try.prog 39 [c]):∃ n,c=W n∧inW n:=by
 obtain ⟨n,h1,h2⟩:=C2 h
 exact ⟨n,by simpa using h1,h2⟩
theorem xk {c:TV} (h:bv Try.prog 4 [c]):∃ b,c=B b:=by
 obtain ⟨b,h1⟩:=h.FX Try.underlying4
 exact ⟨b,by simpa using h1⟩
theorem Dx {c:TV} (h:bv Try.prog 28 [c]):∃ l,RInts (some false) c l:=by
 obtain ⟨x,l,hx,hl⟩:=h.zo Try.underlying28 iM fun _ h=>Gn h
 simp at hx; subst hx
 exact ⟨l,hl⟩
theorem Fq {c:TV} (h:bv Try.prog 43 [c]):∃ l,RWords (some false) c l:=by
 obtain ⟨x,l,hx,hl⟩:=h.zo Try.underlying43 EE fun _ h=>C2 h
 simp at hx; subst hx
 exact ⟨l,hl⟩
theorem h_ins {cs:List TV} (h:bv Try.prog 41 cs):∃ a,RIns (some false) cs a:=by
 obtain ⟨hl,hf⟩:=h.ja Try.underlying41
 rw [Gl] at hl
 obtain ⟨c0,cs,rfl,k0⟩:=aB hl
 obtain ⟨c1,cs,rfl,k1⟩:=aB k0
 obtain ⟨c2,cs,rfl,k2⟩:=aB k1
 obtain ⟨c3,cs,rfl,k3⟩:=aB k2
 obtain ⟨c4,cs,rfl,k4⟩:=aB k3
 obtain ⟨c5,cs,rfl,k5⟩:=aB k4
 obtain ⟨c6,cs,rfl,k6⟩:=aB k5
 obtain rfl:=nh k6
 obtain ⟨n0,rfl,g0⟩:=fb (c:=c0) (by have:=hf 0 _ rfl; simpa [iM] using this)
 obtain ⟨n1,rfl,g1⟩:=fb (c:=c1) (by have:=hf 1 _ rfl; simpa [iM] using this)
 obtain ⟨n2,rfl,g2⟩:=fb (c:=c2) (by have:=hf 2 _ rfl; simpa [iM] using this)
 obtain ⟨n3,rfl,g3⟩:=fb (c:=c3) (by have:=hf 3 _ rfl; simpa [iM] using this)
 obtain ⟨n4,rfl,g4⟩:=FD (c:=c4) (by have:=hf 4 _ rfl; simpa [EE] using this)
 obtain ⟨n5,rfl,g5⟩:=fb (c:=c5) (by have:=hf 5 _ rfl; simpa [iM] using this)
 obtain ⟨l,hls⟩:=Dx (c:=c6) (by have:=hf 6 _ rfl; simpa [Dp] using this)
 exact ⟨⟨n0,n1,n2,n3,n4,n5,l⟩,_,rfl,hls,g0,g1,g2,g3,g4,g5⟩
theorem h_end {cs:List TV} (h:bv Try.prog 47 cs):∃ a,REnd (some false) cs a:=by
 obtain ⟨hl,hf⟩:=h.ja Try.underlying47
 rw [Gm] at hl
 obtain ⟨c0,cs,rfl,k0⟩:=aB hl
 obtain ⟨c1,cs,rfl,k1⟩:=aB k0
 obtain ⟨c2,cs,rfl,k2⟩:=aB k1
 obtain ⟨c3,cs,rfl,k3⟩:=aB k2
 obtain ⟨c4,cs,rfl,k4⟩:=aB k3
 obtain ⟨c5,cs,rfl,k5⟩:=aB k4
 obtain ⟨c6,cs,rfl,k6⟩:=aB k5
 obtain ⟨c7,cs,rfl,k7⟩:=aB k6
 obtain rfl:=nh k7
 obtain ⟨n0,rfl,g0⟩:=fb (c:=c0) (by have:=hf 0 _ rfl; simpa [iM] using this)
 obtain ⟨n1,rfl,g1⟩:=fb (c:=c1) (by have:=hf 1 _ rfl; simpa [iM] using this)
 obtain ⟨n2,rfl,g2⟩:=fb (c:=c2) (by have:=hf 2 _ rfl; simpa [iM] using this)
 obtain ⟨n3,rfl,g3⟩:=fb (c:=c3) (by have:=hf 3 _ rfl; simpa [iM] using this)
 obtain ⟨l,hls⟩:=Dx (c:=c4) (by have:=hf 4 _ rfl; simpa [Dp] using this)
 obtain ⟨n5,rfl,g5⟩:=fb (c:=c5) (by have:=hf 5 _ rfl; simpa [iM] using this)
 obtain ⟨n6,rfl,g6⟩:=fb (c:=c6) (by have:=hf 6 _ rfl; simpa [iM] using this)
 obtain ⟨n7,rfl,g7⟩:=fb (c:=c7) (by have:=hf 7 _ rfl; simpa [iM] using this)
 exact ⟨⟨n0,n1,n2,n3,l,n5,n6,n7⟩,_,rfl,hls,g0,g1,g2,g3,g5,g6,g7⟩
theorem h_pad {cs:List TV} (h:bv Try.prog 45 cs):∃ a,RPad (some false) cs a:=by
 obtain ⟨hl,hf⟩:=h.ja Try.underlying45
 rw [Gp] at hl
 obtain ⟨c0,cs,rfl,k0⟩:=aB hl
 obtain ⟨c1,cs,rfl,k1⟩:=aB k0
 obtain ⟨c2,cs,rfl,k2⟩:=aB k1
 obtain ⟨c3,cs,rfl,k3⟩:=aB k2
 obtain rfl:=nh k3
 obtain ⟨n0,rfl,g0⟩:=fb (c:=c0) (by have:=hf 0 _ rfl; simpa [iM] using this)
 obtain ⟨l,hls⟩:=Fq (c:=c1) (by have:=hf 1 _ rfl; simpa [Fp] using this)
 obtain ⟨b2,rfl⟩:=xk (c:=c2) (by have:=hf 2 _ rfl; simpa [zQ] using this)
 obtain ⟨b3,rfl⟩:=xk (c:=c3) (by have:=hf 3 _ rfl; simpa [zQ] using this)
 exact ⟨⟨n0,l,b2,b3⟩,_,rfl,hls,g0⟩
theorem FM {cs:List TV} (h:bv Try.prog 49 cs):∃ a,RBlock (some false) cs a:=by
 obtain ⟨hl,hf⟩:=h.ja Try.underlying49
 rw [AL] at hl
 obtain ⟨c0,cs,rfl,k0⟩:=aB hl
 obtain ⟨c1,cs,rfl,k1⟩:=aB k0
 obtain ⟨c2,cs,rfl,k2⟩:=aB k1
 obtain ⟨c3,cs,rfl,k3⟩:=aB k2
 obtain ⟨c4,cs,rfl,k4⟩:=aB k3
 obtain ⟨c5,cs,rfl,k5⟩:=aB k4
 obtain ⟨c6,cs,rfl,k6⟩:=aB k5
 obtain ⟨c7,cs,rfl,k7⟩:=aB k6
 obtain ⟨c8,cs,rfl,k8⟩:=aB k7
 obtain ⟨c9,cs,rfl,k9⟩:=aB k8
 obtain ⟨c10,cs,rfl,k10⟩:=aB k9
 obtain ⟨c11,cs,rfl,k11⟩:=aB k10
 obtain ⟨c12,cs,rfl,k12⟩:=aB k11
 obtain ⟨c13,cs,rfl,k13⟩:=aB k12
 obtain rfl:=nh k13
 obtain ⟨b0,rfl⟩:=xk (c:=c0) (by have:=hf 0 _ rfl; simpa [zQ] using this)
 obtain ⟨p,cc,hp,hpc,hpd⟩:=h_pad (cs:=[c1,c2,c3,c4]) (by have:=hf 1 _ rfl; simpa [Gp] using this)
 obtain ⟨x,is,hx,his⟩:=bv.zo (cs:=[c5]) (by have:=hf 2 _ rfl; simpa [c_inss] using this) Try.underlying42 Gl fun _ h=>h_ins h
 obtain ⟨e,gg,he,heg,heo⟩:=h_end (cs:=[c6,c7,c8,c9,c10,c11,c12,c13]) (by have:=hf 3 _ rfl; simpa [Gm] using this)
 simp at hp hx he
 obtain ⟨rfl,rfl,rfl,rfl⟩:=hp
 subst hx
 obtain ⟨rfl,rfl,rfl,rfl,rfl,rfl,rfl,rfl⟩:=he
 exact ⟨⟨b0,p,is,e⟩,_,_,_,rfl,hpc,hpd,his,heg,heo⟩
theorem h_func {cs:List TV} (h:bv Try.prog 38 cs):∃ a,RFunc (some false) cs a:=by
 obtain ⟨hl,hf⟩:=h.ja Try.underlying38
 rw [D3] at hl
 obtain ⟨c0,cs,rfl,k0⟩:=aB hl
 obtain ⟨c1,cs,rfl,k1⟩:=aB k0
 obtain ⟨c2,cs,rfl,k2⟩:=aB k1
 obtain rfl:=nh k2
 obtain ⟨n0,rfl,g0⟩:=fb (c:=c0) (by have:=hf 0 _ rfl; simpa [iM] using this)
 obtain ⟨n1,rfl,g1⟩:=fb (c:=c1) (by have:=hf 1 _ rfl; simpa [iM] using this)
 obtain ⟨x,bs,hx,hbs⟩:=bv.zo (cs:=[c2]) (by have:=hf 2 _ rfl; simpa [Da] using this) Try.underlying36 AL fun _ h=>FM h
 simp at hx
 subst hx
 exact ⟨⟨n0,n1,bs⟩,_,rfl,hbs,g0,g1⟩
theorem h_mod {cs:List TV} (h:bv Try.prog 24 cs):∃ a,RMod (some false) cs a:=by
 obtain ⟨hl,hf⟩:=h.ja Try.underlying24
 rw [c_mod] at hl
 obtain ⟨c0,cs,rfl,k0⟩:=aB hl
 obtain rfl:=nh k0
 obtain ⟨x,fs,hx,hfs⟩:=bv.zo (cs:=[c0]) (by have:=hf 0 _ rfl; simpa [Fd] using this) Try.underlying22 D3 fun _ h=>h_func h
 simp at hx
 subst hx
 exact ⟨⟨fs⟩,_,rfl,hfs⟩
theorem v_mod {x:TV} (h:AY Try.prog 24 x):∃ cs m,x=.agg cs∧RMod (some false) cs m:=by
 rcases h with ⟨⟨cs,rfl,h⟩,_⟩ | ⟨_,h,_⟩
 ·obtain ⟨m,hm⟩:=h_mod h; exact ⟨cs,m,rfl,hm⟩
 ·exact absurd Try.underlying24 (h _)
theorem v_int {x:TV} (h:AY Try.prog 3 x):∃ n,x=I n∧inI n:=by
 rcases h with ⟨⟨cs,rfl,h⟩,h2⟩ | ⟨h,_,_⟩
 ·rcases h2 with ⟨fs,h2⟩ | ⟨n,e,h2⟩ <;> (rw [Try.underlying3] at h2; cases h2)
 ·exact fb h
end Go.Ab.C11
end

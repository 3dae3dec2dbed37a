import Derived.Test.YtljcpjlpggnolaaQC11F175
import Derived.Test.YtljcpjlpggnolaaQC11F167
set_option linter.all false
section
set_option maxRecDepth 10000
namespace Go.Ab
section
variable {m:DMod}
theorem rnT:∀ a b c,Rn (ofP m) a b→Rn (ofP m) b c→Rn (ofP m) a c:=fun a b c=>Rn.trans
theorem so {R:Nat→Nat→Prop} {N i j:Nat} {a b:List Nat} (hi:(comps R N)[i]? = some a) (hj:(comps R N)[j]? = some b) (hij:i < j):∃ x s y t,a=x :: s∧b=y :: t∧x < y:=by
 obtain ⟨h1,rfl⟩:=Gu.1 hi
 obtain ⟨h2,rfl⟩:=Gu.1 hj
 exact List.pairwise_iff_getElem.1 oM i j h1 h2 hij
open Classical in
noncomputable def gix (m:DMod) (n:Nat):Nat:=if h:∃ i g,(comps (Rn (ofP m)) m.funcs.length)[i]? = some g∧n ∈ g then h.choose else 0
theorem mA (m:DMod):CI m.funcs.length (comps (Rn (ofP m)) m.funcs.length) (gix m):=by
 have un:∀ {i j:Nat} {g g':List Nat} {n:Nat},(comps (Rn (ofP m)) m.funcs.length)[i]? = some g→(comps (Rn (ofP m)) m.funcs.length)[j]? = some g'→n ∈ g→n ∈ g'→i=j:=by
  intro i j g g' n hi hj hn hn'
  obtain ⟨a,ha,rfl⟩:=(dT rnT).1 (GD hi)
  obtain ⟨b,hb,rfl⟩:=(dT rnT).1 (GD hj)
  have e:ba (Rn (ofP m)) m.funcs.length a=ba (Rn (ofP m)) m.funcs.length b:=(gF rnT ha hn).symm.trans (gF rnT hb hn')
  rcases Nat.lt_trichotomy i j with h | h | h
  ·obtain ⟨x,s,y,t,e1,e2,h3⟩:=so hi hj h
   rw [e,e2] at e1
   cases e1
   omega
  ·exact h
  ·obtain ⟨x,s,y,t,e1,e2,h3⟩:=so hj hi h
   rw [← e,e2] at e1
   cases e1
   omega
 have ex:∀ n,n < m.funcs.length→∃ i g,(comps (Rn (ofP m)) m.funcs.length)[i]? = some g∧n ∈ g:=fun n hn=>by
  have hm:ba (Rn (ofP m)) m.funcs.length n ∈ comps (Rn (ofP m)) m.funcs.length:=(dT rnT).2 ⟨n,hn,rfl⟩
  obtain ⟨i,hi,e⟩:=List.mem_iff_getElem.1 hm
  exact ⟨i,_,by rw [Gv hi,e],bq.2 ⟨hn,.inl rfl⟩⟩
 refine ⟨fun g hg x hx=>?_,?_,fun g hg=>?_,fun n hn=>?_,fun i g n hi hn=>?_⟩
 ·obtain ⟨n,_,rfl⟩:=(dT rnT).1 hg
  exact (bq.1 hx).1
 ·unfold comps
  rw [List.length_map]
  exact Nat.le_trans (List.length_filter_le _ _) (by simp)
 ·obtain ⟨n,_,rfl⟩:=(dT rnT).1 hg
  unfold ba
  exact Nat.le_trans (List.length_filter_le _ _) (by simp)
 ·have h:=ex n hn
  unfold gix
  rw [dif_pos h]
  exact h.choose_spec
 ·have h:∃ i g,(comps (Rn (ofP m)) m.funcs.length)[i]? = some g∧n ∈ g:=⟨i,g,hi,hn⟩
  unfold gix
  rw [dif_pos h]
  obtain ⟨g',h1,h2⟩:=h.choose_spec
  exact un h1 hi h2 hn
noncomputable def fh (m:DMod) (l:List Nat):List Nat:=(l.map fun g=>(comps (Rn (ofP m)) m.funcs.length).getD g []).flatten
theorem iX {l:List Nat} (hl:∀ g ∈ l,g < (comps (Rn (ofP m)) m.funcs.length).length) {n:Nat}:n ∈ fh m l ↔ n < m.funcs.length∧gix m n ∈ l:=by
 have hC:=mA m
 unfold fh
 rw [List.mem_flatten]
 constructor
 ·rintro ⟨g,hg,hn⟩
  obtain ⟨i,hi,rfl⟩:=List.mem_map.1 hg
  have hil:=hl i hi
  have e:(comps (Rn (ofP m)) m.funcs.length)[i]? = some ((comps (Rn (ofP m)) m.funcs.length).getD i []):=by
   rw [GJ,Gv hil]; rfl
  exact ⟨hC.low _ (GD e) n hn,by rw [hC.un i _ n e hn]; exact hi⟩
 ·rintro ⟨hn,hi⟩
  obtain ⟨g,hg,hng⟩:=hC.ix n hn
  refine ⟨g,List.mem_map.2 ⟨_,hi,?_⟩,hng⟩
  rw [GJ,hg]
  rfl
theorem yo {a b:Nat} (ha:a < m.funcs.length) (hb:b < m.funcs.length):gix m a=gix m b ↔ b ∈ ba (Rn (ofP m)) m.funcs.length a:=by
 have hC:=mA m
 obtain ⟨g,hg,hag⟩:=hC.ix a ha
 obtain ⟨x,hx,rfl⟩:=(dT rnT).1 (GD hg)
 have e:=gF rnT hx hag
 constructor
 ·intro h
  obtain ⟨g',hg',hbg⟩:=hC.ix b hb
  rw [← h,hg] at hg'
  cases hg'
  rw [e]
  exact hbg
 ·intro h
  rw [e] at h
  exact (hC.un _ _ b hg h).symm
theorem xN {l:List Nat} (hl:∀ g ∈ l,g < (comps (Rn (ofP m)) m.funcs.length).length) {n:Nat} (hn:n < m.funcs.length) (hf:fX (Rn (ofP m)) m.funcs.length (fh m l) n):gix m n ∉ l∧∀ g',gix m n ∈ gS m (gix m) g' m.funcs.length→g' ∈ l:=by
 refine ⟨fun h=>hf.1 ((iX hl).2 ⟨hn,h⟩),fun g' hg'=>?_⟩
 obtain ⟨i,hi,e1,e2,k,hk,e3⟩:=oJ.1 hg'
 have hkN:=(Co.one hk).lt.2
 have hin:=(yo hn hi).1 e1
 have hnk:Rn (ofP m) n k:=by
  rcases (bq.1 hin).2 with e | ⟨h,_⟩
  ·subst e; exact .one hk
  ·exact .more h hk
 have hkn:¬ Rn (ofP m) k n:=fun h=>by
  have:=(yo hn hkN).2 (bq.2 ⟨hkN,.inr ⟨hnk,h⟩⟩)
  exact e2 (by rw [← e1,this,e3])
 have:=((iX hl).1 (hf.2 k hkN hnk hkn)).2
 rwa [e3] at this
theorem DL {P:List Nat} {W:Nat→Nat} (hK:KI (fun g=>gS m (gix m) g m.funcs.length) (comps (Rn (ofP m)) m.funcs.length).length P [] W []):∀ n,n < m.funcs.length→gix m n ∈ P:=by
 intro n hn
 have hl:∀ g ∈ P,g < (comps (Rn (ofP m)) m.funcs.length).length:=fun g hg=>hK.low g (List.mem_append.2 (.inl hg))
 refine Classical.byContradiction fun hno=>?_
 have hnd:n ∉ fh m P:=fun h=>hno ((iX hl).1 h).2
 obtain ⟨n',hn',hf⟩:=xl rnT (done:=fh m P) _ n (Nat.lt_succ_self _) hn hnd
 obtain ⟨h1,h2⟩:=xN hl hn' hf
 have hc:=(mA m).lt hn'
 have hw:W (gix m n')=0:=by
  rw [hK.wai _ hc]
  simp only [List.count_nil,Nat.add_zero]
  exact pR.2 fun g hg hm=>h2 g hm
 have:=(hK.zer _ hc).1 hw
 rw [List.append_nil] at this
 exact h1 this
theorem CL {P:List Nat} {W:Nat→Nat} (hK:KI (fun g=>gS m (gix m) g m.funcs.length) (comps (Rn (ofP m)) m.funcs.length).length P [] W []) :
  ∀ (r l:List Nat) (f:Nat),P=l ++ r→Dn (Rn (ofP m)) m.funcs.length (fh m l)→m.funcs.length≤(fh m l).length + f→(r.map fun g=>(comps (Rn (ofP m)) m.funcs.length).getD g [])=grps (Rn (ofP m)) m.funcs.length f (fh m l):=by
 have hC:=mA m
 have hall:=DL hK
 have hlP:∀ g ∈ P,g < (comps (Rn (ofP m)) m.funcs.length).length:=fun g hg=>hK.low g (List.mem_append.2 (.inl hg))
 intro r
 induction r with
 | nil =>
  intro l f hP hD hf
  rw [List.append_nil] at hP
  subst hP
  cases f with
  | zero=>rfl
  | succ f =>
   have:(List.range m.funcs.length).find? (fun n=>@decide (fX (Rn (ofP m)) m.funcs.length (fh m P) n) (Classical.propDecidable _))=none:=by
    refine List.find?_eq_none.2 fun x hx=>?_
    have hx:=List.mem_range.1 hx
    simp only [decide_eq_true_eq]
    exact fun hf=>hf.1 ((iX hlP).2 ⟨hx,hall x hx⟩)
   show []=grps _ _ (f + 1) _
   rw [grps,this]
 | cons g r ih =>
  intro l f hP hD hf
  have hll:∀ x ∈ l,x < (comps (Rn (ofP m)) m.funcs.length).length:=fun x hx=>hlP x (by rw [hP]; exact List.mem_append.2 (.inl hx))
  have hgG:=hlP g (by rw [hP]; exact List.mem_append.2 (.inr GB))
  obtain ⟨o1,o2⟩:=hK.ord l g r hP
  have hgl:g ∉ l:=fun hh=>by
   have hnd:=hK.nod
   rw [List.append_nil,hP] at hnd
   exact (List.nodup_append.1 hnd).2.2 g hh g GB rfl
  obtain ⟨grp,hgrp⟩:∃ grp,(comps (Rn (ofP m)) m.funcs.length)[g]? = some grp:=⟨_,Gv hgG⟩
  have hgd:(comps (Rn (ofP m)) m.funcs.length).getD g []=grp:=by rw [GJ,hgrp]; rfl
  obtain ⟨x0,hx0,he0⟩:=(dT rnT).1 (GD hgrp)
  obtain ⟨x,s,hxs⟩:∃ x s,grp=x :: s:=by
   have:x0 ∈ grp:=by rw [he0]; exact bq.2 ⟨hx0,.inl rfl⟩
   cases grp with
   | nil=>cases this
   | cons x s=>exact ⟨x,s,rfl⟩
  have hxg:x ∈ grp:=by rw [hxs]; exact GB
  have hxN:=hC.low grp (GD hgrp) x hxg
  have hxi:=hC.un g grp x hgrp hxg
  have hgx:grp=ba (Rn (ofP m)) m.funcs.length x:=by
   rw [he0] at hxg ⊢
   exact (gF rnT hx0 hxg).symm
  have hxd:x ∉ fh m l:=fun h=>hgl (by rw [← hxi]; exact ((iX hll).1 h).2)
  have reach:∀ k,Rn (ofP m) x k→k ∈ grp∨k ∈ fh m l:=by
   have out:∀ b c,b ∈ grp→ofP m b c→c ∈ grp∨c ∈ fh m l:=fun b c hb he=>by
    have hbN:=(Co.one he).lt.1
    have hcN:=(Co.one he).lt.2
    have hbi:=hC.un g grp b hgrp hb
    by_cases hcg:gix m c=g
    ·obtain ⟨g',hg',hc⟩:=hC.ix c hcN
     rw [hcg,hgrp] at hg'
     cases hg'
     exact .inl hc
    ·exact .inr ((iX hll).2 ⟨hcN,o1 (gix m c) (hC.lt hcN) (oJ.2 ⟨b,hbN,hbi.symm,by rw [hbi]; exact fun e=>hcg e.symm,c,he,rfl⟩)⟩)
   intro k hk
   induction hk with
   | one he=>exact out x _ hxg he
   | @more b c _ he ih =>
    rcases ih with hb | hb
    ·exact out b c hb he
    ·exact .inr (hD.cls b hb c (.one he) (Co.one he).lt.2)
  have hfree:fX (Rn (ofP m)) m.funcs.length (fh m l) x:=⟨hxd,fun k hk h1 h2=>by
   rcases reach k h1 with h | h
   ·rw [hgx] at h
    rcases (bq.1 h).2 with e | ⟨_,h3⟩
    ·subst e; exact absurd h1 h2
    ·exact absurd h3 h2
   ·exact h⟩
  have hfirst:∀ y,y < x→¬ fX (Rn (ofP m)) m.funcs.length (fh m l) y:=fun y hy hfy=>by
   have hyN:y < m.funcs.length:=by omega
   obtain ⟨h1,h2⟩:=xN hll hyN hfy
   have hle:=o2 (gix m y) (hC.lt hyN) h1 fun g' _ hm=>h2 g' hm
   obtain ⟨gy,hgy,hyg⟩:=hC.ix y hyN
   obtain ⟨y0,hy0,he⟩:=(dT rnT).1 (GD hgy)
   have hsrt:=oD (Rn (ofP m)) m.funcs.length y0
   rw [← he] at hsrt
   rcases Nat.lt_or_eq_of_le hle with h | h
   ·obtain ⟨a,s',b,t,e1,e2,hab⟩:=so hgrp hgy h
    rw [hxs] at e1
    cases e1
    rw [e2] at hyg hsrt
    rcases List.mem_cons.1 hyg with e | hyt
    ·omega
    ·have:=(List.pairwise_cons.1 hsrt).1 y hyt
     omega
   ·rw [← h,hgrp] at hgy
    cases hgy
    rw [hxs] at hyg hsrt
    rcases List.mem_cons.1 hyg with e | hyt
    ·omega
    ·have:=(List.pairwise_cons.1 hsrt).1 y hyt
     omega
  cases f with
  | zero =>
   exfalso
   have:=dO m.funcs.length (l:=x :: fh m l) (List.nodup_cons.2 ⟨hxd,hD.nod⟩) fun z hz=>by
    rcases List.mem_cons.1 hz with rfl | hz
    ·exact hxN
    ·exact hD.low z hz
   rw [List.length_cons] at this
   omega
  | succ f =>
   have hfind:(List.range m.funcs.length).find? (fun n=>@decide (fX (Rn (ofP m)) m.funcs.length (fh m l) n) (Classical.propDecidable _))=some x:=by
    rw [List.find?_eq_some_iff_getElem]
    refine ⟨by simpa using hfree,x,by simpa using hxN,by simp,fun j hj=>?_⟩
    have:=hfirst j hj
    simpa using this
   have hfns:fh m (l ++ [g])=fh m l ++ ba (Rn (ofP m)) m.funcs.length x:=by
    unfold fh
    rw [List.map_append,List.flatten_append]
    simp only [List.map_cons,List.map_nil,List.flatten_cons,List.flatten_nil,List.append_nil]
    rw [hgd,hgx]
   have hD':=hD.step rnT hxN hfree
   rw [← hfns] at hD'
   have hpos:0 < (ba (Rn (ofP m)) m.funcs.length x).length:=List.length_pos_of_mem (bq.2 ⟨hxN,.inl rfl⟩)
   have:=ih (l ++ [g]) f (by rw [hP]; simp) hD' (by rw [hfns,List.length_append]; omega)
   rw [grps,hfind]
   show (comps (Rn (ofP m)) m.funcs.length).getD g [] :: r.map (fun g=>(comps (Rn (ofP m)) m.funcs.length).getD g [])=ba (Rn (ofP m)) m.funcs.length x :: grps (Rn (ofP m)) m.funcs.length f (fh m l ++ ba (Rn (ofP m)) m.funcs.length x)
   rw [hgd,this,hfns,← hgx]
end
end Go.Ab
namespace Go.Ab.C11
open Go Go.Ab Go.Proofs
theorem BV {q:Option Bool} {b:TV} {m:DMod} (hb:RL q 3 (RFunc q) b m.funcs) (hs:kS m):∃ y,bu prog 15 [.agg [b]] y∧RL (some true) 1 (RII (some false)) y ((grps (Rn (ofP m)) m.funcs.length m.funcs.length []).map af):=by
 obtain ⟨v0,v1,g1,g2,g3⟩:=rWebOf hb hs
 have f0:=g2.frz (S:=RII (some false)) fun _ _ h=>h.frz
 have f1:=g3.frz (S:=RII (some false)) fun _ _ h=>h.frz
 obtain ⟨w,k1,k2⟩:=C3 f0 f1 hs.1
 have fw:=k2.frz (S:=RII (some false)) fun _ _ h=>h.frz
 obtain ⟨y,P,W,r1,r2,r3⟩:=rRow f0 hs.1 (mA m) (c1:=Go.Ab.frz v1) fw
 have hnil:fh m []=[]:=rfl
 have e:=CL r3 P [] m.funcs.length rfl (by rw [hnil]; exact ⟨fun a h=>(by cases h),List.Pairwise.nil,fun a h=>(by cases h)⟩) (by simp)
 rw [hnil] at e
 refine ⟨y,?_,by rw [← e,List.map_map]; exact r2⟩
 have s0:=g2.isSl
 have s1:=g3.isSl
 refine bu.of (f15_MR _) ?_
 unfold f15_M
 exact aa.chk rfl (aa.call g1 (aa.chk (by simp [ab,z60,aY,TV.cellsL,s0,s1]; rfl) (aa.call k1 (aa.chk (aG k2.isSl) (aa.call r1 (aa.chk (aG r2.isSl) aa.ret))))))
end Go.Ab.C11
end
section
set_option maxRecDepth 10000
namespace Go.Ab
section
variable {m:DMod}
noncomputable def gsM (m:DMod):List (List Nat):=grps (Rn (ofP m)) m.funcs.length m.funcs.length []
open Classical in
noncomputable def pix (m:DMod) (n:Nat):Nat:=if h:∃ i g,(gsM m)[i]? = some g∧n ∈ g then h.choose else 0
end
end Go.Ab
namespace Go.Ab.C11
open Go Go.Ab Go.Proofs
section
variable {b:TV} {m:DMod} (hb:RL (some false) 3 (RFunc (some false)) b m.funcs) (hs:kS m)
include hb hs
section
variable {w:TV} (hw:RInts (some true) w (bR m.funcs.length fun n=>(pix m n:Int)))
include hw
end
section
variable {w3:TV} (h3:RL (some true) 1 (RII (some false)) w3 ((gsM m).map af))
include h3
end
end
end Go.Ab.C11
end
section
set_option maxRecDepth 10000
namespace Go.Ab
def Cf (k:Nat) (x:DIns):Prop:=x.op=11∧x.f=(k:Int)
def D1 (k:Nat) (b:DBlock):Prop:=(∃ x ∈ b.ins,Cf k x)∨b.fin.kind=4∧b.fin.f=(k:Int)
open Classical in
noncomputable def dP (p:Prop):Bool:=decide p
theorem em {p:Prop} (h:p):dP p=true:=@decide_eq_true p (Classical.propDecidable p) h
theorem iy {p:Prop} (h:¬ p):dP p=false:=@decide_eq_false p (Classical.propDecidable p) h
theorem jo {p q:Prop} (h:p ↔ q):dP p=dP q:=by rw [propext h]
theorem FZ (p q:Prop):dP (p∨q)=(dP p || dP q):=by
 by_cases hp:p
 ·rw [em (.inl hp),em hp,Bool.true_or]
 ·rw [iy hp,Bool.false_or]
  exact jo ⟨fun h=>h.elim (fun h=>absurd h hp) id,.inr⟩
theorem E7 {p:Prop} (h:dP p=true):p:=Classical.byContradiction fun hn=>by rw [iy hn] at h; cases h
theorem EP {p:Prop} (h:dP p=false):¬ p:=fun hp=>by rw [em hp] at h; cases h
theorem za {α:Type} {l:List α} {i:Nat} {x:α} (h:l[i]? = some x) (p:α→Prop):dP (∃ y ∈ l.drop i,p y)=(dP (p x) || dP (∃ y ∈ l.drop (i + 1),p y)):=by
 obtain ⟨hi,e⟩:=Gu.1 h
 rw [List.drop_eq_getElem_cons hi,e,← FZ]
 apply jo
 constructor
 ·rintro ⟨y,hy,hp⟩
  rcases List.mem_cons.1 hy with e | hy
  ·subst e; exact .inl hp
  ·exact .inr ⟨y,hy,hp⟩
 ·rintro (hp | ⟨y,hy,hp⟩)
  ·exact ⟨x,GB,hp⟩
  ·exact ⟨y,GC _ hy,hp⟩
theorem AP {α:Type} {l:List α} {p:α→Prop}:dP (∃ y ∈ l.drop l.length,p y)=false:=by
 rw [List.drop_length]
 exact iy fun ⟨y,hy,_⟩=>by cases hy
open Classical in
theorem yb (u:DFunc) (k:Nat):ofF u (k + 1)=ofF u k ++ (if jV u k then [(k:Int)] else []):=by
 unfold ofF
 rw [List.range_succ,List.filter_append,List.map_append]
 by_cases h:jV u k <;> simp [h]
structure TI (m:DMod) (a:Int) (l:List Nat) (at_:Nat):Prop where
 nod:l.Nodup
 frm:∀ k ∈ l,CoI m a k
 start:∀ k:Nat,(k:Int) ∈ ofL m a→k ∈ l
 clo:∀ i,i < at_→∀ j,l[i]? = some j→∀ k,ofP m j k→k ∈ l
theorem TI.done {m:DMod} {a:Int} {l:List Nat} (h:TI m a l l.length) (k:Nat):k ∈ l ↔ CoI m a k:=by
 refine ⟨h.frm k,?_⟩
 rintro ⟨n,rfl,hc⟩
 induction hc with
 | one hp=>exact h.start _ (fq.2 ⟨_,rfl,hp⟩)
 | more _ hp ih =>
  obtain ⟨i,hi,e⟩:=List.mem_iff_getElem.1 ih
  exact h.clo i hi _ (by rw [Gv hi,e]) _ hp
end Go.Ab
namespace Go.Ab.C11
open Go Go.Ab Go.Proofs
theorem Cu {q:Option Bool} {e:List TV} {u:DFunc} (he:RFunc q e u) (k:Nat):bu prog 24 [.agg e,I (k:Int)] (B (dP (jV u k))):=by
 obtain ⟨bl,rfl,hb,_⟩:=he
 have hbn:=hb.bnd
 have key : ∀ (d i : Nat), i + d = u.blocks.length → aa prog 24 (f24_0 (I (k : Int)) (I i) (I u.params) (I u.regs) bl) (B (dP (∃ b ∈ u.blocks.drop i, D1 k b))) := by
  intro d
  induction d with
  | zero =>
   intro i hi
   have hi:i=u.blocks.length:=by omega
   subst hi
   rw [AP]
   unfold f24_0
   exact aa.tv hb.len (aa.tv rfl (aa.ite aJ nofun fun _=>aa.ret))
  | succ d ih =>
   intro i hi
   have hil:i < u.blocks.length:=by omega
   obtain ⟨x,hx⟩:∃ x,u.blocks[i]? = some x:=⟨_,Gv hil⟩
   have next:=ih (i + 1) (by omega)
   obtain ⟨e,he,hR⟩:=hb.idx (k:=.i64) hx
   obtain ⟨c,il,g,rfl,hc,hd,hin,hg,ho⟩:=hR
   have hinb:=hin.bnd
   have ten:aa prog 24 (f24_2 (I (k:Int)) (I i) (I u.params) (I u.regs) bl) (B (dP (x.fin.kind=4∧x.fin.f=(k:Int)) || dP (∃ b ∈ u.blocks.drop (i + 1),D1 k b))):=by
    unfold f24_2
    refine aa.tvs he (aa.chk rfl (aa.tv rfl ?_))
    by_cases h4:x.fin.kind=4
    ·refine aa.ite (v:=true) (by simp [asBool,h4]) (fun _=>aa.tvs he (aa.chk rfl (aa.tv rfl ?_))) nofun
     by_cases hf:x.fin.f=(k:Int)
     ·rw [em ⟨h4,hf⟩,Bool.true_or]
      exact aa.ite (v:=true) (by simp [asBool,hf]) (fun _=>aa.ret) nofun
     ·rw [iy (fun h=>hf h.2),Bool.false_or]
      exact aa.ite (v:=false) (by simp [asBool,hf]) nofun fun _=>aa.tv (inc hil hbn) (f24_0_J next)
    ·rw [iy (fun h=>h4 h.1),Bool.false_or]
     exact aa.ite (v:=false) (by simp [asBool,h4]) nofun fun _=>aa.tv (inc hil hbn) (f24_0_J next)
   have inner:∀ (d j:Nat),j + d=x.ins.length→aa prog 24 (f24_1 (I (k:Int)) (I i) (I j) (I u.params) (I u.regs) bl) (B (dP (∃ y ∈ x.ins.drop j,Cf k y) || (dP (x.fin.kind=4∧x.fin.f=(k:Int)) || dP (∃ b ∈ u.blocks.drop (i + 1),D1 k b)))):=by
    intro d
    induction d with
    | zero =>
     intro j hj
     have hj:j=x.ins.length:=by omega
     subst hj
     rw [AP,Bool.false_or]
     unfold f24_1
     exact aa.tvs he (aa.chk rfl (aa.tv hin.len (aa.tv rfl (aa.ite aJ nofun fun _=>f24_2_J ten))))
    | succ d ih2 =>
     intro j hj
     have hjl:j < x.ins.length:=by omega
     obtain ⟨y,hy⟩:∃ y,x.ins[j]? = some y:=⟨_,Gv hjl⟩
     have next2:=ih2 (j + 1) (by omega)
     obtain ⟨e2,he2,g2,rfl,_,hok⟩:=hin.idx (k:=.i64) hy
     rw [za hy]
     unfold f24_1
     refine aa.tvs he (aa.chk rfl (aa.tv hin.len (aa.tv rfl (aa.ite (aF hjl) (fun _=>?_) nofun))))
     refine aa.tvs he (aa.chk rfl (aa.tvs he2 (aa.chk rfl (aa.tv rfl ?_))))
     by_cases h11:y.op=11
     ·refine aa.ite (v:=true) (by simp [asBool,h11]) (fun _=>aa.tvs he (aa.chk rfl (aa.tvs he2 (aa.chk rfl (aa.tv rfl ?_))))) nofun
      by_cases hf:y.f=(k:Int)
      ·rw [em (show Cf k y from ⟨h11,hf⟩),Bool.true_or,Bool.true_or]
       exact aa.ite (v:=true) (by simp [asBool,hf]) (fun _=>aa.ret) nofun
      ·rw [iy (show ¬ Cf k y from fun h=>hf h.2),Bool.false_or]
       exact aa.ite (v:=false) (by simp [asBool,hf]) nofun fun _=>aa.tv (inc hjl hinb) (f24_1_J next2)
     ·rw [iy (show ¬ Cf k y from fun h=>h11 h.1),Bool.false_or]
      exact aa.ite (v:=false) (by simp [asBool,h11]) nofun fun _=>aa.tv (inc hjl hinb) (f24_1_J next2)
   have hin0:=inner x.ins.length 0 (by omega)
   rw [za hx]
   have e1:dP (D1 k x)=(dP (∃ y ∈ x.ins,Cf k y) || dP (x.fin.kind=4∧x.fin.f=(k:Int))):=by
    unfold D1
    rw [FZ]
   rw [e1,Bool.or_assoc]
   rw [List.drop_zero] at hin0
   unfold f24_0
   exact aa.tv hb.len (aa.tv rfl (aa.ite (aF hil) (fun _=>f24_1_J hin0) nofun))
 have h0:=key u.blocks.length 0 (by omega)
 rw [List.drop_zero] at h0
 refine bu.of (f24_MR _ _) ?_
 unfold f24_M
 exact aa.chk rfl (f24_0_J h0)
section
variable {b:TV} {m:DMod} (hb:RL (some false) 3 (RFunc (some false)) b m.funcs) (hN:m.funcs.length≤100)
include hb hN
theorem zX (n:Int):∃ y,bu prog 10 [.agg [b],I n] y∧RInts (some true) y (ofL m n):=by
 have run:(∃ y,aa prog 10 (f10_0 (I n) (I (0:Nat)) b (.lit aK)) y∧RInts (some true) y (ofL m n))→∃ y,bu prog 10 [.agg [b],I n] y∧RInts (some true) y (ofL m n):=by
  rintro ⟨y,hy,hr⟩
  refine ⟨y,?_,hr⟩
  refine bu.of (f10_MR _ _) ?_
  unfold f10_M
  exact aa.chk rfl (aa.chk rfl (f10_0_J hy))
 refine run ?_
 cases ht:dm m.funcs.length n with
 | false =>
  rw [wW ht]
  have hno:¬ (0≤n∧n < (m.funcs.length:Int)):=by simpa [dm] using ht
  have key:∀ (d k:Nat),k + d=m.funcs.length→aa prog 10 (f10_0 (I n) (I k) b (.lit aK)) (.lit aK):=by
   intro d
   induction d with
   | zero =>
    intro k hk
    have hk:k=m.funcs.length:=by omega
    subst hk
    unfold f10_0
    exact aa.tv hb.len (aa.tv rfl (aa.ite aJ nofun fun _=>aa.chk rfl aa.ret))
   | succ d ih =>
    intro k hk
    have hkl:k < m.funcs.length:=by omega
    have next:=ih (k + 1) (by omega)
    unfold f10_0
    refine aa.tv hb.len (aa.tv rfl (aa.ite (aF hkl) (fun _=>aa.tv rfl (aa.ite rfl (fun h1=>?_) fun h1=>?_)) nofun))
    ·refine aa.tv hb.len (aa.tv rfl (aa.ite rfl (fun h2=>?_) fun h2=>?_))
     ·exact absurd ⟨by simpa using h1,by simpa using h2⟩ hno
     ·exact aa.tv (inc hkl (by omega)) (f10_0_J next)
    ·exact aa.tv (inc hkl (by omega)) (f10_0_J next)
  exact ⟨_,key m.funcs.length 0 (by omega),RL.nil⟩
 | true =>
  obtain ⟨u,hu,hn,ho⟩:=zE ht
  obtain ⟨e,he,hR⟩:=hb.idx (k:=.i64) hu
  have hcall:=fun k=>Cu hR k
  obtain ⟨bl,rfl,_⟩:=hR
  rw [← hn] at he
  have hth:0≤n∧n < (m.funcs.length:Int):=by simpa [dm] using ht
  have key:∀ (d k:Nat) (w:TV),k + d=m.funcs.length→RInts (some true) w (ofF u k)→∃ y,aa prog 10 (f10_0 (I n) (I k) b w) y∧RInts (some true) y (ofF u m.funcs.length):=by
   intro d
   induction d with
   | zero =>
    intro k w hk hw
    have hk:k=m.funcs.length:=by omega
    subst hk
    refine ⟨w,?_,hw⟩
    unfold f10_0
    exact aa.tv hb.len (aa.tv rfl (aa.ite aJ nofun fun _=>aa.chk (hw.own fun _ _ h=>h.own) aa.ret))
   | succ d ih =>
    intro k w hk hw
    have hkl:k < m.funcs.length:=by omega
    have hlen:=Be u k
    have top:∀ {y:TV},(∀ v:Bool,v=true→(jV u k)→∃ w',papp 1 w [[I (k:Int)]]=some w'∧aa prog 10 (f10_0 (I n) (I (k + 1:Nat)) b w') y)→(¬ jV u k→aa prog 10 (f10_0 (I n) (I (k + 1:Nat)) b w) y)→aa prog 10 (f10_0 (I n) (I k) b w) y:=by
     intro y g1 g2
     unfold f10_0
     refine aa.tv hb.len (aa.tv rfl (aa.ite (aF hkl) (fun _=>?_) nofun))
     refine aa.tv rfl (aa.ite (v:=true) (by simp [asBool]; omega) (fun _=>?_) nofun)
     refine aa.tv hb.len (aa.tv rfl (aa.ite (v:=true) (by simp [asBool]; omega) (fun _=>?_) nofun))
     refine aa.tvs he (aa.chk rfl (aa.call (hcall k) (aa.chk rfl (aa.ite rfl (fun h=>?_) fun h=>?_))))
     ·obtain ⟨w',a1,a2⟩:=g1 true rfl (E7 h)
      exact aa.chk rfl (aa.rws rfl (aa.tv a1 (aa.tv (inc hkl (by omega)) (f10_0_J a2))))
     ·exact aa.tv (inc hkl (by omega)) (f10_0_J (g2 (EP h)))
    by_cases hc:jV u k
    ·obtain ⟨w',a1,hr⟩:=hw.app (e:=[I (k:Int)]) (a:=(k:Int)) ⟨rfl,by unfold inI; omega⟩ (by omega)
     obtain ⟨y,hy,hz⟩:=ih (k + 1) w' (by omega) (by rw [yb,if_pos hc]; exact hr)
     exact ⟨y,top (fun _ _ _=>⟨w',a1,hy⟩) (fun h=>absurd hc h),hz⟩
    ·obtain ⟨y,hy,hz⟩:=ih (k + 1) w (by omega) (by rw [yb,if_neg hc,List.append_nil]; exact hw)
     exact ⟨y,top (fun _ _ h=>absurd h hc) (fun _=>hy),hz⟩
  obtain ⟨y,hy,hr⟩:=key m.funcs.length 0 (.lit aK) (by omega) (by simpa [ofF] using RL.nil)
  exact ⟨y,hy,by rw [ho]; exact hr⟩
theorem rTo (a:Int):∃ y l,bu prog 13 [.agg [b],I a] y∧RInts (some true) y (af l)∧∀ k,k ∈ l ↔ CoI m a k:=by
 have low:∀ {l:List Nat} {at_:Nat},TI m a l at_→l.length≤m.funcs.length:=fun {l at_} h=>dO _ h.nod fun x hx=>(h.frm x hx).lt
 have inner : ∀ {i n : Nat} {Z : TV → Prop} {r : TV}, RInts (some true) r (ofL m (n : Int)) → i ≤ 1000 →
   (∀ (w:TV) (l:List Nat),RInts (some true) w (af l)→TI m a l i→l[i]? = some n→(∀ k,ofP m n k→k ∈ l)→∃ y,aa prog 13 (f13_0 (I (i + 1:Nat)) b w) y∧Z y) →
   ∀ (d j:Nat) (w:TV) (l:List Nat),j + d=(ofL m (n:Int)).length→RInts (some true) w (af l)→TI m a l i→l[i]? = some n→(∀ k:Nat,(k:Int) ∈ (ofL m (n:Int)).take j→k ∈ l) →
    ∃ y,aa prog 13 (f13_1 (I i) (I j) b w r) y∧Z y:=by
  intro i n Z r hr hi hk d
  have hrl:=pr m (n:Int)
  induction d with
  | zero =>
   intro j w l hj hw hT hl hin
   have hj:j=(ofL m (n:Int)).length:=by omega
   subst hj
   rw [List.take_length] at hin
   obtain ⟨y,hy,hz⟩:=hk w l hw hT hl fun k hp=>hin k (fq.2 ⟨k,rfl,hp⟩)
   refine ⟨y,?_,hz⟩
   unfold f13_1
   exact aa.tv hr.len (aa.tv rfl (aa.ite aJ nofun fun _=>aa.tv (inc (n:=2000) (by omega) (by omega)) (f13_0_J hy)))
  | succ d ih =>
   intro j w l hj hw hT hl hin
   have hjl:j < (ofL m (n:Int)).length:=by omega
   obtain ⟨x,hx⟩:∃ x,(ofL m (n:Int))[j]? = some x:=⟨_,Gv hjl⟩
   obtain ⟨c,rfl,hc⟩:=fq.1 (GD hx)
   obtain ⟨ec,hec,rfl,hec2⟩:=hr.pel hx
   have htk:(ofL m (n:Int)).take (j + 1)=(ofL m (n:Int)).take j ++ [(c:Int)]:=by rw [List.take_add_one,hx]; rfl
   have anj:ae (I (j:Int))=some j:=aj (by omega)
   have hcj:(slSize r 1 && Nat.blt j (ofL m (n:Int)).length)=true:=by rw [hr.slSize]; simpa using hjl
   have hhas:=r75 (hw.frz (S:=RI1) fun _ _ h=>h.xq) (c:Int)
   have hm:((c:Int) ∈ af l) ↔ c ∈ l:=by
    unfold af
    rw [List.mem_map]
    exact ⟨fun ⟨x,hx,e⟩=>by rw [← Int.ofNat_inj.1 e]; exact hx,fun h=>⟨c,h,rfl⟩⟩
   have hin0:=(Gu.1 hl).1
   by_cases hcl:c ∈ l
   ·rw [decide_eq_true (hm.2 hcl)] at hhas
    obtain ⟨y,hy,hz⟩:=ih (j + 1) w l (by omega) hw hT hl fun k hk'=>by
     rw [htk] at hk'
     rcases List.mem_append.1 hk' with h | h
     ·exact hin k h
     ·have:k=c:=by have:=List.mem_singleton.1 h; omega
      subst this; exact hcl
    refine ⟨y,?_,hz⟩
    unfold f13_1
    refine aa.tv hr.len (aa.tv rfl (aa.ite (aF hjl) (fun _=>?_) nofun))
    refine aa.nat hr.slLen (aa.nat anj (aa.chk hcj (aa.tvs hec (aa.chk rfl (aa.call hhas (aa.chk rfl (aa.tv rfl ?_)))))))
    exact aa.ite (v:=false) rfl nofun fun _=>aa.tv (inc hjl (by omega)) (f13_1_J hy)
   ·rw [decide_eq_false (fun h => hcl (hm.1 h))] at hhas
    have hln:=low hT
    obtain ⟨w',a1,hr'⟩:=hw.app (e:=[I (c:Int)]) (a:=(c:Int)) ⟨rfl,hec2⟩ (by rw [aQ]; omega)
    obtain ⟨y,hy,hz⟩:=ih (j + 1) w' (l ++ [c]) (by omega) (by rw [gN]; exact hr') ⟨List.nodup_append.2 ⟨hT.nod,by simp,fun x hx y hy e=>by subst e; rw [List.mem_singleton.1 hy] at hx; exact hcl hx⟩,fun k hk'=>by
      rcases List.mem_append.1 hk' with h | h
      ·exact hT.frm k h
      ·rw [List.mem_singleton.1 h]
       obtain ⟨n0,e0,h0⟩:=hT.frm n (GD hl)
       exact ⟨n0,e0,.more h0 hc⟩,fun k hk'=>List.mem_append.2 (.inl (hT.start k hk')),fun i' hi' j' hj' k hk'=>by
      rw [GE (by omega)] at hj'
      exact List.mem_append.2 (.inl (hT.clo i' hi' j' hj' k hk'))⟩ (by rw [GE hin0]; exact hl) fun k hk'=>by
     rw [htk] at hk'
     rcases List.mem_append.1 hk' with h | h
     ·exact List.mem_append.2 (.inl (hin k h))
     ·have:k=c:=by have:=List.mem_singleton.1 h; omega
      subst this; exact List.mem_append.2 (.inr (List.mem_singleton.2 rfl))
    refine ⟨y,?_,hz⟩
    unfold f13_1
    refine aa.tv hr.len (aa.tv rfl (aa.ite (aF hjl) (fun _=>?_) nofun))
    refine aa.nat hr.slLen (aa.nat anj (aa.chk hcj (aa.tvs hec (aa.chk rfl (aa.call hhas (aa.chk rfl (aa.tv rfl ?_)))))))
    refine aa.ite (v:=true) rfl (fun _=>?_) nofun
    exact aa.nat hr.slLen (aa.nat anj (aa.chk hcj (aa.tvs hec (aa.chk rfl (aa.rws rfl (aa.tv a1 (aa.tv (inc hjl (by omega)) (f13_1_J hy))))))))
 have outer:∀ (d i:Nat) (w:TV) (l:List Nat),i + d=m.funcs.length + 1→i≤l.length→RInts (some true) w (af l)→TI m a l i→∃ y,aa prog 13 (f13_0 (I i) b w) y∧∃ l,RInts (some true) y (af l)∧TI m a l l.length:=by
  intro d
  induction d with
  | zero =>
   intro i w l hi hil hw hT
   have:=low hT
   omega
  | succ d ih =>
   intro i w l hi hil hw hT
   have hln:=low hT
   have lw:=hw.len (t:=3)
   have lsw:=hw.slLen
   rw [aQ] at lw lsw
   by_cases e:i=l.length
   ·subst e
    refine ⟨w,?_,l,hw,hT⟩
    unfold f13_0
    exact aa.tv lw (aa.tv rfl (aa.ite aJ nofun fun _=>aa.chk (hw.own fun _ _ h=>h.own) aa.ret))
   ·have hlt:i < l.length:=by omega
    obtain ⟨n,hn⟩:∃ n,l[i]? = some n:=⟨_,Gv hlt⟩
    obtain ⟨en,hen,rfl,_⟩:=hw.pel (show (af l)[i]? = some (n:Int) by simp [af,hn])
    obtain ⟨r,hr1,hr2⟩:=zX hb hN (n:Int)
    obtain ⟨y,hy,hz⟩:=inner hr2 (by omega) (fun w l hw hT hl hc=>ih (i + 1) w l (by omega) (by have:=(Gu.1 hl).1; omega) hw ⟨hT.nod,hT.frm,hT.start,fun i' hi' j hj k hk=>by
     by_cases e:i'=i
     ·subst e; rw [hl] at hj; cases hj; exact hc k hk
     ·exact hT.clo i' (by omega) j hj k hk⟩) (ofL m (n:Int)).length 0 w l (by omega) hw hT hn (fun k hk=>by simp at hk)
    refine ⟨y,?_,hz⟩
    have ani:ae (I (i:Int))=some i:=aj (by omega)
    unfold f13_0
    refine aa.tv lw (aa.tv rfl (aa.ite (aF hlt) (fun _=>?_) nofun))
    exact aa.nat lsw (aa.nat ani (aa.chk (by rw [hw.slSize]; simpa using hlt) (aa.tvs hen (aa.chk rfl (aa.call hr1 (aa.chk (aG hr2.isSl) (f13_1_J hy)))))))
 obtain ⟨r,hr1,hr2⟩:=zX hb hN a
 obtain ⟨l0,hl0⟩:∃ l0:List Nat,af l0=ofL m a:=by
  refine ⟨(ofL m a).map Int.toNat,?_⟩
  unfold af
  rw [List.map_map]
  refine (List.map_congr_left fun x hx=>?_).trans (List.map_id _)
  obtain ⟨n,k,_,rfl,_⟩:=rU hx
  rfl
 have hnd:l0.Nodup:=by
  have:=tD m a
  rw [← hl0] at this
  exact (List.pairwise_map.1 this).imp fun {a b} h e=>by omega
 obtain ⟨y,hy,l,h1,h2⟩:=outer (m.funcs.length + 1) 0 r l0 (by omega) (Nat.zero_le _) (by rw [hl0]; exact hr2) ⟨hnd,fun k hk=>by
  have:(k:Int) ∈ ofL m a:=by rw [← hl0]; exact List.mem_map.2 ⟨k,hk,rfl⟩
  obtain ⟨n,k',e1,e2,h3⟩:=rU this
  rw [Int.ofNat_inj.1 e2]
  exact ⟨n,e1,.one h3⟩,fun k hk=>by
  rw [← hl0] at hk
  obtain ⟨x,hx,e⟩:=List.mem_map.1 hk
  rw [← Int.ofNat_inj.1 e]
  exact hx,fun i hi=>absurd hi (Nat.not_lt_zero _)⟩
 refine ⟨y,l,?_,h1,h2.done⟩
 refine bu.of (f13_MR _ _) ?_
 unfold f13_M
 exact aa.chk rfl (aa.call hr1 (aa.chk (aG hr2.isSl) (f13_0_J hy)))
end
end Go.Ab.C11
end
section
set_option maxRecDepth 10000
namespace Go.Ab
theorem RL.isOneZ {α:Type} {q:Option Bool} {s:Nat} {R:List TV→α→Prop} {x:TV} {l:List α} (h:RL q s R x l):x.ga=true:=by
 rcases h with ⟨rfl,rfl⟩ | ⟨o,xs,rfl,hq,h,hb⟩ <;> rfl
theorem xz {l:List Nat} {k:Nat}:((k:Int) ∈ af l) ↔ k ∈ l:=by
 unfold af
 rw [List.mem_map]
 exact ⟨fun ⟨x,hx,e⟩=>by rw [← Int.ofNat_inj.1 e]; exact hx,fun h=>⟨k,h,rfl⟩⟩
theorem xh (p:Prop) [d:Decidable p]:decide p=dP p:=by
 by_cases h:p
 ·rw [decide_eq_true h,em h]
 ·rw [decide_eq_false h,iy h]
open Classical in
theorem xQ (m:DMod) (n k:Nat):(ba (Rn (ofP m)) (k + 1) n)=ba (Rn (ofP m)) k n ++ (if k=n∨Co m n k∧Co m k n then [k] else []):=by
 unfold ba
 rw [List.range_succ,List.filter_append]
 congr 1
 by_cases h:k=n∨Co m n k∧Co m k n
 ·have h':k=n∨Rn (ofP m) n k∧Rn (ofP m) k n:=h.elim .inl fun h=>.inr ⟨qY.1 h.1,qY.1 h.2⟩
  rw [if_pos h]
  simp [h']
 ·have h':¬ (k=n∨Rn (ofP m) n k∧Rn (ofP m) k n):=fun h'=>h (h'.elim .inl fun h=>.inr ⟨qY.2 h.1,qY.2 h.2⟩)
  rw [if_neg h]
  simp [h']
theorem A8 (m:DMod) (n k:Nat):(ba (Rn (ofP m)) k n).length≤k:=by
 unfold ba
 exact Nat.le_trans (List.length_filter_le _ _) (by simp)
def gi (m:DMod) (dl:List Nat) (n k:Nat):Prop:=∀ j,j < k→¬ (j=n∨Co m n j∧Co m j n)→Co m n j→j ∈ dl
theorem jG (m:DMod) (dl:List Nat) (n k:Nat):gi m dl n (k + 1) ↔ gi m dl n k∧(¬ (k=n∨Co m n k∧Co m k n)→Co m n k→k ∈ dl):=by
 constructor
 ·intro h
  exact ⟨fun j hj=>h j (by omega),h k (by omega)⟩
 ·rintro ⟨h1,h2⟩ j hj
  by_cases e:j=k
  ·subst e; exact h2
  ·exact h1 j (by omega)
theorem Al {m:DMod} {dl:List Nat} {n:Nat} (hn:n ∉ dl):gi m dl n m.funcs.length ↔ fX (Rn (ofP m)) m.funcs.length dl n:=by
 constructor
 ·intro h
  refine ⟨hn,fun k hk h1 h2=>h k hk (fun h'=>?_) (qY.2 h1)⟩
  rcases h' with e | ⟨_,h'⟩
  ·subst e; exact h2 h1
  ·exact h2 (qY.1 h')
 ·intro h j hj h1 h2
  exact h.2 j hj (qY.1 h2) fun h3=>h1 (.inr ⟨h2,qY.2 h3⟩)
theorem CO {m:DMod} {dl:List Nat} {n:Nat} (hn:n < m.funcs.length) (hf:fX (Rn (ofP m)) m.funcs.length dl n) (hno:∀ j,j < n→¬ fX (Rn (ofP m)) m.funcs.length dl j) (f:Nat):grps (Rn (ofP m)) m.funcs.length (f + 1) dl=ba (Rn (ofP m)) m.funcs.length n :: grps (Rn (ofP m)) m.funcs.length f (dl ++ ba (Rn (ofP m)) m.funcs.length n):=by
 have hfind:(List.range m.funcs.length).find? (fun n=>@decide (fX (Rn (ofP m)) m.funcs.length dl n) (Classical.propDecidable _))=some n:=by
  rw [List.find?_eq_some_iff_getElem]
  refine ⟨by simpa using hf,n,by simpa using hn,by simp,fun j hj=>?_⟩
  have:=hno j hj
  simpa using this
 rw [grps,hfind]
end Go.Ab
namespace Go.Ab.C11
open Go Go.Ab Go.Proofs
section
variable {w0:TV} {m:DMod} {tl:List (List Nat)} (h0:RL (some true) 1 (RII (some true)) w0 (tl.map af)) (htl:tl.length=m.funcs.length) (hto:∀ i l,tl[i]? = some l→∀ k,k ∈ l ↔ Co m i k) (hN:m.funcs.length≤100)
include h0 htl hto hN
theorem F6 {i:Nat} (hi:i < m.funcs.length):∃ v,Go.Ab.pel w0 i=some [v]∧v.isSl=true∧bD [(i,0)] w0=some v∧∀ k:Nat,bu prog 12 [frz v,I (k:Int)] (B (dP (Co m i k))):=by
 obtain ⟨l,hl⟩:∃ l,tl[i]? = some l:=⟨_,Gv (by omega)⟩
 obtain ⟨e,he,v,rfl,hv⟩:=h0.pel (show (tl.map af)[i]? = some (af l) by simp [hl])
 refine ⟨v,he,hv.isSl,h0.gc he rfl,fun k=>?_⟩
 have h:=r75 (hv.frz (S:=RI1) fun _ _ h=>h.xq) (k:Int)
 rw [xh,jo (xz.trans (hto i l hl k))] at h
 exact h
theorem wz {w:TV} {dl:List Nat} (hw:RInts (some true) w (af dl)) (k:Nat):bu prog 12 [frz w,I (k:Int)] (B (dP (k ∈ dl))):=by
 have h:=r75 (hw.frz (S:=RI1) fun _ _ h=>h.xq) (k:Int)
 rw [xh,jo xz] at h
 exact h
theorem FJ {n:Nat} (hn:n < m.funcs.length) {wo wd:TV} {dl:List Nat} (hd:RInts (some true) wd (af dl)) {Z:TV→Prop}
  (hk:∀ (z:Bool) (w6:TV),z=dP (gi m dl n m.funcs.length)→RInts (some true) w6 (af (ba (Rn (ofP m)) m.funcs.length n))→∃ y,aa prog 16 (f16_6 (I n) (B z) w0 wo wd w6) y∧Z y) :
  ∀ (d k:Nat) (w6:TV),k + d=m.funcs.length→RInts (some true) w6 (af (ba (Rn (ofP m)) k n))→∃ y,aa prog 16 (f16_4 (I n) (B (dP (gi m dl n k))) (I k) w0 wo wd w6) y∧Z y:=by
 have l0:=h0.len (t:=28)
 have ls0:=h0.slLen
 rw [List.length_map,htl] at l0 ls0
 intro d
 induction d with
 | zero =>
  intro k w6 hk' h6
  have hk':k=m.funcs.length:=by omega
  subst hk'
  obtain ⟨y,hy,hz⟩:=hk _ w6 rfl h6
  refine ⟨y,?_,hz⟩
  unfold f16_4
  exact aa.tv l0 (aa.tv rfl (aa.ite aJ nofun fun _=>f16_6_J hy))
 | succ d ih =>
  intro k w6 hkd h6
  have hkl:k < m.funcs.length:=by omega
  obtain ⟨vk,k1,k2,k3,k4⟩:=F6 h0 htl hto hN hkl
  obtain ⟨vn,n1,n2,n3,n4⟩:=F6 h0 htl hto hN hn
  have ank:ae (I (k:Int))=some k:=aj (by omega)
  have ann:ae (I (n:Int))=some n:=aj (by omega)
  have hck:(slSize w0 1 && Nat.blt k m.funcs.length)=true:=by rw [h0.slSize]; simpa using hkl
  have hcn:(slSize w0 1 && Nat.blt n m.funcs.length)=true:=by rw [h0.slSize]; simpa using hn
  have hgl:=A8 m n k
  have five:∃ y,aa prog 16 (f16_5 (I n) (B (dP (gi m dl n k))) (I k) (B (dP (k=n∨Co m n k∧Co m k n))) w0 wo wd w6) y∧Z y:=by
   by_cases hg:k=n∨Co m n k∧Co m k n
   ·obtain ⟨w6',a1,hr⟩:=h6.app (e:=[I (k:Int)]) (a:=(k:Int)) ⟨rfl,by unfold inI; omega⟩ (by rw [aQ]; omega)
    obtain ⟨y,hy,hz⟩:=ih (k + 1) w6' (by omega) (by rw [xQ,if_pos hg,gN]; exact hr)
    rw [jo (show gi m dl n (k + 1) ↔ gi m dl n k from (jG m dl n k).trans ⟨fun h=>h.1,fun h=>⟨h,fun h'=>absurd hg h'⟩⟩)] at hy
    refine ⟨y,?_,hz⟩
    unfold f16_5
    rw [em hg]
    exact aa.ite (v:=true) rfl (fun _=>aa.chk rfl (aa.rws rfl (aa.tv a1 (aa.tv (inc hkl (by omega)) (f16_4_J hy))))) nofun
   ·obtain ⟨y,hy,hz⟩:=ih (k + 1) w6 (by omega) (by rw [xQ,if_neg hg,List.append_nil]; exact h6)
    refine ⟨y,?_,hz⟩
    unfold f16_5
    rw [iy hg]
    refine aa.ite (v:=false) rfl nofun fun _=>aa.nat ls0 (aa.nat ann (aa.chk hcn (aa.tvs n1 (aa.chk (aG n2) (aa.tv n3 (aa.call (n4 k) (aa.chk rfl ?_)))))))
    by_cases hc:Co m n k
    ·rw [em hc]
     refine aa.ite (v:=true) rfl (fun _=>aa.call (wz h0 htl hto hN hd k) (aa.chk rfl (aa.tv rfl ?_))) nofun
     by_cases hdk:k ∈ dl
     ·rw [em hdk]
      rw [jo (show gi m dl n (k + 1) ↔ gi m dl n k from (jG m dl n k).trans ⟨fun h=>h.1,fun h=>⟨h,fun _ _=>hdk⟩⟩)] at hy
      exact aa.ite (v:=false) rfl nofun fun _=>aa.tv (inc hkl (by omega)) (f16_4_J hy)
     ·rw [iy hdk]
      rw [iy (show ¬ gi m dl n (k + 1) from fun h=>hdk (((jG m dl n k).1 h).2 hg hc))] at hy
      exact aa.ite (v:=true) rfl (fun _=>aa.tv (inc hkl (by omega)) (f16_4_J hy)) nofun
    ·rw [iy hc]
     rw [jo (show gi m dl n (k + 1) ↔ gi m dl n k from (jG m dl n k).trans ⟨fun h=>h.1,fun h=>⟨h,fun _ h'=>absurd h' hc⟩⟩)] at hy
     exact aa.ite (v:=false) rfl nofun fun _=>aa.tv (inc hkl (by omega)) (f16_4_J hy)
  obtain ⟨y,hy,hz⟩:=five
  refine ⟨y,?_,hz⟩
  unfold f16_4
  refine aa.tv l0 (aa.tv rfl (aa.ite (aF hkl) (fun _=>?_) nofun))
  refine aa.nat ls0 (aa.nat ank (aa.chk hck (aa.tvs k1 (aa.chk (aG k2) (aa.tv k3 (aa.call (k4 n) (aa.chk rfl (aa.tv rfl (aa.ite (eqN k n) (fun h=>?_) fun h=>?_)))))))))
  ·have h:k=n:=of_decide_eq_true h
   rw [em (show (k=n∨Co m n k∧Co m k n) from .inl h)] at hy
   exact f16_5_J hy
  ·have h:¬ k=n:=of_decide_eq_false h
   refine aa.nat ls0 (aa.nat ann (aa.chk hcn (aa.tvs n1 (aa.chk (aG n2) (aa.tv n3 (aa.call (n4 k) (aa.chk rfl ?_)))))))
   by_cases hc:Co m n k
   ·rw [em hc]
    refine aa.ite (v:=true) rfl (fun _=>?_) nofun
    rw [jo (show (k=n∨Co m n k∧Co m k n) ↔ Co m k n from ⟨fun h'=>h'.elim (fun e=>absurd e h) fun h=>h.2,fun h'=>.inr ⟨hc,h'⟩⟩)] at hy
    exact f16_5_J hy
   ·rw [iy hc]
    refine aa.ite (v:=false) rfl nofun fun _=>?_
    rw [iy (show ¬ (k=n∨Co m n k∧Co m k n) from fun h'=>h'.elim h fun h=>hc h.1)] at hy
    exact f16_5_J hy
theorem FL : ∀ (f : Nat) (gl : List (List Nat)) (dl : List Nat) (wo wd : TV), m.funcs.length ≤ dl.length + f → Dn (Rn (ofP m)) m.funcs.length dl → RL (some true) 1 (RII (some false)) wo (gl.map af) → RInts (some true) wd (af dl) → gl.length ≤ dl.length → gsM m = gl ++ grps (Rn (ofP m)) m.funcs.length f dl →
  ∃ y,aa prog 16 (f16_2 w0 wo wd) y∧RL (some true) 1 (RII (some false)) y ((gsM m).map af):=by
 have l0:=h0.len (t:=28)
 rw [List.length_map,htl] at l0
 have fin:∀ (f:Nat) (gl:List (List Nat)) (dl:List Nat) (wo wd:TV),m.funcs.length≤dl.length→Dn (Rn (ofP m)) m.funcs.length dl→RL (some true) 1 (RII (some false)) wo (gl.map af)→RInts (some true) wd (af dl)→gsM m=gl ++ grps (Rn (ofP m)) m.funcs.length f dl →
   ∃ y,aa prog 16 (f16_2 w0 wo wd) y∧RL (some true) 1 (RII (some false)) y ((gsM m).map af):=by
  intro f gl dl wo wd hl hD ho hd hT
  have hall:∀ a,a < m.funcs.length→a ∈ dl:=fun a ha=>Classical.byContradiction fun hna=>by
   have:=dO m.funcs.length (l:=a :: dl) (List.nodup_cons.2 ⟨hna,hD.nod⟩) fun x hx=>by
    rcases List.mem_cons.1 hx with rfl | hx
    ·exact ha
    ·exact hD.low x hx
   rw [List.length_cons] at this
   omega
  have e:grps (Rn (ofP m)) m.funcs.length f dl=[]:=by
   rcases Cx rnT hD f with ⟨_,e⟩ | ⟨n,hn,hf,_⟩
   ·exact e
   ·exact absurd (hall n hn) hf.1
  rw [e,List.append_nil] at hT
  refine ⟨wo,?_,by rw [hT]; exact ho⟩
  have ld:=hd.len (t:=3)
  rw [aQ] at ld
  unfold f16_2
  exact aa.tv ld (aa.tv l0 (aa.tv rfl (aa.ite (v:=false) (by simp [asBool]; omega) nofun fun _=>aa.ret)))
 intro f
 induction f with
 | zero =>
  intro gl dl wo wd hl hD ho hd _ hT
  exact fin 0 gl dl wo wd (by omega) hD ho hd hT
 | succ f ih =>
  intro gl dl wo wd hl hD ho hd hgd hT
  by_cases hll:m.funcs.length≤dl.length
  ·exact fin (f + 1) gl dl wo wd hll hD ho hd hT
  ·have ld := hd.len (t := 3)
   rw [aQ] at ld
   have scan : ∀ (d n : Nat), n + d = m.funcs.length → (∀ j, j < n → ¬ fX (Rn (ofP m)) m.funcs.length dl j) → ∃ y, aa prog 16 (f16_3 (I n) w0 wo wd) y ∧ RL (some true) 1 (RII (some false)) y ((gsM m).map af) := by
    intro d
    induction d with
    | zero =>
     intro n hn hno
     exfalso
     have hn:n=m.funcs.length:=by omega
     subst hn
     have:∃ a,a < m.funcs.length∧a ∉ dl:=Classical.byContradiction fun h=>hll (EO m.funcs.length hD.nod fun a ha=>Classical.byContradiction fun hna=>h ⟨a,ha,hna⟩)
     obtain ⟨a,ha,hna⟩:=this
     obtain ⟨n',hn',hf⟩:=xl rnT (done:=dl) _ a (Nat.lt_succ_self _) ha hna
     exact hno n' hn' hf
    | succ d ih2 =>
     intro n hn hno
     have hnl:n < m.funcs.length:=by omega
     by_cases hnd:n ∈ dl
     ·obtain ⟨y,hy,hz⟩:=ih2 (n + 1) (by omega) fun j hj=>by
       by_cases e:j=n
       ·subst e; exact fun h=>h.1 hnd
       ·exact hno j (by omega)
      refine ⟨y,?_,hz⟩
      have hh:=wz h0 htl hto hN hd n
      rw [em hnd] at hh
      unfold f16_3
      exact aa.tv l0 (aa.tv rfl (aa.ite (aF hnl) (fun _=>aa.call hh (aa.chk rfl (aa.ite (v:=true) rfl (fun _=>aa.tv (inc hnl (by omega)) (f16_3_J hy)) nofun))) nofun))
     ·have hh:=wz h0 htl hto hN hd n
      rw [iy hnd] at hh
      have hfi:=Al (m:=m) hnd
      obtain ⟨y,hy,hz⟩:=FJ h0 htl hto hN hnl (wo:=wo) hd (Z:=fun y=>RL (some true) 1 (RII (some false)) y ((gsM m).map af)) (fun z w6 hz h6=>by
       have f6:=h6.frz (S:=RI1) fun _ _ h=>h.xq
       by_cases hf:fX (Rn (ofP m)) m.funcs.length dl n
       ·rw [em (hfi.2 hf)] at hz
        subst hz
        have hgn:=A8 m n m.funcs.length
        have hD':=hD.step rnT hnl hf
        have hpos:0 < (ba (Rn (ofP m)) m.funcs.length n).length:=List.length_pos_of_mem (bq.2 ⟨hnl,.inl rfl⟩)
        have hdl:=dO m.funcs.length hD.nod hD.low
        obtain ⟨wo',b1,b2⟩:=ho.app (e:=[frz w6]) (a:=af (ba (Rn (ofP m)) m.funcs.length n)) ⟨_,rfl,f6⟩ (by rw [List.length_map]; omega)
        obtain ⟨rw_,c1,c2⟩:=f6.elems
        obtain ⟨wd',d1,d2⟩:=hd.appZ c2 (by rw [aQ,aQ]; omega)
        obtain ⟨y,hy,hzz⟩:=ih (gl ++ [ba (Rn (ofP m)) m.funcs.length n]) (dl ++ ba (Rn (ofP m)) m.funcs.length n) wo' wd' (by rw [List.length_append]; omega) hD' (by rw [List.map_append]; exact b2) (by rw [gN]; exact d2) (by rw [List.length_append,List.length_append]; simp; omega) (by rw [hT,CO hnl hf hno f]; simp)
        refine ⟨y,?_,hzz⟩
        unfold f16_6
        refine f16_7_J ?_
        unfold f16_7
        exact aa.ite (v:=true) rfl (fun _=>aa.chk f6.isOneZ (aa.rws rfl (aa.tv b1 (aa.rws c1 (aa.tv d1 (f16_2_J hy)))))) nofun
       ·rw [iy (fun h=>hf (hfi.1 h))] at hz
        subst hz
        obtain ⟨y,hy,hzz⟩:=ih2 (n + 1) (by omega) fun j hj=>by
         by_cases e:j=n
         ·subst e; exact hf
         ·exact hno j (by omega)
        refine ⟨y,?_,hzz⟩
        unfold f16_6
        refine f16_7_J ?_
        unfold f16_7
        exact aa.ite (v:=false) rfl nofun fun _=>aa.tv (inc hnl (by omega)) (f16_3_J hy)) m.funcs.length 0 (.lit aK) (by omega) (by simpa [ba,af] using RL.nil)
      rw [em (show gi m dl n 0 from fun j hj=>absurd hj (Nat.not_lt_zero _))] at hy
      refine ⟨y,?_,hz⟩
      unfold f16_3
      exact aa.tv l0 (aa.tv rfl (aa.ite (aF hnl) (fun _=>aa.call hh (aa.chk rfl (aa.ite (v:=false) rfl nofun fun _=>aa.chk rfl (f16_4_J hy)))) nofun))
   obtain ⟨y,hy,hz⟩:=scan m.funcs.length 0 (by omega) fun j hj=>absurd hj (Nat.not_lt_zero _)
   refine ⟨y,?_,hz⟩
   unfold f16_2
   exact aa.tv ld (aa.tv l0 (aa.tv rfl (aa.ite (v:=true) (by simp [asBool]; omega) (fun _=>f16_3_J hy) nofun)))
end
theorem zH {b:TV} {m:DMod} (hb:RL (some false) 3 (RFunc (some false)) b m.funcs) (hN:m.funcs.length≤100):∃ y,bu prog 16 [.agg [b]] y∧RL (some true) 1 (RII (some false)) y ((gsM m).map af):=by
 have key : ∀ (d n : Nat) (w : TV) (tl : List (List Nat)), n + d = m.funcs.length → RL (some true) 1 (RII (some true)) w (tl.map af) → tl.length = n → (∀ i l, tl[i]? = some l → ∀ k, k ∈ l ↔ Co m i k) → ∃ y, aa prog 16 (f16_0 (I n) b w) y ∧ RL (some true) 1 (RII (some false)) y ((gsM m).map af) := by
  intro d
  induction d with
  | zero =>
   intro n w tl hn hw htl hto
   have hn:n=m.funcs.length:=by omega
   subst hn
   obtain ⟨y,hy,hz⟩:=FL hw htl hto hN m.funcs.length [] [] (.lit aK) (.lit aK) (by simp) ⟨fun a h=>(by cases h),List.Pairwise.nil,fun a h=>(by cases h)⟩ RL.nil RL.nil (Nat.le_refl _) rfl
   refine ⟨y,?_,hz⟩
   unfold f16_0
   refine aa.tv hb.len (aa.tv rfl (aa.ite aJ nofun fun _=>f16_1_J ?_))
   unfold f16_1
   exact aa.chk rfl (aa.chk rfl (f16_2_J hy))
  | succ d ih =>
   intro n w tl hn hw htl hto
   have hnl:n < m.funcs.length:=by omega
   obtain ⟨v,l,h1,h2,h3⟩:=rTo hb hN (n:Int)
   obtain ⟨w',a1,hr⟩:=hw.app (e:=[v]) (a:=af l) ⟨v,rfl,h2⟩ (by rw [List.length_map]; omega)
   obtain ⟨y,hy,hz⟩:=ih (n + 1) w' (tl ++ [l]) (by omega) (by rw [List.map_append]; exact hr) (by simp; omega) (fun i l' hl' k=>by
    by_cases hi:i < tl.length
    ·rw [GE hi] at hl'
     exact hto i l' hl' k
    ·have hin:i=n:=by
      have:=(Gu.1 hl').1
      simp at this
      omega
     subst hin
     rw [GF (by omega),htl,Nat.sub_self] at hl'
     cases hl'
     rw [h3 k]
     exact ⟨fun ⟨n',e,h⟩=>by rw [Int.ofNat_inj.1 e]; exact h,fun h=>⟨i,rfl,h⟩⟩)
   refine ⟨y,?_,hz⟩
   unfold f16_0
   exact aa.tv hb.len (aa.tv rfl (aa.ite (aF hnl) (fun _=>aa.call h1 (aa.chk (aG h2.isSl) (aa.rws rfl (aa.tv a1 (aa.tv (inc hnl (by omega)) (f16_0_J hy)))))) nofun))
 obtain ⟨y,hy,hz⟩:=key m.funcs.length 0 (.lit aK) [] (by omega) RL.nil rfl (fun i l h=>by simp at h)
 refine ⟨y,?_,hz⟩
 refine bu.of (f16_MR _) ?_
 unfold f16_M
 exact aa.chk rfl (aa.chk rfl (f16_0_J hy))
end Go.Ab.C11
end
section
set_option maxRecDepth 10000
namespace Go.Ab.C11
open Go Go.Ab Go.Proofs
theorem uw {q q':Option Bool} {x y:TV} {l:List Int} (hx:RInts q x l) (hy:RInts q' y l):bu prog 8 [frz x,frz y] (B true):=by
 have:=r14 (hx.frz (S:=RI1) fun _ _ h=>h.xq) (hy.frz (S:=RI1) fun _ _ h=>h.xq)
 rwa [By rfl] at this
section
variable {b:TV} {m:DMod} (hb:RL (some false) 3 (RFunc (some false)) b m.funcs) (hs:kS m)
include hb hs
theorem rUsed:∃ y M,bu prog 14 [.agg [b]] y∧RBools (some true) y M∧M.length=m.funcs.length∧∀ n,n < M.length→M[n]? = some (dP (n=0∨CoI m 0 n)):=by
 have hN:=hs.1
 obtain ⟨v,M,g1,g2,g3,g4⟩:=yR hb hs 0
 have lv:=g2.len (t:=4)
 have hM:∀ n,n < M.length→M[n]? = some (dP (CoI m 0 n)):=fun n hn=>by
  obtain ⟨c,hc⟩:∃ c,M[n]? = some c:=⟨_,Gv hn⟩
  rw [hc]
  congr 1
  cases c with
  | true=>rw [em ((g4 n).1 hc)]
  | false=>rw [iy fun h=>by rw [(g4 n).2 h] at hc; cases hc]
 by_cases h0:M.length=0
 ·refine ⟨v,M,?_,g2,g3,fun n hn=>by omega⟩
  refine bu.of (f14_MR _) ?_
  unfold f14_M
  exact aa.chk rfl (aa.call g1 (aa.chk (aG g2.isSl) (aa.tv lv (aa.tv rfl (aa.ite (v:=false) (by rw [h0]; rfl) nofun fun _=>aa.chk (g2.own fun _ _ h=>by cases h; rfl) aa.ret)))))
 ·obtain ⟨c,hc⟩:∃ c,M[0]? = some c:=⟨_,Gv (by omega)⟩
  obtain ⟨e,he,hR⟩:=g2.pel hc
  cases hR
  obtain ⟨v',a1,hr⟩:=g2.iO he (d:=0) (ys:=[B true]) (a:=true) rfl
  refine ⟨v',M.set 0 true,?_,hr,by simpa using g3,fun n hn=>?_⟩
  ·refine bu.of (f14_MR _) ?_
   unfold f14_M
   refine aa.chk rfl (aa.call g1 (aa.chk (aG g2.isSl) (aa.tv lv (aa.tv rfl (aa.ite (v:=true) (by simp [asBool]; omega) (fun _=>?_) nofun)))))
   exact aa.nat g2.slLen (aa.nat rfl (aa.chk (by rw [g2.slSize]; simp; omega) (aa.tvs he (aa.chk rfl (aa.tv a1 (aa.chk (hr.own fun _ _ h=>by cases h; rfl) aa.ret))))))
  ·rw [List.length_set] at hn
   by_cases e:n=0
   ·subst e
    rw [List.getElem?_set_self (by omega),em (.inl rfl)]
   ·rw [List.getElem?_set_ne (Ne.symm e),hM n hn]
    congr 1
    exact jo ⟨.inr,fun h=>h.elim (fun h=>absurd h e) id⟩
theorem Em (a:Int):∃ v,bu prog 13 [.agg [b],I a] v∧v.isSl=true∧∀ c:Int,bu prog 12 [frz v,I c] (B (dP (∃ k:Nat,c=(k:Int)∧CoI m a k))):=by
 obtain ⟨v,l,h1,h2,h3⟩:=rTo hb hs.1 a
 refine ⟨v,h1,h2.isSl,fun c=>?_⟩
 have h:=r75 (h2.frz (S:=RI1) fun _ _ h=>h.xq) c
 have e:c ∈ af l ↔ ∃ k:Nat,c=(k:Int)∧CoI m a k:=by
  unfold af
  rw [List.mem_map]
  constructor
  ·rintro ⟨k,hk,rfl⟩; exact ⟨k,rfl,(h3 k).1 hk⟩
  ·rintro ⟨k,rfl,hk⟩; exact ⟨k,(h3 k).2 hk,rfl⟩
 rw [xh,jo e] at h
 exact h
theorem Ei {w1 w2:TV} {ll:List (List Int)} {q q':Option Bool} (h1:RL q 1 (RII q') w1 ll) {q2 q2':Option Bool} (h2:RL q2 1 (RII q2') w2 ll):∀ (d i:Nat),i + d=ll.length→aa prog 3 (f3_2 (I i) w1 w2) (B true):=by
 have hbn:=h1.bnd
 intro d
 induction d with
 | zero =>
  intro i hi
  have hi:i=ll.length:=by omega
  subst hi
  unfold f3_2
  exact aa.tv h1.len (aa.tv rfl (aa.ite aJ nofun fun _=>aa.ret))
 | succ d ih =>
  intro i hi
  have hil:i < ll.length:=by omega
  obtain ⟨l,hl⟩:∃ l,ll[i]? = some l:=⟨_,Gv hil⟩
  obtain ⟨e1,he1,v1,rfl,hv1⟩:=h1.pel hl
  obtain ⟨e2,he2,v2,rfl,hv2⟩:=h2.pel hl
  have ani:ae (I (i:Int))=some i:=aj (by omega)
  unfold f3_2
  refine aa.tv h1.len (aa.tv rfl (aa.ite (aF hil) (fun _=>?_) nofun))
  refine aa.nat h1.slLen (aa.nat ani (aa.chk (by rw [h1.slSize]; simpa using hil) (aa.tvs he1 (aa.chk (aG hv1.isSl) (aa.nat h2.slLen (aa.nat ani (aa.chk (by rw [h2.slSize]; simpa using hil) (aa.tvs he2 (aa.chk (aG hv2.isSl) ?_)))))))))
  exact aa.tv (h1.gc he1 rfl) (aa.tv (h2.gc he2 rfl) (aa.call (uw hv1 hv2) (aa.chk rfl (aa.tv rfl (aa.ite (v:=false) rfl nofun fun _=>aa.tv (inc hil hbn) (f3_2_J (ih (i + 1) (by omega))))))))
theorem C7 {w2:TV} {M:List Bool} (h2:RBools (some true) w2 M) (hM:M.length=m.funcs.length) (hv:∀ n,n < M.length→M[n]? = some (dP (n=0∨CoI m 0 n))):∀ (d n:Nat),n + d=M.length→aa prog 3 (f3_0 (I n) b w2) (B true):=by
 have hN:=hs.1
 intro d
 induction d with
 | zero =>
  intro n hn
  have hn:n=M.length:=by omega
  subst hn
  obtain ⟨y1,g1,g2⟩:=BV hb hs
  obtain ⟨y2,k1,k2⟩:=zH hb hN
  have g2:RL (some true) 1 (RII (some false)) y1 ((gsM m).map af):=g2
  have l1:=g2.len (t:=28)
  have l2:=k2.len (t:=28)
  unfold f3_0
  refine aa.tv h2.len (aa.tv rfl (aa.ite aJ nofun fun _=>f3_1_J ?_))
  unfold f3_1
  exact aa.call g1 (aa.chk (aG g2.isSl) (aa.call k1 (aa.chk (aG k2.isSl) (aa.tv l1 (aa.tv l2 (aa.tv rfl (aa.ite (v:=false) (by simp [asBool]) nofun fun _=>f3_2_J (Ei hb hs g2 k2 _ 0 (Nat.zero_add _)))))))))
 | succ d ih =>
  intro n hn
  have hnl:n < M.length:=by omega
  have next:=ih (n + 1) (by omega)
  have hMn:=hv n hnl
  obtain ⟨e,he,hR⟩:=h2.pel hMn
  cases hR
  have ann:ae (I (n:Int))=some n:=aj (by omega)
  unfold f3_0
  refine aa.tv h2.len (aa.tv rfl (aa.ite (aF hnl) (fun _=>?_) nofun))
  refine aa.nat h2.slLen (aa.nat ann (aa.chk (by rw [h2.slSize]; simpa using hnl) (aa.tvs he (aa.chk rfl (aa.tv rfl (aa.ite (eqN n 0) (fun h=>?_) fun h=>?_))))))
  ·have h:n=0:=of_decide_eq_true h
   rw [em (.inl h)]
   exact aa.tv (v:=B false) rfl (aa.ite (v:=false) rfl nofun fun _=>aa.tv (inc hnl (by omega)) (f3_0_J next))
  ·have h:¬ n=0:=of_decide_eq_false h
   obtain ⟨v,v1,v2,v3⟩:=Em hb hs 0
   have h3:=v3 (n:Int)
   rw [jo (show (∃ k:Nat,(n:Int)=(k:Int)∧CoI m 0 k) ↔ (n=0∨CoI m 0 n) from ⟨fun ⟨k,e,hk⟩=>by rw [Int.ofNat_inj.1 e]; exact .inr hk,fun h'=>h'.elim (fun e=>absurd e h) fun hk=>⟨n,rfl,hk⟩⟩)] at h3
   refine aa.call v1 (aa.chk (aG v2) (aa.call h3 (aa.chk rfl ?_)))
   exact aa.tv (v:=B false) (by cases dP (n=0∨CoI m 0 n) <;> rfl) (aa.ite (v:=false) rfl nofun fun _=>aa.tv (inc hnl (by omega)) (f3_0_J next))
end
theorem rCallsRight {e:List TV} {m:DMod} (he:RMod (some false) e m) (a c:Int):bu prog 3 [.agg e,I a,I c] (B true):=by
 obtain ⟨b,rfl,hb⟩:=he
 obtain ⟨sh,hsh,hsm⟩:=r7 (q:=some false) (e:=[b]) (m:=m) ⟨b,rfl,hb⟩
 refine bu.of (f3_MR _ _ _) ?_
 unfold f3_M
 refine aa.chk rfl (aa.call EA (aa.chk rfl (aa.tv rfl (aa.ite (v:=false) rfl nofun fun _=>?_))))
 refine aa.call hsh (aa.chk rfl (aa.tv rfl ?_))
 cases sh with
 | false=>exact aa.ite (v:=true) rfl (fun _=>aa.ret) nofun
 | true =>
  obtain ⟨hs,_⟩:=CC (hsm rfl)
  have hN:=hs.1
  obtain ⟨y1,g1,g2⟩:=AD hb hs a
  obtain ⟨y2,k1,k2⟩:=zX hb hN a
  obtain ⟨v,v1,v2,v3⟩:=Em hb hs a
  obtain ⟨u,M,u1,u2,u3,u4⟩:=rUsed hb hs
  have hc:=Di hb hs a c
  rw [xh] at hc
  have lu:=u2.len (t:=4)
  refine aa.ite (v:=false) rfl nofun fun _=>aa.call g1 (aa.chk (aG g2.isSl) (aa.call k1 (aa.chk (aG k2.isSl) (aa.call (uw g2 k2) (aa.chk rfl (aa.tv rfl (aa.ite (v:=false) rfl nofun fun _=>?_)))))))
  refine aa.call hc (aa.chk rfl (aa.call v1 (aa.chk (aG v2) (aa.call (v3 c) (aa.chk rfl ?_)))))
  refine aa.tv (v:=B false) (by cases dP (∃ k:Nat,c=(k:Int)∧CoI m a k) <;> rfl) (aa.ite (v:=false) rfl nofun fun _=>?_)
  refine aa.call u1 (aa.chk (aG u2.isSl) (aa.tv lu (aa.tv hb.len (aa.tv rfl (aa.ite (v:=false) (by rw [u3]; simp [asBool]) nofun fun _=>f3_0_J ?_)))))
  exact C7 hb hs u2 u3 u4 M.length 0 (Nat.zero_add _)
end Go.Ab.C11
end

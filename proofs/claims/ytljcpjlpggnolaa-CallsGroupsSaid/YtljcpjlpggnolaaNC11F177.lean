import Derived.Test.YtljcpjlpggnolaaNC11F175
import Derived.Test.YtljcpjlpggnolaaNC11F167
set_option linter.all false
section
set_option maxRecDepth 10000
namespace Go.Ab
section
variable {m:DMod}
theorem rnT:∀ a b c,Rn (ofP m) a b→Rn (ofP m) b c→Rn (ofP m) a c:=fun a b c=>Rn.trans
theorem rN {R:Nat→Nat→Prop} {N i j:Nat} {a b:List Nat} (hi:(comps R N)[i]? = some a) (hj:(comps R N)[j]? = some b) (hij:i < j):∃ x s y t,a=x :: s∧b=y :: t∧x < y:=by
 obtain ⟨h1,rfl⟩:=FE.1 hi
 obtain ⟨h2,rfl⟩:=FE.1 hj
 exact List.pairwise_iff_getElem.1 oM i j h1 h2 hij
open Classical in
noncomputable def gix (m:DMod) (n:Nat):Nat:=if h:∃ i g,(comps (Rn (ofP m)) m.funcs.length)[i]? = some g∧n ∈ g then h.choose else 0
theorem mw (m:DMod):CI m.funcs.length (comps (Rn (ofP m)) m.funcs.length) (gix m):=by
 have un:∀ {i j:Nat} {g g':List Nat} {n:Nat},(comps (Rn (ofP m)) m.funcs.length)[i]? = some g→(comps (Rn (ofP m)) m.funcs.length)[j]? = some g'→n ∈ g→n ∈ g'→i=j:=by
  intro i j g g' n hi hj hn hn'
  obtain ⟨a,ha,rfl⟩:=(dM rnT).1 (FN hi)
  obtain ⟨b,hb,rfl⟩:=(dM rnT).1 (FN hj)
  have e:bg (Rn (ofP m)) m.funcs.length a=bg (Rn (ofP m)) m.funcs.length b:=(fK rnT ha hn).symm.trans (fK rnT hb hn')
  rcases Nat.lt_trichotomy i j with h | h | h
  ·obtain ⟨x,s,y,t,e1,e2,h3⟩:=rN hi hj h
   rw [e,e2] at e1
   cases e1
   omega
  ·exact h
  ·obtain ⟨x,s,y,t,e1,e2,h3⟩:=rN hj hi h
   rw [← e,e2] at e1
   cases e1
   omega
 have ex:∀ n,n < m.funcs.length→∃ i g,(comps (Rn (ofP m)) m.funcs.length)[i]? = some g∧n ∈ g:=fun n hn=>by
  have hm:bg (Rn (ofP m)) m.funcs.length n ∈ comps (Rn (ofP m)) m.funcs.length:=(dM rnT).2 ⟨n,hn,rfl⟩
  obtain ⟨i,hi,e⟩:=List.mem_iff_getElem.1 hm
  exact ⟨i,_,by rw [FF hi,e],aN.2 ⟨hn,.inl rfl⟩⟩
 refine ⟨fun g hg x hx=>?_,?_,fun g hg=>?_,fun n hn=>?_,fun i g n hi hn=>?_⟩
 ·obtain ⟨n,_,rfl⟩:=(dM rnT).1 hg
  exact (aN.1 hx).1
 ·unfold comps
  rw [List.length_map]
  exact Nat.le_trans (List.length_filter_le _ _) (by simp)
 ·obtain ⟨n,_,rfl⟩:=(dM rnT).1 hg
  unfold bg
  exact Nat.le_trans (List.length_filter_le _ _) (by simp)
 ·have h:=ex n hn
  unfold gix
  rw [dif_pos h]
  exact h.choose_spec
 ·have h:∃ i g,(comps (Rn (ofP m)) m.funcs.length)[i]? = some g∧n ∈ g:=⟨i,g,hi,hn⟩
  unfold gix
  rw [dif_pos h]
  obtain ⟨g',h1,h2⟩:=h.choose_spec
  exact un h1 hi h2 hn
noncomputable def fc (m:DMod) (l:List Nat):List Nat:=(l.map fun g=>(comps (Rn (ofP m)) m.funcs.length).getD g []).flatten
theorem iV {l:List Nat} (hl:∀ g ∈ l,g < (comps (Rn (ofP m)) m.funcs.length).length) {n:Nat}:n ∈ fc m l ↔ n < m.funcs.length∧gix m n ∈ l:=by
 have hC:=mw m
 unfold fc
 rw [List.mem_flatten]
 constructor
 ·rintro ⟨g,hg,hn⟩
  obtain ⟨i,hi,rfl⟩:=List.mem_map.1 hg
  have hil:=hl i hi
  have e:(comps (Rn (ofP m)) m.funcs.length)[i]? = some ((comps (Rn (ofP m)) m.funcs.length).getD i []):=by
   rw [FS,FF hil]; rfl
  exact ⟨hC.low _ (FN e) n hn,by rw [hC.un i _ n e hn]; exact hi⟩
 ·rintro ⟨hn,hi⟩
  obtain ⟨g,hg,hng⟩:=hC.ix n hn
  refine ⟨g,List.mem_map.2 ⟨_,hi,?_⟩,hng⟩
  rw [FS,hg]
  rfl
theorem xk {a b:Nat} (ha:a < m.funcs.length) (hb:b < m.funcs.length):gix m a=gix m b ↔ b ∈ bg (Rn (ofP m)) m.funcs.length a:=by
 have hC:=mw m
 obtain ⟨g,hg,hag⟩:=hC.ix a ha
 obtain ⟨x,hx,rfl⟩:=(dM rnT).1 (FN hg)
 have e:=fK rnT hx hag
 constructor
 ·intro h
  obtain ⟨g',hg',hbg⟩:=hC.ix b hb
  rw [← h,hg] at hg'
  cases hg'
  rw [e]
  exact hbg
 ·intro h
  rw [e] at h
  exact (hC.un _ _ b hg h).symm
theorem xV {l:List Nat} (hl:∀ g ∈ l,g < (comps (Rn (ofP m)) m.funcs.length).length) {n:Nat} (hn:n < m.funcs.length) (hf:jv (Rn (ofP m)) m.funcs.length (fc m l) n):gix m n ∉ l∧∀ g',gix m n ∈ gA m (gix m) g' m.funcs.length→g' ∈ l:=by
 refine ⟨fun h=>hf.1 ((iV hl).2 ⟨hn,h⟩),fun g' hg'=>?_⟩
 obtain ⟨i,hi,e1,e2,k,hk,e3⟩:=oD.1 hg'
 have hkN:=(Co.one hk).lt.2
 have hin:=(xk hn hi).1 e1
 have hnk:Rn (ofP m) n k:=by
  rcases (aN.1 hin).2 with e | ⟨h,_⟩
  ·subst e; exact .one hk
  ·exact .more h hk
 have hkn:¬ Rn (ofP m) k n:=fun h=>by
  have:=(xk hn hkN).2 (aN.2 ⟨hkN,.inr ⟨hnk,h⟩⟩)
  exact e2 (by rw [← e1,this,e3])
 have:=((iV hl).1 (hf.2 k hkN hnk hkn)).2
 rwa [e3] at this
theorem Ed {P:List Nat} {W:Nat→Nat} (hK:KI (fun g=>gA m (gix m) g m.funcs.length) (comps (Rn (ofP m)) m.funcs.length).length P [] W []):∀ n,n < m.funcs.length→gix m n ∈ P:=by
 intro n hn
 have hl:∀ g ∈ P,g < (comps (Rn (ofP m)) m.funcs.length).length:=fun g hg=>hK.low g (List.mem_append.2 (.inl hg))
 refine Classical.byContradiction fun hno=>?_
 have hnd:n ∉ fc m P:=fun h=>hno ((iV hl).1 h).2
 obtain ⟨n',hn',hf⟩:=AW rnT (done:=fc m P) _ n (Nat.lt_succ_self _) hn hnd
 obtain ⟨h1,h2⟩:=xV hl hn' hf
 have hc:=(mw m).lt hn'
 have hw:W (gix m n')=0:=by
  rw [hK.wai _ hc]
  simp only [List.count_nil,Nat.add_zero]
  exact pp.2 fun g hg hm=>h2 g hm
 have:=(hK.zer _ hc).1 hw
 rw [List.append_nil] at this
 exact h1 this
theorem Ba {P:List Nat} {W:Nat→Nat} (hK:KI (fun g=>gA m (gix m) g m.funcs.length) (comps (Rn (ofP m)) m.funcs.length).length P [] W []) :
  ∀ (r l:List Nat) (f:Nat),P=l ++ r→Dn (Rn (ofP m)) m.funcs.length (fc m l)→m.funcs.length≤(fc m l).length + f→(r.map fun g=>(comps (Rn (ofP m)) m.funcs.length).getD g [])=grps (Rn (ofP m)) m.funcs.length f (fc m l):=by
 have hC:=mw m
 have hall:=Ed hK
 have hlP:∀ g ∈ P,g < (comps (Rn (ofP m)) m.funcs.length).length:=fun g hg=>hK.low g (List.mem_append.2 (.inl hg))
 intro r
 induction r with
 | nil =>
  intro l f hP hD hf
  rw [List.append_nil] at hP
  subst hP
  cases f with
  | zero=>rfl
  | succ f =>
   have:(List.range m.funcs.length).find? (fun n=>@decide (jv (Rn (ofP m)) m.funcs.length (fc m P) n) (Classical.propDecidable _))=none:=by
    refine List.find?_eq_none.2 fun x hx=>?_
    have hx:=List.mem_range.1 hx
    simp only [decide_eq_true_eq]
    exact fun hf=>hf.1 ((iV hlP).2 ⟨hx,hall x hx⟩)
   show []=grps _ _ (f + 1) _
   rw [grps,this]
 | cons g r ih =>
  intro l f hP hD hf
  have hll:∀ x ∈ l,x < (comps (Rn (ofP m)) m.funcs.length).length:=fun x hx=>hlP x (by rw [hP]; exact List.mem_append.2 (.inl hx))
  have hgG:=hlP g (by rw [hP]; exact List.mem_append.2 (.inr FL))
  obtain ⟨o1,o2⟩:=hK.ord l g r hP
  have hgl:g ∉ l:=fun hh=>by
   have hnd:=hK.nod
   rw [List.append_nil,hP] at hnd
   exact (List.nodup_append.1 hnd).2.2 g hh g FL rfl
  obtain ⟨grp,hgrp⟩:∃ grp,(comps (Rn (ofP m)) m.funcs.length)[g]? = some grp:=⟨_,FF hgG⟩
  have hgd:(comps (Rn (ofP m)) m.funcs.length).getD g []=grp:=by rw [FS,hgrp]; rfl
  obtain ⟨x0,hx0,he0⟩:=(dM rnT).1 (FN hgrp)
  obtain ⟨x,s,hxs⟩:∃ x s,grp=x :: s:=by
   have:x0 ∈ grp:=by rw [he0]; exact aN.2 ⟨hx0,.inl rfl⟩
   cases grp with
   | nil=>cases this
   | cons x s=>exact ⟨x,s,rfl⟩
  have hxg:x ∈ grp:=by rw [hxs]; exact FL
  have hxN:=hC.low grp (FN hgrp) x hxg
  have hxi:=hC.un g grp x hgrp hxg
  have hgx:grp=bg (Rn (ofP m)) m.funcs.length x:=by
   rw [he0] at hxg ⊢
   exact (fK rnT hx0 hxg).symm
  have hxd:x ∉ fc m l:=fun h=>hgl (by rw [← hxi]; exact ((iV hll).1 h).2)
  have reach:∀ k,Rn (ofP m) x k→k ∈ grp∨k ∈ fc m l:=by
   have out:∀ b c,b ∈ grp→ofP m b c→c ∈ grp∨c ∈ fc m l:=fun b c hb he=>by
    have hbN:=(Co.one he).lt.1
    have hcN:=(Co.one he).lt.2
    have hbi:=hC.un g grp b hgrp hb
    by_cases hcg:gix m c=g
    ·obtain ⟨g',hg',hc⟩:=hC.ix c hcN
     rw [hcg,hgrp] at hg'
     cases hg'
     exact .inl hc
    ·exact .inr ((iV hll).2 ⟨hcN,o1 (gix m c) (hC.lt hcN) (oD.2 ⟨b,hbN,hbi.symm,by rw [hbi]; exact fun e=>hcg e.symm,c,he,rfl⟩)⟩)
   intro k hk
   induction hk with
   | one he=>exact out x _ hxg he
   | @more b c _ he ih =>
    rcases ih with hb | hb
    ·exact out b c hb he
    ·exact .inr (hD.cls b hb c (.one he) (Co.one he).lt.2)
  have hfree:jv (Rn (ofP m)) m.funcs.length (fc m l) x:=⟨hxd,fun k hk h1 h2=>by
   rcases reach k h1 with h | h
   ·rw [hgx] at h
    rcases (aN.1 h).2 with e | ⟨_,h3⟩
    ·subst e; exact absurd h1 h2
    ·exact absurd h3 h2
   ·exact h⟩
  have hfirst:∀ y,y < x→¬ jv (Rn (ofP m)) m.funcs.length (fc m l) y:=fun y hy hfy=>by
   have hyN:y < m.funcs.length:=by omega
   obtain ⟨h1,h2⟩:=xV hll hyN hfy
   have hle:=o2 (gix m y) (hC.lt hyN) h1 fun g' _ hm=>h2 g' hm
   obtain ⟨gy,hgy,hyg⟩:=hC.ix y hyN
   obtain ⟨y0,hy0,he⟩:=(dM rnT).1 (FN hgy)
   have hsrt:=kX (Rn (ofP m)) m.funcs.length y0
   rw [← he] at hsrt
   rcases Nat.lt_or_eq_of_le hle with h | h
   ·obtain ⟨a,s',b,t,e1,e2,hab⟩:=rN hgrp hgy h
    rw [hxs] at e1
    cases e1
    rw [e2] at hyg hsrt
    rcases List.mem_cons.1 hyg with e | hyt
    ·omega
    ·have:=(List.pairwise_cons.1 hsrt).1 y hyt
     omega
   ·rw [← h,hgrp] at hgy
    cases hgy
    rw [hxs] at hyg hsrt
    rcases List.mem_cons.1 hyg with e | hyt
    ·omega
    ·have:=(List.pairwise_cons.1 hsrt).1 y hyt
     omega
  cases f with
  | zero =>
   exfalso
   have:=dN m.funcs.length (l:=x :: fc m l) (List.nodup_cons.2 ⟨hxd,hD.nod⟩) fun z hz=>by
    rcases List.mem_cons.1 hz with rfl | hz
    ·exact hxN
    ·exact hD.low z hz
   rw [List.length_cons] at this
   omega
  | succ f =>
   have hfind:(List.range m.funcs.length).find? (fun n=>@decide (jv (Rn (ofP m)) m.funcs.length (fc m l) n) (Classical.propDecidable _))=some x:=by
    rw [List.find?_eq_some_iff_getElem]
    refine ⟨by simpa using hfree,x,by simpa using hxN,by simp,fun j hj=>?_⟩
    have:=hfirst j hj
    simpa using this
   have hfns:fc m (l ++ [g])=fc m l ++ bg (Rn (ofP m)) m.funcs.length x:=by
    unfold fc
    rw [List.map_append,List.flatten_append]
    simp only [List.map_cons,List.map_nil,List.flatten_cons,List.flatten_nil,List.append_nil]
    rw [hgd,hgx]
   have hD':=hD.step rnT hxN hfree
   rw [← hfns] at hD'
   have hpos:0 < (bg (Rn (ofP m)) m.funcs.length x).length:=List.length_pos_of_mem (aN.2 ⟨hxN,.inl rfl⟩)
   have:=ih (l ++ [g]) f (by rw [hP]; simp) hD' (by rw [hfns,List.length_append]; omega)
   rw [grps,hfind]
   show (comps (Rn (ofP m)) m.funcs.length).getD g [] :: r.map (fun g=>(comps (Rn (ofP m)) m.funcs.length).getD g [])=bg (Rn (ofP m)) m.funcs.length x :: grps (Rn (ofP m)) m.funcs.length f (fc m l ++ bg (Rn (ofP m)) m.funcs.length x)
   rw [hgd,this,hfns,← hgx]
end
end Go.Ab
namespace Go.Ab.C11
open Go Go.Ab Go.Proofs
theorem B0 {q:Option Bool} {b:TV} {m:DMod} (hb:RL q 3 (RFunc q) b m.funcs) (hs:kP m):∃ y,cP prog 15 [.agg [b]] y∧RL (some true) 1 (RII (some false)) y ((grps (Rn (ofP m)) m.funcs.length m.funcs.length []).map ah):=by
 obtain ⟨v0,v1,g1,g2,g3⟩:=rWebOf hb hs
 have f0:=g2.frz (S:=RII (some false)) fun _ _ h=>h.frz
 have f1:=g3.frz (S:=RII (some false)) fun _ _ h=>h.frz
 obtain ⟨w,k1,k2⟩:=Du f0 f1 hs.1
 have fw:=k2.frz (S:=RII (some false)) fun _ _ h=>h.frz
 obtain ⟨y,P,W,r1,r2,r3⟩:=rRow f0 hs.1 (mw m) (c1:=Go.Ab.frz v1) fw
 have hnil:fc m []=[]:=rfl
 have e:=Ba r3 P [] m.funcs.length rfl (by rw [hnil]; exact ⟨fun a h=>(by cases h),List.Pairwise.nil,fun a h=>(by cases h)⟩) (by simp)
 rw [hnil] at e
 refine ⟨y,?_,by rw [← e,List.map_map]; exact r2⟩
 have s0:=g2.isSl
 have s1:=g3.isSl
 refine cP.of (f15_MR _) ?_
 unfold f15_M
 exact aa.chk rfl (aa.call g1 (aa.chk (by simp [ae,z60,aW,TV.cellsL,s0,s1]; rfl) (aa.call k1 (aa.chk (bh k2.isSl) (aa.call r1 (aa.chk (bh r2.isSl) aa.ret))))))
end Go.Ab.C11
end
section
set_option maxRecDepth 10000
namespace Go.Ab
theorem Al:∀ {l:List (List Nat)},(∀ g ∈ l,g≠[])→l.length≤l.flatten.length
 | [],_=>Nat.le_refl _
 | g :: l,h=>by
  have h1:=Al fun x hx=>h x (FM _ hx)
  have h2:0 < g.length:=List.length_pos_iff.2 (h g FL)
  rw [List.flatten_cons,List.length_append,List.length_cons]
  omega
section
variable {m:DMod}
noncomputable def gsM (m:DMod):List (List Nat):=grps (Rn (ofP m)) m.funcs.length m.funcs.length []
theorem pM (m:DMod):(∀ (i:Nat) g,(gsM m)[i]? = some g→∃ n,n < m.funcs.length∧g=bg (Rn (ofP m)) m.funcs.length n) ∧
  (∀ a,a < m.funcs.length→∃ (i:Nat) (g:List Nat),(gsM m)[i]? = some g∧a ∈ g) ∧
  (∀ (i j:Nat) (g g':List Nat) (a:Nat),(gsM m)[i]? = some g→(gsM m)[j]? = some g'→a ∈ g→a ∈ g'→i=j) ∧
  (∀ (i:Nat) (g:List Nat) (a b:Nat),(gsM m)[i]? = some g→a ∈ g→Rn (ofP m) a b→b < m.funcs.length→∃ (j:Nat) (g':List Nat),j≤i∧(gsM m)[j]? = some g'∧b ∈ g')∧(gsM m).flatten.length=m.funcs.length:=by
 obtain ⟨t1,t2,t3,t4,t5,t6⟩:=CH rnT m.funcs.length [] (R:=Rn (ofP m)) (N:=m.funcs.length) ⟨fun a h=>(by cases h),List.Pairwise.nil,fun a h=>(by cases h)⟩ (by simp)
 refine ⟨fun i g h=>?_,fun a ha=>t3 a ha (by simp),t4,fun i g a b h1 h2 h3 h4=>?_,t6⟩
 ·obtain ⟨n,h1,_,h2⟩:=t1 i g h
  exact ⟨n,h1,h2⟩
 ·rcases t5 i g a b h1 h2 h3 h4 with h | h
  ·cases h
  ·exact h
open Classical in
noncomputable def pix (m:DMod) (n:Nat):Nat:=if h:∃ i g,(gsM m)[i]? = some g∧n ∈ g then h.choose else 0
theorem Az (m:DMod):CI m.funcs.length (gsM m) (pix m):=by
 obtain ⟨t1,t3,t4,t5,t6⟩:=pM m
 have at_:∀ g ∈ gsM m,∃ n,n < m.funcs.length∧g=bg (Rn (ofP m)) m.funcs.length n:=fun g hg=>by
  obtain ⟨i,hi,rfl⟩:=List.mem_iff_getElem.1 hg
  exact t1 i _ (FF hi)
 refine ⟨fun g hg x hx=>?_,?_,fun g hg=>?_,fun n hn=>?_,fun i g n hi hn=>?_⟩
 ·obtain ⟨n,_,rfl⟩:=at_ g hg
  exact (aN.1 hx).1
 ·rw [← t6]
  refine Al fun g hg e=>?_
  obtain ⟨n,hn,rfl⟩:=at_ g hg
  have:n ∈ bg (Rn (ofP m)) m.funcs.length n:=aN.2 ⟨hn,.inl rfl⟩
  rw [e] at this
  cases this
 ·obtain ⟨n,_,rfl⟩:=at_ g hg
  unfold bg
  exact Nat.le_trans (List.length_filter_le _ _) (by simp)
 ·have h:=t3 n hn
  unfold pix
  rw [dif_pos h]
  exact h.choose_spec
 ·have h:∃ i g,(gsM m)[i]? = some g∧n ∈ g:=⟨i,g,hi,hn⟩
  unfold pix
  rw [dif_pos h]
  obtain ⟨g',h1,h2⟩:=h.choose_spec
  exact t4 _ _ _ _ n h1 hi h2 hn
theorem yd {a b:Nat} (ha:a < m.funcs.length) (hb:b < m.funcs.length):pix m a=pix m b ↔ a=b∨(Co m a b∧Co m b a):=by
 have hC:=Az m
 obtain ⟨g,hg,hag⟩:=hC.ix a ha
 obtain ⟨n,hn,e⟩:=(pM m).1 _ g hg
 have ea:bg (Rn (ofP m)) m.funcs.length a=g:=by rw [e]; exact fK rnT hn (by rw [← e]; exact hag)
 constructor
 ·intro h
  obtain ⟨g',hg',hbg⟩:=hC.ix b hb
  rw [← h,hg] at hg'
  cases hg'
  rw [← ea] at hbg
  rcases (aN.1 hbg).2 with e | ⟨h1,h2⟩
  ·exact .inl e.symm
  ·exact .inr ⟨wV.2 h1,wV.2 h2⟩
 ·intro h
  have:b ∈ bg (Rn (ofP m)) m.funcs.length a:=aN.2 ⟨hb,h.elim (fun e=>.inl e.symm) fun h=>.inr ⟨wV.1 h.1,wV.1 h.2⟩⟩
  rw [ea] at this
  exact (hC.un _ g b hg this).symm
theorem pix_le {a b:Nat} (ha:a < m.funcs.length) (hb:b < m.funcs.length) (h:Co m a b):pix m b≤pix m a:=by
 have hC:=Az m
 obtain ⟨g,hg,hag⟩:=hC.ix a ha
 obtain ⟨j,g',h1,h2,h3⟩:=(pM m).2.2.2.1 _ g a b hg hag (wV.1 h) hb
 rw [hC.un j g' b h2 h3]
 exact h1
end
end Go.Ab
namespace Go.Ab.C11
open Go Go.Ab Go.Proofs
section
variable {b:TV} {m:DMod} (hb:RL (some false) 3 (RFunc (some false)) b m.funcs) (hs:kP m)
include hb hs
section
variable {w:TV} (hw:RInts (some true) w (bE m.funcs.length fun n=>(pix m n:Int)))
include hw
open Classical in
theorem pairIn {a:Nat} (ha:a < m.funcs.length) (hn:aa prog 4 (f4_4 (I (a + 1:Nat)) b w) (B true)):∀ (d c:Nat),c + d=m.funcs.length→aa prog 4 (f4_5 (I a) (I c) b w) (B true):=by
 have hN:=hs.1
 have lw:=hw.len (t:=3)
 have lsw:=hw.slLen
 rw [aL] at lw lsw
 intro d
 induction d with
 | zero =>
  intro c hc
  have hc:c=m.funcs.length:=by omega
  subst hc
  unfold f4_5
  exact aa.tv lw (aa.tv rfl (aa.ite bi (fun h=>nomatch h) fun _=>aa.tv (inc ha (by omega)) (f4_4_J hn)))
 | succ d ih =>
  intro c hc
  have hcl:c < m.funcs.length:=by omega
  have next:=ih (c + 1) (by omega)
  obtain ⟨e1,he1,rfl,_⟩:=hw.pel (aH ha)
  obtain ⟨e2,he2,rfl,_⟩:=hw.pel (aH hcl)
  have ana:ab (I (a:Int))=some a:=aj (by omega)
  have anc:ab (I (c:Int))=some c:=aj (by omega)
  have hca:(slSize w 1 && Nat.blt a m.funcs.length)=true:=by rw [hw.slSize]; simpa using ha
  have hcc:(slSize w 1 && Nat.blt c m.funcs.length)=true:=by rw [hw.slSize]; simpa using hcl
  have six:∀ z:Bool,(z=true ↔ pix m a=pix m c)→aa prog 4 (f4_6 (I a) (I c) (B z) b w) (B true):=by
   intro z hz
   have e:(((pix m a:Nat):Int) == ((pix m c:Nat):Int))=z:=by
    cases z with
    | true=>rw [hz.1 rfl]; simp
    | false =>
     have:¬ pix m a=pix m c:=fun h=>by cases hz.2 h
     simp; omega
   unfold f4_6
   refine aa.nat lsw (aa.nat ana (aa.chk hca (aa.tvs he1 (aa.chk rfl (aa.nat lsw (aa.nat anc (aa.chk hcc (aa.tvs he2 (aa.chk rfl ?_)))))))))
   refine aa.tv (v:=B z) (congrArg (fun x=>some (B x)) e) (aa.tv (v:=B false) (by cases z <;> rfl) (aa.ite (v:=false) rfl (fun h=>nomatch h) fun _=>?_))
   refine aa.call (wn hb hs a c) (aa.chk rfl (aa.ite rfl (fun h=>?_) fun h=>?_))
   ·have h:Co m a c:=by simpa using h
    have hle:=pix_le ha hcl h
    refine aa.nat lsw (aa.nat anc (aa.chk hcc (aa.tvs he2 (aa.chk rfl (aa.nat lsw (aa.nat ana (aa.chk hca (aa.tvs he1 (aa.chk rfl (aa.tv rfl ?_))))))))))
    exact aa.ite (v:=false) (by simp [asBool] <;> omega) (fun h=>nomatch h) fun _=>aa.tv (inc hcl (by omega)) (f4_5_J next)
   ·exact aa.tv (inc hcl (by omega)) (f4_5_J next)
  unfold f4_5
  refine aa.tv lw (aa.tv rfl (aa.ite (aZ hcl) (fun _=>?_) fun h=>nomatch h))
  refine aa.tv rfl (aa.ite (eqN a c) (fun h1=>?_) fun h1=>?_)
  ·have h1:a=c:=of_decide_eq_true h1
   exact f4_6_J (six true ⟨fun _=>by rw [h1],fun _=>rfl⟩)
  ·have h1:¬ a=c:=of_decide_eq_false h1
   refine aa.call (wn hb hs a c) (aa.chk rfl (aa.ite rfl (fun h2=>?_) fun h2=>?_))
   ·have h2:Co m a c:=by simpa using h2
    refine aa.call (wn hb hs c a) (aa.chk rfl (f4_6_J (six _ ?_)))
    rw [decide_eq_true_eq,yd ha hcl]
    exact ⟨fun h=>.inr ⟨h2,h⟩,fun h=>h.elim (fun e=>absurd e h1) fun h=>h.2⟩
   ·have h2:¬ Co m a c:=by simpa using h2
    refine f4_6_J (six false ⟨fun h=>(by cases h),fun h=>?_⟩)
    rcases (yd ha hcl).1 h with e | ⟨h3,_⟩
    ·exact absurd e h1
    ·exact absurd h3 h2
theorem Fb:∀ (d a:Nat),a + d=m.funcs.length→aa prog 4 (f4_4 (I a) b w) (B true):=by
 have lw:=hw.len (t:=3)
 rw [aL] at lw
 intro d
 induction d with
 | zero =>
  intro a ha
  have ha:a=m.funcs.length:=by omega
  subst ha
  unfold f4_4
  exact aa.tv lw (aa.tv rfl (aa.ite bi (fun h=>nomatch h) fun _=>aa.ret))
 | succ d ih =>
  intro a ha
  unfold f4_4
  exact aa.tv lw (aa.tv rfl (aa.ite (aZ (by omega)) (fun _=>f4_5_J (pairIn hb hs hw (by omega) (ih (a + 1) (by omega)) m.funcs.length 0 (by omega))) fun h=>nomatch h))
end
section
variable {w3:TV} (h3:RL (some true) 1 (RII (some false)) w3 ((gsM m).map ah))
include h3
theorem atIn {i : Nat} {grp : List Nat} (hg : (gsM m)[i]? = some grp) {many : Nat} (hmb : many + grp.length ≤ m.funcs.length)
  (hn:∀ w,RInts (some true) w (bE m.funcs.length (ofT (pix m) (i + 1) []))→aa prog 4 (f4_0 (I (many + grp.length:Nat)) (I (i + 1:Nat)) b w3 w) (B true)) :
  ∀ (d j:Nat) (w:TV),j + d=grp.length→RInts (some true) w (bE m.funcs.length (ofT (pix m) i (grp.take j)))→aa prog 4 (f4_1 (I (many + j:Nat)) (I i) (I j) b w3 w) (B true):=by
 have hC:=Az m
 have hN:=hs.1
 have hgl:=(FE.1 hg).1
 have hcl:=hC.len
 have hgm:=FN hg
 have hsz:=hC.sz grp hgm
 have hsrt:grp.Pairwise (· < ·):=by
  obtain ⟨n,_,e⟩:=(pM m).1 i grp hg
  rw [e]
  exact kX _ _ _
 obtain ⟨e3,he3,r,rfl,hr⟩:=h3.pel (show ((gsM m).map ah)[i]? = some (ah grp) by simp [hg])
 have ani:ab (I (i:Int))=some i:=aj (by omega)
 have l3:=h3.slLen
 rw [List.length_map] at l3
 have lr:=hr.len (t:=3)
 have lsr:=hr.slLen
 rw [bL] at lr lsr
 have hci:(slSize w3 1 && Nat.blt i (gsM m).length)=true:=by rw [h3.slSize]; simpa using hgl
 intro d
 induction d with
 | zero =>
  intro j w hj hw
  have hj:j=grp.length:=by omega
  subst hj
  rw [List.take_length] at hw
  have := hn w (by
   rw [aB (h := ofT (pix m) i grp) fun n hn => by
    unfold ofT
    have:(pix m n < i + 1∨(pix m n=i + 1∧n ∈ ([]:List Nat))) ↔ (pix m n < i∨(pix m n=i∧n ∈ grp)):=by
     constructor
     ·rintro (h | ⟨_,h⟩)
      ·by_cases e:pix m n=i
       ·obtain ⟨g',hg',hn'⟩:=hC.ix n hn
        rw [e,hg] at hg'
        cases hg'
        exact .inr ⟨e,hn'⟩
       ·exact .inl (by omega)
      ·cases h
     ·rintro (h | ⟨h,_⟩)
      ·exact .inl (by omega)
      ·exact .inl (by omega)
    by_cases h:pix m n < i∨(pix m n=i∧n ∈ grp)
    ·rw [if_pos (this.2 h),if_pos h]
    ·rw [if_neg (fun h'=>h (this.1 h')),if_neg h]]
   exact hw)
  unfold f4_1
  refine aa.nat l3 (aa.nat ani (aa.chk hci (aa.tvs he3 (aa.chk (bh hr.isSl) (aa.tv (h3.cQ he3 rfl) (aa.tv lr (aa.tv rfl (aa.ite bi (fun h=>nomatch h) fun _=>?_))))))))
  exact aa.tv (inc hgl (by omega)) (f4_0_J this)
 | succ d ih =>
  intro j w hj hw
  have hjl:j < grp.length:=by omega
  obtain ⟨n,hn'⟩:∃ n,grp[j]? = some n:=⟨_,FF hjl⟩
  have hng:=FN hn'
  have hnN:=hC.low grp hgm n hng
  have hnx:=hC.un i grp n hg hng
  obtain ⟨en,hen,rfl,_⟩:=hr.pel (show (ah grp)[j]? = some (n:Int) by simp [ah,hn'])
  obtain ⟨eo,heo,rfl,_⟩:=hw.pel (aH hnN)
  obtain ⟨w',a1,hr'⟩:=hw.iG heo (d:=0) (ys:=[I (i:Int)]) (a:=(i:Int)) ⟨rfl,by unfold inI; omega⟩
  have htk:grp.take (j + 1)=grp.take j ++ [n]:=by rw [List.take_add_one,hn']; rfl
  rw [g8, aB (h := ofT (pix m) i (grp.take (j + 1))) fun k hk => by
   by_cases e:k=n
   ·subst e
    rw [eg]
    unfold ofT
    rw [if_pos (.inr ⟨hnx,by rw [htk]; exact List.mem_append.2 (.inr (List.mem_singleton.2 rfl))⟩),hnx]
   ·rw [eQ e]
    unfold ofT
    have:(pix m k < i∨(pix m k=i∧k ∈ grp.take (j + 1))) ↔ (pix m k < i∨(pix m k=i∧k ∈ grp.take j)):=by
     rw [htk,List.mem_append,List.mem_singleton]
     simp [e]
    by_cases h:pix m k < i∨(pix m k=i∧k ∈ grp.take j)
    ·rw [if_pos h,if_pos (this.2 h)]
    ·rw [if_neg h,if_neg fun h'=>h (this.1 h')]] at hr'
  have next:=ih (j + 1) w' (by omega) hr'
  have anj:ab (I (j:Int))=some j:=aj (by omega)
  have ann:ab (I (n:Int))=some n:=aj (by omega)
  have lw:=hw.slLen
  have lwn:=hw.len (t:=3)
  rw [aL] at lw lwn
  have hcj:(slSize r 1 && Nat.blt j grp.length)=true:=by rw [hr.slSize]; simpa using hjl
  have three:aa prog 4 (f4_3 (I (many + j:Nat)) (I i) (I j) b w3 w) (B true):=by
   unfold f4_3
   refine aa.nat l3 (aa.nat ani (aa.chk hci (aa.tvs he3 (aa.chk (bh hr.isSl) (aa.tv (h3.cQ he3 rfl) (aa.nat lsr (aa.nat anj (aa.chk hcj (aa.tv (h3.cQ he3 rfl) (aa.tvs hen (aa.chk rfl ?_)))))))))))
   refine aa.nat lw (aa.nat ann (aa.chk (by rw [hw.slSize]; simpa using hnN) (aa.chk rfl (aa.tvs heo (aa.chk rfl (aa.tv a1 ?_))))))
   exact aa.tv (inc (n:=1000) (by omega) (by omega)) (aa.tv (inc hjl (by omega)) (f4_1_J next))
  unfold f4_1
  refine aa.nat l3 (aa.nat ani (aa.chk hci (aa.tvs he3 (aa.chk (bh hr.isSl) (aa.tv (h3.cQ he3 rfl) (aa.tv lr (aa.tv rfl (aa.ite (aZ hjl) (fun _=>?_) fun h=>nomatch h))))))))
  refine aa.nat l3 (aa.nat ani (aa.chk hci (aa.tvs he3 (aa.chk (bh hr.isSl) (aa.tv (h3.cQ he3 rfl) (aa.nat lsr (aa.nat anj (aa.chk hcj (aa.tv (h3.cQ he3 rfl) (aa.tvs hen (aa.chk rfl ?_)))))))))))
  refine aa.tv rfl (aa.ite (v:=false) (by simp [asBool] <;> omega) (fun h=>nomatch h) fun _=>?_)
  refine aa.nat l3 (aa.nat ani (aa.chk hci (aa.tvs he3 (aa.chk (bh hr.isSl) (aa.tv (h3.cQ he3 rfl) (aa.nat lsr (aa.nat anj (aa.chk hcj (aa.tv (h3.cQ he3 rfl) (aa.tvs hen (aa.chk rfl ?_)))))))))))
  refine aa.tv lwn (aa.tv rfl (aa.ite (v:=false) (by simp [asBool] <;> omega) (fun h=>nomatch h) fun _=>?_))
  by_cases hj0:j=0
  ·exact aa.tv rfl (aa.ite (v:=false) (by subst hj0; rfl) (fun h=>nomatch h) fun _=>f4_3_J three)
  ·obtain ⟨n',hn2⟩:∃ n',grp[j - 1]? = some n':=⟨_,FF (by omega)⟩
   have hlt:n' < n:=by
    obtain ⟨q1,q2⟩:=FE.1 hn2
    obtain ⟨q3,q4⟩:=FE.1 hn'
    rw [← q2,← q4]
    exact List.pairwise_iff_getElem.1 hsrt (j - 1) j q1 q3 (by omega)
   obtain ⟨en2,hen2,rfl,_⟩:=hr.pel (show (ah grp)[j - 1]? = some (n':Int) by simp [ah,hn2])
   have anj1:ab (I ((j - 1:Nat):Int))=some (j - 1):=aj (by omega)
   have hcj1:(slSize r 1 && Nat.blt (j - 1) grp.length)=true:=by rw [hr.slSize]; simp; omega
   refine aa.tv rfl (aa.ite (v:=true) (by simp [asBool] <;> omega) (fun _=>?_) fun h=>nomatch h)
   refine aa.nat l3 (aa.nat ani (aa.chk hci (aa.tvs he3 (aa.chk (bh hr.isSl) (aa.tv (h3.cQ he3 rfl) (aa.nat lsr (aa.nat anj (aa.chk hcj (aa.tv (h3.cQ he3 rfl) (aa.tvs hen (aa.chk rfl ?_)))))))))))
   refine aa.nat l3 (aa.nat ani (aa.chk hci (aa.tvs he3 (aa.chk (bh hr.isSl) (aa.tv (psub1 (by omega) (by omega)) (aa.tv (h3.cQ he3 rfl) (aa.nat lsr (aa.nat anj1 (aa.chk hcj1 (aa.tv (h3.cQ he3 rfl) (aa.tvs hen2 (aa.chk rfl ?_))))))))))))
   exact aa.tv rfl (aa.ite (v:=false) (by simp [asBool] <;> omega) (fun h=>nomatch h) fun _=>f4_3_J three)
theorem atOut:∀ (d i:Nat) (w:TV),i + d=(gsM m).length→RInts (some true) w (bE m.funcs.length (ofT (pix m) i []))→aa prog 4 (f4_0 (I (((gsM m).take i).flatten.length:Nat)) (I i) b w3 w) (B true):=by
 have hC:=Az m
 have hN:=hs.1
 have hcl:=hC.len
 have l3:=h3.len (t:=28)
 rw [List.length_map] at l3
 intro d
 induction d with
 | zero =>
  intro i w hi hw
  have hi:i=(gsM m).length:=by omega
  subst hi
  rw [List.take_length,(pM m).2.2.2.2]
  have hw:RInts (some true) w (bE m.funcs.length fun n=>(pix m n:Int)):=by
   rw [aB (h:=ofT (pix m) (gsM m).length []) fun n hn=>by
    unfold ofT
    rw [if_pos (.inl (hC.lt hn))]]
   exact hw
  have lw:=hw.len (t:=3)
  rw [aL] at lw
  unfold f4_0
  refine aa.tv l3 (aa.tv rfl (aa.ite bi (fun h=>nomatch h) fun _=>f4_2_J ?_))
  unfold f4_2
  exact aa.tv lw (aa.tv rfl (aa.ite (v:=false) (by simp [asBool]) (fun h=>nomatch h) fun _=>f4_4_J (Fb hb hs hw m.funcs.length 0 (by omega))))
 | succ d ih =>
  intro i w hi hw
  have hil:i < (gsM m).length:=by omega
  obtain ⟨grp,hg⟩:∃ grp,(gsM m)[i]? = some grp:=⟨_,FF hil⟩
  have htk:(gsM m).take (i + 1)=(gsM m).take i ++ [grp]:=by rw [List.take_add_one,hg]; rfl
  have hlen:((gsM m).take (i + 1)).flatten.length=((gsM m).take i).flatten.length + grp.length:=by rw [htk]; simp
  have hle:((gsM m).take (i + 1)).flatten.length≤m.funcs.length:=by
   rw [← (pM m).2.2.2.2]
   have e:(gsM m).flatten.length=((gsM m).take (i + 1)).flatten.length + ((gsM m).drop (i + 1)).flatten.length:=by
    rw [← List.length_append,← List.flatten_append,List.take_append_drop]
   omega
  have:=atIn hb hs h3 hg (many:=((gsM m).take i).flatten.length) (by omega) (fun w hw=>by
   have:=ih (i + 1) w (by omega) hw
   rw [hlen] at this
   exact this) grp.length 0 w (by omega) hw
  unfold f4_0
  exact aa.tv l3 (aa.tv rfl (aa.ite (aZ hil) (fun _=>f4_1_J this) fun h=>nomatch h))
end
end
theorem rCallsGroups {e:List TV} {m:DMod} (he:RMod (some false) e m):cP prog 4 [.agg e] (B true):=by
 obtain ⟨b,rfl,hb⟩:=he
 obtain ⟨sh,hsh,hsm⟩:=r7 (q:=some false) (e:=[b]) (m:=m) ⟨b,rfl,hb⟩
 refine cP.of (f4_MR _) ?_
 unfold f4_M
 refine aa.chk rfl (aa.call CD (aa.chk rfl (aa.tv rfl (aa.ite (v:=false) rfl (fun h=>nomatch h) fun _=>?_))))
 refine aa.call hsh (aa.chk rfl (aa.tv rfl ?_))
 cases sh with
 | false=>exact aa.ite (v:=true) rfl (fun _=>aa.ret) fun h=>nomatch h
 | true =>
  obtain ⟨hs,_⟩:=BF (hsm rfl)
  have hN:=hs.1
  obtain ⟨y,hy,hr⟩:=B0 hb hs
  have hzero:RI1 [I 0] 0:=⟨rfl,by unfold inI; omega⟩
  have hz:=RL.rep (s:=1) hzero (n:=m.funcs.length) (by omega)
  have han:ab (I (m.funcs.length:Int))=some m.funcs.length:=aj (by omega)
  refine aa.ite (v:=false) rfl (fun h=>nomatch h) fun _=>aa.call hy (aa.chk (bh hr.isSl) (aa.tv hb.len (aa.nat han (aa.nat han (aa.chk (by simp; omega) (f4_0_J ?_))))))
  exact atOut hb hs (w3:=y) hr (gsM m).length 0 _ (by omega) (by
   rw [aB (h:=fun _=>(0:Int)) fun n _=>by unfold ofT; rw [if_neg]; simp]
   exact hz)
end Go.Ab.C11
end

import Derived.Test.YtljcpjlpggnolaaQC11F169
set_option linter.all false
section
set_option maxRecDepth 10000
namespace Go.Ab
theorem AQ {a:Int} (h1:-9223372036854775808≤a - 1) (h2:a - 1≤9223372036854775807):pbin (.int .i64) .sub (I a) (I 1)=some (I (a - 1)):=by
 have e:IntKind.i64.wrap (a - 1)=a - 1:=by
  rw [IntKind.wrap_i64]
  omega
 show some (TV.lit (.int .i64 (IntKind.i64.wrap (a - 1))))=_
 rw [e]
theorem BI.init {m:DMod} {M:List Bool} {n:Nat} (hl:M.length=m.funcs.length) (hn:M[n]? = some false):BI m (fun k=>M[k]? = some true) n (M.set n true) [n] 0:=by
 have hlt:n < M.length:=(Gu.1 hn).1
 refine ⟨by rw [List.length_set]; exact hl,fun k=>?_,by simp,fun k hk=>?_,fun k hk=>?_,List.mem_singleton.2 rfl,fun i hi=>absurd hi (Nat.not_lt_zero _)⟩
 ·by_cases e:k=n
  ·subst e; rw [List.getElem?_set_self hlt]; simp
  ·rw [List.getElem?_set_ne (Ne.symm e)]; simp [e]
 ·rw [List.mem_singleton.1 hk,hn]; simp
 ·rw [List.mem_singleton.1 hk]; exact ⟨by omega,.inl rfl⟩
theorem BI.next {m:DMod} {M0:Nat→Prop} {n:Nat} {M:List Bool} {l:List Nat} {at_ k:Nat} (h:BI m M0 n M l at_) (hk:l[at_]? = some k) (hc:∀ a,ofP m a k→M[a]? = some true):BI m M0 n M l (at_ + 1):=by
 refine ⟨h.len,h.iff,h.nod,h.new,h.frm,h.has,fun i hi k' hk' a ha=>?_⟩
 by_cases e:i=at_
 ·subst e
  rw [hk] at hk'
  cases hk'
  exact hc a ha
 ·exact h.clo i (by omega) k' hk' a ha
theorem Az:∀ {xs:List (List TV)} {ll:List (List Int)},F2 (RII (some true)) xs ll→(∀ l ∈ ll,l≠[])→yH xs=some ll
 | _,_,.nil,_=>rfl
 | _, _, .cons h t, hne => by
  obtain ⟨v,rfl,hv⟩:=h
  have ht:=Az t fun l hl=>hne l (GC _ hl)
  rcases hv with ⟨_,rfl⟩ | ⟨o,xs,rfl,hq,h,_⟩
  ·exact absurd rfl (hne _ GB)
  ·have:o=true:=hq true rfl
   subst this
   show (match FK _,yH _ with | some k,some r=>_ | _,_=>_)=_
   rw [ht]
   simp only [FK,rT h]
theorem vy:∀ {ll:List (List Int)},(∀ l ∈ ll,l.length≤9223372036854775807∧∀ n ∈ l,inI n)→F2 (RII (some true)) (gH ll) ll
 | [],_=>.nil
 | l :: ll,h=>.cons ⟨_,rfl,.sl (by simp) (mN (h l GB).2) (by simpa [bC] using (h l GB).1)⟩ (vy fun m hm=>h m (GC _ hm))
theorem Bt:∀ {xs:List (List TV)} {ll:List (List Int)},F2 (RII (some true)) xs ll→∀ l ∈ ll,l.length≤9223372036854775807∧∀ n ∈ l,inI n
 | _,_,.nil,l,h=>by cases h
 | _, _, .cons h t, l, hl => by
  rcases List.mem_cons.1 hl with rfl | hl
  ·obtain ⟨v,rfl,hv⟩:=h
   refine ⟨hv.bnd,?_⟩
   rcases hv with ⟨_,rfl⟩ | ⟨o,xs,rfl,hq,h,_⟩
   ·intro n hn; cases hn
   ·exact wM h
  ·exact Bt t l hl
theorem Cn {c:FuncId} {y:TV} {ll:List (List Int)} (hr:RL (some true) 1 (RII (some true)) y ll) (hne:∀ l ∈ ll,l≠[]) (hl:ll.length < 4611686018427387904):∃ v v',oj c [y,.lit (.func (.func c) #[] #[])]=some v∧pput 0 y v=some v'∧RL (some true) 1 (RII (some true)) v' (isB leL ll):=by
 have hcc:Nat.beq c c=true:=Nat.beq_refl c
 rcases hr with ⟨rfl,rfl⟩ | ⟨o,xs,rfl,hq,h,hb⟩
 ·refine ⟨.lit aK,.lit aK,?_,rfl,RL.nil⟩
  simp only [oj,aK,hcc]
  rfl
 ·have:o=true:=hq true rfl
  subst this
  have hxl:=h.length
  have hlen:=(ci (le:=leL) ll).length_eq
  refine ⟨.sl true 1 (gH (isB leL ll)),.sl true 1 (gH (isB leL ll)),?_,?_,.sl (by simp) (vy fun l hl=>Bt h l ((ci ll).mem_iff.1 hl)) (by simp [gH]; omega)⟩
  ·have:mI ll=true:=Nat.ble_eq_true_of_le hl
   simp only [oj,hcc,Az h hne,this]
   rfl
  ·have hml:(gH (isB leL ll)).length=xs.length:=by simp [gH]; omega
   simp only [pput]
   rw [if_pos ⟨trivial,by omega⟩,Nat.zero_add,hml,List.drop_length,List.append_nil]
   rfl
end Go.Ab
namespace Go.Ab.C11
open Go Go.Ab Go.Proofs
theorem rSortF {x v:TV} (h:oj 39 [x,.lit (.func (.func 39) #[] #[])]=some v):bu prog 38 [x,.lit (.func (.func 39) #[] #[])] v:=⟨1,h⟩
section
variable {c0 c1:TV} {m:DMod} (h1:RL (some false) 1 (RII (some false)) c1 (bR m.funcs.length fun k=>clT m k m.funcs.length)) (hN:m.funcs.length≤100)
include h1 hN
section
variable {M0:Nat→Prop} {n:Nat} {w10 w11 x12:TV} {Z:TV→Prop}
theorem E5 {K at_ k:Nat} {r:TV} (hr:RInts (some false) r (clT m k m.funcs.length))
  (hk : ∀ (M : List Bool) (l : List Nat) (w4 w7 : TV), RBools (some true) w4 M → RInts (some true) w7 (af l) → BI m M0 n M l (at_ + 1) → at_ < l.length → l.length + M.count false = K →
   ∃ y,aa prog 28 (f28_2 (I (at_ + 1:Nat)) w4 c0 c1 w7 c0 c1 w10 w11 x12) y∧Z y) (hK:K≤200) :
  ∀ (d j:Nat) (M:List Bool) (l:List Nat) (w4 w7:TV),j + d=(clT m k m.funcs.length).length→RBools (some true) w4 M→RInts (some true) w7 (af l)→BI m M0 n M l at_→l[at_]? = some k→l.length + M.count false=K→(∀ a:Nat,(a:Int) ∈ (clT m k m.funcs.length).take j→M[a]? = some true) →
   ∃ y,aa prog 28 (f28_3 (I at_) r (I (clT m k m.funcs.length).length) (I j) w4 c0 c1 w7 c0 c1 w10 w11 x12) y∧Z y:=by
 have hcl:=AW m k m.funcs.length
 intro d
 induction d with
 | zero =>
  intro j M l w4 w7 hj h4 h7 hB hl hs hin
  have hj:j=(clT m k m.funcs.length).length:=by omega
  subst hj
  rw [List.take_length] at hin
  have hat:=(Gu.1 hl).1
  obtain ⟨y,hy,hz⟩:=hk M l w4 w7 h4 h7 (hB.next hl fun a ha=>hin a (A7.2 ⟨a,rfl,(Co.one ha).lt.1,ha⟩)) hat hs
  refine ⟨y,?_,hz⟩
  unfold f28_3
  exact aa.tv rfl (aa.ite aJ nofun fun _=>aa.tv (inc hat (by omega)) (f28_2_J hy))
 | succ d ih =>
  intro j M l w4 w7 hj h4 h7 hB hl hs hin
  have hjl:j < (clT m k m.funcs.length).length:=by omega
  obtain ⟨x,hx⟩:∃ x,(clT m k m.funcs.length)[j]? = some x:=⟨_,Gv hjl⟩
  obtain ⟨a,rfl,haN,hap⟩:=A7.1 (GD hx)
  obtain ⟨e,he,rfl,hea⟩:=hr.idx (k:=.i64) hx
  have haM:a < M.length:=by rw [hB.len]; exact haN
  obtain ⟨c,hcM⟩:∃ c,M[a]? = some c:=⟨_,Gv haM⟩
  obtain ⟨eb,heb,hRb⟩:=h4.pel hcM
  cases hRb
  have ana:ae (I (a:Int))=some a:=aj (by omega)
  have hat:=(Gu.1 hl).1
  have htk:(clT m k m.funcs.length).take (j + 1)=(clT m k m.funcs.length).take j ++ [(a:Int)]:=by rw [List.take_add_one,hx]; rfl
  have hc1:(slSize w4 1 && Nat.blt a M.length)=true:=by rw [h4.slSize]; simpa using haM
  cases c with
  | true =>
   obtain ⟨y,hy,hz⟩:=ih (j + 1) M l w4 w7 (by omega) h4 h7 hB hl hs (fun b hb=>by
    rw [htk] at hb
    rcases List.mem_append.1 hb with hb | hb
    ·exact hin b hb
    ·have:b=a:=by have:=List.mem_singleton.1 hb; omega
     subst this; exact hcM)
   refine ⟨y,?_,hz⟩
   unfold f28_3
   refine aa.tv rfl (aa.ite (aF hjl) (fun _=>?_) nofun)
   refine aa.tvs he (aa.chk rfl (aa.nat h4.slLen (aa.nat ana (aa.chk hc1 (aa.tvs heb (aa.chk rfl (aa.tv rfl (aa.ite (v:=false) rfl nofun fun _=>?_))))))))
   exact aa.tv (inc hjl (by omega)) (f28_3_J hy)
  | false =>
   obtain ⟨w4',a1,hr4⟩:=h4.iO heb (d:=0) (ys:=[B true]) (a:=true) rfl
   have hcnt:=jx hcM
   obtain ⟨w7',a2,hr7⟩:=h7.app (e:=[I (a:Int)]) (a:=(a:Int)) ⟨rfl,hea⟩ (by simp [af]; omega)
   obtain ⟨y,hy,hz⟩:=ih (j + 1) (M.set a true) (l ++ [a]) w4' w7' (by omega) hr4 (by rw [gN]; exact hr7) (hB.add (by omega) hcM (GD hl) hap) (by rw [GE hat]; exact hl) (by rw [List.length_append]; simp; omega) (fun b hb=>by
    by_cases e:b=a
    ·subst e; exact List.getElem?_set_self haM
    ·rw [List.getElem?_set_ne (Ne.symm e)]
     rw [htk] at hb
     rcases List.mem_append.1 hb with hb | hb
     ·exact hin b hb
     ·exact absurd (by have:=List.mem_singleton.1 hb; omega) e)
   refine ⟨y,?_,hz⟩
   unfold f28_3
   refine aa.tv rfl (aa.ite (aF hjl) (fun _=>?_) nofun)
   refine aa.tvs he (aa.chk rfl (aa.nat h4.slLen (aa.nat ana (aa.chk hc1 (aa.tvs heb (aa.chk rfl (aa.tv rfl (aa.ite (v:=true) rfl (fun _=>?_) nofun))))))))
   exact aa.nat h4.slLen (aa.nat ana (aa.chk hc1 (aa.tvs heb (aa.chk rfl (aa.tv a1 (aa.rws rfl (aa.tv a2 (aa.tv (inc hjl (by omega)) (f28_3_J hy)))))))))
theorem D5 {K:Nat} (hK:K≤200) {gs:List (List Int)} (h10:RL (some true) 1 (RII (some true)) w10 gs) (hgl:gs.length≤1000) {s:Int} (hs:-1≤s - 1∧s≤1000)
  (hk:∀ (M:List Bool) (l:List Nat) (w4 w10:TV),RBools (some true) w4 M→BI m M0 n M l l.length→RL (some true) 1 (RII (some true)) w10 (gs ++ [isB leI (af l)])→∃ y,aa prog 28 (f28_1 (I (s - 1)) c0 c1 w11 w10 w4) y∧Z y) :
  ∀ (d at_:Nat) (M:List Bool) (l:List Nat) (w4 w7:TV),at_ + d=K + 1→at_≤l.length→RBools (some true) w4 M→RInts (some true) w7 (af l)→BI m M0 n M l at_→l.length + M.count false=K →
   ∃ y,aa prog 28 (f28_2 (I at_) w4 c0 c1 w7 c0 c1 w10 w11 (I s)) y∧Z y:=by
 intro d
 induction d with
 | zero=>intro at_ M l w4 w7 hd hat h4 h7 hB hsum; omega
 | succ d ih =>
  intro at_ M l w4 w7 hd hat h4 h7 hB hsum
  have hcl:(af l).length=l.length:=by simp [af]
  have l7:=h7.len (t:=3)
  have ls7:=h7.slLen
  rw [hcl] at l7 ls7
  by_cases he:at_=l.length
  ·subst he
   obtain ⟨v,v',s1,s2,s3⟩:=yG h7 (by rw [hcl]; omega)
   obtain ⟨w',p1,p2⟩:=h10.app (e:=[v']) (a:=isB leI (af l)) ⟨v',rfl,s3⟩ (by omega)
   obtain ⟨y,hy,hz⟩:=hk M l w4 w' h4 hB p2
   refine ⟨y,?_,hz⟩
   have hsub:pbin (.int .i64) .sub (I s) (I 1)=some (I (s - 1)):=AQ (by omega) (by omega)
   unfold f28_2
   refine aa.tv l7 (aa.tv rfl (aa.ite aJ nofun fun _=>?_))
   exact aa.call (Bl s1) (aa.tv s2 (aa.rws rfl (aa.tv p1 (aa.tv hsub (f28_1_J hy)))))
  ·have hlt:at_ < l.length:=by omega
   obtain ⟨k,hk'⟩:∃ k,l[at_]? = some k:=⟨_,Gv hlt⟩
   have hkN:=(hB.frm k (GD hk')).1
   obtain ⟨e1,he1,rfl,_⟩:=h7.pel (show (af l)[at_]? = some (k:Int) by simp [af,hk'])
   obtain ⟨e2,he2,r,rfl,hr⟩:=h1.idx (k:=.i64) (aP hkN)
   obtain ⟨y,hy,hz⟩:=E5 h1 hN (c0:=c0) (w10:=w10) (w11:=w11) (x12:=I s) (K:=K) hr (fun M l w4 w7 g4 g7 gB gl gs=>ih (at_ + 1) M l w4 w7 (by omega) (by omega) g4 g7 gB gs) hK _ 0 M l w4 w7 (Nat.zero_add _) h4 h7 hB hk' hsum (fun a ha=>by simp at ha)
   refine ⟨y,?_,hz⟩
   have ana:ae (I (at_:Int))=some at_:=aj (by omega)
   unfold f28_2
   refine aa.tv l7 (aa.tv rfl (aa.ite (aF hlt) (fun _=>?_) nofun))
   exact aa.nat ls7 (aa.nat ana (aa.chk (by rw [h7.slSize]; simpa using hlt) (aa.tvs he1 (aa.chk rfl (aa.tvs he2 (aa.chk rfl (aa.tv hr.len (f28_3_J hy))))))))
end
theorem Ap {w3:TV} {L:List Bool} {left:List Nat} (h3:RInts (some true) w3 (af left)) (hL:LI m L [] left) (hall:∀ j,j < m.funcs.length→L[j]? = some true) (hll:left.length≤1000) :
  ∀ (d:Nat) (M:List Bool) (gs:List (List Nat)) (w4 w5:TV),d≤left.length→RBools (some true) w5 M→RL (some true) 1 (RII (some true)) w4 (gs.map af)→GI m M gs→gs.length + d≤left.length→(∀ y ∈ left.drop d,M[y]? = some true) →
   ∃ y,aa prog 28 (f28_1 (I ((d:Int) - 1)) c0 c1 w3 w4 w5) y∧RL (some true) 1 (RII (some true)) y ((comps (Rn (ofP m)) m.funcs.length).map af):=by
 have hinl:∀ v,v ∈ left ↔ v < m.funcs.length:=fun v=>by
  constructor
  ·intro hv
   have:=(hL.di.iff v).2 (.inl hv)
   have:=(Gu.1 this).1
   have:=hL.len
   omega
  ·intro hv
   rcases (hL.di.iff v).1 (hall v hv) with a | a
   ·exact a
   ·cases a
 have hcl:(af left).length=left.length:=by simp [af]
 have ls3:=h3.slLen
 rw [hcl] at ls3
 intro d
 induction d with
 | zero =>
  intro M gs w4 w5 hd h5 h4 hG hgl hr
  have hne:∀ l ∈ gs.map af,l≠[]:=fun l hl=>by
   obtain ⟨g,hg,rfl⟩:=List.mem_map.1 hl
   obtain ⟨n,hn,rfl⟩:=hG.grp g hg
   intro e
   have:n ∈ ba (Rn (ofP m)) m.funcs.length n:=bq.2 ⟨hn,.inl rfl⟩
   rw [qt (b:=[]) e] at this
   cases this
  obtain ⟨v,v',s1,s2,s3⟩:=Cn (c:=39) h4 hne (by rw [List.length_map]; omega)
  rw [hG.all fun k hk=>hr k (by rw [List.drop_zero]; exact (hinl k).2 hk)] at s3
  refine ⟨v',?_,s3⟩
  unfold f28_1
  refine aa.tv rfl (aa.ite (v:=false) rfl nofun fun _=>?_)
  exact aa.call (rSortF s1) (aa.tv s2 (aa.chk (s3.own fun _ _ h=>h.own) aa.ret))
 | succ d ih =>
  intro M gs w4 w5 hd h5 h4 hG hgl hr
  have hdl:d < left.length:=by omega
  obtain ⟨n,hn⟩:∃ n,left[d]? = some n:=⟨_,Gv hdl⟩
  have hsplit:left=left.take d ++ n :: left.drop (d + 1):=by
   have e:=List.drop_eq_getElem_cons hdl
   obtain ⟨_,e2⟩:=Gu.1 hn
   rw [e2] at e
   rw [← e,List.take_append_drop]
  have hnN:n < m.funcs.length:=(hinl n).1 (GD hn)
  have hnM:n < M.length:=by rw [hG.len]; exact hnN
  obtain ⟨e1,he1,rfl,hen⟩:=h3.pel (show (af left)[d]? = some (n:Int) by simp [af,hn])
  obtain ⟨c,hcM⟩:∃ c,M[n]? = some c:=⟨_,Gv hnM⟩
  obtain ⟨eb,heb,hRb⟩:=h5.pel hcM
  cases hRb
  have hdd:((d + 1:Nat):Int) - 1=(d:Int):=by omega
  rw [hdd]
  have and:ae (I (d:Int))=some d:=aj (by omega)
  have ann:ae (I (n:Int))=some n:=aj (by omega)
  have hc1:(slSize w3 1 && Nat.blt d left.length)=true:=by rw [h3.slSize]; simpa using hdl
  have hc5:(slSize w5 1 && Nat.blt n M.length)=true:=by rw [h5.slSize]; simpa using hnM
  have hsub:pbin (.int .i64) .sub (I (d:Int)) (I 1)=some (I ((d:Int) - 1)):=AQ (by omega) (by omega)
  have hge:asBool (.lit (.bool (decide ((d:Int) ≥ 0))))=some true:=by simp [asBool]
  cases c with
  | true =>
   obtain ⟨y,hy,hz⟩:=ih M gs w4 w5 (by omega) h5 h4 hG (by omega) (fun x hx=>by
    rw [List.drop_eq_getElem_cons hdl] at hx
    rcases List.mem_cons.1 hx with e | hx
    ·obtain ⟨_,e2⟩:=Gu.1 hn
     rw [e,e2]; exact hcM
    ·exact hr x hx)
   refine ⟨y,?_,hz⟩
   unfold f28_1
   refine aa.tv rfl (aa.ite hge (fun _=>?_) nofun)
   refine aa.nat ls3 (aa.nat and (aa.chk hc1 (aa.tvs he1 (aa.chk rfl (aa.nat h5.slLen (aa.nat ann (aa.chk hc5 (aa.tvs heb (aa.chk rfl (aa.tv rfl (aa.ite (v:=false) rfl nofun fun _=>?_)))))))))))
   exact aa.tv hsub (f28_1_J hy)
  | false =>
   obtain ⟨w5',a1,hr5⟩:=h5.iO heb (d:=0) (ys:=[B true]) (a:=true) rfl
   have hcnt:=jx hcM
   have hclen:M.count false≤M.length:=List.count_le_length
   have hMl:=hG.len
   have hone:RInts (some true) (.sl true 1 [[I (n:Int)]]) (af [n]):=.sl (by simp) (.cons ⟨rfl,hen⟩ .nil) (by simp)
   obtain ⟨y,hy,hz⟩:=D5 h1 hN (c0:=c0) (w11:=w3) (K:=M.count false) (by omega) h4 (by rw [List.length_map]; omega) (s:=(d:Int)) ⟨by omega,by omega⟩ (Z:=fun y=>RL (some true) 1 (RII (some true)) y ((comps (Rn (ofP m)) m.funcs.length).map af)) (M0:=fun k=>M[k]? = some true) (n:=n) (fun M' l w4' w10' g4 gB g10=>by
    obtain ⟨e1,e2⟩:=hG.next hL hall hsplit hr hnN (by rw [hcM]; simp) gB
    rw [e1] at g10
    refine ih M' _ w10' w4' (by omega) g4 (by rw [List.map_append]; exact g10) e2 (by rw [List.length_append]; simp; omega) (fun x hx=>?_)
    have up:M[x]? = some true→M'[x]? = some true:=fun h=>(gB.iff x).2 (.inl h)
    rw [List.drop_eq_getElem_cons hdl] at hx
    rcases List.mem_cons.1 hx with e | hx
    ·obtain ⟨_,e2⟩:=Gu.1 hn
     rw [e,e2]; exact (gB.iff n).2 (.inr gB.has)
    ·exact up (hr x hx)) (M.count false + 1) 0 (M.set n true) [n] w5' _ (by omega) (Nat.zero_le _) hr5 hone (BI.init hG.len hcM) (by simp; omega)
   refine ⟨y,?_,hz⟩
   unfold f28_1
   refine aa.tv rfl (aa.ite hge (fun _=>?_) nofun)
   refine aa.nat ls3 (aa.nat and (aa.chk hc1 (aa.tvs he1 (aa.chk rfl (aa.nat h5.slLen (aa.nat ann (aa.chk hc5 (aa.tvs heb (aa.chk rfl (aa.tv rfl (aa.ite (v:=true) rfl (fun _=>?_) nofun)))))))))))
   exact aa.nat h5.slLen (aa.nat ann (aa.chk hc5 (aa.tvs heb (aa.chk rfl (aa.tv a1 (f28_2_J hy))))))
end
theorem C3 {c0 c1:TV} {m:DMod} (h0:RL (some false) 1 (RII (some false)) c0 (bR m.funcs.length fun i=>ofL m (i:Int))) (h1:RL (some false) 1 (RII (some false)) c1 (bR m.funcs.length fun k=>clT m k m.funcs.length)) (hN:m.funcs.length≤100) :
  ∃ y,bu prog 28 [.agg [c0,c1]] y∧RL (some true) 1 (RII (some true)) y ((comps (Rn (ofP m)) m.funcs.length).map af):=by
 obtain ⟨v,L,left,g1,g2,g3,g4⟩:=rLeft h0 hN (c1:=c1)
 have hfalse:RB1 [B false] false:=rfl
 have hr:=RL.rep (s:=1) hfalse (n:=m.funcs.length) (by omega)
 rw [← sS] at hr
 have hll:left.length≤m.funcs.length:=by
  refine dO _ g3.di.nodl fun x hx=>?_
  have:=(g3.di.iff x).2 (.inl hx)
  have:=(Gu.1 this).1
  have:=g3.len
  omega
 have hno:∀ k,¬ (List.replicate m.funcs.length false)[k]? = some true:=fun k h=>by
  have:=List.eq_of_mem_replicate (GD h)
  cases this
 obtain ⟨y,hy,hz⟩:=Ap h1 hN (c0:=c0) g2 g3 g4 (by omega) left.length _ [] (.lit aK) _ (Nat.le_refl _) hr RL.nil ⟨by simp,fun g hg=>by (cases hg),List.Pairwise.nil,fun k=>⟨fun h=>absurd h (hno k),fun ⟨g,hg,_⟩=>by cases hg⟩,fun x y h=>absurd h (hno y)⟩ (by simp) (fun x hx=>by simp at hx)
 refine ⟨y,?_,hz⟩
 have han:ae (I (m.funcs.length:Int))=some m.funcs.length:=aj (by omega)
 have l0:=h0.len (t:=28)
 rw [bc] at l0
 have lv:=g2.len (t:=3)
 rw [show (af left).length=left.length by simp [af]] at lv
 have hsub:pbin (.int .i64) .sub (I (left.length:Int)) (I 1)=some (I ((left.length:Int) - 1)):=AQ (by omega) (by omega)
 refine bu.of (f28_MR _) ?_
 unfold f28_M
 refine aa.chk rfl (aa.tv l0 (aa.nat han (aa.nat han (aa.chk (by simp; omega) (aa.chk rfl (f28_0_J ?_))))))
 unfold f28_0
 exact aa.call g1 (aa.chk (aG g2.isSl) (aa.tv lv (aa.tv hsub (f28_1_J hy))))
end Go.Ab.C11
end
section
set_option maxRecDepth 10000
namespace Go.Ab
structure CI (N:Nat) (cs:List (List Nat)) (gix:Nat→Nat):Prop where
 low:∀ g ∈ cs,∀ x ∈ g,x < N
 len:cs.length≤N
 sz:∀ g ∈ cs,g.length≤N
 ix:∀ n,n < N→∃ g,cs[gix n]? = some g∧n ∈ g
 un:∀ (i:Nat) (g:List Nat) (n:Nat),cs[i]? = some g→n ∈ g→gix n=i
theorem CI.lt {N:Nat} {cs:List (List Nat)} {gix:Nat→Nat} (h:CI N cs gix) {n:Nat} (hn:n < N):gix n < cs.length:=by
 obtain ⟨g,hg,_⟩:=h.ix n hn
 exact (Gu.1 hg).1
def lK (gix:Nat→Nat) (n:Nat) (l:List Nat) (g:Nat):List Nat:=(l.filter fun k=>gix k == g && gix n != g).map fun _=>gix n
theorem ui {gix:Nat→Nat} {n:Nat} {l:List Nat} {j k:Nat} (h:l[j]? = some k) (g:Nat):lK gix n (l.take (j + 1)) g=lK gix n (l.take j) g ++ (if gix k == g && gix n != g then [gix n] else []):=by
 unfold lK
 rw [List.take_add_one,h,List.filter_append,List.map_append]
 cases hp:(gix k == g && gix n != g) <;> simp [hp]
theorem uJ (gix:Nat→Nat) (n:Nat) (l:List Nat) (g:Nat):(lK gix n l g).length≤l.length:=by
 unfold lK
 rw [List.length_map]
 exact List.length_filter_le _ _
theorem CJ {gix:Nat→Nat} {n:Nat} {l:List Nat} {g c:Nat}:c ∈ lK gix n l g ↔ c=gix n∧gix n≠g∧∃ k ∈ l,gix k=g:=by
 unfold lK
 simp only [List.mem_map,List.mem_filter,Gx,beq_iff_eq,bne_iff_ne]
 constructor
 ·rintro ⟨k,⟨h1,h2,h3⟩,rfl⟩; exact ⟨rfl,h3,k,h1,h2⟩
 ·rintro ⟨rfl,h3,k,h1,h2⟩; exact ⟨k,⟨h1,h2,h3⟩,rfl⟩
noncomputable def gS (m:DMod) (gix:Nat→Nat) (g:Nat):Nat→List Nat
 | 0=>[]
 | n + 1=>gS m gix g n ++ lK gix n (eQ m n) g
theorem t8 (m:DMod) (gix:Nat→Nat) (g:Nat):∀ n,(gS m gix g n).length≤n * m.funcs.length
 | 0=>by simp [gS]
 | n + 1=>by
  have h1:=t8 m gix g n
  have h2:=uJ gix n (eQ m n) g
  have h3:=oY m n
  rw [gS,List.length_append,Nat.add_mul,Nat.one_mul]
  omega
theorem oJ {m:DMod} {gix:Nat→Nat} {g c:Nat}:∀ {n:Nat},c ∈ gS m gix g n ↔ ∃ i,i < n∧c=gix i∧gix i≠g∧∃ k,ofP m i k∧gix k=g
 | 0=>by simp [gS]
 | n + 1 => by
  rw [gS,List.mem_append,oJ,CJ]
  constructor
  ·rintro (⟨i,h1,h2⟩ | ⟨h1,h2,k,h3,h4⟩)
   ·exact ⟨i,by omega,h2⟩
   ·exact ⟨n,by omega,h1,h2,k,mi.1 h3,h4⟩
  ·rintro ⟨i,h1,h2,h3,k,h4,h5⟩
   by_cases e:i=n
   ·subst e; exact .inr ⟨h2,h3,k,mi.2 h4,h5⟩
   ·exact .inl ⟨i,by omega,h2,h3,k,h4,h5⟩
def ofT (gix:Nat→Nat) (g:Nat) (l:List Nat) (n:Nat):Int:=if gix n < g∨(gix n=g∧n ∈ l) then (gix n:Int) else 0
end Go.Ab
namespace Go.Ab.C11
open Go Go.Ab Go.Proofs
section
variable {c0 c1 x1:TV} {m:DMod} {cs:List (List Nat)} {gix:Nat→Nat} (h0:RL (some false) 1 (RII (some false)) c0 (bR m.funcs.length fun i=>ofL m (i:Int))) (hN:m.funcs.length≤100) (hC:CI m.funcs.length cs gix)
include h0 hN hC
section
variable (hx:RL (some false) 1 (RII (some false)) x1 (cs.map af))
include hx
theorem ofIn {g : Nat} {grp : List Nat} (hg : cs[g]? = some grp) {r : TV} (hr : RInts (some false) r (af grp)) {Z : TV → Prop}
  (hk:∀ w,RInts (some true) w (bR m.funcs.length (ofT gix (g + 1) []))→∃ y,aa prog 32 (f32_0 x1 x1 (I cs.length) (I (g + 1:Nat)) c0 c1 w) y∧Z y) :
  ∀ (d j:Nat) (w:TV),j + d=grp.length→RInts (some true) w (bR m.funcs.length (ofT gix g (grp.take j))) →
   ∃ y,aa prog 32 (f32_1 x1 (I g) x1 (I cs.length) (I g) r (I grp.length) (I j) c0 c1 w) y∧Z y:=by
 have hgl:=(Gu.1 hg).1
 have hcl:=hC.len
 have hgm:=GD hg
 have hsz:=hC.sz grp hgm
 intro d
 induction d with
 | zero =>
  intro j w hj hw
  have hj:j=grp.length:=by omega
  subst hj
  rw [List.take_length] at hw
  obtain ⟨y,hy,hz⟩:=hk w (by
   rw [aH (h := ofT gix g grp) fun n hn => by
    unfold ofT
    have:(gix n < g + 1∨(gix n=g + 1∧n ∈ ([]:List Nat))) ↔ (gix n < g∨(gix n=g∧n ∈ grp)):=by
     constructor
     ·rintro (h | ⟨_,h⟩)
      ·by_cases e:gix n=g
       ·obtain ⟨g',hg',hn'⟩:=hC.ix n hn
        rw [e,hg] at hg'
        cases hg'
        exact .inr ⟨e,hn'⟩
       ·exact .inl (by omega)
      ·cases h
     ·rintro (h | ⟨h,_⟩)
      ·exact .inl (by omega)
      ·exact .inl (by omega)
    by_cases h:gix n < g∨(gix n=g∧n ∈ grp)
    ·rw [if_pos (this.2 h),if_pos h]
    ·rw [if_neg (fun h'=>h (this.1 h')),if_neg h]]
   exact hw)
  refine ⟨y,?_,hz⟩
  unfold f32_1
  exact aa.tv rfl (aa.ite aJ nofun fun _=>aa.tv (inc hgl (by omega)) (f32_0_J hy))
 | succ d ih =>
  intro j w hj hw
  have hjl:j < grp.length:=by omega
  obtain ⟨n,hn⟩:∃ n,grp[j]? = some n:=⟨_,Gv hjl⟩
  have hng:=GD hn
  have hnN:=hC.low grp hgm n hng
  have hnx:=hC.un g grp n hg hng
  obtain ⟨e,he,rfl,_⟩:=hr.idx (k:=.i64) (show (af grp)[j]? = some (n:Int) by simp [af,hn])
  obtain ⟨eo,heo,rfl,_⟩:=hw.pel (aP hnN)
  obtain ⟨w',a1,hr'⟩:=hw.iO heo (d:=0) (ys:=[I (g:Int)]) (a:=(g:Int)) ⟨rfl,by unfold inI; omega⟩
  have htk:grp.take (j + 1)=grp.take j ++ [n]:=by rw [List.take_add_one,hn]; rfl
  rw [jt, aH (h := ofT gix g (grp.take (j + 1))) fun k hk => by
   by_cases e:k=n
   ·subst e
    rw [eV]
    unfold ofT
    rw [if_pos (.inr ⟨hnx,by rw [htk]; exact List.mem_append.2 (.inr (List.mem_singleton.2 rfl))⟩),hnx]
   ·rw [fy e]
    unfold ofT
    have:(gix k < g∨(gix k=g∧k ∈ grp.take (j + 1))) ↔ (gix k < g∨(gix k=g∧k ∈ grp.take j)):=by
     rw [htk,List.mem_append,List.mem_singleton]
     simp [e]
    by_cases h:gix k < g∨(gix k=g∧k ∈ grp.take j)
    ·rw [if_pos h,if_pos (this.2 h)]
    ·rw [if_neg h,if_neg fun h'=>h (this.1 h')]] at hr'
  obtain ⟨y,hy,hz⟩:=ih (j + 1) w' (by omega) hr'
  refine ⟨y,?_,hz⟩
  have ann:ae (I (n:Int))=some n:=aj (by omega)
  have lw:=hw.slLen
  rw [bc] at lw
  unfold f32_1
  refine aa.tv rfl (aa.ite (aF hjl) (fun _=>?_) nofun)
  exact aa.tvs he (aa.chk rfl (aa.nat lw (aa.nat ann (aa.chk (by rw [hw.slSize]; simpa using hnN) (aa.chk rfl (aa.tvs heo (aa.chk rfl (aa.tv a1 (aa.tv (inc hjl (by omega)) (f32_1_J hy))))))))))
theorem ofOut {Z:TV→Prop} (hk:∀ w,RInts (some true) w (bR m.funcs.length fun n=>(gix n:Int))→∃ y,aa prog 32 (f32_2 x1 c0 c1 w) y∧Z y) :
  ∀ (d g:Nat) (w:TV),g + d=cs.length→RInts (some true) w (bR m.funcs.length (ofT gix g []))→∃ y,aa prog 32 (f32_0 x1 x1 (I cs.length) (I g) c0 c1 w) y∧Z y:=by
 have hcl:=hC.len
 intro d
 induction d with
 | zero =>
  intro g w hg hw
  have hg:g=cs.length:=by omega
  subst hg
  obtain ⟨y,hy,hz⟩:=hk w (by
   rw [aH (h:=ofT gix cs.length []) fun n hn=>by
    unfold ofT
    rw [if_pos (.inl (hC.lt hn))]]
   exact hw)
  refine ⟨y,?_,hz⟩
  unfold f32_0
  exact aa.tv rfl (aa.ite aJ nofun fun _=>f32_2_J hy)
 | succ d ih =>
  intro g w hg hw
  have hgl:g < cs.length:=by omega
  obtain ⟨grp,hgrp⟩:∃ grp,cs[g]? = some grp:=⟨_,Gv hgl⟩
  obtain ⟨e,he,r,rfl,hr⟩:=hx.idx (k:=.i64) (show (cs.map af)[g]? = some (af grp) by simp [hgrp])
  obtain ⟨y,hy,hz⟩:=ofIn h0 hN hC hx (c1:=c1) hgrp hr (fun w hw=>ih (g + 1) w (by omega) hw) grp.length 0 w (by omega) hw
  refine ⟨y,?_,hz⟩
  have lr:=hr.len (t:=3)
  rw [show (af grp).length=grp.length by simp [af]] at lr
  unfold f32_0
  refine aa.tv rfl (aa.ite (aF hgl) (fun _=>?_) nofun)
  exact aa.tvs he (aa.chk rfl (aa.tv lr (f32_1_J hy)))
end
section
variable {w7:TV} (h7:RInts (some true) w7 (bR m.funcs.length fun n=>(gix n:Int)))
include h7
theorem callIn {n:Nat} (hn:n < m.funcs.length) {r:TV} (hr:RInts (some false) r (ofL m (n:Int))) {Z:TV→Prop}
  (hk:∀ w8,RL (some true) 1 (RII (some true)) w8 (bR cs.length fun g=>af (gS m gix g (n + 1)))→∃ y,aa prog 32 (f32_3 c0 (I m.funcs.length) (I (n + 1:Nat)) w7 w8) y∧Z y) :
  ∀ (d j:Nat) (w8:TV),j + d=(eQ m n).length→RL (some true) 1 (RII (some true)) w8 (bR cs.length fun g=>af (gS m gix g n ++ lK gix n ((eQ m n).take j) g)) →
   ∃ y,aa prog 32 (f32_4 (I n) c0 (I m.funcs.length) (I n) r (I (eQ m n).length) (I j) w7 w8) y∧Z y:=by
 have hnl:=oY m n
 have hcl:=hC.len
 intro d
 induction d with
 | zero =>
  intro j w8 hj h8
  have hj:j=(eQ m n).length:=by omega
  subst hj
  rw [List.take_length] at h8
  obtain ⟨y,hy,hz⟩:=hk w8 h8
  refine ⟨y,?_,hz⟩
  unfold f32_4
  exact aa.tv rfl (aa.ite aJ nofun fun _=>aa.tv (inc hn (by omega)) (f32_3_J hy))
 | succ d ih =>
  intro j w8 hj h8
  have hjl:j < (eQ m n).length:=by omega
  obtain ⟨k,hk'⟩:∃ k,(eQ m n)[j]? = some k:=⟨_,Gv hjl⟩
  have hkN:=(mi.1 (GD hk')).1
  have hkL:(ofL m (n:Int))[j]? = some (k:Int):=by rw [← qj]; simp [af,hk']
  obtain ⟨e,he,rfl,_⟩:=hr.idx (k:=.i64) hkL
  obtain ⟨en,hen,rfl,hin⟩:=h7.pel (aP hn)
  obtain ⟨ek,hek,rfl,hik⟩:=h7.pel (aP hkN)
  have ann:ae (I (n:Int))=some n:=aj (by omega)
  have ank:ae (I (k:Int))=some k:=aj (by omega)
  have l7:=h7.slLen
  rw [bc] at l7
  have hcn:(slSize w7 1 && Nat.blt n m.funcs.length)=true:=by rw [h7.slSize]; simpa using hn
  have hck:(slSize w7 1 && Nat.blt k m.funcs.length)=true:=by rw [h7.slSize]; simpa using hkN
  have head:∀ {y:TV},(gix n=gix k→aa prog 32 (f32_4 (I n) c0 (I m.funcs.length) (I n) r (I (eQ m n).length) (I (j + 1:Nat)) w7 w8) y) →
    (gix n≠gix k→∃ v8 v9 y1 y2,Go.Ab.pel w8 (gix k)=some [v8]∧v8.isSl=true∧bD [(gix k,0)] w8=some v8∧papp 1 v8 [[I (gix n:Int)]]=some v9∧v9.isSl=true∧je [(gix k,0)] w8 .hole=some y1∧Go.Ab.slLen y1=some cs.length∧Go.Ab.slSize y1 1=true∧Go.Ab.pel y1 (gix k)=some [.hole]∧dN [] y1 (gix k) 0 [v9]=some y2∧aa prog 32 (f32_4 (I n) c0 (I m.funcs.length) (I n) r (I (eQ m n).length) (I (j + 1:Nat)) w7 y2) y) →
    aa prog 32 (f32_4 (I n) c0 (I m.funcs.length) (I n) r (I (eQ m n).length) (I j) w7 w8) y:=by
   intro y g1 g2
   have hgk:=hC.lt hkN
   have angk:ae (I (gix k:Int))=some (gix k):=aj (by omega)
   have l8:=h8.slLen
   rw [bc] at l8
   have hc8:(slSize w8 1 && Nat.blt (gix k) cs.length)=true:=by rw [h8.slSize]; simpa using hgk
   unfold f32_4
   refine aa.tv rfl (aa.ite (aF hjl) (fun _=>?_) nofun)
   refine aa.tvs he (aa.chk rfl (aa.nat l7 (aa.nat ann (aa.chk hcn (aa.tvs hen (aa.chk rfl (aa.nat l7 (aa.nat ank (aa.chk hck (aa.tvs hek (aa.chk rfl (aa.tv rfl ?_))))))))))))
   by_cases e:gix n=gix k
   ·exact aa.ite (v:=false) (by show some ((gix n:Int) != (gix k:Int))=some false; rw [e]; simp) nofun fun _=>aa.tv (inc hjl (by omega)) (f32_4_J (g1 e))
   ·obtain ⟨v8,v9,y1,y2,b1,b2,b3,b4,b5,b6,b7,b8,b9,b10,b11⟩:=g2 e
    refine aa.ite (v:=true) (by have h:((gix n:Int) != (gix k:Int))=true:=(by simp; omega); exact congrArg some h) (fun _=>?_) nofun
    refine aa.nat l7 (aa.nat ank (aa.chk hck (aa.tvs hek (aa.chk rfl (aa.nat l7 (aa.nat ank (aa.chk hck (aa.tvs hek (aa.chk rfl ?_)))))))))
    refine aa.nat l8 (aa.nat angk (aa.chk hc8 (aa.tvs b1 (aa.chk (aG b2) (aa.nat l7 (aa.nat ann (aa.chk hcn (aa.tvs hen (aa.chk rfl ?_)))))))))
    refine aa.rws rfl (aa.tv b3 (aa.tv b4 (aa.tv b6 (aa.nat b7 (aa.nat angk (aa.chk (by rw [b8]; simpa using hgk) (aa.tvs b9 ?_)))))))
    exact aa.chk (by rw [wF rfl (.inr rfl),aG b5]; rfl) (aa.tv b10 (aa.tv (inc hjl (by omega)) (f32_4_J b11)))
  by_cases e:gix n=gix k
  ·obtain ⟨y,hy,hz⟩:=ih (j + 1) w8 (by omega) (by
    rw [aH (h:=fun g=>af (gS m gix g n ++ lK gix n ((eQ m n).take j) g)) fun g _=>by
     rw [ui hk' g]
     have:(gix k == g && gix n != g)=false:=by
      by_cases h:gix k=g
      ·simp [h,e]
      ·simp [h]
     rw [this]
     simp]
    exact h8)
   exact ⟨y,head (fun _=>hy) (fun h=>absurd e h),hz⟩
  ·have hgk:=hC.lt hkN
   obtain ⟨r8,he8,v8,rfl,hv8⟩:=h8.pel (aP hgk)
   obtain ⟨y1,t1,t2,t3,t4,t5⟩:=h8.Gs he8
   rw [bc] at t2
   have hb1:=t8 m gix (gix k) n
   have hb2:=uJ gix n ((eQ m n).take j) (gix k)
   have hb3:n * m.funcs.length≤100 * 100:=Nat.mul_le_mul (by omega) hN
   rw [List.length_take] at hb2
   obtain ⟨v9,hp9,hr9⟩:=hv8.app (e:=[I (gix n:Int)]) (a:=(gix n:Int)) ⟨rfl,hin⟩ (by simp only [af,List.length_map,List.length_append]; omega)
   obtain ⟨y2,t6,t7⟩:=t5 hr9
   rw [jt, aH (h := fun g => af (gS m gix g n ++ lK gix n ((eQ m n).take (j + 1)) g)) fun g _ => by
    rw [ui hk' g]
    by_cases h:g=gix k
    ·subst h
     rw [eV]
     have:(gix k == gix k && gix n != gix k)=true:=by simp [e]
     rw [this]
     simp [af]
    ·rw [fy h]
     have:(gix k == g && gix n != g)=false:=by
      have:(gix k == g)=false:=by simp; omega
      rw [this]; rfl
     rw [this]
     simp] at t7
   obtain ⟨y,hy,hz⟩:=ih (j + 1) y2 (by omega) t7
   exact ⟨y,head (fun h=>absurd h e) (fun _=>⟨v8,v9,y1,y2,he8,hv8.isSl,h8.gc he8 rfl,hp9,hr9.isSl,t1,t2,t3,t4,t6,hy⟩),hz⟩
theorem E9:∀ (d n:Nat) (w8:TV),n + d=m.funcs.length→RL (some true) 1 (RII (some true)) w8 (bR cs.length fun g=>af (gS m gix g n)) →
  ∃ y,aa prog 32 (f32_3 c0 (I m.funcs.length) (I n) w7 w8) y∧RL (some true) 1 (RII (some true)) y (bR cs.length fun g=>af (gS m gix g m.funcs.length)):=by
 intro d
 induction d with
 | zero =>
  intro n w8 hn h8
  have hn:n=m.funcs.length:=by omega
  subst hn
  refine ⟨w8,?_,h8⟩
  unfold f32_3
  exact aa.tv rfl (aa.ite aJ nofun fun _=>aa.chk (h8.own fun _ _ h=>h.own) aa.ret)
 | succ d ih =>
  intro n w8 hn h8
  have hnl:n < m.funcs.length:=by omega
  obtain ⟨e,he,r,rfl,hr⟩:=h0.idx (k:=.i64) (aP hnl)
  have lr:=hr.len (t:=3)
  rw [show (ofL m (n:Int)).length=(eQ m n).length by unfold eQ; simp] at lr
  obtain ⟨y,hy,hz⟩:=callIn h0 hN hC h7 hnl hr (Z:=fun y=>RL (some true) 1 (RII (some true)) y (bR cs.length fun g=>af (gS m gix g m.funcs.length))) (fun w8 h8=>ih (n + 1) w8 (by omega) h8) (eQ m n).length 0 w8 (by omega) (by
   rw [aH (h:=fun g=>af (gS m gix g n)) fun g _=>by simp [lK]]
   exact h8)
  refine ⟨y,?_,hz⟩
  unfold f32_3
  refine aa.tv rfl (aa.ite (aF hnl) (fun _=>?_) nofun)
  exact aa.tvs he (aa.chk rfl (aa.tv lr (f32_4_J hy)))
end
theorem zU (hx:RL (some false) 1 (RII (some false)) x1 (cs.map af)):∃ y,bu prog 32 [.agg [c0,c1],x1] y∧RL (some true) 1 (RII (some true)) y (bR cs.length fun g=>af (gS m gix g m.funcs.length)):=by
 have hcl:=hC.len
 have hzero:RI1 [I 0] 0:=⟨rfl,by unfold inI; omega⟩
 have hr:=RL.rep (s:=1) hzero (n:=m.funcs.length) (by omega)
 have hnil:RII (some true) [.lit aK] []:=⟨_,rfl,RL.nil⟩
 have hrn:=RL.rep (s:=1) hnil (n:=cs.length) (by omega)
 have han:ae (I (m.funcs.length:Int))=some m.funcs.length:=aj (by omega)
 have hac:ae (I (cs.length:Int))=some cs.length:=aj (by omega)
 have l0:=h0.len (t:=28)
 rw [bc] at l0
 have lx:=hx.len (t:=28)
 rw [List.length_map] at lx
 obtain ⟨y,hy,hz⟩:=ofOut h0 hN hC hx (c1:=c1) (Z:=fun y=>RL (some true) 1 (RII (some true)) y (bR cs.length fun g=>af (gS m gix g m.funcs.length))) (fun w hw=>by
  obtain ⟨y,hy,hz⟩:=E9 h0 hN hC hw m.funcs.length 0 _ (by omega) (by
   rw [aH (h:=fun _=>[]) fun g _=>by simp [gS,af]]
   exact hrn)
  refine ⟨y,?_,hz⟩
  unfold f32_2
  exact aa.tv lx (aa.nat hac (aa.nat hac (aa.chk (by simp; omega) (aa.tv l0 (f32_3_J hy)))))) cs.length 0 _ (by omega) (by
  rw [aH (h:=fun _=>(0:Int)) fun n _=>by unfold ofT; rw [if_neg]; simp]
  exact hr)
 refine ⟨y,?_,hz⟩
 refine bu.of (f32_MR _ _) ?_
 unfold f32_M
 exact aa.chk rfl (aa.tv l0 (aa.nat han (aa.nat han (aa.chk (by simp; omega) (aa.tv lx (f32_0_J hy))))))
end
end Go.Ab.C11
end
section
set_option maxRecDepth 10000
namespace Go.Ab
abbrev at0 (h:List Nat) (i:Nat):Nat:=h.getD i 0
theorem A4 {h:List Nat} {i:Nat} (hi:i < h.length):h[i]? = some (at0 h i):=by
 rw [at0,GJ,Gv hi]
 rfl
def sw (h:List Nat) (i j:Nat):List Nat:=(h.set i (at0 h j)).set j (at0 h i)
theorem zM (h:List Nat) (i j:Nat):(sw h i j).length=h.length:=by simp [sw]
theorem lL {h:List Nat} {i j:Nat} (hi:i < h.length) (hj:j < h.length) (k:Nat):at0 (sw h i j) k=if k=j then at0 h i else if k=i then at0 h j else at0 h k:=by
 unfold sw at0
 simp only [GJ]
 by_cases h1:k=j
 ·subst h1
  rw [List.getElem?_set_self (by simpa using hj),if_pos rfl]
  rfl
 ·rw [if_neg h1,List.getElem?_set_ne (Ne.symm h1)]
  by_cases h2:k=i
  ·subst h2
   rw [List.getElem?_set_self hi,if_pos rfl]
   rfl
  ·rw [if_neg h2,List.getElem?_set_ne (Ne.symm h2)]
theorem rE {h:List Nat} {i j:Nat} (hi:i < h.length) (hj:j < h.length):(sw h i j).Perm h:=by
 have e1:at0 h i=h[i]:=by unfold at0; rw [GJ,Gv hi]; rfl
 have e2:at0 h j=h[j]:=by unfold at0; rw [GJ,Gv hj]; rfl
 unfold sw
 rw [e1,e2]
 exact List.set_set_perm hi hj
def Heap (h:List Nat) (n:Nat):Prop:=∀ k,0 < k→k < n→at0 h ((k - 1) / 2)≤at0 h k
theorem Heap.min {h:List Nat} {n:Nat} (hh:Heap h n):∀ k,k < n→at0 h 0≤at0 h k:=by
 intro k
 induction k using Nat.strongRecOn with
 | ind k ih =>
  intro hk
  by_cases h0:k=0
  ·subst h0; exact Nat.le_refl _
  ·exact Nat.le_trans (ih ((k - 1) / 2) (by omega) (by omega)) (hh k (by omega) hk)
def HUp (h:List Nat) (n j:Nat):Prop:=(∀ k,0 < k→k < n→k≠j→at0 h ((k - 1) / 2)≤at0 h k)∧(0 < j→∀ k,0 < k→k < n→(k - 1) / 2=j→at0 h ((j - 1) / 2)≤at0 h k)
theorem HUp.done {h:List Nat} {n j:Nat} (hu:HUp h n j) (hj:j=0∨at0 h ((j - 1) / 2)≤at0 h j):Heap h n:=by
 intro k h0 hk
 by_cases e:k=j
 ·subst e
  rcases hj with e | h
  ·omega
  ·exact h
 ·exact hu.1 k h0 hk e
theorem HUp.step {h:List Nat} {n j:Nat} (hu:HUp h n j) (hn:n≤h.length) (hj0:0 < j) (hj:j < n) (hlt:at0 h j < at0 h ((j - 1) / 2)):HUp (sw h ((j - 1) / 2) j) n ((j - 1) / 2):=by
 obtain ⟨i,hi⟩:∃ i,i=(j - 1) / 2:=⟨_,rfl⟩
 rw [← hi] at hlt ⊢
 have hij:i < j:=by omega
 have hil:i < h.length:=by omega
 have hjl:j < h.length:=by omega
 refine ⟨fun k h0 hk hne=>?_,fun hi0 k h0 hk hp=>?_⟩
 ·rw [lL hil hjl, lL hil hjl]
  by_cases e1:k=j
  ·subst e1
   rw [if_pos rfl,← hi,if_neg (by omega),if_pos rfl]
   omega
  ·rw [if_neg e1,if_neg hne]
   by_cases e2:(k - 1) / 2=j
   ·rw [if_pos e2]
    have:=hu.2 hj0 k h0 hk e2
    rw [← hi] at this
    exact this
   ·rw [if_neg e2]
    by_cases e3:(k - 1) / 2=i
    ·rw [if_pos e3]
     have:=hu.1 k h0 hk e1
     rw [e3] at this
     omega
    ·rw [if_neg e3]
     exact hu.1 k h0 hk e1
 ·rw [lL hil hjl,lL hil hjl]
  have hpi:(i - 1) / 2 < i:=by omega
  rw [if_neg (by omega:(i - 1) / 2≠j),if_neg (by omega:(i - 1) / 2≠i)]
  have hi1:=hu.1 i hi0 (by omega) (by omega)
  by_cases e1:k=j
  ·rw [if_pos e1]; exact hi1
  ·rw [if_neg e1,if_neg (by omega)]
   have:=hu.1 k h0 hk e1
   rw [hp] at this
   omega
theorem Heap.push {h:List Nat} {n:Nat} (hh:Heap h h.length) (x:Nat):HUp (h ++ [x]) (h.length + 1) h.length:=by
 have e:∀ k,k < h.length→at0 (h ++ [x]) k=at0 h k:=fun k hk=>by
  unfold at0
  rw [GJ,GJ,GE hk]
 refine ⟨fun k h0 hk hne=>?_,fun h0 k hk0 hk hp=>by omega⟩
 rw [e k (by omega),e _ (by omega)]
 exact hh k h0 (by omega)
def HDn (h:List Nat) (n i:Nat):Prop:=(∀ k,0 < k→k < n→(k - 1) / 2≠i→at0 h ((k - 1) / 2)≤at0 h k)∧(0 < i→∀ k,0 < k→k < n→(k - 1) / 2=i→at0 h ((i - 1) / 2)≤at0 h k)
theorem HDn.done {h:List Nat} {n i:Nat} (hd:HDn h n i) (hc:∀ k,0 < k→k < n→(k - 1) / 2=i→at0 h i≤at0 h k):Heap h n:=by
 intro k h0 hk
 by_cases e:(k - 1) / 2=i
 ·rw [e]; exact hc k h0 hk e
 ·exact hd.1 k h0 hk e
theorem HDn.step {h:List Nat} {n i j:Nat} (hd:HDn h n i) (hn:n≤h.length) (hj0:0 < j) (hj:j < n) (hp:(j - 1) / 2=i) (hlt:at0 h j < at0 h i) (hmin:∀ k,0 < k→k < n→(k - 1) / 2=i→at0 h j≤at0 h k):HDn (sw h i j) n j:=by
 have hij:i < j:=by omega
 have hil:i < h.length:=by omega
 have hjl:j < h.length:=by omega
 refine ⟨fun k h0 hk hne=>?_,fun _ k h0 hk hpk=>?_⟩
 ·rw [lL hil hjl, lL hil hjl, if_neg hne]
  by_cases e1:k=j
  ·subst e1
   rw [if_pos rfl,hp,if_pos rfl]
   omega
  ·rw [if_neg e1]
   by_cases e3:(k - 1) / 2=i
   ·rw [if_pos e3,if_neg (by omega)]
    exact hmin k h0 hk e3
   ·rw [if_neg e3]
    by_cases e2:k=i
    ·rw [if_pos e2]
     subst e2
     exact hd.2 h0 j hj0 hj hp
    ·rw [if_neg e2]
     exact hd.1 k h0 hk e3
 ·rw [lL hil hjl,lL hil hjl,hp,if_neg (by omega),if_pos rfl,if_neg (by omega),if_neg (by omega)]
  have:=hd.1 k h0 hk (by omega)
  rw [hpk] at this
  exact this
theorem Heap.pop {h:List Nat} {n:Nat} (hl:h.length=n + 1) (hh:Heap h (n + 1)):HDn (sw h 0 n) n 0:=by
 refine ⟨fun k h0 hk hne=>?_,fun h0=>absurd h0 (Nat.lt_irrefl _)⟩
 rw [lL (by omega) (by omega),lL (by omega) (by omega),if_neg (by omega),if_neg hne,if_neg (by omega),if_neg (by omega)]
 exact hh k h0 (by omega)
end Go.Ab
end

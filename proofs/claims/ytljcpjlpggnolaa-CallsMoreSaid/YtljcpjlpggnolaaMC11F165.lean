import Derived.Test.YtljcpjlpggnolaaMC11F162
section
set_option linter.unusedVariables false
set_option linter.unusedSimpArgs false
set_option linter.unusedSectionVars false
set_option maxRecDepth 10000
namespace Go.Ab
theorem RL.appZ {α:Type} {s:Nat} {R:List TV→α→Prop} {y:TV} {l m:List α} {rows:List (List TV)} (hy:RL (some true) s R y l) (hr:F2 R rows m) (hl:l.length + m.length≤4294967296):∃ y',papp s y rows=some y'∧RL (some true) s R y' (l ++ m):=by
 have hlen:=hr.length
 rcases hy with ⟨rfl,rfl⟩ | ⟨o,xs,rfl,hq,h,hb⟩
 ·simp only [List.length_nil,Nat.zero_add] at hl
  have hp:papp s (.lit nilV) rows=some (rowT s rows):=by
   simp only [papp,nilV]
   rw [if_pos (show rows.length≤room by simp only [room]; omega)]
  refine ⟨_,hp,?_⟩
  cases hr with
  | nil=>exact .nil
  | cons h1 h2=>exact .sl (by simp) (.cons h1 h2) (by simp only [List.length_cons] at hlen ⊢; simp only [List.length_cons] at hl; omega)
 ·have hlen2:=h.length
  have:o=true:=hq true rfl
  subst this
  refine ⟨.sl true s (xs ++ rows),?_,.sl (by simp) (h.append hr) (by simp; omega)⟩
  simp [papp,room]; omega
theorem lfLL_z {xs:List (List TV)} {l:List Int} (h:F2 RI1 xs l):lfLL xs=xs:=by
 induction h with
 | nil=>rfl
 | cons h _ ih =>
  obtain ⟨rfl,_⟩:=h
  simp only [lfLL,ih]
  rfl
theorem count_setZ {M:List Bool} {g:Nat} (h:M[g]? = some false):(M.set g true).count false + 1=M.count false:=by
 obtain ⟨hlt,hg⟩:=List.getElem?_eq_some_iff.1 h
 have hpos:0 < M.count false:=List.count_pos_iff.2 (List.mem_of_getElem? h)
 rw [List.count_set hlt]
 simp [hg]
 omega
def CoI (m:DMod) (a:Int) (k:Nat):Prop:=∃ n:Nat,a=(n:Int)∧Co m n k
structure CoW (m:DMod) (a:Int) (M:List Bool) (o:List Int):Prop where
 len:M.length=m.funcs.length
 met:∀ k,M[k]? = some true→CoI m a k
 opn:∀ x ∈ o,∃ k:Nat,x=(k:Int)∧CoI m a k
 start:∀ x ∈ ofL m a,∃ k:Nat,x=(k:Int)∧(M[k]? = some true∨x ∈ o)
 clos:∀ j,M[j]? = some true→∀ k,ofP m j k→M[k]? = some true∨(k:Int) ∈ o
theorem ofL_int {m:DMod} {a x:Int} (h:x ∈ ofL m a):∃ (n k:Nat),a=(n:Int)∧x=(k:Int)∧ofP m n k:=by
 cases ht:thereB m.funcs.length a with
 | false=>rw [ofL_out ht] at h; cases h
 | true =>
  obtain ⟨u,hu,hn,_⟩:=ofL_in ht
  rw [hn] at h
  obtain ⟨k,hk,hp⟩:=ofL_mem.1 h
  exact ⟨_,k,hn,hk,hp⟩
theorem CoW.init (m:DMod) (a:Int):CoW m a (List.replicate m.funcs.length false) (ofL m a):=by
 have hno:∀ k,¬ (List.replicate m.funcs.length false)[k]? = some true:=fun k h=>by
  have:=List.mem_of_getElem? h
  have:=List.eq_of_mem_replicate this
  cases this
 refine ⟨by simp,fun k h=>absurd h (hno k),fun x hx=>?_,fun x hx=>?_,fun j h=>absurd h (hno j)⟩
 ·obtain ⟨n,k,h1,h2,h3⟩:=ofL_int hx
  exact ⟨k,h2,n,h1,.one h3⟩
 ·obtain ⟨n,k,h1,h2,h3⟩:=ofL_int hx
  exact ⟨k,h2,.inr hx⟩
theorem CoI.lt {m:DMod} {a:Int} {k:Nat} (h:CoI m a k):k < m.funcs.length:=by
 obtain ⟨n,_,h⟩:=h
 exact h.lt.2
theorem CoW.old {m:DMod} {a:Int} {M:List Bool} {o:List Int} {k:Nat} (h:CoW m a M (o ++ [(k:Int)])) (hk:M[k]? = some true):CoW m a M o:=by
 refine ⟨h.len,h.met,fun x hx=>h.opn x (List.mem_append.2 (.inl hx)),fun x hx=>?_,fun j hj k' hk'=>?_⟩
 ·obtain ⟨k',rfl,h' | h'⟩:=h.start x hx
  ·exact ⟨k',rfl,.inl h'⟩
  ·rcases List.mem_append.1 h' with h' | h'
   ·exact ⟨k',rfl,.inr h'⟩
   ·have:k'=k:=by have:=List.mem_singleton.1 h'; omega
    subst this
    exact ⟨k',rfl,.inl hk⟩
 ·rcases h.clos j hj k' hk' with h' | h'
  ·exact .inl h'
  ·rcases List.mem_append.1 h' with h' | h'
   ·exact .inr h'
   ·have:k'=k:=by have:=List.mem_singleton.1 h'; omega
    subst this
    exact .inl hk
theorem CoW.new {m:DMod} {a:Int} {M:List Bool} {o:List Int} {k:Nat} (h:CoW m a M (o ++ [(k:Int)])) (hk:M[k]? = some false):CoW m a (M.set k true) (o ++ ofL m (k:Int)):=by
 have hlt:k < M.length:=(List.getElem?_eq_some_iff.1 hk).1
 obtain ⟨k0,hk0,hc⟩:=h.opn k (List.mem_append.2 (.inr (List.mem_singleton.2 rfl)))
 have:k0=k:=by omega
 subst this
 have up:∀ {j},M[j]? = some true→(M.set k0 true)[j]? = some true:=fun {j} hj=>by
  rw [List.getElem?_set]
  split
  ·rfl
  ·exact hj
 have me:(M.set k0 true)[k0]? = some true:=List.getElem?_set_self hlt
 have inn:∀ {k':Nat},M[k']? = some true∨(k':Int) ∈ o ++ [(k0:Int)]→(M.set k0 true)[k']? = some true∨(k':Int) ∈ o ++ ofL m (k0:Int):=by
  rintro k' (h' | h')
  ·exact .inl (up h')
  ·rcases List.mem_append.1 h' with h' | h'
   ·exact .inr (List.mem_append.2 (.inl h'))
   ·have:k'=k0:=by have:=List.mem_singleton.1 h'; omega
    subst this
    exact .inl me
 refine ⟨by rw [List.length_set]; exact h.len,fun j hj=>?_,fun x hx=>?_,fun x hx=>?_,fun j hj k' hk'=>?_⟩
 ·by_cases e:j=k0
  ·subst e; exact hc
  ·rw [List.getElem?_set_ne (Ne.symm e)] at hj
   exact h.met j hj
 ·rcases List.mem_append.1 hx with hx | hx
  ·exact h.opn x (List.mem_append.2 (.inl hx))
  ·obtain ⟨k',rfl,hp⟩:=ofL_mem.1 hx
   obtain ⟨n,hn,hc⟩:=hc
   exact ⟨k',rfl,n,hn,.more hc hp⟩
 ·obtain ⟨k',rfl,h'⟩:=h.start x hx
  exact ⟨k',rfl,inn h'⟩
 ·by_cases e:j=k0
  ·subst e
   exact .inr (List.mem_append.2 (.inr (ofL_mem.2 ⟨k',rfl,hk'⟩)))
  ·rw [List.getElem?_set_ne (Ne.symm e)] at hj
   exact inn (h.clos j hj k' hk')
theorem CoW.done {m:DMod} {a:Int} {M:List Bool} (h:CoW m a M []) (k:Nat):M[k]? = some true ↔ CoI m a k:=by
 refine ⟨h.met k,?_⟩
 rintro ⟨n,rfl,hc⟩
 induction hc with
 | one hp =>
  obtain ⟨k',e,h' | h'⟩:=h.start _ (ofL_mem.2 ⟨_,rfl,hp⟩)
  ·rw [Int.ofNat_inj.1 e]; exact h'
  ·cases h'
 | more _ hp ih =>
  rcases h.clos _ ih _ hp with h' | h'
  ·exact h'
  ·cases h'
end Go.Ab
namespace Go.Ab.C11
open Go Go.Ab Go.Proofs
section
variable {q:Option Bool} {b:TV} {m:DMod} (hb:RL q 3 (RFunc q) b m.funcs) (hs:smallM m) {a:Int}
include hb hs
theorem toLoop:∀ (d:Nat) (M:List Bool) (o:List Int) (w1 w2:TV),o.length + M.count false * (m.funcs.length + 1)≤d→d≤100000→RBools (some true) w1 M→RInts (some true) w2 o→CoW m a M o →
  ∃ y M',Goes prog 25 (f25_0 b w1 w2) y∧RBools (some true) y M'∧CoW m a M' []:=by
 intro d
 induction d with
 | zero =>
  intro M o w1 w2 hd _ h1 h2 hc
  have ho:o=[]:=List.length_eq_zero_iff.1 (by omega)
  subst ho
  refine ⟨w1,M,?_,h1,hc⟩
  unfold f25_0
  exact Goes.tv h2.len (Goes.tv rfl (Goes.ite (v:=false) (by simp [asBool]) (fun h=>nomatch h) fun _=>Goes.chk (h1.own fun _ _ h=>by cases h; rfl) Goes.ret))
 | succ d ih =>
  intro M o w1 w2 hd hdb h1 h2 hc
  by_cases ho:o=[]
  ·subst ho
   refine ⟨w1,M,?_,h1,hc⟩
   unfold f25_0
   exact Goes.tv h2.len (Goes.tv rfl (Goes.ite (v:=false) (by simp [asBool]) (fun h=>nomatch h) fun _=>Goes.chk (h1.own fun _ _ h=>by cases h; rfl) Goes.ret))
  ·have hpos:0 < o.length:=List.length_pos_iff.2 ho
   have hol:o=o.take (o.length - 1) ++ [o[o.length - 1]]:=by
    have e:o.take (o.length - 1 + 1)=o:=List.take_of_length_le (by omega)
    rw [List.take_add_one,List.getElem?_eq_getElem (by omega)] at e
    exact e.symm
   obtain ⟨t,ht⟩:∃ t,t=o.take (o.length - 1):=⟨_,rfl⟩
   obtain ⟨x,hx⟩:∃ x,x=o[o.length - 1]:=⟨_,rfl⟩
   rw [← ht,← hx] at hol
   obtain ⟨k,rfl,hck⟩:=hc.opn x (by rw [hol]; exact List.mem_append.2 (.inr (List.mem_singleton.2 rfl)))
   have hkN:=hck.lt
   have hN:=hs.1
   have hkM:k < M.length:=by rw [hc.len]; exact hkN
   have htl:t.length + 1=o.length:=by rw [ht,List.length_take]; omega
   have hox:o[o.length - 1]? = some (k:Int):=by rw [List.getElem?_eq_getElem (by omega),hx]
   obtain ⟨e1,he1,rfl,hek⟩:=h2.pel hox
   obtain ⟨c,hcM⟩:∃ c,M[k]? = some c:=⟨_,List.getElem?_eq_getElem hkM⟩
   obtain ⟨e2,he2,hR2⟩:=h1.pel hcM
   cases hR2
   obtain ⟨v2,hv2,hr2⟩:=h2.win (k:=o.length - 1) (by omega)
   rw [← ht] at hr2
   have anl:asNat (I ((o.length - 1:Nat):Int))=some (o.length - 1):=asNat_nat (by omega)
   have ank:asNat (I (k:Int))=some k:=asNat_nat (by omega)
   rw [hol] at hc
   have hb1:(slSize w2 1 && Nat.blt (o.length - 1) o.length)=true:=by rw [h2.slSize]; simp; omega
   have hb2:((slSize w2 1 && Nat.ble 0 (o.length - 1)) && Nat.ble (o.length - 1) o.length)=true:=by rw [h2.slSize]; simp
   have hb3:(slSize w1 1 && Nat.blt k M.length)=true:=by rw [h1.slSize]; simpa using hkM
   have top:∀ {y:TV},(c=true→Goes prog 25 (f25_0 b w1 v2) y) →
     (c=false→∃ w1' v r v',setC [] w1 k 0 [B true]=some w1'∧Runs prog 9 [.agg [b],I k] v∧v.isSl=true∧pelems 1 v=some r∧papp 1 v2 (lfLL r)=some v'∧Goes prog 25 (f25_0 b w1' v') y) →
     Goes prog 25 (f25_0 b w1 w2) y:=by
    intro y g1 g2
    unfold f25_0
    refine Goes.tv h2.len (Goes.tv rfl (Goes.ite (v:=true) (by simp [asBool]; omega) (fun _=>?_) fun h=>nomatch h))
    refine Goes.tv h2.len (Goes.tv (psub1 hpos (by omega)) (Goes.nat h2.slLen (Goes.nat anl (Goes.chk hb1 (Goes.tvs he1 (Goes.chk rfl (Goes.nat h2.slLen (Goes.nat anl (Goes.chk hb2 ?_)))))))))
    refine Goes.nat h1.slLen (Goes.nat ank (Goes.chk hb3 (Goes.tvs he2 (Goes.chk rfl (Goes.tv rfl ?_)))))
    cases c with
    | true=>exact Goes.ite (v:=false) rfl (fun h=>nomatch h) fun _=>Goes.tv hv2 (f25_0_J (g1 rfl))
    | false =>
     obtain ⟨w1',v,r,v',a1,a2,a3,a4,a5,a6⟩:=g2 rfl
     refine Goes.ite (v:=true) rfl (fun _=>?_) fun h=>nomatch h
     exact Goes.nat h1.slLen (Goes.nat ank (Goes.chk hb3 (Goes.tvs he2 (Goes.chk rfl (Goes.tv a1 (Goes.call a2 (Goes.chk (fit_slc a3) (Goes.rws a4 (Goes.tv hv2 (Goes.tv a5 (f25_0_J a6)))))))))))
   cases c with
   | true =>
    obtain ⟨y,M',g1,g2,g3⟩:=ih M t w1 v2 (by omega) (by omega) h1 hr2 (hc.old hcM)
    exact ⟨y,M',top (fun _=>g1) (fun h=>by cases h),g2,g3⟩
   | false =>
    obtain ⟨w1',a1,hr1⟩:=h1.setAt he2 (d:=0) (ys:=[B true]) (a:=true) rfl
    obtain ⟨v,a2,hrv⟩:=rOf11 hb hs (k:Int)
    obtain ⟨r,a4,hF⟩:=hrv.elems
    have hcnt:=count_setZ hcM
    have hol2:=ofL_len m (k:Int)
    have hmul:M.count false * (m.funcs.length + 1)=(M.set k true).count false * (m.funcs.length + 1) + (m.funcs.length + 1):=by rw [← hcnt,Nat.add_mul,Nat.one_mul]
    obtain ⟨v',a5,hr5⟩:=hr2.appZ hF (by omega)
    obtain ⟨y,M',g1,g2,g3⟩:=ih (M.set k true) (t ++ ofL m (k:Int)) w1' v' (by rw [List.length_append]; omega) (by omega) hr1 hr5 (hc.new hcM)
    exact ⟨y,M',top (fun h=>by cases h) (fun _=>⟨w1',v,r,v',a1,a2,hrv.isSl,a4,by rw [lfLL_z hF]; exact a5,g1⟩),g2,g3⟩
theorem rComesTo (a:Int):∃ y M,Runs prog 25 [.agg [b],I a] y∧RBools (some true) y M∧M.length=m.funcs.length∧∀ k:Nat,M[k]? = some true ↔ CoI m a k:=by
 have hN:=hs.1
 obtain ⟨v,hv,hrv⟩:=rOf11 hb hs a
 have hol:=ofL_len m a
 have hrep:RBools (some true) (.sl true 1 (List.replicate m.funcs.length [B false])) (List.replicate m.funcs.length false):=by
  refine .sl (by simp) ?_ (by simp; omega)
  generalize m.funcs.length=n
  induction n with
  | zero=>exact .nil
  | succ n ih=>exact .cons rfl ih
 have hcnt:(List.replicate m.funcs.length false).count false=m.funcs.length:=by simp
 have hmul:m.funcs.length * (m.funcs.length + 1)≤100 * 101:=Nat.mul_le_mul hN (by omega)
 obtain ⟨y,M,g1,g2,g3⟩:=toLoop hb hs (a:=a) 100000 _ _ _ v (by rw [hcnt]; omega) (Nat.le_refl _) hrep hrv (CoW.init m a)
 refine ⟨y,M,?_,g2,g3.len,g3.done⟩
 have han:asNat (I (m.funcs.length:Int))=some m.funcs.length:=asNat_nat (by omega)
 refine Runs.of (f25_MR _ _) ?_
 unfold f25_M
 exact Goes.chk rfl (Goes.tv hb.len (Goes.nat han (Goes.nat han (Goes.chk (by simp; omega) (Goes.call hv (Goes.chk (fit_slc hrv.isSl) (f25_0_J g1)))))))
open Classical in
theorem rComes11 (a c:Int):Runs prog 11 [.agg [b],I a,I c] (B (decide (∃ k:Nat,c=(k:Int)∧CoI m a k))):=by
 have hN:=hs.1
 cases ht:thereB m.funcs.length c with
 | false =>
  have hno:¬ ∃ k:Nat,c=(k:Int)∧CoI m a k:=by
   rintro ⟨k,rfl,h⟩
   have:=h.lt
   simp [thereB] at ht
   omega
  rw [decide_eq_false hno]
  refine Runs.of (f11_MR _ _ _) ?_
  unfold f11_M
  exact Goes.chk rfl (Goes.call (rThere11 hb c) (Goes.chk rfl (Goes.ite (v:=false) (by rw [ht]; rfl) (fun h=>nomatch h) fun _=>Goes.ret)))
 | true =>
  have hc:0≤c∧c < (m.funcs.length:Int):=by simpa [thereB] using ht
  obtain ⟨k,rfl⟩:∃ k:Nat,c=(k:Int):=⟨c.toNat,by omega⟩
  obtain ⟨y,M,g1,g2,g3,g4⟩:=rComesTo hb hs a
  have hk:k < M.length:=by omega
  obtain ⟨x,hx⟩:∃ x,M[k]? = some x:=⟨_,List.getElem?_eq_getElem hk⟩
  obtain ⟨e,he,hR⟩:=g2.pel hx
  cases hR
  have hd:decide (∃ k':Nat,(k:Int)=(k':Int)∧CoI m a k')=x:=by
   have:(∃ k':Nat,(k:Int)=(k':Int)∧CoI m a k') ↔ x=true:=by
    rw [show (x=true) ↔ M[k]? = some true by rw [hx]; simp,g4]
    exact ⟨fun ⟨k',e,h⟩=>by rw [Int.ofNat_inj.1 e]; exact h,fun h=>⟨k,rfl,h⟩⟩
   cases x with
   | true=>exact decide_eq_true (this.2 rfl)
   | false=>exact decide_eq_false fun h=>by cases this.1 h
  rw [hd]
  have ank:asNat (I (k:Int))=some k:=asNat_nat (by omega)
  refine Runs.of (f11_MR _ _ _) ?_
  unfold f11_M
  refine Goes.chk rfl (Goes.call (rThere11 hb k) (Goes.chk rfl (Goes.ite (v:=true) (by rw [ht]; rfl) (fun _=>?_) fun h=>nomatch h)))
  exact Goes.call g1 (Goes.chk (fit_slc g2.isSl) (Goes.nat g2.slLen (Goes.nat ank (Goes.chk (by rw [g2.slSize]; simpa using hk) (Goes.tvs he (Goes.chk rfl Goes.ret))))))
end
end Go.Ab.C11
end
section
set_option linter.unusedVariables false
set_option maxRecDepth 100000
namespace Go.Ab.C11
open Go Go.Ab Go.Proofs
theorem rAwake11:Runs prog 6 [] (B true):=⟨100,by kernel_rfl⟩
end Go.Ab.C11
end
section
set_option linter.unusedVariables false
set_option linter.unusedSimpArgs false
set_option linter.unusedSectionVars false
set_option maxRecDepth 10000
namespace Go.Ab
theorem RL.monoQ {α:Type} {q:Option Bool} {s:Nat} {R S:List TV→α→Prop} {x:TV} {l:List α} (h:RL q s R x l) (hm:∀ e a,R e a→S e a):RL q s S x l:=by
 rcases h with ⟨rfl,rfl⟩ | ⟨o,xs,rfl,hq,h,hb⟩
 ·exact .nil
 ·exact .sl hq (h.mono hm) hb
theorem conv_byteZ {a:Int} (h0:0≤a) (h:a≤255):pconv (.int .i64) (.lit (.int .u8 a))=some (I a):=by
 show some (TV.lit (.int .i64 (IntKind.i64.wrap a)))=_
 rw [IntKind.wrap_i64]
 congr 4
 omega
theorem rem_inZ {p:Int} (hp:0≤p) {L:Nat} (hL:0 < L):∃ N:Nat,N < L∧pbin (.int .i64) .rem (I p) (I (L:Int))=some (I (N:Int)):=by
 have h1:0≤p.tmod L:=Int.tmod_nonneg _ hp
 have h2:p.tmod L < L:=Int.tmod_lt_of_pos _ (by omega)
 refine ⟨(p.tmod L).toNat,by omega,?_⟩
 have h3:(((p.tmod L).toNat:Nat):Int)=p.tmod L:=by omega
 rw [h3]
 show (if (L:Int)=0 then none else some (I (p.tmod L)))=_
 rw [if_neg (by omega)]
theorem smallM_of {m:DMod} (h:shortM m):smallM m∧∀ u ∈ m.funcs,u.blocks.length≤70:=by
 obtain ⟨h1,h2⟩:=h
 have key:∀ u ∈ m.funcs,shortF u:=fun u hu=>by
  obtain ⟨i,hi,rfl⟩:=List.mem_iff_getElem.1 hu
  exact h2 i hi _ (List.getElem?_eq_getElem hi)
 refine ⟨⟨by omega,fun u hu=>?_⟩,fun u hu=>(key u hu).1⟩
 obtain ⟨g1,g2⟩:=key u hu
 refine ⟨by omega,fun b hb=>?_⟩
 obtain ⟨i,hi,rfl⟩:=List.mem_iff_getElem.1 hb
 have:=(g2 i hi _ (List.getElem?_eq_getElem hi)).1
 omega
def callB (y:Nat):DBlock:=⟨false,⟨0,[],false,false⟩,[⟨11,0,0,0,0,(y:Int),[]⟩],⟨0,0,0,0,[],0,0,0⟩⟩
def withC (u:DFunc) (y:Nat):DFunc:={ u with blocks:=u.blocks ++ [callB y] }
theorem callsF_with {u:DFunc} {y k:Nat}:callsF (withC u y) k ↔ callsF u k∨k=y:=by
 unfold callsF withC
 constructor
 ·rintro ⟨b,hb,h⟩
  rcases List.mem_append.1 hb with hb | hb
  ·exact .inl ⟨b,hb,h⟩
  ·rw [List.mem_singleton.1 hb] at h
   rcases h with ⟨x,hx,_,h2⟩ | ⟨h1,_⟩
   ·have hx:x ∈ [(⟨11,0,0,0,0,(y:Int),[]⟩:DIns)]:=hx
    rw [List.mem_singleton.1 hx] at h2
    have h2:(y:Int)=(k:Int):=h2
    exact .inr (by omega)
   ·have h1:(0:Int)=4:=h1
    omega
 ·rintro (⟨b,hb,h⟩ | rfl)
  ·exact ⟨b,List.mem_append.2 (.inl hb),h⟩
  ·exact ⟨callB k,List.mem_append.2 (.inr (List.mem_singleton.2 rfl)),.inl ⟨_,List.mem_singleton.2 rfl,rfl,rfl⟩⟩
def moreM (m:DMod) (x y:Nat) (u:DFunc):DMod:=⟨m.funcs.set x (withC u y)⟩
theorem ofP_more {m:DMod} {x y:Nat} {u:DFunc} (hu:m.funcs[x]? = some u) (hy:y < m.funcs.length) (a k:Nat):ofP (moreM m x y u) a k ↔ ofP m a k∨(a=x∧k=y):=by
 have hx:x < m.funcs.length:=(List.getElem?_eq_some_iff.1 hu).1
 unfold ofP moreM
 simp only [List.length_set]
 by_cases hax:a=x
 ·subst hax
  rw [List.getElem?_set_self hx,hu]
  constructor
  ·rintro ⟨h1,u',h2,h3⟩
   cases h2
   rcases callsF_with.1 h3 with h3 | h3
   ·exact .inl ⟨h1,u,rfl,h3⟩
   ·exact .inr ⟨rfl,h3⟩
  ·rintro (⟨h1,u',h2,h3⟩ | ⟨_,rfl⟩)
   ·cases h2
    exact ⟨h1,_,rfl,callsF_with.2 (.inl h3)⟩
   ·exact ⟨hy,_,rfl,callsF_with.2 (.inr rfl)⟩
 ·rw [List.getElem?_set_ne (Ne.symm hax)]
  constructor
  ·exact .inl
  ·rintro (h | ⟨h,_⟩)
   ·exact h
   ·exact absurd h hax
theorem small_more {m:DMod} {x y:Nat} {u:DFunc} (hm:smallM m) (hu:u.blocks.length≤70) (hum:u ∈ m.funcs):smallM (moreM m x y u):=by
 refine ⟨by simp only [moreM,List.length_set]; exact hm.1,fun v hv=>?_⟩
 rcases List.mem_or_eq_of_mem_set hv with hv | rfl
 ·exact hm.2 v hv
 ·refine ⟨by simp [withC]; omega,fun b hb=>?_⟩
  rcases List.mem_append.1 hb with hb | hb
  ·exact (hm.2 u hum).2 b hb
  ·rw [List.mem_singleton.1 hb]
   show 1≤100
   omega
end Go.Ab
namespace Go.Ab.C11
open Go Go.Ab Go.Proofs
open Classical in
theorem rComesN {q:Option Bool} {b:TV} {m:DMod} (hb:RL q 3 (RFunc q) b m.funcs) (hs:smallM m) (i k:Nat):Runs prog 11 [.agg [b],I (i:Int),I (k:Int)] (B (decide (Co m i k))):=by
 have h:=rComes11 hb hs (i:Int) (k:Int)
 have e:(∃ k':Nat,(k:Int)=(k':Int)∧CoI m (i:Int) k') ↔ Co m i k:=by
  constructor
  ·rintro ⟨k',e1,n,e2,h⟩
   rw [Int.ofNat_inj.1 e1,Int.ofNat_inj.1 e2]
   exact h
  ·exact fun h=>⟨k,rfl,i,rfl,h⟩
 rwa [show decide (∃ k':Nat,(k:Int)=(k':Int)∧CoI m (i:Int) k')=decide (Co m i k) from decide_eq_decide.2 e] at h
section
variable {b w:TV} {m c:DMod} (hb:RL (some false) 3 (RFunc (some false)) b m.funcs) (hs:smallM m) (hc:RL (some false) 3 (RFunc (some false)) (frz w) c.funcs) (hcs:smallM c) {x y:Nat}
 (hall:∀ i k:Nat,Co c i k ↔ Co m i k∨((i=x∨Co m i x)∧(k=y∨Co m y k)))
include hb hs hc hcs hall
open Classical in
theorem moreIn {i:Nat} (hi:i≤m.funcs.length) (hk0:Goes prog 5 (f5_0 (I m.funcs.length) (I x) (I y) (I (i + 1:Nat)) b w) (B true)) (hil:i < m.funcs.length):∀ (d k:Nat),k + d=m.funcs.length →
  Goes prog 5 (f5_1 (I m.funcs.length) (I x) (I y) (I i) (I k) b w) (B true):=by
 have hN:=hs.1
 intro d
 induction d with
 | zero =>
  intro k hk
  have hk:k=m.funcs.length:=by omega
  subst hk
  unfold f5_1
  exact Goes.tv rfl (Goes.ite asB_end (fun h=>nomatch h) fun _=>Goes.tv (inc hil (by omega)) (f5_0_J hk0))
 | succ d ih =>
  intro k hk
  have hkl:k < m.funcs.length:=by omega
  have two:∀ z:Bool,(z=true ↔ Co c i k)→Goes prog 5 (f5_2 (I m.funcs.length) (I x) (I y) (I i) (I k) (B z) b w) (B true):=by
   intro z hz
   have e:decide (Co c i k)=z:=by
    cases z with
    | true=>exact decide_eq_true (hz.1 rfl)
    | false=>exact decide_eq_false fun h=>by cases hz.2 h
   unfold f5_2
   refine Goes.call (rComesN hc hcs i k) (Goes.chk rfl ?_)
   rw [e]
   refine Goes.tv (v:=B false) (by cases z <;> rfl) (Goes.ite (v:=false) rfl (fun h=>nomatch h) fun _=>?_)
   exact Goes.tv (inc hkl (by omega)) (f5_1_J (ih (k + 1) (by omega)))
  have eqI:∀ a c:Nat,asBool (.lit (.bool ((a:Int) == (c:Int))))=some (decide (a=c)):=fun a c=>by
   by_cases h:a=c
   ·subst h; simp [asBool]
   ·have h1:((a:Int) == (c:Int))=false:=by simp; omega
    simp only [asBool,h1,decide_eq_false h]
  unfold f5_1
  refine Goes.tv rfl (Goes.ite (asB_lt hkl) (fun _=>?_) fun h=>nomatch h)
  refine Goes.call (rComesN hb hs i k) (Goes.chk rfl (Goes.ite rfl (fun h1=>?_) fun h1=>?_))
  ·have h1:Co m i k:=by simpa using h1
   exact f5_2_J (two true ⟨fun _=>(hall i k).2 (.inl h1),fun _=>rfl⟩)
  ·have h1:¬ Co m i k:=by simpa using h1
   refine Goes.tv rfl (Goes.ite (eqI i x) (fun h2=>?_) fun h2=>?_)
   ·have h2:i=x:=by simpa using h2
    refine Goes.tv rfl (Goes.ite (eqI k y) (fun h3=>?_) fun h3=>?_)
    ·have h3:k=y:=by simpa using h3
     exact f5_2_J (two true ⟨fun _=>(hall i k).2 (.inr ⟨.inl h2,.inl h3⟩),fun _=>rfl⟩)
    ·have h3:¬ k=y:=by simpa using h3
     refine Goes.call (rComesN hb hs y k) (Goes.chk rfl (f5_2_J (two _ ?_)))
     rw [decide_eq_true_eq,hall]
     exact ⟨fun h=>.inr ⟨.inl h2,.inr h⟩,fun h=>by
      rcases h with h | ⟨_,h | h⟩
      ·exact absurd h h1
      ·exact absurd h h3
      ·exact h⟩
   ·have h2:¬ i=x:=by simpa using h2
    refine Goes.call (rComesN hb hs i x) (Goes.chk rfl (Goes.ite rfl (fun h4=>?_) fun h4=>?_))
    ·have h4:Co m i x:=by simpa using h4
     refine Goes.tv rfl (Goes.ite (eqI k y) (fun h3=>?_) fun h3=>?_)
     ·have h3:k=y:=by simpa using h3
      exact f5_2_J (two true ⟨fun _=>(hall i k).2 (.inr ⟨.inr h4,.inl h3⟩),fun _=>rfl⟩)
     ·have h3:¬ k=y:=by simpa using h3
      refine Goes.call (rComesN hb hs y k) (Goes.chk rfl (f5_2_J (two _ ?_)))
      rw [decide_eq_true_eq,hall]
      exact ⟨fun h=>.inr ⟨.inr h4,.inr h⟩,fun h=>by
       rcases h with h | ⟨_,h | h⟩
       ·exact absurd h h1
       ·exact absurd h h3
       ·exact h⟩
    ·have h4:¬ Co m i x:=by simpa using h4
     refine f5_2_J (two false ⟨fun h=>(by cases h),fun h=>?_⟩)
     rcases (hall i k).1 h with h | ⟨h | h,_⟩
     ·exact absurd h h1
     ·exact absurd h h2
     ·exact absurd h h4
theorem moreOut:∀ (d i:Nat),i + d=m.funcs.length→Goes prog 5 (f5_0 (I m.funcs.length) (I x) (I y) (I i) b w) (B true):=by
 intro d
 induction d with
 | zero =>
  intro i hi
  have hi:i=m.funcs.length:=by omega
  subst hi
  unfold f5_0
  exact Goes.tv rfl (Goes.ite asB_end (fun h=>nomatch h) fun _=>Goes.ret)
 | succ d ih =>
  intro i hi
  unfold f5_0
  refine Goes.tv rfl (Goes.ite (asB_lt (by omega)) (fun _=>?_) fun h=>nomatch h)
  exact f5_1_J (moreIn hb hs hc hcs hall (by omega) (ih (i + 1) (by omega)) (by omega) m.funcs.length 0 (by omega))
end
theorem rCallsMore {e:List TV} {m:DMod} (he:RMod (some false) e m) {p p':Int} (hp:0≤p∧p≤255) (hp':0≤p'∧p'≤255):Runs prog 5 [.agg e,.lit (.int .u8 p),.lit (.int .u8 p')] (B true):=by
 obtain ⟨b,rfl,hb⟩:=he
 obtain ⟨sh,hsh,hsm⟩:=r7 (q:=some false) (e:=[b]) (m:=m) ⟨b,rfl,hb⟩
 refine Runs.of (f5_MR _ _ _) ?_
 unfold f5_M
 refine Goes.chk rfl (Goes.call rAwake11 (Goes.chk rfl (Goes.tv rfl (Goes.ite (v:=false) rfl (fun h=>nomatch h) fun _=>?_))))
 refine Goes.call hsh (Goes.chk rfl (Goes.tv rfl ?_))
 cases sh with
 | false=>exact Goes.ite (v:=true) rfl (fun _=>Goes.ret) fun h=>nomatch h
 | true =>
  obtain ⟨hs,h70⟩:=smallM_of (hsm rfl)
  refine Goes.ite (v:=false) rfl (fun h=>nomatch h) fun _=>Goes.tv hb.len (Goes.tv rfl (Goes.ite rfl (fun _=>Goes.ret) fun h0=>?_))
  have hL:0 < m.funcs.length:=by
   have:¬ m.funcs.length=0:=by simpa using h0
   omega
  have hN:=hs.1
  obtain ⟨x,hx,hrx⟩:=rem_inZ hp.1 hL
  obtain ⟨y,hy,hry⟩:=rem_inZ hp'.1 hL
  obtain ⟨u,hu⟩:∃ u,m.funcs[x]? = some u:=⟨_,List.getElem?_eq_getElem hx⟩
  have hum:u ∈ m.funcs:=List.mem_of_getElem? hu
  have anx:asNat (I (x:Int))=some x:=asNat_nat (by omega)
  obtain ⟨r1,hr1,hf1⟩:=hb.elems
  obtain ⟨a1,ha1,hra1⟩:=RL.appZ (s:=3) (y:=.sl true 3 []) (l:=[]) (.sl (by simp) .nil (by simp)) hf1 (by simp; omega)
  rw [List.nil_append] at hra1
  obtain ⟨e1,he1,hR1⟩:=hra1.pel hu
  obtain ⟨bl,rfl,hbl,hi1,hi2⟩:=hR1
  have hdeep:getP [(x,2)] a1=some bl:=by
   rcases hra1 with ⟨rfl,hnil⟩ | ⟨o,xs,rfl,hq,h,hbb⟩
   ·rw [hnil] at hL; cases hL
   ·have he1:xs[x]? = some [I u.params,I u.regs,bl]:=he1
    simp only [getP,he1]
    rfl
  obtain ⟨r2,hr2,hf2⟩:=hbl.elems
  have hu70:=h70 u hum
  obtain ⟨a2,ha2,hra2⟩:=RL.appZ (s:=14) (y:=.sl true 14 []) (l:=[]) (.sl (by simp) .nil (by simp)) hf2 (by simp; omega)
  rw [List.nil_append] at hra2
  have hnew:F2 (RBlock none) [[B false,I 0,.lit nilV,B false,B false,.sl false 7 [[I 11,I 0,I 0,I 0,W 0,I (y:Int),.lit nilV]],I 0,I 0,I 0,I 0,.lit nilV,I 0,I 0,I 0]] [callB y]:=by
   refine .cons ⟨_,_,_,rfl,RL.nil,(show inI 0 from ⟨by omega,by omega⟩),?_,RL.nil,?_⟩ .nil
   ·refine .sl (by simp) (.cons ⟨_,rfl,RL.nil,?_⟩ .nil) (by simp)
    simp [DIns.ok,inI,inW]
    omega
   ·simp [DEnd.ok,callB,inI]
  obtain ⟨a3,ha3,hra3⟩:=(hra2.monoQ (S:=RBlock none) fun _ _ h=>h.weak).appZ hnew (by simp; omega)
  have hsl:a3.isSl=true:=hra3.isSl
  obtain ⟨a4,ha4,hra4⟩:=(hra1.monoQ (S:=RFunc none) fun _ _ h=>h.weak).setAt he1 (d:=2) (ys:=[a3]) (a:=withC u y) ⟨a3,rfl,hra3.weak fun _ _ h=>h,hi1,hi2⟩
  have hc:=hra4.frz (S:=RFunc (some false)) fun _ _ h=>h.frz
  have hcs:smallM (moreM m x y u):=small_more hs hu70 hum
  have hall:∀ i k:Nat,Co (moreM m x y u) i k ↔ Co m i k∨((i=x∨Co m i x)∧(k=y∨Co m y k)):=fun i k=>Co.less (ofP_more hu hy)
  have hxy:Co (moreM m x y u) x y:=(hall x y).2 (.inr ⟨.inl rfl,.inl rfl⟩)
  have hc:RL (some false) 3 (RFunc (some false)) (frz a4) (moreM m x y u).funcs:=hc
  obtain ⟨v,hv,hrv⟩:=rOf11 hc hcs (x:Int)
  have hmem:((y:Nat):Int) ∈ ofL (moreM m x y u) (x:Int):=ofL_mem.2 ⟨y,rfl,(ofP_more hu hy x y).2 (.inr ⟨rfl,rfl⟩)⟩
  have h1:=rComesN hc hcs x y
  rw [@decide_eq_true _ (Classical.propDecidable _) hxy] at h1
  have h2:=r75 (hrv.frz (S:=RI1) fun e n h=>by obtain ⟨rfl,h⟩:=h; exact ⟨rfl,h⟩) (y:Int)
  rw [decide_eq_true hmem] at h2
  refine Goes.tv hb.len (Goes.tv (conv_byteZ hp.1 hp.2) (Goes.tv hrx (Goes.tv (conv_byteZ hp'.1 hp'.2) (Goes.tv hry ?_))))
  refine Goes.rws hr1 (Goes.tv ha1 (Goes.nat hra1.slLen (Goes.nat anx (Goes.chk (by rw [hra1.slSize]; simpa using hx) (Goes.tvs he1 (Goes.chk ?_ (Goes.tv hdeep (Goes.chk hbl.isFr (Goes.rws hr2 (Goes.tv ha2 (Goes.rws rfl (Goes.tv ha3 (Goes.nat hra1.slLen (Goes.nat anx (Goes.chk (by rw [hra1.slSize]; simpa using hx) (Goes.tvs he1 (Goes.chk ?_ (Goes.tv ha4 ?_))))))))))))))))))
  ·have:=hbl.isSl
   simp [fitsAt,zSl,isSlV,nilV,this]
  ·have:=hbl.isSl
   simp [fitsOld,fitsAt,zSl,isSlV,nilV,this,hsl]
  refine Goes.call h1 (Goes.chk rfl (Goes.tv rfl (Goes.ite (v:=false) rfl (fun h=>nomatch h) fun _=>?_)))
  refine Goes.call hv (Goes.chk (fit_slc hrv.isSl) (Goes.call h2 (Goes.chk rfl (Goes.tv rfl (Goes.ite (v:=false) rfl (fun h=>nomatch h) fun _=>?_)))))
  exact f5_0_J (moreOut hb hs hc hcs hall m.funcs.length 0 (by omega))
end Go.Ab.C11
end

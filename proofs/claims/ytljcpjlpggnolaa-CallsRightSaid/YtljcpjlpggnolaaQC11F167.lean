import Derived.Test.YtljcpjlpggnolaaQC11F162
import Derived.Test.YtljcpjlpggnolaaQM2
set_option linter.all false
section
set_option maxRecDepth 10000
namespace Go.Ab
theorem RL.appZ {α:Type} {s:Nat} {R:List TV→α→Prop} {y:TV} {l m:List α} {rows:List (List TV)} (hy:RL (some true) s R y l) (hr:F2 R rows m) (hl:l.length + m.length≤4294967296):∃ y',papp s y rows=some y'∧RL (some true) s R y' (l ++ m):=by
 have hlen:=hr.length
 rcases hy with ⟨rfl,rfl⟩ | ⟨o,xs,rfl,hq,h,hb⟩
 ·simp only [List.length_nil,Nat.zero_add] at hl
  have hp:papp s (.lit aK) rows=some (D7 s rows):=by
   simp only [papp,aK]
   rw [if_pos (show rows.length≤room by simp only [room]; omega)]
  refine ⟨_,hp,?_⟩
  cases hr with
  | nil=>exact .nil
  | cons h1 h2=>exact .sl (by simp) (.cons h1 h2) (by simp only [List.length_cons] at hlen ⊢; simp only [List.length_cons] at hl; omega)
 ·have hlen2:=h.length
  have:o=true:=hq true rfl
  subst this
  refine ⟨.sl true s (xs ++ rows),?_,.sl (by simp) (h.append hr) (by simp; omega)⟩
  simp [papp,room]; omega
theorem lfLL_z {xs:List (List TV)} {l:List Int} (h:F2 RI1 xs l):j4 xs=xs:=by
 induction h with
 | nil=>rfl
 | cons h _ ih =>
  obtain ⟨rfl,_⟩:=h
  simp only [j4,ih]
  rfl
theorem jx {M:List Bool} {g:Nat} (h:M[g]? = some false):(M.set g true).count false + 1=M.count false:=by
 obtain ⟨hlt,hg⟩:=Gu.1 h
 have hpos:0 < M.count false:=List.count_pos_iff.2 (GD h)
 rw [List.count_set hlt]
 simp [hg]
 omega
def CoI (m:DMod) (a:Int) (k:Nat):Prop:=∃ n:Nat,a=(n:Int)∧Co m n k
structure CoW (m:DMod) (a:Int) (M:List Bool) (o:List Int):Prop where
 len:M.length=m.funcs.length
 met:∀ k,M[k]? = some true→CoI m a k
 opn:∀ x ∈ o,∃ k:Nat,x=(k:Int)∧CoI m a k
 start:∀ x ∈ ofL m a,∃ k:Nat,x=(k:Int)∧(M[k]? = some true∨x ∈ o)
 clos:∀ j,M[j]? = some true→∀ k,ofP m j k→M[k]? = some true∨(k:Int) ∈ o
theorem rU {m:DMod} {a x:Int} (h:x ∈ ofL m a):∃ (n k:Nat),a=(n:Int)∧x=(k:Int)∧ofP m n k:=by
 cases ht:dm m.funcs.length a with
 | false=>rw [wW ht] at h; cases h
 | true =>
  obtain ⟨u,hu,hn,_⟩:=zE ht
  rw [hn] at h
  obtain ⟨k,hk,hp⟩:=fq.1 h
  exact ⟨_,k,hn,hk,hp⟩
theorem CoW.init (m:DMod) (a:Int):CoW m a (List.replicate m.funcs.length false) (ofL m a):=by
 have hno:∀ k,¬ (List.replicate m.funcs.length false)[k]? = some true:=fun k h=>by
  have:=GD h
  have:=List.eq_of_mem_replicate this
  cases this
 refine ⟨by simp,fun k h=>absurd h (hno k),fun x hx=>?_,fun x hx=>?_,fun j h=>absurd h (hno j)⟩
 ·obtain ⟨n,k,h1,h2,h3⟩:=rU hx
  exact ⟨k,h2,n,h1,.one h3⟩
 ·obtain ⟨n,k,h1,h2,h3⟩:=rU hx
  exact ⟨k,h2,.inr hx⟩
theorem CoI.lt {m:DMod} {a:Int} {k:Nat} (h:CoI m a k):k < m.funcs.length:=by
 obtain ⟨n,_,h⟩:=h
 exact h.lt.2
theorem CoW.old {m:DMod} {a:Int} {M:List Bool} {o:List Int} {k:Nat} (h:CoW m a M (o ++ [(k:Int)])) (hk:M[k]? = some true):CoW m a M o:=by
 refine ⟨h.len,h.met,fun x hx=>h.opn x (List.mem_append.2 (.inl hx)),fun x hx=>?_,fun j hj k' hk'=>?_⟩
 ·obtain ⟨k',rfl,h' | h'⟩:=h.start x hx
  ·exact ⟨k',rfl,.inl h'⟩
  ·rcases List.mem_append.1 h' with h' | h'
   ·exact ⟨k',rfl,.inr h'⟩
   ·have:k'=k:=by have:=List.mem_singleton.1 h'; omega
    subst this
    exact ⟨k',rfl,.inl hk⟩
 ·rcases h.clos j hj k' hk' with h' | h'
  ·exact .inl h'
  ·rcases List.mem_append.1 h' with h' | h'
   ·exact .inr h'
   ·have:k'=k:=by have:=List.mem_singleton.1 h'; omega
    subst this
    exact .inl hk
theorem CoW.new {m:DMod} {a:Int} {M:List Bool} {o:List Int} {k:Nat} (h:CoW m a M (o ++ [(k:Int)])) (hk:M[k]? = some false):CoW m a (M.set k true) (o ++ ofL m (k:Int)):=by
 have hlt:k < M.length:=(Gu.1 hk).1
 obtain ⟨k0,hk0,hc⟩:=h.opn k (List.mem_append.2 (.inr (List.mem_singleton.2 rfl)))
 have:k0=k:=by omega
 subst this
 have up:∀ {j},M[j]? = some true→(M.set k0 true)[j]? = some true:=fun {j} hj=>by
  rw [List.getElem?_set]
  split
  ·rfl
  ·exact hj
 have me:(M.set k0 true)[k0]? = some true:=List.getElem?_set_self hlt
 have inn:∀ {k':Nat},M[k']? = some true∨(k':Int) ∈ o ++ [(k0:Int)]→(M.set k0 true)[k']? = some true∨(k':Int) ∈ o ++ ofL m (k0:Int):=by
  rintro k' (h' | h')
  ·exact .inl (up h')
  ·rcases List.mem_append.1 h' with h' | h'
   ·exact .inr (List.mem_append.2 (.inl h'))
   ·have:k'=k0:=by have:=List.mem_singleton.1 h'; omega
    subst this
    exact .inl me
 refine ⟨by rw [List.length_set]; exact h.len,fun j hj=>?_,fun x hx=>?_,fun x hx=>?_,fun j hj k' hk'=>?_⟩
 ·by_cases e:j=k0
  ·subst e; exact hc
  ·rw [List.getElem?_set_ne (Ne.symm e)] at hj
   exact h.met j hj
 ·rcases List.mem_append.1 hx with hx | hx
  ·exact h.opn x (List.mem_append.2 (.inl hx))
  ·obtain ⟨k',rfl,hp⟩:=fq.1 hx
   obtain ⟨n,hn,hc⟩:=hc
   exact ⟨k',rfl,n,hn,.more hc hp⟩
 ·obtain ⟨k',rfl,h'⟩:=h.start x hx
  exact ⟨k',rfl,inn h'⟩
 ·by_cases e:j=k0
  ·subst e
   exact .inr (List.mem_append.2 (.inr (fq.2 ⟨k',rfl,hk'⟩)))
  ·rw [List.getElem?_set_ne (Ne.symm e)] at hj
   exact inn (h.clos j hj k' hk')
theorem CoW.done {m:DMod} {a:Int} {M:List Bool} (h:CoW m a M []) (k:Nat):M[k]? = some true ↔ CoI m a k:=by
 refine ⟨h.met k,?_⟩
 rintro ⟨n,rfl,hc⟩
 induction hc with
 | one hp =>
  obtain ⟨k',e,h' | h'⟩:=h.start _ (fq.2 ⟨_,rfl,hp⟩)
  ·rw [Int.ofNat_inj.1 e]; exact h'
  ·cases h'
 | more _ hp ih =>
  rcases h.clos _ ih _ hp with h' | h'
  ·exact h'
  ·cases h'
end Go.Ab
namespace Go.Ab.C11
open Go Go.Ab Go.Proofs
section
variable {q:Option Bool} {b:TV} {m:DMod} (hb:RL q 3 (RFunc q) b m.funcs) (hs:kS m) {a:Int}
include hb hs
theorem toLoop:∀ (d:Nat) (M:List Bool) (o:List Int) (w1 w2:TV),o.length + M.count false * (m.funcs.length + 1)≤d→d≤100000→RBools (some true) w1 M→RInts (some true) w2 o→CoW m a M o →
  ∃ y M',aa prog 25 (f25_0 b w1 w2) y∧RBools (some true) y M'∧CoW m a M' []:=by
 intro d
 induction d with
 | zero =>
  intro M o w1 w2 hd _ h1 h2 hc
  have ho:o=[]:=List.length_eq_zero_iff.1 (by omega)
  subst ho
  refine ⟨w1,M,?_,h1,hc⟩
  unfold f25_0
  exact aa.tv h2.len (aa.tv rfl (aa.ite (v:=false) (by simp [asBool]) nofun fun _=>aa.chk (h1.own fun _ _ h=>by cases h; rfl) aa.ret))
 | succ d ih =>
  intro M o w1 w2 hd hdb h1 h2 hc
  by_cases ho:o=[]
  ·subst ho
   refine ⟨w1,M,?_,h1,hc⟩
   unfold f25_0
   exact aa.tv h2.len (aa.tv rfl (aa.ite (v:=false) (by simp [asBool]) nofun fun _=>aa.chk (h1.own fun _ _ h=>by cases h; rfl) aa.ret))
  ·have hpos:0 < o.length:=List.length_pos_iff.2 ho
   have hol:o=o.take (o.length - 1) ++ [o[o.length - 1]]:=by
    have e:o.take (o.length - 1 + 1)=o:=List.take_of_length_le (by omega)
    rw [List.take_add_one,Gv (by omega)] at e
    exact e.symm
   obtain ⟨t,ht⟩:∃ t,t=o.take (o.length - 1):=⟨_,rfl⟩
   obtain ⟨x,hx⟩:∃ x,x=o[o.length - 1]:=⟨_,rfl⟩
   rw [← ht,← hx] at hol
   obtain ⟨k,rfl,hck⟩:=hc.opn x (by rw [hol]; exact List.mem_append.2 (.inr (List.mem_singleton.2 rfl)))
   have hkN:=hck.lt
   have hN:=hs.1
   have hkM:k < M.length:=by rw [hc.len]; exact hkN
   have htl:t.length + 1=o.length:=by rw [ht,List.length_take]; omega
   have hox:o[o.length - 1]? = some (k:Int):=by rw [Gv (by omega),hx]
   obtain ⟨e1,he1,rfl,hek⟩:=h2.pel hox
   obtain ⟨c,hcM⟩:∃ c,M[k]? = some c:=⟨_,Gv hkM⟩
   obtain ⟨e2,he2,hR2⟩:=h1.pel hcM
   cases hR2
   obtain ⟨v2,hv2,hr2⟩:=h2.win (k:=o.length - 1) (by omega)
   rw [← ht] at hr2
   have anl:ae (I ((o.length - 1:Nat):Int))=some (o.length - 1):=aj (by omega)
   have ank:ae (I (k:Int))=some k:=aj (by omega)
   rw [hol] at hc
   have hb1:(slSize w2 1 && Nat.blt (o.length - 1) o.length)=true:=by rw [h2.slSize]; simp; omega
   have hb2:((slSize w2 1 && Nat.ble 0 (o.length - 1)) && Nat.ble (o.length - 1) o.length)=true:=by rw [h2.slSize]; simp
   have hb3:(slSize w1 1 && Nat.blt k M.length)=true:=by rw [h1.slSize]; simpa using hkM
   have top:∀ {y:TV},(c=true→aa prog 25 (f25_0 b w1 v2) y) →
     (c=false→∃ w1' v r v',dN [] w1 k 0 [B true]=some w1'∧bu prog 9 [.agg [b],I k] v∧v.isSl=true∧pelems 1 v=some r∧papp 1 v2 (j4 r)=some v'∧aa prog 25 (f25_0 b w1' v') y) →
     aa prog 25 (f25_0 b w1 w2) y:=by
    intro y g1 g2
    unfold f25_0
    refine aa.tv h2.len (aa.tv rfl (aa.ite (v:=true) (by simp [asBool]; omega) (fun _=>?_) nofun))
    refine aa.tv h2.len (aa.tv (psub1 hpos (by omega)) (aa.nat h2.slLen (aa.nat anl (aa.chk hb1 (aa.tvs he1 (aa.chk rfl (aa.nat h2.slLen (aa.nat anl (aa.chk hb2 ?_)))))))))
    refine aa.nat h1.slLen (aa.nat ank (aa.chk hb3 (aa.tvs he2 (aa.chk rfl (aa.tv rfl ?_)))))
    cases c with
    | true=>exact aa.ite (v:=false) rfl nofun fun _=>aa.tv hv2 (f25_0_J (g1 rfl))
    | false =>
     obtain ⟨w1',v,r,v',a1,a2,a3,a4,a5,a6⟩:=g2 rfl
     refine aa.ite (v:=true) rfl (fun _=>?_) nofun
     exact aa.nat h1.slLen (aa.nat ank (aa.chk hb3 (aa.tvs he2 (aa.chk rfl (aa.tv a1 (aa.call a2 (aa.chk (aG a3) (aa.rws a4 (aa.tv hv2 (aa.tv a5 (f25_0_J a6)))))))))))
   cases c with
   | true =>
    obtain ⟨y,M',g1,g2,g3⟩:=ih M t w1 v2 (by omega) (by omega) h1 hr2 (hc.old hcM)
    exact ⟨y,M',top (fun _=>g1) (fun h=>by cases h),g2,g3⟩
   | false =>
    obtain ⟨w1',a1,hr1⟩:=h1.iO he2 (d:=0) (ys:=[B true]) (a:=true) rfl
    obtain ⟨v,a2,hrv⟩:=AD hb hs (k:Int)
    obtain ⟨r,a4,hF⟩:=hrv.elems
    have hcnt:=jx hcM
    have hol2:=pr m (k:Int)
    have hmul:M.count false * (m.funcs.length + 1)=(M.set k true).count false * (m.funcs.length + 1) + (m.funcs.length + 1):=by rw [← hcnt,Nat.add_mul,Nat.one_mul]
    obtain ⟨v',a5,hr5⟩:=hr2.appZ hF (by omega)
    obtain ⟨y,M',g1,g2,g3⟩:=ih (M.set k true) (t ++ ofL m (k:Int)) w1' v' (by rw [List.length_append]; omega) (by omega) hr1 hr5 (hc.new hcM)
    exact ⟨y,M',top (fun h=>by cases h) (fun _=>⟨w1',v,r,v',a1,a2,hrv.isSl,a4,by rw [lfLL_z hF]; exact a5,g1⟩),g2,g3⟩
theorem yR (a:Int):∃ y M,bu prog 25 [.agg [b],I a] y∧RBools (some true) y M∧M.length=m.funcs.length∧∀ k:Nat,M[k]? = some true ↔ CoI m a k:=by
 have hN:=hs.1
 obtain ⟨v,hv,hrv⟩:=AD hb hs a
 have hol:=pr m a
 have hrep:RBools (some true) (.sl true 1 (List.replicate m.funcs.length [B false])) (List.replicate m.funcs.length false):=by
  refine .sl (by simp) ?_ (by simp; omega)
  generalize m.funcs.length=n
  induction n with
  | zero=>exact .nil
  | succ n ih=>exact .cons rfl ih
 have hcnt:(List.replicate m.funcs.length false).count false=m.funcs.length:=by simp
 have hmul:m.funcs.length * (m.funcs.length + 1)≤100 * 101:=Nat.mul_le_mul hN (by omega)
 obtain ⟨y,M,g1,g2,g3⟩:=toLoop hb hs (a:=a) 100000 _ _ _ v (by rw [hcnt]; omega) (Nat.le_refl _) hrep hrv (CoW.init m a)
 refine ⟨y,M,?_,g2,g3.len,g3.done⟩
 have han:ae (I (m.funcs.length:Int))=some m.funcs.length:=aj (by omega)
 refine bu.of (f25_MR _ _) ?_
 unfold f25_M
 exact aa.chk rfl (aa.tv hb.len (aa.nat han (aa.nat han (aa.chk (by simp; omega) (aa.call hv (aa.chk (aG hrv.isSl) (f25_0_J g1)))))))
open Classical in
theorem Di (a c:Int):bu prog 11 [.agg [b],I a,I c] (B (decide (∃ k:Nat,c=(k:Int)∧CoI m a k))):=by
 have hN:=hs.1
 cases ht:dm m.funcs.length c with
 | false =>
  have hno:¬ ∃ k:Nat,c=(k:Int)∧CoI m a k:=by
   rintro ⟨k,rfl,h⟩
   have:=h.lt
   simp [dm] at ht
   omega
  rw [decide_eq_false hno]
  refine bu.of (f11_MR _ _ _) ?_
  unfold f11_M
  exact aa.chk rfl (aa.call (md hb c) (aa.chk rfl (aa.ite (v:=false) (by rw [ht]; rfl) nofun fun _=>aa.ret)))
 | true =>
  have hc:0≤c∧c < (m.funcs.length:Int):=by simpa [dm] using ht
  obtain ⟨k,rfl⟩:∃ k:Nat,c=(k:Int):=⟨c.toNat,by omega⟩
  obtain ⟨y,M,g1,g2,g3,g4⟩:=yR hb hs a
  have hk:k < M.length:=by omega
  obtain ⟨x,hx⟩:∃ x,M[k]? = some x:=⟨_,Gv hk⟩
  obtain ⟨e,he,hR⟩:=g2.pel hx
  cases hR
  have hd:decide (∃ k':Nat,(k:Int)=(k':Int)∧CoI m a k')=x:=by
   have:(∃ k':Nat,(k:Int)=(k':Int)∧CoI m a k') ↔ x=true:=by
    rw [show (x=true) ↔ M[k]? = some true by rw [hx]; simp,g4]
    exact ⟨fun ⟨k',e,h⟩=>by rw [Int.ofNat_inj.1 e]; exact h,fun h=>⟨k,rfl,h⟩⟩
   cases x with
   | true=>exact decide_eq_true (this.2 rfl)
   | false=>exact decide_eq_false fun h=>by cases this.1 h
  rw [hd]
  have ank:ae (I (k:Int))=some k:=aj (by omega)
  refine bu.of (f11_MR _ _ _) ?_
  unfold f11_M
  refine aa.chk rfl (aa.call (md hb k) (aa.chk rfl (aa.ite (v:=true) (by rw [ht]; rfl) (fun _=>?_) nofun)))
  exact aa.call g1 (aa.chk (aG g2.isSl) (aa.nat g2.slLen (aa.nat ank (aa.chk (by rw [g2.slSize]; simpa using hk) (aa.tvs he (aa.chk rfl aa.ret))))))
end
end Go.Ab.C11
end
section
set_option maxRecDepth 100000
namespace Go.Ab.C11
open Go Go.Ab Go.Proofs
theorem EA:bu prog 6 [] (B true):=⟨100,by kernel_rfl⟩
end Go.Ab.C11
end
section
set_option maxRecDepth 10000
namespace Go.Ab
theorem CC {m:DMod} (h:pY m):kS m∧∀ u ∈ m.funcs,u.blocks.length≤70:=by
 obtain ⟨h1,h2⟩:=h
 have key:∀ u ∈ m.funcs,zS u:=fun u hu=>by
  obtain ⟨i,hi,rfl⟩:=List.mem_iff_getElem.1 hu
  exact h2 i hi _ (Gv hi)
 refine ⟨⟨by omega,fun u hu=>?_⟩,fun u hu=>(key u hu).1⟩
 obtain ⟨g1,g2⟩:=key u hu
 refine ⟨by omega,fun b hb=>?_⟩
 obtain ⟨i,hi,rfl⟩:=List.mem_iff_getElem.1 hb
 have:=(g2 i hi _ (Gv hi)).1
 omega
end Go.Ab
namespace Go.Ab.C11
open Go Go.Ab Go.Proofs
section
variable {b w:TV} {m c:DMod} (hb:RL (some false) 3 (RFunc (some false)) b m.funcs) (hs:kS m) (hc:RL (some false) 3 (RFunc (some false)) (frz w) c.funcs) (hcs:kS c) {x y:Nat}
 (hall:∀ i k:Nat,Co c i k ↔ Co m i k∨((i=x∨Co m i x)∧(k=y∨Co m y k)))
include hb hs hc hcs hall
end
end Go.Ab.C11
end
section
set_option maxRecDepth 10000
namespace Go.Ab
inductive Rn (E:Nat→Nat→Prop) (a:Nat):Nat→Prop
 | one {b:Nat} (h:E a b):Rn E a b
 | more {b c:Nat} (h:Rn E a b) (h':E b c):Rn E a c
theorem Rn.trans {E:Nat→Nat→Prop} {a b c:Nat} (h:Rn E a b) (h':Rn E b c):Rn E a c:=by
 induction h' with
 | one h2=>exact .more h h2
 | more _ h2 ih=>exact .more ih h2
theorem qY {m:DMod} {a b:Nat}:Co m a b ↔ Rn (ofP m) a b:=by
 constructor
 ·intro h
  induction h with
  | one h=>exact .one h
  | more _ h ih=>exact .more ih h
 ·intro h
  induction h with
  | one h=>exact .one h
  | more _ h ih=>exact .more ih h
structure DI (E:Nat→Nat→Prop) (into:Nat→Prop) (way:List (Nat × List Nat)) (left:List Nat):Prop where
 iff:∀ v,into v ↔ v ∈ left∨v ∈ way.map fun p=>p.1
 nodl:left.Nodup
 nodw:(way.map fun p=>p.1).Nodup
 dis:∀ v ∈ left,v ∉ way.map fun p=>p.1
 chain:way.Pairwise fun p q=>Rn E p.1 q.1
 opn:∀ p ∈ way,∀ w,E p.1 w→w ∈ p.2∨into w
 suc:∀ v ∈ left,∀ w,E v w→into w
 back:∀ v ∈ left,(∀ t,Rn E v t→t ∈ left)∨∃ w,w ∈ (way.map fun p=>p.1)∧Rn E v w∧Rn E w v
 ord:∀ (l:List Nat) (n:Nat) (r:List Nat),left=l ++ n :: r→∀ x ∈ l,Rn E x n→∃ w,Rn E x w∧Rn E w x∧w ∉ l
section
variable {E:Nat→Nat→Prop} {into:Nat→Prop} {way t:List (Nat × List Nat)} {left:List Nat}
theorem DI.none (h:∀ v,¬ into v):DI E into [] [] where
 iff v:=⟨fun hv=>absurd hv (h v),fun hv=>by rcases hv with hv | hv <;> cases hv⟩
 nodl:=List.Pairwise.nil
 nodw:=List.Pairwise.nil
 dis v hv:=by cases hv
 chain:=List.Pairwise.nil
 opn p hp:=by cases hp
 suc v hv:=by cases hv
 back v hv:=by cases hv
 ord l n r e:=by
  have:=congrArg List.length e
  simp at this
theorem DI.enter (h:DI E into way left) {n:Nat} {nx:List Nat} (hn:¬ into n) (htop:∀ s p,way=s ++ [p]→E p.1 n) (hnx:∀ w,E n w→w ∈ nx):DI E (fun v=>into v∨v=n) (way ++ [(n,nx)]) left:=by
 have hnl:n ∉ left:=fun hh=>hn ((h.iff n).2 (.inl hh))
 have hnw:n ∉ way.map fun p=>p.1:=fun hh=>hn ((h.iff n).2 (.inr hh))
 refine ⟨fun v=>?_,h.nodl,?_,fun v hv=>?_,?_,fun p hp w hw=>?_,fun v hv w hw=>.inl (h.suc v hv w hw),fun v hv=>?_,h.ord⟩
 ·rw [h.iff v,List.map_append,List.mem_append]
  simp only [List.map_cons,List.map_nil,List.mem_singleton]
  constructor
  ·rintro ((a | a) | a)
   ·exact .inl a
   ·exact .inr (.inl a)
   ·exact .inr (.inr a)
  ·rintro (a | a | a)
   ·exact .inl (.inl a)
   ·exact .inl (.inr a)
   ·exact .inr a
 ·rw [List.map_append]
  refine List.nodup_append.2 ⟨h.nodw,by simp,fun a ha b hb e=>?_⟩
  subst e
  rw [List.mem_singleton.1 hb] at ha
  exact hnw ha
 ·rw [List.map_append,List.mem_append]
  rintro (a | a)
  ·exact h.dis v hv a
  ·rw [List.mem_singleton.1 a] at hv
   exact hnl hv
 ·refine List.pairwise_append.2 ⟨h.chain,by simp,fun p hp q hq=>?_⟩
  rw [List.mem_singleton.1 hq]
  show Rn E p.1 n
  have hne:way≠[]:=fun e=>by rw [e] at hp; cases hp
  obtain ⟨s,z,e⟩:∃ s z,way=s ++ [z]:=⟨_,_,(List.dropLast_concat_getLast hne).symm⟩
  have hz:=htop s z e
  rw [e] at hp
  rcases List.mem_append.1 hp with hp | hp
  ·have hc:=h.chain
   rw [e] at hc
   exact .more ((List.pairwise_append.1 hc).2.2 p hp z (List.mem_singleton.2 rfl)) hz
  ·rw [List.mem_singleton.1 hp]
   exact .one hz
 ·rcases List.mem_append.1 hp with hp | hp
  ·rcases h.opn p hp w hw with a | a
   ·exact .inl a
   ·exact .inr (.inl a)
  ·rw [List.mem_singleton.1 hp] at hw ⊢
   exact .inl (hnx w hw)
 ·rcases h.back v hv with a | ⟨w,a,b⟩
  ·exact .inl a
  ·exact .inr ⟨w,by rw [List.map_append]; exact List.mem_append.2 (.inl a),b⟩
theorem DI.drop {s:List (Nat × List Nat)} {v n:Nat} {o:List Nat} (h:DI E into (t ++ (v,n :: o) :: s) left) (hn:into n):DI E into (t ++ (v,o) :: s) left:=by
 have e:((t ++ (v,o) :: s).map fun p=>p.1)=(t ++ (v,n :: o) :: s).map fun p=>p.1:=by simp
 refine ⟨fun x=>by rw [e]; exact h.iff x,h.nodl,by rw [e]; exact h.nodw,fun x hx=>by rw [e]; exact h.dis x hx,?_,fun p hp w hw=>?_,h.suc,fun x hx=>by rw [e]; exact h.back x hx,h.ord⟩
 ·have h1:(((t ++ (v,n :: o) :: s).map fun p=>p.1)).Pairwise (Rn E):=List.pairwise_map.2 h.chain
  rw [← e] at h1
  exact List.pairwise_map.1 h1
 ·rcases List.mem_append.1 hp with hp | hp
  ·exact h.opn p (List.mem_append.2 (.inl hp)) w hw
  ·rcases List.mem_cons.1 hp with rfl | hp
   ·rcases h.opn (v,n :: o) (List.mem_append.2 (.inr GB)) w hw with a | a
    ·rcases List.mem_cons.1 a with rfl | a
     ·exact .inr hn
     ·exact .inl a
    ·exact .inr a
   ·exact h.opn p (List.mem_append.2 (.inr (GC _ hp))) w hw
theorem DI.leave {v:Nat} (h:DI E into (t ++ [(v,[])]) left):DI E into t (left ++ [v]):=by
 have hm:((t ++ [(v,([]:List Nat))]).map fun p=>p.1)=(t.map fun p=>p.1) ++ [v]:=by simp
 have hiff:=h.iff
 have hdis:=h.dis
 have hnodw:=h.nodw
 rw [hm] at hnodw
 simp only [hm] at hiff hdis
 have hnw:=List.nodup_append.1 hnodw
 have hvt:v ∉ t.map fun p=>p.1:=fun hh=>hnw.2.2 v hh v (List.mem_singleton.2 rfl) rfl
 have hvl:v ∉ left:=fun hh=>hdis v hh (List.mem_append.2 (.inr (List.mem_singleton.2 rfl)))
 have hsuc:∀ w,E v w→into w:=fun w hw=>by
  rcases h.opn (v,[]) (List.mem_append.2 (.inr (List.mem_singleton.2 rfl))) w hw with a | a
  ·cases a
  ·exact a
 have htv:∀ w,w ∈ (t.map fun p=>p.1)→Rn E w v:=fun w hw=>by
  obtain ⟨p,hp,rfl⟩:=List.mem_map.1 hw
  exact (List.pairwise_append.1 h.chain).2.2 p hp (v,[]) (List.mem_singleton.2 rfl)
 have hback:∀ x ∈ left,(∀ t,Rn E x t→t ∈ left)∨(∃ w,w ∈ (t.map fun p=>p.1)∧Rn E x w∧Rn E w x)∨(Rn E x v∧Rn E v x):=fun x hx=>by
  rcases h.back x hx with a | ⟨w,a,b⟩
  ·exact .inl a
  ·rw [hm] at a
   rcases List.mem_append.1 a with a | a
   ·exact .inr (.inl ⟨w,a,b⟩)
   ·rw [List.mem_singleton.1 a] at b
    exact .inr (.inr b)
 have K:(∀ x,Rn E v x→x ∈ left ++ [v])∨∃ w,w ∈ (t.map fun p=>p.1)∧Rn E v w∧Rn E w v:=by
  by_cases hw:∃ w,w ∈ (t.map fun p=>p.1)∧Rn E v w
  ·obtain ⟨w,a,b⟩:=hw
   exact .inr ⟨w,a,b,htv w a⟩
  ·refine .inl fun x hx=>?_
   have inn:∀ z,into z→Rn E v z→z ∈ left ++ [v]:=fun z hz hr=>by
    rcases (hiff z).1 hz with a | a
    ·exact List.mem_append.2 (.inl a)
    ·rcases List.mem_append.1 a with a | a
     ·exact absurd ⟨z,a,hr⟩ hw
     ·exact List.mem_append.2 (.inr a)
   induction hx with
   | one hE=>exact inn _ (hsuc _ hE) (.one hE)
   | @more y z hy hE ih =>
    refine inn z ?_ (.more hy hE)
    rcases List.mem_append.1 ih with a | a
    ·exact h.suc y a z hE
    ·rw [List.mem_singleton.1 a] at hE
     exact hsuc z hE
 refine ⟨fun x=>?_,?_,hnw.1,fun x hx=>?_,(List.pairwise_append.1 h.chain).1,fun p hp=>h.opn p (List.mem_append.2 (.inl hp)),fun x hx w hw=>?_,fun x hx=>?_,fun l n r e x hx hr=>?_⟩
 ·rw [hiff x,List.mem_append,List.mem_append]
  constructor
  ·rintro (a | a | a)
   ·exact .inl (.inl a)
   ·exact .inr a
   ·exact .inl (.inr a)
  ·rintro ((a | a) | a)
   ·exact .inl a
   ·exact .inr (.inr a)
   ·exact .inr (.inl a)
 ·refine List.nodup_append.2 ⟨h.nodl,by simp,fun a ha b hb e=>?_⟩
  subst e
  rw [List.mem_singleton.1 hb] at ha
  exact hvl ha
 ·rcases List.mem_append.1 hx with a | a
  ·exact fun hh=>hdis x a (List.mem_append.2 (.inl hh))
  ·rw [List.mem_singleton.1 a]
   exact hvt
 ·rcases List.mem_append.1 hx with a | a
  ·exact h.suc x a w hw
  ·rw [List.mem_singleton.1 a] at hw
   exact hsuc w hw
 ·rcases List.mem_append.1 hx with a | a
  ·rcases hback x a with g | g | ⟨g1,g2⟩
   ·exact .inl fun z hz=>List.mem_append.2 (.inl (g z hz))
   ·exact .inr g
   ·rcases K with k | ⟨w,k1,k2,k3⟩
    ·exact .inl fun z hz=>k z (g2.trans hz)
    ·exact .inr ⟨w,k1,g1.trans k2,k3.trans g2⟩
  ·rw [List.mem_singleton.1 a]
   exact K
 ·have hlen:=congrArg List.length e
  simp at hlen
  by_cases hr0:r=[]
  ·subst hr0
   have e2:left=l∧v=n:=by
    have:=List.append_inj' e rfl
    exact ⟨this.1,by simpa using this.2⟩
   obtain ⟨rfl,rfl⟩:=e2
   rcases hback x hx with g | ⟨w,g1,g2,g3⟩ | ⟨g1,g2⟩
   ·exact absurd (g v hr) hvl
   ·exact ⟨w,g2,g3,fun hh=>hdis w hh (List.mem_append.2 (.inl g1))⟩
   ·exact ⟨v,g1,g2,hvl⟩
  ·obtain ⟨r',z,rfl⟩:∃ r' z,r=r' ++ [z]:=⟨_,_,(List.dropLast_concat_getLast hr0).symm⟩
   have e2:left=l ++ n :: r':=by
    have e3:left ++ [v]=(l ++ n :: r') ++ [z]:=by rw [e]; simp
    exact (List.append_inj' e3 rfl).1
   exact h.ord l n r' e2 x hx hr
theorem DI.behind (h:DI E into [] left) {N:Nat} (hE:∀ a b,E a b→a < N∧b < N) (hall:∀ v,v < N→into v) {M:Nat→Prop} (hM:∀ x y,M y→Rn E x y→M x) {l r:List Nat} {n:Nat} (e:left=l ++ n :: r) (hr:∀ y ∈ r,M y) {x:Nat} (hx:¬ M x) (hxn:Rn E x n):Rn E n x∨x=n:=by
 have low:∀ a b,Rn E a b→a < N∧b < N:=fun a b hab=>by
  induction hab with
  | one h=>exact hE _ _ h
  | more _ h ih=>exact ⟨ih.1,(hE _ _ h).2⟩
 have inl:∀ v,v < N→v ∈ left:=fun v hv=>by
  rcases (h.iff v).1 (hall v hv) with a | a
  ·exact a
  ·cases a
 have hxl:=inl x (low _ _ hxn).1
 rw [e] at hxl
 rcases List.mem_append.1 hxl with a | a
 ·obtain ⟨w,w1,w2,w3⟩:=h.ord l n r e x a hxn
  have hwl:=inl w (low _ _ w1).2
  rw [e] at hwl
  rcases List.mem_append.1 hwl with b | b
  ·exact absurd b w3
  ·rcases List.mem_cons.1 b with rfl | b
   ·exact .inl w2
   ·exact absurd (hM x w (hr w b) w1) hx
 ·rcases List.mem_cons.1 a with rfl | a
  ·exact .inr rfl
  ·exact absurd (hr x a) hx
end
end Go.Ab
end
section
set_option maxRecDepth 10000
namespace Go.Ab
def xV {α:Type} (g:Nat→α) (k:Nat) (v:α):Nat→α:=fun i=>if i=k then v else g i
theorem eV {α:Type} {g:Nat→α} {k:Nat} {v:α}:xV g k v k=v:=if_pos rfl
theorem fy {α:Type} {g:Nat→α} {k i:Nat} {v:α} (h:i≠k):xV g k v i=g i:=if_neg h
def bR {α:Type} (n:Nat) (g:Nat→α):List α:=(List.range n).map g
theorem bc {α:Type} (n:Nat) (g:Nat→α):(bR n g).length=n:=by simp [bR]
theorem aP {α:Type} {n:Nat} {g:Nat→α} {k:Nat} (h:k < n):(bR n g)[k]? = some (g k):=by simp [bR,h]
theorem jt {α:Type} {n:Nat} {g:Nat→α} {k:Nat} {v:α}:(bR n g).set k v=bR n (xV g k v):=by
 apply List.ext_getElem?
 intro i
 by_cases hi:i < n
 ·by_cases e:k=i
  ·subst e
   rw [List.getElem?_set_self (by rw [bc]; exact hi),aP hi,eV]
  ·rw [List.getElem?_set_ne e,aP hi,aP hi,fy (Ne.symm e)]
 ·rw [GG (by simp [bR]; omega),GG (by simp [bR]; omega)]
theorem sS {α:Type} (n:Nat) (a:α):List.replicate n a=bR n fun _=>a:=by
 apply List.ext_getElem?
 intro i
 by_cases hi:i < n
 ·rw [aP hi,List.getElem?_replicate,if_pos hi]
 ·rw [GG (by simp; omega),GG (by simp [bR]; omega)]
theorem aH {α:Type} {n:Nat} {g h:Nat→α} (e:∀ i,i < n→g i=h i):bR n g=bR n h:=by
 apply List.ext_getElem?
 intro i
 by_cases hi:i < n
 ·rw [aP hi,aP hi,e i hi]
 ·rw [GG (by rw [bc]; omega),GG (by rw [bc]; omega)]
end Go.Ab
end
section
set_option maxRecDepth 10000
namespace Go.Ab
def RII (q:Option Bool) (e:List TV) (l:List Int):Prop:=∃ v,e=[v]∧RInts q v l
theorem RI1.xq {e:List TV} {n:Int} (h:RI1 e n):RI1 (uF e) n:=by obtain ⟨rfl,h⟩:=h; exact ⟨rfl,h⟩
theorem RII.own {e:List TV} {l:List Int} (h:RII (some true) e l):gp e=true:=by
 obtain ⟨v,rfl,h⟩:=h
 have:=h.own fun _ _ h=>h.own
 simp [gp,this]
theorem RII.frz {q:Option Bool} {e:List TV} {l:List Int} (h:RII q e l):RII (some false) (uF e) l:=by
 obtain ⟨v,rfl,h⟩:=h
 exact ⟨Ab.frz v,rfl,h.frz fun _ _ h=>h.xq⟩
theorem F2.rep {α:Type} {R:List TV→α→Prop} {e:List TV} {a:α} (h:R e a):∀ n:Nat,F2 R (List.replicate n e) (List.replicate n a)
 | 0=>.nil
 | n + 1=>.cons h (F2.rep h n)
theorem RL.rep {α:Type} {s:Nat} {R:List TV→α→Prop} {e:List TV} {a:α} (h:R e a) {n:Nat} (hn:n≤9223372036854775807):RL (some true) s R (.sl true s (List.replicate n e)) (bR n fun _=>a):=by
 rw [← sS]
 exact .sl (by simp) (F2.rep h n) (by simpa using hn)
theorem RL.gc {α:Type} {q:Option Bool} {s:Nat} {R:List TV→α→Prop} {y:TV} {l:List α} (hy:RL q s R y l) {i j:Nat} {e:List TV} {z:TV} (he:Go.Ab.pel y i=some e) (hj:e[j]? = some z):bD [(i,j)] y=some z:=by
 rcases hy with ⟨rfl,rfl⟩ | ⟨o,xs,rfl,hq,h,hb⟩
 ·simp [Go.Ab.pel] at he
 ·have he:xs[i]? = some e:=he
  simp only [bD,he,hj]
theorem og {α:Type}:∀ {l:List α} {n:Nat} {a b:α},l[n]? = some a→(ao l n b)[n]? = some b
 | [],n,a,b,h=>by simp at h
 | c :: l,0,a,b,h=>rfl
 | c :: l,n + 1,a,b,h=>by simp only [List.getElem?_cons_succ] at h; simp only [ao,List.getElem?_cons_succ]; exact og h
theorem qE {α:Type}:∀ {l:List α} {n:Nat} {a b:α},ao (ao l n a) n b=ao l n b
 | [],n,a,b=>rfl
 | c :: l,0,a,b=>rfl
 | c :: l,n + 1,a,b=>by simp only [ao,qE]
theorem RL.Gs {y v:TV} {ll:List (List Int)} (hy:RL (some true) 1 (RII (some true)) y ll) {n:Nat} (he:Go.Ab.pel y n=some [v]):∃ y1,je [(n,0)] y .hole=some y1∧Go.Ab.slLen y1=some ll.length∧Go.Ab.slSize y1 1=true∧Go.Ab.pel y1 n=some [.hole] ∧
  ∀ {v':TV} {l':List Int},RInts (some true) v' l'→∃ y2,dN [] y1 n 0 [v']=some y2∧RL (some true) 1 (RII (some true)) y2 (ll.set n l'):=by
 rcases hy with ⟨rfl,rfl⟩ | ⟨o,xs,rfl,hq,hf,hb⟩
 ·simp [Go.Ab.pel] at he
 ·have:o=true:=hq true rfl
  subst this
  have hk:xs[n]? = some [v]:=he
  have hset:ao [v] 0 TV.hole=[TV.hole]:=rfl
  refine ⟨.sl true 1 (ao xs n [.hole]),?_,?_,rfl,og hk,fun {v' l'} hv=>?_⟩
  ·simp only [je,hk,List.getElem?_cons_zero,hset]
  ·simp only [Go.Ab.slLen,kL,hf.length]
  ·refine ⟨.sl true 1 (ao xs n [v']),?_,.sl (by simp) (hf.set ⟨v',rfl,hv⟩) (by rw [kL]; exact hb)⟩
   simp only [dN,bD,xP,og hk,je]
   rw [qE]
   rfl
open Classical in
noncomputable def clT (m:DMod) (k n:Nat):List Int:=((List.range n).filter fun a=>decide (ofP m a k)).map fun a:Nat=>(a:Int)
open Classical in
theorem DC (m:DMod) (k n:Nat):clT m k (n + 1)=clT m k n ++ (if ofP m n k then [(n:Int)] else []):=by
 unfold clT
 rw [List.range_succ,List.filter_append,List.map_append]
 by_cases h:ofP m n k <;> simp [h]
theorem AW (m:DMod) (k n:Nat):(clT m k n).length≤n:=by
 unfold clT
 rw [List.length_map]
 exact Nat.le_trans (List.length_filter_le _ _) (by simp)
theorem A7 {m:DMod} {k n:Nat} {a:Int}:a ∈ clT m k n ↔ ∃ i:Nat,a=(i:Int)∧i < n∧ofP m i k:=by
 unfold clT
 simp only [List.mem_map,List.mem_filter,List.mem_range,decide_eq_true_eq]
 constructor
 ·rintro ⟨i,⟨h1,h2⟩,rfl⟩; exact ⟨i,rfl,h1,h2⟩
 ·rintro ⟨i,rfl,h1,h2⟩; exact ⟨i,⟨h1,h2⟩,rfl⟩
theorem tD (m:DMod) (n:Int):(ofL m n).Pairwise (· < ·):=by
 unfold ofL
 split
 ·exact sI _ _
 ·exact List.Pairwise.nil
noncomputable def clU (m:DMod) (n j k:Nat):List Int:=clT m k n ++ (if (k:Int) ∈ (ofL m (n:Int)).take j then [(n:Int)] else [])
theorem Ed (m:DMod) (n k:Nat):clU m n 0 k=clT m k n:=by simp [clU]
theorem Fo (m:DMod) (n k:Nat):clU m n (ofL m (n:Int)).length k=clT m k (n + 1):=by
 unfold clU
 rw [List.take_length,DC]
 congr 1
 have:(k:Int) ∈ ofL m (n:Int) ↔ ofP m n k:=by
  rw [fq]
  exact ⟨fun ⟨k',e,h⟩=>by rw [Int.ofNat_inj.1 e]; exact h,fun h=>⟨k,rfl,h⟩⟩
 by_cases h:ofP m n k
 ·rw [if_pos (this.2 h),if_pos h]
 ·rw [if_neg (fun h'=>h (this.1 h')),if_neg h]
theorem E1 (m:DMod) (n j k:Nat):(clU m n j k).length≤n + 1:=by
 have:=AW m k n
 unfold clU
 rw [List.length_append]
 split <;> simp <;> omega
theorem Dj {m:DMod} {n j c:Nat} (h:(ofL m (n:Int))[j]? = some (c:Int)) (k:Nat):xV (clU m n j) c (clU m n j c ++ [(n:Int)]) k=clU m n (j + 1) k:=by
 have hs:=List.pairwise_iff_getElem.1 (tD m (n:Int))
 obtain ⟨hj,hjc⟩:=Gu.1 h
 have hno:(c:Int) ∉ (ofL m (n:Int)).take j:=fun hm=>by
  obtain ⟨i,hi,e⟩:=List.mem_iff_getElem.1 hm
  rw [List.length_take] at hi
  rw [List.getElem_take] at e
  have:=hs i j (by omega) hj (by omega)
  omega
 have e:(ofL m (n:Int)).take (j + 1)=(ofL m (n:Int)).take j ++ [(c:Int)]:=by rw [List.take_add_one,h]; rfl
 by_cases hk:k=c
 ·subst hk
  rw [eV]
  unfold clU
  rw [if_neg hno,e,if_pos (List.mem_append.2 (.inr (List.mem_singleton.2 rfl))),List.append_nil]
 ·rw [fy hk]
  unfold clU
  rw [e]
  have:(k:Int) ∈ (ofL m (n:Int)).take j ++ [(c:Int)] ↔ (k:Int) ∈ (ofL m (n:Int)).take j:=by
   rw [List.mem_append,List.mem_singleton]
   exact ⟨fun h=>h.elim id fun h=>absurd (Int.ofNat_inj.1 h) hk,.inl⟩
  by_cases hh:(k:Int) ∈ (ofL m (n:Int)).take j
  ·rw [if_pos hh,if_pos (this.2 hh)]
  ·rw [if_neg hh,if_neg fun h'=>hh (this.1 h')]
end Go.Ab
namespace Go.Ab.C11
open Go Go.Ab Go.Proofs
theorem wF {e:List TV} {v:TV} (h:e=[v]) (hv:v.isSl=true∨v.E0=true):ei zSl e 0=true:=by
 subst h
 rcases hv with h | h <;> simp [ei,zSl,aY,aK,h]
section
variable {q:Option Bool} {b:TV} {m:DMod} (hb:RL q 3 (RFunc q) b m.funcs) (hs:kS m)
include hb hs
theorem webIn {n:Nat} (hn:n < m.funcs.length) {w7:TV} (h7:RL (some true) 1 (RII (some true)) w7 (bR m.funcs.length fun i=>if i < n + 1 then ofL m (i:Int) else []))
  {Z:TV→Prop} (hk:∀ w8,RL (some true) 1 (RII (some true)) w8 (bR m.funcs.length fun k=>clT m k (n + 1))→∃ y,aa prog 26 (f26_0 (I m.funcs.length) (I (n + 1:Nat)) b w7 w8) y∧Z y) :
  ∀ (d j:Nat) (w8:TV),j + d=(ofL m (n:Int)).length→RL (some true) 1 (RII (some true)) w8 (bR m.funcs.length (clU m n j)) →
  ∃ y,aa prog 26 (f26_1 (I n) (I m.funcs.length) (I n) n (I (ofL m (n:Int)).length) (I j) b w7 w8) y∧Z y:=by
 have hN:=hs.1
 have hol:=pr m (n:Int)
 intro d
 induction d with
 | zero =>
  intro j w8 hj h8
  have hj:j=(ofL m (n:Int)).length:=by omega
  subst hj
  obtain ⟨y,hy,hz⟩:=hk w8 (by rw [aH fun k _=>(Fo m n k).symm]; exact h8)
  refine ⟨y,?_,hz⟩
  unfold f26_1
  exact aa.tv rfl (aa.ite aJ nofun fun _=>aa.tv (inc hn (by omega)) (f26_0_J hy))
 | succ d ih =>
  intro j w8 hj h8
  have hjl:j < (ofL m (n:Int)).length:=by omega
  obtain ⟨x,hx⟩:∃ x,(ofL m (n:Int))[j]? = some x:=⟨_,Gv hjl⟩
  obtain ⟨c,rfl,hc⟩:=fq.1 (GD hx)
  have hcN:=hc.1
  have e7:(bR m.funcs.length fun i=>if i < n + 1 then ofL m (i:Int) else [])[n]? = some (ofL m (n:Int)):=by rw [aP hn,if_pos (by omega)]
  obtain ⟨r7,he7,v7,rfl,hv7⟩:=h7.pel e7
  obtain ⟨ec,hec,rfl,_⟩:=hv7.pel hx
  obtain ⟨r8,he8,v8,rfl,hv8⟩:=h8.pel (aP hcN)
  obtain ⟨y1,t1,t2,t3,t4,t5⟩:=h8.Gs he8
  rw [bc] at t2
  have hcl:=E1 m n j c
  obtain ⟨v9,hp9,hr9⟩:=hv8.app (e:=[I (n:Int)]) (a:=(n:Int)) ⟨rfl,by unfold inI; omega⟩ (by omega)
  obtain ⟨y2,t6,t7⟩:=t5 hr9
  rw [jt,aH fun k _=>Dj hx k] at t7
  obtain ⟨y,hy,hz⟩:=ih (j + 1) y2 (by omega) t7
  refine ⟨y,?_,hz⟩
  have anj:ae (I (j:Int))=some j:=aj (by omega)
  have anc:ae (I (c:Int))=some c:=aj (by omega)
  have l8:=h8.slLen
  rw [bc] at l8
  unfold f26_1
  refine aa.tv rfl (aa.ite (aF hjl) (fun _=>?_) nofun)
  refine aa.tv (h7.gc he7 rfl) (aa.nat hv7.slLen (aa.nat anj (aa.chk (by rw [hv7.slSize]; simpa using hjl) (aa.tv (h7.gc he7 rfl) (aa.tvs hec (aa.chk rfl ?_))))))
  refine aa.nat l8 (aa.nat anc (aa.chk (by rw [h8.slSize]; simpa using hcN) (aa.tvs he8 (aa.chk (aG hv8.isSl) (aa.chk rfl (aa.rws rfl (aa.tv (h8.gc he8 rfl) (aa.tv hp9 (aa.tv t1 ?_)))))))))
  exact aa.nat t2 (aa.nat anc (aa.chk (by rw [t3]; simpa using hcN) (aa.tvs t4 (aa.chk (by rw [wF rfl (.inr rfl),aG hr9.isSl]; rfl) (aa.tv t6 (aa.tv (inc hjl (by omega)) (f26_1_J hy)))))))
theorem webOut:∀ (d n:Nat) (w7 w8:TV),n + d=m.funcs.length→RL (some true) 1 (RII (some true)) w7 (bR m.funcs.length fun i=>if i < n then ofL m (i:Int) else [])→RL (some true) 1 (RII (some true)) w8 (bR m.funcs.length fun k=>clT m k n) →
  ∃ v0 v1,aa prog 26 (f26_0 (I m.funcs.length) (I n) b w7 w8) (.agg [v0,v1])∧RL (some true) 1 (RII (some true)) v0 (bR m.funcs.length fun i=>ofL m (i:Int))∧RL (some true) 1 (RII (some true)) v1 (bR m.funcs.length fun k=>clT m k m.funcs.length):=by
 have hN:=hs.1
 intro d
 induction d with
 | zero =>
  intro n w7 w8 hn h7 h8
  have hn:n=m.funcs.length:=by omega
  subst hn
  refine ⟨w7,w8,?_,by rw [aH (h:=fun i=>if i < m.funcs.length then ofL m (i:Int) else []) fun i hi=>by rw [if_pos hi]]; exact h7,h8⟩
  unfold f26_0
  refine aa.tv rfl (aa.ite aJ nofun fun _=>aa.chk ?_ aa.ret)
  have a7:=h7.own fun _ _ h=>h.own
  have a8:=h8.own fun _ _ h=>h.own
  simp [bY,gp,a7,a8]
 | succ d ih =>
  intro n w7 w8 hn h7 h8
  have hnl:n < m.funcs.length:=by omega
  obtain ⟨v,hv,hrv⟩:=AD hb hs (n:Int)
  obtain ⟨r7,he7,v7,rfl,hv7⟩:=h7.pel (aP hnl)
  obtain ⟨w7',hs7,hr7⟩:=h7.iO he7 (d:=0) (ys:=[v]) (a:=ofL m (n:Int)) ⟨v,rfl,hrv⟩
  rw [jt,aH (h:=fun i=>if i < n + 1 then ofL m (i:Int) else []) fun i _=>by
   by_cases e:i=n
   ·subst e; rw [eV,if_pos (by omega)]
   ·rw [fy e]
    by_cases h:i < n
    ·rw [if_pos h,if_pos (by omega)]
    ·rw [if_neg h,if_neg (by omega)]] at hr7
  have ann:ae (I (n:Int))=some n:=aj (by omega)
  have e7:(bR m.funcs.length fun i=>if i < n + 1 then ofL m (i:Int) else [])[n]? = some (ofL m (n:Int)):=by rw [aP hnl,if_pos (by omega)]
  obtain ⟨r9,he9,v9,rfl,hv9⟩:=hr7.pel e7
  have l7:=h7.slLen
  have l7':=hr7.slLen
  rw [bc] at l7 l7'
  obtain ⟨y,hy,v0,v1,rfl,z1,z2⟩:=webIn hb hs hnl hr7 (Z:=fun y=>∃ v0 v1,y=.agg [v0,v1]∧RL (some true) 1 (RII (some true)) v0 (bR m.funcs.length fun i=>ofL m (i:Int))∧RL (some true) 1 (RII (some true)) v1 (bR m.funcs.length fun k=>clT m k m.funcs.length)) (fun w8 h8=>by
   obtain ⟨v0,v1,g1,g2,g3⟩:=ih (n + 1) w7' w8 (by omega) hr7 h8
   exact ⟨_,g1,v0,v1,rfl,g2,g3⟩) (ofL m (n:Int)).length 0 w8 (by omega) (by rw [aH fun k _=>Ed m n k]; exact h8)
  refine ⟨v0,v1,?_,z1,z2⟩
  unfold f26_0
  refine aa.tv rfl (aa.ite (aF hnl) (fun _=>?_) nofun)
  refine aa.call hv (aa.chk (aG hrv.isSl) (aa.nat l7 (aa.nat ann (aa.chk (by rw [h7.slSize]; simpa using hnl) (aa.tvs he7 (aa.chk (by rw [wF rfl (.inl hv7.isSl),aG hrv.isSl]; rfl) (aa.tv hs7 ?_)))))))
  exact aa.nat l7' (aa.nat ann (aa.chk (by rw [hr7.slSize]; simpa using hnl) (aa.tvs he9 (aa.chk (aG hv9.isSl) (aa.tv (hr7.gc he9 rfl) (aa.tv hv9.len (f26_1_J hy)))))))
theorem rWebOf:∃ v0 v1,bu prog 26 [.agg [b]] (.agg [v0,v1])∧RL (some true) 1 (RII (some true)) v0 (bR m.funcs.length fun i=>ofL m (i:Int))∧RL (some true) 1 (RII (some true)) v1 (bR m.funcs.length fun k=>clT m k m.funcs.length):=by
 have hN:=hs.1
 have hnil:RII (some true) [.lit aK] []:=⟨_,rfl,RL.nil⟩
 have h0:=RL.rep (s:=1) hnil (n:=m.funcs.length) (by omega)
 obtain ⟨v0,v1,g1,g2,g3⟩:=webOut hb hs m.funcs.length 0 _ _ (by omega) (by rw [aH (h:=fun _=>[]) fun i _=>if_neg (Nat.not_lt_zero _)]; exact h0) (by rw [aH (h:=fun _=>[]) fun k _=>by simp [clT]]; exact h0)
 refine ⟨v0,v1,?_,g2,g3⟩
 have han:ae (I (m.funcs.length:Int))=some m.funcs.length:=aj (by omega)
 refine bu.of (f26_MR _) ?_
 unfold f26_M
 exact aa.chk rfl (aa.tv hb.len (aa.nat han (aa.nat han (aa.chk (by simp; omega) (aa.tv hb.len (aa.nat han (aa.nat han (aa.chk (by simp; omega) (aa.tv hb.len (f26_0_J g1))))))))))
end
end Go.Ab.C11
end

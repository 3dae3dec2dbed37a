import Derived.Test.YthgejdenjmjkoaaCV8F73
import Derived.Test.YthgejdenjmjkoaaCV8T
section
set_option linter.unusedVariables false
set_option maxRecDepth 10000
namespace Go.Ab
inductive Rc (bs:List DBlock) (no:Int):Nat→Prop
 | start (h:no≠0) (h0:0 < bs.length):Rc bs no 0
 | next {i:Nat} {g:Int} (hi:Rc bs no i) (hg:g ∈ nextAt bs i) (hn:g≠no):Rc bs no g.toNat
def FullR (bs:List DBlock) (no:Int) (M:List Bool):Prop:=M.length=bs.length∧∀ i:Nat,M[i]? = some true ↔ Rc bs no i
theorem Rc.lt {bs:List DBlock} {no:Int} {i:Nat} (h:Rc bs no i):i < bs.length:=by
 cases h with
 | start _ h0=>exact h0
 | next _ hg _=>exact (nextAt_there hg).2
def Ckd (bs:List DBlock) (no:Int) (M:List Bool) (k:Nat):Prop:=∀ i:Nat,i < k→M[i]? = some true→∀ g ∈ nextAt bs i,g≠no→M[g.toNat]? = some true
def SndR (bs:List DBlock) (no:Int) (M:List Bool):Prop:=∀ i:Nat,M[i]? = some true→Rc bs no i
theorem fullR_of {bs:List DBlock} {no:Int} {M:List Bool} (hl:M.length=bs.length) (h1:SndR bs no M) (h2:no≠0→0 < bs.length→M[0]? = some true) (h3:Ckd bs no M bs.length):FullR bs no M:=by
 refine ⟨hl,fun i=>⟨h1 i,fun h=>?_⟩⟩
 induction h with
 | start h h0=>exact h2 h h0
 | next hi hg hn ih=>exact h3 _ hi.lt ih _ hg hn
theorem set_true {M:List Bool} {g i:Nat} (h:M[i]? = some true):(M.set g true)[i]? = some true:=by
 rw [List.getElem?_set]
 split
 ·rename_i e
  subst e
  have:=(List.getElem?_eq_some_iff.1 h).1
  simp [this]
 ·exact h
theorem rep_bools {n:Nat} (h:n≤9223372036854775807):RBools (some true) (.sl true 1 (List.replicate n [B false])) (List.replicate n false):=.sl (by simp) (F2.of_get (by simp) fun i e a he ha=>by
 rw [List.getElem?_replicate] at he ha
 split at he
 ·rename_i h; rw [if_pos h] at ha; cases he; cases ha; rfl
 ·cases he) (by simpa using h)
end Go.Ab
namespace Go.Ab.V8
open Go Go.Ab Go.Proofs
section
variable {q:Option Bool} {b:TV} {f:DFunc} (hf:RFunc q [I f.params,I f.regs,b] f) (hs:f.blocks.length≤1000) {no:Int}
include hs
theorem withL {P:TV→Prop} {c0:Nat} {k:Nat} (hk:k < f.blocks.length) {w8:TV} (h8:RInts (some true) w8 (nextAt f.blocks k))
  (K:∀ (u:Bool) (M:List Bool) (w:TV),RBools (some true) w M→M.length=f.blocks.length→SndR f.blocks no M→M[0]? = some true→(u=false→Ckd f.blocks no M (k + 1))→(u=true→c0 < M.count true)→c0≤M.count true→∃ y,Goes prog 23 (f23_1 (I no) (B u) (I (k + 1:Nat)) (I f.params) (I f.regs) b w) y∧P y) :
  ∀ (d j:Nat) (u:Bool) (M:List Bool) (w:TV),j + d=(nextAt f.blocks k).length→RBools (some true) w M→M.length=f.blocks.length→SndR f.blocks no M→M[0]? = some true →
   (u=false→Ckd f.blocks no M k∧(M[k]? = some true→∀ (j':Nat) (g:Int),j' < j→(nextAt f.blocks k)[j']? = some g→g≠no→M[g.toNat]? = some true))→(u=true→c0 < M.count true)→c0≤M.count true →
   ∃ y,Goes prog 23 (f23_2 (I no) (B u) (I k) (I j) (I f.params) (I f.regs) b w w8) y∧P y:=by
 intro d
 have hk64:k < 9223372036854775807:=by omega
 have hn3:=nextAt_len f.blocks k
 induction d with
 | zero =>
  intro j u M w hj hw hl hsn hst hc h1 h2
  have hj:j=(nextAt f.blocks k).length:=by omega
  subst hj
  obtain ⟨y,hy,hP⟩:=K u M w hw hl hsn hst (fun hu i hi hMi g hg hgn=>by
   rcases Nat.lt_or_ge i k with h | h
   ·exact (hc hu).1 i h hMi g hg hgn
   ·have:i=k:=by omega
    subst this
    obtain ⟨j',hj',rfl⟩:=List.mem_iff_getElem.1 hg
    exact (hc hu).2 hMi j' _ hj' (List.getElem?_eq_getElem hj') hgn) h1 h2
  refine ⟨y,?_,hP⟩
  unfold f23_2
  exact Goes.tv h8.len (Goes.tv rfl (Goes.ite asB_end (fun h=>nomatch h) fun _=>Goes.tv (inc hk (by omega)) (f23_1_J hy)))
 | succ d ih =>
  intro j u M w hj hw hl hsn hst hc h1 h2
  have hjl:j < (nextAt f.blocks k).length:=by omega
  obtain ⟨g,hgg⟩:∃ g,g=(nextAt f.blocks k)[j]:=⟨_,rfl⟩
  have hgk:(nextAt f.blocks k)[j]? = some g:=by rw [hgg]; exact List.getElem?_eq_getElem hjl
  have hgm:=List.mem_of_getElem? hgk
  have hgt:=nextAt_there hgm
  obtain ⟨eg,heg,rfl,hgi⟩:=h8.pel hgk
  have hkM:M[k]? = some M[k]:=List.getElem?_eq_getElem (by omega)
  obtain ⟨ek,hek,hRk⟩:=hw.pel hkM
  cases hRk
  have hMl:g.toNat < M.length:=by omega
  have hMg:M[g.toNat]? = some M[g.toNat]:=List.getElem?_eq_getElem hMl
  obtain ⟨em,hem,hRm⟩:=hw.pel hMg
  cases hRm
  have ank:asNat (I (k:Nat))=some k:=asNat_nat (by omega)
  have anj:asNat (I (j:Nat))=some j:=asNat_nat (by omega)
  have hgn:asNat (I g)=some g.toNat:=asNat_pos hgt.1 hgi
  have ck1:(Bool.and (slSize w 1) (Nat.blt k M.length))=true:=by rw [hw.slSize]; simp; omega
  have ck2:(Bool.and (slSize w8 1) (Nat.blt j (nextAt f.blocks k).length))=true:=by rw [h8.slSize]; simpa using hjl
  have ck3:(Bool.and (slSize w 1) (Nat.blt g.toNat M.length))=true:=by rw [hw.slSize]; simpa using hMl
  have rest:(u=false→M[k]? = some true→g≠no→M[g.toNat]? = some true)→∃ y,Goes prog 23 (f23_2 (I no) (B u) (I k) (I (j + 1:Nat)) (I f.params) (I f.regs) b w w8) y∧P y:=fun hh=>by
   refine ih (j + 1) u M w (by omega) hw hl hsn hst (fun hu=>⟨(hc hu).1,fun hMk j' g' hj' hg' hn'=>?_⟩) h1 h2
   rcases Nat.lt_or_ge j' j with h | h
   ·exact (hc hu).2 hMk j' g' h hg' hn'
   ·have:j'=j:=by omega
    subst this
    rw [hgk] at hg'
    cases hg'
    exact hh hu hMk hn'
  cases hmk:M[k] with
  | false =>
   rw [hmk] at hek hkM
   obtain ⟨y,hy,hP⟩:=rest (fun _ h=>by rw [hkM] at h; cases h)
   refine ⟨y,?_,hP⟩
   unfold f23_2
   exact Goes.tv h8.len (Goes.tv rfl (Goes.ite (asB_lt hjl) (fun _=>Goes.nat hw.slLen (Goes.nat ank (Goes.chk ck1 (Goes.tvs hek (Goes.chk rfl (Goes.ite (v:=false) rfl (fun h=>nomatch h) fun _=>Goes.tv (inc hjl (by omega)) (f23_2_J hy))))))) fun h=>nomatch h))
  | true =>
   rw [hmk] at hek hkM
   by_cases hno:g=no
   ·obtain ⟨y,hy,hP⟩:=rest (fun _ _ h=>absurd hno h)
    refine ⟨y,?_,hP⟩
    unfold f23_2
    refine Goes.tv h8.len (Goes.tv rfl (Goes.ite (asB_lt hjl) (fun _=>Goes.nat hw.slLen (Goes.nat ank (Goes.chk ck1 (Goes.tvs hek (Goes.chk rfl (Goes.ite (v:=true) rfl (fun _=>?_) fun h=>nomatch h)))))) fun h=>nomatch h))
    exact Goes.nat h8.slLen (Goes.nat anj (Goes.chk ck2 (Goes.tvs heg (Goes.chk rfl (Goes.tv rfl (Goes.ite (v:=false) (by simp [asBool,hno]) (fun h=>nomatch h) fun _=>Goes.tv (inc hjl (by omega)) (f23_2_J hy)))))))
   ·have front:∀ {r:TV},(M[g.toNat]=false→Goes prog 23 (Prg.nat (slLen w8) fun n29=>Prg.nat (asNat (I (j:Nat))) fun n30=>Prg.chk (Bool.and (slSize w8 1) (Nat.blt n30 n29)) (Prg.tvs (pel w8 n30) fun e31=>Prg.chk (fitsAt zInt e31 0) (Prg.nat (slLen w) fun n32=>Prg.nat (asNat (nth TV.hole e31 0)) fun n33 =>
       Prg.chk (Bool.and (slSize w 1) (Nat.blt n33 n32)) (Prg.tvs (pel w n33) fun e34=>Prg.chk (fitsAt zBool e34 0) (Prg.tv (setC [] w n33 0 [TV.lit (Value.bool true)]) fun v35=>Prg.tv (pbin (Kd.int IntKind.i64) BinOp.add (I (j:Nat)) (TV.lit (Value.int IntKind.i64 (1:Int)))) fun v36 =>
       Prg.jmp [0,0,1,1,0,0,1,0,0,1,1,0,1,0,0,1,0,1,1,1,1] (f23_2_S (I no) (TV.lit (Value.bool true)) (I k) v36 (I f.params) (I f.regs) b v35 w8)))))) r) →
      (M[g.toNat]=true→Goes prog 23 (Prg.tv (pbin (Kd.int IntKind.i64) BinOp.add (I (j:Nat)) (TV.lit (Value.int IntKind.i64 (1:Int)))) fun v37=>Prg.jmp [0,0,1,1,0,0,1,0,0,1,1,0,1,0,0,1,0,1,1,1,1] (f23_2_S (I no) (B u) (I k) v37 (I f.params) (I f.regs) b w w8)) r) →
      Goes prog 23 (f23_2 (I no) (B u) (I k) (I j) (I f.params) (I f.regs) b w w8) r:=fun {r} m0 m9=>by
     unfold f23_2
     refine Goes.tv h8.len (Goes.tv rfl (Goes.ite (asB_lt hjl) (fun _=>Goes.nat hw.slLen (Goes.nat ank (Goes.chk ck1 (Goes.tvs hek (Goes.chk rfl (Goes.ite (v:=true) rfl (fun _=>?_) fun h=>nomatch h)))))) fun h=>nomatch h))
     refine Goes.nat h8.slLen (Goes.nat anj (Goes.chk ck2 (Goes.tvs heg (Goes.chk rfl (Goes.tv rfl (Goes.ite (v:=true) (by simp [asBool,hno]) (fun _=>?_) fun h=>nomatch h))))))
     refine Goes.nat h8.slLen (Goes.nat anj (Goes.chk ck2 (Goes.tvs heg (Goes.chk rfl (Goes.nat hw.slLen (Goes.nat hgn (Goes.chk ck3 (Goes.tvs hem (Goes.chk rfl (Goes.tv rfl (Goes.ite rfl (fun h=>m0 ?_) fun h=>m9 ?_)))))))))))
     ·simpa using h
     ·simpa using h
    cases hmg:M[g.toNat] with
    | true =>
     rw [hmg] at hMg
     obtain ⟨y,hy,hP⟩:=rest (fun _ _ _=>hMg)
     exact ⟨y,front (fun h=>by rw [hmg] at h; cases h) (fun _=>Goes.tv (inc hjl (by omega)) (f23_2_J hy)),hP⟩
    | false =>
     rw [hmg] at hMg
     obtain ⟨w',c1,c2⟩:=hw.setAt hem (d:=0) (ys:=[B true]) (a:=true) rfl
     have hcnt:=set_count hMg
     obtain ⟨y,hy,hP⟩:=ih (j + 1) true (M.set g.toNat true) w' (by omega) c2 (by rw [List.length_set]; exact hl) (fun i hi=>by
      rcases (set_get hMl).1 hi with rfl | h
      ·exact .next (hsn k hkM) hgm hno
      ·exact hsn i h) (set_true hst) (fun h=>by cases h) (fun _=>by omega) (by omega)
     refine ⟨y,front (fun _=>?_) (fun h=>by rw [hmg] at h; cases h),hP⟩
     exact Goes.nat h8.slLen (Goes.nat anj (Goes.chk ck2 (Goes.tvs heg (Goes.chk rfl (Goes.nat hw.slLen (Goes.nat hgn (Goes.chk ck3 (Goes.tvs hem (Goes.chk rfl (Goes.tv c1 (Goes.tv (inc hjl (by omega)) (f23_2_J hy))))))))))))
include hf
theorem withR {P:TV→Prop} {c0:Nat}
  (K:∀ (u:Bool) (M:List Bool) (w:TV),RBools (some true) w M→M.length=f.blocks.length→SndR f.blocks no M→M[0]? = some true→(u=false→Ckd f.blocks no M f.blocks.length)→(u=true→c0 < M.count true)→c0≤M.count true→∃ y,Goes prog 23 (f23_0 (I no) (B u) (I f.params) (I f.regs) b w) y∧P y) :
  ∀ (d k:Nat) (u:Bool) (M:List Bool) (w:TV),k + d=f.blocks.length→RBools (some true) w M→M.length=f.blocks.length→SndR f.blocks no M→M[0]? = some true→(u=false→Ckd f.blocks no M k)→(u=true→c0 < M.count true)→c0≤M.count true →
   ∃ y,Goes prog 23 (f23_1 (I no) (B u) (I k) (I f.params) (I f.regs) b w) y∧P y:=by
 intro d
 induction d with
 | zero =>
  intro k u M w hk hw hl hsn hst hc h1 h2
  have hk:k=f.blocks.length:=by omega
  subst hk
  obtain ⟨y,hy,hP⟩:=K u M w hw hl hsn hst hc h1 h2
  refine ⟨y,?_,hP⟩
  unfold f23_1
  exact Goes.tv hw.len (Goes.tv rfl (Goes.ite (v:=false) (by rw [hl]; exact asB_end) (fun h=>nomatch h) fun _=>f23_0_J hy))
 | succ d ih =>
  intro k u M w hk hw hl hsn hst hc h1 h2
  have hkl:k < f.blocks.length:=by omega
  obtain ⟨v,hv,hvr⟩:=r72 hf (k:Int)
  rw [nextL_nat] at hvr
  obtain ⟨y,hy,hP⟩:=withL (b:=b) hs hkl hvr (fun u' M' w' a1 a2 a3 a4 a5 a6 a7=>ih (k + 1) u' M' w' (by omega) a1 a2 a3 a4 a5 a6 a7) (nextAt f.blocks k).length 0 u M w (by omega) hw hl hsn hst (fun hu=>⟨hc hu,fun _ j' g h=>by omega⟩) h1 h2
  refine ⟨y,?_,hP⟩
  unfold f23_1
  exact Goes.tv hw.len (Goes.tv rfl (Goes.ite (v:=true) (by rw [hl]; exact asB_lt hkl) (fun _=>Goes.call hv (Goes.chk (fit_slc hvr.isSl) (f23_2_J hy))) fun h=>nomatch h))
theorem withAll:∀ (d:Nat) (M:List Bool) (w:TV),f.blocks.length < M.count true + d→RBools (some true) w M→M.length=f.blocks.length→SndR f.blocks no M→M[0]? = some true →
  ∃ y,Goes prog 23 (f23_0 (I no) (B true) (I f.params) (I f.regs) b w) y∧∃ M,RBools (some true) y M∧FullR f.blocks no M:=by
 intro d
 induction d with
 | zero =>
  intro M w hd hw hl
  have:=count_le M
  omega
 | succ d ih =>
  intro M w hd hw hl hsn hst
  obtain ⟨y,hy,hP⟩:=withR hf hs (no:=no) (c0:=M.count true) (P:=fun y=>∃ M,RBools (some true) y M∧FullR f.blocks no M) (fun u M' w' a1 a2 a3 a4 a5 a6 a7=>by
   cases u with
   | true=>exact ih M' w' (by have:=a6 rfl; omega) a1 a2 a3 a4
   | false =>
    refine ⟨w',?_,M',a1,fullR_of a2 a3 (fun _ _=>a4) (a5 rfl)⟩
    unfold f23_0
    exact Goes.ite (v:=false) rfl (fun h=>nomatch h) fun _=>Goes.ret) f.blocks.length 0 false M w (by omega) hw hl hsn hst (fun _ i h=>by omega) (fun h=>by cases h) (Nat.le_refl _)
  refine ⟨y,?_,hP⟩
  unfold f23_0
  exact Goes.ite (v:=true) rfl (fun _=>f23_1_J hy) fun h=>nomatch h
end
theorem r83 {q:Option Bool} {e:List TV} {f:DFunc} (he:RFunc q e f) (hs:f.blocks.length≤1000) (no:Int):∃ y M,Runs prog 23 [.agg e,I no] y∧RBools (some true) y M∧FullR f.blocks no M:=by
 have he0:=he
 obtain ⟨b,rfl,hb,_⟩:=he
 have hn:asNat (I (f.blocks.length:Nat))=some f.blocks.length:=asNat_nat (by omega)
 have hck:(Bool.and (Nat.ble f.blocks.length f.blocks.length) (Nat.ble f.blocks.length 4294967296))=true:=by
  have:Nat.ble f.blocks.length 4294967296=true:=by simp; omega
  simp [this]
 have hrep:=rep_bools (n:=f.blocks.length) (by omega)
 have none_:∀ i:Nat,¬ (List.replicate f.blocks.length false)[i]? = some true:=fun i h=>by
  rw [List.getElem?_replicate] at h
  split at h <;> cases h
 have hlen:=hrep.len (t:=4)
 rw [List.length_replicate] at hlen
 by_cases h0:f.blocks.length=0
 ·refine ⟨_,_,?_,hrep,fullR_of (by simp) (fun i h=>absurd h (none_ i)) (fun _ h=>by omega) (fun i h=>by omega)⟩
  refine Runs.of (f23_MR _ _) ?_
  unfold f23_M
  exact Goes.chk rfl (Goes.tv hb.len (Goes.nat hn (Goes.nat hn (Goes.chk hck (Goes.tv hlen (Goes.tv rfl (Goes.ite (v:=true) (by simp [asBool,h0]) (fun _=>Goes.ret) fun h=>nomatch h)))))))
 have h00:f.blocks≠[]:=fun h=>h0 (by rw [h]; rfl)
 by_cases h1:no=0
 ·refine ⟨_,_,?_,hrep,fullR_of (by simp) (fun i h=>absurd h (none_ i)) (fun h _=>absurd h1 h) (fun i _ h=>absurd h (none_ i))⟩
  refine Runs.of (f23_MR _ _) ?_
  unfold f23_M
  exact Goes.chk rfl (Goes.tv hb.len (Goes.nat hn (Goes.nat hn (Goes.chk hck (Goes.tv hlen (Goes.tv rfl (Goes.ite (v:=false) (by simp [asBool,h00]) (fun h=>nomatch h) fun _=>Goes.tv rfl (Goes.ite (v:=true) (by simp [asBool,h1]) (fun _=>Goes.ret) fun h=>nomatch h))))))))
 have hl:0 < f.blocks.length:=by omega
 have hf0:(List.replicate f.blocks.length false)[0]? = some false:=by rw [List.getElem?_replicate,if_pos hl]
 obtain ⟨e7,he7,hR⟩:=hrep.pel hf0
 cases hR
 obtain ⟨w,c1,c2⟩:=hrep.setAt he7 (d:=0) (ys:=[B true]) (a:=true) rfl
 have hlr:0 < (List.replicate f.blocks.length false).length:=by simpa using hl
 obtain ⟨y,hy,M,hM,hF⟩:=withAll he0 hs (no:=no) (f.blocks.length + 1) _ w (by omega) c2 (by simp) (fun i hi=>by
  rcases (set_get hlr).1 hi with rfl | h
  ·exact .start h1 hl
  ·exact absurd h (none_ i)) ((set_get hlr).2 (.inl rfl))
 refine ⟨y,M,?_,hM,hF⟩
 refine Runs.of (f23_MR _ _) ?_
 unfold f23_M
 refine Goes.chk rfl (Goes.tv hb.len (Goes.nat hn (Goes.nat hn (Goes.chk hck (Goes.tv hlen (Goes.tv rfl (Goes.ite (v:=false) (by simp [asBool,h00]) (fun h=>nomatch h) fun _=>Goes.tv rfl (Goes.ite (v:=false) (by simp [asBool,h1]) (fun h=>nomatch h) fun _=>?_))))))))
 refine Goes.nat hrep.slLen (Goes.nat (v:=0) rfl (Goes.chk ?_ (Goes.tvs he7 (Goes.chk rfl (Goes.tv c1 (f23_0_J hy))))))
 rw [hrep.slSize]; simpa using hl
theorem r84 {q:Option Bool} {e:List TV} {f:DFunc} (he:RFunc q e f) (hs:f.blocks.length≤1000):∃ y M,Runs prog 22 [.agg e] y∧RBools (some true) y M∧FullR f.blocks (-1) M:=by
 obtain ⟨y,M,hy,hM,hF⟩:=r83 he hs (-1)
 obtain ⟨b,rfl,hb,_⟩:=he
 refine ⟨y,M,?_,hM,hF⟩
 refine Runs.of (f22_MR _) ?_
 unfold f22_M
 exact Goes.chk rfl (Goes.call hy (Goes.chk (fit_slc hM.isSl) Goes.ret))
end Go.Ab.V8
end
section
set_option linter.unusedVariables false
set_option maxRecDepth 10000
namespace Go.Ab
def LedO (bs:List DBlock) (S:Nat→Prop) (o:List Int):Prop:=∀ (A:List Int) (x:Int) (B:List Int),o=A ++ x :: B→x=0∨∃ p:Nat,x ∈ nextAt bs p∧((p:Int) ∈ A∨S p)
def Chain (bs:List DBlock):List (Nat × List Int)→Prop
 | []=>True
 | [p]=>p.1=0
 | p :: r :: l=>(p.1:Int) ∈ nextAt bs r.1∧Chain bs (r :: l)
structure DI (bs:List DBlock) (M:List Bool) (st:List (Nat × List Int)) (o:List Int):Prop where
 len:M.length=bs.length
 at_:∀ p ∈ st,p.1 < bs.length∧∀ g ∈ p.2,g ∈ nextAt bs p.1
 mem:∀ i:Nat,M[i]? = some true ↔ (∃ p ∈ st,p.1=i)∨(i:Int) ∈ o
 nod:(o ++ st.map fun p=>(p.1:Int)).Nodup
 out:∀ x ∈ o,0≤x∧∀ g ∈ nextAt bs x.toNat,M[g.toNat]? = some true
 todo:∀ p ∈ st,∀ g ∈ nextAt bs p.1,g ∈ p.2∨M[g.toNat]? = some true
 snd:SndR bs (-1) M
 led:LedO bs (fun p=>∃ r ∈ st,r.1=p) o
 chain:Chain bs st
 last:st=[]→o.head? = some 0
theorem toNat_cast {g:Int} (h:0≤g):((g.toNat:Nat):Int)=g:=by omega
theorem DI.leave {bs:List DBlock} {M:List Bool} {n:Nat} {st:List (Nat × List Int)} {o:List Int} (h:DI bs M ((n,[]) :: st) o):DI bs M st ((n:Int) :: o):=by
 refine ⟨h.len,fun p hp=>h.at_ p (List.mem_cons_of_mem _ hp),fun i=>?_,?_,fun x hx=>?_,fun p hp=>h.todo p (List.mem_cons_of_mem _ hp),h.snd,?_,?_,fun hst=>?_⟩
 ·rw [h.mem i]
  constructor
  ·rintro (⟨p,hp,rfl⟩ | hi)
   ·rcases List.mem_cons.1 hp with rfl | hp
    ·exact .inr List.mem_cons_self
    ·exact .inl ⟨p,hp,rfl⟩
   ·exact .inr (List.mem_cons_of_mem _ hi)
  ·rintro (⟨p,hp,rfl⟩ | hi)
   ·exact .inl ⟨p,List.mem_cons_of_mem _ hp,rfl⟩
   ·rcases List.mem_cons.1 hi with hi | hi
    ·exact .inl ⟨(n,[]),List.mem_cons_self,by omega⟩
    ·exact .inr hi
 ·have:=h.nod
  rw [List.map_cons] at this
  exact List.perm_middle.nodup_iff.1 this
 ·rcases List.mem_cons.1 hx with rfl | hx
  ·refine ⟨by omega,fun g hg=>?_⟩
   rcases h.todo (n,[]) List.mem_cons_self g hg with h1 | h1
   ·cases h1
   ·exact h1
  ·exact h.out x hx
 ·intro A x B e
  cases A with
  | nil =>
   simp only [List.nil_append,List.cons.injEq] at e
   obtain ⟨rfl,_⟩:=e
   cases st with
   | nil=>left; have:=h.chain; simp only [Chain] at this; omega
   | cons r l=>right; exact ⟨r.1,h.chain.1,.inr ⟨r,List.mem_cons_self,rfl⟩⟩
  | cons a A =>
   simp only [List.cons_append,List.cons.injEq] at e
   obtain ⟨rfl,e⟩:=e
   rcases h.led A x B e with h1 | ⟨p,h1,h2⟩
   ·exact .inl h1
   ·refine .inr ⟨p,h1,?_⟩
    rcases h2 with h2 | ⟨r,hr,rfl⟩
    ·exact .inl (List.mem_cons_of_mem _ h2)
    ·rcases List.mem_cons.1 hr with rfl | hr
     ·exact .inl List.mem_cons_self
     ·exact .inr ⟨r,hr,rfl⟩
 ·have:=h.chain
  cases st with
  | nil=>trivial
  | cons r l=>exact this.2
 ·subst hst
  have:=h.chain
  simp only [Chain] at this
  subst this
  rfl
theorem DI.skip {bs:List DBlock} {M:List Bool} {n:Nat} {g:Int} {l:List Int} {st:List (Nat × List Int)} {o:List Int} (h:DI bs M ((n,g :: l) :: st) o) (hg:M[g.toNat]? = some true):DI bs M ((n,l) :: st) o:=by
 refine ⟨h.len,fun p hp=>?_,fun i=>?_,h.nod,h.out,fun p hp g' hg'=>?_,h.snd,fun A x B e=>?_,?_,fun hst=>(by cases hst)⟩
 ·rcases List.mem_cons.1 hp with rfl | hp
  ·exact ⟨(h.at_ _ List.mem_cons_self).1,fun g' hg'=>(h.at_ (n,g :: l) List.mem_cons_self).2 g' (List.mem_cons_of_mem _ hg')⟩
  ·exact h.at_ p (List.mem_cons_of_mem _ hp)
 ·rw [h.mem i]
  simp
 ·rcases List.mem_cons.1 hp with rfl | hp
  ·rcases h.todo (n,g :: l) List.mem_cons_self g' hg' with h1 | h1
   ·rcases List.mem_cons.1 h1 with rfl | h1
    ·exact .inr hg
    ·exact .inl h1
   ·exact .inr h1
  ·exact h.todo p (List.mem_cons_of_mem _ hp) g' hg'
 ·rcases h.led A x B e with h1 | ⟨p,h1,h2⟩
  ·exact .inl h1
  ·refine .inr ⟨p,h1,h2.imp id ?_⟩
   rintro ⟨r,hr,rfl⟩
   rcases List.mem_cons.1 hr with rfl | hr
   ·exact ⟨(n,l),List.mem_cons_self,rfl⟩
   ·exact ⟨r,List.mem_cons_of_mem _ hr,rfl⟩
 ·have:=h.chain
  cases st with
  | nil=>exact this
  | cons r l=>exact this
theorem DI.enter {bs:List DBlock} {M:List Bool} {n:Nat} {g:Int} {l:List Int} {st:List (Nat × List Int)} {o:List Int} (h:DI bs M ((n,g :: l) :: st) o) (hg:M[g.toNat]? = some false):DI bs (M.set g.toNat true) ((g.toNat,nextAt bs g.toNat) :: (n,l) :: st) o:=by
 have hgm:=(h.at_ (n,g :: l) List.mem_cons_self).2 g List.mem_cons_self
 have hgt:=nextAt_there hgm
 have hlt:=(List.getElem?_eq_some_iff.1 hg).1
 have hgc:=toNat_cast hgt.1
 have hnM:∀ i:Nat,M[i]? = some true→i≠g.toNat:=fun i hi e=>by rw [e,hg] at hi; cases hi
 refine ⟨by rw [List.length_set]; exact h.len,fun p hp=>?_,fun i=>?_,?_,fun x hx=>⟨(h.out x hx).1,fun g' hg'=>set_true ((h.out x hx).2 g' hg')⟩,fun p hp g' hg'=>?_,fun i hi=>?_,fun A x B e=>?_,?_,fun hst=>(by cases hst)⟩
 ·rcases List.mem_cons.1 hp with rfl | hp
  ·exact ⟨hgt.2,fun g' hg'=>hg'⟩
  ·rcases List.mem_cons.1 hp with rfl | hp
   ·exact ⟨(h.at_ _ List.mem_cons_self).1,fun g' hg'=>(h.at_ (n,g :: l) List.mem_cons_self).2 g' (List.mem_cons_of_mem _ hg')⟩
   ·exact h.at_ p (List.mem_cons_of_mem _ hp)
 ·rw [set_get hlt,h.mem i]
  simp only [List.mem_cons,exists_eq_or_imp]
  constructor
  ·rintro (rfl | h1)
   ·exact .inl (.inl rfl)
   ·rcases h1 with h1 | h1
    ·exact .inl (.inr h1)
    ·exact .inr h1
  ·rintro ((h1 | h1) | h1)
   ·exact .inl h1.symm
   ·exact .inr (.inl h1)
   ·exact .inr (.inr h1)
 ·have h1:=h.nod
  rw [List.map_cons] at h1 ⊢
  rw [List.perm_middle.nodup_iff,List.nodup_cons]
  refine ⟨fun hin=>?_,by rw [List.map_cons]; exact h1⟩
  have:M[g.toNat]? = some true:=by
   rw [h.mem]
   rcases List.mem_append.1 hin with hin | hin
   ·exact .inr hin
   ·obtain ⟨p,hp,he⟩:=List.mem_map.1 hin
    have he:p.1=g.toNat:=by omega
    rcases List.mem_cons.1 hp with rfl | hp
    ·exact .inl ⟨(n,g :: l),List.mem_cons_self,he⟩
    ·exact .inl ⟨p,List.mem_cons_of_mem _ hp,he⟩
  rw [hg] at this
  cases this
 ·rcases List.mem_cons.1 hp with rfl | hp
  ·exact .inl hg'
  ·rcases List.mem_cons.1 hp with rfl | hp
   ·rcases h.todo (n,g :: l) List.mem_cons_self g' hg' with h1 | h1
    ·rcases List.mem_cons.1 h1 with rfl | h1
     ·exact .inr ((set_get hlt).2 (.inl rfl))
     ·exact .inl h1
    ·exact .inr (set_true h1)
   ·exact (h.todo p (List.mem_cons_of_mem _ hp) g' hg').imp id set_true
 ·rcases (set_get hlt).1 hi with rfl | h1
  ·have hn:M[n]? = some true:=(h.mem n).2 (.inl ⟨(n,g :: l),List.mem_cons_self,rfl⟩)
   exact .next (h.snd n hn) hgm (by omega)
  ·exact h.snd i h1
 ·rcases h.led A x B e with h1 | ⟨p,h1,h2⟩
  ·exact .inl h1
  ·refine .inr ⟨p,h1,h2.imp id ?_⟩
   rintro ⟨r,hr,rfl⟩
   rcases List.mem_cons.1 hr with rfl | hr
   ·exact ⟨(n,l),List.mem_cons_of_mem _ List.mem_cons_self,rfl⟩
   ·exact ⟨r,List.mem_cons_of_mem _ (List.mem_cons_of_mem _ hr),rfl⟩
 ·have:=h.chain
  refine ⟨by rw [hgc]; exact hgm,?_⟩
  cases st with
  | nil=>exact this
  | cons r l=>exact this
theorem Dfs.keeps {bs:List DBlock} {M M':List Bool} {st:List (Nat × List Int)} {o o':List Int} (h:Dfs bs M st o M' o'):DI bs M st o→DI bs M' [] o':=by
 induction h with
 | done=>exact fun h=>h
 | leave _ ih=>exact fun h=>ih h.leave
 | skip hg _ ih=>exact fun h=>ih (h.skip hg)
 | enter hg _ ih=>exact fun h=>ih (h.enter hg)
theorem DI.start {bs:List DBlock} (h:bs≠[]):DI bs ((List.replicate bs.length false).set 0 true) [(0,nextAt bs 0)] []:=by
 have hl:0 < bs.length:=List.length_pos_iff.2 h
 have hlr:0 < (List.replicate bs.length false).length:=by simpa using hl
 have none_:∀ i:Nat,¬ (List.replicate bs.length false)[i]? = some true:=fun i h=>by
  rw [List.getElem?_replicate] at h
  split at h <;> cases h
 refine ⟨by simp,fun p hp=>?_,fun i=>?_,by simp,fun x hx=>(by cases hx),fun p hp g hg=>?_,fun i hi=>?_,fun A x B e=>(by simp at e),rfl,fun hst=>(by cases hst)⟩
 ·rw [List.mem_singleton] at hp
  subst hp
  exact ⟨hl,fun g hg=>hg⟩
 ·rw [set_get hlr]
  simp only [List.mem_singleton,exists_eq_left,List.not_mem_nil,or_false]
  constructor
  ·rintro (rfl | h)
   ·rfl
   ·exact absurd h (none_ i)
  ·rintro rfl
   exact .inl rfl
 ·rw [List.mem_singleton] at hp
  subst hp
  exact .inl hg
 ·rcases (set_get hlr).1 hi with rfl | h
  ·exact .start (by omega) hl
  ·exact absurd h (none_ i)
structure OI (bs:List DBlock) (o:List Int):Prop where
 mem:∀ i:Nat,(i:Int) ∈ o ↔ Rc bs (-1) i
 pos:∀ x ∈ o,0≤x∧x < (bs.length:Int)
 nod:o.Nodup
 led:∀ (A:List Int) (x:Int) (B:List Int),o=A ++ x :: B→x=0∨∃ p:Nat,x ∈ nextAt bs p∧(p:Int) ∈ A
 first:bs≠[]→o.head? = some 0
theorem OrderP.keeps {bs:List DBlock} {o:List Int} (h:OrderP bs o):OI bs o:=by
 rcases h with ⟨rfl,rfl⟩ | ⟨h0,M',hD⟩
 ·refine ⟨fun i=>⟨fun h=>(by cases h),fun h=>absurd h.lt (by simp)⟩,fun x hx=>(by cases hx),List.nodup_nil,fun A x B e=>(by simp at e),fun h=>absurd rfl h⟩
 ·have h:=hD.keeps (DI.start h0)
  have hmem:∀ i:Nat,M'[i]? = some true ↔ (i:Int) ∈ o:=fun i=>by rw [h.mem i]; simp
  have hfull:FullR bs (-1) M':=by
   have hhd:=h.last rfl
   have h0o:(0:Int) ∈ o:=by
    cases o with
    | nil=>cases hhd
    | cons a o=>simp only [List.head?_cons,Option.some.injEq] at hhd; subst hhd; exact List.mem_cons_self
   refine fullR_of h.len h.snd (fun _ _=>(hmem 0).2 h0o) (fun i _ hi g hg _=>?_)
   have:=(h.out i ((hmem i).1 hi)).2 g (by simpa using hg)
   exact this
  refine ⟨fun i=>by rw [← hmem i]; exact hfull.2 i,fun x hx=>?_,by have:=h.nod; simpa using this,fun A x B e=>?_,fun _=>h.last rfl⟩
  ·have hx0:=(h.out x hx).1
   have:Rc bs (-1) x.toNat:=(hfull.2 _).1 ((hmem _).2 (by rw [toNat_cast hx0]; exact hx))
   have:=this.lt
   omega
  ·rcases h.led A x B e with h1 | ⟨p,h1,h2⟩
   ·exact .inl h1
   ·refine .inr ⟨p,h1,?_⟩
    rcases h2 with h2 | ⟨r,hr,_⟩
    ·exact h2
    ·cases hr
end Go.Ab
namespace Go.Ab.V8
open Go Go.Ab Go.Proofs
theorem r85 {q:Option Bool} {e:List TV} {f:DFunc} (he:RFunc q e f) (hs:f.blocks.length≤1000):∃ y M,Runs prog 15 [.agg e] y∧RBools (some true) y M∧FullR f.blocks (-1) M:=by
 obtain ⟨v,o,hv,hvr,hO⟩:=r80 he hs
 obtain ⟨b,rfl,hb,_⟩:=he
 have hI:=hO.keeps
 have hvb:=hvr.bnd
 have loop:∀ (d k:Nat) (M:List Bool) (w:TV),k + d=o.length→RBools (some true) w M→M.length=f.blocks.length→(∀ i:Nat,M[i]? = some true ↔ (i:Int) ∈ o.take k)→∃ y M,Goes prog 15 (f15_0 (I o.length) (I k) w v) y∧RBools (some true) y M∧FullR f.blocks (-1) M:=by
  intro d
  induction d with
  | zero =>
   intro k M w hk hw hl hm
   have hk:k=o.length:=by omega
   subst hk
   rw [List.take_length] at hm
   refine ⟨w,M,?_,hw,hl,fun i=>by rw [hm i]; exact hI.mem i⟩
   unfold f15_0
   exact Goes.tv rfl (Goes.ite asB_end (fun h=>nomatch h) fun _=>Goes.ret)
  | succ d ih =>
   intro k M w hk hw hl hm
   have hkl:k < o.length:=by omega
   obtain ⟨x,hxx⟩:∃ x,x=o[k]:=⟨_,rfl⟩
   have hox:o[k]? = some x:=by rw [hxx]; exact List.getElem?_eq_getElem hkl
   have hxo:=hI.pos x (List.mem_of_getElem? hox)
   obtain ⟨e,he,rfl,hei⟩:=hvr.pel hox
   have hxl:x.toNat < M.length:=by omega
   obtain ⟨e2,he2,hR⟩:=hw.pel (List.getElem?_eq_getElem hxl)
   cases hR
   obtain ⟨w',c1,c2⟩:=hw.setAt he2 (d:=0) (ys:=[B true]) (a:=true) rfl
   obtain ⟨y,M',hy,hr,hF⟩:=ih (k + 1) (M.set x.toNat true) w' (by omega) c2 (by rw [List.length_set]; exact hl) (fun i=>by
    rw [set_get hxl,hm i,take_get hox,List.mem_append,List.mem_singleton]
    constructor
    ·rintro (rfl | h)
     ·exact .inr (toNat_cast hxo.1)
     ·exact .inl h
    ·rintro (h | h)
     ·exact .inr h
     ·exact .inl (by omega))
   refine ⟨y,M',?_,hr,hF⟩
   unfold f15_0
   refine Goes.tv rfl (Goes.ite (asB_lt hkl) (fun _=>?_) fun h=>nomatch h)
   refine Goes.nat hvr.slLen (Goes.nat (asNat_nat (by omega)) (Goes.chk ?_ (Goes.tvs he (Goes.chk rfl (Goes.nat hw.slLen (Goes.nat (asNat_pos hxo.1 hei) (Goes.chk ?_ (Goes.tvs he2 (Goes.chk rfl (Goes.tv c1 (Goes.tv (inc hkl hvb) (f15_0_J hy))))))))))))
   ·rw [hvr.slSize]; simpa using hkl
   ·rw [hw.slSize]; simpa using hxl
 obtain ⟨y,M,hy,hr,hF⟩:=loop o.length 0 _ _ (by omega) (rep_bools (n:=f.blocks.length) (by omega)) (by simp) (fun i=>by
  rw [List.getElem?_replicate]
  simp)
 refine ⟨y,M,?_,hr,hF⟩
 have hn:asNat (I (f.blocks.length:Nat))=some f.blocks.length:=asNat_nat (by omega)
 refine Runs.of (f15_MR _) ?_
 unfold f15_M
 refine Goes.chk rfl (Goes.tv hb.len (Goes.nat hn (Goes.nat hn (Goes.chk ?_ (Goes.call hv (Goes.chk (fit_slc hvr.isSl) (Goes.tv hvr.len (f15_0_J hy))))))))
 have:Nat.ble f.blocks.length 4294967296=true:=by simp; omega
 simp [this]
end Go.Ab.V8
end
section
set_option linter.unusedVariables false
set_option maxRecDepth 10000
namespace Go.Ab.V8
open Go Go.Ab Go.Proofs
theorem same_ints {x y:TV} {l:List Int} (hx:RInts (some true) x l) (hy:RInts (some true) y l):Runs prog 8 [frz x,frz y] (B true):=by
 have:=r14 (hx.frz fun _ _ h=>h.frz) (hy.frz fun _ _ h=>h.frz)
 rwa [tt_true rfl] at this
end Go.Ab.V8
end
section
set_option linter.unusedVariables false
set_option maxRecDepth 10000
namespace Go.Ab
def Dm (bs:List DBlock) (a b:Nat):Prop:=Rc bs (-1) b∧(a=b∨¬ Rc bs a b)
inductive Wy (bs:List DBlock) (no:Int) (x:Nat):Nat→Prop
 | refl:Wy bs no x x
 | next {i:Nat} {g:Int} (hi:Wy bs no x i) (hg:g ∈ nextAt bs i) (hn:g≠no):Wy bs no x g.toNat
theorem Wy.rc {bs:List DBlock} {no:Int} {x i:Nat} (hx:Rc bs no x) (h:Wy bs no x i):Rc bs no i:=by
 induction h with
 | refl=>exact hx
 | next _ hg hn ih=>exact .next ih hg hn
theorem Rc.any {bs:List DBlock} {no:Int} {i:Nat} (h:Rc bs no i):Rc bs (-1) i:=by
 induction h with
 | start _ h0=>exact .start (by omega) h0
 | next _ hg _ ih=>exact .next ih hg (by have:=nextAt_there hg; omega)
theorem Rc.not_self {bs:List DBlock} {a:Nat} (h:Rc bs a a):False:=by
 have key:∀ {i:Nat},Rc bs a i→i≠a:=by
  intro i h
  cases h with
  | start h _=>omega
  | next _ hg hn=>have:=nextAt_there hg; omega
 exact key h rfl
theorem Rc.split {bs:List DBlock} {no:Int} {c:Nat} (h:Rc bs no c) (b:Nat):Rc bs b c∨Rc bs no b:=by
 induction h with
 | start h0 hl =>
  by_cases hb:b=0
  ·subst hb; exact .inr (.start h0 hl)
  ·exact .inl (.start (by omega) hl)
 | @next i g hi hg hn ih =>
  have ht:=nextAt_there hg
  rcases ih with ih | ih
  ·by_cases hb:g=(b:Int)
   ·right
    have:=Rc.next hi hg hn
    rw [hb] at this
    simpa using this
   ·exact .inl (.next ih hg hb)
  ·exact .inr ih
theorem Dm.refl {bs:List DBlock} {b:Nat} (h:Rc bs (-1) b):Dm bs b b:=⟨h,.inl rfl⟩
theorem Dm.self {bs:List DBlock} {a b:Nat}:Dm bs a b ↔ Rc bs (-1) b∧¬ Rc bs a b:=by
 constructor
 ·rintro ⟨h,rfl | h2⟩
  ·exact ⟨h,fun h=>h.not_self⟩
  ·exact ⟨h,h2⟩
 ·exact fun ⟨h1,h2⟩=>⟨h1,.inr h2⟩
theorem Dm.up {bs:List DBlock} {a b:Nat} (h:Dm bs a b):Rc bs (-1) a:=by
 rw [Dm.self] at h
 rcases h.1.split a with h1 | h1
 ·exact absurd h1 h.2
 ·exact h1
theorem Dm.trans {bs:List DBlock} {a b c:Nat} (h:Dm bs a b) (h':Dm bs b c):Dm bs a c:=by
 rw [Dm.self] at *
 refine ⟨h'.1,fun hac=>?_⟩
 rcases hac.split b with h1 | h1
 ·exact h'.2 h1
 ·exact h.2 h1
theorem first_of {bs:List DBlock} {a b i:Nat} (hab:a≠b) (h:Rc bs (-1) i):(Rc bs a i∧Rc bs b i)∨Rc bs b a∨Rc bs a b:=by
 induction h with
 | start h0 hl =>
  by_cases ha:a=0
  ·subst ha; exact .inr (.inl (.start (by omega) hl))
  ·by_cases hb:b=0
   ·subst hb; exact .inr (.inr (.start (by omega) hl))
   ·exact .inl ⟨.start (by omega) hl,.start (by omega) hl⟩
 | @next i g hi hg hn ih =>
  have ht:=nextAt_there hg
  rcases ih with ⟨h1,h2⟩ | ih
  ·by_cases ha:g=(a:Int)
   ·right; left
    have:=Rc.next h2 hg (by omega)
    rw [ha] at this
    simpa using this
   ·by_cases hb:g=(b:Int)
    ·right; right
     have:=Rc.next h1 hg ha
     rw [hb] at this
     simpa using this
    ·exact .inl ⟨.next h1 hg ha,.next h2 hg hb⟩
  ·exact .inr ih
theorem last_of {bs:List DBlock} {a b i:Nat} (hab:a≠b) (h:Rc bs (-1) i):(Rc bs a i∧Rc bs b i)∨Wy bs b a i∨Wy bs a b i:=by
 induction h with
 | start h0 hl =>
  by_cases ha:a=0
  ·subst ha; exact .inr (.inl .refl)
  ·by_cases hb:b=0
   ·subst hb; exact .inr (.inr .refl)
   ·exact .inl ⟨.start (by omega) hl,.start (by omega) hl⟩
 | @next i g hi hg hn ih =>
  have ht:=nextAt_there hg
  by_cases ha:g=(a:Int)
  ·rw [ha,Int.toNat_natCast]; exact .inr (.inl .refl)
  ·by_cases hb:g=(b:Int)
   ·rw [hb,Int.toNat_natCast]; exact .inr (.inr .refl)
   ·rcases ih with ⟨h1,h2⟩ | h1 | h1
    ·exact .inl ⟨.next h1 hg ha,.next h2 hg hb⟩
    ·exact .inr (.inl (.next h1 hg hb))
    ·exact .inr (.inr (.next h1 hg ha))
theorem Dm.anti {bs:List DBlock} {a b:Nat} (h:Dm bs a b) (h':Dm bs b a):a=b:=by
 by_cases hab:a=b
 ·exact hab
 ·exfalso
  rw [Dm.self] at *
  rcases first_of hab h.1 with ⟨h1,_⟩ | h1 | h1
  ·exact h.2 h1
  ·exact h'.2 h1
  ·exact h.2 h1
theorem Dm.total {bs:List DBlock} {a b c:Nat} (h:Dm bs a c) (h':Dm bs b c):Dm bs a b∨Dm bs b a:=by
 by_cases hab:a=b
 ·subst hab; exact .inl (.refl h.up)
 ·have ha:=h.up
  have hb:=h'.up
  rw [Dm.self] at h h'
  rcases last_of hab h.1 with ⟨h1,_⟩ | h1 | h1
  ·exact absurd h1 h.2
  ·right
   exact Dm.self.2 ⟨ha,fun hr=>h'.2 (h1.rc hr)⟩
  ·left
   exact Dm.self.2 ⟨hb,fun hr=>h.2 (h1.rc hr)⟩
theorem Dm.zero {bs:List DBlock} {b:Nat} (h:Rc bs (-1) b):Dm bs 0 b:=by
 refine Dm.self.2 ⟨h,fun hr=>?_⟩
 have key:∀ {i:Nat},Rc bs ((0:Nat):Int) i→False:=by
  intro i h
  induction h with
  | start h _=>exact h rfl
  | next _ _ _ ih=>exact ih
 exact key hr
theorem Dm.step {bs:List DBlock} {a b:Nat} {g:Int} (h:Rc bs (-1) b) (hg:g ∈ nextAt bs b) (hd:Dm bs a g.toNat) (hn:g≠(a:Int)):Dm bs a b:=by
 rw [Dm.self] at *
 exact ⟨h,fun hr=>hd.2 (.next hr hg hn)⟩
def Nx (bs:List DBlock) (a b:Nat):Prop:=a≠b∧Dm bs a b∧∀ c,c≠b→Dm bs c b→Dm bs c a
theorem Nx.det {bs:List DBlock} {a a' b:Nat} (h:Nx bs a b) (h':Nx bs a' b):a=a':=(h'.2.2 a h.1 h.2.1).anti (h.2.2 a' h'.1 h'.2.1)
theorem Nx.ex {bs:List DBlock} {b:Nat} (h:Rc bs (-1) b) (hb:b≠0):∃ a,Nx bs a b:=by
 have key : ∀ k : Nat, ∃ a, a ≠ b ∧ Dm bs a b ∧ ∀ c, c < k → c ≠ b → Dm bs c b → Dm bs c a := by
  intro k
  induction k with
  | zero=>exact ⟨0,Ne.symm hb,.zero h,fun c hc=>absurd hc (Nat.not_lt_zero _)⟩
  | succ k ih =>
   obtain ⟨a,h1,h2,h3⟩:=ih
   by_cases hk:k≠b∧Dm bs k b
   ·rcases h2.total hk.2 with h4 | h4
    ·refine ⟨k,hk.1,hk.2,fun c hc hcb hcd=>?_⟩
     rcases Nat.lt_or_ge c k with h5 | h5
     ·exact (h3 c h5 hcb hcd).trans h4
     ·have:c=k:=by omega
      subst this
      exact .refl hk.2.up
    ·refine ⟨a,h1,h2,fun c hc hcb hcd=>?_⟩
     rcases Nat.lt_or_ge c k with h5 | h5
     ·exact h3 c h5 hcb hcd
     ·have:c=k:=by omega
      subst this
      exact h4
   ·refine ⟨a,h1,h2,fun c hc hcb hcd=>?_⟩
    rcases Nat.lt_or_ge c k with h5 | h5
    ·exact h3 c h5 hcb hcd
    ·have:c=k:=by omega
     subst this
     exact absurd ⟨hcb,hcd⟩ hk
 obtain ⟨a,h1,h2,h3⟩:=key bs.length
 exact ⟨a,h1,h2,fun c hc hd=>h3 c hd.up.lt hc hd⟩
end Go.Ab
end
section
set_option linter.unusedVariables false
set_option maxRecDepth 10000
namespace Go.Ab
open Classical in
noncomputable def ovN (bs:List DBlock) (b:Nat):Int:=if h:∃ a,Nx bs a b then ((h.choose:Nat):Int) else -1
theorem ovN_of {bs:List DBlock} {a b:Nat} (h:Nx bs a b):ovN bs b=(a:Int):=by
 have hx:∃ a,Nx bs a b:=⟨a,h⟩
 unfold ovN
 rw [dif_pos hx,(hx.choose_spec).det h]
theorem Nx.reached {bs:List DBlock} {a b:Nat} (h:Nx bs a b):Rc bs (-1) b∧b≠0:=by
 refine ⟨h.2.1.1,fun h0=>h.1 ?_⟩
 subst h0
 exact h.2.1.anti (.zero h.2.1.up)
theorem ovN_none {bs:List DBlock} {b:Nat} (h:¬ (Rc bs (-1) b∧b≠0)):ovN bs b=-1:=by
 unfold ovN
 rw [dif_neg]
 rintro ⟨a,ha⟩
 exact h ha.reached
theorem ovN_cases (bs:List DBlock) (b:Nat):(Rc bs (-1) b∧b≠0∧∃ a,Nx bs a b∧ovN bs b=(a:Int))∨(¬ (Rc bs (-1) b∧b≠0)∧ovN bs b=-1):=by
 by_cases h:Rc bs (-1) b∧b≠0
 ·obtain ⟨a,ha⟩:=Nx.ex h.1 h.2
  exact .inl ⟨h.1,h.2,a,ha,ovN_of ha⟩
 ·exact .inr ⟨h,ovN_none h⟩
noncomputable def overL (bs:List DBlock):List Int:=(List.range bs.length).map (ovN bs)
theorem overL_len (bs:List DBlock):(overL bs).length=bs.length:=by simp [overL]
theorem overL_get {bs:List DBlock} {b:Nat} (h:b < bs.length):(overL bs)[b]? = some (ovN bs b):=by simp [overL,h]
def edgeP (bs:List DBlock) (n k:Nat):Prop:=(∃ b:Nat,Dm bs n b∧(k:Int) ∈ nextAt bs b)∧(k=n∨¬ Dm bs n k)
open Classical in
noncomputable def edgeTo (bs:List DBlock) (n:Nat) (k:Nat):List Int:=((List.range k).filter fun i=>decide (edgeP bs n i)).map fun i:Nat=>(i:Int)
noncomputable def edgeL (bs:List DBlock) (n:Int):List Int:=if 0≤n then edgeTo bs n.toNat bs.length else []
theorem edgeTo_mem {bs:List DBlock} {n k:Nat} {g:Int}:g ∈ edgeTo bs n k ↔ ∃ i:Nat,g=(i:Int)∧i < k∧edgeP bs n i:=by
 unfold edgeTo
 simp only [List.mem_map,List.mem_filter,List.mem_range,decide_eq_true_eq]
 constructor
 ·rintro ⟨i,⟨h1,h2⟩,rfl⟩; exact ⟨i,rfl,h1,h2⟩
 ·rintro ⟨i,rfl,h1,h2⟩; exact ⟨i,⟨h1,h2⟩,rfl⟩
theorem edgeTo_succ (bs:List DBlock) (n k:Nat) [Decidable (edgeP bs n k)]:edgeTo bs n (k + 1)=edgeTo bs n k ++ (if edgeP bs n k then [(k:Int)] else []):=by
 unfold edgeTo
 rw [List.range_succ,List.filter_append,List.map_append]
 by_cases h:edgeP bs n k <;> simp [h]
theorem edge_of {bs:List DBlock} {n b:Nat} {g:Int} (h:Dm bs n b) (hg:g ∈ nextAt bs b) (hn:g=(n:Int)∨¬ Dm bs n g.toNat):g ∈ edgeTo bs n bs.length:=by
 have ht:=nextAt_there hg
 refine edgeTo_mem.2 ⟨g.toNat,by omega,ht.2,⟨b,h,by rw [show ((g.toNat:Nat):Int)=g by omega]; exact hg⟩,?_⟩
 rcases hn with h1 | h1
 ·left; omega
 ·exact .inr h1
end Go.Ab
end
section
set_option linter.unusedVariables false
set_option linter.unusedSectionVars false
set_option maxRecDepth 10000
namespace Go.Ab
def blk (o:List Int) (n:Nat):Nat:=(o[n]?.getD 0).toNat
section
variable {bs:List DBlock} {o:List Int} (hI:OI bs o)
include hI
theorem OI.at_ {n:Nat} (h:n < o.length):o[n]? = some ((blk o n:Nat):Int):=by
 have hx:=List.getElem?_eq_getElem h
 have hp:=(hI.pos _ (List.mem_of_getElem? hx)).1
 unfold blk
 rw [hx]
 simp only [Option.getD_some]
 congr 1
 omega
theorem OI.blk_lt {n:Nat} (h:n < o.length):blk o n < bs.length:=by
 have:=(hI.pos _ (List.mem_of_getElem? (hI.at_ h))).2
 omega
theorem OI.inj {n m:Nat} (h:n < o.length) (h':m < o.length) (e:blk o n=blk o m):n=m:=by
 have h1:=hI.at_ h
 have h2:=hI.at_ h'
 rw [e,← h2] at h1
 exact (List.getElem?_inj h hI.nod).1 h1
theorem OI.rank {b:Nat} (h:Rc bs (-1) b):∃ n,n < o.length∧blk o n=b:=by
 obtain ⟨n,hn,e⟩:=List.mem_iff_getElem.1 ((hI.mem b).2 h)
 refine ⟨n,hn,?_⟩
 have:=hI.at_ hn
 rw [List.getElem?_eq_getElem hn,e] at this
 simp only [Option.some.injEq] at this
 omega
theorem OI.rc {n:Nat} (h:n < o.length):Rc bs (-1) (blk o n):=(hI.mem _).1 (List.mem_of_getElem? (hI.at_ h))
theorem OI.zero (h:bs≠[]):0 < o.length∧blk o 0=0:=by
 have:=hI.first h
 cases o with
 | nil=>cases this
 | cons a o =>
  simp only [List.head?_cons,Option.some.injEq] at this
  subst this
  exact ⟨by simp,rfl⟩
end
def prOne (o:List Int) (k n:Nat) (l:List Int):List Nat:=(l.filter fun g=>decide (g=((blk o n:Nat):Int))).map fun _=>k
def prTo (bs:List DBlock) (o:List Int):Nat→Nat→List Nat
 | 0,_=>[]
 | k + 1,n=>prTo bs o k n ++ prOne o k n (nextAt bs (blk o k))
def prL (bs:List DBlock) (o:List Int) (n:Nat):List Nat:=prTo bs o o.length n
theorem prOne_mem {o:List Int} {k n p:Nat} {l:List Int}:p ∈ prOne o k n l ↔ p=k∧((blk o n:Nat):Int) ∈ l:=by
 unfold prOne
 simp only [List.mem_map,List.mem_filter,decide_eq_true_eq]
 constructor
 ·rintro ⟨g,⟨h1,rfl⟩,rfl⟩; exact ⟨rfl,h1⟩
 ·rintro ⟨rfl,h⟩; exact ⟨_,⟨h,rfl⟩,rfl⟩
theorem prTo_mem {bs:List DBlock} {o:List Int} {n p:Nat}:∀ {k:Nat},p ∈ prTo bs o k n ↔ p < k∧((blk o n:Nat):Int) ∈ nextAt bs (blk o p)
 | 0=>by simp [prTo]
 | k + 1 => by
  simp only [prTo,List.mem_append,prTo_mem (k:=k),prOne_mem]
  constructor
  ·rintro (⟨h1,h2⟩ | ⟨rfl,h⟩)
   ·exact ⟨by omega,h2⟩
   ·exact ⟨by omega,h⟩
  ·rintro ⟨h1,h2⟩
   by_cases e:p=k
   ·subst e; exact .inr ⟨rfl,h2⟩
   ·exact .inl ⟨by omega,h2⟩
theorem prL_mem {bs:List DBlock} {o:List Int} {n p:Nat}:p ∈ prL bs o n ↔ p < o.length∧((blk o n:Nat):Int) ∈ nextAt bs (blk o p):=prTo_mem
theorem prTo_sorted {bs:List DBlock} {o:List Int} {n:Nat}:∀ (k:Nat),(prTo bs o k n).Pairwise (·≤·)
 | 0=>.nil
 | k + 1 => by
  simp only [prTo]
  refine List.pairwise_append.2 ⟨prTo_sorted k,?_,fun a ha b hb=>?_⟩
  ·refine List.pairwise_of_forall_mem_list fun a ha b hb=>?_
   rw [(prOne_mem.1 ha).1,(prOne_mem.1 hb).1]
   exact Nat.le_refl _
  ·have:=(prTo_mem.1 ha).1
   rw [(prOne_mem.1 hb).1]
   omega
def p0L (bs:List DBlock) (o:List Int) (n:Nat):Nat:=(prL bs o n)[0]?.getD 0
theorem p0_le {bs:List DBlock} {o:List Int} {n p:Nat} (h:p ∈ prL bs o n):p0L bs o n ∈ prL bs o n∧p0L bs o n≤p:=by
 have hs:=prTo_sorted (bs:=bs) (o:=o) (n:=n) o.length
 unfold p0L
 cases hl:prL bs o n with
 | nil=>rw [hl] at h; cases h
 | cons a l =>
  unfold prL at hl
  rw [hl] at hs
  have h1:=(List.pairwise_cons.1 hs).1
  refine ⟨by simp,?_⟩
  unfold prL at h
  rw [hl] at h
  rcases List.mem_cons.1 h with rfl | h
  ·simp
  ·have:=h1 p h
   simpa using this
theorem p0_at {bs:List DBlock} {o:List Int} {n:Nat} (h:prL bs o n≠[]):(prL bs o n)[0]? = some (p0L bs o n):=by
 unfold p0L
 cases hl:prL bs o n with
 | nil=>exact absurd hl h
 | cons a l=>rfl
section
variable {bs:List DBlock} {o:List Int} (hI:OI bs o)
include hI
theorem OI.low {n:Nat} (h0:n≠0) (hn:n < o.length):∃ p,p ∈ prL bs o n∧p < n:=by
 have hat:=hI.at_ hn
 have he:o=o.take n ++ ((blk o n:Nat):Int) :: o.drop (n + 1):=by
  have h1:=List.getElem?_eq_getElem hn
  rw [hat] at h1
  simp only [Option.some.injEq] at h1
  rw [h1,List.getElem_cons_drop,List.take_append_drop]
 rcases hI.led _ _ _ he with h1 | ⟨p,h1,h2⟩
 ·exfalso
  have hb:bs≠[]:=fun e=>by have:=hI.blk_lt hn; rw [e] at this; cases this
  obtain ⟨z1,z2⟩:=hI.zero hb
  exact h0 (hI.inj hn z1 (by rw [z2]; omega))
 ·obtain ⟨m,hm,e⟩:=List.mem_iff_getElem.1 h2
  simp only [List.length_take] at hm
  rw [List.getElem_take] at e
  have hm2:m < o.length:=by omega
  have hbm:=hI.at_ hm2
  rw [List.getElem?_eq_getElem hm2,e] at hbm
  simp only [Option.some.injEq] at hbm
  refine ⟨m,prL_mem.2 ⟨hm2,?_⟩,by omega⟩
  rw [show blk o m=p by omega]
  exact h1
theorem OI.grf:Grf o.length (prL bs o) (p0L bs o):=by
 refine ⟨fun n hn p hp=>(prL_mem.1 hp).1,fun n h0 hn=>?_,fun n h0 hn=>?_⟩
 ·obtain ⟨p,h1,h2⟩:=hI.low h0 hn
  exact (p0_le h1).1
 ·obtain ⟨p,h1,h2⟩:=hI.low h0 hn
  exact Nat.lt_of_le_of_lt (p0_le h1).2 h2
theorem OI.rv {d n:Nat} (hd:d < o.length) (hn:n < o.length):Rv (prL bs o) d n ↔ Rc bs ((blk o d:Nat):Int) (blk o n):=by
 have hb:bs≠[]:=fun e=>by have:=hI.blk_lt hn; rw [e] at this; cases this
 obtain ⟨z1,z2⟩:=hI.zero hb
 constructor
 ·intro h
  have key:∀ {n:Nat},Rv (prL bs o) d n→n < o.length→Rc bs ((blk o d:Nat):Int) (blk o n):=by
   intro n h
   induction h with
   | start h0 =>
    intro _
    rw [z2]
    refine .start (fun e=>h0 (hI.inj z1 hd (by omega))) (List.length_pos_iff.2 hb)
   | @next p n _ hp hne ih =>
    intro hn
    obtain ⟨q1,q2⟩:=prL_mem.1 hp
    have:=Rc.next (ih q1) q2 (fun e=>hne (hI.inj hn hd (by omega)))
    simpa using this
  exact key h hn
 ·intro h
  have key:∀ {b:Nat},Rc bs ((blk o d:Nat):Int) b→∃ n,n < o.length∧blk o n=b∧Rv (prL bs o) d n:=by
   intro b h
   induction h with
   | start h0 _=>exact ⟨0,z1,z2,.start fun e=>h0 (by rw [← e,z2]; rfl)⟩
   | @next i g hi hg hne ih =>
    obtain ⟨m,m1,m2,m3⟩:=ih
    have ht:=nextAt_there hg
    obtain ⟨n,n1,n2⟩:=hI.rank (Rc.next hi hg hne).any
    refine ⟨n,n1,n2,.next m3 (prL_mem.2 ⟨m1,?_⟩) fun e=>hne ?_⟩
    ·rw [n2,m2,show ((g.toNat:Nat):Int)=g by omega]; exact hg
    ·rw [← e,n2]; omega
  obtain ⟨m,m1,m2,m3⟩:=key h
  rw [hI.inj hn m1 m2.symm]
  exact m3
variable {T p0:Nat→Nat} {m:Nat} (hG:Grf o.length (prL bs o) p0) (h:TI o.length (prL bs o) p0 m T) (hf:∀ n,n≠0→n < o.length→∀ x,Up T (T n) x ↔ ∀ p ∈ prL bs o n,Up T p x)
include hG h hf
theorem OI.up {n x:Nat} (hn:n < o.length) (hx:x < o.length):Dm bs (blk o x) (blk o n) ↔ Up T n x:=by
 rw [Dm.self,h.last hG hf hn,hI.rv hx hn]
 exact ⟨fun h=>h.2,fun h=>⟨hI.rc hn,h⟩⟩
theorem OI.nx {n:Nat} (h0:n≠0) (hn:n < o.length):Nx bs (blk o (T n)) (blk o n):=by
 have hl:=h.low n h0 hn
 have ht:T n < o.length:=by omega
 refine ⟨fun e=>by have:=hI.inj ht hn e; omega,(hI.up hG h hf hn ht).2 (.step h0 .refl),fun c hc hd=>?_⟩
 obtain ⟨x,x1,rfl⟩:=hI.rank hd.up
 have hu:=(hI.up hG h hf hn x1).1 hd
 exact (hI.up hG h hf ht x1).2 (hu.inv fun e=>hc (by rw [e])).2
theorem OI.ov {n:Nat} (h0:n≠0) (hn:n < o.length):ovN bs (blk o n)=((blk o (T n):Nat):Int):=ovN_of (hI.nx hG h hf h0 hn)
end
def p0Z (bs:List DBlock) (o:List Int) (n:Nat):Nat:=if n=0 then 0 else p0L bs o n
theorem OI.grfZ {bs:List DBlock} {o:List Int} (hI:OI bs o):Grf o.length (prL bs o) (p0Z bs o) :=
 ⟨hI.grf.in_,fun n h0 hn=>by rw [p0Z,if_neg h0]; exact hI.grf.mem n h0 hn,fun n h0 hn=>by rw [p0Z,if_neg h0]; exact hI.grf.low n h0 hn⟩
theorem nodup_le:∀ (n:Nat) {l:List Nat},l.Nodup→(∀ x ∈ l,x < n)→l.length≤n
 | 0,l,_,h=>by
  cases l with
  | nil=>exact Nat.le_refl _
  | cons a l=>exact absurd (h a List.mem_cons_self) (Nat.not_lt_zero _)
 | n + 1, l, hd, h => by
  by_cases hn:n ∈ l
  ·have:=nodup_le n (hd.erase n) (fun x hx=>by
    have h1:=h x (List.mem_of_mem_erase hx)
    have h2:x≠n:=fun e=>by subst e; exact absurd hx (hd.not_mem_erase)
    omega)
   rw [List.length_erase_of_mem hn] at this
   omega
  ·have:=nodup_le n hd (fun x hx=>by
    have h1:=h x hx
    have h2:x≠n:=fun e=>by subst e; exact hn hx
    omega)
   omega
theorem OI.len {bs:List DBlock} {o:List Int} (hI:OI bs o):o.length≤bs.length:=by
 have h1:(o.map Int.toNat).Nodup:=by
  refine List.pairwise_map.2 (List.Pairwise.imp_of_mem (fun {a b} ha hb hne e=>hne ?_) hI.nod)
  have:=hI.pos a ha
  have:=hI.pos b hb
  omega
 have:=nodup_le bs.length h1 (fun x hx=>by
  obtain ⟨a,ha,rfl⟩:=List.mem_map.1 hx
  have:=hI.pos a ha
  omega)
 simpa using this
end Go.Ab
end

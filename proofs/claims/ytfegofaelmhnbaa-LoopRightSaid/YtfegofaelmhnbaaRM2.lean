import Derived.Test.YtfegofaelmhnbaaRL9F100
import Derived.Test.YtfegofaelmhnbaaRL9F84
import Derived.Test.YtfegofaelmhnbaaRM0
import Derived.Below
import Derived.Orders
import Derived.Laws.Cells
import Derived.Laws.OwnMore
import Derived.Laws.CopyOwn
import Derived.Maps.AppendAt
import Derived.Lib.FrozenHead
section
set_option linter.unusedVariables false
set_option maxRecDepth 100000
namespace Go.Ab
theorem filter_one (h:Nat):∀ m:Nat,(List.range m).filter (fun a=>decide (a=h))=if h < m then [h] else []
 | 0=>by simp
 | m + 1 => by
  rw [List.range_succ,List.filter_append,filter_one h m]
  by_cases e:m=h
  ·subst e; simp
  ·rw [show ([m].filter fun a=>decide (a=h))=[] by simp [e],List.append_nil]
   by_cases h1:h < m
   ·rw [if_pos h1,if_pos (by omega)]
   ·rw [if_neg h1,if_neg (by omega)]
theorem tt_dec {p:Prop} [Decidable p]:tt p=decide p:=by
 by_cases h:p
 ·rw [tt_true h,decide_eq_true h]
 ·rw [tt_false h,decide_eq_false h]
theorem tt_iff2 {p q:Prop} (h:p ↔ q):tt p=tt q:=by rw [propext h]
theorem JRow.loops_some {bs:List DBlock} {n h:Nat} (hR:JRow bs n (some h)):loopsL bs=[(h,castL ((List.range (n + 1)).filter fun k=>decide (h≤k∧k < n)))]:=by
 have hl:=hR.low h rfl
 unfold loopsL loopsTo
 rw [List.filter_congr (q:=fun a=>decide (a=h)) fun a _=>by
  rw [tt_iff2 hR.head,tt_dec]
  simp [eq_comm],filter_one,if_pos (by rw [hR.len]; omega)]
 simp only [List.map_cons,List.map_nil,List.cons.injEq,Prod.mk.injEq,true_and,and_true]
 unfold lpTo
 rw [hR.len,List.filter_congr (q:=fun k=>decide (h≤k∧k < n)) fun a _=>by
  rw [tt_iff2 hR.loop,tt_dec]
  simp]
theorem JRow.deep {bs:List DBlock} {n h:Nat} (hR:JRow bs n (some h)) (k:Nat):deepL bs (k:Int)=if h≤k∧k < n then 1 else 0:=by
 by_cases e:h≤k∧k < n
 ·rw [if_pos e,deepL_of (l:=[h]) (by simp) fun a=>by
   rw [hR.loop,List.mem_singleton]
   constructor
   ·rintro rfl; exact ⟨rfl,e⟩
   ·rintro ⟨h1,_⟩; cases h1; rfl]
  rfl
 ·rw [if_neg e,deepL_of (l:=[]) (by simp) fun a=>by
   rw [hR.loop]
   constructor
   ·intro h; cases h
   ·rintro ⟨h1,h2⟩; cases h1; exact absurd h2 e]
  rfl
theorem castL_memN {l:List Nat} {a:Nat}:((a:Nat):Int) ∈ castL l ↔ a ∈ l:=by
 unfold castL
 rw [List.mem_map]
 constructor
 ·rintro ⟨b,h1,h2⟩
  have:b=a:=by omega
  subst this; exact h1
 ·exact fun h=>⟨a,h,rfl⟩
theorem lpTo_in {bs:List DBlock} {h n:Nat}:((n:Nat):Int) ∈ castL (lpTo bs bs.length h) ↔ inLoop bs h n:=by
 rw [castL_memN,lpTo_mem]
 exact ⟨fun h=>h.2,fun h=>⟨h.rc.lt,h⟩⟩
end Go.Ab
namespace Go.Ab.L9
open Go Go.Ab Go.Proofs
abbrev awk9B (k to els:Int):DBlock:=⟨false,⟨0,[],false,false⟩,[],⟨k,0,0,0,[],to,els,0⟩⟩
abbrev awk9F:DFunc:=⟨0,1,rowL 2 1⟩
abbrev awk9BT (k to els:Int):List TV:=[B false,I 0,.lit nilV,B false,B false,.lit nilV,I k,I 0,I 0,I 0,.lit nilV,I to,I els,I 0]
abbrev awk9T:List TV:=[I 0,I 1,.sl false 14 [awk9BT 2 1 0,awk9BT 3 1 2,awk9BT 1 0 0]]
theorem awk9BR {k to els:Int} (h1:inI k) (h2:inI to) (h3:inI els):RBlock (some false) (awk9BT k to els) (awk9B k to els) :=
 have z:inI 0:=⟨by decide,by decide⟩
 ⟨.lit nilV,.lit nilV,.lit nilV,rfl,.nil,z,.nil,.nil,h1,z,z,z,h2,h3,z⟩
theorem awk9R:RFunc (some false) awk9T awk9F:=by
 have hi:∀ {n:Nat},n < 100→inI (n:Int):=fun h=>by constructor <;> omega
 refine ⟨_,rfl,.inr ⟨false,_,rfl,fun _ h=>by cases h; rfl,?_,by decide⟩,hi (n:=0) (by omega),hi (n:=1) (by omega)⟩
 show F2 _ _ [awk9B 2 1 0,awk9B 3 1 2,awk9B 1 0 0]
 exact .cons (awk9BR (hi (n:=2) (by omega)) (hi (n:=1) (by omega)) (hi (n:=0) (by omega))) (.cons (awk9BR (hi (n:=3) (by omega)) (hi (n:=1) (by omega)) (hi (n:=2) (by omega))) (.cons (awk9BR (hi (n:=1) (by omega)) (hi (n:=0) (by omega)) (hi (n:=0) (by omega))) .nil))
theorem rAwake9:Runs prog 7 [] (B true):=by
 have hi:∀ {n:Nat},n < 100→inI (n:Int):=fun h=>by constructor <;> omega
 have hR:JRow awk9F.blocks 2 (some 1):=rowL_row (by decide)
 have hs:awk9F.blocks.length≤30:=by decide
 obtain ⟨y0,h0,k0⟩:=rLoopAll awk9R hs
 rw [hR.loops_some] at k0
 have l1:RInts (some true) (.sl true 1 [[I 1]]) [1]:=.inr ⟨true,_,rfl,fun _ h=>by cases h; rfl,.cons ⟨rfl,hi (n:=1) (by omega)⟩ .nil,by decide⟩
 have h1:=rDeep awk9R hs (n:=((1:Nat):Int)) (hi (by omega))
 rw [hR.deep 1] at h1
 have h2:=rDeep awk9R hs (n:=((2:Nat):Int)) (hi (by omega))
 rw [hR.deep 2] at h2
 obtain ⟨e,he,v,rfl,hv⟩:=k0.pel (i:=0) rfl
 have hgp:=RL.deep k0 he (j:=1) (z:=v) rfl
 have hv':RInts (some false) v [1]:=hv
 have hints:=r14 (hv'.frz fun _ _ h=>h.frz) (l1.frz fun _ _ h=>h.frz)
 rw [tt_true rfl] at hints
 refine Runs.of f7_MR ?_
 unfold f7_M
 refine Goes.call (xs:=[.agg awk9T]) h0 (Goes.chk (fit_slc k0.isSl) (Goes.tv k0.len (Goes.tv (v:=B true) rfl (Goes.ite (v:=true) rfl (fun _=>?_) fun h=>nomatch h))))
 refine Goes.nat k0.slLen (Goes.nat (v:=0) rfl (Goes.chk ?_ (Goes.tvs he (Goes.chk rfl (Goes.tv (v:=B true) rfl (Goes.ite (v:=true) rfl (fun _=>?_) fun h=>nomatch h))))))
 ·rw [k0.slSize]; rfl
 refine Goes.nat k0.slLen (Goes.nat (v:=0) rfl (Goes.chk ?_ (Goes.tvs he (Goes.chk ?_ (Goes.tv hgp (Goes.call (xs:=[frz v,frz (.sl true 1 [[I 1]])]) hints (Goes.chk rfl (Goes.ite (v:=true) rfl (fun _=>?_) fun h=>nomatch h))))))))
 ·rw [k0.slSize]; rfl
 ·show (v.isSl && true)=true
  rw [hv.isSl]; rfl
 refine Goes.call (xs:=[.agg awk9T,I 1]) h1 (Goes.chk rfl (Goes.tv (v:=B true) rfl (Goes.ite (v:=true) rfl (fun _=>?_) fun h=>nomatch h)))
 exact Goes.call (xs:=[.agg awk9T,I 2]) h2 (Goes.chk rfl (Goes.tv (v:=B true) rfl Goes.ret))
end Go.Ab.L9
end
section
set_option linter.unusedVariables false
set_option linter.unusedSectionVars false
set_option maxRecDepth 100000
namespace Go.Ab
end Go.Ab
namespace Go.Ab.L9
open Go Go.Ab Go.Proofs
theorem inc_ii {k:Nat} (h:k≤1000000):pbin (Kd.int IntKind.i64) BinOp.add (I (k:Int)) (I 1)=some (I ((k + 1:Nat):Int)):=by
 have:=add_ii (a:=(k:Int)) (b:=1) (by omega) (by omega)
 rw [show (k:Int) + 1=((k + 1:Nat):Int) by omega] at this
 exact this
section
variable {qf:Option Bool} {b:TV} {f:DFunc} (hf:RFunc qf [I f.params,I f.regs,b] f) (hs:f.blocks.length≤30) {w:TV} (hw:RL (some true) 2 (RV (some false)) w (loopsL f.blocks))
include hf hs hw
section
variable {i:Nat} {p:Nat × List Int} (hp:(loopsL f.blocks)[i]? = some p) {vi:TV} (hei:Go.Ab.pel w i=some [I (p.1:Nat),vi]) (kvi:RInts (some false) vi p.2)
include hp hei kvi
end
end
end Go.Ab.L9
end
section
set_option linter.unusedVariables false
set_option linter.unusedSectionVars false
set_option maxRecDepth 100000
namespace Go.Ab
def cntB (n:Nat) (M:Nat→Bool):Nat:=((List.range n).filter M).length
theorem cntB_le (n:Nat) (M:Nat→Bool):cntB n M≤n:=Nat.le_trans (List.length_filter_le _ _) (by simp)
theorem cntB_set {M:Nat→Bool} {k:Nat} (h:M k=false):∀ {n:Nat},k < n→cntB n (updF M k true)=cntB n M + 1:=by
 have low:∀ n,n≤k→cntB n (updF M k true)=cntB n M:=by
  intro n hn
  unfold cntB
  rw [List.filter_congr (q:=M) fun a ha=>updF_ne (by have:=List.mem_range.1 ha; omega)]
 intro n hn
 induction n with
 | zero=>omega
 | succ n ih =>
  unfold cntB at *
  rw [List.range_succ,List.filter_append,List.filter_append,List.length_append,List.length_append]
  by_cases e:n=k
  ·subst e
   rw [low n (Nat.le_refl _)]
   simp [h,updF_at]
  ·rw [ih (by omega)]
   have:updF M k true n=M n:=updF_ne e
   simp only [List.filter_cons,this,List.filter_nil]
   omega
theorem updF_same {α:Type} {M:Nat→α} {k:Nat} {v:α} (h:M k=v):updF M k v=M:=by
 funext i
 by_cases e:i=k
 ·subst e; rw [updF_at,h]
 ·rw [updF_ne e]
theorem Cm.lt {bs:List DBlock} {to no k:Nat} (h:Cm bs to no k) (ht:to < bs.length):k < bs.length:=by
 cases h with
 | refl _=>exact ht
 | @back _ g hk hg _ =>
  refine Nat.lt_of_not_le fun hle=>?_
  have:nextAt bs k=[]:=by
   unfold nextAt
   rw [List.getElem?_eq_none hle]
  rw [this] at hg
  cases hg
theorem RBArr.congr {w:TV} {n:Nat} {g g':Nat→Bool} (h:RBArr w n g) (e:∀ i,i < n→g i=g' i):RBArr w n g':=by
 show RBools (some true) w (tabL n g')
 rw [← tabL_congr e]
 exact h
noncomputable def cmL (bs:List DBlock) (to no:Nat):Nat→Bool:=fun k=>tt (Cm bs to no k)
end Go.Ab
namespace Go.Ab.L9
open Go Go.Ab Go.Proofs
section
variable {qf:Option Bool} {b:TV} {f:DFunc} (hf:RFunc qf [I f.params,I f.regs,b] f) (hs:f.blocks.length≤30) {to no:Nat} (ht:to < f.blocks.length) (hno:no < f.blocks.length)
include hf hs ht hno
theorem comesRound : ∀ (z : Nat) (w : TV) (M : Nat → Bool), f.blocks.length - cntB f.blocks.length M < z → RBArr w f.blocks.length M → M to = true → (∀ k, M k = true → Cm f.blocks to no k) →
  ∃ y,Goes prog 21 (f21_0 (I no) (B true) (I f.params) (I f.regs) b w) y∧RBArr y f.blocks.length (cmL f.blocks to no):=by
 intro z
 induction z with
 | zero=>intro w M hz; omega
 | succ z ihz =>
  intro w0 M0 hz hw0 hM0 hS0
  have sweep : ∀ (d n : Nat) (c : Bool) (w : TV) (M : Nat → Bool), n + d = f.blocks.length → RBArr w f.blocks.length M → M to = true → (∀ k, M k = true → Cm f.blocks to no k) → cntB f.blocks.length M0 ≤ cntB f.blocks.length M → (c = true → cntB f.blocks.length M0 < cntB f.blocks.length M) →
    (c=false→∀ n',n' < n→n'≠no→∀ g ∈ nextAt f.blocks n',M g.toNat=true→M n'=true) →
    ∃ y,Goes prog 21 (f21_1 (I no) (B c) (I n) (I f.params) (I f.regs) b w) y∧RBArr y f.blocks.length (cmL f.blocks to no):=by
   intro d
   induction d with
   | zero =>
    intro n c w M hn hw hM hS hle hc1 hc0
    have hn:n=f.blocks.length:=by omega
    subst hn
    have hlen:RL.len (t:=4) hw=RL.len (t:=4) hw:=rfl
    have hl:=RL.len (t:=4) hw
    rw [tabL_len] at hl
    cases c with
    | true =>
     have:=hc1 rfl
     have hcl:=cntB_le f.blocks.length M
     obtain ⟨y,hy,hq⟩:=ihz w M (by omega) hw hM hS
     refine ⟨y,?_,hq⟩
     unfold f21_1
     exact Goes.tv hl (Goes.tv rfl (Goes.ite asB_end (fun h=>nomatch h) fun _=>f21_0_J hy))
    | false =>
     have hcl:=hc0 rfl
     have hfull:∀ k,Cm f.blocks to no k→M k=true:=by
      intro k hk
      induction hk with
      | refl _=>exact hM
      | @back k g hkn hg h ih =>
       have hkl:k < f.blocks.length:=Cm.lt (.back hkn hg h) ht
       exact hcl k hkl hkn g hg ih
     have hMe:M=cmL f.blocks to no:=by
      funext k
      unfold cmL
      by_cases e:Cm f.blocks to no k
      ·rw [tt_true e,hfull k e]
      ·rw [tt_false e]
       cases hk:M k with
       | false=>rfl
       | true=>exact absurd (hS k hk) e
     subst hMe
     refine ⟨w,?_,hw⟩
     unfold f21_1
     refine Goes.tv hl (Goes.tv rfl (Goes.ite asB_end (fun h=>nomatch h) fun _=>f21_0_J ?_))
     unfold f21_0
     exact Goes.ite (v:=false) rfl (fun h=>nomatch h) fun _=>Goes.ret
   | succ d ih =>
    intro n c w M hn hw hM hS hle hc1 hc0
    have hnl:n < f.blocks.length:=by omega
    have hl:=RL.len (t:=4) hw
    rw [tabL_len] at hl
    have gn:=RBArr.get hw hnl
    have ann:asNat (I (n:Nat))=some n:=asNat_nat (by omega)
    have cn:(Bool.and (slSize w 1) (Nat.blt n (tabL f.blocks.length M).length))=true:=by rw [RL.slSize hw]; simp [tabL_len]; exact hnl
    have skip:(M n=true∨n=no)→∃ y,Goes prog 21 (f21_1 (I no) (B c) (I ((n + 1:Nat):Int)) (I f.params) (I f.regs) b w) y∧RBArr y f.blocks.length (cmL f.blocks to no):=fun hsk =>
     ih (n + 1) c w M (by omega) hw hM hS hle hc1 fun hcf n' hn' hne g hg hMg=>by
      by_cases e:n'=n
      ·subst e
       exact hsk.resolve_right hne
      ·exact hc0 hcf n' (by omega) hne g hg hMg
    by_cases hMn:M n=true
    ·obtain ⟨y,hy,hq⟩:=skip (.inl hMn)
     refine ⟨y,?_,hq⟩
     unfold f21_1
     exact Goes.tv hl (Goes.tv rfl (Goes.ite (asB_lt hnl) (fun _=>Goes.nat (RL.slLen hw) (Goes.nat ann (Goes.chk cn (Goes.tvs gn (Goes.chk rfl (Goes.ite (v:=M n) rfl (fun _=>Goes.tv (inc_ii (by omega)) (f21_1_J hy)) fun h=>absurd hMn (by rw [h]; exact Bool.false_ne_true))))))) fun h=>nomatch h))
    ·have hMn : M n = false := by simpa using hMn
     by_cases hnn:n=no
     ·obtain ⟨y,hy,hq⟩:=skip (.inr hnn)
      refine ⟨y,?_,hq⟩
      unfold f21_1
      refine Goes.tv hl (Goes.tv rfl (Goes.ite (asB_lt hnl) (fun _=>Goes.nat (RL.slLen hw) (Goes.nat ann (Goes.chk cn (Goes.tvs gn (Goes.chk rfl (Goes.ite (v:=M n) rfl (fun h=>absurd h (by rw [hMn]; exact Bool.false_ne_true)) fun _=>Goes.tv (v:=B true) ?_ (Goes.ite (v:=true) rfl (fun _=>Goes.tv (inc_ii (by omega)) (f21_1_J hy)) fun h=>nomatch h))))))) fun h=>nomatch h))
      show some (B ((n:Int) == (no:Int)))=_
      rw [hnn]; simp
     ·obtain ⟨v,hv,kv⟩:=r72 hf ((n:Nat):Int)
      rw [nextL_nat] at kv
      have hnx:=nextAt_len f.blocks n
      have inner : ∀ (e j : Nat) (c : Bool) (w : TV) (M : Nat → Bool), j + e = (nextAt f.blocks n).length → RBArr w f.blocks.length M → M to = true → (∀ k, M k = true → Cm f.blocks to no k) → cntB f.blocks.length M0 ≤ cntB f.blocks.length M → (c = true → cntB f.blocks.length M0 < cntB f.blocks.length M) → (M n = true → c = true) →
        (c=false→∀ n',n' < n→n'≠no→∀ g ∈ nextAt f.blocks n',M g.toNat=true→M n'=true)→(c=false→∀ g ∈ (nextAt f.blocks n).take j,M g.toNat=false) →
        ∃ y,Goes prog 21 (f21_2 (I no) (B c) (I n) (I j) (I f.params) (I f.regs) b w v) y∧RBArr y f.blocks.length (cmL f.blocks to no):=by
       intro e
       induction e with
       | zero =>
        intro j c w M hj hw hM hS hle hc1 hcn hc0 hcj
        have hj:j=(nextAt f.blocks n).length:=by omega
        subst hj
        rw [List.take_length] at hcj
        obtain ⟨y,hy,hq⟩:=ih (n + 1) c w M (by omega) hw hM hS hle hc1 fun hcf n' hn' hne g hg hMg=>by
         by_cases e:n'=n
         ·subst e
          rw [hcj hcf g hg] at hMg
          cases hMg
         ·exact hc0 hcf n' (by omega) hne g hg hMg
        refine ⟨y,?_,hq⟩
        unfold f21_2
        exact Goes.tv kv.len (Goes.tv rfl (Goes.ite asB_end (fun h=>nomatch h) fun _=>Goes.tv (inc_ii (by omega)) (f21_1_J hy)))
       | succ e ihe =>
        intro j c w M hj hw hM hS hle hc1 hcn hc0 hcj
        have hjl:j < (nextAt f.blocks n).length:=by omega
        obtain ⟨g,hg⟩:∃ g,(nextAt f.blocks n)[j]? = some g:=⟨_,List.getElem?_eq_getElem hjl⟩
        have hgm:=List.mem_of_getElem? hg
        have hgt:=nextAt_there hgm
        obtain ⟨x,rfl⟩:∃ x:Nat,g=(x:Int):=⟨g.toNat,by omega⟩
        have hxl:x < f.blocks.length:=by have:=hgt.2; omega
        obtain ⟨e1,he1,rfl,_⟩:=kv.pel hg
        have gx:=RBArr.get hw hxl
        have gn:=RBArr.get hw hnl
        have cj:(Bool.and (slSize v 1) (Nat.blt j (nextAt f.blocks n).length))=true:=by rw [kv.slSize]; simp; exact hjl
        have cx:(Bool.and (slSize w 1) (Nat.blt x (tabL f.blocks.length M).length))=true:=by rw [RL.slSize hw]; simp [tabL_len]; exact hxl
        have cn:(Bool.and (slSize w 1) (Nat.blt n (tabL f.blocks.length M).length))=true:=by rw [RL.slSize hw]; simp [tabL_len]; exact hnl
        have anx:asNat (I (x:Nat))=some x:=asNat_nat (by omega)
        by_cases hMx:M x=true
        ·obtain ⟨w',a1,a2⟩:=RBArr.set hw hnl true
         have hcnt:cntB f.blocks.length M0 < cntB f.blocks.length (updF M n true):=by
          by_cases hMn:M n=true
          ·rw [updF_same hMn]; exact hc1 (hcn hMn)
          ·rw [cntB_set (by simpa using hMn) hnl]; omega
         obtain ⟨y,hy,hq⟩:=ihe (j + 1) true w' (updF M n true) (by omega) a2 (by
          by_cases e:to=n
          ·rw [e,updF_at]
          ·rw [updF_ne e]; exact hM) (fun k hk=>by
          by_cases e:k=n
          ·subst e
           exact .back hnn hgm (by simpa using hS x hMx)
          ·rw [updF_ne e] at hk; exact hS k hk) (by omega) (fun _=>hcnt) (fun _=>rfl) (fun h=>nomatch h) (fun h=>nomatch h)
         refine ⟨y,?_,hq⟩
         unfold f21_2
         refine Goes.tv kv.len (Goes.tv rfl (Goes.ite (asB_lt hjl) (fun _=>Goes.nat kv.slLen (Goes.nat (asNat_nat (k:=j) (by omega)) (Goes.chk cj (Goes.tvs he1 (Goes.chk rfl (Goes.nat (RL.slLen hw) (Goes.nat anx (Goes.chk cx (Goes.tvs gx (Goes.chk rfl (Goes.ite (v:=M x) rfl (fun _=>?_) fun h=>absurd hMx (by rw [h]; exact Bool.false_ne_true)))))))))))) fun h=>nomatch h))
         exact Goes.nat (RL.slLen hw) (Goes.nat ann (Goes.chk cn (Goes.tvs gn (Goes.chk rfl (Goes.tv a1 (Goes.tv (inc_ii (by omega)) (f21_2_J hy)))))))
        ·have hMx:M x=false:=by simpa using hMx
         obtain ⟨y,hy,hq⟩:=ihe (j + 1) c w M (by omega) hw hM hS hle hc1 hcn hc0 (fun hcf g' hg'=>by
          rw [take_get hg] at hg'
          rcases List.mem_append.1 hg' with hg' | hg'
          ·exact hcj hcf g' hg'
          ·rw [List.mem_singleton.1 hg',Int.toNat_natCast]; exact hMx)
         refine ⟨y,?_,hq⟩
         unfold f21_2
         exact Goes.tv kv.len (Goes.tv rfl (Goes.ite (asB_lt hjl) (fun _=>Goes.nat kv.slLen (Goes.nat (asNat_nat (k:=j) (by omega)) (Goes.chk cj (Goes.tvs he1 (Goes.chk rfl (Goes.nat (RL.slLen hw) (Goes.nat anx (Goes.chk cx (Goes.tvs gx (Goes.chk rfl (Goes.ite (v:=M x) rfl (fun h=>absurd h (by rw [hMx]; exact Bool.false_ne_true)) fun _=>Goes.tv (inc_ii (by omega)) (f21_2_J hy)))))))))))) fun h=>nomatch h))
      obtain ⟨y,hy,hq⟩:=inner _ 0 c w M (Nat.zero_add _) hw hM hS hle hc1 (fun h=>by rw [hMn] at h; cases h) hc0 (fun _ g hg=>by simp at hg)
      refine ⟨y,?_,hq⟩
      unfold f21_1
      refine Goes.tv hl (Goes.tv rfl (Goes.ite (asB_lt hnl) (fun _=>Goes.nat (RL.slLen hw) (Goes.nat ann (Goes.chk cn (Goes.tvs gn (Goes.chk rfl (Goes.ite (v:=M n) rfl (fun h=>absurd h (by rw [hMn]; exact Bool.false_ne_true)) fun _=>Goes.tv (v:=B false) ?_ (Goes.ite (v:=false) rfl (fun h=>nomatch h) fun _=>Goes.call hv (Goes.chk (fit_slc kv.isSl) (f21_2_J hy))))))))) fun h=>nomatch h))
      show some (B ((n:Int) == (no:Int)))=_
      have:((n:Int) == (no:Int))=false:=by simp; omega
      rw [this]
  obtain ⟨y,hy,hq⟩:=sweep f.blocks.length 0 false w0 M0 (by omega) hw0 hM0 hS0 (Nat.le_refl _) (fun h=>nomatch h) (fun _ n' h=>absurd h (Nat.not_lt_zero _))
  refine ⟨y,?_,hq⟩
  unfold f21_0
  exact Goes.ite (v:=true) rfl (fun _=>f21_1_J hy) fun h=>nomatch h
end
theorem rComes9 {q:Option Bool} {e:List TV} {f:DFunc} (he:RFunc q e f) (hs:f.blocks.length≤30) {to no:Nat} (ht:to < f.blocks.length) (hno:no < f.blocks.length):∃ y,Runs prog 21 [.agg e,I (to:Nat),I (no:Nat)] y∧RBArr y f.blocks.length (cmL f.blocks to no):=by
 have he0:=he
 obtain ⟨b,rfl,hb,_⟩:=he
 have hn:asNat (I (f.blocks.length:Nat))=some f.blocks.length:=asNat_nat (by omega)
 have k0:=rep_barr (n:=f.blocks.length) (by omega)
 by_cases e:to=no
 ·refine ⟨_,?_,RBArr.congr k0 (g':=cmL f.blocks to no) fun i _=>by unfold cmL; rw [tt_false fun h=>h.to_ne e]⟩
  refine Runs.of (f21_MR _ _ _) ?_
  unfold f21_M
  refine Goes.chk rfl (Goes.tv hb.len (Goes.nat hn (Goes.nat hn (Goes.chk (by simp; omega) (Goes.tv (v:=B true) ?_ (Goes.ite (v:=true) rfl (fun _=>Goes.ret) fun h=>nomatch h))))))
  show some (B ((to:Int) == (no:Int)))=_
  rw [e]; simp
 ·have gt:=RBArr.get k0 ht
  obtain ⟨w',a1,a2⟩:=RBArr.set k0 ht true
  obtain ⟨y,hy,hq⟩:=comesRound he0 hs ht hno (f.blocks.length + 1) w' _ (by omega) a2 updF_at (fun k hk=>by
   by_cases e2:k=to
   ·subst e2; exact .refl e
   ·rw [updF_ne e2] at hk; cases hk)
  refine ⟨y,?_,hq⟩
  refine Runs.of (f21_MR _ _ _) ?_
  unfold f21_M
  refine Goes.chk rfl (Goes.tv hb.len (Goes.nat hn (Goes.nat hn (Goes.chk (by simp; omega) (Goes.tv (v:=B false) ?_ (Goes.ite (v:=false) rfl (fun h=>nomatch h) fun _=>?_))))))
  ·show some (B ((to:Int) == (no:Int)))=_
   have:((to:Int) == (no:Int))=false:=by simp; omega
   rw [this]
  ·refine Goes.nat (RL.slLen k0) (Goes.nat (asNat_nat (k:=to) (by omega)) (Goes.chk ?_ (Goes.tvs gt (Goes.chk rfl (Goes.tv a1 (f21_0_J hy))))))
   rw [RL.slSize k0]; simp [tabL_len]; exact ht
end Go.Ab.L9
end
section
set_option linter.unusedVariables false
set_option linter.unusedSectionVars false
set_option maxRecDepth 100000
namespace Go.Ab
def inTo (bs:List DBlock) (h n k:Nat):Prop:=∃ n',n' < n∧Bk bs h n'∧Cm bs n' h k∧Dm bs h k
def bkTo (bs:List DBlock) (h n:Nat):Prop:=∃ n',n' < n∧Bk bs h n'
theorem inTo_skip {bs:List DBlock} {h n k:Nat} (hb:¬ Bk bs h n):inTo bs h (n + 1) k ↔ inTo bs h n k:=by
 constructor
 ·rintro ⟨n',h1,h2⟩
  by_cases e:n'=n
  ·subst e; exact absurd h2.1 hb
  ·exact ⟨n',by omega,h2⟩
 ·rintro ⟨n',h1,h2⟩; exact ⟨n',by omega,h2⟩
theorem bkTo_skip {bs:List DBlock} {h n:Nat} (hb:¬ Bk bs h n):bkTo bs h (n + 1) ↔ bkTo bs h n:=by
 constructor
 ·rintro ⟨n',h1,h2⟩
  by_cases e:n'=n
  ·subst e; exact absurd h2 hb
  ·exact ⟨n',by omega,h2⟩
 ·rintro ⟨n',h1,h2⟩; exact ⟨n',by omega,h2⟩
theorem inTo_more {bs:List DBlock} {h n k:Nat} (hb:Bk bs h n):inTo bs h (n + 1) k ↔ inTo bs h n k∨(Cm bs n h k∧Dm bs h k):=by
 constructor
 ·rintro ⟨n',h1,h2⟩
  by_cases e:n'=n
  ·subst e; exact .inr h2.2
  ·exact .inl ⟨n',by omega,h2⟩
 ·rintro (⟨n',h1,h2⟩ | h2)
  ·exact ⟨n',by omega,h2⟩
  ·exact ⟨n,by omega,hb,h2⟩
theorem bkTo_all {bs:List DBlock} {h:Nat}:bkTo bs h bs.length ↔ isHead bs h :=
 ⟨fun ⟨n',_,h⟩=>⟨n',h⟩,fun ⟨n',h⟩=>⟨n',h.1.1.lt,h⟩⟩
theorem inTo_all {bs:List DBlock} {h k:Nat} (hh:isHead bs h):inLoop bs h k ↔ k=h∨inTo bs h bs.length k:=by
 constructor
 ·rintro ⟨_,e | ⟨hd,n,hn,hc⟩⟩
  ·exact .inl e
  ·exact .inr ⟨n,hn.1.1.lt,hn,hc,hd⟩
 ·rintro (e | ⟨n,_,hn,hc,hd⟩)
  ·exact ⟨hh,.inl e⟩
  ·exact ⟨hh,.inr ⟨hd,n,hn,hc⟩⟩
end Go.Ab
namespace Go.Ab.L9
open Go Go.Ab Go.Proofs
section
variable {qf:Option Bool} {b:TV} {f:DFunc} (hf:RFunc qf [I f.params,I f.regs,b] f) (hb:RL qf 14 (RBlock qf) b f.blocks) (hs:f.blocks.length≤30) {wo:TV} (kA:RL (some true) 1 (RBL (some true)) wo (allL f.blocks))
include hf hb hs kA
theorem refList {h:Nat} (hh:isHead f.blocks h) {win:TV} (ki:RBArr win f.blocks.length fun k=>tt (inLoop f.blocks h k)) {out:TV} (ko:RL (some true) 2 (RV (some true)) out (loopsTo f.blocks h))
  (hnext:∀ out',RL (some true) 2 (RV (some true)) out' (loopsTo f.blocks (h + 1))→∃ y,Goes prog 9 (f9_0 (I ((h + 1:Nat):Int)) (I f.params) (I f.regs) b wo out') y∧RL (some true) 2 (RV (some true)) y (loopsL f.blocks)) :
  ∀ (d k:Nat) (w:TV),k + d=f.blocks.length→RInts (some true) w (castL (lpTo f.blocks k h))→∃ y,Goes prog 9 (f9_4 (I h) (I k) (I f.params) (I f.regs) b wo out win (I h) w) y∧RL (some true) 2 (RV (some true)) y (loopsL f.blocks):=by
 have hhl:=hh.rc.lt
 have hl:=RL.len (t:=4) ki
 rw [tabL_len] at hl
 intro d
 induction d with
 | zero =>
  intro k w hk hw
  have hk:k=f.blocks.length:=by omega
  subst hk
  have hol:=loopsTo_len f.blocks h
  obtain ⟨out',a1,a2⟩:=RL.app ko (e:=[I (h:Nat),w]) (a:=(h,castL (lpTo f.blocks f.blocks.length h))) ⟨w,rfl,hw⟩ (by omega)
  obtain ⟨y,hy,hq⟩:=hnext out' (by rw [loopsTo_succ,if_pos hh]; exact a2)
  refine ⟨y,?_,hq⟩
  unfold f9_4
  refine Goes.tv hl (Goes.tv rfl (Goes.ite asB_end (fun h=>nomatch h) fun _=>f9_5_J ?_))
  unfold f9_5
  exact Goes.rws rfl (Goes.tv a1 (Goes.tv (inc_ii (by omega)) (f9_0_J hy)))
 | succ d ih =>
  intro k w hk hw
  have hkl:k < f.blocks.length:=by omega
  have gk:=RBArr.get ki hkl
  have ank:asNat (I (k:Nat))=some k:=asNat_nat (by omega)
  have ck:(Bool.and (slSize win 1) (Nat.blt k (tabL f.blocks.length fun k=>tt (inLoop f.blocks h k)).length))=true:=by rw [RL.slSize ki]; simp [tabL_len]; exact hkl
  by_cases e:inLoop f.blocks h k
  ·rw [tt_true e] at gk
   have hll:=lpTo_len f.blocks k h
   obtain ⟨w',a1,a2⟩:=RL.app hw (e:=[I (k:Nat)]) (a:=((k:Nat):Int)) ⟨rfl,by constructor <;> omega⟩ (by rw [castL_len]; omega)
   obtain ⟨y,hy,hq⟩:=ih (k + 1) w' (by omega) (by rw [lpTo_succ,if_pos e,castL_app]; exact a2)
   refine ⟨y,?_,hq⟩
   unfold f9_4
   exact Goes.tv hl (Goes.tv rfl (Goes.ite (asB_lt hkl) (fun _=>Goes.nat (RL.slLen ki) (Goes.nat ank (Goes.chk ck (Goes.tvs gk (Goes.chk rfl (Goes.ite (v:=true) rfl (fun _=>Goes.chk rfl (Goes.rws rfl (Goes.tv a1 (Goes.tv (inc_ii (by omega)) (f9_4_J hy))))) fun h=>nomatch h)))))) fun h=>nomatch h))
  ·rw [tt_false e] at gk
   obtain ⟨y,hy,hq⟩:=ih (k + 1) w (by omega) (by rw [lpTo_succ,if_neg e]; exact hw)
   refine ⟨y,?_,hq⟩
   unfold f9_4
   exact Goes.tv hl (Goes.tv rfl (Goes.ite (asB_lt hkl) (fun _=>Goes.nat (RL.slLen ki) (Goes.nat ank (Goes.chk ck (Goes.tvs gk (Goes.chk rfl (Goes.ite (v:=false) rfl (fun h=>nomatch h) fun _=>Goes.tv (inc_ii (by omega)) (f9_4_J hy))))))) fun h=>nomatch h))
theorem refPut {h n:Nat} (hhl:h < f.blocks.length) (hn:n < f.blocks.length) (hB:Bk f.blocks h n) {out wf:TV} (kf:RBArr wf f.blocks.length (cmL f.blocks n h))
  (hnext:∀ w,(RBArr w f.blocks.length fun k=>tt (inTo f.blocks h (n + 1) k))→∃ y,Goes prog 9 (f9_1 (I h) (B true) (I ((n + 1:Nat):Int)) (I f.params) (I f.regs) b wo out w) y∧RL (some true) 2 (RV (some true)) y (loopsL f.blocks)) :
  ∀ (d k:Nat) (w:TV),k + d=f.blocks.length→(RBArr w f.blocks.length fun i=>if i < k then tt (inTo f.blocks h (n + 1) i) else tt (inTo f.blocks h n i))→∃ y,Goes prog 9 (f9_2 (I h) (B true) (I n) (I k) (I f.params) (I f.regs) b wo out w wf) y∧RL (some true) 2 (RV (some true)) y (loopsL f.blocks):=by
 intro d
 induction d with
 | zero =>
  intro k w hk hw
  have hk:k=f.blocks.length:=by omega
  subst hk
  have hl:=RL.len (t:=4) hw
  rw [tabL_len] at hl
  obtain ⟨y,hy,hq⟩:=hnext w (RBArr.congr hw fun i hi=>if_pos hi)
  refine ⟨y,?_,hq⟩
  unfold f9_2
  exact Goes.tv hl (Goes.tv rfl (Goes.ite asB_end (fun h=>nomatch h) fun _=>Goes.tv (inc_ii (by omega)) (f9_1_J hy)))
 | succ d ih =>
  intro k w hk hw
  have hkl:k < f.blocks.length:=by omega
  have hl:=RL.len (t:=4) hw
  rw [tabL_len] at hl
  have gk:=RBArr.get hw hkl
  rw [if_neg (Nat.lt_irrefl k)] at gk
  have gf:=RBArr.get kf hkl
  have ank:asNat (I (k:Nat))=some k:=asNat_nat (by omega)
  have ck:(Bool.and (slSize w 1) (Nat.blt k (tabL f.blocks.length fun i=>if i < k then tt (inTo f.blocks h (n + 1) i) else tt (inTo f.blocks h n i)).length))=true:=by rw [RL.slSize hw]; simp [tabL_len]; exact hkl
  have cf:(Bool.and (slSize wf 1) (Nat.blt k (tabL f.blocks.length (cmL f.blocks n h)).length))=true:=by rw [RL.slSize kf]; simp [tabL_len]; exact hkl
  obtain ⟨w',a1,a2⟩:=RBArr.set hw hkl (tt (inTo f.blocks h (n + 1) k))
  obtain ⟨y,hy,hq⟩:=ih (k + 1) w' (by omega) (RBArr.congr a2 fun i _=>by
   by_cases e:i=k
   ·subst e; rw [updF_at,if_pos (by omega)]
   ·rw [updF_ne e]
    by_cases h1:i < k
    ·rw [if_pos h1,if_pos (by omega)]
    ·rw [if_neg h1,if_neg (by omega)])
  refine ⟨y,?_,hq⟩
  unfold f9_2
  refine Goes.tv hl (Goes.tv rfl (Goes.ite (asB_lt hkl) (fun _=>Goes.nat (RL.slLen hw) (Goes.nat ank (Goes.chk ck (Goes.tvs gk (Goes.chk rfl (Goes.ite (v:=tt (inTo f.blocks h n k)) rfl (fun h1=>?_) fun h1=>?_)))))) fun h=>nomatch h))
  ·have e1:inTo f.blocks h n k:=tt_iff1.1 h1
   rw [tt_true ((inTo_more hB).2 (.inl e1))] at a1
   exact Goes.nat (RL.slLen hw) (Goes.nat ank (Goes.chk ck (Goes.tvs gk (Goes.chk rfl (Goes.tv a1 (Goes.tv (inc_ii (by omega)) (f9_2_J hy)))))))
  ·have e1:¬ inTo f.blocks h n k:=fun e=>by rw [tt_true e] at h1; cases h1
   refine Goes.nat (RL.slLen kf) (Goes.nat ank (Goes.chk cf (Goes.tvs gf (Goes.chk rfl (Goes.ite (v:=cmL f.blocks n h k) rfl (fun h2=>?_) fun h2=>?_)))))
   ·have e2:Cm f.blocks n h k:=tt_iff1.1 h2
    rw [tt_iff2 (show inTo f.blocks h (n + 1) k ↔ Dm f.blocks h k from (inTo_more hB).trans ⟨fun q=>q.elim (fun q=>absurd q e1) fun q=>q.2,fun q=>.inr ⟨e2,q⟩⟩)] at a1
    refine allCell kA (by omega) hhl hkl ?_
    exact Goes.nat (RL.slLen hw) (Goes.nat ank (Goes.chk ck (Goes.tvs gk (Goes.chk rfl (Goes.tv a1 (Goes.tv (inc_ii (by omega)) (f9_2_J hy)))))))
   ·have e2:¬ Cm f.blocks n h k:=fun e=>by unfold cmL at h2; rw [tt_true e] at h2; cases h2
    rw [tt_false (show ¬ inTo f.blocks h (n + 1) k from fun q=>((inTo_more hB).1 q).elim e1 fun q=>e2 q.1)] at a1
    exact Goes.nat (RL.slLen hw) (Goes.nat ank (Goes.chk ck (Goes.tvs gk (Goes.chk rfl (Goes.tv a1 (Goes.tv (inc_ii (by omega)) (f9_2_J hy)))))))
theorem refHead {h:Nat} (hhl:h < f.blocks.length) {out:TV} (ko:RL (some true) 2 (RV (some true)) out (loopsTo f.blocks h))
  (hnext:∀ out',RL (some true) 2 (RV (some true)) out' (loopsTo f.blocks (h + 1))→∃ y,Goes prog 9 (f9_0 (I ((h + 1:Nat):Int)) (I f.params) (I f.regs) b wo out') y∧RL (some true) 2 (RV (some true)) y (loopsL f.blocks)) :
  ∀ (d n:Nat) (w:TV),n + d=f.blocks.length→(RBArr w f.blocks.length fun k=>tt (inTo f.blocks h n k))→∃ y,Goes prog 9 (f9_1 (I h) (B (tt (bkTo f.blocks h n))) (I n) (I f.params) (I f.regs) b wo out w) y∧RL (some true) 2 (RV (some true)) y (loopsL f.blocks):=by
 intro d
 induction d with
 | zero =>
  intro n w hn hw
  have hn:n=f.blocks.length:=by omega
  subst hn
  rw [tt_iff2 bkTo_all]
  by_cases hh:isHead f.blocks h
  ·rw [tt_true hh]
   have gh:=RBArr.get hw hhl
   obtain ⟨w',a1,a2⟩:=RBArr.set hw hhl true
   obtain ⟨y,hy,hq⟩:=refList hf hb hs kA hh (win:=w') (RBArr.congr a2 fun i _=>by
    rw [tt_iff2 (inTo_all hh (k:=i))]
    by_cases e:i=h
    ·subst e; rw [updF_at,tt_true (.inl rfl)]
    ·rw [updF_ne e]
     exact tt_iff2 ⟨.inr,fun q=>q.resolve_left e⟩) ko hnext f.blocks.length 0 (.lit nilV) (by omega) (by simpa [lpTo,castL] using RL.nil)
   refine ⟨y,?_,hq⟩
   unfold f9_1
   refine Goes.tv hb.len (Goes.tv rfl (Goes.ite asB_end (fun h=>nomatch h) fun _=>f9_3_J ?_))
   unfold f9_3
   refine Goes.tv (v:=B false) rfl (Goes.ite (v:=false) rfl (fun h=>nomatch h) fun _=>Goes.nat (RL.slLen hw) (Goes.nat (asNat_nat (k:=h) (by omega)) (Goes.chk ?_ (Goes.tvs gh (Goes.chk rfl (Goes.tv a1 (Goes.chk rfl (Goes.chk rfl (f9_4_J hy)))))))))
   rw [RL.slSize hw]; simp [tabL_len]; exact hhl
  ·rw [tt_false hh]
   obtain ⟨y,hy,hq⟩:=hnext out (by rw [loopsTo_succ,if_neg hh]; exact ko)
   refine ⟨y,?_,hq⟩
   unfold f9_1
   refine Goes.tv hb.len (Goes.tv rfl (Goes.ite asB_end (fun h=>nomatch h) fun _=>f9_3_J ?_))
   unfold f9_3
   exact Goes.tv (v:=B true) rfl (Goes.ite (v:=true) rfl (fun _=>Goes.tv (inc_ii (by omega)) (f9_0_J hy)) fun h=>nomatch h)
 | succ d ih =>
  intro n w hn hw
  have hnl:n < f.blocks.length:=by omega
  have skip:¬ Bk f.blocks h n→∃ y,Goes prog 9 (f9_1 (I h) (B (tt (bkTo f.blocks h n))) (I ((n + 1:Nat):Int)) (I f.params) (I f.regs) b wo out w) y∧RL (some true) 2 (RV (some true)) y (loopsL f.blocks):=fun hB=>by
   rw [← tt_iff2 (bkTo_skip hB)]
   exact ih (n + 1) w (by omega) (RBArr.congr hw fun i _=>(tt_iff2 (inTo_skip hB)).symm)
  obtain ⟨v,hv,kv⟩:=r72 hf ((n:Nat):Int)
  rw [nextL_nat] at kv
  have hhas:=r75 (kv.frz fun _ _ h=>h.frz) ((h:Nat):Int)
  by_cases hD:Dm f.blocks h n
  ·by_cases hG:((h:Nat):Int) ∈ nextAt f.blocks n
   ·have hB:Bk f.blocks h n:=⟨hD,hG⟩
    rw [decide_eq_true hG] at hhas
    obtain ⟨wf,hwf,kf⟩:=rComes9 hf hs hnl hhl
    obtain ⟨y,hy,hq⟩:=refPut hf hb hs kA hhl hnl hB kf (out:=out) (fun w' hw'=>by
     have:=ih (n + 1) w' (by omega) hw'
     rw [tt_true (show bkTo f.blocks h (n + 1) from ⟨n,by omega,hB⟩)] at this
     exact this) f.blocks.length 0 w (by omega) (RBArr.congr hw fun i _=>(if_neg (Nat.not_lt_zero i)).symm)
    refine ⟨y,?_,hq⟩
    unfold f9_1
    refine Goes.tv hb.len (Goes.tv rfl (Goes.ite (asB_lt hnl) (fun _=>allCell kA (by omega) hhl hnl ?_) fun h=>nomatch h))
    rw [tt_true hD]
    exact Goes.tv (v:=B false) rfl (Goes.ite (v:=false) rfl (fun h=>nomatch h) fun _=>Goes.call hv (Goes.chk (fit_slc kv.isSl) (Goes.call hhas (Goes.chk rfl (Goes.tv (v:=B false) rfl (Goes.ite (v:=false) rfl (fun h=>nomatch h) fun _=>Goes.call hwf (Goes.chk (fit_slc (RL.isSl kf)) (f9_2_J hy))))))))
   ·obtain ⟨y,hy,hq⟩:=skip fun q=>hG q.2
    rw [decide_eq_false hG] at hhas
    refine ⟨y,?_,hq⟩
    unfold f9_1
    refine Goes.tv hb.len (Goes.tv rfl (Goes.ite (asB_lt hnl) (fun _=>allCell kA (by omega) hhl hnl ?_) fun h=>nomatch h))
    rw [tt_true hD]
    exact Goes.tv (v:=B false) rfl (Goes.ite (v:=false) rfl (fun h=>nomatch h) fun _=>Goes.call hv (Goes.chk (fit_slc kv.isSl) (Goes.call hhas (Goes.chk rfl (Goes.tv (v:=B true) rfl (Goes.ite (v:=true) rfl (fun _=>Goes.tv (inc_ii (by omega)) (f9_1_J hy)) fun h=>nomatch h))))))
  ·obtain ⟨y,hy,hq⟩:=skip fun q=>hD q.1
   refine ⟨y,?_,hq⟩
   unfold f9_1
   refine Goes.tv hb.len (Goes.tv rfl (Goes.ite (asB_lt hnl) (fun _=>allCell kA (by omega) hhl hnl ?_) fun h=>nomatch h))
   rw [tt_false hD]
   exact Goes.tv (v:=B true) rfl (Goes.ite (v:=true) rfl (fun _=>Goes.tv (inc_ii (by omega)) (f9_1_J hy)) fun h=>nomatch h)
theorem refAll:∀ (d h:Nat) (out:TV),h + d=f.blocks.length→RL (some true) 2 (RV (some true)) out (loopsTo f.blocks h)→∃ y,Goes prog 9 (f9_0 (I h) (I f.params) (I f.regs) b wo out) y∧RL (some true) 2 (RV (some true)) y (loopsL f.blocks):=by
 intro d
 induction d with
 | zero =>
  intro h out hh ko
  have hh:h=f.blocks.length:=by omega
  subst hh
  refine ⟨out,?_,ko⟩
  unfold f9_0
  exact Goes.tv hb.len (Goes.tv rfl (Goes.ite asB_end (fun h=>nomatch h) fun _=>Goes.ret))
 | succ d ih =>
  intro h out hh ko
  have hhl:h < f.blocks.length:=by omega
  have hn:asNat (I (f.blocks.length:Nat))=some f.blocks.length:=asNat_nat (by omega)
  obtain ⟨y,hy,hq⟩:=refHead hf hb hs kA hhl ko (fun out' ko'=>ih (h + 1) out' (by omega) ko') f.blocks.length 0 _ (by omega) (RBArr.congr (rep_barr (n:=f.blocks.length) (by omega)) fun i _=>(tt_false fun ⟨n',h1,_⟩=>absurd h1 (Nat.not_lt_zero _)).symm)
  rw [tt_false (show ¬ bkTo f.blocks h 0 from fun ⟨n',h1,_⟩=>absurd h1 (Nat.not_lt_zero _))] at hy
  refine ⟨y,?_,hq⟩
  unfold f9_0
  exact Goes.tv hb.len (Goes.tv rfl (Goes.ite (asB_lt hhl) (fun _=>Goes.tv hb.len (Goes.nat hn (Goes.nat hn (Goes.chk (by simp; omega) (f9_1_J hy))))) fun h=>nomatch h))
end
theorem rAllR9 {q:Option Bool} {e:List TV} {f:DFunc} (he:RFunc q e f) (hs:f.blocks.length≤30):∃ y,Runs prog 9 [.agg e] y∧RL (some true) 2 (RV (some true)) y (loopsL f.blocks):=by
 have he0:=he
 obtain ⟨wo,hwo,kA⟩:=rAllR8 he (by omega)
 obtain ⟨b,rfl,hb,_⟩:=he
 obtain ⟨y,hy,hq⟩:=refAll he0 hb hs kA f.blocks.length 0 (.lit nilV) (by omega) (by simpa [loopsTo] using RL.nil)
 refine ⟨y,?_,hq⟩
 refine Runs.of (f9_MR _) ?_
 unfold f9_M
 exact Goes.chk rfl (Goes.call hwo (Goes.chk (fit_slc kA.isSl) (Goes.chk rfl (f9_0_J hy))))
end Go.Ab.L9
end
section
set_option linter.unusedVariables false
set_option linter.unusedSectionVars false
set_option maxRecDepth 100000
namespace Go.Ab
theorem deep_cnt (bs:List DBlock) (n:Int):((loopsL bs).filter fun p=>decide (n ∈ p.2)).length=deepL bs n:=by
 unfold loopsL loopsTo
 rw [List.filter_map,List.length_map,List.filter_filter]
 unfold deepL
 split
 ·rename_i h0
  congr 1
  refine List.filter_congr fun h _=>?_
  have e:n=((n.toNat:Nat):Int):=by omega
  show (decide (n ∈ castL (lpTo bs bs.length h)) && tt (isHead bs h))=tt (inLoop bs h n.toNat)
  by_cases hl:inLoop bs h n.toNat
  ·rw [tt_true hl,tt_true hl.1,decide_eq_true (by rw [e]; exact lpTo_in.2 hl)]; rfl
  ·rw [tt_false hl,decide_eq_false (by rw [e]; exact fun q=>hl (lpTo_in.1 q))]; rfl
 ·rename_i h0
  rw [List.length_eq_zero_iff,List.filter_eq_nil_iff]
  intro h _ hq
  have hm:n ∈ castL (lpTo bs bs.length h):=by
   have:(decide (n ∈ castL (lpTo bs bs.length h)) && tt (isHead bs h))=true:=hq
   rw [Bool.and_eq_true] at this
   exact of_decide_eq_true this.1
  unfold castL at hm
  obtain ⟨a,_,e⟩:=List.mem_map.1 hm
  omega
end Go.Ab
namespace Go.Ab.L9
open Go Go.Ab Go.Proofs
section
variable {qf:Option Bool} {b:TV} {f:DFunc} (hf:RFunc qf [I f.params,I f.regs,b] f) (hs:f.blocks.length≤30) {q1 q2:Option Bool} {w v:TV} (hw:RL (some true) 2 (RV q1) w (loopsL f.blocks)) (hv:RL (some true) 2 (RV q2) v (loopsL f.blocks)) {n:Int} (hn:inI n)
include hf hs hw hv hn
theorem rightLoop:∀ (d i:Nat),i + d=(loopsL f.blocks).length→Goes prog 3 (f3_0 (I n) (I ((((loopsL f.blocks).take i).filter fun p=>decide (n ∈ p.2)).length:Nat)) (I i) (I f.params) (I f.regs) b w v) (B true):=by
 have hll:(loopsL f.blocks).length≤30:=Nat.le_trans (loopsTo_len _ _) hs
 intro d
 induction d with
 | zero =>
  intro i hi
  have hi:i=(loopsL f.blocks).length:=by omega
  subst hi
  rw [List.take_length,deep_cnt]
  have hd:=rDeep hf hs hn
  unfold f3_0
  refine Goes.tv hw.len (Goes.tv rfl (Goes.ite asB_end (fun h=>nomatch h) fun _=>f3_1_J ?_))
  unfold f3_1
  refine Goes.call hd (Goes.chk rfl (Goes.tv (v:=B true) ?_ Goes.ret))
  show some (B (((deepL f.blocks n:Nat):Int) == ((deepL f.blocks n:Nat):Int)))=_
  simp
 | succ d ih =>
  intro i hi
  have hil:i < (loopsL f.blocks).length:=by omega
  obtain ⟨p,hp⟩:∃ p,(loopsL f.blocks)[i]? = some p:=⟨_,List.getElem?_eq_getElem hil⟩
  obtain ⟨e1,h1,v1,rfl,k1⟩:=hw.pel hp
  obtain ⟨e2,h2,v2,rfl,k2⟩:=hv.pel hp
  have g1:=RL.deep hw h1 (j:=1) (z:=v1) rfl
  have g2:=RL.deep hv h2 (j:=1) (z:=v2) rfl
  have ani:asNat (I (i:Nat))=some i:=asNat_nat (by omega)
  have cw:(Bool.and (slSize w 2) (Nat.blt i (loopsL f.blocks).length))=true:=by rw [hw.slSize]; simp; exact hil
  have cv:(Bool.and (slSize v 2) (Nat.blt i (loopsL f.blocks).length))=true:=by rw [hv.slSize]; simp; exact hil
  have f1:fitsAt zSl [I (p.1:Nat),v1] 1=true:=by
   show (v1.isSl && true)=true
   rw [k1.isSl]; rfl
  have f2:fitsAt zSl [I (p.1:Nat),v2] 1=true:=by
   show (v2.isSl && true)=true
   rw [k2.isSl]; rfl
  have hints:=r14 (k1.frz fun _ _ h=>h.frz) (k2.frz fun _ _ h=>h.frz)
  rw [tt_true rfl] at hints
  have hhas:=r75 (k2.frz fun _ _ h=>h.frz) n
  have hgo:=ih (i + 1) (by omega)
  have hcl:(((loopsL f.blocks).take i).filter fun p=>decide (n ∈ p.2)).length≤30:=Nat.le_trans (List.length_filter_le _ _) (by rw [List.length_take]; omega)
  unfold f3_0
  refine Goes.tv hw.len (Goes.tv rfl (Goes.ite (asB_lt hil) (fun _=>?_) fun h=>nomatch h))
  refine Goes.nat hw.slLen (Goes.nat ani (Goes.chk cw (Goes.tvs h1 (Goes.chk rfl (Goes.nat hv.slLen (Goes.nat ani (Goes.chk cv (Goes.tvs h2 (Goes.chk rfl (Goes.tv (v:=B false) ?_ (Goes.ite (v:=false) rfl (fun h=>nomatch h) fun _=>?_)))))))))))
  ·show some (B ((p.1:Int) != (p.1:Int)))=_
   simp
  refine Goes.nat hw.slLen (Goes.nat ani (Goes.chk cw (Goes.tvs h1 (Goes.chk f1 (Goes.nat hv.slLen (Goes.nat ani (Goes.chk cv (Goes.tvs h2 (Goes.chk f2 (Goes.tv g1 (Goes.tv g2 (Goes.call hints (Goes.chk rfl (Goes.tv (v:=B false) rfl (Goes.ite (v:=false) rfl (fun h=>nomatch h) fun _=>?_)))))))))))))))
  refine Goes.nat hv.slLen (Goes.nat ani (Goes.chk cv (Goes.tvs h2 (Goes.chk f2 (Goes.tv g2 (Goes.call hhas (Goes.chk rfl (Goes.ite (v:=decide (n ∈ p.2)) rfl (fun hq=>?_) fun hq=>?_))))))))
  ·rw [take_get hp,List.filter_append,List.length_append] at hgo
   simp only [List.filter_cons,hq,if_true,List.filter_nil,List.length_cons,List.length_nil] at hgo
   exact Goes.tv (inc_ii (by omega)) (Goes.tv (inc_ii (by omega)) (f3_0_J hgo))
  ·rw [take_get hp,List.filter_append,List.length_append] at hgo
   simp only [List.filter_cons,hq,List.filter_nil] at hgo
   exact Goes.tv (inc_ii (by omega)) (f3_0_J hgo)
end
theorem rLoopRight {q:Option Bool} {e:List TV} {f:DFunc} (he:RFunc q e f) {n:Int} (hn:inI n):Runs prog 3 [.agg e,I n] (B true):=by
 have he0:=he
 obtain ⟨b,rfl,hb,_⟩:=he
 refine Runs.of (f3_MR _ _) ?_
 unfold f3_M
 refine Goes.chk rfl (Goes.call rAwake9 (Goes.chk rfl (Goes.tv rfl (Goes.ite (v:=false) rfl (fun h=>nomatch h) fun _=>Goes.tv hb.len (Goes.tv rfl (Goes.ite rfl (fun _=>Goes.ret) fun h=>?_))))))
 have hs:f.blocks.length≤30:=by
  have:¬ (f.blocks.length:Int) > 30:=by simpa using h
  omega
 obtain ⟨y,hy,k⟩:=rLoopAll he0 hs
 obtain ⟨z,hz,k'⟩:=rAllR9 he0 hs
 refine Goes.call hy (Goes.chk (fit_slc k.isSl) (Goes.call hz (Goes.chk (fit_slc k'.isSl) (Goes.tv k.len (Goes.tv k'.len (Goes.tv (v:=B false) ?_ (Goes.ite (v:=false) rfl (fun h=>nomatch h) fun _=>f3_0_J (rightLoop he0 hs k k' hn _ 0 (Nat.zero_add _)))))))))
 show some (B (((loopsL f.blocks).length:Int) != ((loopsL f.blocks).length:Int)))=_
 simp
end Go.Ab.L9
end
section
namespace Go.Ab
open Go.RowKit
set_option linter.unusedVariables false
theorem nth_eq {α:Type} (d:α):∀ (l:List α) (n:Nat),nth d l n=(l[n]?).getD d
 | [],n=>by simp [nth]
 | a :: l,0=>rfl
 | a :: l,n + 1=>by simp [nth,nth_eq d l n]
theorem setNth_eq {α:Type}:∀ (l:List α) (n:Nat) (b:α),setNth l n b=l.set n b
 | [],n,b=>by simp [setNth]
 | a :: l,0,b=>rfl
 | a :: l,n + 1,b=>by simp [setNth,setNth_eq l n b]
theorem nth_some {α:Type} {d:α} {l:List α} {n:Nat} {a:α} (h:l[n]? = some a):nth d l n=a:=by rw [nth_eq,h]; rfl
theorem beq_iff (a b:Nat):a.beq b=true ↔ a=b:=⟨Nat.eq_of_beq_eq_true,fun h=>h ▸ Nat.beq_refl a⟩
theorem memB_iff (n:Nat):∀ l:List Nat,memB n l=true ↔ n ∈ l
 | []=>by simp [memB]
 | a :: l => by
  cases h:a.beq n
  ·have:a≠n:=fun e=>by simp [e] at h
   simp only [memB,h,cond_false,memB_iff n l,List.mem_cons]
   constructor
   ·exact .inr
   ·rintro (e | e)
    ·exact absurd e.symm this
    ·exact e
  ·simp only [memB,h,cond_true,List.mem_cons,true_iff]
   exact .inl ((beq_iff a n).1 h).symm
theorem add_block (a:Addr) (k:Nat):(a.add k).block=a.block:=by unfold Addr.add; split <;> rfl
theorem add_add (a:Addr) (i j:Nat):(a.add i).add j=a.add (i + j):=by
 unfold Addr.add
 by_cases hi:i=0 <;> by_cases hj:j=0 <;> simp [hi,hj,Nat.add_assoc]
theorem add_lit (b o k:Nat):(⟨b,o,none⟩:Addr).add k=⟨b,o + k,none⟩:=by unfold Addr.add; split <;> simp_all
def spl {α:Type} (l:List α) (o:Nat) (ys:List α):List α:=l.take o ++ ys ++ l.drop (o + ys.length)
theorem spl_len {α:Type} {l ys:List α} {o:Nat} (h:o + ys.length≤l.length):(spl l o ys).length=l.length:=by
 simp only [spl,List.length_append,List.length_take,List.length_drop]
 omega
theorem spl_get {α:Type} {l ys:List α} {o:Nat} (h:o + ys.length≤l.length) (k:Nat):(spl l o ys)[k]? = if o≤k∧k < o + ys.length then ys[k - o]? else l[k]? := by
 have e1:(l.take o).length=o:=by simp; omega
 unfold spl
 by_cases h1:k < o
 ·rw [List.append_assoc,List.getElem?_append_left (by omega),List.getElem?_take,if_pos h1,if_neg (by omega)]
 ·by_cases h2:k < o + ys.length
  ·rw [List.append_assoc,List.getElem?_append_right (by omega),e1,List.getElem?_append_left (by omega),if_pos (by omega)]
  ·rw [List.getElem?_append_right (by simp; omega),List.getElem?_drop,if_neg (by omega)]
   congr 1
   simp
   omega
theorem setCells_eq {α:Type}:∀ (ps l:List α) (off:Nat),off + ps.length≤l.length→setCells l off ps=spl l off ps
 | [],l,off,h=>by simp [setCells,spl]
 | p :: ps, l, off, h => by
  have hlt:off < l.length:=by simp at h; omega
  simp only [setCells]
  rw [setNth_eq,setCells_eq ps (l.set off p) (off + 1) (by simp at h ⊢; omega)]
  apply List.ext_getElem?
  intro k
  rw [spl_get (by simp at h ⊢; omega),spl_get h]
  simp only [List.length_cons,List.getElem?_set]
  by_cases h1:k < off
  ·rw [if_neg (by omega),if_neg (by omega),if_neg (by omega)]
  ·by_cases h2:k=off
   ·subst h2
    rw [if_neg (by omega),if_pos (by omega)]
    simp [hlt]
   ·by_cases h3:k < off + (ps.length + 1)
    ·rw [if_pos (by omega),if_pos (by omega)]
     rw [show k - off=(k - (off + 1)) + 1 by omega,List.getElem?_cons_succ]
    ·rw [if_neg (by omega),if_neg (by omega),if_neg (by omega)]
theorem takeN_spec {α:Type}:∀ (l:List α) (o n:Nat) (r:List α),takeN l o n=some r→r.length=n∧(n=0∨o + n≤l.length)∧∀ j,j < n→r[j]? = l[o + j]?
 | l,o,0,r,h=>by cases l <;> simp [takeN] at h <;> subst h <;> simp
 | [],o,n + 1,r,h=>by simp [takeN] at h
 | a :: l, 0, n + 1, r, h => by
  simp only [takeN] at h
  cases h1:takeN l 0 n with
  | none=>simp [h1] at h
  | some r' =>
   simp only [h1,Option.some.injEq] at h
   subst h
   obtain ⟨i1,i2,i3⟩:=takeN_spec l 0 n r' h1
   refine ⟨by simp [i1],.inr (by simp; omega),fun j hj=>?_⟩
   cases j with
   | zero=>simp
   | succ j=>simpa using i3 j (by omega)
 | a :: l,o + 1,n + 1,r,h=>by
  simp only [takeN] at h
  obtain ⟨i1,i2,i3⟩:=takeN_spec l o (n + 1) r h
  refine ⟨i1,.inr (by rcases i2 with i2 | i2 <;> simp <;> omega),fun j hj=>?_⟩
  rw [i3 j hj,show o + 1 + j=(o + j) + 1 by omega,List.getElem?_cons_succ]
theorem flat_len {α:Type} {s:Nat}:∀ {xs:List (List α)},(∀ x ∈ xs,x.length=s)→xs.flatten.length=xs.length * s
 | [],_=>by simp
 | x :: xs,h=>by
  simp only [List.flatten_cons,List.length_append,List.length_cons,h x List.mem_cons_self,flat_len (fun y hy=>h y (List.mem_cons_of_mem _ hy)),Nat.add_mul]
  omega
theorem flat_get {α:Type} {s:Nat}:∀ {xs:List (List α)} {i j:Nat} {x:List α} {c:α},(∀ x ∈ xs,x.length=s)→xs[i]? = some x→x[j]? = some c→xs.flatten[i * s + j]? = some c
 | x :: xs,0,j,_,c,h,hi,hj=>by
  simp at hi
  subst hi
  rw [List.flatten_cons,List.getElem?_append_left (by simp; exact (List.getElem?_eq_some_iff.1 hj).1)]
  simpa using hj
 | x :: xs,i + 1,j,y,c,h,hi,hj=>by
  simp at hi
  have hx:=h x List.mem_cons_self
  rw [List.flatten_cons,List.getElem?_append_right (by rw [hx,Nat.add_mul]; omega),hx,show (i + 1) * s + j - s=i * s + j by rw [Nat.add_mul]; omega]
  exact flat_get (fun z hz=>h z (List.mem_cons_of_mem _ hz)) hi hj
theorem take_add {α:Type} {x l:List α} {s n:Nat} (h:x.length=s):(x ++ l).take (s + n)=x ++ l.take n:=by
 subst h
 exact List.take_length_add_append n
theorem drop_add {α:Type} {x l:List α} {s n:Nat} (h:x.length=s):(x ++ l).drop (s + n)=l.drop n:=by
 subst h
 exact List.drop_length_add_append n
theorem succ_mul' (n s:Nat):(n + 1) * s=s + n * s:=by rw [Nat.add_mul]; omega
theorem flat_take {α:Type} {s:Nat}:∀ {xs:List (List α)} (n:Nat),(∀ x ∈ xs,x.length=s)→(xs.take n).flatten=xs.flatten.take (n * s)
 | [],n,_=>by simp
 | x :: xs,0,_=>by simp
 | x :: xs,n + 1,h=>by
  have hx:=h x List.mem_cons_self
  rw [List.take_succ_cons,List.flatten_cons,List.flatten_cons,flat_take n (fun z hz=>h z (List.mem_cons_of_mem _ hz)),succ_mul',take_add hx]
theorem flat_drop {α:Type} {s:Nat}:∀ {xs:List (List α)} (n:Nat),(∀ x ∈ xs,x.length=s)→(xs.drop n).flatten=xs.flatten.drop (n * s)
 | [],n,_=>by simp
 | x :: xs,0,_=>by simp
 | x :: xs,n + 1,h=>by
  have hx:=h x List.mem_cons_self
  rw [List.drop_succ_cons,List.flatten_cons,flat_drop n (fun z hz=>h z (List.mem_cons_of_mem _ hz)),succ_mul',drop_add hx]
theorem flat_set {α:Type} {s:Nat}:∀ {xs:List (List α)} {i:Nat} {x y:List α},(∀ x ∈ xs,x.length=s)→xs[i]? = some x→y.length=s→(xs.set i y).flatten=spl xs.flatten (i * s) y
 | x :: xs,0,_,y,h,hi,hy=>by
  simp at hi
  subst hi
  have hx:=h x List.mem_cons_self
  simp only [List.set_cons_zero,List.flatten_cons,Nat.zero_mul,spl,List.take_zero,List.nil_append,Nat.zero_add,hy,List.drop_append,hx,Nat.sub_self,List.drop_zero]
  rw [List.drop_of_length_le (by omega),List.nil_append]
 | x :: xs,i + 1,z,y,h,hi,hy=>by
  simp at hi
  have hx:=h x List.mem_cons_self
  have ih:=flat_set (fun z hz=>h z (List.mem_cons_of_mem _ hz)) hi hy
  simp only [List.set_cons_succ,List.flatten_cons,ih,spl,succ_mul',take_add hx,hy]
  rw [show s + i * s + s=s + (i * s + s) by omega,drop_add hx]
  simp only [List.append_assoc]
theorem set_all {α:Type} {s:Nat} {xs:List (List α)} {i:Nat} {y:List α} (h:∀ x ∈ xs,x.length=s) (hy:y.length=s):∀ x ∈ xs.set i y,x.length=s:=by
 intro x hx
 rcases List.mem_or_eq_of_mem_set hx with h' | h'
 ·exact h x h'
 ·rw [h']; exact hy
theorem flat_spl {α:Type} {s:Nat} {xs:List (List α)} {i j:Nat} {x ys:List α} (h:∀ x ∈ xs,x.length=s) (hi:xs[i]? = some x) (hj:j + ys.length≤x.length) :
  (xs.set i (spl x j ys)).flatten=spl xs.flatten (i * s + j) ys∧i * s + j + ys.length≤xs.flatten.length:=by
 have hx:=h x (List.mem_of_getElem? hi)
 have hlt:i < xs.length:=(List.getElem?_eq_some_iff.1 hi).1
 have hle:i * s + s≤xs.flatten.length:=by
  rw [flat_len h]
  have:=Nat.mul_le_mul_right s (Nat.succ_le_of_lt hlt)
  rw [Nat.succ_mul] at this
  exact this
 refine ⟨?_,by omega⟩
 rw [flat_set h hi (by rw [spl_len hj,hx])]
 apply List.ext_getElem?
 intro k
 rw [spl_get (l:=xs.flatten) (ys:=spl x j ys) (by rw [spl_len hj]; omega),spl_get (l:=xs.flatten) (ys:=ys) (by omega),spl_len hj,hx]
 by_cases h1:i * s≤k∧k < i * s + s
 ·rw [if_pos h1,spl_get hj]
  by_cases h2:j≤k - i * s∧k - i * s < j + ys.length
  ·rw [if_pos h2,if_pos (by omega)]
   congr 1
   omega
  ·rw [if_neg h2,if_neg (by omega)]
   have hk:k - i * s < x.length:=by omega
   have:=flat_get h hi (List.getElem?_eq_getElem hk)
   rw [show i * s + (k - i * s)=k by omega] at this
   rw [this,List.getElem?_eq_getElem hk]
 ·rw [if_neg h1,if_neg (by omega)]
inductive Rep (w:World) (I:Nat→Prop):TV→Value→Prop
 | lit (v:Value):Rep w I (.lit v) v
 | hole (v:Value):Rep w I .hole v
 | buf {s:ByteArray} (e:TypeId) (h:s.size=0):Rep w I (.buf s e) nilV
 | sl {size : Nat} {xs : List (List TV)} {a : Addr} {cap : Nat} (cell : Nat → Value) (hI : 0 < xs.length → I a.block) (hc : xs.length ≤ cap) (hm : cap ≤ maxLen)
   (hl:∀ x ∈ xs,x.length=size) (hcell:∀ k,k < xs.length * size→w.cell? (a.add k)=some (cell k)) (h1:∀ k,k < xs.length * size→(cell k).oneCell'=true)
   (hr:∀ (i:Nat) (x:List TV),xs[i]? = some x→∀ (j:Nat) (c:TV),x[j]? = some c→Rep w I c (cell (i * size + j))):Rep w I (.sl false size xs) (.slice (some a) xs.length cap)
 | agg {cs : List TV} {vs : Array Value} (hl : vs.size = cs.length) (h1 : ∀ j, j < vs.size → (vs.getD j undef).oneCell' = true)
   (hr:∀ (j:Nat) (c:TV),cs[j]? = some c→Rep w I c (vs.getD j undef)):Rep w I (.agg cs) (.agg vs)
 | tup {cs:List TV} {vs:Array Value} (hl:vs.size=cs.length) (hr:∀ (j:Nat) (c:TV),cs[j]? = some c→Rep w I c (vs.getD j undef)):Rep w I (.tup cs) (.tuple vs)
theorem Rep.mv {w w':World} {I I':Nat→Prop} (hh:∀ b,I b→w'.heap[b]? = w.heap[b]?) (hI:∀ b,I b→I' b) {x:TV} {v:Value} (h:Rep w I x v):Rep w' I' x v:=by
 induction h with
 | lit v=>exact .lit v
 | hole v=>exact .hole v
 | buf e h=>exact .buf e h
 | sl cell i c m l hcell h1 _ ih =>
  exact .sl cell (fun h=>hI _ (i h)) c m l (fun k hk=>by rw [← hcell k hk]; exact World.cell?_of_block (by rw [add_block]; exact hh _ (i (Nat.pos_of_ne_zero (fun e=>by simp [e] at hk))))) h1 ih
 | agg hl h1 _ ih=>exact .agg hl h1 ih
 | tup hl _ ih=>exact .tup hl ih
structure Row (w:World) (a:Addr) (n cap size:Nat) (us:List Value) (vs:Array Value) (ty:TypeId):Prop where
 heap:w.heap[a.block]? = some (.cells vs ty (0,0))
 spot:a.spot=none
 le:n≤cap
 max:cap≤maxLen
 fit:a.off + cap * size≤vs.size
 len:us.length=n * size
 cells:∀ k,k < n * size→vs[a.off + k]? = us[k]?
 one:∀ u ∈ us,u.oneCell'=true
theorem Row.cell {w:World} {a:Addr} {n cap size:Nat} {us:List Value} {vs:Array Value} {ty:TypeId} (h:Row w a n cap size us vs ty) {k:Nat} {u:Value} (hk:us[k]? = some u):w.cell? (a.add k)=some u:=by
 have hlt:k < n * size:=by rw [← h.len]; exact (List.getElem?_eq_some_iff.1 hk).1
 have:a.add k=⟨a.block,a.off + k,none⟩:=by
  have:=h.spot
  obtain ⟨b,o,sp⟩:=a
  simp at this
  subst this
  exact add_lit b o k
 rw [this]
 simp only [World.cell?,h.heap]
 simp only [Option.isSome_none,Bool.false_eq_true,if_false]
 rw [h.cells k hlt,hk]
inductive RepO (w:World) (I:Nat→Prop):TV→Value→(Nat→Prop)→Prop
 | fr {x:TV} {v:Value} {S:Nat→Prop} (h:Rep w I x v):RepO w I x v S
 | sl {size : Nat} {xs : List (List TV)} {a : Addr} {cap : Nat} {S : Nat → Prop} (us : List Value) (vs : Array Value) (ty : TypeId) (F : Nat → Nat → Prop) (hS : S a.block)
   (row:Row w a xs.length cap size us vs ty) (hl:∀ x ∈ xs,x.length=size) (hr:∀ (k:Nat) (c:TV),xs.flatten[k]? = some c→RepO w I c (us.getD k undef) (F k))
   (hF:∀ k b,F k b→S b∧b≠a.block) (hd:∀ k k' b,F k b→F k' b→k=k'):RepO w I (.sl true size xs) (.slice (some a) xs.length cap) S
 | agg {cs : List TV} {vs : Array Value} {S : Nat → Prop} (F : Nat → Nat → Prop) (hl : vs.size = cs.length) (h1 : ∀ j, j < vs.size → (vs.getD j undef).oneCell' = true)
   (hr:∀ (j:Nat) (c:TV),cs[j]? = some c→RepO w I c (vs.getD j undef) (F j)) (hF:∀ j b,F j b→S b) (hd:∀ k k' b,F k b→F k' b→k=k'):RepO w I (.agg cs) (.agg vs) S
 | buf {s:ByteArray} {e:TypeId} {v:Value} {S:Nat→Prop} (h:w.ownsRowF 0 e 1 v s.size (Lib.strCells s)) (hS:∀ b,v.ownBlock=some b→S b):RepO w I (.buf s e) v S
 | tup {cs : List TV} {vs : Array Value} {S : Nat → Prop} (F : Nat → Nat → Prop) (hl : vs.size = cs.length)
   (hr:∀ (j:Nat) (c:TV),cs[j]? = some c→RepO w I c (vs.getD j undef) (F j)) (hF:∀ j b,F j b→S b) (hd:∀ k k' b,F k b→F k' b→k=k'):RepO w I (.tup cs) (.tuple vs) S
theorem _root_.Go.World.ownsRowF.moved {w w':World} {base:Nat} {e:TypeId} {size:Nat} {v:Value} {n:Nat} {xs:List Value} (h:w.ownsRowF base e size v n xs) (hh:∀ b,v.ownBlock=some b→w'.heap[b]? = w.heap[b]?):w'.ownsRowF base e size v n xs:=by
 refine ⟨h.1,?_⟩
 rcases h.2 with hn | ⟨g,cap,cur,fz,rfl,hb,hgg,rest⟩
 ·exact .inl hn
 ·exact .inr ⟨g,cap,cur,fz,rfl,hb,by rw [hh g rfl]; exact hgg,rest⟩
theorem RepO.mv {w w':World} {I I':Nat→Prop} (hI:∀ b,I b→w'.heap[b]? = w.heap[b]?) (hs:∀ b,I b→I' b) {x:TV} {v:Value} {S:Nat→Prop} (h:RepO w I x v S) :
  ∀ {S':Nat→Prop},(∀ b,S b→w'.heap[b]? = w.heap[b]?)→(∀ b,S b→S' b)→RepO w' I' x v S':=by
 induction h with
 | fr h=>intro S' _ _; exact .fr (h.mv hI hs)
 | @sl size xs a cap S us vs ty F hS row hl hr hF hd ih =>
  intro S' hh hSS
  exact .sl us vs ty F (hSS _ hS) ⟨by rw [hh _ hS]; exact row.heap,row.spot,row.le,row.max,row.fit,row.len,row.cells,row.one⟩ hl (fun k c hk=>ih k c hk (fun b hb=>hh b (hF k b hb).1) (fun b hb=>hb))
   (fun k b hb=>⟨hSS b (hF k b hb).1,(hF k b hb).2⟩) hd
 | @buf s e v S h hS =>
  intro S' hh hSS
  exact .buf (h.moved (fun b hb=>hh b (hS b hb))) (fun b hb=>hSS b (hS b hb))
 | @agg cs vs S F hl h1 hr hF hd ih =>
  intro S' hh hSS
  exact .agg F hl h1 (fun k c hk=>ih k c hk (fun b hb=>hh b (hF k b hb)) (fun b hb=>hb)) (fun k b hb=>hSS b (hF k b hb)) hd
 | @tup cs vs S F hl hr hF hd ih =>
  intro S' hh hSS
  exact .tup F hl (fun k c hk=>ih k c hk (fun b hb=>hh b (hF k b hb)) (fun b hb=>hb)) (fun k b hb=>hSS b (hF k b hb)) hd
theorem RepO.mono {w:World} {I:Nat→Prop} {x:TV} {v:Value} {S S':Nat→Prop} (h:RepO w I x v S) (hS:∀ b,S b→S' b):RepO w I x v S' :=
 h.mv (fun _ _=>rfl) (fun _ h=>h) (fun _ _=>rfl) hS
theorem rep_lit {w:World} {I:Nat→Prop} {v u:Value} (h:Rep w I (.lit v) u):u=v:=by cases h; rfl
theorem repO_lit {w:World} {I:Nat→Prop} {v u:Value} {S:Nat→Prop} (h:RepO w I (.lit v) u S):u=v:=by cases h with | fr h=>exact rep_lit h
theorem repO_frz {w:World} {I:Nat→Prop} {s:Nat} {xs:List (List TV)} {u:Value} {S:Nat→Prop} (h:RepO w I (.sl false s xs) u S):Rep w I (.sl false s xs) u:=by cases h with | fr h=>exact h
theorem repO_sl {w:World} {I:Nat→Prop} {o:Bool} {s:Nat} {xs:List (List TV)} {u:Value} {S:Nat→Prop} (h:RepO w I (.sl o s xs) u S):∃ a cap,u=.slice (some a) xs.length cap:=by
 cases h with
 | fr h=>cases h; exact ⟨_,_,rfl⟩
 | sl=>exact ⟨_,_,rfl⟩
theorem repO_isSl {w:World} {I:Nat→Prop} {x:TV} {u:Value} {S:Nat→Prop} (h:RepO w I x u S) (hx:x.isSl=true):∃ a n cap,u=.slice a n cap:=by
 cases x with
 | lit v =>
  have:=repO_lit h
  subst this
  cases u <;> simp [TV.isSl,isSlV] at hx ⊢
 | sl o s xs=>obtain ⟨a,cap,rfl⟩:=repO_sl h; exact ⟨_,_,_,rfl⟩
 | _=>simp [TV.isSl] at hx
theorem scV_one {v:Value} (h:scV v=true):v.oneCell'=true:=by cases v <;> first | rfl | simp [scV] at h
theorem repO_isSc {w:World} {I:Nat→Prop} {x:TV} {u:Value} {S:Nat→Prop} (h:RepO w I x u S) (hx:x.isSc=true):x=.lit u∧scV u=true:=by
 cases x with
 | lit v =>
  have:=repO_lit h
  subst this
  exact ⟨rfl,hx⟩
 | _=>simp [TV.isSc] at hx
theorem repO_lf {w:World} {I:Nat→Prop} {x:TV} {u:Value} {S:Nat→Prop} (h:RepO w I x u S):Rep w I x.lf u:=by
 cases x with
 | lit v=>have:=repO_lit h; subst this; exact .lit _
 | _=>exact .hole _
theorem frzL_eq:∀ l:List TV,frzL l=l.map frz
 | []=>rfl
 | x :: l=>by simp [frzL,frzL_eq l]
theorem frzLL_eq:∀ l:List (List TV),frzLL l=l.map fun x=>x.map frz
 | []=>rfl
 | x :: l=>by simp [frzLL,frzLL_eq l,frzL_eq]
theorem lfL_eq:∀ l:List TV,lfL l=l.map TV.lf
 | []=>rfl
 | x :: l=>by simp [lfL,lfL_eq l]
theorem lfLL_eq:∀ l:List (List TV),lfLL l=l.map fun x=>x.map TV.lf
 | []=>rfl
 | x :: l=>by simp [lfLL,lfLL_eq l,lfL_eq]
theorem Rep.frz {w:World} {I:Nat→Prop} {x:TV} {v:Value} (h:Rep w I x v):Rep w I (frz x) v:=by
 induction h with
 | lit v=>exact .lit v
 | hole v=>exact .hole v
 | buf e h=>exact .hole _
 | @sl size xs a cap cell hI hc hm hl hcell h1 _ ih =>
  simp only [Ab.frz,frzLL_eq]
  have hlen:(xs.map fun x=>x.map Ab.frz).length=xs.length:=by simp
  have key:Rep w I (.sl false size (xs.map fun x=>x.map Ab.frz)) (.slice (some a) (xs.map fun x=>x.map Ab.frz).length cap):=by
   refine .sl cell (by rw [hlen]; exact hI) (by rw [hlen]; exact hc) hm (fun x hx=>?_) (by rw [hlen]; exact hcell) (by rw [hlen]; exact h1) (fun i y hy j c hj=>?_)
   ·obtain ⟨y,hy,rfl⟩:=List.mem_map.1 hx
    simpa using hl y hy
   ·rw [List.getElem?_map] at hy
    cases hxi:xs[i]? with
    | none=>simp [hxi] at hy
    | some x =>
     simp only [hxi,Option.map_some,Option.some.injEq] at hy
     subst hy
     rw [List.getElem?_map] at hj
     cases hxj:x[j]? with
     | none=>simp [hxj] at hj
     | some c' =>
      simp only [hxj,Option.map_some,Option.some.injEq] at hj
      subst hj
      exact ih i x hxi j c' hxj
  rwa [hlen] at key
 | @agg cs vs hl h1 _ ih =>
  simp only [Ab.frz,frzL_eq]
  refine .agg (by simpa using hl) h1 (fun j c hj=>?_)
  rw [List.getElem?_map] at hj
  cases hxj:cs[j]? with
  | none=>simp [hxj] at hj
  | some c'=>simp only [hxj,Option.map_some,Option.some.injEq] at hj; subst hj; exact ih j c' hxj
 | @tup cs vs hl _ ih =>
  simp only [Ab.frz,frzL_eq]
  refine .tup (by simpa using hl) (fun j c hj=>?_)
  rw [List.getElem?_map] at hj
  cases hxj:cs[j]? with
  | none=>simp [hxj] at hj
  | some c'=>simp only [hxj,Option.map_some,Option.some.injEq] at hj; subst hj; exact ih j c' hxj
theorem RepO.frz {w:World} {I I':Nat→Prop} (hI:∀ b,I b→I' b) {x:TV} {v:Value} {S:Nat→Prop} (h:RepO w I x v S):(∀ b,S b→I' b)→Rep w I' (frz x) v:=by
 induction h with
 | fr h=>intro _; exact (h.mv (fun _ _=>rfl) hI).frz
 | buf _ _=>intro _; exact .hole _
 | @sl size xs a cap S us vs ty F hS row hl hr hF hd ih =>
  intro hSI
  simp only [Ab.frz,frzLL_eq]
  have hlen:(xs.map fun x=>x.map Ab.frz).length=xs.length:=by simp
  have key:Rep w I' (.sl false size (xs.map fun x=>x.map Ab.frz)) (.slice (some a) (xs.map fun x=>x.map Ab.frz).length cap):=by
   refine .sl (fun k=>us.getD k undef) (fun _=>hSI _ hS) (by rw [hlen]; exact row.le) row.max (fun x hx=>?_) (fun k hk=>?_) (fun k hk=>?_) (fun i y hy j c hj=>?_)
   ·obtain ⟨y,hy,rfl⟩:=List.mem_map.1 hx
    simpa using hl y hy
   ·rw [hlen] at hk
    have:k < us.length:=by rw [row.len]; exact hk
    exact row.cell (by simp [List.getElem?_eq_getElem this])
   ·rw [hlen] at hk
    have:k < us.length:=by rw [row.len]; exact hk
    simp only [List.getD_eq_getElem?_getD,List.getElem?_eq_getElem this,Option.getD_some]
    exact row.one _ (List.getElem_mem this)
   ·rw [List.getElem?_map] at hy
    cases hxi:xs[i]? with
    | none=>simp [hxi] at hy
    | some x =>
     simp only [hxi,Option.map_some,Option.some.injEq] at hy
     subst hy
     rw [List.getElem?_map] at hj
     cases hxj:x[j]? with
     | none=>simp [hxj] at hj
     | some c' =>
      simp only [hxj,Option.map_some,Option.some.injEq] at hj
      subst hj
      exact ih _ c' (flat_get hl hxi hxj) (fun b hb=>hSI b (hF _ b hb).1)
  rwa [hlen] at key
 | @agg cs vs S F hl h1 hr hF hd ih =>
  intro hSI
  simp only [Ab.frz,frzL_eq]
  refine .agg (by simpa using hl) h1 (fun j c hj=>?_)
  rw [List.getElem?_map] at hj
  cases hxj:cs[j]? with
  | none=>simp [hxj] at hj
  | some c'=>simp only [hxj,Option.map_some,Option.some.injEq] at hj; subst hj; exact ih j c' hxj (fun b hb=>hSI b (hF j b hb))
 | @tup cs vs S F hl hr hF hd ih =>
  intro hSI
  simp only [Ab.frz,frzL_eq]
  refine .tup (by simpa using hl) (fun j c hj=>?_)
  rw [List.getElem?_map] at hj
  cases hxj:cs[j]? with
  | none=>simp [hxj] at hj
  | some c'=>simp only [hxj,Option.map_some,Option.some.injEq] at hj; subst hj; exact ih j c' hxj (fun b hb=>hSI b (hF j b hb))
theorem isOwnL_mem:∀ {l:List TV},isOwnL l=true→∀ x ∈ l,isOwn x=true
 | [],_,x,hx=>by simp at hx
 | y :: l,h,x,hx=>by
  simp only [isOwnL,Bool.and_eq_true] at h
  rcases List.mem_cons.1 hx with rfl | hx
  ·exact h.1
  ·exact isOwnL_mem h.2 x hx
theorem isOwnLL_mem:∀ {l:List (List TV)},isOwnLL l=true→∀ x ∈ l,isOwnL x=true
 | [],_,x,hx=>by simp at hx
 | y :: l,h,x,hx=>by
  simp only [isOwnLL,Bool.and_eq_true] at h
  rcases List.mem_cons.1 hx with rfl | hx
  ·exact h.1
  ·exact isOwnLL_mem h.2 x hx
theorem Rep.own {w:World} {I I':Nat→Prop} {x:TV} {v:Value} (h:Rep w I x v):isOwn x=true→Rep w I' x v:=by
 induction h with
 | lit v=>intro _; exact .lit v
 | hole v=>intro _; exact .hole v
 | buf e h=>intro _; exact .buf e h
 | sl=>intro h; simp [isOwn] at h
 | @agg cs vs hl h1 _ ih=>intro h; simp only [isOwn] at h; exact .agg hl h1 (fun j c hj=>ih j c hj (isOwnL_mem h c (List.mem_of_getElem? hj)))
 | @tup cs vs hl _ ih=>intro h; simp only [isOwn] at h; exact .tup hl (fun j c hj=>ih j c hj (isOwnL_mem h c (List.mem_of_getElem? hj)))
theorem RepO.own {w:World} {I I':Nat→Prop} {x:TV} {v:Value} {S:Nat→Prop} (h:RepO w I x v S):isOwn x=true→RepO w I' x v S:=by
 induction h with
 | fr h=>intro ho; exact .fr (h.own ho)
 | buf h hS=>intro _; exact .buf h hS
 | @sl size xs a cap S us vs ty F hS row hl hr hF hd ih =>
  intro ho
  simp only [isOwn,Bool.true_and] at ho
  refine .sl us vs ty F hS row hl (fun k c hk=>ih k c hk ?_) hF hd
  obtain ⟨x,hx,hc⟩:=List.mem_flatten.1 (List.mem_of_getElem? hk)
  exact isOwnL_mem (isOwnLL_mem ho x hx) c hc
 | @agg cs vs S F hl h1 hr hF hd ih=>intro ho; simp only [isOwn] at ho; exact .agg F hl h1 (fun j c hj=>ih j c hj (isOwnL_mem ho c (List.mem_of_getElem? hj))) hF hd
 | @tup cs vs S F hl hr hF hd ih=>intro ho; simp only [isOwn] at ho; exact .tup F hl (fun j c hj=>ih j c hj (isOwnL_mem ho c (List.mem_of_getElem? hj))) hF hd
end Go.Ab
end
section
namespace Go.Ab
open Go.RowKit
set_option linter.unusedVariables false
def TV.nd (x:TV):Option (Nat × Nat):=match x with | .sl _ s xs=>some (s,xs.length) | _=>none
def Node (w:World):Way→TV→Value→Value→Option (Nat × Nat)→Prop
 | [],x,u,v,nd=>v=u∧nd=x.nd
 | (k,j) :: p,x,u,v,nd=>∃ o s xs a n cap e y u',x=.sl o s xs∧u=.slice (some a) n cap∧xs[k]? = some e∧e[j]? = some y∧w.cell? (a.add (k * s + j))=some u'∧Node w p y u' v nd
section
variable {w w':World} {I I':Nat→Prop} {x y:TV} {u v:Value} {S:Nat→Prop}
theorem getD_some {l:List Value} {k:Nat} {u:Value} (h:l[k]? = some u):l.getD k undef=u:=by simp [h]
theorem RepO.child {o:Bool} {s:Nat} {xs:List (List TV)} (h:RepO w I (.sl o s xs) u S) {k j:Nat} {e:List TV} {y:TV} (hk:xs[k]? = some e) (hj:e[j]? = some y) :
  ∃ a cap u' S',u=.slice (some a) xs.length cap∧w.cell? (a.add (k * s + j))=some u'∧u'.oneCell'=true∧RepO w I y u' S'∧(∀ b,S' b→S b)∧(S a.block∨I a.block)∧e.length=s:=by
 have hlt:k < xs.length:=(List.getElem?_eq_some_iff.1 hk).1
 cases h with
 | fr h =>
  cases h with
  | @sl _ _ a cap cell hI hc hm hl hcell h1 hr =>
   have hel:=hl e (List.mem_of_getElem? hk)
   have hf:k * s + j < xs.length * s:=by
    have hj':=(List.getElem?_eq_some_iff.1 hj).1
    have:=Nat.mul_le_mul_right s (Nat.succ_le_of_lt hlt)
    rw [Nat.succ_mul] at this
    omega
   exact ⟨a,cap,_,fun _=>False,rfl,hcell _ hf,h1 _ hf,.fr (hr k e hk j y hj),fun _ h=>h.elim,.inr (hI (by omega)),hel⟩
 | @sl _ _ a cap S us vs ty F hS row hl hr hF hd =>
  have hel:=hl e (List.mem_of_getElem? hk)
  have hfg:=flat_get hl hk hj
  have hlt2:k * s + j < us.length:=by
   rw [row.len,← flat_len hl]
   exact (List.getElem?_eq_some_iff.1 hfg).1
  have hu:=List.getElem?_eq_getElem hlt2
  refine ⟨a,cap,us[k * s + j],F (k * s + j),rfl,row.cell hu,row.one _ (List.getElem_mem hlt2),?_,fun b hb=>(hF _ b hb).1,.inl hS,hel⟩
  have:=hr _ _ hfg
  rwa [getD_some hu] at this
theorem Node.mv:∀ {p:Way} {x:TV} {u v:Value} {nd:Option (Nat × Nat)} {S:Nat→Prop},RepO w I x u S→(∀ b,I b→w'.heap[b]? = w.heap[b]?)→(∀ b,S b→w'.heap[b]? = w.heap[b]?)→Node w p x u v nd→Node w' p x u v nd
 | [],x,u,v,nd,S,_,_,_,h=>h
 | (k,j) :: p,x,u,v,nd,S,hr,hI,hS,⟨o,s,xs,a,n,cap,e,y,u',hx,hu,he,hy,hc,h⟩=>by
  subst hx
  obtain ⟨a',cap',u2,S',h1,h2,h3,h4,h5,h6,h7⟩:=hr.child he hy
  rw [hu] at h1
  cases h1
  rw [hc] at h2
  cases h2
  refine ⟨o,s,xs,a,_,_,e,y,u',rfl,hu,he,hy,?_,Node.mv h4 hI (fun b hb=>hS b (h5 b hb)) h⟩
  rw [← hc]
  refine World.cell?_of_block ?_
  rw [add_block]
  rcases h6 with h6 | h6
  ·exact hS _ h6
  ·exact hI _ h6
theorem RepO.get:∀ {p:Way} {x y:TV} {u:Value} {S:Nat→Prop},RepO w I x u S→getP p x=some y→∃ v S',Node w p x u v y.nd∧RepO w I y v S'∧(∀ b,S' b→S b)∧(p≠[]→v.oneCell'=true)
 | [],x,y,u,S,hr,h=>by
  simp only [getP,Option.some.injEq] at h
  subst h
  exact ⟨u,S,⟨rfl,rfl⟩,hr,fun _ h=>h,fun h=>absurd rfl h⟩
 | (k, j) :: p, x, y, u, S, hr, h => by
  cases x with
  | sl o s xs =>
   simp only [getP] at h
   cases he:xs[k]? with
   | none=>simp [he] at h
   | some e =>
    simp only [he] at h
    cases hz:e[j]? with
    | none=>simp [hz] at h
    | some z =>
     simp only [hz] at h
     obtain ⟨a,cap,u',S1,h1,h2,h3,h4,h5,h6,h7⟩:=hr.child he hz
     obtain ⟨v,S2,n1,n2,n3,n4⟩:=RepO.get h4 h
     refine ⟨v,S2,⟨o,s,xs,a,_,cap,e,z,u',rfl,h1,he,hz,h2,n1⟩,n2,fun b hb=>h5 b (n3 b hb),fun _=>?_⟩
     cases p with
     | nil=>rw [n1.1]; exact h3
     | cons=>exact n4 (by simp)
  | _=>simp [getP] at h
theorem Node.unique:∀ {p:Way} {x:TV} {u v v':Value} {nd nd':Option (Nat × Nat)},Node w p x u v nd→Node w p x u v' nd'→v=v'∧nd=nd'
 | [],x,u,v,v',nd,nd',h,h'=>⟨h.1.trans h'.1.symm,h.2.trans h'.2.symm⟩
 | (k,j) :: p,x,u,v,v',nd,nd',⟨o,s,xs,a,n,cap,e,y,u',hx,hu,he,hy,hc,h⟩,⟨o2,s2,xs2,a2,n2,cap2,e2,y2,u2,hx2,hu2,he2,hy2,hc2,h2⟩=>by
  subst hx
  cases hx2
  subst hu
  cases hu2
  rw [he] at he2
  cases he2
  rw [hy] at hy2
  cases hy2
  rw [hc] at hc2
  cases hc2
  exact Node.unique h h2
theorem RepO.sub : ∀ {p : Way} {x y : TV} {u : Value} {S : Nat → Prop}, RepO w I x u S → getP p x = some y →
  ∃ v Sy, RepO w I y v Sy ∧ (∀ b, Sy b → S b) ∧ Node w p x u v y.nd ∧ (p ≠ [] → v.oneCell' = true) ∧
   ∀ (w':World) (I':Nat→Prop) (y' x':TV) (S':Nat→Prop),setP p x y'=some x'→(∀ b,I b→w'.heap[b]? = w.heap[b]?)→(∀ b,I b→I' b)→(∀ b,S b→¬ Sy b→w'.heap[b]? = w.heap[b]?) →
    RepO w' I' y' v S'→(∀ b,S' b→S b→Sy b)→RepO w' I' x' u (fun b=>(S b∧¬ Sy b)∨S' b) ∧
    ∀ (q:Way) (v':Value) (nd:Option (Nat × Nat)),(∀ q',q=p ++ q'→Node w q' y v v' nd→Node w' q' y' v v' nd)→Node w q x u v' nd→Node w' q x' u v' nd
 | [],x,y,u,S,hr,h=>by
  simp only [Ab.getP,Option.some.injEq] at h
  subst h
  refine ⟨u,S,hr,fun _ h=>h,⟨rfl,rfl⟩,fun h=>absurd rfl h,?_⟩
  intro w' I' y' x' S' hs hI hII hh hr' hd
  simp only [setP,Option.some.injEq] at hs
  subst hs
  exact ⟨hr'.mono (fun b hb=>.inr hb),fun q v' nd hq hn=>hq q rfl hn⟩
 | (k, j) :: p, x, y, u, S, hr, h => by
  cases x with
  | sl o s xs =>
   simp only [Ab.getP] at h
   cases he:xs[k]? with
   | none=>simp [he] at h
   | some e =>
    simp only [he] at h
    cases hz:e[j]? with
    | none=>simp [hz] at h
    | some z =>
     simp only [hz] at h
     cases o with
     | false =>
      obtain ⟨v,S',n1,n2,n3,n4⟩:=RepO.get (p:=(k,j) :: p) (y:=y) hr (by simp only [Ab.getP,he,hz,h])
      refine ⟨v,S',n2,n3,n1,n4,?_⟩
      intro w' I' y' x' S2 hs
      simp [setP] at hs
     | true =>
      cases hr with
      | fr h=>cases h
      | @sl _ _ a cap S us vs ty F hS row hl hr hF hd =>
       have hel:=hl e (List.mem_of_getElem? he)
       have hjl:j < e.length:=(List.getElem?_eq_some_iff.1 hz).1
       have hfg:=flat_get hl he hz
       have hlt2:k * s + j < us.length:=by
        rw [row.len,← flat_len hl]
        exact (List.getElem?_eq_some_iff.1 hfg).1
       have hu:=List.getElem?_eq_getElem hlt2
       have hrz:=hr _ _ hfg
       rw [getD_some hu] at hrz
       obtain ⟨v,Sy,m1,m2,m3,m4,m5⟩:=RepO.sub hrz h
       have hSyF:∀ b,Sy b→F (k * s + j) b:=m2
       refine ⟨v,Sy,m1,fun b hb=>(hF _ b (m2 b hb)).1,⟨true,s,xs,a,_,cap,e,z,us[k * s + j],rfl,rfl,he,hz,row.cell hu,m3⟩,fun _=>?_,?_⟩
       ·cases p with
        | nil=>rw [m3.1]; exact row.one _ (List.getElem_mem hlt2)
        | cons=>exact m4 (by simp)
       intro w' I' y' x' S' hs hI hII hh hr' hdis
       simp only [setP,he,hz] at hs
       cases hz':setP p z y' with
       | none=>simp [hz'] at hs
       | some z' =>
        simp only [hz',Option.some.injEq,setNth_eq] at hs
        subst hs
        have hablk:¬ Sy a.block:=fun hb=>(hF _ _ (m2 _ hb)).2 rfl
        obtain ⟨r1,r2⟩:=m5 w' I' y' z' S' hz' hI hII (fun b hb hn=>hh b (hF _ b hb).1 hn) hr' (fun b hb hb2=>hdis b hb (hF _ b hb2).1)
        have hset:e.set j z'=spl e j [z']:=by
         apply List.ext_getElem?
         intro m
         rw [spl_get (by simp; omega),List.getElem?_set]
         by_cases hjm:j=m
         ·subst hjm; simp [hjl]
         ·rw [if_neg hjm,if_neg (by simp; omega)]
        obtain ⟨f1,f2⟩:=flat_spl (ys:=[z']) hl he (by simp; omega:j + [z'].length≤e.length)
        have hlen:(xs.set k (e.set j z')).length=xs.length:=by simp
        have hrow:Row w' a (xs.set k (e.set j z')).length cap s us vs ty:=by
         rw [hlen]
         exact ⟨by rw [hh _ hS hablk]; exact row.heap,row.spot,row.le,row.max,row.fit,row.len,row.cells,row.one⟩
        have hother:∀ m c,m≠k * s + j→xs.flatten[m]? = some c→RepO w' I' c (us.getD m undef) (F m):=fun m c hm hc =>
         (hr m c hc).mv hI hII (fun b hb=>hh b (hF m b hb).1 (fun hs=>hm (hd m _ b hb (m2 b hs)))) (fun _ h=>h)
        constructor
        ·have key:RepO w' I' (.sl true s (xs.set k (e.set j z'))) (.slice (some a) (xs.set k (e.set j z')).length cap) (fun b=>(S b∧¬ Sy b)∨S' b):=by
          refine .sl us vs ty (fun m b=>if m=k * s + j then (F (k * s + j) b∧¬ Sy b)∨S' b else F m b) (.inl ⟨hS,hablk⟩) hrow (set_all hl (by simp [hel])) (fun m c hc=>?_) (fun m b hb=>?_) (fun m m' b hb hb'=>?_)
          ·rw [hset,f1,spl_get f2] at hc
           by_cases hm:m=k * s + j
           ·subst hm
            simp only [List.length_singleton,Nat.sub_self] at hc
            rw [if_pos (by omega)] at hc
            simp only [List.getElem?_cons_zero,Option.some.injEq] at hc
            subst hc
            simp only [if_true]
            rw [getD_some hu]
            exact r1
           ·rw [if_neg (by simp only [List.length_singleton]; omega)] at hc
            simp only [hm,if_false]
            exact hother m c hm hc
          ·by_cases hm:m=k * s + j
           ·subst hm
            simp only [if_true] at hb
            rcases hb with ⟨h1,h2⟩ | h1
            ·exact ⟨.inl ⟨(hF _ b h1).1,h2⟩,(hF _ b h1).2⟩
            ·exact ⟨.inr h1,fun e=>by subst e; exact hablk (hdis _ h1 hS)⟩
           ·simp only [hm,if_false] at hb
            exact ⟨.inl ⟨(hF _ b hb).1,fun hs=>hm (hd _ _ b hb (m2 b hs))⟩,(hF _ b hb).2⟩
          ·by_cases hm:m=k * s + j <;> by_cases hm':m'=k * s + j
           ·rw [hm,hm']
           ·simp only [hm,hm',if_true,if_false] at hb hb'
            rcases hb with ⟨h1,h2⟩ | h1
            ·exact hm ▸ hd _ _ b h1 hb'
            ·exact hm ▸ hd _ _ b (m2 b (hdis b h1 (hF _ b hb').1)) hb'
           ·simp only [hm,hm',if_true,if_false] at hb hb'
            rcases hb' with ⟨h1,h2⟩ | h1
            ·exact hm' ▸ hd _ _ b hb h1
            ·exact hm' ▸ hd _ _ b hb (m2 b (hdis b h1 (hF _ b hb).1))
           ·simp only [hm,hm',if_false] at hb hb'
            exact hd _ _ b hb hb'
         rwa [hlen] at key
        ·intro q v' nd hq hn
         cases q with
         | nil =>
          obtain ⟨e1,e2⟩:=hn
          exact ⟨e1,by rw [e2]; simp [TV.nd]⟩
         | cons kj q =>
          obtain ⟨k1,j1⟩:=kj
          obtain ⟨o2,s2,xs2,a2,n2,cap2,e2,y2,u2,hx2,hu2,he2,hy2,hc2,hn2⟩:=hn
          cases hx2
          cases hu2
          have hblk:∀ m,w'.cell? (a.add m)=w.cell? (a.add m):=fun m=>World.cell?_of_block (by rw [add_block]; exact hh _ hS hablk)
          by_cases hk1:k1=k
          ·subst hk1
           rw [he] at he2
           cases he2
           have hk2:k1 < xs.length:=(List.getElem?_eq_some_iff.1 he).1
           by_cases hj1:j1=j
           ·subst hj1
            rw [hz] at hy2
            cases hy2
            have:u2=us[k1 * s + j1]:=by rw [row.cell hu] at hc2; exact (Option.some.inj hc2).symm
            subst this
            refine ⟨true,s,_,a,_,cap,e.set j1 z',z',us[k1 * s + j1],rfl,rfl,by rw [List.getElem?_set_self hk2],by rw [List.getElem?_set_self hjl],by rw [hblk]; exact hc2,?_⟩
            exact r2 q v' nd (fun q' hq'=>hq q' (by rw [hq']; rfl)) hn2
           ·refine ⟨true,s,_,a,_,cap,e.set j z',y2,u2,rfl,rfl,by rw [List.getElem?_set_self hk2],by rw [List.getElem?_set_ne (fun h=>hj1 h.symm)]; exact hy2,by rw [hblk]; exact hc2,?_⟩
            have hfg2:=flat_get hl he hy2
            have hm:k1 * s + j1≠k1 * s + j:=by omega
            have hr2:=hr _ _ hfg2
            have hlt3:k1 * s + j1 < us.length:=by rw [row.len,← flat_len hl]; exact (List.getElem?_eq_some_iff.1 hfg2).1
            rw [getD_some (List.getElem?_eq_getElem hlt3)] at hr2
            have:u2=us[k1 * s + j1]:=by rw [row.cell (List.getElem?_eq_getElem hlt3)] at hc2; exact (Option.some.inj hc2).symm
            subst this
            exact Node.mv hr2 hI (fun b hb=>hh b (hF _ b hb).1 (fun hs=>hm (hd _ _ b hb (m2 b hs)))) hn2
          ·refine ⟨true,s,_,a,_,cap,e2,y2,u2,rfl,rfl,by rw [List.getElem?_set_ne (fun h=>hk1 h.symm)]; exact he2,hy2,by rw [hblk]; exact hc2,?_⟩
           have hfg2:=flat_get hl he2 hy2
           have hel2:=hl e2 (List.mem_of_getElem? he2)
           have hj2:j1 < e2.length:=(List.getElem?_eq_some_iff.1 hy2).1
           have hm:k1 * s + j1≠k * s + j:=by
            intro heq
            rcases Nat.lt_or_gt_of_ne hk1 with h' | h'
            ·have:=Nat.mul_le_mul_right s (Nat.succ_le_of_lt h')
             rw [Nat.succ_mul] at this
             omega
            ·have:=Nat.mul_le_mul_right s (Nat.succ_le_of_lt h')
             rw [Nat.succ_mul] at this
             omega
           have hr2:=hr _ _ hfg2
           have hlt3:k1 * s + j1 < us.length:=by rw [row.len,← flat_len hl]; exact (List.getElem?_eq_some_iff.1 hfg2).1
           rw [getD_some (List.getElem?_eq_getElem hlt3)] at hr2
           have:u2=us[k1 * s + j1]:=by rw [row.cell (List.getElem?_eq_getElem hlt3)] at hc2; exact (Option.some.inj hc2).symm
           subst this
           exact Node.mv hr2 hI (fun b hb=>hh b (hF _ b hb).1 (fun hs=>hm (hd _ _ b hb (m2 b hs)))) hn2
  | _=>simp [Ab.getP] at h
end
end Go.Ab
end

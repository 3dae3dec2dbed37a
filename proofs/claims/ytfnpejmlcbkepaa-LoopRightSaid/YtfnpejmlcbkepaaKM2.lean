import Derived.Test.YtfnpejmlcbkepaaKQ12F100
import Derived.Test.YtfnpejmlcbkepaaKQ12F87
import Derived.Test.YtfnpejmlcbkepaaKM0
import Derived.Below
import Derived.Orders
import Derived.Laws.Cells
import Derived.Laws.OwnMore
import Derived.Laws.CopyOwn
import Derived.Maps.AppendAt
import Derived.Lib.FrozenHead
set_option linter.all false
section
set_option maxRecDepth 100000
namespace Go.Ab
theorem tO (h:Nat):∀ m:Nat,(List.range m).filter (fun a=>decide (a=h))=if h < m then [h] else []
 | 0=>by simp
 | m + 1 => by
  rw [List.range_succ,List.filter_append,tO h m]
  by_cases e:m=h
  ·subst e; simp
  ·rw [show ([m].filter fun a=>decide (a=h))=[] by simp [e],List.append_nil]
   by_cases h1:h < m
   ·rw [if_pos h1,if_pos (by omega)]
   ·rw [if_neg h1,if_neg (by omega)]
theorem B6 {p:Prop} [Decidable p]:tt p=decide p:=by
 by_cases h:p
 ·rw [bE h,decide_eq_true h]
 ·rw [bC h,decide_eq_false h]
theorem ju {p q:Prop} (h:p ↔ q):tt p=tt q:=by rw [propext h]
theorem JRow.zN {bs:List DBlock} {n h:Nat} (hR:JRow bs n (some h)):bw bs=[(h,aS ((List.range (n + 1)).filter fun k=>decide (h<=k/\k < n)))]:=by
 have hl:=hR.low h rfl
 unfold bw cW
 rw [List.filter_congr (q:=fun a=>decide (a=h)) fun a _=>by
  rw [ju hR.head,B6]
  simp [eq_comm],tO,if_pos (by rw [hR.len]; omega)]
 simp only [List.map_cons,List.map_nil,List.cons.injEq,Prod.mk.injEq,true_and,and_true]
 unfold gi
 rw [hR.len,List.filter_congr (q:=fun k=>decide (h<=k/\k < n)) fun a _=>by
  rw [ju hR.loop,B6]
  simp]
theorem JRow.deep {bs:List DBlock} {n h:Nat} (hR:JRow bs n (some h)) (k:Nat):m7 bs (k:Int)=if h<=k/\k < n then 1 else 0:=by
 by_cases e:h<=k/\k < n
 ·rw [if_pos e,sZ (l:=[h]) (by simp) fun a=>by
   rw [hR.loop,List.mem_singleton]
   constructor
   ·rintro rfl; exact ⟨rfl,e⟩
   ·rintro ⟨h1,_⟩; cases h1; rfl]
  rfl
 ·rw [if_neg e,sZ (l:=[]) (by simp) fun a=>by
   rw [hR.loop]
   constructor
   ·intro h; cases h
   ·rintro ⟨h1,h2⟩; cases h1; exact absurd h2 e]
  rfl
theorem yO {l:List Nat} {a:Nat}:((a:Nat):Int) ∈ aS l ↔ a ∈ l:=by
 unfold aS
 rw [List.mem_map]
 constructor
 ·rintro ⟨b,h1,h2⟩
  have:b=a:=by omega
  subst this; exact h1
 ·exact fun h=>⟨a,h,rfl⟩
theorem Ah {bs:List DBlock} {h n:Nat}:((n:Nat):Int) ∈ aS (gi bs bs.length h) ↔ inLoop bs h n:=by
 rw [yO,tQ]
 exact ⟨fun h=>h.2,fun h=>⟨h.rc.lt,h⟩⟩
end Go.Ab
namespace Go.Ab.Q12
open Go Go.Ab Go.Proofs
abbrev awk9B (k to els:Int):DBlock:=⟨false,⟨0,[],false,false⟩,[],⟨k,0,0,0,[],to,els,0⟩⟩
abbrev awk9F:DFunc:=⟨0,1,yZ 2 1⟩
abbrev awk9BT (k to els:Int):List TV:=[B false,I 0,.lit aB,B false,B false,.lit aB,I k,I 0,I 0,I 0,.lit aB,I to,I els,I 0]
abbrev awk9T:List TV:=[I 0,I 1,.sl false 14 [awk9BT 2 1 0,awk9BT 3 1 2,awk9BT 1 0 0]]
theorem awk9BR {k to els:Int} (h1:inI k) (h2:inI to) (h3:inI els):RBlock (some false) (awk9BT k to els) (awk9B k to els) :=
 have z:inI 0:=⟨by decide,by decide⟩
 ⟨.lit aB,.lit aB,.lit aB,rfl,.nil,z,.nil,.nil,h1,z,z,z,h2,h3,z⟩
theorem awk9R:RFunc (some false) awk9T awk9F:=by
 have hi:∀ {n:Nat},n < 100->inI (n:Int):=fun h=>by constructor <;> omega
 refine ⟨_,rfl,.inr ⟨false,_,rfl,fun _ h=>by cases h; rfl,?_,by decide⟩,hi (n:=0) (by omega),hi (n:=1) (by omega)⟩
 show F2 _ _ [awk9B 2 1 0,awk9B 3 1 2,awk9B 1 0 0]
 exact .cons (awk9BR (hi (n:=2) (by omega)) (hi (n:=1) (by omega)) (hi (n:=0) (by omega))) (.cons (awk9BR (hi (n:=3) (by omega)) (hi (n:=1) (by omega)) (hi (n:=2) (by omega))) (.cons (awk9BR (hi (n:=1) (by omega)) (hi (n:=0) (by omega)) (hi (n:=0) (by omega))) .nil))
theorem Ej:ba prog 37 [] (B true):=by
 have hi:∀ {n:Nat},n < 100->inI (n:Int):=fun h=>by constructor <;> omega
 have hR:JRow awk9F.blocks 2 (some 1):=DM (by decide)
 have hs:awk9F.blocks.length<=30:=by decide
 obtain ⟨y0,h0,k0⟩:=xa awk9R hs
 rw [hR.zN] at k0
 have l1:RInts (some true) (.sl true 1 [[I 1]]) [1]:=.inr ⟨true,_,rfl,fun _ h=>by cases h; rfl,.cons ⟨rfl,hi (n:=1) (by omega)⟩ .nil,by decide⟩
 have h1:=DH awk9R hs (n:=((1:Nat):Int)) (hi (by omega))
 rw [hR.deep 1] at h1
 have h2:=DH awk9R hs (n:=((2:Nat):Int)) (hi (by omega))
 rw [hR.deep 2] at h2
 obtain ⟨e,he,v,rfl,hv⟩:=k0.pel (i:=0) rfl
 have hgp:=RL.deep k0 he (j:=1) (z:=v) rfl
 have hv':RInts (some true) v [1]:=hv
 have hints:=r14 (hv'.frz fun _ _ h=>h.frz) (l1.frz fun _ _ h=>h.frz)
 rw [bE rfl] at hints
 refine ba.of f37_MR ?_
 unfold f37_M
 refine aa.call (xs:=[.agg awk9T]) h0 (aa.chk (aK k0.isSl) (aa.tv k0.len (aa.tv (v:=B true) rfl (aa.ite (v:=true) rfl (fun _=>?_) nofun))))
 refine aa.nat k0.slLen (aa.nat (v:=0) rfl (aa.chk ?_ (aa.tvs he (aa.chk rfl (aa.tv (v:=B true) rfl (aa.ite (v:=true) rfl (fun _=>?_) nofun))))))
 ·rw [k0.slSize]; rfl
 refine aa.nat k0.slLen (aa.nat (v:=0) rfl (aa.chk ?_ (aa.tvs he (aa.chk ?_ (aa.tv hgp (aa.call (xs:=[frz v,frz (.sl true 1 [[I 1]])]) hints (aa.chk rfl (aa.ite (v:=true) rfl (fun _=>?_) nofun))))))))
 ·rw [k0.slSize]; rfl
 ·show (v.isSl && true)=true
  rw [hv.isSl]; rfl
 refine aa.call (xs:=[.agg awk9T,I 1]) h1 (aa.chk rfl (aa.tv (v:=B true) rfl (aa.ite (v:=true) rfl (fun _=>?_) nofun)))
 exact aa.call (xs:=[.agg awk9T,I 2]) h2 (aa.chk rfl (aa.tv (v:=B true) rfl aa.ret))
end Go.Ab.Q12
end
section
set_option maxRecDepth 100000
namespace Go.Ab
end Go.Ab
namespace Go.Ab.Q12
open Go Go.Ab Go.Proofs
theorem dX {k:Nat} (h:k<=1000000):pbin (Kd.int IntKind.i64) BinOp.add (I (k:Int)) (I 1)=some (I ((k + 1:Nat):Int)):=by
 have:=lX (a:=(k:Int)) (b:=1) (by omega) (by omega)
 rw [show (k:Int) + 1=((k + 1:Nat):Int) by omega] at this
 exact this
section
variable {qf:Option Bool} {b:TV} {f:DFunc} (hf:RFunc qf [I f.params,I f.regs,b] f) (hs:f.blocks.length<=30) {w:TV} (hw:RL (some true) 2 (RV (some true)) w (bw f.blocks))
include hf hs hw
section
variable {i:Nat} {p:Nat × List Int} (hp:(bw f.blocks)[i]? = some p) {vi:TV} (hei:Go.Ab.pel w i=some [I (p.1:Nat),vi]) (kvi:RInts (some true) vi p.2)
include hp hei kvi
end
end
end Go.Ab.Q12
end
section
set_option maxRecDepth 100000
namespace Go.Ab
def lz (n:Nat) (M:Nat->Bool):Nat:=((List.range n).filter M).length
theorem Ed (n:Nat) (M:Nat->Bool):lz n M<=n:=Nat.le_trans (List.length_filter_le _ _) (by simp)
theorem Dh {M:Nat->Bool} {k:Nat} (h:M k=false):∀ {n:Nat},k < n->lz n (eW M k true)=lz n M + 1:=by
 have low:∀ n,n<=k->lz n (eW M k true)=lz n M:=by
  intro n hn
  unfold lz
  rw [List.filter_congr (q:=M) fun a ha=>aF (by have:=List.mem_range.1 ha; omega)]
 intro n hn
 induction n with
 | zero=>omega
 | succ n ih =>
  unfold lz at *
  rw [List.range_succ,List.filter_append,List.filter_append,List.length_append,List.length_append]
  by_cases e:n=k
  ·subst e
   rw [low n (Nat.le_refl _)]
   simp [h,aJ]
  ·rw [ih (by omega)]
   have:eW M k true n=M n:=aF e
   simp only [List.filter_cons,this,List.filter_nil]
   omega
theorem BQ {α:Type} {M:Nat->α} {k:Nat} {v:α} (h:M k=v):eW M k v=M:=by
 funext i
 by_cases e:i=k
 ·subst e; rw [aJ,h]
 ·rw [aF e]
theorem Cm.lt {bs:List DBlock} {to no k:Nat} (h:Cm bs to no k) (ht:to < bs.length):k < bs.length:=by
 cases h with
 | refl _=>exact ht
 | @back _ g hk hg _ =>
  refine Nat.lt_of_not_le fun hle=>?_
  have:ak bs k=[]:=by
   unfold ak
   rw [FI hle]
  rw [this] at hg
  cases hg
theorem RBArr.congr {w:TV} {n:Nat} {g g':Nat->Bool} (h:RBArr w n g) (e:∀ i,i < n->g i=g' i):RBArr w n g':=by
 show RBools (some true) w (cL n g')
 rw [<- tN e]
 exact h
noncomputable def cmL (bs:List DBlock) (to no:Nat):Nat->Bool:=fun k=>tt (Cm bs to no k)
end Go.Ab
namespace Go.Ab.Q12
open Go Go.Ab Go.Proofs
section
variable {qf:Option Bool} {b:TV} {f:DFunc} (hf:RFunc qf [I f.params,I f.regs,b] f) (hs:f.blocks.length<=30) {to no:Nat} (ht:to < f.blocks.length) (hno:no < f.blocks.length)
include hf hs ht hno
theorem yN : ∀ (z : Nat) (w : TV) (M : Nat → Bool), f.blocks.length - lz f.blocks.length M < z → RBArr w f.blocks.length M → M to = true → (∀ k, M k = true → Cm f.blocks to no k) →
  ∃ y,aa prog 61 (f61_0 (I no) (B true) (I f.params) (I f.regs) b w) y/\RBArr y f.blocks.length (cmL f.blocks to no):=by
 intro z
 induction z with
 | zero=>intro w M hz; omega
 | succ z ihz =>
  intro w0 M0 hz hw0 hM0 hS0
  have sweep : ∀ (d n : Nat) (c : Bool) (w : TV) (M : Nat → Bool), n + d = f.blocks.length → RBArr w f.blocks.length M → M to = true → (∀ k, M k = true → Cm f.blocks to no k) → lz f.blocks.length M0 ≤ lz f.blocks.length M → (c = true → lz f.blocks.length M0 < lz f.blocks.length M) →
    (c=false->∀ n',n' < n->n'≠no->∀ g ∈ ak f.blocks n',M g.toNat=true->M n'=true) ->
    ∃ y,aa prog 61 (f61_1 (I no) (B c) (I n) (I f.params) (I f.regs) b w) y/\RBArr y f.blocks.length (cmL f.blocks to no):=by
   intro d
   induction d with
   | zero =>
    intro n c w M hn hw hM hS hle hc1 hc0
    have hn:n=f.blocks.length:=by omega
    subst hn
    have hlen:RL.len (t:=4) hw=RL.len (t:=4) hw:=rfl
    have hl:=RL.len (t:=4) hw
    rw [ao] at hl
    cases c with
    | true =>
     have:=hc1 rfl
     have hcl:=Ed f.blocks.length M
     obtain ⟨y,hy,hq⟩:=ihz w M (by omega) hw hM hS
     refine ⟨y,?_,hq⟩
     unfold f61_1
     exact aa.tv hl (aa.tv rfl (aa.ite aW nofun fun _=>f61_0_J hy))
    | false =>
     have hcl:=hc0 rfl
     have hfull:∀ k,Cm f.blocks to no k->M k=true:=by
      intro k hk
      induction hk with
      | refl _=>exact hM
      | @back k g hkn hg h ih =>
       have hkl:k < f.blocks.length:=Cm.lt (.back hkn hg h) ht
       exact hcl k hkl hkn g hg ih
     have hMe:M=cmL f.blocks to no:=by
      funext k
      unfold cmL
      by_cases e:Cm f.blocks to no k
      ·rw [bE e,hfull k e]
      ·rw [bC e]
       cases hk:M k with
       | false=>rfl
       | true=>exact absurd (hS k hk) e
     subst hMe
     refine ⟨w,?_,hw⟩
     unfold f61_1
     refine aa.tv hl (aa.tv rfl (aa.ite aW nofun fun _=>f61_0_J ?_))
     unfold f61_0
     exact aa.ite (v:=false) rfl nofun fun _=>aa.ret
   | succ d ih =>
    intro n c w M hn hw hM hS hle hc1 hc0
    have hnl:n < f.blocks.length:=by omega
    have hl:=RL.len (t:=4) hw
    rw [ao] at hl
    have gn:=RBArr.get hw hnl
    have ann:ac (I (n:Nat))=some n:=ah (by omega)
    have cn:(Bool.and (slSize w 1) (Nat.blt n (cL f.blocks.length M).length))=true:=by rw [RL.slSize hw]; simp [ao]; exact hnl
    have skip:(M n=true\/n=no)->∃ y,aa prog 61 (f61_1 (I no) (B c) (I ((n + 1:Nat):Int)) (I f.params) (I f.regs) b w) y/\RBArr y f.blocks.length (cmL f.blocks to no):=fun hsk =>
     ih (n + 1) c w M (by omega) hw hM hS hle hc1 fun hcf n' hn' hne g hg hMg=>by
      by_cases e:n'=n
      ·subst e
       exact hsk.resolve_right hne
      ·exact hc0 hcf n' (by omega) hne g hg hMg
    by_cases hMn:M n=true
    ·obtain ⟨y,hy,hq⟩:=skip (.inl hMn)
     refine ⟨y,?_,hq⟩
     unfold f61_1
     exact aa.tv hl (aa.tv rfl (aa.ite (aQ hnl) (fun _=>aa.nat (RL.slLen hw) (aa.nat ann (aa.chk cn (aa.tvs gn (aa.chk rfl (aa.ite (v:=M n) rfl (fun _=>aa.tv (dX (by omega)) (f61_1_J hy)) fun h=>absurd hMn (by rw [h]; exact Bool.false_ne_true))))))) nofun))
    ·have hMn : M n = false := by simpa using hMn
     by_cases hnn:n=no
     ·obtain ⟨y,hy,hq⟩:=skip (.inr hnn)
      refine ⟨y,?_,hq⟩
      unfold f61_1
      refine aa.tv hl (aa.tv rfl (aa.ite (aQ hnl) (fun _=>aa.nat (RL.slLen hw) (aa.nat ann (aa.chk cn (aa.tvs gn (aa.chk rfl (aa.ite (v:=M n) rfl (fun h=>absurd h (by rw [hMn]; exact Bool.false_ne_true)) fun _=>aa.tv (v:=B true) ?_ (aa.ite (v:=true) rfl (fun _=>aa.tv (dX (by omega)) (f61_1_J hy)) nofun))))))) nofun))
      show some (B ((n:Int) == (no:Int)))=_
      rw [hnn]; simp
     ·obtain ⟨v,hv,kv⟩:=r72 hf ((n:Nat):Int)
      rw [gA] at kv
      have hnx:=ep f.blocks n
      have inner : ∀ (e j : Nat) (c : Bool) (w : TV) (M : Nat → Bool), j + e = (ak f.blocks n).length → RBArr w f.blocks.length M → M to = true → (∀ k, M k = true → Cm f.blocks to no k) → lz f.blocks.length M0 ≤ lz f.blocks.length M → (c = true → lz f.blocks.length M0 < lz f.blocks.length M) → (M n = true → c = true) →
        (c=false->∀ n',n' < n->n'≠no->∀ g ∈ ak f.blocks n',M g.toNat=true->M n'=true)->(c=false->∀ g ∈ (ak f.blocks n).take j,M g.toNat=false) ->
        ∃ y,aa prog 61 (f61_2 (I no) (B c) (I n) (I j) (I f.params) (I f.regs) b w v) y/\RBArr y f.blocks.length (cmL f.blocks to no):=by
       intro e
       induction e with
       | zero =>
        intro j c w M hj hw hM hS hle hc1 hcn hc0 hcj
        have hj:j=(ak f.blocks n).length:=by omega
        subst hj
        rw [List.take_length] at hcj
        obtain ⟨y,hy,hq⟩:=ih (n + 1) c w M (by omega) hw hM hS hle hc1 fun hcf n' hn' hne g hg hMg=>by
         by_cases e:n'=n
         ·subst e
          rw [hcj hcf g hg] at hMg
          cases hMg
         ·exact hc0 hcf n' (by omega) hne g hg hMg
        refine ⟨y,?_,hq⟩
        unfold f61_2
        exact aa.tv kv.len (aa.tv rfl (aa.ite aW nofun fun _=>aa.tv (dX (by omega)) (f61_1_J hy)))
       | succ e ihe =>
        intro j c w M hj hw hM hS hle hc1 hcn hc0 hcj
        have hjl:j < (ak f.blocks n).length:=by omega
        obtain ⟨g,hg⟩:∃ g,(ak f.blocks n)[j]? = some g:=⟨_,Fx hjl⟩
        have hgm:=FF hg
        have hgt:=aH hgm
        obtain ⟨x,rfl⟩:∃ x:Nat,g=(x:Int):=⟨g.toNat,by omega⟩
        have hxl:x < f.blocks.length:=by have:=hgt.2; omega
        obtain ⟨e1,he1,rfl,_⟩:=kv.pel hg
        have gx:=RBArr.get hw hxl
        have gn:=RBArr.get hw hnl
        have cj:(Bool.and (slSize v 1) (Nat.blt j (ak f.blocks n).length))=true:=by rw [kv.slSize]; simp; exact hjl
        have cx:(Bool.and (slSize w 1) (Nat.blt x (cL f.blocks.length M).length))=true:=by rw [RL.slSize hw]; simp [ao]; exact hxl
        have cn:(Bool.and (slSize w 1) (Nat.blt n (cL f.blocks.length M).length))=true:=by rw [RL.slSize hw]; simp [ao]; exact hnl
        have anx:ac (I (x:Nat))=some x:=ah (by omega)
        by_cases hMx:M x=true
        ·obtain ⟨w',a1,a2⟩:=RBArr.set hw hnl true
         have hcnt:lz f.blocks.length M0 < lz f.blocks.length (eW M n true):=by
          by_cases hMn:M n=true
          ·rw [BQ hMn]; exact hc1 (hcn hMn)
          ·rw [Dh (by simpa using hMn) hnl]; omega
         obtain ⟨y,hy,hq⟩:=ihe (j + 1) true w' (eW M n true) (by omega) a2 (by
          by_cases e:to=n
          ·rw [e,aJ]
          ·rw [aF e]; exact hM) (fun k hk=>by
          by_cases e:k=n
          ·subst e
           exact .back hnn hgm (by simpa using hS x hMx)
          ·rw [aF e] at hk; exact hS k hk) (by omega) (fun _=>hcnt) (fun _=>rfl) nofun nofun
         refine ⟨y,?_,hq⟩
         unfold f61_2
         refine aa.tv kv.len (aa.tv rfl (aa.ite (aQ hjl) (fun _=>aa.nat kv.slLen (aa.nat (ah (k:=j) (by omega)) (aa.chk cj (aa.tvs he1 (aa.chk rfl (aa.nat (RL.slLen hw) (aa.nat anx (aa.chk cx (aa.tvs gx (aa.chk rfl (aa.ite (v:=M x) rfl (fun _=>?_) fun h=>absurd hMx (by rw [h]; exact Bool.false_ne_true)))))))))))) nofun))
         exact aa.nat (RL.slLen hw) (aa.nat ann (aa.chk cn (aa.tvs gn (aa.chk rfl (aa.tv a1 (aa.tv (dX (by omega)) (f61_2_J hy)))))))
        ·have hMx:M x=false:=by simpa using hMx
         obtain ⟨y,hy,hq⟩:=ihe (j + 1) c w M (by omega) hw hM hS hle hc1 hcn hc0 (fun hcf g' hg'=>by
          rw [dS hg] at hg'
          rcases List.mem_append.1 hg' with hg' | hg'
          ·exact hcj hcf g' hg'
          ·rw [List.mem_singleton.1 hg',Int.toNat_natCast]; exact hMx)
         refine ⟨y,?_,hq⟩
         unfold f61_2
         exact aa.tv kv.len (aa.tv rfl (aa.ite (aQ hjl) (fun _=>aa.nat kv.slLen (aa.nat (ah (k:=j) (by omega)) (aa.chk cj (aa.tvs he1 (aa.chk rfl (aa.nat (RL.slLen hw) (aa.nat anx (aa.chk cx (aa.tvs gx (aa.chk rfl (aa.ite (v:=M x) rfl (fun h=>absurd h (by rw [hMx]; exact Bool.false_ne_true)) fun _=>aa.tv (dX (by omega)) (f61_2_J hy)))))))))))) nofun))
      obtain ⟨y,hy,hq⟩:=inner _ 0 c w M (Nat.zero_add _) hw hM hS hle hc1 (fun h=>by rw [hMn] at h; cases h) hc0 (fun _ g hg=>by simp at hg)
      refine ⟨y,?_,hq⟩
      unfold f61_1
      refine aa.tv hl (aa.tv rfl (aa.ite (aQ hnl) (fun _=>aa.nat (RL.slLen hw) (aa.nat ann (aa.chk cn (aa.tvs gn (aa.chk rfl (aa.ite (v:=M n) rfl (fun h=>absurd h (by rw [hMn]; exact Bool.false_ne_true)) fun _=>aa.tv (v:=B false) ?_ (aa.ite (v:=false) rfl nofun fun _=>aa.call hv (aa.chk (aK kv.isSl) (f61_2_J hy))))))))) nofun))
      show some (B ((n:Int) == (no:Int)))=_
      have:((n:Int) == (no:Int))=false:=by simp; omega
      rw [this]
  obtain ⟨y,hy,hq⟩:=sweep f.blocks.length 0 false w0 M0 (by omega) hw0 hM0 hS0 (Nat.le_refl _) nofun (fun _ n' h=>absurd h (Nat.not_lt_zero _))
  refine ⟨y,?_,hq⟩
  unfold f61_0
  exact aa.ite (v:=true) rfl (fun _=>f61_1_J hy) nofun
end
theorem ET {q:Option Bool} {e:List TV} {f:DFunc} (he:RFunc q e f) (hs:f.blocks.length<=30) {to no:Nat} (ht:to < f.blocks.length) (hno:no < f.blocks.length):∃ y,ba prog 61 [.agg e,I (to:Nat),I (no:Nat)] y/\RBArr y f.blocks.length (cmL f.blocks to no):=by
 have he0:=he
 obtain ⟨b,rfl,hb,_⟩:=he
 have hn:ac (I (f.blocks.length:Nat))=some f.blocks.length:=ah (by omega)
 have k0:=sg (n:=f.blocks.length) (by omega)
 by_cases e:to=no
 ·refine ⟨_,?_,RBArr.congr k0 (g':=cmL f.blocks to no) fun i _=>by unfold cmL; rw [bC fun h=>h.to_ne e]⟩
  refine ba.of (f61_MR _ _ _) ?_
  unfold f61_M
  refine aa.chk rfl (aa.tv hb.len (aa.nat hn (aa.nat hn (aa.chk (by simp; omega) (aa.tv (v:=B true) ?_ (aa.ite (v:=true) rfl (fun _=>aa.ret) nofun))))))
  show some (B ((to:Int) == (no:Int)))=_
  rw [e]; simp
 ·have gt:=RBArr.get k0 ht
  obtain ⟨w',a1,a2⟩:=RBArr.set k0 ht true
  obtain ⟨y,hy,hq⟩:=yN he0 hs ht hno (f.blocks.length + 1) w' _ (by omega) a2 aJ (fun k hk=>by
   by_cases e2:k=to
   ·subst e2; exact .refl e
   ·rw [aF e2] at hk; cases hk)
  refine ⟨y,?_,hq⟩
  refine ba.of (f61_MR _ _ _) ?_
  unfold f61_M
  refine aa.chk rfl (aa.tv hb.len (aa.nat hn (aa.nat hn (aa.chk (by simp; omega) (aa.tv (v:=B false) ?_ (aa.ite (v:=false) rfl nofun fun _=>?_))))))
  ·show some (B ((to:Int) == (no:Int)))=_
   have:((to:Int) == (no:Int))=false:=by simp; omega
   rw [this]
  ·refine aa.nat (RL.slLen k0) (aa.nat (ah (k:=to) (by omega)) (aa.chk ?_ (aa.tvs gt (aa.chk rfl (aa.tv a1 (f61_0_J hy))))))
   rw [RL.slSize k0]; simp [ao]; exact ht
end Go.Ab.Q12
end
section
set_option maxRecDepth 100000
namespace Go.Ab
def mi (bs:List DBlock) (h n k:Nat):Prop:=∃ n',n' < n/\Bk bs h n'/\Cm bs n' h k/\Dm bs h k
def zc (bs:List DBlock) (h n:Nat):Prop:=∃ n',n' < n/\Bk bs h n'
theorem Bt {bs:List DBlock} {h n k:Nat} (hb:¬ Bk bs h n):mi bs h (n + 1) k ↔ mi bs h n k:=by
 constructor
 ·rintro ⟨n',h1,h2⟩
  by_cases e:n'=n
  ·subst e; exact absurd h2.1 hb
  ·exact ⟨n',by omega,h2⟩
 ·rintro ⟨n',h1,h2⟩; exact ⟨n',by omega,h2⟩
theorem Bv {bs:List DBlock} {h n:Nat} (hb:¬ Bk bs h n):zc bs h (n + 1) ↔ zc bs h n:=by
 constructor
 ·rintro ⟨n',h1,h2⟩
  by_cases e:n'=n
  ·subst e; exact absurd h2 hb
  ·exact ⟨n',by omega,h2⟩
 ·rintro ⟨n',h1,h2⟩; exact ⟨n',by omega,h2⟩
theorem pE {bs:List DBlock} {h n k:Nat} (hb:Bk bs h n):mi bs h (n + 1) k ↔ mi bs h n k\/(Cm bs n h k/\Dm bs h k):=by
 constructor
 ·rintro ⟨n',h1,h2⟩
  by_cases e:n'=n
  ·subst e; exact .inr h2.2
  ·exact .inl ⟨n',by omega,h2⟩
 ·rintro (⟨n',h1,h2⟩ | h2)
  ·exact ⟨n',by omega,h2⟩
  ·exact ⟨n,by omega,hb,h2⟩
theorem DC {bs:List DBlock} {h:Nat}:zc bs h bs.length ↔ dL bs h :=
 ⟨fun ⟨n',_,h⟩=>⟨n',h⟩,fun ⟨n',h⟩=>⟨n',h.1.1.lt,h⟩⟩
theorem CC {bs:List DBlock} {h k:Nat} (hh:dL bs h):inLoop bs h k ↔ k=h\/mi bs h bs.length k:=by
 constructor
 ·rintro ⟨_,e | ⟨hd,n,hn,hc⟩⟩
  ·exact .inl e
  ·exact .inr ⟨n,hn.1.1.lt,hn,hc,hd⟩
 ·rintro (e | ⟨n,_,hn,hc,hd⟩)
  ·exact ⟨hh,.inl e⟩
  ·exact ⟨hh,.inr ⟨hd,n,hn,hc⟩⟩
end Go.Ab
namespace Go.Ab.Q12
open Go Go.Ab Go.Proofs
section
variable {qf:Option Bool} {b:TV} {f:DFunc} (hf:RFunc qf [I f.params,I f.regs,b] f) (hb:RL qf 14 (RBlock qf) b f.blocks) (hs:f.blocks.length<=30) {wo:TV} (kA:RL (some true) 1 (RBL (some true)) wo (ue f.blocks))
include hf hb hs kA
theorem Ev {h:Nat} (hh:dL f.blocks h) {win:TV} (ki:RBArr win f.blocks.length fun k=>tt (inLoop f.blocks h k)) {out:TV} (ko:RL (some true) 2 (RV (some true)) out (cW f.blocks h))
  (hnext:∀ out',RL (some true) 2 (RV (some true)) out' (cW f.blocks (h + 1))->∃ y,aa prog 39 (f39_0 (I ((h + 1:Nat):Int)) (I f.params) (I f.regs) b wo out') y/\RL (some true) 2 (RV (some true)) y (bw f.blocks)) :
  ∀ (d k:Nat) (w:TV),k + d=f.blocks.length->RInts (some true) w (aS (gi f.blocks k h))->∃ y,aa prog 39 (f39_4 (I h) (I k) (I f.params) (I f.regs) b wo out win (I h) w) y/\RL (some true) 2 (RV (some true)) y (bw f.blocks):=by
 have hhl:=hh.rc.lt
 have hl:=RL.len (t:=4) ki
 rw [ao] at hl
 intro d
 induction d with
 | zero =>
  intro k w hk hw
  have hk:k=f.blocks.length:=by omega
  subst hk
  have hol:=mo f.blocks h
  obtain ⟨out',a1,a2⟩:=RL.app ko (e:=[I (h:Nat),w]) (a:=(h,aS (gi f.blocks f.blocks.length h))) ⟨w,rfl,hw⟩ (by omega)
  obtain ⟨y,hy,hq⟩:=hnext out' (by rw [iA,if_pos hh]; exact a2)
  refine ⟨y,?_,hq⟩
  unfold f39_4
  refine aa.tv hl (aa.tv rfl (aa.ite aW nofun fun _=>f39_5_J ?_))
  unfold f39_5
  exact aa.rws rfl (aa.tv a1 (aa.tv (dX (by omega)) (f39_0_J hy)))
 | succ d ih =>
  intro k w hk hw
  have hkl:k < f.blocks.length:=by omega
  have gk:=RBArr.get ki hkl
  have ank:ac (I (k:Nat))=some k:=ah (by omega)
  have ck:(Bool.and (slSize win 1) (Nat.blt k (cL f.blocks.length fun k=>tt (inLoop f.blocks h k)).length))=true:=by rw [RL.slSize ki]; simp [ao]; exact hkl
  by_cases e:inLoop f.blocks h k
  ·rw [bE e] at gk
   have hll:=wW f.blocks k h
   obtain ⟨w',a1,a2⟩:=RL.app hw (e:=[I (k:Nat)]) (a:=((k:Nat):Int)) ⟨rfl,by constructor <;> omega⟩ (by rw [dv]; omega)
   obtain ⟨y,hy,hq⟩:=ih (k + 1) w' (by omega) (by rw [pC,if_pos e,iJ]; exact a2)
   refine ⟨y,?_,hq⟩
   unfold f39_4
   exact aa.tv hl (aa.tv rfl (aa.ite (aQ hkl) (fun _=>aa.nat (RL.slLen ki) (aa.nat ank (aa.chk ck (aa.tvs gk (aa.chk rfl (aa.ite (v:=true) rfl (fun _=>aa.chk rfl (aa.rws rfl (aa.tv a1 (aa.tv (dX (by omega)) (f39_4_J hy))))) nofun)))))) nofun))
  ·rw [bC e] at gk
   obtain ⟨y,hy,hq⟩:=ih (k + 1) w (by omega) (by rw [pC,if_neg e]; exact hw)
   refine ⟨y,?_,hq⟩
   unfold f39_4
   exact aa.tv hl (aa.tv rfl (aa.ite (aQ hkl) (fun _=>aa.nat (RL.slLen ki) (aa.nat ank (aa.chk ck (aa.tvs gk (aa.chk rfl (aa.ite (v:=false) rfl nofun fun _=>aa.tv (dX (by omega)) (f39_4_J hy))))))) nofun))
theorem refPut {h n:Nat} (hhl:h < f.blocks.length) (hn:n < f.blocks.length) (hB:Bk f.blocks h n) {out wf:TV} (kf:RBArr wf f.blocks.length (cmL f.blocks n h))
  (hnext:∀ w,(RBArr w f.blocks.length fun k=>tt (mi f.blocks h (n + 1) k))->∃ y,aa prog 39 (f39_1 (I h) (B true) (I ((n + 1:Nat):Int)) (I f.params) (I f.regs) b wo out w) y/\RL (some true) 2 (RV (some true)) y (bw f.blocks)) :
  ∀ (d k:Nat) (w:TV),k + d=f.blocks.length->(RBArr w f.blocks.length fun i=>if i < k then tt (mi f.blocks h (n + 1) i) else tt (mi f.blocks h n i))->∃ y,aa prog 39 (f39_2 (I h) (B true) (I n) (I k) (I f.params) (I f.regs) b wo out w wf) y/\RL (some true) 2 (RV (some true)) y (bw f.blocks):=by
 intro d
 induction d with
 | zero =>
  intro k w hk hw
  have hk:k=f.blocks.length:=by omega
  subst hk
  have hl:=RL.len (t:=4) hw
  rw [ao] at hl
  obtain ⟨y,hy,hq⟩:=hnext w (RBArr.congr hw fun i hi=>if_pos hi)
  refine ⟨y,?_,hq⟩
  unfold f39_2
  exact aa.tv hl (aa.tv rfl (aa.ite aW nofun fun _=>aa.tv (dX (by omega)) (f39_1_J hy)))
 | succ d ih =>
  intro k w hk hw
  have hkl:k < f.blocks.length:=by omega
  have hl:=RL.len (t:=4) hw
  rw [ao] at hl
  have gk:=RBArr.get hw hkl
  rw [if_neg (Nat.lt_irrefl k)] at gk
  have gf:=RBArr.get kf hkl
  have ank:ac (I (k:Nat))=some k:=ah (by omega)
  have ck:(Bool.and (slSize w 1) (Nat.blt k (cL f.blocks.length fun i=>if i < k then tt (mi f.blocks h (n + 1) i) else tt (mi f.blocks h n i)).length))=true:=by rw [RL.slSize hw]; simp [ao]; exact hkl
  have cf:(Bool.and (slSize wf 1) (Nat.blt k (cL f.blocks.length (cmL f.blocks n h)).length))=true:=by rw [RL.slSize kf]; simp [ao]; exact hkl
  obtain ⟨w',a1,a2⟩:=RBArr.set hw hkl (tt (mi f.blocks h (n + 1) k))
  obtain ⟨y,hy,hq⟩:=ih (k + 1) w' (by omega) (RBArr.congr a2 fun i _=>by
   by_cases e:i=k
   ·subst e; rw [aJ,if_pos (by omega)]
   ·rw [aF e]
    by_cases h1:i < k
    ·rw [if_pos h1,if_pos (by omega)]
    ·rw [if_neg h1,if_neg (by omega)])
  refine ⟨y,?_,hq⟩
  unfold f39_2
  refine aa.tv hl (aa.tv rfl (aa.ite (aQ hkl) (fun _=>aa.nat (RL.slLen hw) (aa.nat ank (aa.chk ck (aa.tvs gk (aa.chk rfl (aa.ite (v:=tt (mi f.blocks h n k)) rfl (fun h1=>?_) fun h1=>?_)))))) nofun))
  ·have e1:mi f.blocks h n k:=mw.1 h1
   rw [bE ((pE hB).2 (.inl e1))] at a1
   exact aa.nat (RL.slLen hw) (aa.nat ank (aa.chk ck (aa.tvs gk (aa.chk rfl (aa.tv a1 (aa.tv (dX (by omega)) (f39_2_J hy)))))))
  ·have e1:¬ mi f.blocks h n k:=fun e=>by rw [bE e] at h1; cases h1
   refine aa.nat (RL.slLen kf) (aa.nat ank (aa.chk cf (aa.tvs gf (aa.chk rfl (aa.ite (v:=cmL f.blocks n h k) rfl (fun h2=>?_) fun h2=>?_)))))
   ·have e2:Cm f.blocks n h k:=mw.1 h2
    rw [ju (show mi f.blocks h (n + 1) k ↔ Dm f.blocks h k from (pE hB).trans ⟨fun q=>q.elim (fun q=>absurd q e1) fun q=>q.2,fun q=>.inr ⟨e2,q⟩⟩)] at a1
    refine rm kA (by omega) hhl hkl ?_
    exact aa.nat (RL.slLen hw) (aa.nat ank (aa.chk ck (aa.tvs gk (aa.chk rfl (aa.tv a1 (aa.tv (dX (by omega)) (f39_2_J hy)))))))
   ·have e2:¬ Cm f.blocks n h k:=fun e=>by unfold cmL at h2; rw [bE e] at h2; cases h2
    rw [bC (show ¬ mi f.blocks h (n + 1) k from fun q=>((pE hB).1 q).elim e1 fun q=>e2 q.1)] at a1
    exact aa.nat (RL.slLen hw) (aa.nat ank (aa.chk ck (aa.tvs gk (aa.chk rfl (aa.tv a1 (aa.tv (dX (by omega)) (f39_2_J hy)))))))
theorem EX {h:Nat} (hhl:h < f.blocks.length) {out:TV} (ko:RL (some true) 2 (RV (some true)) out (cW f.blocks h))
  (hnext:∀ out',RL (some true) 2 (RV (some true)) out' (cW f.blocks (h + 1))->∃ y,aa prog 39 (f39_0 (I ((h + 1:Nat):Int)) (I f.params) (I f.regs) b wo out') y/\RL (some true) 2 (RV (some true)) y (bw f.blocks)) :
  ∀ (d n:Nat) (w:TV),n + d=f.blocks.length->(RBArr w f.blocks.length fun k=>tt (mi f.blocks h n k))->∃ y,aa prog 39 (f39_1 (I h) (B (tt (zc f.blocks h n))) (I n) (I f.params) (I f.regs) b wo out w) y/\RL (some true) 2 (RV (some true)) y (bw f.blocks):=by
 intro d
 induction d with
 | zero =>
  intro n w hn hw
  have hn:n=f.blocks.length:=by omega
  subst hn
  rw [ju DC]
  by_cases hh:dL f.blocks h
  ·rw [bE hh]
   have gh:=RBArr.get hw hhl
   obtain ⟨w',a1,a2⟩:=RBArr.set hw hhl true
   obtain ⟨y,hy,hq⟩:=Ev hf hb hs kA hh (win:=w') (RBArr.congr a2 fun i _=>by
    rw [ju (CC hh (k:=i))]
    by_cases e:i=h
    ·subst e; rw [aJ,bE (.inl rfl)]
    ·rw [aF e]
     exact ju ⟨.inr,fun q=>q.resolve_left e⟩) ko hnext f.blocks.length 0 (.lit aB) (by omega) (by simpa [gi,aS] using RL.nil)
   refine ⟨y,?_,hq⟩
   unfold f39_1
   refine aa.tv hb.len (aa.tv rfl (aa.ite aW nofun fun _=>f39_3_J ?_))
   unfold f39_3
   refine aa.tv (v:=B false) rfl (aa.ite (v:=false) rfl nofun fun _=>aa.nat (RL.slLen hw) (aa.nat (ah (k:=h) (by omega)) (aa.chk ?_ (aa.tvs gh (aa.chk rfl (aa.tv a1 (aa.chk rfl (aa.chk rfl (f39_4_J hy)))))))))
   rw [RL.slSize hw]; simp [ao]; exact hhl
  ·rw [bC hh]
   obtain ⟨y,hy,hq⟩:=hnext out (by rw [iA,if_neg hh]; exact ko)
   refine ⟨y,?_,hq⟩
   unfold f39_1
   refine aa.tv hb.len (aa.tv rfl (aa.ite aW nofun fun _=>f39_3_J ?_))
   unfold f39_3
   exact aa.tv (v:=B true) rfl (aa.ite (v:=true) rfl (fun _=>aa.tv (dX (by omega)) (f39_0_J hy)) nofun)
 | succ d ih =>
  intro n w hn hw
  have hnl:n < f.blocks.length:=by omega
  have skip:¬ Bk f.blocks h n->∃ y,aa prog 39 (f39_1 (I h) (B (tt (zc f.blocks h n))) (I ((n + 1:Nat):Int)) (I f.params) (I f.regs) b wo out w) y/\RL (some true) 2 (RV (some true)) y (bw f.blocks):=fun hB=>by
   rw [<- ju (Bv hB)]
   exact ih (n + 1) w (by omega) (RBArr.congr hw fun i _=>(ju (Bt hB)).symm)
  obtain ⟨v,hv,kv⟩:=r72 hf ((n:Nat):Int)
  rw [gA] at kv
  have hhas:=r75 (kv.frz fun _ _ h=>h.frz) ((h:Nat):Int)
  by_cases hD:Dm f.blocks h n
  ·by_cases hG:((h:Nat):Int) ∈ ak f.blocks n
   ·have hB:Bk f.blocks h n:=⟨hD,hG⟩
    rw [decide_eq_true hG] at hhas
    obtain ⟨wf,hwf,kf⟩:=ET hf hs hnl hhl
    obtain ⟨y,hy,hq⟩:=refPut hf hb hs kA hhl hnl hB kf (out:=out) (fun w' hw'=>by
     have:=ih (n + 1) w' (by omega) hw'
     rw [bE (show zc f.blocks h (n + 1) from ⟨n,by omega,hB⟩)] at this
     exact this) f.blocks.length 0 w (by omega) (RBArr.congr hw fun i _=>(if_neg (Nat.not_lt_zero i)).symm)
    refine ⟨y,?_,hq⟩
    unfold f39_1
    refine aa.tv hb.len (aa.tv rfl (aa.ite (aQ hnl) (fun _=>rm kA (by omega) hhl hnl ?_) nofun))
    rw [bE hD]
    exact aa.tv (v:=B false) rfl (aa.ite (v:=false) rfl nofun fun _=>aa.call hv (aa.chk (aK kv.isSl) (aa.call hhas (aa.chk rfl (aa.tv (v:=B false) rfl (aa.ite (v:=false) rfl nofun fun _=>aa.call hwf (aa.chk (aK (RL.isSl kf)) (f39_2_J hy))))))))
   ·obtain ⟨y,hy,hq⟩:=skip fun q=>hG q.2
    rw [decide_eq_false hG] at hhas
    refine ⟨y,?_,hq⟩
    unfold f39_1
    refine aa.tv hb.len (aa.tv rfl (aa.ite (aQ hnl) (fun _=>rm kA (by omega) hhl hnl ?_) nofun))
    rw [bE hD]
    exact aa.tv (v:=B false) rfl (aa.ite (v:=false) rfl nofun fun _=>aa.call hv (aa.chk (aK kv.isSl) (aa.call hhas (aa.chk rfl (aa.tv (v:=B true) rfl (aa.ite (v:=true) rfl (fun _=>aa.tv (dX (by omega)) (f39_1_J hy)) nofun))))))
  ·obtain ⟨y,hy,hq⟩:=skip fun q=>hD q.1
   refine ⟨y,?_,hq⟩
   unfold f39_1
   refine aa.tv hb.len (aa.tv rfl (aa.ite (aQ hnl) (fun _=>rm kA (by omega) hhl hnl ?_) nofun))
   rw [bC hD]
   exact aa.tv (v:=B true) rfl (aa.ite (v:=true) rfl (fun _=>aa.tv (dX (by omega)) (f39_1_J hy)) nofun)
theorem refAll:∀ (d h:Nat) (out:TV),h + d=f.blocks.length->RL (some true) 2 (RV (some true)) out (cW f.blocks h)->∃ y,aa prog 39 (f39_0 (I h) (I f.params) (I f.regs) b wo out) y/\RL (some true) 2 (RV (some true)) y (bw f.blocks):=by
 intro d
 induction d with
 | zero =>
  intro h out hh ko
  have hh:h=f.blocks.length:=by omega
  subst hh
  refine ⟨out,?_,ko⟩
  unfold f39_0
  exact aa.tv hb.len (aa.tv rfl (aa.ite aW nofun fun _=>aa.ret))
 | succ d ih =>
  intro h out hh ko
  have hhl:h < f.blocks.length:=by omega
  have hn:ac (I (f.blocks.length:Nat))=some f.blocks.length:=ah (by omega)
  obtain ⟨y,hy,hq⟩:=EX hf hb hs kA hhl ko (fun out' ko'=>ih (h + 1) out' (by omega) ko') f.blocks.length 0 _ (by omega) (RBArr.congr (sg (n:=f.blocks.length) (by omega)) fun i _=>(bC fun ⟨n',h1,_⟩=>absurd h1 (Nat.not_lt_zero _)).symm)
  rw [bC (show ¬ zc f.blocks h 0 from fun ⟨n',h1,_⟩=>absurd h1 (Nat.not_lt_zero _))] at hy
  refine ⟨y,?_,hq⟩
  unfold f39_0
  exact aa.tv hb.len (aa.tv rfl (aa.ite (aQ hhl) (fun _=>aa.tv hb.len (aa.nat hn (aa.nat hn (aa.chk (by simp; omega) (f39_1_J hy))))) nofun))
end
theorem rAllR9 {q:Option Bool} {e:List TV} {f:DFunc} (he:RFunc q e f) (hs:f.blocks.length<=30):∃ y,ba prog 39 [.agg e] y/\RL (some true) 2 (RV (some true)) y (bw f.blocks):=by
 have he0:=he
 obtain ⟨wo,hwo,kA⟩:=rAllR8 he (by omega)
 obtain ⟨b,rfl,hb,_⟩:=he
 obtain ⟨y,hy,hq⟩:=refAll he0 hb hs kA f.blocks.length 0 (.lit aB) (by omega) (by simpa [cW] using RL.nil)
 refine ⟨y,?_,hq⟩
 refine ba.of (f39_MR _) ?_
 unfold f39_M
 exact aa.chk rfl (aa.call hwo (aa.chk (aK kA.isSl) (aa.chk rfl (f39_0_J hy))))
end Go.Ab.Q12
end
section
set_option maxRecDepth 100000
namespace Go.Ab
theorem Ca (bs:List DBlock) (n:Int):((bw bs).filter fun p=>decide (n ∈ p.2)).length=m7 bs n:=by
 unfold bw cW
 rw [List.filter_map,List.length_map,List.filter_filter]
 unfold m7
 split
 ·rename_i h0
  congr 1
  refine List.filter_congr fun h _=>?_
  have e:n=((n.toNat:Nat):Int):=by omega
  show (decide (n ∈ aS (gi bs bs.length h)) && tt (dL bs h))=tt (inLoop bs h n.toNat)
  by_cases hl:inLoop bs h n.toNat
  ·rw [bE hl,bE hl.1,decide_eq_true (by rw [e]; exact Ah.2 hl)]; rfl
  ·rw [bC hl,decide_eq_false (by rw [e]; exact fun q=>hl (Ah.1 q))]; rfl
 ·rename_i h0
  rw [List.length_eq_zero_iff,List.filter_eq_nil_iff]
  intro h _ hq
  have hm:n ∈ aS (gi bs bs.length h):=by
   have:(decide (n ∈ aS (gi bs bs.length h)) && tt (dL bs h))=true:=hq
   rw [Fz] at this
   exact of_decide_eq_true this.1
  unfold aS at hm
  obtain ⟨a,_,e⟩:=List.mem_map.1 hm
  omega
end Go.Ab
namespace Go.Ab.Q12
open Go Go.Ab Go.Proofs
section
variable {qf:Option Bool} {b:TV} {f:DFunc} (hf:RFunc qf [I f.params,I f.regs,b] f) (hs:f.blocks.length<=30) {q1 q2:Option Bool} {w v:TV} (hw:RL (some true) 2 (RV q1) w (bw f.blocks)) (hv:RL (some true) 2 (RV q2) v (bw f.blocks)) {n:Int} (hn:inI n)
include hf hs hw hv hn
theorem A5:∀ (d i:Nat),i + d=(bw f.blocks).length->aa prog 11 (f11_0 (I n) (I ((((bw f.blocks).take i).filter fun p=>decide (n ∈ p.2)).length:Nat)) (I i) (I f.params) (I f.regs) b w v) (B true):=by
 have hll:(bw f.blocks).length<=30:=Nat.le_trans (mo _ _) hs
 intro d
 induction d with
 | zero =>
  intro i hi
  have hi:i=(bw f.blocks).length:=by omega
  subst hi
  rw [List.take_length,Ca]
  have hd:=DH hf hs hn
  unfold f11_0
  refine aa.tv hw.len (aa.tv rfl (aa.ite aW nofun fun _=>f11_1_J ?_))
  unfold f11_1
  refine aa.call hd (aa.chk rfl (aa.tv (v:=B true) ?_ aa.ret))
  show some (B (((m7 f.blocks n:Nat):Int) == ((m7 f.blocks n:Nat):Int)))=_
  simp
 | succ d ih =>
  intro i hi
  have hil:i < (bw f.blocks).length:=by omega
  obtain ⟨p,hp⟩:∃ p,(bw f.blocks)[i]? = some p:=⟨_,Fx hil⟩
  obtain ⟨e1,h1,v1,rfl,k1⟩:=hw.pel hp
  obtain ⟨e2,h2,v2,rfl,k2⟩:=hv.pel hp
  have g1:=RL.deep hw h1 (j:=1) (z:=v1) rfl
  have g2:=RL.deep hv h2 (j:=1) (z:=v2) rfl
  have ani:ac (I (i:Nat))=some i:=ah (by omega)
  have cw:(Bool.and (slSize w 2) (Nat.blt i (bw f.blocks).length))=true:=by rw [hw.slSize]; simp; exact hil
  have cv:(Bool.and (slSize v 2) (Nat.blt i (bw f.blocks).length))=true:=by rw [hv.slSize]; simp; exact hil
  have f1:ab zSl [I (p.1:Nat),v1] 1=true:=by
   show (v1.isSl && true)=true
   rw [k1.isSl]; rfl
  have f2:ab zSl [I (p.1:Nat),v2] 1=true:=by
   show (v2.isSl && true)=true
   rw [k2.isSl]; rfl
  have hints:=r14 (k1.frz fun _ _ h=>h.frz) (k2.frz fun _ _ h=>h.frz)
  rw [bE rfl] at hints
  have hhas:=r75 (k2.frz fun _ _ h=>h.frz) n
  have hgo:=ih (i + 1) (by omega)
  have hcl:(((bw f.blocks).take i).filter fun p=>decide (n ∈ p.2)).length<=30:=Nat.le_trans (List.length_filter_le _ _) (by rw [List.length_take]; omega)
  unfold f11_0
  refine aa.tv hw.len (aa.tv rfl (aa.ite (aQ hil) (fun _=>?_) nofun))
  refine aa.nat hw.slLen (aa.nat ani (aa.chk cw (aa.tvs h1 (aa.chk rfl (aa.nat hv.slLen (aa.nat ani (aa.chk cv (aa.tvs h2 (aa.chk rfl (aa.tv (v:=B false) ?_ (aa.ite (v:=false) rfl nofun fun _=>?_)))))))))))
  ·show some (B ((p.1:Int) != (p.1:Int)))=_
   simp
  refine aa.nat hw.slLen (aa.nat ani (aa.chk cw (aa.tvs h1 (aa.chk f1 (aa.nat hv.slLen (aa.nat ani (aa.chk cv (aa.tvs h2 (aa.chk f2 (aa.tv g1 (aa.tv g2 (aa.call hints (aa.chk rfl (aa.tv (v:=B false) rfl (aa.ite (v:=false) rfl nofun fun _=>?_)))))))))))))))
  refine aa.nat hv.slLen (aa.nat ani (aa.chk cv (aa.tvs h2 (aa.chk f2 (aa.tv g2 (aa.call hhas (aa.chk rfl (aa.ite (v:=decide (n ∈ p.2)) rfl (fun hq=>?_) fun hq=>?_))))))))
  ·rw [dS hp,List.filter_append,List.length_append] at hgo
   simp only [List.filter_cons,hq,if_true,List.filter_nil,List.length_cons,List.length_nil] at hgo
   exact aa.tv (dX (by omega)) (aa.tv (dX (by omega)) (f11_0_J hgo))
  ·rw [dS hp,List.filter_append,List.length_append] at hgo
   simp only [List.filter_cons,hq,List.filter_nil] at hgo
   exact aa.tv (dX (by omega)) (f11_0_J hgo)
end
theorem rLoopRight {q:Option Bool} {e:List TV} {f:DFunc} (he:RFunc q e f) {n:Int} (hn:inI n):ba prog 11 [.agg e,I n] (B true):=by
 have he0:=he
 obtain ⟨b,rfl,hb,_⟩:=he
 refine ba.of (f11_MR _ _) ?_
 unfold f11_M
 refine aa.chk rfl (aa.call Ej (aa.chk rfl (aa.tv rfl (aa.ite (v:=false) rfl nofun fun _=>aa.tv hb.len (aa.tv rfl (aa.ite rfl (fun _=>aa.ret) fun h=>?_))))))
 have hs:f.blocks.length<=30:=by
  have:¬ (f.blocks.length:Int) > 30:=by simpa using h
  omega
 obtain ⟨y,hy,k⟩:=xa he0 hs
 obtain ⟨z,hz,k'⟩:=rAllR9 he0 hs
 refine aa.call hy (aa.chk (aK k.isSl) (aa.call hz (aa.chk (aK k'.isSl) (aa.tv k.len (aa.tv k'.len (aa.tv (v:=B false) ?_ (aa.ite (v:=false) rfl nofun fun _=>f11_0_J (A5 he0 hs k k' hn _ 0 (Nat.zero_add _)))))))))
 show some (B (((bw f.blocks).length:Int) != ((bw f.blocks).length:Int)))=_
 simp
end Go.Ab.Q12
end
section
namespace Go.Ab
open Go.RowKit
theorem aR {α:Type} (d:α):∀ (l:List α) (n:Nat),nth d l n=(l[n]?).getD d
 | [],n=>by simp [nth]
 | a :: l,0=>rfl
 | a :: l,n + 1=>by simp [nth,aR d l n]
theorem aj {α:Type}:∀ (l:List α) (n:Nat) (b:α),am l n b=l.set n b
 | [],n,b=>by simp [am]
 | a :: l,0,b=>rfl
 | a :: l,n + 1,b=>by simp [am,aj l n b]
theorem bU {α:Type} {d:α} {l:List α} {n:Nat} {a:α} (h:l[n]? = some a):nth d l n=a:=by rw [aR,h]; rfl
theorem au (a b:Nat):a.beq b=true ↔ a=b:=⟨Nat.eq_of_beq_eq_true,fun h=>h ▸ Nat.beq_refl a⟩
theorem b8 (n:Nat):∀ l:List Nat,bO n l=true ↔ n ∈ l
 | []=>by simp [bO]
 | a :: l => by
  cases h:a.beq n
  ·have:a≠n:=fun e=>by simp [e] at h
   simp only [bO,h,cond_false,b8 n l,List.mem_cons]
   constructor
   ·exact .inr
   ·rintro (e | e)
    ·exact absurd e.symm this
    ·exact e
  ·simp only [bO,h,cond_true,List.mem_cons,true_iff]
   exact .inl ((au a n).1 h).symm
theorem fw (a:Addr) (k:Nat):(a.add k).block=a.block:=by unfold Addr.add; split <;> rfl
theorem eY (a:Addr) (i j:Nat):(a.add i).add j=a.add (i + j):=by
 unfold Addr.add
 by_cases hi:i=0 <;> by_cases hj:j=0 <;> simp [hi,hj,Nat.add_assoc]
theorem eM (b o k:Nat):(⟨b,o,none⟩:Addr).add k=⟨b,o + k,none⟩:=by unfold Addr.add; split <;> simp_all
def spl {α:Type} (l:List α) (o:Nat) (ys:List α):List α:=l.take o ++ ys ++ l.drop (o + ys.length)
theorem iF {α:Type} {l ys:List α} {o:Nat} (h:o + ys.length<=l.length):(spl l o ys).length=l.length:=by
 simp only [spl,List.length_append,List.length_take,List.length_drop]
 omega
theorem cQ {α:Type} {l ys:List α} {o:Nat} (h:o + ys.length<=l.length) (k:Nat):(spl l o ys)[k]? = if o<=k/\k < o + ys.length then ys[k - o]? else l[k]? := by
 have e1:(l.take o).length=o:=by simp; omega
 unfold spl
 by_cases h1:k < o
 ·rw [List.append_assoc,FG (by omega),List.getElem?_take,if_pos h1,if_neg (by omega)]
 ·by_cases h2:k < o + ys.length
  ·rw [List.append_assoc,FH (by omega),e1,FG (by omega),if_pos (by omega)]
  ·rw [FH (by simp; omega),List.getElem?_drop,if_neg (by omega)]
   congr 1
   simp
   omega
theorem fx {α:Type}:∀ (ps l:List α) (off:Nat),off + ps.length<=l.length->b9 l off ps=spl l off ps
 | [],l,off,h=>by simp [b9,spl]
 | p :: ps, l, off, h => by
  have hlt:off < l.length:=by simp at h; omega
  simp only [b9]
  rw [aj,fx ps (l.set off p) (off + 1) (by simp at h ⊢; omega)]
  apply List.ext_getElem?
  intro k
  rw [cQ (by simp at h ⊢; omega),cQ h]
  simp only [List.length_cons,List.getElem?_set]
  by_cases h1:k < off
  ·rw [if_neg (by omega),if_neg (by omega),if_neg (by omega)]
  ·by_cases h2:k=off
   ·subst h2
    rw [if_neg (by omega),if_pos (by omega)]
    simp [hlt]
   ·by_cases h3:k < off + (ps.length + 1)
    ·rw [if_pos (by omega),if_pos (by omega)]
     rw [show k - off=(k - (off + 1)) + 1 by omega,List.getElem?_cons_succ]
    ·rw [if_neg (by omega),if_neg (by omega),if_neg (by omega)]
theorem fu {α:Type}:∀ (l:List α) (o n:Nat) (r:List α),lr l o n=some r->r.length=n/\(n=0\/o + n<=l.length)/\∀ j,j < n->r[j]? = l[o + j]?
 | l,o,0,r,h=>by cases l <;> simp [lr] at h <;> subst h <;> simp
 | [],o,n + 1,r,h=>by simp [lr] at h
 | a :: l, 0, n + 1, r, h => by
  simp only [lr] at h
  cases h1:lr l 0 n with
  | none=>simp [h1] at h
  | some r' =>
   simp only [h1,Fy] at h
   subst h
   obtain ⟨i1,i2,i3⟩:=fu l 0 n r' h1
   refine ⟨by simp [i1],.inr (by simp; omega),fun j hj=>?_⟩
   cases j with
   | zero=>simp
   | succ j=>simpa using i3 j (by omega)
 | a :: l,o + 1,n + 1,r,h=>by
  simp only [lr] at h
  obtain ⟨i1,i2,i3⟩:=fu l o (n + 1) r h
  refine ⟨i1,.inr (by rcases i2 with i2 | i2 <;> simp <;> omega),fun j hj=>?_⟩
  rw [i3 j hj,show o + 1 + j=(o + j) + 1 by omega,List.getElem?_cons_succ]
theorem cb {α:Type} {s:Nat}:∀ {xs:List (List α)},(∀ x ∈ xs,x.length=s)->xs.flatten.length=xs.length * s
 | [],_=>by simp
 | x :: xs,h=>by
  simp only [List.flatten_cons,List.length_append,List.length_cons,h x FD,cb (fun y hy=>h y (FE _ hy)),Nat.add_mul]
  omega
theorem f7 {α:Type} {s:Nat}:∀ {xs:List (List α)} {i j:Nat} {x:List α} {c:α},(∀ x ∈ xs,x.length=s)->xs[i]? = some x->x[j]? = some c->xs.flatten[i * s + j]? = some c
 | x :: xs,0,j,_,c,h,hi,hj=>by
  simp at hi
  subst hi
  rw [List.flatten_cons,FG (by simp; exact (Fw.1 hj).1)]
  simpa using hj
 | x :: xs,i + 1,j,y,c,h,hi,hj=>by
  simp at hi
  have hx:=h x FD
  rw [List.flatten_cons,FH (by rw [hx,Nat.add_mul]; omega),hx,show (i + 1) * s + j - s=i * s + j by rw [Nat.add_mul]; omega]
  exact f7 (fun z hz=>h z (FE _ hz)) hi hj
theorem take_add {α:Type} {x l:List α} {s n:Nat} (h:x.length=s):(x ++ l).take (s + n)=x ++ l.take n:=by
 subst h
 exact List.take_length_add_append n
theorem xf {α:Type} {x l:List α} {s n:Nat} (h:x.length=s):(x ++ l).drop (s + n)=l.drop n:=by
 subst h
 exact List.drop_length_add_append n
theorem pB (n s:Nat):(n + 1) * s=s + n * s:=by rw [Nat.add_mul]; omega
theorem mD {α:Type} {s:Nat}:∀ {xs:List (List α)} (n:Nat),(∀ x ∈ xs,x.length=s)->(xs.take n).flatten=xs.flatten.take (n * s)
 | [],n,_=>by simp
 | x :: xs,0,_=>by simp
 | x :: xs,n + 1,h=>by
  have hx:=h x FD
  rw [List.take_succ_cons,List.flatten_cons,List.flatten_cons,mD n (fun z hz=>h z (FE _ hz)),pB,take_add hx]
theorem mT {α:Type} {s:Nat}:∀ {xs:List (List α)} (n:Nat),(∀ x ∈ xs,x.length=s)->(xs.drop n).flatten=xs.flatten.drop (n * s)
 | [],n,_=>by simp
 | x :: xs,0,_=>by simp
 | x :: xs,n + 1,h=>by
  have hx:=h x FD
  rw [List.drop_succ_cons,List.flatten_cons,mT n (fun z hz=>h z (FE _ hz)),pB,xf hx]
theorem xj {α:Type} {s:Nat}:∀ {xs:List (List α)} {i:Nat} {x y:List α},(∀ x ∈ xs,x.length=s)->xs[i]? = some x->y.length=s->(xs.set i y).flatten=spl xs.flatten (i * s) y
 | x :: xs,0,_,y,h,hi,hy=>by
  simp at hi
  subst hi
  have hx:=h x FD
  simp only [List.set_cons_zero,List.flatten_cons,Nat.zero_mul,spl,List.take_zero,List.nil_append,Nat.zero_add,hy,List.drop_append,hx,Nat.sub_self,List.drop_zero]
  rw [List.drop_of_length_le (by omega),List.nil_append]
 | x :: xs,i + 1,z,y,h,hi,hy=>by
  simp at hi
  have hx:=h x FD
  have ih:=xj (fun z hz=>h z (FE _ hz)) hi hy
  simp only [List.set_cons_succ,List.flatten_cons,ih,spl,pB,take_add hx,hy]
  rw [show s + i * s + s=s + (i * s + s) by omega,xf hx]
  simp only [List.append_assoc]
theorem zW {α:Type} {s:Nat} {xs:List (List α)} {i:Nat} {y:List α} (h:∀ x ∈ xs,x.length=s) (hy:y.length=s):∀ x ∈ xs.set i y,x.length=s:=by
 intro x hx
 rcases List.mem_or_eq_of_mem_set hx with h' | h'
 ·exact h x h'
 ·rw [h']; exact hy
theorem xA {α:Type} {s:Nat} {xs:List (List α)} {i j:Nat} {x ys:List α} (h:∀ x ∈ xs,x.length=s) (hi:xs[i]? = some x) (hj:j + ys.length<=x.length) :
  (xs.set i (spl x j ys)).flatten=spl xs.flatten (i * s + j) ys/\i * s + j + ys.length<=xs.flatten.length:=by
 have hx:=h x (FF hi)
 have hlt:i < xs.length:=(Fw.1 hi).1
 have hle:i * s + s<=xs.flatten.length:=by
  rw [cb h]
  have:=Nat.mul_le_mul_right s (Nat.succ_le_of_lt hlt)
  rw [Nat.succ_mul] at this
  exact this
 refine ⟨?_,by omega⟩
 rw [xj h hi (by rw [iF hj,hx])]
 apply List.ext_getElem?
 intro k
 rw [cQ (l:=xs.flatten) (ys:=spl x j ys) (by rw [iF hj]; omega),cQ (l:=xs.flatten) (ys:=ys) (by omega),iF hj,hx]
 by_cases h1:i * s<=k/\k < i * s + s
 ·rw [if_pos h1,cQ hj]
  by_cases h2:j<=k - i * s/\k - i * s < j + ys.length
  ·rw [if_pos h2,if_pos (by omega)]
   congr 1
   omega
  ·rw [if_neg h2,if_neg (by omega)]
   have hk:k - i * s < x.length:=by omega
   have:=f7 h hi (Fx hk)
   rw [show i * s + (k - i * s)=k by omega] at this
   rw [this,Fx hk]
 ·rw [if_neg h1,if_neg (by omega)]
inductive Rep (w:World) (I:Nat->Prop):TV->Value->Prop
 | lit (v:Value):Rep w I (.lit v) v
 | hole (v:Value):Rep w I .hole v
 | buf {s:ByteArray} (e:TypeId) (h:s.size=0):Rep w I (.buf s e) aB
 | sl {size : Nat} {xs : List (List TV)} {a : Addr} {cap : Nat} (cell : Nat → Value) (hI : 0 < xs.length → I a.block) (hc : xs.length ≤ cap) (hm : cap ≤ maxLen)
   (hl:∀ x ∈ xs,x.length=size) (hcell:∀ k,k < xs.length * size->w.cell? (a.add k)=some (cell k)) (h1:∀ k,k < xs.length * size->(cell k).oneCell'=true)
   (hr:∀ (i:Nat) (x:List TV),xs[i]? = some x->∀ (j:Nat) (c:TV),x[j]? = some c->Rep w I c (cell (i * size + j))):Rep w I (.sl false size xs) (.slice (some a) xs.length cap)
 | agg {cs : List TV} {vs : Array Value} (hl : vs.size = cs.length) (h1 : ∀ j, j < vs.size → (vs.getD j undef).oneCell' = true)
   (hr:∀ (j:Nat) (c:TV),cs[j]? = some c->Rep w I c (vs.getD j undef)):Rep w I (.agg cs) (.agg vs)
 | tup {cs:List TV} {vs:Array Value} (hl:vs.size=cs.length) (hr:∀ (j:Nat) (c:TV),cs[j]? = some c->Rep w I c (vs.getD j undef)):Rep w I (.tup cs) (.tuple vs)
theorem Rep.mv {w w':World} {I I':Nat->Prop} (hh:∀ b,I b->w'.heap[b]? = w.heap[b]?) (hI:∀ b,I b->I' b) {x:TV} {v:Value} (h:Rep w I x v):Rep w' I' x v:=by
 induction h with
 | lit v=>exact .lit v
 | hole v=>exact .hole v
 | buf e h=>exact .buf e h
 | sl cell i c m l hcell h1 _ ih =>
  exact .sl cell (fun h=>hI _ (i h)) c m l (fun k hk=>by rw [<- hcell k hk]; exact World.cell?_of_block (by rw [fw]; exact hh _ (i (Nat.pos_of_ne_zero (fun e=>by simp [e] at hk))))) h1 ih
 | agg hl h1 _ ih=>exact .agg hl h1 ih
 | tup hl _ ih=>exact .tup hl ih
structure Row (w:World) (a:Addr) (n cap size:Nat) (us:List Value) (vs:Array Value) (ty:TypeId):Prop where
 heap:w.heap[a.block]? = some (.cells vs ty (0,0))
 spot:a.spot=none
 le:n<=cap
 max:cap<=maxLen
 fit:a.off + cap * size<=vs.size
 len:us.length=n * size
 cells:∀ k,k < n * size->vs[a.off + k]? = us[k]?
 one:∀ u ∈ us,u.oneCell'=true
theorem Row.cell {w:World} {a:Addr} {n cap size:Nat} {us:List Value} {vs:Array Value} {ty:TypeId} (h:Row w a n cap size us vs ty) {k:Nat} {u:Value} (hk:us[k]? = some u):w.cell? (a.add k)=some u:=by
 have hlt:k < n * size:=by rw [<- h.len]; exact (Fw.1 hk).1
 have:a.add k=⟨a.block,a.off + k,none⟩:=by
  have:=h.spot
  obtain ⟨b,o,sp⟩:=a
  simp at this
  subst this
  exact eM b o k
 rw [this]
 simp only [World.cell?,h.heap]
 simp only [Option.isSome_none,Bool.false_eq_true,if_false]
 rw [h.cells k hlt,hk]
inductive aq (w:World) (I:Nat->Prop):TV->Value->(Nat->Prop)->Prop
 | fr {x:TV} {v:Value} {S:Nat->Prop} (h:Rep w I x v):aq w I x v S
 | sl {size : Nat} {xs : List (List TV)} {a : Addr} {cap : Nat} {S : Nat → Prop} (us : List Value) (vs : Array Value) (ty : TypeId) (F : Nat → Nat → Prop) (hS : S a.block)
   (row:Row w a xs.length cap size us vs ty) (hl:∀ x ∈ xs,x.length=size) (hr:∀ (k:Nat) (c:TV),xs.flatten[k]? = some c->aq w I c (us.getD k undef) (F k))
   (hF:∀ k b,F k b->S b/\b≠a.block) (hd:∀ k k' b,F k b->F k' b->k=k'):aq w I (.sl true size xs) (.slice (some a) xs.length cap) S
 | agg {cs : List TV} {vs : Array Value} {S : Nat → Prop} (F : Nat → Nat → Prop) (hl : vs.size = cs.length) (h1 : ∀ j, j < vs.size → (vs.getD j undef).oneCell' = true)
   (hr:∀ (j:Nat) (c:TV),cs[j]? = some c->aq w I c (vs.getD j undef) (F j)) (hF:∀ j b,F j b->S b) (hd:∀ k k' b,F k b->F k' b->k=k'):aq w I (.agg cs) (.agg vs) S
 | buf {s:ByteArray} {e:TypeId} {v:Value} {S:Nat->Prop} (h:w.ownsRowF 0 e 1 v s.size (Lib.strCells s)) (hS:∀ b,v.ownBlock=some b->S b):aq w I (.buf s e) v S
 | tup {cs : List TV} {vs : Array Value} {S : Nat → Prop} (F : Nat → Nat → Prop) (hl : vs.size = cs.length)
   (hr:∀ (j:Nat) (c:TV),cs[j]? = some c->aq w I c (vs.getD j undef) (F j)) (hF:∀ j b,F j b->S b) (hd:∀ k k' b,F k b->F k' b->k=k'):aq w I (.tup cs) (.tuple vs) S
theorem _root_.Go.World.ownsRowF.moved {w w':World} {base:Nat} {e:TypeId} {size:Nat} {v:Value} {n:Nat} {xs:List Value} (h:w.ownsRowF base e size v n xs) (hh:∀ b,v.ownBlock=some b->w'.heap[b]? = w.heap[b]?):w'.ownsRowF base e size v n xs:=by
 refine ⟨h.1,?_⟩
 rcases h.2 with hn | ⟨g,cap,cur,fz,rfl,hb,hgg,rest⟩
 ·exact .inl hn
 ·exact .inr ⟨g,cap,cur,fz,rfl,hb,by rw [hh g rfl]; exact hgg,rest⟩
theorem aq.mv {w w':World} {I I':Nat->Prop} (hI:∀ b,I b->w'.heap[b]? = w.heap[b]?) (hs:∀ b,I b->I' b) {x:TV} {v:Value} {S:Nat->Prop} (h:aq w I x v S) :
  ∀ {S':Nat->Prop},(∀ b,S b->w'.heap[b]? = w.heap[b]?)->(∀ b,S b->S' b)->aq w' I' x v S':=by
 induction h with
 | fr h=>intro S' _ _; exact .fr (h.mv hI hs)
 | @sl size xs a cap S us vs ty F hS row hl hr hF hd ih =>
  intro S' hh hSS
  exact .sl us vs ty F (hSS _ hS) ⟨by rw [hh _ hS]; exact row.heap,row.spot,row.le,row.max,row.fit,row.len,row.cells,row.one⟩ hl (fun k c hk=>ih k c hk (fun b hb=>hh b (hF k b hb).1) (fun b hb=>hb))
   (fun k b hb=>⟨hSS b (hF k b hb).1,(hF k b hb).2⟩) hd
 | @buf s e v S h hS =>
  intro S' hh hSS
  exact .buf (h.moved (fun b hb=>hh b (hS b hb))) (fun b hb=>hSS b (hS b hb))
 | @agg cs vs S F hl h1 hr hF hd ih =>
  intro S' hh hSS
  exact .agg F hl h1 (fun k c hk=>ih k c hk (fun b hb=>hh b (hF k b hb)) (fun b hb=>hb)) (fun k b hb=>hSS b (hF k b hb)) hd
 | @tup cs vs S F hl hr hF hd ih =>
  intro S' hh hSS
  exact .tup F hl (fun k c hk=>ih k c hk (fun b hb=>hh b (hF k b hb)) (fun b hb=>hb)) (fun k b hb=>hSS b (hF k b hb)) hd
theorem aq.mono {w:World} {I:Nat->Prop} {x:TV} {v:Value} {S S':Nat->Prop} (h:aq w I x v S) (hS:∀ b,S b->S' b):aq w I x v S' :=
 h.mv (fun _ _=>rfl) (fun _ h=>h) (fun _ _=>rfl) hS
theorem bK {w:World} {I:Nat->Prop} {v u:Value} (h:Rep w I (.lit v) u):u=v:=by cases h; rfl
theorem bd {w:World} {I:Nat->Prop} {v u:Value} {S:Nat->Prop} (h:aq w I (.lit v) u S):u=v:=by cases h with | fr h=>exact bK h
theorem DP {w:World} {I:Nat->Prop} {s:Nat} {xs:List (List TV)} {u:Value} {S:Nat->Prop} (h:aq w I (.sl false s xs) u S):Rep w I (.sl false s xs) u:=by cases h with | fr h=>exact h
theorem rj {w:World} {I:Nat->Prop} {o:Bool} {s:Nat} {xs:List (List TV)} {u:Value} {S:Nat->Prop} (h:aq w I (.sl o s xs) u S):∃ a cap,u=.slice (some a) xs.length cap:=by
 cases h with
 | fr h=>cases h; exact ⟨_,_,rfl⟩
 | sl=>exact ⟨_,_,rfl⟩
theorem fL {w:World} {I:Nat->Prop} {x:TV} {u:Value} {S:Nat->Prop} (h:aq w I x u S) (hx:x.isSl=true):∃ a n cap,u=.slice a n cap:=by
 cases x with
 | lit v =>
  have:=bd h
  subst this
  cases u <;> simp [TV.isSl,bn] at hx ⊢
 | sl o s xs=>obtain ⟨a,cap,rfl⟩:=rj h; exact ⟨_,_,_,rfl⟩
 | _=>simp [TV.isSl] at hx
theorem re {v:Value} (h:scV v=true):v.oneCell'=true:=by cases v <;> first | rfl | simp [scV] at h
theorem eP {w:World} {I:Nat->Prop} {x:TV} {u:Value} {S:Nat->Prop} (h:aq w I x u S) (hx:x.isSc=true):x=.lit u/\scV u=true:=by
 cases x with
 | lit v =>
  have:=bd h
  subst this
  exact ⟨rfl,hx⟩
 | _=>simp [TV.isSc] at hx
theorem Es {w:World} {I:Nat->Prop} {x:TV} {u:Value} {S:Nat->Prop} (h:aq w I x u S):Rep w I x.lf u:=by
 cases x with
 | lit v=>have:=bd h; subst this; exact .lit _
 | _=>exact .hole _
theorem mG:∀ l:List TV,uf l=l.map frz
 | []=>rfl
 | x :: l=>by simp [uf,mG l]
theorem gT:∀ l:List (List TV),rZ l=l.map fun x=>x.map frz
 | []=>rfl
 | x :: l=>by simp [rZ,gT l,mG]
theorem C0:∀ l:List TV,lfL l=l.map TV.lf
 | []=>rfl
 | x :: l=>by simp [lfL,C0 l]
theorem Aw:∀ l:List (List TV),jB l=l.map fun x=>x.map TV.lf
 | []=>rfl
 | x :: l=>by simp [jB,Aw l,C0]
theorem Rep.frz {w:World} {I:Nat->Prop} {x:TV} {v:Value} (h:Rep w I x v):Rep w I (frz x) v:=by
 induction h with
 | lit v=>exact .lit v
 | hole v=>exact .hole v
 | buf e h=>exact .hole _
 | @sl size xs a cap cell hI hc hm hl hcell h1 _ ih =>
  simp only [Ab.frz,gT]
  have hlen:(xs.map fun x=>x.map Ab.frz).length=xs.length:=by simp
  have key:Rep w I (.sl false size (xs.map fun x=>x.map Ab.frz)) (.slice (some a) (xs.map fun x=>x.map Ab.frz).length cap):=by
   refine .sl cell (by rw [hlen]; exact hI) (by rw [hlen]; exact hc) hm (fun x hx=>?_) (by rw [hlen]; exact hcell) (by rw [hlen]; exact h1) (fun i y hy j c hj=>?_)
   ·obtain ⟨y,hy,rfl⟩:=List.mem_map.1 hx
    simpa using hl y hy
   ·rw [FC] at hy
    cases hxi:xs[i]? with
    | none=>simp [hxi] at hy
    | some x =>
     simp only [hxi,FJ,Fy] at hy
     subst hy
     rw [FC] at hj
     cases hxj:x[j]? with
     | none=>simp [hxj] at hj
     | some c' =>
      simp only [hxj,FJ,Fy] at hj
      subst hj
      exact ih i x hxi j c' hxj
  rwa [hlen] at key
 | @agg cs vs hl h1 _ ih =>
  simp only [Ab.frz,mG]
  refine .agg (by simpa using hl) h1 (fun j c hj=>?_)
  rw [FC] at hj
  cases hxj:cs[j]? with
  | none=>simp [hxj] at hj
  | some c'=>simp only [hxj,FJ,Fy] at hj; subst hj; exact ih j c' hxj
 | @tup cs vs hl _ ih =>
  simp only [Ab.frz,mG]
  refine .tup (by simpa using hl) (fun j c hj=>?_)
  rw [FC] at hj
  cases hxj:cs[j]? with
  | none=>simp [hxj] at hj
  | some c'=>simp only [hxj,FJ,Fy] at hj; subst hj; exact ih j c' hxj
theorem aq.frz {w:World} {I I':Nat->Prop} (hI:∀ b,I b->I' b) {x:TV} {v:Value} {S:Nat->Prop} (h:aq w I x v S):(∀ b,S b->I' b)->Rep w I' (frz x) v:=by
 induction h with
 | fr h=>intro _; exact (h.mv (fun _ _=>rfl) hI).frz
 | buf _ _=>intro _; exact .hole _
 | @sl size xs a cap S us vs ty F hS row hl hr hF hd ih =>
  intro hSI
  simp only [Ab.frz,gT]
  have hlen:(xs.map fun x=>x.map Ab.frz).length=xs.length:=by simp
  have key:Rep w I' (.sl false size (xs.map fun x=>x.map Ab.frz)) (.slice (some a) (xs.map fun x=>x.map Ab.frz).length cap):=by
   refine .sl (fun k=>us.getD k undef) (fun _=>hSI _ hS) (by rw [hlen]; exact row.le) row.max (fun x hx=>?_) (fun k hk=>?_) (fun k hk=>?_) (fun i y hy j c hj=>?_)
   ·obtain ⟨y,hy,rfl⟩:=List.mem_map.1 hx
    simpa using hl y hy
   ·rw [hlen] at hk
    have:k < us.length:=by rw [row.len]; exact hk
    exact row.cell (by simp [Fx this])
   ·rw [hlen] at hk
    have:k < us.length:=by rw [row.len]; exact hk
    simp only [FK,Fx this,Option.getD_some]
    exact row.one _ (List.getElem_mem this)
   ·rw [FC] at hy
    cases hxi:xs[i]? with
    | none=>simp [hxi] at hy
    | some x =>
     simp only [hxi,FJ,Fy] at hy
     subst hy
     rw [FC] at hj
     cases hxj:x[j]? with
     | none=>simp [hxj] at hj
     | some c' =>
      simp only [hxj,FJ,Fy] at hj
      subst hj
      exact ih _ c' (f7 hl hxi hxj) (fun b hb=>hSI b (hF _ b hb).1)
  rwa [hlen] at key
 | @agg cs vs S F hl h1 hr hF hd ih =>
  intro hSI
  simp only [Ab.frz,mG]
  refine .agg (by simpa using hl) h1 (fun j c hj=>?_)
  rw [FC] at hj
  cases hxj:cs[j]? with
  | none=>simp [hxj] at hj
  | some c'=>simp only [hxj,FJ,Fy] at hj; subst hj; exact ih j c' hxj (fun b hb=>hSI b (hF j b hb))
 | @tup cs vs S F hl hr hF hd ih =>
  intro hSI
  simp only [Ab.frz,mG]
  refine .tup (by simpa using hl) (fun j c hj=>?_)
  rw [FC] at hj
  cases hxj:cs[j]? with
  | none=>simp [hxj] at hj
  | some c'=>simp only [hxj,FJ,Fy] at hj; subst hj; exact ih j c' hxj (fun b hb=>hSI b (hF j b hb))
theorem gq:∀ {l:List TV},dG l=true->∀ x ∈ l,bQ x=true
 | [],_,x,hx=>by simp at hx
 | y :: l,h,x,hx=>by
  simp only [dG,Fz] at h
  rcases List.mem_cons.1 hx with rfl | hx
  ·exact h.1
  ·exact gq h.2 x hx
theorem qJ:∀ {l:List (List TV)},mz l=true->∀ x ∈ l,dG x=true
 | [],_,x,hx=>by simp at hx
 | y :: l,h,x,hx=>by
  simp only [mz,Fz] at h
  rcases List.mem_cons.1 hx with rfl | hx
  ·exact h.1
  ·exact qJ h.2 x hx
theorem Rep.own {w:World} {I I':Nat->Prop} {x:TV} {v:Value} (h:Rep w I x v):bQ x=true->Rep w I' x v:=by
 induction h with
 | lit v=>intro _; exact .lit v
 | hole v=>intro _; exact .hole v
 | buf e h=>intro _; exact .buf e h
 | sl=>intro h; simp [bQ] at h
 | @agg cs vs hl h1 _ ih=>intro h; simp only [bQ] at h; exact .agg hl h1 (fun j c hj=>ih j c hj (gq h c (FF hj)))
 | @tup cs vs hl _ ih=>intro h; simp only [bQ] at h; exact .tup hl (fun j c hj=>ih j c hj (gq h c (FF hj)))
theorem aq.own {w:World} {I I':Nat->Prop} {x:TV} {v:Value} {S:Nat->Prop} (h:aq w I x v S):bQ x=true->aq w I' x v S:=by
 induction h with
 | fr h=>intro ho; exact .fr (h.own ho)
 | buf h hS=>intro _; exact .buf h hS
 | @sl size xs a cap S us vs ty F hS row hl hr hF hd ih =>
  intro ho
  simp only [bQ,Bool.true_and] at ho
  refine .sl us vs ty F hS row hl (fun k c hk=>ih k c hk ?_) hF hd
  obtain ⟨x,hx,hc⟩:=List.mem_flatten.1 (FF hk)
  exact gq (qJ ho x hx) c hc
 | @agg cs vs S F hl h1 hr hF hd ih=>intro ho; simp only [bQ] at ho; exact .agg F hl h1 (fun j c hj=>ih j c hj (gq ho c (FF hj))) hF hd
 | @tup cs vs S F hl hr hF hd ih=>intro ho; simp only [bQ] at ho; exact .tup F hl (fun j c hj=>ih j c hj (gq ho c (FF hj))) hF hd
end Go.Ab
end
section
namespace Go.Ab
open Go.RowKit
def TV.nd (x:TV):Option (Nat × Nat):=match x with | .sl _ s xs=>some (s,xs.length) | _=>none
def Node (w:World):Way->TV->Value->Value->Option (Nat × Nat)->Prop
 | [],x,u,v,nd=>v=u/\nd=x.nd
 | (k,j) :: p,x,u,v,nd=>∃ o s xs a n cap e y u',x=.sl o s xs/\u=.slice (some a) n cap/\xs[k]? = some e/\e[j]? = some y/\w.cell? (a.add (k * s + j))=some u'/\Node w p y u' v nd
section
variable {w w':World} {I I':Nat->Prop} {x y:TV} {u v:Value} {S:Nat->Prop}
theorem getD_some {l:List Value} {k:Nat} {u:Value} (h:l[k]? = some u):l.getD k undef=u:=by simp [h]
theorem aq.child {o:Bool} {s:Nat} {xs:List (List TV)} (h:aq w I (.sl o s xs) u S) {k j:Nat} {e:List TV} {y:TV} (hk:xs[k]? = some e) (hj:e[j]? = some y) :
  ∃ a cap u' S',u=.slice (some a) xs.length cap/\w.cell? (a.add (k * s + j))=some u'/\u'.oneCell'=true/\aq w I y u' S'/\(∀ b,S' b->S b)/\(S a.block\/I a.block)/\e.length=s:=by
 have hlt:k < xs.length:=(Fw.1 hk).1
 cases h with
 | fr h =>
  cases h with
  | @sl _ _ a cap cell hI hc hm hl hcell h1 hr =>
   have hel:=hl e (FF hk)
   have hf:k * s + j < xs.length * s:=by
    have hj':=(Fw.1 hj).1
    have:=Nat.mul_le_mul_right s (Nat.succ_le_of_lt hlt)
    rw [Nat.succ_mul] at this
    omega
   exact ⟨a,cap,_,fun _=>False,rfl,hcell _ hf,h1 _ hf,.fr (hr k e hk j y hj),fun _ h=>h.elim,.inr (hI (by omega)),hel⟩
 | @sl _ _ a cap S us vs ty F hS row hl hr hF hd =>
  have hel:=hl e (FF hk)
  have hfg:=f7 hl hk hj
  have hlt2:k * s + j < us.length:=by
   rw [row.len,<- cb hl]
   exact (Fw.1 hfg).1
  have hu:=Fx hlt2
  refine ⟨a,cap,us[k * s + j],F (k * s + j),rfl,row.cell hu,row.one _ (List.getElem_mem hlt2),?_,fun b hb=>(hF _ b hb).1,.inl hS,hel⟩
  have:=hr _ _ hfg
  rwa [getD_some hu] at this
theorem Node.mv:∀ {p:Way} {x:TV} {u v:Value} {nd:Option (Nat × Nat)} {S:Nat->Prop},aq w I x u S->(∀ b,I b->w'.heap[b]? = w.heap[b]?)->(∀ b,S b->w'.heap[b]? = w.heap[b]?)->Node w p x u v nd->Node w' p x u v nd
 | [],x,u,v,nd,S,_,_,_,h=>h
 | (k,j) :: p,x,u,v,nd,S,hr,hI,hS,⟨o,s,xs,a,n,cap,e,y,u',hx,hu,he,hy,hc,h⟩=>by
  subst hx
  obtain ⟨a',cap',u2,S',h1,h2,h3,h4,h5,h6,h7⟩:=hr.child he hy
  rw [hu] at h1
  cases h1
  rw [hc] at h2
  cases h2
  refine ⟨o,s,xs,a,_,_,e,y,u',rfl,hu,he,hy,?_,Node.mv h4 hI (fun b hb=>hS b (h5 b hb)) h⟩
  rw [<- hc]
  refine World.cell?_of_block ?_
  rw [fw]
  rcases h6 with h6 | h6
  ·exact hS _ h6
  ·exact hI _ h6
theorem aq.get:∀ {p:Way} {x y:TV} {u:Value} {S:Nat->Prop},aq w I x u S->bF p x=some y->∃ v S',Node w p x u v y.nd/\aq w I y v S'/\(∀ b,S' b->S b)/\(p≠[]->v.oneCell'=true)
 | [],x,y,u,S,hr,h=>by
  simp only [bF,Fy] at h
  subst h
  exact ⟨u,S,⟨rfl,rfl⟩,hr,fun _ h=>h,fun h=>absurd rfl h⟩
 | (k, j) :: p, x, y, u, S, hr, h => by
  cases x with
  | sl o s xs =>
   simp only [bF] at h
   cases he:xs[k]? with
   | none=>simp [he] at h
   | some e =>
    simp only [he] at h
    cases hz:e[j]? with
    | none=>simp [hz] at h
    | some z =>
     simp only [hz] at h
     obtain ⟨a,cap,u',S1,h1,h2,h3,h4,h5,h6,h7⟩:=hr.child he hz
     obtain ⟨v,S2,n1,n2,n3,n4⟩:=aq.get h4 h
     refine ⟨v,S2,⟨o,s,xs,a,_,cap,e,z,u',rfl,h1,he,hz,h2,n1⟩,n2,fun b hb=>h5 b (n3 b hb),fun _=>?_⟩
     cases p with
     | nil=>rw [n1.1]; exact h3
     | cons=>exact n4 (by simp)
  | _=>simp [bF] at h
theorem Node.unique:∀ {p:Way} {x:TV} {u v v':Value} {nd nd':Option (Nat × Nat)},Node w p x u v nd->Node w p x u v' nd'->v=v'/\nd=nd'
 | [],x,u,v,v',nd,nd',h,h'=>⟨h.1.trans h'.1.symm,h.2.trans h'.2.symm⟩
 | (k,j) :: p,x,u,v,v',nd,nd',⟨o,s,xs,a,n,cap,e,y,u',hx,hu,he,hy,hc,h⟩,⟨o2,s2,xs2,a2,n2,cap2,e2,y2,u2,hx2,hu2,he2,hy2,hc2,h2⟩=>by
  subst hx
  cases hx2
  subst hu
  cases hu2
  rw [he] at he2
  cases he2
  rw [hy] at hy2
  cases hy2
  rw [hc] at hc2
  cases hc2
  exact Node.unique h h2
theorem aq.sub : ∀ {p : Way} {x y : TV} {u : Value} {S : Nat → Prop}, aq w I x u S → bF p x = some y →
  ∃ v Sy, aq w I y v Sy ∧ (∀ b, Sy b → S b) ∧ Node w p x u v y.nd ∧ (p ≠ [] → v.oneCell' = true) ∧
   ∀ (w':World) (I':Nat->Prop) (y' x':TV) (S':Nat->Prop),ic p x y'=some x'->(∀ b,I b->w'.heap[b]? = w.heap[b]?)->(∀ b,I b->I' b)->(∀ b,S b->¬ Sy b->w'.heap[b]? = w.heap[b]?) ->
    aq w' I' y' v S'->(∀ b,S' b->S b->Sy b)->aq w' I' x' u (fun b=>(S b/\¬ Sy b)\/S' b) /\
    ∀ (q:Way) (v':Value) (nd:Option (Nat × Nat)),(∀ q',q=p ++ q'->Node w q' y v v' nd->Node w' q' y' v v' nd)->Node w q x u v' nd->Node w' q x' u v' nd
 | [],x,y,u,S,hr,h=>by
  simp only [Ab.bF,Fy] at h
  subst h
  refine ⟨u,S,hr,fun _ h=>h,⟨rfl,rfl⟩,fun h=>absurd rfl h,?_⟩
  intro w' I' y' x' S' hs hI hII hh hr' hd
  simp only [ic,Fy] at hs
  subst hs
  exact ⟨hr'.mono (fun b hb=>.inr hb),fun q v' nd hq hn=>hq q rfl hn⟩
 | (k, j) :: p, x, y, u, S, hr, h => by
  cases x with
  | sl o s xs =>
   simp only [Ab.bF] at h
   cases he:xs[k]? with
   | none=>simp [he] at h
   | some e =>
    simp only [he] at h
    cases hz:e[j]? with
    | none=>simp [hz] at h
    | some z =>
     simp only [hz] at h
     cases o with
     | false =>
      obtain ⟨v,S',n1,n2,n3,n4⟩:=aq.get (p:=(k,j) :: p) (y:=y) hr (by simp only [Ab.bF,he,hz,h])
      refine ⟨v,S',n2,n3,n1,n4,?_⟩
      intro w' I' y' x' S2 hs
      simp [ic] at hs
     | true =>
      cases hr with
      | fr h=>cases h
      | @sl _ _ a cap S us vs ty F hS row hl hr hF hd =>
       have hel:=hl e (FF he)
       have hjl:j < e.length:=(Fw.1 hz).1
       have hfg:=f7 hl he hz
       have hlt2:k * s + j < us.length:=by
        rw [row.len,<- cb hl]
        exact (Fw.1 hfg).1
       have hu:=Fx hlt2
       have hrz:=hr _ _ hfg
       rw [getD_some hu] at hrz
       obtain ⟨v,Sy,m1,m2,m3,m4,m5⟩:=aq.sub hrz h
       have hSyF:∀ b,Sy b->F (k * s + j) b:=m2
       refine ⟨v,Sy,m1,fun b hb=>(hF _ b (m2 b hb)).1,⟨true,s,xs,a,_,cap,e,z,us[k * s + j],rfl,rfl,he,hz,row.cell hu,m3⟩,fun _=>?_,?_⟩
       ·cases p with
        | nil=>rw [m3.1]; exact row.one _ (List.getElem_mem hlt2)
        | cons=>exact m4 (by simp)
       intro w' I' y' x' S' hs hI hII hh hr' hdis
       simp only [ic,he,hz] at hs
       cases hz':ic p z y' with
       | none=>simp [hz'] at hs
       | some z' =>
        simp only [hz',Fy,aj] at hs
        subst hs
        have hablk:¬ Sy a.block:=fun hb=>(hF _ _ (m2 _ hb)).2 rfl
        obtain ⟨r1,r2⟩:=m5 w' I' y' z' S' hz' hI hII (fun b hb hn=>hh b (hF _ b hb).1 hn) hr' (fun b hb hb2=>hdis b hb (hF _ b hb2).1)
        have hset:e.set j z'=spl e j [z']:=by
         apply List.ext_getElem?
         intro m
         rw [cQ (by simp; omega),List.getElem?_set]
         by_cases hjm:j=m
         ·subst hjm; simp [hjl]
         ·rw [if_neg hjm,if_neg (by simp; omega)]
        obtain ⟨f1,f2⟩:=xA (ys:=[z']) hl he (by simp; omega:j + [z'].length<=e.length)
        have hlen:(xs.set k (e.set j z')).length=xs.length:=by simp
        have hrow:Row w' a (xs.set k (e.set j z')).length cap s us vs ty:=by
         rw [hlen]
         exact ⟨by rw [hh _ hS hablk]; exact row.heap,row.spot,row.le,row.max,row.fit,row.len,row.cells,row.one⟩
        have hother:∀ m c,m≠k * s + j->xs.flatten[m]? = some c->aq w' I' c (us.getD m undef) (F m):=fun m c hm hc =>
         (hr m c hc).mv hI hII (fun b hb=>hh b (hF m b hb).1 (fun hs=>hm (hd m _ b hb (m2 b hs)))) (fun _ h=>h)
        constructor
        ·have key:aq w' I' (.sl true s (xs.set k (e.set j z'))) (.slice (some a) (xs.set k (e.set j z')).length cap) (fun b=>(S b/\¬ Sy b)\/S' b):=by
          refine .sl us vs ty (fun m b=>if m=k * s + j then (F (k * s + j) b/\¬ Sy b)\/S' b else F m b) (.inl ⟨hS,hablk⟩) hrow (zW hl (by simp [hel])) (fun m c hc=>?_) (fun m b hb=>?_) (fun m m' b hb hb'=>?_)
          ·rw [hset,f1,cQ f2] at hc
           by_cases hm:m=k * s + j
           ·subst hm
            simp only [List.length_singleton,Nat.sub_self] at hc
            rw [if_pos (by omega)] at hc
            simp only [List.getElem?_cons_zero,Fy] at hc
            subst hc
            simp only [if_true]
            rw [getD_some hu]
            exact r1
           ·rw [if_neg (by simp only [List.length_singleton]; omega)] at hc
            simp only [hm,if_false]
            exact hother m c hm hc
          ·by_cases hm:m=k * s + j
           ·subst hm
            simp only [if_true] at hb
            rcases hb with ⟨h1,h2⟩ | h1
            ·exact ⟨.inl ⟨(hF _ b h1).1,h2⟩,(hF _ b h1).2⟩
            ·exact ⟨.inr h1,fun e=>by subst e; exact hablk (hdis _ h1 hS)⟩
           ·simp only [hm,if_false] at hb
            exact ⟨.inl ⟨(hF _ b hb).1,fun hs=>hm (hd _ _ b hb (m2 b hs))⟩,(hF _ b hb).2⟩
          ·by_cases hm:m=k * s + j <;> by_cases hm':m'=k * s + j
           ·rw [hm,hm']
           ·simp only [hm,hm',if_true,if_false] at hb hb'
            rcases hb with ⟨h1,h2⟩ | h1
            ·exact hm ▸ hd _ _ b h1 hb'
            ·exact hm ▸ hd _ _ b (m2 b (hdis b h1 (hF _ b hb').1)) hb'
           ·simp only [hm,hm',if_true,if_false] at hb hb'
            rcases hb' with ⟨h1,h2⟩ | h1
            ·exact hm' ▸ hd _ _ b hb h1
            ·exact hm' ▸ hd _ _ b hb (m2 b (hdis b h1 (hF _ b hb).1))
           ·simp only [hm,hm',if_false] at hb hb'
            exact hd _ _ b hb hb'
         rwa [hlen] at key
        ·intro q v' nd hq hn
         cases q with
         | nil =>
          obtain ⟨e1,e2⟩:=hn
          exact ⟨e1,by rw [e2]; simp [TV.nd]⟩
         | cons kj q =>
          obtain ⟨k1,j1⟩:=kj
          obtain ⟨o2,s2,xs2,a2,n2,cap2,e2,y2,u2,hx2,hu2,he2,hy2,hc2,hn2⟩:=hn
          cases hx2
          cases hu2
          have hblk:∀ m,w'.cell? (a.add m)=w.cell? (a.add m):=fun m=>World.cell?_of_block (by rw [fw]; exact hh _ hS hablk)
          by_cases hk1:k1=k
          ·subst hk1
           rw [he] at he2
           cases he2
           have hk2:k1 < xs.length:=(Fw.1 he).1
           by_cases hj1:j1=j
           ·subst hj1
            rw [hz] at hy2
            cases hy2
            have:u2=us[k1 * s + j1]:=by rw [row.cell hu] at hc2; exact (Option.some.inj hc2).symm
            subst this
            refine ⟨true,s,_,a,_,cap,e.set j1 z',z',us[k1 * s + j1],rfl,rfl,by rw [List.getElem?_set_self hk2],by rw [List.getElem?_set_self hjl],by rw [hblk]; exact hc2,?_⟩
            exact r2 q v' nd (fun q' hq'=>hq q' (by rw [hq']; rfl)) hn2
           ·refine ⟨true,s,_,a,_,cap,e.set j z',y2,u2,rfl,rfl,by rw [List.getElem?_set_self hk2],by rw [List.getElem?_set_ne (fun h=>hj1 h.symm)]; exact hy2,by rw [hblk]; exact hc2,?_⟩
            have hfg2:=f7 hl he hy2
            have hm:k1 * s + j1≠k1 * s + j:=by omega
            have hr2:=hr _ _ hfg2
            have hlt3:k1 * s + j1 < us.length:=by rw [row.len,<- cb hl]; exact (Fw.1 hfg2).1
            rw [getD_some (Fx hlt3)] at hr2
            have:u2=us[k1 * s + j1]:=by rw [row.cell (Fx hlt3)] at hc2; exact (Option.some.inj hc2).symm
            subst this
            exact Node.mv hr2 hI (fun b hb=>hh b (hF _ b hb).1 (fun hs=>hm (hd _ _ b hb (m2 b hs)))) hn2
          ·refine ⟨true,s,_,a,_,cap,e2,y2,u2,rfl,rfl,by rw [List.getElem?_set_ne (fun h=>hk1 h.symm)]; exact he2,hy2,by rw [hblk]; exact hc2,?_⟩
           have hfg2:=f7 hl he2 hy2
           have hel2:=hl e2 (FF he2)
           have hj2:j1 < e2.length:=(Fw.1 hy2).1
           have hm:k1 * s + j1≠k * s + j:=by
            intro heq
            rcases Nat.lt_or_gt_of_ne hk1 with h' | h'
            ·have:=Nat.mul_le_mul_right s (Nat.succ_le_of_lt h')
             rw [Nat.succ_mul] at this
             omega
            ·have:=Nat.mul_le_mul_right s (Nat.succ_le_of_lt h')
             rw [Nat.succ_mul] at this
             omega
           have hr2:=hr _ _ hfg2
           have hlt3:k1 * s + j1 < us.length:=by rw [row.len,<- cb hl]; exact (Fw.1 hfg2).1
           rw [getD_some (Fx hlt3)] at hr2
           have:u2=us[k1 * s + j1]:=by rw [row.cell (Fx hlt3)] at hc2; exact (Option.some.inj hc2).symm
           subst this
           exact Node.mv hr2 hI (fun b hb=>hh b (hF _ b hb).1 (fun hs=>hm (hd _ _ b hb (m2 b hs)))) hn2
  | _=>simp [Ab.bF] at h
end
end Go.Ab
end

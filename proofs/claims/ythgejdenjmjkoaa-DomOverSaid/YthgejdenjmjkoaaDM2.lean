import Derived.Test.YthgejdenjmjkoaaDV8F89
import Derived.Test.YthgejdenjmjkoaaDM0
import Derived.Below
import Derived.Orders
import Derived.Laws.Cells
import Derived.Laws.OwnMore
import Derived.Laws.CopyOwn
import Derived.Maps.AppendAt
import Derived.Lib.FrozenHead
section
set_option linter.unusedVariables false
set_option linter.unusedSectionVars false
set_option maxRecDepth 10000
namespace Go.Ab
def DmI (bs:List DBlock) (n:Int) (b:Nat):Prop:=0≤n∧Dm bs n.toNat b
theorem DmI.lt {bs:List DBlock} {n:Int} {b:Nat} (h:DmI bs n b):b < bs.length:=h.2.1.lt
theorem DmI_nat {bs:List DBlock} {n b:Nat}:DmI bs (n:Int) b ↔ Dm bs n b:=by simp [DmI]
noncomputable def undL (bs:List DBlock) (n:Int):List Bool:=(List.range bs.length).map fun b=>tt (DmI bs n b)
theorem undL_len (bs:List DBlock) (n:Int):(undL bs n).length=bs.length:=by simp [undL]
theorem undL_get {bs:List DBlock} {n:Int} {b:Nat} (h:b < bs.length):(undL bs n)[b]? = some (tt (DmI bs n b)):=by simp [undL,h]
theorem OI.dm_le {bs:List DBlock} {o:List Int} (hI:OI bs o) {x:Nat} (hx:x < o.length):∀ (n:Nat),n < o.length→Dm bs (blk o x) (blk o n)→x≤n:=by
 intro n
 induction n using Nat.strongRecOn with
 | _ n ih =>
  intro hn h
  by_cases e:x=n
  ·omega
  ·by_cases h0:n=0
   ·subst h0
    have hb:bs≠[]:=fun e=>by have:=hI.blk_lt hn; rw [e] at this; cases this
    have hz:=(hI.zero hb).2
    rw [hz] at h
    have:=h.anti (.zero h.up)
    have:=hI.inj hx hn (by rw [this,hz])
    omega
   ·obtain ⟨p,hp,hpn⟩:=hI.low h0 hn
    obtain ⟨q1,q2⟩:=prL_mem.1 hp
    have:=Dm.step (a:=blk o x) (hI.rc q1) q2 (by simpa using h) (fun e2=>e (hI.inj hx hn (by omega)))
    have:=ih p hpn q1 this
    omega
def EdP (bs:List DBlock) (n:Int) (k j g:Nat):Prop:=((∃ b:Nat,b < k∧DmI bs n b∧(g:Int) ∈ nextAt bs b)∨(DmI bs n k∧(g:Int) ∈ (nextAt bs k).take j))∧((g:Int)=n∨¬ DmI bs n g)
theorem EdP_over {bs:List DBlock} {n:Int} {k g:Nat}:EdP bs n k (nextAt bs k).length g ↔ EdP bs n (k + 1) 0 g:=by
 unfold EdP
 rw [List.take_length]
 simp only [List.take_zero,List.not_mem_nil,and_false,or_false]
 refine and_congr_left fun _=>⟨?_,?_⟩
 ·rintro (⟨b,h1,h2,h3⟩ | ⟨h1,h2⟩)
  ·exact ⟨b,by omega,h2,h3⟩
  ·exact ⟨k,by omega,h1,h2⟩
 ·rintro ⟨b,h1,h2,h3⟩
  by_cases e:b=k
  ·subst e; exact .inr ⟨h2,h3⟩
  ·exact .inl ⟨b,by omega,h2,h3⟩
theorem EdP_skip {bs:List DBlock} {n:Int} {k g:Nat} (h:¬ DmI bs n k):EdP bs n k 0 g ↔ EdP bs n (k + 1) 0 g:=by
 rw [← EdP_over]
 unfold EdP
 simp [h]
theorem EdP_next {bs:List DBlock} {n:Int} {k j g c:Nat} (hd:DmI bs n k) (hc:(nextAt bs k)[j]? = some (c:Int)) (hg:g≠c):EdP bs n k (j + 1) g ↔ EdP bs n k j g:=by
 unfold EdP
 rw [take_get hc,List.mem_append,List.mem_singleton]
 have:¬ (g:Int)=(c:Int):=by omega
 simp [this]
theorem EdP_at {bs:List DBlock} {n:Int} {k j c:Nat} (hd:DmI bs n k) (hc:(nextAt bs k)[j]? = some (c:Int)):EdP bs n k (j + 1) c ↔ ((c:Int)=n∨¬ DmI bs n c):=by
 unfold EdP
 rw [take_get hc,List.mem_append,List.mem_singleton]
 simp [hd]
noncomputable def edgeI (bs:List DBlock) (n:Int) (k:Nat):List Int:=if 0≤n then edgeTo bs n.toNat k else []
theorem edgeI_all (bs:List DBlock) (n:Int):edgeI bs n bs.length=edgeL bs n:=rfl
theorem edgeI_yes {bs:List DBlock} {n:Int} {k:Nat} (h:EdP bs n bs.length 0 k):edgeI bs n (k + 1)=edgeI bs n k ++ [(k:Int)]:=by
 obtain ⟨h1,h2⟩:=h
 simp only [List.take_zero,List.not_mem_nil,and_false,or_false] at h1
 obtain ⟨b,_,hb,hg⟩:=h1
 have h0:=hb.1
 have hp:edgeP bs n.toNat k:=⟨⟨b,hb.2,hg⟩,h2.imp (fun e=>by omega) (fun hn hd=>hn ⟨h0,hd⟩)⟩
 classical
 unfold edgeI
 rw [if_pos h0,if_pos h0,edgeTo_succ,if_pos hp]
theorem edgeI_no {bs:List DBlock} {n:Int} {k:Nat} (h:¬ EdP bs n bs.length 0 k):edgeI bs n (k + 1)=edgeI bs n k:=by
 classical
 unfold edgeI
 by_cases h0:0≤n
 ·rw [if_pos h0,if_pos h0,edgeTo_succ,if_neg,List.append_nil]
  rintro ⟨⟨b,hb,hg⟩,h2⟩
  refine h ⟨.inl ⟨b,hb.1.lt,⟨h0,hb⟩,hg⟩,h2.imp (fun e=>by omega) (fun hn hd=>hn hd.2)⟩
 ·rw [if_neg h0,if_neg h0]
theorem edgeI_len (bs:List DBlock) (n:Int) (k:Nat):(edgeI bs n k).length≤k:=by
 unfold edgeI
 split
 ·unfold edgeTo
  rw [List.length_map]
  exact Nat.le_trans (List.length_filter_le _ _) (by simp)
 ·simp
end Go.Ab
namespace Go.Ab.V8
open Go Go.Ab Go.Proofs
theorem rUnder8 {q:Option Bool} {e:List TV} {f:DFunc} (he:RFunc q e f) (hs:f.blocks.length≤1000) (n:Int):∃ y,Runs prog 21 [.agg e,I n] y∧RBools (some true) y (undL f.blocks n):=by
 obtain ⟨v0,hv0,k0⟩:=rOver8 he hs
 obtain ⟨v4,o,hv4,k4,hO⟩:=r80 he hs
 have hI:=hO.keeps
 have hol:o.length≤1000:=Nat.le_trans hI.len hs
 obtain ⟨b,rfl,hb,_⟩:=he
 have loop : ∀ (d k : Nat) (w : TV) (M : List Bool), k + d = o.length → RBools (some true) w M → M.length = f.blocks.length → (∀ i, i < k → M[blk o i]? = some (tt (DmI f.blocks n (blk o i)))) → (∀ c, c < f.blocks.length → (∀ i, i < k → blk o i ≠ c) → M[c]? = some false) →
   ∃ y,Goes prog 21 (f21_0 (I n) (I o.length) (I k) v0 w v4) y∧RBools (some true) y (undL f.blocks n):=by
  intro d
  induction d with
  | zero =>
   intro k w M hk hw hl hm hm2
   have hk:k=o.length:=by omega
   subst hk
   have e:M=undL f.blocks n:=by
    apply List.ext_getElem?
    intro c
    by_cases hc:c < f.blocks.length
    ·rw [undL_get hc]
     by_cases hr:Rc f.blocks (-1) c
     ·obtain ⟨i,hi,rfl⟩:=hI.rank hr
      exact hm i hi
     ·rw [tt_false fun h=>hr h.2.1]
      exact hm2 c hc fun i hi e=>hr (e ▸ hI.rc hi)
    ·rw [List.getElem?_eq_none (by omega),List.getElem?_eq_none (by rw [undL_len]; omega)]
   subst e
   refine ⟨w,?_,hw⟩
   unfold f21_0
   exact Goes.tv rfl (Goes.ite asB_end (fun h=>nomatch h) fun _=>Goes.chk (hw.own fun _ _ h=>h.own) Goes.ret)
  | succ d ih =>
   intro k w M hk hw hl hm hm2
   have hkl:k < o.length:=by omega
   have hblt:=hI.blk_lt hkl
   have hbM:blk o k < M.length:=by omega
   obtain ⟨e1,he1,rfl,hei⟩:=k4.pel (hI.at_ hkl)
   obtain ⟨e2,he2,hR2⟩:=hw.pel (List.getElem?_eq_getElem hbM)
   cases hR2
   obtain ⟨w',c1,c2⟩:=hw.setAt he2 (d:=0) (ys:=[B (tt (DmI f.blocks n (blk o k)))]) (a:=tt (DmI f.blocks n (blk o k))) rfl
   obtain ⟨y,hy,hr⟩:=ih (k + 1) w' _ (by omega) c2 (by rw [List.length_set]; exact hl) (fun i hi=>by
    by_cases e:i=k
    ·subst e; exact List.getElem?_set_self hbM
    ·rw [List.getElem?_set_ne (fun h=>e (hI.inj (by omega) hkl h.symm))]
     exact hm i (by omega)) (fun c hc hno=>by
    rw [List.getElem?_set_ne (hno k (by omega))]
    exact hm2 c hc fun i hi=>hno i (by omega))
   refine ⟨y,?_,hr⟩
   have ank:asNat (I (k:Nat))=some k:=asNat_nat (by omega)
   have anb:asNat (nth TV.hole [I ((blk o k:Nat):Int)] 0)=some (blk o k):=asNat_nat (by omega)
   have cM:(Bool.and (slSize w 1) (Nat.blt (blk o k) M.length))=true:=by rw [hw.slSize]; simp; omega
   unfold f21_0
   refine Goes.tv rfl (Goes.ite (asB_lt hkl) (fun _=>?_) fun h=>nomatch h)
   refine Goes.nat k4.slLen (Goes.nat ank (Goes.chk ?_ (Goes.tvs he1 (Goes.chk rfl (Goes.tv rfl (Goes.ite rfl (fun h=>?_) fun h=>?_))))))
   ·rw [k4.slSize]; simp; omega
   ·have hn:((blk o k:Nat):Int)=n:=by simpa using h
    have ht:tt (DmI f.blocks n (blk o k))=true:=tt_true (by rw [← hn,DmI_nat]; exact .refl (hI.rc hkl))
    rw [ht] at c1
    exact Goes.nat hw.slLen (Goes.nat anb (Goes.chk cM (Goes.tvs he2 (Goes.chk rfl (Goes.tv c1 (Goes.tv (inc hkl (by omega)) (f21_0_J hy)))))))
   ·have hn:¬ ((blk o k:Nat):Int)=n:=by simpa using h
    refine Goes.tv rfl (Goes.ite rfl (fun h=>?_) fun h=>?_)
    ·have h0:blk o k≠0:=by
      have:((blk o k:Nat):Int) > 0:=by simpa using h
      omega
     obtain ⟨a,ha⟩:=Nx.ex (hI.rc hkl) h0
     obtain ⟨i,hi,rfl⟩:=hI.rank ha.2.1.up
     have hle:=hI.dm_le hi k hkl ha.2.1
     have hik:i < k:=by
      rcases Nat.lt_or_ge i k with h1 | h1
      ·exact h1
      ·exact absurd (by rw [show i=k by omega]) ha.1
     have hilt:=hI.blk_lt hi
     obtain ⟨e3,he3,rfl,_⟩:=k0.pel (overL_get hblt)
     rw [ovN_of ha] at he3
     obtain ⟨e4,he4,hR4⟩:=hw.pel (hm i hik)
     cases hR4
     have hval:tt (DmI f.blocks n (blk o i))=tt (DmI f.blocks n (blk o k)):=tt_congr ⟨fun h1=>⟨h1.1,h1.2.trans ha.2.1⟩,fun h1=>⟨h1.1,ha.2.2 _ (fun e=>hn (by have:=h1.1; omega)) h1.2⟩⟩
     rw [hval] at he4
     refine Goes.nat k0.slLen (Goes.nat anb (Goes.chk ?_ (Goes.tvs he3 (Goes.chk rfl (Goes.nat hw.slLen (Goes.nat (asNat_nat (k:=blk o i) (by omega)) (Goes.chk ?_ (Goes.tvs he4 (Goes.chk rfl ?_)))))))))
     ·rw [k0.slSize,overL_len]; simp; omega
     ·rw [hw.slSize]; simp; omega
     exact Goes.nat hw.slLen (Goes.nat anb (Goes.chk cM (Goes.tvs he2 (Goes.chk rfl (Goes.tv c1 (Goes.tv (inc hkl (by omega)) (f21_0_J hy)))))))
    ·have h0:blk o k=0:=by
      have:¬ ((blk o k:Nat):Int) > 0:=by simpa using h
      omega
     have ht:tt (DmI f.blocks n (blk o k))=false:=tt_false fun h1=>by
      have h2:=h1.2
      rw [h0] at h2
      have:=h2.anti (.zero h2.up)
      have:=h1.1
      omega
     rw [ht] at c1
     exact Goes.nat hw.slLen (Goes.nat anb (Goes.chk cM (Goes.tvs he2 (Goes.chk rfl (Goes.tv c1 (Goes.tv (inc hkl (by omega)) (f21_0_J hy)))))))
 obtain ⟨y,hy,hr⟩:=loop o.length 0 _ _ (by omega) (rep_bools (n:=f.blocks.length) (by omega)) (by simp) (fun i hi=>absurd hi (Nat.not_lt_zero _)) (fun c hc _=>by simp [hc])
 refine ⟨y,?_,hr⟩
 have hnb:asNat (I (f.blocks.length:Nat))=some f.blocks.length:=asNat_nat (by omega)
 refine Runs.of (f21_MR _ _) ?_
 unfold f21_M
 exact Goes.chk rfl (Goes.call hv0 (Goes.chk (fit_slc k0.isSl) (Goes.tv hb.len (Goes.nat hnb (Goes.nat hnb (Goes.chk (by simp; omega) (Goes.call hv4 (Goes.chk (fit_slc k4.isSl) (Goes.tv k4.len (f21_0_J hy))))))))))
theorem rIs8 {q:Option Bool} {e:List TV} {f:DFunc} (he:RFunc q e f) (hs:f.blocks.length≤1000) (a c:Int):Runs prog 11 [.agg e,I a,I c] (B (tt (0≤c∧DmI f.blocks a c.toNat))):=by
 obtain ⟨v,hv,k⟩:=rUnder8 he hs a
 obtain ⟨b,rfl,hb,_⟩:=he
 refine Runs.of (f11_MR _ _ _) ?_
 unfold f11_M
 refine Goes.chk rfl (Goes.call hv (Goes.chk (fit_slc k.isSl) (Goes.tv rfl (Goes.ite rfl (fun h=>?_) fun h=>?_))))
 ·have h0:0≤c:=by simpa using h
  refine Goes.tv k.len (Goes.tv rfl (Goes.ite rfl (fun h=>?_) fun h=>?_))
  ·have hc:c < (f.blocks.length:Int):=by rw [undL_len] at h; simpa using h
   have hcl:c.toNat < f.blocks.length:=by omega
   obtain ⟨e1,he1,hR⟩:=k.pel (undL_get (n:=a) hcl)
   cases hR
   refine Goes.nat k.slLen (Goes.nat (asNat_pos h0 (by constructor <;> omega)) (Goes.chk ?_ (Goes.tvs he1 (Goes.chk rfl (goes_ret.2 ?_)))))
   ·rw [k.slSize,undL_len]; simp; omega
   ·show B (tt (DmI f.blocks a c.toNat))=B (tt (0≤c∧DmI f.blocks a c.toNat))
    exact congrArg (fun b:Bool=>B b) (tt_congr (p:=DmI f.blocks a c.toNat) (p':=0≤c∧DmI f.blocks a c.toNat) ⟨fun h=>⟨h0,h⟩,fun h=>h.2⟩)
  ·have hc:¬ c < (f.blocks.length:Int):=by rw [undL_len] at h; simpa using h
   exact ret_no fun h=>by have:=h.2.lt; omega
 ·have h0:¬ 0≤c:=by simpa using h
  exact ret_no fun h=>h0 h.1
theorem rEdge8 {q : Option Bool} {e : List TV} {f : DFunc} (he : RFunc q e f) (hs : f.blocks.length ≤ 1000) (n : Int) : ∃ y, Runs prog 13 [.agg e, I n] y ∧ RInts (some true) y (edgeL f.blocks n) := by
 obtain ⟨v,hv,kv⟩:=rUnder8 he hs n
 have he0:=he
 obtain ⟨b,rfl,hb,_⟩:=he
 have last:∀ (d k:Nat) (wo w:TV) (M:List Bool),k + d=f.blocks.length→RBools (some true) wo M→M.length=f.blocks.length→(∀ g,g < f.blocks.length→M[g]? = some (tt (EdP f.blocks n f.blocks.length 0 g)))→RInts (some true) w (edgeI f.blocks n k) →
   ∃ y,Goes prog 13 (f13_3 (I f.blocks.length) (I k) wo w) y∧RInts (some true) y (edgeL f.blocks n):=by
  intro d
  induction d with
  | zero =>
   intro k wo w M hk hwo hl hm hw
   have hk:k=f.blocks.length:=by omega
   subst hk
   rw [edgeI_all] at hw
   refine ⟨w,?_,hw⟩
   unfold f13_3
   exact Goes.tv rfl (Goes.ite asB_end (fun h=>nomatch h) fun _=>Goes.chk (hw.own fun _ _ h=>h.own) Goes.ret)
  | succ d ih =>
   intro k wo w M hk hwo hl hm hw
   have hkl:k < f.blocks.length:=by omega
   obtain ⟨e1,he1,hR⟩:=hwo.pel (hm k hkl)
   cases hR
   have hlen:=edgeI_len f.blocks n k
   by_cases hp:EdP f.blocks n f.blocks.length 0 k
   ·obtain ⟨w',h1,h2⟩:=hw.app (e:=[I k]) (a:=(k:Int)) ⟨rfl,by constructor <;> omega⟩ (by omega)
    rw [← edgeI_yes hp] at h2
    obtain ⟨y,hy,hr⟩:=ih (k + 1) wo w' M (by omega) hwo hl hm h2
    refine ⟨y,?_,hr⟩
    unfold f13_3
    refine Goes.tv rfl (Goes.ite (asB_lt hkl) (fun _=>Goes.nat hwo.slLen (Goes.nat (asNat_nat (by omega)) (Goes.chk ?_ (Goes.tvs he1 (Goes.chk rfl (Goes.ite (v:=true) (by rw [tt_true hp]; rfl) (fun _=>?_) fun h=>nomatch h)))))) fun h=>nomatch h)
    ·rw [hwo.slSize]; simp; omega
    ·exact Goes.chk rfl (Goes.rws rfl (Goes.tv h1 (Goes.tv (inc hkl (by omega)) (f13_3_J hy))))
   ·rw [← edgeI_no hp] at hw
    obtain ⟨y,hy,hr⟩:=ih (k + 1) wo w M (by omega) hwo hl hm hw
    refine ⟨y,?_,hr⟩
    unfold f13_3
    refine Goes.tv rfl (Goes.ite (asB_lt hkl) (fun _=>Goes.nat hwo.slLen (Goes.nat (asNat_nat (by omega)) (Goes.chk ?_ (Goes.tvs he1 (Goes.chk rfl (Goes.ite (v:=false) (by rw [tt_false hp]; rfl) (fun h=>nomatch h) fun _=>?_)))))) fun h=>nomatch h)
    ·rw [hwo.slSize]; simp; omega
    ·exact Goes.tv (inc hkl (by omega)) (f13_3_J hy)
 have outer : ∀ (d k : Nat) (wo : TV) (M : List Bool), k + d = f.blocks.length → RBools (some true) wo M → M.length = f.blocks.length → (∀ g, g < f.blocks.length → M[g]? = some (tt (EdP f.blocks n k 0 g))) →
   ∃ y,Goes prog 13 (f13_0 (I n) (I f.blocks.length) (I k) (I f.params) (I f.regs) b v wo) y∧RInts (some true) y (edgeL f.blocks n):=by
  intro d
  induction d with
  | zero =>
   intro k wo M hk hwo hl hm
   have hk:k=f.blocks.length:=by omega
   subst hk
   obtain ⟨y,hy,hr⟩:=last f.blocks.length 0 wo (.lit nilV) M (by omega) hwo hl hm (by
    have:edgeI f.blocks n 0=[]:=by unfold edgeI; split <;> simp [edgeTo]
    rw [this]; exact .nil)
   refine ⟨y,?_,hr⟩
   unfold f13_0
   refine Goes.tv rfl (Goes.ite asB_end (fun h=>nomatch h) fun _=>f13_2_J ?_)
   unfold f13_2
   refine Goes.tv hwo.len (Goes.chk rfl ?_)
   rw [hl]
   exact f13_3_J hy
  | succ d ih =>
   intro k wo M hk hwo hl hm
   have hkl:k < f.blocks.length:=by omega
   obtain ⟨e1,he1,hR⟩:=kv.pel (undL_get (n:=n) hkl)
   cases hR
   have ank:asNat (I (k:Nat))=some k:=asNat_nat (by omega)
   by_cases hd:DmI f.blocks n k
   ·obtain ⟨vn,hvn,kn⟩:=r71 he0 ((k:Nat):Int)
    rw [nextL_nat] at kn
    have hnl:=nextAt_len f.blocks k
    have inner : ∀ (c j : Nat) (wo : TV) (M : List Bool), j + c = (nextAt f.blocks k).length → RBools (some true) wo M → M.length = f.blocks.length → (∀ g, g < f.blocks.length → M[g]? = some (tt (EdP f.blocks n k j g))) →
      ∃ y,Goes prog 13 (f13_1 (I n) (I f.blocks.length) (I k) (I (nextAt f.blocks k).length) (I j) (I f.params) (I f.regs) b v wo vn) y∧RInts (some true) y (edgeL f.blocks n):=by
     intro c
     induction c with
     | zero =>
      intro j wo M hj hwo hl hm
      have hj:j=(nextAt f.blocks k).length:=by omega
      subst hj
      obtain ⟨y,hy,hr⟩:=ih (k + 1) wo M (by omega) hwo hl (fun g hg=>by rw [hm g hg,tt_congr EdP_over])
      refine ⟨y,?_,hr⟩
      unfold f13_1
      exact Goes.tv rfl (Goes.ite asB_end (fun h=>nomatch h) fun _=>Goes.tv (inc hkl (by omega)) (f13_0_J hy))
     | succ c ihc =>
      intro j wo M hj hwo hl hm
      have hjl:j < (nextAt f.blocks k).length:=by omega
      obtain ⟨g0,hgg⟩:∃ g,g=(nextAt f.blocks k)[j]:=⟨_,rfl⟩
      have hg0:(nextAt f.blocks k)[j]? = some g0:=by rw [hgg]; exact List.getElem?_eq_getElem hjl
      have hgt:=nextAt_there (List.mem_of_getElem? hg0)
      obtain ⟨g,rfl⟩:∃ g:Nat,g0=(g:Int):=⟨g0.toNat,by omega⟩
      have hgl:g < f.blocks.length:=by have:=hgt.2; omega
      have hgM:g < M.length:=by omega
      obtain ⟨e2,he2,rfl,_⟩:=kn.pel hg0
      obtain ⟨e3,he3,hR3⟩:=hwo.pel (List.getElem?_eq_getElem hgM)
      cases hR3
      obtain ⟨e4,he4,hR4⟩:=kv.pel (undL_get (n:=n) hgl)
      cases hR4
      obtain ⟨wo',c1,c2⟩:=hwo.setAt he3 (d:=0) (ys:=[B (tt (EdP f.blocks n k (j + 1) g))]) (a:=tt (EdP f.blocks n k (j + 1) g)) rfl
      obtain ⟨y,hy,hr⟩:=ihc (j + 1) wo' _ (by omega) c2 (by rw [List.length_set]; exact hl) (fun g' hg'=>by
       by_cases e:g=g'
       ·subst e; exact List.getElem?_set_self hgM
       ·rw [List.getElem?_set_ne e,hm g' hg',tt_congr (EdP_next hd hg0 (Ne.symm e))])
      refine ⟨y,?_,hr⟩
      have ang:asNat (nth TV.hole [I ((g:Nat):Int)] 0)=some g:=asNat_nat (by omega)
      have cM:(Bool.and (slSize wo 1) (Nat.blt g M.length))=true:=by rw [hwo.slSize]; simp; omega
      unfold f13_1
      refine Goes.tv rfl (Goes.ite (asB_lt hjl) (fun _=>?_) fun h=>nomatch h)
      refine Goes.nat kn.slLen (Goes.nat (asNat_nat (by omega)) (Goes.chk ?_ (Goes.tvs he2 (Goes.chk rfl (Goes.tv rfl (Goes.ite rfl (fun h=>?_) fun h=>?_))))))
      ·rw [kn.slSize]; simp; omega
      ·have hn:((g:Nat):Int)=n:=by simpa using h
       rw [tt_true ((EdP_at hd hg0).2 (.inl hn))] at c1
       exact Goes.nat hwo.slLen (Goes.nat ang (Goes.chk cM (Goes.tvs he3 (Goes.chk rfl (Goes.tv c1 (Goes.tv (inc hjl (by omega)) (f13_1_J hy)))))))
      ·have hn:¬ ((g:Nat):Int)=n:=by simpa using h
       have hval:tt (EdP f.blocks n k (j + 1) g)=!tt (DmI f.blocks n g):=by
        by_cases hdg:DmI f.blocks n g
        ·rw [tt_true hdg,tt_false]
         ·rfl
         ·rw [EdP_at hd hg0]
          rintro (h | h)
          ·exact hn h
          ·exact h hdg
        ·rw [tt_false hdg,tt_true ((EdP_at hd hg0).2 (.inr hdg))]; rfl
       rw [hval] at c1
       refine Goes.nat kv.slLen (Goes.nat ang (Goes.chk ?_ (Goes.tvs he4 (Goes.chk rfl (Goes.tv rfl (Goes.nat hwo.slLen (Goes.nat ang (Goes.chk cM (Goes.tvs he3 (Goes.chk rfl (Goes.tv c1 (Goes.tv (inc hjl (by omega)) (f13_1_J hy)))))))))))))
       rw [kv.slSize,undL_len]; simp; omega
    obtain ⟨y,hy,hr⟩:=inner _ 0 wo M (Nat.zero_add _) hwo hl hm
    refine ⟨y,?_,hr⟩
    unfold f13_0
    refine Goes.tv rfl (Goes.ite (asB_lt hkl) (fun _=>Goes.nat kv.slLen (Goes.nat ank (Goes.chk ?_ (Goes.tvs he1 (Goes.chk rfl (Goes.tv rfl (Goes.ite (v:=false) (by rw [tt_true hd]; rfl) (fun h=>nomatch h) fun _=>?_))))))) fun h=>nomatch h)
    ·rw [kv.slSize,undL_len]; simp; omega
    ·exact Goes.call hvn (Goes.chk (fit_slc kn.isSl) (Goes.tv kn.len (f13_1_J hy)))
   ·obtain ⟨y,hy,hr⟩:=ih (k + 1) wo M (by omega) hwo hl (fun g hg=>by rw [hm g hg,tt_congr (EdP_skip hd)])
    refine ⟨y,?_,hr⟩
    unfold f13_0
    refine Goes.tv rfl (Goes.ite (asB_lt hkl) (fun _=>Goes.nat kv.slLen (Goes.nat ank (Goes.chk ?_ (Goes.tvs he1 (Goes.chk rfl (Goes.tv rfl (Goes.ite (v:=true) (by rw [tt_false hd]; rfl) (fun _=>?_) fun h=>nomatch h))))))) fun h=>nomatch h)
    ·rw [kv.slSize,undL_len]; simp; omega
    ·exact Goes.tv (inc hkl (by omega)) (f13_0_J hy)
 obtain ⟨y,hy,hr⟩:=outer f.blocks.length 0 _ _ (by omega) (rep_bools (n:=f.blocks.length) (by omega)) (by simp) (fun g hg=>by
  rw [tt_false (by rintro ⟨⟨b,h,_⟩ | ⟨_,h⟩,_⟩; exact absurd h (Nat.not_lt_zero _); simp at h)]
  simp [hg])
 refine ⟨y,?_,hr⟩
 have hnb:asNat (I (f.blocks.length:Nat))=some f.blocks.length:=asNat_nat (by omega)
 refine Runs.of (f13_MR _ _) ?_
 unfold f13_M
 exact Goes.chk rfl (Goes.call hv (Goes.chk (fit_slc kv.isSl) (Goes.tv hb.len (Goes.nat hnb (Goes.nat hnb (Goes.chk (by simp; omega) (Goes.tv hb.len (f13_0_J hy))))))))
end Go.Ab.V8
end
section
set_option linter.unusedVariables false
set_option linter.unusedSectionVars false
set_option maxRecDepth 10000
namespace Go.Ab
def RBL (q:Option Bool) (e:List TV) (l:List Bool):Prop:=∃ v,e=[v]∧RBools q v l
noncomputable def allL (bs:List DBlock):List (List Bool):=(List.range bs.length).map fun a:Nat=>undL bs (a:Int)
theorem allL_len (bs:List DBlock):(allL bs).length=bs.length:=by simp [allL]
theorem allL_get {bs:List DBlock} {a:Nat} (h:a < bs.length):(allL bs)[a]? = some (undL bs (a:Int)):=by simp [allL,h]
theorem take_len_self {α:Type} (l:List α) {n:Nat} (h:l.length=n):l.take n=l:=by rw [← h]; exact List.take_length
end Go.Ab
namespace Go.Ab.V8
open Go Go.Ab Go.Proofs
theorem rAllR8 {q : Option Bool} {e : List TV} {f : DFunc} (he : RFunc q e f) (hs : f.blocks.length ≤ 1000) : ∃ y, Runs prog 20 [.agg e] y ∧ RL (some true) 1 (RBL (some true)) y (allL f.blocks) := by
 obtain ⟨v0,M0,hv0,k0,F0⟩:=r84 he hs
 have he0:=he
 obtain ⟨b,rfl,hb,_⟩:=he
 have outer : ∀ (d a : Nat) (w : TV), a + d = f.blocks.length → RL (some true) 1 (RBL (some true)) w ((allL f.blocks).take a) → ∃ y, Goes prog 20 (f20_0 (I a) (I f.params) (I f.regs) b v0 w) y ∧ RL (some true) 1 (RBL (some true)) y (allL f.blocks) := by
  intro d
  induction d with
  | zero =>
   intro a w ha hw
   have ha:a=f.blocks.length:=by omega
   subst ha
   rw [take_len_self _ (allL_len _)] at hw
   refine ⟨w,?_,hw⟩
   unfold f20_0
   exact Goes.tv hb.len (Goes.tv rfl (Goes.ite asB_end (fun h=>nomatch h) fun _=>Goes.ret))
  | succ d ih =>
   intro a w ha hw
   have hal:a < f.blocks.length:=by omega
   obtain ⟨v3,M3,hv3,k3,F3⟩:=r83 he0 hs ((a:Nat):Int)
   have inner : ∀ (c j : Nat) (wr : TV) (M : List Bool), j + c = f.blocks.length → RBools (some true) wr M → M.length = f.blocks.length → (∀ g, g < j → M[g]? = some (tt (DmI f.blocks (a : Int) g))) →
     ∃ y,Goes prog 20 (f20_1 (I a) (I j) (I f.params) (I f.regs) b v0 w v3 wr) y∧RL (some true) 1 (RBL (some true)) y (allL f.blocks):=by
    intro c
    induction c with
    | zero =>
     intro j wr M hj hwr hl hm
     have hj:j=f.blocks.length:=by omega
     subst hj
     have e:M=undL f.blocks (a:Int):=by
      apply List.ext_getElem?
      intro g
      by_cases hg:g < f.blocks.length
      ·rw [undL_get hg,hm g hg]
      ·rw [List.getElem?_eq_none (by omega),List.getElem?_eq_none (by rw [undL_len]; omega)]
     subst e
     obtain ⟨w',h1,h2⟩:=hw.app (e:=[wr]) (a:=undL f.blocks (a:Int)) ⟨wr,rfl,hwr⟩ (by rw [List.length_take,allL_len]; omega)
     rw [← take_get (allL_get hal)] at h2
     obtain ⟨y,hy,hr⟩:=ih (a + 1) w' (by omega) h2
     refine ⟨y,?_,hr⟩
     unfold f20_1
     refine Goes.tv hb.len (Goes.tv rfl (Goes.ite asB_end (fun h=>nomatch h) fun _=>f20_2_J ?_))
     unfold f20_2
     exact Goes.rws rfl (Goes.tv h1 (Goes.tv (inc hal (by omega)) (f20_0_J hy)))
    | succ c ihc =>
     intro j wr M hj hwr hl hm
     have hjl:j < f.blocks.length:=by omega
     have hjM:j < M.length:=by omega
     have hj0:j < M0.length:=by have:=F0.1; omega
     have hj3:j < M3.length:=by have:=F3.1; omega
     obtain ⟨e1,he1,hR1⟩:=k0.pel (List.getElem?_eq_getElem hj0)
     cases hR1
     obtain ⟨e2,he2,hR2⟩:=hwr.pel (List.getElem?_eq_getElem hjM)
     cases hR2
     obtain ⟨e3,he3,hR3⟩:=k3.pel (List.getElem?_eq_getElem hj3)
     cases hR3
     have r0:M0[j]=true ↔ Rc f.blocks (-1) j:=by rw [← F0.2 j,List.getElem?_eq_getElem hj0]; simp
     have r3:M3[j]=true ↔ Rc f.blocks ((a:Nat):Int) j:=by rw [← F3.2 j,List.getElem?_eq_getElem hj3]; simp
     obtain ⟨wr',c1,c2⟩:=hwr.setAt he2 (d:=0) (ys:=[B (tt (DmI f.blocks (a:Int) j))]) (a:=tt (DmI f.blocks (a:Int) j)) rfl
     obtain ⟨y,hy,hr⟩:=ihc (j + 1) wr' _ (by omega) c2 (by rw [List.length_set]; exact hl) (fun g hg=>by
      by_cases e:j=g
      ·subst e; exact List.getElem?_set_self hjM
      ·rw [List.getElem?_set_ne e]; exact hm g (by omega))
     refine ⟨y,?_,hr⟩
     have anj:asNat (I (j:Nat))=some j:=asNat_nat (by omega)
     have cM:(Bool.and (slSize wr 1) (Nat.blt j M.length))=true:=by rw [hwr.slSize]; simp; omega
     unfold f20_1
     refine Goes.tv hb.len (Goes.tv rfl (Goes.ite (asB_lt hjl) (fun _=>?_) fun h=>nomatch h))
     refine Goes.nat k0.slLen (Goes.nat anj (Goes.chk ?_ (Goes.tvs he1 (Goes.chk rfl (Goes.ite rfl (fun h=>?_) fun h=>?_)))))
     ·rw [k0.slSize]; simp; omega
     ·have hrc:Rc f.blocks (-1) j:=r0.1 h
      refine Goes.tv rfl (Goes.ite rfl (fun h=>?_) fun h=>?_)
      ·have haj:a=j:=by
        have:((a:Nat):Int)=((j:Nat):Int):=by simpa using h
        omega
       rw [tt_true (DmI_nat.2 ⟨hrc,.inl haj⟩)] at c1
       exact Goes.nat hwr.slLen (Goes.nat anj (Goes.chk cM (Goes.tvs he2 (Goes.chk rfl (Goes.tv c1 (Goes.tv (inc hjl (by omega)) (f20_1_J hy)))))))
      ·have haj:¬ a=j:=by
        have:¬ ((a:Nat):Int)=((j:Nat):Int):=by simpa using h
        omega
       have hval:tt (DmI f.blocks (a:Int) j)=!M3[j]:=by
        cases hM:M3[j] with
        | true =>
         refine tt_false fun h=>?_
         rcases (DmI_nat.1 h).2 with h | h
         ·exact haj h
         ·exact h (r3.1 hM)
        | false=>exact tt_true (DmI_nat.2 ⟨hrc,.inr fun h=>by rw [r3.2 h] at hM; cases hM⟩)
       rw [hval] at c1
       refine Goes.nat k3.slLen (Goes.nat anj (Goes.chk ?_ (Goes.tvs he3 (Goes.chk rfl (Goes.tv rfl (Goes.nat hwr.slLen (Goes.nat anj (Goes.chk cM (Goes.tvs he2 (Goes.chk rfl (Goes.tv c1 (Goes.tv (inc hjl (by omega)) (f20_1_J hy)))))))))))))
       rw [k3.slSize]; simp; omega
     ·rw [tt_false fun hd=>by
       have:=r0.2 (DmI_nat.1 hd).1
       have h:M0[j]=false:=h
       rw [h] at this
       cases this] at c1
      exact Goes.nat hwr.slLen (Goes.nat anj (Goes.chk cM (Goes.tvs he2 (Goes.chk rfl (Goes.tv c1 (Goes.tv (inc hjl (by omega)) (f20_1_J hy)))))))
   obtain ⟨y,hy,hr⟩:=inner f.blocks.length 0 _ _ (by omega) (rep_bools (n:=f.blocks.length) (by omega)) (by simp) (fun g hg=>absurd hg (Nat.not_lt_zero _))
   refine ⟨y,?_,hr⟩
   have hnb:asNat (I (f.blocks.length:Nat))=some f.blocks.length:=asNat_nat (by omega)
   unfold f20_0
   exact Goes.tv hb.len (Goes.tv rfl (Goes.ite (asB_lt hal) (fun _=>Goes.call hv3 (Goes.chk (fit_slc k3.isSl) (Goes.tv hb.len (Goes.nat hnb (Goes.nat hnb (Goes.chk (by simp; omega) (f20_1_J hy))))))) fun h=>nomatch h))
 obtain ⟨y,hy,hr⟩:=outer f.blocks.length 0 (.lit nilV) (by omega) (by simpa using RL.nil)
 refine ⟨y,?_,hr⟩
 refine Runs.of (f20_MR _) ?_
 unfold f20_M
 exact Goes.chk rfl (Goes.call hv0 (Goes.chk (fit_slc k0.isSl) (Goes.chk rfl (f20_0_J hy))))
end Go.Ab.V8
end
section
set_option linter.unusedVariables false
set_option maxRecDepth 100000
namespace Go.Ab.V8
open Go Go.Ab Go.Proofs
abbrev awkB (k to els:Int):DBlock:=⟨false,⟨0,[],false,false⟩,[],⟨k,0,0,0,[],to,els,0⟩⟩
abbrev awkF:DFunc:=⟨0,1,[awkB 3 1 2,awkB 2 3 0,awkB 2 3 0,awkB 1 0 0]⟩
abbrev awkBT (k to els:Int):List TV:=[B false,I 0,.lit nilV,B false,B false,.lit nilV,I k,I 0,I 0,I 0,.lit nilV,I to,I els,I 0]
abbrev awkT:List TV:=[I 0,I 1,.sl false 14 [awkBT 3 1 2,awkBT 2 3 0,awkBT 2 3 0,awkBT 1 0 0]]
theorem awkBR {k to els:Int} (h1:inI k) (h2:inI to) (h3:inI els):RBlock (some false) (awkBT k to els) (awkB k to els) :=
 have z:inI 0:=⟨by decide,by decide⟩
 ⟨.lit nilV,.lit nilV,.lit nilV,rfl,.nil,z,.nil,.nil,h1,z,z,z,h2,h3,z⟩
theorem awkR:RFunc (some false) awkT awkF:=by
 have hi:∀ {n:Nat},n < 100→inI (n:Int):=fun h=>by constructor <;> omega
 refine ⟨_,rfl,.inr ⟨false,_,rfl,fun _ h=>by cases h; rfl,?_,by decide⟩,hi (n:=0) (by omega),hi (n:=1) (by omega)⟩
 exact .cons (awkBR (hi (n:=3) (by omega)) (hi (n:=1) (by omega)) (hi (n:=2) (by omega))) (.cons (awkBR (hi (n:=2) (by omega)) (hi (n:=3) (by omega)) (hi (n:=0) (by omega))) (.cons (awkBR (hi (n:=2) (by omega)) (hi (n:=3) (by omega)) (hi (n:=0) (by omega))) (.cons (awkBR (hi (n:=1) (by omega)) (hi (n:=0) (by omega)) (hi (n:=0) (by omega))) .nil)))
theorem awkA:Runs prog 20 [.agg awkT] (.sl true 1 [[.sl true 1 [[B true],[B true],[B true],[B true]]],[.sl true 1 [[B false],[B true],[B false],[B false]]],[.sl true 1 [[B false],[B false],[B true],[B false]]],[.sl true 1 [[B false],[B false],[B false],[B true]]]]):=⟨40,by kernel_rfl⟩
theorem awkD {a b : Nat} (ha : a < 4) (hb : b < 4) : Dm awkF.blocks a b ↔ (a = 0 ∨ a = b) := by
  obtain ⟨y,h,k⟩:=rAllR8 awkR (by decide)
  have:=h.det awkA
  subst this
  obtain ⟨e1,he1,v,rfl,hv⟩:=k.pel (allL_get (a:=a) (bs:=awkF.blocks) ha)
  obtain ⟨e2,he2,hR⟩:=hv.pel (undL_get (n:=(a:Int)) (bs:=awkF.blocks) hb)
  cases hR
  rw [tt_congr (DmI_nat (bs:=awkF.blocks) (n:=a) (b:=b))] at he2
  have h4:a=0∨a=1∨a=2∨a=3:=by omega
  have h5:b=0∨b=1∨b=2∨b=3:=by omega
  rcases h4 with rfl | rfl | rfl | rfl <;> (
    have e:=(show Go.Ab.pel _ _=some _ from rfl).symm.trans he1
    injection e with e
    injection e with e
    subst e
    rcases h5 with rfl | rfl | rfl | rfl <;> (
      have e:=(show Go.Ab.pel _ _=some _ from rfl).symm.trans he2
      injection e with e
      injection e with e
      injection e with e
      injection e with e
      first
        | (have:=tt_iff.1 e.symm; simpa using this)
        | (have hn : ¬ Dm awkF.blocks _ _ := fun hd => by rw [tt_true hd] at e; cases e
           simpa using hn)))
theorem awkN {b:Nat} (h0:b≠0) (hb:b < 4):ovN awkF.blocks b=0 :=
 ovN_of (a:=0) ⟨fun e=>h0 e.symm,(awkD (by omega) hb).2 (.inl rfl),fun c hc hd=>by
  have hc4:c < 4:=hd.up.lt
  rcases (awkD hc4 hb).1 hd with h | h
  ·subst h; exact (awkD (by omega) (by omega)).2 (.inl rfl)
  ·exact absurd h hc⟩
theorem awkV:overL awkF.blocks=[-1,0,0,0]:=by
 have h0:ovN awkF.blocks 0=-1:=ovN_none fun h=>h.2 rfl
 show [ovN awkF.blocks 0,ovN awkF.blocks 1,ovN awkF.blocks 2,ovN awkF.blocks 3]=_
 rw [h0,awkN (by omega) (by omega),awkN (by omega) (by omega),awkN (by omega) (by omega)]
end Go.Ab.V8
end
section
set_option linter.unusedVariables false
set_option maxRecDepth 100000
namespace Go.Ab.V8
open Go Go.Ab Go.Proofs
theorem awkX {b:Nat} {g:Int} (h:Dm awkF.blocks 1 b) (hg:g ∈ nextAt awkF.blocks b):g=3:=by
 have hb:b < 4:=h.1.lt
 rcases (awkD (by omega) hb).1 h with h | h
 ·cases h
 ·subst h
  have e:nextAt awkF.blocks 1=[3]:=rfl
  rw [e] at hg
  simpa using hg
theorem awkP {k:Nat}:edgeP awkF.blocks 1 k ↔ k=3:=by
 constructor
 ·rintro ⟨⟨b,h,hg⟩,_⟩
  have:=awkX h hg
  omega
 ·rintro rfl
  refine ⟨⟨1,(awkD (by omega) (by omega)).2 (.inr rfl),?_⟩,.inr fun h=>?_⟩
  ·have e:nextAt awkF.blocks 1=[3]:=rfl
   rw [e]; simp
  ·rcases (awkD (by omega) (by omega)).1 h with h | h <;> cases h
theorem awkW:edgeL awkF.blocks 1=[3]:=by
 show edgeTo awkF.blocks 1 4=[3]
 unfold edgeTo
 rw [List.filter_congr (q:=fun i=>decide (i=3)) fun i _=>by rw [decide_eq_decide]; exact awkP]
 rfl
theorem rAwake8:Runs prog 7 [] (B true):=by
 have hs:awkF.blocks.length≤1000:=by decide
 have hi:∀ {n:Nat},n < 100→inI (n:Int):=fun h=>by constructor <;> omega
 have l0:RInts (some true) (.sl true 1 [[I (-1)],[I 0],[I 0],[I 0]]) [-1,0,0,0] :=
  .inr ⟨true,_,rfl,fun _ h=>by cases h; rfl,.cons ⟨rfl,by decide,by decide⟩ (.cons ⟨rfl,hi (n:=0) (by omega)⟩ (.cons ⟨rfl,hi (n:=0) (by omega)⟩ (.cons ⟨rfl,hi (n:=0) (by omega)⟩ .nil))),by decide⟩
 have l1:RInts (some true) (.sl true 1 [[I 3]]) [3]:=.inr ⟨true,_,rfl,fun _ h=>by cases h; rfl,.cons ⟨rfl,hi (n:=3) (by omega)⟩ .nil,by decide⟩
 obtain ⟨y0,h0,k0⟩:=rOver8 awkR hs
 rw [awkV] at k0
 obtain ⟨y1,h1,k1⟩:=rEdge8 awkR hs 1
 rw [awkW] at k1
 have h2:=rIs8 awkR hs 0 3
 rw [tt_true ⟨by omega,(DmI_nat (n:=0)).2 ((awkD (by omega) (by decide)).2 (.inl rfl))⟩] at h2
 have h3:=rIs8 awkR hs 1 3
 rw [tt_false fun h=>by rcases (awkD (a:=1) (b:=3) (by omega) (by decide)).1 ((DmI_nat (n:=1)).1 h.2) with h | h <;> cases h] at h3
 refine Runs.of f7_MR ?_
 unfold f7_M
 refine Goes.call (xs:=[.agg awkT]) h0 (Goes.chk (fit_slc k0.isSl) (Goes.call (xs:=[frz y0,frz (.sl true 1 [[I (-1)],[I 0],[I 0],[I 0]])]) (same_ints k0 l0) (Goes.chk rfl (Goes.ite (v:=true) rfl (fun _=>?_) fun h=>nomatch h))))
 refine Goes.call (xs:=[.agg awkT,I 1]) h1 (Goes.chk (fit_slc k1.isSl) (Goes.call (xs:=[frz y1,frz (.sl true 1 [[I 3]])]) (same_ints k1 l1) (Goes.chk rfl (Goes.ite (v:=true) rfl (fun _=>?_) fun h=>nomatch h))))
 refine Goes.call (xs:=[.agg awkT,I 0,I 3]) h2 (Goes.chk rfl (Goes.ite (v:=true) rfl (fun _=>?_) fun h=>nomatch h))
 exact Goes.call (xs:=[.agg awkT,I 1,I 3]) h3 (Goes.chk rfl (Goes.tv rfl Goes.ret))
end Go.Ab.V8
end
section
set_option linter.unusedVariables false
set_option linter.unusedSectionVars false
set_option maxRecDepth 100000
namespace Go.Ab
end Go.Ab
namespace Go.Ab.V8
open Go Go.Ab Go.Proofs
theorem rIsN {q:Option Bool} {e:List TV} {f:DFunc} (he:RFunc q e f) (hs:f.blocks.length≤1000) (a c:Nat):Runs prog 11 [.agg e,I a,I c] (B (tt (Dm f.blocks a c))):=by
 have h:=rIs8 he hs a c
 rwa [tt_congr (p':=Dm f.blocks a c) ⟨fun h=>DmI_nat.1 h.2,fun h=>⟨by omega,DmI_nat.2 h⟩⟩] at h
section
variable {q:Option Bool} {b:TV} {f:DFunc} (he:RFunc q [I f.params,I f.regs,b] f) (hs:f.blocks.length≤30) {y:TV} (k4:RInts (some true) y (overL f.blocks))
include he hs k4
end
end Go.Ab.V8
end
section
set_option linter.unusedVariables false
set_option linter.unusedSectionVars false
set_option maxRecDepth 100000
namespace Go.Ab
def RY1 (e:List TV) (n:Int):Prop:=e=[.lit (.int .u8 n)]∧0≤n∧n≤255
theorem byteI {n:Int} (h0:0≤n) (h1:n≤255):pconv (.int .i64) (.lit (.int .u8 n))=some (I n):=by
 simp [pconv,IntWalk.i64_in n (by constructor <;> omega)]
end Go.Ab
namespace Go.Ab.V8
open Go Go.Ab Go.Proofs
section
variable {q:Option Bool} {b:TV} {f:DFunc} (he:RFunc q [I f.params,I f.regs,b] f) (hs:f.blocks.length≤30)
include he hs
theorem ovrWay {X:Nat} {qt:Option Bool} {t:TV} {tl:List Int} (hT:RL qt 1 RY1 t tl):∀ (d i z:Nat) (p:Bool),i + d=tl.length→Rc f.blocks (-1) z→(Dm f.blocks X z→p=true) →
  Goes prog 4 (f4_1 t (I X) (I z) (B p) (I i) (I f.params) (I f.regs) b) (B true):=by
 intro d
 have hbt:=hT.bnd
 induction d with
 | zero =>
  intro i z p hi hz hp
  have hi:i=tl.length:=by omega
  subst hi
  unfold f4_1
  exact Goes.tv hT.len (Goes.tv rfl (Goes.ite asB_end (fun h=>nomatch h) fun _=>Goes.ret))
 | succ d ih =>
  intro i z p hi hz hp
  have hil:i < tl.length:=by omega
  have hzl:=hz.lt
  obtain ⟨w9,h9,k9⟩:=r71 he (z:Int)
  rw [nextL_nat] at k9
  have hl3:(nextAt f.blocks z).length≤3:=by rw [← nextL_nat]; exact nextL_len _ _
  obtain ⟨e,he1,rfl,hb0,hb1⟩:=hT.idx (k:=.i64) (List.getElem?_eq_getElem hil)
  generalize tl[i]=u at he1 hb0 hb1
  have h2:Goes prog 4 (f4_2 t (I X) (I z) (B p) (I i) (I f.params) (I f.regs) b) (B true):=by
   unfold f4_2
   refine Goes.call h9 (Goes.chk (fit_slc k9.isSl) (Goes.tv k9.len (Goes.tv rfl (Goes.ite rfl (fun _=>Goes.ret) fun h=>?_))))
   have hL:0 < (nextAt f.blocks z).length:=by
    have:¬ ((nextAt f.blocks z).length:Int)=0:=by simpa using h
    omega
   obtain ⟨N,hN,hr⟩:=rem_in hb0 hL
   obtain ⟨e3,he3,hR⟩:=k9.pel (List.getElem?_eq_getElem hN)
   obtain ⟨rfl,hg0⟩:=hR
   have hgm:(nextAt f.blocks z)[N] ∈ nextAt f.blocks z:=List.getElem_mem hN
   generalize (nextAt f.blocks z)[N]=g at he3 hg0 hgm
   have hgt:=nextAt_there hgm
   have hrc:Rc f.blocks (-1) g.toNat:=.next hz hgm (by omega)
   have hst:g≠(X:Int)→Dm f.blocks X g.toNat→p=true:=fun hn hd=>hp (Dm.step hz hgm hd hn)
   obtain ⟨G,rfl⟩:∃ G:Nat,g=(G:Int):=⟨g.toNat,by omega⟩
   rw [Int.toNat_natCast] at hrc hst
   have hic:pbin (.int .i64) .add (I (i:Nat)) (I (1:Int))=some (I ((i + 1:Nat):Int)):=inc hil (by omega)
   refine Goes.tvs he1 (Goes.chk rfl (Goes.tv (byteI hb0 hb1) (Goes.tv k9.len (Goes.tv hr (Goes.nat k9.slLen (Goes.nat (asNat_nat (by omega)) (Goes.chk ?_ (Goes.tvs he3 (Goes.chk rfl (Goes.ite rfl (fun h=>?_) fun h=>?_))))))))))
   ·rw [k9.slSize]; simp; omega
   ·exact Goes.tv hic (f4_1_J (ih (i + 1) G true (by omega) hrc fun _=>rfl))
   ·refine Goes.tv rfl (Goes.tv hic (f4_1_J (ih (i + 1) G ((G:Int) == (X:Int)) (by omega) hrc fun hd=>?_)))
    by_cases e:(G:Int)=(X:Int)
    ·simp [e]
    ·rw [hst e hd] at h; cases h
  have h2:=f4_2_J h2
  unfold f4_1
  refine Goes.tv hT.len (Goes.tv rfl (Goes.ite (asB_lt hil) (fun _=>?_) fun h=>nomatch h))
  refine Goes.tv rfl (Goes.ite rfl (fun _=>?_) fun _=>Goes.ret)
  refine Goes.call (rIsN he (by omega) X z) (Goes.chk rfl (Goes.ite rfl (fun h=>?_) fun _=>h2))
  have:=hp (tt_iff.1 h)
  subst this
  exact Goes.tv rfl (Goes.ite (v:=false) rfl (fun h=>nomatch h) fun _=>h2)
end
theorem rDomOver {q qt:Option Bool} {e:List TV} {f:DFunc} (he:RFunc q e f) {u0 u1 u2:Int} (h0:0≤u0∧u0≤255) (h1:0≤u1∧u1≤255) (h2:0≤u2∧u2≤255) {t:TV} {tl:List Int} (hT:RL qt 1 RY1 t tl) :
  Runs prog 4 [.agg e,.lit (.int .u8 u0),.lit (.int .u8 u1),.lit (.int .u8 u2),t] (B true):=by
 have he0:=he
 obtain ⟨b,rfl,hb,_⟩:=he
 refine Runs.of (f4_MR _ _ _ _ _) ?_
 unfold f4_M
 refine Goes.chk rfl (Goes.call rAwake8 (Goes.chk rfl (Goes.tv rfl (Goes.ite (v:=false) rfl (fun h=>nomatch h) fun _=>Goes.tv hb.len (Goes.tv rfl (Goes.ite rfl (fun _=>Goes.ret) fun h=>?_))))))
 have hs:f.blocks.length≤30:=by
  have:¬ (f.blocks.length:Int) > 30:=by simpa using h
  omega
 refine Goes.tv hb.len (Goes.tv rfl (Goes.ite rfl (fun _=>Goes.ret) fun h=>?_))
 have hL:0 < f.blocks.length:=by
  have:¬ (f.blocks.length:Int)=0:=by simpa using h
  omega
 obtain ⟨X,hX,rX⟩:=rem_in h0.1 hL
 obtain ⟨Y,hY,rY⟩:=rem_in h1.1 hL
 obtain ⟨Z,hZ,rZ⟩:=rem_in h2.1 hL
 refine Goes.tv hb.len (Goes.tv (byteI h0.1 h0.2) (Goes.tv rX (Goes.tv (byteI h1.1 h1.2) (Goes.tv rY (Goes.tv (byteI h2.1 h2.2) (Goes.tv rZ ?_))))))
 obtain ⟨y10,M0,h10,k10,F10⟩:=r85 he0 (by omega)
 have hZM:Z < M0.length:=by have:=F10.1; omega
 obtain ⟨e1,he1,hR⟩:=k10.pel (List.getElem?_eq_getElem hZM)
 cases hR
 have r0:M0[Z]=true ↔ Rc f.blocks (-1) Z:=by rw [← F10.2 Z,List.getElem?_eq_getElem hZM]; simp
 have d0:M0[Z]=tt (Dm f.blocks 0 Z):=tt_eq (r0.trans ⟨Dm.zero,fun h=>h.1⟩)
 have dZ:M0[Z]=tt (Dm f.blocks Z Z):=tt_eq (r0.trans ⟨Dm.refl,fun h=>h.1⟩)
 have i0:Runs prog 11 [.agg [I f.params,I f.regs,b],I 0,I Z] (B (tt (Dm f.blocks 0 Z))):=rIsN he0 (by omega) 0 Z
 have iZ:=rIsN he0 (by omega) Z Z
 rw [← d0] at i0
 rw [← dZ] at iZ
 have hsz:(Bool.and (slSize y10 1) (Nat.blt Z M0.length))=true:=by rw [k10.slSize]; simp; omega
 have hnZ:asNat (I (Z:Nat))=some Z:=asNat_nat (by omega)
 have way:Goes prog 4 (f4_0 t (I X) (I f.params) (I f.regs) b) (B true):=by
  have hz:Rc f.blocks (-1) 0:=.start (by omega) hL
  unfold f4_0
  refine Goes.tv rfl (f4_1_J (ovrWay he0 hs hT tl.length 0 0 ((X:Int) == 0) (by omega) hz fun hd=>?_))
  have:X=0:=hd.anti (.zero hd.up)
  subst this
  rfl
 have way:=f4_0_J way
 refine Goes.call h10 (Goes.chk (fit_slc k10.isSl) (Goes.nat k10.slLen (Goes.nat hnZ (Goes.chk hsz (Goes.tvs he1 (Goes.chk rfl (Goes.call i0 (Goes.chk rfl (Goes.tv rfl (Goes.ite (v:=false) (by simp [asBool]) (fun h=>nomatch h) fun _=>?_))))))))))
 refine Goes.call h10 (Goes.chk (fit_slc k10.isSl) (Goes.nat k10.slLen (Goes.nat hnZ (Goes.chk hsz (Goes.tvs he1 (Goes.chk rfl (Goes.call iZ (Goes.chk rfl (Goes.tv rfl (Goes.ite (v:=false) (by simp [asBool]) (fun h=>nomatch h) fun _=>?_))))))))))
 refine Goes.call (rIsN he0 (by omega) X Z) (Goes.chk rfl (Goes.ite rfl (fun hXZ=>?_) fun _=>way))
 refine Goes.call (rIsN he0 (by omega) Y Z) (Goes.chk rfl (Goes.ite rfl (fun hYZ=>?_) fun _=>way))
 refine Goes.call (rIsN he0 (by omega) X Y) (Goes.chk rfl (Goes.tv rfl (Goes.ite rfl (fun hXY=>?_) fun _=>way)))
 refine Goes.call (rIsN he0 (by omega) Y X) (Goes.chk rfl (Goes.tv rfl (Goes.ite rfl (fun hYX=>?_) fun _=>way)))
 rcases (tt_iff.1 hXZ).total (tt_iff.1 hYZ) with h | h
 ·rw [tt_true h] at hXY; cases hXY
 ·rw [tt_true h] at hYX; cases hYX
end Go.Ab.V8
end
section
namespace Go.Ab
open Go.RowKit
set_option linter.unusedVariables false
theorem nth_eq {α:Type} (d:α):∀ (l:List α) (n:Nat),nth d l n=(l[n]?).getD d
 | [],n=>by simp [nth]
 | a :: l,0=>rfl
 | a :: l,n + 1=>by simp [nth,nth_eq d l n]
theorem setNth_eq {α:Type}:∀ (l:List α) (n:Nat) (b:α),setNth l n b=l.set n b
 | [],n,b=>by simp [setNth]
 | a :: l,0,b=>rfl
 | a :: l,n + 1,b=>by simp [setNth,setNth_eq l n b]
theorem nth_some {α:Type} {d:α} {l:List α} {n:Nat} {a:α} (h:l[n]? = some a):nth d l n=a:=by rw [nth_eq,h]; rfl
theorem beq_iff (a b:Nat):a.beq b=true ↔ a=b:=⟨Nat.eq_of_beq_eq_true,fun h=>h ▸ Nat.beq_refl a⟩
theorem memB_iff (n:Nat):∀ l:List Nat,memB n l=true ↔ n ∈ l
 | []=>by simp [memB]
 | a :: l => by
  cases h:a.beq n
  ·have:a≠n:=fun e=>by simp [e] at h
   simp only [memB,h,cond_false,memB_iff n l,List.mem_cons]
   constructor
   ·exact .inr
   ·rintro (e | e)
    ·exact absurd e.symm this
    ·exact e
  ·simp only [memB,h,cond_true,List.mem_cons,true_iff]
   exact .inl ((beq_iff a n).1 h).symm
theorem add_block (a:Addr) (k:Nat):(a.add k).block=a.block:=by unfold Addr.add; split <;> rfl
theorem add_add (a:Addr) (i j:Nat):(a.add i).add j=a.add (i + j):=by
 unfold Addr.add
 by_cases hi:i=0 <;> by_cases hj:j=0 <;> simp [hi,hj,Nat.add_assoc]
theorem add_lit (b o k:Nat):(⟨b,o,none⟩:Addr).add k=⟨b,o + k,none⟩:=by unfold Addr.add; split <;> simp_all
def spl {α:Type} (l:List α) (o:Nat) (ys:List α):List α:=l.take o ++ ys ++ l.drop (o + ys.length)
theorem spl_len {α:Type} {l ys:List α} {o:Nat} (h:o + ys.length≤l.length):(spl l o ys).length=l.length:=by
 simp only [spl,List.length_append,List.length_take,List.length_drop]
 omega
theorem spl_get {α:Type} {l ys:List α} {o:Nat} (h:o + ys.length≤l.length) (k:Nat):(spl l o ys)[k]? = if o≤k∧k < o + ys.length then ys[k - o]? else l[k]? := by
 have e1:(l.take o).length=o:=by simp; omega
 unfold spl
 by_cases h1:k < o
 ·rw [List.append_assoc,List.getElem?_append_left (by omega),List.getElem?_take,if_pos h1,if_neg (by omega)]
 ·by_cases h2:k < o + ys.length
  ·rw [List.append_assoc,List.getElem?_append_right (by omega),e1,List.getElem?_append_left (by omega),if_pos (by omega)]
  ·rw [List.getElem?_append_right (by simp; omega),List.getElem?_drop,if_neg (by omega)]
   congr 1
   simp
   omega
theorem setCells_eq {α:Type}:∀ (ps l:List α) (off:Nat),off + ps.length≤l.length→setCells l off ps=spl l off ps
 | [],l,off,h=>by simp [setCells,spl]
 | p :: ps, l, off, h => by
  have hlt:off < l.length:=by simp at h; omega
  simp only [setCells]
  rw [setNth_eq,setCells_eq ps (l.set off p) (off + 1) (by simp at h ⊢; omega)]
  apply List.ext_getElem?
  intro k
  rw [spl_get (by simp at h ⊢; omega),spl_get h]
  simp only [List.length_cons,List.getElem?_set]
  by_cases h1:k < off
  ·rw [if_neg (by omega),if_neg (by omega),if_neg (by omega)]
  ·by_cases h2:k=off
   ·subst h2
    rw [if_neg (by omega),if_pos (by omega)]
    simp [hlt]
   ·by_cases h3:k < off + (ps.length + 1)
    ·rw [if_pos (by omega),if_pos (by omega)]
     rw [show k - off=(k - (off + 1)) + 1 by omega,List.getElem?_cons_succ]
    ·rw [if_neg (by omega),if_neg (by omega),if_neg (by omega)]
theorem takeN_spec {α:Type}:∀ (l:List α) (o n:Nat) (r:List α),takeN l o n=some r→r.length=n∧(n=0∨o + n≤l.length)∧∀ j,j < n→r[j]? = l[o + j]?
 | l,o,0,r,h=>by cases l <;> simp [takeN] at h <;> subst h <;> simp
 | [],o,n + 1,r,h=>by simp [takeN] at h
 | a :: l, 0, n + 1, r, h => by
  simp only [takeN] at h
  cases h1:takeN l 0 n with
  | none=>simp [h1] at h
  | some r' =>
   simp only [h1,Option.some.injEq] at h
   subst h
   obtain ⟨i1,i2,i3⟩:=takeN_spec l 0 n r' h1
   refine ⟨by simp [i1],.inr (by simp; omega),fun j hj=>?_⟩
   cases j with
   | zero=>simp
   | succ j=>simpa using i3 j (by omega)
 | a :: l,o + 1,n + 1,r,h=>by
  simp only [takeN] at h
  obtain ⟨i1,i2,i3⟩:=takeN_spec l o (n + 1) r h
  refine ⟨i1,.inr (by rcases i2 with i2 | i2 <;> simp <;> omega),fun j hj=>?_⟩
  rw [i3 j hj,show o + 1 + j=(o + j) + 1 by omega,List.getElem?_cons_succ]
theorem flat_len {α:Type} {s:Nat}:∀ {xs:List (List α)},(∀ x ∈ xs,x.length=s)→xs.flatten.length=xs.length * s
 | [],_=>by simp
 | x :: xs,h=>by
  simp only [List.flatten_cons,List.length_append,List.length_cons,h x List.mem_cons_self,flat_len (fun y hy=>h y (List.mem_cons_of_mem _ hy)),Nat.add_mul]
  omega
theorem flat_get {α:Type} {s:Nat}:∀ {xs:List (List α)} {i j:Nat} {x:List α} {c:α},(∀ x ∈ xs,x.length=s)→xs[i]? = some x→x[j]? = some c→xs.flatten[i * s + j]? = some c
 | x :: xs,0,j,_,c,h,hi,hj=>by
  simp at hi
  subst hi
  rw [List.flatten_cons,List.getElem?_append_left (by simp; exact (List.getElem?_eq_some_iff.1 hj).1)]
  simpa using hj
 | x :: xs,i + 1,j,y,c,h,hi,hj=>by
  simp at hi
  have hx:=h x List.mem_cons_self
  rw [List.flatten_cons,List.getElem?_append_right (by rw [hx,Nat.add_mul]; omega),hx,show (i + 1) * s + j - s=i * s + j by rw [Nat.add_mul]; omega]
  exact flat_get (fun z hz=>h z (List.mem_cons_of_mem _ hz)) hi hj
theorem take_add {α:Type} {x l:List α} {s n:Nat} (h:x.length=s):(x ++ l).take (s + n)=x ++ l.take n:=by
 subst h
 exact List.take_length_add_append n
theorem drop_add {α:Type} {x l:List α} {s n:Nat} (h:x.length=s):(x ++ l).drop (s + n)=l.drop n:=by
 subst h
 exact List.drop_length_add_append n
theorem succ_mul' (n s:Nat):(n + 1) * s=s + n * s:=by rw [Nat.add_mul]; omega
theorem flat_take {α:Type} {s:Nat}:∀ {xs:List (List α)} (n:Nat),(∀ x ∈ xs,x.length=s)→(xs.take n).flatten=xs.flatten.take (n * s)
 | [],n,_=>by simp
 | x :: xs,0,_=>by simp
 | x :: xs,n + 1,h=>by
  have hx:=h x List.mem_cons_self
  rw [List.take_succ_cons,List.flatten_cons,List.flatten_cons,flat_take n (fun z hz=>h z (List.mem_cons_of_mem _ hz)),succ_mul',take_add hx]
theorem flat_drop {α:Type} {s:Nat}:∀ {xs:List (List α)} (n:Nat),(∀ x ∈ xs,x.length=s)→(xs.drop n).flatten=xs.flatten.drop (n * s)
 | [],n,_=>by simp
 | x :: xs,0,_=>by simp
 | x :: xs,n + 1,h=>by
  have hx:=h x List.mem_cons_self
  rw [List.drop_succ_cons,List.flatten_cons,flat_drop n (fun z hz=>h z (List.mem_cons_of_mem _ hz)),succ_mul',drop_add hx]
theorem flat_set {α:Type} {s:Nat}:∀ {xs:List (List α)} {i:Nat} {x y:List α},(∀ x ∈ xs,x.length=s)→xs[i]? = some x→y.length=s→(xs.set i y).flatten=spl xs.flatten (i * s) y
 | x :: xs,0,_,y,h,hi,hy=>by
  simp at hi
  subst hi
  have hx:=h x List.mem_cons_self
  simp only [List.set_cons_zero,List.flatten_cons,Nat.zero_mul,spl,List.take_zero,List.nil_append,Nat.zero_add,hy,List.drop_append,hx,Nat.sub_self,List.drop_zero]
  rw [List.drop_of_length_le (by omega),List.nil_append]
 | x :: xs,i + 1,z,y,h,hi,hy=>by
  simp at hi
  have hx:=h x List.mem_cons_self
  have ih:=flat_set (fun z hz=>h z (List.mem_cons_of_mem _ hz)) hi hy
  simp only [List.set_cons_succ,List.flatten_cons,ih,spl,succ_mul',take_add hx,hy]
  rw [show s + i * s + s=s + (i * s + s) by omega,drop_add hx]
  simp only [List.append_assoc]
theorem set_all {α:Type} {s:Nat} {xs:List (List α)} {i:Nat} {y:List α} (h:∀ x ∈ xs,x.length=s) (hy:y.length=s):∀ x ∈ xs.set i y,x.length=s:=by
 intro x hx
 rcases List.mem_or_eq_of_mem_set hx with h' | h'
 ·exact h x h'
 ·rw [h']; exact hy
theorem flat_spl {α:Type} {s:Nat} {xs:List (List α)} {i j:Nat} {x ys:List α} (h:∀ x ∈ xs,x.length=s) (hi:xs[i]? = some x) (hj:j + ys.length≤x.length) :
  (xs.set i (spl x j ys)).flatten=spl xs.flatten (i * s + j) ys∧i * s + j + ys.length≤xs.flatten.length:=by
 have hx:=h x (List.mem_of_getElem? hi)
 have hlt:i < xs.length:=(List.getElem?_eq_some_iff.1 hi).1
 have hle:i * s + s≤xs.flatten.length:=by
  rw [flat_len h]
  have:=Nat.mul_le_mul_right s (Nat.succ_le_of_lt hlt)
  rw [Nat.succ_mul] at this
  exact this
 refine ⟨?_,by omega⟩
 rw [flat_set h hi (by rw [spl_len hj,hx])]
 apply List.ext_getElem?
 intro k
 rw [spl_get (l:=xs.flatten) (ys:=spl x j ys) (by rw [spl_len hj]; omega),spl_get (l:=xs.flatten) (ys:=ys) (by omega),spl_len hj,hx]
 by_cases h1:i * s≤k∧k < i * s + s
 ·rw [if_pos h1,spl_get hj]
  by_cases h2:j≤k - i * s∧k - i * s < j + ys.length
  ·rw [if_pos h2,if_pos (by omega)]
   congr 1
   omega
  ·rw [if_neg h2,if_neg (by omega)]
   have hk:k - i * s < x.length:=by omega
   have:=flat_get h hi (List.getElem?_eq_getElem hk)
   rw [show i * s + (k - i * s)=k by omega] at this
   rw [this,List.getElem?_eq_getElem hk]
 ·rw [if_neg h1,if_neg (by omega)]
inductive Rep (w:World) (I:Nat→Prop):TV→Value→Prop
 | lit (v:Value):Rep w I (.lit v) v
 | hole (v:Value):Rep w I .hole v
 | buf {s:ByteArray} (e:TypeId) (h:s.size=0):Rep w I (.buf s e) nilV
 | sl {size : Nat} {xs : List (List TV)} {a : Addr} {cap : Nat} (cell : Nat → Value) (hI : 0 < xs.length → I a.block) (hc : xs.length ≤ cap) (hm : cap ≤ maxLen)
   (hl:∀ x ∈ xs,x.length=size) (hcell:∀ k,k < xs.length * size→w.cell? (a.add k)=some (cell k)) (h1:∀ k,k < xs.length * size→(cell k).oneCell'=true)
   (hr:∀ (i:Nat) (x:List TV),xs[i]? = some x→∀ (j:Nat) (c:TV),x[j]? = some c→Rep w I c (cell (i * size + j))):Rep w I (.sl false size xs) (.slice (some a) xs.length cap)
 | agg {cs : List TV} {vs : Array Value} (hl : vs.size = cs.length) (h1 : ∀ j, j < vs.size → (vs.getD j undef).oneCell' = true)
   (hr:∀ (j:Nat) (c:TV),cs[j]? = some c→Rep w I c (vs.getD j undef)):Rep w I (.agg cs) (.agg vs)
 | tup {cs:List TV} {vs:Array Value} (hl:vs.size=cs.length) (hr:∀ (j:Nat) (c:TV),cs[j]? = some c→Rep w I c (vs.getD j undef)):Rep w I (.tup cs) (.tuple vs)
theorem Rep.mv {w w':World} {I I':Nat→Prop} (hh:∀ b,I b→w'.heap[b]? = w.heap[b]?) (hI:∀ b,I b→I' b) {x:TV} {v:Value} (h:Rep w I x v):Rep w' I' x v:=by
 induction h with
 | lit v=>exact .lit v
 | hole v=>exact .hole v
 | buf e h=>exact .buf e h
 | sl cell i c m l hcell h1 _ ih =>
  exact .sl cell (fun h=>hI _ (i h)) c m l (fun k hk=>by rw [← hcell k hk]; exact World.cell?_of_block (by rw [add_block]; exact hh _ (i (Nat.pos_of_ne_zero (fun e=>by simp [e] at hk))))) h1 ih
 | agg hl h1 _ ih=>exact .agg hl h1 ih
 | tup hl _ ih=>exact .tup hl ih
structure Row (w:World) (a:Addr) (n cap size:Nat) (us:List Value) (vs:Array Value) (ty:TypeId):Prop where
 heap:w.heap[a.block]? = some (.cells vs ty (0,0))
 spot:a.spot=none
 le:n≤cap
 max:cap≤maxLen
 fit:a.off + cap * size≤vs.size
 len:us.length=n * size
 cells:∀ k,k < n * size→vs[a.off + k]? = us[k]?
 one:∀ u ∈ us,u.oneCell'=true
theorem Row.cell {w:World} {a:Addr} {n cap size:Nat} {us:List Value} {vs:Array Value} {ty:TypeId} (h:Row w a n cap size us vs ty) {k:Nat} {u:Value} (hk:us[k]? = some u):w.cell? (a.add k)=some u:=by
 have hlt:k < n * size:=by rw [← h.len]; exact (List.getElem?_eq_some_iff.1 hk).1
 have:a.add k=⟨a.block,a.off + k,none⟩:=by
  have:=h.spot
  obtain ⟨b,o,sp⟩:=a
  simp at this
  subst this
  exact add_lit b o k
 rw [this]
 simp only [World.cell?,h.heap]
 simp only [Option.isSome_none,Bool.false_eq_true,if_false]
 rw [h.cells k hlt,hk]
inductive RepO (w:World) (I:Nat→Prop):TV→Value→(Nat→Prop)→Prop
 | fr {x:TV} {v:Value} {S:Nat→Prop} (h:Rep w I x v):RepO w I x v S
 | sl {size : Nat} {xs : List (List TV)} {a : Addr} {cap : Nat} {S : Nat → Prop} (us : List Value) (vs : Array Value) (ty : TypeId) (F : Nat → Nat → Prop) (hS : S a.block)
   (row:Row w a xs.length cap size us vs ty) (hl:∀ x ∈ xs,x.length=size) (hr:∀ (k:Nat) (c:TV),xs.flatten[k]? = some c→RepO w I c (us.getD k undef) (F k))
   (hF:∀ k b,F k b→S b∧b≠a.block) (hd:∀ k k' b,F k b→F k' b→k=k'):RepO w I (.sl true size xs) (.slice (some a) xs.length cap) S
 | agg {cs : List TV} {vs : Array Value} {S : Nat → Prop} (F : Nat → Nat → Prop) (hl : vs.size = cs.length) (h1 : ∀ j, j < vs.size → (vs.getD j undef).oneCell' = true)
   (hr:∀ (j:Nat) (c:TV),cs[j]? = some c→RepO w I c (vs.getD j undef) (F j)) (hF:∀ j b,F j b→S b) (hd:∀ k k' b,F k b→F k' b→k=k'):RepO w I (.agg cs) (.agg vs) S
 | buf {s:ByteArray} {e:TypeId} {v:Value} {S:Nat→Prop} (h:w.ownsRowF 0 e 1 v s.size (Lib.strCells s)) (hS:∀ b,v.ownBlock=some b→S b):RepO w I (.buf s e) v S
 | tup {cs : List TV} {vs : Array Value} {S : Nat → Prop} (F : Nat → Nat → Prop) (hl : vs.size = cs.length)
   (hr:∀ (j:Nat) (c:TV),cs[j]? = some c→RepO w I c (vs.getD j undef) (F j)) (hF:∀ j b,F j b→S b) (hd:∀ k k' b,F k b→F k' b→k=k'):RepO w I (.tup cs) (.tuple vs) S
theorem _root_.Go.World.ownsRowF.moved {w w':World} {base:Nat} {e:TypeId} {size:Nat} {v:Value} {n:Nat} {xs:List Value} (h:w.ownsRowF base e size v n xs) (hh:∀ b,v.ownBlock=some b→w'.heap[b]? = w.heap[b]?):w'.ownsRowF base e size v n xs:=by
 refine ⟨h.1,?_⟩
 rcases h.2 with hn | ⟨g,cap,cur,fz,rfl,hb,hgg,rest⟩
 ·exact .inl hn
 ·exact .inr ⟨g,cap,cur,fz,rfl,hb,by rw [hh g rfl]; exact hgg,rest⟩
theorem RepO.mv {w w':World} {I I':Nat→Prop} (hI:∀ b,I b→w'.heap[b]? = w.heap[b]?) (hs:∀ b,I b→I' b) {x:TV} {v:Value} {S:Nat→Prop} (h:RepO w I x v S) :
  ∀ {S':Nat→Prop},(∀ b,S b→w'.heap[b]? = w.heap[b]?)→(∀ b,S b→S' b)→RepO w' I' x v S':=by
 induction h with
 | fr h=>intro S' _ _; exact .fr (h.mv hI hs)
 | @sl size xs a cap S us vs ty F hS row hl hr hF hd ih =>
  intro S' hh hSS
  exact .sl us vs ty F (hSS _ hS) ⟨by rw [hh _ hS]; exact row.heap,row.spot,row.le,row.max,row.fit,row.len,row.cells,row.one⟩ hl (fun k c hk=>ih k c hk (fun b hb=>hh b (hF k b hb).1) (fun b hb=>hb))
   (fun k b hb=>⟨hSS b (hF k b hb).1,(hF k b hb).2⟩) hd
 | @buf s e v S h hS =>
  intro S' hh hSS
  exact .buf (h.moved (fun b hb=>hh b (hS b hb))) (fun b hb=>hSS b (hS b hb))
 | @agg cs vs S F hl h1 hr hF hd ih =>
  intro S' hh hSS
  exact .agg F hl h1 (fun k c hk=>ih k c hk (fun b hb=>hh b (hF k b hb)) (fun b hb=>hb)) (fun k b hb=>hSS b (hF k b hb)) hd
 | @tup cs vs S F hl hr hF hd ih =>
  intro S' hh hSS
  exact .tup F hl (fun k c hk=>ih k c hk (fun b hb=>hh b (hF k b hb)) (fun b hb=>hb)) (fun k b hb=>hSS b (hF k b hb)) hd
theorem RepO.mono {w:World} {I:Nat→Prop} {x:TV} {v:Value} {S S':Nat→Prop} (h:RepO w I x v S) (hS:∀ b,S b→S' b):RepO w I x v S' :=
 h.mv (fun _ _=>rfl) (fun _ h=>h) (fun _ _=>rfl) hS
theorem rep_lit {w:World} {I:Nat→Prop} {v u:Value} (h:Rep w I (.lit v) u):u=v:=by cases h; rfl
theorem repO_lit {w:World} {I:Nat→Prop} {v u:Value} {S:Nat→Prop} (h:RepO w I (.lit v) u S):u=v:=by cases h with | fr h=>exact rep_lit h
theorem repO_frz {w:World} {I:Nat→Prop} {s:Nat} {xs:List (List TV)} {u:Value} {S:Nat→Prop} (h:RepO w I (.sl false s xs) u S):Rep w I (.sl false s xs) u:=by cases h with | fr h=>exact h
theorem repO_sl {w:World} {I:Nat→Prop} {o:Bool} {s:Nat} {xs:List (List TV)} {u:Value} {S:Nat→Prop} (h:RepO w I (.sl o s xs) u S):∃ a cap,u=.slice (some a) xs.length cap:=by
 cases h with
 | fr h=>cases h; exact ⟨_,_,rfl⟩
 | sl=>exact ⟨_,_,rfl⟩
theorem repO_isSl {w:World} {I:Nat→Prop} {x:TV} {u:Value} {S:Nat→Prop} (h:RepO w I x u S) (hx:x.isSl=true):∃ a n cap,u=.slice a n cap:=by
 cases x with
 | lit v =>
  have:=repO_lit h
  subst this
  cases u <;> simp [TV.isSl,isSlV] at hx ⊢
 | sl o s xs=>obtain ⟨a,cap,rfl⟩:=repO_sl h; exact ⟨_,_,_,rfl⟩
 | _=>simp [TV.isSl] at hx
theorem scV_one {v:Value} (h:scV v=true):v.oneCell'=true:=by cases v <;> first | rfl | simp [scV] at h
theorem repO_isSc {w:World} {I:Nat→Prop} {x:TV} {u:Value} {S:Nat→Prop} (h:RepO w I x u S) (hx:x.isSc=true):x=.lit u∧scV u=true:=by
 cases x with
 | lit v =>
  have:=repO_lit h
  subst this
  exact ⟨rfl,hx⟩
 | _=>simp [TV.isSc] at hx
theorem repO_lf {w:World} {I:Nat→Prop} {x:TV} {u:Value} {S:Nat→Prop} (h:RepO w I x u S):Rep w I x.lf u:=by
 cases x with
 | lit v=>have:=repO_lit h; subst this; exact .lit _
 | _=>exact .hole _
theorem frzL_eq:∀ l:List TV,frzL l=l.map frz
 | []=>rfl
 | x :: l=>by simp [frzL,frzL_eq l]
theorem frzLL_eq:∀ l:List (List TV),frzLL l=l.map fun x=>x.map frz
 | []=>rfl
 | x :: l=>by simp [frzLL,frzLL_eq l,frzL_eq]
theorem lfL_eq:∀ l:List TV,lfL l=l.map TV.lf
 | []=>rfl
 | x :: l=>by simp [lfL,lfL_eq l]
theorem lfLL_eq:∀ l:List (List TV),lfLL l=l.map fun x=>x.map TV.lf
 | []=>rfl
 | x :: l=>by simp [lfLL,lfLL_eq l,lfL_eq]
theorem Rep.frz {w:World} {I:Nat→Prop} {x:TV} {v:Value} (h:Rep w I x v):Rep w I (frz x) v:=by
 induction h with
 | lit v=>exact .lit v
 | hole v=>exact .hole v
 | buf e h=>exact .hole _
 | @sl size xs a cap cell hI hc hm hl hcell h1 _ ih =>
  simp only [Ab.frz,frzLL_eq]
  have hlen:(xs.map fun x=>x.map Ab.frz).length=xs.length:=by simp
  have key:Rep w I (.sl false size (xs.map fun x=>x.map Ab.frz)) (.slice (some a) (xs.map fun x=>x.map Ab.frz).length cap):=by
   refine .sl cell (by rw [hlen]; exact hI) (by rw [hlen]; exact hc) hm (fun x hx=>?_) (by rw [hlen]; exact hcell) (by rw [hlen]; exact h1) (fun i y hy j c hj=>?_)
   ·obtain ⟨y,hy,rfl⟩:=List.mem_map.1 hx
    simpa using hl y hy
   ·rw [List.getElem?_map] at hy
    cases hxi:xs[i]? with
    | none=>simp [hxi] at hy
    | some x =>
     simp only [hxi,Option.map_some,Option.some.injEq] at hy
     subst hy
     rw [List.getElem?_map] at hj
     cases hxj:x[j]? with
     | none=>simp [hxj] at hj
     | some c' =>
      simp only [hxj,Option.map_some,Option.some.injEq] at hj
      subst hj
      exact ih i x hxi j c' hxj
  rwa [hlen] at key
 | @agg cs vs hl h1 _ ih =>
  simp only [Ab.frz,frzL_eq]
  refine .agg (by simpa using hl) h1 (fun j c hj=>?_)
  rw [List.getElem?_map] at hj
  cases hxj:cs[j]? with
  | none=>simp [hxj] at hj
  | some c'=>simp only [hxj,Option.map_some,Option.some.injEq] at hj; subst hj; exact ih j c' hxj
 | @tup cs vs hl _ ih =>
  simp only [Ab.frz,frzL_eq]
  refine .tup (by simpa using hl) (fun j c hj=>?_)
  rw [List.getElem?_map] at hj
  cases hxj:cs[j]? with
  | none=>simp [hxj] at hj
  | some c'=>simp only [hxj,Option.map_some,Option.some.injEq] at hj; subst hj; exact ih j c' hxj
theorem RepO.frz {w:World} {I I':Nat→Prop} (hI:∀ b,I b→I' b) {x:TV} {v:Value} {S:Nat→Prop} (h:RepO w I x v S):(∀ b,S b→I' b)→Rep w I' (frz x) v:=by
 induction h with
 | fr h=>intro _; exact (h.mv (fun _ _=>rfl) hI).frz
 | buf _ _=>intro _; exact .hole _
 | @sl size xs a cap S us vs ty F hS row hl hr hF hd ih =>
  intro hSI
  simp only [Ab.frz,frzLL_eq]
  have hlen:(xs.map fun x=>x.map Ab.frz).length=xs.length:=by simp
  have key:Rep w I' (.sl false size (xs.map fun x=>x.map Ab.frz)) (.slice (some a) (xs.map fun x=>x.map Ab.frz).length cap):=by
   refine .sl (fun k=>us.getD k undef) (fun _=>hSI _ hS) (by rw [hlen]; exact row.le) row.max (fun x hx=>?_) (fun k hk=>?_) (fun k hk=>?_) (fun i y hy j c hj=>?_)
   ·obtain ⟨y,hy,rfl⟩:=List.mem_map.1 hx
    simpa using hl y hy
   ·rw [hlen] at hk
    have:k < us.length:=by rw [row.len]; exact hk
    exact row.cell (by simp [List.getElem?_eq_getElem this])
   ·rw [hlen] at hk
    have:k < us.length:=by rw [row.len]; exact hk
    simp only [List.getD_eq_getElem?_getD,List.getElem?_eq_getElem this,Option.getD_some]
    exact row.one _ (List.getElem_mem this)
   ·rw [List.getElem?_map] at hy
    cases hxi:xs[i]? with
    | none=>simp [hxi] at hy
    | some x =>
     simp only [hxi,Option.map_some,Option.some.injEq] at hy
     subst hy
     rw [List.getElem?_map] at hj
     cases hxj:x[j]? with
     | none=>simp [hxj] at hj
     | some c' =>
      simp only [hxj,Option.map_some,Option.some.injEq] at hj
      subst hj
      exact ih _ c' (flat_get hl hxi hxj) (fun b hb=>hSI b (hF _ b hb).1)
  rwa [hlen] at key
 | @agg cs vs S F hl h1 hr hF hd ih =>
  intro hSI
  simp only [Ab.frz,frzL_eq]
  refine .agg (by simpa using hl) h1 (fun j c hj=>?_)
  rw [List.getElem?_map] at hj
  cases hxj:cs[j]? with
  | none=>simp [hxj] at hj
  | some c'=>simp only [hxj,Option.map_some,Option.some.injEq] at hj; subst hj; exact ih j c' hxj (fun b hb=>hSI b (hF j b hb))
 | @tup cs vs S F hl hr hF hd ih =>
  intro hSI
  simp only [Ab.frz,frzL_eq]
  refine .tup (by simpa using hl) (fun j c hj=>?_)
  rw [List.getElem?_map] at hj
  cases hxj:cs[j]? with
  | none=>simp [hxj] at hj
  | some c'=>simp only [hxj,Option.map_some,Option.some.injEq] at hj; subst hj; exact ih j c' hxj (fun b hb=>hSI b (hF j b hb))
theorem isOwnL_mem:∀ {l:List TV},isOwnL l=true→∀ x ∈ l,isOwn x=true
 | [],_,x,hx=>by simp at hx
 | y :: l,h,x,hx=>by
  simp only [isOwnL,Bool.and_eq_true] at h
  rcases List.mem_cons.1 hx with rfl | hx
  ·exact h.1
  ·exact isOwnL_mem h.2 x hx
theorem isOwnLL_mem:∀ {l:List (List TV)},isOwnLL l=true→∀ x ∈ l,isOwnL x=true
 | [],_,x,hx=>by simp at hx
 | y :: l,h,x,hx=>by
  simp only [isOwnLL,Bool.and_eq_true] at h
  rcases List.mem_cons.1 hx with rfl | hx
  ·exact h.1
  ·exact isOwnLL_mem h.2 x hx
theorem Rep.own {w:World} {I I':Nat→Prop} {x:TV} {v:Value} (h:Rep w I x v):isOwn x=true→Rep w I' x v:=by
 induction h with
 | lit v=>intro _; exact .lit v
 | hole v=>intro _; exact .hole v
 | buf e h=>intro _; exact .buf e h
 | sl=>intro h; simp [isOwn] at h
 | @agg cs vs hl h1 _ ih=>intro h; simp only [isOwn] at h; exact .agg hl h1 (fun j c hj=>ih j c hj (isOwnL_mem h c (List.mem_of_getElem? hj)))
 | @tup cs vs hl _ ih=>intro h; simp only [isOwn] at h; exact .tup hl (fun j c hj=>ih j c hj (isOwnL_mem h c (List.mem_of_getElem? hj)))
theorem RepO.own {w:World} {I I':Nat→Prop} {x:TV} {v:Value} {S:Nat→Prop} (h:RepO w I x v S):isOwn x=true→RepO w I' x v S:=by
 induction h with
 | fr h=>intro ho; exact .fr (h.own ho)
 | buf h hS=>intro _; exact .buf h hS
 | @sl size xs a cap S us vs ty F hS row hl hr hF hd ih =>
  intro ho
  simp only [isOwn,Bool.true_and] at ho
  refine .sl us vs ty F hS row hl (fun k c hk=>ih k c hk ?_) hF hd
  obtain ⟨x,hx,hc⟩:=List.mem_flatten.1 (List.mem_of_getElem? hk)
  exact isOwnL_mem (isOwnLL_mem ho x hx) c hc
 | @agg cs vs S F hl h1 hr hF hd ih=>intro ho; simp only [isOwn] at ho; exact .agg F hl h1 (fun j c hj=>ih j c hj (isOwnL_mem ho c (List.mem_of_getElem? hj))) hF hd
 | @tup cs vs S F hl hr hF hd ih=>intro ho; simp only [isOwn] at ho; exact .tup F hl (fun j c hj=>ih j c hj (isOwnL_mem ho c (List.mem_of_getElem? hj))) hF hd
end Go.Ab
end
section
namespace Go.Ab
open Go.RowKit
set_option linter.unusedVariables false
def TV.nd (x:TV):Option (Nat × Nat):=match x with | .sl _ s xs=>some (s,xs.length) | _=>none
def Node (w:World):Way→TV→Value→Value→Option (Nat × Nat)→Prop
 | [],x,u,v,nd=>v=u∧nd=x.nd
 | (k,j) :: p,x,u,v,nd=>∃ o s xs a n cap e y u',x=.sl o s xs∧u=.slice (some a) n cap∧xs[k]? = some e∧e[j]? = some y∧w.cell? (a.add (k * s + j))=some u'∧Node w p y u' v nd
section
variable {w w':World} {I I':Nat→Prop} {x y:TV} {u v:Value} {S:Nat→Prop}
theorem getD_some {l:List Value} {k:Nat} {u:Value} (h:l[k]? = some u):l.getD k undef=u:=by simp [h]
theorem RepO.child {o:Bool} {s:Nat} {xs:List (List TV)} (h:RepO w I (.sl o s xs) u S) {k j:Nat} {e:List TV} {y:TV} (hk:xs[k]? = some e) (hj:e[j]? = some y) :
  ∃ a cap u' S',u=.slice (some a) xs.length cap∧w.cell? (a.add (k * s + j))=some u'∧u'.oneCell'=true∧RepO w I y u' S'∧(∀ b,S' b→S b)∧(S a.block∨I a.block)∧e.length=s:=by
 have hlt:k < xs.length:=(List.getElem?_eq_some_iff.1 hk).1
 cases h with
 | fr h =>
  cases h with
  | @sl _ _ a cap cell hI hc hm hl hcell h1 hr =>
   have hel:=hl e (List.mem_of_getElem? hk)
   have hf:k * s + j < xs.length * s:=by
    have hj':=(List.getElem?_eq_some_iff.1 hj).1
    have:=Nat.mul_le_mul_right s (Nat.succ_le_of_lt hlt)
    rw [Nat.succ_mul] at this
    omega
   exact ⟨a,cap,_,fun _=>False,rfl,hcell _ hf,h1 _ hf,.fr (hr k e hk j y hj),fun _ h=>h.elim,.inr (hI (by omega)),hel⟩
 | @sl _ _ a cap S us vs ty F hS row hl hr hF hd =>
  have hel:=hl e (List.mem_of_getElem? hk)
  have hfg:=flat_get hl hk hj
  have hlt2:k * s + j < us.length:=by
   rw [row.len,← flat_len hl]
   exact (List.getElem?_eq_some_iff.1 hfg).1
  have hu:=List.getElem?_eq_getElem hlt2
  refine ⟨a,cap,us[k * s + j],F (k * s + j),rfl,row.cell hu,row.one _ (List.getElem_mem hlt2),?_,fun b hb=>(hF _ b hb).1,.inl hS,hel⟩
  have:=hr _ _ hfg
  rwa [getD_some hu] at this
theorem Node.mv:∀ {p:Way} {x:TV} {u v:Value} {nd:Option (Nat × Nat)} {S:Nat→Prop},RepO w I x u S→(∀ b,I b→w'.heap[b]? = w.heap[b]?)→(∀ b,S b→w'.heap[b]? = w.heap[b]?)→Node w p x u v nd→Node w' p x u v nd
 | [],x,u,v,nd,S,_,_,_,h=>h
 | (k,j) :: p,x,u,v,nd,S,hr,hI,hS,⟨o,s,xs,a,n,cap,e,y,u',hx,hu,he,hy,hc,h⟩=>by
  subst hx
  obtain ⟨a',cap',u2,S',h1,h2,h3,h4,h5,h6,h7⟩:=hr.child he hy
  rw [hu] at h1
  cases h1
  rw [hc] at h2
  cases h2
  refine ⟨o,s,xs,a,_,_,e,y,u',rfl,hu,he,hy,?_,Node.mv h4 hI (fun b hb=>hS b (h5 b hb)) h⟩
  rw [← hc]
  refine World.cell?_of_block ?_
  rw [add_block]
  rcases h6 with h6 | h6
  ·exact hS _ h6
  ·exact hI _ h6
theorem RepO.get:∀ {p:Way} {x y:TV} {u:Value} {S:Nat→Prop},RepO w I x u S→getP p x=some y→∃ v S',Node w p x u v y.nd∧RepO w I y v S'∧(∀ b,S' b→S b)∧(p≠[]→v.oneCell'=true)
 | [],x,y,u,S,hr,h=>by
  simp only [getP,Option.some.injEq] at h
  subst h
  exact ⟨u,S,⟨rfl,rfl⟩,hr,fun _ h=>h,fun h=>absurd rfl h⟩
 | (k, j) :: p, x, y, u, S, hr, h => by
  cases x with
  | sl o s xs =>
   simp only [getP] at h
   cases he:xs[k]? with
   | none=>simp [he] at h
   | some e =>
    simp only [he] at h
    cases hz:e[j]? with
    | none=>simp [hz] at h
    | some z =>
     simp only [hz] at h
     obtain ⟨a,cap,u',S1,h1,h2,h3,h4,h5,h6,h7⟩:=hr.child he hz
     obtain ⟨v,S2,n1,n2,n3,n4⟩:=RepO.get h4 h
     refine ⟨v,S2,⟨o,s,xs,a,_,cap,e,z,u',rfl,h1,he,hz,h2,n1⟩,n2,fun b hb=>h5 b (n3 b hb),fun _=>?_⟩
     cases p with
     | nil=>rw [n1.1]; exact h3
     | cons=>exact n4 (by simp)
  | _=>simp [getP] at h
theorem Node.unique:∀ {p:Way} {x:TV} {u v v':Value} {nd nd':Option (Nat × Nat)},Node w p x u v nd→Node w p x u v' nd'→v=v'∧nd=nd'
 | [],x,u,v,v',nd,nd',h,h'=>⟨h.1.trans h'.1.symm,h.2.trans h'.2.symm⟩
 | (k,j) :: p,x,u,v,v',nd,nd',⟨o,s,xs,a,n,cap,e,y,u',hx,hu,he,hy,hc,h⟩,⟨o2,s2,xs2,a2,n2,cap2,e2,y2,u2,hx2,hu2,he2,hy2,hc2,h2⟩=>by
  subst hx
  cases hx2
  subst hu
  cases hu2
  rw [he] at he2
  cases he2
  rw [hy] at hy2
  cases hy2
  rw [hc] at hc2
  cases hc2
  exact Node.unique h h2
theorem RepO.sub : ∀ {p : Way} {x y : TV} {u : Value} {S : Nat → Prop}, RepO w I x u S → getP p x = some y →
  ∃ v Sy, RepO w I y v Sy ∧ (∀ b, Sy b → S b) ∧ Node w p x u v y.nd ∧ (p ≠ [] → v.oneCell' = true) ∧
   ∀ (w':World) (I':Nat→Prop) (y' x':TV) (S':Nat→Prop),setP p x y'=some x'→(∀ b,I b→w'.heap[b]? = w.heap[b]?)→(∀ b,I b→I' b)→(∀ b,S b→¬ Sy b→w'.heap[b]? = w.heap[b]?) →
    RepO w' I' y' v S'→(∀ b,S' b→S b→Sy b)→RepO w' I' x' u (fun b=>(S b∧¬ Sy b)∨S' b) ∧
    ∀ (q:Way) (v':Value) (nd:Option (Nat × Nat)),(∀ q',q=p ++ q'→Node w q' y v v' nd→Node w' q' y' v v' nd)→Node w q x u v' nd→Node w' q x' u v' nd
 | [],x,y,u,S,hr,h=>by
  simp only [Ab.getP,Option.some.injEq] at h
  subst h
  refine ⟨u,S,hr,fun _ h=>h,⟨rfl,rfl⟩,fun h=>absurd rfl h,?_⟩
  intro w' I' y' x' S' hs hI hII hh hr' hd
  simp only [setP,Option.some.injEq] at hs
  subst hs
  exact ⟨hr'.mono (fun b hb=>.inr hb),fun q v' nd hq hn=>hq q rfl hn⟩
 | (k, j) :: p, x, y, u, S, hr, h => by
  cases x with
  | sl o s xs =>
   simp only [Ab.getP] at h
   cases he:xs[k]? with
   | none=>simp [he] at h
   | some e =>
    simp only [he] at h
    cases hz:e[j]? with
    | none=>simp [hz] at h
    | some z =>
     simp only [hz] at h
     cases o with
     | false =>
      obtain ⟨v,S',n1,n2,n3,n4⟩:=RepO.get (p:=(k,j) :: p) (y:=y) hr (by simp only [Ab.getP,he,hz,h])
      refine ⟨v,S',n2,n3,n1,n4,?_⟩
      intro w' I' y' x' S2 hs
      simp [setP] at hs
     | true =>
      cases hr with
      | fr h=>cases h
      | @sl _ _ a cap S us vs ty F hS row hl hr hF hd =>
       have hel:=hl e (List.mem_of_getElem? he)
       have hjl:j < e.length:=(List.getElem?_eq_some_iff.1 hz).1
       have hfg:=flat_get hl he hz
       have hlt2:k * s + j < us.length:=by
        rw [row.len,← flat_len hl]
        exact (List.getElem?_eq_some_iff.1 hfg).1
       have hu:=List.getElem?_eq_getElem hlt2
       have hrz:=hr _ _ hfg
       rw [getD_some hu] at hrz
       obtain ⟨v,Sy,m1,m2,m3,m4,m5⟩:=RepO.sub hrz h
       have hSyF:∀ b,Sy b→F (k * s + j) b:=m2
       refine ⟨v,Sy,m1,fun b hb=>(hF _ b (m2 b hb)).1,⟨true,s,xs,a,_,cap,e,z,us[k * s + j],rfl,rfl,he,hz,row.cell hu,m3⟩,fun _=>?_,?_⟩
       ·cases p with
        | nil=>rw [m3.1]; exact row.one _ (List.getElem_mem hlt2)
        | cons=>exact m4 (by simp)
       intro w' I' y' x' S' hs hI hII hh hr' hdis
       simp only [setP,he,hz] at hs
       cases hz':setP p z y' with
       | none=>simp [hz'] at hs
       | some z' =>
        simp only [hz',Option.some.injEq,setNth_eq] at hs
        subst hs
        have hablk:¬ Sy a.block:=fun hb=>(hF _ _ (m2 _ hb)).2 rfl
        obtain ⟨r1,r2⟩:=m5 w' I' y' z' S' hz' hI hII (fun b hb hn=>hh b (hF _ b hb).1 hn) hr' (fun b hb hb2=>hdis b hb (hF _ b hb2).1)
        have hset:e.set j z'=spl e j [z']:=by
         apply List.ext_getElem?
         intro m
         rw [spl_get (by simp; omega),List.getElem?_set]
         by_cases hjm:j=m
         ·subst hjm; simp [hjl]
         ·rw [if_neg hjm,if_neg (by simp; omega)]
        obtain ⟨f1,f2⟩:=flat_spl (ys:=[z']) hl he (by simp; omega:j + [z'].length≤e.length)
        have hlen:(xs.set k (e.set j z')).length=xs.length:=by simp
        have hrow:Row w' a (xs.set k (e.set j z')).length cap s us vs ty:=by
         rw [hlen]
         exact ⟨by rw [hh _ hS hablk]; exact row.heap,row.spot,row.le,row.max,row.fit,row.len,row.cells,row.one⟩
        have hother:∀ m c,m≠k * s + j→xs.flatten[m]? = some c→RepO w' I' c (us.getD m undef) (F m):=fun m c hm hc =>
         (hr m c hc).mv hI hII (fun b hb=>hh b (hF m b hb).1 (fun hs=>hm (hd m _ b hb (m2 b hs)))) (fun _ h=>h)
        constructor
        ·have key:RepO w' I' (.sl true s (xs.set k (e.set j z'))) (.slice (some a) (xs.set k (e.set j z')).length cap) (fun b=>(S b∧¬ Sy b)∨S' b):=by
          refine .sl us vs ty (fun m b=>if m=k * s + j then (F (k * s + j) b∧¬ Sy b)∨S' b else F m b) (.inl ⟨hS,hablk⟩) hrow (set_all hl (by simp [hel])) (fun m c hc=>?_) (fun m b hb=>?_) (fun m m' b hb hb'=>?_)
          ·rw [hset,f1,spl_get f2] at hc
           by_cases hm:m=k * s + j
           ·subst hm
            simp only [List.length_singleton,Nat.sub_self] at hc
            rw [if_pos (by omega)] at hc
            simp only [List.getElem?_cons_zero,Option.some.injEq] at hc
            subst hc
            simp only [if_true]
            rw [getD_some hu]
            exact r1
           ·rw [if_neg (by simp only [List.length_singleton]; omega)] at hc
            simp only [hm,if_false]
            exact hother m c hm hc
          ·by_cases hm:m=k * s + j
           ·subst hm
            simp only [if_true] at hb
            rcases hb with ⟨h1,h2⟩ | h1
            ·exact ⟨.inl ⟨(hF _ b h1).1,h2⟩,(hF _ b h1).2⟩
            ·exact ⟨.inr h1,fun e=>by subst e; exact hablk (hdis _ h1 hS)⟩
           ·simp only [hm,if_false] at hb
            exact ⟨.inl ⟨(hF _ b hb).1,fun hs=>hm (hd _ _ b hb (m2 b hs))⟩,(hF _ b hb).2⟩
          ·by_cases hm:m=k * s + j <;> by_cases hm':m'=k * s + j
           ·rw [hm,hm']
           ·simp only [hm,hm',if_true,if_false] at hb hb'
            rcases hb with ⟨h1,h2⟩ | h1
            ·exact hm ▸ hd _ _ b h1 hb'
            ·exact hm ▸ hd _ _ b (m2 b (hdis b h1 (hF _ b hb').1)) hb'
           ·simp only [hm,hm',if_true,if_false] at hb hb'
            rcases hb' with ⟨h1,h2⟩ | h1
            ·exact hm' ▸ hd _ _ b hb h1
            ·exact hm' ▸ hd _ _ b hb (m2 b (hdis b h1 (hF _ b hb).1))
           ·simp only [hm,hm',if_false] at hb hb'
            exact hd _ _ b hb hb'
         rwa [hlen] at key
        ·intro q v' nd hq hn
         cases q with
         | nil =>
          obtain ⟨e1,e2⟩:=hn
          exact ⟨e1,by rw [e2]; simp [TV.nd]⟩
         | cons kj q =>
          obtain ⟨k1,j1⟩:=kj
          obtain ⟨o2,s2,xs2,a2,n2,cap2,e2,y2,u2,hx2,hu2,he2,hy2,hc2,hn2⟩:=hn
          cases hx2
          cases hu2
          have hblk:∀ m,w'.cell? (a.add m)=w.cell? (a.add m):=fun m=>World.cell?_of_block (by rw [add_block]; exact hh _ hS hablk)
          by_cases hk1:k1=k
          ·subst hk1
           rw [he] at he2
           cases he2
           have hk2:k1 < xs.length:=(List.getElem?_eq_some_iff.1 he).1
           by_cases hj1:j1=j
           ·subst hj1
            rw [hz] at hy2
            cases hy2
            have:u2=us[k1 * s + j1]:=by rw [row.cell hu] at hc2; exact (Option.some.inj hc2).symm
            subst this
            refine ⟨true,s,_,a,_,cap,e.set j1 z',z',us[k1 * s + j1],rfl,rfl,by rw [List.getElem?_set_self hk2],by rw [List.getElem?_set_self hjl],by rw [hblk]; exact hc2,?_⟩
            exact r2 q v' nd (fun q' hq'=>hq q' (by rw [hq']; rfl)) hn2
           ·refine ⟨true,s,_,a,_,cap,e.set j z',y2,u2,rfl,rfl,by rw [List.getElem?_set_self hk2],by rw [List.getElem?_set_ne (fun h=>hj1 h.symm)]; exact hy2,by rw [hblk]; exact hc2,?_⟩
            have hfg2:=flat_get hl he hy2
            have hm:k1 * s + j1≠k1 * s + j:=by omega
            have hr2:=hr _ _ hfg2
            have hlt3:k1 * s + j1 < us.length:=by rw [row.len,← flat_len hl]; exact (List.getElem?_eq_some_iff.1 hfg2).1
            rw [getD_some (List.getElem?_eq_getElem hlt3)] at hr2
            have:u2=us[k1 * s + j1]:=by rw [row.cell (List.getElem?_eq_getElem hlt3)] at hc2; exact (Option.some.inj hc2).symm
            subst this
            exact Node.mv hr2 hI (fun b hb=>hh b (hF _ b hb).1 (fun hs=>hm (hd _ _ b hb (m2 b hs)))) hn2
          ·refine ⟨true,s,_,a,_,cap,e2,y2,u2,rfl,rfl,by rw [List.getElem?_set_ne (fun h=>hk1 h.symm)]; exact he2,hy2,by rw [hblk]; exact hc2,?_⟩
           have hfg2:=flat_get hl he2 hy2
           have hel2:=hl e2 (List.mem_of_getElem? he2)
           have hj2:j1 < e2.length:=(List.getElem?_eq_some_iff.1 hy2).1
           have hm:k1 * s + j1≠k * s + j:=by
            intro heq
            rcases Nat.lt_or_gt_of_ne hk1 with h' | h'
            ·have:=Nat.mul_le_mul_right s (Nat.succ_le_of_lt h')
             rw [Nat.succ_mul] at this
             omega
            ·have:=Nat.mul_le_mul_right s (Nat.succ_le_of_lt h')
             rw [Nat.succ_mul] at this
             omega
           have hr2:=hr _ _ hfg2
           have hlt3:k1 * s + j1 < us.length:=by rw [row.len,← flat_len hl]; exact (List.getElem?_eq_some_iff.1 hfg2).1
           rw [getD_some (List.getElem?_eq_getElem hlt3)] at hr2
           have:u2=us[k1 * s + j1]:=by rw [row.cell (List.getElem?_eq_getElem hlt3)] at hc2; exact (Option.some.inj hc2).symm
           subst this
           exact Node.mv hr2 hI (fun b hb=>hh b (hF _ b hb).1 (fun hs=>hm (hd _ _ b hb (m2 b hs)))) hn2
  | _=>simp [Ab.getP] at h
end
end Go.Ab
end

import Derived.Test.YtfnpejmlcbkepaaDQ12F90
import Derived.Test.YtfnpejmlcbkepaaDM0
import Derived.Below
import Derived.Orders
import Derived.Laws.Cells
import Derived.Laws.OwnMore
import Derived.Laws.CopyOwn
import Derived.Maps.AppendAt
import Derived.Lib.FrozenHead
set_option linter.all false
section
set_option maxRecDepth 10000
namespace Go.Ab
def RBL (q:Option Bool) (e:List TV) (l:List Bool):Prop:=∃ v,e=[v]∧RBools q v l
noncomputable def sX (bs:List DBlock):List (List Bool):=(List.range bs.length).map fun a:Nat=>rG bs (a:Int)
theorem lL (bs:List DBlock):(sX bs).length=bs.length:=by simp [sX]
theorem qX {bs:List DBlock} {a:Nat} (h:a < bs.length):(sX bs)[a]? = some (rG bs (a:Int)):=by simp [sX,h]
theorem mK {α:Type} (l:List α) {n:Nat} (h:l.length=n):l.take n=l:=by rw [← h]; exact List.take_length
noncomputable def nF (bs:List DBlock) (b k:Nat):Int:=if 0≤ovN bs b∧ovN bs b < (k:Int) then ovN bs b else -1
theorem Az (bs:List DBlock) (b:Nat):nF bs b 0=-1:=by
 unfold nF
 rw [if_neg (by omega)]
theorem CK {bs:List DBlock} {b k:Nat} (h:Nx bs k b):nF bs b (k + 1)=(k:Int):=by
 unfold nF
 rw [rm h,if_pos (by omega)]
theorem vM {bs:List DBlock} {b k:Nat} (h:¬ Nx bs k b):nF bs b (k + 1)=nF bs b k:=by
 have hne:ovN bs b≠(k:Int):=fun e=>by
  rcases pn bs b with ⟨_,_,a,ha,h1⟩ | ⟨_,h1⟩
  ·rw [h1] at e
   have:a=k:=by omega
   subst this
   exact h ha
  ·omega
 unfold nF
 by_cases h2:0≤ovN bs b∧ovN bs b < (k:Int)
 ·rw [if_pos h2,if_pos (by omega)]
 ·rw [if_neg h2,if_neg (by omega)]
theorem xA (bs:List DBlock) (b:Nat):nF bs b bs.length=ovN bs b:=by
 unfold nF
 rcases pn bs b with ⟨_,_,a,ha,h1⟩ | ⟨_,h1⟩
 ·have:=ha.2.1.up.lt
  rw [h1,if_pos (by omega)]
 ·rw [h1,if_neg (by omega)]
theorem CX {bs:List DBlock} (hs:bs.length≤1000) (b k:Nat):inI (nF bs b k):=by
 unfold nF
 rcases pn bs b with ⟨_,_,a,ha,h1⟩ | ⟨_,h1⟩
 ·have:=ha.2.1.up.lt
  split
  ·rw [h1]; constructor <;> omega
  ·exact ⟨by decide,by decide⟩
 ·split
  ·rw [h1]; exact ⟨by decide,by decide⟩
  ·exact ⟨by decide,by decide⟩
def rU (bs:List DBlock) (a b k:Nat):Prop:=∀ c,c < k→c≠b→Dm bs c b→Dm bs c a
theorem CO {bs:List DBlock} {a b k:Nat} (h:k≠b∧Dm bs k b∧¬ Dm bs k a):¬ rU bs a b (k + 1):=fun hp=>h.2.2 (hp k (by omega) h.1 h.2.1)
theorem Ac {bs:List DBlock} {a b k:Nat} (h:¬ (k≠b∧Dm bs k b∧¬ Dm bs k a)):rU bs a b (k + 1) ↔ rU bs a b k:=by
 constructor
 ·exact fun hp c hc=>hp c (by omega)
 ·intro hp c hc h1 h2
  by_cases e:c=k
  ·subst e
   by_cases h3:Dm bs c a
   ·exact h3
   ·exact absurd ⟨h1,h2,h3⟩ h
  ·exact hp c (by omega) h1 h2
theorem uO {bs:List DBlock} {a b:Nat} (h1:a≠b) (h2:Dm bs a b):rU bs a b bs.length ↔ Nx bs a b :=
 ⟨fun h=>⟨h1,h2,fun c hc hd=>h c hd.up.lt hc hd⟩,fun h c _ hc hd=>h.2.2 c hc hd⟩
end Go.Ab
namespace Go.Ab.Q12
open Go Go.Ab Go.Proofs
theorem nD {F:FuncId} {bs:List DBlock} {w:TV} (kA:RL (some true) 1 (RBL (some true)) w (sX bs)) (hs:bs.length≤1000) {a b:Nat} (ha:a < bs.length) (hb:b < bs.length) {k:List TV→Prg TV} {r:TV} (h:aa prog F (k [B (tt (Dm bs a b))]) r) :
  aa prog F (Prg.nat (slLen w) fun n7=>Prg.nat (ag (I (a:Nat))) fun n8=>Prg.chk (Bool.and (slSize w 1) (Nat.blt n8 n7)) (Prg.tvs (pel w n8) fun e9=>Prg.chk (ab zSl e9 0) (Prg.tv (bu [(n8,0)] w) fun v10=>Prg.nat (slLen v10) fun n11=>Prg.nat (ag (I (b:Nat))) fun n12 =>
   Prg.chk (Bool.and (slSize v10 1) (Nat.blt n12 n11)) (Prg.tv (bu [(n8,0)] w) fun v13=>Prg.tvs (pel v13 n12) fun e14=>Prg.chk (ab aT e14 0) (k e14))))) r:=by
 obtain ⟨e1,he1,v,rfl,hv⟩:=kA.pel (qX ha)
 obtain ⟨e2,he2,hR⟩:=hv.pel (iH (n:=(a:Int)) hb)
 cases hR
 rw [cP (ia (bs:=bs) (n:=a) (b:=b))] at he2
 have hgp:=kA.deep he1 (j:=0) (z:=v) rfl
 refine aa.nat kA.slLen (aa.nat (ap (by omega)) (aa.chk ?_ (aa.tvs he1 (aa.chk (aK hv.isSl) (aa.tv hgp (aa.nat hv.slLen (aa.nat (ap (by omega)) (aa.chk ?_ (aa.tv hgp (aa.tvs he2 (aa.chk rfl h)))))))))))
 ·rw [kA.slSize,lL]; simp; omega
 ·rw [hv.slSize,fu]; simp; omega
theorem yK {q : Option Bool} {e : List TV} {f : DFunc} (he : RFunc q e f) (hs : f.blocks.length ≤ 1000) : ∃ y, aV prog 57 [.agg e] y ∧ RL (some true) 1 (RBL (some true)) y (sX f.blocks) := by
 obtain ⟨v0,M0,hv0,k0,F0⟩:=r84 he hs
 have he0:=he
 obtain ⟨b,rfl,hb,_⟩:=he
 have outer : ∀ (d a : Nat) (w : TV), a + d = f.blocks.length → RL (some true) 1 (RBL (some true)) w ((sX f.blocks).take a) → ∃ y, aa prog 57 (f57_0 (I a) (I f.params) (I f.regs) b v0 w) y ∧ RL (some true) 1 (RBL (some true)) y (sX f.blocks) := by
  intro d
  induction d with
  | zero =>
   intro a w ha hw
   have ha:a=f.blocks.length:=by omega
   subst ha
   rw [mK _ (lL _)] at hw
   refine ⟨w,?_,hw⟩
   unfold f57_0
   exact aa.tv hb.len (aa.tv rfl (aa.ite bD nofun fun _=>aa.ret))
  | succ d ih =>
   intro a w ha hw
   have hal:a < f.blocks.length:=by omega
   obtain ⟨v3,M3,hv3,k3,F3⟩:=r83 he0 hs ((a:Nat):Int)
   have inner : ∀ (c j : Nat) (wr : TV) (M : List Bool), j + c = f.blocks.length → RBools (some true) wr M → M.length = f.blocks.length → (∀ g, g < j → M[g]? = some (tt (DmI f.blocks (a : Int) g))) →
     ∃ y,aa prog 57 (f57_1 (I a) (I j) (I f.params) (I f.regs) b v0 w v3 wr) y∧RL (some true) 1 (RBL (some true)) y (sX f.blocks):=by
    intro c
    induction c with
    | zero =>
     intro j wr M hj hwr hl hm
     have hj:j=f.blocks.length:=by omega
     subst hj
     have e:M=rG f.blocks (a:Int):=by
      apply List.ext_getElem?
      intro g
      by_cases hg:g < f.blocks.length
      ·rw [iH hg,hm g hg]
      ·rw [Ez (by omega),Ez (by rw [fu]; omega)]
     subst e
     obtain ⟨w',h1,h2⟩:=hw.app (e:=[wr]) (a:=rG f.blocks (a:Int)) ⟨wr,rfl,hwr⟩ (by rw [List.length_take,lL]; omega)
     rw [← iz (qX hal)] at h2
     obtain ⟨y,hy,hr⟩:=ih (a + 1) w' (by omega) h2
     refine ⟨y,?_,hr⟩
     unfold f57_1
     refine aa.tv hb.len (aa.tv rfl (aa.ite bD nofun fun _=>f57_2_J ?_))
     unfold f57_2
     exact aa.rws rfl (aa.tv h1 (aa.tv (inc hal (by omega)) (f57_0_J hy)))
    | succ c ihc =>
     intro j wr M hj hwr hl hm
     have hjl:j < f.blocks.length:=by omega
     have hjM:j < M.length:=by omega
     have hj0:j < M0.length:=by have:=F0.1; omega
     have hj3:j < M3.length:=by have:=F3.1; omega
     obtain ⟨e1,he1,hR1⟩:=k0.pel (En hj0)
     cases hR1
     obtain ⟨e2,he2,hR2⟩:=hwr.pel (En hjM)
     cases hR2
     obtain ⟨e3,he3,hR3⟩:=k3.pel (En hj3)
     cases hR3
     have r0:M0[j]=true ↔ Rc f.blocks (-1) j:=by rw [← F0.2 j,En hj0]; simp
     have r3:M3[j]=true ↔ Rc f.blocks ((a:Nat):Int) j:=by rw [← F3.2 j,En hj3]; simp
     obtain ⟨wr',c1,c2⟩:=hwr.gX he2 (d:=0) (ys:=[B (tt (DmI f.blocks (a:Int) j))]) (a:=tt (DmI f.blocks (a:Int) j)) rfl
     obtain ⟨y,hy,hr⟩:=ihc (j + 1) wr' _ (by omega) c2 (by rw [List.length_set]; exact hl) (fun g hg=>by
      by_cases e:j=g
      ·subst e; exact List.getElem?_set_self hjM
      ·rw [List.getElem?_set_ne e]; exact hm g (by omega))
     refine ⟨y,?_,hr⟩
     have anj:ag (I (j:Nat))=some j:=ap (by omega)
     have cM:(Bool.and (slSize wr 1) (Nat.blt j M.length))=true:=by rw [hwr.slSize]; simp; omega
     unfold f57_1
     refine aa.tv hb.len (aa.tv rfl (aa.ite (bC hjl) (fun _=>?_) nofun))
     refine aa.nat k0.slLen (aa.nat anj (aa.chk ?_ (aa.tvs he1 (aa.chk rfl (aa.ite rfl (fun h=>?_) fun h=>?_)))))
     ·rw [k0.slSize]; simp; omega
     ·have hrc:Rc f.blocks (-1) j:=r0.1 h
      refine aa.tv rfl (aa.ite rfl (fun h=>?_) fun h=>?_)
      ·have haj:a=j:=by
        have:((a:Nat):Int)=((j:Nat):Int):=by simpa using h
        omega
       rw [br (ia.2 ⟨hrc,.inl haj⟩)] at c1
       exact aa.nat hwr.slLen (aa.nat anj (aa.chk cM (aa.tvs he2 (aa.chk rfl (aa.tv c1 (aa.tv (inc hjl (by omega)) (f57_1_J hy)))))))
      ·have haj:¬ a=j:=by
        have:¬ ((a:Nat):Int)=((j:Nat):Int):=by simpa using h
        omega
       have hval:tt (DmI f.blocks (a:Int) j)=!M3[j]:=by
        cases hM:M3[j] with
        | true =>
         refine bT fun h=>?_
         rcases (ia.1 h).2 with h | h
         ·exact haj h
         ·exact h (r3.1 hM)
        | false=>exact br (ia.2 ⟨hrc,.inr fun h=>by rw [r3.2 h] at hM; cases hM⟩)
       rw [hval] at c1
       refine aa.nat k3.slLen (aa.nat anj (aa.chk ?_ (aa.tvs he3 (aa.chk rfl (aa.tv rfl (aa.nat hwr.slLen (aa.nat anj (aa.chk cM (aa.tvs he2 (aa.chk rfl (aa.tv c1 (aa.tv (inc hjl (by omega)) (f57_1_J hy)))))))))))))
       rw [k3.slSize]; simp; omega
     ·rw [bT fun hd=>by
       have:=r0.2 (ia.1 hd).1
       have h:M0[j]=false:=h
       rw [h] at this
       cases this] at c1
      exact aa.nat hwr.slLen (aa.nat anj (aa.chk cM (aa.tvs he2 (aa.chk rfl (aa.tv c1 (aa.tv (inc hjl (by omega)) (f57_1_J hy)))))))
   obtain ⟨y,hy,hr⟩:=inner f.blocks.length 0 _ _ (by omega) (mf (n:=f.blocks.length) (by omega)) (by simp) (fun g hg=>absurd hg (Nat.not_lt_zero _))
   refine ⟨y,?_,hr⟩
   have hnb:ag (I (f.blocks.length:Nat))=some f.blocks.length:=ap (by omega)
   unfold f57_0
   exact aa.tv hb.len (aa.tv rfl (aa.ite (bC hal) (fun _=>aa.call hv3 (aa.chk (aK k3.isSl) (aa.tv hb.len (aa.nat hnb (aa.nat hnb (aa.chk (by simp; omega) (f57_1_J hy))))))) nofun))
 obtain ⟨y,hy,hr⟩:=outer f.blocks.length 0 (.lit aq) (by omega) (by simpa using RL.nil)
 refine ⟨y,?_,hr⟩
 refine aV.of (f57_MR _) ?_
 unfold f57_M
 exact aa.chk rfl (aa.call hv0 (aa.chk (aK k0.isSl) (aa.chk rfl (f57_0_J hy))))
theorem rIsR8 {q:Option Bool} {e:List TV} {f:DFunc} (he:RFunc q e f) (hs:f.blocks.length≤1000) (a c:Int):aV prog 34 [.agg e,I a,I c] (B (tt (0≤c∧DmI f.blocks a c.toNat))):=by
 obtain ⟨v0,M0,hv0,k0,F0⟩:=r84 he hs
 obtain ⟨v3,M3,hv3,k3,F3⟩:=r83 he hs a
 obtain ⟨b,rfl,hb,_⟩:=he
 refine aV.of (f34_MR _ _ _) ?_
 unfold f34_M
 refine aa.chk rfl (aa.tv rfl (aa.ite rfl (fun h=>?_) fun h=>?_))
 ·have h0:a < 0:=by simpa using h
  exact lq fun h=>by have:=h.2.1; omega
 have ha0:¬ a < 0:=by simpa using h
 refine aa.tv hb.len (aa.tv rfl (aa.ite rfl (fun h=>?_) fun h=>?_))
 ·have h0:a ≥ (f.blocks.length:Int):=by simpa using h
  exact lq fun h=>by have:=h.2.2.up.lt; omega
 have hal:¬ a ≥ (f.blocks.length:Int):=by simpa using h
 refine aa.tv rfl (aa.ite rfl (fun h=>?_) fun h=>?_)
 ·have h0:c < 0:=by simpa using h
  exact lq fun h=>by have:=h.1; omega
 have hc0:¬ c < 0:=by simpa using h
 refine aa.tv hb.len (aa.tv rfl (aa.ite rfl (fun h=>?_) fun h=>?_))
 ·have h0:c ≥ (f.blocks.length:Int):=by simpa using h
  exact lq fun h=>by have:=h.2.lt; omega
 have hcl:¬ c ≥ (f.blocks.length:Int):=by simpa using h
 have hj:c.toNat < f.blocks.length:=by omega
 have hj0:c.toNat < M0.length:=by have:=F0.1; omega
 have hj3:c.toNat < M3.length:=by have:=F3.1; omega
 have anj:ag (I c)=some c.toNat:=lV (by omega) (by constructor <;> omega)
 obtain ⟨e1,he1,hR1⟩:=k0.pel (En hj0)
 cases hR1
 obtain ⟨e3,he3,hR3⟩:=k3.pel (En hj3)
 cases hR3
 have r0:M0[c.toNat]=true ↔ Rc f.blocks (-1) c.toNat:=by rw [← F0.2,En hj0]; simp
 have r3:M3[c.toNat]=true ↔ Rc f.blocks a c.toNat:=by rw [← F3.2,En hj3]; simp
 have hat:((a.toNat:Nat):Int)=a:=by omega
 refine aa.call hv0 (aa.chk (aK k0.isSl) (aa.nat k0.slLen (aa.nat anj (aa.chk ?_ (aa.tvs he1 (aa.chk rfl (aa.tv rfl (aa.ite rfl (fun h=>?_) fun h=>?_))))))))
 ·rw [k0.slSize]; simp; omega
 ·have h1:(!M0[c.toNat])=true:=h
  exact lq fun h=>by
   have:=r0.2 h.2.2.1
   rw [this] at h1
   cases h1
 ·have h1:(!M0[c.toNat])=false:=h
  have hrc:Rc f.blocks (-1) c.toNat:=r0.1 (by cases hM:M0[c.toNat] <;> rw [hM] at h1 <;> first | rfl | cases h1)
  refine aa.tv rfl (aa.ite rfl (fun h=>?_) fun h=>?_)
  ·have hac:a=c:=by simpa using h
   subst hac
   exact DP ⟨by omega,by omega,.refl hrc⟩
  ·have hac:¬ a=c:=by simpa using h
   refine aa.call hv3 (aa.chk (aK k3.isSl) (aa.nat k3.slLen (aa.nat anj (aa.chk ?_ (aa.tvs he3 (aa.chk rfl (aa.tv rfl ?_)))))))
   ·rw [k3.slSize]; simp; omega
   ·refine xP ⟨fun h=>⟨by omega,by omega,hrc,.inr fun hr=>?_⟩,fun h=>?_⟩
    ·rw [hat] at hr
     rw [r3.2 hr] at h
     cases h
    ·rcases h.2.2.2 with h2 | h2
     ·omega
     ·rw [hat] at h2
      cases hM:M3[c.toNat] with
      | true=>exact absurd (r3.1 hM) h2
      | false=>rfl
theorem Dl {q : Option Bool} {e : List TV} {f : DFunc} (he : RFunc q e f) (hs : f.blocks.length ≤ 1000) : ∃ y, aV prog 32 [.agg e] y ∧ RInts (some true) y (gu f.blocks) := by
 obtain ⟨wA,hA,kA⟩:=yK he hs
 obtain ⟨b,rfl,hb,_⟩:=he
 have hlA:(sX f.blocks).length=f.blocks.length:=lL _
 have outer : ∀ (d b : Nat) (w : TV), b + d = f.blocks.length → RInts (some true) w ((gu f.blocks).take b) → ∃ y, aa prog 32 (f32_0 (I b) wA w) y ∧ RInts (some true) y (gu f.blocks) := by
  intro d
  induction d with
  | zero =>
   intro b w hb hw
   have hb:b=f.blocks.length:=by omega
   subst hb
   rw [mK _ (md _)] at hw
   refine ⟨w,?_,hw⟩
   unfold f32_0
   refine aa.tv kA.len (aa.tv rfl (aa.ite (v:=false) (by rw [hlA]; exact bD) nofun fun _=>aa.ret))
  | succ d ih =>
   intro b w hb hw
   have hbl:b < f.blocks.length:=by omega
   have mid : ∀ (c a : Nat), a + c = f.blocks.length → ∃ y, aa prog 32 (f32_1 (I b) (I (nF f.blocks b a)) (I a) wA w) y ∧ RInts (some true) y (gu f.blocks) := by
    intro c
    induction c with
    | zero =>
     intro a ha
     have ha:a=f.blocks.length:=by omega
     subst ha
     rw [xA]
     have hin:inI (ovN f.blocks b):=by rw [← xA]; exact CX hs _ _
     obtain ⟨w',h1,h2⟩:=hw.app (e:=[I (ovN f.blocks b)]) (a:=ovN f.blocks b) ⟨rfl,hin⟩ (by rw [List.length_take,md]; omega)
     rw [← iz (oU hbl)] at h2
     obtain ⟨y,hy,hr⟩:=ih (b + 1) w' (by omega) h2
     refine ⟨y,?_,hr⟩
     unfold f32_1
     refine aa.tv kA.len (aa.tv rfl (aa.ite (v:=false) (by rw [hlA]; exact bD) nofun fun _=>f32_3_J ?_))
     unfold f32_3
     exact aa.chk rfl (aa.rws rfl (aa.tv h1 (aa.tv (inc hbl (by omega)) (f32_0_J hy))))
    | succ c ihc =>
     intro a ha
     have hal:a < f.blocks.length:=by omega
     obtain ⟨y,hy,hr⟩:=ihc (a + 1) (by omega)
     refine ⟨y,?_,hr⟩
     unfold f32_1
     refine aa.tv kA.len (aa.tv rfl (aa.ite (v:=true) (by rw [hlA]; exact bC hal) (fun _=>aa.tv rfl (aa.ite rfl (fun h=>?_) fun h=>?_)) nofun))
     ·have hab:((a:Nat):Int)=((b:Nat):Int):=by simpa using h
      rw [vM fun h=>h.1 (by omega)] at hy
      exact aa.tv (inc hal (by omega)) (f32_1_J hy)
     ·have hab : ¬ a = b := by
       have:¬ ((a:Nat):Int)=((b:Nat):Int):=by simpa using h
       omega
      refine nD kA hs hal hbl (aa.tv rfl (aa.ite rfl (fun h=>?_) fun h=>?_))
      ·have hd:¬ Dm f.blocks a b:=fun hd=>by
        rw [br hd] at h
        cases h
       rw [vM fun h=>hd h.2.1] at hy
       exact aa.tv (inc hal (by omega)) (f32_1_J hy)
      ·have hd : Dm f.blocks a b := by
        have:(!tt (Dm f.blocks a b))=false:=h
        exact iG.1 (by cases hM:tt (Dm f.blocks a b) <;> rw [hM] at this <;> first | rfl | cases this)
       have low : ∀ (z c : Nat), c + z = f.blocks.length → aa prog 32 (f32_2 (I b) (I (nF f.blocks b a)) (I a) (B (tt (rU f.blocks a b c))) (I c) wA w) y := by
        intro z
        induction z with
        | zero =>
         intro c hc
         have hc:c=f.blocks.length:=by omega
         subst hc
         unfold f32_2
         refine aa.tv kA.len (aa.tv rfl (aa.ite (v:=false) (by rw [hlA]; exact bD) nofun fun _=>f32_4_J ?_))
         unfold f32_4
         refine aa.ite rfl (fun h=>?_) fun h=>?_
         ·have hn:=(uO hab hd).1 (iG.1 h)
          rw [CK hn] at hy
          exact aa.tv (inc hal (by omega)) (f32_1_J hy)
         ·rw [vM fun hn=>by rw [br ((uO hab hd).2 hn)] at h; cases h] at hy
          exact aa.tv (inc hal (by omega)) (f32_1_J hy)
        | succ z ihz =>
         intro c hc
         have hcl:c < f.blocks.length:=by omega
         have hy2:=ihz (c + 1) (by omega)
         have skip:¬ (c≠b∧Dm f.blocks c b∧¬ Dm f.blocks c a)→aa prog 32 (f32_2 (I b) (I (nF f.blocks b a)) (I a) (B (tt (rU f.blocks a b c))) (I ((c + 1:Nat):Int)) wA w) y:=fun hn=>by
          rw [cP (Ac hn)] at hy2
          exact hy2
         unfold f32_2
         refine aa.tv kA.len (aa.tv rfl (aa.ite (v:=true) (by rw [hlA]; exact bC hcl) (fun _=>aa.tv rfl (aa.ite rfl (fun h=>?_) fun h=>?_)) nofun))
         ·have hcb:¬ ((c:Nat):Int)=((b:Nat):Int):=by simpa using h
          refine nD kA hs hcl hbl (aa.ite rfl (fun h=>?_) fun h=>?_)
          ·have hdb:Dm f.blocks c b:=iG.1 h
           refine nD kA hs hcl hal (aa.tv rfl (aa.ite rfl (fun h=>?_) fun h=>?_))
           ·have hda:¬ Dm f.blocks c a:=fun hd=>by
             rw [br hd] at h
             cases h
            rw [bT (CO ⟨by omega,hdb,hda⟩)] at hy2
            exact aa.tv (inc hcl (by omega)) (f32_2_J hy2)
           ·have hda:Dm f.blocks c a:=by
             have:(!tt (Dm f.blocks c a))=false:=h
             exact iG.1 (by cases hM:tt (Dm f.blocks c a) <;> rw [hM] at this <;> first | rfl | cases this)
            exact aa.tv (inc hcl (by omega)) (f32_2_J (skip fun hn=>hn.2.2 hda))
          ·have hdb:¬ Dm f.blocks c b:=fun hd=>by
            have h1:tt (Dm f.blocks c b)=false:=h
            rw [br hd] at h1
            cases h1
           exact aa.tv (inc hcl (by omega)) (f32_2_J (skip fun hn=>hdb hn.2.1))
         ·have hcb:((c:Nat):Int)=((b:Nat):Int):=by simpa using h
          exact aa.tv (inc hcl (by omega)) (f32_2_J (skip fun hn=>hn.1 (by omega)))
       have h0:=low f.blocks.length 0 (by omega)
       rw [br (p:=rU f.blocks a b 0) fun c hc=>absurd hc (Nat.not_lt_zero _)] at h0
       exact f32_2_J h0
   obtain ⟨y,hy,hr⟩:=mid f.blocks.length 0 (by omega)
   rw [Az] at hy
   refine ⟨y,?_,hr⟩
   unfold f32_0
   exact aa.tv kA.len (aa.tv rfl (aa.ite (v:=true) (by rw [hlA]; exact bC hbl) (fun _=>f32_1_J hy) nofun))
 obtain ⟨y,hy,hr⟩:=outer f.blocks.length 0 (.lit aq) (by omega) (by simpa using RL.nil)
 refine ⟨y,?_,hr⟩
 refine aV.of (f32_MR _) ?_
 unfold f32_M
 exact aa.chk rfl (aa.call hA (aa.chk (aK kA.isSl) (aa.chk rfl (f32_0_J hy))))
theorem Dc {q : Option Bool} {e : List TV} {f : DFunc} (he : RFunc q e f) (hs : f.blocks.length ≤ 1000) (n : Int) : ∃ y, aV prog 36 [.agg e, I n] y ∧ RInts (some true) y (np f.blocks n) := by
 obtain ⟨wA,hA,kA⟩:=yK he hs
 have he0:=he
 obtain ⟨b,rfl,hb,_⟩:=he
 have hlA:(sX f.blocks).length=f.blocks.length:=lL _
 have outer : ∀ (d k : Nat) (w : TV), k + d = f.blocks.length → RInts (some true) w (iv f.blocks n k) → ∃ y, aa prog 36 (f36_0 (I n) (I k) (I f.params) (I f.regs) b wA w) y ∧ RInts (some true) y (np f.blocks n) := by
  intro d
  induction d with
  | zero =>
   intro k w hk hw
   have hk:k=f.blocks.length:=by omega
   subst hk
   rw [ui] at hw
   refine ⟨w,?_,hw⟩
   unfold f36_0
   refine aa.tv kA.len (aa.tv rfl (aa.ite (v:=false) (by rw [hlA]; exact bD) nofun fun _=>aa.ret))
  | succ d ih =>
   intro k w hk hw
   have hkl:k < f.blocks.length:=by omega
   have hlen:=uP f.blocks n k
   obtain ⟨w',h1,h2⟩:=hw.app (e:=[I k]) (a:=(k:Int)) ⟨rfl,by constructor <;> omega⟩ (by omega)
   have fin:∃ y,(∀ t:Bool,t=tt (EdP f.blocks n f.blocks.length 0 k)→aa prog 36 (f36_3 (I n) (I k) (B t) (I f.params) (I f.regs) b wA w) y)∧RInts (some true) y (np f.blocks n):=by
    by_cases hp:EdP f.blocks n f.blocks.length 0 k
    ·rw [← uL hp] at h2
     obtain ⟨y,hy,hr⟩:=ih (k + 1) w' (by omega) h2
     refine ⟨y,fun t ht=>?_,hr⟩
     rw [br hp] at ht
     subst ht
     unfold f36_3
     exact aa.ite (v:=true) rfl (fun _=>aa.chk rfl (aa.rws rfl (aa.tv h1 (aa.tv (inc hkl (by omega)) (f36_0_J hy))))) nofun
    ·rw [← vV hp] at hw
     obtain ⟨y,hy,hr⟩:=ih (k + 1) w (by omega) hw
     refine ⟨y,fun t ht=>?_,hr⟩
     rw [bT hp] at ht
     subst ht
     unfold f36_3
     exact aa.ite (v:=false) rfl nofun fun _=>aa.tv (inc hkl (by omega)) (f36_0_J hy)
   obtain ⟨y,hfin,hr⟩:=fin
   have mid : ∀ (c j : Nat), j + c = f.blocks.length → aa prog 36 (f36_1 (I n) (I k) (B (tt (∃ b : Nat, b < j ∧ DmI f.blocks n b ∧ (k : Int) ∈ al f.blocks b))) (I j) (I f.params) (I f.regs) b wA w) y := by
    intro c
    induction c with
    | zero =>
     intro j hj
     have hj:j=f.blocks.length:=by omega
     subst hj
     unfold f36_1
     refine aa.tv kA.len (aa.tv rfl (aa.ite (v:=false) (by rw [hlA]; exact bD) nofun fun _=>f36_2_J ?_))
     unfold f36_2
     refine aa.ite rfl (fun h=>?_) fun h=>?_
     ·have hx:∃ b:Nat,b < f.blocks.length∧DmI f.blocks n b∧(k:Int) ∈ al f.blocks b:=iG.1 h
      obtain ⟨b0,hb1,hb2,hb3⟩:=hx
      have hn0:=hb2.1
      have hnl:=hb2.2.up.lt
      have hnn:n=((n.toNat:Nat):Int):=by omega
      refine aa.tv rfl (aa.ite rfl (fun h=>?_) fun h=>?_)
      ·have hkn:((k:Nat):Int)=n:=by simpa using h
       exact f36_3_J (hfin true (br ⟨.inl ⟨b0,hb1,hb2,hb3⟩,.inl hkn⟩).symm)
      ·have hkn:¬ ((k:Nat):Int)=n:=by simpa using h
       have:=hfin (!tt (Dm f.blocks n.toNat k)) (by
        by_cases hd:Dm f.blocks n.toNat k
        ·rw [br hd,bT]
         ·rfl
         ·rintro ⟨_,h | h⟩
          ·exact hkn h
          ·exact h ⟨hn0,hd⟩
        ·rw [bT hd,br]
         ·rfl
         ·exact ⟨.inl ⟨b0,hb1,hb2,hb3⟩,.inr fun h=>hd h.2⟩)
       have key:=nD (F:=36) kA hs (a:=n.toNat) (b:=k) (by omega) hkl (k:=fun e31=>Prg.tv (pun UnOp.not (nth TV.hole e31 0)) fun v32=>Prg.jmp [1,1,1,0,0,1,0,0,1,0,1,1,1] (f36_3_S (I n) (I k) v32 (I f.params) (I f.regs) b wA w)) (aa.tv rfl (f36_3_J this))
       rw [← hnn] at key
       exact key
     ·refine f36_3_J (hfin false (bT ?_).symm)
      rintro ⟨h2 | ⟨_,h2⟩,_⟩
      ·have h1:tt (∃ b:Nat,b < f.blocks.length∧DmI f.blocks n b∧(k:Int) ∈ al f.blocks b)=false:=h
       rw [br h2] at h1
       cases h1
      ·simp at h2
    | succ c ihc =>
     intro j hj
     have hjl:j < f.blocks.length:=by omega
     have hy2:=ihc (j + 1) (by omega)
     have skip:¬ (DmI f.blocks n j∧(k:Int) ∈ al f.blocks j)→aa prog 36 (f36_1 (I n) (I k) (B (tt (∃ b:Nat,b < j∧DmI f.blocks n b∧(k:Int) ∈ al f.blocks b))) (I ((j + 1:Nat):Int)) (I f.params) (I f.regs) b wA w) y:=fun hn=>by
      rw [cP (p':=∃ b:Nat,b < j∧DmI f.blocks n b∧(k:Int) ∈ al f.blocks b) ⟨fun ⟨b,h1,h2,h3⟩=>by
       by_cases e:b=j
       ·subst e; exact absurd ⟨h2,h3⟩ hn
       ·exact ⟨b,by omega,h2,h3⟩,fun ⟨b,h1,h2⟩=>⟨b,by omega,h2⟩⟩] at hy2
      exact hy2
     unfold f36_1
     refine aa.tv kA.len (aa.tv rfl (aa.ite (v:=true) (by rw [hlA]; exact bC hjl) (fun _=>aa.tv rfl (aa.ite rfl (fun h=>?_) fun h=>?_)) nofun))
     ·have hn0:n ≥ 0:=by simpa using h
      refine aa.tv kA.len (aa.tv rfl (aa.ite rfl (fun h=>?_) fun h=>?_))
      ·have hnl:n < (f.blocks.length:Int):=by rw [hlA] at h; simpa using h
       have hnn:n=((n.toNat:Nat):Int):=by omega
       have hnx:=r72 he0 ((j:Nat):Int)
       obtain ⟨vn,hvn,kn⟩:=hnx
       rw [ik] at kn
       have hhas:=r75 (kn.frz fun _ _ h=>h.frz) ((k:Nat):Int)
       have key:∀ (K:List TV→Prg TV),aa prog 36 (K [B (tt (Dm f.blocks n.toNat j))]) y→aa prog 36 (Prg.nat (slLen wA) fun n7=>Prg.nat (ag (I n)) fun n8=>Prg.chk (Bool.and (slSize wA 1) (Nat.blt n8 n7)) (Prg.tvs (pel wA n8) fun e9=>Prg.chk (ab zSl e9 0) (Prg.tv (bu [(n8,0)] wA) fun v10=>Prg.nat (slLen v10) fun n11=>Prg.nat (ag (I (j:Nat))) fun n12 =>
         Prg.chk (Bool.and (slSize v10 1) (Nat.blt n12 n11)) (Prg.tv (bu [(n8,0)] wA) fun v13=>Prg.tvs (pel v13 n12) fun e14=>Prg.chk (ab aT e14 0) (K e14))))) y:=fun K hK=>by
        have:=nD (F:=36) kA hs (a:=n.toNat) (b:=j) (by omega) hjl (k:=K) hK
        rw [← hnn] at this
        exact this
       refine key _ (aa.ite rfl (fun h=>?_) fun h=>?_)
       ·have hd:Dm f.blocks n.toNat j:=iG.1 h
        refine aa.call hvn (aa.chk (aK kn.isSl) (aa.call hhas (aa.chk rfl (aa.ite rfl (fun h=>?_) fun h=>?_))))
        ·have hm:(k:Int) ∈ al f.blocks j:=by simpa using h
         rw [br (p:=∃ b:Nat,b < j + 1∧DmI f.blocks n b∧(k:Int) ∈ al f.blocks b) ⟨j,by omega,⟨hn0,hd⟩,hm⟩] at hy2
         exact aa.tv (inc hjl (by omega)) (f36_1_J hy2)
        ·have hm:¬ (k:Int) ∈ al f.blocks j:=by simpa using h
         exact aa.tv (inc hjl (by omega)) (f36_1_J (skip fun h=>hm h.2))
       ·have hd:¬ Dm f.blocks n.toNat j:=fun hd=>by
         have h1:tt (Dm f.blocks n.toNat j)=false:=h
         rw [br hd] at h1
         cases h1
        exact aa.tv (inc hjl (by omega)) (f36_1_J (skip fun h=>hd h.1.2))
      ·have hnl:¬ n < (f.blocks.length:Int):=by rw [hlA] at h; simpa using h
       exact aa.tv (inc hjl (by omega)) (f36_1_J (skip fun h=>by have:=h.1.2.up.lt; omega))
     ·have hn0:¬ n ≥ 0:=by simpa using h
      exact aa.tv (inc hjl (by omega)) (f36_1_J (skip fun h=>hn0 h.1.1))
   have h0:=mid f.blocks.length 0 (by omega)
   rw [bT (p:=∃ b:Nat,b < 0∧DmI f.blocks n b∧(k:Int) ∈ al f.blocks b) fun ⟨b,h,_⟩=>absurd h (Nat.not_lt_zero _)] at h0
   refine ⟨y,?_,hr⟩
   unfold f36_0
   exact aa.tv kA.len (aa.tv rfl (aa.ite (v:=true) (by rw [hlA]; exact bC hkl) (fun _=>f36_1_J h0) nofun))
 obtain ⟨y,hy,hr⟩:=outer f.blocks.length 0 (.lit aq) (by omega) (by
  have:iv f.blocks n 0=[]:=by unfold iv; split <;> simp [jg]
  rw [this]; exact .nil)
 refine ⟨y,?_,hr⟩
 refine aV.of (f36_MR _ _) ?_
 unfold f36_M
 exact aa.chk rfl (aa.call hA (aa.chk (aK kA.isSl) (aa.chk rfl (f36_0_J hy))))
end Go.Ab.Q12
end
section
set_option maxRecDepth 100000
namespace Go.Ab.Q12
open Go Go.Ab Go.Proofs
abbrev Cs (k to els:Int):DBlock:=⟨false,⟨0,[],false,false⟩,[],⟨k,0,0,0,[],to,els,0⟩⟩
abbrev jf:DFunc:=⟨0,1,[Cs 3 1 2,Cs 2 3 0,Cs 2 3 0,Cs 1 0 0]⟩
abbrev wh (k to els:Int):List TV:=[B false,I 0,.lit aq,B false,B false,.lit aq,I k,I 0,I 0,I 0,.lit aq,I to,I els,I 0]
abbrev Ae:List TV:=[I 0,I 1,.sl false 14 [wh 3 1 2,wh 2 3 0,wh 2 3 0,wh 1 0 0]]
theorem yV {k to els:Int} (h1:inI k) (h2:inI to) (h3:inI els):RBlock (some false) (wh k to els) (Cs k to els) :=
 have z:inI 0:=⟨by decide,by decide⟩
 ⟨.lit aq,.lit aq,.lit aq,rfl,.nil,z,.nil,.nil,h1,z,z,z,h2,h3,z⟩
theorem B4:RFunc (some false) Ae jf:=by
 have hi:∀ {n:Nat},n < 100→inI (n:Int):=fun h=>by constructor <;> omega
 refine ⟨_,rfl,.inr ⟨false,_,rfl,fun _ h=>by cases h; rfl,?_,by decide⟩,hi (n:=0) (by omega),hi (n:=1) (by omega)⟩
 exact .cons (yV (hi (n:=3) (by omega)) (hi (n:=1) (by omega)) (hi (n:=2) (by omega))) (.cons (yV (hi (n:=2) (by omega)) (hi (n:=3) (by omega)) (hi (n:=0) (by omega))) (.cons (yV (hi (n:=2) (by omega)) (hi (n:=3) (by omega)) (hi (n:=0) (by omega))) (.cons (yV (hi (n:=1) (by omega)) (hi (n:=0) (by omega)) (hi (n:=0) (by omega))) .nil)))
theorem awkA:aV prog 57 [.agg Ae] (.sl true 1 [[.sl true 1 [[B true],[B true],[B true],[B true]]],[.sl true 1 [[B false],[B true],[B false],[B false]]],[.sl true 1 [[B false],[B false],[B true],[B false]]],[.sl true 1 [[B false],[B false],[B false],[B true]]]]):=⟨40,by kernel_rfl⟩
theorem wm {a b : Nat} (ha : a < 4) (hb : b < 4) : Dm jf.blocks a b ↔ (a = 0 ∨ a = b) := by
  obtain ⟨y,h,k⟩:=yK B4 (by decide)
  have:=h.det awkA
  subst this
  obtain ⟨e1,he1,v,rfl,hv⟩:=k.pel (qX (a:=a) (bs:=jf.blocks) ha)
  obtain ⟨e2,he2,hR⟩:=hv.pel (iH (n:=(a:Int)) (bs:=jf.blocks) hb)
  cases hR
  rw [cP (ia (bs:=jf.blocks) (n:=a) (b:=b))] at he2
  have h4:a=0∨a=1∨a=2∨a=3:=by omega
  have h5:b=0∨b=1∨b=2∨b=3:=by omega
  rcases h4 with rfl | rfl | rfl | rfl <;> (
    have e:=(show Go.Ab.pel _ _=some _ from rfl).symm.trans he1
    injection e with e
    injection e with e
    subst e
    rcases h5 with rfl | rfl | rfl | rfl <;> (
      have e:=(show Go.Ab.pel _ _=some _ from rfl).symm.trans he2
      injection e with e
      injection e with e
      injection e with e
      injection e with e
      first
        | (have:=iG.1 e.symm; simpa using this)
        | (have hn : ¬ Dm jf.blocks _ _ := fun hd => by rw [br hd] at e; cases e
           simpa using hn)))
theorem awkN {b:Nat} (h0:b≠0) (hb:b < 4):ovN jf.blocks b=0 :=
 rm (a:=0) ⟨fun e=>h0 e.symm,(wm (by omega) hb).2 (.inl rfl),fun c hc hd=>by
  have hc4:c < 4:=hd.up.lt
  rcases (wm hc4 hb).1 hd with h | h
  ·subst h; exact (wm (by omega) (by omega)).2 (.inl rfl)
  ·exact absurd h hc⟩
theorem awkV:gu jf.blocks=[-1,0,0,0]:=by
 have h0:ovN jf.blocks 0=-1:=rA fun h=>h.2 rfl
 show [ovN jf.blocks 0,ovN jf.blocks 1,ovN jf.blocks 2,ovN jf.blocks 3]=_
 rw [h0,awkN (by omega) (by omega),awkN (by omega) (by omega),awkN (by omega) (by omega)]
end Go.Ab.Q12
end
section
set_option maxRecDepth 100000
namespace Go.Ab.Q12
open Go Go.Ab Go.Proofs
theorem awkX {b:Nat} {g:Int} (h:Dm jf.blocks 1 b) (hg:g ∈ al jf.blocks b):g=3:=by
 have hb:b < 4:=h.1.lt
 rcases (wm (by omega) hb).1 h with h | h
 ·cases h
 ·subst h
  have e:al jf.blocks 1=[3]:=rfl
  rw [e] at hg
  simpa using hg
theorem awkP {k:Nat}:uj jf.blocks 1 k ↔ k=3:=by
 constructor
 ·rintro ⟨⟨b,h,hg⟩,_⟩
  have:=awkX h hg
  omega
 ·rintro rfl
  refine ⟨⟨1,(wm (by omega) (by omega)).2 (.inr rfl),?_⟩,.inr fun h=>?_⟩
  ·have e:al jf.blocks 1=[3]:=rfl
   rw [e]; simp
  ·rcases (wm (by omega) (by omega)).1 h with h | h <;> cases h
theorem awkW:np jf.blocks 1=[3]:=by
 show jg jf.blocks 1 4=[3]
 unfold jg
 rw [List.filter_congr (q:=fun i=>decide (i=3)) fun i _=>by rw [decide_eq_decide]; exact awkP]
 rfl
theorem C3:aV prog 30 [] (B true):=by
 have hs:jf.blocks.length≤1000:=by decide
 have hi:∀ {n:Nat},n < 100→inI (n:Int):=fun h=>by constructor <;> omega
 have l0:RInts (some true) (.sl true 1 [[I (-1)],[I 0],[I 0],[I 0]]) [-1,0,0,0] :=
  .inr ⟨true,_,rfl,fun _ h=>by cases h; rfl,.cons ⟨rfl,by decide,by decide⟩ (.cons ⟨rfl,hi (n:=0) (by omega)⟩ (.cons ⟨rfl,hi (n:=0) (by omega)⟩ (.cons ⟨rfl,hi (n:=0) (by omega)⟩ .nil))),by decide⟩
 have l1:RInts (some true) (.sl true 1 [[I 3]]) [3]:=.inr ⟨true,_,rfl,fun _ h=>by cases h; rfl,.cons ⟨rfl,hi (n:=3) (by omega)⟩ .nil,by decide⟩
 obtain ⟨y0,h0,k0⟩:=xO B4 hs
 rw [awkV] at k0
 obtain ⟨y1,h1,k1⟩:=CL B4 hs 1
 rw [awkW] at k1
 have h2:=rIs8 B4 hs 0 3
 rw [br ⟨by omega,(ia (n:=0)).2 ((wm (by omega) (by decide)).2 (.inl rfl))⟩] at h2
 have h3:=rIs8 B4 hs 1 3
 rw [bT fun h=>by rcases (wm (a:=1) (b:=3) (by omega) (by decide)).1 ((ia (n:=1)).1 h.2) with h | h <;> cases h] at h3
 refine aV.of f30_MR ?_
 unfold f30_M
 refine aa.call (xs:=[.agg Ae]) h0 (aa.chk (aK k0.isSl) (aa.call (xs:=[frz y0,frz (.sl true 1 [[I (-1)],[I 0],[I 0],[I 0]])]) (l9 k0 l0) (aa.chk rfl (aa.ite (v:=true) rfl (fun _=>?_) nofun))))
 refine aa.call (xs:=[.agg Ae,I 1]) h1 (aa.chk (aK k1.isSl) (aa.call (xs:=[frz y1,frz (.sl true 1 [[I 3]])]) (l9 k1 l1) (aa.chk rfl (aa.ite (v:=true) rfl (fun _=>?_) nofun))))
 refine aa.call (xs:=[.agg Ae,I 0,I 3]) h2 (aa.chk rfl (aa.ite (v:=true) rfl (fun _=>?_) nofun))
 exact aa.call (xs:=[.agg Ae,I 1,I 3]) h3 (aa.chk rfl (aa.tv rfl aa.ret))
theorem rDomRight {q:Option Bool} {e:List TV} {f:DFunc} (he:RFunc q e f) (a c:Int):aV prog 7 [.agg e,I a,I c] (B true):=by
 have he0:=he
 obtain ⟨b,rfl,hb,_⟩:=he
 refine aV.of (f7_MR _ _ _) ?_
 unfold f7_M
 refine aa.chk rfl (aa.call C3 (aa.chk rfl (aa.tv rfl (aa.ite (v:=false) rfl nofun fun _=>aa.tv hb.len (aa.tv rfl (aa.ite rfl (fun _=>aa.ret) fun h=>?_))))))
 have hs:f.blocks.length≤30:=by
  have:¬ (f.blocks.length:Int) > 30:=by simpa using h
  omega
 obtain ⟨y0,h0,k0⟩:=xO he0 (by omega)
 obtain ⟨y1,h1,k1⟩:=Dl he0 (by omega)
 obtain ⟨y2,h2,k2⟩:=CL he0 (by omega) a
 obtain ⟨y3,h3,k3⟩:=Dc he0 (by omega) a
 have h4:=rIs8 he0 (by omega) a c
 have h5:=rIsR8 he0 (by omega) a c
 refine aa.call h0 (aa.chk (aK k0.isSl) (aa.call h1 (aa.chk (aK k1.isSl) (aa.call (l9 k0 k1) (aa.chk rfl (aa.ite (v:=true) rfl (fun _=>?_) nofun))))))
 refine aa.call h4 (aa.chk rfl (aa.call h5 (aa.chk rfl (aa.tv rfl (aa.ite (v:=true) ?_ (fun _=>?_) nofun)))))
 ·generalize tt _=z
  cases z <;> rfl
 ·exact aa.call h2 (aa.chk (aK k2.isSl) (aa.call h3 (aa.chk (aK k3.isSl) (aa.call (l9 k2 k3) (aa.chk rfl aa.ret)))))
end Go.Ab.Q12
end
section
namespace Go.Ab
open Go.RowKit
theorem aM {α:Type} (d:α):∀ (l:List α) (n:Nat),nth d l n=(l[n]?).getD d
 | [],n=>by simp [nth]
 | a :: l,0=>rfl
 | a :: l,n + 1=>by simp [nth,aM d l n]
theorem ai {α:Type}:∀ (l:List α) (n:Nat) (b:α),ak l n b=l.set n b
 | [],n,b=>by simp [ak]
 | a :: l,0,b=>rfl
 | a :: l,n + 1,b=>by simp [ak,ai l n b]
theorem bL {α:Type} {d:α} {l:List α} {n:Nat} {a:α} (h:l[n]? = some a):nth d l n=a:=by rw [aM,h]; rfl
theorem ar (a b:Nat):a.beq b=true ↔ a=b:=⟨Nat.eq_of_beq_eq_true,fun h=>h ▸ Nat.beq_refl a⟩
theorem bW (n:Nat):∀ l:List Nat,bH n l=true ↔ n ∈ l
 | []=>by simp [bH]
 | a :: l => by
  cases h:a.beq n
  ·have:a≠n:=fun e=>by simp [e] at h
   simp only [bH,h,cond_false,bW n l,List.mem_cons]
   constructor
   ·exact .inr
   ·rintro (e | e)
    ·exact absurd e.symm this
    ·exact e
  ·simp only [bH,h,cond_true,List.mem_cons,true_iff]
   exact .inl ((ar a n).1 h).symm
theorem ea (a:Addr) (k:Nat):(a.add k).block=a.block:=by unfold Addr.add; split <;> rfl
theorem B9 {a:Addr} (h:a.spot=none) (k:Nat):(a.add k).spot=none:=by unfold Addr.add; split <;> simp [h]
theorem eC (a:Addr) (i j:Nat):(a.add i).add j=a.add (i + j):=by
 unfold Addr.add
 by_cases hi:i=0 <;> by_cases hj:j=0 <;> simp [hi,hj,Nat.add_assoc]
theorem dI (b o k:Nat):(⟨b,o,none⟩:Addr).add k=⟨b,o + k,none⟩:=by unfold Addr.add; split <;> simp_all
def spl {α:Type} (l:List α) (o:Nat) (ys:List α):List α:=l.take o ++ ys ++ l.drop (o + ys.length)
theorem eF {α:Type} {l ys:List α} {o:Nat} (h:o + ys.length≤l.length):(spl l o ys).length=l.length:=by
 simp only [spl,List.length_append,List.length_take,List.length_drop]
 omega
theorem bA {α:Type} {l ys:List α} {o:Nat} (h:o + ys.length≤l.length) (k:Nat):(spl l o ys)[k]? = if o≤k∧k < o + ys.length then ys[k - o]? else l[k]? := by
 have e1:(l.take o).length=o:=by simp; omega
 unfold spl
 by_cases h1:k < o
 ·rw [List.append_assoc,Ex (by omega),List.getElem?_take,if_pos h1,if_neg (by omega)]
 ·by_cases h2:k < o + ys.length
  ·rw [List.append_assoc,Ey (by omega),e1,Ex (by omega),if_pos (by omega)]
  ·rw [Ey (by simp; omega),List.getElem?_drop,if_neg (by omega)]
   congr 1
   simp
   omega
theorem fh {α:Type}:∀ (ps l:List α) (off:Nat),off + ps.length≤l.length→bU l off ps=spl l off ps
 | [],l,off,h=>by simp [bU,spl]
 | p :: ps, l, off, h => by
  have hlt:off < l.length:=by simp at h; omega
  simp only [bU]
  rw [ai,fh ps (l.set off p) (off + 1) (by simp at h ⊢; omega)]
  apply List.ext_getElem?
  intro k
  rw [bA (by simp at h ⊢; omega),bA h]
  simp only [List.length_cons,List.getElem?_set]
  by_cases h1:k < off
  ·rw [if_neg (by omega),if_neg (by omega),if_neg (by omega)]
  ·by_cases h2:k=off
   ·subst h2
    rw [if_neg (by omega),if_pos (by omega)]
    simp [hlt]
   ·by_cases h3:k < off + (ps.length + 1)
    ·rw [if_pos (by omega),if_pos (by omega)]
     rw [show k - off=(k - (off + 1)) + 1 by omega,List.getElem?_cons_succ]
    ·rw [if_neg (by omega),if_neg (by omega),if_neg (by omega)]
theorem eM {α:Type}:∀ (l:List α) (o n:Nat) (r:List α),kN l o n=some r→r.length=n∧(n=0∨o + n≤l.length)∧∀ j,j < n→r[j]? = l[o + j]?
 | l,o,0,r,h=>by cases l <;> simp [kN] at h <;> subst h <;> simp
 | [],o,n + 1,r,h=>by simp [kN] at h
 | a :: l, 0, n + 1, r, h => by
  simp only [kN] at h
  cases h1:kN l 0 n with
  | none=>simp [h1] at h
  | some r' =>
   simp only [h1,Eo] at h
   subst h
   obtain ⟨i1,i2,i3⟩:=eM l 0 n r' h1
   refine ⟨by simp [i1],.inr (by simp; omega),fun j hj=>?_⟩
   cases j with
   | zero=>simp
   | succ j=>simpa using i3 j (by omega)
 | a :: l,o + 1,n + 1,r,h=>by
  simp only [kN] at h
  obtain ⟨i1,i2,i3⟩:=eM l o (n + 1) r h
  refine ⟨i1,.inr (by rcases i2 with i2 | i2 <;> simp <;> omega),fun j hj=>?_⟩
  rw [i3 j hj,show o + 1 + j=(o + j) + 1 by omega,List.getElem?_cons_succ]
theorem bM {α:Type} {s:Nat}:∀ {xs:List (List α)},(∀ x ∈ xs,x.length=s)→xs.flatten.length=xs.length * s
 | [],_=>by simp
 | x :: xs,h=>by
  simp only [List.flatten_cons,List.length_append,List.length_cons,h x Eu,bM (fun y hy=>h y (Ev _ hy)),Nat.add_mul]
  omega
theorem cQ {α:Type} {s:Nat}:∀ {xs:List (List α)} {i j:Nat} {x:List α} {c:α},(∀ x ∈ xs,x.length=s)→xs[i]? = some x→x[j]? = some c→xs.flatten[i * s + j]? = some c
 | x :: xs,0,j,_,c,h,hi,hj=>by
  simp at hi
  subst hi
  rw [List.flatten_cons,Ex (by simp; exact (Em.1 hj).1)]
  simpa using hj
 | x :: xs,i + 1,j,y,c,h,hi,hj=>by
  simp at hi
  have hx:=h x Eu
  rw [List.flatten_cons,Ey (by rw [hx,Nat.add_mul]; omega),hx,show (i + 1) * s + j - s=i * s + j by rw [Nat.add_mul]; omega]
  exact cQ (fun z hz=>h z (Ev _ hz)) hi hj
theorem take_add {α:Type} {x l:List α} {s n:Nat} (h:x.length=s):(x ++ l).take (s + n)=x ++ l.take n:=by
 subst h
 exact List.take_length_add_append n
theorem wx {α:Type} {x l:List α} {s n:Nat} (h:x.length=s):(x ++ l).drop (s + n)=l.drop n:=by
 subst h
 exact List.drop_length_add_append n
theorem ph (n s:Nat):(n + 1) * s=s + n * s:=by rw [Nat.add_mul]; omega
theorem lY {α:Type} {s:Nat}:∀ {xs:List (List α)} (n:Nat),(∀ x ∈ xs,x.length=s)→(xs.take n).flatten=xs.flatten.take (n * s)
 | [],n,_=>by simp
 | x :: xs,0,_=>by simp
 | x :: xs,n + 1,h=>by
  have hx:=h x Eu
  rw [List.take_succ_cons,List.flatten_cons,List.flatten_cons,lY n (fun z hz=>h z (Ev _ hz)),ph,take_add hx]
theorem mr {α:Type} {s:Nat}:∀ {xs:List (List α)} (n:Nat),(∀ x ∈ xs,x.length=s)→(xs.drop n).flatten=xs.flatten.drop (n * s)
 | [],n,_=>by simp
 | x :: xs,0,_=>by simp
 | x :: xs,n + 1,h=>by
  have hx:=h x Eu
  rw [List.drop_succ_cons,List.flatten_cons,mr n (fun z hz=>h z (Ev _ hz)),ph,wx hx]
theorem vT {α:Type} {s:Nat}:∀ {xs:List (List α)} {i:Nat} {x y:List α},(∀ x ∈ xs,x.length=s)→xs[i]? = some x→y.length=s→(xs.set i y).flatten=spl xs.flatten (i * s) y
 | x :: xs,0,_,y,h,hi,hy=>by
  simp at hi
  subst hi
  have hx:=h x Eu
  simp only [List.set_cons_zero,List.flatten_cons,Nat.zero_mul,spl,List.take_zero,List.nil_append,Nat.zero_add,hy,List.drop_append,hx,Nat.sub_self,List.drop_zero]
  rw [List.drop_of_length_le (by omega),List.nil_append]
 | x :: xs,i + 1,z,y,h,hi,hy=>by
  simp at hi
  have hx:=h x Eu
  have ih:=vT (fun z hz=>h z (Ev _ hz)) hi hy
  simp only [List.set_cons_succ,List.flatten_cons,ih,spl,ph,take_add hx,hy]
  rw [show s + i * s + s=s + (i * s + s) by omega,wx hx]
  simp only [List.append_assoc]
theorem yZ {α:Type} {s:Nat} {xs:List (List α)} {i:Nat} {y:List α} (h:∀ x ∈ xs,x.length=s) (hy:y.length=s):∀ x ∈ xs.set i y,x.length=s:=by
 intro x hx
 rcases List.mem_or_eq_of_mem_set hx with h' | h'
 ·exact h x h'
 ·rw [h']; exact hy
theorem xn {α:Type} {s:Nat} {xs:List (List α)} {i j:Nat} {x ys:List α} (h:∀ x ∈ xs,x.length=s) (hi:xs[i]? = some x) (hj:j + ys.length≤x.length) :
  (xs.set i (spl x j ys)).flatten=spl xs.flatten (i * s + j) ys∧i * s + j + ys.length≤xs.flatten.length:=by
 have hx:=h x (Ew hi)
 have hlt:i < xs.length:=(Em.1 hi).1
 have hle:i * s + s≤xs.flatten.length:=by
  rw [bM h]
  have:=Nat.mul_le_mul_right s (Nat.succ_le_of_lt hlt)
  rw [Nat.succ_mul] at this
  exact this
 refine ⟨?_,by omega⟩
 rw [vT h hi (by rw [eF hj,hx])]
 apply List.ext_getElem?
 intro k
 rw [bA (l:=xs.flatten) (ys:=spl x j ys) (by rw [eF hj]; omega),bA (l:=xs.flatten) (ys:=ys) (by omega),eF hj,hx]
 by_cases h1:i * s≤k∧k < i * s + s
 ·rw [if_pos h1,bA hj]
  by_cases h2:j≤k - i * s∧k - i * s < j + ys.length
  ·rw [if_pos h2,if_pos (by omega)]
   congr 1
   omega
  ·rw [if_neg h2,if_neg (by omega)]
   have hk:k - i * s < x.length:=by omega
   have:=cQ h hi (En hk)
   rw [show i * s + (k - i * s)=k by omega] at this
   rw [this,En hk]
 ·rw [if_neg h1,if_neg (by omega)]
inductive Rep (w:World) (I:Nat→Prop):TV→Value→Prop
 | lit (v:Value):Rep w I (.lit v) v
 | hole (v:Value):Rep w I .hole v
 | buf {s:ByteArray} (e:TypeId) (h:s.size=0):Rep w I (.buf s e) aq
 | sl {size : Nat} {xs : List (List TV)} {a : Addr} {cap : Nat} (cell : Nat → Value) (hI : 0 < xs.length → I a.block) (hc : xs.length ≤ cap) (hm : cap ≤ maxLen)
   (hl:∀ x ∈ xs,x.length=size) (hcell:∀ k,k < xs.length * size→w.cell? (a.add k)=some (cell k)) (h1:∀ k,k < xs.length * size→(cell k).oneCell'=true)
   (hr:∀ (i:Nat) (x:List TV),xs[i]? = some x→∀ (j:Nat) (c:TV),x[j]? = some c→Rep w I c (cell (i * size + j))):Rep w I (.sl false size xs) (.slice (some a) xs.length cap)
 | agg {cs : List TV} {vs : Array Value} (hl : vs.size = cs.length) (h1 : ∀ j, j < vs.size → (vs.getD j undef).oneCell' = true)
   (hr:∀ (j:Nat) (c:TV),cs[j]? = some c→Rep w I c (vs.getD j undef)):Rep w I (.agg cs) (.agg vs)
 | tup {cs:List TV} {vs:Array Value} (hl:vs.size=cs.length) (hr:∀ (j:Nat) (c:TV),cs[j]? = some c→Rep w I c (vs.getD j undef)):Rep w I (.tup cs) (.tuple vs)
theorem Rep.mv {w w':World} {I I':Nat→Prop} (hh:∀ b,I b→w'.heap[b]? = w.heap[b]?) (hI:∀ b,I b→I' b) {x:TV} {v:Value} (h:Rep w I x v):Rep w' I' x v:=by
 induction h with
 | lit v=>exact .lit v
 | hole v=>exact .hole v
 | buf e h=>exact .buf e h
 | sl cell i c m l hcell h1 _ ih =>
  exact .sl cell (fun h=>hI _ (i h)) c m l (fun k hk=>by rw [← hcell k hk]; exact World.cell?_of_block (by rw [ea]; exact hh _ (i (Nat.pos_of_ne_zero (fun e=>by simp [e] at hk))))) h1 ih
 | agg hl h1 _ ih=>exact .agg hl h1 ih
 | tup hl _ ih=>exact .tup hl ih
structure Row (w:World) (a:Addr) (n cap size:Nat) (us:List Value) (vs:Array Value) (ty:TypeId):Prop where
 heap:w.heap[a.block]? = some (.cells vs ty (0,0))
 spot:a.spot=none
 le:n≤cap
 max:cap≤maxLen
 fit:a.off + cap * size≤vs.size
 len:us.length=n * size
 cells:∀ k,k < n * size→vs[a.off + k]? = us[k]?
 one:∀ u ∈ us,u.oneCell'=true
theorem Row.cell {w:World} {a:Addr} {n cap size:Nat} {us:List Value} {vs:Array Value} {ty:TypeId} (h:Row w a n cap size us vs ty) {k:Nat} {u:Value} (hk:us[k]? = some u):w.cell? (a.add k)=some u:=by
 have hlt:k < n * size:=by rw [← h.len]; exact (Em.1 hk).1
 have:a.add k=⟨a.block,a.off + k,none⟩:=by
  have:=h.spot
  obtain ⟨b,o,sp⟩:=a
  simp at this
  subst this
  exact dI b o k
 rw [this]
 simp only [World.cell?,h.heap]
 simp only [Option.isSome_none,Bool.false_eq_true,if_false]
 rw [h.cells k hlt,hk]
inductive am (w:World) (I:Nat→Prop):TV→Value→(Nat→Prop)→Prop
 | fr {x:TV} {v:Value} {S:Nat→Prop} (h:Rep w I x v):am w I x v S
 | sl {size : Nat} {xs : List (List TV)} {a : Addr} {cap : Nat} {S : Nat → Prop} (us : List Value) (vs : Array Value) (ty : TypeId) (F : Nat → Nat → Prop) (hS : S a.block)
   (row:Row w a xs.length cap size us vs ty) (hl:∀ x ∈ xs,x.length=size) (hr:∀ (k:Nat) (c:TV),xs.flatten[k]? = some c→am w I c (us.getD k undef) (F k))
   (hF:∀ k b,F k b→S b∧b≠a.block) (hd:∀ k k' b,F k b→F k' b→k=k'):am w I (.sl true size xs) (.slice (some a) xs.length cap) S
 | agg {cs : List TV} {vs : Array Value} {S : Nat → Prop} (F : Nat → Nat → Prop) (hl : vs.size = cs.length) (h1 : ∀ j, j < vs.size → (vs.getD j undef).oneCell' = true)
   (hr:∀ (j:Nat) (c:TV),cs[j]? = some c→am w I c (vs.getD j undef) (F j)) (hF:∀ j b,F j b→S b) (hd:∀ k k' b,F k b→F k' b→k=k'):am w I (.agg cs) (.agg vs) S
 | buf {s:ByteArray} {e:TypeId} {v:Value} {S:Nat→Prop} (h:w.ownsRowF 0 e 1 v s.size (Lib.strCells s)) (hS:∀ b,v.ownBlock=some b→S b):am w I (.buf s e) v S
 | tup {cs : List TV} {vs : Array Value} {S : Nat → Prop} (F : Nat → Nat → Prop) (hl : vs.size = cs.length)
   (hr:∀ (j:Nat) (c:TV),cs[j]? = some c→am w I c (vs.getD j undef) (F j)) (hF:∀ j b,F j b→S b) (hd:∀ k k' b,F k b→F k' b→k=k'):am w I (.tup cs) (.tuple vs) S
theorem _root_.Go.World.ownsRowF.moved {w w':World} {base:Nat} {e:TypeId} {size:Nat} {v:Value} {n:Nat} {xs:List Value} (h:w.ownsRowF base e size v n xs) (hh:∀ b,v.ownBlock=some b→w'.heap[b]? = w.heap[b]?):w'.ownsRowF base e size v n xs:=by
 refine ⟨h.1,?_⟩
 rcases h.2 with hn | ⟨g,cap,cur,fz,rfl,hb,hgg,rest⟩
 ·exact .inl hn
 ·exact .inr ⟨g,cap,cur,fz,rfl,hb,by rw [hh g rfl]; exact hgg,rest⟩
theorem am.mv {w w':World} {I I':Nat→Prop} (hI:∀ b,I b→w'.heap[b]? = w.heap[b]?) (hs:∀ b,I b→I' b) {x:TV} {v:Value} {S:Nat→Prop} (h:am w I x v S) :
  ∀ {S':Nat→Prop},(∀ b,S b→w'.heap[b]? = w.heap[b]?)→(∀ b,S b→S' b)→am w' I' x v S':=by
 induction h with
 | fr h=>intro S' _ _; exact .fr (h.mv hI hs)
 | @sl size xs a cap S us vs ty F hS row hl hr hF hd ih =>
  intro S' hh hSS
  exact .sl us vs ty F (hSS _ hS) ⟨by rw [hh _ hS]; exact row.heap,row.spot,row.le,row.max,row.fit,row.len,row.cells,row.one⟩ hl (fun k c hk=>ih k c hk (fun b hb=>hh b (hF k b hb).1) (fun b hb=>hb))
   (fun k b hb=>⟨hSS b (hF k b hb).1,(hF k b hb).2⟩) hd
 | @buf s e v S h hS =>
  intro S' hh hSS
  exact .buf (h.moved (fun b hb=>hh b (hS b hb))) (fun b hb=>hSS b (hS b hb))
 | @agg cs vs S F hl h1 hr hF hd ih =>
  intro S' hh hSS
  exact .agg F hl h1 (fun k c hk=>ih k c hk (fun b hb=>hh b (hF k b hb)) (fun b hb=>hb)) (fun k b hb=>hSS b (hF k b hb)) hd
 | @tup cs vs S F hl hr hF hd ih =>
  intro S' hh hSS
  exact .tup F hl (fun k c hk=>ih k c hk (fun b hb=>hh b (hF k b hb)) (fun b hb=>hb)) (fun k b hb=>hSS b (hF k b hb)) hd
theorem am.mono {w:World} {I:Nat→Prop} {x:TV} {v:Value} {S S':Nat→Prop} (h:am w I x v S) (hS:∀ b,S b→S' b):am w I x v S' :=
 h.mv (fun _ _=>rfl) (fun _ h=>h) (fun _ _=>rfl) hS
theorem bq {w:World} {I:Nat→Prop} {v u:Value} (h:Rep w I (.lit v) u):u=v:=by cases h; rfl
theorem aO {w:World} {I:Nat→Prop} {v u:Value} {S:Nat→Prop} (h:am w I (.lit v) u S):u=v:=by cases h with | fr h=>exact bq h
theorem Bt {w:World} {I:Nat→Prop} {s:Nat} {xs:List (List TV)} {u:Value} {S:Nat→Prop} (h:am w I (.sl false s xs) u S):Rep w I (.sl false s xs) u:=by cases h with | fr h=>exact h
theorem qG {w:World} {I:Nat→Prop} {o:Bool} {s:Nat} {xs:List (List TV)} {u:Value} {S:Nat→Prop} (h:am w I (.sl o s xs) u S):∃ a cap,u=.slice (some a) xs.length cap:=by
 cases h with
 | fr h=>cases h; exact ⟨_,_,rfl⟩
 | sl=>exact ⟨_,_,rfl⟩
theorem eY {w:World} {I:Nat→Prop} {x:TV} {u:Value} {S:Nat→Prop} (h:am w I x u S) (hx:x.isSl=true):∃ a n cap,u=.slice a n cap:=by
 cases x with
 | lit v =>
  have:=aO h
  subst this
  cases u <;> simp [TV.isSl,bd] at hx ⊢
 | sl o s xs=>obtain ⟨a,cap,rfl⟩:=qG h; exact ⟨_,_,_,rfl⟩
 | _=>simp [TV.isSl] at hx
theorem qN {v:Value} (h:scV v=true):v.oneCell'=true:=by cases v <;> first | rfl | simp [scV] at h
theorem ec {w:World} {I:Nat→Prop} {x:TV} {u:Value} {S:Nat→Prop} (h:am w I x u S) (hx:x.isSc=true):x=.lit u∧scV u=true:=by
 cases x with
 | lit v =>
  have:=aO h
  subst this
  exact ⟨rfl,hx⟩
 | _=>simp [TV.isSc] at hx
theorem DF {w:World} {I:Nat→Prop} {x:TV} {u:Value} {S:Nat→Prop} (h:am w I x u S):Rep w I x.lf u:=by
 cases x with
 | lit v=>have:=aO h; subst this; exact .lit _
 | _=>exact .hole _
theorem l5:∀ l:List TV,vH l=l.map frz
 | []=>rfl
 | x :: l=>by simp [vH,l5 l]
theorem gp:∀ l:List (List TV),rZ l=l.map fun x=>x.map frz
 | []=>rfl
 | x :: l=>by simp [rZ,gp l,l5]
theorem Ch:∀ l:List TV,lfL l=l.map TV.lf
 | []=>rfl
 | x :: l=>by simp [lfL,Ch l]
theorem yQ:∀ l:List (List TV),lC l=l.map fun x=>x.map TV.lf
 | []=>rfl
 | x :: l=>by simp [lC,yQ l,Ch]
theorem Rep.frz {w:World} {I:Nat→Prop} {x:TV} {v:Value} (h:Rep w I x v):Rep w I (frz x) v:=by
 induction h with
 | lit v=>exact .lit v
 | hole v=>exact .hole v
 | buf e h=>exact .hole _
 | @sl size xs a cap cell hI hc hm hl hcell h1 _ ih =>
  simp only [Ab.frz,gp]
  have hlen:(xs.map fun x=>x.map Ab.frz).length=xs.length:=by simp
  have key:Rep w I (.sl false size (xs.map fun x=>x.map Ab.frz)) (.slice (some a) (xs.map fun x=>x.map Ab.frz).length cap):=by
   refine .sl cell (by rw [hlen]; exact hI) (by rw [hlen]; exact hc) hm (fun x hx=>?_) (by rw [hlen]; exact hcell) (by rw [hlen]; exact h1) (fun i y hy j c hj=>?_)
   ·obtain ⟨y,hy,rfl⟩:=List.mem_map.1 hx
    simpa using hl y hy
   ·rw [Et] at hy
    cases hxi:xs[i]? with
    | none=>simp [hxi] at hy
    | some x =>
     simp only [hxi,EA,Eo] at hy
     subst hy
     rw [Et] at hj
     cases hxj:x[j]? with
     | none=>simp [hxj] at hj
     | some c' =>
      simp only [hxj,EA,Eo] at hj
      subst hj
      exact ih i x hxi j c' hxj
  rwa [hlen] at key
 | @agg cs vs hl h1 _ ih =>
  simp only [Ab.frz,l5]
  refine .agg (by simpa using hl) h1 (fun j c hj=>?_)
  rw [Et] at hj
  cases hxj:cs[j]? with
  | none=>simp [hxj] at hj
  | some c'=>simp only [hxj,EA,Eo] at hj; subst hj; exact ih j c' hxj
 | @tup cs vs hl _ ih =>
  simp only [Ab.frz,l5]
  refine .tup (by simpa using hl) (fun j c hj=>?_)
  rw [Et] at hj
  cases hxj:cs[j]? with
  | none=>simp [hxj] at hj
  | some c'=>simp only [hxj,EA,Eo] at hj; subst hj; exact ih j c' hxj
theorem am.frz {w:World} {I I':Nat→Prop} (hI:∀ b,I b→I' b) {x:TV} {v:Value} {S:Nat→Prop} (h:am w I x v S):(∀ b,S b→I' b)→Rep w I' (frz x) v:=by
 induction h with
 | fr h=>intro _; exact (h.mv (fun _ _=>rfl) hI).frz
 | buf _ _=>intro _; exact .hole _
 | @sl size xs a cap S us vs ty F hS row hl hr hF hd ih =>
  intro hSI
  simp only [Ab.frz,gp]
  have hlen:(xs.map fun x=>x.map Ab.frz).length=xs.length:=by simp
  have key:Rep w I' (.sl false size (xs.map fun x=>x.map Ab.frz)) (.slice (some a) (xs.map fun x=>x.map Ab.frz).length cap):=by
   refine .sl (fun k=>us.getD k undef) (fun _=>hSI _ hS) (by rw [hlen]; exact row.le) row.max (fun x hx=>?_) (fun k hk=>?_) (fun k hk=>?_) (fun i y hy j c hj=>?_)
   ·obtain ⟨y,hy,rfl⟩:=List.mem_map.1 hx
    simpa using hl y hy
   ·rw [hlen] at hk
    have:k < us.length:=by rw [row.len]; exact hk
    exact row.cell (by simp [En this])
   ·rw [hlen] at hk
    have:k < us.length:=by rw [row.len]; exact hk
    simp only [EB,En this,Option.getD_some]
    exact row.one _ (List.getElem_mem this)
   ·rw [Et] at hy
    cases hxi:xs[i]? with
    | none=>simp [hxi] at hy
    | some x =>
     simp only [hxi,EA,Eo] at hy
     subst hy
     rw [Et] at hj
     cases hxj:x[j]? with
     | none=>simp [hxj] at hj
     | some c' =>
      simp only [hxj,EA,Eo] at hj
      subst hj
      exact ih _ c' (cQ hl hxi hxj) (fun b hb=>hSI b (hF _ b hb).1)
  rwa [hlen] at key
 | @agg cs vs S F hl h1 hr hF hd ih =>
  intro hSI
  simp only [Ab.frz,l5]
  refine .agg (by simpa using hl) h1 (fun j c hj=>?_)
  rw [Et] at hj
  cases hxj:cs[j]? with
  | none=>simp [hxj] at hj
  | some c'=>simp only [hxj,EA,Eo] at hj; subst hj; exact ih j c' hxj (fun b hb=>hSI b (hF j b hb))
 | @tup cs vs S F hl hr hF hd ih =>
  intro hSI
  simp only [Ab.frz,l5]
  refine .tup (by simpa using hl) (fun j c hj=>?_)
  rw [Et] at hj
  cases hxj:cs[j]? with
  | none=>simp [hxj] at hj
  | some c'=>simp only [hxj,EA,Eo] at hj; subst hj; exact ih j c' hxj (fun b hb=>hSI b (hF j b hb))
theorem fI:∀ {l:List TV},eR l=true→∀ x ∈ l,cb x=true
 | [],_,x,hx=>by simp at hx
 | y :: l,h,x,hx=>by
  simp only [eR,Ep] at h
  rcases List.mem_cons.1 hx with rfl | hx
  ·exact h.1
  ·exact fI h.2 x hx
theorem pR:∀ {l:List (List TV)},ma l=true→∀ x ∈ l,eR x=true
 | [],_,x,hx=>by simp at hx
 | y :: l,h,x,hx=>by
  simp only [ma,Ep] at h
  rcases List.mem_cons.1 hx with rfl | hx
  ·exact h.1
  ·exact pR h.2 x hx
theorem Rep.own {w:World} {I I':Nat→Prop} {x:TV} {v:Value} (h:Rep w I x v):cb x=true→Rep w I' x v:=by
 induction h with
 | lit v=>intro _; exact .lit v
 | hole v=>intro _; exact .hole v
 | buf e h=>intro _; exact .buf e h
 | sl=>intro h; simp [cb] at h
 | @agg cs vs hl h1 _ ih=>intro h; simp only [cb] at h; exact .agg hl h1 (fun j c hj=>ih j c hj (fI h c (Ew hj)))
 | @tup cs vs hl _ ih=>intro h; simp only [cb] at h; exact .tup hl (fun j c hj=>ih j c hj (fI h c (Ew hj)))
theorem am.own {w:World} {I I':Nat→Prop} {x:TV} {v:Value} {S:Nat→Prop} (h:am w I x v S):cb x=true→am w I' x v S:=by
 induction h with
 | fr h=>intro ho; exact .fr (h.own ho)
 | buf h hS=>intro _; exact .buf h hS
 | @sl size xs a cap S us vs ty F hS row hl hr hF hd ih =>
  intro ho
  simp only [cb,Bool.true_and] at ho
  refine .sl us vs ty F hS row hl (fun k c hk=>ih k c hk ?_) hF hd
  obtain ⟨x,hx,hc⟩:=List.mem_flatten.1 (Ew hk)
  exact fI (pR ho x hx) c hc
 | @agg cs vs S F hl h1 hr hF hd ih=>intro ho; simp only [cb] at ho; exact .agg F hl h1 (fun j c hj=>ih j c hj (fI ho c (Ew hj))) hF hd
 | @tup cs vs S F hl hr hF hd ih=>intro ho; simp only [cb] at ho; exact .tup F hl (fun j c hj=>ih j c hj (fI ho c (Ew hj))) hF hd
end Go.Ab
end
section
namespace Go.Ab
open Go.RowKit
def TV.nd (x:TV):Option (Nat × Nat):=match x with | .sl _ s xs=>some (s,xs.length) | _=>none
def Node (w:World):Way→TV→Value→Value→Option (Nat × Nat)→Prop
 | [],x,u,v,nd=>v=u∧nd=x.nd
 | (k,j) :: p,x,u,v,nd=>∃ o s xs a n cap e y u',x=.sl o s xs∧u=.slice (some a) n cap∧xs[k]? = some e∧e[j]? = some y∧w.cell? (a.add (k * s + j))=some u'∧Node w p y u' v nd
section
variable {w w':World} {I I':Nat→Prop} {x y:TV} {u v:Value} {S:Nat→Prop}
theorem getD_some {l:List Value} {k:Nat} {u:Value} (h:l[k]? = some u):l.getD k undef=u:=by simp [h]
theorem am.child {o:Bool} {s:Nat} {xs:List (List TV)} (h:am w I (.sl o s xs) u S) {k j:Nat} {e:List TV} {y:TV} (hk:xs[k]? = some e) (hj:e[j]? = some y) :
  ∃ a cap u' S',u=.slice (some a) xs.length cap∧w.cell? (a.add (k * s + j))=some u'∧u'.oneCell'=true∧am w I y u' S'∧(∀ b,S' b→S b)∧(S a.block∨I a.block)∧e.length=s:=by
 have hlt:k < xs.length:=(Em.1 hk).1
 cases h with
 | fr h =>
  cases h with
  | @sl _ _ a cap cell hI hc hm hl hcell h1 hr =>
   have hel:=hl e (Ew hk)
   have hf:k * s + j < xs.length * s:=by
    have hj':=(Em.1 hj).1
    have:=Nat.mul_le_mul_right s (Nat.succ_le_of_lt hlt)
    rw [Nat.succ_mul] at this
    omega
   exact ⟨a,cap,_,fun _=>False,rfl,hcell _ hf,h1 _ hf,.fr (hr k e hk j y hj),fun _ h=>h.elim,.inr (hI (by omega)),hel⟩
 | @sl _ _ a cap S us vs ty F hS row hl hr hF hd =>
  have hel:=hl e (Ew hk)
  have hfg:=cQ hl hk hj
  have hlt2:k * s + j < us.length:=by
   rw [row.len,← bM hl]
   exact (Em.1 hfg).1
  have hu:=En hlt2
  refine ⟨a,cap,us[k * s + j],F (k * s + j),rfl,row.cell hu,row.one _ (List.getElem_mem hlt2),?_,fun b hb=>(hF _ b hb).1,.inl hS,hel⟩
  have:=hr _ _ hfg
  rwa [getD_some hu] at this
theorem Node.mv:∀ {p:Way} {x:TV} {u v:Value} {nd:Option (Nat × Nat)} {S:Nat→Prop},am w I x u S→(∀ b,I b→w'.heap[b]? = w.heap[b]?)→(∀ b,S b→w'.heap[b]? = w.heap[b]?)→Node w p x u v nd→Node w' p x u v nd
 | [],x,u,v,nd,S,_,_,_,h=>h
 | (k,j) :: p,x,u,v,nd,S,hr,hI,hS,⟨o,s,xs,a,n,cap,e,y,u',hx,hu,he,hy,hc,h⟩=>by
  subst hx
  obtain ⟨a',cap',u2,S',h1,h2,h3,h4,h5,h6,h7⟩:=hr.child he hy
  rw [hu] at h1
  cases h1
  rw [hc] at h2
  cases h2
  refine ⟨o,s,xs,a,_,_,e,y,u',rfl,hu,he,hy,?_,Node.mv h4 hI (fun b hb=>hS b (h5 b hb)) h⟩
  rw [← hc]
  refine World.cell?_of_block ?_
  rw [ea]
  rcases h6 with h6 | h6
  ·exact hS _ h6
  ·exact hI _ h6
theorem am.get:∀ {p:Way} {x y:TV} {u:Value} {S:Nat→Prop},am w I x u S→bu p x=some y→∃ v S',Node w p x u v y.nd∧am w I y v S'∧(∀ b,S' b→S b)∧(p≠[]→v.oneCell'=true)
 | [],x,y,u,S,hr,h=>by
  simp only [bu,Eo] at h
  subst h
  exact ⟨u,S,⟨rfl,rfl⟩,hr,fun _ h=>h,fun h=>absurd rfl h⟩
 | (k, j) :: p, x, y, u, S, hr, h => by
  cases x with
  | sl o s xs =>
   simp only [bu] at h
   cases he:xs[k]? with
   | none=>simp [he] at h
   | some e =>
    simp only [he] at h
    cases hz:e[j]? with
    | none=>simp [hz] at h
    | some z =>
     simp only [hz] at h
     obtain ⟨a,cap,u',S1,h1,h2,h3,h4,h5,h6,h7⟩:=hr.child he hz
     obtain ⟨v,S2,n1,n2,n3,n4⟩:=am.get h4 h
     refine ⟨v,S2,⟨o,s,xs,a,_,cap,e,z,u',rfl,h1,he,hz,h2,n1⟩,n2,fun b hb=>h5 b (n3 b hb),fun _=>?_⟩
     cases p with
     | nil=>rw [n1.1]; exact h3
     | cons=>exact n4 (by simp)
  | _=>simp [bu] at h
theorem Node.unique:∀ {p:Way} {x:TV} {u v v':Value} {nd nd':Option (Nat × Nat)},Node w p x u v nd→Node w p x u v' nd'→v=v'∧nd=nd'
 | [],x,u,v,v',nd,nd',h,h'=>⟨h.1.trans h'.1.symm,h.2.trans h'.2.symm⟩
 | (k,j) :: p,x,u,v,v',nd,nd',⟨o,s,xs,a,n,cap,e,y,u',hx,hu,he,hy,hc,h⟩,⟨o2,s2,xs2,a2,n2,cap2,e2,y2,u2,hx2,hu2,he2,hy2,hc2,h2⟩=>by
  subst hx
  cases hx2
  subst hu
  cases hu2
  rw [he] at he2
  cases he2
  rw [hy] at hy2
  cases hy2
  rw [hc] at hc2
  cases hc2
  exact Node.unique h h2
theorem am.sub : ∀ {p : Way} {x y : TV} {u : Value} {S : Nat → Prop}, am w I x u S → bu p x = some y →
  ∃ v Sy, am w I y v Sy ∧ (∀ b, Sy b → S b) ∧ Node w p x u v y.nd ∧ (p ≠ [] → v.oneCell' = true) ∧
   ∀ (w':World) (I':Nat→Prop) (y' x':TV) (S':Nat→Prop),jb p x y'=some x'→(∀ b,I b→w'.heap[b]? = w.heap[b]?)→(∀ b,I b→I' b)→(∀ b,S b→¬ Sy b→w'.heap[b]? = w.heap[b]?) →
    am w' I' y' v S'→(∀ b,S' b→S b→Sy b)→am w' I' x' u (fun b=>(S b∧¬ Sy b)∨S' b) ∧
    ∀ (q:Way) (v':Value) (nd:Option (Nat × Nat)),(∀ q',q=p ++ q'→Node w q' y v v' nd→Node w' q' y' v v' nd)→Node w q x u v' nd→Node w' q x' u v' nd
 | [],x,y,u,S,hr,h=>by
  simp only [Ab.bu,Eo] at h
  subst h
  refine ⟨u,S,hr,fun _ h=>h,⟨rfl,rfl⟩,fun h=>absurd rfl h,?_⟩
  intro w' I' y' x' S' hs hI hII hh hr' hd
  simp only [jb,Eo] at hs
  subst hs
  exact ⟨hr'.mono (fun b hb=>.inr hb),fun q v' nd hq hn=>hq q rfl hn⟩
 | (k, j) :: p, x, y, u, S, hr, h => by
  cases x with
  | sl o s xs =>
   simp only [Ab.bu] at h
   cases he:xs[k]? with
   | none=>simp [he] at h
   | some e =>
    simp only [he] at h
    cases hz:e[j]? with
    | none=>simp [hz] at h
    | some z =>
     simp only [hz] at h
     cases o with
     | false =>
      obtain ⟨v,S',n1,n2,n3,n4⟩:=am.get (p:=(k,j) :: p) (y:=y) hr (by simp only [Ab.bu,he,hz,h])
      refine ⟨v,S',n2,n3,n1,n4,?_⟩
      intro w' I' y' x' S2 hs
      simp [jb] at hs
     | true =>
      cases hr with
      | fr h=>cases h
      | @sl _ _ a cap S us vs ty F hS row hl hr hF hd =>
       have hel:=hl e (Ew he)
       have hjl:j < e.length:=(Em.1 hz).1
       have hfg:=cQ hl he hz
       have hlt2:k * s + j < us.length:=by
        rw [row.len,← bM hl]
        exact (Em.1 hfg).1
       have hu:=En hlt2
       have hrz:=hr _ _ hfg
       rw [getD_some hu] at hrz
       obtain ⟨v,Sy,m1,m2,m3,m4,m5⟩:=am.sub hrz h
       have hSyF:∀ b,Sy b→F (k * s + j) b:=m2
       refine ⟨v,Sy,m1,fun b hb=>(hF _ b (m2 b hb)).1,⟨true,s,xs,a,_,cap,e,z,us[k * s + j],rfl,rfl,he,hz,row.cell hu,m3⟩,fun _=>?_,?_⟩
       ·cases p with
        | nil=>rw [m3.1]; exact row.one _ (List.getElem_mem hlt2)
        | cons=>exact m4 (by simp)
       intro w' I' y' x' S' hs hI hII hh hr' hdis
       simp only [jb,he,hz] at hs
       cases hz':jb p z y' with
       | none=>simp [hz'] at hs
       | some z' =>
        simp only [hz',Eo,ai] at hs
        subst hs
        have hablk:¬ Sy a.block:=fun hb=>(hF _ _ (m2 _ hb)).2 rfl
        obtain ⟨r1,r2⟩:=m5 w' I' y' z' S' hz' hI hII (fun b hb hn=>hh b (hF _ b hb).1 hn) hr' (fun b hb hb2=>hdis b hb (hF _ b hb2).1)
        have hset:e.set j z'=spl e j [z']:=by
         apply List.ext_getElem?
         intro m
         rw [bA (by simp; omega),List.getElem?_set]
         by_cases hjm:j=m
         ·subst hjm; simp [hjl]
         ·rw [if_neg hjm,if_neg (by simp; omega)]
        obtain ⟨f1,f2⟩:=xn (ys:=[z']) hl he (by simp; omega:j + [z'].length≤e.length)
        have hlen:(xs.set k (e.set j z')).length=xs.length:=by simp
        have hrow:Row w' a (xs.set k (e.set j z')).length cap s us vs ty:=by
         rw [hlen]
         exact ⟨by rw [hh _ hS hablk]; exact row.heap,row.spot,row.le,row.max,row.fit,row.len,row.cells,row.one⟩
        have hother:∀ m c,m≠k * s + j→xs.flatten[m]? = some c→am w' I' c (us.getD m undef) (F m):=fun m c hm hc =>
         (hr m c hc).mv hI hII (fun b hb=>hh b (hF m b hb).1 (fun hs=>hm (hd m _ b hb (m2 b hs)))) (fun _ h=>h)
        constructor
        ·have key:am w' I' (.sl true s (xs.set k (e.set j z'))) (.slice (some a) (xs.set k (e.set j z')).length cap) (fun b=>(S b∧¬ Sy b)∨S' b):=by
          refine .sl us vs ty (fun m b=>if m=k * s + j then (F (k * s + j) b∧¬ Sy b)∨S' b else F m b) (.inl ⟨hS,hablk⟩) hrow (yZ hl (by simp [hel])) (fun m c hc=>?_) (fun m b hb=>?_) (fun m m' b hb hb'=>?_)
          ·rw [hset,f1,bA f2] at hc
           by_cases hm:m=k * s + j
           ·subst hm
            simp only [List.length_singleton,Nat.sub_self] at hc
            rw [if_pos (by omega)] at hc
            simp only [List.getElem?_cons_zero,Eo] at hc
            subst hc
            simp only [if_true]
            rw [getD_some hu]
            exact r1
           ·rw [if_neg (by simp only [List.length_singleton]; omega)] at hc
            simp only [hm,if_false]
            exact hother m c hm hc
          ·by_cases hm:m=k * s + j
           ·subst hm
            simp only [if_true] at hb
            rcases hb with ⟨h1,h2⟩ | h1
            ·exact ⟨.inl ⟨(hF _ b h1).1,h2⟩,(hF _ b h1).2⟩
            ·exact ⟨.inr h1,fun e=>by subst e; exact hablk (hdis _ h1 hS)⟩
           ·simp only [hm,if_false] at hb
            exact ⟨.inl ⟨(hF _ b hb).1,fun hs=>hm (hd _ _ b hb (m2 b hs))⟩,(hF _ b hb).2⟩
          ·by_cases hm:m=k * s + j <;> by_cases hm':m'=k * s + j
           ·rw [hm,hm']
           ·simp only [hm,hm',if_true,if_false] at hb hb'
            rcases hb with ⟨h1,h2⟩ | h1
            ·exact hm ▸ hd _ _ b h1 hb'
            ·exact hm ▸ hd _ _ b (m2 b (hdis b h1 (hF _ b hb').1)) hb'
           ·simp only [hm,hm',if_true,if_false] at hb hb'
            rcases hb' with ⟨h1,h2⟩ | h1
            ·exact hm' ▸ hd _ _ b hb h1
            ·exact hm' ▸ hd _ _ b hb (m2 b (hdis b h1 (hF _ b hb).1))
           ·simp only [hm,hm',if_false] at hb hb'
            exact hd _ _ b hb hb'
         rwa [hlen] at key
        ·intro q v' nd hq hn
         cases q with
         | nil =>
          obtain ⟨e1,e2⟩:=hn
          exact ⟨e1,by rw [e2]; simp [TV.nd]⟩
         | cons kj q =>
          obtain ⟨k1,j1⟩:=kj
          obtain ⟨o2,s2,xs2,a2,n2,cap2,e2,y2,u2,hx2,hu2,he2,hy2,hc2,hn2⟩:=hn
          cases hx2
          cases hu2
          have hblk:∀ m,w'.cell? (a.add m)=w.cell? (a.add m):=fun m=>World.cell?_of_block (by rw [ea]; exact hh _ hS hablk)
          by_cases hk1:k1=k
          ·subst hk1
           rw [he] at he2
           cases he2
           have hk2:k1 < xs.length:=(Em.1 he).1
           by_cases hj1:j1=j
           ·subst hj1
            rw [hz] at hy2
            cases hy2
            have:u2=us[k1 * s + j1]:=by rw [row.cell hu] at hc2; exact (Option.some.inj hc2).symm
            subst this
            refine ⟨true,s,_,a,_,cap,e.set j1 z',z',us[k1 * s + j1],rfl,rfl,by rw [List.getElem?_set_self hk2],by rw [List.getElem?_set_self hjl],by rw [hblk]; exact hc2,?_⟩
            exact r2 q v' nd (fun q' hq'=>hq q' (by rw [hq']; rfl)) hn2
           ·refine ⟨true,s,_,a,_,cap,e.set j z',y2,u2,rfl,rfl,by rw [List.getElem?_set_self hk2],by rw [List.getElem?_set_ne (fun h=>hj1 h.symm)]; exact hy2,by rw [hblk]; exact hc2,?_⟩
            have hfg2:=cQ hl he hy2
            have hm:k1 * s + j1≠k1 * s + j:=by omega
            have hr2:=hr _ _ hfg2
            have hlt3:k1 * s + j1 < us.length:=by rw [row.len,← bM hl]; exact (Em.1 hfg2).1
            rw [getD_some (En hlt3)] at hr2
            have:u2=us[k1 * s + j1]:=by rw [row.cell (En hlt3)] at hc2; exact (Option.some.inj hc2).symm
            subst this
            exact Node.mv hr2 hI (fun b hb=>hh b (hF _ b hb).1 (fun hs=>hm (hd _ _ b hb (m2 b hs)))) hn2
          ·refine ⟨true,s,_,a,_,cap,e2,y2,u2,rfl,rfl,by rw [List.getElem?_set_ne (fun h=>hk1 h.symm)]; exact he2,hy2,by rw [hblk]; exact hc2,?_⟩
           have hfg2:=cQ hl he2 hy2
           have hel2:=hl e2 (Ew he2)
           have hj2:j1 < e2.length:=(Em.1 hy2).1
           have hm:k1 * s + j1≠k * s + j:=by
            intro heq
            rcases Nat.lt_or_gt_of_ne hk1 with h' | h'
            ·have:=Nat.mul_le_mul_right s (Nat.succ_le_of_lt h')
             rw [Nat.succ_mul] at this
             omega
            ·have:=Nat.mul_le_mul_right s (Nat.succ_le_of_lt h')
             rw [Nat.succ_mul] at this
             omega
           have hr2:=hr _ _ hfg2
           have hlt3:k1 * s + j1 < us.length:=by rw [row.len,← bM hl]; exact (Em.1 hfg2).1
           rw [getD_some (En hlt3)] at hr2
           have:u2=us[k1 * s + j1]:=by rw [row.cell (En hlt3)] at hc2; exact (Option.some.inj hc2).symm
           subst this
           exact Node.mv hr2 hI (fun b hb=>hh b (hF _ b hb).1 (fun hs=>hm (hd _ _ b hb (m2 b hs)))) hn2
  | _=>simp [Ab.bu] at h
end
end Go.Ab
end

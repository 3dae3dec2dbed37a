import Derived.Test.YtjdjnejdjhfmcaaIA10F5
import Derived.OpenShut
set_option linter.all false
section
set_option maxRecDepth 10000
namespace Go.Ab
def Dj (b:DBlock):Prop:=b.ins.length≤70∧b.pad.catches.length≤20∧b.fin.args.length≤20∧∀ i,i < b.ins.length→∀ x,b.ins[i]? = some x→x.args.length≤20
def Dc (f:DFunc):Prop:=f.blocks.length≤70∧∀ i,i < f.blocks.length→∀ b,f.blocks[i]? = some b→Dj b
def oS (m:DMod):Prop:=m.funcs.length≤20∧∀ i,i < m.funcs.length→∀ f,m.funcs[i]? = some f→Dc f
def lH:TV→List (List TV)
 | .sl _ _ xs=>xs
 | _=>[]
theorem BS {β:Type} {l:List β} {i:Nat} {a:β} (h:l[i]? = some a):l.set i a=l:=by
 apply List.ext_getElem?
 intro j
 rw [List.getElem?_set]
 by_cases hj:i=j
 ·subst hj; have:=(EJ.1 h).1; simp only [if_true,this]; rw [h]
 ·simp [hj]
def RP {α:Type} (s:Nat) (R:Nat→List TV→α→Prop) (x:TV) (l:List α):Prop :=
 (x=.lit aI∧l=[])∨∃ xs,x=.sl true s xs∧xs.length=l.length∧xs.length≤9223372036854775807∧∀ i e a,xs[i]? = some e→l[i]? = some a→R i e a
section
variable {α:Type} {s:Nat} {R S:Nat→List TV→α→Prop} {x:TV} {l:List α}
theorem d6 {β:Type}:∀ (l:List β) (n:Nat) (b:β),(ao l n b).length=l.length
 | [],_,_=>rfl
 | _ :: _,0,_=>rfl
 | a :: l,n + 1,b=>by simp [ao,d6 l n b]
theorem rL {β:Type}:∀ (l:List β) (n:Nat) (b:β) (i:Nat),n < l.length→(ao l n b)[i]? = if i=n then some b else l[i]?
 | [],_,_,_,h=>by simp at h
 | _ :: _,0,_,0,_=>rfl
 | _ :: _,0,_,i + 1,_=>by simp [ao]
 | a :: l,n + 1,b,0,_=>by simp [ao]
 | a :: l,n + 1,b,i + 1,h=>by
  have:=rL l n b i (by simpa using h)
  simp [ao,this]
theorem RP.slLen (h:RP s R x l):Go.Ab.slLen x=some l.length:=by
 rcases h with ⟨rfl,rfl⟩ | ⟨xs,rfl,hl,hb,h⟩
 ·rfl
 ·simp [Go.Ab.slLen,hl]
theorem RP.slSize (h:RP s R x l):Go.Ab.slSize x s=true:=by
 rcases h with ⟨rfl,rfl⟩ | ⟨xs,rfl,hl,hb,h⟩
 ·rfl
 ·simp [Go.Ab.slSize]
theorem RP.row (h:RP s R x l) {i:Nat} {a:α} (hi:l[i]? = some a):∃ e,Go.Ab.pel x i=some e∧R i e a∧(∀ j y,e[j]? = some y→aF [(i,j)] x=some y) ∧
  ∀ j ys,bI [] x i j ys=some (.sl true s (ao (lH x) i (bo e j ys))):=by
 rcases h with ⟨rfl,rfl⟩ | ⟨xs,rfl,hl,hb,h⟩
 ·simp at hi
 ·have hlt:=(EJ.1 hi).1
  have hx:xs[i]? = some (xs[i]'(by omega)):=EK _
  refine ⟨_,hx,h i _ a hx hi,fun j y hy=>?_,fun j ys=>?_⟩
  ·simp only [aF,hx,hy]
  ·simp only [bI,aF,mG,hx,kC,lH]
theorem RP.EI (h:RP s R x l) {i:Nat} {a b:α} (hi:l[i]? = some a) {e:List TV} (hS:S i e b) (hR:∀ j e c,j≠i→R j e c→S j e c):RP s S (.sl true s (ao (lH x) i e)) (l.set i b):=by
 rcases h with ⟨rfl,rfl⟩ | ⟨xs,rfl,hl,hb,h⟩
 ·simp at hi
 ·have hlt:=(EJ.1 hi).1
  refine .inr ⟨_,rfl,by simp [d6,lH,hl],by simp [d6,lH,hb],fun j e' c hj hc=>?_⟩
  rw [rL _ _ _ _ (by simp only [lH]; omega)] at hj
  simp only [lH] at hj
  rw [List.getElem?_set] at hc
  by_cases hji:j=i
  ·subst hji
   simp [hlt] at hj hc
   subst hj hc
   exact hS
  ·rw [if_neg hji] at hj
   rw [if_neg (fun h=>hji h.symm)] at hc
   exact hR j _ _ hji (h j _ _ hj hc)
theorem RP.set (h:RP s R x l) {i:Nat} {a:α} (hi:l[i]? = some a) {e:List TV} (hS:S i e a) (hR:∀ j e c,j≠i→R j e c→S j e c):RP s S (.sl true s (ao (lH x) i e)) l:=by
 have:=RP.EI h hi hS hR
 rwa [BS hi] at this
theorem RP.toRL {T:List TV→α→Prop} (h:RP s R x l) (hm:∀ i e a,i < l.length→R i e a→T e a):RL (some true) s T x l:=by
 rcases h with ⟨rfl,rfl⟩ | ⟨xs,rfl,hl,hb,h⟩
 ·exact .nil
 ·refine .sl (by simp) (F2.ns hl fun i e a he ha=>hm i e a ?_ (h i e a he ha)) hb
  exact (EJ.1 ha).1
theorem RL.toRP {T:List TV→α→Prop} (h:RL (some true) s T x l) (hm:∀ i e a,T e a→R i e a):RP s R x l:=by
 rcases h with ⟨rfl,rfl⟩ | ⟨o,xs,rfl,hq,h,hb⟩
 ·exact .inl ⟨rfl,rfl⟩
 ·have:o=true:=hq true rfl
  subst this
  refine .inr ⟨xs,rfl,h.length,hb,fun i e a he ha=>?_⟩
  obtain ⟨e',he',hr⟩:=h.get ha
  rw [he] at he'
  cases he'
  exact hm _ _ _ hr
end
theorem qx:∀ (xs:List (List TV)),(∀ e ∈ xs,aV e=true)→mc xs=true
 | [],_=>rfl
 | e :: xs,h=>by
  simp only [mc,EM]
  exact ⟨h e EQ,qx xs fun e he=>h e (ER _ he)⟩
theorem F2.memL {α β:Type} {R:α→β→Prop} {xs:List α} {l:List β} (h:F2 R xs l) {e:α} (he:e ∈ xs):∃ a,a ∈ l∧R e a:=by
 obtain ⟨i,hi,rfl⟩:=List.mem_iff_getElem.1 he
 obtain ⟨a,ha,hr⟩:=h.getL (EK hi)
 exact ⟨a,ES ha,hr⟩
theorem RL.own {α:Type} {s:Nat} {R:List TV→α→Prop} {x:TV} {l:List α} (h:RL (some true) s R x l) (hm:∀ e a,R e a→aV e=true):isOwn x=true:=by
 rcases h with ⟨rfl,rfl⟩ | ⟨o,xs,rfl,hq,h,hb⟩
 ·rfl
 ·rw [hq true rfl]
  simp only [isOwn,Bool.true_and]
  refine qx _ fun e he=>?_
  obtain ⟨a,_,hr⟩:=h.memL he
  exact hm _ _ hr
theorem RI1.own {e:List TV} {n:Int} (h:RI1 e n):aV e=true:=by obtain ⟨rfl,_⟩:=h; rfl
theorem RW1.own {e:List TV} {n:Int} (h:RW1 e n):aV e=true:=by obtain ⟨rfl,_⟩:=h; rfl
theorem RB1.own {e:List TV} {n:Bool} (h:RB1 e n):aV e=true:=by cases h; rfl
theorem oj {α:Type} {q:Option Bool} {s:Nat} {R:List TV→α→Prop} {x:TV} {l:List α} (h:RL q s R x l) (z:List TV) {xs:List (List TV)} (hx:pelems s x=some xs):∃ y,pcopy s (.sl true s (List.replicate l.length z)) xs=some y∧RL (some true) s R y l:=by
 have hl:F2 R xs l∧xs.length≤9223372036854775807:=by
  rcases h with ⟨rfl,rfl⟩ | ⟨o,ys,rfl,hq,h,hb⟩
  ·change some []=some xs at hx; cases hx; exact ⟨.nil,by simp⟩
  ·simp [pelems] at hx; subst hx; exact ⟨h,hb⟩
 have hlen:=hl.1.length
 refine ⟨.sl true s (xs.take l.length ++ (List.replicate l.length z).drop xs.length),by simp [pcopy],?_⟩
 rw [← hlen,List.take_length,List.drop_eq_nil_of_le (by simp),List.append_nil]
 exact .sl (by simp) hl.1 hl.2
end Go.Ab
namespace Go.Ab.A10
open Go Go.Ab Go.Proofs
theorem r7 {q : Option Bool} {e : List TV} {m : DMod} (hm : RMod q e m) : ∃ b, ak prog 14 [.agg e] (B b) ∧ (b = true → oS m) := by
 obtain ⟨x,rfl,hx⟩:=hm
 have no:∀ {p:Prg TV},aa prog 14 p (B false)→∃ b,aa prog 14 p (B b)∧(b=true→oS m):=fun h=>⟨false,h,fun h=>nomatch h⟩
 by_cases hlen:m.funcs.length≤20
 ·have outer : ∀ d i (n : Int), i + d = m.funcs.length → 0 ≤ n → n ≤ (i : Int) * 4900 → (∀ j, j < i → ∀ f, m.funcs[j]? = some f → Dc f) → ∃ b, aa prog 14 (f14_0 (I n) (I i) x) (B b) ∧ (b = true → oS m) := by
   intro d
   induction d with
   | zero =>
    intro i n hi h0 hn hs
    have hi:i=m.funcs.length:=by omega
    subst hi
    refine ⟨decide (n≤2000),?_,fun _=>⟨hlen,hs⟩⟩
    unfold f14_0
    refine aa.tv (RL.len (by assumption)) (aa.tv rfl (aa.ite aZ (fun h=>nomatch h) fun _=>?_))
    exact aa.tv rfl aa.ret
   | succ d ih =>
    intro i n hi h0 hn hs
    have hk:i < m.funcs.length:=by omega
    have ha:m.funcs[i]? = some m.funcs[i]:=EK hk
    obtain ⟨e,he,hr⟩:=hx.idx (k:=.i64) ha
    generalize m.funcs[i]=f at ha hr
    obtain ⟨y,rfl,hy,_⟩:=hr
    by_cases hbl:f.blocks.length≤70
    ·have mid : ∀ d k (n : Int), k + d = f.blocks.length → 0 ≤ n → n ≤ (i : Int) * 4900 + k * 70 → (∀ j, j < k → ∀ b, f.blocks[j]? = some b → Dj b) → ∃ b, aa prog 14 (f14_1 (I n) (I i) (I k) x) (B b) ∧ (b = true → oS m) := by
      intro d
      induction d with
      | zero =>
       intro k n hk' h0 hn hsb
       have hk':k=f.blocks.length:=by omega
       subst hk'
       obtain ⟨b,hb,himp⟩:=ih (i + 1) n (by omega) h0 (by simp; omega) (fun j hj g hg=>by
        by_cases hji:j=i
        ·subst hji; rw [ha] at hg; cases hg; exact ⟨hbl,fun j hj=>hsb j hj⟩
        ·exact hs j (by omega) g hg)
       refine ⟨b,?_,himp⟩
       unfold f14_1
       refine aa.tvs he (aa.chk rfl (aa.tv hy.len (aa.tv rfl (aa.ite aZ (fun h=>nomatch h) fun _=>?_))))
       exact aa.tv (inc hk hx.bnd) (f14_0_J hb)
      | succ d ihm =>
       intro k n hk' h0 hn hsb
       have hkb:k < f.blocks.length:=by omega
       have hab:f.blocks[k]? = some f.blocks[k]:=EK hkb
       obtain ⟨e2,he2,hr2⟩:=hy.idx (k:=.i64) hab
       generalize f.blocks[k]=b at hab hr2
       obtain ⟨c,is,g,rfl,hc,hd,his,hg,ho⟩:=hr2
       have start:∀ r,(¬ (b.ins.length≤70∧b.pad.catches.length≤20∧b.fin.args.length≤20)→r=B false)→(b.ins.length≤70∧b.pad.catches.length≤20∧b.fin.args.length≤20→aa prog 14 (f14_2 (I (n + b.ins.length)) (I i) (I k) (I (0:Nat)) x (B b.landing) (I b.pad.dst) c (B b.pad.all) (B b.pad.cleanup) is (I b.fin.kind) (I b.fin.a) (I b.fin.dst) (I b.fin.f) g (I b.fin.to) (I b.fin.els) (I b.fin.pad)) r)→aa prog 14 (f14_1 (I n) (I i) (I k) x) r:=by
        intro r h1 h2
        unfold f14_1
        refine aa.tvs he (aa.chk rfl (aa.tv hy.len (aa.tv rfl (aa.ite (aK hkb) (fun _=>?_) fun h=>nomatch h))))
        refine aa.tvs he (aa.chk rfl (aa.tvs he2 (aa.chk rfl (aa.tv his.len (aa.tv rfl (aa.ite rfl (fun h=>?_) fun g1=>?_))))))
        ·rw [h1 (by simp at h; omega)]; exact aa.ret
        ·refine aa.tv hc.len (aa.tv rfl (aa.ite rfl (fun h=>?_) fun g2=>?_))
         ·rw [h1 (by simp at h; omega)]; exact aa.ret
         ·refine aa.tv hg.len (aa.tv rfl (aa.ite rfl (fun h=>?_) fun g3=>?_))
          ·rw [h1 (by simp at h; omega)]; exact aa.ret
          ·simp at g1 g2 g3
           refine aa.tv his.len (aa.tv (padd (by constructor <;> omega)) (f14_2_J (h2 ⟨by omega,by omega,by omega⟩)))
       by_cases hsz:b.ins.length≤70∧b.pad.catches.length≤20∧b.fin.args.length≤20
       ·have inner:∀ d j,j + d=b.ins.length→(∀ t,t < j→∀ x,b.ins[t]? = some x→x.args.length≤20)→∃ r,aa prog 14 (f14_2 (I (n + b.ins.length)) (I i) (I k) (I j) x (B b.landing) (I b.pad.dst) c (B b.pad.all) (B b.pad.cleanup) is (I b.fin.kind) (I b.fin.a) (I b.fin.dst) (I b.fin.f) g (I b.fin.to) (I b.fin.els) (I b.fin.pad)) (B r)∧(r=true→oS m):=by
         intro d
         induction d with
         | zero =>
          intro j hj hs2
          have hj:j=b.ins.length:=by omega
          subst hj
          obtain ⟨r,hb,himp⟩:=ihm (k + 1) (n + b.ins.length) (by omega) (by omega) (by simp; omega) (fun j hj g hg=>by
           by_cases hji:j=k
           ·subst hji; rw [hab] at hg; cases hg; exact ⟨hsz.1,hsz.2.1,hsz.2.2,hs2⟩
           ·exact hsb j (by omega) g hg)
          refine ⟨r,?_,himp⟩
          unfold f14_2
          refine aa.tv (RL.len (by assumption)) (aa.tv rfl (aa.ite aZ (fun h=>nomatch h) fun _=>?_))
          exact aa.tv (inc hkb hy.bnd) (f14_1_J hb)
         | succ d ihi =>
          intro j hj hs2
          have hjb:j < b.ins.length:=by omega
          have hax:b.ins[j]? = some b.ins[j]:=EK hjb
          obtain ⟨e3,he3,hr3⟩:=his.idx (k:=.i64) hax
          generalize b.ins[j]=u at hax hr3
          obtain ⟨v,rfl,hv,_⟩:=hr3
          by_cases hu:u.args.length≤20
          ·obtain ⟨r,hb,himp⟩:=ihi (j + 1) (by omega) (fun t ht z hz=>by
            by_cases htj:t=j
            ·subst htj; rw [hax] at hz; cases hz; exact hu
            ·exact hs2 t (by omega) z hz)
           refine ⟨r,?_,himp⟩
           unfold f14_2
           refine aa.tv (RL.len (by assumption)) (aa.tv rfl (aa.ite (aK hjb) (fun _=>?_) fun h=>nomatch h))
           refine aa.tvs he3 (aa.chk rfl (aa.tv hv.len (aa.tv rfl (aa.ite rfl (fun h=>?_) fun _=>?_))))
           ·simp at h; omega
           ·exact aa.tv (inc hjb his.bnd) (f14_2_J hb)
          ·refine no ?_
           unfold f14_2
           refine aa.tv (RL.len (by assumption)) (aa.tv rfl (aa.ite (aK hjb) (fun _=>?_) fun h=>nomatch h))
           refine aa.tvs he3 (aa.chk rfl (aa.tv hv.len (aa.tv rfl (aa.ite rfl (fun h=>aa.ret) fun h=>?_))))
           simp at h; omega
        obtain ⟨r,hb,himp⟩:=inner b.ins.length 0 (by omega) (fun t ht=>by omega)
        exact ⟨r,start _ (fun h=>absurd hsz h) (fun _=>hb),himp⟩
       ·exact no (start _ (fun _=>rfl) (fun h=>absurd h hsz))
     obtain ⟨b,hb,himp⟩:=mid f.blocks.length 0 n (by omega) h0 (by simp; omega) (fun j hj=>by omega)
     refine ⟨b,?_,himp⟩
     unfold f14_0
     refine aa.tv (RL.len (by assumption)) (aa.tv rfl (aa.ite (aK hk) (fun _=>?_) fun h=>nomatch h))
     refine aa.tvs he (aa.chk rfl (aa.tv hy.len (aa.tv rfl (aa.ite rfl (fun h=>?_) fun _=>?_))))
     ·simp at h; omega
     ·exact f14_1_J hb
    ·refine no ?_
     unfold f14_0
     refine aa.tv (RL.len (by assumption)) (aa.tv rfl (aa.ite (aK hk) (fun _=>?_) fun h=>nomatch h))
     refine aa.tvs he (aa.chk rfl (aa.tv hy.len (aa.tv rfl (aa.ite rfl (fun h=>aa.ret) fun h=>?_))))
     simp at h; omega
  obtain ⟨b,hb,himp⟩:=outer m.funcs.length 0 0 (by omega) (by omega) (by simp) (fun j hj=>by omega)
  refine ⟨b,?_,himp⟩
  refine ak.of (f14_MR _) ?_
  unfold f14_M
  refine aa.chk rfl (aa.tv hx.len (aa.tv rfl (aa.ite rfl (fun h=>?_) fun _=>f14_0_J hb)))
  simp at h; omega
 ·refine ⟨false,?_,fun h=>nomatch h⟩
  refine ak.of (f14_MR _) ?_
  unfold f14_M
  refine aa.chk rfl (aa.tv hx.len (aa.tv rfl (aa.ite rfl (fun _=>aa.ret) fun h=>?_)))
  simp at h; omega
theorem r39 {q:Option Bool} {x:TV} {l:List Int} (hx:RL q 1 RW1 x l) (hl:l.length≤4294967296):∃ y,ak prog 19 [x] y∧RL (some true) 1 RW1 y l:=by
 obtain ⟨xs,hxs,_⟩:=hx.elems
 obtain ⟨y,hy,hr⟩:=oj hx [.lit (.int .u16 0)] hxs
 have hn:=aS (k:=l.length) (by omega)
 have hle:(Nat.ble l.length 4294967296)=true:=by simpa using hl
 have hle':(Nat.ble l.length l.length)=true:=by simp
 have hown:=hr.own fun _ _ h=>h.own
 rcases hx with ⟨rfl,rfl⟩ | ⟨o,ys,rfl,hq,h,hb⟩
 ·refine ⟨.lit aI,?_,.nil⟩
  refine ak.of (f19_MR _) ?_
  unfold f19_M
  exact aa.tv rfl (aa.ite rfl (fun _=>aa.chk rfl aa.ret) fun h=>nomatch h)
 ·refine ⟨y,?_,hr⟩
  refine ak.of (f19_MR _) ?_
  unfold f19_M
  refine aa.tv rfl (aa.ite rfl (fun h=>nomatch h) fun _=>?_)
  refine aa.tv (v:=I l.length) (by simp [plen,h.length]) (aa.nat hn (aa.nat hn (aa.chk (by rw [hle,hle']; rfl) (aa.rws hxs (aa.tv hy (aa.nat rfl (aa.chk hown aa.ret)))))))
theorem r41 {q:Option Bool} {x:TV} {l:List Int} (hx:RL q 1 RI1 x l) (hl:l.length≤4294967296):∃ y,ak prog 20 [x] y∧RL (some true) 1 RI1 y l:=by
 obtain ⟨xs,hxs,_⟩:=hx.elems
 obtain ⟨y,hy,hr⟩:=oj hx [.lit (.int .i64 0)] hxs
 have hn:=aS (k:=l.length) (by omega)
 have hle:(Nat.ble l.length 4294967296)=true:=by simpa using hl
 have hle':(Nat.ble l.length l.length)=true:=by simp
 have hown:=hr.own fun _ _ h=>h.own
 rcases hx with ⟨rfl,rfl⟩ | ⟨o,ys,rfl,hq,h,hb⟩
 ·refine ⟨.lit aI,?_,.nil⟩
  refine ak.of (f20_MR _) ?_
  unfold f20_M
  exact aa.tv rfl (aa.ite rfl (fun _=>aa.chk rfl aa.ret) fun h=>nomatch h)
 ·refine ⟨y,?_,hr⟩
  refine ak.of (f20_MR _) ?_
  unfold f20_M
  refine aa.tv rfl (aa.ite rfl (fun h=>nomatch h) fun _=>?_)
  refine aa.tv (v:=I l.length) (by simp [plen,h.length]) (aa.nat hn (aa.nat hn (aa.chk (by rw [hle,hle']; rfl) (aa.rws hxs (aa.tv hy (aa.nat rfl (aa.chk hown aa.ret)))))))
end Go.Ab.A10
end
section
set_option maxRecDepth 10000
namespace Go.Ab
section
variable {α β:Type} {p:Way} {w y:TV} {s:Nat} {R:List TV→α→Prop} {Q:TV→β→Prop} {G:List α→DMod} {l:List α}
theorem RL.at (hy:RL (some true) s R y l) {k:Nat} {e:List TV} (he:Go.Ab.pel y k=some e):∃ xs,y=.sl true s xs∧xs[k]? = some e∧F2 R xs l∧xs.length≤9223372036854775807:=by
 rcases hy with ⟨rfl,rfl⟩ | ⟨o,xs,rfl,hq,h,hb⟩
 ·simp [Go.Ab.pel] at he
 ·have:o=true:=hq true rfl
  subst this
  exact ⟨xs,rfl,he,h,hb⟩
end
end Go.Ab
namespace Go.Ab.A10
open Go Go.Ab Go.Proofs
end Go.Ab.A10
end
section
set_option maxRecDepth 10000
namespace Go.Ab
def gl (b:DBlock):List Int:=(if b.fin.kind=2∨b.fin.kind=3∨b.fin.kind=4 then [b.fin.to] else []) ++ (if b.fin.kind=3 then [b.fin.els] else [])
section
variable {α:Type} {s:Nat} {R:List TV→α→Prop} {y:TV} {l:List α}
theorem RL.oP (hy:RL (some true) s R y l) {i:Nat} {e:List TV} (he:Go.Ab.pel y i=some e) {d:Nat} {ys:List TV} {a:α} (hR:R (bo e d ys) a):∃ y',bI [] y i d ys=some y'∧RL (some true) s R y' (l.set i a):=by
 obtain ⟨xs,rfl,hk,hf,hb⟩:=hy.at he
 refine ⟨.sl true s (ao xs i (bo e d ys)),by simp only [bI,aF,mG,hk,kC],.sl (by simp) (hf.set hR) (by rw [d6]; exact hb)⟩
theorem RL.app (hy:RL (some true) s R y l) {e:List TV} {a:α} (hR:R e a) (hl:l.length + 1≤4294967296):∃ y',papp s y [e]=some y'∧RL (some true) s R y' (l ++ [a]):=by
 rcases hy with ⟨rfl,rfl⟩ | ⟨o,xs,rfl,hq,h,hb⟩
 ·refine ⟨.sl true s [e],by simp [papp,aI,room,Ck],.sl (by simp) (.cons hR .nil) (by simp)⟩
 ·have:o=true:=hq true rfl
  subst this
  have hxl:=h.length
  refine ⟨.sl true s (xs ++ [e]),?_,.sl (by simp) (h.append (.cons hR .nil)) (by simp; omega)⟩
  simp [papp,room]; omega
end
end Go.Ab
namespace Go.Ab.A10
open Go Go.Ab Go.Proofs
theorem has64 (k:Int):has (cK k) 64=true ↔ k=2∨k=3∨k=4:=by
 by_cases h1:k=1
 ·subst h1; exact ⟨fun h=>absurd h (by decide +kernel),fun h=>absurd h (by decide)⟩
 by_cases h5:k=5
 ·subst h5; exact ⟨fun h=>absurd h (by decide +kernel),fun h=>absurd h (by decide)⟩
 by_cases h2:k=2
 ·subst h2; exact ⟨fun _=>.inl rfl,fun _=>by decide +kernel⟩
 by_cases h3:k=3
 ·subst h3; exact ⟨fun _=>.inr (.inl rfl),fun _=>by decide +kernel⟩
 by_cases h4:k=4
 ·subst h4; exact ⟨fun _=>.inr (.inr rfl),fun _=>by decide +kernel⟩
 have:has (cK k) 64=false:=by
  by_cases h6:k=6
  ·subst h6; decide +kernel
  ·have:cK k=0:=by simp [cK, *]
   rw [this]; decide +kernel
 simp [this,h2,h3,h4]
theorem has128 (k:Int):has (cK k) 128=true ↔ k=3:=by
 by_cases h1:k=1
 ·subst h1; exact ⟨fun h=>absurd h (by decide +kernel),fun h=>absurd h (by decide)⟩
 by_cases h5:k=5
 ·subst h5; exact ⟨fun h=>absurd h (by decide +kernel),fun h=>absurd h (by decide)⟩
 by_cases h2:k=2
 ·subst h2; exact ⟨fun h=>absurd h (by decide +kernel),fun h=>absurd h (by decide)⟩
 by_cases h3:k=3
 ·subst h3; exact ⟨fun _=>rfl,fun _=>by decide +kernel⟩
 by_cases h4:k=4
 ·subst h4; exact ⟨fun h=>absurd h (by decide +kernel),fun h=>absurd h (by decide)⟩
 have:has (cK k) 128=false:=by
  by_cases h6:k=6
  ·subst h6; decide +kernel
  ·have:cK k=0:=by simp [cK, *]
   rw [this]; decide +kernel
 simp [this,h3]
theorem r15 {q:Option Bool} {e:List TV} {b:DBlock} (he:RBlock q e b):∃ y,ak prog 66 [.agg e] y∧RInts (some true) y (gl b):=by
 obtain ⟨c,i,g,rfl,hc,hd,hi,hg,ho⟩:=he
 obtain ⟨o1,o2,o3,o4,o5,o6,o7⟩:=ho
 have tail:∀ (w:TV) (l:List Int) (u:Bool),RInts (some true) w l→l.length≤1→(u=true ↔ b.fin.kind=3)→∃ y,aa prog 66 (f66_0 (B u) (B b.landing) (I b.pad.dst) c (B b.pad.all) (B b.pad.cleanup) i (I b.fin.kind) (I b.fin.a) (I b.fin.dst) (I b.fin.f) g (I b.fin.to) (I b.fin.els) (I b.fin.pad) w) y∧RInts (some true) y (l ++ (if b.fin.kind=3 then [b.fin.els] else [])):=by
  intro w l u hw hl hu
  by_cases h:b.fin.kind=3
  ·have hut:u=true:=hu.2 h
   subst hut
   obtain ⟨w',hw',hr⟩:=hw.app (e:=[I b.fin.els]) (a:=b.fin.els) ⟨rfl,o6⟩ (by omega)
   refine ⟨w',?_,by simpa [h] using hr⟩
   unfold f66_0
   exact aa.ite rfl (fun _=>aa.rws rfl (aa.tv hw' (aa.chk (hr.own fun _ _ h=>h.own) aa.ret))) fun h=>nomatch h
  ·have huf:u=false:=by cases u with
    | false=>rfl
    | true=>exact absurd (hu.1 rfl) h
   subst huf
   refine ⟨w,?_,by simpa [h] using hw⟩
   unfold f66_0
   exact aa.ite rfl (fun h=>nomatch h) fun _=>aa.chk (hw.own fun _ _ h=>h.own) aa.ret
 by_cases h:b.fin.kind=2∨b.fin.kind=3∨b.fin.kind=4
 ·obtain ⟨y,hy,hr⟩:=tail (.sl true 1 [[I b.fin.to]]) [b.fin.to] (has (cK b.fin.kind) 128) (.sl (by simp) (.cons ⟨rfl,o5⟩ .nil) (by simp)) (by simp) (has128 _)
  refine ⟨y,?_,by simpa [gl,h] using hr⟩
  refine ak.of (f66_MR _) ?_
  unfold f66_M
  refine aa.chk rfl (aa.call (r24 _) (aa.chk rfl (aa.call (r25 _ _) (aa.chk rfl (aa.ite (v:=true) (by rw [(has64 _).2 h]; rfl) (fun _=>?_) fun h=>nomatch h)))))
  exact aa.rws rfl (aa.tv rfl (aa.call (r25 _ _) (aa.chk rfl (f66_0_J hy))))
 ·obtain ⟨y,hy,hr⟩:=tail (.lit aI) [] (has (cK b.fin.kind) 128) .nil (by simp) (has128 _)
  refine ⟨y,?_,by simpa [gl,h] using hr⟩
  refine ak.of (f66_MR _) ?_
  unfold f66_M
  have hf:has (cK b.fin.kind) 64=false:=by
   cases hh:has (cK b.fin.kind) 64 with
   | false=>rfl
   | true=>exact absurd ((has64 _).1 hh) h
  refine aa.chk rfl (aa.call (r24 _) (aa.chk rfl (aa.call (r25 _ _) (aa.chk rfl (aa.ite (v:=false) (by rw [hf]; rfl) (fun h=>nomatch h) fun _=>?_)))))
  exact aa.call (r25 _ _) (aa.chk rfl (aa.chk rfl (f66_0_J hy)))
end Go.Ab.A10
end
section
set_option maxRecDepth 10000
namespace Go.Ab
def je {α:Type} (g:Nat→α) (k:Nat) (v:α):Nat→α:=fun i=>if i=k then v else g i
theorem b7 {α:Type} {g:Nat→α} {k:Nat} {v:α}:je g k v k=v:=if_pos rfl
theorem cg {α:Type} {g:Nat→α} {k i:Nat} {v:α} (h:i≠k):je g k v i=g i:=if_neg h
def bY {α:Type} (n:Nat) (g:Nat→α):List α:=(List.range n).map g
theorem bS {α:Type} (n:Nat) (g:Nat→α):(bY n g).length=n:=by simp [bY]
theorem bT {α:Type} {n:Nat} {g:Nat→α} {k:Nat} (h:k < n):(bY n g)[k]? = some (g k):=by simp [bY,h]
theorem sw {α:Type} {n:Nat} {g:Nat→α} {k:Nat} {v:α}:(bY n g).set k v=bY n (je g k v):=by
 apply List.ext_getElem?
 intro i
 by_cases hi:i < n
 ·by_cases e:k=i
  ·subst e
   rw [List.getElem?_set_self (by rw [bS]; exact hi),bT hi,b7]
  ·rw [List.getElem?_set_ne e,bT hi,bT hi,cg (Ne.symm e)]
 ·rw [EV (by simp [bY]; omega),EV (by simp [bY]; omega)]
theorem xA {α:Type} (n:Nat) (a:α):List.replicate n a=bY n fun _=>a:=by
 apply List.ext_getElem?
 intro i
 by_cases hi:i < n
 ·rw [bT hi,List.getElem?_replicate,if_pos hi]
 ·rw [EV (by simp; omega),EV (by simp [bY]; omega)]
abbrev RBArr (w:TV) (n:Nat) (g:Nat→Bool):Prop:=RBools (some true) w (bY n g)
theorem RBArr.get {w:TV} {n:Nat} {g:Nat→Bool} (h:RBArr w n g) {k:Nat} (hk:k < n):Go.Ab.pel w k=some [B (g k)]:=by
 obtain ⟨e,he,rfl⟩:=RL.pel h (bT hk)
 exact he
theorem RBArr.set {w:TV} {n:Nat} {g:Nat→Bool} (h:RBArr w n g) {k:Nat} (hk:k < n) (v:Bool):∃ w',bI [] w k 0 [B v]=some w'∧RBArr w' n (je g k v):=by
 obtain ⟨w',h1,h2⟩:=RL.oP h (h.get hk) (d:=0) (ys:=[B v]) (a:=v) rfl
 rw [sw] at h2
 exact ⟨w',h1,h2⟩
theorem kI {α:Type} {n:Nat} {g h:Nat→α} (e:∀ i,i < n→g i=h i):bY n g=bY n h:=by
 apply List.ext_getElem?
 intro i
 by_cases hi:i < n
 ·rw [bT hi,bT hi,e i hi]
 ·rw [EV (by rw [bS]; omega),EV (by rw [bS]; omega)]
end Go.Ab
end
section
set_option maxRecDepth 10000
namespace Go.Ab
structure DFrame where
 f:Int
 block:Int
 at_:Int
 regs:List Int
 fly:Int
def DFrame.ok (x:DFrame):Prop:=inI x.f∧inI x.block∧inI x.at_∧inW x.fly
def RFrame (q:Option Bool) (e:List TV) (x:DFrame):Prop:=∃ g,e=[I x.f,I x.block,I x.at_,g,W x.fly]∧RWords q g x.regs∧x.ok
theorem RFrame.weak {q:Option Bool} {e:List TV} {x:DFrame} (h:RFrame q e x):RFrame none e x:=by
 obtain ⟨g,rfl,hg,ho⟩:=h
 exact ⟨g,rfl,hg.weak fun _ _ h=>h,ho⟩
theorem RFrame.frz {q:Option Bool} {e:List TV} {x:DFrame} (h:RFrame q e x):RFrame (some false) (ms e) x:=by
 obtain ⟨g,rfl,hg,ho⟩:=h
 exact ⟨Go.Ab.frz g,rfl,hg.frz fun _ _ h=>h.frz,ho⟩
theorem RFrame.own {e:List TV} {x:DFrame} (h:RFrame (some true) e x):aV e=true:=by
 obtain ⟨g,rfl,hg,_⟩:=h
 simp [aV,isOwn,hg.own fun _ _ h=>h.own]
theorem D9 (n:Int):IntKind.u16.wrap n=n % 65536:=by simp [IntKind.wrap,IntKind.bits,IntKind.signed]
theorem CN (n:Int):inW (IntKind.u16.wrap n):=by rw [D9]; constructor <;> omega
theorem wrap_i64 (n:Int):inI (IntKind.i64.wrap n):=by rw [IntKind.wrap_i64]; constructor <;> omega
def doW (op a b:Int):Option Int :=
 if op=2 then some a else if op=3 then some (IntKind.u16.wrap (a + b)) else if op=4 then some (IntKind.u16.wrap (a - b)) else if op=5 then some (IntKind.u16.wrap (a * b)) else
 if op=6 then (if b=0 then none else some (IntKind.u16.wrap (a.tdiv b))) else if op=7 then some (if a=b then 1 else 0) else if op=8 then some (if a < b then 1 else 0) else none
theorem CS {op a b v:Int} (ha:inW a) (h:doW op a b=some v):inW v:=by
 have h0:inW 0:=⟨by decide,by decide⟩
 have h1:inW 1:=⟨by decide,by decide⟩
 unfold doW at h
 repeat' split at h
 all_goals first | (cases h; done) | (cases h; first | exact ha | exact CN _ | exact h0 | exact h1 | (split <;> assumption))
def yj:Option Int→TV
 | some v=>.tup [W v,B true]
 | none=>.tup [W 0,B false]
def iq (l:List Int) (n:Int):Option Int:=if 0≤n then l[n.toNat]? else none
def cX (l:List Int) (x:DIns):Option Int :=
 if x.op=1 then some x.k else (iq l x.a).bind fun a=>if 3≤x.op∧x.op≤8 then (iq l x.b).bind fun b=>doW x.op a b else doW x.op a 0
def cW (f:DFrame) (x:DIns):DFrame × Bool :=
 match cX f.regs x with
 | none=>(f,false)
 | some w=>if 0≤x.dst∧x.dst < f.regs.length then ({ f with regs:=f.regs.set x.dst.toNat w,at_:=IntKind.i64.wrap (f.at_ + 1) },true) else (f,false)
theorem bE {l:List Int} {n:Int} (h:within n l.length):∃ a,l[n.toNat]? = some a∧n.toNat < l.length:=by
 have:n.toNat < l.length:=by have:=h.1; have:=h.2; omega
 exact ⟨_,EK this,this⟩
theorem kD {l:List Int} {n a:Int} (h0:0≤n) (h:l[n.toNat]? = some a):iq l n=some a:=by simp [iq,h0,h]
theorem rq {l:List Int} {n:Int} (h:¬ within n l.length):iq l n=none:=by
 unfold iq
 split
 ·rename_i h0
  exact EV (by have:¬ n < l.length:=fun h1=>h ⟨h0,h1⟩; omega)
 ·rfl
section
variable {q:Option Bool} {v:TV} {l:List Int}
theorem RWords.at_ (h:RWords q v l) {k:IntKind} {n a:Int} (h0:0≤n) (hn:l[n.toNat]? = some a):pidx 1 v (.lit (.int k n))=some [W a]∧inW a:=by
 obtain ⟨e,he,rfl,hw⟩:=h.bF (k:=k) h0 hn
 exact ⟨he,hw⟩
theorem RWords.mem (h:RWords q v l) {n:Nat} {a:Int} (hn:l[n]? = some a):inW a:=(RWords.at_ h (k:=.i64) (n:=(n:Int)) (by omega) (by simpa using hn)).2
theorem RWords.put (h:RWords (some true) v l) {n:Nat} {w:Int} (hn:n < l.length) (hw:inW w):∃ a v',pel v n=some [W a]∧bI [] v n 0 [W w]=some v'∧RWords (some true) v' (l.set n w):=by
 have hi:l[n]? = some l[n]:=EK hn
 have hp:=h.toRP (R:=fun _ e a=>RW1 e a) fun _ _ _ h=>h
 obtain ⟨e,he,⟨rfl,_⟩,_,hset⟩:=hp.row hi
 exact ⟨_,_,he,hset 0 _,(hp.EI hi (b:=w) (S:=fun _ e a=>RW1 e a) ⟨rfl,hw⟩ fun _ _ _ _ h=>h).toRL fun _ _ _ _ h=>h⟩
theorem RWords.isOwn (h:RWords (some true) v l):Go.Ab.isOwn v=true:=RL.own h fun _ _ h=>h.own
end
theorem RL.app1 {α:Type} {s:Nat} {R:List TV→α→Prop} {y:TV} {l:List α} (hy:RL (some true) s R y l) {e:List TV} {a:α} (hR:R e a) (hl:l.length + 1≤4294967296):∃ y',papp s y [e]=some y'∧RL (some true) s R y' (l ++ [a]):=by
 rcases hy with ⟨rfl,rfl⟩ | ⟨o,xs,rfl,hq,h,hb⟩
 ·refine ⟨.sl true s [e],by simp [papp,aI,room,Ck],.sl (by simp) (.cons hR .nil) (by simp)⟩
 ·have hlen:=h.length
  rw [hq true rfl]
  refine ⟨.sl true s (xs ++ [e]),?_,.sl (by simp) (h.append (.cons hR .nil)) (by simp; omega)⟩
  simp [papp,room]; omega
end Go.Ab
namespace Go.Ab.A10
open Go Go.Ab Go.Proofs
theorem rQuot0 {a b:Int} (h:b=0):ak prog 84 [W a,W b] (.tup [W 0,B false]):=by
 refine ak.of (f84_MR _ _) ?_
 unfold f84_M
 repeat' (first
  | refine aa.chk rfl ?_
  | refine aa.tv rfl ?_
  | refine aa.tv (RL.len (by assumption)) ?_
  | refine aa.nat rfl ?_
  | refine aa.ite rfl (fun _=>?_) (fun _=>?_)
  | refine aa.call (by assumption) ?_
  | refine aa.tvs (by assumption) ?_)
 ·exact aa.ret
 ·rename_i h'; simp [h] at h'
theorem rQuot {a b:Int} (h:¬ b=0):ak prog 84 [W a,W b] (.tup [W (IntKind.u16.wrap (a.tdiv b)),B true]):=by
 refine ak.of (f84_MR _ _) ?_
 unfold f84_M
 refine aa.tv rfl (aa.ite rfl (fun h'=>?_) fun _=>?_)
 ·simp at h'; exact absurd h' h
 ·exact aa.tv (by simp only [pbin,nc,if_true,if_neg h]) aa.ret
theorem Cb (b:Bool):ak prog 85 [B b] (W (if b then 1 else 0)):=by
  cases b
  · refine ak.of (f85_MR _) ?_
    unfold f85_M
    repeat' (first
      | refine aa.chk rfl ?_
      | refine aa.tv rfl ?_
      | refine aa.tv (RL.len (by assumption)) ?_
      | refine aa.nat rfl ?_
      | refine aa.ite (v:=true) rfl (fun _=>?_) (fun h=>nomatch h)
      | refine aa.ite (v:=false) rfl (fun h=>nomatch h) (fun _=>?_)
      | refine aa.ite rfl (fun _=>?_) (fun _=>?_)
      | refine aa.call (by assumption) ?_
      | refine aa.tvs (by assumption) ?_
       )
    exact aa.ret
  · refine ak.of (f85_MR _) ?_
    unfold f85_M
    repeat' (first
      | refine aa.chk rfl ?_
      | refine aa.tv rfl ?_
      | refine aa.tv (RL.len (by assumption)) ?_
      | refine aa.nat rfl ?_
      | refine aa.ite (v:=true) rfl (fun _=>?_) (fun h=>nomatch h)
      | refine aa.ite (v:=false) rfl (fun h=>nomatch h) (fun _=>?_)
      | refine aa.ite rfl (fun _=>?_) (fun _=>?_)
      | refine aa.call (by assumption) ?_
      | refine aa.tvs (by assumption) ?_
       )
    exact aa.ret
theorem rDo (op a b:Int):ak prog 76 [I op,W a,W b] (yj (doW op a b)):=by
 by_cases hb:b=0
 ·have hq:=rQuot0 (a:=a) hb
  refine ak.of (f76_MR _ _ _) ?_
  unfold f76_M
  repeat' (first
   | refine aa.chk rfl ?_
   | refine aa.tv rfl ?_
   | refine aa.tv (RL.len (by assumption)) ?_
   | refine aa.nat rfl ?_
   | refine aa.ite (v:=true) rfl (fun _=>?_) (fun h=>nomatch h)
   | refine aa.ite (v:=false) rfl (fun h=>nomatch h) (fun _=>?_)
   | refine aa.ite rfl (fun _=>?_) (fun _=>?_)
   | refine aa.call (by assumption) ?_
   | refine aa.tvs (by assumption) ?_
   | refine aa.call (Cb _) ?_)
  all_goals (refine d9.2 ?_; simp_all [doW,yj,TV.comp,nth])
 ·have hq:=rQuot (a:=a) hb
  refine ak.of (f76_MR _ _ _) ?_
  unfold f76_M
  repeat' (first
   | refine aa.chk rfl ?_
   | refine aa.tv rfl ?_
   | refine aa.tv (RL.len (by assumption)) ?_
   | refine aa.nat rfl ?_
   | refine aa.ite (v:=true) rfl (fun _=>?_) (fun h=>nomatch h)
   | refine aa.ite (v:=false) rfl (fun h=>nomatch h) (fun _=>?_)
   | refine aa.ite rfl (fun _=>?_) (fun _=>?_)
   | refine aa.call (by assumption) ?_
   | refine aa.tvs (by assumption) ?_
   | refine aa.call (Cb _) ?_)
  all_goals (refine d9.2 ?_; simp_all [doW,yj,TV.comp,nth])
theorem rPure (op:Int):ak prog 83 [I op] (B (decide (2≤op∧op≤8))):=by
 refine ak.of (f83_MR _) ?_
 unfold f83_M
 repeat' (first
  | refine aa.chk rfl ?_
  | refine aa.tv rfl ?_
  | refine aa.tv (RL.len (by assumption)) ?_
  | refine aa.nat rfl ?_
  | refine aa.ite rfl (fun _=>?_) (fun _=>?_)
  | refine aa.call (by assumption) ?_
  | refine aa.tvs (by assumption) ?_)
 all_goals (refine d9.2 ?_; simp_all <;> omega)
theorem rTwo (op:Int):ak prog 75 [I op] (B (decide (3≤op∧op≤8))):=by
 have h:=rPure op
 refine ak.of (f75_MR _) ?_
 unfold f75_M
 refine aa.call h (aa.chk rfl (aa.ite rfl (fun h=>?_) fun h=>?_))
 ·simp at h
  refine aa.tv rfl (d9.2 ?_)
  have:(op != 2)=decide (3≤op∧op≤8):=by rw [Bool.eq_iff_iff]; simp; omega
  rw [this]
 ·refine d9.2 ?_
  have h':¬ (2≤op∧op≤8):=by simpa using h
  simp; omega
end Go.Ab.A10
end
section
set_option maxRecDepth 10000
namespace Go.Ab
def bK (m:DMod) (f:DFrame):Prop:=0≤f.f∧∃ g,m.funcs[f.f.toNat]? = some g∧(f.regs.length:Int)=g.regs∧0≤f.block∧∃ b,g.blocks[f.block.toNat]? = some b∧0≤f.at_∧f.at_≤b.ins.length
def jA (m:DMod) (n:Int) (args:List Int):Option DFrame :=
 if 0≤n then (m.funcs[n.toNat]?).bind fun g=>if (args.length:Int)=g.params then some ⟨n,0,0,args.take g.regs.toNat ++ List.replicate (g.regs.toNat - args.length) 0,0⟩ else none else none
def fO:DFrame:=⟨0,0,0,[],0⟩
def fJ (m:DMod) (f:DFrame) (pad w:Int):Option DFrame :=
 (m.funcs[f.f.toNat]?).bind fun g=>if 0≤pad then (g.blocks[pad.toNat]?).bind fun b=>if b.landing then some ⟨f.f,pad,0,f.regs.set b.pad.dst.toNat w,w⟩ else none else none
def Cd:Option DFrame→Int
 | some _=>0
 | none=>1
theorem wO {α:Type} {l:List α} {n:Int} (h0:0≤n) (h:¬ n < l.length):l[n.toNat]? = none:=EV (by omega)
theorem RNo:RFrame (some true) [I 0,I 0,I 0,.lit aI,W 0] fO:=⟨_,rfl,.nil,⟨by decide,by decide⟩,⟨by decide,by decide⟩,⟨by decide,by decide⟩,⟨by decide,by decide⟩⟩
def dW:List Value:=[.int .i64 0,.int .i64 0,.int .i64 0,.slice none 0 0,.int .u16 0]
theorem fj {a b c d:Int} {y:TV} (h:y.isSl=true):(Bool.and ((TV.agg [I a,I b,I c,y,W d]).isAgg 5) (ab dW ((TV.agg [I a,I b,I c,y,W d]).cellsL true) 0))=true:=by
 simp [ab,TV.isAgg,TV.cellsL,dW,aC,h,TV.isSc,scV]
theorem in0:inI 0:=⟨by decide,by decide⟩
theorem nY:inW 0:=⟨by decide,by decide⟩
end Go.Ab
namespace Go.Ab.A10
open Go Go.Ab Go.Proofs
theorem kO (c n:Int):ak prog 34 [I c,I n] (B (tt (within n c))):=by
 refine ak.of (f34_MR _ _) ?_
 unfold f34_M
 repeat' (first
  | refine aa.chk rfl ?_
  | refine aa.tv rfl ?_
  | refine aa.tv (RL.len (by assumption)) ?_
  | refine aa.nat rfl ?_
  | refine aa.ite rfl (fun _=>?_) (fun _=>?_)
  | refine aa.call (by assumption) ?_
  | refine aa.tvs (by assumption) ?_)
 all_goals (apply dP; simp_all [within] <;> omega)
theorem rOwn {q:Option Bool} {e:List TV} {x:DFrame} (he:RFrame q e x) (hl:x.regs.length≤4294967296):∃ e',ak prog 53 [.agg e] (.agg e')∧RFrame (some true) e' x:=by
 obtain ⟨g,rfl,hg,ho⟩:=he
 obtain ⟨y,hc,hr⟩:=r39 hg hl
 have hr:RWords (some true) y x.regs:=hr
 refine ⟨[I x.f,I x.block,I x.at_,y,W x.fly],?_,⟨_,rfl,hr,ho⟩⟩
 refine ak.of (f53_MR _) ?_
 unfold f53_M
 refine aa.chk rfl (aa.call hc (aa.chk ?_ (aa.chk ?_ aa.ret)))
 ·simp [zSl,ab,aC,hr.isSl]
 ·simp [isOwn,aV,RWords.isOwn hr,TV.cell,nth]
theorem rGo {q:Option Bool} {e:List TV} {x:DFrame} {b:Int} (he:RFrame q e x) (hl:x.regs.length≤4294967296) (hb:inI b):∃ e',ak prog 41 [.agg e,I b] (.agg e')∧RFrame (some true) e' { x with block:=b,at_:=0 }:=by
 obtain ⟨e',hr,he'⟩:=rOwn he hl
 obtain ⟨g,rfl,hg,ho⟩:=he
 obtain ⟨y,rfl,hy,ho'⟩:=he'
 refine ⟨[I x.f,I b,I 0,y,W x.fly],?_,⟨_,rfl,hy,ho.1,hb,in0,ho.2.2.2⟩⟩
 refine ak.of (f41_MR _ _) ?_
 unfold f41_M
 refine aa.chk rfl (aa.call hr (aa.chk (fj hy.isSl) (aa.chk rfl (aa.chk ?_ aa.ret))))
 simp [isOwn,aV,TV.cell,nth,RWords.isOwn hy]
theorem D8 {q q':Option Bool} {g:TV} {l:List Int} {e:List TV} {x:DIns} (hg:RWords q g l) (he:RIns q' e x):ak prog 67 [g,.agg e] (yj (cX l x)):=by
 obtain ⟨a,rfl,ha,ho⟩:=he
 have h2:=rTwo x.op
 refine ak.of (f67_MR _ _) ?_
 unfold f67_M
 refine aa.chk rfl (aa.tv rfl (aa.ite rfl (fun h=>?_) fun h1=>?_))
 ·refine d9.2 ?_
  simp at h
  simp [cX,h,yj,TV.cell,nth]
 have h1:¬ x.op=1:=by simpa using h1
 refine aa.tv hg.len (aa.call (kO _ _) (aa.chk rfl (aa.tv rfl (aa.ite rfl (fun h=>?_) fun h=>?_))))
 ·have h:¬ within x.a l.length:=bQ.1 (by simpa using h)
  refine d9.2 ?_
  simp [cX,h1,rq h,yj]
 have hA:within x.a l.length:=aP.1 (by simpa using h)
 obtain ⟨u,hu,hul⟩:=bE hA
 obtain ⟨hi,hui⟩:=RWords.at_ hg (k:=.i64) hA.1 hu
 refine aa.tvs hi (aa.chk rfl (aa.call h2 (aa.chk rfl (aa.tv rfl (aa.ite rfl (fun h=>?_) fun h=>?_)))))
 ·have h:¬ (3≤x.op∧x.op≤8):=by simp at h; omega
  have hd:=rDo x.op u 0
  have hT:cX l x=doW x.op u 0:=by simp [cX,h1,kD hA.1 hu,h]
  rw [hT]
  refine aa.call hd ?_
  cases doW x.op u 0 with
  | none=>exact aa.chk rfl (aa.chk rfl (aa.chk rfl aa.ret))
  | some v=>exact aa.chk rfl (aa.chk rfl (aa.chk rfl aa.ret))
 have h3:3≤x.op∧x.op≤8:=by simpa using h
 refine aa.tv hg.len (aa.call (kO _ _) (aa.chk rfl (aa.tv rfl (aa.ite rfl (fun h=>?_) fun h=>?_))))
 ·have h:¬ within x.b l.length:=bQ.1 (by simpa using h)
  refine d9.2 ?_
  simp [cX,h1,kD hA.1 hu,h3,rq h,yj]
 have hB:within x.b l.length:=aP.1 (by simpa using h)
 obtain ⟨v,hv,hvl⟩:=bE hB
 obtain ⟨hi',hvi⟩:=RWords.at_ hg (k:=.i64) hB.1 hv
 have hd:=rDo x.op u v
 have hT:cX l x=doW x.op u v:=by simp [cX,h1,kD hA.1 hu,h3,kD hB.1 hv]
 rw [hT]
 refine aa.tvs hi' (aa.chk rfl (aa.call hd ?_))
 cases doW x.op u v with
 | none=>exact aa.chk rfl (aa.chk rfl (aa.chk rfl aa.ret))
 | some v=>exact aa.chk rfl (aa.chk rfl (aa.chk rfl aa.ret))
theorem A7 {q q':Option Bool} {g:TV} {l:List Int} {e:List TV} {x:DIns} (hg:RWords q g l) (he:RIns q' e x) {v:Int} (h:cX l x=some v):inW v:=by
 obtain ⟨a,rfl,ha,ho⟩:=he
 unfold cX at h
 split at h
 ·cases h; exact ho.2.2.2.2.1
 ·cases ha':iq l x.a with
  | none=>rw [ha'] at h; cases h
  | some u =>
   have hu:inW u:=by
    unfold iq at ha'
    split at ha'
    ·exact RWords.mem hg ha'
    ·cases ha'
   rw [ha'] at h
   simp only [Option.bind_some] at h
   split at h
   ·cases hb:iq l x.b with
    | none=>rw [hb] at h; cases h
    | some w=>rw [hb] at h; exact CS hu h
   ·exact CS hu h
theorem D7 {q q':Option Bool} {e e':List TV} {f:DFrame} {x:DIns} (hf:RFrame q e f) (hx:RIns q' e' x) (hl:f.regs.length≤4294967296) :
  ∃ e2,ak prog 51 [.agg e,.agg e'] (.tup [.agg e2,B (cW f x).2])∧RFrame (some true) e2 (cW f x).1:=by
 obtain ⟨e1,hr,hf1⟩:=rOwn hf hl
 have hf1':=hf1
 obtain ⟨g0,rfl,hg0,_⟩:=hf
 obtain ⟨y,rfl,hy,ho'⟩:=hf1
 have hans:=D8 (hy.frz (S:=RW1) fun _ _ h=>h.frz) hx
 have hx':=hx
 obtain ⟨z,rfl,hz,hxo⟩:=hx
 have hfit:=fj (a:=f.f) (b:=f.block) (c:=f.at_) (d:=f.fly) hy.isSl
 have hown:aV [TV.agg [I f.f,I f.block,I f.at_,y,W f.fly],B false]=true:=by simp [isOwn,aV,RWords.isOwn hy]
 cases hT:cX f.regs x with
 | none =>
  rw [hT] at hans
  have hR:cW f x=(f,false):=by simp [cW,hT]
  rw [hR]
  refine ⟨_,?_,hf1'⟩
  refine ak.of (f51_MR _ _) ?_
  unfold f51_M
  exact aa.chk rfl (aa.chk rfl (aa.call hr (aa.chk hfit (aa.call hans (aa.chk rfl (aa.chk rfl (aa.chk rfl (aa.tv rfl (aa.ite rfl (fun _=>aa.chk hown aa.ret) fun h=>nomatch h)))))))))
 | some v =>
  rw [hT] at hans
  have hv:=A7 hy hx' hT
  by_cases hD:within x.dst f.regs.length
  ·have hD':0≤x.dst∧x.dst < f.regs.length:=hD
   have hR:cW f x=({ f with regs:=f.regs.set x.dst.toNat v,at_:=IntKind.i64.wrap (f.at_ + 1) },true):=by simp [cW,hT,hD']
   have hlt:x.dst.toNat < f.regs.length:=by omega
   obtain ⟨a,v',hp,hs,hrl⟩:=RWords.put hy hlt hv
   have hbl:Nat.blt x.dst.toNat f.regs.length=true:=by simpa using hlt
   rw [hR]
   refine ⟨[I f.f,I f.block,I (IntKind.i64.wrap (f.at_ + 1)),v',W f.fly],?_,⟨_,rfl,hrl,ho'.1,ho'.2.1,wrap_i64 _,ho'.2.2.2⟩⟩
   refine ak.of (f51_MR _ _) ?_
   unfold f51_M
   refine aa.chk rfl (aa.chk rfl (aa.call hr (aa.chk hfit (aa.call hans (aa.chk rfl (aa.chk rfl (aa.chk rfl (aa.tv rfl (aa.ite rfl (fun h=>nomatch h) fun _=>?_)))))))))
   refine aa.tv hy.len (aa.call (kO _ _) (aa.chk rfl (aa.tv rfl (aa.ite rfl (fun h=>?_) fun _=>?_))))
   ·exact absurd hD (bQ.1 (by simpa using h))
   ·have hdn:aj (I x.dst)=some x.dst.toNat:=by
     have:=hxo.2.1.2
     simp [aj,hD.1]; omega
    refine aa.nat hy.slLen (aa.nat hdn (aa.chk ?_ (aa.tvs hp (aa.chk rfl (aa.tv hs (aa.tv rfl (aa.chk ?_ aa.ret)))))))
    ·rw [hbl]; exact (Bool.and_true _).trans hy.slSize
    ·simp [isOwn,aV,RWords.isOwn hrl,TV.cell,nth]
  ·have hD':¬ (0≤x.dst∧x.dst < f.regs.length):=hD
   have hR:cW f x=(f,false):=by simp only [cW,hT]; rw [if_neg hD']
   rw [hR]
   refine ⟨_,?_,hf1'⟩
   refine ak.of (f51_MR _ _) ?_
   unfold f51_M
   refine aa.chk rfl (aa.chk rfl (aa.call hr (aa.chk hfit (aa.call hans (aa.chk rfl (aa.chk rfl (aa.chk rfl (aa.tv rfl (aa.ite rfl (fun h=>nomatch h) fun _=>?_)))))))))
   refine aa.tv hy.len (aa.call (kO _ _) (aa.chk rfl (aa.tv rfl (aa.ite rfl (fun _=>aa.chk hown aa.ret) fun h=>?_))))
   exact absurd (aP.1 (by simpa using h)) hD
theorem nP {q:Option Bool} {e:List TV} {p:DPad} {w:Int} (he:RPad q e p):ak prog 56 [.agg e,W w] (B (tt (p.all=true∨w ∈ p.catches))):=by
 obtain ⟨x,rfl,hx,_⟩:=he
 have h56:=r56 (w:=w) hx
 refine ak.of (f56_MR _ _) ?_
 unfold f56_M
 repeat' (first
  | refine aa.chk rfl ?_
  | refine aa.tv rfl ?_
  | refine aa.tv (RL.len (by assumption)) ?_
  | refine aa.nat rfl ?_
  | refine aa.ite rfl (fun _=>?_) (fun _=>?_)
  | refine aa.call (by assumption) ?_
  | refine aa.tvs (by assumption) ?_)
 ·rename_i h
  have h:p.all=true:=by simpa [TV.cell,nth] using h
  exact zu (.inl h)
 ·rename_i h
  have h:p.all=false:=by simpa [TV.cell,nth] using h
  apply dP
  simp [aP,h]
end Go.Ab.A10
end
section
set_option maxRecDepth 10000
namespace Go.Ab
theorem aH {n:Int} (h0:0≤n) (h:inI n):aj (I n)=some n.toNat:=by
 have:=h.2
 simp [aj,h0]; omega
theorem yx {xs:List (List TV)} {args:List Int} (h:F2 RW1 xs args) {n:Nat} (hn:n≤4294967296):RWords (some true) (.sl true 1 (xs.take (List.replicate n [W 0]).length ++ (List.replicate n [W 0]).drop xs.length)) (args.take n ++ List.replicate (n - args.length) 0):=by
 have hlen:=h.length
 refine .sl (by simp) ?_ (by simp; omega)
 rw [List.length_replicate,List.drop_replicate,hlen]
 refine (h.take n).append ?_
 exact F2.ns (by simp) fun i e a he ha=>by
  have h1:=(EJ.1 he)
  have h2:=(EJ.1 ha)
  obtain ⟨_,h1⟩:=h1
  obtain ⟨_,h2⟩:=h2
  simp at h1 h2
  subst h1 h2
  exact ⟨rfl,by decide,by decide⟩
theorem DZ {a b c d e:Int} {y:TV} (h:isOwn y=true):aV [.agg [I a,I b,I c,y,W d],I e]=true:=by
 simp [isOwn,aV,h]
theorem RW0:RW1 [W 0] 0:=⟨rfl,by decide,by decide⟩
end Go.Ab
namespace Go.Ab.A10
open Go Go.Ab Go.Proofs
theorem lx {m:DMod} {g:DFunc} {n:Nat} (h:bz m) (hg:m.funcs[n]? = some g):jj m.funcs g:=h.2.2 n (EJ.1 hg).1 g hg
theorem rC {m:DMod} {g:DFunc} {n:Nat} (h:bz m) (hg:m.funcs[n]? = some g):0≤g.regs∧g.regs≤256:=by
 obtain ⟨⟨h1,h2,h3,h4⟩,_⟩:=lx h hg
 exact ⟨by omega,h4⟩
noncomputable def oe (m:DMod) (n:Int) (args:List Int):Option DFrame:=bif tt (bz m) then jA m n args else none
theorem D5 {q q':Option Bool} {e e':List TV} {m:DMod} {f:DFrame} (hm:RMod q e m) (hf:RFrame q' e' f):ak prog 32 [.agg e,.agg e'] (B (tt (bz m∧bK m f))):=by
 have h8:=r8 hm
 obtain ⟨x,rfl,hx⟩:=hm
 obtain ⟨g,rfl,hg,ho⟩:=hf
 refine ak.of (f32_MR _ _) ?_
 unfold f32_M
 refine aa.chk rfl (aa.chk rfl (aa.call h8 (aa.chk rfl (aa.tv rfl (aa.ite rfl (fun h=>?_) fun h=>?_)))))
 ·exact a9 fun h'=>bQ.1 (by simpa using h) h'.1
 have hM:bz m:=aP.1 (by simpa using h)
 refine aa.tv hx.len (aa.call (kO _ _) (aa.chk rfl (aa.tv rfl (aa.ite rfl (fun h=>?_) fun h=>?_))))
 ·have h:¬ within f.f m.funcs.length:=bQ.1 (by simpa using h)
  refine a9 ?_
  rintro ⟨_,h0,u,hu,_⟩
  have:=(EJ.1 hu).1
  exact h ⟨h0,by omega⟩
 have hF:within f.f m.funcs.length:=aP.1 (by simpa using h)
 have hlt:f.f.toNat < m.funcs.length:=by have:=hF.1; have:=hF.2; omega
 have hu:m.funcs[f.f.toNat]? = some m.funcs[f.f.toNat]:=EK hlt
 obtain ⟨e,he,hr⟩:=hx.bF (k:=.i64) hF.1 hu
 generalize m.funcs[f.f.toNat]=u at hu hr
 obtain ⟨b,rfl,hb,_⟩:=hr
 refine aa.tvs he (aa.chk rfl (aa.tv hg.len (aa.tv rfl (aa.ite rfl (fun h=>?_) fun h=>?_))))
 ·refine a9 ?_
  rintro ⟨_,h0,u',hu',hl,_⟩
  rw [hu] at hu'
  cases hu'
  simp at h
  exact h hl
 have hL:(f.regs.length:Int)=u.regs:=by simpa [nth] using h
 refine aa.tv (RL.len hb) (aa.call (kO _ _) (aa.chk rfl (aa.tv rfl (aa.ite rfl (fun h=>?_) fun h=>?_))))
 ·have h:¬ within f.block u.blocks.length:=bQ.1 (by simpa using h)
  refine a9 ?_
  rintro ⟨_,h0,u',hu',hl,h1,v,hv,_⟩
  rw [hu] at hu'
  cases hu'
  have:=(EJ.1 hv).1
  exact h ⟨h1,by omega⟩
 have hB:within f.block u.blocks.length:=aP.1 (by simpa using h)
 have hlt2:f.block.toNat < u.blocks.length:=by have:=hB.1; have:=hB.2; omega
 have hv:u.blocks[f.block.toNat]? = some u.blocks[f.block.toNat]:=EK hlt2
 obtain ⟨e2,he2,hr2⟩:=hb.bF (k:=.i64) hB.1 hv
 generalize u.blocks[f.block.toNat]=v at hv hr2
 obtain ⟨c,i,g2,rfl,_,_,hi,_⟩:=hr2
 have hiff:(bz m∧bK m f) ↔ 0≤f.at_∧f.at_≤v.ins.length:=by
  constructor
  ·rintro ⟨_,_,u',hu',_,_,v',hv',h⟩
   rw [hu] at hu'
   cases hu'
   rw [hv] at hv'
   cases hv'
   exact h
  ·intro h
   exact ⟨hM,hF.1,u,hu,hL,hB.1,v,hv,h⟩
 rw [cE hiff]
 refine aa.tv rfl (aa.ite rfl (fun h=>?_) fun h=>?_)
 ·refine aa.tvs he2 (aa.chk rfl (aa.tv (RL.len hi) (aa.tv rfl ?_)))
  apply dP
  have h:0≤f.at_:=by simpa [TV.cell,nth] using h
  simp [h]
 ·refine a9 fun h'=>?_
  have h:¬ 0≤f.at_:=by simpa [TV.cell,nth] using h
  exact h h'.1
theorem rNew {q q':Option Bool} {e:List TV} {x:TV} {m:DMod} {n:Int} {args:List Int} (hm:RMod q e m) (hn:inI n) (hx:RWords q' x args):∃ e',ak prog 23 [.agg e,I n,x] (.tup [.agg e',I (Cd (oe m n args))])∧RFrame (some true) e' ((oe m n args).getD fO):=by
 have h8:=r8 hm
 obtain ⟨y,rfl,hy⟩:=hm
 have no:oe m n args=none→ak prog 23 [.agg [y],I n,x] (.tup [.agg [I 0,I 0,I 0,.lit aI,W 0],I 1])→∃ e',ak prog 23 [.agg [y],I n,x] (.tup [.agg e',I (Cd (oe m n args))])∧RFrame (some true) e' ((oe m n args).getD fO):=by
  intro h hr
  rw [h]
  exact ⟨_,hr,RNo⟩
 by_cases hM:bz m
 rotate_left
 ·refine no (by simp [oe,dG hM]) ?_
  rw [dG hM] at h8
  refine ak.of (f23_MR _ _ _) ?_
  unfold f23_M
  exact aa.chk rfl (aa.call h8 (aa.chk rfl (aa.tv rfl (aa.ite rfl (fun _=>aa.chk rfl aa.ret) fun h=>nomatch h))))
 rw [dg hM] at h8
 have hD:oe m n args=jA m n args:=by simp [oe,dg hM]
 by_cases hF:within n m.funcs.length
 rotate_left
 ·have hN:oe m n args=none:=by
   rw [hD]
   unfold jA
   split
   ·rename_i h0
    rw [wO h0 fun h=>hF ⟨h0,h⟩]
    rfl
   ·rfl
  refine no hN ?_
  refine ak.of (f23_MR _ _ _) ?_
  unfold f23_M
  refine aa.chk rfl (aa.call h8 (aa.chk rfl (aa.tv rfl (aa.ite rfl (fun h=>nomatch h) fun _=>?_))))
  refine aa.tv hy.len (aa.call (kO _ _) (aa.chk rfl (aa.tv rfl (aa.ite rfl (fun _=>aa.chk rfl aa.ret) fun h=>?_))))
  exact absurd (aP.1 (by simpa using h)) hF
 have hlt:n.toNat < m.funcs.length:=by have:=hF.1; have:=hF.2; omega
 have hu:m.funcs[n.toNat]? = some m.funcs[n.toNat]:=EK hlt
 obtain ⟨e,he,hr⟩:=hy.bF (k:=.i64) hF.1 hu
 generalize m.funcs[n.toNat]=u at hu hr
 obtain ⟨hr0,hr1⟩:=rC hM hu
 obtain ⟨b,rfl,hb,_⟩:=hr
 have hT:jA m n args=if (args.length:Int)=u.params then some ⟨n,0,0,args.take u.regs.toNat ++ List.replicate (u.regs.toNat - args.length) 0,0⟩ else none:=by simp [jA,hF.1,hu]
 by_cases hP:(args.length:Int)=u.params
 rotate_left
 ·refine no (by rw [hD,hT,if_neg hP]) ?_
  refine ak.of (f23_MR _ _ _) ?_
  unfold f23_M
  refine aa.chk rfl (aa.call h8 (aa.chk rfl (aa.tv rfl (aa.ite rfl (fun h=>nomatch h) fun _=>?_))))
  refine aa.tv hy.len (aa.call (kO _ _) (aa.chk rfl (aa.tv rfl (aa.ite rfl (fun h=>?_) fun _=>?_))))
  ·exact absurd hF (bQ.1 (by simpa using h))
  refine aa.tv hx.len (aa.tvs he (aa.chk rfl (aa.tv rfl (aa.ite rfl (fun _=>aa.chk rfl aa.ret) fun h=>?_))))
  simp at h
  exact absurd h hP
 rw [hD,hT,if_pos hP]
 obtain ⟨xs,hxs,hF2⟩:=hx.elems
 have hmk:=yx hF2 (n:=u.regs.toNat) (by omega)
 have hnat:aj (I u.regs)=some u.regs.toNat:=aH hr0 ⟨by omega,by omega⟩
 refine ⟨[I n,I 0,I 0,_,W 0],?_,⟨_,rfl,hmk,hn,in0,in0,nY⟩⟩
 refine ak.of (f23_MR _ _ _) ?_
 unfold f23_M
 refine aa.chk rfl (aa.call h8 (aa.chk rfl (aa.tv rfl (aa.ite rfl (fun h=>nomatch h) fun _=>?_))))
 refine aa.tv hy.len (aa.call (kO _ _) (aa.chk rfl (aa.tv rfl (aa.ite rfl (fun h=>?_) fun _=>?_))))
 ·exact absurd hF (bQ.1 (by simpa using h))
 refine aa.tv hx.len (aa.tvs he (aa.chk rfl (aa.tv rfl (aa.ite rfl (fun h=>?_) fun _=>?_))))
 ·simp at h
  exact absurd hP h
 refine aa.tvs he (aa.chk rfl (aa.nat hnat (aa.nat hnat (aa.chk ?_ (aa.rws hxs (aa.tv (by simp only [pcopy,if_true]) (aa.nat rfl (aa.chk rfl (aa.chk ?_ aa.ret)))))))))
 ·have:u.regs.toNat≤4294967296:=by omega
  simp [this]
 ·exact DZ (RWords.isOwn hmk)
end Go.Ab.A10
end
section
set_option maxRecDepth 10000
namespace Go.Ab
theorem yP {m:DMod} {f:DFrame} {u:DFunc} {pad w:Int} (hu:m.funcs[f.f.toNat]? = some u) (h:¬ lq u.blocks pad true):fJ m f pad w=none:=by
 unfold fJ
 rw [hu]
 simp only [Option.bind_some]
 split
 ·rename_i h0
  cases hb:u.blocks[pad.toNat]? with
  | none=>rfl
  | some b =>
   simp only [Option.bind_some]
   split
   ·rename_i hl
    exact absurd ⟨h0,b,hb,hl⟩ h
   ·rfl
 ·rfl
theorem yc {m:DMod} {f:DFrame} {u:DFunc} {b:DBlock} {pad w:Int} (hu:m.funcs[f.f.toNat]? = some u) (h0:0≤pad) (hb:u.blocks[pad.toNat]? = some b) (hl:b.landing=true) :
  fJ m f pad w=some ⟨f.f,pad,0,f.regs.set b.pad.dst.toNat w,w⟩:=by
 simp [fJ,hu,h0,hb,hl]
theorem nC {a b:Nat} (h:a < b):Nat.blt a b=true:=by simpa using h
end Go.Ab
namespace Go.Ab.A10
open Go Go.Ab Go.Proofs
end Go.Ab.A10
end
section
set_option maxRecDepth 10000
namespace Go.Ab
structure DMach where
 stack:List DFrame
 cells:List Int
 inputs:List Int
 events:List Int
 done:Int
 value:Int
def DMach.c (s:DMach) (k:Nat):Int:=s.cells.getD k 0
def DMach.ok (s:DMach):Prop:=s.cells.length=16∧(∀ k,inW (s.c k))∧inI s.done∧inW s.value
def ar (s:DMach) (g i v:TV):List TV:=[g,W (s.c 0),W (s.c 1),W (s.c 2),W (s.c 3),W (s.c 4),W (s.c 5),W (s.c 6),W (s.c 7),W (s.c 8),W (s.c 9),W (s.c 10),W (s.c 11),W (s.c 12),W (s.c 13),W (s.c 14),W (s.c 15),i,v,I s.done,W s.value]
def RMach (e:List TV) (s:DMach):Prop:=∃ g i v,e=ar s g i v∧RL none 5 (RFrame none) g s.stack∧RWords none i s.inputs∧RInts none v s.events∧s.ok
def Bw:List Value:=[.slice none 0 0,.int .u16 0,.int .u16 0,.int .u16 0,.int .u16 0,.int .u16 0,.int .u16 0,.int .u16 0,.int .u16 0,.int .u16 0,.int .u16 0,.int .u16 0,.int .u16 0,.int .u16 0,.int .u16 0,.int .u16 0,.int .u16 0,.slice none 0 0,.slice none 0 0,.int .i64 0,.int .u16 0]
theorem BT {s:DMach} {g i v:TV} (h1:g.isSl=true) (h2:i.isSl=true) (h3:v.isSl=true):(Bool.and ((TV.agg (ar s g i v)).isAgg 21) (ab Bw ((TV.agg (ar s g i v)).cellsL true) 0))=true:=by
 simp [ab,TV.isAgg,TV.cellsL,Bw,ar,aC,h1,h2,h3,TV.isSc,scV]
theorem dec {n:Nat} (h:0 < n) (hn:n≤9223372036854775807):pbin (.int .i64) .sub (I (n:Int)) (I (1:Int))=some (I ((n - 1:Nat):Int)):=by
 have h1:IntKind.i64.wrap ((n:Int) - 1)=((n - 1:Nat):Int):=by rw [IntKind.wrap_i64]; omega
 show some (TV.lit (.int .i64 (IntKind.i64.wrap ((n:Int) - 1))))=_
 rw [h1]
theorem aM {n:Nat} (h:n≤9223372036854775807):aj (I (n:Int))=some n:=by
 have:=aH (n:=(n:Int)) (by omega) ⟨by omega,by omega⟩
 simpa using this
def cj (s:DMach) (f:DFrame):DMach:={ s with stack:=s.stack.take (s.stack.length - 1) ++ [f] }
def bM (s:DMach) (how w:Int):DMach:={ s with done:=how,value:=w }
def aD (regs places:List Int):List Int:=places.map fun p=>regs.getD p.toNat 0
def fU (s:DMach):Option DFrame:=s.stack[s.stack.length - 1]?
def bm (m:DMod) (s:DMach) (n:Int) (places:List Int):DMach :=
 if 32≤s.stack.length then bM s 5 0 else
 match fU s with
 | none=>s
 | some f=>{ s with stack:=s.stack ++ [(jA m n (aD f.regs places)).getD fO] }
end Go.Ab
namespace Go.Ab.A10
open Go Go.Ab Go.Proofs
end Go.Ab.A10
end
section
set_option maxRecDepth 10000
namespace Go.Ab
theorem nT {regs places:List Int} {k:Nat} {p:Int} (h:places[k]? = some p):aD regs (places.take (k + 1))=aD regs (places.take k) ++ [regs.getD p.toNat 0]:=by
 unfold aD
 rw [List.take_add_one,h]
 simp
theorem ca {regs places:List Int}:(aD regs places).length=places.length:=by simp [aD]
theorem iJ {l:List Int} {n:Nat} {a:Int} (h:l[n]? = some a):l.getD n 0=a:=by simp [List.getD,h]
end Go.Ab
namespace Go.Ab.A10
open Go Go.Ab Go.Proofs
end Go.Ab.A10
end

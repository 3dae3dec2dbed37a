import Derived.Test.YtaokcbfenabbgaaGreatDoorGZ12F5
import Derived.Lib.ItoaLen
set_option linter.all false
section
set_option maxRecDepth 10000
namespace Go.Ab
def ub (b:DBlock):Prop:=b.ins.length<=70/\b.pad.catches.length<=20/\b.fin.args.length<=20/\∀ i,i < b.ins.length->∀ x,b.ins[i]? = some x->x.args.length<=20
def zH (f:DFunc):Prop:=f.blocks.length<=70/\∀ i,i < f.blocks.length->∀ b,f.blocks[i]? = some b->ub b
def kA (m:DMod):Prop:=m.funcs.length<=20/\∀ i,i < m.funcs.length->∀ f,m.funcs[i]? = some f->zH f
section
variable {α:Type} {s:Nat} {R S:Nat->List TV->α->Prop} {x:TV} {l:List α}
theorem sE {β:Type}:∀ (l:List β) (n:Nat) (b:β),(ar l n b).length=l.length
 | [],_,_=>rfl
 | _ :: _,0,_=>rfl
 | a :: l,n + 1,b=>by simp [ar,sE l n b]
end
theorem qA:∀ (xs:List (List TV)),(∀ e ∈ xs,ct e=true)->l7 xs=true
 | [],_=>rfl
 | e :: xs,h=>by
  simp only [l7,GG]
  exact ⟨h e GK,qA xs fun e he=>h e (GL _ he)⟩
theorem F2.memL {α β:Type} {R:α->β->Prop} {xs:List α} {l:List β} (h:F2 R xs l) {e:α} (he:e ∈ xs):∃ a,a ∈ l/\R e a:=by
 obtain ⟨i,hi,rfl⟩:=List.mem_iff_getElem.1 he
 obtain ⟨a,ha,hr⟩:=h.getL (GE hi)
 exact ⟨a,GM ha,hr⟩
theorem RL.own {α:Type} {s:Nat} {R:List TV->α->Prop} {x:TV} {l:List α} (h:RL (some true) s R x l) (hm:∀ e a,R e a->ct e=true):aI x=true:=by
 rcases h with ⟨rfl,rfl⟩ | ⟨o,xs,rfl,hq,h,hb⟩
 ·rfl
 ·rw [hq true rfl]
  simp only [aI,Bool.true_and]
  refine qA _ fun e he=>?_
  obtain ⟨a,_,hr⟩:=h.memL he
  exact hm _ _ hr
end Go.Ab
namespace Go.Ab.Z12
open Go Go.Ab Go.Proofs
theorem r7 {q : Option Bool} {e : List TV} {m : DMod} (hm : RMod q e m) : ∃ b, aj prog 15 [.agg e] (B b) ∧ (b = true → kA m) := by
 obtain ⟨x,rfl,hx⟩:=hm
 have no:∀ {p:Prg TV},aa prog 15 p (B false)->∃ b,aa prog 15 p (B b)/\(b=true->kA m):=fun h=>⟨false,h,nofun⟩
 by_cases hlen:m.funcs.length<=20
 ·have outer : ∀ d i (n : Int), i + d = m.funcs.length → 0 ≤ n → n ≤ (i : Int) * 4900 → (∀ j, j < i → ∀ f, m.funcs[j]? = some f → zH f) → ∃ b, aa prog 15 (f15_0 (I n) (I i) x) (B b) ∧ (b = true → kA m) := by
   intro d
   induction d with
   | zero =>
    intro i n hi h0 hn hs
    have hi:i=m.funcs.length:=by omega
    subst hi
    refine ⟨decide (n<=2000),?_,fun _=>⟨hlen,hs⟩⟩
    unfold f15_0
    refine aa.tv (RL.len (by assumption)) (aa.tv rfl (aa.ite aP nofun fun _=>?_))
    exact aa.tv rfl aa.ret
   | succ d ih =>
    intro i n hi h0 hn hs
    have hk:i < m.funcs.length:=by omega
    have ha:m.funcs[i]? = some m.funcs[i]:=GE hk
    obtain ⟨e,he,hr⟩:=hx.idx (k:=.i64) ha
    generalize m.funcs[i]=f at ha hr
    obtain ⟨y,rfl,hy,_⟩:=hr
    by_cases hbl:f.blocks.length<=70
    ·have mid : ∀ d k (n : Int), k + d = f.blocks.length → 0 ≤ n → n ≤ (i : Int) * 4900 + k * 70 → (∀ j, j < k → ∀ b, f.blocks[j]? = some b → ub b) → ∃ b, aa prog 15 (f15_1 (I n) (I i) (I k) x) (B b) ∧ (b = true → kA m) := by
      intro d
      induction d with
      | zero =>
       intro k n hk' h0 hn hsb
       have hk':k=f.blocks.length:=by omega
       subst hk'
       obtain ⟨b,hb,himp⟩:=ih (i + 1) n (by omega) h0 (by simp; omega) (fun j hj g hg=>by
        by_cases hji:j=i
        ·subst hji; rw [ha] at hg; cases hg; exact ⟨hbl,fun j hj=>hsb j hj⟩
        ·exact hs j (by omega) g hg)
       refine ⟨b,?_,himp⟩
       unfold f15_1
       refine aa.tvs he (aa.chk rfl (aa.tv hy.len (aa.tv rfl (aa.ite aP nofun fun _=>?_))))
       exact aa.tv (inc hk hx.bnd) (f15_0_J hb)
      | succ d ihm =>
       intro k n hk' h0 hn hsb
       have hkb:k < f.blocks.length:=by omega
       have hab:f.blocks[k]? = some f.blocks[k]:=GE hkb
       obtain ⟨e2,he2,hr2⟩:=hy.idx (k:=.i64) hab
       generalize f.blocks[k]=b at hab hr2
       obtain ⟨c,is,g,rfl,hc,hd,his,hg,ho⟩:=hr2
       have start:∀ r,(¬ (b.ins.length<=70/\b.pad.catches.length<=20/\b.fin.args.length<=20)->r=B false)->(b.ins.length<=70/\b.pad.catches.length<=20/\b.fin.args.length<=20->aa prog 15 (f15_2 (I (n + b.ins.length)) (I i) (I k) (I (0:Nat)) x (B b.landing) (I b.pad.dst) c (B b.pad.all) (B b.pad.cleanup) is (I b.fin.kind) (I b.fin.a) (I b.fin.dst) (I b.fin.f) g (I b.fin.to) (I b.fin.els) (I b.fin.pad)) r)->aa prog 15 (f15_1 (I n) (I i) (I k) x) r:=by
        intro r h1 h2
        unfold f15_1
        refine aa.tvs he (aa.chk rfl (aa.tv hy.len (aa.tv rfl (aa.ite (aE hkb) (fun _=>?_) nofun))))
        refine aa.tvs he (aa.chk rfl (aa.tvs he2 (aa.chk rfl (aa.tv his.len (aa.tv rfl (aa.ite rfl (fun h=>?_) fun g1=>?_))))))
        ·rw [h1 (by simp at h; omega)]; exact aa.ret
        ·refine aa.tv hc.len (aa.tv rfl (aa.ite rfl (fun h=>?_) fun g2=>?_))
         ·rw [h1 (by simp at h; omega)]; exact aa.ret
         ·refine aa.tv hg.len (aa.tv rfl (aa.ite rfl (fun h=>?_) fun g3=>?_))
          ·rw [h1 (by simp at h; omega)]; exact aa.ret
          ·simp at g1 g2 g3
           refine aa.tv his.len (aa.tv (padd (by constructor <;> omega)) (f15_2_J (h2 ⟨by omega,by omega,by omega⟩)))
       by_cases hsz:b.ins.length<=70/\b.pad.catches.length<=20/\b.fin.args.length<=20
       ·have inner:∀ d j,j + d=b.ins.length->(∀ t,t < j->∀ x,b.ins[t]? = some x->x.args.length<=20)->∃ r,aa prog 15 (f15_2 (I (n + b.ins.length)) (I i) (I k) (I j) x (B b.landing) (I b.pad.dst) c (B b.pad.all) (B b.pad.cleanup) is (I b.fin.kind) (I b.fin.a) (I b.fin.dst) (I b.fin.f) g (I b.fin.to) (I b.fin.els) (I b.fin.pad)) (B r)/\(r=true->kA m):=by
         intro d
         induction d with
         | zero =>
          intro j hj hs2
          have hj:j=b.ins.length:=by omega
          subst hj
          obtain ⟨r,hb,himp⟩:=ihm (k + 1) (n + b.ins.length) (by omega) (by omega) (by simp; omega) (fun j hj g hg=>by
           by_cases hji:j=k
           ·subst hji; rw [hab] at hg; cases hg; exact ⟨hsz.1,hsz.2.1,hsz.2.2,hs2⟩
           ·exact hsb j (by omega) g hg)
          refine ⟨r,?_,himp⟩
          unfold f15_2
          refine aa.tv (RL.len (by assumption)) (aa.tv rfl (aa.ite aP nofun fun _=>?_))
          exact aa.tv (inc hkb hy.bnd) (f15_1_J hb)
         | succ d ihi =>
          intro j hj hs2
          have hjb:j < b.ins.length:=by omega
          have hax:b.ins[j]? = some b.ins[j]:=GE hjb
          obtain ⟨e3,he3,hr3⟩:=his.idx (k:=.i64) hax
          generalize b.ins[j]=u at hax hr3
          obtain ⟨v,rfl,hv,_⟩:=hr3
          by_cases hu:u.args.length<=20
          ·obtain ⟨r,hb,himp⟩:=ihi (j + 1) (by omega) (fun t ht z hz=>by
            by_cases htj:t=j
            ·subst htj; rw [hax] at hz; cases hz; exact hu
            ·exact hs2 t (by omega) z hz)
           refine ⟨r,?_,himp⟩
           unfold f15_2
           refine aa.tv (RL.len (by assumption)) (aa.tv rfl (aa.ite (aE hjb) (fun _=>?_) nofun))
           refine aa.tvs he3 (aa.chk rfl (aa.tv hv.len (aa.tv rfl (aa.ite rfl (fun h=>?_) fun _=>?_))))
           ·simp at h; omega
           ·exact aa.tv (inc hjb his.bnd) (f15_2_J hb)
          ·refine no ?_
           unfold f15_2
           refine aa.tv (RL.len (by assumption)) (aa.tv rfl (aa.ite (aE hjb) (fun _=>?_) nofun))
           refine aa.tvs he3 (aa.chk rfl (aa.tv hv.len (aa.tv rfl (aa.ite rfl (fun h=>aa.ret) fun h=>?_))))
           simp at h; omega
        obtain ⟨r,hb,himp⟩:=inner b.ins.length 0 (by omega) (fun t ht=>by omega)
        exact ⟨r,start _ (fun h=>absurd hsz h) (fun _=>hb),himp⟩
       ·exact no (start _ (fun _=>rfl) (fun h=>absurd h hsz))
     obtain ⟨b,hb,himp⟩:=mid f.blocks.length 0 n (by omega) h0 (by simp; omega) (fun j hj=>by omega)
     refine ⟨b,?_,himp⟩
     unfold f15_0
     refine aa.tv (RL.len (by assumption)) (aa.tv rfl (aa.ite (aE hk) (fun _=>?_) nofun))
     refine aa.tvs he (aa.chk rfl (aa.tv hy.len (aa.tv rfl (aa.ite rfl (fun h=>?_) fun _=>?_))))
     ·simp at h; omega
     ·exact f15_1_J hb
    ·refine no ?_
     unfold f15_0
     refine aa.tv (RL.len (by assumption)) (aa.tv rfl (aa.ite (aE hk) (fun _=>?_) nofun))
     refine aa.tvs he (aa.chk rfl (aa.tv hy.len (aa.tv rfl (aa.ite rfl (fun h=>aa.ret) fun h=>?_))))
     simp at h; omega
  obtain ⟨b,hb,himp⟩:=outer m.funcs.length 0 0 (by omega) (by omega) (by simp) (fun j hj=>by omega)
  refine ⟨b,?_,himp⟩
  refine aj.of (f15_MR _) ?_
  unfold f15_M
  refine aa.chk rfl (aa.tv hx.len (aa.tv rfl (aa.ite rfl (fun h=>?_) fun _=>f15_0_J hb)))
  simp at h; omega
 ·refine ⟨false,?_,nofun⟩
  refine aj.of (f15_MR _) ?_
  unfold f15_M
  refine aa.chk rfl (aa.tv hx.len (aa.tv rfl (aa.ite rfl (fun _=>aa.ret) fun h=>?_)))
  simp at h; omega
end Go.Ab.Z12
end
section
set_option maxRecDepth 10000
namespace Go.Ab
abbrev S (l:List UInt8):TV:=.lit (.string ⟨⟨l⟩⟩)
abbrev iG (l:List UInt8):TV:=.buf ⟨⟨l⟩⟩ 5
def mB (n:Int):List UInt8:=32 :: Lib.itoa n
def aQ (w:List UInt8) (ns:List Int):List UInt8:=w ++ ns.flatMap mB
def em (x:DIns):List UInt8 :=
 if x.op=1 then aQ [99,111,110,115,116] [x.dst,x.k] else if x.op=2 then aQ [99,111,112,121] [x.dst,x.a] else if x.op=3 then aQ [97,100,100] [x.dst,x.a,x.b]
 else if x.op=4 then aQ [115,117,98] [x.dst,x.a,x.b] else if x.op=5 then aQ [109,117,108] [x.dst,x.a,x.b] else if x.op=6 then aQ [100,105,118] [x.dst,x.a,x.b]
 else if x.op=7 then aQ [101,113] [x.dst,x.a,x.b] else if x.op=8 then aQ [108,116] [x.dst,x.a,x.b] else if x.op=9 then aQ [108,111,97,100] [x.dst,x.a]
 else if x.op=10 then aQ [115,116,111,114,101] [x.a,x.b] else if x.op=11 then aQ [99,97,108,108] ([x.dst,x.f] ++ x.args) else if x.op=12 then aQ [111,117,116] [x.a]
 else if x.op=13 then aQ [105,110] [x.dst] else []
def gW (x:DEnd):List UInt8 :=
 if x.kind=1 then aQ [114,101,116] [x.a] else if x.kind=2 then aQ [106,117,109,112] [x.to] else if x.kind=3 then aQ [98,114,97,110,99,104] [x.a,x.to,x.els]
 else if x.kind=4 then aQ [105,110,118,111,107,101] ([x.dst,x.f,x.to,x.pad] ++ x.args) else if x.kind=5 then aQ [116,104,114,111,119] [x.a]
 else if x.kind=6 then aQ [114,101,115,117,109,101] [] else []
def kZ (p:DPad):List UInt8 :=
 aQ [112,97,100] [p.dst] ++ (if 0 < p.catches.length then 32 :: aQ [99,97,116,99,104] p.catches else []) ++ (bif p.all then [32,97,108,108] else []) ++ (bif p.cleanup then [32,99,108,101,97,110,117,112] else [])
def ea (b:DBlock):List UInt8:=bif b.landing then kZ b.pad else aQ [98,108,111,99,107] []
def eB (b:DBlock):List UInt8:=ea b ++ [10] ++ b.ins.flatMap (fun x=>em x ++ [10]) ++ gW b.fin ++ [10]
def kS (f:DFunc):List UInt8:=aQ [102,117,110,99] [f.params,f.regs] ++ [10] ++ f.blocks.flatMap eB
def jl (m:DMod):List UInt8:=m.funcs.flatMap kS
theorem AS (a b:List UInt8):(⟨⟨a⟩⟩:ByteArray) ++ ⟨⟨b⟩⟩=⟨⟨a ++ b⟩⟩:=by
 apply ByteArray.ext
 simp [ByteArray.data_append]
theorem ln (a:List UInt8):(⟨⟨a⟩⟩:ByteArray).size=a.length:=rfl
theorem DI (a:List UInt8) (c:UInt8):(⟨⟨a⟩⟩:ByteArray).push c=⟨⟨a ++ [c]⟩⟩:=by
 apply ByteArray.ext
 simp [ByteArray.data_push]
theorem rints {l:List Int} (h:∀ n,n ∈ l->inI n) (hl:l.length<=100):RInts (some false) (.sl false 1 (l.map fun n=>[I n])) l:=by
 refine .sl (by simp) ?_ (by simp; omega)
 clear hl
 induction l with
 | nil=>exact .nil
 | cons a l ih=>exact .cons ⟨rfl,h a (by simp)⟩ (ih fun n hn=>h n (by simp [hn]))
theorem RL.setAt' {α:Type} {s:Nat} {R:List TV->α->Prop} {y:TV} {l:List α} (hy:RL (some true) s R y l) {i:Nat} {e:List TV} (he:Go.Ab.pel y i=some e) {d:Nat} {ys:List TV} {a:α} (hR:R (bw e d ys) a):∃ y',nh [] y i d ys=some y'/\RL (some true) s R y' (l.set i a):=by
 rcases hy with ⟨rfl,rfl⟩ | ⟨o,xs,rfl,hq,hf,hb⟩
 ·simp [Go.Ab.pel] at he
 ·have:o=true:=hq true rfl
  subst this
  have hk:xs[i]? = some e:=he
  refine ⟨.sl true s (ar xs i (bw e d ys)),by simp only [nh,bZ,sw,hk,gT],.sl (by simp) (hf.set hR) (by rw [sE]; exact hb)⟩
theorem A2 {a:Int} (ha:inW a):pconv (.int .i64) (W a)=some (I a):=by
 simp only [pconv]
 rw [IntWalk.i64_in _ (by obtain ⟨_,_⟩:=ha; constructor <;> omega)]
theorem CV {n:Int} (h:inI n):(mB n).length<=22:=by
 have:=Lib.itoa_length_le n h.1 h.2
 simp [mB]; omega
theorem fd {α:Type} {g:α->List UInt8} {c:Nat}:∀ {l:List α},(∀ x,x ∈ l->(g x).length<=c)->(l.flatMap g).length<=c * l.length
 | [],_=>by simp
 | a :: l,h=>by
  have h1:=h a (by simp)
  have h2:=fd (g:=g) (c:=c) (l:=l) fun x hx=>h x (by simp [hx])
  simp only [List.flatMap_cons,List.length_append,List.length_cons,Nat.mul_succ]
  omega
theorem eT {w:List UInt8} {ns:List Int} (h:∀ n,n ∈ ns->inI n):(aQ w ns).length<=w.length + 22 * ns.length:=by
 have:=fd (g:=mB) (c:=22) (l:=ns) fun n hn=>CV (h n hn)
 simp only [aQ,List.length_append]; omega
theorem F2.uh {α:Type} {R:List TV->α->Prop} {xs:List (List TV)} {l:List α} (h:F2 R xs l):∀ a,a ∈ l->∃ e,R e a:=by
 intro a ha
 obtain ⟨i,hi⟩:=List.mem_iff_getElem?.1 ha
 obtain ⟨e,_,he⟩:=h.get hi
 exact ⟨e,he⟩
theorem RL.uh {α:Type} {q:Option Bool} {s:Nat} {R:List TV->α->Prop} {x:TV} {l:List α} (h:RL q s R x l):∀ a,a ∈ l->∃ e,R e a:=by
 rcases h with ⟨rfl,rfl⟩ | ⟨o,xs,rfl,hq,h,_⟩
 ·simp
 ·exact h.uh
theorem RInts.inI {q:Option Bool} {x:TV} {l:List Int} (h:RInts q x l):∀ n,n ∈ l->inI n:=fun n hn=>by
 obtain ⟨e,_,h⟩:=RL.uh h n hn
 exact h
end Go.Ab
namespace Go.Ab.Z12
open Go Go.Ab Go.Proofs
theorem e_ws {s t:List UInt8} (h:s.length + t.length<=dH):aj prog 51 [.tup [.tup [],iG s],S t] (.tup [.tup [I t.length,.lit .nilIface],.tup [.tup [],iG (s ++ t)]]):=by
 refine aj.ext (g:=eZ 5) rfl ?_
 have h1:Nat.ble (s.length + t.length) dH=true:=by rw [Nat.ble_eq]; exact h
 simp [eZ,TV.aW,mA,ln,AS,h1]
theorem e_wb {s:List UInt8} (c:Int) (hc:0<=c/\c < 256) (h:s.length + 1<=dH):aj prog 52 [.tup [.tup [],iG s],.lit (.int .u8 c)] (.tup [.lit .nilIface,.tup [.tup [],iG (s ++ [c.toNat.toUInt8])]]):=by
 refine aj.ext (g:=iD 5) rfl ?_
 have h1:Nat.ble (s.length + 1) dH=true:=by rw [Nat.ble_eq]; exact h
 simp [iD,TV.aW,mA,ln,DI,h1,hc]
theorem Ge {s:List UInt8} (h:s≠[]):aj prog 39 [.tup [.tup [],iG s]] (.tup [S s,.tup [.tup [],iG s]]):=by
 refine aj.ext (g:=nA 5) rfl ?_
 have h1:s.length≠0:=fun h'=>h (List.length_eq_zero_iff.1 h')
 simp [nA,TV.aW,mA,ln]
 cases s <;> simp_all [Nat.beq]
theorem e_len {s:List UInt8}:aj prog 38 [.tup [.tup [],iG s]] (.tup [I s.length,.tup [.tup [],iG s]]):=by
 refine aj.ext (g:=D9 5) rfl ?_
 simp [D9,TV.aW,mA,ln]
theorem zq {n:Int} (h:inI n):aj prog 53 [I n] (S (Lib.itoa n)):=by
 refine aj.ext (g:=xK) rfl ?_
 have:=h.1; have:=h.2
 simp [xK, *]
theorem lE {s t:List UInt8} (h:s.length + t.length + 1<=dH):aj prog 35 [.tup [.tup [],iG s],S t] (.tup [.tup [],.tup [.tup [],iG (s ++ t ++ [10])]]):=by
 refine aj.of (f35_MR _ _) ?_
 unfold f35_M
 refine aa.chk rfl (aa.chk rfl (aa.call (e_ws (by omega)) (aa.chk rfl (aa.chk rfl (aa.chk rfl (aa.chk rfl (aa.chk rfl (aa.call (e_wb 10 (by omega) (by simp; omega)) (aa.chk rfl (aa.chk rfl aa.ret))))))))))
theorem Cy {q:Option Bool} {x:TV} {ns:List Int} (hx:RInts q x ns):∀ d k (y:TV) (acc:List UInt8),k + d=ns.length->acc≠[]->(acc ++ (ns.drop k).flatMap mB).length<=dH ->
  aa prog 36 (f36_0 x (I ns.length) (I k) y (iG acc)) (S (acc ++ (ns.drop k).flatMap mB)):=by
 intro d
 induction d with
 | zero =>
  intro k y acc hk hne hb
  have hk:k=ns.length:=by omega
  subst hk
  unfold f36_0
  refine aa.tv rfl (aa.ite aP nofun fun _=>?_)
  simp only [List.drop_length,List.flatMap_nil,List.append_nil]
  exact aa.chk rfl (aa.call (Ge hne) (aa.chk rfl (aa.chk rfl aa.ret)))
 | succ d ih =>
  intro k y acc hk hne hb
  have hkl:k < ns.length:=by omega
  have ha:ns[k]? = some ns[k]:=GE hkl
  rw [List.drop_eq_getElem_cons hkl,List.flatMap_cons] at hb ⊢
  obtain ⟨e,he,hr⟩:=hx.idx (k:=.i64) ha
  generalize ns[k]=n at *
  obtain ⟨rfl,hn⟩:=hr
  have hb2:acc.length + (1 + (Lib.itoa n).length)<=dH:=by simp [mB] at hb; omega
  unfold f36_0
  refine aa.tv rfl (aa.ite (aE hkl) (fun _=>?_) nofun)
  refine aa.tvs he (aa.chk rfl (aa.chk rfl (aa.call (e_wb 32 (by omega) (by omega)) (aa.chk rfl (aa.chk rfl (aa.call (zq hn) (aa.chk rfl (aa.chk rfl (aa.call (e_ws (by simp; omega)) (aa.chk rfl (aa.chk rfl (aa.chk rfl (aa.chk rfl (aa.tv (inc hkl hx.bnd) ?_))))))))))))))
  have:=ih (k + 1) .hole (acc ++ mB n) (by omega) (by simp [hne]) (by simpa using hb)
  rw [<- List.append_assoc]
  refine f36_0_J ?_
  have e:acc ++ [(32:Int).toNat.toUInt8] ++ Lib.itoa n=acc ++ mB n:=by simp [mB]
  show aa prog _ (f36_0 x (I ns.length) (I ((k + 1:Nat):Int)) .hole (iG (acc ++ [(32:Int).toNat.toUInt8] ++ Lib.itoa n))) _
  rw [e]; exact this
theorem lZ {q:Option Bool} {x:TV} {ns:List Int} (w:List UInt8) (hx:RInts q x ns) (hw:w≠[]) (hb:w.length + 22 * ns.length<=1000):aj prog 36 [S w,x] (S (aQ w ns)):=by
 have hlen:=eT (w:=w) hx.inI
 refine aj.of (f36_MR _ _) ?_
 unfold f36_M
 refine aa.chk rfl (aa.call (e_ws (s:=[]) (by simp [dH]; omega)) (aa.chk rfl (aa.chk rfl (aa.chk rfl (aa.chk rfl (aa.tv hx.len ?_))))))
 exact f36_0_J (Cy hx ns.length 0 _ w (by omega) hw (by simp [aQ] at hlen ⊢; simp [dH]; omega))
theorem lN {l:List Int} (w:List UInt8) (h:∀ n,n ∈ l->inI n) (hw:w≠[]) (hb:w.length + 22 * l.length<=1000):aj prog 36 [S w,.sl false 1 (l.map fun n=>[I n])] (S (aQ w l)) :=
 lZ w (rints h (by omega)) hw hb
theorem line0 (w:List UInt8) (hw:w≠[]) (hb:w.length<=100):aj prog 36 [S w,.lit (.slice none 0 0)] (S (aQ w [])) :=
 lZ w (q:=none) (.nil) hw (by simp; omega)
theorem x8 {q q':Option Bool} {x y:TV} {l m:List Int} (hx:RInts q x l) (hy:RInts q' y m) (hl:l.length + m.length<=1000):∃ v,aj prog 46 [x,y] v/\RInts (some true) v (m ++ l):=by
 obtain ⟨xs,hxs,hfx⟩:=hx.elems
 obtain ⟨ys,hys,hfy⟩:=hy.elems
 have h1:=hfx.length
 have h2:=hfy.length
 refine ⟨.sl true 1 (ys ++ xs),aj.of (f46_MR _ _) ?_,.sl (by simp) (hfy.append hfx) (by simp; omega)⟩
 unfold f46_M
 refine aa.tv hy.len (aa.tv hx.len (aa.tv (padd (by constructor <;> omega)) (aa.nat rfl (aa.nat (v:=m.length + l.length) (by simp [aR]; omega) (aa.chk ?_ ?_)))))
 ·simp only [GG,Nat.ble_eq]; omega
 ·refine aa.rws hys (aa.tv (v:=.sl true 1 ys) (by simp [papp,room]; omega) (aa.rws hxs (aa.tv (v:=.sl true 1 (ys ++ xs)) (by simp [papp,room]; omega) (aa.chk ?_ aa.ret))))
  exact (RL.sl (q:=some true) (by simp) (hfy.append hfx) (by simp; omega):RInts (some true) _ (m ++ l)).own fun _ _ h=>by obtain ⟨rfl,_⟩:=h; rfl
theorem B9 {q:Option Bool} {x:TV} {l:List Int} (hx:RWords q x l) (hl:l.length<=1000):∃ v,aj prog 49 [x] v/\RInts (some true) v l:=by
 have loop:∀ d k (m:List Int) (v:TV),k + d=l.length->m.length=l.length->m.take k=l.take k->RInts (some true) v m->∃ v',aa prog 49 (f49_0 x (I l.length) (I k) v) v'/\RInts (some true) v' l:=by
  intro d
  induction d with
  | zero =>
   intro k m v hk hm ht hv
   have hk:k=l.length:=by omega
   subst hk
   have:m=l:=by rw [List.take_of_length_le (by omega),List.take_of_length_le (by omega)] at ht; exact ht
   subst this
   refine ⟨v,?_,hv⟩
   unfold f49_0
   refine aa.tv rfl (aa.ite aP nofun fun _=>?_)
   exact aa.chk (hv.own fun _ _ h=>by obtain ⟨rfl,_⟩:=h; rfl) aa.ret
  | succ d ih =>
   intro k m v hk hm ht hv
   have hkl:k < l.length:=by omega
   have ha:l[k]? = some l[k]:=GE hkl
   obtain ⟨e,he,hr⟩:=hx.idx (k:=.i64) ha
   have hmk:m[k]? = some m[k]:=GE (by omega)
   obtain ⟨e',he',hr'⟩:=hv.pel hmk
   obtain ⟨rfl,hn⟩:=hr
   obtain ⟨rfl,_⟩:=hr'
   obtain ⟨v',hv',hv2⟩:=hv.setAt' he' (d:=0) (ys:=[I l[k]]) (a:=l[k]) ⟨rfl,by obtain ⟨_,_⟩:=hn; constructor <;> omega⟩
   obtain ⟨z,hz,hz2⟩:=ih (k + 1) (m.set k l[k]) v' (by omega) (by simpa using hm) (by
    rw [List.take_add_one,List.take_add_one,List.take_set_of_le (by omega),ht,List.getElem?_set_self (by omega),ha]) hv2
   refine ⟨z,?_,hz2⟩
   unfold f49_0
   refine aa.tv rfl (aa.ite (aE hkl) (fun _=>?_) nofun)
   refine aa.tvs he (aa.chk rfl (aa.tv (A2 hn) (aa.nat hv.slLen (aa.nat (v:=k) (by simp [aR]; omega) (aa.chk ?_ (aa.tvs he' (aa.chk rfl (aa.tv hv' (aa.tv (inc hkl hx.bnd) (f49_0_J hz))))))))))
   rw [hv.slSize]
   simp only [Bool.true_and,Nat.blt_eq]
   omega
 obtain ⟨v,h1,h2⟩:=loop l.length 0 (List.replicate l.length 0) (.sl true 1 (List.replicate l.length [I 0])) (by omega) (by simp) (by simp) (.sl (by simp) (by
  generalize l.length=n
  induction n with
  | zero=>exact .nil
  | succ n ih=>exact .cons ⟨rfl,by constructor <;> omega⟩ ih) (by simp; omega))
 refine ⟨v,aj.of (f49_MR _) ?_,h2⟩
 unfold f49_M
 refine aa.tv hx.len (aa.nat (v:=l.length) (by simp [aR]; omega) (aa.nat (v:=l.length) (by simp [aR]; omega) (aa.chk ?_ (aa.tv hx.len (f49_0_J h1)))))
 simp only [GG,Nat.ble_eq]; omega
end Go.Ab.Z12
end
section
set_option maxRecDepth 10000
namespace Go.Ab.Z12
open Go Go.Ab Go.Proofs
theorem beh {q:Option Bool} {y:TV} {m:List Int} (l:List Int) (w:List UInt8) (hm:RInts q y m) (hl:∀ n,n ∈ l->inI n) (h4:l.length<=4) (h20:m.length<=20) (hw:w≠[]) (h10:w.length<=10) :
  ∃ v,aj prog 46 [y,.sl false 1 (l.map fun n=>[I n])] v/\v.isSl=true/\aj prog 36 [S w,frz v] (S (aQ w (l ++ m))):=by
 obtain ⟨v,h1,h2⟩:=x8 hm (rints hl (by omega)) (by omega)
 exact ⟨v,h1,h2.isSl,lZ w (h2.frz fun _ _ h=>h.frz) hw (by simp; omega)⟩
theorem xv {q:Option Bool} {e:List TV} {x:DIns} (h:RIns q e x) (hl:x.args.length<=20):aj prog 22 [.agg e] (S (em x)):=by
 obtain ⟨g,rfl,hg,ho,hd,ha,hb,hk,hf⟩:=h
 obtain ⟨v,hv,hsl,hv2⟩:=beh [x.dst,x.f] [99,97,108,108] hg (by simp [hd,hf]) (by simp) hl (by simp) (by simp)
 have hkI:inI x.k:=by obtain ⟨_,_⟩:=hk; constructor <;> omega
 refine aj.of (f22_MR _) ?_
 unfold f22_M
 refine aa.chk rfl (aa.tv rfl (aa.ite rfl (fun _=>aa.tv (v:=I x.k) (A2 hk) ?_) fun _=>?_))
 repeat' (first
  | refine aa.chk rfl ?_
  | refine aa.tv rfl ?_
  | refine aa.ite rfl (fun _=>?_) (fun _=>?_)
  | refine aa.call hv ?_
  | refine aa.chk (by simp [ab,zSl,aG,hsl]) ?_
  | refine aa.call hv2 ?_
  | refine aa.call (lN (l:=[x.dst,x.k]) _ (by simp [*]) (by simp) (by simp)) ?_
  | refine aa.call (lN (l:=[x.dst,x.a]) _ (by simp [*]) (by simp) (by simp)) ?_
  | refine aa.call (lN (l:=[x.a,x.b]) _ (by simp [*]) (by simp) (by simp)) ?_
  | refine aa.call (lN (l:=[x.dst,x.a,x.b]) _ (by simp [*]) (by simp) (by simp)) ?_
  | refine aa.call (lN (l:=[x.a]) _ (by simp [*]) (by simp) (by simp)) ?_
  | refine aa.call (lN (l:=[x.dst]) _ (by simp [*]) (by simp) (by simp)) ?_)
 all_goals (refine jS.2 ?_; simp_all [em])
theorem yz {q:Option Bool} {e:List TV} {x:DEnd} (h:REnd q e x) (hl:x.args.length<=20):aj prog 28 [.agg e] (S (gW x)):=by
 obtain ⟨g,rfl,hg,hk,ha,hd,hf,ht,he,hp⟩:=h
 obtain ⟨v,hv,hsl,hv2⟩:=beh [x.dst,x.f,x.to,x.pad] [105,110,118,111,107,101] hg (by simp [hd,hf,ht,hp]) (by simp) hl (by simp) (by simp)
 refine aj.of (f28_MR _) ?_
 unfold f28_M
 repeat' (first
  | refine aa.chk rfl ?_
  | refine aa.tv rfl ?_
  | refine aa.ite rfl (fun _=>?_) (fun _=>?_)
  | refine aa.call hv ?_
  | refine aa.chk (by simp [ab,zSl,aG,hsl]) ?_
  | refine aa.call hv2 ?_
  | refine aa.call (line0 _ (by simp) (by simp)) ?_
  | refine aa.call (lN (l:=[x.a,x.to,x.els]) _ (by simp [*]) (by simp) (by simp)) ?_
  | refine aa.call (lN (l:=[x.a]) _ (by simp [*]) (by simp) (by simp)) ?_
  | refine aa.call (lN (l:=[x.to]) _ (by simp [*]) (by simp) (by simp)) ?_)
 all_goals (refine jS.2 ?_; simp_all [gW])
theorem DW (a b:List UInt8) (h:a.length + b.length<=10000):pbin .str .add (S a) (S b)=some (S (a ++ b)):=by
 simp [pbin,kn,AS,ln]; omega
theorem yb {q:Option Bool} {e:List TV} {x:DPad} (h:RPad q e x) (hl:x.catches.length<=20):aj prog 31 [.agg e] (S (kZ x)):=by
 obtain ⟨g,rfl,hg,hd⟩:=h
 obtain ⟨v,hv,hv2⟩:=B9 hg (by omega)
 have hsl:=hv2.isSl
 have hv3:=lZ [99,97,116,99,104] (hv2.frz fun _ _ h=>h.frz) (by simp) (by simp; omega)
 have hA:=eT (w:=[112,97,100]) (ns:=[x.dst]) (by simp [hd])
 have hC:=eT (w:=[99,97,116,99,104]) hv2.inI
 simp only [List.length_cons,List.length_nil] at hA hC
 refine aj.of (f31_MR _) ?_
 unfold f31_M
 repeat' (first
  | refine aa.chk rfl ?_
  | refine aa.tv hg.len ?_
  | refine aa.tv (DW _ _ (by simp only [List.length_append,List.length_cons,List.length_nil]; omega)) ?_
  | refine aa.tv rfl ?_
  | refine aa.ite rfl (fun _=>?_) (fun _=>?_)
  | refine aa.call hv ?_
  | refine aa.chk (by simp [ab,zSl,aG,hsl]) ?_
  | refine aa.call hv3 ?_
  | refine aa.call (lN (l:=[x.dst]) _ (by simp [*]) (by simp) (by simp)) ?_)
 all_goals (refine jS.2 ?_; simp_all [kZ])
end Go.Ab.Z12
end
section
set_option maxRecDepth 10000
namespace Go.Ab.Z12
open Go Go.Ab Go.Proofs
theorem BM {q:Option Bool} {g:TV} {b:DBlock} (y0 y1 y2 y3 y4 y5 w:TV) (hg:RInts q g b.fin.args) (ho:b.fin.ok) (hl:b.fin.args.length<=20) {acc:List UInt8} (hb:acc.length + (gW b.fin).length + 1<=dH) :
  aa prog 37 (f37_2 y0 y1 y2 y3 y4 y5 (I b.fin.kind) (I b.fin.a) (I b.fin.dst) (I b.fin.f) g (I b.fin.to) (I b.fin.els) (I b.fin.pad) w (iG acc)) (.tup [.tup [],.tup [.tup [],iG (acc ++ gW b.fin ++ [10])]]):=by
 unfold f37_2
 have he:REnd q [I b.fin.kind,I b.fin.a,I b.fin.dst,I b.fin.f,g,I b.fin.to,I b.fin.els,I b.fin.pad] b.fin:=⟨g,rfl,hg,ho⟩
 exact aa.call (yz he hl) (aa.chk rfl (aa.chk rfl (aa.call (lE hb) (aa.chk rfl (aa.chk rfl aa.ret)))))
theorem CB {q:Option Bool} {y5 g:TV} {b:DBlock} (y0 y1 y2 y3 y4:TV) (hi:RL q 7 (RIns q) y5 b.ins) (hs:ub b) (hg:RInts q g b.fin.args) (ho:b.fin.ok):∀ d k (w:TV) (acc:List UInt8),k + d=b.ins.length->(acc ++ (b.ins.drop k).flatMap (fun x=>em x ++ [10]) ++ gW b.fin ++ [10]).length<=dH ->
  aa prog 37 (f37_1 y5 (I b.ins.length) (I k) y0 y1 y2 y3 y4 y5 (I b.fin.kind) (I b.fin.a) (I b.fin.dst) (I b.fin.f) g (I b.fin.to) (I b.fin.els) (I b.fin.pad) w (iG acc))
   (.tup [.tup [],.tup [.tup [],iG (acc ++ (b.ins.drop k).flatMap (fun x=>em x ++ [10]) ++ gW b.fin ++ [10])]]):=by
 intro d
 induction d with
 | zero =>
  intro k w acc hk hb
  have hk:k=b.ins.length:=by omega
  subst hk
  unfold f37_1
  refine aa.tv rfl (aa.ite aP nofun fun _=>?_)
  simp only [List.drop_length,List.flatMap_nil,List.append_nil] at hb ⊢
  exact f37_2_J (BM _ _ _ _ _ _ _ hg ho hs.2.2.1 (by simp at hb ⊢; omega))
 | succ d ih =>
  intro k w acc hk hb
  have hkl:k < b.ins.length:=by omega
  have ha:b.ins[k]? = some b.ins[k]:=GE hkl
  have hargs:=hs.2.2.2 k hkl _ ha
  rw [List.drop_eq_getElem_cons hkl,List.flatMap_cons] at hb ⊢
  obtain ⟨e,he,hr⟩:=hi.idx (k:=.i64) ha
  generalize b.ins[k]=x at *
  have hr2:=xv hr hargs
  obtain ⟨g',rfl,_⟩:=hr
  unfold f37_1
  refine aa.tv rfl (aa.ite (aE hkl) (fun _=>?_) nofun)
  refine aa.tvs he (aa.chk rfl (aa.call hr2 (aa.chk rfl (aa.chk rfl (aa.call (lE (by simp at hb; omega)) (aa.chk rfl (aa.chk rfl (aa.tv (inc hkl hi.bnd) (f37_1_J ?_)))))))))
  have:=ih (k + 1) .hole (acc ++ em x ++ [10]) (by omega) (by simpa [List.append_assoc] using hb)
  have e:acc ++ (em x ++ [10] ++ (b.ins.drop (k + 1)).flatMap (fun x=>em x ++ [10]))=acc ++ em x ++ [10] ++ (b.ins.drop (k + 1)).flatMap (fun x=>em x ++ [10]):=by simp [List.append_assoc]
  rw [e]
  exact this
theorem zB {q:Option Bool} {e:List TV} {b:DBlock} (h:RBlock q e b) (hs:ub b) {s:List UInt8} (hb:s.length + (eB b).length<=dH) :
  aj prog 37 [.tup [.tup [],iG s],.agg e] (.tup [.tup [],.tup [.tup [],iG (s ++ eB b)]]):=by
 obtain ⟨c,i,g,rfl,hc,hd,hi,hg,ho⟩:=h
 have hp:aj prog 31 [.agg [I b.pad.dst,c,B b.pad.all,B b.pad.cleanup]] (S (kZ b.pad)):=yb (q:=q) ⟨c,rfl,hc,hd⟩ hs.2.1
 have e:s ++ eB b=s ++ ea b ++ [10] ++ (b.ins.drop 0).flatMap (fun x=>em x ++ [10]) ++ gW b.fin ++ [10]:=by simp [eB,List.append_assoc]
 have hb':(s ++ ea b ++ [10] ++ (b.ins.drop 0).flatMap (fun x=>em x ++ [10]) ++ gW b.fin ++ [10]).length<=dH:=by rw [<- e]; simpa using hb
 have hb2:s.length + (ea b).length + 1<=dH:=by simp [List.length_append] at hb'; omega
 have rest:∀ w,aa prog 37 (f37_0 (B b.landing) (I b.pad.dst) c (B b.pad.all) (B b.pad.cleanup) i (I b.fin.kind) (I b.fin.a) (I b.fin.dst) (I b.fin.f) g (I b.fin.to) (I b.fin.els) (I b.fin.pad) w (iG (s ++ ea b ++ [10]))) (.tup [.tup [],.tup [.tup [],iG (s ++ eB b)]]):=fun w=>by
  unfold f37_0
  rw [e]
  exact aa.tv hi.len (f37_1_J (CB _ _ _ _ _ hi hs hg ho b.ins.length 0 _ _ (by omega) hb'))
 refine aj.of (f37_MR _ _) ?_
 unfold f37_M
 refine aa.chk rfl (aa.chk rfl (aa.ite rfl (fun hl=>?_) fun hl=>?_))
 ·have eh:ea b=kZ b.pad:=by simp [ea,hl]
  rw [eh] at rest hb2
  exact aa.call hp (aa.chk rfl (aa.chk rfl (aa.call (lE hb2) (aa.chk rfl (aa.chk rfl (f37_0_J (rest _)))))))
 ·have eh:ea b=aQ [98,108,111,99,107] []:=by simp [ea,hl]
  rw [eh] at rest hb2
  exact aa.call (line0 _ (by simp) (by simp)) (aa.chk rfl (aa.chk rfl (aa.call (lE hb2) (aa.chk rfl (aa.chk rfl (f37_0_J (rest _)))))))
open Classical in
noncomputable def qp (m:DMod):TV:=if oV m then (if (jl m).length<=65536 then .tup [S (jl m),I 0] else .tup [S [],I 3]) else .tup [S [],I 1]
theorem vD {q:Option Bool} {e:List TV} {m:DMod} (hm:RMod q e m) (hs:kA m) (hb:(jl m).length<=dH):aj prog 16 [.agg e] (qp m):=by
 have h8:=r8 hm
 obtain ⟨x,rfl,hx⟩:=hm
 refine aj.of (f16_MR _) ?_
 unfold f16_M
 refine aa.chk rfl (aa.call h8 (aa.chk rfl (aa.tv rfl (aa.ite rfl (fun h=>?_) fun h=>?_))))
 ·have hn:¬ oV m:=by simpa [tt] using h
  simp only [qp,if_neg hn]
  exact aa.ret
 ·have hp:oV m:=by simpa [tt] using h
  refine aa.tv hx.len (aa.chk rfl (f16_0_J ?_))
  have last:∀ w acc',cn 5 acc'=iG (jl m)->aa prog 16 (f16_2 w acc') (qp m):=fun w acc' ha=>by
   have hne:jl m≠[]:=by
    obtain ⟨_,⟨f,hf,_⟩,_⟩:=hp
    intro h0
    have:=List.flatMap_eq_nil_iff.1 h0 f (GM hf)
    simp [kS] at this
   simp only [qp,if_pos hp]
   unfold f16_2
   rw [ha]
   refine aa.chk rfl (aa.call e_len (aa.chk rfl (aa.chk rfl (aa.tv rfl (aa.ite rfl (fun h=>?_) fun h=>?_)))))
   ·have:¬ (jl m).length<=65536:=by simp at h; omega
    rw [if_neg this]; exact aa.ret
   ·have:(jl m).length<=65536:=by simp at h; omega
    rw [if_pos this]
    exact aa.chk rfl (aa.call (Ge hne) (aa.chk rfl (aa.chk rfl aa.ret)))
  have outer:∀ d k (w acc':TV) (acc:List UInt8),cn 5 acc'=iG acc->k + d=m.funcs.length->acc ++ (m.funcs.drop k).flatMap kS=jl m->aa prog 16 (f16_0 x (I m.funcs.length) (I k) w acc') (qp m):=by
   intro d
   induction d with
   | zero =>
    intro k w acc' acc hacc hk ha
    have hk:k=m.funcs.length:=by omega
    subst hk
    unfold f16_0
    refine aa.tv rfl (aa.ite aP nofun fun _=>?_)
    simp only [List.drop_length,List.flatMap_nil,List.append_nil] at ha
    exact f16_2_J (last _ _ (ha ▸ hacc))
   | succ d ih =>
    intro k w acc' acc hacc hk ha
    have hkl:k < m.funcs.length:=by omega
    have hf:m.funcs[k]? = some m.funcs[k]:=GE hkl
    have hsf:=hs.2 k hkl _ hf
    rw [List.drop_eq_getElem_cons hkl,List.flatMap_cons] at ha
    obtain ⟨e,he,hr⟩:=hx.idx (k:=.i64) hf
    generalize m.funcs[k]=f at *
    obtain ⟨y,rfl,hy,hpa,hre⟩:=hr
    have inner:∀ d j (w acc':TV) (acc:List UInt8),cn 5 acc'=iG acc->j + d=f.blocks.length->acc ++ ((f.blocks.drop j).flatMap eB ++ (m.funcs.drop (k + 1)).flatMap kS)=jl m->aa prog 16 (f16_1 x (I m.funcs.length) (I k) y (I f.blocks.length) (I j) w acc') (qp m):=by
     intro d
     induction d with
     | zero =>
      intro j w acc' acc hacc hj ha
      have hj:j=f.blocks.length:=by omega
      subst hj
      unfold f16_1
      refine aa.tv rfl (aa.ite aP nofun fun _=>?_)
      simp only [List.drop_length,List.flatMap_nil,List.nil_append] at ha
      exact aa.tv (inc hkl hx.bnd) (f16_0_J (ih (k + 1) _ _ acc hacc (by omega) ha))
     | succ d ihb =>
      intro j w acc' acc hacc hj ha
      have hjl:j < f.blocks.length:=by omega
      have hbl:f.blocks[j]? = some f.blocks[j]:=GE hjl
      have hsb:=hsf.2 j hjl _ hbl
      rw [List.drop_eq_getElem_cons hjl,List.flatMap_cons] at ha
      obtain ⟨eb,heb,hrb⟩:=hy.idx (k:=.i64) hbl
      generalize f.blocks[j]=b at *
      have hsz:acc.length + (eB b).length<=dH:=by rw [<- ha] at hb; simp at hb; omega
      have hrun:=zB hrb hsb hsz
      obtain ⟨_,_,_,rfl,_⟩:=hrb
      unfold f16_1
      refine aa.tv rfl (aa.ite (aE hjl) (fun _=>?_) nofun)
      rw [hacc]
      refine aa.tvs heb (aa.chk rfl (aa.chk rfl (aa.call hrun (aa.chk rfl (aa.chk rfl (aa.tv (inc hjl hy.bnd) (f16_1_J ?_)))))))
      exact ihb (j + 1) _ _ (acc ++ eB b) rfl (by omega) (by rw [<- ha]; simp [List.append_assoc])
    have hsz:acc.length + (aQ [102,117,110,99] [f.params,f.regs]).length + 1<=dH:=by rw [<- ha] at hb; simp [kS] at hb; omega
    unfold f16_0
    refine aa.tv rfl (aa.ite (aE hkl) (fun _=>?_) nofun)
    rw [hacc]
    refine aa.tvs he (aa.chk rfl (aa.call (lN (l:=[f.params,f.regs]) _ (by simp [*]) (by simp) (by simp)) (aa.chk rfl (aa.chk rfl (aa.call (lE hsz) (aa.chk rfl (aa.chk rfl (aa.tv hy.len (f16_1_J ?_)))))))))
    exact inner f.blocks.length 0 _ _ (acc ++ aQ [102,117,110,99] [f.params,f.regs] ++ [10]) rfl (by omega) (by rw [<- ha]; simp [kS,List.append_assoc])
  exact outer m.funcs.length 0 _ _ [] rfl (by omega) rfl
end Go.Ab.Z12
end
section
set_option maxRecDepth 10000
namespace Go.Ab
theorem A6 {c:Prop} [Decidable c] {a b:List UInt8} {P:List UInt8->Prop} (ha:P a) (hb:P b):P (if c then a else b):=by
 by_cases h:c
 ·rw [if_pos h]; exact ha
 ·rw [if_neg h]; exact hb
theorem mO:∀ (u:Nat),∀ c ∈ Lib.decDigits u,48<=c.toNat/\c.toNat<=57:=by
 intro u
 induction u using Nat.strongRecOn with
 | _ u ih =>
  intro c hc
  by_cases h:u < 10
  ·rw [Lib.decDigits_one h] at hc
   simp only [List.mem_singleton] at hc
   subst hc
   simp [UInt8.toNat_ofNat']
   omega
  ·rw [Lib.decDigits,dif_neg h,List.mem_append] at hc
   rcases hc with hc | hc
   ·exact ih (u / 10) (by omega) c hc
   ·simp only [List.mem_singleton] at hc
    subst hc
    simp [UInt8.toNat_ofNat']
    omega
theorem vx (n:Int):∀ c ∈ Lib.itoa n,c.toNat=45\/48<=c.toNat/\c.toNat<=57:=by
 intro c hc
 unfold Lib.itoa at hc
 split at hc
 ·rcases List.mem_cons.1 hc with rfl | hc
  ·exact .inl rfl
  ·exact .inr (mO _ c hc)
 ·exact .inr (mO _ c hc)
theorem Fm (n:Int):(Lib.itoa n).count 10=0:=by
 rw [List.count_eq_zero]
 intro h
 have:=vx n 10 h
 simp at this
theorem A7:∀ (ns:List Int),(ns.flatMap mB).count 10=0
 | []=>rfl
 | n :: l=>by
  rw [List.flatMap_cons,List.count_append,A7 l,mB,List.count_cons,Fm]
  rfl
theorem lW {w:List UInt8} (hw:w.count 10=0) (ns:List Int):(aQ w ns).count 10=0:=by
 rw [aQ,List.count_append,hw,A7]
theorem nl_ins (x:DIns):(em x).count 10=0:=by
 unfold em
 repeat' (refine A6 (P:=fun l=>l.count 10=0) ?_ ?_)
 all_goals first | exact lW (by decide) _ | rfl
theorem nl_end (x:DEnd):(gW x).count 10=0:=by
 unfold gW
 repeat' (refine A6 (P:=fun l=>l.count 10=0) ?_ ?_)
 all_goals first | exact lW (by decide) _ | rfl
theorem nl_pad (x:DPad):(kZ x).count 10=0:=by
 unfold kZ
 rw [List.count_append,List.count_append,List.count_append,lW (by decide)]
 have h1:(if 0 < x.catches.length then 32 :: aQ [99,97,116,99,104] x.catches else []).count 10=0:=by
  split
  ·rw [List.count_cons,lW (by decide)]; rfl
  ·rfl
 rw [h1]
 cases x.all <;> cases x.cleanup <;> rfl
theorem Fq (b:DBlock):(ea b).count 10=0:=by
 unfold ea
 cases b.landing
 ·exact lW (by decide) _
 ·exact nl_pad _
theorem DC {q:Option Bool} {e:List TV} {x:DIns} (h:RIns q e x) (hl:x.args.length<=20):(em x).length<=500:=by
 obtain ⟨g,rfl,hg,ho,hd,ha,hb,hk,hf⟩:=h
 have hkI:inI x.k:=by obtain ⟨_,_⟩:=hk; constructor <;> omega
 have hgI:=hg.inI
 have key:∀ (w:List UInt8) (ns:List Int),w.length<=10->ns.length<=22->(∀ n,n ∈ ns->inI n)->(aQ w ns).length<=500:=fun w ns h1 h2 h3=>by have:=eT (w:=w) h3; omega
 have hc:∀ n,n ∈ [x.dst,x.f] ++ x.args->inI n:=fun n hn=>by
  rcases List.mem_append.1 hn with h | h
  ·simp at h; rcases h with rfl | rfl <;> assumption
  ·exact hgI n h
 unfold em
 repeat' (refine A6 (P:=fun l=>l.length<=500) ?_ ?_)
 all_goals first
  | exact key _ ([x.dst,x.f] ++ x.args) (by simp) (by simp; omega) hc
  | exact key _ _ (by simp) (by simp) (by simp [*])
  | simp
theorem EE {x:DEnd} (ho:x.ok) (hgI:∀ n,n ∈ x.args->inI n) (hl:x.args.length<=20):(gW x).length<=600:=by
 obtain ⟨hk,ha,hd,hf,ht,he,hp⟩:=ho
 have key:∀ (w:List UInt8) (ns:List Int),w.length<=10->ns.length<=24->(∀ n,n ∈ ns->inI n)->(aQ w ns).length<=600:=fun w ns h1 h2 h3=>by have:=eT (w:=w) h3; omega
 have hc:∀ n,n ∈ [x.dst,x.f,x.to,x.pad] ++ x.args->inI n:=fun n hn=>by
  rcases List.mem_append.1 hn with h | h
  ·simp at h; rcases h with rfl | rfl | rfl | rfl <;> assumption
  ·exact hgI n h
 unfold gW
 repeat' (refine A6 (P:=fun l=>l.length<=600) ?_ ?_)
 all_goals first
  | exact key _ ([x.dst,x.f,x.to,x.pad] ++ x.args) (by simp) (by simp; omega) hc
  | exact key _ _ (by simp) (by simp) (by simp [*])
  | simp
theorem DR {x:DPad} (hd:inI x.dst) (hgI:∀ n,n ∈ x.catches->inW n) (hl:x.catches.length<=20):(kZ x).length<=600:=by
 have h1:=eT (w:=[112,97,100]) (ns:=[x.dst]) (by simp [hd])
 have h2:=eT (w:=[99,97,116,99,104]) (ns:=x.catches) (fun n hn=>by obtain ⟨_,_⟩:=hgI n hn; constructor <;> omega)
 simp only [List.length_cons,List.length_nil] at h1 h2
 unfold kZ
 have h3:(if 0 < x.catches.length then 32 :: aQ [99,97,116,99,104] x.catches else []).length<=500:=by
  split
  ·simp only [List.length_cons]; omega
  ·simp
 have h4:(bif x.all then ([32,97,108,108]:List UInt8) else []).length<=4:=by cases x.all <;> simp
 have h5:(bif x.cleanup then ([32,99,108,101,97,110,117,112]:List UInt8) else []).length<=8:=by cases x.cleanup <;> simp
 simp only [List.length_append]
 omega
theorem zC {q:Option Bool} {e:List TV} {b:DBlock} (h:RBlock q e b) (hs:ub b):(eB b).length<=40000:=by
 obtain ⟨c,i,g,rfl,hc,hd,hi,hg,ho⟩:=h
 have h1:=EE ho hg.inI hs.2.2.1
 have h2:=DR hd (fun n hn=>by obtain ⟨e,_,h⟩:=RL.uh hc n hn; exact h) hs.2.1
 have h3:(ea b).length<=600:=by
  unfold ea
  cases b.landing
  ·simp [aQ]
  ·exact h2
 have h4:=fd (g:=fun x=>em x ++ [10]) (c:=501) (l:=b.ins) fun x hx=>by
  obtain ⟨i,hi'⟩:=List.mem_iff_getElem?.1 hx
  obtain ⟨e,he⟩:=RL.uh hi x hx
  have:=DC he (hs.2.2.2 i (GD.1 hi').1 x hi')
  simp; omega
 have h5:=hs.1
 simp only [eB,List.length_append,List.length_cons,List.length_nil]
 omega
theorem Cb {q:Option Bool} {e:List TV} {f:DFunc} (h:RFunc q e f) (hs:zH f):(kS f).length<=3000000:=by
 obtain ⟨y,rfl,hy,hp,hr⟩:=h
 have h1:=eT (w:=[102,117,110,99]) (ns:=[f.params,f.regs]) (by simp [hp,hr])
 have h4:=fd (g:=eB) (c:=40000) (l:=f.blocks) fun x hx=>by
  obtain ⟨i,hi'⟩:=List.mem_iff_getElem?.1 hx
  obtain ⟨e,he⟩:=RL.uh hy x hx
  exact zC he (hs.2 i (GD.1 hi').1 x hi')
 have h5:=hs.1
 simp only [List.length_cons,List.length_nil] at h1
 simp only [kS,List.length_append,List.length_cons,List.length_nil]
 omega
theorem EB {q:Option Bool} {e:List TV} {m:DMod} (h:RMod q e m) (hs:kA m):(jl m).length<=60000000:=by
 obtain ⟨y,rfl,hy⟩:=h
 have h4:=fd (g:=kS) (c:=3000000) (l:=m.funcs) fun x hx=>by
  obtain ⟨i,hi'⟩:=List.mem_iff_getElem?.1 hx
  obtain ⟨e,he⟩:=RL.uh hy x hx
  exact Cb he (hs.2 i (GD.1 hi').1 x hi')
 have h5:=hs.1
 simp only [jl]
 omega
theorem vB {q:Option Bool} {e:List TV} {m:DMod} (h:RMod q e m) (hs:kA m):(jl m).length<=dH:=by
 have:=EB h hs
 simp [dH]; omega
end Go.Ab
end
section
set_option maxRecDepth 20000
namespace Go.Ab
theorem lY {α:Type} {p:α->Bool}:∀ {r s:List α},(∀ a,a ∈ r->p a=false)->(s=[]\/∃ a l,s=a :: l/\p a=true)->(r ++ s).takeWhile (fun a=>!p a)=r/\(r ++ s).dropWhile (fun a=>!p a)=s
 | [],s,_,h=>by
  rcases h with rfl | ⟨a,l,rfl,ha⟩
  ·simp
  ·simp [ha]
 | a :: r,s,hr,h=>by
  have ha:p a=false:=hr a (by simp)
  obtain ⟨h1,h2⟩:=lY (p:=p) (r:=r) (s:=s) (fun b hb=>hr b (by simp [hb])) h
  simp [ha,h1,h2]
theorem xT {α:Type} {p:α->Bool} {r s r' s':List α} (hr:∀ a,a ∈ r->p a=false) (hs:s=[]\/∃ a l,s=a :: l/\p a=true) (hr':∀ a,a ∈ r'->p a=false) (hs':s'=[]\/∃ a l,s'=a :: l/\p a=true) (h:r ++ s=r' ++ s'):r=r'/\s=s':=by
 obtain ⟨h1,h2⟩:=lY hr hs
 obtain ⟨h3,h4⟩:=lY hr' hs'
 rw [h] at h1 h2
 exact ⟨h1.symm.trans h3,h2.symm.trans h4⟩
def Marked {α β:Type} (p:α->Bool) (g:β->List α) (x:β):Prop:=∃ s r,g x=s :: r/\p s=true/\∀ a,a ∈ r->p a=false
theorem ij {α β:Type} {p:α->Bool} {g:β->List α}:∀ {xs:List β},(∀ x,x ∈ xs->Marked p g x)->xs.flatMap g=[]\/∃ a l,xs.flatMap g=a :: l/\p a=true
 | [],_=>.inl rfl
 | x :: xs,h=>by
  obtain ⟨s,r,hg,hp,_⟩:=h x (by simp)
  exact .inr ⟨s,r ++ xs.flatMap g,by rw [List.flatMap_cons,hg]; rfl,hp⟩
theorem vz {α β γ:Type} {p:α->Bool} {g:β->List α} {g':γ->List α}:∀ {xs:List β} {ys:List γ},(∀ x,x ∈ xs->Marked p g x)->(∀ y,y ∈ ys->Marked p g' y)->xs.flatMap g=ys.flatMap g'->xs.map g=ys.map g'
 | [],[],_,_,_=>rfl
 | [],y :: ys,_,hy,h=>by
  obtain ⟨s,r,hg,_⟩:=hy y (by simp)
  rw [List.flatMap_cons,hg] at h
  cases h
 | x :: xs,[],hx,_,h=>by
  obtain ⟨s,r,hg,_⟩:=hx x (by simp)
  rw [List.flatMap_cons,hg] at h
  cases h
 | x :: xs,y :: ys,hx,hy,h=>by
  have hx2:∀ z,z ∈ xs->Marked p g z:=fun z hz=>hx z (by simp [hz])
  have hy2:∀ z,z ∈ ys->Marked p g' z:=fun z hz=>hy z (by simp [hz])
  obtain ⟨s,r,hg,hs,hr⟩:=hx x (by simp)
  obtain ⟨s',r',hg',hs',hr'⟩:=hy y (by simp)
  rw [List.flatMap_cons,List.flatMap_cons,hg,hg',List.cons_append,List.cons_append] at h
  injection h with h1 h2
  obtain ⟨h3,h4⟩:=xT hr (ij hx2) hr' (ij hy2) h2
  rw [List.map_cons,List.map_cons,hg,hg',h1,h3,vz hx2 hy2 h4]
def cW (w:List UInt8) (ts:List (List UInt8)):List UInt8:=w ++ ts.flatMap fun t=>32 :: t
def plain (w:List UInt8):Prop:=∀ c,c ∈ w->(c == 32)=false
theorem tok_eq {w w':List UInt8} {ts ts':List (List UInt8)} (hw:plain w) (hw':plain w') (ht:∀ t,t ∈ ts->plain t) (ht':∀ t,t ∈ ts'->plain t) (h:cW w ts=cW w' ts'):w=w'/\ts=ts':=by
 have mk:∀ {l:List UInt8},plain l->Marked (fun c=>c == 32) (fun l:List UInt8=>32 :: l) l:=fun {l} h=>⟨32,l,rfl,by simp,h⟩
 obtain ⟨h1,h2⟩:=xT (p:=fun c=>c == 32) hw (ij fun t h=>mk (ht t h)) hw' (ij fun t h=>mk (ht' t h)) h
 refine ⟨h1,?_⟩
 have h3:=vz (fun l h=>mk (ht l h)) (fun l h=>mk (ht' l h)) h2
 have inj:∀ {ls ms:List (List UInt8)},ls.map (fun l=>32 :: l)=ms.map (fun l=>32 :: l)->ls=ms:=by
  intro ls
  induction ls with
  | nil=>intro ms h; cases ms with | nil=>rfl | cons m ms=>simp at h
  | cons l ls ih =>
   intro ms h
   cases ms with
   | nil=>simp at h
   | cons m ms =>
    simp only [List.map_cons,List.cons.injEq,true_and] at h
    rw [h.1,ih h.2]
 exact inj h3
theorem nw (n:Int):plain (Lib.itoa n):=fun c hc=>by
 have:=vx n c hc
 simp only [beq_eq_false_iff_ne]
 rintro rfl
 simp at this
theorem jI (w:List UInt8) (ns:List Int):aQ w ns=cW w (ns.map Lib.itoa):=by
 unfold aQ cW
 congr 1
 induction ns with
 | nil=>rfl
 | cons n l ih=>rw [List.flatMap_cons,List.map_cons,List.flatMap_cons,ih]; rfl
def kY (l:List UInt8):Nat:=l.foldl (fun n c=>10 * n + (c.toNat - 48)) 0
theorem wP:∀ u:Nat,kY (Lib.decDigits u)=u:=by
 intro u
 induction u using Nat.strongRecOn with
 | _ u ih =>
  by_cases h:u < 10
  ·rw [Lib.decDigits_one h]
   simp [kY,UInt8.toNat_ofNat']
   omega
  ·rw [Lib.decDigits,dif_neg h,kY,List.foldl_append]
   have:=ih (u / 10) (by omega)
   unfold kY at this
   rw [this]
   simp [UInt8.toNat_ofNat']
   omega
end Go.Ab
end
section
set_option maxRecDepth 20000
namespace Go.Ab
def wOf (op:Int):List UInt8 :=
 if op=1 then [99,111,110,115,116] else if op=2 then [99,111,112,121] else if op=3 then [97,100,100] else if op=4 then [115,117,98] else if op=5 then [109,117,108] else if op=6 then [100,105,118] else if op=7 then [101,113] else if op=8 then [108,116] else if op=9 then [108,111,97,100] else if op=10 then [115,116,111,114,101] else if op=11 then [99,97,108,108] else if op=12 then [111,117,116] else if op=13 then [105,110] else []
def opN (w:List UInt8):Int :=
 if w=[99,111,110,115,116] then 1 else if w=[99,111,112,121] then 2 else if w=[97,100,100] then 3 else if w=[115,117,98] then 4 else if w=[109,117,108] then 5 else if w=[100,105,118] then 6 else if w=[101,113] then 7 else if w=[108,116] then 8 else if w=[108,111,97,100] then 9 else if w=[115,116,111,114,101] then 10 else if w=[99,97,108,108] then 11 else if w=[111,117,116] then 12 else if w=[105,110] then 13 else 0
def kOf (op:Int):List UInt8 :=
 if op=1 then [114,101,116] else if op=2 then [106,117,109,112] else if op=3 then [98,114,97,110,99,104] else if op=4 then [105,110,118,111,107,101] else if op=5 then [116,104,114,111,119] else if op=6 then [114,101,115,117,109,101] else []
def kN (w:List UInt8):Int :=
 if w=[114,101,116] then 1 else if w=[106,117,109,112] then 2 else if w=[98,114,97,110,99,104] then 3 else if w=[105,110,118,111,107,101] then 4 else if w=[116,104,114,111,119] then 5 else if w=[114,101,115,117,109,101] then 6 else 0
def nsI (x:DIns):List Int :=
 if x.op=1 then [x.dst,x.k] else if x.op=2 then [x.dst,x.a] else if x.op=3 then [x.dst,x.a,x.b] else if x.op=4 then [x.dst,x.a,x.b] else if x.op=5 then [x.dst,x.a,x.b] else if x.op=6 then [x.dst,x.a,x.b] else if x.op=7 then [x.dst,x.a,x.b] else if x.op=8 then [x.dst,x.a,x.b] else if x.op=9 then [x.dst,x.a] else if x.op=10 then [x.a,x.b] else if x.op=11 then [x.dst,x.f] ++ x.args else if x.op=12 then [x.a] else if x.op=13 then [x.dst] else []
def nsE (x:DEnd):List Int :=
 if x.kind=1 then [x.a] else if x.kind=2 then [x.to] else if x.kind=3 then [x.a,x.to,x.els] else if x.kind=4 then [x.dst,x.f,x.to,x.pad] ++ x.args else if x.kind=5 then [x.a] else if x.kind=6 then [] else []
end Go.Ab
namespace Go.Ab.Z12
open Go Go.Ab Go.Proofs
def zF (p:DPad):List (List UInt8):=Lib.itoa p.dst :: ((if 0 < p.catches.length then [99,97,116,99,104] :: p.catches.map Lib.itoa else []) ++ ((bif p.all then [[97,108,108]] else []) ++ (bif p.cleanup then [[99,108,101,97,110,117,112]] else [])))
theorem wC (p:DPad):kZ p=cW [112,97,100] (zF p):=by
 have h1:∀ l:List Int,(l.map Lib.itoa).flatMap (fun t=>32 :: t)=l.flatMap mB:=fun l=>by
  induction l with
  | nil=>rfl
  | cons n l ih=>rw [List.flatMap_cons,List.map_cons,List.flatMap_cons,ih]; rfl
 unfold kZ cW zF aQ
 by_cases h:0 < p.catches.length
 ·simp only [if_pos h]
  cases p.all <;> cases p.cleanup <;> simp [h1,mB]
 ·simp only [if_neg h]
  cases p.all <;> cases p.cleanup <;> simp [mB]
theorem tQ (p:DPad):∀ t,t ∈ zF p->plain t:=by
 intro t ht
 unfold zF at ht
 have w1:plain [99,97,116,99,104]:=by unfold plain; decide
 have w2:plain [97,108,108]:=by unfold plain; decide
 have w3:plain [99,108,101,97,110,117,112]:=by unfold plain; decide
 rcases List.mem_cons.1 ht with rfl | ht
 ·exact nw _
 rcases List.mem_append.1 ht with ht | ht
 ·split at ht
  ·rcases List.mem_cons.1 ht with rfl | ht
   ·exact w1
   ·obtain ⟨n,_,rfl⟩:=List.mem_map.1 ht
    exact nw n
  ·cases ht
 rcases List.mem_append.1 ht with ht | ht
 ·cases hp:p.all <;> simp [hp] at ht
  rw [ht]; exact w2
 ·cases hp:p.cleanup <;> simp [hp] at ht
  rw [ht]; exact w3
end Go.Ab.Z12
end
section
set_option maxRecDepth 20000
namespace Go.Ab
def dv (b:DBlock):List (List UInt8):=ea b :: (b.ins.map em ++ [gW b.fin])
def iB (f:DFunc):List (List UInt8):=aQ [102,117,110,99] [f.params,f.regs] :: f.blocks.flatMap dv
def iR (m:DMod):List (List UInt8):=m.funcs.flatMap iB
def nlE (ls:List (List UInt8)):List UInt8:=ls.flatMap fun l=>l ++ [10]
theorem ni (a b:List (List UInt8)):nlE (a ++ b)=nlE a ++ nlE b:=List.flatMap_append
theorem go (a:List UInt8) (b:List (List UInt8)):nlE (a :: b)=a ++ [10] ++ nlE b:=List.flatMap_cons
theorem Bh (b:DBlock):eB b=nlE (dv b):=by
 have h:∀ l:List DIns,nlE (l.map em)=l.flatMap fun x=>em x ++ [10]:=fun l=>by
  induction l with
  | nil=>rfl
  | cons x l ih=>rw [List.map_cons,go,ih,List.flatMap_cons]
 rw [dv,go,ni,h,go]
 simp [eB,nlE]
theorem rY:∀ l:List DBlock,l.flatMap eB=nlE (l.flatMap dv)
 | []=>rfl
 | b :: l=>by rw [List.flatMap_cons,List.flatMap_cons,ni,Bh,rY l]
theorem CZ (f:DFunc):kS f=nlE (iB f):=by
 rw [iB,go,<- rY,kS]
theorem vd:∀ l:List DFunc,l.flatMap kS=nlE (l.flatMap iB)
 | []=>rfl
 | f :: l=>by rw [List.flatMap_cons,List.flatMap_cons,ni,CZ,vd l]
theorem AW (m:DMod):jl m=nlE (iR m):=vd m.funcs
theorem xB (b:DBlock):∀ l,l ∈ dv b->l.count 10=0:=by
 intro l hl
 rcases List.mem_cons.1 hl with rfl | hl
 ·exact Fq b
 rcases List.mem_append.1 hl with hl | hl
 ·obtain ⟨x,_,rfl⟩:=List.mem_map.1 hl
  exact nl_ins x
 ·rw [List.mem_singleton.1 hl]; exact nl_end _
theorem Ca (m:DMod):∀ l,l ∈ iR m->l.count 10=0:=by
 intro l hl
 obtain ⟨f,_,hl⟩:=List.mem_flatMap.1 hl
 rcases List.mem_cons.1 hl with rfl | hl
 ·exact lW (by decide) _
 ·obtain ⟨b,_,hl⟩:=List.mem_flatMap.1 hl
  exact xB b l hl
end Go.Ab
namespace Go.Ab.Z12
open Go Go.Ab Go.Proofs
end Go.Ab.Z12
end
section
set_option maxRecDepth 20000
namespace Go.Ab
def aA:List UInt8->List UInt8 × List (List UInt8)
 | []=>([],[])
 | c :: l=>if (c == 32)=true then ([],(aA l).1 :: (aA l).2) else (c :: (aA l).1,(aA l).2)
theorem fH:∀ l,cW (aA l).1 (aA l).2=l/\plain (aA l).1/\∀ t,t ∈ (aA l).2->plain t
 | []=>⟨rfl,fun _ h=>(nomatch h),fun _ h=>(nomatch h)⟩
 | c :: l => by
  obtain ⟨h1,h2,h3⟩:=fH l
  unfold aA
  by_cases hc:(c == 32)=true
  ·rw [if_pos hc]
   refine ⟨?_,fun _ h=>(nomatch h),fun t ht=>?_⟩
   ·have:c=32:=by simpa using hc
    subst this
    show [] ++ List.flatMap (fun t=>32 :: t) ((aA l).1 :: (aA l).2)=32 :: l
    rw [List.flatMap_cons,List.nil_append,List.cons_append]
    exact congrArg _ h1
   ·rcases List.mem_cons.1 ht with rfl | ht
    ·exact h2
    ·exact h3 t ht
  ·rw [if_neg hc]
   refine ⟨?_,fun a ha=>?_,h3⟩
   ·show (c :: (aA l).1) ++ _=_
    rw [List.cons_append]
    exact congrArg _ h1
   ·rcases List.mem_cons.1 ha with rfl | ha
    ·simpa using hc
    ·exact h2 a ha
theorem j5 {w:List UInt8} {ts:List (List UInt8)} (hw:plain w) (ht:∀ t,t ∈ ts->plain t):aA (cW w ts)=(w,ts):=by
 obtain ⟨h1,h2,h3⟩:=fH (cW w ts)
 obtain ⟨h4,h5⟩:=tok_eq h2 hw h3 ht h1
 exact Prod.ext h4 h5
def tF (c:UInt8):Bool:=decide (48<=c.toNat/\c.toNat<=57)
theorem Cp (r:List UInt8) (c:UInt8):kY (r ++ [c])=10 * kY r + (c.toNat - 48):=by
 unfold kY
 rw [List.foldl_append]
 rfl
theorem nZ {u:Nat} (h:10<=u):Lib.decDigits u=Lib.decDigits (u / 10) ++ [UInt8.ofNat (48 + u % 10)]:=by
 rw [Lib.decDigits,dif_neg (by omega)]
theorem zW (u:Nat):Lib.decDigits u≠[]:=by
 by_cases h:u < 10
 ·rw [Lib.decDigits_one h]; simp
 ·rw [nZ (by omega)]; simp
theorem xR {α:Type} {a b:List α} (h:a≠[]):(a ++ b).head? = a.head? := by
 cases a with
 | nil=>exact absurd rfl h
 | cons x r=>rfl
theorem Dc:∀ {u:Nat},0 < u->(Lib.decDigits u).head? ≠ some 48:=by
 intro u
 induction u using Nat.strongRecOn with
 | _ u ih =>
  intro hu
  by_cases h:u < 10
  ·rw [Lib.decDigits_one h]
   intro e
   have e:=Option.some.inj e
   have:=congrArg UInt8.toNat e
   simp [UInt8.toNat_ofNat'] at this
   omega
  ·rw [nZ (by omega),xR (zW _)]
   exact ih (u / 10) (by omega) (by omega)
theorem vX:∀ (k:Nat) {u:Nat},u < 10 ^ (k + 1)->(Lib.decDigits u).length<=k + 1
 | 0,u,h=>by rw [Lib.decDigits_one (by omega)]; simp
 | k + 1, u, h => by
  by_cases h1:u < 10
  ·rw [Lib.decDigits_one h1]; simp
  ·rw [nZ (by omega),List.length_append]
   have:=vX k (u:=u / 10) (by rw [Nat.pow_succ] at h; omega)
   simp
   omega
theorem FG:∀ (n:Nat) (s:List UInt8),s.length=n + 1->s.all tF=true->(s.head? ≠ some 48\/n=0)->s=Lib.decDigits (kY s):=by
 intro n
 induction n with
 | zero =>
  intro s hl ha _
  obtain ⟨c,rfl⟩:=List.length_eq_one_iff.1 hl
  have hc:48<=c.toNat/\c.toNat<=57:=by simpa [tF] using ha
  have hv:kY [c]=c.toNat - 48:=by simp [kY]
  rw [hv,Lib.decDigits_one (by omega),show 48 + (c.toNat - 48)=c.toNat by omega,UInt8.ofNat_toNat]
 | succ n ih =>
  intro s hl ha hh
  have hh:s.head? ≠ some 48:=hh.resolve_right (by omega)
  rcases List.eq_nil_or_concat s with rfl | ⟨r,c,rfl⟩
  ·simp at hl
  simp only [List.concat_eq_append] at *
  have hr:r.length=n + 1:=by simpa using hl
  have hne:r≠[]:=by intro e; subst e; simp at hr
  have h1:r.all tF=true/\(48<=c.toNat/\c.toNat<=57):=by simpa [tF] using ha
  rw [xR hne] at hh
  have he:=ih r hr h1.1 (.inl hh)
  have hpos:0 < kY r:=by
   rcases Nat.eq_zero_or_pos (kY r) with e | e
   ·rw [e,Lib.decDigits_one (by omega)] at he
    rw [he] at hh
    exact absurd rfl hh
   ·exact e
  rw [Cp,nZ (by omega),show (10 * kY r + (c.toNat - 48)) / 10=kY r by omega,show 48 + (10 * kY r + (c.toNat - 48)) % 10=c.toNat by omega,UInt8.ofNat_toNat,<- he]
def bP (s:List UInt8):Int:=if s.length=0\/5 < s.length\/(s.head? = some 48/\1 < s.length)\/s.all tF=false\/65535 < kY s then -1 else (kY s:Nat)
theorem nG {n:Int} (h:0<=n):Lib.itoa n=Lib.decDigits n.toNat:=by unfold Lib.itoa; rw [if_neg (by omega)]
theorem iq {n:Int} (h0:0<=n) (h:n<=65535):bP (Lib.itoa n)=n:=by
 have hd:(Lib.decDigits n.toNat).all tF=true:=by
  rw [List.all_eq_true]
  intro c hc
  have:=mO n.toNat c hc
  simp [tF]
  omega
 have hl:=vX 4 (u:=n.toNat) (by omega)
 have hne:=List.length_pos_iff.2 (zW n.toNat)
 rw [nG h0]
 unfold bP
 rw [wP,if_neg]
 ·omega
 ·rintro (h | h | ⟨h,h1⟩ | h | h)
  ·omega
  ·omega
  ·rcases Nat.eq_zero_or_pos n.toNat with e | e
   ·rw [e,Lib.decDigits_one (by omega)] at h1
    simp at h1
   ·exact Dc e h
  ·rw [hd] at h; cases h
  ·omega
theorem jU {s:List UInt8} (h:0<=bP s):s=Lib.itoa (bP s)/\bP s<=65535:=by
 unfold bP at *
 split at h
 ·omega
 ·rename_i hn
  rw [if_neg hn]
  simp only [not_or,not_and] at hn
  obtain ⟨h1,h2,h3,h4,h5⟩:=hn
  refine ⟨?_,by omega⟩
  rw [nG (by omega),Int.toNat_natCast]
  refine FG (s.length - 1) s (by omega) (by simpa using h4) ?_
  by_cases e:s.head? = some 48
  ·exact .inr (by have:=h3 e; omega)
  ·exact .inl e
theorem o5 {ts:List (List UInt8)} (h:∀ n,n ∈ ts.map bP->0<=n):ts=(ts.map bP).map Lib.itoa/\∀ n,n ∈ ts.map bP->0<=n/\n<=65535:=by
 constructor
 ·rw [List.map_map]
  conv=>lhs; rw [<- List.map_id ts]
  exact List.map_congr_left fun t ht=>(jU (h _ (List.mem_map.2 ⟨t,ht,rfl⟩))).1
 ·intro n hn
  obtain ⟨t,ht,rfl⟩:=List.mem_map.1 hn
  exact ⟨h _ hn,(jU (h _ hn)).2⟩
theorem jL {l:List Int} (h:∀ n,n ∈ l->0<=n/\n<=65535):(l.map Lib.itoa).map bP=l:=by
 rw [List.map_map]
 conv=>rhs; rw [<- List.map_id l]
 exact List.map_congr_left fun n hn=>iq (h n hn).1 (h n hn).2
theorem eP (l:List Int):∀ t,t ∈ l.map Lib.itoa->plain t:=fun t ht=>by
 obtain ⟨n,_,rfl⟩:=List.mem_map.1 ht
 exact nw n
def mkI (k:Int) (l:List Int):DIns :=
 if k=1 then ⟨1,l.getD 0 0,0,0,l.getD 1 0,0,[]⟩ else if k=2 then ⟨2,l.getD 0 0,l.getD 1 0,0,0,0,[]⟩
 else if 3<=k/\k<=8 then ⟨k,l.getD 0 0,l.getD 1 0,l.getD 2 0,0,0,[]⟩ else if k=9 then ⟨9,l.getD 0 0,l.getD 1 0,0,0,0,[]⟩
 else if k=10 then ⟨10,0,l.getD 0 0,l.getD 1 0,0,0,[]⟩ else if k=11 then ⟨11,l.getD 0 0,0,0,0,l.getD 1 0,l.drop 2⟩
 else if k=12 then ⟨12,0,l.getD 0 0,0,0,0,[]⟩ else if k=13 then ⟨13,l.getD 0 0,0,0,0,0,[]⟩ else ⟨k,0,0,0,0,0,[]⟩
def Bq (k:Int) (n:Nat):Prop:=if k=11 then 2<=n/\n<=10 else n=(if k=12\/k=13 then 1 else if 3<=k/\k<=8 then 3 else 2)
theorem qH {k:Int} (h:1<=k/\k<=13):k=1\/k=2\/k=3\/k=4\/k=5\/k=6\/k=7\/k=8\/k=9\/k=10\/k=11\/k=12\/k=13:=by omega
theorem m9 (k:Int) (l:List Int):(mkI k l).op=k:=by
 unfold mkI
 split
 ·simp_all
 split
 ·simp_all
 split
 ·rfl
 split
 ·simp_all
 split
 ·simp_all
 split
 ·simp_all
 split
 ·simp_all
 split
 ·simp_all
 rfl
theorem wH (w:List UInt8):opN w=0\/(1<=opN w/\opN w<=13)/\w=wOf (opN w):=by
 by_cases h1:w=[99,111,110,115,116]
 ·subst h1; exact .inr ⟨by decide,by decide⟩
 by_cases h2:w=[99,111,112,121]
 ·subst h2; exact .inr ⟨by decide,by decide⟩
 by_cases h3:w=[97,100,100]
 ·subst h3; exact .inr ⟨by decide,by decide⟩
 by_cases h4:w=[115,117,98]
 ·subst h4; exact .inr ⟨by decide,by decide⟩
 by_cases h5:w=[109,117,108]
 ·subst h5; exact .inr ⟨by decide,by decide⟩
 by_cases h6:w=[100,105,118]
 ·subst h6; exact .inr ⟨by decide,by decide⟩
 by_cases h7:w=[101,113]
 ·subst h7; exact .inr ⟨by decide,by decide⟩
 by_cases h8:w=[108,116]
 ·subst h8; exact .inr ⟨by decide,by decide⟩
 by_cases h9:w=[108,111,97,100]
 ·subst h9; exact .inr ⟨by decide,by decide⟩
 by_cases h10:w=[115,116,111,114,101]
 ·subst h10; exact .inr ⟨by decide,by decide⟩
 by_cases h11:w=[99,97,108,108]
 ·subst h11; exact .inr ⟨by decide,by decide⟩
 by_cases h12:w=[111,117,116]
 ·subst h12; exact .inr ⟨by decide,by decide⟩
 by_cases h13:w=[105,110]
 ·subst h13; exact .inr ⟨by decide,by decide⟩
 exact .inl (by simp [opN,h1,h2,h3,h4,h5,h6,h7,h8,h9,h10,h11,h12,h13])
theorem wX {k:Int} (h:1<=k/\k<=13):plain (wOf k)/\opN (wOf k)=k:=by
 rcases qH h with rfl | rfl | rfl | rfl | rfl | rfl | rfl | rfl | rfl | rfl | rfl | rfl | rfl <;> exact ⟨by unfold plain; decide,by decide⟩
theorem we {x:DIns} (h:1<=x.op/\x.op<=13):em x=cW (wOf x.op) ((nsI x).map Lib.itoa):=by
 rw [<- jI]
 rcases qH h with h | h | h | h | h | h | h | h | h | h | h | h | h <;> simp [em,wOf,nsI,h]
def tg (x:DIns):Prop:=(1<=x.op/\x.op<=13)/\x=mkI x.op (nsI x)/\(∀ n,n ∈ nsI x->0<=n/\n<=65535)/\x.args.length<=8
theorem tg.cnt {x:DIns} (h:tg x):Bq x.op (nsI x).length/\(nsI x).length<=10:=by
 obtain ⟨h1,_,_,h4⟩:=h
 rcases qH h1 with e | e | e | e | e | e | e | e | e | e | e | e | e <;> simp [Bq,nsI,e]
 omega
theorem rS {α:Type} {l:List α} (h:l.length=1):∃ a,l=[a]:=List.length_eq_one_iff.1 h
theorem len2 {α:Type} {l:List α} (h:l.length=2):∃ a b,l=[a,b]:=by
 match l,h with
 | [a,b],_=>exact ⟨a,b,rfl⟩
theorem len3 {α:Type} {l:List α} (h:l.length=3):∃ a b c,l=[a,b,c]:=by
 match l,h with
 | [a,b,c],_=>exact ⟨a,b,c,rfl⟩
theorem len2m {α:Type} {l:List α} (h:2<=l.length):∃ a b r,l=a :: b :: r:=by
 match l,h with
 | a :: b :: r,_=>exact ⟨a,b,r,rfl⟩
theorem mkI_ns {k:Int} (h:1<=k/\k<=13) {l:List Int} (hc:Bq k l.length):nsI (mkI k l)=l/\(mkI k l).args.length<=8:=by
 unfold Bq at hc
 rcases qH h with rfl | rfl | rfl | rfl | rfl | rfl | rfl | rfl | rfl | rfl | rfl | rfl | rfl
 ·obtain ⟨a,b,rfl⟩:=len2 (l:=l) (by simpa using hc)
  exact ⟨by simp [mkI,nsI],by simp [mkI]⟩
 ·obtain ⟨a,b,rfl⟩:=len2 (l:=l) (by simpa using hc)
  exact ⟨by simp [mkI,nsI],by simp [mkI]⟩
 ·obtain ⟨a,b,c,rfl⟩:=len3 (l:=l) (by simpa using hc)
  exact ⟨by simp [mkI,nsI],by simp [mkI]⟩
 ·obtain ⟨a,b,c,rfl⟩:=len3 (l:=l) (by simpa using hc)
  exact ⟨by simp [mkI,nsI],by simp [mkI]⟩
 ·obtain ⟨a,b,c,rfl⟩:=len3 (l:=l) (by simpa using hc)
  exact ⟨by simp [mkI,nsI],by simp [mkI]⟩
 ·obtain ⟨a,b,c,rfl⟩:=len3 (l:=l) (by simpa using hc)
  exact ⟨by simp [mkI,nsI],by simp [mkI]⟩
 ·obtain ⟨a,b,c,rfl⟩:=len3 (l:=l) (by simpa using hc)
  exact ⟨by simp [mkI,nsI],by simp [mkI]⟩
 ·obtain ⟨a,b,c,rfl⟩:=len3 (l:=l) (by simpa using hc)
  exact ⟨by simp [mkI,nsI],by simp [mkI]⟩
 ·obtain ⟨a,b,rfl⟩:=len2 (l:=l) (by simpa using hc)
  exact ⟨by simp [mkI,nsI],by simp [mkI]⟩
 ·obtain ⟨a,b,rfl⟩:=len2 (l:=l) (by simpa using hc)
  exact ⟨by simp [mkI,nsI],by simp [mkI]⟩
 ·rw [if_pos rfl] at hc
  obtain ⟨a,b,r,rfl⟩:=len2m (l:=l) hc.1
  have:=hc.2
  exact ⟨by simp [mkI,nsI],by simp [mkI] at this ⊢; omega⟩
 ·obtain ⟨a,rfl⟩:=rS (l:=l) (by simpa using hc)
  exact ⟨by simp [mkI,nsI],by simp [mkI]⟩
 ·obtain ⟨a,rfl⟩:=rS (l:=l) (by simpa using hc)
  exact ⟨by simp [mkI,nsI],by simp [mkI]⟩
theorem BB {k:Int} (h:1<=k/\k<=13) (l:List Int):mkI k l=mkI k (nsI (mkI k l)):=by
 rcases qH h with rfl | rfl | rfl | rfl | rfl | rfl | rfl | rfl | rfl | rfl | rfl | rfl | rfl <;> simp [mkI,nsI]
theorem Fx {k:Int} (h:1<=k/\k<=13) {l:List Int} (hl:∀ n,n ∈ l->0<=n/\n<=65535):∀ n,n ∈ nsI (mkI k l)->0<=n/\n<=65535:=by
 have hg:∀ i,0<=l.getD i 0/\l.getD i 0<=65535:=fun i=>by
  rw [GR]
  cases e:l[i]? with
  | none=>simp
  | some a=>exact hl a (GM e)
 have h0:=hg 0
 have h1:=hg 1
 have h2:=hg 2
 have hd:∀ n,n ∈ l.drop 2->0<=n/\n<=65535:=fun n hn=>hl n (List.mem_of_mem_drop hn)
 rcases qH h with rfl | rfl | rfl | rfl | rfl | rfl | rfl | rfl | rfl | rfl | rfl | rfl | rfl <;> intro n hn <;> simp only [mkI,nsI] at hn <;> simp at hn
 all_goals first
  | (rcases hn with rfl | rfl | hn <;> first | exact h0 | exact h1 | exact h2 | exact hd _ hn | (subst hn; first | exact h0 | exact h1 | exact h2))
  | (rcases hn with rfl | rfl <;> first | exact h0 | exact h1)
  | (subst hn; exact h0)
open Classical in
noncomputable def jd (s:List UInt8):Option DIns :=
 if opN (aA s).1≠0/\(∀ n,n ∈ (aA s).2.map bP->0<=n)/\Bq (opN (aA s).1) (aA s).2.length then some (mkI (opN (aA s).1) ((aA s).2.map bP)) else none
theorem tn {s:List UInt8} {x:DIns}:jd s=some x ↔ tg x/\em x=s:=by
 unfold jd
 constructor
 ·intro h
  split at h
  ·rename_i hc
   obtain ⟨h1,h2,h3⟩:=hc
   cases h
   obtain ⟨ho,hw⟩:=(wH (aA s).1).resolve_left h1
   obtain ⟨h4,h5⟩:=o5 h2
   have h6:=mkI_ns ho (l:=(aA s).2.map bP) (by rw [List.length_map]; exact h3)
   refine ⟨⟨by rw [m9]; exact ho,by rw [m9,h6.1],by rw [h6.1]; exact h5,h6.2⟩,?_⟩
   rw [we (by rw [m9]; exact ho),m9,h6.1,<- hw,<- h4]
   exact (fH s).1
  ·cases h
 ·rintro ⟨hg,rfl⟩
  have hc:=hg.cnt
  obtain ⟨h1,h2,h3,h4⟩:=hg
  have hcond:opN (wOf x.op)≠0/\(∀ n,n ∈ ((nsI x).map Lib.itoa).map bP->0<=n)/\Bq (opN (wOf x.op)) ((nsI x).map Lib.itoa).length:=by
   rw [(wX h1).2,jL h3,List.length_map]
   exact ⟨by omega,fun n hn=>(h3 n hn).1,hc.1⟩
  rw [we h1,j5 (wX h1).1 (eP _)]
  rw [if_pos hcond,(wX h1).2,jL h3,<- h2]
theorem DL {s:List UInt8} {w:List UInt8} {ts:List (List UInt8)} {pu:List UInt8->Int} (hp:∀ t,0<=pu t/\pu t<=65535) (hi:∀ n:Int,0<=n->n<=65535->pu (Lib.itoa n)=n)
  (hs:∀ (w':List UInt8) (ts':List (List UInt8)),plain w'->(∀ t,t ∈ ts'->plain t)->ts'.length<=13->s=cW w' ts'->w=w'/\ts=ts') {x:DIns} :
  (mkI (opN w) (ts.map pu)=x/\x.op≠0/\x.args.length<=8/\em x=s) ↔ jd s=some x:=by
 rw [tn]
 constructor
 ·rintro ⟨rfl,h1,h2,h3⟩
  rw [m9] at h1
  have ho:=((wH w).resolve_left h1).1
  refine ⟨⟨by rw [m9]; exact ho,by rw [m9]; exact BB ho _,Fx ho fun n hn=>?_,h2⟩,h3⟩
  obtain ⟨t,_,rfl⟩:=List.mem_map.1 hn
  exact hp t
 ·rintro ⟨hg,rfl⟩
  have hc:=hg.cnt
  obtain ⟨h1,h2,h3,h4⟩:=hg
  obtain ⟨rfl,rfl⟩:=hs (wOf x.op) ((nsI x).map Lib.itoa) (wX h1).1 (eP _) (by rw [List.length_map]; omega) (we h1)
  refine ⟨?_,by omega,h4,rfl⟩
  rw [(wX h1).2,List.map_map]
  conv=>rhs; rw [h2]
  congr 1
  conv=>rhs; rw [<- List.map_id (nsI x)]
  exact List.map_congr_left fun n hn=>hi n (h3 n hn).1 (h3 n hn).2
end Go.Ab
end

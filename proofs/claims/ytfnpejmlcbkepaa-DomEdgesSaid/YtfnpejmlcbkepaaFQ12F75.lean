import Derived.Test.YtfnpejmlcbkepaaFQ12F70
set_option linter.all false
section
set_option maxRecDepth 10000
namespace Go.Ab
theorem iJ {α:Type} {l:List α} {j:Nat} {a:α} (h:l[j]? = some a):l.take (j + 1)=l.take j ++ [a]:=by
 rw [List.take_add_one,h]; rfl
end Go.Ab
namespace Go.Ab.Q12
open Go Go.Ab Go.Proofs
section
variable {q:Option Bool} {b:TV} {bs:List DBlock} (hb:RL q 14 (RBlock q) b bs)
include hb
theorem nxLoop {y1 y2 w4:TV} {l:List Int} (hw:RInts (some true) w4 l) (hl:l.length≤1000):∀ (d j:Nat) (acc:TV) (m:List Int),j + d=l.length→RInts (some true) acc m→m=(l.take j).filter (ct bs.length) →
  ∃ y,aa prog 18 (f18_4 (I j) y1 y2 b w4 acc) y∧RInts (some true) y (l.filter (ct bs.length)):=by
 intro d
 have hbn:=hw.bnd
 induction d with
 | zero =>
  intro j acc m hj ha hm
  have hj:j=l.length:=by omega
  subst hj
  rw [List.take_length] at hm
  subst hm
  refine ⟨acc,?_,ha⟩
  unfold f18_4
  exact aa.tv hw.len (aa.tv rfl (aa.ite bI nofun fun _=>aa.ret))
 | succ d ih =>
  intro j acc m hj ha hm
  have hjl:j < l.length:=by omega
  obtain ⟨a,haa⟩:∃ a,a=l[j]:=⟨_,rfl⟩
  have hla:l[j]? = some a:=by rw [haa]; exact D9 hjl
  obtain ⟨e,he,rfl,hea⟩:=hw.pel hla
  have anj:ag (I j)=some j:=am (by omega)
  have hml:m.length≤j:=by rw [hm]; exact Nat.le_trans (List.length_filter_le _ _) (by simp; omega)
  cases hp:ct bs.length a with
  | true =>
   have hp':0≤a∧a < (bs.length:Int):=by simpa [ct] using hp
   obtain ⟨acc',h1,h2⟩:=ha.app (e:=[I a]) (a:=a) ⟨rfl,hea⟩ (by omega)
   obtain ⟨y,hy,hr⟩:=ih (j + 1) acc' (m ++ [a]) (by omega) h2 (by rw [ec hla,hp,if_pos rfl,hm])
   refine ⟨y,?_,hr⟩
   unfold f18_4
   refine aa.tv hw.len (aa.tv rfl (aa.ite (bH hjl) (fun _=>?_) nofun))
   refine aa.nat hw.slLen (aa.nat anj (aa.chk (by simp [hw.slSize,hjl]) (aa.tvs he (aa.chk rfl (aa.tv rfl (aa.ite (v:=true) (by simp [asBool,hp'.1]) (fun _=>?_) nofun))))))
   refine aa.nat hw.slLen (aa.nat anj (aa.chk (by simp [hw.slSize,hjl]) (aa.tvs he (aa.chk rfl (aa.tv hb.len (aa.tv rfl (aa.ite (v:=true) (by simp [asBool,hp'.2]) (fun _=>?_) nofun)))))))
   exact aa.nat hw.slLen (aa.nat anj (aa.chk (by simp [hw.slSize,hjl]) (aa.tvs he (aa.chk rfl (aa.rws rfl (aa.tv h1 (aa.tv (inc hjl hbn) (f18_4_J hy))))))))
  | false =>
   obtain ⟨y,hy,hr⟩:=ih (j + 1) acc m (by omega) ha (by rw [ec hla,hp,hm]; simp)
   refine ⟨y,?_,hr⟩
   unfold f18_4
   refine aa.tv hw.len (aa.tv rfl (aa.ite (bH hjl) (fun _=>?_) nofun))
   refine aa.nat hw.slLen (aa.nat anj (aa.chk (by simp [hw.slSize,hjl]) (aa.tvs he (aa.chk rfl (aa.tv rfl (aa.ite rfl (fun h=>?_) fun h=>?_))))))
   ·have h0:0≤a:=by simpa using h
    have h1:¬ a < (bs.length:Int):=by
     intro h; simp [ct,h0,h] at hp
    exact aa.nat hw.slLen (aa.nat anj (aa.chk (by simp [hw.slSize,hjl]) (aa.tvs he (aa.chk rfl (aa.tv hb.len (aa.tv rfl (aa.ite (v:=false) (by simp [asBool,h1]) nofun fun _=>aa.tv (inc hjl hbn) (f18_4_J hy))))))))
   ·exact aa.tv (inc hjl hbn) (f18_4_J hy)
theorem DN {y1 y2 g:TV} {x:DEnd} (ho:x.ok):∀ (w:TV) (l:List Int) (u:Bool),RInts (some true) w l→l.length≤2→u=(x.kind == 4) →
  ∃ y,aa prog 18 (f18_2 (B u) y1 y2 b (I x.kind) (I x.a) (I x.dst) (I x.f) g (I x.to) (I x.els) (I x.pad) w) y∧RInts (some true) y ((l ++ (if x.kind=4 then [x.pad] else [])).filter (ct bs.length)):=by
 intro w l u hw hl hu
 have key:∀ (w:TV) (m:List Int),RInts (some true) w m→m.length≤3→∃ y,aa prog 18 (f18_3 (I 0) y1 y2 b w (.lit au)) y∧RInts (some true) y (m.filter (ct bs.length)):=fun w m hw hm=>by
  obtain ⟨y,hy,hr⟩:=nxLoop hb (y1:=y1) (y2:=y2) hw (by omega) m.length 0 (.lit au) [] (by omega) .nil (by simp)
  exact ⟨y,by unfold f18_3; exact f18_4_J hy,hr⟩
 subst hu
 by_cases h4:x.kind=4
 ·obtain ⟨w',h1,h2⟩:=hw.app (e:=[I x.pad]) (a:=x.pad) ⟨rfl,ho.2.2.2.2.2.2⟩ (by omega)
  obtain ⟨y,hy,hr⟩:=key w' _ h2 (by simp; omega)
  refine ⟨y,?_,by rw [if_pos h4]; exact hr⟩
  unfold f18_2
  exact aa.ite (v:=true) (by simp [asBool,h4]) (fun _=>aa.rws rfl (aa.tv h1 (aa.chk rfl (f18_3_J hy)))) nofun
 ·obtain ⟨y,hy,hr⟩:=key w _ hw (by omega)
  refine ⟨y,?_,by rw [if_neg h4,List.append_nil]; exact hr⟩
  unfold f18_2
  exact aa.ite (v:=false) (by simp [asBool,h4]) nofun fun _=>aa.chk rfl (f18_3_J hy)
theorem DK {y1 y2 g:TV} {x:DEnd} (ho:x.ok):∀ (w:TV) (l:List Int) (u:Bool),RInts (some true) w l→l.length≤1→u=(x.kind == 3) →
  ∃ y,aa prog 18 (f18_1 (B u) y1 y2 b (I x.kind) (I x.a) (I x.dst) (I x.f) g (I x.to) (I x.els) (I x.pad) w) y∧RInts (some true) y ((l ++ (if x.kind=3 then [x.els] else []) ++ (if x.kind=4 then [x.pad] else [])).filter (ct bs.length)):=by
 intro w l u hw hl hu
 subst hu
 by_cases h3:x.kind=3
 ·obtain ⟨w',h1,h2⟩:=hw.app (e:=[I x.els]) (a:=x.els) ⟨rfl,ho.2.2.2.2.2.1⟩ (by omega)
  obtain ⟨y,hy,hr⟩:=DN hb (y1:=y1) (y2:=y2) (g:=g) ho w' _ _ h2 (by simp; omega) rfl
  refine ⟨y,?_,by rw [if_pos h3]; exact hr⟩
  unfold f18_1
  exact aa.ite (v:=true) (by simp [asBool,h3]) (fun _=>aa.rws rfl (aa.tv h1 (aa.tv rfl (f18_2_J hy)))) nofun
 ·obtain ⟨y,hy,hr⟩:=DN hb (y1:=y1) (y2:=y2) (g:=g) ho w _ _ hw (by omega) rfl
  refine ⟨y,?_,by rw [if_neg h3,List.append_nil]; exact hr⟩
  unfold f18_1
  exact aa.ite (v:=false) (by simp [asBool,h3]) nofun fun _=>aa.tv rfl (f18_2_J hy)
theorem nxTop {y1 y2 g:TV} {x:DEnd} (ho:x.ok) (u:Bool) (hu:u=true ↔ x.kind=2∨x.kind=3∨x.kind=4) :
  ∃ y,aa prog 18 (f18_0 (B u) y1 y2 b (I x.kind) (I x.a) (I x.dst) (I x.f) g (I x.to) (I x.els) (I x.pad) (.lit au)) y ∧
   RInts (some true) y (((if x.kind=2∨x.kind=3∨x.kind=4 then [x.to] else []) ++ (if x.kind=3 then [x.els] else []) ++ (if x.kind=4 then [x.pad] else [])).filter (ct bs.length)):=by
 cases u with
 | true =>
  have h:=hu.1 rfl
  obtain ⟨w',h1,h2⟩:=(RL.nil:RInts (some true) (.lit au) []).app (e:=[I x.to]) (a:=x.to) ⟨rfl,ho.2.2.2.2.1⟩ (by simp)
  obtain ⟨y,hy,hr⟩:=DK hb (y1:=y1) (y2:=y2) (g:=g) ho w' _ _ h2 (by simp) rfl
  refine ⟨y,?_,by rw [if_pos h]; exact hr⟩
  unfold f18_0
  exact aa.ite rfl (fun _=>aa.rws rfl (aa.tv h1 (aa.tv rfl (f18_1_J hy)))) nofun
 | false =>
  have h:¬ (x.kind=2∨x.kind=3∨x.kind=4):=fun h=>by have:=hu.2 h; cases this
  obtain ⟨y,hy,hr⟩:=DK hb (y1:=y1) (y2:=y2) (g:=g) ho (.lit au) [] _ .nil (by simp) rfl
  refine ⟨y,?_,by rw [if_neg h]; exact hr⟩
  unfold f18_0
  exact aa.ite rfl nofun fun _=>aa.tv rfl (f18_1_J hy)
end
theorem r72 {q:Option Bool} {e:List TV} {f:DFunc} (he:RFunc q e f) (n:Int):∃ y,aY prog 18 [.agg e,I n] y∧RInts (some true) y (g8 f.blocks n):=by
 obtain ⟨b,rfl,hb,_⟩:=he
 by_cases h0:n < 0
 ·refine ⟨.lit au,?_,by rw [g8,if_neg (by omega)]; exact .nil⟩
  refine aY.of (f18_MR _ _) ?_
  unfold f18_M
  exact aa.chk rfl (aa.tv rfl (aa.ite (v:=true) (by simp [asBool,h0]) (fun _=>aa.ret) nofun))
 by_cases h1:n ≥ (f.blocks.length:Int)
 ·refine ⟨.lit au,?_,by rw [ux (by simp [ct]; omega)]; exact .nil⟩
  refine aY.of (f18_MR _ _) ?_
  unfold f18_M
  exact aa.chk rfl (aa.tv rfl (aa.ite (v:=false) (by simp [asBool]; omega) nofun fun _=>aa.tv hb.len (aa.tv rfl (aa.ite (v:=true) (by simp [asBool]; omega) (fun _=>aa.ret) nofun))))
 obtain ⟨bk,hbk,hnl,hn⟩:=wY (bs:=f.blocks) (n:=n) (by simp [ct]; omega)
 obtain ⟨e2,he2,hR⟩:=hb.idx (k:=.i64) hbk
 obtain ⟨c,i,g,rfl,hc,hd,hi,hg,ho⟩:=hR
 rw [← hn] at he2
 have key:∀ u:Bool,(u=true ↔ bk.fin.kind=2∨bk.fin.kind=3∨bk.fin.kind=4)→∃ y,aa prog 18 (f18_0 (B u) (I f.params) (I f.regs) b (I bk.fin.kind) (I bk.fin.a) (I bk.fin.dst) (I bk.fin.f) g (I bk.fin.to) (I bk.fin.els) (I bk.fin.pad) (.lit au)) y∧RInts (some true) y (g8 f.blocks n):=fun u hu=>by
  obtain ⟨y,hy,hr⟩:=nxTop hb (y1:=I f.params) (y2:=I f.regs) (g:=g) ho u hu
  exact ⟨y,hy,by rw [hnl]; exact hr⟩
 have start:∀ {r:TV},(∀ (h2:bk.fin.kind=2),aa prog 18 (f18_0 (B true) (I f.params) (I f.regs) b (I bk.fin.kind) (I bk.fin.a) (I bk.fin.dst) (I bk.fin.f) g (I bk.fin.to) (I bk.fin.els) (I bk.fin.pad) (.lit au)) r) →
   (∀ (h3:bk.fin.kind=3),aa prog 18 (f18_0 (B true) (I f.params) (I f.regs) b (I bk.fin.kind) (I bk.fin.a) (I bk.fin.dst) (I bk.fin.f) g (I bk.fin.to) (I bk.fin.els) (I bk.fin.pad) (.lit au)) r) →
   (∀ (h2:¬ bk.fin.kind=2) (h3:¬ bk.fin.kind=3),aa prog 18 (f18_0 (B (bk.fin.kind == 4)) (I f.params) (I f.regs) b (I bk.fin.kind) (I bk.fin.a) (I bk.fin.dst) (I bk.fin.f) g (I bk.fin.to) (I bk.fin.els) (I bk.fin.pad) (.lit au)) r) →
   aY prog 18 [.agg [I f.params,I f.regs,b],I n] r:=fun {r} k2 k3 k4=>by
  refine aY.of (f18_MR _ _) ?_
  unfold f18_M
  refine aa.chk rfl (aa.tv rfl (aa.ite (v:=false) (by simp [asBool]; omega) nofun fun _=>aa.tv hb.len (aa.tv rfl (aa.ite (v:=false) (by simp [asBool]; omega) nofun fun _=>?_))))
  refine aa.tvs he2 (aa.chk rfl (aa.tv rfl (aa.ite rfl (fun h=>?_) fun h=>?_)))
  ·exact aa.chk rfl (f18_0_J (k2 (by simpa using h)))
  ·have h2:¬ bk.fin.kind=2:=by simpa using h
   refine aa.tv rfl (aa.ite rfl (fun h=>?_) fun h=>?_)
   ·exact aa.chk rfl (f18_0_J (k3 (by simpa using h)))
   ·exact aa.tv rfl (aa.chk rfl (f18_0_J (k4 h2 (by simpa using h))))
 by_cases h23:bk.fin.kind=2∨bk.fin.kind=3
 ·obtain ⟨y,hy,hr⟩:=key true ⟨fun _=>(by rcases h23 with h | h <;> simp [h]),fun _=>rfl⟩
  exact ⟨y,start (fun _=>hy) (fun _=>hy) (fun h2 h3=>absurd h23 (by simp [h2,h3])),hr⟩
 ·have h2:¬ bk.fin.kind=2:=fun h=>h23 (.inl h)
  have h3:¬ bk.fin.kind=3:=fun h=>h23 (.inr h)
  obtain ⟨y,hy,hr⟩:=key (bk.fin.kind == 4) (by simp [h2,h3])
  exact ⟨y,start (fun h=>absurd h h2) (fun h=>absurd h h3) (fun _ _=>hy),hr⟩
theorem r75 {q:Option Bool} {x:TV} {l:List Int} (hx:RInts q x l) (n:Int):aY prog 26 [x,I n] (B (decide (n ∈ l))):=by
 have hbn:=hx.bnd
 have loop:∀ (d j:Nat),j + d=l.length→n ∉ l.take j→aa prog 26 (f26_0 x (I n) (I j)) (B (decide (n ∈ l))):=by
  intro d
  induction d with
  | zero =>
   intro j hj hn
   have hj:j=l.length:=by omega
   subst hj
   rw [List.take_length] at hn
   unfold f26_0
   exact aa.tv hx.len (aa.tv rfl (aa.ite bI nofun fun _=>iG.2 (by simp [hn])))
  | succ d ih =>
   intro j hj hn
   have hjl:j < l.length:=by omega
   obtain ⟨a,haa⟩:∃ a,a=l[j]:=⟨_,rfl⟩
   have hla:l[j]? = some a:=by rw [haa]; exact D9 hjl
   obtain ⟨e,he,rfl,hea⟩:=hx.idx (k:=.i64) hla
   unfold f26_0
   refine aa.tv hx.len (aa.tv rfl (aa.ite (bH hjl) (fun _=>aa.tvs he (aa.chk rfl (aa.tv rfl (aa.ite rfl (fun h=>?_) fun h=>?_)))) nofun))
   ·have ha:a=n:=by simpa using h
    have:n ∈ l:=by rw [← ha]; exact Eh hla
    exact iG.2 (by simp [this])
   ·have ha:¬ a=n:=by simpa using h
    exact aa.tv (inc hjl hbn) (f26_0_J (ih (j + 1) (by omega) (by rw [iJ hla]; simp [hn]; exact fun h=>ha h.symm)))
 refine aY.of (f26_MR _ _) ?_
 unfold f26_M
 exact f26_0_J (loop l.length 0 (by omega) (by simp))
end Go.Ab.Q12
end
section
set_option maxRecDepth 10000
namespace Go.Ab
inductive Dfs (bs:List DBlock):List Bool→List (Nat × List Int)→List Int→List Bool→List Int→Prop
 | done {M:List Bool} {o:List Int}:Dfs bs M [] o M o
 | leave {M M':List Bool} {n:Nat} {st:List (Nat × List Int)} {o o':List Int}:Dfs bs M st ((n:Int) :: o) M' o'→Dfs bs M ((n,[]) :: st) o M' o'
 | skip {M M':List Bool} {n:Nat} {g:Int} {l:List Int} {st:List (Nat × List Int)} {o o':List Int}:M[g.toNat]? = some true→Dfs bs M ((n,l) :: st) o M' o'→Dfs bs M ((n,g :: l) :: st) o M' o'
 | enter {M M':List Bool} {n:Nat} {g:Int} {l:List Int} {st:List (Nat × List Int)} {o o':List Int}:M[g.toNat]? = some false→Dfs bs (M.set g.toNat true) ((g.toNat,ak bs g.toNat) :: (n,l) :: st) o M' o'→Dfs bs M ((n,g :: l) :: st) o M' o'
def uT (bs:List DBlock) (o:List Int):Prop:=(bs=[]∧o=[])∨(bs≠[]∧∃ M',Dfs bs ((List.replicate bs.length false).set 0 true) [(0,ak bs 0)] [] M' o)
def work (M:List Bool) (st:List (Nat × List Int)):Nat:=M.count false * 5 + (st.map fun p=>p.2.length + 1).sum
theorem count_set {M:List Bool} {g:Nat} (h:M[g]? = some false):(M.set g true).count false + 1=M.count false:=by
 have hlt:=(D8.1 h).1
 have hv:=(D8.1 h).2
 have hm:false ∈ M:=Eh h
 have:=List.count_pos_iff.2 hm
 rw [List.count_set hlt]
 simp [hv]
 omega
theorem fT (bs:List DBlock) (i:Nat):(ak bs i).length≤3:=by
 have:=tK bs (i:Int)
 rwa [fP] at this
structure WOk (bs:List DBlock) (M:List Bool) (st:List (Nat × List Int)) (o:List Int):Prop where
 len:M.length=bs.length
 at_:∀ p ∈ st,p.1 < bs.length∧∀ g ∈ p.2,0≤g∧g.toNat < bs.length
 room:st.length + o.length≤M.count true
theorem WOk.leave {bs:List DBlock} {M:List Bool} {st:List (Nat × List Int)} {o:List Int} {n:Nat} (h:WOk bs M ((n,[]) :: st) o):WOk bs M st ((n:Int) :: o) :=
 ⟨h.len,fun p hp=>h.at_ p (Eg _ hp),by have:=h.room; simp at this ⊢; omega⟩
theorem WOk.skip {bs:List DBlock} {M:List Bool} {st:List (Nat × List Int)} {o:List Int} {n:Nat} {g:Int} {l:List Int} (h:WOk bs M ((n,g :: l) :: st) o):WOk bs M ((n,l) :: st) o :=
 ⟨h.len, fun p hp => by
  rcases List.mem_cons.1 hp with rfl | hp
  ·exact ⟨(h.at_ _ Ef).1,fun g' hg=>(h.at_ _ Ef).2 g' (Eg _ hg)⟩
  ·exact h.at_ p (Eg _ hp),h.room⟩
theorem WOk.enter {bs:List DBlock} {M:List Bool} {st:List (Nat × List Int)} {o:List Int} {n:Nat} {g:Int} {l:List Int} (h:WOk bs M ((n,g :: l) :: st) o) (hg:M[g.toNat]? = some false):WOk bs (M.set g.toNat true) ((g.toNat,ak bs g.toNat) :: (n,l) :: st) o:=by
 refine ⟨by rw [List.length_set]; exact h.len,fun p hp=>?_,?_⟩
 ·rcases List.mem_cons.1 hp with rfl | hp
  ·exact ⟨((h.at_ _ Ef).2 g Ef).2,fun g' hg=>aM hg⟩
  ·exact h.skip.at_ p hp
 ·have:=h.room
  rw [oM hg]
  simp at this ⊢
  omega
theorem WOk.cap {bs:List DBlock} {M:List Bool} {st:List (Nat × List Int)} {o:List Int} (h:WOk bs M st o):st.length + o.length≤bs.length:=by
 have:=vV M
 have:=h.room
 rw [← h.len]
 omega
theorem dec7 {n:Nat} (h:0 < n) (hn:n≤9223372036854775807):pbin (.int .i64) .sub (I (n:Int)) (I (1:Int))=some (I ((n - 1:Nat):Int)):=by
 have h1:IntKind.i64.wrap ((n:Int) - 1)=((n - 1:Nat):Int):=by rw [IntKind.wrap_i64]; omega
 show some (TV.lit (.int .i64 (IntKind.i64.wrap ((n:Int) - 1))))=_
 rw [h1]
theorem lY {g:Int} (h0:0≤g) (hi:inI g):ag (I g)=some g.toNat:=by
 show (if 0≤g∧g≤9223372036854775807 then some g.toNat else none)=some g.toNat
 exact if_pos ⟨h0,hi.2⟩
section
variable {s:Nat} {α:Type} {R:List TV→α→Prop} {y:TV} {l:List α} {q:Option Bool}
theorem RL.deep (hy:RL q s R y l) {i j:Nat} {e:List TV} {z:TV} (he:Go.Ab.pel y i=some e) (hj:e[j]? = some z):co [(i,j)] y=some z:=by
 rcases hy with ⟨rfl,rfl⟩ | ⟨o,xs,rfl,hq,h,hb⟩
 ·simp [Go.Ab.pel] at he
 ·have he:xs[i]? = some e:=he
  simp only [co,he,hj]
theorem RL.winD (hy:RL q s R y l) {k:Nat} (hk:k≤l.length):∃ y',fk k (l.length - k) y=some y'∧RL q s R y' (l.drop k):=by
 rcases hy with ⟨rfl,rfl⟩ | ⟨o,xs,rfl,hq,h,hb⟩
 ·have:k=0:=by simpa using hk
  subst this
  exact ⟨.lit au,rfl,by simpa using RL.nil⟩
 ·have hxl:=h.length
  refine ⟨.sl o s ((xs.drop k).take (l.length - k)),?_,.sl hq ?_ (by simp; omega)⟩
  ·simp only [fk]
   rw [if_pos (by omega)]
  ·have:=(h.drop k).take (l.length - k)
   rwa [List.take_of_length_le (l:=l.drop k) (by simp)] at this
end
def RV (q:Option Bool) (e:List TV) (p:Nat × List Int):Prop:=∃ v,e=[I p.1,v]∧RInts q v p.2
theorem RV.weak {q:Option Bool} {e:List TV} {p:Nat × List Int} (h:RV q e p):RV none e p:=by
 obtain ⟨v,rfl,h⟩:=h
 exact ⟨v,rfl,h.weak fun _ _ h=>h⟩
theorem RL.toN {y:TV} {l:List (Nat × List Int)} {q:Option Bool} (h:RL (some true) 2 (RV q) y l):RL (some true) 2 (RV none) y l:=by
 rcases h with ⟨rfl,rfl⟩ | ⟨o,xs,rfl,hq,h,hb⟩
 ·exact .nil
 ·exact .sl hq (h.mono fun _ _ h=>h.weak) hb
theorem RL.cooled {y:TV} {l:List (Nat × List Int)} {q:Option Bool} (h:RL (some true) 2 (RV q) y l):RL (some true) 2 (RV (some false)) (dl y) l:=by
 rcases h with ⟨rfl,rfl⟩ | ⟨o,xs,rfl,hq,h,hb⟩
 ·exact .nil
 ·refine .sl hq ?_ (by rw [jz,List.length_map]; exact hb)
  rw [jz]
  exact h.mapL fun e p hp=>by
   obtain ⟨v,rfl,hv⟩:=hp
   exact ⟨Ab.frz v,rfl,hv.frz fun _ _ h=>h.frz⟩
end Go.Ab
namespace Go.Ab.Q12
open Go Go.Ab Go.Proofs
theorem CY {L:List Int}:∀ (d i:Nat) (j:Int) (w:TV) (cur:List Int),(i:Int) + j=(L.length:Int) - 1→j - (i:Int)≤(d:Int)→i≤L.length→RInts (some true) w cur→cur.length=L.length →
  (∀ k:Nat,k < L.length→cur[k]? = if k < i∨j < (k:Int) then L[L.length - 1 - k]? else L[k]?)→∃ y,aa prog 24 (f24_3 (I i) (I j) w) y∧RInts (some true) y L.reverse:=by
 have fin:∀ (i:Nat) (j:Int) (w:TV) (cur:List Int),(i:Int) + j=(L.length:Int) - 1→¬ (i:Int) < j→RInts (some true) w cur→cur.length=L.length →
  (∀ k:Nat,k < L.length→cur[k]? = if k < i∨j < (k:Int) then L[L.length - 1 - k]? else L[k]?)→∃ y,aa prog 24 (f24_3 (I i) (I j) w) y∧RInts (some true) y L.reverse:=by
  intro i j w cur hij hn hw hcl hk
  have e:cur=L.reverse:=by
   apply List.ext_getElem?
   intro k
   by_cases h:k < L.length
   ·rw [hk k h,List.getElem?_reverse h]
    split
    ·rfl
    ·have:L.length - 1 - k=k:=by omega
     rw [this]
   ·rw [Ek (by omega),Ek (by simp; omega)]
  subst e
  refine ⟨w,?_,hw⟩
  unfold f24_3
  exact aa.tv rfl (aa.ite (v:=false) (by simp [asBool]; omega) nofun fun _=>aa.chk (hw.own fun _ _ h=>h.own) aa.ret)
 intro d
 induction d with
 | zero =>
  intro i j w cur hij hd hi hw hcl hk
  exact fin i j w cur hij (by omega) hw hcl hk
 | succ d ih =>
  intro i j w cur hij hd hi hw hcl hk
  by_cases hlt:(i:Int) < j
  ·have hbn:=hw.bnd
   obtain ⟨m,rfl⟩:∃ m:Nat,j=(m:Int):=⟨j.toNat,by omega⟩
   have hmc:m < cur.length:=by omega
   have hic:i < cur.length:=by omega
   obtain ⟨a,haa⟩:∃ a,a=cur[i]:=⟨_,rfl⟩
   obtain ⟨b,hbb⟩:∃ b,b=cur[m]:=⟨_,rfl⟩
   have ha:cur[i]? = some a:=by rw [haa]; exact D9 hic
   have hb:cur[m]? = some b:=by rw [hbb]; exact D9 hmc
   obtain ⟨e1,he1,rfl,hea⟩:=hw.pel ha
   obtain ⟨e2,he2,rfl,heb⟩:=hw.pel hb
   obtain ⟨w1,hw1,hr1⟩:=hw.gJ he1 (d:=0) (ys:=[I b]) (a:=b) ⟨rfl,heb⟩
   have hb1:(cur.set i b)[m]? = some b:=by rw [List.getElem?_set_ne (by omega)]; exact hb
   obtain ⟨e3,he3,rfl,_⟩:=hr1.pel hb1
   obtain ⟨w2,hw2,hr2⟩:=hr1.gJ he3 (d:=0) (ys:=[I a]) (a:=a) ⟨rfl,hea⟩
   obtain ⟨y,hy,hry⟩:=ih (i + 1) ((m - 1:Nat):Int) w2 _ (by omega) (by omega) (by omega) hr2 (by simpa using hcl) (fun k hkl=>by
    have hki:=hk i (by omega)
    have hkm:=hk m (by omega)
    rw [if_neg (by omega)] at hki hkm
    rw [List.getElem?_set,List.getElem?_set]
    by_cases h1:m=k
    ·subst h1
     rw [if_pos rfl,if_pos (by simpa using hmc),if_pos (by omega),← ha,hki]
     congr 1
     omega
    ·rw [if_neg h1]
     by_cases h2:i=k
     ·subst h2
      rw [if_pos rfl,if_pos hic,if_pos (by omega),← hb,hkm]
      congr 1
      omega
     ·rw [if_neg h2,hk k hkl]
      by_cases h3:k < i∨(m:Int) < (k:Int)
      ·rw [if_pos h3,if_pos (by omega)]
      ·rw [if_neg h3,if_neg (by omega)])
   refine ⟨y,?_,hry⟩
   have ani:ag (I i)=some i:=am (by omega)
   have anm:ag (I m)=some m:=am (by omega)
   have hm1:m < (cur.set i b).length:=by simpa using hmc
   unfold f24_3
   refine aa.tv rfl (aa.ite (v:=true) (by simp only [asBool]; exact congrArg some (decide_eq_true hlt)) (fun _=>?_) nofun)
   refine aa.nat hw.slLen (aa.nat anm (aa.chk (by simp [hw.slSize,hmc]) (aa.tvs he2 (aa.chk rfl ?_))))
   refine aa.nat hw.slLen (aa.nat ani (aa.chk (by simp [hw.slSize,hic]) (aa.tvs he1 (aa.chk rfl ?_))))
   refine aa.nat hw.slLen (aa.nat ani (aa.chk (by simp [hw.slSize,hic]) (aa.tvs he1 (aa.chk rfl (aa.tv hw1 ?_)))))
   refine aa.nat hr1.slLen (aa.nat anm (aa.chk (by simp only [hr1.slSize]; simpa using hmc) (aa.tvs he3 (aa.chk rfl (aa.tv hw2 ?_)))))
   exact aa.tv (inc hic hbn) (aa.tv (dec7 (by omega) (by omega)) (f24_3_J hy))
  ·exact fin i j w cur hij hlt hw hcl hk
end Go.Ab.Q12
end
section
set_option maxRecDepth 10000
namespace Go.Ab
theorem Cb {α:Type} {l:List α} {a:α}:(l.reverse ++ [a])[l.length]? = some a:=by
 rw [Ej (by simp)]; simp
end Go.Ab
namespace Go.Ab.Q12
open Go Go.Ab Go.Proofs
theorem yW {q:Option Bool} {b:TV} {f:DFunc} (hf:RFunc q [I f.params,I f.regs,b] f) (g:Int):∃ y,aY prog 48 [I g,.agg [I f.params,I f.regs,b]] y∧RInts (some true) y (g8 f.blocks g):=by
 obtain ⟨v,h1,h2⟩:=r71 hf g
 refine ⟨v,?_,h2⟩
 refine aY.of (f48_MR _ _ _ _) ?_
 unfold f48_M
 exact aa.call h1 (aa.chk (aU h2.isSl) (aa.chk (h2.own fun _ _ h=>h.own) aa.ret))
section
variable {q:Option Bool} {b:TV} {f:DFunc} (hf:RFunc q [I f.params,I f.regs,b] f) (hs:f.blocks.length≤1000) {w2:TV} (h2:RInts (some true) w2 [0])
include hf hs h2
theorem AG:∀ (d:Nat) (M:List Bool) (st:List (Nat × List Int)) (o:List Int) (w3 w4 w5:TV),work M st < d→WOk f.blocks M st o→RBools (some true) w3 M→RL (some true) 2 (RV (some false)) w4 st.reverse→RInts (some true) w5 o.reverse →
  ∃ y M' o',aa prog 24 (f24_2 (I ((1:Nat):Int)) (I ((0:Nat):Int)) w2 (I f.params) (I f.regs) b w3 w4 w5) y∧RInts (some true) y o'∧Dfs f.blocks M st o M' o':=by
 intro d
 induction d with
 | zero=>intro M st o w3 w4 w5 hd; omega
 | succ d ih =>
  intro M st o w3 w4 w5 hd hw h3 h4 h5
  have hcap:=hw.cap
  match st,hd,hw,h4,hcap with
  | [],hd,hw,h4,hcap =>
   have hol:o.length≤1000:=by simp at hcap; omega
   obtain ⟨y,hy,hr⟩:=CY (L:=o.reverse) o.reverse.length 0 ((o.reverse.length:Int) - 1) w5 o.reverse (by simp) (by simp; omega) (by simp) h5 rfl (fun k hk=>by rw [if_neg (by omega)])
   refine ⟨y,M,o,?_,by simpa using hr,.done⟩
   unfold f24_2
   refine aa.tv h4.len (aa.tv rfl (aa.ite (v:=false) (by simp [asBool]) nofun fun _=>aa.tv (inc (k:=0) (n:=1) (by omega) (by omega)) (f24_1_J ?_)))
   unfold f24_1
   exact aa.tv rfl (aa.ite bI nofun fun _=>aa.tv h5.len (aa.tv (psub (by simp only [List.length_reverse]; constructor <;> omega)) (f24_3_J hy)))
  | (n, l) :: st', hd, hw, h4, hcap =>
   have hol:st'.length + o.length < 1000:=by simp at hcap; omega
   have hlen:((n,l) :: st').reverse.length=st'.length + 1:=by simp
   have hlast:((n,l) :: st').reverse[st'.length]? = some (n,l):=by rw [List.reverse_cons]; exact Cb
   have h4b:=h4.bnd
   obtain ⟨e,he,v,rfl,hv⟩:=h4.pel hlast
   have hgp:=h4.deep he (j:=1) (z:=v) rfl
   have hnat:ag (I (st'.length:Nat))=some st'.length:=am (by omega)
   have hsub:pbin (.int .i64) .sub (I (((n,l) :: st').reverse.length:Nat)) (I 1)=some (I (st'.length:Nat)):=by
    have:=dec7 (n:=((n,l) :: st').reverse.length) (by omega) (by omega)
    rw [this,hlen]; rfl
   have hchk:(Bool.and (slSize w4 2) (Nat.blt st'.length ((n,l) :: st').reverse.length))=true:=by rw [h4.slSize,hlen]; simp
   have hfit1:ac zSl [I (n:Int),v] 1=true:=by
    show (v.isSl && true)=true
    rw [hv.isSl]; rfl
   have hfit2:fY zSl [I (n:Int),v] 1=true:=by
    show ((v.isSl || v.CD) && true)=true
    rw [hv.isSl]; rfl
   have hgtr:asBool (.lit (.bool (decide (((((n,l) :: st').reverse.length:Nat):Int) > 0))))=some true:=by rw [hlen]; simp [asBool]
   match l,hd,hw,h4,hlast,hv,hsub,hchk,hlen,hgtr with
   | [], hd, hw, h4, hlast, hv, hsub, hchk, hlen, hgtr =>
    obtain ⟨w5',k1,k2⟩:=h5.app (e:=[I (n:Int)]) (a:=(n:Int)) ⟨rfl,by constructor <;> (have:=(hw.at_ _ Ef).1; simp at this; omega)⟩ (by simp; omega)
    obtain ⟨w4',k3,k4⟩:=h4.win (k:=st'.length) (by omega)
    have e4:((n,([]:List Int)) :: st').reverse.take st'.length=st'.reverse:=by
     rw [List.reverse_cons,List.take_append_of_le_length (by simp),List.take_of_length_le (by simp)]
    rw [e4] at k4
    obtain ⟨y,M',o',hy,hr,hD⟩:=ih M st' ((n:Int) :: o) w3 (dl w4') w5' (by simp [work] at hd ⊢; omega) hw.leave h3 k4.cooled (by rw [List.reverse_cons]; exact k2)
    refine ⟨y,M',o',?_,hr,.leave hD⟩
    unfold f24_2
    refine aa.tv h4.len (aa.tv rfl (aa.ite (v:=true) hgtr (fun _=>?_) nofun))
    refine aa.tv h4.len (aa.tv hsub (aa.nat h4.slLen (aa.nat hnat (aa.chk hchk (aa.tvs he (aa.chk hfit1 (aa.tv hgp (aa.tv hv.len (aa.tv rfl (aa.ite (v:=true) rfl (fun _=>?_) nofun)))))))))) 
    refine aa.tv h4.len (aa.tv hsub (aa.nat h4.slLen (aa.nat hnat (aa.chk hchk (aa.tvs he (aa.chk rfl (aa.rws rfl (aa.tv k1 (aa.nat h4.slLen (aa.nat hnat (aa.chk ?_ (aa.tv k3 (f24_2_J hy)))))))))))))
    rw [h4.slSize,hlen]; simp
   | g :: l, hd, hw, h4, hlast, hv, hsub, hchk, hlen, hgtr =>
    have hg:=(hw.at_ _ Ef).2 g Ef
    obtain ⟨eg,heg,rfl,hgi⟩:=hv.pel (i:=0) (a:=g) rfl
    obtain ⟨v',c1,c2⟩:=hv.winD (k:=1) (by simp)
    have e1:(g :: l).drop 1=l:=rfl
    rw [e1] at c2
    obtain ⟨w4',k1,k2⟩:=h4.gJ he (d:=1) (ys:=[v']) (a:=(n,l)) ⟨v',rfl,c2⟩
    have e4:((n,g :: l) :: st').reverse.set st'.length (n,l)=((n,l) :: st').reverse:=by
     rw [List.reverse_cons,List.reverse_cons,List.set_append_right _ _ (by simp)]
     simp
    rw [e4] at k2
    have hMl:g.toNat < M.length:=by rw [hw.len]; exact hg.2
    have hMg:M[g.toNat]? = some M[g.toNat]:=D9 hMl
    obtain ⟨em,hem,hRm⟩:=h3.pel hMg
    cases hRm
    have hgn:ag (I g)=some g.toNat:=lY hg.1 hgi
    have h3b:=h3.bnd
    have hvl:(g :: l).length=l.length + 1:=rfl
    have front:∀ {r:TV},(M[g.toNat]=false→aa prog 24 (Prg.nat (slLen w3) fun n50=>Prg.nat (ag (nth TV.hole [I g] 0)) fun n51=>Prg.chk (Bool.and (slSize w3 1) (Nat.blt n51 n50)) (Prg.tvs (pel w3 n51) fun e52=>Prg.chk (ac bd e52 0) (Prg.tv (dU [] w3 n51 0 [TV.lit (Value.bool true)]) fun v53 =>
      Prg.call 48 [uu (nth TV.hole [I g] 0),TV.agg [I f.params,I f.regs,b]] fun v54=>Prg.chk (ac zSl [v54] 0) (Prg.rws (pelems 2 (TV.sl true 2 (chunks 2 1 [nth TV.hole [I g] 0,v54]))) fun r55=>Prg.tv (papp 2 w4' r55) fun v56=>Prg.jmp [0,0,1,1,0,0,1,1,0,0,1,0,1,1,12,0,1,1] (f24_2_S (I ((1:Nat):Int)) (I ((0:Nat):Int)) w2 (I f.params) (I f.regs) b v53 (dl v56) w5))))) r) →
      (M[g.toNat]=true→aa prog 24 (Prg.jmp [0,0,1,1,0,0,1,1,0,0,1,0,1,1,12,0,1,1] (f24_2_S (I ((1:Nat):Int)) (I ((0:Nat):Int)) w2 (I f.params) (I f.regs) b w3 (dl w4') w5)) r)→aa prog 24 (f24_2 (I ((1:Nat):Int)) (I ((0:Nat):Int)) w2 (I f.params) (I f.regs) b w3 w4 w5) r:=fun {r} k0 k9=>by
     unfold f24_2
     refine aa.tv h4.len (aa.tv rfl (aa.ite (v:=true) hgtr (fun _=>?_) nofun))
     refine aa.tv h4.len (aa.tv hsub (aa.nat h4.slLen (aa.nat hnat (aa.chk hchk (aa.tvs he (aa.chk hfit1 (aa.tv hgp (aa.tv hv.len (aa.tv rfl (aa.ite (v:=false) (by simp [asBool]; omega) nofun fun _=>?_))))))))))
     refine aa.tvs he (aa.chk hfit1 (aa.tv hgp (aa.nat hv.slLen (aa.nat (v:=0) rfl (aa.chk ?_ (aa.tv hgp (aa.tvs heg (aa.chk rfl ?_))))))))
     ·rw [hv.slSize]; simp
     refine aa.tvs he (aa.chk hfit1 (aa.tv hgp (aa.nat hv.slLen (aa.nat (v:=1) rfl (aa.chk ?_ (aa.tv hgp (aa.tv c1 (aa.chk c2.gV ?_))))))))
     ·rw [hv.slSize]; simp
     refine aa.tvs he (aa.chk ?_ (aa.tv k1 (aa.nat h3.slLen (aa.nat hgn (aa.chk ?_ (aa.tvs hem (aa.chk rfl (aa.tv rfl (aa.ite rfl (fun h=>k0 ?_) fun h=>k9 ?_)))))))))
     ·rw [hfit2,aU c2.isSl]; rfl
     ·rw [h3.slSize]; simpa using hMl
     ·simpa using h
     ·simpa using h
    cases hm:M[g.toNat] with
    | true =>
     obtain ⟨y,M',o',hy,hr,hD⟩:=ih M ((n,l) :: st') o w3 (dl w4') w5 (by simp [work] at hd ⊢; omega) hw.skip h3 k2.cooled h5
     exact ⟨y,M',o',front (fun h=>by rw [hm] at h; cases h) (fun _=>f24_2_J hy),hr,.skip (by rw [hMg,hm]) hD⟩
    | false =>
     rw [hm] at hMg
     obtain ⟨w3',c3,c4⟩:=h3.gJ hem (d:=0) (ys:=[B true]) (a:=true) rfl
     obtain ⟨vn,c5,c6⟩:=yW hf g
     have e6:g8 f.blocks g=ak f.blocks g.toNat:=by rw [g8,if_pos hg.1]
     rw [e6] at c6
     have hgg:((g.toNat:Nat):Int)=g:=by omega
     obtain ⟨w4'',c7,c8⟩:=(RL.app (R:=RV none) (k2.toN) (e:=[I g,vn]) (a:=(g.toNat,ak f.blocks g.toNat)) ⟨vn,by rw [hgg],c6.weak fun _ _ h=>h⟩ (by simp; omega))
     obtain ⟨y,M',o',hy,hr,hD⟩:=ih (M.set g.toNat true) ((g.toNat,ak f.blocks g.toNat) :: (n,l) :: st') o w3' (dl w4'') w5 (by
      have h1:=count_set hMg
      have h2:=fT f.blocks g.toNat
      simp only [work,List.map_cons,List.sum_cons,List.length_cons] at hd ⊢
      omega) (hw.enter hMg) c4 (by rw [List.reverse_cons]; exact c8.cooled) h5
     refine ⟨y,M',o',front (fun _=>?_) (fun h=>by rw [hm] at h; cases h),hr,.enter hMg hD⟩
     refine aa.nat h3.slLen (aa.nat hgn (aa.chk ?_ (aa.tvs hem (aa.chk rfl (aa.tv c3 (aa.call c5 (aa.chk (aU c6.isSl) (aa.rws rfl (aa.tv c7 (f24_2_J hy))))))))))
     rw [h3.slSize]; simpa using hMl
end
theorem r80 {q:Option Bool} {e:List TV} {f:DFunc} (he:RFunc q e f) (hs:f.blocks.length≤1000):∃ y o,aY prog 24 [.agg e] y∧RInts (some true) y o∧uT f.blocks o:=by
 have he0:=he
 obtain ⟨b,rfl,hb,_⟩:=he
 by_cases h0:f.blocks=[]
 ·refine ⟨.lit au,[],?_,.nil,.inl ⟨h0,rfl⟩⟩
  refine aY.of (f24_MR _) ?_
  unfold f24_M
  exact aa.chk rfl (aa.tv hb.len (aa.tv rfl (aa.ite (v:=true) (by simp [asBool,h0]) (fun _=>aa.chk rfl aa.ret) nofun)))
 ·have hl:0 < f.blocks.length:=List.length_pos_iff.2 h0
  have hrep:RBools (some true) (.sl true 1 (List.replicate f.blocks.length [B false])) (List.replicate f.blocks.length false):=.sl (by simp) (F2.vD (by simp) fun i e a he ha=>by
   rw [List.getElem?_replicate] at he ha
   split at he
   ·rename_i h; rw [if_pos h] at ha; cases he; cases ha; rfl
   ·cases he) (by simp; omega)
  obtain ⟨e7,he7,hR⟩:=hrep.pel (i:=0) (a:=false) (by rw [List.getElem?_replicate,if_pos hl])
  cases hR
  obtain ⟨w3,c1,c2⟩:=hrep.gJ he7 (d:=0) (ys:=[B true]) (a:=true) rfl
  obtain ⟨v,c3,c4⟩:=yW he0 ((0:Nat):Int)
  rw [fP] at c4
  have h2:RInts (some true) (.sl true 1 [[I ((0:Nat):Int)]]) [0]:=.sl (by simp) (.cons ⟨rfl,by constructor <;> decide⟩ .nil) (by decide)
  obtain ⟨w4,c5,c6⟩:=(RL.nil:RL (some true) 2 (RV none) (.lit au) []).app (e:=[I ((0:Nat):Int),v]) (a:=(0,ak f.blocks 0)) ⟨v,rfl,c4.weak fun _ _ h=>h⟩ (by simp)
  have hw:WOk f.blocks ((List.replicate f.blocks.length false).set 0 true) [(0,ak f.blocks 0)] []:=⟨by simp,fun p hp=>by
   rw [List.mem_singleton] at hp
   subst hp
   exact ⟨hl,fun g hg=>aM hg⟩,by rw [oM (by rw [List.getElem?_replicate,if_pos hl])]; simp⟩
  obtain ⟨y,M',o',hy,hr,hD⟩:=AG he0 hs h2 _ _ _ [] w3 (dl w4) (.lit au) (Nat.lt_succ_self _) hw c2 c6.cooled .nil
  refine ⟨y,o',?_,hr,.inr ⟨h0,M',hD⟩⟩
  have hn:ag (I (f.blocks.length:Nat))=some f.blocks.length:=am (by omega)
  refine aY.of (f24_MR _) ?_
  unfold f24_M
  have hk:Nat.ble f.blocks.length 4294967296=true:=by simp; omega
  refine aa.chk rfl (aa.tv hb.len (aa.tv rfl (aa.ite (v:=false) (by simp [asBool]; omega) nofun fun _=>?_)))
  refine aa.tv hb.len (aa.nat hn (aa.nat hn (aa.chk (by simp [hk]) (aa.chk rfl (aa.chk rfl (f24_0_J ?_))))))
  unfold f24_0
  refine aa.tv h2.len (f24_1_J ?_)
  unfold f24_1
  have hck:(Bool.and (slSize (.sl true 1 (List.replicate f.blocks.length [B false])) 1) (Nat.blt 0 (List.replicate f.blocks.length false).length))=true:=by rw [hrep.slSize]; simpa using hl
  refine aa.tv rfl (aa.ite (v:=true) rfl (fun _=>?_) nofun)
  refine aa.nat h2.slLen (aa.nat (v:=0) rfl (aa.chk rfl (aa.tvs (v:=[I ((0:Nat):Int)]) rfl (aa.chk rfl ?_))))
  refine aa.nat hrep.slLen (aa.nat (v:=0) rfl (aa.chk hck (aa.tvs he7 (aa.chk rfl (aa.tv rfl (aa.ite (v:=true) rfl (fun _=>?_) nofun))))))
  refine aa.nat hrep.slLen (aa.nat (v:=0) rfl (aa.chk hck (aa.tvs he7 (aa.chk rfl (aa.tv c1 ?_)))))
  exact aa.call c3 (aa.chk (aU c4.isSl) (aa.rws rfl (aa.tv c5 (f24_2_J hy))))
end Go.Ab.Q12
end
section
set_option maxRecDepth 10000
namespace Go.Ab
inductive Rc (bs:List DBlock) (no:Int):Nat→Prop
 | start (h:no≠0) (h0:0 < bs.length):Rc bs no 0
 | next {i:Nat} {g:Int} (hi:Rc bs no i) (hg:g ∈ ak bs i) (hn:g≠no):Rc bs no g.toNat
def nM (bs:List DBlock) (no:Int) (M:List Bool):Prop:=M.length=bs.length∧∀ i:Nat,M[i]? = some true ↔ Rc bs no i
theorem Rc.lt {bs:List DBlock} {no:Int} {i:Nat} (h:Rc bs no i):i < bs.length:=by
 cases h with
 | start _ h0=>exact h0
 | next _ hg _=>exact (aM hg).2
def Ckd (bs:List DBlock) (no:Int) (M:List Bool) (k:Nat):Prop:=∀ i:Nat,i < k→M[i]? = some true→∀ g ∈ ak bs i,g≠no→M[g.toNat]? = some true
def yi (bs:List DBlock) (no:Int) (M:List Bool):Prop:=∀ i:Nat,M[i]? = some true→Rc bs no i
theorem nB {bs:List DBlock} {no:Int} {M:List Bool} (hl:M.length=bs.length) (h1:yi bs no M) (h2:no≠0→0 < bs.length→M[0]? = some true) (h3:Ckd bs no M bs.length):nM bs no M:=by
 refine ⟨hl,fun i=>⟨h1 i,fun h=>?_⟩⟩
 induction h with
 | start h h0=>exact h2 h h0
 | next hi hg hn ih=>exact h3 _ hi.lt ih _ hg hn
theorem nW {M:List Bool} {g i:Nat} (h:M[i]? = some true):(M.set g true)[i]? = some true:=by
 rw [List.getElem?_set]
 split
 ·rename_i e
  subst e
  have:=(D8.1 h).1
  simp [this]
 ·exact h
theorem jI {n:Nat} (h:n≤9223372036854775807):RBools (some true) (.sl true 1 (List.replicate n [B false])) (List.replicate n false):=.sl (by simp) (F2.vD (by simp) fun i e a he ha=>by
 rw [List.getElem?_replicate] at he ha
 split at he
 ·rename_i h; rw [if_pos h] at ha; cases he; cases ha; rfl
 ·cases he) (by simpa using h)
end Go.Ab
namespace Go.Ab.Q12
open Go Go.Ab Go.Proofs
section
variable {q:Option Bool} {b:TV} {f:DFunc} (hf:RFunc q [I f.params,I f.regs,b] f) (hs:f.blocks.length≤1000) {no:Int}
include hs
theorem withL {P:TV→Prop} {c0:Nat} {k:Nat} (hk:k < f.blocks.length) {w8:TV} (h8:RInts (some true) w8 (ak f.blocks k))
  (K:∀ (u:Bool) (M:List Bool) (w:TV),RBools (some true) w M→M.length=f.blocks.length→yi f.blocks no M→M[0]? = some true→(u=false→Ckd f.blocks no M (k + 1))→(u=true→c0 < M.count true)→c0≤M.count true→∃ y,aa prog 46 (f46_1 (I no) (B u) (I (k + 1:Nat)) (I f.params) (I f.regs) b w) y∧P y) :
  ∀ (d j:Nat) (u:Bool) (M:List Bool) (w:TV),j + d=(ak f.blocks k).length→RBools (some true) w M→M.length=f.blocks.length→yi f.blocks no M→M[0]? = some true →
   (u=false→Ckd f.blocks no M k∧(M[k]? = some true→∀ (j':Nat) (g:Int),j' < j→(ak f.blocks k)[j']? = some g→g≠no→M[g.toNat]? = some true))→(u=true→c0 < M.count true)→c0≤M.count true →
   ∃ y,aa prog 46 (f46_2 (I no) (B u) (I k) (I j) (I f.params) (I f.regs) b w w8) y∧P y:=by
 intro d
 have hk64:k < 9223372036854775807:=by omega
 have hn3:=fT f.blocks k
 induction d with
 | zero =>
  intro j u M w hj hw hl hsn hst hc h1 h2
  have hj:j=(ak f.blocks k).length:=by omega
  subst hj
  obtain ⟨y,hy,hP⟩:=K u M w hw hl hsn hst (fun hu i hi hMi g hg hgn=>by
   rcases Nat.lt_or_ge i k with h | h
   ·exact (hc hu).1 i h hMi g hg hgn
   ·have:i=k:=by omega
    subst this
    obtain ⟨j',hj',rfl⟩:=List.mem_iff_getElem.1 hg
    exact (hc hu).2 hMi j' _ hj' (D9 hj') hgn) h1 h2
  refine ⟨y,?_,hP⟩
  unfold f46_2
  exact aa.tv h8.len (aa.tv rfl (aa.ite bI nofun fun _=>aa.tv (inc hk (by omega)) (f46_1_J hy)))
 | succ d ih =>
  intro j u M w hj hw hl hsn hst hc h1 h2
  have hjl:j < (ak f.blocks k).length:=by omega
  obtain ⟨g,hgg⟩:∃ g,g=(ak f.blocks k)[j]:=⟨_,rfl⟩
  have hgk:(ak f.blocks k)[j]? = some g:=by rw [hgg]; exact D9 hjl
  have hgm:=Eh hgk
  have hgt:=aM hgm
  obtain ⟨eg,heg,rfl,hgi⟩:=h8.pel hgk
  have hkM:M[k]? = some M[k]:=D9 (by omega)
  obtain ⟨ek,hek,hRk⟩:=hw.pel hkM
  cases hRk
  have hMl:g.toNat < M.length:=by omega
  have hMg:M[g.toNat]? = some M[g.toNat]:=D9 hMl
  obtain ⟨em,hem,hRm⟩:=hw.pel hMg
  cases hRm
  have ank:ag (I (k:Nat))=some k:=am (by omega)
  have anj:ag (I (j:Nat))=some j:=am (by omega)
  have hgn:ag (I g)=some g.toNat:=lY hgt.1 hgi
  have ck1:(Bool.and (slSize w 1) (Nat.blt k M.length))=true:=by rw [hw.slSize]; simp; omega
  have ck2:(Bool.and (slSize w8 1) (Nat.blt j (ak f.blocks k).length))=true:=by rw [h8.slSize]; simpa using hjl
  have ck3:(Bool.and (slSize w 1) (Nat.blt g.toNat M.length))=true:=by rw [hw.slSize]; simpa using hMl
  have rest:(u=false→M[k]? = some true→g≠no→M[g.toNat]? = some true)→∃ y,aa prog 46 (f46_2 (I no) (B u) (I k) (I (j + 1:Nat)) (I f.params) (I f.regs) b w w8) y∧P y:=fun hh=>by
   refine ih (j + 1) u M w (by omega) hw hl hsn hst (fun hu=>⟨(hc hu).1,fun hMk j' g' hj' hg' hn'=>?_⟩) h1 h2
   rcases Nat.lt_or_ge j' j with h | h
   ·exact (hc hu).2 hMk j' g' h hg' hn'
   ·have:j'=j:=by omega
    subst this
    rw [hgk] at hg'
    cases hg'
    exact hh hu hMk hn'
  cases hmk:M[k] with
  | false =>
   rw [hmk] at hek hkM
   obtain ⟨y,hy,hP⟩:=rest (fun _ h=>by rw [hkM] at h; cases h)
   refine ⟨y,?_,hP⟩
   unfold f46_2
   exact aa.tv h8.len (aa.tv rfl (aa.ite (bH hjl) (fun _=>aa.nat hw.slLen (aa.nat ank (aa.chk ck1 (aa.tvs hek (aa.chk rfl (aa.ite (v:=false) rfl nofun fun _=>aa.tv (inc hjl (by omega)) (f46_2_J hy))))))) nofun))
  | true =>
   rw [hmk] at hek hkM
   by_cases hno:g=no
   ·obtain ⟨y,hy,hP⟩:=rest (fun _ _ h=>absurd hno h)
    refine ⟨y,?_,hP⟩
    unfold f46_2
    refine aa.tv h8.len (aa.tv rfl (aa.ite (bH hjl) (fun _=>aa.nat hw.slLen (aa.nat ank (aa.chk ck1 (aa.tvs hek (aa.chk rfl (aa.ite (v:=true) rfl (fun _=>?_) nofun)))))) nofun))
    exact aa.nat h8.slLen (aa.nat anj (aa.chk ck2 (aa.tvs heg (aa.chk rfl (aa.tv rfl (aa.ite (v:=false) (by simp [asBool,hno]) nofun fun _=>aa.tv (inc hjl (by omega)) (f46_2_J hy)))))))
   ·have front:∀ {r:TV},(M[g.toNat]=false→aa prog 46 (Prg.nat (slLen w8) fun n29=>Prg.nat (ag (I (j:Nat))) fun n30=>Prg.chk (Bool.and (slSize w8 1) (Nat.blt n30 n29)) (Prg.tvs (pel w8 n30) fun e31=>Prg.chk (ac cq e31 0) (Prg.nat (slLen w) fun n32=>Prg.nat (ag (nth TV.hole e31 0)) fun n33 =>
       Prg.chk (Bool.and (slSize w 1) (Nat.blt n33 n32)) (Prg.tvs (pel w n33) fun e34=>Prg.chk (ac bd e34 0) (Prg.tv (dU [] w n33 0 [TV.lit (Value.bool true)]) fun v35=>Prg.tv (pbin (Kd.int IntKind.i64) BinOp.add (I (j:Nat)) (TV.lit (Value.int IntKind.i64 (1:Int)))) fun v36 =>
       Prg.jmp [0,0,1,1,0,0,1,0,0,1,1,0,1,0,0,1,0,1,1,1,1] (f46_2_S (I no) (TV.lit (Value.bool true)) (I k) v36 (I f.params) (I f.regs) b v35 w8)))))) r) →
      (M[g.toNat]=true→aa prog 46 (Prg.tv (pbin (Kd.int IntKind.i64) BinOp.add (I (j:Nat)) (TV.lit (Value.int IntKind.i64 (1:Int)))) fun v37=>Prg.jmp [0,0,1,1,0,0,1,0,0,1,1,0,1,0,0,1,0,1,1,1,1] (f46_2_S (I no) (B u) (I k) v37 (I f.params) (I f.regs) b w w8)) r) →
      aa prog 46 (f46_2 (I no) (B u) (I k) (I j) (I f.params) (I f.regs) b w w8) r:=fun {r} m0 m9=>by
     unfold f46_2
     refine aa.tv h8.len (aa.tv rfl (aa.ite (bH hjl) (fun _=>aa.nat hw.slLen (aa.nat ank (aa.chk ck1 (aa.tvs hek (aa.chk rfl (aa.ite (v:=true) rfl (fun _=>?_) nofun)))))) nofun))
     refine aa.nat h8.slLen (aa.nat anj (aa.chk ck2 (aa.tvs heg (aa.chk rfl (aa.tv rfl (aa.ite (v:=true) (by simp [asBool,hno]) (fun _=>?_) nofun))))))
     refine aa.nat h8.slLen (aa.nat anj (aa.chk ck2 (aa.tvs heg (aa.chk rfl (aa.nat hw.slLen (aa.nat hgn (aa.chk ck3 (aa.tvs hem (aa.chk rfl (aa.tv rfl (aa.ite rfl (fun h=>m0 ?_) fun h=>m9 ?_)))))))))))
     ·simpa using h
     ·simpa using h
    cases hmg:M[g.toNat] with
    | true =>
     rw [hmg] at hMg
     obtain ⟨y,hy,hP⟩:=rest (fun _ _ _=>hMg)
     exact ⟨y,front (fun h=>by rw [hmg] at h; cases h) (fun _=>aa.tv (inc hjl (by omega)) (f46_2_J hy)),hP⟩
    | false =>
     rw [hmg] at hMg
     obtain ⟨w',c1,c2⟩:=hw.gJ hem (d:=0) (ys:=[B true]) (a:=true) rfl
     have hcnt:=oM hMg
     obtain ⟨y,hy,hP⟩:=ih (j + 1) true (M.set g.toNat true) w' (by omega) c2 (by rw [List.length_set]; exact hl) (fun i hi=>by
      rcases (hU hMl).1 hi with rfl | h
      ·exact .next (hsn k hkM) hgm hno
      ·exact hsn i h) (nW hst) (fun h=>by cases h) (fun _=>by omega) (by omega)
     refine ⟨y,front (fun _=>?_) (fun h=>by rw [hmg] at h; cases h),hP⟩
     exact aa.nat h8.slLen (aa.nat anj (aa.chk ck2 (aa.tvs heg (aa.chk rfl (aa.nat hw.slLen (aa.nat hgn (aa.chk ck3 (aa.tvs hem (aa.chk rfl (aa.tv c1 (aa.tv (inc hjl (by omega)) (f46_2_J hy))))))))))))
include hf
theorem withR {P:TV→Prop} {c0:Nat}
  (K:∀ (u:Bool) (M:List Bool) (w:TV),RBools (some true) w M→M.length=f.blocks.length→yi f.blocks no M→M[0]? = some true→(u=false→Ckd f.blocks no M f.blocks.length)→(u=true→c0 < M.count true)→c0≤M.count true→∃ y,aa prog 46 (f46_0 (I no) (B u) (I f.params) (I f.regs) b w) y∧P y) :
  ∀ (d k:Nat) (u:Bool) (M:List Bool) (w:TV),k + d=f.blocks.length→RBools (some true) w M→M.length=f.blocks.length→yi f.blocks no M→M[0]? = some true→(u=false→Ckd f.blocks no M k)→(u=true→c0 < M.count true)→c0≤M.count true →
   ∃ y,aa prog 46 (f46_1 (I no) (B u) (I k) (I f.params) (I f.regs) b w) y∧P y:=by
 intro d
 induction d with
 | zero =>
  intro k u M w hk hw hl hsn hst hc h1 h2
  have hk:k=f.blocks.length:=by omega
  subst hk
  obtain ⟨y,hy,hP⟩:=K u M w hw hl hsn hst hc h1 h2
  refine ⟨y,?_,hP⟩
  unfold f46_1
  exact aa.tv hw.len (aa.tv rfl (aa.ite (v:=false) (by rw [hl]; exact bI) nofun fun _=>f46_0_J hy))
 | succ d ih =>
  intro k u M w hk hw hl hsn hst hc h1 h2
  have hkl:k < f.blocks.length:=by omega
  obtain ⟨v,hv,hvr⟩:=r72 hf (k:Int)
  rw [fP] at hvr
  obtain ⟨y,hy,hP⟩:=withL (b:=b) hs hkl hvr (fun u' M' w' a1 a2 a3 a4 a5 a6 a7=>ih (k + 1) u' M' w' (by omega) a1 a2 a3 a4 a5 a6 a7) (ak f.blocks k).length 0 u M w (by omega) hw hl hsn hst (fun hu=>⟨hc hu,fun _ j' g h=>by omega⟩) h1 h2
  refine ⟨y,?_,hP⟩
  unfold f46_1
  exact aa.tv hw.len (aa.tv rfl (aa.ite (v:=true) (by rw [hl]; exact bH hkl) (fun _=>aa.call hv (aa.chk (aU hvr.isSl) (f46_2_J hy))) nofun))
theorem CZ:∀ (d:Nat) (M:List Bool) (w:TV),f.blocks.length < M.count true + d→RBools (some true) w M→M.length=f.blocks.length→yi f.blocks no M→M[0]? = some true →
  ∃ y,aa prog 46 (f46_0 (I no) (B true) (I f.params) (I f.regs) b w) y∧∃ M,RBools (some true) y M∧nM f.blocks no M:=by
 intro d
 induction d with
 | zero =>
  intro M w hd hw hl
  have:=vV M
  omega
 | succ d ih =>
  intro M w hd hw hl hsn hst
  obtain ⟨y,hy,hP⟩:=withR hf hs (no:=no) (c0:=M.count true) (P:=fun y=>∃ M,RBools (some true) y M∧nM f.blocks no M) (fun u M' w' a1 a2 a3 a4 a5 a6 a7=>by
   cases u with
   | true=>exact ih M' w' (by have:=a6 rfl; omega) a1 a2 a3 a4
   | false =>
    refine ⟨w',?_,M',a1,nB a2 a3 (fun _ _=>a4) (a5 rfl)⟩
    unfold f46_0
    exact aa.ite (v:=false) rfl nofun fun _=>aa.ret) f.blocks.length 0 false M w (by omega) hw hl hsn hst (fun _ i h=>by omega) (fun h=>by cases h) (Nat.le_refl _)
  refine ⟨y,?_,hP⟩
  unfold f46_0
  exact aa.ite (v:=true) rfl (fun _=>f46_1_J hy) nofun
end
theorem r83 {q:Option Bool} {e:List TV} {f:DFunc} (he:RFunc q e f) (hs:f.blocks.length≤1000) (no:Int):∃ y M,aY prog 46 [.agg e,I no] y∧RBools (some true) y M∧nM f.blocks no M:=by
 have he0:=he
 obtain ⟨b,rfl,hb,_⟩:=he
 have hn:ag (I (f.blocks.length:Nat))=some f.blocks.length:=am (by omega)
 have hck:(Bool.and (Nat.ble f.blocks.length f.blocks.length) (Nat.ble f.blocks.length 4294967296))=true:=by
  have:Nat.ble f.blocks.length 4294967296=true:=by simp; omega
  simp [this]
 have hrep:=jI (n:=f.blocks.length) (by omega)
 have none_:∀ i:Nat,¬ (List.replicate f.blocks.length false)[i]? = some true:=fun i h=>by
  rw [List.getElem?_replicate] at h
  split at h <;> cases h
 have hlen:=hrep.len (t:=4)
 rw [List.length_replicate] at hlen
 by_cases h0:f.blocks.length=0
 ·refine ⟨_,_,?_,hrep,nB (by simp) (fun i h=>absurd h (none_ i)) (fun _ h=>by omega) (fun i h=>by omega)⟩
  refine aY.of (f46_MR _ _) ?_
  unfold f46_M
  exact aa.chk rfl (aa.tv hb.len (aa.nat hn (aa.nat hn (aa.chk hck (aa.tv hlen (aa.tv rfl (aa.ite (v:=true) (by simp [asBool,h0]) (fun _=>aa.ret) nofun)))))))
 have h00:f.blocks≠[]:=fun h=>h0 (by rw [h]; rfl)
 by_cases h1:no=0
 ·refine ⟨_,_,?_,hrep,nB (by simp) (fun i h=>absurd h (none_ i)) (fun h _=>absurd h1 h) (fun i _ h=>absurd h (none_ i))⟩
  refine aY.of (f46_MR _ _) ?_
  unfold f46_M
  exact aa.chk rfl (aa.tv hb.len (aa.nat hn (aa.nat hn (aa.chk hck (aa.tv hlen (aa.tv rfl (aa.ite (v:=false) (by simp [asBool,h00]) nofun fun _=>aa.tv rfl (aa.ite (v:=true) (by simp [asBool,h1]) (fun _=>aa.ret) nofun))))))))
 have hl:0 < f.blocks.length:=by omega
 have hf0:(List.replicate f.blocks.length false)[0]? = some false:=by rw [List.getElem?_replicate,if_pos hl]
 obtain ⟨e7,he7,hR⟩:=hrep.pel hf0
 cases hR
 obtain ⟨w,c1,c2⟩:=hrep.gJ he7 (d:=0) (ys:=[B true]) (a:=true) rfl
 have hlr:0 < (List.replicate f.blocks.length false).length:=by simpa using hl
 obtain ⟨y,hy,M,hM,hF⟩:=CZ he0 hs (no:=no) (f.blocks.length + 1) _ w (by omega) c2 (by simp) (fun i hi=>by
  rcases (hU hlr).1 hi with rfl | h
  ·exact .start h1 hl
  ·exact absurd h (none_ i)) ((hU hlr).2 (.inl rfl))
 refine ⟨y,M,?_,hM,hF⟩
 refine aY.of (f46_MR _ _) ?_
 unfold f46_M
 refine aa.chk rfl (aa.tv hb.len (aa.nat hn (aa.nat hn (aa.chk hck (aa.tv hlen (aa.tv rfl (aa.ite (v:=false) (by simp [asBool,h00]) nofun fun _=>aa.tv rfl (aa.ite (v:=false) (by simp [asBool,h1]) nofun fun _=>?_))))))))
 refine aa.nat hrep.slLen (aa.nat (v:=0) rfl (aa.chk ?_ (aa.tvs he7 (aa.chk rfl (aa.tv c1 (f46_0_J hy))))))
 rw [hrep.slSize]; simpa using hl
theorem r84 {q:Option Bool} {e:List TV} {f:DFunc} (he:RFunc q e f) (hs:f.blocks.length≤1000):∃ y M,aY prog 23 [.agg e] y∧RBools (some true) y M∧nM f.blocks (-1) M:=by
 obtain ⟨y,M,hy,hM,hF⟩:=r83 he hs (-1)
 obtain ⟨b,rfl,hb,_⟩:=he
 refine ⟨y,M,?_,hM,hF⟩
 refine aY.of (f23_MR _) ?_
 unfold f23_M
 exact aa.chk rfl (aa.call hy (aa.chk (aU hM.isSl) aa.ret))
end Go.Ab.Q12
end

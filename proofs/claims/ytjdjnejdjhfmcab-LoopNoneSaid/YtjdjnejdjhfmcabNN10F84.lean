import Derived.Test.YtjdjnejdjhfmcabNN10F12
section
set_option linter.unusedVariables false
set_option maxRecDepth 10000
namespace Go.Ab
def thereB (n:Nat) (g:Int):Bool:=decide (0≤g∧g < (n:Int))
def nx (b:DBlock):List Int:=gl b ++ (if b.fin.kind=4 then [b.fin.pad] else [])
def nextAt (bs:List DBlock) (i:Nat):List Int:=match bs[i]? with
 | some b=>(nx b).filter (thereB bs.length)
 | none=>[]
def nextL (bs:List DBlock) (n:Int):List Int:=if 0≤n then nextAt bs n.toNat else []
theorem nextAt_there {bs:List DBlock} {i:Nat} {g:Int} (h:g ∈ nextAt bs i):0≤g∧g.toNat < bs.length:=by
 unfold nextAt at h
 split at h
 ·have:=(List.mem_filter.1 h).2
  simp only [thereB,decide_eq_true_eq] at this
  omega
 ·cases h
theorem nextL_nat (bs:List DBlock) (i:Nat):nextL bs (i:Int)=nextAt bs i:=by simp [nextL]
theorem nx_len (b:DBlock):(nx b).length≤3:=by
 unfold nx gl
 split <;> split <;> split <;> simp
theorem nextL_len (bs:List DBlock) (n:Int):(nextL bs n).length≤3:=by
 unfold nextL
 split
 ·unfold nextAt
  split
  ·exact Nat.le_trans (List.length_filter_le _ _) (nx_len _)
  ·simp
 ·simp
theorem nextL_out {bs:List DBlock} {n:Int} (h:thereB bs.length n=false):nextL bs n=[]:=by
 unfold nextL
 split
 ·rename_i h0
  unfold nextAt
  rw [List.getElem?_eq_none (by simp [thereB] at h; omega)]
 ·rfl
theorem nextL_in {bs:List DBlock} {n:Int} (h:thereB bs.length n=true):∃ b,bs[n.toNat]? = some b∧nextL bs n=(nx b).filter (thereB bs.length)∧n=(n.toNat:Int):=by
 simp only [thereB,decide_eq_true_eq] at h
 have hl:n.toNat < bs.length:=by omega
 refine ⟨bs[n.toNat],List.getElem?_eq_getElem hl,?_,by omega⟩
 simp only [nextL,h.1,if_true,nextAt,List.getElem?_eq_getElem hl]
theorem filter_takeS {P:Int→Bool} {l:List Int} {j:Nat} {a:Int} (h:l[j]? = some a):(l.take (j + 1)).filter P=(l.take j).filter P ++ (if P a then [a] else []):=by
 rw [List.take_add_one,h,List.filter_append]
 cases hp:P a <;> simp [hp]
section
variable {s:Nat} {α:Type} {R:List TV→α→Prop} {y:TV} {l:List α}
theorem RL.clr (hy:RL (some true) s R y l) {k:Nat} (hk:k≤l.length) (z:List TV):∃ y',pclear s z k (l.length - k) y=some y'∧Go.Ab.slLen y'=some l.length∧Go.Ab.slSize y' s=true∧∃ y'',winP 0 k y'=some y''∧RL (some true) s R y'' (l.take k):=by
 rcases hy with ⟨rfl,rfl⟩ | ⟨o,xs,rfl,hq,h,hb⟩
 ·have:k=0:=by simpa using hk
  subst this
  exact ⟨.lit nilV,rfl,rfl,rfl,.lit nilV,rfl,by simpa using RL.nil⟩
 ·have:o=true:=hq true rfl
  subst this
  have hxl:=h.length
  refine ⟨.sl true s (xs.take k ++ (List.replicate (l.length - k) z ++ xs.drop (k + (l.length - k)))),by simp only [pclear]; rw [if_pos ⟨trivial,by omega⟩],?_,by simp [Go.Ab.slSize],.sl true s (xs.take k),?_,.sl (by simp) (h.take k) (by simp; omega)⟩
  ·simp [Go.Ab.slLen]; omega
  ·simp only [winP]
   rw [if_pos (by simp; omega),List.drop_zero,List.take_append_of_le_length (by simp; omega),List.take_take,Nat.min_self]
end
end Go.Ab
namespace Go.Ab.N10
open Go Go.Ab Go.Proofs
theorem r70 {q:Option Bool} {e:List TV} {f:DFunc} (he:RFunc q e f) (n:Int):Runs prog 20 [.agg e,I n] (B (thereB f.blocks.length n)):=by
 obtain ⟨b,rfl,hb,_⟩:=he
 refine Runs.of (f20_MR _ _) ?_
 unfold f20_M
 refine Goes.chk rfl (Goes.tv rfl (Goes.ite rfl (fun h=>Goes.tv hb.len (Goes.tv rfl ?_)) fun h=>?_))
 ·refine goes_ret.2 ?_
  have h:0≤n:=by simpa using h
  simp [thereB,h]
 ·refine goes_ret.2 ?_
  have h:¬ 0≤n:=by simpa using h
  simp [thereB,h]
theorem fit_slc {v:TV} (h:v.isSl=true):fitsAt zSl [v] 0=true:=by
 show (v.isSl && true)=true
 rw [h]; rfl
theorem del2 {y3 y4 y5:TV} {P:Int→Bool} (hP:∀ g,Runs prog 20 [.agg [y3,y4,y5],I g] (B (P g))) {l:List Int}:∀ (d i j:Nat) (w:TV) (cur:List Int),j + d=l.length→i≤j→RInts (some true) w cur→cur.length=l.length →
  cur.take i=(l.take j).filter P→(∀ m,j≤m→cur[m]? = l[m]?)→∃ y,Goes prog 12 (f12_2 (I i) (I j) w y3 y4 y5) y∧RInts (some true) y (l.filter P):=by
 intro d
 induction d with
 | zero =>
  intro i j w cur hj hij hw hcl hti _
  have hj:j=l.length:=by omega
  subst hj
  have hbn:=hw.bnd
  have hil:i≤cur.length:=by omega
  obtain ⟨y',c1,c2,c3,y'',c4,c5⟩:=hw.clr hil [I 0]
  rw [hti,List.take_length] at c5
  refine ⟨y'',?_,c5⟩
  unfold f12_2
  refine Goes.tv hw.len (Goes.tv rfl (Goes.ite (v:=false) (by rw [hcl]; exact asB_end) (fun h=>nomatch h) fun _=>?_))
  refine f12_3_J ?_
  unfold f12_3
  have han:asNat (I i)=some i:=asNat_nat (by omega)
  have hle:Nat.ble i cur.length=true:=by simpa using hil
  refine Goes.nat hw.slLen (Goes.nat han (Goes.chk (by simp [hw.slSize,hle]) (Goes.tv c1 (Goes.nat c2 (Goes.nat han (Goes.chk (by simp [c3,hle]) (Goes.tv c4 (Goes.chk (c5.own fun _ _ h=>h.own) Goes.ret))))))))
 | succ d ih =>
  intro i j w cur hj hij hw hcl hti hd
  have hjl:j < l.length:=by omega
  have hjc:j < cur.length:=by omega
  have hbn:=hw.bnd
  have ha:l[j]? = some l[j]:=List.getElem?_eq_getElem hjl
  obtain ⟨a,haa⟩:∃ a,a=l[j]:=⟨_,rfl⟩
  rw [← haa] at ha
  have hca:cur[j]? = some a:=by rw [hd j (Nat.le_refl _)]; exact ha
  obtain ⟨e,he,rfl,hea⟩:=hw.pel hca
  have anj:asNat (I j)=some j:=asNat_nat (by omega)
  have ani:asNat (I i)=some i:=asNat_nat (by omega)
  cases hp:P a with
  | true =>
   have hic:i < cur.length:=by omega
   obtain ⟨e',he',rfl,_⟩:=hw.pel (List.getElem?_eq_getElem hic)
   obtain ⟨w',hw',hr⟩:=hw.setAt he' (d:=0) (ys:=[I a]) (a:=a) ⟨rfl,hea⟩
   obtain ⟨y,hy,hry⟩:=ih (i + 1) (j + 1) w' (cur.set i a) (by omega) (by omega) hr (by simpa using hcl) (by
    rw [filter_takeS ha,hp,if_pos rfl,← hti,List.take_add_one,List.getElem?_set_self hic]
    congr 1
    rw [List.take_set_of_le (Nat.le_refl _)]) (fun m hm=>by
    rw [List.getElem?_set_ne (by omega)]
    exact hd m (by omega))
   refine ⟨y,?_,hry⟩
   unfold f12_2
   refine Goes.tv hw.len (Goes.tv rfl (Goes.ite (asB_lt hjc) (fun _=>?_) fun h=>nomatch h))
   refine Goes.nat hw.slLen (Goes.nat anj (Goes.chk (by simp [hw.slSize,hjc]) (Goes.tvs he (Goes.chk rfl (Goes.call (hP a) (Goes.chk rfl (Goes.tv rfl (Goes.tv rfl (Goes.ite (v:=true) (by rw [hp]; rfl) (fun _=>?_) fun h=>nomatch h)))))))))
   exact Goes.nat hw.slLen (Goes.nat ani (Goes.chk (by simp [hw.slSize,hic]) (Goes.tvs he' (Goes.chk rfl (Goes.tv hw' (Goes.tv (inc hic hbn) (Goes.tv (inc hjc hbn) (f12_2_J hy))))))))
  | false =>
   obtain ⟨y,hy,hry⟩:=ih i (j + 1) w cur (by omega) (by omega) hw hcl (by rw [filter_takeS ha,hp,hti]; simp) (fun m hm=>hd m (by omega))
   refine ⟨y,?_,hry⟩
   unfold f12_2
   refine Goes.tv hw.len (Goes.tv rfl (Goes.ite (asB_lt hjc) (fun _=>?_) fun h=>nomatch h))
   exact Goes.nat hw.slLen (Goes.nat anj (Goes.chk (by simp [hw.slSize,hjc]) (Goes.tvs he (Goes.chk rfl (Goes.call (hP a) (Goes.chk rfl (Goes.tv rfl (Goes.tv rfl (Goes.ite (v:=false) (by rw [hp]; rfl) (fun h=>nomatch h) fun _=>Goes.tv (inc hjc hbn) (f12_2_J hy))))))))))
theorem del1 {y3 y4 y5:TV} {P:Int→Bool} (hP:∀ g,Runs prog 20 [.agg [y3,y4,y5],I g] (B (P g))) {l:List Int} {w:TV} (hw:RInts (some true) w l):∀ (d k:Nat),k + d=l.length→(l.take k).filter P=l.take k →
  ∃ y,Goes prog 12 (f12_1 (I l.length) (I k) w y3 y4 y5) y∧RInts (some true) y (l.filter P):=by
 intro d
 have hbn:=hw.bnd
 induction d with
 | zero =>
  intro k hk hf
  have hk:k=l.length:=by omega
  subst hk
  rw [List.take_length] at hf
  refine ⟨w,?_,by rw [hf]; exact hw⟩
  unfold f12_1
  exact Goes.tv rfl (Goes.ite asB_end (fun h=>nomatch h) fun _=>Goes.tv rfl (Goes.ite (v:=true) rfl (fun _=>Goes.chk (hw.own fun _ _ h=>h.own) Goes.ret) fun h=>nomatch h))
 | succ d ih =>
  intro k hk hf
  have hkl:k < l.length:=by omega
  obtain ⟨a,haa⟩:∃ a,a=l[k]:=⟨_,rfl⟩
  have ha:l[k]? = some a:=by rw [haa]; exact List.getElem?_eq_getElem hkl
  obtain ⟨e,he,rfl,hea⟩:=hw.pel ha
  have ank:asNat (I k)=some k:=asNat_nat (by omega)
  cases hp:P a with
  | true =>
   obtain ⟨y,hy,hry⟩:=ih (k + 1) (by omega) (by rw [filter_takeS ha,hp,hf,List.take_add_one,ha]; rfl)
   refine ⟨y,?_,hry⟩
   unfold f12_1
   refine Goes.tv rfl (Goes.ite (asB_lt hkl) (fun _=>?_) fun h=>nomatch h)
   exact Goes.nat hw.slLen (Goes.nat ank (Goes.chk (by simp [hw.slSize,hkl]) (Goes.tvs he (Goes.chk rfl (Goes.call (hP a) (Goes.chk rfl (Goes.tv rfl (Goes.ite (v:=false) (by rw [hp]; rfl) (fun h=>nomatch h) fun _=>Goes.tv (inc hkl hbn) (f12_1_J hy)))))))))
  | false =>
   obtain ⟨y,hy,hry⟩:=del2 hP d k (k + 1) w l (by omega) (by omega) hw rfl (by rw [filter_takeS ha,hp,hf]; simp) (fun m _=>rfl)
   refine ⟨y,?_,hry⟩
   unfold f12_1
   refine Goes.tv rfl (Goes.ite (asB_lt hkl) (fun _=>?_) fun h=>nomatch h)
   refine Goes.nat hw.slLen (Goes.nat ank (Goes.chk (by simp [hw.slSize,hkl]) (Goes.tvs he (Goes.chk rfl (Goes.call (hP a) (Goes.chk rfl (Goes.tv rfl (Goes.ite (v:=true) (by rw [hp]; rfl) (fun _=>?_) fun h=>nomatch h))))))))
   have hne:((k:Int) == (-1:Int))=false:=by simp
   exact Goes.tv rfl (Goes.ite (v:=false) (by simp only [asBool,hne]) (fun h=>nomatch h) fun _=>Goes.tv (inc hkl hbn) (f12_2_J hy))
theorem r71 {q:Option Bool} {e:List TV} {f:DFunc} (he:RFunc q e f) (n:Int):∃ y,Runs prog 12 [.agg e,I n] y∧RInts (some true) y (nextL f.blocks n):=by
 have he0:=he
 obtain ⟨b,rfl,hb,_⟩:=he
 cases ht:thereB f.blocks.length n with
 | false =>
  refine ⟨.lit nilV,?_,by rw [nextL_out ht]; exact .nil⟩
  refine Runs.of (f12_MR _ _) ?_
  unfold f12_M
  refine Goes.chk rfl (Goes.call (r70 he0 n) (Goes.chk rfl (Goes.tv rfl (Goes.ite (v:=true) (by rw [ht]; rfl) (fun _=>Goes.chk rfl Goes.ret) fun h=>nomatch h))))
 | true =>
  obtain ⟨bk,hbk,hnl,hn⟩:=nextL_in ht
  have key:∀ (w:TV),RInts (some true) w (nx bk)→∃ y,Goes prog 12 (f12_0 (I f.params) (I f.regs) b w) y∧RInts (some true) y (nextL f.blocks n):=fun w hw=>by
   obtain ⟨y,hy,hr⟩:=del1 (fun g=>r70 he0 g) hw (nx bk).length 0 (by omega) (by simp)
   refine ⟨y,?_,by rw [hnl]; exact hr⟩
   unfold f12_0
   exact Goes.tv hw.len (f12_1_J hy)
  obtain ⟨e2,he2,hR⟩:=hb.idx (k:=.i64) hbk
  obtain ⟨v,hv,hvr⟩:=r15 hR
  have hR0:=hR
  obtain ⟨c,i,g,rfl,hc,hd,hi,hg,ho⟩:=hR
  rw [← hn] at he2
  by_cases h4:bk.fin.kind=4
  ·obtain ⟨w,hw,hwr⟩:=hvr.app (e:=[I bk.fin.pad]) (a:=bk.fin.pad) ⟨rfl,ho.2.2.2.2.2.2⟩ (by have:(gl bk).length≤2:=by { unfold gl; split <;> split <;> simp }; omega)
   obtain ⟨y,hy,hr⟩:=key w (by unfold nx; rw [if_pos h4]; exact hwr)
   refine ⟨y,?_,hr⟩
   refine Runs.of (f12_MR _ _) ?_
   unfold f12_M
   refine Goes.chk rfl (Goes.call (r70 he0 n) (Goes.chk rfl (Goes.tv rfl (Goes.ite (v:=false) (by rw [ht]; rfl) (fun h=>nomatch h) fun _=>?_))))
   exact Goes.tvs he2 (Goes.chk rfl (Goes.call hv (Goes.chk (fit_slc hvr.isSl) (Goes.tv rfl (Goes.ite (v:=true) (by simp [asBool,h4]) (fun _=>Goes.rws rfl (Goes.tv hw (f12_0_J hy))) fun h=>nomatch h)))))
  ·obtain ⟨y,hy,hr⟩:=key v (by unfold nx; rw [if_neg h4,List.append_nil]; exact hvr)
   refine ⟨y,?_,hr⟩
   refine Runs.of (f12_MR _ _) ?_
   unfold f12_M
   refine Goes.chk rfl (Goes.call (r70 he0 n) (Goes.chk rfl (Goes.tv rfl (Goes.ite (v:=false) (by rw [ht]; rfl) (fun h=>nomatch h) fun _=>?_))))
   exact Goes.tvs he2 (Goes.chk rfl (Goes.call hv (Goes.chk (fit_slc hvr.isSl) (Goes.tv rfl (Goes.ite (v:=false) (by simp [asBool,h4]) (fun h=>nomatch h) fun _=>f12_0_J hy)))))
end Go.Ab.N10
end
section
set_option linter.unusedVariables false
set_option maxRecDepth 10000
namespace Go.Ab
theorem take_get {α:Type} {l:List α} {j:Nat} {a:α} (h:l[j]? = some a):l.take (j + 1)=l.take j ++ [a]:=by
 rw [List.take_add_one,h]; rfl
end Go.Ab
namespace Go.Ab.N10
open Go Go.Ab Go.Proofs
section
variable {q:Option Bool} {b:TV} {bs:List DBlock} (hb:RL q 14 (RBlock q) b bs)
include hb
end
end Go.Ab.N10
end
section
set_option linter.unusedVariables false
set_option maxRecDepth 10000
namespace Go.Ab
inductive Dfs (bs:List DBlock):List Bool→List (Nat × List Int)→List Int→List Bool→List Int→Prop
 | done {M:List Bool} {o:List Int}:Dfs bs M [] o M o
 | leave {M M':List Bool} {n:Nat} {st:List (Nat × List Int)} {o o':List Int}:Dfs bs M st ((n:Int) :: o) M' o'→Dfs bs M ((n,[]) :: st) o M' o'
 | skip {M M':List Bool} {n:Nat} {g:Int} {l:List Int} {st:List (Nat × List Int)} {o o':List Int}:M[g.toNat]? = some true→Dfs bs M ((n,l) :: st) o M' o'→Dfs bs M ((n,g :: l) :: st) o M' o'
 | enter {M M':List Bool} {n:Nat} {g:Int} {l:List Int} {st:List (Nat × List Int)} {o o':List Int}:M[g.toNat]? = some false→Dfs bs (M.set g.toNat true) ((g.toNat,nextAt bs g.toNat) :: (n,l) :: st) o M' o'→Dfs bs M ((n,g :: l) :: st) o M' o'
def OrderP (bs:List DBlock) (o:List Int):Prop:=(bs=[]∧o=[])∨(bs≠[]∧∃ M',Dfs bs ((List.replicate bs.length false).set 0 true) [(0,nextAt bs 0)] [] M' o)
def work (M:List Bool) (st:List (Nat × List Int)):Nat:=M.count false * 5 + (st.map fun p=>p.2.length + 1).sum
theorem count_set {M:List Bool} {g:Nat} (h:M[g]? = some false):(M.set g true).count false + 1=M.count false:=by
 have hlt:=(List.getElem?_eq_some_iff.1 h).1
 have hv:=(List.getElem?_eq_some_iff.1 h).2
 have hm:false ∈ M:=List.mem_of_getElem? h
 have:=List.count_pos_iff.2 hm
 rw [List.count_set hlt]
 simp [hv]
 omega
theorem nextAt_len (bs:List DBlock) (i:Nat):(nextAt bs i).length≤3:=by
 have:=nextL_len bs (i:Int)
 rwa [nextL_nat] at this
structure WOk (bs:List DBlock) (M:List Bool) (st:List (Nat × List Int)) (o:List Int):Prop where
 len:M.length=bs.length
 at_:∀ p ∈ st,p.1 < bs.length∧∀ g ∈ p.2,0≤g∧g.toNat < bs.length
 room:st.length + o.length≤M.count true
theorem WOk.leave {bs:List DBlock} {M:List Bool} {st:List (Nat × List Int)} {o:List Int} {n:Nat} (h:WOk bs M ((n,[]) :: st) o):WOk bs M st ((n:Int) :: o) :=
 ⟨h.len,fun p hp=>h.at_ p (List.mem_cons_of_mem _ hp),by have:=h.room; simp at this ⊢; omega⟩
theorem WOk.skip {bs:List DBlock} {M:List Bool} {st:List (Nat × List Int)} {o:List Int} {n:Nat} {g:Int} {l:List Int} (h:WOk bs M ((n,g :: l) :: st) o):WOk bs M ((n,l) :: st) o :=
 ⟨h.len, fun p hp => by
  rcases List.mem_cons.1 hp with rfl | hp
  ·exact ⟨(h.at_ _ List.mem_cons_self).1,fun g' hg=>(h.at_ _ List.mem_cons_self).2 g' (List.mem_cons_of_mem _ hg)⟩
  ·exact h.at_ p (List.mem_cons_of_mem _ hp),h.room⟩
theorem WOk.enter {bs:List DBlock} {M:List Bool} {st:List (Nat × List Int)} {o:List Int} {n:Nat} {g:Int} {l:List Int} (h:WOk bs M ((n,g :: l) :: st) o) (hg:M[g.toNat]? = some false):WOk bs (M.set g.toNat true) ((g.toNat,nextAt bs g.toNat) :: (n,l) :: st) o:=by
 refine ⟨by rw [List.length_set]; exact h.len,fun p hp=>?_,?_⟩
 ·rcases List.mem_cons.1 hp with rfl | hp
  ·exact ⟨((h.at_ _ List.mem_cons_self).2 g List.mem_cons_self).2,fun g' hg=>nextAt_there hg⟩
  ·exact h.skip.at_ p hp
 ·have:=h.room
  rw [set_count hg]
  simp at this ⊢
  omega
theorem WOk.cap {bs:List DBlock} {M:List Bool} {st:List (Nat × List Int)} {o:List Int} (h:WOk bs M st o):st.length + o.length≤bs.length:=by
 have:=count_le M
 have:=h.room
 rw [← h.len]
 omega
theorem dec7 {n:Nat} (h:0 < n) (hn:n≤9223372036854775807):pbin (.int .i64) .sub (I (n:Int)) (I (1:Int))=some (I ((n - 1:Nat):Int)):=by
 have h1:IntKind.i64.wrap ((n:Int) - 1)=((n - 1:Nat):Int):=by rw [IntKind.wrap_i64]; omega
 show some (TV.lit (.int .i64 (IntKind.i64.wrap ((n:Int) - 1))))=_
 rw [h1]
theorem asNat_pos {g:Int} (h0:0≤g) (hi:inI g):asNat (I g)=some g.toNat:=by
 show (if 0≤g∧g≤9223372036854775807 then some g.toNat else none)=some g.toNat
 exact if_pos ⟨h0,hi.2⟩
section
variable {s:Nat} {α:Type} {R:List TV→α→Prop} {y:TV} {l:List α} {q:Option Bool}
theorem RL.deep (hy:RL q s R y l) {i j:Nat} {e:List TV} {z:TV} (he:Go.Ab.pel y i=some e) (hj:e[j]? = some z):getP [(i,j)] y=some z:=by
 rcases hy with ⟨rfl,rfl⟩ | ⟨o,xs,rfl,hq,h,hb⟩
 ·simp [Go.Ab.pel] at he
 ·have he:xs[i]? = some e:=he
  simp only [getP,he,hj]
theorem RL.winD (hy:RL q s R y l) {k:Nat} (hk:k≤l.length):∃ y',winP k (l.length - k) y=some y'∧RL q s R y' (l.drop k):=by
 rcases hy with ⟨rfl,rfl⟩ | ⟨o,xs,rfl,hq,h,hb⟩
 ·have:k=0:=by simpa using hk
  subst this
  exact ⟨.lit nilV,rfl,by simpa using RL.nil⟩
 ·have hxl:=h.length
  refine ⟨.sl o s ((xs.drop k).take (l.length - k)),?_,.sl hq ?_ (by simp; omega)⟩
  ·simp only [winP]
   rw [if_pos (by omega)]
  ·have:=(h.drop k).take (l.length - k)
   rwa [List.take_of_length_le (l:=l.drop k) (by simp)] at this
end
def RV (q:Option Bool) (e:List TV) (p:Nat × List Int):Prop:=∃ v,e=[I p.1,v]∧RInts q v p.2
theorem RV.weak {q:Option Bool} {e:List TV} {p:Nat × List Int} (h:RV q e p):RV none e p:=by
 obtain ⟨v,rfl,h⟩:=h
 exact ⟨v,rfl,h.weak fun _ _ h=>h⟩
theorem RL.toN {y:TV} {l:List (Nat × List Int)} {q:Option Bool} (h:RL (some true) 2 (RV q) y l):RL (some true) 2 (RV none) y l:=by
 rcases h with ⟨rfl,rfl⟩ | ⟨o,xs,rfl,hq,h,hb⟩
 ·exact .nil
 ·exact .sl hq (h.mono fun _ _ h=>h.weak) hb
theorem RL.cooled {y:TV} {l:List (Nat × List Int)} {q:Option Bool} (h:RL (some true) 2 (RV q) y l):RL (some true) 2 (RV (some false)) (coolT y) l:=by
 rcases h with ⟨rfl,rfl⟩ | ⟨o,xs,rfl,hq,h,hb⟩
 ·exact .nil
 ·refine .sl hq ?_ (by rw [frzLL_map,List.length_map]; exact hb)
  rw [frzLL_map]
  exact h.mapL fun e p hp=>by
   obtain ⟨v,rfl,hv⟩:=hp
   exact ⟨Ab.frz v,rfl,hv.frz fun _ _ h=>h.frz⟩
end Go.Ab
namespace Go.Ab.N10
open Go Go.Ab Go.Proofs
theorem revLoop {y3 y4 y5 w6 w7:TV} {L:List Int}:∀ (d i:Nat) (j:Int) (w:TV) (cur:List Int),(i:Int) + j=(L.length:Int) - 1→j - (i:Int)≤(d:Int)→i≤L.length→RInts (some true) w cur→cur.length=L.length →
  (∀ k:Nat,k < L.length→cur[k]? = if k < i∨j < (k:Int) then L[L.length - 1 - k]? else L[k]?)→∃ y,Goes prog 10 (f10_1 (I i) (I j) w y3 y4 y5 w6 w7) y∧RInts (some true) y L.reverse:=by
 have fin:∀ (i:Nat) (j:Int) (w:TV) (cur:List Int),(i:Int) + j=(L.length:Int) - 1→¬ (i:Int) < j→RInts (some true) w cur→cur.length=L.length →
  (∀ k:Nat,k < L.length→cur[k]? = if k < i∨j < (k:Int) then L[L.length - 1 - k]? else L[k]?)→∃ y,Goes prog 10 (f10_1 (I i) (I j) w y3 y4 y5 w6 w7) y∧RInts (some true) y L.reverse:=by
  intro i j w cur hij hn hw hcl hk
  have e:cur=L.reverse:=by
   apply List.ext_getElem?
   intro k
   by_cases h:k < L.length
   ·rw [hk k h,List.getElem?_reverse h]
    split
    ·rfl
    ·have:L.length - 1 - k=k:=by omega
     rw [this]
   ·rw [List.getElem?_eq_none (by omega),List.getElem?_eq_none (by simp; omega)]
  subst e
  refine ⟨w,?_,hw⟩
  unfold f10_1
  exact Goes.tv rfl (Goes.ite (v:=false) (by simp [asBool]; omega) (fun h=>nomatch h) fun _=>Goes.chk (hw.own fun _ _ h=>h.own) Goes.ret)
 intro d
 induction d with
 | zero =>
  intro i j w cur hij hd hi hw hcl hk
  exact fin i j w cur hij (by omega) hw hcl hk
 | succ d ih =>
  intro i j w cur hij hd hi hw hcl hk
  by_cases hlt:(i:Int) < j
  ·have hbn:=hw.bnd
   obtain ⟨m,rfl⟩:∃ m:Nat,j=(m:Int):=⟨j.toNat,by omega⟩
   have hmc:m < cur.length:=by omega
   have hic:i < cur.length:=by omega
   obtain ⟨a,haa⟩:∃ a,a=cur[i]:=⟨_,rfl⟩
   obtain ⟨b,hbb⟩:∃ b,b=cur[m]:=⟨_,rfl⟩
   have ha:cur[i]? = some a:=by rw [haa]; exact List.getElem?_eq_getElem hic
   have hb:cur[m]? = some b:=by rw [hbb]; exact List.getElem?_eq_getElem hmc
   obtain ⟨e1,he1,rfl,hea⟩:=hw.pel ha
   obtain ⟨e2,he2,rfl,heb⟩:=hw.pel hb
   obtain ⟨w1,hw1,hr1⟩:=hw.setAt he1 (d:=0) (ys:=[I b]) (a:=b) ⟨rfl,heb⟩
   have hb1:(cur.set i b)[m]? = some b:=by rw [List.getElem?_set_ne (by omega)]; exact hb
   obtain ⟨e3,he3,rfl,_⟩:=hr1.pel hb1
   obtain ⟨w2,hw2,hr2⟩:=hr1.setAt he3 (d:=0) (ys:=[I a]) (a:=a) ⟨rfl,hea⟩
   obtain ⟨y,hy,hry⟩:=ih (i + 1) ((m - 1:Nat):Int) w2 _ (by omega) (by omega) (by omega) hr2 (by simpa using hcl) (fun k hkl=>by
    have hki:=hk i (by omega)
    have hkm:=hk m (by omega)
    rw [if_neg (by omega)] at hki hkm
    rw [List.getElem?_set,List.getElem?_set]
    by_cases h1:m=k
    ·subst h1
     rw [if_pos rfl,if_pos (by simpa using hmc),if_pos (by omega),← ha,hki]
     congr 1
     omega
    ·rw [if_neg h1]
     by_cases h2:i=k
     ·subst h2
      rw [if_pos rfl,if_pos hic,if_pos (by omega),← hb,hkm]
      congr 1
      omega
     ·rw [if_neg h2,hk k hkl]
      by_cases h3:k < i∨(m:Int) < (k:Int)
      ·rw [if_pos h3,if_pos (by omega)]
      ·rw [if_neg h3,if_neg (by omega)])
   refine ⟨y,?_,hry⟩
   have ani:asNat (I i)=some i:=asNat_nat (by omega)
   have anm:asNat (I m)=some m:=asNat_nat (by omega)
   have hm1:m < (cur.set i b).length:=by simpa using hmc
   unfold f10_1
   refine Goes.tv rfl (Goes.ite (v:=true) (by simp only [asBool]; exact congrArg some (decide_eq_true hlt)) (fun _=>?_) fun h=>nomatch h)
   refine Goes.nat hw.slLen (Goes.nat anm (Goes.chk (by simp [hw.slSize,hmc]) (Goes.tvs he2 (Goes.chk rfl ?_))))
   refine Goes.nat hw.slLen (Goes.nat ani (Goes.chk (by simp [hw.slSize,hic]) (Goes.tvs he1 (Goes.chk rfl ?_))))
   refine Goes.nat hw.slLen (Goes.nat ani (Goes.chk (by simp [hw.slSize,hic]) (Goes.tvs he1 (Goes.chk rfl (Goes.tv hw1 ?_)))))
   refine Goes.nat hr1.slLen (Goes.nat anm (Goes.chk (by simp only [hr1.slSize]; simpa using hmc) (Goes.tvs he3 (Goes.chk rfl (Goes.tv hw2 ?_)))))
   exact Goes.tv (inc hic hbn) (Goes.tv (dec7 (by omega) (by omega)) (f10_1_J hy))
  ·exact fin i j w cur hij hlt hw hcl hk
end Go.Ab.N10
end
section
set_option linter.unusedVariables false
set_option maxRecDepth 10000
namespace Go.Ab
theorem rev_last {α:Type} {l:List α} {a:α}:(l.reverse ++ [a])[l.length]? = some a:=by
 rw [List.getElem?_append_right (by simp)]; simp
end Go.Ab
namespace Go.Ab.N10
open Go Go.Ab Go.Proofs
section
variable {q:Option Bool} {b:TV} {f:DFunc} (hf:RFunc q [I f.params,I f.regs,b] f) (hs:f.blocks.length≤1000)
include hf hs
theorem orderLoop:∀ (d:Nat) (M:List Bool) (st:List (Nat × List Int)) (o:List Int) (w3 w4 w5:TV),work M st < d→WOk f.blocks M st o→RBools (some true) w3 M→RL (some true) 2 (RV (some false)) w4 st.reverse→RInts (some true) w5 o.reverse →
  ∃ y M' o',Goes prog 10 (f10_0 (I f.params) (I f.regs) b w3 w4 w5) y∧RInts (some true) y o'∧Dfs f.blocks M st o M' o':=by
 intro d
 induction d with
 | zero=>intro M st o w3 w4 w5 hd; omega
 | succ d ih =>
  intro M st o w3 w4 w5 hd hw h3 h4 h5
  have hcap:=hw.cap
  match st,hd,hw,h4,hcap with
  | [],hd,hw,h4,hcap =>
   have hol:o.length≤1000:=by simp at hcap; omega
   obtain ⟨y,hy,hr⟩:=revLoop (y3:=I f.params) (y4:=I f.regs) (y5:=b) (w6:=w3) (w7:=w4) (L:=o.reverse) o.reverse.length 0 ((o.reverse.length:Int) - 1) w5 o.reverse (by simp) (by simp; omega) (by simp) h5 rfl (fun k hk=>by rw [if_neg (by omega)])
   refine ⟨y,M,o,?_,by simpa using hr,.done⟩
   unfold f10_0
   refine Goes.tv h4.len (Goes.tv rfl (Goes.ite (v:=false) (by simp [asBool]) (fun h=>nomatch h) fun _=>?_))
   exact Goes.tv h5.len (Goes.tv (psub (by simp only [List.length_reverse]; constructor <;> omega)) (f10_1_J hy))
  | (n, l) :: st', hd, hw, h4, hcap =>
   have hol:st'.length + o.length < 1000:=by simp at hcap; omega
   have hlen:((n,l) :: st').reverse.length=st'.length + 1:=by simp
   have hlast:((n,l) :: st').reverse[st'.length]? = some (n,l):=by rw [List.reverse_cons]; exact rev_last
   have h4b:=h4.bnd
   obtain ⟨e,he,v,rfl,hv⟩:=h4.pel hlast
   have hgp:=h4.deep he (j:=1) (z:=v) rfl
   have hnat:asNat (I (st'.length:Nat))=some st'.length:=asNat_nat (by omega)
   have hsub:pbin (.int .i64) .sub (I (((n,l) :: st').reverse.length:Nat)) (I 1)=some (I (st'.length:Nat)):=by
    have:=dec7 (n:=((n,l) :: st').reverse.length) (by omega) (by omega)
    rw [this,hlen]; rfl
   have hchk:(Bool.and (slSize w4 2) (Nat.blt st'.length ((n,l) :: st').reverse.length))=true:=by rw [h4.slSize,hlen]; simp
   have hfit1:fitsAt zSl [I (n:Int),v] 1=true:=by
    show (v.isSl && true)=true
    rw [hv.isSl]; rfl
   have hfit2:fitsOld zSl [I (n:Int),v] 1=true:=by
    show ((v.isSl || v.isHole) && true)=true
    rw [hv.isSl]; rfl
   have hgtr:asBool (.lit (.bool (decide (((((n,l) :: st').reverse.length:Nat):Int) > 0))))=some true:=by rw [hlen]; simp [asBool]
   match l,hd,hw,h4,hlast,hv,hsub,hchk,hlen,hgtr with
   | [], hd, hw, h4, hlast, hv, hsub, hchk, hlen, hgtr =>
    obtain ⟨w5',k1,k2⟩:=h5.app (e:=[I (n:Int)]) (a:=(n:Int)) ⟨rfl,by constructor <;> (have:=(hw.at_ _ List.mem_cons_self).1; simp at this; omega)⟩ (by simp; omega)
    obtain ⟨w4',k3,k4⟩:=h4.win (k:=st'.length) (by omega)
    have e4:((n,([]:List Int)) :: st').reverse.take st'.length=st'.reverse:=by
     rw [List.reverse_cons,List.take_append_of_le_length (by simp),List.take_of_length_le (by simp)]
    rw [e4] at k4
    obtain ⟨y,M',o',hy,hr,hD⟩:=ih M st' ((n:Int) :: o) w3 (coolT w4') w5' (by simp [work] at hd ⊢; omega) hw.leave h3 k4.cooled (by rw [List.reverse_cons]; exact k2)
    refine ⟨y,M',o',?_,hr,.leave hD⟩
    unfold f10_0
    refine Goes.tv h4.len (Goes.tv rfl (Goes.ite (v:=true) hgtr (fun _=>?_) fun h=>nomatch h))
    refine Goes.tv h4.len (Goes.tv hsub (Goes.nat h4.slLen (Goes.nat hnat (Goes.chk hchk (Goes.tvs he (Goes.chk hfit1 (Goes.tv hgp (Goes.tv hv.len (Goes.tv rfl (Goes.ite (v:=true) rfl (fun _=>?_) fun h=>nomatch h)))))))))) 
    refine Goes.tv h4.len (Goes.tv hsub (Goes.nat h4.slLen (Goes.nat hnat (Goes.chk hchk (Goes.tvs he (Goes.chk rfl (Goes.rws rfl (Goes.tv k1 (Goes.nat h4.slLen (Goes.nat hnat (Goes.chk ?_ (Goes.tv k3 (f10_0_J hy)))))))))))))
    rw [h4.slSize,hlen]; simp
   | g :: l, hd, hw, h4, hlast, hv, hsub, hchk, hlen, hgtr =>
    have hg:=(hw.at_ _ List.mem_cons_self).2 g List.mem_cons_self
    obtain ⟨eg,heg,rfl,hgi⟩:=hv.pel (i:=0) (a:=g) rfl
    obtain ⟨v',c1,c2⟩:=hv.winD (k:=1) (by simp)
    have e1:(g :: l).drop 1=l:=rfl
    rw [e1] at c2
    obtain ⟨w4',k1,k2⟩:=h4.setAt he (d:=1) (ys:=[v']) (a:=(n,l)) ⟨v',rfl,c2⟩
    have e4:((n,g :: l) :: st').reverse.set st'.length (n,l)=((n,l) :: st').reverse:=by
     rw [List.reverse_cons,List.reverse_cons,List.set_append_right _ _ (by simp)]
     simp
    rw [e4] at k2
    have hMl:g.toNat < M.length:=by rw [hw.len]; exact hg.2
    have hMg:M[g.toNat]? = some M[g.toNat]:=List.getElem?_eq_getElem hMl
    obtain ⟨em,hem,hRm⟩:=h3.pel hMg
    cases hRm
    have hgn:asNat (I g)=some g.toNat:=asNat_pos hg.1 hgi
    have h3b:=h3.bnd
    have hvl:(g :: l).length=l.length + 1:=rfl
    have front:∀ {r:TV},(M[g.toNat]=false→Goes prog 10 (Prg.nat (slLen w3) fun n50=>Prg.nat (asNat (nth TV.hole [I g] 0)) fun n51=>Prg.chk (Bool.and (slSize w3 1) (Nat.blt n51 n50)) (Prg.tvs (pel w3 n51) fun e52=>Prg.chk (fitsAt zBool e52 0) (Prg.tv (setC [] w3 n51 0 [TV.lit (Value.bool true)]) fun v53 =>
      Prg.call 12 [TV.agg [I f.params,I f.regs,b],nth TV.hole [I g] 0] fun v54=>Prg.chk (fitsAt zSl [v54] 0) (Prg.rws (pelems 2 (TV.sl true 2 (chunks 2 1 [nth TV.hole [I g] 0,v54]))) fun r55=>Prg.tv (papp 2 w4' r55) fun v56=>Prg.jmp [0,0,0,1,1,1,1] (f10_0_S (I f.params) (I f.regs) b v53 (coolT v56) w5))))) r) →
      (M[g.toNat]=true→Goes prog 10 (Prg.jmp [0,0,0,1,1,1,1] (f10_0_S (I f.params) (I f.regs) b w3 (coolT w4') w5)) r)→Goes prog 10 (f10_0 (I f.params) (I f.regs) b w3 w4 w5) r:=fun {r} k0 k9=>by
     unfold f10_0
     refine Goes.tv h4.len (Goes.tv rfl (Goes.ite (v:=true) hgtr (fun _=>?_) fun h=>nomatch h))
     refine Goes.tv h4.len (Goes.tv hsub (Goes.nat h4.slLen (Goes.nat hnat (Goes.chk hchk (Goes.tvs he (Goes.chk hfit1 (Goes.tv hgp (Goes.tv hv.len (Goes.tv rfl (Goes.ite (v:=false) (by simp [asBool]; omega) (fun h=>nomatch h) fun _=>?_))))))))))
     refine Goes.tvs he (Goes.chk hfit1 (Goes.tv hgp (Goes.nat hv.slLen (Goes.nat (v:=0) rfl (Goes.chk ?_ (Goes.tv hgp (Goes.tvs heg (Goes.chk rfl ?_))))))))
     ·rw [hv.slSize]; simp
     refine Goes.tvs he (Goes.chk hfit1 (Goes.tv hgp (Goes.nat hv.slLen (Goes.nat (v:=1) rfl (Goes.chk ?_ (Goes.tv hgp (Goes.tv c1 (Goes.chk c2.isFr ?_))))))))
     ·rw [hv.slSize]; simp
     refine Goes.tvs he (Goes.chk ?_ (Goes.tv k1 (Goes.nat h3.slLen (Goes.nat hgn (Goes.chk ?_ (Goes.tvs hem (Goes.chk rfl (Goes.tv rfl (Goes.ite rfl (fun h=>k0 ?_) fun h=>k9 ?_)))))))))
     ·rw [hfit2,fit_slc c2.isSl]; rfl
     ·rw [h3.slSize]; simpa using hMl
     ·simpa using h
     ·simpa using h
    cases hm:M[g.toNat] with
    | true =>
     obtain ⟨y,M',o',hy,hr,hD⟩:=ih M ((n,l) :: st') o w3 (coolT w4') w5 (by simp [work] at hd ⊢; omega) hw.skip h3 k2.cooled h5
     exact ⟨y,M',o',front (fun h=>by rw [hm] at h; cases h) (fun _=>f10_0_J hy),hr,.skip (by rw [hMg,hm]) hD⟩
    | false =>
     rw [hm] at hMg
     obtain ⟨w3',c3,c4⟩:=h3.setAt hem (d:=0) (ys:=[B true]) (a:=true) rfl
     obtain ⟨vn,c5,c6⟩:=r71 hf g
     have e6:nextL f.blocks g=nextAt f.blocks g.toNat:=by rw [nextL,if_pos hg.1]
     rw [e6] at c6
     have hgg:((g.toNat:Nat):Int)=g:=by omega
     obtain ⟨w4'',c7,c8⟩:=(RL.app (R:=RV none) (k2.toN) (e:=[I g,vn]) (a:=(g.toNat,nextAt f.blocks g.toNat)) ⟨vn,by rw [hgg],c6.weak fun _ _ h=>h⟩ (by simp; omega))
     obtain ⟨y,M',o',hy,hr,hD⟩:=ih (M.set g.toNat true) ((g.toNat,nextAt f.blocks g.toNat) :: (n,l) :: st') o w3' (coolT w4'') w5 (by
      have h1:=count_set hMg
      have h2:=nextAt_len f.blocks g.toNat
      simp only [work,List.map_cons,List.sum_cons,List.length_cons] at hd ⊢
      omega) (hw.enter hMg) c4 (by rw [List.reverse_cons]; exact c8.cooled) h5
     refine ⟨y,M',o',front (fun _=>?_) (fun h=>by rw [hm] at h; cases h),hr,.enter hMg hD⟩
     refine Goes.nat h3.slLen (Goes.nat hgn (Goes.chk ?_ (Goes.tvs hem (Goes.chk rfl (Goes.tv c3 (Goes.call c5 (Goes.chk (fit_slc c6.isSl) (Goes.rws rfl (Goes.tv c7 (f10_0_J hy))))))))))
     rw [h3.slSize]; simpa using hMl
end
theorem r80 {q:Option Bool} {e:List TV} {f:DFunc} (he:RFunc q e f) (hs:f.blocks.length≤1000):∃ y o,Runs prog 10 [.agg e] y∧RInts (some true) y o∧OrderP f.blocks o:=by
 have he0:=he
 obtain ⟨b,rfl,hb,_⟩:=he
 by_cases h0:f.blocks=[]
 ·refine ⟨.lit nilV,[],?_,.nil,.inl ⟨h0,rfl⟩⟩
  refine Runs.of (f10_MR _) ?_
  unfold f10_M
  exact Goes.chk rfl (Goes.tv hb.len (Goes.tv rfl (Goes.ite (v:=true) (by simp [asBool,h0]) (fun _=>Goes.chk rfl Goes.ret) fun h=>nomatch h)))
 ·have hl:0 < f.blocks.length:=List.length_pos_iff.2 h0
  have hrep:RBools (some true) (.sl true 1 (List.replicate f.blocks.length [B false])) (List.replicate f.blocks.length false):=.sl (by simp) (F2.of_get (by simp) fun i e a he ha=>by
   rw [List.getElem?_replicate] at he ha
   split at he
   ·rename_i h; rw [if_pos h] at ha; cases he; cases ha; rfl
   ·cases he) (by simp; omega)
  obtain ⟨e7,he7,hR⟩:=hrep.pel (i:=0) (a:=false) (by rw [List.getElem?_replicate,if_pos hl])
  cases hR
  obtain ⟨w3,c1,c2⟩:=hrep.setAt he7 (d:=0) (ys:=[B true]) (a:=true) rfl
  obtain ⟨v,c3,c4⟩:=r71 he0 ((0:Nat):Int)
  rw [nextL_nat] at c4
  obtain ⟨w4,c5,c6⟩:=(RL.nil:RL (some true) 2 (RV none) (.lit nilV) []).app (e:=[I ((0:Nat):Int),v]) (a:=(0,nextAt f.blocks 0)) ⟨v,rfl,c4.weak fun _ _ h=>h⟩ (by simp)
  have hw:WOk f.blocks ((List.replicate f.blocks.length false).set 0 true) [(0,nextAt f.blocks 0)] []:=⟨by simp,fun p hp=>by
   rw [List.mem_singleton] at hp
   subst hp
   exact ⟨hl,fun g hg=>nextAt_there hg⟩,by rw [set_count (by rw [List.getElem?_replicate,if_pos hl])]; simp⟩
  obtain ⟨y,M',o',hy,hr,hD⟩:=orderLoop he0 hs _ _ _ [] w3 (coolT w4) (.lit nilV) (Nat.lt_succ_self _) hw c2 c6.cooled .nil
  refine ⟨y,o',?_,hr,.inr ⟨h0,M',hD⟩⟩
  have hn:asNat (I (f.blocks.length:Nat))=some f.blocks.length:=asNat_nat (by omega)
  refine Runs.of (f10_MR _) ?_
  unfold f10_M
  refine Goes.chk rfl (Goes.tv hb.len (Goes.tv rfl (Goes.ite (v:=false) (by simp [asBool]; omega) (fun h=>nomatch h) fun _=>?_)))
  refine Goes.tv hb.len (Goes.nat hn (Goes.nat hn (Goes.chk ?_ (Goes.nat hrep.slLen (Goes.nat (v:=0) rfl (Goes.chk ?_ (Goes.tvs he7 (Goes.chk rfl (Goes.tv c1 ?_)))))))))
  ·have:Nat.ble f.blocks.length 4294967296=true:=by simp; omega
   simp [this]
  ·rw [hrep.slSize]; simpa using hl
  exact Goes.call c3 (Goes.chk (fit_slc c4.isSl) (Goes.rws rfl (Goes.tv c5 (Goes.chk rfl (f10_0_J hy)))))
end Go.Ab.N10
end
section
set_option linter.unusedVariables false
set_option maxRecDepth 10000
namespace Go.Ab
inductive Rc (bs:List DBlock) (no:Int):Nat→Prop
 | start (h:no≠0) (h0:0 < bs.length):Rc bs no 0
 | next {i:Nat} {g:Int} (hi:Rc bs no i) (hg:g ∈ nextAt bs i) (hn:g≠no):Rc bs no g.toNat
def FullR (bs:List DBlock) (no:Int) (M:List Bool):Prop:=M.length=bs.length∧∀ i:Nat,M[i]? = some true ↔ Rc bs no i
theorem Rc.lt {bs:List DBlock} {no:Int} {i:Nat} (h:Rc bs no i):i < bs.length:=by
 cases h with
 | start _ h0=>exact h0
 | next _ hg _=>exact (nextAt_there hg).2
def Ckd (bs:List DBlock) (no:Int) (M:List Bool) (k:Nat):Prop:=∀ i:Nat,i < k→M[i]? = some true→∀ g ∈ nextAt bs i,g≠no→M[g.toNat]? = some true
def SndR (bs:List DBlock) (no:Int) (M:List Bool):Prop:=∀ i:Nat,M[i]? = some true→Rc bs no i
theorem fullR_of {bs:List DBlock} {no:Int} {M:List Bool} (hl:M.length=bs.length) (h1:SndR bs no M) (h2:no≠0→0 < bs.length→M[0]? = some true) (h3:Ckd bs no M bs.length):FullR bs no M:=by
 refine ⟨hl,fun i=>⟨h1 i,fun h=>?_⟩⟩
 induction h with
 | start h h0=>exact h2 h h0
 | next hi hg hn ih=>exact h3 _ hi.lt ih _ hg hn
theorem set_true {M:List Bool} {g i:Nat} (h:M[i]? = some true):(M.set g true)[i]? = some true:=by
 rw [List.getElem?_set]
 split
 ·rename_i e
  subst e
  have:=(List.getElem?_eq_some_iff.1 h).1
  simp [this]
 ·exact h
theorem rep_bools {n:Nat} (h:n≤9223372036854775807):RBools (some true) (.sl true 1 (List.replicate n [B false])) (List.replicate n false):=.sl (by simp) (F2.of_get (by simp) fun i e a he ha=>by
 rw [List.getElem?_replicate] at he ha
 split at he
 ·rename_i h; rw [if_pos h] at ha; cases he; cases ha; rfl
 ·cases he) (by simpa using h)
end Go.Ab
namespace Go.Ab.N10
open Go Go.Ab Go.Proofs
section
variable {q:Option Bool} {b:TV} {f:DFunc} (hf:RFunc q [I f.params,I f.regs,b] f) (hs:f.blocks.length≤1000) {no:Int}
include hs
include hf
end
end Go.Ab.N10
end
section
set_option linter.unusedVariables false
set_option maxRecDepth 10000
namespace Go.Ab
def LedO (bs:List DBlock) (S:Nat→Prop) (o:List Int):Prop:=∀ (A:List Int) (x:Int) (B:List Int),o=A ++ x :: B→x=0∨∃ p:Nat,x ∈ nextAt bs p∧((p:Int) ∈ A∨S p)
def Chain (bs:List DBlock):List (Nat × List Int)→Prop
 | []=>True
 | [p]=>p.1=0
 | p :: r :: l=>(p.1:Int) ∈ nextAt bs r.1∧Chain bs (r :: l)
structure DI (bs:List DBlock) (M:List Bool) (st:List (Nat × List Int)) (o:List Int):Prop where
 len:M.length=bs.length
 at_:∀ p ∈ st,p.1 < bs.length∧∀ g ∈ p.2,g ∈ nextAt bs p.1
 mem:∀ i:Nat,M[i]? = some true ↔ (∃ p ∈ st,p.1=i)∨(i:Int) ∈ o
 nod:(o ++ st.map fun p=>(p.1:Int)).Nodup
 out:∀ x ∈ o,0≤x∧∀ g ∈ nextAt bs x.toNat,M[g.toNat]? = some true
 todo:∀ p ∈ st,∀ g ∈ nextAt bs p.1,g ∈ p.2∨M[g.toNat]? = some true
 snd:SndR bs (-1) M
 led:LedO bs (fun p=>∃ r ∈ st,r.1=p) o
 chain:Chain bs st
 last:st=[]→o.head? = some 0
theorem toNat_cast {g:Int} (h:0≤g):((g.toNat:Nat):Int)=g:=by omega
theorem DI.leave {bs:List DBlock} {M:List Bool} {n:Nat} {st:List (Nat × List Int)} {o:List Int} (h:DI bs M ((n,[]) :: st) o):DI bs M st ((n:Int) :: o):=by
 refine ⟨h.len,fun p hp=>h.at_ p (List.mem_cons_of_mem _ hp),fun i=>?_,?_,fun x hx=>?_,fun p hp=>h.todo p (List.mem_cons_of_mem _ hp),h.snd,?_,?_,fun hst=>?_⟩
 ·rw [h.mem i]
  constructor
  ·rintro (⟨p,hp,rfl⟩ | hi)
   ·rcases List.mem_cons.1 hp with rfl | hp
    ·exact .inr List.mem_cons_self
    ·exact .inl ⟨p,hp,rfl⟩
   ·exact .inr (List.mem_cons_of_mem _ hi)
  ·rintro (⟨p,hp,rfl⟩ | hi)
   ·exact .inl ⟨p,List.mem_cons_of_mem _ hp,rfl⟩
   ·rcases List.mem_cons.1 hi with hi | hi
    ·exact .inl ⟨(n,[]),List.mem_cons_self,by omega⟩
    ·exact .inr hi
 ·have:=h.nod
  rw [List.map_cons] at this
  exact List.perm_middle.nodup_iff.1 this
 ·rcases List.mem_cons.1 hx with rfl | hx
  ·refine ⟨by omega,fun g hg=>?_⟩
   rcases h.todo (n,[]) List.mem_cons_self g hg with h1 | h1
   ·cases h1
   ·exact h1
  ·exact h.out x hx
 ·intro A x B e
  cases A with
  | nil =>
   simp only [List.nil_append,List.cons.injEq] at e
   obtain ⟨rfl,_⟩:=e
   cases st with
   | nil=>left; have:=h.chain; simp only [Chain] at this; omega
   | cons r l=>right; exact ⟨r.1,h.chain.1,.inr ⟨r,List.mem_cons_self,rfl⟩⟩
  | cons a A =>
   simp only [List.cons_append,List.cons.injEq] at e
   obtain ⟨rfl,e⟩:=e
   rcases h.led A x B e with h1 | ⟨p,h1,h2⟩
   ·exact .inl h1
   ·refine .inr ⟨p,h1,?_⟩
    rcases h2 with h2 | ⟨r,hr,rfl⟩
    ·exact .inl (List.mem_cons_of_mem _ h2)
    ·rcases List.mem_cons.1 hr with rfl | hr
     ·exact .inl List.mem_cons_self
     ·exact .inr ⟨r,hr,rfl⟩
 ·have:=h.chain
  cases st with
  | nil=>trivial
  | cons r l=>exact this.2
 ·subst hst
  have:=h.chain
  simp only [Chain] at this
  subst this
  rfl
theorem DI.skip {bs:List DBlock} {M:List Bool} {n:Nat} {g:Int} {l:List Int} {st:List (Nat × List Int)} {o:List Int} (h:DI bs M ((n,g :: l) :: st) o) (hg:M[g.toNat]? = some true):DI bs M ((n,l) :: st) o:=by
 refine ⟨h.len,fun p hp=>?_,fun i=>?_,h.nod,h.out,fun p hp g' hg'=>?_,h.snd,fun A x B e=>?_,?_,fun hst=>(by cases hst)⟩
 ·rcases List.mem_cons.1 hp with rfl | hp
  ·exact ⟨(h.at_ _ List.mem_cons_self).1,fun g' hg'=>(h.at_ (n,g :: l) List.mem_cons_self).2 g' (List.mem_cons_of_mem _ hg')⟩
  ·exact h.at_ p (List.mem_cons_of_mem _ hp)
 ·rw [h.mem i]
  simp
 ·rcases List.mem_cons.1 hp with rfl | hp
  ·rcases h.todo (n,g :: l) List.mem_cons_self g' hg' with h1 | h1
   ·rcases List.mem_cons.1 h1 with rfl | h1
    ·exact .inr hg
    ·exact .inl h1
   ·exact .inr h1
  ·exact h.todo p (List.mem_cons_of_mem _ hp) g' hg'
 ·rcases h.led A x B e with h1 | ⟨p,h1,h2⟩
  ·exact .inl h1
  ·refine .inr ⟨p,h1,h2.imp id ?_⟩
   rintro ⟨r,hr,rfl⟩
   rcases List.mem_cons.1 hr with rfl | hr
   ·exact ⟨(n,l),List.mem_cons_self,rfl⟩
   ·exact ⟨r,List.mem_cons_of_mem _ hr,rfl⟩
 ·have:=h.chain
  cases st with
  | nil=>exact this
  | cons r l=>exact this
theorem DI.enter {bs:List DBlock} {M:List Bool} {n:Nat} {g:Int} {l:List Int} {st:List (Nat × List Int)} {o:List Int} (h:DI bs M ((n,g :: l) :: st) o) (hg:M[g.toNat]? = some false):DI bs (M.set g.toNat true) ((g.toNat,nextAt bs g.toNat) :: (n,l) :: st) o:=by
 have hgm:=(h.at_ (n,g :: l) List.mem_cons_self).2 g List.mem_cons_self
 have hgt:=nextAt_there hgm
 have hlt:=(List.getElem?_eq_some_iff.1 hg).1
 have hgc:=toNat_cast hgt.1
 have hnM:∀ i:Nat,M[i]? = some true→i≠g.toNat:=fun i hi e=>by rw [e,hg] at hi; cases hi
 refine ⟨by rw [List.length_set]; exact h.len,fun p hp=>?_,fun i=>?_,?_,fun x hx=>⟨(h.out x hx).1,fun g' hg'=>set_true ((h.out x hx).2 g' hg')⟩,fun p hp g' hg'=>?_,fun i hi=>?_,fun A x B e=>?_,?_,fun hst=>(by cases hst)⟩
 ·rcases List.mem_cons.1 hp with rfl | hp
  ·exact ⟨hgt.2,fun g' hg'=>hg'⟩
  ·rcases List.mem_cons.1 hp with rfl | hp
   ·exact ⟨(h.at_ _ List.mem_cons_self).1,fun g' hg'=>(h.at_ (n,g :: l) List.mem_cons_self).2 g' (List.mem_cons_of_mem _ hg')⟩
   ·exact h.at_ p (List.mem_cons_of_mem _ hp)
 ·rw [set_get hlt,h.mem i]
  simp only [List.mem_cons,exists_eq_or_imp]
  constructor
  ·rintro (rfl | h1)
   ·exact .inl (.inl rfl)
   ·rcases h1 with h1 | h1
    ·exact .inl (.inr h1)
    ·exact .inr h1
  ·rintro ((h1 | h1) | h1)
   ·exact .inl h1.symm
   ·exact .inr (.inl h1)
   ·exact .inr (.inr h1)
 ·have h1:=h.nod
  rw [List.map_cons] at h1 ⊢
  rw [List.perm_middle.nodup_iff,List.nodup_cons]
  refine ⟨fun hin=>?_,by rw [List.map_cons]; exact h1⟩
  have:M[g.toNat]? = some true:=by
   rw [h.mem]
   rcases List.mem_append.1 hin with hin | hin
   ·exact .inr hin
   ·obtain ⟨p,hp,he⟩:=List.mem_map.1 hin
    have he:p.1=g.toNat:=by omega
    rcases List.mem_cons.1 hp with rfl | hp
    ·exact .inl ⟨(n,g :: l),List.mem_cons_self,he⟩
    ·exact .inl ⟨p,List.mem_cons_of_mem _ hp,he⟩
  rw [hg] at this
  cases this
 ·rcases List.mem_cons.1 hp with rfl | hp
  ·exact .inl hg'
  ·rcases List.mem_cons.1 hp with rfl | hp
   ·rcases h.todo (n,g :: l) List.mem_cons_self g' hg' with h1 | h1
    ·rcases List.mem_cons.1 h1 with rfl | h1
     ·exact .inr ((set_get hlt).2 (.inl rfl))
     ·exact .inl h1
    ·exact .inr (set_true h1)
   ·exact (h.todo p (List.mem_cons_of_mem _ hp) g' hg').imp id set_true
 ·rcases (set_get hlt).1 hi with rfl | h1
  ·have hn:M[n]? = some true:=(h.mem n).2 (.inl ⟨(n,g :: l),List.mem_cons_self,rfl⟩)
   exact .next (h.snd n hn) hgm (by omega)
  ·exact h.snd i h1
 ·rcases h.led A x B e with h1 | ⟨p,h1,h2⟩
  ·exact .inl h1
  ·refine .inr ⟨p,h1,h2.imp id ?_⟩
   rintro ⟨r,hr,rfl⟩
   rcases List.mem_cons.1 hr with rfl | hr
   ·exact ⟨(n,l),List.mem_cons_of_mem _ List.mem_cons_self,rfl⟩
   ·exact ⟨r,List.mem_cons_of_mem _ (List.mem_cons_of_mem _ hr),rfl⟩
 ·have:=h.chain
  refine ⟨by rw [hgc]; exact hgm,?_⟩
  cases st with
  | nil=>exact this
  | cons r l=>exact this
theorem Dfs.keeps {bs:List DBlock} {M M':List Bool} {st:List (Nat × List Int)} {o o':List Int} (h:Dfs bs M st o M' o'):DI bs M st o→DI bs M' [] o':=by
 induction h with
 | done=>exact fun h=>h
 | leave _ ih=>exact fun h=>ih h.leave
 | skip hg _ ih=>exact fun h=>ih (h.skip hg)
 | enter hg _ ih=>exact fun h=>ih (h.enter hg)
theorem DI.start {bs:List DBlock} (h:bs≠[]):DI bs ((List.replicate bs.length false).set 0 true) [(0,nextAt bs 0)] []:=by
 have hl:0 < bs.length:=List.length_pos_iff.2 h
 have hlr:0 < (List.replicate bs.length false).length:=by simpa using hl
 have none_:∀ i:Nat,¬ (List.replicate bs.length false)[i]? = some true:=fun i h=>by
  rw [List.getElem?_replicate] at h
  split at h <;> cases h
 refine ⟨by simp,fun p hp=>?_,fun i=>?_,by simp,fun x hx=>(by cases hx),fun p hp g hg=>?_,fun i hi=>?_,fun A x B e=>(by simp at e),rfl,fun hst=>(by cases hst)⟩
 ·rw [List.mem_singleton] at hp
  subst hp
  exact ⟨hl,fun g hg=>hg⟩
 ·rw [set_get hlr]
  simp only [List.mem_singleton,exists_eq_left,List.not_mem_nil,or_false]
  constructor
  ·rintro (rfl | h)
   ·rfl
   ·exact absurd h (none_ i)
  ·rintro rfl
   exact .inl rfl
 ·rw [List.mem_singleton] at hp
  subst hp
  exact .inl hg
 ·rcases (set_get hlr).1 hi with rfl | h
  ·exact .start (by omega) hl
  ·exact absurd h (none_ i)
structure OI (bs:List DBlock) (o:List Int):Prop where
 mem:∀ i:Nat,(i:Int) ∈ o ↔ Rc bs (-1) i
 pos:∀ x ∈ o,0≤x∧x < (bs.length:Int)
 nod:o.Nodup
 led:∀ (A:List Int) (x:Int) (B:List Int),o=A ++ x :: B→x=0∨∃ p:Nat,x ∈ nextAt bs p∧(p:Int) ∈ A
 first:bs≠[]→o.head? = some 0
theorem OrderP.keeps {bs:List DBlock} {o:List Int} (h:OrderP bs o):OI bs o:=by
 rcases h with ⟨rfl,rfl⟩ | ⟨h0,M',hD⟩
 ·refine ⟨fun i=>⟨fun h=>(by cases h),fun h=>absurd h.lt (by simp)⟩,fun x hx=>(by cases hx),List.nodup_nil,fun A x B e=>(by simp at e),fun h=>absurd rfl h⟩
 ·have h:=hD.keeps (DI.start h0)
  have hmem:∀ i:Nat,M'[i]? = some true ↔ (i:Int) ∈ o:=fun i=>by rw [h.mem i]; simp
  have hfull:FullR bs (-1) M':=by
   have hhd:=h.last rfl
   have h0o:(0:Int) ∈ o:=by
    cases o with
    | nil=>cases hhd
    | cons a o=>simp only [List.head?_cons,Option.some.injEq] at hhd; subst hhd; exact List.mem_cons_self
   refine fullR_of h.len h.snd (fun _ _=>(hmem 0).2 h0o) (fun i _ hi g hg _=>?_)
   have:=(h.out i ((hmem i).1 hi)).2 g (by simpa using hg)
   exact this
  refine ⟨fun i=>by rw [← hmem i]; exact hfull.2 i,fun x hx=>?_,by have:=h.nod; simpa using this,fun A x B e=>?_,fun _=>h.last rfl⟩
  ·have hx0:=(h.out x hx).1
   have:Rc bs (-1) x.toNat:=(hfull.2 _).1 ((hmem _).2 (by rw [toNat_cast hx0]; exact hx))
   have:=this.lt
   omega
  ·rcases h.led A x B e with h1 | ⟨p,h1,h2⟩
   ·exact .inl h1
   ·refine .inr ⟨p,h1,?_⟩
    rcases h2 with h2 | ⟨r,hr,_⟩
    ·exact h2
    ·cases hr
end Go.Ab
namespace Go.Ab.N10
open Go Go.Ab Go.Proofs
end Go.Ab.N10
end
section
set_option linter.unusedVariables false
set_option maxRecDepth 10000
namespace Go.Ab
theorem rem_in {p:Int} (hp:0≤p) {L:Nat} (hL:0 < L):∃ N:Nat,N < L∧pbin (.int .i64) .rem (I p) (I (L:Int))=some (I (N:Int)):=by
 have h1:0≤p.tmod L:=Int.tmod_nonneg _ hp
 have h2:p.tmod L < L:=Int.tmod_lt_of_pos _ (by omega)
 refine ⟨(p.tmod L).toNat,by omega,?_⟩
 have h3:(((p.tmod L).toNat:Nat):Int)=p.tmod L:=by omega
 rw [h3]
 show (if (L:Int)=0 then none else some (I (p.tmod L)))=_
 rw [if_neg (by omega)]
theorem conv_byte {a:Int} (h0:0≤a) (h:a≤255):pconv (.int .i64) (.lit (.int .u8 a))=some (I a):=by
 show some (TV.lit (.int .i64 (IntKind.i64.wrap a)))=_
 rw [IntKind.wrap_i64]
 congr 4
 omega
end Go.Ab
namespace Go.Ab.N10
open Go Go.Ab Go.Proofs
end Go.Ab.N10
end
section
set_option linter.unusedVariables false
set_option maxRecDepth 10000
namespace Go.Ab
def Dm (bs:List DBlock) (a b:Nat):Prop:=Rc bs (-1) b∧(a=b∨¬ Rc bs a b)
inductive Wy (bs:List DBlock) (no:Int) (x:Nat):Nat→Prop
 | refl:Wy bs no x x
 | next {i:Nat} {g:Int} (hi:Wy bs no x i) (hg:g ∈ nextAt bs i) (hn:g≠no):Wy bs no x g.toNat
theorem Wy.rc {bs:List DBlock} {no:Int} {x i:Nat} (hx:Rc bs no x) (h:Wy bs no x i):Rc bs no i:=by
 induction h with
 | refl=>exact hx
 | next _ hg hn ih=>exact .next ih hg hn
theorem Rc.any {bs:List DBlock} {no:Int} {i:Nat} (h:Rc bs no i):Rc bs (-1) i:=by
 induction h with
 | start _ h0=>exact .start (by omega) h0
 | next _ hg _ ih=>exact .next ih hg (by have:=nextAt_there hg; omega)
theorem Rc.not_self {bs:List DBlock} {a:Nat} (h:Rc bs a a):False:=by
 have key:∀ {i:Nat},Rc bs a i→i≠a:=by
  intro i h
  cases h with
  | start h _=>omega
  | next _ hg hn=>have:=nextAt_there hg; omega
 exact key h rfl
theorem Rc.split {bs:List DBlock} {no:Int} {c:Nat} (h:Rc bs no c) (b:Nat):Rc bs b c∨Rc bs no b:=by
 induction h with
 | start h0 hl =>
  by_cases hb:b=0
  ·subst hb; exact .inr (.start h0 hl)
  ·exact .inl (.start (by omega) hl)
 | @next i g hi hg hn ih =>
  have ht:=nextAt_there hg
  rcases ih with ih | ih
  ·by_cases hb:g=(b:Int)
   ·right
    have:=Rc.next hi hg hn
    rw [hb] at this
    simpa using this
   ·exact .inl (.next ih hg hb)
  ·exact .inr ih
theorem Dm.refl {bs:List DBlock} {b:Nat} (h:Rc bs (-1) b):Dm bs b b:=⟨h,.inl rfl⟩
theorem Dm.self {bs:List DBlock} {a b:Nat}:Dm bs a b ↔ Rc bs (-1) b∧¬ Rc bs a b:=by
 constructor
 ·rintro ⟨h,rfl | h2⟩
  ·exact ⟨h,fun h=>h.not_self⟩
  ·exact ⟨h,h2⟩
 ·exact fun ⟨h1,h2⟩=>⟨h1,.inr h2⟩
theorem Dm.up {bs:List DBlock} {a b:Nat} (h:Dm bs a b):Rc bs (-1) a:=by
 rw [Dm.self] at h
 rcases h.1.split a with h1 | h1
 ·exact absurd h1 h.2
 ·exact h1
theorem Dm.trans {bs:List DBlock} {a b c:Nat} (h:Dm bs a b) (h':Dm bs b c):Dm bs a c:=by
 rw [Dm.self] at *
 refine ⟨h'.1,fun hac=>?_⟩
 rcases hac.split b with h1 | h1
 ·exact h'.2 h1
 ·exact h.2 h1
theorem first_of {bs:List DBlock} {a b i:Nat} (hab:a≠b) (h:Rc bs (-1) i):(Rc bs a i∧Rc bs b i)∨Rc bs b a∨Rc bs a b:=by
 induction h with
 | start h0 hl =>
  by_cases ha:a=0
  ·subst ha; exact .inr (.inl (.start (by omega) hl))
  ·by_cases hb:b=0
   ·subst hb; exact .inr (.inr (.start (by omega) hl))
   ·exact .inl ⟨.start (by omega) hl,.start (by omega) hl⟩
 | @next i g hi hg hn ih =>
  have ht:=nextAt_there hg
  rcases ih with ⟨h1,h2⟩ | ih
  ·by_cases ha:g=(a:Int)
   ·right; left
    have:=Rc.next h2 hg (by omega)
    rw [ha] at this
    simpa using this
   ·by_cases hb:g=(b:Int)
    ·right; right
     have:=Rc.next h1 hg ha
     rw [hb] at this
     simpa using this
    ·exact .inl ⟨.next h1 hg ha,.next h2 hg hb⟩
  ·exact .inr ih
theorem last_of {bs:List DBlock} {a b i:Nat} (hab:a≠b) (h:Rc bs (-1) i):(Rc bs a i∧Rc bs b i)∨Wy bs b a i∨Wy bs a b i:=by
 induction h with
 | start h0 hl =>
  by_cases ha:a=0
  ·subst ha; exact .inr (.inl .refl)
  ·by_cases hb:b=0
   ·subst hb; exact .inr (.inr .refl)
   ·exact .inl ⟨.start (by omega) hl,.start (by omega) hl⟩
 | @next i g hi hg hn ih =>
  have ht:=nextAt_there hg
  by_cases ha:g=(a:Int)
  ·rw [ha,Int.toNat_natCast]; exact .inr (.inl .refl)
  ·by_cases hb:g=(b:Int)
   ·rw [hb,Int.toNat_natCast]; exact .inr (.inr .refl)
   ·rcases ih with ⟨h1,h2⟩ | h1 | h1
    ·exact .inl ⟨.next h1 hg ha,.next h2 hg hb⟩
    ·exact .inr (.inl (.next h1 hg hb))
    ·exact .inr (.inr (.next h1 hg ha))
theorem Dm.anti {bs:List DBlock} {a b:Nat} (h:Dm bs a b) (h':Dm bs b a):a=b:=by
 by_cases hab:a=b
 ·exact hab
 ·exfalso
  rw [Dm.self] at *
  rcases first_of hab h.1 with ⟨h1,_⟩ | h1 | h1
  ·exact h.2 h1
  ·exact h'.2 h1
  ·exact h.2 h1
theorem Dm.total {bs:List DBlock} {a b c:Nat} (h:Dm bs a c) (h':Dm bs b c):Dm bs a b∨Dm bs b a:=by
 by_cases hab:a=b
 ·subst hab; exact .inl (.refl h.up)
 ·have ha:=h.up
  have hb:=h'.up
  rw [Dm.self] at h h'
  rcases last_of hab h.1 with ⟨h1,_⟩ | h1 | h1
  ·exact absurd h1 h.2
  ·right
   exact Dm.self.2 ⟨ha,fun hr=>h'.2 (h1.rc hr)⟩
  ·left
   exact Dm.self.2 ⟨hb,fun hr=>h.2 (h1.rc hr)⟩
theorem Dm.zero {bs:List DBlock} {b:Nat} (h:Rc bs (-1) b):Dm bs 0 b:=by
 refine Dm.self.2 ⟨h,fun hr=>?_⟩
 have key:∀ {i:Nat},Rc bs ((0:Nat):Int) i→False:=by
  intro i h
  induction h with
  | start h _=>exact h rfl
  | next _ _ _ ih=>exact ih
 exact key hr
theorem Dm.step {bs:List DBlock} {a b:Nat} {g:Int} (h:Rc bs (-1) b) (hg:g ∈ nextAt bs b) (hd:Dm bs a g.toNat) (hn:g≠(a:Int)):Dm bs a b:=by
 rw [Dm.self] at *
 exact ⟨h,fun hr=>hd.2 (.next hr hg hn)⟩
def Nx (bs:List DBlock) (a b:Nat):Prop:=a≠b∧Dm bs a b∧∀ c,c≠b→Dm bs c b→Dm bs c a
theorem Nx.det {bs:List DBlock} {a a' b:Nat} (h:Nx bs a b) (h':Nx bs a' b):a=a':=(h'.2.2 a h.1 h.2.1).anti (h.2.2 a' h'.1 h'.2.1)
theorem Nx.ex {bs:List DBlock} {b:Nat} (h:Rc bs (-1) b) (hb:b≠0):∃ a,Nx bs a b:=by
 have key : ∀ k : Nat, ∃ a, a ≠ b ∧ Dm bs a b ∧ ∀ c, c < k → c ≠ b → Dm bs c b → Dm bs c a := by
  intro k
  induction k with
  | zero=>exact ⟨0,Ne.symm hb,.zero h,fun c hc=>absurd hc (Nat.not_lt_zero _)⟩
  | succ k ih =>
   obtain ⟨a,h1,h2,h3⟩:=ih
   by_cases hk:k≠b∧Dm bs k b
   ·rcases h2.total hk.2 with h4 | h4
    ·refine ⟨k,hk.1,hk.2,fun c hc hcb hcd=>?_⟩
     rcases Nat.lt_or_ge c k with h5 | h5
     ·exact (h3 c h5 hcb hcd).trans h4
     ·have:c=k:=by omega
      subst this
      exact .refl hk.2.up
    ·refine ⟨a,h1,h2,fun c hc hcb hcd=>?_⟩
     rcases Nat.lt_or_ge c k with h5 | h5
     ·exact h3 c h5 hcb hcd
     ·have:c=k:=by omega
      subst this
      exact h4
   ·refine ⟨a,h1,h2,fun c hc hcb hcd=>?_⟩
    rcases Nat.lt_or_ge c k with h5 | h5
    ·exact h3 c h5 hcb hcd
    ·have:c=k:=by omega
     subst this
     exact absurd ⟨hcb,hcd⟩ hk
 obtain ⟨a,h1,h2,h3⟩:=key bs.length
 exact ⟨a,h1,h2,fun c hc hd=>h3 c hd.up.lt hc hd⟩
end Go.Ab
end
section
set_option linter.unusedVariables false
set_option maxRecDepth 10000
namespace Go.Ab
open Classical in
noncomputable def ovN (bs:List DBlock) (b:Nat):Int:=if h:∃ a,Nx bs a b then ((h.choose:Nat):Int) else -1
theorem ovN_of {bs:List DBlock} {a b:Nat} (h:Nx bs a b):ovN bs b=(a:Int):=by
 have hx:∃ a,Nx bs a b:=⟨a,h⟩
 unfold ovN
 rw [dif_pos hx,(hx.choose_spec).det h]
theorem Nx.reached {bs:List DBlock} {a b:Nat} (h:Nx bs a b):Rc bs (-1) b∧b≠0:=by
 refine ⟨h.2.1.1,fun h0=>h.1 ?_⟩
 subst h0
 exact h.2.1.anti (.zero h.2.1.up)
theorem ovN_none {bs:List DBlock} {b:Nat} (h:¬ (Rc bs (-1) b∧b≠0)):ovN bs b=-1:=by
 unfold ovN
 rw [dif_neg]
 rintro ⟨a,ha⟩
 exact h ha.reached
noncomputable def overL (bs:List DBlock):List Int:=(List.range bs.length).map (ovN bs)
theorem overL_len (bs:List DBlock):(overL bs).length=bs.length:=by simp [overL]
theorem overL_get {bs:List DBlock} {b:Nat} (h:b < bs.length):(overL bs)[b]? = some (ovN bs b):=by simp [overL,h]
end Go.Ab
end

import Derived.Test.YtfnpejmlcbkepaaLQ12F70
set_option linter.all false
section
set_option maxRecDepth 10000
namespace Go.Ab
theorem dY {α:Type} {l:List α} {j:Nat} {a:α} (h:l[j]? = some a):l.take (j + 1)=l.take j ++ [a]:=by
 rw [List.take_add_one,h]; rfl
def nQ (bs:List DBlock) (n:Int) (k:Nat):List Int:=((List.range k).filter fun i=>decide (n ∈ ak bs i)).map (fun i:Nat=>(i:Int))
def tR (bs:List DBlock) (n:Int):List Int:=nQ bs n bs.length
theorem tf (bs:List DBlock) (n:Int) (k:Nat):nQ bs n (k + 1)=nQ bs n k ++ (if n ∈ ak bs k then [(k:Int)] else []):=by
 unfold nQ
 rw [List.range_succ,List.filter_append,List.map_append]
 by_cases h:n ∈ ak bs k <;> simp [h]
theorem uh (bs:List DBlock) (n:Int) (k:Nat):(nQ bs n k).length<=k:=by
 unfold nQ
 rw [List.length_map]
 exact Nat.le_trans (List.length_filter_le _ _) (by simp)
theorem A4 {bs:List DBlock} {n:Int} {k:Nat} {g:Int}:g ∈ nQ bs n k ↔ ∃ i:Nat,g=(i:Int)/\i < k/\n ∈ ak bs i:=by
 unfold nQ
 simp only [List.mem_map,List.mem_filter,List.mem_range,decide_eq_true_eq]
 constructor
 ·rintro ⟨i,⟨h1,h2⟩,rfl⟩; exact ⟨i,rfl,h1,h2⟩
 ·rintro ⟨i,rfl,h1,h2⟩; exact ⟨i,⟨h1,h2⟩,rfl⟩
end Go.Ab
namespace Go.Ab.Q12
open Go Go.Ab Go.Proofs
section
variable {q:Option Bool} {b:TV} {bs:List DBlock} (hb:RL q 14 (RBlock q) b bs)
include hb
end
theorem r73 {q:Option Bool} {x:TV} {l:List Int} (hx:RInts q x l) (n:Int):∃ k:Int,bj prog 65 [x,I n] (I k)/\(0<=k ↔ n ∈ l):=by
 have hbn:=hx.bnd
 have loop:∀ (d j:Nat),j + d=l.length->n ∉ l.take j->∃ k:Int,aa prog 65 (f65_0 x (I n) (I l.length) (I j)) (I k)/\(0<=k ↔ n ∈ l):=by
  intro d
  induction d with
  | zero =>
   intro j hj hn
   have hj:j=l.length:=by omega
   subst hj
   rw [List.take_length] at hn
   refine ⟨-1,?_,⟨fun h=>by omega,fun h=>absurd h hn⟩⟩
   unfold f65_0
   exact aa.tv rfl (aa.ite bA nofun fun _=>aa.ret)
  | succ d ih =>
   intro j hj hn
   have hjl:j < l.length:=by omega
   obtain ⟨a,haa⟩:∃ a,a=l[j]:=⟨_,rfl⟩
   have hla:l[j]? = some a:=by rw [haa]; exact E8 hjl
   obtain ⟨e,he,rfl,hea⟩:=hx.idx (k:=.i64) hla
   by_cases ha:n=a
   ·refine ⟨(j:Int),?_,⟨fun _=>by rw [ha]; exact Fg hla,fun _=>by omega⟩⟩
    unfold f65_0
    exact aa.tv rfl (aa.ite (bB hjl) (fun _=>aa.tvs he (aa.chk rfl (aa.tv rfl (aa.ite (v:=true) (by simp [asBool,ha]) (fun _=>aa.ret) nofun)))) nofun)
   ·obtain ⟨k,hk,hr⟩:=ih (j + 1) (by omega) (by rw [dY hla]; simp [hn,ha])
    refine ⟨k,?_,hr⟩
    unfold f65_0
    exact aa.tv rfl (aa.ite (bB hjl) (fun _=>aa.tvs he (aa.chk rfl (aa.tv rfl (aa.ite (v:=false) (by simp [asBool,ha]) nofun fun _=>aa.tv (inc hjl hbn) (f65_0_J hk))))) nofun)
 obtain ⟨k,hk,hr⟩:=loop l.length 0 (by omega) (by simp)
 refine ⟨k,?_,hr⟩
 refine bj.of (f65_MR _ _) ?_
 unfold f65_M
 exact aa.tv hx.len (f65_0_J hk)
theorem r74 {q:Option Bool} {x:TV} {l:List Int} (hx:RInts q x l) (n:Int):bj prog 45 [x,I n] (B (decide (n ∈ l))):=by
 obtain ⟨k,hk,hr⟩:=r73 hx n
 refine bj.of (f45_MR _ _) ?_
 unfold f45_M
 refine aa.call hk (aa.chk rfl (aa.tv rfl (gC.2 ?_)))
 simp [<- hr]
theorem r75 {q:Option Bool} {x:TV} {l:List Int} (hx:RInts q x l) (n:Int):bj prog 26 [x,I n] (B (decide (n ∈ l))):=by
 have hbn:=hx.bnd
 have loop:∀ (d j:Nat),j + d=l.length->n ∉ l.take j->aa prog 26 (f26_0 x (I n) (I j)) (B (decide (n ∈ l))):=by
  intro d
  induction d with
  | zero =>
   intro j hj hn
   have hj:j=l.length:=by omega
   subst hj
   rw [List.take_length] at hn
   unfold f26_0
   exact aa.tv hx.len (aa.tv rfl (aa.ite bA nofun fun _=>gC.2 (by simp [hn])))
  | succ d ih =>
   intro j hj hn
   have hjl:j < l.length:=by omega
   obtain ⟨a,haa⟩:∃ a,a=l[j]:=⟨_,rfl⟩
   have hla:l[j]? = some a:=by rw [haa]; exact E8 hjl
   obtain ⟨e,he,rfl,hea⟩:=hx.idx (k:=.i64) hla
   unfold f26_0
   refine aa.tv hx.len (aa.tv rfl (aa.ite (bB hjl) (fun _=>aa.tvs he (aa.chk rfl (aa.tv rfl (aa.ite rfl (fun h=>?_) fun h=>?_)))) nofun))
   ·have ha:a=n:=by simpa using h
    have:n ∈ l:=by rw [<- ha]; exact Fg hla
    exact gC.2 (by simp [this])
   ·have ha:¬ a=n:=by simpa using h
    exact aa.tv (inc hjl hbn) (f26_0_J (ih (j + 1) (by omega) (by rw [dY hla]; simp [hn]; exact fun h=>ha h.symm)))
 refine bj.of (f26_MR _ _) ?_
 unfold f26_M
 exact f26_0_J (loop l.length 0 (by omega) (by simp))
theorem r76 {q:Option Bool} {e:List TV} {f:DFunc} (he:RFunc q e f) (hs:f.blocks.length<=1000) (n:Int):∃ y,bj prog 19 [.agg e,I n] y/\RInts (some true) y (tR f.blocks n):=by
 have he0:=he
 obtain ⟨b,rfl,hb,_⟩:=he
 have loop:∀ (d k:Nat) (w:TV),k + d=f.blocks.length->RInts (some true) w (nQ f.blocks n k)->∃ y,aa prog 19 (f19_0 (I n) (I f.blocks.length) (I k) (I f.params) (I f.regs) b w) y/\RInts (some true) y (tR f.blocks n):=by
  intro d
  induction d with
  | zero =>
   intro k w hk hw
   have hk:k=f.blocks.length:=by omega
   subst hk
   refine ⟨w,?_,hw⟩
   unfold f19_0
   exact aa.tv rfl (aa.ite bA nofun fun _=>aa.chk (hw.own fun _ _ h=>h.own) aa.ret)
  | succ d ih =>
   intro k w hk hw
   have hkl:k < f.blocks.length:=by omega
   obtain ⟨v,hv,hvr⟩:=r71 he0 (k:Int)
   have hc:=r74 (hvr.frz fun _ _ h=>h.frz) n
   rw [iE] at hc
   have hlen:=uh f.blocks n k
   by_cases hm:n ∈ ak f.blocks k
   ·obtain ⟨w',h1,h2⟩:=hw.app (e:=[I k]) (a:=(k:Int)) ⟨rfl,by constructor <;> omega⟩ (by omega)
    obtain ⟨y,hy,hr⟩:=ih (k + 1) w' (by omega) (by rw [tf,if_pos hm]; exact h2)
    refine ⟨y,?_,hr⟩
    unfold f19_0
    exact aa.tv rfl (aa.ite (bB hkl) (fun _=>aa.call hv (aa.chk (aJ hvr.isSl) (aa.call hc (aa.chk rfl (aa.ite (v:=true) (by simp [asBool,hm]) (fun _=>aa.chk rfl (aa.rws rfl (aa.tv h1 (aa.tv (inc hkl (by omega)) (f19_0_J hy))))) nofun))))) nofun)
   ·obtain ⟨y,hy,hr⟩:=ih (k + 1) w (by omega) (by rw [tf,if_neg hm,List.append_nil]; exact hw)
    refine ⟨y,?_,hr⟩
    unfold f19_0
    exact aa.tv rfl (aa.ite (bB hkl) (fun _=>aa.call hv (aa.chk (aJ hvr.isSl) (aa.call hc (aa.chk rfl (aa.ite (v:=false) (by simp [asBool,hm]) nofun fun _=>aa.tv (inc hkl (by omega)) (f19_0_J hy)))))) nofun)
 obtain ⟨y,hy,hr⟩:=loop f.blocks.length 0 (.lit aI) (by omega) .nil
 refine ⟨y,?_,hr⟩
 refine bj.of (f19_MR _ _) ?_
 unfold f19_M
 exact aa.chk rfl (aa.tv hb.len (aa.chk rfl (f19_0_J hy)))
end Go.Ab.Q12
end
section
set_option maxRecDepth 10000
namespace Go.Ab
inductive Dfs (bs:List DBlock):List Bool->List (Nat × List Int)->List Int->List Bool->List Int->Prop
 | done {M:List Bool} {o:List Int}:Dfs bs M [] o M o
 | leave {M M':List Bool} {n:Nat} {st:List (Nat × List Int)} {o o':List Int}:Dfs bs M st ((n:Int) :: o) M' o'->Dfs bs M ((n,[]) :: st) o M' o'
 | skip {M M':List Bool} {n:Nat} {g:Int} {l:List Int} {st:List (Nat × List Int)} {o o':List Int}:M[g.toNat]? = some true->Dfs bs M ((n,l) :: st) o M' o'->Dfs bs M ((n,g :: l) :: st) o M' o'
 | enter {M M':List Bool} {n:Nat} {g:Int} {l:List Int} {st:List (Nat × List Int)} {o o':List Int}:M[g.toNat]? = some false->Dfs bs (M.set g.toNat true) ((g.toNat,ak bs g.toNat) :: (n,l) :: st) o M' o'->Dfs bs M ((n,g :: l) :: st) o M' o'
def vZ (bs:List DBlock) (o:List Int):Prop:=(bs=[]/\o=[])\/(bs≠[]/\∃ M',Dfs bs ((List.replicate bs.length false).set 0 true) [(0,ak bs 0)] [] M' o)
def work (M:List Bool) (st:List (Nat × List Int)):Nat:=M.count false * 5 + (st.map fun p=>p.2.length + 1).sum
theorem count_set {M:List Bool} {g:Nat} (h:M[g]? = some false):(M.set g true).count false + 1=M.count false:=by
 have hlt:=(E7.1 h).1
 have hv:=(E7.1 h).2
 have hm:false ∈ M:=Fg h
 have:=List.count_pos_iff.2 hm
 rw [List.count_set hlt]
 simp [hv]
 omega
theorem eV (bs:List DBlock) (i:Nat):(ak bs i).length<=3:=by
 have:=By bs (i:Int)
 rwa [iE] at this
structure WOk (bs:List DBlock) (M:List Bool) (st:List (Nat × List Int)) (o:List Int):Prop where
 len:M.length=bs.length
 at_:∀ p ∈ st,p.1 < bs.length/\∀ g ∈ p.2,0<=g/\g.toNat < bs.length
 room:st.length + o.length<=M.count true
theorem WOk.leave {bs:List DBlock} {M:List Bool} {st:List (Nat × List Int)} {o:List Int} {n:Nat} (h:WOk bs M ((n,[]) :: st) o):WOk bs M st ((n:Int) :: o) :=
 ⟨h.len,fun p hp=>h.at_ p (Ff _ hp),by have:=h.room; simp at this ⊢; omega⟩
theorem WOk.skip {bs:List DBlock} {M:List Bool} {st:List (Nat × List Int)} {o:List Int} {n:Nat} {g:Int} {l:List Int} (h:WOk bs M ((n,g :: l) :: st) o):WOk bs M ((n,l) :: st) o :=
 ⟨h.len, fun p hp => by
  rcases List.mem_cons.1 hp with rfl | hp
  ·exact ⟨(h.at_ _ Fe).1,fun g' hg=>(h.at_ _ Fe).2 g' (Ff _ hg)⟩
  ·exact h.at_ p (Ff _ hp),h.room⟩
theorem WOk.enter {bs:List DBlock} {M:List Bool} {st:List (Nat × List Int)} {o:List Int} {n:Nat} {g:Int} {l:List Int} (h:WOk bs M ((n,g :: l) :: st) o) (hg:M[g.toNat]? = some false):WOk bs (M.set g.toNat true) ((g.toNat,ak bs g.toNat) :: (n,l) :: st) o:=by
 refine ⟨by rw [List.length_set]; exact h.len,fun p hp=>?_,?_⟩
 ·rcases List.mem_cons.1 hp with rfl | hp
  ·exact ⟨((h.at_ _ Fe).2 g Fe).2,fun g' hg=>aG hg⟩
  ·exact h.skip.at_ p hp
 ·have:=h.room
  rw [ud hg]
  simp at this ⊢
  omega
theorem WOk.cap {bs:List DBlock} {M:List Bool} {st:List (Nat × List Int)} {o:List Int} (h:WOk bs M st o):st.length + o.length<=bs.length:=by
 have:=C3 M
 have:=h.room
 rw [<- h.len]
 omega
theorem dec7 {n:Nat} (h:0 < n) (hn:n<=9223372036854775807):pbin (.int .i64) .sub (I (n:Int)) (I (1:Int))=some (I ((n - 1:Nat):Int)):=by
 have h1:IntKind.i64.wrap ((n:Int) - 1)=((n - 1:Nat):Int):=by rw [IntKind.wrap_i64]; omega
 show some (TV.lit (.int .i64 (IntKind.i64.wrap ((n:Int) - 1))))=_
 rw [h1]
theorem ph {g:Int} (h0:0<=g) (hi:inI g):ac (I g)=some g.toNat:=by
 show (if 0<=g/\g<=9223372036854775807 then some g.toNat else none)=some g.toNat
 exact if_pos ⟨h0,hi.2⟩
section
variable {s:Nat} {α:Type} {R:List TV->α->Prop} {y:TV} {l:List α} {q:Option Bool}
theorem RL.deep (hy:RL q s R y l) {i j:Nat} {e:List TV} {z:TV} (he:Go.Ab.pel y i=some e) (hj:e[j]? = some z):bh [(i,j)] y=some z:=by
 rcases hy with ⟨rfl,rfl⟩ | ⟨o,xs,rfl,hq,h,hb⟩
 ·simp [Go.Ab.pel] at he
 ·have he:xs[i]? = some e:=he
  simp only [bh,he,hj]
theorem RL.winD (hy:RL q s R y l) {k:Nat} (hk:k<=l.length):∃ y',fF k (l.length - k) y=some y'/\RL q s R y' (l.drop k):=by
 rcases hy with ⟨rfl,rfl⟩ | ⟨o,xs,rfl,hq,h,hb⟩
 ·have:k=0:=by simpa using hk
  subst this
  exact ⟨.lit aI,rfl,by simpa using RL.nil⟩
 ·have hxl:=h.length
  refine ⟨.sl o s ((xs.drop k).take (l.length - k)),?_,.sl hq ?_ (by simp; omega)⟩
  ·simp only [fF]
   rw [if_pos (by omega)]
  ·have:=(h.drop k).take (l.length - k)
   rwa [List.take_of_length_le (l:=l.drop k) (by simp)] at this
end
def RV (q:Option Bool) (e:List TV) (p:Nat × List Int):Prop:=∃ v,e=[I p.1,v]/\RInts q v p.2
theorem RV.weak {q:Option Bool} {e:List TV} {p:Nat × List Int} (h:RV q e p):RV none e p:=by
 obtain ⟨v,rfl,h⟩:=h
 exact ⟨v,rfl,h.weak fun _ _ h=>h⟩
theorem RL.toN {y:TV} {l:List (Nat × List Int)} {q:Option Bool} (h:RL (some true) 2 (RV q) y l):RL (some true) 2 (RV none) y l:=by
 rcases h with ⟨rfl,rfl⟩ | ⟨o,xs,rfl,hq,h,hb⟩
 ·exact .nil
 ·exact .sl hq (h.mono fun _ _ h=>h.weak) hb
theorem RL.cooled {y:TV} {l:List (Nat × List Int)} {q:Option Bool} (h:RL (some true) 2 (RV q) y l):RL (some true) 2 (RV (some false)) (dK y) l:=by
 rcases h with ⟨rfl,rfl⟩ | ⟨o,xs,rfl,hq,h,hb⟩
 ·exact .nil
 ·refine .sl hq ?_ (by rw [jB,List.length_map]; exact hb)
  rw [jB]
  exact h.mapL fun e p hp=>by
   obtain ⟨v,rfl,hv⟩:=hp
   exact ⟨Ab.frz v,rfl,hv.frz fun _ _ h=>h.frz⟩
end Go.Ab
namespace Go.Ab.Q12
open Go Go.Ab Go.Proofs
theorem D4 {L:List Int}:∀ (d i:Nat) (j:Int) (w:TV) (cur:List Int),(i:Int) + j=(L.length:Int) - 1->j - (i:Int)<=(d:Int)->i<=L.length->RInts (some true) w cur->cur.length=L.length ->
  (∀ k:Nat,k < L.length->cur[k]? = if k < i\/j < (k:Int) then L[L.length - 1 - k]? else L[k]?)->∃ y,aa prog 24 (f24_3 (I i) (I j) w) y/\RInts (some true) y L.reverse:=by
 have fin:∀ (i:Nat) (j:Int) (w:TV) (cur:List Int),(i:Int) + j=(L.length:Int) - 1->¬ (i:Int) < j->RInts (some true) w cur->cur.length=L.length ->
  (∀ k:Nat,k < L.length->cur[k]? = if k < i\/j < (k:Int) then L[L.length - 1 - k]? else L[k]?)->∃ y,aa prog 24 (f24_3 (I i) (I j) w) y/\RInts (some true) y L.reverse:=by
  intro i j w cur hij hn hw hcl hk
  have e:cur=L.reverse:=by
   apply List.ext_getElem?
   intro k
   by_cases h:k < L.length
   ·rw [hk k h,List.getElem?_reverse h]
    split
    ·rfl
    ·have:L.length - 1 - k=k:=by omega
     rw [this]
   ·rw [Fj (by omega),Fj (by simp; omega)]
  subst e
  refine ⟨w,?_,hw⟩
  unfold f24_3
  exact aa.tv rfl (aa.ite (v:=false) (by simp [asBool]; omega) nofun fun _=>aa.chk (hw.own fun _ _ h=>h.own) aa.ret)
 intro d
 induction d with
 | zero =>
  intro i j w cur hij hd hi hw hcl hk
  exact fin i j w cur hij (by omega) hw hcl hk
 | succ d ih =>
  intro i j w cur hij hd hi hw hcl hk
  by_cases hlt:(i:Int) < j
  ·have hbn:=hw.bnd
   obtain ⟨m,rfl⟩:∃ m:Nat,j=(m:Int):=⟨j.toNat,by omega⟩
   have hmc:m < cur.length:=by omega
   have hic:i < cur.length:=by omega
   obtain ⟨a,haa⟩:∃ a,a=cur[i]:=⟨_,rfl⟩
   obtain ⟨b,hbb⟩:∃ b,b=cur[m]:=⟨_,rfl⟩
   have ha:cur[i]? = some a:=by rw [haa]; exact E8 hic
   have hb:cur[m]? = some b:=by rw [hbb]; exact E8 hmc
   obtain ⟨e1,he1,rfl,hea⟩:=hw.pel ha
   obtain ⟨e2,he2,rfl,heb⟩:=hw.pel hb
   obtain ⟨w1,hw1,hr1⟩:=hw.i6 he1 (d:=0) (ys:=[I b]) (a:=b) ⟨rfl,heb⟩
   have hb1:(cur.set i b)[m]? = some b:=by rw [List.getElem?_set_ne (by omega)]; exact hb
   obtain ⟨e3,he3,rfl,_⟩:=hr1.pel hb1
   obtain ⟨w2,hw2,hr2⟩:=hr1.i6 he3 (d:=0) (ys:=[I a]) (a:=a) ⟨rfl,hea⟩
   obtain ⟨y,hy,hry⟩:=ih (i + 1) ((m - 1:Nat):Int) w2 _ (by omega) (by omega) (by omega) hr2 (by simpa using hcl) (fun k hkl=>by
    have hki:=hk i (by omega)
    have hkm:=hk m (by omega)
    rw [if_neg (by omega)] at hki hkm
    rw [List.getElem?_set,List.getElem?_set]
    by_cases h1:m=k
    ·subst h1
     rw [if_pos rfl,if_pos (by simpa using hmc),if_pos (by omega),<- ha,hki]
     congr 1
     omega
    ·rw [if_neg h1]
     by_cases h2:i=k
     ·subst h2
      rw [if_pos rfl,if_pos hic,if_pos (by omega),<- hb,hkm]
      congr 1
      omega
     ·rw [if_neg h2,hk k hkl]
      by_cases h3:k < i\/(m:Int) < (k:Int)
      ·rw [if_pos h3,if_pos (by omega)]
      ·rw [if_neg h3,if_neg (by omega)])
   refine ⟨y,?_,hry⟩
   have ani:ac (I i)=some i:=ah (by omega)
   have anm:ac (I m)=some m:=ah (by omega)
   have hm1:m < (cur.set i b).length:=by simpa using hmc
   unfold f24_3
   refine aa.tv rfl (aa.ite (v:=true) (by simp only [asBool]; exact congrArg some (decide_eq_true hlt)) (fun _=>?_) nofun)
   refine aa.nat hw.slLen (aa.nat anm (aa.chk (by simp [hw.slSize,hmc]) (aa.tvs he2 (aa.chk rfl ?_))))
   refine aa.nat hw.slLen (aa.nat ani (aa.chk (by simp [hw.slSize,hic]) (aa.tvs he1 (aa.chk rfl ?_))))
   refine aa.nat hw.slLen (aa.nat ani (aa.chk (by simp [hw.slSize,hic]) (aa.tvs he1 (aa.chk rfl (aa.tv hw1 ?_)))))
   refine aa.nat hr1.slLen (aa.nat anm (aa.chk (by simp only [hr1.slSize]; simpa using hmc) (aa.tvs he3 (aa.chk rfl (aa.tv hw2 ?_)))))
   exact aa.tv (inc hic hbn) (aa.tv (dec7 (by omega) (by omega)) (f24_3_J hy))
  ·exact fin i j w cur hij hlt hw hcl hk
end Go.Ab.Q12
end
section
set_option maxRecDepth 10000
namespace Go.Ab
theorem Cz {α:Type} {l:List α} {a:α}:(l.reverse ++ [a])[l.length]? = some a:=by
 rw [Fi (by simp)]; simp
end Go.Ab
namespace Go.Ab.Q12
open Go Go.Ab Go.Proofs
theorem Ax {q:Option Bool} {b:TV} {f:DFunc} (hf:RFunc q [I f.params,I f.regs,b] f) (g:Int):∃ y,bj prog 48 [I g,.agg [I f.params,I f.regs,b]] y/\RInts (some true) y (j3 f.blocks g):=by
 obtain ⟨v,h1,h2⟩:=r71 hf g
 refine ⟨v,?_,h2⟩
 refine bj.of (f48_MR _ _ _ _) ?_
 unfold f48_M
 exact aa.call h1 (aa.chk (aJ h2.isSl) (aa.chk (h2.own fun _ _ h=>h.own) aa.ret))
section
variable {q:Option Bool} {b:TV} {f:DFunc} (hf:RFunc q [I f.params,I f.regs,b] f) (hs:f.blocks.length<=1000) {w2:TV} (h2:RInts (some true) w2 [0])
include hf hs h2
theorem AP:∀ (d:Nat) (M:List Bool) (st:List (Nat × List Int)) (o:List Int) (w3 w4 w5:TV),work M st < d->WOk f.blocks M st o->RBools (some true) w3 M->RL (some true) 2 (RV (some false)) w4 st.reverse->RInts (some true) w5 o.reverse ->
  ∃ y M' o',aa prog 24 (f24_2 (I ((1:Nat):Int)) (I ((0:Nat):Int)) w2 (I f.params) (I f.regs) b w3 w4 w5) y/\RInts (some true) y o'/\Dfs f.blocks M st o M' o':=by
 intro d
 induction d with
 | zero=>intro M st o w3 w4 w5 hd; omega
 | succ d ih =>
  intro M st o w3 w4 w5 hd hw h3 h4 h5
  have hcap:=hw.cap
  match st,hd,hw,h4,hcap with
  | [],hd,hw,h4,hcap =>
   have hol:o.length<=1000:=by simp at hcap; omega
   obtain ⟨y,hy,hr⟩:=D4 (L:=o.reverse) o.reverse.length 0 ((o.reverse.length:Int) - 1) w5 o.reverse (by simp) (by simp; omega) (by simp) h5 rfl (fun k hk=>by rw [if_neg (by omega)])
   refine ⟨y,M,o,?_,by simpa using hr,.done⟩
   unfold f24_2
   refine aa.tv h4.len (aa.tv rfl (aa.ite (v:=false) (by simp [asBool]) nofun fun _=>aa.tv (inc (k:=0) (n:=1) (by omega) (by omega)) (f24_1_J ?_)))
   unfold f24_1
   exact aa.tv rfl (aa.ite bA nofun fun _=>aa.tv h5.len (aa.tv (psub (by simp only [List.length_reverse]; constructor <;> omega)) (f24_3_J hy)))
  | (n, l) :: st', hd, hw, h4, hcap =>
   have hol:st'.length + o.length < 1000:=by simp at hcap; omega
   have hlen:((n,l) :: st').reverse.length=st'.length + 1:=by simp
   have hlast:((n,l) :: st').reverse[st'.length]? = some (n,l):=by rw [List.reverse_cons]; exact Cz
   have h4b:=h4.bnd
   obtain ⟨e,he,v,rfl,hv⟩:=h4.pel hlast
   have hgp:=h4.deep he (j:=1) (z:=v) rfl
   have hnat:ac (I (st'.length:Nat))=some st'.length:=ah (by omega)
   have hsub:pbin (.int .i64) .sub (I (((n,l) :: st').reverse.length:Nat)) (I 1)=some (I (st'.length:Nat)):=by
    have:=dec7 (n:=((n,l) :: st').reverse.length) (by omega) (by omega)
    rw [this,hlen]; rfl
   have hchk:(Bool.and (slSize w4 2) (Nat.blt st'.length ((n,l) :: st').reverse.length))=true:=by rw [h4.slSize,hlen]; simp
   have hfit1:ab zSl [I (n:Int),v] 1=true:=by
    show (v.isSl && true)=true
    rw [hv.isSl]; rfl
   have hfit2:eM zSl [I (n:Int),v] 1=true:=by
    show ((v.isSl || v.DD) && true)=true
    rw [hv.isSl]; rfl
   have hgtr:asBool (.lit (.bool (decide (((((n,l) :: st').reverse.length:Nat):Int) > 0))))=some true:=by rw [hlen]; simp [asBool]
   match l,hd,hw,h4,hlast,hv,hsub,hchk,hlen,hgtr with
   | [], hd, hw, h4, hlast, hv, hsub, hchk, hlen, hgtr =>
    obtain ⟨w5',k1,k2⟩:=h5.app (e:=[I (n:Int)]) (a:=(n:Int)) ⟨rfl,by constructor <;> (have:=(hw.at_ _ Fe).1; simp at this; omega)⟩ (by simp; omega)
    obtain ⟨w4',k3,k4⟩:=h4.win (k:=st'.length) (by omega)
    have e4:((n,([]:List Int)) :: st').reverse.take st'.length=st'.reverse:=by
     rw [List.reverse_cons,List.take_append_of_le_length (by simp),List.take_of_length_le (by simp)]
    rw [e4] at k4
    obtain ⟨y,M',o',hy,hr,hD⟩:=ih M st' ((n:Int) :: o) w3 (dK w4') w5' (by simp [work] at hd ⊢; omega) hw.leave h3 k4.cooled (by rw [List.reverse_cons]; exact k2)
    refine ⟨y,M',o',?_,hr,.leave hD⟩
    unfold f24_2
    refine aa.tv h4.len (aa.tv rfl (aa.ite (v:=true) hgtr (fun _=>?_) nofun))
    refine aa.tv h4.len (aa.tv hsub (aa.nat h4.slLen (aa.nat hnat (aa.chk hchk (aa.tvs he (aa.chk hfit1 (aa.tv hgp (aa.tv hv.len (aa.tv rfl (aa.ite (v:=true) rfl (fun _=>?_) nofun)))))))))) 
    refine aa.tv h4.len (aa.tv hsub (aa.nat h4.slLen (aa.nat hnat (aa.chk hchk (aa.tvs he (aa.chk rfl (aa.rws rfl (aa.tv k1 (aa.nat h4.slLen (aa.nat hnat (aa.chk ?_ (aa.tv k3 (f24_2_J hy)))))))))))))
    rw [h4.slSize,hlen]; simp
   | g :: l, hd, hw, h4, hlast, hv, hsub, hchk, hlen, hgtr =>
    have hg:=(hw.at_ _ Fe).2 g Fe
    obtain ⟨eg,heg,rfl,hgi⟩:=hv.pel (i:=0) (a:=g) rfl
    obtain ⟨v',c1,c2⟩:=hv.winD (k:=1) (by simp)
    have e1:(g :: l).drop 1=l:=rfl
    rw [e1] at c2
    obtain ⟨w4',k1,k2⟩:=h4.i6 he (d:=1) (ys:=[v']) (a:=(n,l)) ⟨v',rfl,c2⟩
    have e4:((n,g :: l) :: st').reverse.set st'.length (n,l)=((n,l) :: st').reverse:=by
     rw [List.reverse_cons,List.reverse_cons,List.set_append_right _ _ (by simp)]
     simp
    rw [e4] at k2
    have hMl:g.toNat < M.length:=by rw [hw.len]; exact hg.2
    have hMg:M[g.toNat]? = some M[g.toNat]:=E8 hMl
    obtain ⟨em,hem,hRm⟩:=h3.pel hMg
    cases hRm
    have hgn:ac (I g)=some g.toNat:=ph hg.1 hgi
    have h3b:=h3.bnd
    have hvl:(g :: l).length=l.length + 1:=rfl
    have front:∀ {r:TV},(M[g.toNat]=false->aa prog 24 (Prg.nat (slLen w3) fun n50=>Prg.nat (ac (nth TV.hole [I g] 0)) fun n51=>Prg.chk (Bool.and (slSize w3 1) (Nat.blt n51 n50)) (Prg.tvs (pel w3 n51) fun e52=>Prg.chk (ab cN e52 0) (Prg.tv (cX [] w3 n51 0 [TV.lit (Value.bool true)]) fun v53 =>
      Prg.call 48 [uX (nth TV.hole [I g] 0),TV.agg [I f.params,I f.regs,b]] fun v54=>Prg.chk (ab zSl [v54] 0) (Prg.rws (pelems 2 (TV.sl true 2 (chunks 2 1 [nth TV.hole [I g] 0,v54]))) fun r55=>Prg.tv (papp 2 w4' r55) fun v56=>Prg.jmp [0,0,1,1,0,0,1,1,0,0,1,0,1,1,12,0,1,1] (f24_2_S (I ((1:Nat):Int)) (I ((0:Nat):Int)) w2 (I f.params) (I f.regs) b v53 (dK v56) w5))))) r) ->
      (M[g.toNat]=true->aa prog 24 (Prg.jmp [0,0,1,1,0,0,1,1,0,0,1,0,1,1,12,0,1,1] (f24_2_S (I ((1:Nat):Int)) (I ((0:Nat):Int)) w2 (I f.params) (I f.regs) b w3 (dK w4') w5)) r)->aa prog 24 (f24_2 (I ((1:Nat):Int)) (I ((0:Nat):Int)) w2 (I f.params) (I f.regs) b w3 w4 w5) r:=fun {r} k0 k9=>by
     unfold f24_2
     refine aa.tv h4.len (aa.tv rfl (aa.ite (v:=true) hgtr (fun _=>?_) nofun))
     refine aa.tv h4.len (aa.tv hsub (aa.nat h4.slLen (aa.nat hnat (aa.chk hchk (aa.tvs he (aa.chk hfit1 (aa.tv hgp (aa.tv hv.len (aa.tv rfl (aa.ite (v:=false) (by simp [asBool]; omega) nofun fun _=>?_))))))))))
     refine aa.tvs he (aa.chk hfit1 (aa.tv hgp (aa.nat hv.slLen (aa.nat (v:=0) rfl (aa.chk ?_ (aa.tv hgp (aa.tvs heg (aa.chk rfl ?_))))))))
     ·rw [hv.slSize]; simp
     refine aa.tvs he (aa.chk hfit1 (aa.tv hgp (aa.nat hv.slLen (aa.nat (v:=1) rfl (aa.chk ?_ (aa.tv hgp (aa.tv c1 (aa.chk c2.ig ?_))))))))
     ·rw [hv.slSize]; simp
     refine aa.tvs he (aa.chk ?_ (aa.tv k1 (aa.nat h3.slLen (aa.nat hgn (aa.chk ?_ (aa.tvs hem (aa.chk rfl (aa.tv rfl (aa.ite rfl (fun h=>k0 ?_) fun h=>k9 ?_)))))))))
     ·rw [hfit2,aJ c2.isSl]; rfl
     ·rw [h3.slSize]; simpa using hMl
     ·simpa using h
     ·simpa using h
    cases hm:M[g.toNat] with
    | true =>
     obtain ⟨y,M',o',hy,hr,hD⟩:=ih M ((n,l) :: st') o w3 (dK w4') w5 (by simp [work] at hd ⊢; omega) hw.skip h3 k2.cooled h5
     exact ⟨y,M',o',front (fun h=>by rw [hm] at h; cases h) (fun _=>f24_2_J hy),hr,.skip (by rw [hMg,hm]) hD⟩
    | false =>
     rw [hm] at hMg
     obtain ⟨w3',c3,c4⟩:=h3.i6 hem (d:=0) (ys:=[B true]) (a:=true) rfl
     obtain ⟨vn,c5,c6⟩:=Ax hf g
     have e6:j3 f.blocks g=ak f.blocks g.toNat:=by rw [j3,if_pos hg.1]
     rw [e6] at c6
     have hgg:((g.toNat:Nat):Int)=g:=by omega
     obtain ⟨w4'',c7,c8⟩:=(RL.app (R:=RV none) (k2.toN) (e:=[I g,vn]) (a:=(g.toNat,ak f.blocks g.toNat)) ⟨vn,by rw [hgg],c6.weak fun _ _ h=>h⟩ (by simp; omega))
     obtain ⟨y,M',o',hy,hr,hD⟩:=ih (M.set g.toNat true) ((g.toNat,ak f.blocks g.toNat) :: (n,l) :: st') o w3' (dK w4'') w5 (by
      have h1:=count_set hMg
      have h2:=eV f.blocks g.toNat
      simp only [work,List.map_cons,List.sum_cons,List.length_cons] at hd ⊢
      omega) (hw.enter hMg) c4 (by rw [List.reverse_cons]; exact c8.cooled) h5
     refine ⟨y,M',o',front (fun _=>?_) (fun h=>by rw [hm] at h; cases h),hr,.enter hMg hD⟩
     refine aa.nat h3.slLen (aa.nat hgn (aa.chk ?_ (aa.tvs hem (aa.chk rfl (aa.tv c3 (aa.call c5 (aa.chk (aJ c6.isSl) (aa.rws rfl (aa.tv c7 (f24_2_J hy))))))))))
     rw [h3.slSize]; simpa using hMl
end
theorem r80 {q:Option Bool} {e:List TV} {f:DFunc} (he:RFunc q e f) (hs:f.blocks.length<=1000):∃ y o,bj prog 24 [.agg e] y/\RInts (some true) y o/\vZ f.blocks o:=by
 have he0:=he
 obtain ⟨b,rfl,hb,_⟩:=he
 by_cases h0:f.blocks=[]
 ·refine ⟨.lit aI,[],?_,.nil,.inl ⟨h0,rfl⟩⟩
  refine bj.of (f24_MR _) ?_
  unfold f24_M
  exact aa.chk rfl (aa.tv hb.len (aa.tv rfl (aa.ite (v:=true) (by simp [asBool,h0]) (fun _=>aa.chk rfl aa.ret) nofun)))
 ·have hl:0 < f.blocks.length:=List.length_pos_iff.2 h0
  have hrep:RBools (some true) (.sl true 1 (List.replicate f.blocks.length [B false])) (List.replicate f.blocks.length false):=.sl (by simp) (F2.tI (by simp) fun i e a he ha=>by
   rw [List.getElem?_replicate] at he ha
   split at he
   ·rename_i h; rw [if_pos h] at ha; cases he; cases ha; rfl
   ·cases he) (by simp; omega)
  obtain ⟨e7,he7,hR⟩:=hrep.pel (i:=0) (a:=false) (by rw [List.getElem?_replicate,if_pos hl])
  cases hR
  obtain ⟨w3,c1,c2⟩:=hrep.i6 he7 (d:=0) (ys:=[B true]) (a:=true) rfl
  obtain ⟨v,c3,c4⟩:=Ax he0 ((0:Nat):Int)
  rw [iE] at c4
  have h2:RInts (some true) (.sl true 1 [[I ((0:Nat):Int)]]) [0]:=.sl (by simp) (.cons ⟨rfl,by constructor <;> decide⟩ .nil) (by decide)
  obtain ⟨w4,c5,c6⟩:=(RL.nil:RL (some true) 2 (RV none) (.lit aI) []).app (e:=[I ((0:Nat):Int),v]) (a:=(0,ak f.blocks 0)) ⟨v,rfl,c4.weak fun _ _ h=>h⟩ (by simp)
  have hw:WOk f.blocks ((List.replicate f.blocks.length false).set 0 true) [(0,ak f.blocks 0)] []:=⟨by simp,fun p hp=>by
   rw [List.mem_singleton] at hp
   subst hp
   exact ⟨hl,fun g hg=>aG hg⟩,by rw [ud (by rw [List.getElem?_replicate,if_pos hl])]; simp⟩
  obtain ⟨y,M',o',hy,hr,hD⟩:=AP he0 hs h2 _ _ _ [] w3 (dK w4) (.lit aI) (Nat.lt_succ_self _) hw c2 c6.cooled .nil
  refine ⟨y,o',?_,hr,.inr ⟨h0,M',hD⟩⟩
  have hn:ac (I (f.blocks.length:Nat))=some f.blocks.length:=ah (by omega)
  refine bj.of (f24_MR _) ?_
  unfold f24_M
  have hk:Nat.ble f.blocks.length 4294967296=true:=by simp; omega
  refine aa.chk rfl (aa.tv hb.len (aa.tv rfl (aa.ite (v:=false) (by simp [asBool]; omega) nofun fun _=>?_)))
  refine aa.tv hb.len (aa.nat hn (aa.nat hn (aa.chk (by simp [hk]) (aa.chk rfl (aa.chk rfl (f24_0_J ?_))))))
  unfold f24_0
  refine aa.tv h2.len (f24_1_J ?_)
  unfold f24_1
  have hck:(Bool.and (slSize (.sl true 1 (List.replicate f.blocks.length [B false])) 1) (Nat.blt 0 (List.replicate f.blocks.length false).length))=true:=by rw [hrep.slSize]; simpa using hl
  refine aa.tv rfl (aa.ite (v:=true) rfl (fun _=>?_) nofun)
  refine aa.nat h2.slLen (aa.nat (v:=0) rfl (aa.chk rfl (aa.tvs (v:=[I ((0:Nat):Int)]) rfl (aa.chk rfl ?_))))
  refine aa.nat hrep.slLen (aa.nat (v:=0) rfl (aa.chk hck (aa.tvs he7 (aa.chk rfl (aa.tv rfl (aa.ite (v:=true) rfl (fun _=>?_) nofun))))))
  refine aa.nat hrep.slLen (aa.nat (v:=0) rfl (aa.chk hck (aa.tvs he7 (aa.chk rfl (aa.tv c1 ?_)))))
  exact aa.call c3 (aa.chk (aJ c4.isSl) (aa.rws rfl (aa.tv c5 (f24_2_J hy))))
end Go.Ab.Q12
end
section
set_option maxRecDepth 10000
namespace Go.Ab
inductive Rc (bs:List DBlock) (no:Int):Nat->Prop
 | start (h:no≠0) (h0:0 < bs.length):Rc bs no 0
 | next {i:Nat} {g:Int} (hi:Rc bs no i) (hg:g ∈ ak bs i) (hn:g≠no):Rc bs no g.toNat
def zL (bs:List DBlock) (no:Int) (M:List Bool):Prop:=M.length=bs.length/\∀ i:Nat,M[i]? = some true ↔ Rc bs no i
theorem Rc.lt {bs:List DBlock} {no:Int} {i:Nat} (h:Rc bs no i):i < bs.length:=by
 cases h with
 | start _ h0=>exact h0
 | next _ hg _=>exact (aG hg).2
def Ckd (bs:List DBlock) (no:Int) (M:List Bool) (k:Nat):Prop:=∀ i:Nat,i < k->M[i]? = some true->∀ g ∈ ak bs i,g≠no->M[g.toNat]? = some true
def SndR (bs:List DBlock) (no:Int) (M:List Bool):Prop:=∀ i:Nat,M[i]? = some true->Rc bs no i
theorem Dd {bs:List DBlock} {no:Int} {M:List Bool} (hl:M.length=bs.length) (h1:SndR bs no M) (h2:no≠0->0 < bs.length->M[0]? = some true) (h3:Ckd bs no M bs.length):zL bs no M:=by
 refine ⟨hl,fun i=>⟨h1 i,fun h=>?_⟩⟩
 induction h with
 | start h h0=>exact h2 h h0
 | next hi hg hn ih=>exact h3 _ hi.lt ih _ hg hn
theorem tz {M:List Bool} {g i:Nat} (h:M[i]? = some true):(M.set g true)[i]? = some true:=by
 rw [List.getElem?_set]
 split
 ·rename_i e
  subst e
  have:=(E7.1 h).1
  simp [this]
 ·exact h
theorem po {n:Nat} (h:n<=9223372036854775807):RBools (some true) (.sl true 1 (List.replicate n [B false])) (List.replicate n false):=.sl (by simp) (F2.tI (by simp) fun i e a he ha=>by
 rw [List.getElem?_replicate] at he ha
 split at he
 ·rename_i h; rw [if_pos h] at ha; cases he; cases ha; rfl
 ·cases he) (by simpa using h)
end Go.Ab
namespace Go.Ab.Q12
open Go Go.Ab Go.Proofs
section
variable {q:Option Bool} {b:TV} {f:DFunc} (hf:RFunc q [I f.params,I f.regs,b] f) (hs:f.blocks.length<=1000) {no:Int}
include hs
include hf
end
end Go.Ab.Q12
end
section
set_option maxRecDepth 10000
namespace Go.Ab
def LedO (bs:List DBlock) (S:Nat->Prop) (o:List Int):Prop:=∀ (A:List Int) (x:Int) (B:List Int),o=A ++ x :: B->x=0\/∃ p:Nat,x ∈ ak bs p/\((p:Int) ∈ A\/S p)
def Chain (bs:List DBlock):List (Nat × List Int)->Prop
 | []=>True
 | [p]=>p.1=0
 | p :: r :: l=>(p.1:Int) ∈ ak bs r.1/\Chain bs (r :: l)
structure DI (bs:List DBlock) (M:List Bool) (st:List (Nat × List Int)) (o:List Int):Prop where
 len:M.length=bs.length
 at_:∀ p ∈ st,p.1 < bs.length/\∀ g ∈ p.2,g ∈ ak bs p.1
 mem:∀ i:Nat,M[i]? = some true ↔ (∃ p ∈ st,p.1=i)\/(i:Int) ∈ o
 nod:(o ++ st.map fun p=>(p.1:Int)).Nodup
 out:∀ x ∈ o,0<=x/\∀ g ∈ ak bs x.toNat,M[g.toNat]? = some true
 todo:∀ p ∈ st,∀ g ∈ ak bs p.1,g ∈ p.2\/M[g.toNat]? = some true
 snd:SndR bs (-1) M
 led:LedO bs (fun p=>∃ r ∈ st,r.1=p) o
 chain:Chain bs st
 last:st=[]->o.head? = some 0
theorem nu {g:Int} (h:0<=g):((g.toNat:Nat):Int)=g:=by omega
theorem DI.leave {bs:List DBlock} {M:List Bool} {n:Nat} {st:List (Nat × List Int)} {o:List Int} (h:DI bs M ((n,[]) :: st) o):DI bs M st ((n:Int) :: o):=by
 refine ⟨h.len,fun p hp=>h.at_ p (Ff _ hp),fun i=>?_,?_,fun x hx=>?_,fun p hp=>h.todo p (Ff _ hp),h.snd,?_,?_,fun hst=>?_⟩
 ·rw [h.mem i]
  constructor
  ·rintro (⟨p,hp,rfl⟩ | hi)
   ·rcases List.mem_cons.1 hp with rfl | hp
    ·exact .inr Fe
    ·exact .inl ⟨p,hp,rfl⟩
   ·exact .inr (Ff _ hi)
  ·rintro (⟨p,hp,rfl⟩ | hi)
   ·exact .inl ⟨p,Ff _ hp,rfl⟩
   ·rcases List.mem_cons.1 hi with hi | hi
    ·exact .inl ⟨(n,[]),Fe,by omega⟩
    ·exact .inr hi
 ·have:=h.nod
  rw [List.map_cons] at this
  exact List.perm_middle.nodup_iff.1 this
 ·rcases List.mem_cons.1 hx with rfl | hx
  ·refine ⟨by omega,fun g hg=>?_⟩
   rcases h.todo (n,[]) Fe g hg with h1 | h1
   ·cases h1
   ·exact h1
  ·exact h.out x hx
 ·intro A x B e
  cases A with
  | nil =>
   simp only [List.nil_append,List.cons.injEq] at e
   obtain ⟨rfl,_⟩:=e
   cases st with
   | nil=>left; have:=h.chain; simp only [Chain] at this; omega
   | cons r l=>right; exact ⟨r.1,h.chain.1,.inr ⟨r,Fe,rfl⟩⟩
  | cons a A =>
   simp only [List.cons_append,List.cons.injEq] at e
   obtain ⟨rfl,e⟩:=e
   rcases h.led A x B e with h1 | ⟨p,h1,h2⟩
   ·exact .inl h1
   ·refine .inr ⟨p,h1,?_⟩
    rcases h2 with h2 | ⟨r,hr,rfl⟩
    ·exact .inl (Ff _ h2)
    ·rcases List.mem_cons.1 hr with rfl | hr
     ·exact .inl Fe
     ·exact .inr ⟨r,hr,rfl⟩
 ·have:=h.chain
  cases st with
  | nil=>trivial
  | cons r l=>exact this.2
 ·subst hst
  have:=h.chain
  simp only [Chain] at this
  subst this
  rfl
theorem DI.skip {bs:List DBlock} {M:List Bool} {n:Nat} {g:Int} {l:List Int} {st:List (Nat × List Int)} {o:List Int} (h:DI bs M ((n,g :: l) :: st) o) (hg:M[g.toNat]? = some true):DI bs M ((n,l) :: st) o:=by
 refine ⟨h.len,fun p hp=>?_,fun i=>?_,h.nod,h.out,fun p hp g' hg'=>?_,h.snd,fun A x B e=>?_,?_,fun hst=>(by cases hst)⟩
 ·rcases List.mem_cons.1 hp with rfl | hp
  ·exact ⟨(h.at_ _ Fe).1,fun g' hg'=>(h.at_ (n,g :: l) Fe).2 g' (Ff _ hg')⟩
  ·exact h.at_ p (Ff _ hp)
 ·rw [h.mem i]
  simp
 ·rcases List.mem_cons.1 hp with rfl | hp
  ·rcases h.todo (n,g :: l) Fe g' hg' with h1 | h1
   ·rcases List.mem_cons.1 h1 with rfl | h1
    ·exact .inr hg
    ·exact .inl h1
   ·exact .inr h1
  ·exact h.todo p (Ff _ hp) g' hg'
 ·rcases h.led A x B e with h1 | ⟨p,h1,h2⟩
  ·exact .inl h1
  ·refine .inr ⟨p,h1,h2.imp id ?_⟩
   rintro ⟨r,hr,rfl⟩
   rcases List.mem_cons.1 hr with rfl | hr
   ·exact ⟨(n,l),Fe,rfl⟩
   ·exact ⟨r,Ff _ hr,rfl⟩
 ·have:=h.chain
  cases st with
  | nil=>exact this
  | cons r l=>exact this
theorem DI.enter {bs:List DBlock} {M:List Bool} {n:Nat} {g:Int} {l:List Int} {st:List (Nat × List Int)} {o:List Int} (h:DI bs M ((n,g :: l) :: st) o) (hg:M[g.toNat]? = some false):DI bs (M.set g.toNat true) ((g.toNat,ak bs g.toNat) :: (n,l) :: st) o:=by
 have hgm:=(h.at_ (n,g :: l) Fe).2 g Fe
 have hgt:=aG hgm
 have hlt:=(E7.1 hg).1
 have hgc:=nu hgt.1
 have hnM:∀ i:Nat,M[i]? = some true->i≠g.toNat:=fun i hi e=>by rw [e,hg] at hi; cases hi
 refine ⟨by rw [List.length_set]; exact h.len,fun p hp=>?_,fun i=>?_,?_,fun x hx=>⟨(h.out x hx).1,fun g' hg'=>tz ((h.out x hx).2 g' hg')⟩,fun p hp g' hg'=>?_,fun i hi=>?_,fun A x B e=>?_,?_,fun hst=>(by cases hst)⟩
 ·rcases List.mem_cons.1 hp with rfl | hp
  ·exact ⟨hgt.2,fun g' hg'=>hg'⟩
  ·rcases List.mem_cons.1 hp with rfl | hp
   ·exact ⟨(h.at_ _ Fe).1,fun g' hg'=>(h.at_ (n,g :: l) Fe).2 g' (Ff _ hg')⟩
   ·exact h.at_ p (Ff _ hp)
 ·rw [mE hlt,h.mem i]
  simp only [List.mem_cons,exists_eq_or_imp]
  constructor
  ·rintro (rfl | h1)
   ·exact .inl (.inl rfl)
   ·rcases h1 with h1 | h1
    ·exact .inl (.inr h1)
    ·exact .inr h1
  ·rintro ((h1 | h1) | h1)
   ·exact .inl h1.symm
   ·exact .inr (.inl h1)
   ·exact .inr (.inr h1)
 ·have h1:=h.nod
  rw [List.map_cons] at h1 ⊢
  rw [List.perm_middle.nodup_iff,List.nodup_cons]
  refine ⟨fun hin=>?_,by rw [List.map_cons]; exact h1⟩
  have:M[g.toNat]? = some true:=by
   rw [h.mem]
   rcases List.mem_append.1 hin with hin | hin
   ·exact .inr hin
   ·obtain ⟨p,hp,he⟩:=List.mem_map.1 hin
    have he:p.1=g.toNat:=by omega
    rcases List.mem_cons.1 hp with rfl | hp
    ·exact .inl ⟨(n,g :: l),Fe,he⟩
    ·exact .inl ⟨p,Ff _ hp,he⟩
  rw [hg] at this
  cases this
 ·rcases List.mem_cons.1 hp with rfl | hp
  ·exact .inl hg'
  ·rcases List.mem_cons.1 hp with rfl | hp
   ·rcases h.todo (n,g :: l) Fe g' hg' with h1 | h1
    ·rcases List.mem_cons.1 h1 with rfl | h1
     ·exact .inr ((mE hlt).2 (.inl rfl))
     ·exact .inl h1
    ·exact .inr (tz h1)
   ·exact (h.todo p (Ff _ hp) g' hg').imp id tz
 ·rcases (mE hlt).1 hi with rfl | h1
  ·have hn:M[n]? = some true:=(h.mem n).2 (.inl ⟨(n,g :: l),Fe,rfl⟩)
   exact .next (h.snd n hn) hgm (by omega)
  ·exact h.snd i h1
 ·rcases h.led A x B e with h1 | ⟨p,h1,h2⟩
  ·exact .inl h1
  ·refine .inr ⟨p,h1,h2.imp id ?_⟩
   rintro ⟨r,hr,rfl⟩
   rcases List.mem_cons.1 hr with rfl | hr
   ·exact ⟨(n,l),Ff _ Fe,rfl⟩
   ·exact ⟨r,Ff _ (Ff _ hr),rfl⟩
 ·have:=h.chain
  refine ⟨by rw [hgc]; exact hgm,?_⟩
  cases st with
  | nil=>exact this
  | cons r l=>exact this
theorem Dfs.keeps {bs:List DBlock} {M M':List Bool} {st:List (Nat × List Int)} {o o':List Int} (h:Dfs bs M st o M' o'):DI bs M st o->DI bs M' [] o':=by
 induction h with
 | done=>exact fun h=>h
 | leave _ ih=>exact fun h=>ih h.leave
 | skip hg _ ih=>exact fun h=>ih (h.skip hg)
 | enter hg _ ih=>exact fun h=>ih (h.enter hg)
theorem DI.start {bs:List DBlock} (h:bs≠[]):DI bs ((List.replicate bs.length false).set 0 true) [(0,ak bs 0)] []:=by
 have hl:0 < bs.length:=List.length_pos_iff.2 h
 have hlr:0 < (List.replicate bs.length false).length:=by simpa using hl
 have none_:∀ i:Nat,¬ (List.replicate bs.length false)[i]? = some true:=fun i h=>by
  rw [List.getElem?_replicate] at h
  split at h <;> cases h
 refine ⟨by simp,fun p hp=>?_,fun i=>?_,by simp,fun x hx=>(by cases hx),fun p hp g hg=>?_,fun i hi=>?_,fun A x B e=>(by simp at e),rfl,fun hst=>(by cases hst)⟩
 ·rw [List.mem_singleton] at hp
  subst hp
  exact ⟨hl,fun g hg=>hg⟩
 ·rw [mE hlr]
  simp only [List.mem_singleton,exists_eq_left,List.not_mem_nil,or_false]
  constructor
  ·rintro (rfl | h)
   ·rfl
   ·exact absurd h (none_ i)
  ·rintro rfl
   exact .inl rfl
 ·rw [List.mem_singleton] at hp
  subst hp
  exact .inl hg
 ·rcases (mE hlr).1 hi with rfl | h
  ·exact .start (by omega) hl
  ·exact absurd h (none_ i)
structure OI (bs:List DBlock) (o:List Int):Prop where
 mem:∀ i:Nat,(i:Int) ∈ o ↔ Rc bs (-1) i
 pos:∀ x ∈ o,0<=x/\x < (bs.length:Int)
 nod:o.Nodup
 led:∀ (A:List Int) (x:Int) (B:List Int),o=A ++ x :: B->x=0\/∃ p:Nat,x ∈ ak bs p/\(p:Int) ∈ A
 first:bs≠[]->o.head? = some 0
theorem vZ.keeps {bs:List DBlock} {o:List Int} (h:vZ bs o):OI bs o:=by
 rcases h with ⟨rfl,rfl⟩ | ⟨h0,M',hD⟩
 ·refine ⟨fun i=>⟨fun h=>(by cases h),fun h=>absurd h.lt (by simp)⟩,fun x hx=>(by cases hx),List.nodup_nil,fun A x B e=>(by simp at e),fun h=>absurd rfl h⟩
 ·have h:=hD.keeps (DI.start h0)
  have hmem:∀ i:Nat,M'[i]? = some true ↔ (i:Int) ∈ o:=fun i=>by rw [h.mem i]; simp
  have hfull:zL bs (-1) M':=by
   have hhd:=h.last rfl
   have h0o:(0:Int) ∈ o:=by
    cases o with
    | nil=>cases hhd
    | cons a o=>simp only [List.head?_cons,E9] at hhd; subst hhd; exact Fe
   refine Dd h.len h.snd (fun _ _=>(hmem 0).2 h0o) (fun i _ hi g hg _=>?_)
   have:=(h.out i ((hmem i).1 hi)).2 g (by simpa using hg)
   exact this
  refine ⟨fun i=>by rw [<- hmem i]; exact hfull.2 i,fun x hx=>?_,by have:=h.nod; simpa using this,fun A x B e=>?_,fun _=>h.last rfl⟩
  ·have hx0:=(h.out x hx).1
   have:Rc bs (-1) x.toNat:=(hfull.2 _).1 ((hmem _).2 (by rw [nu hx0]; exact hx))
   have:=this.lt
   omega
  ·rcases h.led A x B e with h1 | ⟨p,h1,h2⟩
   ·exact .inl h1
   ·refine .inr ⟨p,h1,?_⟩
    rcases h2 with h2 | ⟨r,hr,_⟩
    ·exact h2
    ·cases hr
end Go.Ab
namespace Go.Ab.Q12
open Go Go.Ab Go.Proofs
theorem r85 {q:Option Bool} {e:List TV} {f:DFunc} (he:RFunc q e f) (hs:f.blocks.length<=1000):∃ y M,bj prog 22 [.agg e] y/\RBools (some true) y M/\zL f.blocks (-1) M:=by
 obtain ⟨v,o,hv,hvr,hO⟩:=r80 he hs
 obtain ⟨b,rfl,hb,_⟩:=he
 have hI:=hO.keeps
 have hvb:=hvr.bnd
 have loop:∀ (d k:Nat) (M:List Bool) (w:TV),k + d=o.length->RBools (some true) w M->M.length=f.blocks.length->(∀ i:Nat,M[i]? = some true ↔ (i:Int) ∈ o.take k)->∃ y M,aa prog 22 (f22_0 (I o.length) (I k) w v) y/\RBools (some true) y M/\zL f.blocks (-1) M:=by
  intro d
  induction d with
  | zero =>
   intro k M w hk hw hl hm
   have hk:k=o.length:=by omega
   subst hk
   rw [List.take_length] at hm
   refine ⟨w,M,?_,hw,hl,fun i=>by rw [hm i]; exact hI.mem i⟩
   unfold f22_0
   exact aa.tv rfl (aa.ite bA nofun fun _=>aa.ret)
  | succ d ih =>
   intro k M w hk hw hl hm
   have hkl:k < o.length:=by omega
   obtain ⟨x,hxx⟩:∃ x,x=o[k]:=⟨_,rfl⟩
   have hox:o[k]? = some x:=by rw [hxx]; exact E8 hkl
   have hxo:=hI.pos x (Fg hox)
   obtain ⟨e,he,rfl,hei⟩:=hvr.pel hox
   have hxl:x.toNat < M.length:=by omega
   obtain ⟨e2,he2,hR⟩:=hw.pel (E8 hxl)
   cases hR
   obtain ⟨w',c1,c2⟩:=hw.i6 he2 (d:=0) (ys:=[B true]) (a:=true) rfl
   obtain ⟨y,M',hy,hr,hF⟩:=ih (k + 1) (M.set x.toNat true) w' (by omega) c2 (by rw [List.length_set]; exact hl) (fun i=>by
    rw [mE hxl,hm i,dY hox,List.mem_append,List.mem_singleton]
    constructor
    ·rintro (rfl | h)
     ·exact .inr (nu hxo.1)
     ·exact .inl h
    ·rintro (h | h)
     ·exact .inr h
     ·exact .inl (by omega))
   refine ⟨y,M',?_,hr,hF⟩
   unfold f22_0
   refine aa.tv rfl (aa.ite (bB hkl) (fun _=>?_) nofun)
   refine aa.nat hvr.slLen (aa.nat (ah (by omega)) (aa.chk ?_ (aa.tvs he (aa.chk rfl (aa.nat hw.slLen (aa.nat (ph hxo.1 hei) (aa.chk ?_ (aa.tvs he2 (aa.chk rfl (aa.tv c1 (aa.tv (inc hkl hvb) (f22_0_J hy))))))))))))
   ·rw [hvr.slSize]; simpa using hkl
   ·rw [hw.slSize]; simpa using hxl
 obtain ⟨y,M,hy,hr,hF⟩:=loop o.length 0 _ _ (by omega) (po (n:=f.blocks.length) (by omega)) (by simp) (fun i=>by
  rw [List.getElem?_replicate]
  simp)
 refine ⟨y,M,?_,hr,hF⟩
 have hn:ac (I (f.blocks.length:Nat))=some f.blocks.length:=ah (by omega)
 refine bj.of (f22_MR _) ?_
 unfold f22_M
 refine aa.chk rfl (aa.tv hb.len (aa.nat hn (aa.nat hn (aa.chk ?_ (aa.call hv (aa.chk (aJ hvr.isSl) (aa.tv hvr.len (f22_0_J hy))))))))
 have:Nat.ble f.blocks.length 4294967296=true:=by simp; omega
 simp [this]
end Go.Ab.Q12
end
section
set_option maxRecDepth 10000
namespace Go.Ab
def Dm (bs:List DBlock) (a b:Nat):Prop:=Rc bs (-1) b/\(a=b\/¬ Rc bs a b)
inductive Wy (bs:List DBlock) (no:Int) (x:Nat):Nat->Prop
 | refl:Wy bs no x x
 | next {i:Nat} {g:Int} (hi:Wy bs no x i) (hg:g ∈ ak bs i) (hn:g≠no):Wy bs no x g.toNat
theorem Wy.rc {bs:List DBlock} {no:Int} {x i:Nat} (hx:Rc bs no x) (h:Wy bs no x i):Rc bs no i:=by
 induction h with
 | refl=>exact hx
 | next _ hg hn ih=>exact .next ih hg hn
theorem Rc.any {bs:List DBlock} {no:Int} {i:Nat} (h:Rc bs no i):Rc bs (-1) i:=by
 induction h with
 | start _ h0=>exact .start (by omega) h0
 | next _ hg _ ih=>exact .next ih hg (by have:=aG hg; omega)
theorem Rc.DC {bs:List DBlock} {a:Nat} (h:Rc bs a a):False:=by
 have key:∀ {i:Nat},Rc bs a i->i≠a:=by
  intro i h
  cases h with
  | start h _=>omega
  | next _ hg hn=>have:=aG hg; omega
 exact key h rfl
theorem Rc.split {bs:List DBlock} {no:Int} {c:Nat} (h:Rc bs no c) (b:Nat):Rc bs b c\/Rc bs no b:=by
 induction h with
 | start h0 hl =>
  by_cases hb:b=0
  ·subst hb; exact .inr (.start h0 hl)
  ·exact .inl (.start (by omega) hl)
 | @next i g hi hg hn ih =>
  have ht:=aG hg
  rcases ih with ih | ih
  ·by_cases hb:g=(b:Int)
   ·right
    have:=Rc.next hi hg hn
    rw [hb] at this
    simpa using this
   ·exact .inl (.next ih hg hb)
  ·exact .inr ih
theorem Dm.refl {bs:List DBlock} {b:Nat} (h:Rc bs (-1) b):Dm bs b b:=⟨h,.inl rfl⟩
theorem Dm.self {bs:List DBlock} {a b:Nat}:Dm bs a b ↔ Rc bs (-1) b/\¬ Rc bs a b:=by
 constructor
 ·rintro ⟨h,rfl | h2⟩
  ·exact ⟨h,fun h=>h.DC⟩
  ·exact ⟨h,h2⟩
 ·exact fun ⟨h1,h2⟩=>⟨h1,.inr h2⟩
theorem Dm.up {bs:List DBlock} {a b:Nat} (h:Dm bs a b):Rc bs (-1) a:=by
 rw [Dm.self] at h
 rcases h.1.split a with h1 | h1
 ·exact absurd h1 h.2
 ·exact h1
theorem Dm.trans {bs:List DBlock} {a b c:Nat} (h:Dm bs a b) (h':Dm bs b c):Dm bs a c:=by
 rw [Dm.self] at *
 refine ⟨h'.1,fun hac=>?_⟩
 rcases hac.split b with h1 | h1
 ·exact h'.2 h1
 ·exact h.2 h1
theorem Cv {bs:List DBlock} {a b i:Nat} (hab:a≠b) (h:Rc bs (-1) i):(Rc bs a i/\Rc bs b i)\/Rc bs b a\/Rc bs a b:=by
 induction h with
 | start h0 hl =>
  by_cases ha:a=0
  ·subst ha; exact .inr (.inl (.start (by omega) hl))
  ·by_cases hb:b=0
   ·subst hb; exact .inr (.inr (.start (by omega) hl))
   ·exact .inl ⟨.start (by omega) hl,.start (by omega) hl⟩
 | @next i g hi hg hn ih =>
  have ht:=aG hg
  rcases ih with ⟨h1,h2⟩ | ih
  ·by_cases ha:g=(a:Int)
   ·right; left
    have:=Rc.next h2 hg (by omega)
    rw [ha] at this
    simpa using this
   ·by_cases hb:g=(b:Int)
    ·right; right
     have:=Rc.next h1 hg ha
     rw [hb] at this
     simpa using this
    ·exact .inl ⟨.next h1 hg ha,.next h2 hg hb⟩
  ·exact .inr ih
theorem D7 {bs:List DBlock} {a b i:Nat} (hab:a≠b) (h:Rc bs (-1) i):(Rc bs a i/\Rc bs b i)\/Wy bs b a i\/Wy bs a b i:=by
 induction h with
 | start h0 hl =>
  by_cases ha:a=0
  ·subst ha; exact .inr (.inl .refl)
  ·by_cases hb:b=0
   ·subst hb; exact .inr (.inr .refl)
   ·exact .inl ⟨.start (by omega) hl,.start (by omega) hl⟩
 | @next i g hi hg hn ih =>
  have ht:=aG hg
  by_cases ha:g=(a:Int)
  ·rw [ha,Int.toNat_natCast]; exact .inr (.inl .refl)
  ·by_cases hb:g=(b:Int)
   ·rw [hb,Int.toNat_natCast]; exact .inr (.inr .refl)
   ·rcases ih with ⟨h1,h2⟩ | h1 | h1
    ·exact .inl ⟨.next h1 hg ha,.next h2 hg hb⟩
    ·exact .inr (.inl (.next h1 hg hb))
    ·exact .inr (.inr (.next h1 hg ha))
theorem Dm.anti {bs:List DBlock} {a b:Nat} (h:Dm bs a b) (h':Dm bs b a):a=b:=by
 by_cases hab:a=b
 ·exact hab
 ·exfalso
  rw [Dm.self] at *
  rcases Cv hab h.1 with ⟨h1,_⟩ | h1 | h1
  ·exact h.2 h1
  ·exact h'.2 h1
  ·exact h.2 h1
theorem Dm.total {bs:List DBlock} {a b c:Nat} (h:Dm bs a c) (h':Dm bs b c):Dm bs a b\/Dm bs b a:=by
 by_cases hab:a=b
 ·subst hab; exact .inl (.refl h.up)
 ·have ha:=h.up
  have hb:=h'.up
  rw [Dm.self] at h h'
  rcases D7 hab h.1 with ⟨h1,_⟩ | h1 | h1
  ·exact absurd h1 h.2
  ·right
   exact Dm.self.2 ⟨ha,fun hr=>h'.2 (h1.rc hr)⟩
  ·left
   exact Dm.self.2 ⟨hb,fun hr=>h.2 (h1.rc hr)⟩
theorem Dm.zero {bs:List DBlock} {b:Nat} (h:Rc bs (-1) b):Dm bs 0 b:=by
 refine Dm.self.2 ⟨h,fun hr=>?_⟩
 have key:∀ {i:Nat},Rc bs ((0:Nat):Int) i->False:=by
  intro i h
  induction h with
  | start h _=>exact h rfl
  | next _ _ _ ih=>exact ih
 exact key hr
theorem Dm.step {bs:List DBlock} {a b:Nat} {g:Int} (h:Rc bs (-1) b) (hg:g ∈ ak bs b) (hd:Dm bs a g.toNat) (hn:g≠(a:Int)):Dm bs a b:=by
 rw [Dm.self] at *
 exact ⟨h,fun hr=>hd.2 (.next hr hg hn)⟩
def Nx (bs:List DBlock) (a b:Nat):Prop:=a≠b/\Dm bs a b/\∀ c,c≠b->Dm bs c b->Dm bs c a
theorem Nx.det {bs:List DBlock} {a a' b:Nat} (h:Nx bs a b) (h':Nx bs a' b):a=a':=(h'.2.2 a h.1 h.2.1).anti (h.2.2 a' h'.1 h'.2.1)
theorem Nx.ex {bs:List DBlock} {b:Nat} (h:Rc bs (-1) b) (hb:b≠0):∃ a,Nx bs a b:=by
 have key : ∀ k : Nat, ∃ a, a ≠ b ∧ Dm bs a b ∧ ∀ c, c < k → c ≠ b → Dm bs c b → Dm bs c a := by
  intro k
  induction k with
  | zero=>exact ⟨0,Ne.symm hb,.zero h,fun c hc=>absurd hc (Nat.not_lt_zero _)⟩
  | succ k ih =>
   obtain ⟨a,h1,h2,h3⟩:=ih
   by_cases hk:k≠b/\Dm bs k b
   ·rcases h2.total hk.2 with h4 | h4
    ·refine ⟨k,hk.1,hk.2,fun c hc hcb hcd=>?_⟩
     rcases Nat.lt_or_ge c k with h5 | h5
     ·exact (h3 c h5 hcb hcd).trans h4
     ·have:c=k:=by omega
      subst this
      exact .refl hk.2.up
    ·refine ⟨a,h1,h2,fun c hc hcb hcd=>?_⟩
     rcases Nat.lt_or_ge c k with h5 | h5
     ·exact h3 c h5 hcb hcd
     ·have:c=k:=by omega
      subst this
      exact h4
   ·refine ⟨a,h1,h2,fun c hc hcb hcd=>?_⟩
    rcases Nat.lt_or_ge c k with h5 | h5
    ·exact h3 c h5 hcb hcd
    ·have:c=k:=by omega
     subst this
     exact absurd ⟨hcb,hcd⟩ hk
 obtain ⟨a,h1,h2,h3⟩:=key bs.length
 exact ⟨a,h1,h2,fun c hc hd=>h3 c hd.up.lt hc hd⟩
end Go.Ab
end
section
set_option maxRecDepth 10000
namespace Go.Ab
open Classical in
noncomputable def ovN (bs:List DBlock) (b:Nat):Int:=if h:∃ a,Nx bs a b then ((h.choose:Nat):Int) else -1
theorem zk {bs:List DBlock} {a b:Nat} (h:Nx bs a b):ovN bs b=(a:Int):=by
 have hx:∃ a,Nx bs a b:=⟨a,h⟩
 unfold ovN
 rw [dif_pos hx,(hx.choose_spec).det h]
theorem Nx.reached {bs:List DBlock} {a b:Nat} (h:Nx bs a b):Rc bs (-1) b/\b≠0:=by
 refine ⟨h.2.1.1,fun h0=>h.1 ?_⟩
 subst h0
 exact h.2.1.anti (.zero h.2.1.up)
theorem BP {bs:List DBlock} {b:Nat} (h:¬ (Rc bs (-1) b/\b≠0)):ovN bs b=-1:=by
 unfold ovN
 rw [dif_neg]
 rintro ⟨a,ha⟩
 exact h ha.reached
noncomputable def iW (bs:List DBlock):List Int:=(List.range bs.length).map (ovN bs)
theorem mA (bs:List DBlock):(iW bs).length=bs.length:=by simp [iW]
theorem mB {bs:List DBlock} {b:Nat} (h:b < bs.length):(iW bs)[b]? = some (ovN bs b):=by simp [iW,h]
end Go.Ab
end

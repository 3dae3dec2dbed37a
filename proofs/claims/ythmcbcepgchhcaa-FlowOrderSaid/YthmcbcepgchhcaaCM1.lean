import Derived.Test.YthmcbcepgchhcaaCU7F71
import Derived.Test.YthmcbcepgchhcaaCZ
import Derived.Below
import Derived.Orders
import Derived.Laws.Cells
import Derived.Laws.OwnMore
import Derived.Laws.CopyOwn
import Derived.Maps.AppendAt
import Derived.Lib.FrozenHead
section
set_option linter.unusedVariables false
set_option maxRecDepth 10000
namespace Go.Ab
inductive Dfs (bs:List DBlock):List Bool→List (Nat × List Int)→List Int→List Bool→List Int→Prop
 | done {M:List Bool} {o:List Int}:Dfs bs M [] o M o
 | leave {M M':List Bool} {n:Nat} {st:List (Nat × List Int)} {o o':List Int}:Dfs bs M st ((n:Int) :: o) M' o'→Dfs bs M ((n,[]) :: st) o M' o'
 | skip {M M':List Bool} {n:Nat} {g:Int} {l:List Int} {st:List (Nat × List Int)} {o o':List Int}:M[g.toNat]? = some true→Dfs bs M ((n,l) :: st) o M' o'→Dfs bs M ((n,g :: l) :: st) o M' o'
 | enter {M M':List Bool} {n:Nat} {g:Int} {l:List Int} {st:List (Nat × List Int)} {o o':List Int}:M[g.toNat]? = some false→Dfs bs (M.set g.toNat true) ((g.toNat,nextAt bs g.toNat) :: (n,l) :: st) o M' o'→Dfs bs M ((n,g :: l) :: st) o M' o'
def OrderP (bs:List DBlock) (o:List Int):Prop:=(bs=[]∧o=[])∨(bs≠[]∧∃ M',Dfs bs ((List.replicate bs.length false).set 0 true) [(0,nextAt bs 0)] [] M' o)
def work (M:List Bool) (st:List (Nat × List Int)):Nat:=M.count false * 5 + (st.map fun p=>p.2.length + 1).sum
theorem count_set {M:List Bool} {g:Nat} (h:M[g]? = some false):(M.set g true).count false + 1=M.count false:=by
 have hlt:=(List.getElem?_eq_some_iff.1 h).1
 have hv:=(List.getElem?_eq_some_iff.1 h).2
 have hm:false ∈ M:=List.mem_of_getElem? h
 have:=List.count_pos_iff.2 hm
 rw [List.count_set hlt]
 simp [hv]
 omega
theorem nextAt_len (bs:List DBlock) (i:Nat):(nextAt bs i).length≤3:=by
 have:=nextL_len bs (i:Int)
 rwa [nextL_nat] at this
structure WOk (bs:List DBlock) (M:List Bool) (st:List (Nat × List Int)) (o:List Int):Prop where
 len:M.length=bs.length
 at_:∀ p ∈ st,p.1 < bs.length∧∀ g ∈ p.2,0≤g∧g.toNat < bs.length
 room:st.length + o.length≤M.count true
theorem WOk.leave {bs:List DBlock} {M:List Bool} {st:List (Nat × List Int)} {o:List Int} {n:Nat} (h:WOk bs M ((n,[]) :: st) o):WOk bs M st ((n:Int) :: o) :=
 ⟨h.len,fun p hp=>h.at_ p (List.mem_cons_of_mem _ hp),by have:=h.room; simp at this ⊢; omega⟩
theorem WOk.skip {bs:List DBlock} {M:List Bool} {st:List (Nat × List Int)} {o:List Int} {n:Nat} {g:Int} {l:List Int} (h:WOk bs M ((n,g :: l) :: st) o):WOk bs M ((n,l) :: st) o :=
 ⟨h.len, fun p hp => by
  rcases List.mem_cons.1 hp with rfl | hp
  ·exact ⟨(h.at_ _ List.mem_cons_self).1,fun g' hg=>(h.at_ _ List.mem_cons_self).2 g' (List.mem_cons_of_mem _ hg)⟩
  ·exact h.at_ p (List.mem_cons_of_mem _ hp),h.room⟩
theorem WOk.enter {bs:List DBlock} {M:List Bool} {st:List (Nat × List Int)} {o:List Int} {n:Nat} {g:Int} {l:List Int} (h:WOk bs M ((n,g :: l) :: st) o) (hg:M[g.toNat]? = some false):WOk bs (M.set g.toNat true) ((g.toNat,nextAt bs g.toNat) :: (n,l) :: st) o:=by
 refine ⟨by rw [List.length_set]; exact h.len,fun p hp=>?_,?_⟩
 ·rcases List.mem_cons.1 hp with rfl | hp
  ·exact ⟨((h.at_ _ List.mem_cons_self).2 g List.mem_cons_self).2,fun g' hg=>nextAt_there hg⟩
  ·exact h.skip.at_ p hp
 ·have:=h.room
  rw [set_count hg]
  simp at this ⊢
  omega
theorem WOk.cap {bs:List DBlock} {M:List Bool} {st:List (Nat × List Int)} {o:List Int} (h:WOk bs M st o):st.length + o.length≤bs.length:=by
 have:=count_le M
 have:=h.room
 rw [← h.len]
 omega
theorem dec7 {n:Nat} (h:0 < n) (hn:n≤9223372036854775807):pbin (.int .i64) .sub (I (n:Int)) (I (1:Int))=some (I ((n - 1:Nat):Int)):=by
 have h1:IntKind.i64.wrap ((n:Int) - 1)=((n - 1:Nat):Int):=by rw [IntKind.wrap_i64]; omega
 show some (TV.lit (.int .i64 (IntKind.i64.wrap ((n:Int) - 1))))=_
 rw [h1]
theorem asNat_pos {g:Int} (h0:0≤g) (hi:inI g):asNat (I g)=some g.toNat:=by
 show (if 0≤g∧g≤9223372036854775807 then some g.toNat else none)=some g.toNat
 exact if_pos ⟨h0,hi.2⟩
section
variable {s:Nat} {α:Type} {R:List TV→α→Prop} {y:TV} {l:List α} {q:Option Bool}
theorem RL.deep (hy:RL q s R y l) {i j:Nat} {e:List TV} {z:TV} (he:Go.Ab.pel y i=some e) (hj:e[j]? = some z):getP [(i,j)] y=some z:=by
 rcases hy with ⟨rfl,rfl⟩ | ⟨o,xs,rfl,hq,h,hb⟩
 ·simp [Go.Ab.pel] at he
 ·have he:xs[i]? = some e:=he
  simp only [getP,he,hj]
theorem RL.winD (hy:RL q s R y l) {k:Nat} (hk:k≤l.length):∃ y',winP k (l.length - k) y=some y'∧RL q s R y' (l.drop k):=by
 rcases hy with ⟨rfl,rfl⟩ | ⟨o,xs,rfl,hq,h,hb⟩
 ·have:k=0:=by simpa using hk
  subst this
  exact ⟨.lit nilV,rfl,by simpa using RL.nil⟩
 ·have hxl:=h.length
  refine ⟨.sl o s ((xs.drop k).take (l.length - k)),?_,.sl hq ?_ (by simp; omega)⟩
  ·simp only [winP]
   rw [if_pos (by omega)]
  ·have:=(h.drop k).take (l.length - k)
   rwa [List.take_of_length_le (l:=l.drop k) (by simp)] at this
end
def RV (q:Option Bool) (e:List TV) (p:Nat × List Int):Prop:=∃ v,e=[I p.1,v]∧RInts q v p.2
theorem RV.weak {q:Option Bool} {e:List TV} {p:Nat × List Int} (h:RV q e p):RV none e p:=by
 obtain ⟨v,rfl,h⟩:=h
 exact ⟨v,rfl,h.weak fun _ _ h=>h⟩
theorem RL.toN {y:TV} {l:List (Nat × List Int)} {q:Option Bool} (h:RL (some true) 2 (RV q) y l):RL (some true) 2 (RV none) y l:=by
 rcases h with ⟨rfl,rfl⟩ | ⟨o,xs,rfl,hq,h,hb⟩
 ·exact .nil
 ·exact .sl hq (h.mono fun _ _ h=>h.weak) hb
theorem RL.cooled {y:TV} {l:List (Nat × List Int)} {q:Option Bool} (h:RL (some true) 2 (RV q) y l):RL (some true) 2 (RV (some false)) (coolT y) l:=by
 rcases h with ⟨rfl,rfl⟩ | ⟨o,xs,rfl,hq,h,hb⟩
 ·exact .nil
 ·refine .sl hq ?_ (by rw [frzLL_map,List.length_map]; exact hb)
  rw [frzLL_map]
  exact h.mapL fun e p hp=>by
   obtain ⟨v,rfl,hv⟩:=hp
   exact ⟨Ab.frz v,rfl,hv.frz fun _ _ h=>h.frz⟩
end Go.Ab
namespace Go.Ab.U7
open Go Go.Ab Go.Proofs
theorem revLoop {y3 y4 y5 w6 w7:TV} {L:List Int}:∀ (d i:Nat) (j:Int) (w:TV) (cur:List Int),(i:Int) + j=(L.length:Int) - 1→j - (i:Int)≤(d:Int)→i≤L.length→RInts (some true) w cur→cur.length=L.length →
  (∀ k:Nat,k < L.length→cur[k]? = if k < i∨j < (k:Int) then L[L.length - 1 - k]? else L[k]?)→∃ y,Goes prog 31 (f31_1 (I i) (I j) w y3 y4 y5 w6 w7) y∧RInts (some true) y L.reverse:=by
 have fin:∀ (i:Nat) (j:Int) (w:TV) (cur:List Int),(i:Int) + j=(L.length:Int) - 1→¬ (i:Int) < j→RInts (some true) w cur→cur.length=L.length →
  (∀ k:Nat,k < L.length→cur[k]? = if k < i∨j < (k:Int) then L[L.length - 1 - k]? else L[k]?)→∃ y,Goes prog 31 (f31_1 (I i) (I j) w y3 y4 y5 w6 w7) y∧RInts (some true) y L.reverse:=by
  intro i j w cur hij hn hw hcl hk
  have e:cur=L.reverse:=by
   apply List.ext_getElem?
   intro k
   by_cases h:k < L.length
   ·rw [hk k h,List.getElem?_reverse h]
    split
    ·rfl
    ·have:L.length - 1 - k=k:=by omega
     rw [this]
   ·rw [List.getElem?_eq_none (by omega),List.getElem?_eq_none (by simp; omega)]
  subst e
  refine ⟨w,?_,hw⟩
  unfold f31_1
  exact Goes.tv rfl (Goes.ite (v:=false) (by simp [asBool]; omega) (fun h=>nomatch h) fun _=>Goes.chk (hw.own fun _ _ h=>h.own) Goes.ret)
 intro d
 induction d with
 | zero =>
  intro i j w cur hij hd hi hw hcl hk
  exact fin i j w cur hij (by omega) hw hcl hk
 | succ d ih =>
  intro i j w cur hij hd hi hw hcl hk
  by_cases hlt:(i:Int) < j
  ·have hbn:=hw.bnd
   obtain ⟨m,rfl⟩:∃ m:Nat,j=(m:Int):=⟨j.toNat,by omega⟩
   have hmc:m < cur.length:=by omega
   have hic:i < cur.length:=by omega
   obtain ⟨a,haa⟩:∃ a,a=cur[i]:=⟨_,rfl⟩
   obtain ⟨b,hbb⟩:∃ b,b=cur[m]:=⟨_,rfl⟩
   have ha:cur[i]? = some a:=by rw [haa]; exact List.getElem?_eq_getElem hic
   have hb:cur[m]? = some b:=by rw [hbb]; exact List.getElem?_eq_getElem hmc
   obtain ⟨e1,he1,rfl,hea⟩:=hw.pel ha
   obtain ⟨e2,he2,rfl,heb⟩:=hw.pel hb
   obtain ⟨w1,hw1,hr1⟩:=hw.setAt he1 (d:=0) (ys:=[I b]) (a:=b) ⟨rfl,heb⟩
   have hb1:(cur.set i b)[m]? = some b:=by rw [List.getElem?_set_ne (by omega)]; exact hb
   obtain ⟨e3,he3,rfl,_⟩:=hr1.pel hb1
   obtain ⟨w2,hw2,hr2⟩:=hr1.setAt he3 (d:=0) (ys:=[I a]) (a:=a) ⟨rfl,hea⟩
   obtain ⟨y,hy,hry⟩:=ih (i + 1) ((m - 1:Nat):Int) w2 _ (by omega) (by omega) (by omega) hr2 (by simpa using hcl) (fun k hkl=>by
    have hki:=hk i (by omega)
    have hkm:=hk m (by omega)
    rw [if_neg (by omega)] at hki hkm
    rw [List.getElem?_set,List.getElem?_set]
    by_cases h1:m=k
    ·subst h1
     rw [if_pos rfl,if_pos (by simpa using hmc),if_pos (by omega),← ha,hki]
     congr 1
     omega
    ·rw [if_neg h1]
     by_cases h2:i=k
     ·subst h2
      rw [if_pos rfl,if_pos hic,if_pos (by omega),← hb,hkm]
      congr 1
      omega
     ·rw [if_neg h2,hk k hkl]
      by_cases h3:k < i∨(m:Int) < (k:Int)
      ·rw [if_pos h3,if_pos (by omega)]
      ·rw [if_neg h3,if_neg (by omega)])
   refine ⟨y,?_,hry⟩
   have ani:asNat (I i)=some i:=asNat_nat (by omega)
   have anm:asNat (I m)=some m:=asNat_nat (by omega)
   have hm1:m < (cur.set i b).length:=by simpa using hmc
   unfold f31_1
   refine Goes.tv rfl (Goes.ite (v:=true) (by simp only [asBool]; exact congrArg some (decide_eq_true hlt)) (fun _=>?_) fun h=>nomatch h)
   refine Goes.nat hw.slLen (Goes.nat anm (Goes.chk (by simp [hw.slSize,hmc]) (Goes.tvs he2 (Goes.chk rfl ?_))))
   refine Goes.nat hw.slLen (Goes.nat ani (Goes.chk (by simp [hw.slSize,hic]) (Goes.tvs he1 (Goes.chk rfl ?_))))
   refine Goes.nat hw.slLen (Goes.nat ani (Goes.chk (by simp [hw.slSize,hic]) (Goes.tvs he1 (Goes.chk rfl (Goes.tv hw1 ?_)))))
   refine Goes.nat hr1.slLen (Goes.nat anm (Goes.chk (by simp only [hr1.slSize]; simpa using hmc) (Goes.tvs he3 (Goes.chk rfl (Goes.tv hw2 ?_)))))
   exact Goes.tv (inc hic hbn) (Goes.tv (dec7 (by omega) (by omega)) (f31_1_J hy))
  ·exact fin i j w cur hij hlt hw hcl hk
end Go.Ab.U7
end
section
set_option linter.unusedVariables false
set_option maxRecDepth 10000
namespace Go.Ab
theorem rev_last {α:Type} {l:List α} {a:α}:(l.reverse ++ [a])[l.length]? = some a:=by
 rw [List.getElem?_append_right (by simp)]; simp
end Go.Ab
namespace Go.Ab.U7
open Go Go.Ab Go.Proofs
section
variable {q:Option Bool} {b:TV} {f:DFunc} (hf:RFunc q [I f.params,I f.regs,b] f) (hs:f.blocks.length≤1000)
include hf hs
theorem orderLoop:∀ (d:Nat) (M:List Bool) (st:List (Nat × List Int)) (o:List Int) (w3 w4 w5:TV),work M st < d→WOk f.blocks M st o→RBools (some true) w3 M→RL (some true) 2 (RV (some false)) w4 st.reverse→RInts (some true) w5 o.reverse →
  ∃ y M' o',Goes prog 31 (f31_0 (I f.params) (I f.regs) b w3 w4 w5) y∧RInts (some true) y o'∧Dfs f.blocks M st o M' o':=by
 intro d
 induction d with
 | zero=>intro M st o w3 w4 w5 hd; omega
 | succ d ih =>
  intro M st o w3 w4 w5 hd hw h3 h4 h5
  have hcap:=hw.cap
  match st,hd,hw,h4,hcap with
  | [],hd,hw,h4,hcap =>
   have hol:o.length≤1000:=by simp at hcap; omega
   obtain ⟨y,hy,hr⟩:=revLoop (y3:=I f.params) (y4:=I f.regs) (y5:=b) (w6:=w3) (w7:=w4) (L:=o.reverse) o.reverse.length 0 ((o.reverse.length:Int) - 1) w5 o.reverse (by simp) (by simp; omega) (by simp) h5 rfl (fun k hk=>by rw [if_neg (by omega)])
   refine ⟨y,M,o,?_,by simpa using hr,.done⟩
   unfold f31_0
   refine Goes.tv h4.len (Goes.tv rfl (Goes.ite (v:=false) (by simp [asBool]) (fun h=>nomatch h) fun _=>?_))
   exact Goes.tv h5.len (Goes.tv (psub (by simp only [List.length_reverse]; constructor <;> omega)) (f31_1_J hy))
  | (n, l) :: st', hd, hw, h4, hcap =>
   have hol:st'.length + o.length < 1000:=by simp at hcap; omega
   have hlen:((n,l) :: st').reverse.length=st'.length + 1:=by simp
   have hlast:((n,l) :: st').reverse[st'.length]? = some (n,l):=by rw [List.reverse_cons]; exact rev_last
   have h4b:=h4.bnd
   obtain ⟨e,he,v,rfl,hv⟩:=h4.pel hlast
   have hgp:=h4.deep he (j:=1) (z:=v) rfl
   have hnat:asNat (I (st'.length:Nat))=some st'.length:=asNat_nat (by omega)
   have hsub:pbin (.int .i64) .sub (I (((n,l) :: st').reverse.length:Nat)) (I 1)=some (I (st'.length:Nat)):=by
    have:=dec7 (n:=((n,l) :: st').reverse.length) (by omega) (by omega)
    rw [this,hlen]; rfl
   have hchk:(Bool.and (slSize w4 2) (Nat.blt st'.length ((n,l) :: st').reverse.length))=true:=by rw [h4.slSize,hlen]; simp
   have hfit1:fitsAt zSl [I (n:Int),v] 1=true:=by
    show (v.isSl && true)=true
    rw [hv.isSl]; rfl
   have hgtr:asBool (.lit (.bool (decide (((((n,l) :: st').reverse.length:Nat):Int) > 0))))=some true:=by rw [hlen]; simp [asBool]
   match l,hd,hw,h4,hlast,hv,hsub,hchk,hlen,hgtr with
   | [], hd, hw, h4, hlast, hv, hsub, hchk, hlen, hgtr =>
    obtain ⟨w5',k1,k2⟩:=h5.app (e:=[I (n:Int)]) (a:=(n:Int)) ⟨rfl,by constructor <;> (have:=(hw.at_ _ List.mem_cons_self).1; simp at this; omega)⟩ (by simp; omega)
    obtain ⟨w4',k3,k4⟩:=h4.win (k:=st'.length) (by omega)
    have e4:((n,([]:List Int)) :: st').reverse.take st'.length=st'.reverse:=by
     rw [List.reverse_cons,List.take_append_of_le_length (by simp),List.take_of_length_le (by simp)]
    rw [e4] at k4
    obtain ⟨y,M',o',hy,hr,hD⟩:=ih M st' ((n:Int) :: o) w3 (coolT w4') w5' (by simp [work] at hd ⊢; omega) hw.leave h3 k4.cooled (by rw [List.reverse_cons]; exact k2)
    refine ⟨y,M',o',?_,hr,.leave hD⟩
    unfold f31_0
    refine Goes.tv h4.len (Goes.tv rfl (Goes.ite (v:=true) hgtr (fun _=>?_) fun h=>nomatch h))
    refine Goes.tv h4.len (Goes.tv hsub (Goes.nat h4.slLen (Goes.nat hnat (Goes.chk hchk (Goes.tvs he (Goes.chk hfit1 (Goes.tv hgp (Goes.tv hv.len (Goes.tv rfl (Goes.ite (v:=true) rfl (fun _=>?_) fun h=>nomatch h)))))))))) 
    refine Goes.tv h4.len (Goes.tv hsub (Goes.nat h4.slLen (Goes.nat hnat (Goes.chk hchk (Goes.tvs he (Goes.chk rfl (Goes.rws rfl (Goes.tv k1 (Goes.nat h4.slLen (Goes.nat hnat (Goes.chk ?_ (Goes.tv k3 (f31_0_J hy)))))))))))))
    rw [h4.slSize,hlen]; simp
   | g :: l, hd, hw, h4, hlast, hv, hsub, hchk, hlen, hgtr =>
    have hg:=(hw.at_ _ List.mem_cons_self).2 g List.mem_cons_self
    obtain ⟨eg,heg,rfl,hgi⟩:=hv.pel (i:=0) (a:=g) rfl
    obtain ⟨v',c1,c2⟩:=hv.winD (k:=1) (by simp)
    have e1:(g :: l).drop 1=l:=rfl
    rw [e1] at c2
    obtain ⟨w4',k1,k2⟩:=h4.setAt he (d:=1) (ys:=[v']) (a:=(n,l)) ⟨v',rfl,c2⟩
    have e4:((n,g :: l) :: st').reverse.set st'.length (n,l)=((n,l) :: st').reverse:=by
     rw [List.reverse_cons,List.reverse_cons,List.set_append_right _ _ (by simp)]
     simp
    rw [e4] at k2
    have hMl:g.toNat < M.length:=by rw [hw.len]; exact hg.2
    have hMg:M[g.toNat]? = some M[g.toNat]:=List.getElem?_eq_getElem hMl
    obtain ⟨em,hem,hRm⟩:=h3.pel hMg
    cases hRm
    have hgn:asNat (I g)=some g.toNat:=asNat_pos hg.1 hgi
    have h3b:=h3.bnd
    have hvl:(g :: l).length=l.length + 1:=rfl
    have front:∀ {r:TV},(M[g.toNat]=false→Goes prog 31 (Prg.nat (slLen w3) fun n50=>Prg.nat (asNat (nth TV.hole [I g] 0)) fun n51=>Prg.chk (Bool.and (slSize w3 1) (Nat.blt n51 n50)) (Prg.tvs (pel w3 n51) fun e52=>Prg.chk (fitsAt zBool e52 0) (Prg.tv (setC [] w3 n51 0 [TV.lit (Value.bool true)]) fun v53 =>
      Prg.call 24 [TV.agg [I f.params,I f.regs,b],nth TV.hole [I g] 0] fun v54=>Prg.chk (fitsAt zSl [v54] 0) (Prg.rws (pelems 2 (TV.sl true 2 (chunks 2 1 [nth TV.hole [I g] 0,v54]))) fun r55=>Prg.tv (papp 2 w4' r55) fun v56=>Prg.jmp [0,0,0,1,1,1,1] (f31_0_S (I f.params) (I f.regs) b v53 (coolT v56) w5))))) r) →
      (M[g.toNat]=true→Goes prog 31 (Prg.jmp [0,0,0,1,1,1,1] (f31_0_S (I f.params) (I f.regs) b w3 (coolT w4') w5)) r)→Goes prog 31 (f31_0 (I f.params) (I f.regs) b w3 w4 w5) r:=fun {r} k0 k9=>by
     unfold f31_0
     refine Goes.tv h4.len (Goes.tv rfl (Goes.ite (v:=true) hgtr (fun _=>?_) fun h=>nomatch h))
     refine Goes.tv h4.len (Goes.tv hsub (Goes.nat h4.slLen (Goes.nat hnat (Goes.chk hchk (Goes.tvs he (Goes.chk hfit1 (Goes.tv hgp (Goes.tv hv.len (Goes.tv rfl (Goes.ite (v:=false) (by simp [asBool]; omega) (fun h=>nomatch h) fun _=>?_))))))))))
     refine Goes.tvs he (Goes.chk hfit1 (Goes.tv hgp (Goes.nat hv.slLen (Goes.nat (v:=0) rfl (Goes.chk ?_ (Goes.tv hgp (Goes.tvs heg (Goes.chk rfl ?_))))))))
     ·rw [hv.slSize]; simp
     refine Goes.tvs he (Goes.chk hfit1 (Goes.tv hgp (Goes.nat hv.slLen (Goes.nat (v:=1) rfl (Goes.chk ?_ (Goes.tv hgp (Goes.tv c1 (Goes.chk c2.isFr ?_))))))))
     ·rw [hv.slSize]; simp
     refine Goes.tvs he (Goes.chk ?_ (Goes.tv k1 (Goes.nat h3.slLen (Goes.nat hgn (Goes.chk ?_ (Goes.tvs hem (Goes.chk rfl (Goes.tv rfl (Goes.ite rfl (fun h=>k0 ?_) fun h=>k9 ?_)))))))))
     ·rw [hfit1,fit_slc c2.isSl]; rfl
     ·rw [h3.slSize]; simpa using hMl
     ·simpa using h
     ·simpa using h
    cases hm:M[g.toNat] with
    | true =>
     obtain ⟨y,M',o',hy,hr,hD⟩:=ih M ((n,l) :: st') o w3 (coolT w4') w5 (by simp [work] at hd ⊢; omega) hw.skip h3 k2.cooled h5
     exact ⟨y,M',o',front (fun h=>by rw [hm] at h; cases h) (fun _=>f31_0_J hy),hr,.skip (by rw [hMg,hm]) hD⟩
    | false =>
     rw [hm] at hMg
     obtain ⟨w3',c3,c4⟩:=h3.setAt hem (d:=0) (ys:=[B true]) (a:=true) rfl
     obtain ⟨vn,c5,c6⟩:=r71 hf g
     have e6:nextL f.blocks g=nextAt f.blocks g.toNat:=by rw [nextL,if_pos hg.1]
     rw [e6] at c6
     have hgg:((g.toNat:Nat):Int)=g:=by omega
     obtain ⟨w4'',c7,c8⟩:=(RL.app (R:=RV none) (k2.toN) (e:=[I g,vn]) (a:=(g.toNat,nextAt f.blocks g.toNat)) ⟨vn,by rw [hgg],c6.weak fun _ _ h=>h⟩ (by simp; omega))
     obtain ⟨y,M',o',hy,hr,hD⟩:=ih (M.set g.toNat true) ((g.toNat,nextAt f.blocks g.toNat) :: (n,l) :: st') o w3' (coolT w4'') w5 (by
      have h1:=count_set hMg
      have h2:=nextAt_len f.blocks g.toNat
      simp only [work,List.map_cons,List.sum_cons,List.length_cons] at hd ⊢
      omega) (hw.enter hMg) c4 (by rw [List.reverse_cons]; exact c8.cooled) h5
     refine ⟨y,M',o',front (fun _=>?_) (fun h=>by rw [hm] at h; cases h),hr,.enter hMg hD⟩
     refine Goes.nat h3.slLen (Goes.nat hgn (Goes.chk ?_ (Goes.tvs hem (Goes.chk rfl (Goes.tv c3 (Goes.call c5 (Goes.chk (fit_slc c6.isSl) (Goes.rws rfl (Goes.tv c7 (f31_0_J hy))))))))))
     rw [h3.slSize]; simpa using hMl
end
theorem r80 {q:Option Bool} {e:List TV} {f:DFunc} (he:RFunc q e f) (hs:f.blocks.length≤1000):∃ y o,Runs prog 31 [.agg e] y∧RInts (some true) y o∧OrderP f.blocks o:=by
 have he0:=he
 obtain ⟨b,rfl,hb,_⟩:=he
 by_cases h0:f.blocks=[]
 ·refine ⟨.lit nilV,[],?_,.nil,.inl ⟨h0,rfl⟩⟩
  refine Runs.of (f31_MR _) ?_
  unfold f31_M
  exact Goes.chk rfl (Goes.tv hb.len (Goes.tv rfl (Goes.ite (v:=true) (by simp [asBool,h0]) (fun _=>Goes.chk rfl Goes.ret) fun h=>nomatch h)))
 ·have hl:0 < f.blocks.length:=List.length_pos_iff.2 h0
  have hrep:RBools (some true) (.sl true 1 (List.replicate f.blocks.length [B false])) (List.replicate f.blocks.length false):=.sl (by simp) (F2.of_get (by simp) fun i e a he ha=>by
   rw [List.getElem?_replicate] at he ha
   split at he
   ·rename_i h; rw [if_pos h] at ha; cases he; cases ha; rfl
   ·cases he) (by simp; omega)
  obtain ⟨e7,he7,hR⟩:=hrep.pel (i:=0) (a:=false) (by rw [List.getElem?_replicate,if_pos hl])
  cases hR
  obtain ⟨w3,c1,c2⟩:=hrep.setAt he7 (d:=0) (ys:=[B true]) (a:=true) rfl
  obtain ⟨v,c3,c4⟩:=r71 he0 ((0:Nat):Int)
  rw [nextL_nat] at c4
  obtain ⟨w4,c5,c6⟩:=(RL.nil:RL (some true) 2 (RV none) (.lit nilV) []).app (e:=[I ((0:Nat):Int),v]) (a:=(0,nextAt f.blocks 0)) ⟨v,rfl,c4.weak fun _ _ h=>h⟩ (by simp)
  have hw:WOk f.blocks ((List.replicate f.blocks.length false).set 0 true) [(0,nextAt f.blocks 0)] []:=⟨by simp,fun p hp=>by
   rw [List.mem_singleton] at hp
   subst hp
   exact ⟨hl,fun g hg=>nextAt_there hg⟩,by rw [set_count (by rw [List.getElem?_replicate,if_pos hl])]; simp⟩
  obtain ⟨y,M',o',hy,hr,hD⟩:=orderLoop he0 hs _ _ _ [] w3 (coolT w4) (.lit nilV) (Nat.lt_succ_self _) hw c2 c6.cooled .nil
  refine ⟨y,o',?_,hr,.inr ⟨h0,M',hD⟩⟩
  have hn:asNat (I (f.blocks.length:Nat))=some f.blocks.length:=asNat_nat (by omega)
  refine Runs.of (f31_MR _) ?_
  unfold f31_M
  refine Goes.chk rfl (Goes.tv hb.len (Goes.tv rfl (Goes.ite (v:=false) (by simp [asBool]; omega) (fun h=>nomatch h) fun _=>?_)))
  refine Goes.tv hb.len (Goes.nat hn (Goes.nat hn (Goes.chk ?_ (Goes.nat hrep.slLen (Goes.nat (v:=0) rfl (Goes.chk ?_ (Goes.tvs he7 (Goes.chk rfl (Goes.tv c1 ?_)))))))))
  ·have:Nat.ble f.blocks.length 4294967296=true:=by simp; omega
   simp [this]
  ·rw [hrep.slSize]; simpa using hl
  exact Goes.call c3 (Goes.chk (fit_slc c4.isSl) (Goes.rws rfl (Goes.tv c5 (Goes.chk rfl (f31_0_J hy)))))
end Go.Ab.U7
end
section
set_option linter.unusedVariables false
set_option maxRecDepth 10000
namespace Go.Ab
inductive Rc (bs:List DBlock) (no:Int):Nat→Prop
 | start (h:no≠0) (h0:0 < bs.length):Rc bs no 0
 | next {i:Nat} {g:Int} (hi:Rc bs no i) (hg:g ∈ nextAt bs i) (hn:g≠no):Rc bs no g.toNat
def FullR (bs:List DBlock) (no:Int) (M:List Bool):Prop:=M.length=bs.length∧∀ i:Nat,M[i]? = some true ↔ Rc bs no i
theorem Rc.lt {bs:List DBlock} {no:Int} {i:Nat} (h:Rc bs no i):i < bs.length:=by
 cases h with
 | start _ h0=>exact h0
 | next _ hg _=>exact (nextAt_there hg).2
def Ckd (bs:List DBlock) (no:Int) (M:List Bool) (k:Nat):Prop:=∀ i:Nat,i < k→M[i]? = some true→∀ g ∈ nextAt bs i,g≠no→M[g.toNat]? = some true
def SndR (bs:List DBlock) (no:Int) (M:List Bool):Prop:=∀ i:Nat,M[i]? = some true→Rc bs no i
theorem fullR_of {bs:List DBlock} {no:Int} {M:List Bool} (hl:M.length=bs.length) (h1:SndR bs no M) (h2:no≠0→0 < bs.length→M[0]? = some true) (h3:Ckd bs no M bs.length):FullR bs no M:=by
 refine ⟨hl,fun i=>⟨h1 i,fun h=>?_⟩⟩
 induction h with
 | start h h0=>exact h2 h h0
 | next hi hg hn ih=>exact h3 _ hi.lt ih _ hg hn
theorem set_true {M:List Bool} {g i:Nat} (h:M[i]? = some true):(M.set g true)[i]? = some true:=by
 rw [List.getElem?_set]
 split
 ·rename_i e
  subst e
  have:=(List.getElem?_eq_some_iff.1 h).1
  simp [this]
 ·exact h
theorem rep_bools {n:Nat} (h:n≤9223372036854775807):RBools (some true) (.sl true 1 (List.replicate n [B false])) (List.replicate n false):=.sl (by simp) (F2.of_get (by simp) fun i e a he ha=>by
 rw [List.getElem?_replicate] at he ha
 split at he
 ·rename_i h; rw [if_pos h] at ha; cases he; cases ha; rfl
 ·cases he) (by simpa using h)
end Go.Ab
namespace Go.Ab.U7
open Go Go.Ab Go.Proofs
section
variable {q:Option Bool} {b:TV} {f:DFunc} (hf:RFunc q [I f.params,I f.regs,b] f) (hs:f.blocks.length≤1000) {no:Int}
include hs
include hf
end
end Go.Ab.U7
end
section
set_option linter.unusedVariables false
set_option maxRecDepth 10000
namespace Go.Ab
def LedO (bs:List DBlock) (S:Nat→Prop) (o:List Int):Prop:=∀ (A:List Int) (x:Int) (B:List Int),o=A ++ x :: B→x=0∨∃ p:Nat,x ∈ nextAt bs p∧((p:Int) ∈ A∨S p)
def Chain (bs:List DBlock):List (Nat × List Int)→Prop
 | []=>True
 | [p]=>p.1=0
 | p :: r :: l=>(p.1:Int) ∈ nextAt bs r.1∧Chain bs (r :: l)
structure DI (bs:List DBlock) (M:List Bool) (st:List (Nat × List Int)) (o:List Int):Prop where
 len:M.length=bs.length
 at_:∀ p ∈ st,p.1 < bs.length∧∀ g ∈ p.2,g ∈ nextAt bs p.1
 mem:∀ i:Nat,M[i]? = some true ↔ (∃ p ∈ st,p.1=i)∨(i:Int) ∈ o
 nod:(o ++ st.map fun p=>(p.1:Int)).Nodup
 out:∀ x ∈ o,0≤x∧∀ g ∈ nextAt bs x.toNat,M[g.toNat]? = some true
 todo:∀ p ∈ st,∀ g ∈ nextAt bs p.1,g ∈ p.2∨M[g.toNat]? = some true
 snd:SndR bs (-1) M
 led:LedO bs (fun p=>∃ r ∈ st,r.1=p) o
 chain:Chain bs st
 last:st=[]→o.head? = some 0
theorem toNat_cast {g:Int} (h:0≤g):((g.toNat:Nat):Int)=g:=by omega
theorem DI.leave {bs:List DBlock} {M:List Bool} {n:Nat} {st:List (Nat × List Int)} {o:List Int} (h:DI bs M ((n,[]) :: st) o):DI bs M st ((n:Int) :: o):=by
 refine ⟨h.len,fun p hp=>h.at_ p (List.mem_cons_of_mem _ hp),fun i=>?_,?_,fun x hx=>?_,fun p hp=>h.todo p (List.mem_cons_of_mem _ hp),h.snd,?_,?_,fun hst=>?_⟩
 ·rw [h.mem i]
  constructor
  ·rintro (⟨p,hp,rfl⟩ | hi)
   ·rcases List.mem_cons.1 hp with rfl | hp
    ·exact .inr List.mem_cons_self
    ·exact .inl ⟨p,hp,rfl⟩
   ·exact .inr (List.mem_cons_of_mem _ hi)
  ·rintro (⟨p,hp,rfl⟩ | hi)
   ·exact .inl ⟨p,List.mem_cons_of_mem _ hp,rfl⟩
   ·rcases List.mem_cons.1 hi with hi | hi
    ·exact .inl ⟨(n,[]),List.mem_cons_self,by omega⟩
    ·exact .inr hi
 ·have:=h.nod
  rw [List.map_cons] at this
  exact List.perm_middle.nodup_iff.1 this
 ·rcases List.mem_cons.1 hx with rfl | hx
  ·refine ⟨by omega,fun g hg=>?_⟩
   rcases h.todo (n,[]) List.mem_cons_self g hg with h1 | h1
   ·cases h1
   ·exact h1
  ·exact h.out x hx
 ·intro A x B e
  cases A with
  | nil =>
   simp only [List.nil_append,List.cons.injEq] at e
   obtain ⟨rfl,_⟩:=e
   cases st with
   | nil=>left; have:=h.chain; simp only [Chain] at this; omega
   | cons r l=>right; exact ⟨r.1,h.chain.1,.inr ⟨r,List.mem_cons_self,rfl⟩⟩
  | cons a A =>
   simp only [List.cons_append,List.cons.injEq] at e
   obtain ⟨rfl,e⟩:=e
   rcases h.led A x B e with h1 | ⟨p,h1,h2⟩
   ·exact .inl h1
   ·refine .inr ⟨p,h1,?_⟩
    rcases h2 with h2 | ⟨r,hr,rfl⟩
    ·exact .inl (List.mem_cons_of_mem _ h2)
    ·rcases List.mem_cons.1 hr with rfl | hr
     ·exact .inl List.mem_cons_self
     ·exact .inr ⟨r,hr,rfl⟩
 ·have:=h.chain
  cases st with
  | nil=>trivial
  | cons r l=>exact this.2
 ·subst hst
  have:=h.chain
  simp only [Chain] at this
  subst this
  rfl
theorem DI.skip {bs:List DBlock} {M:List Bool} {n:Nat} {g:Int} {l:List Int} {st:List (Nat × List Int)} {o:List Int} (h:DI bs M ((n,g :: l) :: st) o) (hg:M[g.toNat]? = some true):DI bs M ((n,l) :: st) o:=by
 refine ⟨h.len,fun p hp=>?_,fun i=>?_,h.nod,h.out,fun p hp g' hg'=>?_,h.snd,fun A x B e=>?_,?_,fun hst=>(by cases hst)⟩
 ·rcases List.mem_cons.1 hp with rfl | hp
  ·exact ⟨(h.at_ _ List.mem_cons_self).1,fun g' hg'=>(h.at_ (n,g :: l) List.mem_cons_self).2 g' (List.mem_cons_of_mem _ hg')⟩
  ·exact h.at_ p (List.mem_cons_of_mem _ hp)
 ·rw [h.mem i]
  simp
 ·rcases List.mem_cons.1 hp with rfl | hp
  ·rcases h.todo (n,g :: l) List.mem_cons_self g' hg' with h1 | h1
   ·rcases List.mem_cons.1 h1 with rfl | h1
    ·exact .inr hg
    ·exact .inl h1
   ·exact .inr h1
  ·exact h.todo p (List.mem_cons_of_mem _ hp) g' hg'
 ·rcases h.led A x B e with h1 | ⟨p,h1,h2⟩
  ·exact .inl h1
  ·refine .inr ⟨p,h1,h2.imp id ?_⟩
   rintro ⟨r,hr,rfl⟩
   rcases List.mem_cons.1 hr with rfl | hr
   ·exact ⟨(n,l),List.mem_cons_self,rfl⟩
   ·exact ⟨r,List.mem_cons_of_mem _ hr,rfl⟩
 ·have:=h.chain
  cases st with
  | nil=>exact this
  | cons r l=>exact this
theorem DI.enter {bs:List DBlock} {M:List Bool} {n:Nat} {g:Int} {l:List Int} {st:List (Nat × List Int)} {o:List Int} (h:DI bs M ((n,g :: l) :: st) o) (hg:M[g.toNat]? = some false):DI bs (M.set g.toNat true) ((g.toNat,nextAt bs g.toNat) :: (n,l) :: st) o:=by
 have hgm:=(h.at_ (n,g :: l) List.mem_cons_self).2 g List.mem_cons_self
 have hgt:=nextAt_there hgm
 have hlt:=(List.getElem?_eq_some_iff.1 hg).1
 have hgc:=toNat_cast hgt.1
 have hnM:∀ i:Nat,M[i]? = some true→i≠g.toNat:=fun i hi e=>by rw [e,hg] at hi; cases hi
 refine ⟨by rw [List.length_set]; exact h.len,fun p hp=>?_,fun i=>?_,?_,fun x hx=>⟨(h.out x hx).1,fun g' hg'=>set_true ((h.out x hx).2 g' hg')⟩,fun p hp g' hg'=>?_,fun i hi=>?_,fun A x B e=>?_,?_,fun hst=>(by cases hst)⟩
 ·rcases List.mem_cons.1 hp with rfl | hp
  ·exact ⟨hgt.2,fun g' hg'=>hg'⟩
  ·rcases List.mem_cons.1 hp with rfl | hp
   ·exact ⟨(h.at_ _ List.mem_cons_self).1,fun g' hg'=>(h.at_ (n,g :: l) List.mem_cons_self).2 g' (List.mem_cons_of_mem _ hg')⟩
   ·exact h.at_ p (List.mem_cons_of_mem _ hp)
 ·rw [set_get hlt,h.mem i]
  simp only [List.mem_cons,exists_eq_or_imp]
  constructor
  ·rintro (rfl | h1)
   ·exact .inl (.inl rfl)
   ·rcases h1 with h1 | h1
    ·exact .inl (.inr h1)
    ·exact .inr h1
  ·rintro ((h1 | h1) | h1)
   ·exact .inl h1.symm
   ·exact .inr (.inl h1)
   ·exact .inr (.inr h1)
 ·have h1:=h.nod
  rw [List.map_cons] at h1 ⊢
  rw [List.perm_middle.nodup_iff,List.nodup_cons]
  refine ⟨fun hin=>?_,by rw [List.map_cons]; exact h1⟩
  have:M[g.toNat]? = some true:=by
   rw [h.mem]
   rcases List.mem_append.1 hin with hin | hin
   ·exact .inr hin
   ·obtain ⟨p,hp,he⟩:=List.mem_map.1 hin
    have he:p.1=g.toNat:=by omega
    rcases List.mem_cons.1 hp with rfl | hp
    ·exact .inl ⟨(n,g :: l),List.mem_cons_self,he⟩
    ·exact .inl ⟨p,List.mem_cons_of_mem _ hp,he⟩
  rw [hg] at this
  cases this
 ·rcases List.mem_cons.1 hp with rfl | hp
  ·exact .inl hg'
  ·rcases List.mem_cons.1 hp with rfl | hp
   ·rcases h.todo (n,g :: l) List.mem_cons_self g' hg' with h1 | h1
    ·rcases List.mem_cons.1 h1 with rfl | h1
     ·exact .inr ((set_get hlt).2 (.inl rfl))
     ·exact .inl h1
    ·exact .inr (set_true h1)
   ·exact (h.todo p (List.mem_cons_of_mem _ hp) g' hg').imp id set_true
 ·rcases (set_get hlt).1 hi with rfl | h1
  ·have hn:M[n]? = some true:=(h.mem n).2 (.inl ⟨(n,g :: l),List.mem_cons_self,rfl⟩)
   exact .next (h.snd n hn) hgm (by omega)
  ·exact h.snd i h1
 ·rcases h.led A x B e with h1 | ⟨p,h1,h2⟩
  ·exact .inl h1
  ·refine .inr ⟨p,h1,h2.imp id ?_⟩
   rintro ⟨r,hr,rfl⟩
   rcases List.mem_cons.1 hr with rfl | hr
   ·exact ⟨(n,l),List.mem_cons_of_mem _ List.mem_cons_self,rfl⟩
   ·exact ⟨r,List.mem_cons_of_mem _ (List.mem_cons_of_mem _ hr),rfl⟩
 ·have:=h.chain
  refine ⟨by rw [hgc]; exact hgm,?_⟩
  cases st with
  | nil=>exact this
  | cons r l=>exact this
theorem Dfs.keeps {bs:List DBlock} {M M':List Bool} {st:List (Nat × List Int)} {o o':List Int} (h:Dfs bs M st o M' o'):DI bs M st o→DI bs M' [] o':=by
 induction h with
 | done=>exact fun h=>h
 | leave _ ih=>exact fun h=>ih h.leave
 | skip hg _ ih=>exact fun h=>ih (h.skip hg)
 | enter hg _ ih=>exact fun h=>ih (h.enter hg)
theorem DI.start {bs:List DBlock} (h:bs≠[]):DI bs ((List.replicate bs.length false).set 0 true) [(0,nextAt bs 0)] []:=by
 have hl:0 < bs.length:=List.length_pos_iff.2 h
 have hlr:0 < (List.replicate bs.length false).length:=by simpa using hl
 have none_:∀ i:Nat,¬ (List.replicate bs.length false)[i]? = some true:=fun i h=>by
  rw [List.getElem?_replicate] at h
  split at h <;> cases h
 refine ⟨by simp,fun p hp=>?_,fun i=>?_,by simp,fun x hx=>(by cases hx),fun p hp g hg=>?_,fun i hi=>?_,fun A x B e=>(by simp at e),rfl,fun hst=>(by cases hst)⟩
 ·rw [List.mem_singleton] at hp
  subst hp
  exact ⟨hl,fun g hg=>hg⟩
 ·rw [set_get hlr]
  simp only [List.mem_singleton,exists_eq_left,List.not_mem_nil,or_false]
  constructor
  ·rintro (rfl | h)
   ·rfl
   ·exact absurd h (none_ i)
  ·rintro rfl
   exact .inl rfl
 ·rw [List.mem_singleton] at hp
  subst hp
  exact .inl hg
 ·rcases (set_get hlr).1 hi with rfl | h
  ·exact .start (by omega) hl
  ·exact absurd h (none_ i)
structure OI (bs:List DBlock) (o:List Int):Prop where
 mem:∀ i:Nat,(i:Int) ∈ o ↔ Rc bs (-1) i
 pos:∀ x ∈ o,0≤x∧x < (bs.length:Int)
 nod:o.Nodup
 led:∀ (A:List Int) (x:Int) (B:List Int),o=A ++ x :: B→x=0∨∃ p:Nat,x ∈ nextAt bs p∧(p:Int) ∈ A
 first:bs≠[]→o.head? = some 0
theorem OrderP.keeps {bs:List DBlock} {o:List Int} (h:OrderP bs o):OI bs o:=by
 rcases h with ⟨rfl,rfl⟩ | ⟨h0,M',hD⟩
 ·refine ⟨fun i=>⟨fun h=>(by cases h),fun h=>absurd h.lt (by simp)⟩,fun x hx=>(by cases hx),List.nodup_nil,fun A x B e=>(by simp at e),fun h=>absurd rfl h⟩
 ·have h:=hD.keeps (DI.start h0)
  have hmem:∀ i:Nat,M'[i]? = some true ↔ (i:Int) ∈ o:=fun i=>by rw [h.mem i]; simp
  have hfull:FullR bs (-1) M':=by
   have hhd:=h.last rfl
   have h0o:(0:Int) ∈ o:=by
    cases o with
    | nil=>cases hhd
    | cons a o=>simp only [List.head?_cons,Option.some.injEq] at hhd; subst hhd; exact List.mem_cons_self
   refine fullR_of h.len h.snd (fun _ _=>(hmem 0).2 h0o) (fun i _ hi g hg _=>?_)
   have:=(h.out i ((hmem i).1 hi)).2 g (by simpa using hg)
   exact this
  refine ⟨fun i=>by rw [← hmem i]; exact hfull.2 i,fun x hx=>?_,by have:=h.nod; simpa using this,fun A x B e=>?_,fun _=>h.last rfl⟩
  ·have hx0:=(h.out x hx).1
   have:Rc bs (-1) x.toNat:=(hfull.2 _).1 ((hmem _).2 (by rw [toNat_cast hx0]; exact hx))
   have:=this.lt
   omega
  ·rcases h.led A x B e with h1 | ⟨p,h1,h2⟩
   ·exact .inl h1
   ·refine .inr ⟨p,h1,?_⟩
    rcases h2 with h2 | ⟨r,hr,_⟩
    ·exact h2
    ·cases hr
end Go.Ab
namespace Go.Ab.U7
open Go Go.Ab Go.Proofs
theorem r85 {q:Option Bool} {e:List TV} {f:DFunc} (he:RFunc q e f) (hs:f.blocks.length≤1000):∃ y M,Runs prog 29 [.agg e] y∧RBools (some true) y M∧FullR f.blocks (-1) M:=by
 obtain ⟨v,o,hv,hvr,hO⟩:=r80 he hs
 obtain ⟨b,rfl,hb,_⟩:=he
 have hI:=hO.keeps
 have hvb:=hvr.bnd
 have loop:∀ (d k:Nat) (M:List Bool) (w:TV),k + d=o.length→RBools (some true) w M→M.length=f.blocks.length→(∀ i:Nat,M[i]? = some true ↔ (i:Int) ∈ o.take k)→∃ y M,Goes prog 29 (f29_0 (I o.length) (I k) w v) y∧RBools (some true) y M∧FullR f.blocks (-1) M:=by
  intro d
  induction d with
  | zero =>
   intro k M w hk hw hl hm
   have hk:k=o.length:=by omega
   subst hk
   rw [List.take_length] at hm
   refine ⟨w,M,?_,hw,hl,fun i=>by rw [hm i]; exact hI.mem i⟩
   unfold f29_0
   exact Goes.tv rfl (Goes.ite asB_end (fun h=>nomatch h) fun _=>Goes.ret)
  | succ d ih =>
   intro k M w hk hw hl hm
   have hkl:k < o.length:=by omega
   obtain ⟨x,hxx⟩:∃ x,x=o[k]:=⟨_,rfl⟩
   have hox:o[k]? = some x:=by rw [hxx]; exact List.getElem?_eq_getElem hkl
   have hxo:=hI.pos x (List.mem_of_getElem? hox)
   obtain ⟨e,he,rfl,hei⟩:=hvr.pel hox
   have hxl:x.toNat < M.length:=by omega
   obtain ⟨e2,he2,hR⟩:=hw.pel (List.getElem?_eq_getElem hxl)
   cases hR
   obtain ⟨w',c1,c2⟩:=hw.setAt he2 (d:=0) (ys:=[B true]) (a:=true) rfl
   obtain ⟨y,M',hy,hr,hF⟩:=ih (k + 1) (M.set x.toNat true) w' (by omega) c2 (by rw [List.length_set]; exact hl) (fun i=>by
    rw [set_get hxl,hm i,take_get hox,List.mem_append,List.mem_singleton]
    constructor
    ·rintro (rfl | h)
     ·exact .inr (toNat_cast hxo.1)
     ·exact .inl h
    ·rintro (h | h)
     ·exact .inr h
     ·exact .inl (by omega))
   refine ⟨y,M',?_,hr,hF⟩
   unfold f29_0
   refine Goes.tv rfl (Goes.ite (asB_lt hkl) (fun _=>?_) fun h=>nomatch h)
   refine Goes.nat hvr.slLen (Goes.nat (asNat_nat (by omega)) (Goes.chk ?_ (Goes.tvs he (Goes.chk rfl (Goes.nat hw.slLen (Goes.nat (asNat_pos hxo.1 hei) (Goes.chk ?_ (Goes.tvs he2 (Goes.chk rfl (Goes.tv c1 (Goes.tv (inc hkl hvb) (f29_0_J hy))))))))))))
   ·rw [hvr.slSize]; simpa using hkl
   ·rw [hw.slSize]; simpa using hxl
 obtain ⟨y,M,hy,hr,hF⟩:=loop o.length 0 _ _ (by omega) (rep_bools (n:=f.blocks.length) (by omega)) (by simp) (fun i=>by
  rw [List.getElem?_replicate]
  simp)
 refine ⟨y,M,?_,hr,hF⟩
 have hn:asNat (I (f.blocks.length:Nat))=some f.blocks.length:=asNat_nat (by omega)
 refine Runs.of (f29_MR _) ?_
 unfold f29_M
 refine Goes.chk rfl (Goes.tv hb.len (Goes.nat hn (Goes.nat hn (Goes.chk ?_ (Goes.call hv (Goes.chk (fit_slc hvr.isSl) (Goes.tv hvr.len (f29_0_J hy))))))))
 have:Nat.ble f.blocks.length 4294967296=true:=by simp; omega
 simp [this]
end Go.Ab.U7
end
section
set_option linter.unusedVariables false
set_option maxRecDepth 100000
namespace Go.Ab.U7
open Go Go.Ab Go.Proofs
theorem rAwake7:Runs prog 22 [] (B true):=⟨40,by kernel_rfl⟩
end Go.Ab.U7
end
section
set_option linter.unusedVariables false
set_option maxRecDepth 10000
namespace Go.Ab
def manyTo (M:List Bool) (k:Nat):Nat:=(M.take k).count true
theorem manyTo_succ {M:List Bool} {k:Nat} {b:Bool} (h:M[k]? = some b):manyTo M (k + 1)=manyTo M k + (if b then 1 else 0):=by
 unfold manyTo
 rw [take_get h,List.count_append]
 cases b <;> simp
theorem manyTo_le (M:List Bool) (k:Nat):manyTo M k≤k:=by
 unfold manyTo
 exact Nat.le_trans List.count_le_length (by simp; omega)
theorem nod_inj {l:List Int} (h:l.Nodup) {i j:Nat} {a:Int} (hi:l[i]? = some a) (hj:l[j]? = some a):i=j:=by
 have hp:=List.pairwise_iff_getElem.1 h
 obtain ⟨h1,e1⟩:=List.getElem?_eq_some_iff.1 hi
 obtain ⟨h2,e2⟩:=List.getElem?_eq_some_iff.1 hj
 rcases Nat.lt_trichotomy i j with h3 | h3 | h3
 ·exact absurd (e1.trans e2.symm) (hp i j h1 h2 h3)
 ·exact h3
 ·exact absurd (e2.trans e1.symm) (hp j i h2 h1 h3)
theorem many_eq {bs:List DBlock} {M:List Bool} {o:List Int} (hF:FullR bs (-1) M) (hI:OI bs o):manyTo M bs.length=o.length:=by
 have h1:o.Perm (((List.range bs.length).filter fun i=>M[i]? == some true).map fun i:Nat=>(i:Int)):=by
  apply (List.perm_ext_iff_of_nodup hI.nod ?_).2
  ·intro x
   rw [List.mem_map]
   constructor
   ·intro hx
    have hp:=hI.pos x hx
    refine ⟨x.toNat,?_,toNat_cast hp.1⟩
    rw [List.mem_filter,List.mem_range]
    refine ⟨by omega,?_⟩
    have:M[x.toNat]? = some true:=(hF.2 _).2 ((hI.mem _).1 (by rw [toNat_cast hp.1]; exact hx))
    simp [this]
   ·rintro ⟨i,hi,rfl⟩
    rw [List.mem_filter] at hi
    exact (hI.mem i).2 ((hF.2 i).1 (by simpa using hi.2))
  ·have hn:((List.range bs.length).filter fun i=>M[i]? == some true).Nodup:=List.Pairwise.filter _ List.nodup_range
   exact List.Pairwise.map _ (fun a b h=>by intro e; exact h (by omega)) hn
 have h2:∀ k,k≤M.length→manyTo M k=((List.range k).filter fun i=>M[i]? == some true).length:=by
  intro k
  induction k with
  | zero=>intro _; rfl
  | succ k ih =>
   intro hk
   have hb:M[k]? = some M[k]:=List.getElem?_eq_getElem (by omega)
   rw [manyTo_succ hb,ih (by omega),List.range_succ,List.filter_append,List.length_append]
   cases h:M[k] <;> simp [hb,h]
 rw [h2 _ (by rw [hF.1]; exact Nat.le_refl _),h1.length_eq,List.length_map]
end Go.Ab
namespace Go.Ab.U7
open Go Go.Ab Go.Proofs
section
variable {q:Option Bool} {b:TV} {f:DFunc} (hf:RFunc q [I f.params,I f.regs,b] f) (hs:f.blocks.length≤70) {M:List Bool} {o:List Int} {w5 w6:TV}
 (h5:RInts (some true) w5 o) (h6:RBools (some true) w6 M) (hF:FullR f.blocks (-1) M) (hI:OI f.blocks o)
include hf hs h5 h6 hF hI
omit hs h6 hF in
theorem ledLoop {m:Nat} {i:Nat} {x:Int} (hx:o[i]? = some x) (K:Goes prog 8 (f8_8 (I m) (I i) (B true) (I f.params) (I f.regs) b w5 w6) (B true)) :
  ∀ (d k:Nat) (u:Bool),k + d=i→(u=true ↔ i=0∨∃ (j:Nat) (p:Int),j < k∧o[j]? = some p∧x ∈ nextAt f.blocks p.toNat)→Goes prog 8 (f8_6 (I m) (I i) (B u) (I k) (I f.params) (I f.regs) b w5 w6) (B true):=by
 have h5b:=h5.bnd
 have hil:i < o.length:=(List.getElem?_eq_some_iff.1 hx).1
 intro d
 induction d with
 | zero =>
  intro k u hk hu
  have hk:k=i:=by omega
  subst hk
  have:u=true:=by
   rw [hu]
   have e:o=o.take k ++ x :: o.drop (k + 1):=by
    have h1:o.drop k=x :: o.drop (k + 1):=by
     rw [List.drop_eq_getElem_cons hil]
     rw [List.getElem?_eq_getElem hil] at hx
     rw [Option.some.inj hx]
    rw [← h1,List.take_append_drop]
   rcases hI.led _ _ _ e with h | ⟨p,h1,h2⟩
   ·left
    rcases Nat.eq_zero_or_pos k with h0 | h0
    ·exact h0
    ·exfalso
     have hne:f.blocks≠[]:=fun h=>by
      have:=(hI.pos x (List.mem_of_getElem? hx))
      rw [h] at this
      simp at this
      omega
     have hhd:=hI.first hne
     have h00:o[0]? = some 0:=by rw [← List.head?_eq_getElem?]; exact hhd
     rw [h] at hx
     have:=nod_inj hI.nod h00 hx
     omega
   ·right
    obtain ⟨j,hj,hjp⟩:=List.mem_iff_getElem.1 h2
    have hjk:j < k:=by simp at hj; omega
    refine ⟨j,(p:Int),hjk,?_,by simpa using h1⟩
    rw [List.getElem_take] at hjp
    rw [List.getElem?_eq_getElem (by omega),hjp]
  subst this
  unfold f8_6
  exact Goes.tv rfl (Goes.ite asB_end (fun h=>nomatch h) fun _=>f8_8_J K)
 | succ d ih =>
  intro k u hk hu
  have hkl:k < o.length:=by omega
  have hki:k < i:=by omega
  cases u with
  | true =>
   unfold f8_6
   refine Goes.tv rfl (Goes.ite (asB_lt hki) (fun _=>Goes.ite (v:=true) rfl (fun _=>Goes.tv (inc hkl h5b) (f8_6_J (ih (k + 1) true (by omega) ?_))) fun h=>nomatch h) fun h=>nomatch h)
   refine ⟨fun _=>?_,fun _=>rfl⟩
   rcases hu.1 rfl with h | ⟨j,p,h1,h2⟩
   ·exact .inl h
   ·exact .inr ⟨j,p,by omega,h2⟩
  | false =>
   obtain ⟨p,hpp⟩:∃ p,p=o[k]:=⟨_,rfl⟩
   have hop:o[k]? = some p:=by rw [hpp]; exact List.getElem?_eq_getElem hkl
   obtain ⟨e1,he1,rfl,hpi⟩:=h5.pel hop
   obtain ⟨e2,he2,rfl,hxi⟩:=h5.pel hx
   have hp0:=hI.pos p (List.mem_of_getElem? hop)
   obtain ⟨v,hv,hvr⟩:=r71 hf p
   have e3:nextL f.blocks p=nextAt f.blocks p.toNat:=by rw [nextL,if_pos hp0.1]
   rw [e3] at hvr
   have hc:=r75 (hvr.frz fun _ _ h=>h.frz) x
   have ank:asNat (I (k:Nat))=some k:=asNat_nat (by omega)
   have ani:asNat (I (i:Nat))=some i:=asNat_nat (by omega)
   unfold f8_6
   refine Goes.tv rfl (Goes.ite (asB_lt hki) (fun _=>Goes.ite (v:=false) rfl (fun h=>nomatch h) fun _=>?_) fun h=>nomatch h)
   refine Goes.nat h5.slLen (Goes.nat ank (Goes.chk (by rw [h5.slSize]; simpa using hkl) (Goes.tvs he1 (Goes.chk rfl (Goes.call hv (Goes.chk (fit_slc hvr.isSl) ?_))))))
   refine Goes.nat h5.slLen (Goes.nat ani (Goes.chk (by rw [h5.slSize]; simpa using hil) (Goes.tvs he2 (Goes.chk rfl (Goes.call hc (Goes.chk rfl (Goes.tv (inc hkl h5b) (f8_6_J (ih (k + 1) _ (by omega) ?_)))))))))
   rw [decide_eq_true_eq]
   constructor
   ·intro h
    exact .inr ⟨k,p,by omega,hop,h⟩
   ·rintro (h | ⟨j,p',h1,h2,h3⟩)
    ·exact absurd (hu.2 (.inl h)) (by simp)
    ·rcases Nat.lt_or_ge j k with h4 | h4
     ·exact absurd (hu.2 (.inr ⟨j,p',h4,h2,h3⟩)) (by simp)
     ·have:j=k:=by omega
      subst this
      rw [hop] at h2
      cases h2
      exact h3
omit hs in
theorem ordLoop {m:Nat} (hm:m=o.length):∀ (d i:Nat),i + d=o.length→Goes prog 8 (f8_5 (I m) (I i) (I f.params) (I f.regs) b w5 w6) (B true):=by
 have h5b:=h5.bnd
 intro d
 induction d with
 | zero =>
  intro i hi
  have hi:i=o.length:=by omega
  subst hi
  unfold f8_5
  refine Goes.tv h5.len (Goes.tv rfl (Goes.ite asB_end (fun h=>nomatch h) fun _=>f8_7_J ?_))
  unfold f8_7
  exact Goes.tv h5.len (Goes.tv rfl (goes_ret.2 (by rw [hm]; simp)))
 | succ d ih =>
  intro i hi
  have hil:i < o.length:=by omega
  obtain ⟨x,hxx⟩:∃ x,x=o[i]:=⟨_,rfl⟩
  have hox:o[i]? = some x:=by rw [hxx]; exact List.getElem?_eq_getElem hil
  have hxo:=hI.pos x (List.mem_of_getElem? hox)
  obtain ⟨e1,he1,rfl,hxi⟩:=h5.pel hox
  have hMx:M[x.toNat]? = some true:=(hF.2 _).2 ((hI.mem _).1 (by rw [toNat_cast hxo.1]; exact List.mem_of_getElem? hox))
  have hMl:=(List.getElem?_eq_some_iff.1 hMx).1
  obtain ⟨e2,he2,hR⟩:=h6.pel hMx
  cases hR
  obtain ⟨y,hy,hyr⟩:=h5.win (k:=i) (by omega)
  have hc:=r75 (hyr.frz fun _ _ h=>h.frz) x
  have hnot:x ∉ o.take i:=fun h=>by
   obtain ⟨j,hj,hjx⟩:=List.mem_iff_getElem.1 h
   have hji:j < i:=by simp at hj; omega
   rw [List.getElem_take] at hjx
   have:=nod_inj hI.nod (i:=j) (j:=i) (a:=x) (by rw [List.getElem?_eq_getElem (by omega),hjx]) hox
   omega
  have ani:asNat (I (i:Nat))=some i:=asNat_nat (by omega)
  unfold f8_5
  refine Goes.tv h5.len (Goes.tv rfl (Goes.ite (asB_lt hil) (fun _=>?_) fun h=>nomatch h))
  refine Goes.nat h5.slLen (Goes.nat ani (Goes.chk (by rw [h5.slSize]; simpa using hil) (Goes.tvs he1 (Goes.chk rfl (Goes.nat h6.slLen (Goes.nat (asNat_pos hxo.1 hxi) (Goes.chk (by rw [h6.slSize]; simpa using hMl) (Goes.tvs he2 (Goes.chk rfl (Goes.tv rfl (Goes.ite (v:=false) rfl (fun h=>nomatch h) fun _=>?_)))))))))))
  refine Goes.nat h5.slLen (Goes.nat ani (Goes.chk ?_ (Goes.nat h5.slLen (Goes.nat ani (Goes.chk (by rw [h5.slSize]; simpa using hil) (Goes.tvs he1 (Goes.chk rfl (Goes.tv hy (Goes.call hc (Goes.chk rfl (Goes.ite (v:=false) (by simp [asBool,hnot]) (fun h=>nomatch h) fun _=>Goes.tv rfl (f8_6_J ?_))))))))))))
  ·rw [h5.slSize]; simp; omega
  refine ledLoop hf h5 hI (m:=m) hox ?_ i 0 _ (by omega) ?_
  ·unfold f8_8
   exact Goes.tv rfl (Goes.ite (v:=false) rfl (fun h=>nomatch h) fun _=>Goes.tv (inc hil h5b) (f8_5_J (ih (i + 1) (by omega))))
  ·constructor
   ·intro h
    left
    have:(i:Int)=0:=by simpa using h
    omega
   ·rintro (h | ⟨j,p,h1,_⟩)
    ·subst h; rfl
    ·omega
omit h5 hI in
theorem nxtLoop {m n:Nat} (hn:n < f.blocks.length) {w8:TV} (h8:RInts (some true) w8 (nextAt f.blocks n)) (K:Goes prog 8 (f8_1 (I m) (I (n + 1:Nat)) (I f.params) (I f.regs) b w5 w6) (B true)) :
  ∀ (d j:Nat),j + d=(nextAt f.blocks n).length→Goes prog 8 (f8_4 (I m) (I n) (I j) (I f.params) (I f.regs) b w5 w6 w8) (B true):=by
 have h8b:=h8.bnd
 intro d
 induction d with
 | zero =>
  intro j hj
  have hj:j=(nextAt f.blocks n).length:=by omega
  subst hj
  unfold f8_4
  exact Goes.tv h8.len (Goes.tv rfl (Goes.ite asB_end (fun h=>nomatch h) fun _=>Goes.tv (inc hn (by omega)) (f8_1_J K)))
 | succ d ih =>
  intro j hj
  have hjl:j < (nextAt f.blocks n).length:=by omega
  obtain ⟨g,hgg⟩:∃ g,g=(nextAt f.blocks n)[j]:=⟨_,rfl⟩
  have hgk:(nextAt f.blocks n)[j]? = some g:=by rw [hgg]; exact List.getElem?_eq_getElem hjl
  have hgm:=List.mem_of_getElem? hgk
  have hgt:=nextAt_there hgm
  obtain ⟨eg,heg,rfl,hgi⟩:=h8.pel hgk
  have hnMl:n < M.length:=by rw [hF.1]; exact hn
  have hnM:M[n]? = some M[n]:=List.getElem?_eq_getElem hnMl
  obtain ⟨en,hen,hR⟩:=h6.pel hnM
  cases hR
  have hgl:g.toNat < M.length:=by rw [hF.1]; exact hgt.2
  have hgM:M[g.toNat]? = some M[g.toNat]:=List.getElem?_eq_getElem hgl
  obtain ⟨em,hem,hR⟩:=h6.pel hgM
  cases hR
  have ann:asNat (I (n:Nat))=some n:=asNat_nat (by omega)
  have anj:asNat (I (j:Nat))=some j:=asNat_nat (by omega)
  have ck1:(Bool.and (slSize w6 1) (Nat.blt n M.length))=true:=by rw [h6.slSize,hF.1]; simpa using hn
  have ck2:(Bool.and (slSize w8 1) (Nat.blt j (nextAt f.blocks n).length))=true:=by rw [h8.slSize]; simpa using hjl
  have ck3:(Bool.and (slSize w6 1) (Nat.blt g.toNat M.length))=true:=by rw [h6.slSize]; simpa using hgl
  obtain ⟨vb,hvb,hvbr⟩:=r76 hf (by omega) g
  have hc:=r75 (hvbr.frz fun _ _ h=>h.frz) (n:Int)
  have hin:(n:Int) ∈ befL f.blocks g:=befTo_mem.2 ⟨n,rfl,hn,hgm⟩
  have next:=f8_4_J (ih (j + 1) (by omega))
  unfold f8_4
  refine Goes.tv h8.len (Goes.tv rfl (Goes.ite (asB_lt hjl) (fun _=>?_) fun h=>nomatch h))
  refine Goes.nat h6.slLen (Goes.nat ann (Goes.chk ck1 (Goes.tvs hen (Goes.chk rfl (Goes.ite rfl (fun h=>?_) fun _=>?_)))))
  ·have hnt:M[n]? = some true:=by rw [hnM]; simpa using h
   have hgt2:M[g.toNat]=true:=by
    have:M[g.toNat]? = some true:=(hF.2 _).2 (.next ((hF.2 n).1 hnt) hgm (by omega))
    rw [hgM] at this
    exact Option.some.inj this
   refine Goes.nat h8.slLen (Goes.nat anj (Goes.chk ck2 (Goes.tvs heg (Goes.chk rfl (Goes.nat h6.slLen (Goes.nat (asNat_pos hgt.1 hgi) (Goes.chk ck3 (Goes.tvs hem (Goes.chk rfl (Goes.tv rfl (Goes.ite (v:=false) (by rw [hgt2]; rfl) (fun h=>nomatch h) fun _=>?_)))))))))))
   exact Goes.nat h8.slLen (Goes.nat anj (Goes.chk ck2 (Goes.tvs heg (Goes.chk rfl (Goes.call hvb (Goes.chk (fit_slc hvbr.isSl) (Goes.call hc (Goes.chk rfl (Goes.tv rfl (Goes.ite (v:=false) (by simp [asBool,hin]) (fun h=>nomatch h) fun _=>Goes.tv (inc hjl h8b) next)))))))))) 
  ·exact Goes.nat h8.slLen (Goes.nat anj (Goes.chk ck2 (Goes.tvs heg (Goes.chk rfl (Goes.call hvb (Goes.chk (fit_slc hvbr.isSl) (Goes.call hc (Goes.chk rfl (Goes.tv rfl (Goes.ite (v:=false) (by simp [asBool,hin]) (fun h=>nomatch h) fun _=>Goes.tv (inc hjl h8b) next))))))))))
theorem blkLoop:∀ (d n:Nat),n + d=f.blocks.length→Goes prog 8 (f8_1 (I (manyTo M n)) (I n) (I f.params) (I f.regs) b w5 w6) (B true):=by
 intro d
 induction d with
 | zero =>
  intro n hn
  have hn:n=f.blocks.length:=by omega
  subst hn
  unfold f8_1
  refine Goes.tv h6.len (Goes.tv rfl (Goes.ite (v:=false) (by rw [hF.1]; exact asB_end) (fun h=>nomatch h) fun _=>f8_3_J ?_))
  unfold f8_3
  exact f8_5_J (ordLoop hf h5 h6 hF hI (many_eq hF hI) o.length 0 (by omega))
 | succ d ih =>
  intro n hn
  have hnl:n < f.blocks.length:=by omega
  have hnMl:n < M.length:=by rw [hF.1]; exact hnl
  have hnM:M[n]? = some M[n]:=List.getElem?_eq_getElem hnMl
  obtain ⟨en,hen,hR⟩:=h6.pel hnM
  cases hR
  obtain ⟨v,hv,hvr⟩:=r71 hf (n:Int)
  rw [nextL_nat] at hvr
  have hmt:=manyTo_le M n
  have go:∀ m:Nat,m=manyTo M (n + 1)→Goes prog 8 (f8_2 (I m) (I n) (I f.params) (I f.regs) b w5 w6) (B true):=fun m hm=>by
   unfold f8_2
   refine Goes.call hv (Goes.chk (fit_slc hvr.isSl) (f8_4_J (nxtLoop hf hs h6 hF (m:=m) hnl hvr ?_ (nextAt f.blocks n).length 0 (by omega))))
   rw [hm]
   exact ih (n + 1) (by omega)
  have hsucc:=manyTo_succ hnM
  unfold f8_1
  refine Goes.tv h6.len (Goes.tv rfl (Goes.ite (v:=true) (by rw [hF.1]; exact asB_lt hnl) (fun _=>?_) fun h=>nomatch h))
  refine Goes.nat h6.slLen (Goes.nat (asNat_nat (by omega)) (Goes.chk (by rw [h6.slSize,hF.1]; simpa using hnl) (Goes.tvs hen (Goes.chk rfl (Goes.ite rfl (fun h=>?_) fun h=>?_)))))
  ·have h:M[n]=true:=by simpa using h
   rw [h] at hsucc
   exact Goes.tv (inc (n:=1000) (by omega) (by omega)) (f8_2_J (go _ hsucc.symm))
  ·have h:M[n]=false:=by simpa using h
   rw [h] at hsucc
   exact f8_2_J (go _ (by rw [hsucc]; rfl))
end
theorem rFlowOrder {q:Option Bool} {e:List TV} {f:DFunc} (he:RFunc q e f):Runs prog 8 [.agg e] (B true):=by
 have he0:=he
 obtain ⟨b,rfl,hb,_⟩:=he
 refine Runs.of (f8_MR _) ?_
 unfold f8_M
 refine Goes.chk rfl (Goes.call rAwake7 (Goes.chk rfl (Goes.tv rfl (Goes.ite (v:=false) rfl (fun h=>nomatch h) fun _=>Goes.tv hb.len (Goes.tv rfl (Goes.ite rfl (fun h=>?_) fun h=>?_))))))
 ·refine f8_0_J ?_
  unfold f8_0
  exact Goes.ite (v:=true) rfl (fun _=>Goes.tv hb.len (Goes.tv rfl (Goes.ite (v:=true) (by simpa [asBool] using h) (fun _=>Goes.ret) fun h=>nomatch h))) fun h=>nomatch h
 have hs:f.blocks.length≤70:=by
  have:¬ (f.blocks.length:Int) > 70:=by simpa using h
  omega
 obtain ⟨y,o,hy,hyr,hO⟩:=r80 he0 (by omega)
 have hI:=hO.keeps
 refine Goes.tv hb.len (Goes.tv rfl (f8_0_J ?_))
 unfold f8_0
 refine Goes.ite rfl (fun h0=>?_) fun h0=>?_
 ·have h0:f.blocks.length=0:=by simpa using h0
  have ho:o=[]:=by
   rcases hO with ⟨_,h⟩ | ⟨h,_⟩
   ·exact h
   ·exact absurd (List.length_eq_zero_iff.1 h0) h
  subst ho
  exact Goes.tv hb.len (Goes.tv rfl (Goes.ite (v:=false) (by simp [asBool]; omega) (fun h=>nomatch h) fun _=>Goes.call hy (Goes.chk (fit_slc hyr.isSl) (Goes.tv hyr.len (Goes.tv rfl Goes.ret)))))
 ·have h0:¬ f.blocks.length=0:=by simpa using h0
  have hne:f.blocks≠[]:=fun h=>h0 (by rw [h]; rfl)
  obtain ⟨y2,M,hy2,hr2,hF⟩:=r85 he0 (by omega)
  have hhd:=hI.first hne
  have ho0:o[0]? = some 0:=by rw [← List.head?_eq_getElem?]; exact hhd
  have hol:0 < o.length:=(List.getElem?_eq_some_iff.1 ho0).1
  obtain ⟨e1,he1,rfl,_⟩:=hyr.pel ho0
  refine Goes.call hy (Goes.chk (fit_slc hyr.isSl) (Goes.call hy2 (Goes.chk (fit_slc hr2.isSl) (Goes.tv hyr.len (Goes.tv rfl (Goes.ite (v:=false) (by simp [asBool]; exact fun h=>by simp [h] at hol) (fun h=>nomatch h) fun _=>?_))))))
  refine Goes.nat hyr.slLen (Goes.nat (v:=0) rfl (Goes.chk (by rw [hyr.slSize]; simpa using hol) (Goes.tvs he1 (Goes.chk rfl (Goes.tv rfl (Goes.ite (v:=false) rfl (fun h=>nomatch h) fun _=>?_))))))
  refine Goes.tv hr2.len (Goes.tv hb.len (Goes.tv rfl (Goes.ite (v:=false) (by simp [asBool,hF.1]) (fun h=>nomatch h) fun _=>f8_1_J ?_)))
  exact blkLoop he0 hs hyr hr2 hF hI f.blocks.length 0 (by omega)
end Go.Ab.U7
end
section
namespace Go.Ab
open Go.RowKit
set_option linter.unusedVariables false
theorem nth_eq {α:Type} (d:α):∀ (l:List α) (n:Nat),nth d l n=(l[n]?).getD d
 | [],n=>by simp [nth]
 | a :: l,0=>rfl
 | a :: l,n + 1=>by simp [nth,nth_eq d l n]
theorem setNth_eq {α:Type}:∀ (l:List α) (n:Nat) (b:α),setNth l n b=l.set n b
 | [],n,b=>by simp [setNth]
 | a :: l,0,b=>rfl
 | a :: l,n + 1,b=>by simp [setNth,setNth_eq l n b]
theorem nth_some {α:Type} {d:α} {l:List α} {n:Nat} {a:α} (h:l[n]? = some a):nth d l n=a:=by rw [nth_eq,h]; rfl
theorem beq_iff (a b:Nat):a.beq b=true ↔ a=b:=⟨Nat.eq_of_beq_eq_true,fun h=>h ▸ Nat.beq_refl a⟩
theorem memB_iff (n:Nat):∀ l:List Nat,memB n l=true ↔ n ∈ l
 | []=>by simp [memB]
 | a :: l => by
  cases h:a.beq n
  ·have:a≠n:=fun e=>by simp [e] at h
   simp only [memB,h,cond_false,memB_iff n l,List.mem_cons]
   constructor
   ·exact .inr
   ·rintro (e | e)
    ·exact absurd e.symm this
    ·exact e
  ·simp only [memB,h,cond_true,List.mem_cons,true_iff]
   exact .inl ((beq_iff a n).1 h).symm
theorem add_block (a:Addr) (k:Nat):(a.add k).block=a.block:=by unfold Addr.add; split <;> rfl
theorem add_add (a:Addr) (i j:Nat):(a.add i).add j=a.add (i + j):=by
 unfold Addr.add
 by_cases hi:i=0 <;> by_cases hj:j=0 <;> simp [hi,hj,Nat.add_assoc]
theorem add_lit (b o k:Nat):(⟨b,o,none⟩:Addr).add k=⟨b,o + k,none⟩:=by unfold Addr.add; split <;> simp_all
def spl {α:Type} (l:List α) (o:Nat) (ys:List α):List α:=l.take o ++ ys ++ l.drop (o + ys.length)
theorem spl_len {α:Type} {l ys:List α} {o:Nat} (h:o + ys.length≤l.length):(spl l o ys).length=l.length:=by
 simp only [spl,List.length_append,List.length_take,List.length_drop]
 omega
theorem spl_get {α:Type} {l ys:List α} {o:Nat} (h:o + ys.length≤l.length) (k:Nat):(spl l o ys)[k]? = if o≤k∧k < o + ys.length then ys[k - o]? else l[k]? := by
 have e1:(l.take o).length=o:=by simp; omega
 unfold spl
 by_cases h1:k < o
 ·rw [List.append_assoc,List.getElem?_append_left (by omega),List.getElem?_take,if_pos h1,if_neg (by omega)]
 ·by_cases h2:k < o + ys.length
  ·rw [List.append_assoc,List.getElem?_append_right (by omega),e1,List.getElem?_append_left (by omega),if_pos (by omega)]
  ·rw [List.getElem?_append_right (by simp; omega),List.getElem?_drop,if_neg (by omega)]
   congr 1
   simp
   omega
theorem setCells_eq {α:Type}:∀ (ps l:List α) (off:Nat),off + ps.length≤l.length→setCells l off ps=spl l off ps
 | [],l,off,h=>by simp [setCells,spl]
 | p :: ps, l, off, h => by
  have hlt:off < l.length:=by simp at h; omega
  simp only [setCells]
  rw [setNth_eq,setCells_eq ps (l.set off p) (off + 1) (by simp at h ⊢; omega)]
  apply List.ext_getElem?
  intro k
  rw [spl_get (by simp at h ⊢; omega),spl_get h]
  simp only [List.length_cons,List.getElem?_set]
  by_cases h1:k < off
  ·rw [if_neg (by omega),if_neg (by omega),if_neg (by omega)]
  ·by_cases h2:k=off
   ·subst h2
    rw [if_neg (by omega),if_pos (by omega)]
    simp [hlt]
   ·by_cases h3:k < off + (ps.length + 1)
    ·rw [if_pos (by omega),if_pos (by omega)]
     rw [show k - off=(k - (off + 1)) + 1 by omega,List.getElem?_cons_succ]
    ·rw [if_neg (by omega),if_neg (by omega),if_neg (by omega)]
theorem takeN_spec {α:Type}:∀ (l:List α) (o n:Nat) (r:List α),takeN l o n=some r→r.length=n∧(n=0∨o + n≤l.length)∧∀ j,j < n→r[j]? = l[o + j]?
 | l,o,0,r,h=>by cases l <;> simp [takeN] at h <;> subst h <;> simp
 | [],o,n + 1,r,h=>by simp [takeN] at h
 | a :: l, 0, n + 1, r, h => by
  simp only [takeN] at h
  cases h1:takeN l 0 n with
  | none=>simp [h1] at h
  | some r' =>
   simp only [h1,Option.some.injEq] at h
   subst h
   obtain ⟨i1,i2,i3⟩:=takeN_spec l 0 n r' h1
   refine ⟨by simp [i1],.inr (by simp; omega),fun j hj=>?_⟩
   cases j with
   | zero=>simp
   | succ j=>simpa using i3 j (by omega)
 | a :: l,o + 1,n + 1,r,h=>by
  simp only [takeN] at h
  obtain ⟨i1,i2,i3⟩:=takeN_spec l o (n + 1) r h
  refine ⟨i1,.inr (by rcases i2 with i2 | i2 <;> simp <;> omega),fun j hj=>?_⟩
  rw [i3 j hj,show o + 1 + j=(o + j) + 1 by omega,List.getElem?_cons_succ]
theorem flat_len {α:Type} {s:Nat}:∀ {xs:List (List α)},(∀ x ∈ xs,x.length=s)→xs.flatten.length=xs.length * s
 | [],_=>by simp
 | x :: xs,h=>by
  simp only [List.flatten_cons,List.length_append,List.length_cons,h x List.mem_cons_self,flat_len (fun y hy=>h y (List.mem_cons_of_mem _ hy)),Nat.add_mul]
  omega
theorem flat_get {α:Type} {s:Nat}:∀ {xs:List (List α)} {i j:Nat} {x:List α} {c:α},(∀ x ∈ xs,x.length=s)→xs[i]? = some x→x[j]? = some c→xs.flatten[i * s + j]? = some c
 | x :: xs,0,j,_,c,h,hi,hj=>by
  simp at hi
  subst hi
  rw [List.flatten_cons,List.getElem?_append_left (by simp; exact (List.getElem?_eq_some_iff.1 hj).1)]
  simpa using hj
 | x :: xs,i + 1,j,y,c,h,hi,hj=>by
  simp at hi
  have hx:=h x List.mem_cons_self
  rw [List.flatten_cons,List.getElem?_append_right (by rw [hx,Nat.add_mul]; omega),hx,show (i + 1) * s + j - s=i * s + j by rw [Nat.add_mul]; omega]
  exact flat_get (fun z hz=>h z (List.mem_cons_of_mem _ hz)) hi hj
theorem take_add {α:Type} {x l:List α} {s n:Nat} (h:x.length=s):(x ++ l).take (s + n)=x ++ l.take n:=by
 subst h
 exact List.take_length_add_append n
theorem drop_add {α:Type} {x l:List α} {s n:Nat} (h:x.length=s):(x ++ l).drop (s + n)=l.drop n:=by
 subst h
 exact List.drop_length_add_append n
theorem succ_mul' (n s:Nat):(n + 1) * s=s + n * s:=by rw [Nat.add_mul]; omega
theorem flat_take {α:Type} {s:Nat}:∀ {xs:List (List α)} (n:Nat),(∀ x ∈ xs,x.length=s)→(xs.take n).flatten=xs.flatten.take (n * s)
 | [],n,_=>by simp
 | x :: xs,0,_=>by simp
 | x :: xs,n + 1,h=>by
  have hx:=h x List.mem_cons_self
  rw [List.take_succ_cons,List.flatten_cons,List.flatten_cons,flat_take n (fun z hz=>h z (List.mem_cons_of_mem _ hz)),succ_mul',take_add hx]
theorem flat_drop {α:Type} {s:Nat}:∀ {xs:List (List α)} (n:Nat),(∀ x ∈ xs,x.length=s)→(xs.drop n).flatten=xs.flatten.drop (n * s)
 | [],n,_=>by simp
 | x :: xs,0,_=>by simp
 | x :: xs,n + 1,h=>by
  have hx:=h x List.mem_cons_self
  rw [List.drop_succ_cons,List.flatten_cons,flat_drop n (fun z hz=>h z (List.mem_cons_of_mem _ hz)),succ_mul',drop_add hx]
theorem flat_set {α:Type} {s:Nat}:∀ {xs:List (List α)} {i:Nat} {x y:List α},(∀ x ∈ xs,x.length=s)→xs[i]? = some x→y.length=s→(xs.set i y).flatten=spl xs.flatten (i * s) y
 | x :: xs,0,_,y,h,hi,hy=>by
  simp at hi
  subst hi
  have hx:=h x List.mem_cons_self
  simp only [List.set_cons_zero,List.flatten_cons,Nat.zero_mul,spl,List.take_zero,List.nil_append,Nat.zero_add,hy,List.drop_append,hx,Nat.sub_self,List.drop_zero]
  rw [List.drop_of_length_le (by omega),List.nil_append]
 | x :: xs,i + 1,z,y,h,hi,hy=>by
  simp at hi
  have hx:=h x List.mem_cons_self
  have ih:=flat_set (fun z hz=>h z (List.mem_cons_of_mem _ hz)) hi hy
  simp only [List.set_cons_succ,List.flatten_cons,ih,spl,succ_mul',take_add hx,hy]
  rw [show s + i * s + s=s + (i * s + s) by omega,drop_add hx]
  simp only [List.append_assoc]
theorem set_all {α:Type} {s:Nat} {xs:List (List α)} {i:Nat} {y:List α} (h:∀ x ∈ xs,x.length=s) (hy:y.length=s):∀ x ∈ xs.set i y,x.length=s:=by
 intro x hx
 rcases List.mem_or_eq_of_mem_set hx with h' | h'
 ·exact h x h'
 ·rw [h']; exact hy
theorem flat_spl {α:Type} {s:Nat} {xs:List (List α)} {i j:Nat} {x ys:List α} (h:∀ x ∈ xs,x.length=s) (hi:xs[i]? = some x) (hj:j + ys.length≤x.length) :
  (xs.set i (spl x j ys)).flatten=spl xs.flatten (i * s + j) ys∧i * s + j + ys.length≤xs.flatten.length:=by
 have hx:=h x (List.mem_of_getElem? hi)
 have hlt:i < xs.length:=(List.getElem?_eq_some_iff.1 hi).1
 have hle:i * s + s≤xs.flatten.length:=by
  rw [flat_len h]
  have:=Nat.mul_le_mul_right s (Nat.succ_le_of_lt hlt)
  rw [Nat.succ_mul] at this
  exact this
 refine ⟨?_,by omega⟩
 rw [flat_set h hi (by rw [spl_len hj,hx])]
 apply List.ext_getElem?
 intro k
 rw [spl_get (l:=xs.flatten) (ys:=spl x j ys) (by rw [spl_len hj]; omega),spl_get (l:=xs.flatten) (ys:=ys) (by omega),spl_len hj,hx]
 by_cases h1:i * s≤k∧k < i * s + s
 ·rw [if_pos h1,spl_get hj]
  by_cases h2:j≤k - i * s∧k - i * s < j + ys.length
  ·rw [if_pos h2,if_pos (by omega)]
   congr 1
   omega
  ·rw [if_neg h2,if_neg (by omega)]
   have hk:k - i * s < x.length:=by omega
   have:=flat_get h hi (List.getElem?_eq_getElem hk)
   rw [show i * s + (k - i * s)=k by omega] at this
   rw [this,List.getElem?_eq_getElem hk]
 ·rw [if_neg h1,if_neg (by omega)]
inductive Rep (w:World) (I:Nat→Prop):TV→Value→Prop
 | lit (v:Value):Rep w I (.lit v) v
 | hole (v:Value):Rep w I .hole v
 | buf {s:ByteArray} (e:TypeId) (h:s.size=0):Rep w I (.buf s e) nilV
 | sl {size : Nat} {xs : List (List TV)} {a : Addr} {cap : Nat} (cell : Nat → Value) (hI : 0 < xs.length → I a.block) (hc : xs.length ≤ cap) (hm : cap ≤ maxLen)
   (hl:∀ x ∈ xs,x.length=size) (hcell:∀ k,k < xs.length * size→w.cell? (a.add k)=some (cell k)) (h1:∀ k,k < xs.length * size→(cell k).oneCell'=true)
   (hr:∀ (i:Nat) (x:List TV),xs[i]? = some x→∀ (j:Nat) (c:TV),x[j]? = some c→Rep w I c (cell (i * size + j))):Rep w I (.sl false size xs) (.slice (some a) xs.length cap)
 | agg {cs : List TV} {vs : Array Value} (hl : vs.size = cs.length) (h1 : ∀ j, j < vs.size → (vs.getD j undef).oneCell' = true)
   (hr:∀ (j:Nat) (c:TV),cs[j]? = some c→Rep w I c (vs.getD j undef)):Rep w I (.agg cs) (.agg vs)
 | tup {cs:List TV} {vs:Array Value} (hl:vs.size=cs.length) (hr:∀ (j:Nat) (c:TV),cs[j]? = some c→Rep w I c (vs.getD j undef)):Rep w I (.tup cs) (.tuple vs)
theorem Rep.mv {w w':World} {I I':Nat→Prop} (hh:∀ b,I b→w'.heap[b]? = w.heap[b]?) (hI:∀ b,I b→I' b) {x:TV} {v:Value} (h:Rep w I x v):Rep w' I' x v:=by
 induction h with
 | lit v=>exact .lit v
 | hole v=>exact .hole v
 | buf e h=>exact .buf e h
 | sl cell i c m l hcell h1 _ ih =>
  exact .sl cell (fun h=>hI _ (i h)) c m l (fun k hk=>by rw [← hcell k hk]; exact World.cell?_of_block (by rw [add_block]; exact hh _ (i (Nat.pos_of_ne_zero (fun e=>by simp [e] at hk))))) h1 ih
 | agg hl h1 _ ih=>exact .agg hl h1 ih
 | tup hl _ ih=>exact .tup hl ih
structure Row (w:World) (a:Addr) (n cap size:Nat) (us:List Value) (vs:Array Value) (ty:TypeId):Prop where
 heap:w.heap[a.block]? = some (.cells vs ty (0,0))
 spot:a.spot=none
 le:n≤cap
 max:cap≤maxLen
 fit:a.off + cap * size≤vs.size
 len:us.length=n * size
 cells:∀ k,k < n * size→vs[a.off + k]? = us[k]?
 one:∀ u ∈ us,u.oneCell'=true
theorem Row.cell {w:World} {a:Addr} {n cap size:Nat} {us:List Value} {vs:Array Value} {ty:TypeId} (h:Row w a n cap size us vs ty) {k:Nat} {u:Value} (hk:us[k]? = some u):w.cell? (a.add k)=some u:=by
 have hlt:k < n * size:=by rw [← h.len]; exact (List.getElem?_eq_some_iff.1 hk).1
 have:a.add k=⟨a.block,a.off + k,none⟩:=by
  have:=h.spot
  obtain ⟨b,o,sp⟩:=a
  simp at this
  subst this
  exact add_lit b o k
 rw [this]
 simp only [World.cell?,h.heap]
 simp only [Option.isSome_none,Bool.false_eq_true,if_false]
 rw [h.cells k hlt,hk]
inductive RepO (w:World) (I:Nat→Prop):TV→Value→(Nat→Prop)→Prop
 | fr {x:TV} {v:Value} {S:Nat→Prop} (h:Rep w I x v):RepO w I x v S
 | sl {size : Nat} {xs : List (List TV)} {a : Addr} {cap : Nat} {S : Nat → Prop} (us : List Value) (vs : Array Value) (ty : TypeId) (F : Nat → Nat → Prop) (hS : S a.block)
   (row:Row w a xs.length cap size us vs ty) (hl:∀ x ∈ xs,x.length=size) (hr:∀ (k:Nat) (c:TV),xs.flatten[k]? = some c→RepO w I c (us.getD k undef) (F k))
   (hF:∀ k b,F k b→S b∧b≠a.block) (hd:∀ k k' b,F k b→F k' b→k=k'):RepO w I (.sl true size xs) (.slice (some a) xs.length cap) S
 | agg {cs : List TV} {vs : Array Value} {S : Nat → Prop} (F : Nat → Nat → Prop) (hl : vs.size = cs.length) (h1 : ∀ j, j < vs.size → (vs.getD j undef).oneCell' = true)
   (hr:∀ (j:Nat) (c:TV),cs[j]? = some c→RepO w I c (vs.getD j undef) (F j)) (hF:∀ j b,F j b→S b) (hd:∀ k k' b,F k b→F k' b→k=k'):RepO w I (.agg cs) (.agg vs) S
 | buf {s:ByteArray} {e:TypeId} {v:Value} {S:Nat→Prop} (h:w.ownsRowF 0 e 1 v s.size (Lib.strCells s)) (hS:∀ b,v.ownBlock=some b→S b):RepO w I (.buf s e) v S
 | tup {cs : List TV} {vs : Array Value} {S : Nat → Prop} (F : Nat → Nat → Prop) (hl : vs.size = cs.length)
   (hr:∀ (j:Nat) (c:TV),cs[j]? = some c→RepO w I c (vs.getD j undef) (F j)) (hF:∀ j b,F j b→S b) (hd:∀ k k' b,F k b→F k' b→k=k'):RepO w I (.tup cs) (.tuple vs) S
theorem _root_.Go.World.ownsRowF.moved {w w':World} {base:Nat} {e:TypeId} {size:Nat} {v:Value} {n:Nat} {xs:List Value} (h:w.ownsRowF base e size v n xs) (hh:∀ b,v.ownBlock=some b→w'.heap[b]? = w.heap[b]?):w'.ownsRowF base e size v n xs:=by
 refine ⟨h.1,?_⟩
 rcases h.2 with hn | ⟨g,cap,cur,fz,rfl,hb,hgg,rest⟩
 ·exact .inl hn
 ·exact .inr ⟨g,cap,cur,fz,rfl,hb,by rw [hh g rfl]; exact hgg,rest⟩
theorem RepO.mv {w w':World} {I I':Nat→Prop} (hI:∀ b,I b→w'.heap[b]? = w.heap[b]?) (hs:∀ b,I b→I' b) {x:TV} {v:Value} {S:Nat→Prop} (h:RepO w I x v S) :
  ∀ {S':Nat→Prop},(∀ b,S b→w'.heap[b]? = w.heap[b]?)→(∀ b,S b→S' b)→RepO w' I' x v S':=by
 induction h with
 | fr h=>intro S' _ _; exact .fr (h.mv hI hs)
 | @sl size xs a cap S us vs ty F hS row hl hr hF hd ih =>
  intro S' hh hSS
  exact .sl us vs ty F (hSS _ hS) ⟨by rw [hh _ hS]; exact row.heap,row.spot,row.le,row.max,row.fit,row.len,row.cells,row.one⟩ hl (fun k c hk=>ih k c hk (fun b hb=>hh b (hF k b hb).1) (fun b hb=>hb))
   (fun k b hb=>⟨hSS b (hF k b hb).1,(hF k b hb).2⟩) hd
 | @buf s e v S h hS =>
  intro S' hh hSS
  exact .buf (h.moved (fun b hb=>hh b (hS b hb))) (fun b hb=>hSS b (hS b hb))
 | @agg cs vs S F hl h1 hr hF hd ih =>
  intro S' hh hSS
  exact .agg F hl h1 (fun k c hk=>ih k c hk (fun b hb=>hh b (hF k b hb)) (fun b hb=>hb)) (fun k b hb=>hSS b (hF k b hb)) hd
 | @tup cs vs S F hl hr hF hd ih =>
  intro S' hh hSS
  exact .tup F hl (fun k c hk=>ih k c hk (fun b hb=>hh b (hF k b hb)) (fun b hb=>hb)) (fun k b hb=>hSS b (hF k b hb)) hd
theorem RepO.mono {w:World} {I:Nat→Prop} {x:TV} {v:Value} {S S':Nat→Prop} (h:RepO w I x v S) (hS:∀ b,S b→S' b):RepO w I x v S' :=
 h.mv (fun _ _=>rfl) (fun _ h=>h) (fun _ _=>rfl) hS
theorem rep_lit {w:World} {I:Nat→Prop} {v u:Value} (h:Rep w I (.lit v) u):u=v:=by cases h; rfl
theorem repO_lit {w:World} {I:Nat→Prop} {v u:Value} {S:Nat→Prop} (h:RepO w I (.lit v) u S):u=v:=by cases h with | fr h=>exact rep_lit h
theorem repO_frz {w:World} {I:Nat→Prop} {s:Nat} {xs:List (List TV)} {u:Value} {S:Nat→Prop} (h:RepO w I (.sl false s xs) u S):Rep w I (.sl false s xs) u:=by cases h with | fr h=>exact h
theorem repO_sl {w:World} {I:Nat→Prop} {o:Bool} {s:Nat} {xs:List (List TV)} {u:Value} {S:Nat→Prop} (h:RepO w I (.sl o s xs) u S):∃ a cap,u=.slice (some a) xs.length cap:=by
 cases h with
 | fr h=>cases h; exact ⟨_,_,rfl⟩
 | sl=>exact ⟨_,_,rfl⟩
theorem repO_isSl {w:World} {I:Nat→Prop} {x:TV} {u:Value} {S:Nat→Prop} (h:RepO w I x u S) (hx:x.isSl=true):∃ a n cap,u=.slice a n cap:=by
 cases x with
 | lit v =>
  have:=repO_lit h
  subst this
  cases u <;> simp [TV.isSl,isSlV] at hx ⊢
 | sl o s xs=>obtain ⟨a,cap,rfl⟩:=repO_sl h; exact ⟨_,_,_,rfl⟩
 | _=>simp [TV.isSl] at hx
theorem scV_one {v:Value} (h:scV v=true):v.oneCell'=true:=by cases v <;> first | rfl | simp [scV] at h
theorem repO_isSc {w:World} {I:Nat→Prop} {x:TV} {u:Value} {S:Nat→Prop} (h:RepO w I x u S) (hx:x.isSc=true):x=.lit u∧scV u=true:=by
 cases x with
 | lit v =>
  have:=repO_lit h
  subst this
  exact ⟨rfl,hx⟩
 | _=>simp [TV.isSc] at hx
theorem repO_lf {w:World} {I:Nat→Prop} {x:TV} {u:Value} {S:Nat→Prop} (h:RepO w I x u S):Rep w I x.lf u:=by
 cases x with
 | lit v=>have:=repO_lit h; subst this; exact .lit _
 | _=>exact .hole _
theorem frzL_eq:∀ l:List TV,frzL l=l.map frz
 | []=>rfl
 | x :: l=>by simp [frzL,frzL_eq l]
theorem frzLL_eq:∀ l:List (List TV),frzLL l=l.map fun x=>x.map frz
 | []=>rfl
 | x :: l=>by simp [frzLL,frzLL_eq l,frzL_eq]
theorem lfL_eq:∀ l:List TV,lfL l=l.map TV.lf
 | []=>rfl
 | x :: l=>by simp [lfL,lfL_eq l]
theorem lfLL_eq:∀ l:List (List TV),lfLL l=l.map fun x=>x.map TV.lf
 | []=>rfl
 | x :: l=>by simp [lfLL,lfLL_eq l,lfL_eq]
theorem Rep.frz {w:World} {I:Nat→Prop} {x:TV} {v:Value} (h:Rep w I x v):Rep w I (frz x) v:=by
 induction h with
 | lit v=>exact .lit v
 | hole v=>exact .hole v
 | buf e h=>exact .hole _
 | @sl size xs a cap cell hI hc hm hl hcell h1 _ ih =>
  simp only [Ab.frz,frzLL_eq]
  have hlen:(xs.map fun x=>x.map Ab.frz).length=xs.length:=by simp
  have key:Rep w I (.sl false size (xs.map fun x=>x.map Ab.frz)) (.slice (some a) (xs.map fun x=>x.map Ab.frz).length cap):=by
   refine .sl cell (by rw [hlen]; exact hI) (by rw [hlen]; exact hc) hm (fun x hx=>?_) (by rw [hlen]; exact hcell) (by rw [hlen]; exact h1) (fun i y hy j c hj=>?_)
   ·obtain ⟨y,hy,rfl⟩:=List.mem_map.1 hx
    simpa using hl y hy
   ·rw [List.getElem?_map] at hy
    cases hxi:xs[i]? with
    | none=>simp [hxi] at hy
    | some x =>
     simp only [hxi,Option.map_some,Option.some.injEq] at hy
     subst hy
     rw [List.getElem?_map] at hj
     cases hxj:x[j]? with
     | none=>simp [hxj] at hj
     | some c' =>
      simp only [hxj,Option.map_some,Option.some.injEq] at hj
      subst hj
      exact ih i x hxi j c' hxj
  rwa [hlen] at key
 | @agg cs vs hl h1 _ ih =>
  simp only [Ab.frz,frzL_eq]
  refine .agg (by simpa using hl) h1 (fun j c hj=>?_)
  rw [List.getElem?_map] at hj
  cases hxj:cs[j]? with
  | none=>simp [hxj] at hj
  | some c'=>simp only [hxj,Option.map_some,Option.some.injEq] at hj; subst hj; exact ih j c' hxj
 | @tup cs vs hl _ ih =>
  simp only [Ab.frz,frzL_eq]
  refine .tup (by simpa using hl) (fun j c hj=>?_)
  rw [List.getElem?_map] at hj
  cases hxj:cs[j]? with
  | none=>simp [hxj] at hj
  | some c'=>simp only [hxj,Option.map_some,Option.some.injEq] at hj; subst hj; exact ih j c' hxj
theorem RepO.frz {w:World} {I I':Nat→Prop} (hI:∀ b,I b→I' b) {x:TV} {v:Value} {S:Nat→Prop} (h:RepO w I x v S):(∀ b,S b→I' b)→Rep w I' (frz x) v:=by
 induction h with
 | fr h=>intro _; exact (h.mv (fun _ _=>rfl) hI).frz
 | buf _ _=>intro _; exact .hole _
 | @sl size xs a cap S us vs ty F hS row hl hr hF hd ih =>
  intro hSI
  simp only [Ab.frz,frzLL_eq]
  have hlen:(xs.map fun x=>x.map Ab.frz).length=xs.length:=by simp
  have key:Rep w I' (.sl false size (xs.map fun x=>x.map Ab.frz)) (.slice (some a) (xs.map fun x=>x.map Ab.frz).length cap):=by
   refine .sl (fun k=>us.getD k undef) (fun _=>hSI _ hS) (by rw [hlen]; exact row.le) row.max (fun x hx=>?_) (fun k hk=>?_) (fun k hk=>?_) (fun i y hy j c hj=>?_)
   ·obtain ⟨y,hy,rfl⟩:=List.mem_map.1 hx
    simpa using hl y hy
   ·rw [hlen] at hk
    have:k < us.length:=by rw [row.len]; exact hk
    exact row.cell (by simp [List.getElem?_eq_getElem this])
   ·rw [hlen] at hk
    have:k < us.length:=by rw [row.len]; exact hk
    simp only [List.getD_eq_getElem?_getD,List.getElem?_eq_getElem this,Option.getD_some]
    exact row.one _ (List.getElem_mem this)
   ·rw [List.getElem?_map] at hy
    cases hxi:xs[i]? with
    | none=>simp [hxi] at hy
    | some x =>
     simp only [hxi,Option.map_some,Option.some.injEq] at hy
     subst hy
     rw [List.getElem?_map] at hj
     cases hxj:x[j]? with
     | none=>simp [hxj] at hj
     | some c' =>
      simp only [hxj,Option.map_some,Option.some.injEq] at hj
      subst hj
      exact ih _ c' (flat_get hl hxi hxj) (fun b hb=>hSI b (hF _ b hb).1)
  rwa [hlen] at key
 | @agg cs vs S F hl h1 hr hF hd ih =>
  intro hSI
  simp only [Ab.frz,frzL_eq]
  refine .agg (by simpa using hl) h1 (fun j c hj=>?_)
  rw [List.getElem?_map] at hj
  cases hxj:cs[j]? with
  | none=>simp [hxj] at hj
  | some c'=>simp only [hxj,Option.map_some,Option.some.injEq] at hj; subst hj; exact ih j c' hxj (fun b hb=>hSI b (hF j b hb))
 | @tup cs vs S F hl hr hF hd ih =>
  intro hSI
  simp only [Ab.frz,frzL_eq]
  refine .tup (by simpa using hl) (fun j c hj=>?_)
  rw [List.getElem?_map] at hj
  cases hxj:cs[j]? with
  | none=>simp [hxj] at hj
  | some c'=>simp only [hxj,Option.map_some,Option.some.injEq] at hj; subst hj; exact ih j c' hxj (fun b hb=>hSI b (hF j b hb))
theorem isOwnL_mem:∀ {l:List TV},isOwnL l=true→∀ x ∈ l,isOwn x=true
 | [],_,x,hx=>by simp at hx
 | y :: l,h,x,hx=>by
  simp only [isOwnL,Bool.and_eq_true] at h
  rcases List.mem_cons.1 hx with rfl | hx
  ·exact h.1
  ·exact isOwnL_mem h.2 x hx
theorem isOwnLL_mem:∀ {l:List (List TV)},isOwnLL l=true→∀ x ∈ l,isOwnL x=true
 | [],_,x,hx=>by simp at hx
 | y :: l,h,x,hx=>by
  simp only [isOwnLL,Bool.and_eq_true] at h
  rcases List.mem_cons.1 hx with rfl | hx
  ·exact h.1
  ·exact isOwnLL_mem h.2 x hx
theorem Rep.own {w:World} {I I':Nat→Prop} {x:TV} {v:Value} (h:Rep w I x v):isOwn x=true→Rep w I' x v:=by
 induction h with
 | lit v=>intro _; exact .lit v
 | hole v=>intro _; exact .hole v
 | buf e h=>intro _; exact .buf e h
 | sl=>intro h; simp [isOwn] at h
 | @agg cs vs hl h1 _ ih=>intro h; simp only [isOwn] at h; exact .agg hl h1 (fun j c hj=>ih j c hj (isOwnL_mem h c (List.mem_of_getElem? hj)))
 | @tup cs vs hl _ ih=>intro h; simp only [isOwn] at h; exact .tup hl (fun j c hj=>ih j c hj (isOwnL_mem h c (List.mem_of_getElem? hj)))
theorem RepO.own {w:World} {I I':Nat→Prop} {x:TV} {v:Value} {S:Nat→Prop} (h:RepO w I x v S):isOwn x=true→RepO w I' x v S:=by
 induction h with
 | fr h=>intro ho; exact .fr (h.own ho)
 | buf h hS=>intro _; exact .buf h hS
 | @sl size xs a cap S us vs ty F hS row hl hr hF hd ih =>
  intro ho
  simp only [isOwn,Bool.true_and] at ho
  refine .sl us vs ty F hS row hl (fun k c hk=>ih k c hk ?_) hF hd
  obtain ⟨x,hx,hc⟩:=List.mem_flatten.1 (List.mem_of_getElem? hk)
  exact isOwnL_mem (isOwnLL_mem ho x hx) c hc
 | @agg cs vs S F hl h1 hr hF hd ih=>intro ho; simp only [isOwn] at ho; exact .agg F hl h1 (fun j c hj=>ih j c hj (isOwnL_mem ho c (List.mem_of_getElem? hj))) hF hd
 | @tup cs vs S F hl hr hF hd ih=>intro ho; simp only [isOwn] at ho; exact .tup F hl (fun j c hj=>ih j c hj (isOwnL_mem ho c (List.mem_of_getElem? hj))) hF hd
end Go.Ab
end

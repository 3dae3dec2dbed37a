import Derived.Test.YtfnpejmlcbkepaaUQ12F71
import Derived.Test.YtfnpejmlcbkepaaUQ12T
set_option linter.all false
section
set_option maxRecDepth 10000
namespace Go.Ab
inductive Dfs (bs:List DBlock):List Bool->List (Nat × List Int)->List Int->List Bool->List Int->Prop
 | done {M:List Bool} {o:List Int}:Dfs bs M [] o M o
 | leave {M M':List Bool} {n:Nat} {st:List (Nat × List Int)} {o o':List Int}:Dfs bs M st ((n:Int) :: o) M' o'->Dfs bs M ((n,[]) :: st) o M' o'
 | skip {M M':List Bool} {n:Nat} {g:Int} {l:List Int} {st:List (Nat × List Int)} {o o':List Int}:M[g.toNat]? = some true->Dfs bs M ((n,l) :: st) o M' o'->Dfs bs M ((n,g :: l) :: st) o M' o'
 | enter {M M':List Bool} {n:Nat} {g:Int} {l:List Int} {st:List (Nat × List Int)} {o o':List Int}:M[g.toNat]? = some false->Dfs bs (M.set g.toNat true) ((g.toNat,am bs g.toNat) :: (n,l) :: st) o M' o'->Dfs bs M ((n,g :: l) :: st) o M' o'
def vj (bs:List DBlock) (o:List Int):Prop:=(bs=[]/\o=[])\/(bs≠[]/\∃ M',Dfs bs ((List.replicate bs.length false).set 0 true) [(0,am bs 0)] [] M' o)
def work (M:List Bool) (st:List (Nat × List Int)):Nat:=M.count false * 5 + (st.map fun p=>p.2.length + 1).sum
theorem count_set {M:List Bool} {g:Nat} (h:M[g]? = some false):(M.set g true).count false + 1=M.count false:=by
 have hlt:=(Ek.1 h).1
 have hv:=(Ek.1 h).2
 have hm:false ∈ M:=Eu h
 have:=List.count_pos_iff.2 hm
 rw [List.count_set hlt]
 simp [hv]
 omega
theorem fL (bs:List DBlock) (i:Nat):(am bs i).length<=3:=by
 have:=Ay bs (i:Int)
 rwa [lT] at this
structure WOk (bs:List DBlock) (M:List Bool) (st:List (Nat × List Int)) (o:List Int):Prop where
 len:M.length=bs.length
 at_:∀ p ∈ st,p.1 < bs.length/\∀ g ∈ p.2,0<=g/\g.toNat < bs.length
 room:st.length + o.length<=M.count true
theorem WOk.leave {bs:List DBlock} {M:List Bool} {st:List (Nat × List Int)} {o:List Int} {n:Nat} (h:WOk bs M ((n,[]) :: st) o):WOk bs M st ((n:Int) :: o) :=
 ⟨h.len,fun p hp=>h.at_ p (Et _ hp),by have:=h.room; simp at this ⊢; omega⟩
theorem WOk.skip {bs:List DBlock} {M:List Bool} {st:List (Nat × List Int)} {o:List Int} {n:Nat} {g:Int} {l:List Int} (h:WOk bs M ((n,g :: l) :: st) o):WOk bs M ((n,l) :: st) o :=
 ⟨h.len, fun p hp => by
  rcases List.mem_cons.1 hp with rfl | hp
  ·exact ⟨(h.at_ _ Es).1,fun g' hg=>(h.at_ _ Es).2 g' (Et _ hg)⟩
  ·exact h.at_ p (Et _ hp),h.room⟩
theorem WOk.enter {bs:List DBlock} {M:List Bool} {st:List (Nat × List Int)} {o:List Int} {n:Nat} {g:Int} {l:List Int} (h:WOk bs M ((n,g :: l) :: st) o) (hg:M[g.toNat]? = some false):WOk bs (M.set g.toNat true) ((g.toNat,am bs g.toNat) :: (n,l) :: st) o:=by
 refine ⟨by rw [List.length_set]; exact h.len,fun p hp=>?_,?_⟩
 ·rcases List.mem_cons.1 hp with rfl | hp
  ·exact ⟨((h.at_ _ Es).2 g Es).2,fun g' hg=>aI hg⟩
  ·exact h.skip.at_ p hp
 ·have:=h.room
  rw [tJ hg]
  simp at this ⊢
  omega
theorem WOk.cap {bs:List DBlock} {M:List Bool} {st:List (Nat × List Int)} {o:List Int} (h:WOk bs M st o):st.length + o.length<=bs.length:=by
 have:=A4 M
 have:=h.room
 rw [<- h.len]
 omega
theorem dec7 {n:Nat} (h:0 < n) (hn:n<=9223372036854775807):pbin (.int .i64) .sub (I (n:Int)) (I (1:Int))=some (I ((n - 1:Nat):Int)):=by
 have h1:IntKind.i64.wrap ((n:Int) - 1)=((n - 1:Nat):Int):=by rw [IntKind.wrap_i64]; omega
 show some (TV.lit (.int .i64 (IntKind.i64.wrap ((n:Int) - 1))))=_
 rw [h1]
theorem AZ {g:Int} (h0:0<=g) (hi:inI g):af (I g)=some g.toNat:=by
 show (if 0<=g/\g<=9223372036854775807 then some g.toNat else none)=some g.toNat
 exact if_pos ⟨h0,hi.2⟩
section
variable {s:Nat} {α:Type} {R:List TV->α->Prop} {y:TV} {l:List α} {q:Option Bool}
theorem RL.deep (hy:RL q s R y l) {i j:Nat} {e:List TV} {z:TV} (he:Go.Ab.pel y i=some e) (hj:e[j]? = some z):bP [(i,j)] y=some z:=by
 rcases hy with ⟨rfl,rfl⟩ | ⟨o,xs,rfl,hq,h,hb⟩
 ·simp [Go.Ab.pel] at he
 ·have he:xs[i]? = some e:=he
  simp only [bP,he,hj]
theorem RL.winD (hy:RL q s R y l) {k:Nat} (hk:k<=l.length):∃ y',fq k (l.length - k) y=some y'/\RL q s R y' (l.drop k):=by
 rcases hy with ⟨rfl,rfl⟩ | ⟨o,xs,rfl,hq,h,hb⟩
 ·have:k=0:=by simpa using hk
  subst this
  exact ⟨.lit aD,rfl,by simpa using RL.nil⟩
 ·have hxl:=h.length
  refine ⟨.sl o s ((xs.drop k).take (l.length - k)),?_,.sl hq ?_ (by simp; omega)⟩
  ·simp only [fq]
   rw [if_pos (by omega)]
  ·have:=(h.drop k).take (l.length - k)
   rwa [List.take_of_length_le (l:=l.drop k) (by simp)] at this
end
def RV (q:Option Bool) (e:List TV) (p:Nat × List Int):Prop:=∃ v,e=[I p.1,v]/\RInts q v p.2
theorem RV.weak {q:Option Bool} {e:List TV} {p:Nat × List Int} (h:RV q e p):RV none e p:=by
 obtain ⟨v,rfl,h⟩:=h
 exact ⟨v,rfl,h.weak fun _ _ h=>h⟩
theorem RL.toN {y:TV} {l:List (Nat × List Int)} {q:Option Bool} (h:RL (some true) 2 (RV q) y l):RL (some true) 2 (RV none) y l:=by
 rcases h with ⟨rfl,rfl⟩ | ⟨o,xs,rfl,hq,h,hb⟩
 ·exact .nil
 ·exact .sl hq (h.mono fun _ _ h=>h.weak) hb
theorem RL.cooled {y:TV} {l:List (Nat × List Int)} {q:Option Bool} (h:RL (some true) 2 (RV q) y l):RL (some true) 2 (RV (some false)) (dD y) l:=by
 rcases h with ⟨rfl,rfl⟩ | ⟨o,xs,rfl,hq,h,hb⟩
 ·exact .nil
 ·refine .sl hq ?_ (by rw [jN,List.length_map]; exact hb)
  rw [jN]
  exact h.mapL fun e p hp=>by
   obtain ⟨v,rfl,hv⟩:=hp
   exact ⟨Ab.frz v,rfl,hv.frz fun _ _ h=>h.frz⟩
end Go.Ab
namespace Go.Ab.Q12
open Go Go.Ab Go.Proofs
theorem DT {L:List Int}:∀ (d i:Nat) (j:Int) (w:TV) (cur:List Int),(i:Int) + j=(L.length:Int) - 1->j - (i:Int)<=(d:Int)->i<=L.length->RInts (some true) w cur->cur.length=L.length ->
  (∀ k:Nat,k < L.length->cur[k]? = if k < i\/j < (k:Int) then L[L.length - 1 - k]? else L[k]?)->∃ y,aa prog 24 (f24_3 (I i) (I j) w) y/\RInts (some true) y L.reverse:=by
 have fin:∀ (i:Nat) (j:Int) (w:TV) (cur:List Int),(i:Int) + j=(L.length:Int) - 1->¬ (i:Int) < j->RInts (some true) w cur->cur.length=L.length ->
  (∀ k:Nat,k < L.length->cur[k]? = if k < i\/j < (k:Int) then L[L.length - 1 - k]? else L[k]?)->∃ y,aa prog 24 (f24_3 (I i) (I j) w) y/\RInts (some true) y L.reverse:=by
  intro i j w cur hij hn hw hcl hk
  have e:cur=L.reverse:=by
   apply List.ext_getElem?
   intro k
   by_cases h:k < L.length
   ·rw [hk k h,List.getElem?_reverse h]
    split
    ·rfl
    ·have:L.length - 1 - k=k:=by omega
     rw [this]
   ·rw [Ex (by omega),Ex (by simp; omega)]
  subst e
  refine ⟨w,?_,hw⟩
  unfold f24_3
  exact aa.tv rfl (aa.ite (v:=false) (by simp [asBool]; omega) nofun fun _=>aa.chk (hw.own fun _ _ h=>h.own) aa.ret)
 intro d
 induction d with
 | zero =>
  intro i j w cur hij hd hi hw hcl hk
  exact fin i j w cur hij (by omega) hw hcl hk
 | succ d ih =>
  intro i j w cur hij hd hi hw hcl hk
  by_cases hlt:(i:Int) < j
  ·have hbn:=hw.bnd
   obtain ⟨m,rfl⟩:∃ m:Nat,j=(m:Int):=⟨j.toNat,by omega⟩
   have hmc:m < cur.length:=by omega
   have hic:i < cur.length:=by omega
   obtain ⟨a,haa⟩:∃ a,a=cur[i]:=⟨_,rfl⟩
   obtain ⟨b,hbb⟩:∃ b,b=cur[m]:=⟨_,rfl⟩
   have ha:cur[i]? = some a:=by rw [haa]; exact El hic
   have hb:cur[m]? = some b:=by rw [hbb]; exact El hmc
   obtain ⟨e1,he1,rfl,hea⟩:=hw.pel ha
   obtain ⟨e2,he2,rfl,heb⟩:=hw.pel hb
   obtain ⟨w1,hw1,hr1⟩:=hw.i7 he1 (d:=0) (ys:=[I b]) (a:=b) ⟨rfl,heb⟩
   have hb1:(cur.set i b)[m]? = some b:=by rw [List.getElem?_set_ne (by omega)]; exact hb
   obtain ⟨e3,he3,rfl,_⟩:=hr1.pel hb1
   obtain ⟨w2,hw2,hr2⟩:=hr1.i7 he3 (d:=0) (ys:=[I a]) (a:=a) ⟨rfl,hea⟩
   obtain ⟨y,hy,hry⟩:=ih (i + 1) ((m - 1:Nat):Int) w2 _ (by omega) (by omega) (by omega) hr2 (by simpa using hcl) (fun k hkl=>by
    have hki:=hk i (by omega)
    have hkm:=hk m (by omega)
    rw [if_neg (by omega)] at hki hkm
    rw [List.getElem?_set,List.getElem?_set]
    by_cases h1:m=k
    ·subst h1
     rw [if_pos rfl,if_pos (by simpa using hmc),if_pos (by omega),<- ha,hki]
     congr 1
     omega
    ·rw [if_neg h1]
     by_cases h2:i=k
     ·subst h2
      rw [if_pos rfl,if_pos hic,if_pos (by omega),<- hb,hkm]
      congr 1
      omega
     ·rw [if_neg h2,hk k hkl]
      by_cases h3:k < i\/(m:Int) < (k:Int)
      ·rw [if_pos h3,if_pos (by omega)]
      ·rw [if_neg h3,if_neg (by omega)])
   refine ⟨y,?_,hry⟩
   have ani:af (I i)=some i:=ak (by omega)
   have anm:af (I m)=some m:=ak (by omega)
   have hm1:m < (cur.set i b).length:=by simpa using hmc
   unfold f24_3
   refine aa.tv rfl (aa.ite (v:=true) (by simp only [asBool]; exact congrArg some (decide_eq_true hlt)) (fun _=>?_) nofun)
   refine aa.nat hw.slLen (aa.nat anm (aa.chk (by simp [hw.slSize,hmc]) (aa.tvs he2 (aa.chk rfl ?_))))
   refine aa.nat hw.slLen (aa.nat ani (aa.chk (by simp [hw.slSize,hic]) (aa.tvs he1 (aa.chk rfl ?_))))
   refine aa.nat hw.slLen (aa.nat ani (aa.chk (by simp [hw.slSize,hic]) (aa.tvs he1 (aa.chk rfl (aa.tv hw1 ?_)))))
   refine aa.nat hr1.slLen (aa.nat anm (aa.chk (by simp only [hr1.slSize]; simpa using hmc) (aa.tvs he3 (aa.chk rfl (aa.tv hw2 ?_)))))
   exact aa.tv (inc hic hbn) (aa.tv (dec7 (by omega) (by omega)) (f24_3_J hy))
  ·exact fin i j w cur hij hlt hw hcl hk
end Go.Ab.Q12
end
section
set_option maxRecDepth 10000
namespace Go.Ab
theorem Bl {α:Type} {l:List α} {a:α}:(l.reverse ++ [a])[l.length]? = some a:=by
 rw [Ew (by simp)]; simp
end Go.Ab
namespace Go.Ab.Q12
open Go Go.Ab Go.Proofs
theorem zy {q:Option Bool} {b:TV} {f:DFunc} (hf:RFunc q [I f.params,I f.regs,b] f) (g:Int):∃ y,bQ prog 48 [I g,.agg [I f.params,I f.regs,b]] y/\RInts (some true) y (jk f.blocks g):=by
 obtain ⟨v,h1,h2⟩:=r71 hf g
 refine ⟨v,?_,h2⟩
 refine bQ.of (f48_MR _ _ _ _) ?_
 unfold f48_M
 exact aa.call h1 (aa.chk (ba h2.isSl) (aa.chk (h2.own fun _ _ h=>h.own) aa.ret))
section
variable {q:Option Bool} {b:TV} {f:DFunc} (hf:RFunc q [I f.params,I f.regs,b] f) (hs:f.blocks.length<=1000) {w2:TV} (h2:RInts (some true) w2 [0])
include hf hs h2
theorem AE:∀ (d:Nat) (M:List Bool) (st:List (Nat × List Int)) (o:List Int) (w3 w4 w5:TV),work M st < d->WOk f.blocks M st o->RBools (some true) w3 M->RL (some true) 2 (RV (some false)) w4 st.reverse->RInts (some true) w5 o.reverse ->
  ∃ y M' o',aa prog 24 (f24_2 (I ((1:Nat):Int)) (I ((0:Nat):Int)) w2 (I f.params) (I f.regs) b w3 w4 w5) y/\RInts (some true) y o'/\Dfs f.blocks M st o M' o':=by
 intro d
 induction d with
 | zero=>intro M st o w3 w4 w5 hd; omega
 | succ d ih =>
  intro M st o w3 w4 w5 hd hw h3 h4 h5
  have hcap:=hw.cap
  match st,hd,hw,h4,hcap with
  | [],hd,hw,h4,hcap =>
   have hol:o.length<=1000:=by simp at hcap; omega
   obtain ⟨y,hy,hr⟩:=DT (L:=o.reverse) o.reverse.length 0 ((o.reverse.length:Int) - 1) w5 o.reverse (by simp) (by simp; omega) (by simp) h5 rfl (fun k hk=>by rw [if_neg (by omega)])
   refine ⟨y,M,o,?_,by simpa using hr,.done⟩
   unfold f24_2
   refine aa.tv h4.len (aa.tv rfl (aa.ite (v:=false) (by simp [asBool]) nofun fun _=>aa.tv (inc (k:=0) (n:=1) (by omega) (by omega)) (f24_1_J ?_)))
   unfold f24_1
   exact aa.tv rfl (aa.ite cM nofun fun _=>aa.tv h5.len (aa.tv (psub (by simp only [List.length_reverse]; constructor <;> omega)) (f24_3_J hy)))
  | (n, l) :: st', hd, hw, h4, hcap =>
   have hol:st'.length + o.length < 1000:=by simp at hcap; omega
   have hlen:((n,l) :: st').reverse.length=st'.length + 1:=by simp
   have hlast:((n,l) :: st').reverse[st'.length]? = some (n,l):=by rw [List.reverse_cons]; exact Bl
   have h4b:=h4.bnd
   obtain ⟨e,he,v,rfl,hv⟩:=h4.pel hlast
   have hgp:=h4.deep he (j:=1) (z:=v) rfl
   have hnat:af (I (st'.length:Nat))=some st'.length:=ak (by omega)
   have hsub:pbin (.int .i64) .sub (I (((n,l) :: st').reverse.length:Nat)) (I 1)=some (I (st'.length:Nat)):=by
    have:=dec7 (n:=((n,l) :: st').reverse.length) (by omega) (by omega)
    rw [this,hlen]; rfl
   have hchk:(Bool.and (slSize w4 2) (Nat.blt st'.length ((n,l) :: st').reverse.length))=true:=by rw [h4.slSize,hlen]; simp
   have hfit1:ac zSl [I (n:Int),v] 1=true:=by
    show (v.isSl && true)=true
    rw [hv.isSl]; rfl
   have hfit2:du zSl [I (n:Int),v] 1=true:=by
    show ((v.isSl || v.C1) && true)=true
    rw [hv.isSl]; rfl
   have hgtr:asBool (.lit (.bool (decide (((((n,l) :: st').reverse.length:Nat):Int) > 0))))=some true:=by rw [hlen]; simp [asBool]
   match l,hd,hw,h4,hlast,hv,hsub,hchk,hlen,hgtr with
   | [], hd, hw, h4, hlast, hv, hsub, hchk, hlen, hgtr =>
    obtain ⟨w5',k1,k2⟩:=h5.app (e:=[I (n:Int)]) (a:=(n:Int)) ⟨rfl,by constructor <;> (have:=(hw.at_ _ Es).1; simp at this; omega)⟩ (by simp; omega)
    obtain ⟨w4',k3,k4⟩:=h4.win (k:=st'.length) (by omega)
    have e4:((n,([]:List Int)) :: st').reverse.take st'.length=st'.reverse:=by
     rw [List.reverse_cons,List.take_append_of_le_length (by simp),List.take_of_length_le (by simp)]
    rw [e4] at k4
    obtain ⟨y,M',o',hy,hr,hD⟩:=ih M st' ((n:Int) :: o) w3 (dD w4') w5' (by simp [work] at hd ⊢; omega) hw.leave h3 k4.cooled (by rw [List.reverse_cons]; exact k2)
    refine ⟨y,M',o',?_,hr,.leave hD⟩
    unfold f24_2
    refine aa.tv h4.len (aa.tv rfl (aa.ite (v:=true) hgtr (fun _=>?_) nofun))
    refine aa.tv h4.len (aa.tv hsub (aa.nat h4.slLen (aa.nat hnat (aa.chk hchk (aa.tvs he (aa.chk hfit1 (aa.tv hgp (aa.tv hv.len (aa.tv rfl (aa.ite (v:=true) rfl (fun _=>?_) nofun)))))))))) 
    refine aa.tv h4.len (aa.tv hsub (aa.nat h4.slLen (aa.nat hnat (aa.chk hchk (aa.tvs he (aa.chk rfl (aa.rws rfl (aa.tv k1 (aa.nat h4.slLen (aa.nat hnat (aa.chk ?_ (aa.tv k3 (f24_2_J hy)))))))))))))
    rw [h4.slSize,hlen]; simp
   | g :: l, hd, hw, h4, hlast, hv, hsub, hchk, hlen, hgtr =>
    have hg:=(hw.at_ _ Es).2 g Es
    obtain ⟨eg,heg,rfl,hgi⟩:=hv.pel (i:=0) (a:=g) rfl
    obtain ⟨v',c1,c2⟩:=hv.winD (k:=1) (by simp)
    have e1:(g :: l).drop 1=l:=rfl
    rw [e1] at c2
    obtain ⟨w4',k1,k2⟩:=h4.i7 he (d:=1) (ys:=[v']) (a:=(n,l)) ⟨v',rfl,c2⟩
    have e4:((n,g :: l) :: st').reverse.set st'.length (n,l)=((n,l) :: st').reverse:=by
     rw [List.reverse_cons,List.reverse_cons,List.set_append_right _ _ (by simp)]
     simp
    rw [e4] at k2
    have hMl:g.toNat < M.length:=by rw [hw.len]; exact hg.2
    have hMg:M[g.toNat]? = some M[g.toNat]:=El hMl
    obtain ⟨em,hem,hRm⟩:=h3.pel hMg
    cases hRm
    have hgn:af (I g)=some g.toNat:=AZ hg.1 hgi
    have h3b:=h3.bnd
    have hvl:(g :: l).length=l.length + 1:=rfl
    have front:∀ {r:TV},(M[g.toNat]=false->aa prog 24 (Prg.nat (slLen w3) fun n50=>Prg.nat (af (nth TV.hole [I g] 0)) fun n51=>Prg.chk (Bool.and (slSize w3 1) (Nat.blt n51 n50)) (Prg.tvs (pel w3 n51) fun e52=>Prg.chk (ac gG e52 0) (Prg.tv (di [] w3 n51 0 [TV.lit (Value.bool true)]) fun v53 =>
      Prg.call 48 [uv (nth TV.hole [I g] 0),TV.agg [I f.params,I f.regs,b]] fun v54=>Prg.chk (ac zSl [v54] 0) (Prg.rws (pelems 2 (TV.sl true 2 (chunks 2 1 [nth TV.hole [I g] 0,v54]))) fun r55=>Prg.tv (papp 2 w4' r55) fun v56=>Prg.jmp [0,0,1,1,0,0,1,1,0,0,1,0,1,1,12,0,1,1] (f24_2_S (I ((1:Nat):Int)) (I ((0:Nat):Int)) w2 (I f.params) (I f.regs) b v53 (dD v56) w5))))) r) ->
      (M[g.toNat]=true->aa prog 24 (Prg.jmp [0,0,1,1,0,0,1,1,0,0,1,0,1,1,12,0,1,1] (f24_2_S (I ((1:Nat):Int)) (I ((0:Nat):Int)) w2 (I f.params) (I f.regs) b w3 (dD w4') w5)) r)->aa prog 24 (f24_2 (I ((1:Nat):Int)) (I ((0:Nat):Int)) w2 (I f.params) (I f.regs) b w3 w4 w5) r:=fun {r} k0 k9=>by
     unfold f24_2
     refine aa.tv h4.len (aa.tv rfl (aa.ite (v:=true) hgtr (fun _=>?_) nofun))
     refine aa.tv h4.len (aa.tv hsub (aa.nat h4.slLen (aa.nat hnat (aa.chk hchk (aa.tvs he (aa.chk hfit1 (aa.tv hgp (aa.tv hv.len (aa.tv rfl (aa.ite (v:=false) (by simp [asBool]; omega) nofun fun _=>?_))))))))))
     refine aa.tvs he (aa.chk hfit1 (aa.tv hgp (aa.nat hv.slLen (aa.nat (v:=0) rfl (aa.chk ?_ (aa.tv hgp (aa.tvs heg (aa.chk rfl ?_))))))))
     ·rw [hv.slSize]; simp
     refine aa.tvs he (aa.chk hfit1 (aa.tv hgp (aa.nat hv.slLen (aa.nat (v:=1) rfl (aa.chk ?_ (aa.tv hgp (aa.tv c1 (aa.chk c2.gT ?_))))))))
     ·rw [hv.slSize]; simp
     refine aa.tvs he (aa.chk ?_ (aa.tv k1 (aa.nat h3.slLen (aa.nat hgn (aa.chk ?_ (aa.tvs hem (aa.chk rfl (aa.tv rfl (aa.ite rfl (fun h=>k0 ?_) fun h=>k9 ?_)))))))))
     ·rw [hfit2,ba c2.isSl]; rfl
     ·rw [h3.slSize]; simpa using hMl
     ·simpa using h
     ·simpa using h
    cases hm:M[g.toNat] with
    | true =>
     obtain ⟨y,M',o',hy,hr,hD⟩:=ih M ((n,l) :: st') o w3 (dD w4') w5 (by simp [work] at hd ⊢; omega) hw.skip h3 k2.cooled h5
     exact ⟨y,M',o',front (fun h=>by rw [hm] at h; cases h) (fun _=>f24_2_J hy),hr,.skip (by rw [hMg,hm]) hD⟩
    | false =>
     rw [hm] at hMg
     obtain ⟨w3',c3,c4⟩:=h3.i7 hem (d:=0) (ys:=[B true]) (a:=true) rfl
     obtain ⟨vn,c5,c6⟩:=zy hf g
     have e6:jk f.blocks g=am f.blocks g.toNat:=by rw [jk,if_pos hg.1]
     rw [e6] at c6
     have hgg:((g.toNat:Nat):Int)=g:=by omega
     obtain ⟨w4'',c7,c8⟩:=(RL.app (R:=RV none) (k2.toN) (e:=[I g,vn]) (a:=(g.toNat,am f.blocks g.toNat)) ⟨vn,by rw [hgg],c6.weak fun _ _ h=>h⟩ (by simp; omega))
     obtain ⟨y,M',o',hy,hr,hD⟩:=ih (M.set g.toNat true) ((g.toNat,am f.blocks g.toNat) :: (n,l) :: st') o w3' (dD w4'') w5 (by
      have h1:=count_set hMg
      have h2:=fL f.blocks g.toNat
      simp only [work,List.map_cons,List.sum_cons,List.length_cons] at hd ⊢
      omega) (hw.enter hMg) c4 (by rw [List.reverse_cons]; exact c8.cooled) h5
     refine ⟨y,M',o',front (fun _=>?_) (fun h=>by rw [hm] at h; cases h),hr,.enter hMg hD⟩
     refine aa.nat h3.slLen (aa.nat hgn (aa.chk ?_ (aa.tvs hem (aa.chk rfl (aa.tv c3 (aa.call c5 (aa.chk (ba c6.isSl) (aa.rws rfl (aa.tv c7 (f24_2_J hy))))))))))
     rw [h3.slSize]; simpa using hMl
end
theorem r80 {q:Option Bool} {e:List TV} {f:DFunc} (he:RFunc q e f) (hs:f.blocks.length<=1000):∃ y o,bQ prog 24 [.agg e] y/\RInts (some true) y o/\vj f.blocks o:=by
 have he0:=he
 obtain ⟨b,rfl,hb,_⟩:=he
 by_cases h0:f.blocks=[]
 ·refine ⟨.lit aD,[],?_,.nil,.inl ⟨h0,rfl⟩⟩
  refine bQ.of (f24_MR _) ?_
  unfold f24_M
  exact aa.chk rfl (aa.tv hb.len (aa.tv rfl (aa.ite (v:=true) (by simp [asBool,h0]) (fun _=>aa.chk rfl aa.ret) nofun)))
 ·have hl:0 < f.blocks.length:=List.length_pos_iff.2 h0
  have hrep:RBools (some true) (.sl true 1 (List.replicate f.blocks.length [B false])) (List.replicate f.blocks.length false):=.sl (by simp) (F2.tj (by simp) fun i e a he ha=>by
   rw [List.getElem?_replicate] at he ha
   split at he
   ·rename_i h; rw [if_pos h] at ha; cases he; cases ha; rfl
   ·cases he) (by simp; omega)
  obtain ⟨e7,he7,hR⟩:=hrep.pel (i:=0) (a:=false) (by rw [List.getElem?_replicate,if_pos hl])
  cases hR
  obtain ⟨w3,c1,c2⟩:=hrep.i7 he7 (d:=0) (ys:=[B true]) (a:=true) rfl
  obtain ⟨v,c3,c4⟩:=zy he0 ((0:Nat):Int)
  rw [lT] at c4
  have h2:RInts (some true) (.sl true 1 [[I ((0:Nat):Int)]]) [0]:=.sl (by simp) (.cons ⟨rfl,by constructor <;> decide⟩ .nil) (by decide)
  obtain ⟨w4,c5,c6⟩:=(RL.nil:RL (some true) 2 (RV none) (.lit aD) []).app (e:=[I ((0:Nat):Int),v]) (a:=(0,am f.blocks 0)) ⟨v,rfl,c4.weak fun _ _ h=>h⟩ (by simp)
  have hw:WOk f.blocks ((List.replicate f.blocks.length false).set 0 true) [(0,am f.blocks 0)] []:=⟨by simp,fun p hp=>by
   rw [List.mem_singleton] at hp
   subst hp
   exact ⟨hl,fun g hg=>aI hg⟩,by rw [tJ (by rw [List.getElem?_replicate,if_pos hl])]; simp⟩
  obtain ⟨y,M',o',hy,hr,hD⟩:=AE he0 hs h2 _ _ _ [] w3 (dD w4) (.lit aD) (Nat.lt_succ_self _) hw c2 c6.cooled .nil
  refine ⟨y,o',?_,hr,.inr ⟨h0,M',hD⟩⟩
  have hn:af (I (f.blocks.length:Nat))=some f.blocks.length:=ak (by omega)
  refine bQ.of (f24_MR _) ?_
  unfold f24_M
  have hk:Nat.ble f.blocks.length 4294967296=true:=by simp; omega
  refine aa.chk rfl (aa.tv hb.len (aa.tv rfl (aa.ite (v:=false) (by simp [asBool]; omega) nofun fun _=>?_)))
  refine aa.tv hb.len (aa.nat hn (aa.nat hn (aa.chk (by simp [hk]) (aa.chk rfl (aa.chk rfl (f24_0_J ?_))))))
  unfold f24_0
  refine aa.tv h2.len (f24_1_J ?_)
  unfold f24_1
  have hck:(Bool.and (slSize (.sl true 1 (List.replicate f.blocks.length [B false])) 1) (Nat.blt 0 (List.replicate f.blocks.length false).length))=true:=by rw [hrep.slSize]; simpa using hl
  refine aa.tv rfl (aa.ite (v:=true) rfl (fun _=>?_) nofun)
  refine aa.nat h2.slLen (aa.nat (v:=0) rfl (aa.chk rfl (aa.tvs (v:=[I ((0:Nat):Int)]) rfl (aa.chk rfl ?_))))
  refine aa.nat hrep.slLen (aa.nat (v:=0) rfl (aa.chk hck (aa.tvs he7 (aa.chk rfl (aa.tv rfl (aa.ite (v:=true) rfl (fun _=>?_) nofun))))))
  refine aa.nat hrep.slLen (aa.nat (v:=0) rfl (aa.chk hck (aa.tvs he7 (aa.chk rfl (aa.tv c1 ?_)))))
  exact aa.call c3 (aa.chk (ba c4.isSl) (aa.rws rfl (aa.tv c5 (f24_2_J hy))))
end Go.Ab.Q12
end
section
set_option maxRecDepth 10000
namespace Go.Ab
inductive Rc (bs:List DBlock) (no:Int):Nat->Prop
 | start (h:no≠0) (h0:0 < bs.length):Rc bs no 0
 | next {i:Nat} {g:Int} (hi:Rc bs no i) (hg:g ∈ am bs i) (hn:g≠no):Rc bs no g.toNat
def D8 (bs:List DBlock) (no:Int) (M:List Bool):Prop:=M.length=bs.length/\∀ i:Nat,M[i]? = some true ↔ Rc bs no i
theorem Rc.lt {bs:List DBlock} {no:Int} {i:Nat} (h:Rc bs no i):i < bs.length:=by
 cases h with
 | start _ h0=>exact h0
 | next _ hg _=>exact (aI hg).2
def Ckd (bs:List DBlock) (no:Int) (M:List Bool) (k:Nat):Prop:=∀ i:Nat,i < k->M[i]? = some true->∀ g ∈ am bs i,g≠no->M[g.toNat]? = some true
def SndR (bs:List DBlock) (no:Int) (M:List Bool):Prop:=∀ i:Nat,M[i]? = some true->Rc bs no i
theorem BW {bs:List DBlock} {no:Int} {M:List Bool} (hl:M.length=bs.length) (h1:SndR bs no M) (h2:no≠0->0 < bs.length->M[0]? = some true) (h3:Ckd bs no M bs.length):D8 bs no M:=by
 refine ⟨hl,fun i=>⟨h1 i,fun h=>?_⟩⟩
 induction h with
 | start h h0=>exact h2 h h0
 | next hi hg hn ih=>exact h3 _ hi.lt ih _ hg hn
theorem rP {M:List Bool} {g i:Nat} (h:M[i]? = some true):(M.set g true)[i]? = some true:=by
 rw [List.getElem?_set]
 split
 ·rename_i e
  subst e
  have:=(Ek.1 h).1
  simp [this]
 ·exact h
theorem zZ {n:Nat} (h:n<=9223372036854775807):RBools (some true) (.sl true 1 (List.replicate n [B false])) (List.replicate n false):=.sl (by simp) (F2.tj (by simp) fun i e a he ha=>by
 rw [List.getElem?_replicate] at he ha
 split at he
 ·rename_i h; rw [if_pos h] at ha; cases he; cases ha; rfl
 ·cases he) (by simpa using h)
end Go.Ab
namespace Go.Ab.Q12
open Go Go.Ab Go.Proofs
section
variable {q:Option Bool} {b:TV} {f:DFunc} (hf:RFunc q [I f.params,I f.regs,b] f) (hs:f.blocks.length<=1000) {no:Int}
include hs
include hf
end
end Go.Ab.Q12
end
section
set_option maxRecDepth 10000
namespace Go.Ab
def LedO (bs:List DBlock) (S:Nat->Prop) (o:List Int):Prop:=∀ (A:List Int) (x:Int) (B:List Int),o=A ++ x :: B->x=0\/∃ p:Nat,x ∈ am bs p/\((p:Int) ∈ A\/S p)
def Chain (bs:List DBlock):List (Nat × List Int)->Prop
 | []=>True
 | [p]=>p.1=0
 | p :: r :: l=>(p.1:Int) ∈ am bs r.1/\Chain bs (r :: l)
structure DI (bs:List DBlock) (M:List Bool) (st:List (Nat × List Int)) (o:List Int):Prop where
 len:M.length=bs.length
 at_:∀ p ∈ st,p.1 < bs.length/\∀ g ∈ p.2,g ∈ am bs p.1
 mem:∀ i:Nat,M[i]? = some true ↔ (∃ p ∈ st,p.1=i)\/(i:Int) ∈ o
 nod:(o ++ st.map fun p=>(p.1:Int)).Nodup
 out:∀ x ∈ o,0<=x/\∀ g ∈ am bs x.toNat,M[g.toNat]? = some true
 todo:∀ p ∈ st,∀ g ∈ am bs p.1,g ∈ p.2\/M[g.toNat]? = some true
 snd:SndR bs (-1) M
 led:LedO bs (fun p=>∃ r ∈ st,r.1=p) o
 chain:Chain bs st
 last:st=[]->o.head? = some 0
theorem sK {g:Int} (h:0<=g):((g.toNat:Nat):Int)=g:=by omega
theorem DI.leave {bs:List DBlock} {M:List Bool} {n:Nat} {st:List (Nat × List Int)} {o:List Int} (h:DI bs M ((n,[]) :: st) o):DI bs M st ((n:Int) :: o):=by
 refine ⟨h.len,fun p hp=>h.at_ p (Et _ hp),fun i=>?_,?_,fun x hx=>?_,fun p hp=>h.todo p (Et _ hp),h.snd,?_,?_,fun hst=>?_⟩
 ·rw [h.mem i]
  constructor
  ·rintro (⟨p,hp,rfl⟩ | hi)
   ·rcases List.mem_cons.1 hp with rfl | hp
    ·exact .inr Es
    ·exact .inl ⟨p,hp,rfl⟩
   ·exact .inr (Et _ hi)
  ·rintro (⟨p,hp,rfl⟩ | hi)
   ·exact .inl ⟨p,Et _ hp,rfl⟩
   ·rcases List.mem_cons.1 hi with hi | hi
    ·exact .inl ⟨(n,[]),Es,by omega⟩
    ·exact .inr hi
 ·have:=h.nod
  rw [List.map_cons] at this
  exact List.perm_middle.nodup_iff.1 this
 ·rcases List.mem_cons.1 hx with rfl | hx
  ·refine ⟨by omega,fun g hg=>?_⟩
   rcases h.todo (n,[]) Es g hg with h1 | h1
   ·cases h1
   ·exact h1
  ·exact h.out x hx
 ·intro A x B e
  cases A with
  | nil =>
   simp only [List.nil_append,List.cons.injEq] at e
   obtain ⟨rfl,_⟩:=e
   cases st with
   | nil=>left; have:=h.chain; simp only [Chain] at this; omega
   | cons r l=>right; exact ⟨r.1,h.chain.1,.inr ⟨r,Es,rfl⟩⟩
  | cons a A =>
   simp only [List.cons_append,List.cons.injEq] at e
   obtain ⟨rfl,e⟩:=e
   rcases h.led A x B e with h1 | ⟨p,h1,h2⟩
   ·exact .inl h1
   ·refine .inr ⟨p,h1,?_⟩
    rcases h2 with h2 | ⟨r,hr,rfl⟩
    ·exact .inl (Et _ h2)
    ·rcases List.mem_cons.1 hr with rfl | hr
     ·exact .inl Es
     ·exact .inr ⟨r,hr,rfl⟩
 ·have:=h.chain
  cases st with
  | nil=>trivial
  | cons r l=>exact this.2
 ·subst hst
  have:=h.chain
  simp only [Chain] at this
  subst this
  rfl
theorem DI.skip {bs:List DBlock} {M:List Bool} {n:Nat} {g:Int} {l:List Int} {st:List (Nat × List Int)} {o:List Int} (h:DI bs M ((n,g :: l) :: st) o) (hg:M[g.toNat]? = some true):DI bs M ((n,l) :: st) o:=by
 refine ⟨h.len,fun p hp=>?_,fun i=>?_,h.nod,h.out,fun p hp g' hg'=>?_,h.snd,fun A x B e=>?_,?_,fun hst=>(by cases hst)⟩
 ·rcases List.mem_cons.1 hp with rfl | hp
  ·exact ⟨(h.at_ _ Es).1,fun g' hg'=>(h.at_ (n,g :: l) Es).2 g' (Et _ hg')⟩
  ·exact h.at_ p (Et _ hp)
 ·rw [h.mem i]
  simp
 ·rcases List.mem_cons.1 hp with rfl | hp
  ·rcases h.todo (n,g :: l) Es g' hg' with h1 | h1
   ·rcases List.mem_cons.1 h1 with rfl | h1
    ·exact .inr hg
    ·exact .inl h1
   ·exact .inr h1
  ·exact h.todo p (Et _ hp) g' hg'
 ·rcases h.led A x B e with h1 | ⟨p,h1,h2⟩
  ·exact .inl h1
  ·refine .inr ⟨p,h1,h2.imp id ?_⟩
   rintro ⟨r,hr,rfl⟩
   rcases List.mem_cons.1 hr with rfl | hr
   ·exact ⟨(n,l),Es,rfl⟩
   ·exact ⟨r,Et _ hr,rfl⟩
 ·have:=h.chain
  cases st with
  | nil=>exact this
  | cons r l=>exact this
theorem DI.enter {bs:List DBlock} {M:List Bool} {n:Nat} {g:Int} {l:List Int} {st:List (Nat × List Int)} {o:List Int} (h:DI bs M ((n,g :: l) :: st) o) (hg:M[g.toNat]? = some false):DI bs (M.set g.toNat true) ((g.toNat,am bs g.toNat) :: (n,l) :: st) o:=by
 have hgm:=(h.at_ (n,g :: l) Es).2 g Es
 have hgt:=aI hgm
 have hlt:=(Ek.1 hg).1
 have hgc:=sK hgt.1
 have hnM:∀ i:Nat,M[i]? = some true->i≠g.toNat:=fun i hi e=>by rw [e,hg] at hi; cases hi
 refine ⟨by rw [List.length_set]; exact h.len,fun p hp=>?_,fun i=>?_,?_,fun x hx=>⟨(h.out x hx).1,fun g' hg'=>rP ((h.out x hx).2 g' hg')⟩,fun p hp g' hg'=>?_,fun i hi=>?_,fun A x B e=>?_,?_,fun hst=>(by cases hst)⟩
 ·rcases List.mem_cons.1 hp with rfl | hp
  ·exact ⟨hgt.2,fun g' hg'=>hg'⟩
  ·rcases List.mem_cons.1 hp with rfl | hp
   ·exact ⟨(h.at_ _ Es).1,fun g' hg'=>(h.at_ (n,g :: l) Es).2 g' (Et _ hg')⟩
   ·exact h.at_ p (Et _ hp)
 ·rw [nw hlt,h.mem i]
  simp only [List.mem_cons,exists_eq_or_imp]
  constructor
  ·rintro (rfl | h1)
   ·exact .inl (.inl rfl)
   ·rcases h1 with h1 | h1
    ·exact .inl (.inr h1)
    ·exact .inr h1
  ·rintro ((h1 | h1) | h1)
   ·exact .inl h1.symm
   ·exact .inr (.inl h1)
   ·exact .inr (.inr h1)
 ·have h1:=h.nod
  rw [List.map_cons] at h1 ⊢
  rw [List.perm_middle.nodup_iff,List.nodup_cons]
  refine ⟨fun hin=>?_,by rw [List.map_cons]; exact h1⟩
  have:M[g.toNat]? = some true:=by
   rw [h.mem]
   rcases List.mem_append.1 hin with hin | hin
   ·exact .inr hin
   ·obtain ⟨p,hp,he⟩:=List.mem_map.1 hin
    have he:p.1=g.toNat:=by omega
    rcases List.mem_cons.1 hp with rfl | hp
    ·exact .inl ⟨(n,g :: l),Es,he⟩
    ·exact .inl ⟨p,Et _ hp,he⟩
  rw [hg] at this
  cases this
 ·rcases List.mem_cons.1 hp with rfl | hp
  ·exact .inl hg'
  ·rcases List.mem_cons.1 hp with rfl | hp
   ·rcases h.todo (n,g :: l) Es g' hg' with h1 | h1
    ·rcases List.mem_cons.1 h1 with rfl | h1
     ·exact .inr ((nw hlt).2 (.inl rfl))
     ·exact .inl h1
    ·exact .inr (rP h1)
   ·exact (h.todo p (Et _ hp) g' hg').imp id rP
 ·rcases (nw hlt).1 hi with rfl | h1
  ·have hn:M[n]? = some true:=(h.mem n).2 (.inl ⟨(n,g :: l),Es,rfl⟩)
   exact .next (h.snd n hn) hgm (by omega)
  ·exact h.snd i h1
 ·rcases h.led A x B e with h1 | ⟨p,h1,h2⟩
  ·exact .inl h1
  ·refine .inr ⟨p,h1,h2.imp id ?_⟩
   rintro ⟨r,hr,rfl⟩
   rcases List.mem_cons.1 hr with rfl | hr
   ·exact ⟨(n,l),Et _ Es,rfl⟩
   ·exact ⟨r,Et _ (Et _ hr),rfl⟩
 ·have:=h.chain
  refine ⟨by rw [hgc]; exact hgm,?_⟩
  cases st with
  | nil=>exact this
  | cons r l=>exact this
theorem Dfs.keeps {bs:List DBlock} {M M':List Bool} {st:List (Nat × List Int)} {o o':List Int} (h:Dfs bs M st o M' o'):DI bs M st o->DI bs M' [] o':=by
 induction h with
 | done=>exact fun h=>h
 | leave _ ih=>exact fun h=>ih h.leave
 | skip hg _ ih=>exact fun h=>ih (h.skip hg)
 | enter hg _ ih=>exact fun h=>ih (h.enter hg)
theorem DI.start {bs:List DBlock} (h:bs≠[]):DI bs ((List.replicate bs.length false).set 0 true) [(0,am bs 0)] []:=by
 have hl:0 < bs.length:=List.length_pos_iff.2 h
 have hlr:0 < (List.replicate bs.length false).length:=by simpa using hl
 have none_:∀ i:Nat,¬ (List.replicate bs.length false)[i]? = some true:=fun i h=>by
  rw [List.getElem?_replicate] at h
  split at h <;> cases h
 refine ⟨by simp,fun p hp=>?_,fun i=>?_,by simp,fun x hx=>(by cases hx),fun p hp g hg=>?_,fun i hi=>?_,fun A x B e=>(by simp at e),rfl,fun hst=>(by cases hst)⟩
 ·rw [List.mem_singleton] at hp
  subst hp
  exact ⟨hl,fun g hg=>hg⟩
 ·rw [nw hlr]
  simp only [List.mem_singleton,exists_eq_left,List.not_mem_nil,or_false]
  constructor
  ·rintro (rfl | h)
   ·rfl
   ·exact absurd h (none_ i)
  ·rintro rfl
   exact .inl rfl
 ·rw [List.mem_singleton] at hp
  subst hp
  exact .inl hg
 ·rcases (nw hlr).1 hi with rfl | h
  ·exact .start (by omega) hl
  ·exact absurd h (none_ i)
structure OI (bs:List DBlock) (o:List Int):Prop where
 mem:∀ i:Nat,(i:Int) ∈ o ↔ Rc bs (-1) i
 pos:∀ x ∈ o,0<=x/\x < (bs.length:Int)
 nod:o.Nodup
 led:∀ (A:List Int) (x:Int) (B:List Int),o=A ++ x :: B->x=0\/∃ p:Nat,x ∈ am bs p/\(p:Int) ∈ A
 first:bs≠[]->o.head? = some 0
theorem vj.keeps {bs:List DBlock} {o:List Int} (h:vj bs o):OI bs o:=by
 rcases h with ⟨rfl,rfl⟩ | ⟨h0,M',hD⟩
 ·refine ⟨fun i=>⟨fun h=>(by cases h),fun h=>absurd h.lt (by simp)⟩,fun x hx=>(by cases hx),List.nodup_nil,fun A x B e=>(by simp at e),fun h=>absurd rfl h⟩
 ·have h:=hD.keeps (DI.start h0)
  have hmem:∀ i:Nat,M'[i]? = some true ↔ (i:Int) ∈ o:=fun i=>by rw [h.mem i]; simp
  have hfull:D8 bs (-1) M':=by
   have hhd:=h.last rfl
   have h0o:(0:Int) ∈ o:=by
    cases o with
    | nil=>cases hhd
    | cons a o=>simp only [List.head?_cons,Em] at hhd; subst hhd; exact Es
   refine BW h.len h.snd (fun _ _=>(hmem 0).2 h0o) (fun i _ hi g hg _=>?_)
   have:=(h.out i ((hmem i).1 hi)).2 g (by simpa using hg)
   exact this
  refine ⟨fun i=>by rw [<- hmem i]; exact hfull.2 i,fun x hx=>?_,by have:=h.nod; simpa using this,fun A x B e=>?_,fun _=>h.last rfl⟩
  ·have hx0:=(h.out x hx).1
   have:Rc bs (-1) x.toNat:=(hfull.2 _).1 ((hmem _).2 (by rw [sK hx0]; exact hx))
   have:=this.lt
   omega
  ·rcases h.led A x B e with h1 | ⟨p,h1,h2⟩
   ·exact .inl h1
   ·refine .inr ⟨p,h1,?_⟩
    rcases h2 with h2 | ⟨r,hr,_⟩
    ·exact h2
    ·cases hr
end Go.Ab
namespace Go.Ab.Q12
open Go Go.Ab Go.Proofs
end Go.Ab.Q12
end
section
set_option maxRecDepth 10000
namespace Go.Ab
theorem rem_in {p:Int} (hp:0<=p) {L:Nat} (hL:0 < L):∃ N:Nat,N < L/\pbin (.int .i64) .rem (I p) (I (L:Int))=some (I (N:Int)):=by
 have h1:0<=p.tmod L:=Int.tmod_nonneg _ hp
 have h2:p.tmod L < L:=Int.tmod_lt_of_pos _ (by omega)
 refine ⟨(p.tmod L).toNat,by omega,?_⟩
 have h3:(((p.tmod L).toNat:Nat):Int)=p.tmod L:=by omega
 rw [h3]
 show (if (L:Int)=0 then none else some (I (p.tmod L)))=_
 rw [if_neg (by omega)]
theorem uq {a:Int} (h0:0<=a) (h:a<=255):pconv (.int .i64) (.lit (.int .u8 a))=some (I a):=by
 show some (TV.lit (.int .i64 (IntKind.i64.wrap a)))=_
 rw [IntKind.wrap_i64]
 congr 4
 omega
end Go.Ab
namespace Go.Ab.Q12
open Go Go.Ab Go.Proofs
end Go.Ab.Q12
end
section
set_option maxRecDepth 10000
namespace Go.Ab
def Dm (bs:List DBlock) (a b:Nat):Prop:=Rc bs (-1) b/\(a=b\/¬ Rc bs a b)
inductive Wy (bs:List DBlock) (no:Int) (x:Nat):Nat->Prop
 | refl:Wy bs no x x
 | next {i:Nat} {g:Int} (hi:Wy bs no x i) (hg:g ∈ am bs i) (hn:g≠no):Wy bs no x g.toNat
theorem Wy.rc {bs:List DBlock} {no:Int} {x i:Nat} (hx:Rc bs no x) (h:Wy bs no x i):Rc bs no i:=by
 induction h with
 | refl=>exact hx
 | next _ hg hn ih=>exact .next ih hg hn
theorem Rc.any {bs:List DBlock} {no:Int} {i:Nat} (h:Rc bs no i):Rc bs (-1) i:=by
 induction h with
 | start _ h0=>exact .start (by omega) h0
 | next _ hg _ ih=>exact .next ih hg (by have:=aI hg; omega)
theorem Rc.C0 {bs:List DBlock} {a:Nat} (h:Rc bs a a):False:=by
 have key:∀ {i:Nat},Rc bs a i->i≠a:=by
  intro i h
  cases h with
  | start h _=>omega
  | next _ hg hn=>have:=aI hg; omega
 exact key h rfl
theorem Rc.split {bs:List DBlock} {no:Int} {c:Nat} (h:Rc bs no c) (b:Nat):Rc bs b c\/Rc bs no b:=by
 induction h with
 | start h0 hl =>
  by_cases hb:b=0
  ·subst hb; exact .inr (.start h0 hl)
  ·exact .inl (.start (by omega) hl)
 | @next i g hi hg hn ih =>
  have ht:=aI hg
  rcases ih with ih | ih
  ·by_cases hb:g=(b:Int)
   ·right
    have:=Rc.next hi hg hn
    rw [hb] at this
    simpa using this
   ·exact .inl (.next ih hg hb)
  ·exact .inr ih
theorem Dm.refl {bs:List DBlock} {b:Nat} (h:Rc bs (-1) b):Dm bs b b:=⟨h,.inl rfl⟩
theorem Dm.self {bs:List DBlock} {a b:Nat}:Dm bs a b ↔ Rc bs (-1) b/\¬ Rc bs a b:=by
 constructor
 ·rintro ⟨h,rfl | h2⟩
  ·exact ⟨h,fun h=>h.C0⟩
  ·exact ⟨h,h2⟩
 ·exact fun ⟨h1,h2⟩=>⟨h1,.inr h2⟩
theorem Dm.up {bs:List DBlock} {a b:Nat} (h:Dm bs a b):Rc bs (-1) a:=by
 rw [Dm.self] at h
 rcases h.1.split a with h1 | h1
 ·exact absurd h1 h.2
 ·exact h1
theorem Dm.trans {bs:List DBlock} {a b c:Nat} (h:Dm bs a b) (h':Dm bs b c):Dm bs a c:=by
 rw [Dm.self] at *
 refine ⟨h'.1,fun hac=>?_⟩
 rcases hac.split b with h1 | h1
 ·exact h'.2 h1
 ·exact h.2 h1
theorem BD {bs:List DBlock} {a b i:Nat} (hab:a≠b) (h:Rc bs (-1) i):(Rc bs a i/\Rc bs b i)\/Rc bs b a\/Rc bs a b:=by
 induction h with
 | start h0 hl =>
  by_cases ha:a=0
  ·subst ha; exact .inr (.inl (.start (by omega) hl))
  ·by_cases hb:b=0
   ·subst hb; exact .inr (.inr (.start (by omega) hl))
   ·exact .inl ⟨.start (by omega) hl,.start (by omega) hl⟩
 | @next i g hi hg hn ih =>
  have ht:=aI hg
  rcases ih with ⟨h1,h2⟩ | ih
  ·by_cases ha:g=(a:Int)
   ·right; left
    have:=Rc.next h2 hg (by omega)
    rw [ha] at this
    simpa using this
   ·by_cases hb:g=(b:Int)
    ·right; right
     have:=Rc.next h1 hg ha
     rw [hb] at this
     simpa using this
    ·exact .inl ⟨.next h1 hg ha,.next h2 hg hb⟩
  ·exact .inr ih
theorem DJ {bs:List DBlock} {a b i:Nat} (hab:a≠b) (h:Rc bs (-1) i):(Rc bs a i/\Rc bs b i)\/Wy bs b a i\/Wy bs a b i:=by
 induction h with
 | start h0 hl =>
  by_cases ha:a=0
  ·subst ha; exact .inr (.inl .refl)
  ·by_cases hb:b=0
   ·subst hb; exact .inr (.inr .refl)
   ·exact .inl ⟨.start (by omega) hl,.start (by omega) hl⟩
 | @next i g hi hg hn ih =>
  have ht:=aI hg
  by_cases ha:g=(a:Int)
  ·rw [ha,Int.toNat_natCast]; exact .inr (.inl .refl)
  ·by_cases hb:g=(b:Int)
   ·rw [hb,Int.toNat_natCast]; exact .inr (.inr .refl)
   ·rcases ih with ⟨h1,h2⟩ | h1 | h1
    ·exact .inl ⟨.next h1 hg ha,.next h2 hg hb⟩
    ·exact .inr (.inl (.next h1 hg hb))
    ·exact .inr (.inr (.next h1 hg ha))
theorem Dm.anti {bs:List DBlock} {a b:Nat} (h:Dm bs a b) (h':Dm bs b a):a=b:=by
 by_cases hab:a=b
 ·exact hab
 ·exfalso
  rw [Dm.self] at *
  rcases BD hab h.1 with ⟨h1,_⟩ | h1 | h1
  ·exact h.2 h1
  ·exact h'.2 h1
  ·exact h.2 h1
theorem Dm.total {bs:List DBlock} {a b c:Nat} (h:Dm bs a c) (h':Dm bs b c):Dm bs a b\/Dm bs b a:=by
 by_cases hab:a=b
 ·subst hab; exact .inl (.refl h.up)
 ·have ha:=h.up
  have hb:=h'.up
  rw [Dm.self] at h h'
  rcases DJ hab h.1 with ⟨h1,_⟩ | h1 | h1
  ·exact absurd h1 h.2
  ·right
   exact Dm.self.2 ⟨ha,fun hr=>h'.2 (h1.rc hr)⟩
  ·left
   exact Dm.self.2 ⟨hb,fun hr=>h.2 (h1.rc hr)⟩
theorem Dm.zero {bs:List DBlock} {b:Nat} (h:Rc bs (-1) b):Dm bs 0 b:=by
 refine Dm.self.2 ⟨h,fun hr=>?_⟩
 have key:∀ {i:Nat},Rc bs ((0:Nat):Int) i->False:=by
  intro i h
  induction h with
  | start h _=>exact h rfl
  | next _ _ _ ih=>exact ih
 exact key hr
theorem Dm.step {bs:List DBlock} {a b:Nat} {g:Int} (h:Rc bs (-1) b) (hg:g ∈ am bs b) (hd:Dm bs a g.toNat) (hn:g≠(a:Int)):Dm bs a b:=by
 rw [Dm.self] at *
 exact ⟨h,fun hr=>hd.2 (.next hr hg hn)⟩
def Nx (bs:List DBlock) (a b:Nat):Prop:=a≠b/\Dm bs a b/\∀ c,c≠b->Dm bs c b->Dm bs c a
theorem Nx.det {bs:List DBlock} {a a' b:Nat} (h:Nx bs a b) (h':Nx bs a' b):a=a':=(h'.2.2 a h.1 h.2.1).anti (h.2.2 a' h'.1 h'.2.1)
theorem Nx.ex {bs:List DBlock} {b:Nat} (h:Rc bs (-1) b) (hb:b≠0):∃ a,Nx bs a b:=by
 have key : ∀ k : Nat, ∃ a, a ≠ b ∧ Dm bs a b ∧ ∀ c, c < k → c ≠ b → Dm bs c b → Dm bs c a := by
  intro k
  induction k with
  | zero=>exact ⟨0,Ne.symm hb,.zero h,fun c hc=>absurd hc (Nat.not_lt_zero _)⟩
  | succ k ih =>
   obtain ⟨a,h1,h2,h3⟩:=ih
   by_cases hk:k≠b/\Dm bs k b
   ·rcases h2.total hk.2 with h4 | h4
    ·refine ⟨k,hk.1,hk.2,fun c hc hcb hcd=>?_⟩
     rcases Nat.lt_or_ge c k with h5 | h5
     ·exact (h3 c h5 hcb hcd).trans h4
     ·have:c=k:=by omega
      subst this
      exact .refl hk.2.up
    ·refine ⟨a,h1,h2,fun c hc hcb hcd=>?_⟩
     rcases Nat.lt_or_ge c k with h5 | h5
     ·exact h3 c h5 hcb hcd
     ·have:c=k:=by omega
      subst this
      exact h4
   ·refine ⟨a,h1,h2,fun c hc hcb hcd=>?_⟩
    rcases Nat.lt_or_ge c k with h5 | h5
    ·exact h3 c h5 hcb hcd
    ·have:c=k:=by omega
     subst this
     exact absurd ⟨hcb,hcd⟩ hk
 obtain ⟨a,h1,h2,h3⟩:=key bs.length
 exact ⟨a,h1,h2,fun c hc hd=>h3 c hd.up.lt hc hd⟩
end Go.Ab
end
section
set_option maxRecDepth 10000
namespace Go.Ab
open Classical in
noncomputable def ovN (bs:List DBlock) (b:Nat):Int:=if h:∃ a,Nx bs a b then ((h.choose:Nat):Int) else -1
theorem Bx {bs:List DBlock} {a b:Nat} (h:Nx bs a b):ovN bs b=(a:Int):=by
 have hx:∃ a,Nx bs a b:=⟨a,h⟩
 unfold ovN
 rw [dif_pos hx,(hx.choose_spec).det h]
theorem Nx.reached {bs:List DBlock} {a b:Nat} (h:Nx bs a b):Rc bs (-1) b/\b≠0:=by
 refine ⟨h.2.1.1,fun h0=>h.1 ?_⟩
 subst h0
 exact h.2.1.anti (.zero h.2.1.up)
theorem Bi {bs:List DBlock} {b:Nat} (h:¬ (Rc bs (-1) b/\b≠0)):ovN bs b=-1:=by
 unfold ovN
 rw [dif_neg]
 rintro ⟨a,ha⟩
 exact h ha.reached
noncomputable def iC (bs:List DBlock):List Int:=(List.range bs.length).map (ovN bs)
theorem pd (bs:List DBlock):(iC bs).length=bs.length:=by simp [iC]
theorem pl {bs:List DBlock} {b:Nat} (h:b < bs.length):(iC bs)[b]? = some (ovN bs b):=by simp [iC,h]
end Go.Ab
end
section
namespace Go.Ab
inductive Both (o:List Int):Int->Int->Int->Prop
 | done {a:Int}:Both o a a a
 | left {a b a' r:Int}:a≠b->a > b->0<=a->o[a.toNat]? = some a'->Both o a' b r->Both o a b r
 | right {a b b' r:Int}:a≠b->¬ a > b->0<=b->o[b.toNat]? = some b'->Both o a b' r->Both o a b r
inductive Bths (o:List Int):Int->List Int->Int->Prop
 | nil {v:Int}:Bths o v [] v
 | cons {v n v' r:Int} {l:List Int}:Both o v n v'->Bths o v' l r->Bths o v (n :: l) r
def AllP (o l:List Int) (r:Int):Prop:=∃ v,l.getLast? = some v/\Bths o v l.reverse r
inductive Up (T:Nat->Nat):Nat->Nat->Prop
 | refl {n:Nat}:Up T n n
 | step {n x:Nat}:n≠0->Up T (T n) x->Up T n x
def Low (N:Nat) (T:Nat->Nat):Prop:=∀ n,n≠0->n < N->T n < n
theorem Up.trans {T:Nat->Nat} {a b c:Nat} (h:Up T a b) (h':Up T b c):Up T a c:=by
 induction h with
 | refl=>exact h'
 | step h0 _ ih=>exact .step h0 (ih h')
theorem Up.le {N:Nat} {T:Nat->Nat} (hT:Low N T) {n x:Nat} (h:Up T n x):n < N->x<=n:=by
 induction h with
 | refl=>intro _; exact Nat.le_refl _
 | step h0 _ ih=>intro hn; have:=hT _ h0 hn; exact Nat.le_of_lt (Nat.lt_of_le_of_lt (ih (by omega)) this)
theorem Up.inv {T:Nat->Nat} {n x:Nat} (h:Up T n x) (hx:x≠n):n≠0/\Up T (T n) x:=by
 cases h with
 | refl=>exact absurd rfl hx
 | step h0 h=>exact ⟨h0,h⟩
theorem Up.zero {T:Nat->Nat} {x:Nat} (h:Up T 0 x):x=0:=by
 cases h with
 | refl=>rfl
 | step h0 _=>exact absurd rfl h0
def gU (N:Nat) (o:List Int) (T:Nat->Nat):Prop:=o.length=N/\∀ n,n < N->o[n]? = some ((T n:Nat):Int)
theorem DQ {N:Nat} {o:List Int} {T:Nat->Nat} (ho:gU N o T) (hT:Low N T):∀ (d a b:Nat),a + b<=d->a < N->b < N->∃ r:Nat,Both o a b r/\r<=a/\∀ x,Up T r x ↔ Up T a x/\Up T b x:=by
 intro d
 induction d with
 | zero =>
  intro a b h ha hb
  have:a=0:=by omega
  subst this
  have:b=0:=by omega
  subst this
  exact ⟨0,.done,Nat.le_refl _,fun x=>⟨fun h=>⟨h,h⟩,fun h=>h.1⟩⟩
 | succ d ih =>
  intro a b h ha hb
  by_cases hab:a=b
  ·subst hab
   exact ⟨a,.done,Nat.le_refl _,fun x=>⟨fun h=>⟨h,h⟩,fun h=>h.1⟩⟩
  ·by_cases hgt:b < a
   ·have hl:=hT a (by omega) ha
    obtain ⟨r,h1,h2,h3⟩:=ih (T a) b (by omega) (by omega) hb
    refine ⟨r,.left (by omega) (by omega) (by omega) (by rw [Int.toNat_natCast]; exact ho.2 a ha) h1,by omega,fun x=>?_⟩
    rw [h3]
    constructor
    ·exact fun ⟨h4,h5⟩=>⟨.step (by omega) h4,h5⟩
    ·rintro ⟨h4,h5⟩
     refine ⟨(h4.inv fun e=>?_).2,h5⟩
     subst e
     have:=h5.le hT hb
     omega
   ·have hl:=hT b (by omega) hb
    obtain ⟨r,h1,h2,h3⟩:=ih a (T b) (by omega) ha (by omega)
    refine ⟨r,.right (by omega) (by omega) (by omega) (by rw [Int.toNat_natCast]; exact ho.2 b hb) h1,h2,fun x=>?_⟩
    rw [h3]
    constructor
    ·exact fun ⟨h4,h5⟩=>⟨h4,.step (by omega) h5⟩
    ·rintro ⟨h4,h5⟩
     refine ⟨h4,(h5.inv fun e=>?_).2⟩
     subst e
     have:=h4.le hT ha
     omega
theorem zw {N:Nat} {o:List Int} {T:Nat->Nat} (ho:gU N o T) (hT:Low N T):∀ (l:List Nat) (v:Nat),v < N->(∀ p ∈ l,p < N)->∃ r:Nat,Bths o v (l.map fun p:Nat=>(p:Int)) r/\r<=v/\∀ x,Up T r x ↔ Up T v x/\∀ p ∈ l,Up T p x
 | [],v,hv,hl=>⟨v,.nil,Nat.le_refl _,fun x=>by simp⟩
 | p :: l,v,hv,hl=>by
  obtain ⟨r,h1,h2,h3⟩:=DQ ho hT _ v p (Nat.le_refl _) hv (hl p Es)
  obtain ⟨s,h4,h5,h6⟩:=zw ho hT l r (by omega) (fun q hq=>hl q (Et _ hq))
  refine ⟨s,.cons h1 h4,by omega,fun x=>?_⟩
  rw [h6,h3]
  simp only [List.mem_cons,forall_eq_or_imp,and_assoc]
theorem all_ex {N:Nat} {o:List Int} {T:Nat->Nat} (ho:gU N o T) (hT:Low N T) {l:List Nat} (h0:l≠[]) (hl:∀ p ∈ l,p < N):∃ r:Nat,AllP o (l.map fun p:Nat=>(p:Int)) r/\r < N/\∀ x,Up T r x ↔ ∀ p ∈ l,Up T p x:=by
 have hm:=List.getLast_mem h0
 obtain ⟨r,h1,h2,h3⟩:=zw ho hT l.reverse (l.getLast h0) (hl _ hm) (fun p hp=>hl p (List.mem_reverse.1 hp))
 have:=hl _ hm
 refine ⟨r,⟨((l.getLast h0:Nat):Int),?_,?_⟩,by omega,fun x=>?_⟩
 ·rw [List.getLast?_map,List.getLast?_eq_some_getLast h0]; rfl
 ·rw [<- List.map_reverse]; exact h1
 ·rw [h3]
  constructor
  ·exact fun h p hp=>h.2 p (List.mem_reverse.2 hp)
  ·exact fun h=>⟨h _ hm,fun p hp=>h p (List.mem_reverse.1 hp)⟩
inductive Rv (pr:Nat->List Nat) (d:Nat):Nat->Prop
 | start:0≠d->Rv pr d 0
 | next {p n:Nat}:Rv pr d p->p ∈ pr n->n≠d->Rv pr d n
structure Grf (N:Nat) (pr:Nat->List Nat) (p0:Nat->Nat):Prop where
 in_:∀ n,n < N->∀ p ∈ pr n,p < N
 mem:∀ n,n≠0->n < N->p0 n ∈ pr n
 low:∀ n,n≠0->n < N->p0 n < n
structure TI (N:Nat) (pr:Nat->List Nat) (p0:Nat->Nat) (m:Nat) (T:Nat->Nat):Prop where
 low:Low N T
 meet:∀ n,n≠0->n < N->∀ c,(∀ p ∈ pr n,Up T p c)->Up T (T n) c
 way:∀ n,n≠0->n < N->∀ x,(n < m\/m<=x)->Up T (T n) x->Up T (p0 n) x
 dom:∀ n,n < N->∀ x,¬ Rv pr x n->Up T n x
theorem TI.start {N:Nat} {pr:Nat->List Nat} {p0:Nat->Nat} (hG:Grf N pr p0) (m:Nat):TI N pr p0 m p0:=by
 refine ⟨hG.low,fun n h0 hn c h=>h _ (hG.mem n h0 hn),fun n h0 hn x _ h=>h,?_⟩
 intro n
 induction n using Nat.strongRecOn with
 | _ n ih =>
  intro hn x hx
  by_cases h0:n=0
  ·subst h0
   by_cases hx0:x=0
   ·subst hx0; exact .refl
   ·exact absurd (Rv.start (Ne.symm hx0)) hx
  ·by_cases hxn:x=n
   ·subst hxn; exact .refl
   ·have hl:=hG.low n h0 hn
    exact .step h0 (ih _ hl (by omega) x fun h=>hx (.next h (hG.mem n h0 hn) (Ne.symm hxn)))
theorem TI.again {N m:Nat} {pr:Nat->List Nat} {p0:Nat->Nat} {T:Nat->Nat} (h:TI N pr p0 m T) (hm:N<=m):TI N pr p0 1 T :=
 ⟨h.low,h.meet,fun n h0 hn x _ hu=>h.way n h0 hn x (.inl (by omega)) hu,h.dom⟩
def mO (T:Nat->Nat) (m v:Nat) (n:Nat):Nat:=if n=m then v else T n
theorem hU {T:Nat->Nat} {m v:Nat}:mO T m v m=v:=by simp [mO]
theorem fY {T:Nat->Nat} {m v n:Nat} (h:n≠m):mO T m v n=T n:=by simp [mO,h]
section
variable {N:Nat} {pr:Nat->List Nat} {p0:Nat->Nat} {m v:Nat} {T:Nat->Nat} (hG:Grf N pr p0) (h:TI N pr p0 m T) (hm0:m≠0) (hm:m < N) (hv:∀ x,Up T v x ↔ ∀ p ∈ pr m,Up T p x)
include hG h hm0 hm hv
theorem TI.lower:Up T (T m) v:=h.meet m hm0 hm v ((hv v).1 .refl)
theorem TI.xK:v<=T m:=(TI.lower hG h hm0 hm hv).le h.low (by have:=h.low m hm0 hm; omega)
theorem TI.s1 {n x:Nat} (hu:Up (mO T m v) n x):Up T n x:=by
 induction hu with
 | refl=>exact .refl
 | @step n x h0 _ ih =>
  by_cases hn:n=m
  ·subst hn
   rw [hU] at ih
   exact .step h0 ((TI.lower hG h hm0 hm hv).trans ih)
  ·rw [fY hn] at ih
   exact .step h0 ih
theorem TI.s2 {n x:Nat} (hu:Up T n x):n < N->(¬ Up T n m\/m<=x)->Up (mO T m v) n x:=by
 induction hu with
 | refl=>exact fun _ _=>.refl
 | @step n x h0 hu ih =>
  intro hn hc
  have hl:=h.low n h0 hn
  by_cases hnm:n=m
  ·subst hnm
   exfalso
   rcases hc with hc | hc
   ·exact hc .refl
   ·have:=hu.le h.low (by omega)
    omega
  ·refine .step h0 ?_
   rw [fY hnm]
   exact ih (by omega) (hc.imp (fun hc hu'=>hc (.step h0 hu')) id)
theorem TI.below {n:Nat} (hn:n < m):¬ Up T n m:=fun hu=>by
 have:=hu.le h.low (by omega)
 omega
theorem TI.v_lt:v < m:=by
 have h1:=TI.xK hG h hm0 hm hv
 have h2:=h.low m hm0 hm
 omega
theorem TI.s3 {n x:Nat} (hn:n < N) (hu:Up T n m) (hx:Up T v x):Up (mO T m v) n x:=by
 have hvl:=TI.v_lt hG h hm0 hm hv
 refine (TI.s2 hG h hm0 hm hv hu hn (.inr (Nat.le_refl _))).trans (.step hm0 ?_)
 rw [hU]
 exact TI.s2 hG h hm0 hm hv hx (by omega) (.inl (TI.below hG h hm0 hm hv hvl))
theorem TI.s4 {n c:Nat} (hu:Up T n m):n < N->Up (mO T m v) n c->c < m->Up T v c:=by
 have key:∀ {n x:Nat},Up T n x->x=m->n < N->Up (mO T m v) n c->c < m->Up T v c:=by
  intro n x hu
  induction hu with
  | @refl n =>
   rintro rfl hn hu' hc
   have:=(hu'.inv (by omega)).2
   rw [hU] at this
   exact TI.s1 hG h hm0 hm hv this
  | @step n x h0 hux ih =>
   rintro hxm hn hu' hc
   have hl:=h.low n h0 hn
   have hle:=hux.le h.low (by omega)
   have:=(hu'.inv (by omega)).2
   rw [fY (by omega)] at this
   exact ih hxm (by omega) this hc
 exact key hu rfl
theorem TI.ways {x:Nat} (hx:x < m) (hr:Rv pr x m):∀ n,n < N->Up T n m->Rv pr x n:=by
 intro n
 induction n using Nat.strongRecOn with
 | _ n ih =>
  intro hn hu
  by_cases hnm:n=m
  ·subst hnm; exact hr
  ·obtain ⟨h0,hu'⟩:=hu.inv (Ne.symm hnm)
   have hl:=hG.low n h0 hn
   have hle:=hu.le h.low hn
   have:=ih (p0 n) hl (by omega) (h.way n h0 hn m (.inr (Nat.le_refl _)) hu')
   exact .next this (hG.mem n h0 hn) (by omega)
theorem TI.next:TI N pr p0 (m + 1) (mO T m v):=by
 have hvl:=TI.v_lt hG h hm0 hm hv
 have below:=fun {n:Nat} (hn:n < m)=>TI.below hG h hm0 hm hv hn
 refine ⟨fun n h0 hn=>?_,fun n h0 hn c hc=>?_,fun n h0 hn x hx hu=>?_,fun n hn x hx=>?_⟩
 ·by_cases hnm:n=m
  ·subst hnm; rw [hU]; exact hvl
  ·rw [fY hnm]; exact h.low n h0 hn
 ·by_cases hnm:n=m
  ·subst hnm
   rw [hU]
   exact TI.s2 hG h hm0 hm hv ((hv c).2 fun p hp=>TI.s1 hG h hm0 hm hv (hc p hp)) (by omega) (.inl (below hvl))
  ·rw [fY hnm]
   have hl:=h.low n h0 hn
   have hu:=h.meet n h0 hn c fun p hp=>TI.s1 hG h hm0 hm hv (hc p hp)
   by_cases h1:Up T (T n) m
   ·by_cases h2:m<=c
    ·exact TI.s2 hG h hm0 hm hv hu (by omega) (.inr h2)
    ·have h3:=h.way n h0 hn m (.inr (Nat.le_refl _)) h1
     have hl2:=hG.low n h0 hn
     exact TI.s3 hG h hm0 hm hv (by omega) h1 (TI.s4 hG h hm0 hm hv h3 (by omega) (hc _ (hG.mem n h0 hn)) (by omega))
   ·exact TI.s2 hG h hm0 hm hv hu (by omega) (.inl h1)
 ·have hl:=hG.low n h0 hn
  by_cases hnm:n=m
  ·subst hnm
   rw [hU] at hu
   exact TI.s2 hG h hm0 hm hv ((hv x).1 (TI.s1 hG h hm0 hm hv hu) _ (hG.mem n h0 hn)) (by omega) (.inl (below hl))
  ·rw [fY hnm] at hu
   have hu:=TI.s1 hG h hm0 hm hv hu
   rcases Nat.lt_or_ge n m with h1 | h1
   ·exact TI.s2 hG h hm0 hm hv (h.way n h0 hn x (.inl h1) hu) (by omega) (.inl (below (by omega)))
   ·have hx:m<=x:=by omega
    exact TI.s2 hG h hm0 hm hv (h.way n h0 hn x (.inr hx) hu) (by omega) (.inr hx)
 ·have hu:=h.dom n hn x hx
  by_cases h1:Up T n m
  ·by_cases h2:m<=x
   ·exact TI.s2 hG h hm0 hm hv hu hn (.inr h2)
   ·have h3:¬ Rv pr x m:=fun hr=>hx (TI.ways hG h hm0 hm hv (by omega) hr n hn h1)
    refine TI.s3 hG h hm0 hm hv hn h1 ((hv x).2 fun p hp=>h.dom p (hG.in_ m hm p hp) x fun hr=>h3 (.next hr hp (by omega)))
  ·exact TI.s2 hG h hm0 hm hv hu hn (.inl h1)
end
theorem TI.last {N:Nat} {pr:Nat->List Nat} {p0:Nat->Nat} {T:Nat->Nat} {m:Nat} (hG:Grf N pr p0) (h:TI N pr p0 m T) (hf:∀ n,n≠0->n < N->∀ x,Up T (T n) x ↔ ∀ p ∈ pr n,Up T p x) {n x:Nat} (hn:n < N):Up T n x ↔ ¬ Rv pr x n:=by
 refine ⟨fun hu hr=>?_,h.dom n hn x⟩
 have key:∀ {n:Nat},Rv pr x n->n < N->¬ Up T n x:=by
  intro n hr
  induction hr with
  | start h0=>exact fun _ hu=>h0 hu.zero.symm
  | @next p n _ hp hne ih =>
   intro hn hu
   obtain ⟨h0,hu⟩:=hu.inv (Ne.symm hne)
   exact ih (hG.in_ n hn p hp) ((hf n h0 hn x).1 hu p hp)
 exact key hr hn hu
def high (T:Nat->Nat):Nat->Nat
 | 0=>0
 | n + 1=>high T n + T n
theorem wD {T:Nat->Nat} {m v:Nat}:∀ N,m < N->high (mO T m v) N + T m=high T N + v
 | 0,h=>absurd h (Nat.not_lt_zero _)
 | N + 1, h => by
  simp only [high]
  by_cases hm:m=N
  ·subst hm
   have:∀ k,k<=m->high (mO T m v) k=high T k:=by
    intro k
    induction k with
    | zero=>intro _; rfl
    | succ k ih=>intro hk; simp only [high,ih (by omega)]; rw [fY (by omega)]
   rw [this m (Nat.le_refl _),hU]
   omega
  ·have:=wD (T:=T) (m:=m) (v:=v) N (by omega)
   rw [fY (T:=T) (n:=N) (by omega)]
   omega
def bi (l:List Nat):List Int:=l.map fun p:Nat=>(p:Int)
end Go.Ab
end

import Derived.Test.YthmcbcepgchhcaaEU7F72
section
set_option linter.unusedVariables false
set_option maxRecDepth 10000
namespace Go.Ab
theorem rev_last {α:Type} {l:List α} {a:α}:(l.reverse ++ [a])[l.length]? = some a:=by
 rw [List.getElem?_append_right (by simp)]; simp
end Go.Ab
namespace Go.Ab.U7
open Go Go.Ab Go.Proofs
section
variable {q:Option Bool} {b:TV} {f:DFunc} (hf:RFunc q [I f.params,I f.regs,b] f) (hs:f.blocks.length≤1000)
include hf hs
theorem orderLoop:∀ (d:Nat) (M:List Bool) (st:List (Nat × List Int)) (o:List Int) (w3 w4 w5:TV),work M st < d→WOk f.blocks M st o→RBools (some true) w3 M→RL (some true) 2 (RV (some false)) w4 st.reverse→RInts (some true) w5 o.reverse →
  ∃ y M' o',Goes prog 31 (f31_0 (I f.params) (I f.regs) b w3 w4 w5) y∧RInts (some true) y o'∧Dfs f.blocks M st o M' o':=by
 intro d
 induction d with
 | zero=>intro M st o w3 w4 w5 hd; omega
 | succ d ih =>
  intro M st o w3 w4 w5 hd hw h3 h4 h5
  have hcap:=hw.cap
  match st,hd,hw,h4,hcap with
  | [],hd,hw,h4,hcap =>
   have hol:o.length≤1000:=by simp at hcap; omega
   obtain ⟨y,hy,hr⟩:=revLoop (y3:=I f.params) (y4:=I f.regs) (y5:=b) (w6:=w3) (w7:=w4) (L:=o.reverse) o.reverse.length 0 ((o.reverse.length:Int) - 1) w5 o.reverse (by simp) (by simp; omega) (by simp) h5 rfl (fun k hk=>by rw [if_neg (by omega)])
   refine ⟨y,M,o,?_,by simpa using hr,.done⟩
   unfold f31_0
   refine Goes.tv h4.len (Goes.tv rfl (Goes.ite (v:=false) (by simp [asBool]) (fun h=>nomatch h) fun _=>?_))
   exact Goes.tv h5.len (Goes.tv (psub (by simp only [List.length_reverse]; constructor <;> omega)) (f31_1_J hy))
  | (n, l) :: st', hd, hw, h4, hcap =>
   have hol:st'.length + o.length < 1000:=by simp at hcap; omega
   have hlen:((n,l) :: st').reverse.length=st'.length + 1:=by simp
   have hlast:((n,l) :: st').reverse[st'.length]? = some (n,l):=by rw [List.reverse_cons]; exact rev_last
   have h4b:=h4.bnd
   obtain ⟨e,he,v,rfl,hv⟩:=h4.pel hlast
   have hgp:=h4.deep he (j:=1) (z:=v) rfl
   have hnat:asNat (I (st'.length:Nat))=some st'.length:=asNat_nat (by omega)
   have hsub:pbin (.int .i64) .sub (I (((n,l) :: st').reverse.length:Nat)) (I 1)=some (I (st'.length:Nat)):=by
    have:=dec7 (n:=((n,l) :: st').reverse.length) (by omega) (by omega)
    rw [this,hlen]; rfl
   have hchk:(Bool.and (slSize w4 2) (Nat.blt st'.length ((n,l) :: st').reverse.length))=true:=by rw [h4.slSize,hlen]; simp
   have hfit1:fitsAt zSl [I (n:Int),v] 1=true:=by
    show (v.isSl && true)=true
    rw [hv.isSl]; rfl
   have hgtr:asBool (.lit (.bool (decide (((((n,l) :: st').reverse.length:Nat):Int) > 0))))=some true:=by rw [hlen]; simp [asBool]
   match l,hd,hw,h4,hlast,hv,hsub,hchk,hlen,hgtr with
   | [], hd, hw, h4, hlast, hv, hsub, hchk, hlen, hgtr =>
    obtain ⟨w5',k1,k2⟩:=h5.app (e:=[I (n:Int)]) (a:=(n:Int)) ⟨rfl,by constructor <;> (have:=(hw.at_ _ List.mem_cons_self).1; simp at this; omega)⟩ (by simp; omega)
    obtain ⟨w4',k3,k4⟩:=h4.win (k:=st'.length) (by omega)
    have e4:((n,([]:List Int)) :: st').reverse.take st'.length=st'.reverse:=by
     rw [List.reverse_cons,List.take_append_of_le_length (by simp),List.take_of_length_le (by simp)]
    rw [e4] at k4
    obtain ⟨y,M',o',hy,hr,hD⟩:=ih M st' ((n:Int) :: o) w3 (coolT w4') w5' (by simp [work] at hd ⊢; omega) hw.leave h3 k4.cooled (by rw [List.reverse_cons]; exact k2)
    refine ⟨y,M',o',?_,hr,.leave hD⟩
    unfold f31_0
    refine Goes.tv h4.len (Goes.tv rfl (Goes.ite (v:=true) hgtr (fun _=>?_) fun h=>nomatch h))
    refine Goes.tv h4.len (Goes.tv hsub (Goes.nat h4.slLen (Goes.nat hnat (Goes.chk hchk (Goes.tvs he (Goes.chk hfit1 (Goes.tv hgp (Goes.tv hv.len (Goes.tv rfl (Goes.ite (v:=true) rfl (fun _=>?_) fun h=>nomatch h)))))))))) 
    refine Goes.tv h4.len (Goes.tv hsub (Goes.nat h4.slLen (Goes.nat hnat (Goes.chk hchk (Goes.tvs he (Goes.chk rfl (Goes.rws rfl (Goes.tv k1 (Goes.nat h4.slLen (Goes.nat hnat (Goes.chk ?_ (Goes.tv k3 (f31_0_J hy)))))))))))))
    rw [h4.slSize,hlen]; simp
   | g :: l, hd, hw, h4, hlast, hv, hsub, hchk, hlen, hgtr =>
    have hg:=(hw.at_ _ List.mem_cons_self).2 g List.mem_cons_self
    obtain ⟨eg,heg,rfl,hgi⟩:=hv.pel (i:=0) (a:=g) rfl
    obtain ⟨v',c1,c2⟩:=hv.winD (k:=1) (by simp)
    have e1:(g :: l).drop 1=l:=rfl
    rw [e1] at c2
    obtain ⟨w4',k1,k2⟩:=h4.setAt he (d:=1) (ys:=[v']) (a:=(n,l)) ⟨v',rfl,c2⟩
    have e4:((n,g :: l) :: st').reverse.set st'.length (n,l)=((n,l) :: st').reverse:=by
     rw [List.reverse_cons,List.reverse_cons,List.set_append_right _ _ (by simp)]
     simp
    rw [e4] at k2
    have hMl:g.toNat < M.length:=by rw [hw.len]; exact hg.2
    have hMg:M[g.toNat]? = some M[g.toNat]:=List.getElem?_eq_getElem hMl
    obtain ⟨em,hem,hRm⟩:=h3.pel hMg
    cases hRm
    have hgn:asNat (I g)=some g.toNat:=asNat_pos hg.1 hgi
    have h3b:=h3.bnd
    have hvl:(g :: l).length=l.length + 1:=rfl
    have front:∀ {r:TV},(M[g.toNat]=false→Goes prog 31 (Prg.nat (slLen w3) fun n50=>Prg.nat (asNat (nth TV.hole [I g] 0)) fun n51=>Prg.chk (Bool.and (slSize w3 1) (Nat.blt n51 n50)) (Prg.tvs (pel w3 n51) fun e52=>Prg.chk (fitsAt zBool e52 0) (Prg.tv (setC [] w3 n51 0 [TV.lit (Value.bool true)]) fun v53 =>
      Prg.call 24 [TV.agg [I f.params,I f.regs,b],nth TV.hole [I g] 0] fun v54=>Prg.chk (fitsAt zSl [v54] 0) (Prg.rws (pelems 2 (TV.sl true 2 (chunks 2 1 [nth TV.hole [I g] 0,v54]))) fun r55=>Prg.tv (papp 2 w4' r55) fun v56=>Prg.jmp [0,0,0,1,1,1,1] (f31_0_S (I f.params) (I f.regs) b v53 (coolT v56) w5))))) r) →
      (M[g.toNat]=true→Goes prog 31 (Prg.jmp [0,0,0,1,1,1,1] (f31_0_S (I f.params) (I f.regs) b w3 (coolT w4') w5)) r)→Goes prog 31 (f31_0 (I f.params) (I f.regs) b w3 w4 w5) r:=fun {r} k0 k9=>by
     unfold f31_0
     refine Goes.tv h4.len (Goes.tv rfl (Goes.ite (v:=true) hgtr (fun _=>?_) fun h=>nomatch h))
     refine Goes.tv h4.len (Goes.tv hsub (Goes.nat h4.slLen (Goes.nat hnat (Goes.chk hchk (Goes.tvs he (Goes.chk hfit1 (Goes.tv hgp (Goes.tv hv.len (Goes.tv rfl (Goes.ite (v:=false) (by simp [asBool]; omega) (fun h=>nomatch h) fun _=>?_))))))))))
     refine Goes.tvs he (Goes.chk hfit1 (Goes.tv hgp (Goes.nat hv.slLen (Goes.nat (v:=0) rfl (Goes.chk ?_ (Goes.tv hgp (Goes.tvs heg (Goes.chk rfl ?_))))))))
     ·rw [hv.slSize]; simp
     refine Goes.tvs he (Goes.chk hfit1 (Goes.tv hgp (Goes.nat hv.slLen (Goes.nat (v:=1) rfl (Goes.chk ?_ (Goes.tv hgp (Goes.tv c1 (Goes.chk c2.isFr ?_))))))))
     ·rw [hv.slSize]; simp
     refine Goes.tvs he (Goes.chk ?_ (Goes.tv k1 (Goes.nat h3.slLen (Goes.nat hgn (Goes.chk ?_ (Goes.tvs hem (Goes.chk rfl (Goes.tv rfl (Goes.ite rfl (fun h=>k0 ?_) fun h=>k9 ?_)))))))))
     ·rw [hfit1,fit_slc c2.isSl]; rfl
     ·rw [h3.slSize]; simpa using hMl
     ·simpa using h
     ·simpa using h
    cases hm:M[g.toNat] with
    | true =>
     obtain ⟨y,M',o',hy,hr,hD⟩:=ih M ((n,l) :: st') o w3 (coolT w4') w5 (by simp [work] at hd ⊢; omega) hw.skip h3 k2.cooled h5
     exact ⟨y,M',o',front (fun h=>by rw [hm] at h; cases h) (fun _=>f31_0_J hy),hr,.skip (by rw [hMg,hm]) hD⟩
    | false =>
     rw [hm] at hMg
     obtain ⟨w3',c3,c4⟩:=h3.setAt hem (d:=0) (ys:=[B true]) (a:=true) rfl
     obtain ⟨vn,c5,c6⟩:=r71 hf g
     have e6:nextL f.blocks g=nextAt f.blocks g.toNat:=by rw [nextL,if_pos hg.1]
     rw [e6] at c6
     have hgg:((g.toNat:Nat):Int)=g:=by omega
     obtain ⟨w4'',c7,c8⟩:=(RL.app (R:=RV none) (k2.toN) (e:=[I g,vn]) (a:=(g.toNat,nextAt f.blocks g.toNat)) ⟨vn,by rw [hgg],c6.weak fun _ _ h=>h⟩ (by simp; omega))
     obtain ⟨y,M',o',hy,hr,hD⟩:=ih (M.set g.toNat true) ((g.toNat,nextAt f.blocks g.toNat) :: (n,l) :: st') o w3' (coolT w4'') w5 (by
      have h1:=count_set hMg
      have h2:=nextAt_len f.blocks g.toNat
      simp only [work,List.map_cons,List.sum_cons,List.length_cons] at hd ⊢
      omega) (hw.enter hMg) c4 (by rw [List.reverse_cons]; exact c8.cooled) h5
     refine ⟨y,M',o',front (fun _=>?_) (fun h=>by rw [hm] at h; cases h),hr,.enter hMg hD⟩
     refine Goes.nat h3.slLen (Goes.nat hgn (Goes.chk ?_ (Goes.tvs hem (Goes.chk rfl (Goes.tv c3 (Goes.call c5 (Goes.chk (fit_slc c6.isSl) (Goes.rws rfl (Goes.tv c7 (f31_0_J hy))))))))))
     rw [h3.slSize]; simpa using hMl
end
theorem r80 {q:Option Bool} {e:List TV} {f:DFunc} (he:RFunc q e f) (hs:f.blocks.length≤1000):∃ y o,Runs prog 31 [.agg e] y∧RInts (some true) y o∧OrderP f.blocks o:=by
 have he0:=he
 obtain ⟨b,rfl,hb,_⟩:=he
 by_cases h0:f.blocks=[]
 ·refine ⟨.lit nilV,[],?_,.nil,.inl ⟨h0,rfl⟩⟩
  refine Runs.of (f31_MR _) ?_
  unfold f31_M
  exact Goes.chk rfl (Goes.tv hb.len (Goes.tv rfl (Goes.ite (v:=true) (by simp [asBool,h0]) (fun _=>Goes.chk rfl Goes.ret) fun h=>nomatch h)))
 ·have hl:0 < f.blocks.length:=List.length_pos_iff.2 h0
  have hrep:RBools (some true) (.sl true 1 (List.replicate f.blocks.length [B false])) (List.replicate f.blocks.length false):=.sl (by simp) (F2.of_get (by simp) fun i e a he ha=>by
   rw [List.getElem?_replicate] at he ha
   split at he
   ·rename_i h; rw [if_pos h] at ha; cases he; cases ha; rfl
   ·cases he) (by simp; omega)
  obtain ⟨e7,he7,hR⟩:=hrep.pel (i:=0) (a:=false) (by rw [List.getElem?_replicate,if_pos hl])
  cases hR
  obtain ⟨w3,c1,c2⟩:=hrep.setAt he7 (d:=0) (ys:=[B true]) (a:=true) rfl
  obtain ⟨v,c3,c4⟩:=r71 he0 ((0:Nat):Int)
  rw [nextL_nat] at c4
  obtain ⟨w4,c5,c6⟩:=(RL.nil:RL (some true) 2 (RV none) (.lit nilV) []).app (e:=[I ((0:Nat):Int),v]) (a:=(0,nextAt f.blocks 0)) ⟨v,rfl,c4.weak fun _ _ h=>h⟩ (by simp)
  have hw:WOk f.blocks ((List.replicate f.blocks.length false).set 0 true) [(0,nextAt f.blocks 0)] []:=⟨by simp,fun p hp=>by
   rw [List.mem_singleton] at hp
   subst hp
   exact ⟨hl,fun g hg=>nextAt_there hg⟩,by rw [set_count (by rw [List.getElem?_replicate,if_pos hl])]; simp⟩
  obtain ⟨y,M',o',hy,hr,hD⟩:=orderLoop he0 hs _ _ _ [] w3 (coolT w4) (.lit nilV) (Nat.lt_succ_self _) hw c2 c6.cooled .nil
  refine ⟨y,o',?_,hr,.inr ⟨h0,M',hD⟩⟩
  have hn:asNat (I (f.blocks.length:Nat))=some f.blocks.length:=asNat_nat (by omega)
  refine Runs.of (f31_MR _) ?_
  unfold f31_M
  refine Goes.chk rfl (Goes.tv hb.len (Goes.tv rfl (Goes.ite (v:=false) (by simp [asBool]; omega) (fun h=>nomatch h) fun _=>?_)))
  refine Goes.tv hb.len (Goes.nat hn (Goes.nat hn (Goes.chk ?_ (Goes.nat hrep.slLen (Goes.nat (v:=0) rfl (Goes.chk ?_ (Goes.tvs he7 (Goes.chk rfl (Goes.tv c1 ?_)))))))))
  ·have:Nat.ble f.blocks.length 4294967296=true:=by simp; omega
   simp [this]
  ·rw [hrep.slSize]; simpa using hl
  exact Goes.call c3 (Goes.chk (fit_slc c4.isSl) (Goes.rws rfl (Goes.tv c5 (Goes.chk rfl (f31_0_J hy)))))
end Go.Ab.U7
end
section
set_option linter.unusedVariables false
set_option maxRecDepth 10000
namespace Go.Ab
inductive Rc (bs:List DBlock) (no:Int):Nat→Prop
 | start (h:no≠0) (h0:0 < bs.length):Rc bs no 0
 | next {i:Nat} {g:Int} (hi:Rc bs no i) (hg:g ∈ nextAt bs i) (hn:g≠no):Rc bs no g.toNat
def FullR (bs:List DBlock) (no:Int) (M:List Bool):Prop:=M.length=bs.length∧∀ i:Nat,M[i]? = some true ↔ Rc bs no i
theorem Rc.lt {bs:List DBlock} {no:Int} {i:Nat} (h:Rc bs no i):i < bs.length:=by
 cases h with
 | start _ h0=>exact h0
 | next _ hg _=>exact (nextAt_there hg).2
def Ckd (bs:List DBlock) (no:Int) (M:List Bool) (k:Nat):Prop:=∀ i:Nat,i < k→M[i]? = some true→∀ g ∈ nextAt bs i,g≠no→M[g.toNat]? = some true
def SndR (bs:List DBlock) (no:Int) (M:List Bool):Prop:=∀ i:Nat,M[i]? = some true→Rc bs no i
theorem fullR_of {bs:List DBlock} {no:Int} {M:List Bool} (hl:M.length=bs.length) (h1:SndR bs no M) (h2:no≠0→0 < bs.length→M[0]? = some true) (h3:Ckd bs no M bs.length):FullR bs no M:=by
 refine ⟨hl,fun i=>⟨h1 i,fun h=>?_⟩⟩
 induction h with
 | start h h0=>exact h2 h h0
 | next hi hg hn ih=>exact h3 _ hi.lt ih _ hg hn
theorem set_true {M:List Bool} {g i:Nat} (h:M[i]? = some true):(M.set g true)[i]? = some true:=by
 rw [List.getElem?_set]
 split
 ·rename_i e
  subst e
  have:=(List.getElem?_eq_some_iff.1 h).1
  simp [this]
 ·exact h
theorem rep_bools {n:Nat} (h:n≤9223372036854775807):RBools (some true) (.sl true 1 (List.replicate n [B false])) (List.replicate n false):=.sl (by simp) (F2.of_get (by simp) fun i e a he ha=>by
 rw [List.getElem?_replicate] at he ha
 split at he
 ·rename_i h; rw [if_pos h] at ha; cases he; cases ha; rfl
 ·cases he) (by simpa using h)
end Go.Ab
namespace Go.Ab.U7
open Go Go.Ab Go.Proofs
section
variable {q:Option Bool} {b:TV} {f:DFunc} (hf:RFunc q [I f.params,I f.regs,b] f) (hs:f.blocks.length≤1000) {no:Int}
include hs
include hf
end
end Go.Ab.U7
end
section
set_option linter.unusedVariables false
set_option maxRecDepth 10000
namespace Go.Ab
def LedO (bs:List DBlock) (S:Nat→Prop) (o:List Int):Prop:=∀ (A:List Int) (x:Int) (B:List Int),o=A ++ x :: B→x=0∨∃ p:Nat,x ∈ nextAt bs p∧((p:Int) ∈ A∨S p)
def Chain (bs:List DBlock):List (Nat × List Int)→Prop
 | []=>True
 | [p]=>p.1=0
 | p :: r :: l=>(p.1:Int) ∈ nextAt bs r.1∧Chain bs (r :: l)
structure DI (bs:List DBlock) (M:List Bool) (st:List (Nat × List Int)) (o:List Int):Prop where
 len:M.length=bs.length
 at_:∀ p ∈ st,p.1 < bs.length∧∀ g ∈ p.2,g ∈ nextAt bs p.1
 mem:∀ i:Nat,M[i]? = some true ↔ (∃ p ∈ st,p.1=i)∨(i:Int) ∈ o
 nod:(o ++ st.map fun p=>(p.1:Int)).Nodup
 out:∀ x ∈ o,0≤x∧∀ g ∈ nextAt bs x.toNat,M[g.toNat]? = some true
 todo:∀ p ∈ st,∀ g ∈ nextAt bs p.1,g ∈ p.2∨M[g.toNat]? = some true
 snd:SndR bs (-1) M
 led:LedO bs (fun p=>∃ r ∈ st,r.1=p) o
 chain:Chain bs st
 last:st=[]→o.head? = some 0
theorem toNat_cast {g:Int} (h:0≤g):((g.toNat:Nat):Int)=g:=by omega
theorem DI.leave {bs:List DBlock} {M:List Bool} {n:Nat} {st:List (Nat × List Int)} {o:List Int} (h:DI bs M ((n,[]) :: st) o):DI bs M st ((n:Int) :: o):=by
 refine ⟨h.len,fun p hp=>h.at_ p (List.mem_cons_of_mem _ hp),fun i=>?_,?_,fun x hx=>?_,fun p hp=>h.todo p (List.mem_cons_of_mem _ hp),h.snd,?_,?_,fun hst=>?_⟩
 ·rw [h.mem i]
  constructor
  ·rintro (⟨p,hp,rfl⟩ | hi)
   ·rcases List.mem_cons.1 hp with rfl | hp
    ·exact .inr List.mem_cons_self
    ·exact .inl ⟨p,hp,rfl⟩
   ·exact .inr (List.mem_cons_of_mem _ hi)
  ·rintro (⟨p,hp,rfl⟩ | hi)
   ·exact .inl ⟨p,List.mem_cons_of_mem _ hp,rfl⟩
   ·rcases List.mem_cons.1 hi with hi | hi
    ·exact .inl ⟨(n,[]),List.mem_cons_self,by omega⟩
    ·exact .inr hi
 ·have:=h.nod
  rw [List.map_cons] at this
  exact List.perm_middle.nodup_iff.1 this
 ·rcases List.mem_cons.1 hx with rfl | hx
  ·refine ⟨by omega,fun g hg=>?_⟩
   rcases h.todo (n,[]) List.mem_cons_self g hg with h1 | h1
   ·cases h1
   ·exact h1
  ·exact h.out x hx
 ·intro A x B e
  cases A with
  | nil =>
   simp only [List.nil_append,List.cons.injEq] at e
   obtain ⟨rfl,_⟩:=e
   cases st with
   | nil=>left; have:=h.chain; simp only [Chain] at this; omega
   | cons r l=>right; exact ⟨r.1,h.chain.1,.inr ⟨r,List.mem_cons_self,rfl⟩⟩
  | cons a A =>
   simp only [List.cons_append,List.cons.injEq] at e
   obtain ⟨rfl,e⟩:=e
   rcases h.led A x B e with h1 | ⟨p,h1,h2⟩
   ·exact .inl h1
   ·refine .inr ⟨p,h1,?_⟩
    rcases h2 with h2 | ⟨r,hr,rfl⟩
    ·exact .inl (List.mem_cons_of_mem _ h2)
    ·rcases List.mem_cons.1 hr with rfl | hr
     ·exact .inl List.mem_cons_self
     ·exact .inr ⟨r,hr,rfl⟩
 ·have:=h.chain
  cases st with
  | nil=>trivial
  | cons r l=>exact this.2
 ·subst hst
  have:=h.chain
  simp only [Chain] at this
  subst this
  rfl
theorem DI.skip {bs:List DBlock} {M:List Bool} {n:Nat} {g:Int} {l:List Int} {st:List (Nat × List Int)} {o:List Int} (h:DI bs M ((n,g :: l) :: st) o) (hg:M[g.toNat]? = some true):DI bs M ((n,l) :: st) o:=by
 refine ⟨h.len,fun p hp=>?_,fun i=>?_,h.nod,h.out,fun p hp g' hg'=>?_,h.snd,fun A x B e=>?_,?_,fun hst=>(by cases hst)⟩
 ·rcases List.mem_cons.1 hp with rfl | hp
  ·exact ⟨(h.at_ _ List.mem_cons_self).1,fun g' hg'=>(h.at_ (n,g :: l) List.mem_cons_self).2 g' (List.mem_cons_of_mem _ hg')⟩
  ·exact h.at_ p (List.mem_cons_of_mem _ hp)
 ·rw [h.mem i]
  simp
 ·rcases List.mem_cons.1 hp with rfl | hp
  ·rcases h.todo (n,g :: l) List.mem_cons_self g' hg' with h1 | h1
   ·rcases List.mem_cons.1 h1 with rfl | h1
    ·exact .inr hg
    ·exact .inl h1
   ·exact .inr h1
  ·exact h.todo p (List.mem_cons_of_mem _ hp) g' hg'
 ·rcases h.led A x B e with h1 | ⟨p,h1,h2⟩
  ·exact .inl h1
  ·refine .inr ⟨p,h1,h2.imp id ?_⟩
   rintro ⟨r,hr,rfl⟩
   rcases List.mem_cons.1 hr with rfl | hr
   ·exact ⟨(n,l),List.mem_cons_self,rfl⟩
   ·exact ⟨r,List.mem_cons_of_mem _ hr,rfl⟩
 ·have:=h.chain
  cases st with
  | nil=>exact this
  | cons r l=>exact this
theorem DI.enter {bs:List DBlock} {M:List Bool} {n:Nat} {g:Int} {l:List Int} {st:List (Nat × List Int)} {o:List Int} (h:DI bs M ((n,g :: l) :: st) o) (hg:M[g.toNat]? = some false):DI bs (M.set g.toNat true) ((g.toNat,nextAt bs g.toNat) :: (n,l) :: st) o:=by
 have hgm:=(h.at_ (n,g :: l) List.mem_cons_self).2 g List.mem_cons_self
 have hgt:=nextAt_there hgm
 have hlt:=(List.getElem?_eq_some_iff.1 hg).1
 have hgc:=toNat_cast hgt.1
 have hnM:∀ i:Nat,M[i]? = some true→i≠g.toNat:=fun i hi e=>by rw [e,hg] at hi; cases hi
 refine ⟨by rw [List.length_set]; exact h.len,fun p hp=>?_,fun i=>?_,?_,fun x hx=>⟨(h.out x hx).1,fun g' hg'=>set_true ((h.out x hx).2 g' hg')⟩,fun p hp g' hg'=>?_,fun i hi=>?_,fun A x B e=>?_,?_,fun hst=>(by cases hst)⟩
 ·rcases List.mem_cons.1 hp with rfl | hp
  ·exact ⟨hgt.2,fun g' hg'=>hg'⟩
  ·rcases List.mem_cons.1 hp with rfl | hp
   ·exact ⟨(h.at_ _ List.mem_cons_self).1,fun g' hg'=>(h.at_ (n,g :: l) List.mem_cons_self).2 g' (List.mem_cons_of_mem _ hg')⟩
   ·exact h.at_ p (List.mem_cons_of_mem _ hp)
 ·rw [set_get hlt,h.mem i]
  simp only [List.mem_cons,exists_eq_or_imp]
  constructor
  ·rintro (rfl | h1)
   ·exact .inl (.inl rfl)
   ·rcases h1 with h1 | h1
    ·exact .inl (.inr h1)
    ·exact .inr h1
  ·rintro ((h1 | h1) | h1)
   ·exact .inl h1.symm
   ·exact .inr (.inl h1)
   ·exact .inr (.inr h1)
 ·have h1:=h.nod
  rw [List.map_cons] at h1 ⊢
  rw [List.perm_middle.nodup_iff,List.nodup_cons]
  refine ⟨fun hin=>?_,by rw [List.map_cons]; exact h1⟩
  have:M[g.toNat]? = some true:=by
   rw [h.mem]
   rcases List.mem_append.1 hin with hin | hin
   ·exact .inr hin
   ·obtain ⟨p,hp,he⟩:=List.mem_map.1 hin
    have he:p.1=g.toNat:=by omega
    rcases List.mem_cons.1 hp with rfl | hp
    ·exact .inl ⟨(n,g :: l),List.mem_cons_self,he⟩
    ·exact .inl ⟨p,List.mem_cons_of_mem _ hp,he⟩
  rw [hg] at this
  cases this
 ·rcases List.mem_cons.1 hp with rfl | hp
  ·exact .inl hg'
  ·rcases List.mem_cons.1 hp with rfl | hp
   ·rcases h.todo (n,g :: l) List.mem_cons_self g' hg' with h1 | h1
    ·rcases List.mem_cons.1 h1 with rfl | h1
     ·exact .inr ((set_get hlt).2 (.inl rfl))
     ·exact .inl h1
    ·exact .inr (set_true h1)
   ·exact (h.todo p (List.mem_cons_of_mem _ hp) g' hg').imp id set_true
 ·rcases (set_get hlt).1 hi with rfl | h1
  ·have hn:M[n]? = some true:=(h.mem n).2 (.inl ⟨(n,g :: l),List.mem_cons_self,rfl⟩)
   exact .next (h.snd n hn) hgm (by omega)
  ·exact h.snd i h1
 ·rcases h.led A x B e with h1 | ⟨p,h1,h2⟩
  ·exact .inl h1
  ·refine .inr ⟨p,h1,h2.imp id ?_⟩
   rintro ⟨r,hr,rfl⟩
   rcases List.mem_cons.1 hr with rfl | hr
   ·exact ⟨(n,l),List.mem_cons_of_mem _ List.mem_cons_self,rfl⟩
   ·exact ⟨r,List.mem_cons_of_mem _ (List.mem_cons_of_mem _ hr),rfl⟩
 ·have:=h.chain
  refine ⟨by rw [hgc]; exact hgm,?_⟩
  cases st with
  | nil=>exact this
  | cons r l=>exact this
theorem Dfs.keeps {bs:List DBlock} {M M':List Bool} {st:List (Nat × List Int)} {o o':List Int} (h:Dfs bs M st o M' o'):DI bs M st o→DI bs M' [] o':=by
 induction h with
 | done=>exact fun h=>h
 | leave _ ih=>exact fun h=>ih h.leave
 | skip hg _ ih=>exact fun h=>ih (h.skip hg)
 | enter hg _ ih=>exact fun h=>ih (h.enter hg)
theorem DI.start {bs:List DBlock} (h:bs≠[]):DI bs ((List.replicate bs.length false).set 0 true) [(0,nextAt bs 0)] []:=by
 have hl:0 < bs.length:=List.length_pos_iff.2 h
 have hlr:0 < (List.replicate bs.length false).length:=by simpa using hl
 have none_:∀ i:Nat,¬ (List.replicate bs.length false)[i]? = some true:=fun i h=>by
  rw [List.getElem?_replicate] at h
  split at h <;> cases h
 refine ⟨by simp,fun p hp=>?_,fun i=>?_,by simp,fun x hx=>(by cases hx),fun p hp g hg=>?_,fun i hi=>?_,fun A x B e=>(by simp at e),rfl,fun hst=>(by cases hst)⟩
 ·rw [List.mem_singleton] at hp
  subst hp
  exact ⟨hl,fun g hg=>hg⟩
 ·rw [set_get hlr]
  simp only [List.mem_singleton,exists_eq_left,List.not_mem_nil,or_false]
  constructor
  ·rintro (rfl | h)
   ·rfl
   ·exact absurd h (none_ i)
  ·rintro rfl
   exact .inl rfl
 ·rw [List.mem_singleton] at hp
  subst hp
  exact .inl hg
 ·rcases (set_get hlr).1 hi with rfl | h
  ·exact .start (by omega) hl
  ·exact absurd h (none_ i)
structure OI (bs:List DBlock) (o:List Int):Prop where
 mem:∀ i:Nat,(i:Int) ∈ o ↔ Rc bs (-1) i
 pos:∀ x ∈ o,0≤x∧x < (bs.length:Int)
 nod:o.Nodup
 led:∀ (A:List Int) (x:Int) (B:List Int),o=A ++ x :: B→x=0∨∃ p:Nat,x ∈ nextAt bs p∧(p:Int) ∈ A
 first:bs≠[]→o.head? = some 0
theorem OrderP.keeps {bs:List DBlock} {o:List Int} (h:OrderP bs o):OI bs o:=by
 rcases h with ⟨rfl,rfl⟩ | ⟨h0,M',hD⟩
 ·refine ⟨fun i=>⟨fun h=>(by cases h),fun h=>absurd h.lt (by simp)⟩,fun x hx=>(by cases hx),List.nodup_nil,fun A x B e=>(by simp at e),fun h=>absurd rfl h⟩
 ·have h:=hD.keeps (DI.start h0)
  have hmem:∀ i:Nat,M'[i]? = some true ↔ (i:Int) ∈ o:=fun i=>by rw [h.mem i]; simp
  have hfull:FullR bs (-1) M':=by
   have hhd:=h.last rfl
   have h0o:(0:Int) ∈ o:=by
    cases o with
    | nil=>cases hhd
    | cons a o=>simp only [List.head?_cons,Option.some.injEq] at hhd; subst hhd; exact List.mem_cons_self
   refine fullR_of h.len h.snd (fun _ _=>(hmem 0).2 h0o) (fun i _ hi g hg _=>?_)
   have:=(h.out i ((hmem i).1 hi)).2 g (by simpa using hg)
   exact this
  refine ⟨fun i=>by rw [← hmem i]; exact hfull.2 i,fun x hx=>?_,by have:=h.nod; simpa using this,fun A x B e=>?_,fun _=>h.last rfl⟩
  ·have hx0:=(h.out x hx).1
   have:Rc bs (-1) x.toNat:=(hfull.2 _).1 ((hmem _).2 (by rw [toNat_cast hx0]; exact hx))
   have:=this.lt
   omega
  ·rcases h.led A x B e with h1 | ⟨p,h1,h2⟩
   ·exact .inl h1
   ·refine .inr ⟨p,h1,?_⟩
    rcases h2 with h2 | ⟨r,hr,_⟩
    ·exact h2
    ·cases hr
end Go.Ab
namespace Go.Ab.U7
open Go Go.Ab Go.Proofs
theorem r85 {q:Option Bool} {e:List TV} {f:DFunc} (he:RFunc q e f) (hs:f.blocks.length≤1000):∃ y M,Runs prog 29 [.agg e] y∧RBools (some true) y M∧FullR f.blocks (-1) M:=by
 obtain ⟨v,o,hv,hvr,hO⟩:=r80 he hs
 obtain ⟨b,rfl,hb,_⟩:=he
 have hI:=hO.keeps
 have hvb:=hvr.bnd
 have loop:∀ (d k:Nat) (M:List Bool) (w:TV),k + d=o.length→RBools (some true) w M→M.length=f.blocks.length→(∀ i:Nat,M[i]? = some true ↔ (i:Int) ∈ o.take k)→∃ y M,Goes prog 29 (f29_0 (I o.length) (I k) w v) y∧RBools (some true) y M∧FullR f.blocks (-1) M:=by
  intro d
  induction d with
  | zero =>
   intro k M w hk hw hl hm
   have hk:k=o.length:=by omega
   subst hk
   rw [List.take_length] at hm
   refine ⟨w,M,?_,hw,hl,fun i=>by rw [hm i]; exact hI.mem i⟩
   unfold f29_0
   exact Goes.tv rfl (Goes.ite asB_end (fun h=>nomatch h) fun _=>Goes.ret)
  | succ d ih =>
   intro k M w hk hw hl hm
   have hkl:k < o.length:=by omega
   obtain ⟨x,hxx⟩:∃ x,x=o[k]:=⟨_,rfl⟩
   have hox:o[k]? = some x:=by rw [hxx]; exact List.getElem?_eq_getElem hkl
   have hxo:=hI.pos x (List.mem_of_getElem? hox)
   obtain ⟨e,he,rfl,hei⟩:=hvr.pel hox
   have hxl:x.toNat < M.length:=by omega
   obtain ⟨e2,he2,hR⟩:=hw.pel (List.getElem?_eq_getElem hxl)
   cases hR
   obtain ⟨w',c1,c2⟩:=hw.setAt he2 (d:=0) (ys:=[B true]) (a:=true) rfl
   obtain ⟨y,M',hy,hr,hF⟩:=ih (k + 1) (M.set x.toNat true) w' (by omega) c2 (by rw [List.length_set]; exact hl) (fun i=>by
    rw [set_get hxl,hm i,take_get hox,List.mem_append,List.mem_singleton]
    constructor
    ·rintro (rfl | h)
     ·exact .inr (toNat_cast hxo.1)
     ·exact .inl h
    ·rintro (h | h)
     ·exact .inr h
     ·exact .inl (by omega))
   refine ⟨y,M',?_,hr,hF⟩
   unfold f29_0
   refine Goes.tv rfl (Goes.ite (asB_lt hkl) (fun _=>?_) fun h=>nomatch h)
   refine Goes.nat hvr.slLen (Goes.nat (asNat_nat (by omega)) (Goes.chk ?_ (Goes.tvs he (Goes.chk rfl (Goes.nat hw.slLen (Goes.nat (asNat_pos hxo.1 hei) (Goes.chk ?_ (Goes.tvs he2 (Goes.chk rfl (Goes.tv c1 (Goes.tv (inc hkl hvb) (f29_0_J hy))))))))))))
   ·rw [hvr.slSize]; simpa using hkl
   ·rw [hw.slSize]; simpa using hxl
 obtain ⟨y,M,hy,hr,hF⟩:=loop o.length 0 _ _ (by omega) (rep_bools (n:=f.blocks.length) (by omega)) (by simp) (fun i=>by
  rw [List.getElem?_replicate]
  simp)
 refine ⟨y,M,?_,hr,hF⟩
 have hn:asNat (I (f.blocks.length:Nat))=some f.blocks.length:=asNat_nat (by omega)
 refine Runs.of (f29_MR _) ?_
 unfold f29_M
 refine Goes.chk rfl (Goes.tv hb.len (Goes.nat hn (Goes.nat hn (Goes.chk ?_ (Goes.call hv (Goes.chk (fit_slc hvr.isSl) (Goes.tv hvr.len (f29_0_J hy))))))))
 have:Nat.ble f.blocks.length 4294967296=true:=by simp; omega
 simp [this]
end Go.Ab.U7
end
section
set_option linter.unusedVariables false
set_option maxRecDepth 100000
namespace Go.Ab.U7
open Go Go.Ab Go.Proofs
theorem rAwake7:Runs prog 22 [] (B true):=⟨40,by kernel_rfl⟩
end Go.Ab.U7
end
section
set_option linter.unusedVariables false
set_option maxRecDepth 10000
namespace Go.Ab
structure DFrame where
 f:Int
 block:Int
 at_:Int
 regs:List Int
 fly:Int
def DFrame.ok (x:DFrame):Prop:=inI x.f∧inI x.block∧inI x.at_∧inW x.fly
def RFrame (q:Option Bool) (e:List TV) (x:DFrame):Prop:=∃ g,e=[I x.f,I x.block,I x.at_,g,W x.fly]∧RWords q g x.regs∧x.ok
theorem RFrame.weak {q:Option Bool} {e:List TV} {x:DFrame} (h:RFrame q e x):RFrame none e x:=by
 obtain ⟨g,rfl,hg,ho⟩:=h
 exact ⟨g,rfl,hg.weak fun _ _ h=>h,ho⟩
theorem RFrame.frz {q:Option Bool} {e:List TV} {x:DFrame} (h:RFrame q e x):RFrame (some false) (frzL e) x:=by
 obtain ⟨g,rfl,hg,ho⟩:=h
 exact ⟨Go.Ab.frz g,rfl,hg.frz fun _ _ h=>h.frz,ho⟩
theorem RFrame.own {e:List TV} {x:DFrame} (h:RFrame (some true) e x):isOwnL e=true:=by
 obtain ⟨g,rfl,hg,_⟩:=h
 simp [isOwnL,isOwn,hg.own fun _ _ h=>h.own]
theorem frame_eq {a b:DFrame}:a=b ↔ a.f=b.f∧a.block=b.block∧a.at_=b.at_∧a.regs=b.regs∧a.fly=b.fly:=by
 cases a; cases b; simp
theorem u16_mod (n:Int):IntKind.u16.wrap n=n % 65536:=by simp [IntKind.wrap,IntKind.bits,IntKind.signed]
theorem wrap_u16 (n:Int):inW (IntKind.u16.wrap n):=by rw [u16_mod]; constructor <;> omega
theorem wrap_i64 (n:Int):inI (IntKind.i64.wrap n):=by rw [IntKind.wrap_i64]; constructor <;> omega
def doW (op a b:Int):Option Int :=
 if op=2 then some a else if op=3 then some (IntKind.u16.wrap (a + b)) else if op=4 then some (IntKind.u16.wrap (a - b)) else if op=5 then some (IntKind.u16.wrap (a * b)) else
 if op=6 then (if b=0 then none else some (IntKind.u16.wrap (a.tdiv b))) else if op=7 then some (if a=b then 1 else 0) else if op=8 then some (if a < b then 1 else 0) else none
theorem doW_in {op a b v:Int} (ha:inW a) (h:doW op a b=some v):inW v:=by
 have h0:inW 0:=⟨by decide,by decide⟩
 have h1:inW 1:=⟨by decide,by decide⟩
 unfold doW at h
 repeat' split at h
 all_goals first | (cases h; done) | (cases h; first | exact ha | exact wrap_u16 _ | exact h0 | exact h1 | (split <;> assumption))
def ansW:Option Int→TV
 | some v=>.tup [W v,B true]
 | none=>.tup [W 0,B false]
def regAt (l:List Int) (n:Int):Option Int:=if 0≤n then l[n.toNat]? else none
def answerT (l:List Int) (x:DIns):Option Int :=
 if x.op=1 then some x.k else (regAt l x.a).bind fun a=>if 3≤x.op∧x.op≤8 then (regAt l x.b).bind fun b=>doW x.op a b else doW x.op a 0
def reckonT (f:DFrame) (x:DIns):DFrame × Bool :=
 match answerT f.regs x with
 | none=>(f,false)
 | some w=>if 0≤x.dst∧x.dst < f.regs.length then ({ f with regs:=f.regs.set x.dst.toNat w,at_:=IntKind.i64.wrap (f.at_ + 1) },true) else (f,false)
theorem within_at {l:List Int} {n:Int} (h:within n l.length):∃ a,l[n.toNat]? = some a∧n.toNat < l.length:=by
 have:n.toNat < l.length:=by have:=h.1; have:=h.2; omega
 exact ⟨_,List.getElem?_eq_getElem this,this⟩
theorem regAt_some {l:List Int} {n a:Int} (h0:0≤n) (h:l[n.toNat]? = some a):regAt l n=some a:=by simp [regAt,h0,h]
theorem regAt_none {l:List Int} {n:Int} (h:¬ within n l.length):regAt l n=none:=by
 unfold regAt
 split
 ·rename_i h0
  exact List.getElem?_eq_none (by have:¬ n < l.length:=fun h1=>h ⟨h0,h1⟩; omega)
 ·rfl
section
variable {q:Option Bool} {v:TV} {l:List Int}
theorem RWords.at_ (h:RWords q v l) {k:IntKind} {n a:Int} (h0:0≤n) (hn:l[n.toNat]? = some a):pidx 1 v (.lit (.int k n))=some [W a]∧inW a:=by
 obtain ⟨e,he,rfl,hw⟩:=h.idxI (k:=k) h0 hn
 exact ⟨he,hw⟩
theorem RWords.mem (h:RWords q v l) {n:Nat} {a:Int} (hn:l[n]? = some a):inW a:=(RWords.at_ h (k:=.i64) (n:=(n:Int)) (by omega) (by simpa using hn)).2
theorem RWords.put (h:RWords (some true) v l) {n:Nat} {w:Int} (hn:n < l.length) (hw:inW w):∃ a v',pel v n=some [W a]∧setC [] v n 0 [W w]=some v'∧RWords (some true) v' (l.set n w):=by
 have hi:l[n]? = some l[n]:=List.getElem?_eq_getElem hn
 have hp:=h.toRP (R:=fun _ e a=>RW1 e a) fun _ _ _ h=>h
 obtain ⟨e,he,⟨rfl,_⟩,_,hset⟩:=hp.row hi
 exact ⟨_,_,he,hset 0 _,(hp.setTo hi (b:=w) (S:=fun _ e a=>RW1 e a) ⟨rfl,hw⟩ fun _ _ _ _ h=>h).toRL fun _ _ _ _ h=>h⟩
theorem RWords.isOwn (h:RWords (some true) v l):Go.Ab.isOwn v=true:=RL.own h fun _ _ h=>h.own
end
theorem RL.app1 {α:Type} {s:Nat} {R:List TV→α→Prop} {y:TV} {l:List α} (hy:RL (some true) s R y l) {e:List TV} {a:α} (hR:R e a) (hl:l.length + 1≤4294967296):∃ y',papp s y [e]=some y'∧RL (some true) s R y' (l ++ [a]):=by
 rcases hy with ⟨rfl,rfl⟩ | ⟨o,xs,rfl,hq,h,hb⟩
 ·refine ⟨.sl true s [e],by simp [papp,nilV,room,rowT],.sl (by simp) (.cons hR .nil) (by simp)⟩
 ·have hlen:=h.length
  rw [hq true rfl]
  refine ⟨.sl true s (xs ++ [e]),?_,.sl (by simp) (h.append (.cons hR .nil)) (by simp; omega)⟩
  simp [papp,room]; omega
end Go.Ab
namespace Go.Ab.U7
open Go Go.Ab Go.Proofs
theorem rQuot0 {a b:Int} (h:b=0):Runs prog 123 [W a,W b] (.tup [W 0,B false]):=by
 refine Runs.of (f123_MR _ _) ?_
 unfold f123_M
 repeat' (first
  | refine Goes.chk rfl ?_
  | refine Goes.tv rfl ?_
  | refine Goes.tv (RL.len (by assumption)) ?_
  | refine Goes.nat rfl ?_
  | refine Goes.ite rfl (fun _=>?_) (fun _=>?_)
  | refine Goes.call (by assumption) ?_
  | refine Goes.tvs (by assumption) ?_)
 ·exact Goes.ret
 ·rename_i h'; simp [h] at h'
theorem rQuot {a b:Int} (h:¬ b=0):Runs prog 123 [W a,W b] (.tup [W (IntKind.u16.wrap (a.tdiv b)),B true]):=by
 refine Runs.of (f123_MR _ _) ?_
 unfold f123_M
 refine Goes.tv rfl (Goes.ite rfl (fun h'=>?_) fun _=>?_)
 ·simp at h'; exact absurd h' h
 ·exact Goes.tv (by simp only [pbin,intBin,if_true,if_neg h]) Goes.ret
theorem rTruth (b:Bool):Runs prog 124 [B b] (W (if b then 1 else 0)):=by
  cases b
  · refine Runs.of (f124_MR _) ?_
    unfold f124_M
    repeat' (first
      | refine Goes.chk rfl ?_
      | refine Goes.tv rfl ?_
      | refine Goes.tv (RL.len (by assumption)) ?_
      | refine Goes.nat rfl ?_
      | refine Goes.ite (v:=true) rfl (fun _=>?_) (fun h=>nomatch h)
      | refine Goes.ite (v:=false) rfl (fun h=>nomatch h) (fun _=>?_)
      | refine Goes.ite rfl (fun _=>?_) (fun _=>?_)
      | refine Goes.call (by assumption) ?_
      | refine Goes.tvs (by assumption) ?_
       )
    exact Goes.ret
  · refine Runs.of (f124_MR _) ?_
    unfold f124_M
    repeat' (first
      | refine Goes.chk rfl ?_
      | refine Goes.tv rfl ?_
      | refine Goes.tv (RL.len (by assumption)) ?_
      | refine Goes.nat rfl ?_
      | refine Goes.ite (v:=true) rfl (fun _=>?_) (fun h=>nomatch h)
      | refine Goes.ite (v:=false) rfl (fun h=>nomatch h) (fun _=>?_)
      | refine Goes.ite rfl (fun _=>?_) (fun _=>?_)
      | refine Goes.call (by assumption) ?_
      | refine Goes.tvs (by assumption) ?_
       )
    exact Goes.ret
theorem rDo (op a b:Int):Runs prog 120 [I op,W a,W b] (ansW (doW op a b)):=by
 by_cases hb:b=0
 ·have hq:=rQuot0 (a:=a) hb
  refine Runs.of (f120_MR _ _ _) ?_
  unfold f120_M
  repeat' (first
   | refine Goes.chk rfl ?_
   | refine Goes.tv rfl ?_
   | refine Goes.tv (RL.len (by assumption)) ?_
   | refine Goes.nat rfl ?_
   | refine Goes.ite (v:=true) rfl (fun _=>?_) (fun h=>nomatch h)
   | refine Goes.ite (v:=false) rfl (fun h=>nomatch h) (fun _=>?_)
   | refine Goes.ite rfl (fun _=>?_) (fun _=>?_)
   | refine Goes.call (by assumption) ?_
   | refine Goes.tvs (by assumption) ?_
   | refine Goes.call (rTruth _) ?_)
  all_goals (refine goes_ret.2 ?_; simp_all [doW,ansW,TV.comp,nth])
 ·have hq:=rQuot (a:=a) hb
  refine Runs.of (f120_MR _ _ _) ?_
  unfold f120_M
  repeat' (first
   | refine Goes.chk rfl ?_
   | refine Goes.tv rfl ?_
   | refine Goes.tv (RL.len (by assumption)) ?_
   | refine Goes.nat rfl ?_
   | refine Goes.ite (v:=true) rfl (fun _=>?_) (fun h=>nomatch h)
   | refine Goes.ite (v:=false) rfl (fun h=>nomatch h) (fun _=>?_)
   | refine Goes.ite rfl (fun _=>?_) (fun _=>?_)
   | refine Goes.call (by assumption) ?_
   | refine Goes.tvs (by assumption) ?_
   | refine Goes.call (rTruth _) ?_)
  all_goals (refine goes_ret.2 ?_; simp_all [doW,ansW,TV.comp,nth])
theorem rPure (op:Int):Runs prog 122 [I op] (B (decide (2≤op∧op≤8))):=by
 refine Runs.of (f122_MR _) ?_
 unfold f122_M
 repeat' (first
  | refine Goes.chk rfl ?_
  | refine Goes.tv rfl ?_
  | refine Goes.tv (RL.len (by assumption)) ?_
  | refine Goes.nat rfl ?_
  | refine Goes.ite rfl (fun _=>?_) (fun _=>?_)
  | refine Goes.call (by assumption) ?_
  | refine Goes.tvs (by assumption) ?_)
 all_goals (refine goes_ret.2 ?_; simp_all <;> omega)
theorem rTwo (op:Int):Runs prog 119 [I op] (B (decide (3≤op∧op≤8))):=by
 have h:=rPure op
 refine Runs.of (f119_MR _) ?_
 unfold f119_M
 refine Goes.call h (Goes.chk rfl (Goes.ite rfl (fun h=>?_) fun h=>?_))
 ·simp at h
  refine Goes.tv rfl (goes_ret.2 ?_)
  have:(op != 2)=decide (3≤op∧op≤8):=by rw [Bool.eq_iff_iff]; simp; omega
  rw [this]
 ·refine goes_ret.2 ?_
  have h':¬ (2≤op∧op≤8):=by simpa using h
  simp; omega
end Go.Ab.U7
end
section
set_option linter.unusedVariables false
set_option maxRecDepth 10000
namespace Go.Ab
def frameQ (m:DMod) (f:DFrame):Prop:=0≤f.f∧∃ g,m.funcs[f.f.toNat]? = some g∧(f.regs.length:Int)=g.regs∧0≤f.block∧∃ b,g.blocks[f.block.toNat]? = some b∧0≤f.at_∧f.at_≤b.ins.length
def newT (m:DMod) (n:Int) (args:List Int):Option DFrame :=
 if 0≤n then (m.funcs[n.toNat]?).bind fun g=>if (args.length:Int)=g.params then some ⟨n,0,0,args.take g.regs.toNat ++ List.replicate (g.regs.toNat - args.length) 0,0⟩ else none else none
def noFrame:DFrame:=⟨0,0,0,[],0⟩
def landT (m:DMod) (f:DFrame) (pad w:Int):Option DFrame :=
 (m.funcs[f.f.toNat]?).bind fun g=>if 0≤pad then (g.blocks[pad.toNat]?).bind fun b=>if b.landing then some ⟨f.f,pad,0,f.regs.set b.pad.dst.toNat w,w⟩ else none else none
def errOf:Option DFrame→Int
 | some _=>0
 | none=>1
theorem within_none {α:Type} {l:List α} {n:Int} (h0:0≤n) (h:¬ n < l.length):l[n.toNat]? = none:=List.getElem?_eq_none (by omega)
theorem RNo:RFrame (some true) [I 0,I 0,I 0,.lit nilV,W 0] noFrame:=⟨_,rfl,.nil,⟨by decide,by decide⟩,⟨by decide,by decide⟩,⟨by decide,by decide⟩,⟨by decide,by decide⟩⟩
def zFrame:List Value:=[.int .i64 0,.int .i64 0,.int .i64 0,.slice none 0 0,.int .u16 0]
theorem fit_frame {a b c d:Int} {y:TV} (h:y.isSl=true):(Bool.and ((TV.agg [I a,I b,I c,y,W d]).isAgg 5) (fitsAt zFrame ((TV.agg [I a,I b,I c,y,W d]).cellsL true) 0))=true:=by
 simp [fitsAt,TV.isAgg,TV.cellsL,zFrame,isSlV,h,TV.isSc,scV]
theorem in0:inI 0:=⟨by decide,by decide⟩
theorem inW0:inW 0:=⟨by decide,by decide⟩
end Go.Ab
namespace Go.Ab.U7
open Go Go.Ab Go.Proofs
theorem rOneOf (c n:Int):Runs prog 71 [I c,I n] (B (tt (within n c))):=by
 refine Runs.of (f71_MR _ _) ?_
 unfold f71_M
 repeat' (first
  | refine Goes.chk rfl ?_
  | refine Goes.tv rfl ?_
  | refine Goes.tv (RL.len (by assumption)) ?_
  | refine Goes.nat rfl ?_
  | refine Goes.ite rfl (fun _=>?_) (fun _=>?_)
  | refine Goes.call (by assumption) ?_
  | refine Goes.tvs (by assumption) ?_)
 all_goals (apply ret_tt; simp_all [within] <;> omega)
theorem rOwn {q:Option Bool} {e:List TV} {x:DFrame} (he:RFrame q e x) (hl:x.regs.length≤4294967296):∃ e',Runs prog 101 [.agg e] (.agg e')∧RFrame (some true) e' x:=by
 obtain ⟨g,rfl,hg,ho⟩:=he
 obtain ⟨y,hc,hr⟩:=r39 hg hl
 have hr:RWords (some true) y x.regs:=hr
 refine ⟨[I x.f,I x.block,I x.at_,y,W x.fly],?_,⟨_,rfl,hr,ho⟩⟩
 refine Runs.of (f101_MR _) ?_
 unfold f101_M
 refine Goes.chk rfl (Goes.call hc (Goes.chk ?_ (Goes.chk ?_ Goes.ret)))
 ·simp [zSl,fitsAt,isSlV,hr.isSl]
 ·simp [isOwn,isOwnL,RWords.isOwn hr,TV.cell,nth]
theorem rGo {q:Option Bool} {e:List TV} {x:DFrame} {b:Int} (he:RFrame q e x) (hl:x.regs.length≤4294967296) (hb:inI b):∃ e',Runs prog 85 [.agg e,I b] (.agg e')∧RFrame (some true) e' { x with block:=b,at_:=0 }:=by
 obtain ⟨e',hr,he'⟩:=rOwn he hl
 obtain ⟨g,rfl,hg,ho⟩:=he
 obtain ⟨y,rfl,hy,ho'⟩:=he'
 refine ⟨[I x.f,I b,I 0,y,W x.fly],?_,⟨_,rfl,hy,ho.1,hb,in0,ho.2.2.2⟩⟩
 refine Runs.of (f85_MR _ _) ?_
 unfold f85_M
 refine Goes.chk rfl (Goes.call hr (Goes.chk (fit_frame hy.isSl) (Goes.chk rfl (Goes.chk ?_ Goes.ret))))
 simp [isOwn,isOwnL,TV.cell,nth,RWords.isOwn hy]
theorem rAnswer {q q':Option Bool} {g:TV} {l:List Int} {e:List TV} {x:DIns} (hg:RWords q g l) (he:RIns q' e x):Runs prog 112 [g,.agg e] (ansW (answerT l x)):=by
 obtain ⟨a,rfl,ha,ho⟩:=he
 have h2:=rTwo x.op
 refine Runs.of (f112_MR _ _) ?_
 unfold f112_M
 refine Goes.chk rfl (Goes.tv rfl (Goes.ite rfl (fun h=>?_) fun h1=>?_))
 ·refine goes_ret.2 ?_
  simp at h
  simp [answerT,h,ansW,TV.cell,nth]
 have h1:¬ x.op=1:=by simpa using h1
 refine Goes.tv hg.len (Goes.call (rOneOf _ _) (Goes.chk rfl (Goes.tv rfl (Goes.ite rfl (fun h=>?_) fun h=>?_))))
 ·have h:¬ within x.a l.length:=tt_iff0.1 (by simpa using h)
  refine goes_ret.2 ?_
  simp [answerT,h1,regAt_none h,ansW]
 have hA:within x.a l.length:=tt_iff.1 (by simpa using h)
 obtain ⟨u,hu,hul⟩:=within_at hA
 obtain ⟨hi,hui⟩:=RWords.at_ hg (k:=.i64) hA.1 hu
 refine Goes.tvs hi (Goes.chk rfl (Goes.call h2 (Goes.chk rfl (Goes.tv rfl (Goes.ite rfl (fun h=>?_) fun h=>?_)))))
 ·have h:¬ (3≤x.op∧x.op≤8):=by simp at h; omega
  have hd:=rDo x.op u 0
  have hT:answerT l x=doW x.op u 0:=by simp [answerT,h1,regAt_some hA.1 hu,h]
  rw [hT]
  refine Goes.call hd ?_
  cases doW x.op u 0 with
  | none=>exact Goes.chk rfl (Goes.chk rfl (Goes.chk rfl Goes.ret))
  | some v=>exact Goes.chk rfl (Goes.chk rfl (Goes.chk rfl Goes.ret))
 have h3:3≤x.op∧x.op≤8:=by simpa using h
 refine Goes.tv hg.len (Goes.call (rOneOf _ _) (Goes.chk rfl (Goes.tv rfl (Goes.ite rfl (fun h=>?_) fun h=>?_))))
 ·have h:¬ within x.b l.length:=tt_iff0.1 (by simpa using h)
  refine goes_ret.2 ?_
  simp [answerT,h1,regAt_some hA.1 hu,h3,regAt_none h,ansW]
 have hB:within x.b l.length:=tt_iff.1 (by simpa using h)
 obtain ⟨v,hv,hvl⟩:=within_at hB
 obtain ⟨hi',hvi⟩:=RWords.at_ hg (k:=.i64) hB.1 hv
 have hd:=rDo x.op u v
 have hT:answerT l x=doW x.op u v:=by simp [answerT,h1,regAt_some hA.1 hu,h3,regAt_some hB.1 hv]
 rw [hT]
 refine Goes.tvs hi' (Goes.chk rfl (Goes.call hd ?_))
 cases doW x.op u v with
 | none=>exact Goes.chk rfl (Goes.chk rfl (Goes.chk rfl Goes.ret))
 | some v=>exact Goes.chk rfl (Goes.chk rfl (Goes.chk rfl Goes.ret))
theorem answer_in {q q':Option Bool} {g:TV} {l:List Int} {e:List TV} {x:DIns} (hg:RWords q g l) (he:RIns q' e x) {v:Int} (h:answerT l x=some v):inW v:=by
 obtain ⟨a,rfl,ha,ho⟩:=he
 unfold answerT at h
 split at h
 ·cases h; exact ho.2.2.2.2.1
 ·cases ha':regAt l x.a with
  | none=>rw [ha'] at h; cases h
  | some u =>
   have hu:inW u:=by
    unfold regAt at ha'
    split at ha'
    ·exact RWords.mem hg ha'
    ·cases ha'
   rw [ha'] at h
   simp only [Option.bind_some] at h
   split at h
   ·cases hb:regAt l x.b with
    | none=>rw [hb] at h; cases h
    | some w=>rw [hb] at h; exact doW_in hu h
   ·exact doW_in hu h
theorem rReckon {q q':Option Bool} {e e':List TV} {f:DFrame} {x:DIns} (hf:RFrame q e f) (hx:RIns q' e' x) (hl:f.regs.length≤4294967296) :
  ∃ e2,Runs prog 99 [.agg e,.agg e'] (.tup [.agg e2,B (reckonT f x).2])∧RFrame (some true) e2 (reckonT f x).1:=by
 obtain ⟨e1,hr,hf1⟩:=rOwn hf hl
 have hf1':=hf1
 obtain ⟨g0,rfl,hg0,_⟩:=hf
 obtain ⟨y,rfl,hy,ho'⟩:=hf1
 have hans:=rAnswer (hy.frz (S:=RW1) fun _ _ h=>h.frz) hx
 have hx':=hx
 obtain ⟨z,rfl,hz,hxo⟩:=hx
 have hfit:=fit_frame (a:=f.f) (b:=f.block) (c:=f.at_) (d:=f.fly) hy.isSl
 have hown:isOwnL [TV.agg [I f.f,I f.block,I f.at_,y,W f.fly],B false]=true:=by simp [isOwn,isOwnL,RWords.isOwn hy]
 cases hT:answerT f.regs x with
 | none =>
  rw [hT] at hans
  have hR:reckonT f x=(f,false):=by simp [reckonT,hT]
  rw [hR]
  refine ⟨_,?_,hf1'⟩
  refine Runs.of (f99_MR _ _) ?_
  unfold f99_M
  exact Goes.chk rfl (Goes.chk rfl (Goes.call hr (Goes.chk hfit (Goes.call hans (Goes.chk rfl (Goes.chk rfl (Goes.chk rfl (Goes.tv rfl (Goes.ite rfl (fun _=>Goes.chk hown Goes.ret) fun h=>nomatch h)))))))))
 | some v =>
  rw [hT] at hans
  have hv:=answer_in hy hx' hT
  by_cases hD:within x.dst f.regs.length
  ·have hD':0≤x.dst∧x.dst < f.regs.length:=hD
   have hR:reckonT f x=({ f with regs:=f.regs.set x.dst.toNat v,at_:=IntKind.i64.wrap (f.at_ + 1) },true):=by simp [reckonT,hT,hD']
   have hlt:x.dst.toNat < f.regs.length:=by omega
   obtain ⟨a,v',hp,hs,hrl⟩:=RWords.put hy hlt hv
   have hbl:Nat.blt x.dst.toNat f.regs.length=true:=by simpa using hlt
   rw [hR]
   refine ⟨[I f.f,I f.block,I (IntKind.i64.wrap (f.at_ + 1)),v',W f.fly],?_,⟨_,rfl,hrl,ho'.1,ho'.2.1,wrap_i64 _,ho'.2.2.2⟩⟩
   refine Runs.of (f99_MR _ _) ?_
   unfold f99_M
   refine Goes.chk rfl (Goes.chk rfl (Goes.call hr (Goes.chk hfit (Goes.call hans (Goes.chk rfl (Goes.chk rfl (Goes.chk rfl (Goes.tv rfl (Goes.ite rfl (fun h=>nomatch h) fun _=>?_)))))))))
   refine Goes.tv hy.len (Goes.call (rOneOf _ _) (Goes.chk rfl (Goes.tv rfl (Goes.ite rfl (fun h=>?_) fun _=>?_))))
   ·exact absurd hD (tt_iff0.1 (by simpa using h))
   ·have hdn:asNat (I x.dst)=some x.dst.toNat:=by
     have:=hxo.2.1.2
     simp [asNat,hD.1]; omega
    refine Goes.nat hy.slLen (Goes.nat hdn (Goes.chk ?_ (Goes.tvs hp (Goes.chk rfl (Goes.tv hs (Goes.tv rfl (Goes.chk ?_ Goes.ret)))))))
    ·rw [hbl]; exact (Bool.and_true _).trans hy.slSize
    ·simp [isOwn,isOwnL,RWords.isOwn hrl,TV.cell,nth]
  ·have hD':¬ (0≤x.dst∧x.dst < f.regs.length):=hD
   have hR:reckonT f x=(f,false):=by simp only [reckonT,hT]; rw [if_neg hD']
   rw [hR]
   refine ⟨_,?_,hf1'⟩
   refine Runs.of (f99_MR _ _) ?_
   unfold f99_M
   refine Goes.chk rfl (Goes.chk rfl (Goes.call hr (Goes.chk hfit (Goes.call hans (Goes.chk rfl (Goes.chk rfl (Goes.chk rfl (Goes.tv rfl (Goes.ite rfl (fun h=>nomatch h) fun _=>?_)))))))))
   refine Goes.tv hy.len (Goes.call (rOneOf _ _) (Goes.chk rfl (Goes.tv rfl (Goes.ite rfl (fun _=>Goes.chk hown Goes.ret) fun h=>?_))))
   exact absurd (tt_iff.1 (by simpa using h)) hD
theorem rCatches {q:Option Bool} {e:List TV} {p:DPad} {w:Int} (he:RPad q e p):Runs prog 104 [.agg e,W w] (B (tt (p.all=true∨w ∈ p.catches))):=by
 obtain ⟨x,rfl,hx,_⟩:=he
 have h56:=r56 (w:=w) hx
 refine Runs.of (f104_MR _ _) ?_
 unfold f104_M
 repeat' (first
  | refine Goes.chk rfl ?_
  | refine Goes.tv rfl ?_
  | refine Goes.tv (RL.len (by assumption)) ?_
  | refine Goes.nat rfl ?_
  | refine Goes.ite rfl (fun _=>?_) (fun _=>?_)
  | refine Goes.call (by assumption) ?_
  | refine Goes.tvs (by assumption) ?_)
 ·rename_i h
  have h:p.all=true:=by simpa [TV.cell,nth] using h
  exact ret_yes (.inl h)
 ·rename_i h
  have h:p.all=false:=by simpa [TV.cell,nth] using h
  apply ret_tt
  simp [tt_iff,h]
end Go.Ab.U7
end
section
set_option linter.unusedVariables false
set_option maxRecDepth 10000
namespace Go.Ab
theorem asNat_in {n:Int} (h0:0≤n) (h:inI n):asNat (I n)=some n.toNat:=by
 have:=h.2
 simp [asNat,h0]; omega
theorem words_make {xs:List (List TV)} {args:List Int} (h:F2 RW1 xs args) {n:Nat} (hn:n≤4294967296):RWords (some true) (.sl true 1 (xs.take (List.replicate n [W 0]).length ++ (List.replicate n [W 0]).drop xs.length)) (args.take n ++ List.replicate (n - args.length) 0):=by
 have hlen:=h.length
 refine .sl (by simp) ?_ (by simp; omega)
 rw [List.length_replicate,List.drop_replicate,hlen]
 refine (h.take n).append ?_
 exact F2.of_get (by simp) fun i e a he ha=>by
  have h1:=(List.getElem?_eq_some_iff.1 he)
  have h2:=(List.getElem?_eq_some_iff.1 ha)
  obtain ⟨_,h1⟩:=h1
  obtain ⟨_,h2⟩:=h2
  simp at h1 h2
  subst h1 h2
  exact ⟨rfl,by decide,by decide⟩
theorem own_tup {a b c d e:Int} {y:TV} (h:isOwn y=true):isOwnL [.agg [I a,I b,I c,y,W d],I e]=true:=by
 simp [isOwn,isOwnL,h]
theorem RW0:RW1 [W 0] 0:=⟨rfl,by decide,by decide⟩
end Go.Ab
namespace Go.Ab.U7
open Go Go.Ab Go.Proofs
theorem mod_func {m:DMod} {g:DFunc} {n:Nat} (h:modP m) (hg:m.funcs[n]? = some g):funcP m.funcs g:=h.2.2 n (List.getElem?_eq_some_iff.1 hg).1 g hg
theorem mod_regs {m:DMod} {g:DFunc} {n:Nat} (h:modP m) (hg:m.funcs[n]? = some g):0≤g.regs∧g.regs≤256:=by
 obtain ⟨⟨h1,h2,h3,h4⟩,_⟩:=mod_func h hg
 exact ⟨by omega,h4⟩
noncomputable def newD (m:DMod) (n:Int) (args:List Int):Option DFrame:=bif tt (modP m) then newT m n args else none
theorem rNew {q q':Option Bool} {e:List TV} {x:TV} {m:DMod} {n:Int} {args:List Int} (hm:RMod q e m) (hn:inI n) (hx:RWords q' x args):∃ e',Runs prog 54 [.agg e,I n,x] (.tup [.agg e',I (errOf (newD m n args))])∧RFrame (some true) e' ((newD m n args).getD noFrame):=by
 have h8:=r8 hm
 obtain ⟨y,rfl,hy⟩:=hm
 have no:newD m n args=none→Runs prog 54 [.agg [y],I n,x] (.tup [.agg [I 0,I 0,I 0,.lit nilV,W 0],I 1])→∃ e',Runs prog 54 [.agg [y],I n,x] (.tup [.agg e',I (errOf (newD m n args))])∧RFrame (some true) e' ((newD m n args).getD noFrame):=by
  intro h hr
  rw [h]
  exact ⟨_,hr,RNo⟩
 by_cases hM:modP m
 rotate_left
 ·refine no (by simp [newD,tt_false hM]) ?_
  rw [tt_false hM] at h8
  refine Runs.of (f54_MR _ _ _) ?_
  unfold f54_M
  exact Goes.chk rfl (Goes.call h8 (Goes.chk rfl (Goes.tv rfl (Goes.ite rfl (fun _=>Goes.chk rfl Goes.ret) fun h=>nomatch h))))
 rw [tt_true hM] at h8
 have hD:newD m n args=newT m n args:=by simp [newD,tt_true hM]
 by_cases hF:within n m.funcs.length
 rotate_left
 ·have hN:newD m n args=none:=by
   rw [hD]
   unfold newT
   split
   ·rename_i h0
    rw [within_none h0 fun h=>hF ⟨h0,h⟩]
    rfl
   ·rfl
  refine no hN ?_
  refine Runs.of (f54_MR _ _ _) ?_
  unfold f54_M
  refine Goes.chk rfl (Goes.call h8 (Goes.chk rfl (Goes.tv rfl (Goes.ite rfl (fun h=>nomatch h) fun _=>?_))))
  refine Goes.tv hy.len (Goes.call (rOneOf _ _) (Goes.chk rfl (Goes.tv rfl (Goes.ite rfl (fun _=>Goes.chk rfl Goes.ret) fun h=>?_))))
  exact absurd (tt_iff.1 (by simpa using h)) hF
 have hlt:n.toNat < m.funcs.length:=by have:=hF.1; have:=hF.2; omega
 have hu:m.funcs[n.toNat]? = some m.funcs[n.toNat]:=List.getElem?_eq_getElem hlt
 obtain ⟨e,he,hr⟩:=hy.idxI (k:=.i64) hF.1 hu
 generalize m.funcs[n.toNat]=u at hu hr
 obtain ⟨hr0,hr1⟩:=mod_regs hM hu
 obtain ⟨b,rfl,hb,_⟩:=hr
 have hT:newT m n args=if (args.length:Int)=u.params then some ⟨n,0,0,args.take u.regs.toNat ++ List.replicate (u.regs.toNat - args.length) 0,0⟩ else none:=by simp [newT,hF.1,hu]
 by_cases hP:(args.length:Int)=u.params
 rotate_left
 ·refine no (by rw [hD,hT,if_neg hP]) ?_
  refine Runs.of (f54_MR _ _ _) ?_
  unfold f54_M
  refine Goes.chk rfl (Goes.call h8 (Goes.chk rfl (Goes.tv rfl (Goes.ite rfl (fun h=>nomatch h) fun _=>?_))))
  refine Goes.tv hy.len (Goes.call (rOneOf _ _) (Goes.chk rfl (Goes.tv rfl (Goes.ite rfl (fun h=>?_) fun _=>?_))))
  ·exact absurd hF (tt_iff0.1 (by simpa using h))
  refine Goes.tv hx.len (Goes.tvs he (Goes.chk rfl (Goes.tv rfl (Goes.ite rfl (fun _=>Goes.chk rfl Goes.ret) fun h=>?_))))
  simp at h
  exact absurd h hP
 rw [hD,hT,if_pos hP]
 obtain ⟨xs,hxs,hF2⟩:=hx.elems
 have hmk:=words_make hF2 (n:=u.regs.toNat) (by omega)
 have hnat:asNat (I u.regs)=some u.regs.toNat:=asNat_in hr0 ⟨by omega,by omega⟩
 refine ⟨[I n,I 0,I 0,_,W 0],?_,⟨_,rfl,hmk,hn,in0,in0,inW0⟩⟩
 refine Runs.of (f54_MR _ _ _) ?_
 unfold f54_M
 refine Goes.chk rfl (Goes.call h8 (Goes.chk rfl (Goes.tv rfl (Goes.ite rfl (fun h=>nomatch h) fun _=>?_))))
 refine Goes.tv hy.len (Goes.call (rOneOf _ _) (Goes.chk rfl (Goes.tv rfl (Goes.ite rfl (fun h=>?_) fun _=>?_))))
 ·exact absurd hF (tt_iff0.1 (by simpa using h))
 refine Goes.tv hx.len (Goes.tvs he (Goes.chk rfl (Goes.tv rfl (Goes.ite rfl (fun h=>?_) fun _=>?_))))
 ·simp at h
  exact absurd hP h
 refine Goes.tvs he (Goes.chk rfl (Goes.nat hnat (Goes.nat hnat (Goes.chk ?_ (Goes.rws hxs (Goes.tv (by simp only [pcopy,if_true]) (Goes.nat rfl (Goes.chk rfl (Goes.chk ?_ Goes.ret)))))))))
 ·have:u.regs.toNat≤4294967296:=by omega
  simp [this]
 ·exact own_tup (RWords.isOwn hmk)
end Go.Ab.U7
end
section
set_option linter.unusedVariables false
set_option maxRecDepth 10000
namespace Go.Ab
theorem goal_landT {m:DMod} {f:DFrame} {u:DFunc} {pad w:Int} (hu:m.funcs[f.f.toNat]? = some u) (h:¬ goalAt u.blocks pad true):landT m f pad w=none:=by
 unfold landT
 rw [hu]
 simp only [Option.bind_some]
 split
 ·rename_i h0
  cases hb:u.blocks[pad.toNat]? with
  | none=>rfl
  | some b =>
   simp only [Option.bind_some]
   split
   ·rename_i hl
    exact absurd ⟨h0,b,hb,hl⟩ h
   ·rfl
 ·rfl
theorem landT_some {m:DMod} {f:DFrame} {u:DFunc} {b:DBlock} {pad w:Int} (hu:m.funcs[f.f.toNat]? = some u) (h0:0≤pad) (hb:u.blocks[pad.toNat]? = some b) (hl:b.landing=true) :
  landT m f pad w=some ⟨f.f,pad,0,f.regs.set b.pad.dst.toNat w,w⟩:=by
 simp [landT,hu,h0,hb,hl]
theorem blt_true {a b:Nat} (h:a < b):Nat.blt a b=true:=by simpa using h
end Go.Ab
namespace Go.Ab.U7
open Go Go.Ab Go.Proofs
theorem rFSame {q q':Option Bool} {e e':List TV} {a b:DFrame} (ha:RFrame q e a) (hb:RFrame q' e' b):Runs prog 21 [.agg e,.agg e'] (B (tt (a=b))):=by
 obtain ⟨x,rfl,hx,_⟩:=ha
 obtain ⟨y,rfl,hy,_⟩:=hb
 refine Runs.of (f21_MR _ _) ?_
 unfold f21_M
 repeat' (first
  | refine Goes.chk rfl ?_
  | refine Goes.tv rfl ?_
  | refine Goes.tv (RL.len (by assumption)) ?_
  | refine Goes.nat rfl ?_
  | refine Goes.ite rfl (fun _=>?_) (fun _=>?_)
  | refine Goes.call (by assumption) ?_
  | refine Goes.tvs (by assumption) ?_)
 ·apply ret_no; rw [frame_eq]; simp_all
 ·apply ret_no; rw [frame_eq]; simp_all
 ·apply ret_no; rw [frame_eq]; simp_all
 ·apply ret_no; rw [frame_eq]; simp_all
 ·rename_i h
  apply ret_no; rw [frame_eq]
  intro h'
  rw [h'.2.2.2.1] at h
  simp at h
 ·rename_i h1 h2 h3 h4 h
  have hlen:a.regs.length=b.regs.length:=by simp at h; omega
  have hiff:a=b ↔ a.regs=b.regs:=by
   rw [frame_eq]
   simp at h1 h2 h3 h4
   simp [h1,h2,h3,h4]
  refine f21_0_J ?_
  rw [tt_congr (hiff.trans (list_eq_iff' hlen))]
  refine allLoop' (g:=fun k=>f21_0 (I k) (I a.f) (I a.block) (I a.at_) x (W a.fly) (I b.f) (I b.block) (I b.at_) y (W b.fly)) ?_ ?_
  ·unfold f21_0
   refine Goes.tv (RL.len (by assumption)) (Goes.tv rfl (Goes.ite asB_end (fun h=>nomatch h) fun _=>?_))
   exact Goes.ret
  ·intro k hk r h1 h2
   have hk':k < b.regs.length:=by omega
   have hak:a.regs[k]? = some a.regs[k]:=List.getElem?_eq_getElem hk
   have hbk:b.regs[k]? = some b.regs[k]:=List.getElem?_eq_getElem hk'
   obtain ⟨e,he,rfl,_⟩:=hx.idx (k:=.i64) hak
   obtain ⟨e',he',rfl,_⟩:=hy.idx (k:=.i64) hbk
   unfold f21_0
   refine Goes.tv (RL.len (by assumption)) (Goes.tv rfl (Goes.ite (asB_lt hk) (fun _=>?_) fun h=>nomatch h))
   refine Goes.tvs he (Goes.chk rfl (Goes.tvs he' (Goes.chk rfl (Goes.tv rfl (Goes.ite rfl (fun h=>?_) fun h=>?_)))))
   ·rw [h1 (by rw [hak,hbk]; simpa [nth] using h)]; exact Goes.ret
   ·refine Goes.tv (inc hk hx.bnd) (f21_0_J (h2 ?_))
    rw [hak,hbk]; simpa [nth] using h
end Go.Ab.U7
end
section
set_option linter.unusedVariables false
set_option maxRecDepth 10000
namespace Go.Ab
structure DMach where
 stack:List DFrame
 cells:List Int
 inputs:List Int
 events:List Int
 done:Int
 value:Int
def DMach.c (s:DMach) (k:Nat):Int:=s.cells.getD k 0
def DMach.ok (s:DMach):Prop:=s.cells.length=16∧(∀ k,inW (s.c k))∧inI s.done∧inW s.value
def machCells (s:DMach) (g i v:TV):List TV:=[g,W (s.c 0),W (s.c 1),W (s.c 2),W (s.c 3),W (s.c 4),W (s.c 5),W (s.c 6),W (s.c 7),W (s.c 8),W (s.c 9),W (s.c 10),W (s.c 11),W (s.c 12),W (s.c 13),W (s.c 14),W (s.c 15),i,v,I s.done,W s.value]
def RMach (e:List TV) (s:DMach):Prop:=∃ g i v,e=machCells s g i v∧RL none 5 (RFrame none) g s.stack∧RWords none i s.inputs∧RInts none v s.events∧s.ok
def zMach:List Value:=[.slice none 0 0,.int .u16 0,.int .u16 0,.int .u16 0,.int .u16 0,.int .u16 0,.int .u16 0,.int .u16 0,.int .u16 0,.int .u16 0,.int .u16 0,.int .u16 0,.int .u16 0,.int .u16 0,.int .u16 0,.int .u16 0,.int .u16 0,.slice none 0 0,.slice none 0 0,.int .i64 0,.int .u16 0]
theorem fit_mach {s:DMach} {g i v:TV} (h1:g.isSl=true) (h2:i.isSl=true) (h3:v.isSl=true):(Bool.and ((TV.agg (machCells s g i v)).isAgg 21) (fitsAt zMach ((TV.agg (machCells s g i v)).cellsL true) 0))=true:=by
 simp [fitsAt,TV.isAgg,TV.cellsL,zMach,machCells,isSlV,h1,h2,h3,TV.isSc,scV]
theorem dec {n:Nat} (h:0 < n) (hn:n≤9223372036854775807):pbin (.int .i64) .sub (I (n:Int)) (I (1:Int))=some (I ((n - 1:Nat):Int)):=by
 have h1:IntKind.i64.wrap ((n:Int) - 1)=((n - 1:Nat):Int):=by rw [IntKind.wrap_i64]; omega
 show some (TV.lit (.int .i64 (IntKind.i64.wrap ((n:Int) - 1))))=_
 rw [h1]
theorem asNat_of {n:Nat} (h:n≤9223372036854775807):asNat (I (n:Int))=some n:=by
 have:=asNat_in (n:=(n:Int)) (by omega) ⟨by omega,by omega⟩
 simpa using this
def withT (s:DMach) (f:DFrame):DMach:={ s with stack:=s.stack.take (s.stack.length - 1) ++ [f] }
def endedT (s:DMach) (how w:Int):DMach:={ s with done:=how,value:=w }
def wordsAt (regs places:List Int):List Int:=places.map fun p=>regs.getD p.toNat 0
def topT (s:DMach):Option DFrame:=s.stack[s.stack.length - 1]?
def calledT (m:DMod) (s:DMach) (n:Int) (places:List Int):DMach :=
 if 32≤s.stack.length then endedT s 5 0 else
 match topT s with
 | none=>s
 | some f=>{ s with stack:=s.stack ++ [(newT m n (wordsAt f.regs places)).getD noFrame] }
end Go.Ab
namespace Go.Ab.U7
open Go Go.Ab Go.Proofs
end Go.Ab.U7
end
section
set_option linter.unusedVariables false
set_option maxRecDepth 10000
namespace Go.Ab
theorem wordsAt_take {regs places:List Int} {k:Nat} {p:Int} (h:places[k]? = some p):wordsAt regs (places.take (k + 1))=wordsAt regs (places.take k) ++ [regs.getD p.toNat 0]:=by
 unfold wordsAt
 rw [List.take_add_one,h]
 simp
theorem wordsAt_len {regs places:List Int}:(wordsAt regs places).length=places.length:=by simp [wordsAt]
theorem getD_at {l:List Int} {n:Nat} {a:Int} (h:l[n]? = some a):l.getD n 0=a:=by simp [List.getD,h]
end Go.Ab
namespace Go.Ab.U7
open Go Go.Ab Go.Proofs
end Go.Ab.U7
end

import Derived.Test.YtfnpejmlcbkepaaBQ12F72
import Derived.Test.YtfnpejmlcbkepaaBM0
import Derived.Below
import Derived.Orders
import Derived.Laws.Cells
import Derived.Laws.OwnMore
import Derived.Laws.CopyOwn
import Derived.Maps.AppendAt
import Derived.Lib.FrozenHead
set_option linter.all false
section
set_option maxRecDepth 10000
namespace Go.Ab
theorem Au {α:Type} {l:List α} {a:α}:(l.reverse ++ [a])[l.length]? = some a:=by
 rw [Cm (by simp)]; simp
end Go.Ab
namespace Go.Ab.Q12
open Go Go.Ab Go.Proofs
theorem xp {q:Option Bool} {b:TV} {f:DFunc} (hf:RFunc q [I f.params,I f.regs,b] f) (g:Int):∃ y,cZ prog 48 [I g,.agg [I f.params,I f.regs,b]] y∧RInts (some true) y (gU f.blocks g):=by
 obtain ⟨v,h1,h2⟩:=r71 hf g
 refine ⟨v,?_,h2⟩
 refine cZ.of (f48_MR _ _ _ _) ?_
 unfold f48_M
 exact aa.call h1 (aa.chk (cz h2.isSl) (aa.chk (h2.own fun _ _ h=>h.own) aa.ret))
section
variable {q:Option Bool} {b:TV} {f:DFunc} (hf:RFunc q [I f.params,I f.regs,b] f) (hs:f.blocks.length≤1000) {w2:TV} (h2:RInts (some true) w2 [0])
include hf hs h2
theorem yN:∀ (d:Nat) (M:List Bool) (st:List (Nat × List Int)) (o:List Int) (w3 w4 w5:TV),work M st < d→WOk f.blocks M st o→RBools (some true) w3 M→RL (some true) 2 (RV (some false)) w4 st.reverse→RInts (some true) w5 o.reverse →
  ∃ y M' o',aa prog 24 (f24_2 (I ((1:Nat):Int)) (I ((0:Nat):Int)) w2 (I f.params) (I f.regs) b w3 w4 w5) y∧RInts (some true) y o'∧Dfs f.blocks M st o M' o':=by
 intro d
 induction d with
 | zero=>intro M st o w3 w4 w5 hd; omega
 | succ d ih =>
  intro M st o w3 w4 w5 hd hw h3 h4 h5
  have hcap:=hw.cap
  match st,hd,hw,h4,hcap with
  | [],hd,hw,h4,hcap =>
   have hol:o.length≤1000:=by simp at hcap; omega
   obtain ⟨y,hy,hr⟩:=Bw (L:=o.reverse) o.reverse.length 0 ((o.reverse.length:Int) - 1) w5 o.reverse (by simp) (by simp; omega) (by simp) h5 rfl (fun k hk=>by rw [if_neg (by omega)])
   refine ⟨y,M,o,?_,by simpa using hr,.done⟩
   unfold f24_2
   refine aa.tv h4.len (aa.tv rfl (aa.ite (v:=false) (by simp [asBool]) nofun fun _=>aa.tv (inc (k:=0) (n:=1) (by omega) (by omega)) (f24_1_J ?_)))
   unfold f24_1
   exact aa.tv rfl (aa.ite fb nofun fun _=>aa.tv h5.len (aa.tv (psub (by simp only [List.length_reverse]; constructor <;> omega)) (f24_3_J hy)))
  | (n, l) :: st', hd, hw, h4, hcap =>
   have hol:st'.length + o.length < 1000:=by simp at hcap; omega
   have hlen:((n,l) :: st').reverse.length=st'.length + 1:=by simp
   have hlast:((n,l) :: st').reverse[st'.length]? = some (n,l):=by rw [List.reverse_cons]; exact Au
   have h4b:=h4.bnd
   obtain ⟨e,he,v,rfl,hv⟩:=h4.pel hlast
   have hgp:=h4.deep he (j:=1) (z:=v) rfl
   have hnat:aA (I (st'.length:Nat))=some st'.length:=bp (by omega)
   have hsub:pbin (.int .i64) .sub (I (((n,l) :: st').reverse.length:Nat)) (I 1)=some (I (st'.length:Nat)):=by
    have:=dec7 (n:=((n,l) :: st').reverse.length) (by omega) (by omega)
    rw [this,hlen]; rfl
   have hchk:(Bool.and (slSize w4 2) (Nat.blt st'.length ((n,l) :: st').reverse.length))=true:=by rw [h4.slSize,hlen]; simp
   have hfit1:ak zSl [I (n:Int),v] 1=true:=by
    show (v.isSl && true)=true
    rw [hv.isSl]; rfl
   have hfit2:gE zSl [I (n:Int),v] 1=true:=by
    show ((v.isSl || v.AT) && true)=true
    rw [hv.isSl]; rfl
   have hgtr:asBool (.lit (.bool (decide (((((n,l) :: st').reverse.length:Nat):Int) > 0))))=some true:=by rw [hlen]; simp [asBool]
   match l,hd,hw,h4,hlast,hv,hsub,hchk,hlen,hgtr with
   | [], hd, hw, h4, hlast, hv, hsub, hchk, hlen, hgtr =>
    obtain ⟨w5',k1,k2⟩:=h5.app (e:=[I (n:Int)]) (a:=(n:Int)) ⟨rfl,by constructor <;> (have:=(hw.at_ _ Ci).1; simp at this; omega)⟩ (by simp; omega)
    obtain ⟨w4',k3,k4⟩:=h4.win (k:=st'.length) (by omega)
    have e4:((n,([]:List Int)) :: st').reverse.take st'.length=st'.reverse:=by
     rw [List.reverse_cons,List.take_append_of_le_length (by simp),List.take_of_length_le (by simp)]
    rw [e4] at k4
    obtain ⟨y,M',o',hy,hr,hD⟩:=ih M st' ((n:Int) :: o) w3 (cY w4') w5' (by simp [work] at hd ⊢; omega) hw.leave h3 k4.cooled (by rw [List.reverse_cons]; exact k2)
    refine ⟨y,M',o',?_,hr,.leave hD⟩
    unfold f24_2
    refine aa.tv h4.len (aa.tv rfl (aa.ite (v:=true) hgtr (fun _=>?_) nofun))
    refine aa.tv h4.len (aa.tv hsub (aa.nat h4.slLen (aa.nat hnat (aa.chk hchk (aa.tvs he (aa.chk hfit1 (aa.tv hgp (aa.tv hv.len (aa.tv rfl (aa.ite (v:=true) rfl (fun _=>?_) nofun)))))))))) 
    refine aa.tv h4.len (aa.tv hsub (aa.nat h4.slLen (aa.nat hnat (aa.chk hchk (aa.tvs he (aa.chk rfl (aa.rws rfl (aa.tv k1 (aa.nat h4.slLen (aa.nat hnat (aa.chk ?_ (aa.tv k3 (f24_2_J hy)))))))))))))
    rw [h4.slSize,hlen]; simp
   | g :: l, hd, hw, h4, hlast, hv, hsub, hchk, hlen, hgtr =>
    have hg:=(hw.at_ _ Ci).2 g Ci
    obtain ⟨eg,heg,rfl,hgi⟩:=hv.pel (i:=0) (a:=g) rfl
    obtain ⟨v',c1,c2⟩:=hv.winD (k:=1) (by simp)
    have e1:(g :: l).drop 1=l:=rfl
    rw [e1] at c2
    obtain ⟨w4',k1,k2⟩:=h4.rK he (d:=1) (ys:=[v']) (a:=(n,l)) ⟨v',rfl,c2⟩
    have e4:((n,g :: l) :: st').reverse.set st'.length (n,l)=((n,l) :: st').reverse:=by
     rw [List.reverse_cons,List.reverse_cons,List.set_append_right _ _ (by simp)]
     simp
    rw [e4] at k2
    have hMl:g.toNat < M.length:=by rw [hw.len]; exact hg.2
    have hMg:M[g.toNat]? = some M[g.toNat]:=Cc hMl
    obtain ⟨em,hem,hRm⟩:=h3.pel hMg
    cases hRm
    have hgn:aA (I g)=some g.toNat:=kW hg.1 hgi
    have h3b:=h3.bnd
    have hvl:(g :: l).length=l.length + 1:=rfl
    have front:∀ {r:TV},(M[g.toNat]=false→aa prog 24 (Prg.nat (slLen w3) fun n50=>Prg.nat (aA (nth TV.hole [I g] 0)) fun n51=>Prg.chk (Bool.and (slSize w3 1) (Nat.blt n51 n50)) (Prg.tvs (pel w3 n51) fun e52=>Prg.chk (ak dX e52 0) (Prg.tv (mG [] w3 n51 0 [TV.lit (Value.bool true)]) fun v53 =>
      Prg.call 48 [sA (nth TV.hole [I g] 0),TV.agg [I f.params,I f.regs,b]] fun v54=>Prg.chk (ak zSl [v54] 0) (Prg.rws (pelems 2 (TV.sl true 2 (chunks 2 1 [nth TV.hole [I g] 0,v54]))) fun r55=>Prg.tv (papp 2 w4' r55) fun v56=>Prg.jmp [0,0,1,1,0,0,1,1,0,0,1,0,1,1,12,0,1,1] (f24_2_S (I ((1:Nat):Int)) (I ((0:Nat):Int)) w2 (I f.params) (I f.regs) b v53 (cY v56) w5))))) r) →
      (M[g.toNat]=true→aa prog 24 (Prg.jmp [0,0,1,1,0,0,1,1,0,0,1,0,1,1,12,0,1,1] (f24_2_S (I ((1:Nat):Int)) (I ((0:Nat):Int)) w2 (I f.params) (I f.regs) b w3 (cY w4') w5)) r)→aa prog 24 (f24_2 (I ((1:Nat):Int)) (I ((0:Nat):Int)) w2 (I f.params) (I f.regs) b w3 w4 w5) r:=fun {r} k0 k9=>by
     unfold f24_2
     refine aa.tv h4.len (aa.tv rfl (aa.ite (v:=true) hgtr (fun _=>?_) nofun))
     refine aa.tv h4.len (aa.tv hsub (aa.nat h4.slLen (aa.nat hnat (aa.chk hchk (aa.tvs he (aa.chk hfit1 (aa.tv hgp (aa.tv hv.len (aa.tv rfl (aa.ite (v:=false) (by simp [asBool]; omega) nofun fun _=>?_))))))))))
     refine aa.tvs he (aa.chk hfit1 (aa.tv hgp (aa.nat hv.slLen (aa.nat (v:=0) rfl (aa.chk ?_ (aa.tv hgp (aa.tvs heg (aa.chk rfl ?_))))))))
     ·rw [hv.slSize]; simp
     refine aa.tvs he (aa.chk hfit1 (aa.tv hgp (aa.nat hv.slLen (aa.nat (v:=1) rfl (aa.chk ?_ (aa.tv hgp (aa.tv c1 (aa.chk c2.gu ?_))))))))
     ·rw [hv.slSize]; simp
     refine aa.tvs he (aa.chk ?_ (aa.tv k1 (aa.nat h3.slLen (aa.nat hgn (aa.chk ?_ (aa.tvs hem (aa.chk rfl (aa.tv rfl (aa.ite rfl (fun h=>k0 ?_) fun h=>k9 ?_)))))))))
     ·rw [hfit2,cz c2.isSl]; rfl
     ·rw [h3.slSize]; simpa using hMl
     ·simpa using h
     ·simpa using h
    cases hm:M[g.toNat] with
    | true =>
     obtain ⟨y,M',o',hy,hr,hD⟩:=ih M ((n,l) :: st') o w3 (cY w4') w5 (by simp [work] at hd ⊢; omega) hw.skip h3 k2.cooled h5
     exact ⟨y,M',o',front (fun h=>by rw [hm] at h; cases h) (fun _=>f24_2_J hy),hr,.skip (by rw [hMg,hm]) hD⟩
    | false =>
     rw [hm] at hMg
     obtain ⟨w3',c3,c4⟩:=h3.rK hem (d:=0) (ys:=[B true]) (a:=true) rfl
     obtain ⟨vn,c5,c6⟩:=xp hf g
     have e6:gU f.blocks g=aH f.blocks g.toNat:=by rw [gU,if_pos hg.1]
     rw [e6] at c6
     have hgg:((g.toNat:Nat):Int)=g:=by omega
     obtain ⟨w4'',c7,c8⟩:=(RL.app (R:=RV none) (k2.toN) (e:=[I g,vn]) (a:=(g.toNat,aH f.blocks g.toNat)) ⟨vn,by rw [hgg],c6.weak fun _ _ h=>h⟩ (by simp; omega))
     obtain ⟨y,M',o',hy,hr,hD⟩:=ih (M.set g.toNat true) ((g.toNat,aH f.blocks g.toNat) :: (n,l) :: st') o w3' (cY w4'') w5 (by
      have h1:=count_set hMg
      have h2:=wD f.blocks g.toNat
      simp only [work,List.map_cons,List.sum_cons,List.length_cons] at hd ⊢
      omega) (hw.enter hMg) c4 (by rw [List.reverse_cons]; exact c8.cooled) h5
     refine ⟨y,M',o',front (fun _=>?_) (fun h=>by rw [hm] at h; cases h),hr,.enter hMg hD⟩
     refine aa.nat h3.slLen (aa.nat hgn (aa.chk ?_ (aa.tvs hem (aa.chk rfl (aa.tv c3 (aa.call c5 (aa.chk (cz c6.isSl) (aa.rws rfl (aa.tv c7 (f24_2_J hy))))))))))
     rw [h3.slSize]; simpa using hMl
end
theorem r80 {q:Option Bool} {e:List TV} {f:DFunc} (he:RFunc q e f) (hs:f.blocks.length≤1000):∃ y o,cZ prog 24 [.agg e] y∧RInts (some true) y o∧wo f.blocks o:=by
 have he0:=he
 obtain ⟨b,rfl,hb,_⟩:=he
 by_cases h0:f.blocks=[]
 ·refine ⟨.lit bL,[],?_,.nil,.inl ⟨h0,rfl⟩⟩
  refine cZ.of (f24_MR _) ?_
  unfold f24_M
  exact aa.chk rfl (aa.tv hb.len (aa.tv rfl (aa.ite (v:=true) (by simp [asBool,h0]) (fun _=>aa.chk rfl aa.ret) nofun)))
 ·have hl:0 < f.blocks.length:=List.length_pos_iff.2 h0
  have hrep:RBools (some true) (.sl true 1 (List.replicate f.blocks.length [B false])) (List.replicate f.blocks.length false):=.sl (by simp) (F2.AQ (by simp) fun i e a he ha=>by
   rw [List.getElem?_replicate] at he ha
   split at he
   ·rename_i h; rw [if_pos h] at ha; cases he; cases ha; rfl
   ·cases he) (by simp; omega)
  obtain ⟨e7,he7,hR⟩:=hrep.pel (i:=0) (a:=false) (by rw [List.getElem?_replicate,if_pos hl])
  cases hR
  obtain ⟨w3,c1,c2⟩:=hrep.rK he7 (d:=0) (ys:=[B true]) (a:=true) rfl
  obtain ⟨v,c3,c4⟩:=xp he0 ((0:Nat):Int)
  rw [lc] at c4
  have h2:RInts (some true) (.sl true 1 [[I ((0:Nat):Int)]]) [0]:=.sl (by simp) (.cons ⟨rfl,by constructor <;> decide⟩ .nil) (by decide)
  obtain ⟨w4,c5,c6⟩:=(RL.nil:RL (some true) 2 (RV none) (.lit bL) []).app (e:=[I ((0:Nat):Int),v]) (a:=(0,aH f.blocks 0)) ⟨v,rfl,c4.weak fun _ _ h=>h⟩ (by simp)
  have hw:WOk f.blocks ((List.replicate f.blocks.length false).set 0 true) [(0,aH f.blocks 0)] []:=⟨by simp,fun p hp=>by
   rw [List.mem_singleton] at hp
   subst hp
   exact ⟨hl,fun g hg=>eW hg⟩,by rw [sE (by rw [List.getElem?_replicate,if_pos hl])]; simp⟩
  obtain ⟨y,M',o',hy,hr,hD⟩:=yN he0 hs h2 _ _ _ [] w3 (cY w4) (.lit bL) (Nat.lt_succ_self _) hw c2 c6.cooled .nil
  refine ⟨y,o',?_,hr,.inr ⟨h0,M',hD⟩⟩
  have hn:aA (I (f.blocks.length:Nat))=some f.blocks.length:=bp (by omega)
  refine cZ.of (f24_MR _) ?_
  unfold f24_M
  have hk:Nat.ble f.blocks.length 4294967296=true:=by simp; omega
  refine aa.chk rfl (aa.tv hb.len (aa.tv rfl (aa.ite (v:=false) (by simp [asBool]; omega) nofun fun _=>?_)))
  refine aa.tv hb.len (aa.nat hn (aa.nat hn (aa.chk (by simp [hk]) (aa.chk rfl (aa.chk rfl (f24_0_J ?_))))))
  unfold f24_0
  refine aa.tv h2.len (f24_1_J ?_)
  unfold f24_1
  have hck:(Bool.and (slSize (.sl true 1 (List.replicate f.blocks.length [B false])) 1) (Nat.blt 0 (List.replicate f.blocks.length false).length))=true:=by rw [hrep.slSize]; simpa using hl
  refine aa.tv rfl (aa.ite (v:=true) rfl (fun _=>?_) nofun)
  refine aa.nat h2.slLen (aa.nat (v:=0) rfl (aa.chk rfl (aa.tvs (v:=[I ((0:Nat):Int)]) rfl (aa.chk rfl ?_))))
  refine aa.nat hrep.slLen (aa.nat (v:=0) rfl (aa.chk hck (aa.tvs he7 (aa.chk rfl (aa.tv rfl (aa.ite (v:=true) rfl (fun _=>?_) nofun))))))
  refine aa.nat hrep.slLen (aa.nat (v:=0) rfl (aa.chk hck (aa.tvs he7 (aa.chk rfl (aa.tv c1 ?_)))))
  exact aa.call c3 (aa.chk (cz c4.isSl) (aa.rws rfl (aa.tv c5 (f24_2_J hy))))
end Go.Ab.Q12
end
section
set_option maxRecDepth 10000
namespace Go.Ab
inductive Rc (bs:List DBlock) (no:Int):Nat→Prop
 | start (h:no≠0) (h0:0 < bs.length):Rc bs no 0
 | next {i:Nat} {g:Int} (hi:Rc bs no i) (hg:g ∈ aH bs i) (hn:g≠no):Rc bs no g.toNat
def sZ (bs:List DBlock) (no:Int) (M:List Bool):Prop:=M.length=bs.length∧∀ i:Nat,M[i]? = some true ↔ Rc bs no i
theorem Rc.lt {bs:List DBlock} {no:Int} {i:Nat} (h:Rc bs no i):i < bs.length:=by
 cases h with
 | start _ h0=>exact h0
 | next _ hg _=>exact (eW hg).2
def Ckd (bs:List DBlock) (no:Int) (M:List Bool) (k:Nat):Prop:=∀ i:Nat,i < k→M[i]? = some true→∀ g ∈ aH bs i,g≠no→M[g.toNat]? = some true
def SndR (bs:List DBlock) (no:Int) (M:List Bool):Prop:=∀ i:Nat,M[i]? = some true→Rc bs no i
theorem Am {bs:List DBlock} {no:Int} {M:List Bool} (hl:M.length=bs.length) (h1:SndR bs no M) (h2:no≠0→0 < bs.length→M[0]? = some true) (h3:Ckd bs no M bs.length):sZ bs no M:=by
 refine ⟨hl,fun i=>⟨h1 i,fun h=>?_⟩⟩
 induction h with
 | start h h0=>exact h2 h h0
 | next hi hg hn ih=>exact h3 _ hi.lt ih _ hg hn
theorem rz {M:List Bool} {g i:Nat} (h:M[i]? = some true):(M.set g true)[i]? = some true:=by
 rw [List.getElem?_set]
 split
 ·rename_i e
  subst e
  have:=(Cb.1 h).1
  simp [this]
 ·exact h
theorem xX {n:Nat} (h:n≤9223372036854775807):RBools (some true) (.sl true 1 (List.replicate n [B false])) (List.replicate n false):=.sl (by simp) (F2.AQ (by simp) fun i e a he ha=>by
 rw [List.getElem?_replicate] at he ha
 split at he
 ·rename_i h; rw [if_pos h] at ha; cases he; cases ha; rfl
 ·cases he) (by simpa using h)
end Go.Ab
namespace Go.Ab.Q12
open Go Go.Ab Go.Proofs
section
variable {q:Option Bool} {b:TV} {f:DFunc} (hf:RFunc q [I f.params,I f.regs,b] f) (hs:f.blocks.length≤1000) {no:Int}
include hs
include hf
end
end Go.Ab.Q12
end
section
set_option maxRecDepth 10000
namespace Go.Ab
def LedO (bs:List DBlock) (S:Nat→Prop) (o:List Int):Prop:=∀ (A:List Int) (x:Int) (B:List Int),o=A ++ x :: B→x=0∨∃ p:Nat,x ∈ aH bs p∧((p:Int) ∈ A∨S p)
def Chain (bs:List DBlock):List (Nat × List Int)→Prop
 | []=>True
 | [p]=>p.1=0
 | p :: r :: l=>(p.1:Int) ∈ aH bs r.1∧Chain bs (r :: l)
structure DI (bs:List DBlock) (M:List Bool) (st:List (Nat × List Int)) (o:List Int):Prop where
 len:M.length=bs.length
 at_:∀ p ∈ st,p.1 < bs.length∧∀ g ∈ p.2,g ∈ aH bs p.1
 mem:∀ i:Nat,M[i]? = some true ↔ (∃ p ∈ st,p.1=i)∨(i:Int) ∈ o
 nod:(o ++ st.map fun p=>(p.1:Int)).Nodup
 out:∀ x ∈ o,0≤x∧∀ g ∈ aH bs x.toNat,M[g.toNat]? = some true
 todo:∀ p ∈ st,∀ g ∈ aH bs p.1,g ∈ p.2∨M[g.toNat]? = some true
 snd:SndR bs (-1) M
 led:LedO bs (fun p=>∃ r ∈ st,r.1=p) o
 chain:Chain bs st
 last:st=[]→o.head? = some 0
theorem fm {g:Int} (h:0≤g):((g.toNat:Nat):Int)=g:=by omega
theorem DI.leave {bs:List DBlock} {M:List Bool} {n:Nat} {st:List (Nat × List Int)} {o:List Int} (h:DI bs M ((n,[]) :: st) o):DI bs M st ((n:Int) :: o):=by
 refine ⟨h.len,fun p hp=>h.at_ p (Cj _ hp),fun i=>?_,?_,fun x hx=>?_,fun p hp=>h.todo p (Cj _ hp),h.snd,?_,?_,fun hst=>?_⟩
 ·rw [h.mem i]
  constructor
  ·rintro (⟨p,hp,rfl⟩ | hi)
   ·rcases List.mem_cons.1 hp with rfl | hp
    ·exact .inr Ci
    ·exact .inl ⟨p,hp,rfl⟩
   ·exact .inr (Cj _ hi)
  ·rintro (⟨p,hp,rfl⟩ | hi)
   ·exact .inl ⟨p,Cj _ hp,rfl⟩
   ·rcases List.mem_cons.1 hi with hi | hi
    ·exact .inl ⟨(n,[]),Ci,by omega⟩
    ·exact .inr hi
 ·have:=h.nod
  rw [List.map_cons] at this
  exact List.perm_middle.nodup_iff.1 this
 ·rcases List.mem_cons.1 hx with rfl | hx
  ·refine ⟨by omega,fun g hg=>?_⟩
   rcases h.todo (n,[]) Ci g hg with h1 | h1
   ·cases h1
   ·exact h1
  ·exact h.out x hx
 ·intro A x B e
  cases A with
  | nil =>
   simp only [List.nil_append,List.cons.injEq] at e
   obtain ⟨rfl,_⟩:=e
   cases st with
   | nil=>left; have:=h.chain; simp only [Chain] at this; omega
   | cons r l=>right; exact ⟨r.1,h.chain.1,.inr ⟨r,Ci,rfl⟩⟩
  | cons a A =>
   simp only [List.cons_append,List.cons.injEq] at e
   obtain ⟨rfl,e⟩:=e
   rcases h.led A x B e with h1 | ⟨p,h1,h2⟩
   ·exact .inl h1
   ·refine .inr ⟨p,h1,?_⟩
    rcases h2 with h2 | ⟨r,hr,rfl⟩
    ·exact .inl (Cj _ h2)
    ·rcases List.mem_cons.1 hr with rfl | hr
     ·exact .inl Ci
     ·exact .inr ⟨r,hr,rfl⟩
 ·have:=h.chain
  cases st with
  | nil=>trivial
  | cons r l=>exact this.2
 ·subst hst
  have:=h.chain
  simp only [Chain] at this
  subst this
  rfl
theorem DI.skip {bs:List DBlock} {M:List Bool} {n:Nat} {g:Int} {l:List Int} {st:List (Nat × List Int)} {o:List Int} (h:DI bs M ((n,g :: l) :: st) o) (hg:M[g.toNat]? = some true):DI bs M ((n,l) :: st) o:=by
 refine ⟨h.len,fun p hp=>?_,fun i=>?_,h.nod,h.out,fun p hp g' hg'=>?_,h.snd,fun A x B e=>?_,?_,fun hst=>(by cases hst)⟩
 ·rcases List.mem_cons.1 hp with rfl | hp
  ·exact ⟨(h.at_ _ Ci).1,fun g' hg'=>(h.at_ (n,g :: l) Ci).2 g' (Cj _ hg')⟩
  ·exact h.at_ p (Cj _ hp)
 ·rw [h.mem i]
  simp
 ·rcases List.mem_cons.1 hp with rfl | hp
  ·rcases h.todo (n,g :: l) Ci g' hg' with h1 | h1
   ·rcases List.mem_cons.1 h1 with rfl | h1
    ·exact .inr hg
    ·exact .inl h1
   ·exact .inr h1
  ·exact h.todo p (Cj _ hp) g' hg'
 ·rcases h.led A x B e with h1 | ⟨p,h1,h2⟩
  ·exact .inl h1
  ·refine .inr ⟨p,h1,h2.imp id ?_⟩
   rintro ⟨r,hr,rfl⟩
   rcases List.mem_cons.1 hr with rfl | hr
   ·exact ⟨(n,l),Ci,rfl⟩
   ·exact ⟨r,Cj _ hr,rfl⟩
 ·have:=h.chain
  cases st with
  | nil=>exact this
  | cons r l=>exact this
theorem DI.enter {bs:List DBlock} {M:List Bool} {n:Nat} {g:Int} {l:List Int} {st:List (Nat × List Int)} {o:List Int} (h:DI bs M ((n,g :: l) :: st) o) (hg:M[g.toNat]? = some false):DI bs (M.set g.toNat true) ((g.toNat,aH bs g.toNat) :: (n,l) :: st) o:=by
 have hgm:=(h.at_ (n,g :: l) Ci).2 g Ci
 have hgt:=eW hgm
 have hlt:=(Cb.1 hg).1
 have hgc:=fm hgt.1
 have hnM:∀ i:Nat,M[i]? = some true→i≠g.toNat:=fun i hi e=>by rw [e,hg] at hi; cases hi
 refine ⟨by rw [List.length_set]; exact h.len,fun p hp=>?_,fun i=>?_,?_,fun x hx=>⟨(h.out x hx).1,fun g' hg'=>rz ((h.out x hx).2 g' hg')⟩,fun p hp g' hg'=>?_,fun i hi=>?_,fun A x B e=>?_,?_,fun hst=>(by cases hst)⟩
 ·rcases List.mem_cons.1 hp with rfl | hp
  ·exact ⟨hgt.2,fun g' hg'=>hg'⟩
  ·rcases List.mem_cons.1 hp with rfl | hp
   ·exact ⟨(h.at_ _ Ci).1,fun g' hg'=>(h.at_ (n,g :: l) Ci).2 g' (Cj _ hg')⟩
   ·exact h.at_ p (Cj _ hp)
 ·rw [ly hlt,h.mem i]
  simp only [List.mem_cons,exists_eq_or_imp]
  constructor
  ·rintro (rfl | h1)
   ·exact .inl (.inl rfl)
   ·rcases h1 with h1 | h1
    ·exact .inl (.inr h1)
    ·exact .inr h1
  ·rintro ((h1 | h1) | h1)
   ·exact .inl h1.symm
   ·exact .inr (.inl h1)
   ·exact .inr (.inr h1)
 ·have h1:=h.nod
  rw [List.map_cons] at h1 ⊢
  rw [List.perm_middle.nodup_iff,List.nodup_cons]
  refine ⟨fun hin=>?_,by rw [List.map_cons]; exact h1⟩
  have:M[g.toNat]? = some true:=by
   rw [h.mem]
   rcases List.mem_append.1 hin with hin | hin
   ·exact .inr hin
   ·obtain ⟨p,hp,he⟩:=List.mem_map.1 hin
    have he:p.1=g.toNat:=by omega
    rcases List.mem_cons.1 hp with rfl | hp
    ·exact .inl ⟨(n,g :: l),Ci,he⟩
    ·exact .inl ⟨p,Cj _ hp,he⟩
  rw [hg] at this
  cases this
 ·rcases List.mem_cons.1 hp with rfl | hp
  ·exact .inl hg'
  ·rcases List.mem_cons.1 hp with rfl | hp
   ·rcases h.todo (n,g :: l) Ci g' hg' with h1 | h1
    ·rcases List.mem_cons.1 h1 with rfl | h1
     ·exact .inr ((ly hlt).2 (.inl rfl))
     ·exact .inl h1
    ·exact .inr (rz h1)
   ·exact (h.todo p (Cj _ hp) g' hg').imp id rz
 ·rcases (ly hlt).1 hi with rfl | h1
  ·have hn:M[n]? = some true:=(h.mem n).2 (.inl ⟨(n,g :: l),Ci,rfl⟩)
   exact .next (h.snd n hn) hgm (by omega)
  ·exact h.snd i h1
 ·rcases h.led A x B e with h1 | ⟨p,h1,h2⟩
  ·exact .inl h1
  ·refine .inr ⟨p,h1,h2.imp id ?_⟩
   rintro ⟨r,hr,rfl⟩
   rcases List.mem_cons.1 hr with rfl | hr
   ·exact ⟨(n,l),Cj _ Ci,rfl⟩
   ·exact ⟨r,Cj _ (Cj _ hr),rfl⟩
 ·have:=h.chain
  refine ⟨by rw [hgc]; exact hgm,?_⟩
  cases st with
  | nil=>exact this
  | cons r l=>exact this
theorem Dfs.keeps {bs:List DBlock} {M M':List Bool} {st:List (Nat × List Int)} {o o':List Int} (h:Dfs bs M st o M' o'):DI bs M st o→DI bs M' [] o':=by
 induction h with
 | done=>exact fun h=>h
 | leave _ ih=>exact fun h=>ih h.leave
 | skip hg _ ih=>exact fun h=>ih (h.skip hg)
 | enter hg _ ih=>exact fun h=>ih (h.enter hg)
theorem DI.start {bs:List DBlock} (h:bs≠[]):DI bs ((List.replicate bs.length false).set 0 true) [(0,aH bs 0)] []:=by
 have hl:0 < bs.length:=List.length_pos_iff.2 h
 have hlr:0 < (List.replicate bs.length false).length:=by simpa using hl
 have none_:∀ i:Nat,¬ (List.replicate bs.length false)[i]? = some true:=fun i h=>by
  rw [List.getElem?_replicate] at h
  split at h <;> cases h
 refine ⟨by simp,fun p hp=>?_,fun i=>?_,by simp,fun x hx=>(by cases hx),fun p hp g hg=>?_,fun i hi=>?_,fun A x B e=>(by simp at e),rfl,fun hst=>(by cases hst)⟩
 ·rw [List.mem_singleton] at hp
  subst hp
  exact ⟨hl,fun g hg=>hg⟩
 ·rw [ly hlr]
  simp only [List.mem_singleton,exists_eq_left,List.not_mem_nil,or_false]
  constructor
  ·rintro (rfl | h)
   ·rfl
   ·exact absurd h (none_ i)
  ·rintro rfl
   exact .inl rfl
 ·rw [List.mem_singleton] at hp
  subst hp
  exact .inl hg
 ·rcases (ly hlr).1 hi with rfl | h
  ·exact .start (by omega) hl
  ·exact absurd h (none_ i)
structure OI (bs:List DBlock) (o:List Int):Prop where
 mem:∀ i:Nat,(i:Int) ∈ o ↔ Rc bs (-1) i
 pos:∀ x ∈ o,0≤x∧x < (bs.length:Int)
 nod:o.Nodup
 led:∀ (A:List Int) (x:Int) (B:List Int),o=A ++ x :: B→x=0∨∃ p:Nat,x ∈ aH bs p∧(p:Int) ∈ A
 first:bs≠[]→o.head? = some 0
theorem wo.keeps {bs:List DBlock} {o:List Int} (h:wo bs o):OI bs o:=by
 rcases h with ⟨rfl,rfl⟩ | ⟨h0,M',hD⟩
 ·refine ⟨fun i=>⟨fun h=>(by cases h),fun h=>absurd h.lt (by simp)⟩,fun x hx=>(by cases hx),List.nodup_nil,fun A x B e=>(by simp at e),fun h=>absurd rfl h⟩
 ·have h:=hD.keeps (DI.start h0)
  have hmem:∀ i:Nat,M'[i]? = some true ↔ (i:Int) ∈ o:=fun i=>by rw [h.mem i]; simp
  have hfull:sZ bs (-1) M':=by
   have hhd:=h.last rfl
   have h0o:(0:Int) ∈ o:=by
    cases o with
    | nil=>cases hhd
    | cons a o=>simp only [List.head?_cons,Cd] at hhd; subst hhd; exact Ci
   refine Am h.len h.snd (fun _ _=>(hmem 0).2 h0o) (fun i _ hi g hg _=>?_)
   have:=(h.out i ((hmem i).1 hi)).2 g (by simpa using hg)
   exact this
  refine ⟨fun i=>by rw [← hmem i]; exact hfull.2 i,fun x hx=>?_,by have:=h.nod; simpa using this,fun A x B e=>?_,fun _=>h.last rfl⟩
  ·have hx0:=(h.out x hx).1
   have:Rc bs (-1) x.toNat:=(hfull.2 _).1 ((hmem _).2 (by rw [fm hx0]; exact hx))
   have:=this.lt
   omega
  ·rcases h.led A x B e with h1 | ⟨p,h1,h2⟩
   ·exact .inl h1
   ·refine .inr ⟨p,h1,?_⟩
    rcases h2 with h2 | ⟨r,hr,_⟩
    ·exact h2
    ·cases hr
end Go.Ab
namespace Go.Ab.Q12
open Go Go.Ab Go.Proofs
theorem r85 {q:Option Bool} {e:List TV} {f:DFunc} (he:RFunc q e f) (hs:f.blocks.length≤1000):∃ y M,cZ prog 22 [.agg e] y∧RBools (some true) y M∧sZ f.blocks (-1) M:=by
 obtain ⟨v,o,hv,hvr,hO⟩:=r80 he hs
 obtain ⟨b,rfl,hb,_⟩:=he
 have hI:=hO.keeps
 have hvb:=hvr.bnd
 have loop:∀ (d k:Nat) (M:List Bool) (w:TV),k + d=o.length→RBools (some true) w M→M.length=f.blocks.length→(∀ i:Nat,M[i]? = some true ↔ (i:Int) ∈ o.take k)→∃ y M,aa prog 22 (f22_0 (I o.length) (I k) w v) y∧RBools (some true) y M∧sZ f.blocks (-1) M:=by
  intro d
  induction d with
  | zero =>
   intro k M w hk hw hl hm
   have hk:k=o.length:=by omega
   subst hk
   rw [List.take_length] at hm
   refine ⟨w,M,?_,hw,hl,fun i=>by rw [hm i]; exact hI.mem i⟩
   unfold f22_0
   exact aa.tv rfl (aa.ite fb nofun fun _=>aa.ret)
  | succ d ih =>
   intro k M w hk hw hl hm
   have hkl:k < o.length:=by omega
   obtain ⟨x,hxx⟩:∃ x,x=o[k]:=⟨_,rfl⟩
   have hox:o[k]? = some x:=by rw [hxx]; exact Cc hkl
   have hxo:=hI.pos x (Ck hox)
   obtain ⟨e,he,rfl,hei⟩:=hvr.pel hox
   have hxl:x.toNat < M.length:=by omega
   obtain ⟨e2,he2,hR⟩:=hw.pel (Cc hxl)
   cases hR
   obtain ⟨w',c1,c2⟩:=hw.rK he2 (d:=0) (ys:=[B true]) (a:=true) rfl
   obtain ⟨y,M',hy,hr,hF⟩:=ih (k + 1) (M.set x.toNat true) w' (by omega) c2 (by rw [List.length_set]; exact hl) (fun i=>by
    rw [ly hxl,hm i,ns hox,List.mem_append,List.mem_singleton]
    constructor
    ·rintro (rfl | h)
     ·exact .inr (fm hxo.1)
     ·exact .inl h
    ·rintro (h | h)
     ·exact .inr h
     ·exact .inl (by omega))
   refine ⟨y,M',?_,hr,hF⟩
   unfold f22_0
   refine aa.tv rfl (aa.ite (ek hkl) (fun _=>?_) nofun)
   refine aa.nat hvr.slLen (aa.nat (bp (by omega)) (aa.chk ?_ (aa.tvs he (aa.chk rfl (aa.nat hw.slLen (aa.nat (kW hxo.1 hei) (aa.chk ?_ (aa.tvs he2 (aa.chk rfl (aa.tv c1 (aa.tv (inc hkl hvb) (f22_0_J hy))))))))))))
   ·rw [hvr.slSize]; simpa using hkl
   ·rw [hw.slSize]; simpa using hxl
 obtain ⟨y,M,hy,hr,hF⟩:=loop o.length 0 _ _ (by omega) (xX (n:=f.blocks.length) (by omega)) (by simp) (fun i=>by
  rw [List.getElem?_replicate]
  simp)
 refine ⟨y,M,?_,hr,hF⟩
 have hn:aA (I (f.blocks.length:Nat))=some f.blocks.length:=bp (by omega)
 refine cZ.of (f22_MR _) ?_
 unfold f22_M
 refine aa.chk rfl (aa.tv hb.len (aa.nat hn (aa.nat hn (aa.chk ?_ (aa.call hv (aa.chk (cz hvr.isSl) (aa.tv hvr.len (f22_0_J hy))))))))
 have:Nat.ble f.blocks.length 4294967296=true:=by simp; omega
 simp [this]
end Go.Ab.Q12
end
section
set_option maxRecDepth 100000
namespace Go.Ab.Q12
open Go Go.Ab Go.Proofs
theorem A1:cZ prog 15 [] (B true):=⟨40,by kernel_rfl⟩
end Go.Ab.Q12
end
section
set_option maxRecDepth 10000
namespace Go.Ab
def jU (M:List Bool) (k:Nat):Nat:=(M.take k).count true
theorem oO {M:List Bool} {k:Nat} {b:Bool} (h:M[k]? = some b):jU M (k + 1)=jU M k + (if b then 1 else 0):=by
 unfold jU
 rw [ns h,List.count_append]
 cases b <;> simp
theorem yO (M:List Bool) (k:Nat):jU M k≤k:=by
 unfold jU
 exact Nat.le_trans List.count_le_length (by simp; omega)
theorem wX {l:List Int} (h:l.Nodup) {i j:Nat} {a:Int} (hi:l[i]? = some a) (hj:l[j]? = some a):i=j:=by
 have hp:=List.pairwise_iff_getElem.1 h
 obtain ⟨h1,e1⟩:=Cb.1 hi
 obtain ⟨h2,e2⟩:=Cb.1 hj
 rcases Nat.lt_trichotomy i j with h3 | h3 | h3
 ·exact absurd (e1.trans e2.symm) (hp i j h1 h2 h3)
 ·exact h3
 ·exact absurd (e2.trans e1.symm) (hp j i h2 h1 h3)
theorem Bg {bs:List DBlock} {M:List Bool} {o:List Int} (hF:sZ bs (-1) M) (hI:OI bs o):jU M bs.length=o.length:=by
 have h1:o.Perm (((List.range bs.length).filter fun i=>M[i]? == some true).map fun i:Nat=>(i:Int)):=by
  apply (List.perm_ext_iff_of_nodup hI.nod ?_).2
  ·intro x
   rw [List.mem_map]
   constructor
   ·intro hx
    have hp:=hI.pos x hx
    refine ⟨x.toNat,?_,fm hp.1⟩
    rw [List.mem_filter,List.mem_range]
    refine ⟨by omega,?_⟩
    have:M[x.toNat]? = some true:=(hF.2 _).2 ((hI.mem _).1 (by rw [fm hp.1]; exact hx))
    simp [this]
   ·rintro ⟨i,hi,rfl⟩
    rw [List.mem_filter] at hi
    exact (hI.mem i).2 ((hF.2 i).1 (by simpa using hi.2))
  ·have hn:((List.range bs.length).filter fun i=>M[i]? == some true).Nodup:=List.Pairwise.filter _ List.nodup_range
   exact List.Pairwise.map _ (fun a b h=>by intro e; exact h (by omega)) hn
 have h2:∀ k,k≤M.length→jU M k=((List.range k).filter fun i=>M[i]? == some true).length:=by
  intro k
  induction k with
  | zero=>intro _; rfl
  | succ k ih =>
   intro hk
   have hb:M[k]? = some M[k]:=Cc (by omega)
   rw [oO hb,ih (by omega),List.range_succ,List.filter_append,List.length_append]
   cases h:M[k] <;> simp [hb,h]
 rw [h2 _ (by rw [hF.1]; exact Nat.le_refl _),h1.length_eq,List.length_map]
end Go.Ab
namespace Go.Ab.Q12
open Go Go.Ab Go.Proofs
section
variable {q:Option Bool} {b:TV} {f:DFunc} (hf:RFunc q [I f.params,I f.regs,b] f) (hs:f.blocks.length≤70) {M:List Bool} {o:List Int} {w5 w6:TV}
 (h5:RInts (some true) w5 o) (h6:RBools (some true) w6 M) (hF:sZ f.blocks (-1) M) (hI:OI f.blocks o)
include hf hs h5 h6 hF hI
omit hs h6 hF in
theorem A2 {m:Nat} {i:Nat} {x:Int} (hx:o[i]? = some x) (K:aa prog 4 (f4_8 (I m) (I i) (B true) (I f.params) (I f.regs) b w5 w6) (B true)) :
  ∀ (d k:Nat) (u:Bool),k + d=i→(u=true ↔ i=0∨∃ (j:Nat) (p:Int),j < k∧o[j]? = some p∧x ∈ aH f.blocks p.toNat)→aa prog 4 (f4_6 (I m) (I i) (B u) (I k) (I f.params) (I f.regs) b w5 w6) (B true):=by
 have h5b:=h5.bnd
 have hil:i < o.length:=(Cb.1 hx).1
 intro d
 induction d with
 | zero =>
  intro k u hk hu
  have hk:k=i:=by omega
  subst hk
  have:u=true:=by
   rw [hu]
   have e:o=o.take k ++ x :: o.drop (k + 1):=by
    have h1:o.drop k=x :: o.drop (k + 1):=by
     rw [List.drop_eq_getElem_cons hil]
     rw [Cc hil] at hx
     rw [Option.some.inj hx]
    rw [← h1,List.take_append_drop]
   rcases hI.led _ _ _ e with h | ⟨p,h1,h2⟩
   ·left
    rcases Nat.eq_zero_or_pos k with h0 | h0
    ·exact h0
    ·exfalso
     have hne:f.blocks≠[]:=fun h=>by
      have:=(hI.pos x (Ck hx))
      rw [h] at this
      simp at this
      omega
     have hhd:=hI.first hne
     have h00:o[0]? = some 0:=by rw [← List.head?_eq_getElem?]; exact hhd
     rw [h] at hx
     have:=wX hI.nod h00 hx
     omega
   ·right
    obtain ⟨j,hj,hjp⟩:=List.mem_iff_getElem.1 h2
    have hjk:j < k:=by simp at hj; omega
    refine ⟨j,(p:Int),hjk,?_,by simpa using h1⟩
    rw [List.getElem_take] at hjp
    rw [Cc (by omega),hjp]
  subst this
  unfold f4_6
  exact aa.tv rfl (aa.ite fb nofun fun _=>f4_8_J K)
 | succ d ih =>
  intro k u hk hu
  have hkl:k < o.length:=by omega
  have hki:k < i:=by omega
  cases u with
  | true =>
   unfold f4_6
   refine aa.tv rfl (aa.ite (ek hki) (fun _=>aa.ite (v:=true) rfl (fun _=>aa.tv (inc hkl h5b) (f4_6_J (ih (k + 1) true (by omega) ?_))) nofun) nofun)
   refine ⟨fun _=>?_,fun _=>rfl⟩
   rcases hu.1 rfl with h | ⟨j,p,h1,h2⟩
   ·exact .inl h
   ·exact .inr ⟨j,p,by omega,h2⟩
  | false =>
   obtain ⟨p,hpp⟩:∃ p,p=o[k]:=⟨_,rfl⟩
   have hop:o[k]? = some p:=by rw [hpp]; exact Cc hkl
   obtain ⟨e1,he1,rfl,hpi⟩:=h5.pel hop
   obtain ⟨e2,he2,rfl,hxi⟩:=h5.pel hx
   have hp0:=hI.pos p (Ck hop)
   obtain ⟨v,hv,hvr⟩:=r71 hf p
   have e3:gU f.blocks p=aH f.blocks p.toNat:=by rw [gU,if_pos hp0.1]
   rw [e3] at hvr
   have hc:=r75 (hvr.frz fun _ _ h=>h.frz) x
   have ank:aA (I (k:Nat))=some k:=bp (by omega)
   have ani:aA (I (i:Nat))=some i:=bp (by omega)
   unfold f4_6
   refine aa.tv rfl (aa.ite (ek hki) (fun _=>aa.ite (v:=false) rfl nofun fun _=>?_) nofun)
   refine aa.nat h5.slLen (aa.nat ank (aa.chk (by rw [h5.slSize]; simpa using hkl) (aa.tvs he1 (aa.chk rfl (aa.call hv (aa.chk (cz hvr.isSl) ?_))))))
   refine aa.nat h5.slLen (aa.nat ani (aa.chk (by rw [h5.slSize]; simpa using hil) (aa.tvs he2 (aa.chk rfl (aa.call hc (aa.chk rfl (aa.tv (inc hkl h5b) (f4_6_J (ih (k + 1) _ (by omega) ?_)))))))))
   rw [decide_eq_true_eq]
   constructor
   ·intro h
    exact .inr ⟨k,p,by omega,hop,h⟩
   ·rintro (h | ⟨j,p',h1,h2,h3⟩)
    ·exact absurd (hu.2 (.inl h)) (by simp)
    ·rcases Nat.lt_or_ge j k with h4 | h4
     ·exact absurd (hu.2 (.inr ⟨j,p',h4,h2,h3⟩)) (by simp)
     ·have:j=k:=by omega
      subst this
      rw [hop] at h2
      cases h2
      exact h3
omit hs in
theorem Bf {m:Nat} (hm:m=o.length):∀ (d i:Nat),i + d=o.length→aa prog 4 (f4_5 (I m) (I i) (I f.params) (I f.regs) b w5 w6) (B true):=by
 have h5b:=h5.bnd
 intro d
 induction d with
 | zero =>
  intro i hi
  have hi:i=o.length:=by omega
  subst hi
  unfold f4_5
  refine aa.tv h5.len (aa.tv rfl (aa.ite fb nofun fun _=>f4_7_J ?_))
  unfold f4_7
  exact aa.tv h5.len (aa.tv rfl (f7.2 (by rw [hm]; simp)))
 | succ d ih =>
  intro i hi
  have hil:i < o.length:=by omega
  obtain ⟨x,hxx⟩:∃ x,x=o[i]:=⟨_,rfl⟩
  have hox:o[i]? = some x:=by rw [hxx]; exact Cc hil
  have hxo:=hI.pos x (Ck hox)
  obtain ⟨e1,he1,rfl,hxi⟩:=h5.pel hox
  have hMx:M[x.toNat]? = some true:=(hF.2 _).2 ((hI.mem _).1 (by rw [fm hxo.1]; exact Ck hox))
  have hMl:=(Cb.1 hMx).1
  obtain ⟨e2,he2,hR⟩:=h6.pel hMx
  cases hR
  obtain ⟨y,hy,hyr⟩:=h5.win (k:=i) (by omega)
  have hc:=r75 (hyr.frz fun _ _ h=>h.frz) x
  have hnot:x ∉ o.take i:=fun h=>by
   obtain ⟨j,hj,hjx⟩:=List.mem_iff_getElem.1 h
   have hji:j < i:=by simp at hj; omega
   rw [List.getElem_take] at hjx
   have:=wX hI.nod (i:=j) (j:=i) (a:=x) (by rw [Cc (by omega),hjx]) hox
   omega
  have ani:aA (I (i:Nat))=some i:=bp (by omega)
  unfold f4_5
  refine aa.tv h5.len (aa.tv rfl (aa.ite (ek hil) (fun _=>?_) nofun))
  refine aa.nat h5.slLen (aa.nat ani (aa.chk (by rw [h5.slSize]; simpa using hil) (aa.tvs he1 (aa.chk rfl (aa.nat h6.slLen (aa.nat (kW hxo.1 hxi) (aa.chk (by rw [h6.slSize]; simpa using hMl) (aa.tvs he2 (aa.chk rfl (aa.tv rfl (aa.ite (v:=false) rfl nofun fun _=>?_)))))))))))
  refine aa.nat h5.slLen (aa.nat ani (aa.chk ?_ (aa.nat h5.slLen (aa.nat ani (aa.chk (by rw [h5.slSize]; simpa using hil) (aa.tvs he1 (aa.chk rfl (aa.tv hy (aa.call hc (aa.chk rfl (aa.ite (v:=false) (by simp [asBool,hnot]) nofun fun _=>aa.tv rfl (f4_6_J ?_))))))))))))
  ·rw [h5.slSize]; simp; omega
  refine A2 hf h5 hI (m:=m) hox ?_ i 0 _ (by omega) ?_
  ·unfold f4_8
   exact aa.tv rfl (aa.ite (v:=false) rfl nofun fun _=>aa.tv (inc hil h5b) (f4_5_J (ih (i + 1) (by omega))))
  ·constructor
   ·intro h
    left
    have:(i:Int)=0:=by simpa using h
    omega
   ·rintro (h | ⟨j,p,h1,_⟩)
    ·subst h; rfl
    ·omega
omit h5 hI in
theorem BG {m n:Nat} (hn:n < f.blocks.length) {w8:TV} (h8:RInts (some true) w8 (aH f.blocks n)) (K:aa prog 4 (f4_1 (I m) (I (n + 1:Nat)) (I f.params) (I f.regs) b w5 w6) (B true)) :
  ∀ (d j:Nat),j + d=(aH f.blocks n).length→aa prog 4 (f4_4 (I m) (I n) (I j) (I f.params) (I f.regs) b w5 w6 w8) (B true):=by
 have h8b:=h8.bnd
 intro d
 induction d with
 | zero =>
  intro j hj
  have hj:j=(aH f.blocks n).length:=by omega
  subst hj
  unfold f4_4
  exact aa.tv h8.len (aa.tv rfl (aa.ite fb nofun fun _=>aa.tv (inc hn (by omega)) (f4_1_J K)))
 | succ d ih =>
  intro j hj
  have hjl:j < (aH f.blocks n).length:=by omega
  obtain ⟨g,hgg⟩:∃ g,g=(aH f.blocks n)[j]:=⟨_,rfl⟩
  have hgk:(aH f.blocks n)[j]? = some g:=by rw [hgg]; exact Cc hjl
  have hgm:=Ck hgk
  have hgt:=eW hgm
  obtain ⟨eg,heg,rfl,hgi⟩:=h8.pel hgk
  have hnMl:n < M.length:=by rw [hF.1]; exact hn
  have hnM:M[n]? = some M[n]:=Cc hnMl
  obtain ⟨en,hen,hR⟩:=h6.pel hnM
  cases hR
  have hgl:g.toNat < M.length:=by rw [hF.1]; exact hgt.2
  have hgM:M[g.toNat]? = some M[g.toNat]:=Cc hgl
  obtain ⟨em,hem,hR⟩:=h6.pel hgM
  cases hR
  have ann:aA (I (n:Nat))=some n:=bp (by omega)
  have anj:aA (I (j:Nat))=some j:=bp (by omega)
  have ck1:(Bool.and (slSize w6 1) (Nat.blt n M.length))=true:=by rw [h6.slSize,hF.1]; simpa using hn
  have ck2:(Bool.and (slSize w8 1) (Nat.blt j (aH f.blocks n).length))=true:=by rw [h8.slSize]; simpa using hjl
  have ck3:(Bool.and (slSize w6 1) (Nat.blt g.toNat M.length))=true:=by rw [h6.slSize]; simpa using hgl
  obtain ⟨vb,hvb,hvbr⟩:=r76 hf (by omega) g
  have hc:=r75 (hvbr.frz fun _ _ h=>h.frz) (n:Int)
  have hin:(n:Int) ∈ befL f.blocks g:=yu.2 ⟨n,rfl,hn,hgm⟩
  have next:=f4_4_J (ih (j + 1) (by omega))
  unfold f4_4
  refine aa.tv h8.len (aa.tv rfl (aa.ite (ek hjl) (fun _=>?_) nofun))
  refine aa.nat h6.slLen (aa.nat ann (aa.chk ck1 (aa.tvs hen (aa.chk rfl (aa.ite rfl (fun h=>?_) fun _=>?_)))))
  ·have hnt:M[n]? = some true:=by rw [hnM]; simpa using h
   have hgt2:M[g.toNat]=true:=by
    have:M[g.toNat]? = some true:=(hF.2 _).2 (.next ((hF.2 n).1 hnt) hgm (by omega))
    rw [hgM] at this
    exact Option.some.inj this
   refine aa.nat h8.slLen (aa.nat anj (aa.chk ck2 (aa.tvs heg (aa.chk rfl (aa.nat h6.slLen (aa.nat (kW hgt.1 hgi) (aa.chk ck3 (aa.tvs hem (aa.chk rfl (aa.tv rfl (aa.ite (v:=false) (by rw [hgt2]; rfl) nofun fun _=>?_)))))))))))
   exact aa.nat h8.slLen (aa.nat anj (aa.chk ck2 (aa.tvs heg (aa.chk rfl (aa.call hvb (aa.chk (cz hvbr.isSl) (aa.call hc (aa.chk rfl (aa.tv rfl (aa.ite (v:=false) (by simp [asBool,hin]) nofun fun _=>aa.tv (inc hjl h8b) next)))))))))) 
  ·exact aa.nat h8.slLen (aa.nat anj (aa.chk ck2 (aa.tvs heg (aa.chk rfl (aa.call hvb (aa.chk (cz hvbr.isSl) (aa.call hc (aa.chk rfl (aa.tv rfl (aa.ite (v:=false) (by simp [asBool,hin]) nofun fun _=>aa.tv (inc hjl h8b) next))))))))))
theorem BH:∀ (d n:Nat),n + d=f.blocks.length→aa prog 4 (f4_1 (I (jU M n)) (I n) (I f.params) (I f.regs) b w5 w6) (B true):=by
 intro d
 induction d with
 | zero =>
  intro n hn
  have hn:n=f.blocks.length:=by omega
  subst hn
  unfold f4_1
  refine aa.tv h6.len (aa.tv rfl (aa.ite (v:=false) (by rw [hF.1]; exact fb) nofun fun _=>f4_3_J ?_))
  unfold f4_3
  exact f4_5_J (Bf hf h5 h6 hF hI (Bg hF hI) o.length 0 (by omega))
 | succ d ih =>
  intro n hn
  have hnl:n < f.blocks.length:=by omega
  have hnMl:n < M.length:=by rw [hF.1]; exact hnl
  have hnM:M[n]? = some M[n]:=Cc hnMl
  obtain ⟨en,hen,hR⟩:=h6.pel hnM
  cases hR
  obtain ⟨v,hv,hvr⟩:=r71 hf (n:Int)
  rw [lc] at hvr
  have hmt:=yO M n
  have go:∀ m:Nat,m=jU M (n + 1)→aa prog 4 (f4_2 (I m) (I n) (I f.params) (I f.regs) b w5 w6) (B true):=fun m hm=>by
   unfold f4_2
   refine aa.call hv (aa.chk (cz hvr.isSl) (f4_4_J (BG hf hs h6 hF (m:=m) hnl hvr ?_ (aH f.blocks n).length 0 (by omega))))
   rw [hm]
   exact ih (n + 1) (by omega)
  have hsucc:=oO hnM
  unfold f4_1
  refine aa.tv h6.len (aa.tv rfl (aa.ite (v:=true) (by rw [hF.1]; exact ek hnl) (fun _=>?_) nofun))
  refine aa.nat h6.slLen (aa.nat (bp (by omega)) (aa.chk (by rw [h6.slSize,hF.1]; simpa using hnl) (aa.tvs hen (aa.chk rfl (aa.ite rfl (fun h=>?_) fun h=>?_)))))
  ·have h:M[n]=true:=by simpa using h
   rw [h] at hsucc
   exact aa.tv (inc (n:=1000) (by omega) (by omega)) (f4_2_J (go _ hsucc.symm))
  ·have h:M[n]=false:=by simpa using h
   rw [h] at hsucc
   exact f4_2_J (go _ (by rw [hsucc]; rfl))
end
theorem rFlowOrder {q:Option Bool} {e:List TV} {f:DFunc} (he:RFunc q e f):cZ prog 4 [.agg e] (B true):=by
 have he0:=he
 obtain ⟨b,rfl,hb,_⟩:=he
 refine cZ.of (f4_MR _) ?_
 unfold f4_M
 refine aa.chk rfl (aa.call A1 (aa.chk rfl (aa.tv rfl (aa.ite (v:=false) rfl nofun fun _=>aa.tv hb.len (aa.tv rfl (aa.ite rfl (fun h=>?_) fun h=>?_))))))
 ·refine f4_0_J ?_
  unfold f4_0
  exact aa.ite (v:=true) rfl (fun _=>aa.tv hb.len (aa.tv rfl (aa.ite (v:=true) (by simpa [asBool] using h) (fun _=>aa.ret) nofun))) nofun
 have hs:f.blocks.length≤70:=by
  have:¬ (f.blocks.length:Int) > 70:=by simpa using h
  omega
 obtain ⟨y,o,hy,hyr,hO⟩:=r80 he0 (by omega)
 have hI:=hO.keeps
 refine aa.tv hb.len (aa.tv rfl (f4_0_J ?_))
 unfold f4_0
 refine aa.ite rfl (fun h0=>?_) fun h0=>?_
 ·have h0:f.blocks.length=0:=by simpa using h0
  have ho:o=[]:=by
   rcases hO with ⟨_,h⟩ | ⟨h,_⟩
   ·exact h
   ·exact absurd (List.length_eq_zero_iff.1 h0) h
  subst ho
  exact aa.tv hb.len (aa.tv rfl (aa.ite (v:=false) (by simp [asBool]; omega) nofun fun _=>aa.call hy (aa.chk (cz hyr.isSl) (aa.tv hyr.len (aa.tv rfl aa.ret)))))
 ·have h0:¬ f.blocks.length=0:=by simpa using h0
  have hne:f.blocks≠[]:=fun h=>h0 (by rw [h]; rfl)
  obtain ⟨y2,M,hy2,hr2,hF⟩:=r85 he0 (by omega)
  have hhd:=hI.first hne
  have ho0:o[0]? = some 0:=by rw [← List.head?_eq_getElem?]; exact hhd
  have hol:0 < o.length:=(Cb.1 ho0).1
  obtain ⟨e1,he1,rfl,_⟩:=hyr.pel ho0
  refine aa.call hy (aa.chk (cz hyr.isSl) (aa.call hy2 (aa.chk (cz hr2.isSl) (aa.tv hyr.len (aa.tv rfl (aa.ite (v:=false) (by simp [asBool]; exact fun h=>by simp [h] at hol) nofun fun _=>?_))))))
  refine aa.nat hyr.slLen (aa.nat (v:=0) rfl (aa.chk (by rw [hyr.slSize]; simpa using hol) (aa.tvs he1 (aa.chk rfl (aa.tv rfl (aa.ite (v:=false) rfl nofun fun _=>?_))))))
  refine aa.tv hr2.len (aa.tv hb.len (aa.tv rfl (aa.ite (v:=false) (by simp [asBool,hF.1]) nofun fun _=>f4_1_J ?_)))
  exact BH he0 hs hyr hr2 hF hI f.blocks.length 0 (by omega)
end Go.Ab.Q12
end
section
namespace Go.Ab
open Go.RowKit
theorem aI {α:Type} (d:α):∀ (l:List α) (n:Nat),nth d l n=(l[n]?).getD d
 | [],n=>by simp [nth]
 | a :: l,0=>rfl
 | a :: l,n + 1=>by simp [nth,aI d l n]
theorem ag {α:Type}:∀ (l:List α) (n:Nat) (b:α),al l n b=l.set n b
 | [],n,b=>by simp [al]
 | a :: l,0,b=>rfl
 | a :: l,n + 1,b=>by simp [al,ag l n b]
theorem bA {α:Type} {d:α} {l:List α} {n:Nat} {a:α} (h:l[n]? = some a):nth d l n=a:=by rw [aI,h]; rfl
theorem am (a b:Nat):a.beq b=true ↔ a=b:=⟨Nat.eq_of_beq_eq_true,fun h=>h ▸ Nat.beq_refl a⟩
theorem bI (n:Nat):∀ l:List Nat,bu n l=true ↔ n ∈ l
 | []=>by simp [bu]
 | a :: l => by
  cases h:a.beq n
  ·have:a≠n:=fun e=>by simp [e] at h
   simp only [bu,h,cond_false,bI n l,List.mem_cons]
   constructor
   ·exact .inr
   ·rintro (e | e)
    ·exact absurd e.symm this
    ·exact e
  ·simp only [bu,h,cond_true,List.mem_cons,true_iff]
   exact .inl ((am a n).1 h).symm
theorem dT (a:Addr) (k:Nat):(a.add k).block=a.block:=by unfold Addr.add; split <;> rfl
theorem AJ {a:Addr} (h:a.spot=none) (k:Nat):(a.add k).spot=none:=by unfold Addr.add; split <;> simp [h]
theorem d9 (a:Addr) (i j:Nat):(a.add i).add j=a.add (i + j):=by
 unfold Addr.add
 by_cases hi:i=0 <;> by_cases hj:j=0 <;> simp [hi,hj,Nat.add_assoc]
theorem dq (b o k:Nat):(⟨b,o,none⟩:Addr).add k=⟨b,o + k,none⟩:=by unfold Addr.add; split <;> simp_all
def spl {α:Type} (l:List α) (o:Nat) (ys:List α):List α:=l.take o ++ ys ++ l.drop (o + ys.length)
theorem ef {α:Type} {l ys:List α} {o:Nat} (h:o + ys.length≤l.length):(spl l o ys).length=l.length:=by
 simp only [spl,List.length_append,List.length_take,List.length_drop]
 omega
theorem bm {α:Type} {l ys:List α} {o:Nat} (h:o + ys.length≤l.length) (k:Nat):(spl l o ys)[k]? = if o≤k∧k < o + ys.length then ys[k - o]? else l[k]? := by
 have e1:(l.take o).length=o:=by simp; omega
 unfold spl
 by_cases h1:k < o
 ·rw [List.append_assoc,Cl (by omega),List.getElem?_take,if_pos h1,if_neg (by omega)]
 ·by_cases h2:k < o + ys.length
  ·rw [List.append_assoc,Cm (by omega),e1,Cl (by omega),if_pos (by omega)]
  ·rw [Cm (by simp; omega),List.getElem?_drop,if_neg (by omega)]
   congr 1
   simp
   omega
theorem eN {α:Type}:∀ (ps l:List α) (off:Nat),off + ps.length≤l.length→bJ l off ps=spl l off ps
 | [],l,off,h=>by simp [bJ,spl]
 | p :: ps, l, off, h => by
  have hlt:off < l.length:=by simp at h; omega
  simp only [bJ]
  rw [ag,eN ps (l.set off p) (off + 1) (by simp at h ⊢; omega)]
  apply List.ext_getElem?
  intro k
  rw [bm (by simp at h ⊢; omega),bm h]
  simp only [List.length_cons,List.getElem?_set]
  by_cases h1:k < off
  ·rw [if_neg (by omega),if_neg (by omega),if_neg (by omega)]
  ·by_cases h2:k=off
   ·subst h2
    rw [if_neg (by omega),if_pos (by omega)]
    simp [hlt]
   ·by_cases h3:k < off + (ps.length + 1)
    ·rw [if_pos (by omega),if_pos (by omega)]
     rw [show k - off=(k - (off + 1)) + 1 by omega,List.getElem?_cons_succ]
    ·rw [if_neg (by omega),if_neg (by omega),if_neg (by omega)]
theorem eh {α:Type}:∀ (l:List α) (o n:Nat) (r:List α),j6 l o n=some r→r.length=n∧(n=0∨o + n≤l.length)∧∀ j,j < n→r[j]? = l[o + j]?
 | l,o,0,r,h=>by cases l <;> simp [j6] at h <;> subst h <;> simp
 | [],o,n + 1,r,h=>by simp [j6] at h
 | a :: l, 0, n + 1, r, h => by
  simp only [j6] at h
  cases h1:j6 l 0 n with
  | none=>simp [h1] at h
  | some r' =>
   simp only [h1,Cd] at h
   subst h
   obtain ⟨i1,i2,i3⟩:=eh l 0 n r' h1
   refine ⟨by simp [i1],.inr (by simp; omega),fun j hj=>?_⟩
   cases j with
   | zero=>simp
   | succ j=>simpa using i3 j (by omega)
 | a :: l,o + 1,n + 1,r,h=>by
  simp only [j6] at h
  obtain ⟨i1,i2,i3⟩:=eh l o (n + 1) r h
  refine ⟨i1,.inr (by rcases i2 with i2 | i2 <;> simp <;> omega),fun j hj=>?_⟩
  rw [i3 j hj,show o + 1 + j=(o + j) + 1 by omega,List.getElem?_cons_succ]
theorem bB {α:Type} {s:Nat}:∀ {xs:List (List α)},(∀ x ∈ xs,x.length=s)→xs.flatten.length=xs.length * s
 | [],_=>by simp
 | x :: xs,h=>by
  simp only [List.flatten_cons,List.length_append,List.length_cons,h x Ci,bB (fun y hy=>h y (Cj _ hy)),Nat.add_mul]
  omega
theorem cB {α:Type} {s:Nat}:∀ {xs:List (List α)} {i j:Nat} {x:List α} {c:α},(∀ x ∈ xs,x.length=s)→xs[i]? = some x→x[j]? = some c→xs.flatten[i * s + j]? = some c
 | x :: xs,0,j,_,c,h,hi,hj=>by
  simp at hi
  subst hi
  rw [List.flatten_cons,Cl (by simp; exact (Cb.1 hj).1)]
  simpa using hj
 | x :: xs,i + 1,j,y,c,h,hi,hj=>by
  simp at hi
  have hx:=h x Ci
  rw [List.flatten_cons,Cm (by rw [hx,Nat.add_mul]; omega),hx,show (i + 1) * s + j - s=i * s + j by rw [Nat.add_mul]; omega]
  exact cB (fun z hz=>h z (Cj _ hz)) hi hj
theorem take_add {α:Type} {x l:List α} {s n:Nat} (h:x.length=s):(x ++ l).take (s + n)=x ++ l.take n:=by
 subst h
 exact List.take_length_add_append n
theorem uu {α:Type} {x l:List α} {s n:Nat} (h:x.length=s):(x ++ l).drop (s + n)=l.drop n:=by
 subst h
 exact List.drop_length_add_append n
theorem nY (n s:Nat):(n + 1) * s=s + n * s:=by rw [Nat.add_mul]; omega
theorem lD {α:Type} {s:Nat}:∀ {xs:List (List α)} (n:Nat),(∀ x ∈ xs,x.length=s)→(xs.take n).flatten=xs.flatten.take (n * s)
 | [],n,_=>by simp
 | x :: xs,0,_=>by simp
 | x :: xs,n + 1,h=>by
  have hx:=h x Ci
  rw [List.take_succ_cons,List.flatten_cons,List.flatten_cons,lD n (fun z hz=>h z (Cj _ hz)),nY,take_add hx]
theorem lm {α:Type} {s:Nat}:∀ {xs:List (List α)} (n:Nat),(∀ x ∈ xs,x.length=s)→(xs.drop n).flatten=xs.flatten.drop (n * s)
 | [],n,_=>by simp
 | x :: xs,0,_=>by simp
 | x :: xs,n + 1,h=>by
  have hx:=h x Ci
  rw [List.drop_succ_cons,List.flatten_cons,lm n (fun z hz=>h z (Cj _ hz)),nY,uu hx]
theorem uE {α:Type} {s:Nat}:∀ {xs:List (List α)} {i:Nat} {x y:List α},(∀ x ∈ xs,x.length=s)→xs[i]? = some x→y.length=s→(xs.set i y).flatten=spl xs.flatten (i * s) y
 | x :: xs,0,_,y,h,hi,hy=>by
  simp at hi
  subst hi
  have hx:=h x Ci
  simp only [List.set_cons_zero,List.flatten_cons,Nat.zero_mul,spl,List.take_zero,List.nil_append,Nat.zero_add,hy,List.drop_append,hx,Nat.sub_self,List.drop_zero]
  rw [List.drop_of_length_le (by omega),List.nil_append]
 | x :: xs,i + 1,z,y,h,hi,hy=>by
  simp at hi
  have hx:=h x Ci
  have ih:=uE (fun z hz=>h z (Cj _ hz)) hi hy
  simp only [List.set_cons_succ,List.flatten_cons,ih,spl,nY,take_add hx,hy]
  rw [show s + i * s + s=s + (i * s + s) by omega,uu hx]
  simp only [List.append_assoc]
theorem xm {α:Type} {s:Nat} {xs:List (List α)} {i:Nat} {y:List α} (h:∀ x ∈ xs,x.length=s) (hy:y.length=s):∀ x ∈ xs.set i y,x.length=s:=by
 intro x hx
 rcases List.mem_or_eq_of_mem_set hx with h' | h'
 ·exact h x h'
 ·rw [h']; exact hy
theorem vz {α:Type} {s:Nat} {xs:List (List α)} {i j:Nat} {x ys:List α} (h:∀ x ∈ xs,x.length=s) (hi:xs[i]? = some x) (hj:j + ys.length≤x.length) :
  (xs.set i (spl x j ys)).flatten=spl xs.flatten (i * s + j) ys∧i * s + j + ys.length≤xs.flatten.length:=by
 have hx:=h x (Ck hi)
 have hlt:i < xs.length:=(Cb.1 hi).1
 have hle:i * s + s≤xs.flatten.length:=by
  rw [bB h]
  have:=Nat.mul_le_mul_right s (Nat.succ_le_of_lt hlt)
  rw [Nat.succ_mul] at this
  exact this
 refine ⟨?_,by omega⟩
 rw [uE h hi (by rw [ef hj,hx])]
 apply List.ext_getElem?
 intro k
 rw [bm (l:=xs.flatten) (ys:=spl x j ys) (by rw [ef hj]; omega),bm (l:=xs.flatten) (ys:=ys) (by omega),ef hj,hx]
 by_cases h1:i * s≤k∧k < i * s + s
 ·rw [if_pos h1,bm hj]
  by_cases h2:j≤k - i * s∧k - i * s < j + ys.length
  ·rw [if_pos h2,if_pos (by omega)]
   congr 1
   omega
  ·rw [if_neg h2,if_neg (by omega)]
   have hk:k - i * s < x.length:=by omega
   have:=cB h hi (Cc hk)
   rw [show i * s + (k - i * s)=k by omega] at this
   rw [this,Cc hk]
 ·rw [if_neg h1,if_neg (by omega)]
inductive Rep (w:World) (I:Nat→Prop):TV→Value→Prop
 | lit (v:Value):Rep w I (.lit v) v
 | hole (v:Value):Rep w I .hole v
 | buf {s:ByteArray} (e:TypeId) (h:s.size=0):Rep w I (.buf s e) bL
 | sl {size : Nat} {xs : List (List TV)} {a : Addr} {cap : Nat} (cell : Nat → Value) (hI : 0 < xs.length → I a.block) (hc : xs.length ≤ cap) (hm : cap ≤ maxLen)
   (hl:∀ x ∈ xs,x.length=size) (hcell:∀ k,k < xs.length * size→w.cell? (a.add k)=some (cell k)) (h1:∀ k,k < xs.length * size→(cell k).oneCell'=true)
   (hr:∀ (i:Nat) (x:List TV),xs[i]? = some x→∀ (j:Nat) (c:TV),x[j]? = some c→Rep w I c (cell (i * size + j))):Rep w I (.sl false size xs) (.slice (some a) xs.length cap)
 | agg {cs : List TV} {vs : Array Value} (hl : vs.size = cs.length) (h1 : ∀ j, j < vs.size → (vs.getD j undef).oneCell' = true)
   (hr:∀ (j:Nat) (c:TV),cs[j]? = some c→Rep w I c (vs.getD j undef)):Rep w I (.agg cs) (.agg vs)
 | tup {cs:List TV} {vs:Array Value} (hl:vs.size=cs.length) (hr:∀ (j:Nat) (c:TV),cs[j]? = some c→Rep w I c (vs.getD j undef)):Rep w I (.tup cs) (.tuple vs)
theorem Rep.mv {w w':World} {I I':Nat→Prop} (hh:∀ b,I b→w'.heap[b]? = w.heap[b]?) (hI:∀ b,I b→I' b) {x:TV} {v:Value} (h:Rep w I x v):Rep w' I' x v:=by
 induction h with
 | lit v=>exact .lit v
 | hole v=>exact .hole v
 | buf e h=>exact .buf e h
 | sl cell i c m l hcell h1 _ ih =>
  exact .sl cell (fun h=>hI _ (i h)) c m l (fun k hk=>by rw [← hcell k hk]; exact World.cell?_of_block (by rw [dT]; exact hh _ (i (Nat.pos_of_ne_zero (fun e=>by simp [e] at hk))))) h1 ih
 | agg hl h1 _ ih=>exact .agg hl h1 ih
 | tup hl _ ih=>exact .tup hl ih
structure Row (w:World) (a:Addr) (n cap size:Nat) (us:List Value) (vs:Array Value) (ty:TypeId):Prop where
 heap:w.heap[a.block]? = some (.cells vs ty (0,0))
 spot:a.spot=none
 le:n≤cap
 max:cap≤maxLen
 fit:a.off + cap * size≤vs.size
 len:us.length=n * size
 cells:∀ k,k < n * size→vs[a.off + k]? = us[k]?
 one:∀ u ∈ us,u.oneCell'=true
theorem Row.cell {w:World} {a:Addr} {n cap size:Nat} {us:List Value} {vs:Array Value} {ty:TypeId} (h:Row w a n cap size us vs ty) {k:Nat} {u:Value} (hk:us[k]? = some u):w.cell? (a.add k)=some u:=by
 have hlt:k < n * size:=by rw [← h.len]; exact (Cb.1 hk).1
 have:a.add k=⟨a.block,a.off + k,none⟩:=by
  have:=h.spot
  obtain ⟨b,o,sp⟩:=a
  simp at this
  subst this
  exact dq b o k
 rw [this]
 simp only [World.cell?,h.heap]
 simp only [Option.isSome_none,Bool.false_eq_true,if_false]
 rw [h.cells k hlt,hk]
inductive ai (w:World) (I:Nat→Prop):TV→Value→(Nat→Prop)→Prop
 | fr {x:TV} {v:Value} {S:Nat→Prop} (h:Rep w I x v):ai w I x v S
 | sl {size : Nat} {xs : List (List TV)} {a : Addr} {cap : Nat} {S : Nat → Prop} (us : List Value) (vs : Array Value) (ty : TypeId) (F : Nat → Nat → Prop) (hS : S a.block)
   (row:Row w a xs.length cap size us vs ty) (hl:∀ x ∈ xs,x.length=size) (hr:∀ (k:Nat) (c:TV),xs.flatten[k]? = some c→ai w I c (us.getD k undef) (F k))
   (hF:∀ k b,F k b→S b∧b≠a.block) (hd:∀ k k' b,F k b→F k' b→k=k'):ai w I (.sl true size xs) (.slice (some a) xs.length cap) S
 | agg {cs : List TV} {vs : Array Value} {S : Nat → Prop} (F : Nat → Nat → Prop) (hl : vs.size = cs.length) (h1 : ∀ j, j < vs.size → (vs.getD j undef).oneCell' = true)
   (hr:∀ (j:Nat) (c:TV),cs[j]? = some c→ai w I c (vs.getD j undef) (F j)) (hF:∀ j b,F j b→S b) (hd:∀ k k' b,F k b→F k' b→k=k'):ai w I (.agg cs) (.agg vs) S
 | buf {s:ByteArray} {e:TypeId} {v:Value} {S:Nat→Prop} (h:w.ownsRowF 0 e 1 v s.size (Lib.strCells s)) (hS:∀ b,v.ownBlock=some b→S b):ai w I (.buf s e) v S
 | tup {cs : List TV} {vs : Array Value} {S : Nat → Prop} (F : Nat → Nat → Prop) (hl : vs.size = cs.length)
   (hr:∀ (j:Nat) (c:TV),cs[j]? = some c→ai w I c (vs.getD j undef) (F j)) (hF:∀ j b,F j b→S b) (hd:∀ k k' b,F k b→F k' b→k=k'):ai w I (.tup cs) (.tuple vs) S
theorem _root_.Go.World.ownsRowF.moved {w w':World} {base:Nat} {e:TypeId} {size:Nat} {v:Value} {n:Nat} {xs:List Value} (h:w.ownsRowF base e size v n xs) (hh:∀ b,v.ownBlock=some b→w'.heap[b]? = w.heap[b]?):w'.ownsRowF base e size v n xs:=by
 refine ⟨h.1,?_⟩
 rcases h.2 with hn | ⟨g,cap,cur,fz,rfl,hb,hgg,rest⟩
 ·exact .inl hn
 ·exact .inr ⟨g,cap,cur,fz,rfl,hb,by rw [hh g rfl]; exact hgg,rest⟩
theorem ai.mv {w w':World} {I I':Nat→Prop} (hI:∀ b,I b→w'.heap[b]? = w.heap[b]?) (hs:∀ b,I b→I' b) {x:TV} {v:Value} {S:Nat→Prop} (h:ai w I x v S) :
  ∀ {S':Nat→Prop},(∀ b,S b→w'.heap[b]? = w.heap[b]?)→(∀ b,S b→S' b)→ai w' I' x v S':=by
 induction h with
 | fr h=>intro S' _ _; exact .fr (h.mv hI hs)
 | @sl size xs a cap S us vs ty F hS row hl hr hF hd ih =>
  intro S' hh hSS
  exact .sl us vs ty F (hSS _ hS) ⟨by rw [hh _ hS]; exact row.heap,row.spot,row.le,row.max,row.fit,row.len,row.cells,row.one⟩ hl (fun k c hk=>ih k c hk (fun b hb=>hh b (hF k b hb).1) (fun b hb=>hb))
   (fun k b hb=>⟨hSS b (hF k b hb).1,(hF k b hb).2⟩) hd
 | @buf s e v S h hS =>
  intro S' hh hSS
  exact .buf (h.moved (fun b hb=>hh b (hS b hb))) (fun b hb=>hSS b (hS b hb))
 | @agg cs vs S F hl h1 hr hF hd ih =>
  intro S' hh hSS
  exact .agg F hl h1 (fun k c hk=>ih k c hk (fun b hb=>hh b (hF k b hb)) (fun b hb=>hb)) (fun k b hb=>hSS b (hF k b hb)) hd
 | @tup cs vs S F hl hr hF hd ih =>
  intro S' hh hSS
  exact .tup F hl (fun k c hk=>ih k c hk (fun b hb=>hh b (hF k b hb)) (fun b hb=>hb)) (fun k b hb=>hSS b (hF k b hb)) hd
theorem ai.mono {w:World} {I:Nat→Prop} {x:TV} {v:Value} {S S':Nat→Prop} (h:ai w I x v S) (hS:∀ b,S b→S' b):ai w I x v S' :=
 h.mv (fun _ _=>rfl) (fun _ h=>h) (fun _ _=>rfl) hS
theorem be {w:World} {I:Nat→Prop} {v u:Value} (h:Rep w I (.lit v) u):u=v:=by cases h; rfl
theorem aM {w:World} {I:Nat→Prop} {v u:Value} {S:Nat→Prop} (h:ai w I (.lit v) u S):u=v:=by cases h with | fr h=>exact be h
theorem yS {w:World} {I:Nat→Prop} {s:Nat} {xs:List (List TV)} {u:Value} {S:Nat→Prop} (h:ai w I (.sl false s xs) u S):Rep w I (.sl false s xs) u:=by cases h with | fr h=>exact h
theorem pF {w:World} {I:Nat→Prop} {o:Bool} {s:Nat} {xs:List (List TV)} {u:Value} {S:Nat→Prop} (h:ai w I (.sl o s xs) u S):∃ a cap,u=.slice (some a) xs.length cap:=by
 cases h with
 | fr h=>cases h; exact ⟨_,_,rfl⟩
 | sl=>exact ⟨_,_,rfl⟩
theorem eF {w:World} {I:Nat→Prop} {x:TV} {u:Value} {S:Nat→Prop} (h:ai w I x u S) (hx:x.isSl=true):∃ a n cap,u=.slice a n cap:=by
 cases x with
 | lit v =>
  have:=aM h
  subst this
  cases u <;> simp [TV.isSl,aX] at hx ⊢
 | sl o s xs=>obtain ⟨a,cap,rfl⟩:=pF h; exact ⟨_,_,_,rfl⟩
 | _=>simp [TV.isSl] at hx
theorem pJ {v:Value} (h:scV v=true):v.oneCell'=true:=by cases v <;> first | rfl | simp [scV] at h
theorem dR {w:World} {I:Nat→Prop} {x:TV} {u:Value} {S:Nat→Prop} (h:ai w I x u S) (hx:x.isSc=true):x=.lit u∧scV u=true:=by
 cases x with
 | lit v =>
  have:=aM h
  subst this
  exact ⟨rfl,hx⟩
 | _=>simp [TV.isSc] at hx
theorem Bu {w:World} {I:Nat→Prop} {x:TV} {u:Value} {S:Nat→Prop} (h:ai w I x u S):Rep w I x.lf u:=by
 cases x with
 | lit v=>have:=aM h; subst this; exact .lit _
 | _=>exact .hole _
theorem lu:∀ l:List TV,tX l=l.map frz
 | []=>rfl
 | x :: l=>by simp [tX,lu l]
theorem fX:∀ l:List (List TV),q9 l=l.map fun x=>x.map frz
 | []=>rfl
 | x :: l=>by simp [q9,fX l,lu]
theorem AI:∀ l:List TV,lfL l=l.map TV.lf
 | []=>rfl
 | x :: l=>by simp [lfL,AI l]
theorem xr:∀ l:List (List TV),rP l=l.map fun x=>x.map TV.lf
 | []=>rfl
 | x :: l=>by simp [rP,xr l,AI]
theorem Rep.frz {w:World} {I:Nat→Prop} {x:TV} {v:Value} (h:Rep w I x v):Rep w I (frz x) v:=by
 induction h with
 | lit v=>exact .lit v
 | hole v=>exact .hole v
 | buf e h=>exact .hole _
 | @sl size xs a cap cell hI hc hm hl hcell h1 _ ih =>
  simp only [Ab.frz,fX]
  have hlen:(xs.map fun x=>x.map Ab.frz).length=xs.length:=by simp
  have key:Rep w I (.sl false size (xs.map fun x=>x.map Ab.frz)) (.slice (some a) (xs.map fun x=>x.map Ab.frz).length cap):=by
   refine .sl cell (by rw [hlen]; exact hI) (by rw [hlen]; exact hc) hm (fun x hx=>?_) (by rw [hlen]; exact hcell) (by rw [hlen]; exact h1) (fun i y hy j c hj=>?_)
   ·obtain ⟨y,hy,rfl⟩:=List.mem_map.1 hx
    simpa using hl y hy
   ·rw [Ch] at hy
    cases hxi:xs[i]? with
    | none=>simp [hxi] at hy
    | some x =>
     simp only [hxi,Co,Cd] at hy
     subst hy
     rw [Ch] at hj
     cases hxj:x[j]? with
     | none=>simp [hxj] at hj
     | some c' =>
      simp only [hxj,Co,Cd] at hj
      subst hj
      exact ih i x hxi j c' hxj
  rwa [hlen] at key
 | @agg cs vs hl h1 _ ih =>
  simp only [Ab.frz,lu]
  refine .agg (by simpa using hl) h1 (fun j c hj=>?_)
  rw [Ch] at hj
  cases hxj:cs[j]? with
  | none=>simp [hxj] at hj
  | some c'=>simp only [hxj,Co,Cd] at hj; subst hj; exact ih j c' hxj
 | @tup cs vs hl _ ih =>
  simp only [Ab.frz,lu]
  refine .tup (by simpa using hl) (fun j c hj=>?_)
  rw [Ch] at hj
  cases hxj:cs[j]? with
  | none=>simp [hxj] at hj
  | some c'=>simp only [hxj,Co,Cd] at hj; subst hj; exact ih j c' hxj
theorem ai.frz {w:World} {I I':Nat→Prop} (hI:∀ b,I b→I' b) {x:TV} {v:Value} {S:Nat→Prop} (h:ai w I x v S):(∀ b,S b→I' b)→Rep w I' (frz x) v:=by
 induction h with
 | fr h=>intro _; exact (h.mv (fun _ _=>rfl) hI).frz
 | buf _ _=>intro _; exact .hole _
 | @sl size xs a cap S us vs ty F hS row hl hr hF hd ih =>
  intro hSI
  simp only [Ab.frz,fX]
  have hlen:(xs.map fun x=>x.map Ab.frz).length=xs.length:=by simp
  have key:Rep w I' (.sl false size (xs.map fun x=>x.map Ab.frz)) (.slice (some a) (xs.map fun x=>x.map Ab.frz).length cap):=by
   refine .sl (fun k=>us.getD k undef) (fun _=>hSI _ hS) (by rw [hlen]; exact row.le) row.max (fun x hx=>?_) (fun k hk=>?_) (fun k hk=>?_) (fun i y hy j c hj=>?_)
   ·obtain ⟨y,hy,rfl⟩:=List.mem_map.1 hx
    simpa using hl y hy
   ·rw [hlen] at hk
    have:k < us.length:=by rw [row.len]; exact hk
    exact row.cell (by simp [Cc this])
   ·rw [hlen] at hk
    have:k < us.length:=by rw [row.len]; exact hk
    simp only [Cp,Cc this,Option.getD_some]
    exact row.one _ (List.getElem_mem this)
   ·rw [Ch] at hy
    cases hxi:xs[i]? with
    | none=>simp [hxi] at hy
    | some x =>
     simp only [hxi,Co,Cd] at hy
     subst hy
     rw [Ch] at hj
     cases hxj:x[j]? with
     | none=>simp [hxj] at hj
     | some c' =>
      simp only [hxj,Co,Cd] at hj
      subst hj
      exact ih _ c' (cB hl hxi hxj) (fun b hb=>hSI b (hF _ b hb).1)
  rwa [hlen] at key
 | @agg cs vs S F hl h1 hr hF hd ih =>
  intro hSI
  simp only [Ab.frz,lu]
  refine .agg (by simpa using hl) h1 (fun j c hj=>?_)
  rw [Ch] at hj
  cases hxj:cs[j]? with
  | none=>simp [hxj] at hj
  | some c'=>simp only [hxj,Co,Cd] at hj; subst hj; exact ih j c' hxj (fun b hb=>hSI b (hF j b hb))
 | @tup cs vs S F hl hr hF hd ih =>
  intro hSI
  simp only [Ab.frz,lu]
  refine .tup (by simpa using hl) (fun j c hj=>?_)
  rw [Ch] at hj
  cases hxj:cs[j]? with
  | none=>simp [hxj] at hj
  | some c'=>simp only [hxj,Co,Cd] at hj; subst hj; exact ih j c' hxj (fun b hb=>hSI b (hF j b hb))
theorem fg:∀ {l:List TV},ie l=true→∀ x ∈ l,ct x=true
 | [],_,x,hx=>by simp at hx
 | y :: l,h,x,hx=>by
  simp only [ie,Ce] at h
  rcases List.mem_cons.1 hx with rfl | hx
  ·exact h.1
  ·exact fg h.2 x hx
theorem oR:∀ {l:List (List TV)},kV l=true→∀ x ∈ l,ie x=true
 | [],_,x,hx=>by simp at hx
 | y :: l,h,x,hx=>by
  simp only [kV,Ce] at h
  rcases List.mem_cons.1 hx with rfl | hx
  ·exact h.1
  ·exact oR h.2 x hx
theorem Rep.own {w:World} {I I':Nat→Prop} {x:TV} {v:Value} (h:Rep w I x v):ct x=true→Rep w I' x v:=by
 induction h with
 | lit v=>intro _; exact .lit v
 | hole v=>intro _; exact .hole v
 | buf e h=>intro _; exact .buf e h
 | sl=>intro h; simp [ct] at h
 | @agg cs vs hl h1 _ ih=>intro h; simp only [ct] at h; exact .agg hl h1 (fun j c hj=>ih j c hj (fg h c (Ck hj)))
 | @tup cs vs hl _ ih=>intro h; simp only [ct] at h; exact .tup hl (fun j c hj=>ih j c hj (fg h c (Ck hj)))
theorem ai.own {w:World} {I I':Nat→Prop} {x:TV} {v:Value} {S:Nat→Prop} (h:ai w I x v S):ct x=true→ai w I' x v S:=by
 induction h with
 | fr h=>intro ho; exact .fr (h.own ho)
 | buf h hS=>intro _; exact .buf h hS
 | @sl size xs a cap S us vs ty F hS row hl hr hF hd ih =>
  intro ho
  simp only [ct,Bool.true_and] at ho
  refine .sl us vs ty F hS row hl (fun k c hk=>ih k c hk ?_) hF hd
  obtain ⟨x,hx,hc⟩:=List.mem_flatten.1 (Ck hk)
  exact fg (oR ho x hx) c hc
 | @agg cs vs S F hl h1 hr hF hd ih=>intro ho; simp only [ct] at ho; exact .agg F hl h1 (fun j c hj=>ih j c hj (fg ho c (Ck hj))) hF hd
 | @tup cs vs S F hl hr hF hd ih=>intro ho; simp only [ct] at ho; exact .tup F hl (fun j c hj=>ih j c hj (fg ho c (Ck hj))) hF hd
end Go.Ab
end
section
namespace Go.Ab
open Go.RowKit
def TV.nd (x:TV):Option (Nat × Nat):=match x with | .sl _ s xs=>some (s,xs.length) | _=>none
def Node (w:World):Way→TV→Value→Value→Option (Nat × Nat)→Prop
 | [],x,u,v,nd=>v=u∧nd=x.nd
 | (k,j) :: p,x,u,v,nd=>∃ o s xs a n cap e y u',x=.sl o s xs∧u=.slice (some a) n cap∧xs[k]? = some e∧e[j]? = some y∧w.cell? (a.add (k * s + j))=some u'∧Node w p y u' v nd
section
variable {w w':World} {I I':Nat→Prop} {x y:TV} {u v:Value} {S:Nat→Prop}
theorem getD_some {l:List Value} {k:Nat} {u:Value} (h:l[k]? = some u):l.getD k undef=u:=by simp [h]
theorem ai.child {o:Bool} {s:Nat} {xs:List (List TV)} (h:ai w I (.sl o s xs) u S) {k j:Nat} {e:List TV} {y:TV} (hk:xs[k]? = some e) (hj:e[j]? = some y) :
  ∃ a cap u' S',u=.slice (some a) xs.length cap∧w.cell? (a.add (k * s + j))=some u'∧u'.oneCell'=true∧ai w I y u' S'∧(∀ b,S' b→S b)∧(S a.block∨I a.block)∧e.length=s:=by
 have hlt:k < xs.length:=(Cb.1 hk).1
 cases h with
 | fr h =>
  cases h with
  | @sl _ _ a cap cell hI hc hm hl hcell h1 hr =>
   have hel:=hl e (Ck hk)
   have hf:k * s + j < xs.length * s:=by
    have hj':=(Cb.1 hj).1
    have:=Nat.mul_le_mul_right s (Nat.succ_le_of_lt hlt)
    rw [Nat.succ_mul] at this
    omega
   exact ⟨a,cap,_,fun _=>False,rfl,hcell _ hf,h1 _ hf,.fr (hr k e hk j y hj),fun _ h=>h.elim,.inr (hI (by omega)),hel⟩
 | @sl _ _ a cap S us vs ty F hS row hl hr hF hd =>
  have hel:=hl e (Ck hk)
  have hfg:=cB hl hk hj
  have hlt2:k * s + j < us.length:=by
   rw [row.len,← bB hl]
   exact (Cb.1 hfg).1
  have hu:=Cc hlt2
  refine ⟨a,cap,us[k * s + j],F (k * s + j),rfl,row.cell hu,row.one _ (List.getElem_mem hlt2),?_,fun b hb=>(hF _ b hb).1,.inl hS,hel⟩
  have:=hr _ _ hfg
  rwa [getD_some hu] at this
theorem Node.mv:∀ {p:Way} {x:TV} {u v:Value} {nd:Option (Nat × Nat)} {S:Nat→Prop},ai w I x u S→(∀ b,I b→w'.heap[b]? = w.heap[b]?)→(∀ b,S b→w'.heap[b]? = w.heap[b]?)→Node w p x u v nd→Node w' p x u v nd
 | [],x,u,v,nd,S,_,_,_,h=>h
 | (k,j) :: p,x,u,v,nd,S,hr,hI,hS,⟨o,s,xs,a,n,cap,e,y,u',hx,hu,he,hy,hc,h⟩=>by
  subst hx
  obtain ⟨a',cap',u2,S',h1,h2,h3,h4,h5,h6,h7⟩:=hr.child he hy
  rw [hu] at h1
  cases h1
  rw [hc] at h2
  cases h2
  refine ⟨o,s,xs,a,_,_,e,y,u',rfl,hu,he,hy,?_,Node.mv h4 hI (fun b hb=>hS b (h5 b hb)) h⟩
  rw [← hc]
  refine World.cell?_of_block ?_
  rw [dT]
  rcases h6 with h6 | h6
  ·exact hS _ h6
  ·exact hI _ h6
theorem ai.get:∀ {p:Way} {x y:TV} {u:Value} {S:Nat→Prop},ai w I x u S→cu p x=some y→∃ v S',Node w p x u v y.nd∧ai w I y v S'∧(∀ b,S' b→S b)∧(p≠[]→v.oneCell'=true)
 | [],x,y,u,S,hr,h=>by
  simp only [cu,Cd] at h
  subst h
  exact ⟨u,S,⟨rfl,rfl⟩,hr,fun _ h=>h,fun h=>absurd rfl h⟩
 | (k, j) :: p, x, y, u, S, hr, h => by
  cases x with
  | sl o s xs =>
   simp only [cu] at h
   cases he:xs[k]? with
   | none=>simp [he] at h
   | some e =>
    simp only [he] at h
    cases hz:e[j]? with
    | none=>simp [hz] at h
    | some z =>
     simp only [hz] at h
     obtain ⟨a,cap,u',S1,h1,h2,h3,h4,h5,h6,h7⟩:=hr.child he hz
     obtain ⟨v,S2,n1,n2,n3,n4⟩:=ai.get h4 h
     refine ⟨v,S2,⟨o,s,xs,a,_,cap,e,z,u',rfl,h1,he,hz,h2,n1⟩,n2,fun b hb=>h5 b (n3 b hb),fun _=>?_⟩
     cases p with
     | nil=>rw [n1.1]; exact h3
     | cons=>exact n4 (by simp)
  | _=>simp [cu] at h
theorem Node.unique:∀ {p:Way} {x:TV} {u v v':Value} {nd nd':Option (Nat × Nat)},Node w p x u v nd→Node w p x u v' nd'→v=v'∧nd=nd'
 | [],x,u,v,v',nd,nd',h,h'=>⟨h.1.trans h'.1.symm,h.2.trans h'.2.symm⟩
 | (k,j) :: p,x,u,v,v',nd,nd',⟨o,s,xs,a,n,cap,e,y,u',hx,hu,he,hy,hc,h⟩,⟨o2,s2,xs2,a2,n2,cap2,e2,y2,u2,hx2,hu2,he2,hy2,hc2,h2⟩=>by
  subst hx
  cases hx2
  subst hu
  cases hu2
  rw [he] at he2
  cases he2
  rw [hy] at hy2
  cases hy2
  rw [hc] at hc2
  cases hc2
  exact Node.unique h h2
theorem ai.sub : ∀ {p : Way} {x y : TV} {u : Value} {S : Nat → Prop}, ai w I x u S → cu p x = some y →
  ∃ v Sy, ai w I y v Sy ∧ (∀ b, Sy b → S b) ∧ Node w p x u v y.nd ∧ (p ≠ [] → v.oneCell' = true) ∧
   ∀ (w':World) (I':Nat→Prop) (y' x':TV) (S':Nat→Prop),kR p x y'=some x'→(∀ b,I b→w'.heap[b]? = w.heap[b]?)→(∀ b,I b→I' b)→(∀ b,S b→¬ Sy b→w'.heap[b]? = w.heap[b]?) →
    ai w' I' y' v S'→(∀ b,S' b→S b→Sy b)→ai w' I' x' u (fun b=>(S b∧¬ Sy b)∨S' b) ∧
    ∀ (q:Way) (v':Value) (nd:Option (Nat × Nat)),(∀ q',q=p ++ q'→Node w q' y v v' nd→Node w' q' y' v v' nd)→Node w q x u v' nd→Node w' q x' u v' nd
 | [],x,y,u,S,hr,h=>by
  simp only [Ab.cu,Cd] at h
  subst h
  refine ⟨u,S,hr,fun _ h=>h,⟨rfl,rfl⟩,fun h=>absurd rfl h,?_⟩
  intro w' I' y' x' S' hs hI hII hh hr' hd
  simp only [kR,Cd] at hs
  subst hs
  exact ⟨hr'.mono (fun b hb=>.inr hb),fun q v' nd hq hn=>hq q rfl hn⟩
 | (k, j) :: p, x, y, u, S, hr, h => by
  cases x with
  | sl o s xs =>
   simp only [Ab.cu] at h
   cases he:xs[k]? with
   | none=>simp [he] at h
   | some e =>
    simp only [he] at h
    cases hz:e[j]? with
    | none=>simp [hz] at h
    | some z =>
     simp only [hz] at h
     cases o with
     | false =>
      obtain ⟨v,S',n1,n2,n3,n4⟩:=ai.get (p:=(k,j) :: p) (y:=y) hr (by simp only [Ab.cu,he,hz,h])
      refine ⟨v,S',n2,n3,n1,n4,?_⟩
      intro w' I' y' x' S2 hs
      simp [kR] at hs
     | true =>
      cases hr with
      | fr h=>cases h
      | @sl _ _ a cap S us vs ty F hS row hl hr hF hd =>
       have hel:=hl e (Ck he)
       have hjl:j < e.length:=(Cb.1 hz).1
       have hfg:=cB hl he hz
       have hlt2:k * s + j < us.length:=by
        rw [row.len,← bB hl]
        exact (Cb.1 hfg).1
       have hu:=Cc hlt2
       have hrz:=hr _ _ hfg
       rw [getD_some hu] at hrz
       obtain ⟨v,Sy,m1,m2,m3,m4,m5⟩:=ai.sub hrz h
       have hSyF:∀ b,Sy b→F (k * s + j) b:=m2
       refine ⟨v,Sy,m1,fun b hb=>(hF _ b (m2 b hb)).1,⟨true,s,xs,a,_,cap,e,z,us[k * s + j],rfl,rfl,he,hz,row.cell hu,m3⟩,fun _=>?_,?_⟩
       ·cases p with
        | nil=>rw [m3.1]; exact row.one _ (List.getElem_mem hlt2)
        | cons=>exact m4 (by simp)
       intro w' I' y' x' S' hs hI hII hh hr' hdis
       simp only [kR,he,hz] at hs
       cases hz':kR p z y' with
       | none=>simp [hz'] at hs
       | some z' =>
        simp only [hz',Cd,ag] at hs
        subst hs
        have hablk:¬ Sy a.block:=fun hb=>(hF _ _ (m2 _ hb)).2 rfl
        obtain ⟨r1,r2⟩:=m5 w' I' y' z' S' hz' hI hII (fun b hb hn=>hh b (hF _ b hb).1 hn) hr' (fun b hb hb2=>hdis b hb (hF _ b hb2).1)
        have hset:e.set j z'=spl e j [z']:=by
         apply List.ext_getElem?
         intro m
         rw [bm (by simp; omega),List.getElem?_set]
         by_cases hjm:j=m
         ·subst hjm; simp [hjl]
         ·rw [if_neg hjm,if_neg (by simp; omega)]
        obtain ⟨f1,f2⟩:=vz (ys:=[z']) hl he (by simp; omega:j + [z'].length≤e.length)
        have hlen:(xs.set k (e.set j z')).length=xs.length:=by simp
        have hrow:Row w' a (xs.set k (e.set j z')).length cap s us vs ty:=by
         rw [hlen]
         exact ⟨by rw [hh _ hS hablk]; exact row.heap,row.spot,row.le,row.max,row.fit,row.len,row.cells,row.one⟩
        have hother:∀ m c,m≠k * s + j→xs.flatten[m]? = some c→ai w' I' c (us.getD m undef) (F m):=fun m c hm hc =>
         (hr m c hc).mv hI hII (fun b hb=>hh b (hF m b hb).1 (fun hs=>hm (hd m _ b hb (m2 b hs)))) (fun _ h=>h)
        constructor
        ·have key:ai w' I' (.sl true s (xs.set k (e.set j z'))) (.slice (some a) (xs.set k (e.set j z')).length cap) (fun b=>(S b∧¬ Sy b)∨S' b):=by
          refine .sl us vs ty (fun m b=>if m=k * s + j then (F (k * s + j) b∧¬ Sy b)∨S' b else F m b) (.inl ⟨hS,hablk⟩) hrow (xm hl (by simp [hel])) (fun m c hc=>?_) (fun m b hb=>?_) (fun m m' b hb hb'=>?_)
          ·rw [hset,f1,bm f2] at hc
           by_cases hm:m=k * s + j
           ·subst hm
            simp only [List.length_singleton,Nat.sub_self] at hc
            rw [if_pos (by omega)] at hc
            simp only [List.getElem?_cons_zero,Cd] at hc
            subst hc
            simp only [if_true]
            rw [getD_some hu]
            exact r1
           ·rw [if_neg (by simp only [List.length_singleton]; omega)] at hc
            simp only [hm,if_false]
            exact hother m c hm hc
          ·by_cases hm:m=k * s + j
           ·subst hm
            simp only [if_true] at hb
            rcases hb with ⟨h1,h2⟩ | h1
            ·exact ⟨.inl ⟨(hF _ b h1).1,h2⟩,(hF _ b h1).2⟩
            ·exact ⟨.inr h1,fun e=>by subst e; exact hablk (hdis _ h1 hS)⟩
           ·simp only [hm,if_false] at hb
            exact ⟨.inl ⟨(hF _ b hb).1,fun hs=>hm (hd _ _ b hb (m2 b hs))⟩,(hF _ b hb).2⟩
          ·by_cases hm:m=k * s + j <;> by_cases hm':m'=k * s + j
           ·rw [hm,hm']
           ·simp only [hm,hm',if_true,if_false] at hb hb'
            rcases hb with ⟨h1,h2⟩ | h1
            ·exact hm ▸ hd _ _ b h1 hb'
            ·exact hm ▸ hd _ _ b (m2 b (hdis b h1 (hF _ b hb').1)) hb'
           ·simp only [hm,hm',if_true,if_false] at hb hb'
            rcases hb' with ⟨h1,h2⟩ | h1
            ·exact hm' ▸ hd _ _ b hb h1
            ·exact hm' ▸ hd _ _ b hb (m2 b (hdis b h1 (hF _ b hb).1))
           ·simp only [hm,hm',if_false] at hb hb'
            exact hd _ _ b hb hb'
         rwa [hlen] at key
        ·intro q v' nd hq hn
         cases q with
         | nil =>
          obtain ⟨e1,e2⟩:=hn
          exact ⟨e1,by rw [e2]; simp [TV.nd]⟩
         | cons kj q =>
          obtain ⟨k1,j1⟩:=kj
          obtain ⟨o2,s2,xs2,a2,n2,cap2,e2,y2,u2,hx2,hu2,he2,hy2,hc2,hn2⟩:=hn
          cases hx2
          cases hu2
          have hblk:∀ m,w'.cell? (a.add m)=w.cell? (a.add m):=fun m=>World.cell?_of_block (by rw [dT]; exact hh _ hS hablk)
          by_cases hk1:k1=k
          ·subst hk1
           rw [he] at he2
           cases he2
           have hk2:k1 < xs.length:=(Cb.1 he).1
           by_cases hj1:j1=j
           ·subst hj1
            rw [hz] at hy2
            cases hy2
            have:u2=us[k1 * s + j1]:=by rw [row.cell hu] at hc2; exact (Option.some.inj hc2).symm
            subst this
            refine ⟨true,s,_,a,_,cap,e.set j1 z',z',us[k1 * s + j1],rfl,rfl,by rw [List.getElem?_set_self hk2],by rw [List.getElem?_set_self hjl],by rw [hblk]; exact hc2,?_⟩
            exact r2 q v' nd (fun q' hq'=>hq q' (by rw [hq']; rfl)) hn2
           ·refine ⟨true,s,_,a,_,cap,e.set j z',y2,u2,rfl,rfl,by rw [List.getElem?_set_self hk2],by rw [List.getElem?_set_ne (fun h=>hj1 h.symm)]; exact hy2,by rw [hblk]; exact hc2,?_⟩
            have hfg2:=cB hl he hy2
            have hm:k1 * s + j1≠k1 * s + j:=by omega
            have hr2:=hr _ _ hfg2
            have hlt3:k1 * s + j1 < us.length:=by rw [row.len,← bB hl]; exact (Cb.1 hfg2).1
            rw [getD_some (Cc hlt3)] at hr2
            have:u2=us[k1 * s + j1]:=by rw [row.cell (Cc hlt3)] at hc2; exact (Option.some.inj hc2).symm
            subst this
            exact Node.mv hr2 hI (fun b hb=>hh b (hF _ b hb).1 (fun hs=>hm (hd _ _ b hb (m2 b hs)))) hn2
          ·refine ⟨true,s,_,a,_,cap,e2,y2,u2,rfl,rfl,by rw [List.getElem?_set_ne (fun h=>hk1 h.symm)]; exact he2,hy2,by rw [hblk]; exact hc2,?_⟩
           have hfg2:=cB hl he2 hy2
           have hel2:=hl e2 (Ck he2)
           have hj2:j1 < e2.length:=(Cb.1 hy2).1
           have hm:k1 * s + j1≠k * s + j:=by
            intro heq
            rcases Nat.lt_or_gt_of_ne hk1 with h' | h'
            ·have:=Nat.mul_le_mul_right s (Nat.succ_le_of_lt h')
             rw [Nat.succ_mul] at this
             omega
            ·have:=Nat.mul_le_mul_right s (Nat.succ_le_of_lt h')
             rw [Nat.succ_mul] at this
             omega
           have hr2:=hr _ _ hfg2
           have hlt3:k1 * s + j1 < us.length:=by rw [row.len,← bB hl]; exact (Cb.1 hfg2).1
           rw [getD_some (Cc hlt3)] at hr2
           have:u2=us[k1 * s + j1]:=by rw [row.cell (Cc hlt3)] at hc2; exact (Option.some.inj hc2).symm
           subst this
           exact Node.mv hr2 hI (fun b hb=>hh b (hF _ b hb).1 (fun hs=>hm (hd _ _ b hb (m2 b hs)))) hn2
  | _=>simp [Ab.cu] at h
end
end Go.Ab
end

import Derived.Test.YtfnpejmlcbkepaaCQ12F72
import Derived.Test.YtfnpejmlcbkepaaCM0
import Derived.Below
import Derived.Orders
import Derived.Laws.Cells
import Derived.Laws.OwnMore
import Derived.Laws.CopyOwn
import Derived.Maps.AppendAt
import Derived.Lib.FrozenHead
set_option linter.all false
section
set_option maxRecDepth 10000
namespace Go.Ab
theorem zp {α:Type} {l:List α} {a:α}:(l.reverse ++ [a])[l.length]? = some a:=by
 rw [CK (by simp)]; simp
end Go.Ab
namespace Go.Ab.Q12
open Go Go.Ab Go.Proofs
theorem xH {q:Option Bool} {b:TV} {f:DFunc} (hf:RFunc q [I f.params,I f.regs,b] f) (g:Int):∃ y,dZ prog 48 [I g,.agg [I f.params,I f.regs,b]] y/\RInts (some true) y (ig f.blocks g):=by
 obtain ⟨v,h1,h2⟩:=r71 hf g
 refine ⟨v,?_,h2⟩
 refine dZ.of (f48_MR _ _ _ _) ?_
 unfold f48_M
 exact aa.call h1 (aa.chk (d7 h2.isSl) (aa.chk (h2.own fun _ _ h=>h.own) aa.ret))
section
variable {q:Option Bool} {b:TV} {f:DFunc} (hf:RFunc q [I f.params,I f.regs,b] f) (hs:f.blocks.length<=1000) {w2:TV} (h2:RInts (some true) w2 [0])
include hf hs h2
theorem yh:∀ (d:Nat) (M:List Bool) (st:List (Nat × List Int)) (o:List Int) (w3 w4 w5:TV),work M st < d->WOk f.blocks M st o->RBools (some true) w3 M->RL (some true) 2 (RV (some false)) w4 st.reverse->RInts (some true) w5 o.reverse ->
  ∃ y M' o',aa prog 24 (f24_2 (I ((1:Nat):Int)) (I ((0:Nat):Int)) w2 (I f.params) (I f.regs) b w3 w4 w5) y/\RInts (some true) y o'/\Dfs f.blocks M st o M' o':=by
 intro d
 induction d with
 | zero=>intro M st o w3 w4 w5 hd; omega
 | succ d ih =>
  intro M st o w3 w4 w5 hd hw h3 h4 h5
  have hcap:=hw.cap
  match st,hd,hw,h4,hcap with
  | [],hd,hw,h4,hcap =>
   have hol:o.length<=1000:=by simp at hcap; omega
   obtain ⟨y,hy,hr⟩:=B6 (L:=o.reverse) o.reverse.length 0 ((o.reverse.length:Int) - 1) w5 o.reverse (by simp) (by simp; omega) (by simp) h5 rfl (fun k hk=>by rw [if_neg (by omega)])
   refine ⟨y,M,o,?_,by simpa using hr,.done⟩
   unfold f24_2
   refine aa.tv h4.len (aa.tv rfl (aa.ite (v:=false) (by simp [asBool]) nofun fun _=>aa.tv (inc (k:=0) (n:=1) (by omega) (by omega)) (f24_1_J ?_)))
   unfold f24_1
   exact aa.tv rfl (aa.ite lv nofun fun _=>aa.tv h5.len (aa.tv (psub (by simp only [List.length_reverse]; constructor <;> omega)) (f24_3_J hy)))
  | (n, l) :: st', hd, hw, h4, hcap =>
   have hol:st'.length + o.length < 1000:=by simp at hcap; omega
   have hlen:((n,l) :: st').reverse.length=st'.length + 1:=by simp
   have hlast:((n,l) :: st').reverse[st'.length]? = some (n,l):=by rw [List.reverse_cons]; exact zp
   have h4b:=h4.bnd
   obtain ⟨e,he,v,rfl,hv⟩:=h4.pel hlast
   have hgp:=h4.deep he (j:=1) (z:=v) rfl
   have hnat:aB (I (st'.length:Nat))=some st'.length:=b8 (by omega)
   have hsub:pbin (.int .i64) .sub (I (((n,l) :: st').reverse.length:Nat)) (I 1)=some (I (st'.length:Nat)):=by
    have:=dec7 (n:=((n,l) :: st').reverse.length) (by omega) (by omega)
    rw [this,hlen]; rfl
   have hchk:(Bool.and (slSize w4 2) (Nat.blt st'.length ((n,l) :: st').reverse.length))=true:=by rw [h4.slSize,hlen]; simp
   have hfit1:ak zSl [I (n:Int),v] 1=true:=by
    show (v.isSl && true)=true
    rw [hv.isSl]; rfl
   have hfit2:dP zSl [I (n:Int),v] 1=true:=by
    show ((v.isSl || v.Bh) && true)=true
    rw [hv.isSl]; rfl
   have hgtr:asBool (.lit (.bool (decide (((((n,l) :: st').reverse.length:Nat):Int) > 0))))=some true:=by rw [hlen]; simp [asBool]
   match l,hd,hw,h4,hlast,hv,hsub,hchk,hlen,hgtr with
   | [], hd, hw, h4, hlast, hv, hsub, hchk, hlen, hgtr =>
    obtain ⟨w5',k1,k2⟩:=h5.app (e:=[I (n:Int)]) (a:=(n:Int)) ⟨rfl,by constructor <;> (have:=(hw.at_ _ CG).1; simp at this; omega)⟩ (by simp; omega)
    obtain ⟨w4',k3,k4⟩:=h4.win (k:=st'.length) (by omega)
    have e4:((n,([]:List Int)) :: st').reverse.take st'.length=st'.reverse:=by
     rw [List.reverse_cons,List.take_append_of_le_length (by simp),List.take_of_length_le (by simp)]
    rw [e4] at k4
    obtain ⟨y,M',o',hy,hr,hD⟩:=ih M st' ((n:Int) :: o) w3 (cX w4') w5' (by simp [work] at hd ⊢; omega) hw.leave h3 k4.cooled (by rw [List.reverse_cons]; exact k2)
    refine ⟨y,M',o',?_,hr,.leave hD⟩
    unfold f24_2
    refine aa.tv h4.len (aa.tv rfl (aa.ite (v:=true) hgtr (fun _=>?_) nofun))
    refine aa.tv h4.len (aa.tv hsub (aa.nat h4.slLen (aa.nat hnat (aa.chk hchk (aa.tvs he (aa.chk hfit1 (aa.tv hgp (aa.tv hv.len (aa.tv rfl (aa.ite (v:=true) rfl (fun _=>?_) nofun)))))))))) 
    refine aa.tv h4.len (aa.tv hsub (aa.nat h4.slLen (aa.nat hnat (aa.chk hchk (aa.tvs he (aa.chk rfl (aa.rws rfl (aa.tv k1 (aa.nat h4.slLen (aa.nat hnat (aa.chk ?_ (aa.tv k3 (f24_2_J hy)))))))))))))
    rw [h4.slSize,hlen]; simp
   | g :: l, hd, hw, h4, hlast, hv, hsub, hchk, hlen, hgtr =>
    have hg:=(hw.at_ _ CG).2 g CG
    obtain ⟨eg,heg,rfl,hgi⟩:=hv.pel (i:=0) (a:=g) rfl
    obtain ⟨v',c1,c2⟩:=hv.winD (k:=1) (by simp)
    have e1:(g :: l).drop 1=l:=rfl
    rw [e1] at c2
    obtain ⟨w4',k1,k2⟩:=h4.nH he (d:=1) (ys:=[v']) (a:=(n,l)) ⟨v',rfl,c2⟩
    have e4:((n,g :: l) :: st').reverse.set st'.length (n,l)=((n,l) :: st').reverse:=by
     rw [List.reverse_cons,List.reverse_cons,List.set_append_right _ _ (by simp)]
     simp
    rw [e4] at k2
    have hMl:g.toNat < M.length:=by rw [hw.len]; exact hg.2
    have hMg:M[g.toNat]? = some M[g.toNat]:=Cy hMl
    obtain ⟨em,hem,hRm⟩:=h3.pel hMg
    cases hRm
    have hgn:aB (I g)=some g.toNat:=si hg.1 hgi
    have h3b:=h3.bnd
    have hvl:(g :: l).length=l.length + 1:=rfl
    have front:∀ {r:TV},(M[g.toNat]=false->aa prog 24 (Prg.nat (slLen w3) fun n50=>Prg.nat (aB (nth TV.hole [I g] 0)) fun n51=>Prg.chk (Bool.and (slSize w3 1) (Nat.blt n51 n50)) (Prg.tvs (pel w3 n51) fun e52=>Prg.chk (ak dB e52 0) (Prg.tv (lL [] w3 n51 0 [TV.lit (Value.bool true)]) fun v53 =>
      Prg.call 48 [sM (nth TV.hole [I g] 0),TV.agg [I f.params,I f.regs,b]] fun v54=>Prg.chk (ak zSl [v54] 0) (Prg.rws (pelems 2 (TV.sl true 2 (chunks 2 1 [nth TV.hole [I g] 0,v54]))) fun r55=>Prg.tv (papp 2 w4' r55) fun v56=>Prg.jmp [0,0,1,1,0,0,1,1,0,0,1,0,1,1,12,0,1,1] (f24_2_S (I ((1:Nat):Int)) (I ((0:Nat):Int)) w2 (I f.params) (I f.regs) b v53 (cX v56) w5))))) r) ->
      (M[g.toNat]=true->aa prog 24 (Prg.jmp [0,0,1,1,0,0,1,1,0,0,1,0,1,1,12,0,1,1] (f24_2_S (I ((1:Nat):Int)) (I ((0:Nat):Int)) w2 (I f.params) (I f.regs) b w3 (cX w4') w5)) r)->aa prog 24 (f24_2 (I ((1:Nat):Int)) (I ((0:Nat):Int)) w2 (I f.params) (I f.regs) b w3 w4 w5) r:=fun {r} k0 k9=>by
     unfold f24_2
     refine aa.tv h4.len (aa.tv rfl (aa.ite (v:=true) hgtr (fun _=>?_) nofun))
     refine aa.tv h4.len (aa.tv hsub (aa.nat h4.slLen (aa.nat hnat (aa.chk hchk (aa.tvs he (aa.chk hfit1 (aa.tv hgp (aa.tv hv.len (aa.tv rfl (aa.ite (v:=false) (by simp [asBool]; omega) nofun fun _=>?_))))))))))
     refine aa.tvs he (aa.chk hfit1 (aa.tv hgp (aa.nat hv.slLen (aa.nat (v:=0) rfl (aa.chk ?_ (aa.tv hgp (aa.tvs heg (aa.chk rfl ?_))))))))
     ·rw [hv.slSize]; simp
     refine aa.tvs he (aa.chk hfit1 (aa.tv hgp (aa.nat hv.slLen (aa.nat (v:=1) rfl (aa.chk ?_ (aa.tv hgp (aa.tv c1 (aa.chk c2.gB ?_))))))))
     ·rw [hv.slSize]; simp
     refine aa.tvs he (aa.chk ?_ (aa.tv k1 (aa.nat h3.slLen (aa.nat hgn (aa.chk ?_ (aa.tvs hem (aa.chk rfl (aa.tv rfl (aa.ite rfl (fun h=>k0 ?_) fun h=>k9 ?_)))))))))
     ·rw [hfit2,d7 c2.isSl]; rfl
     ·rw [h3.slSize]; simpa using hMl
     ·simpa using h
     ·simpa using h
    cases hm:M[g.toNat] with
    | true =>
     obtain ⟨y,M',o',hy,hr,hD⟩:=ih M ((n,l) :: st') o w3 (cX w4') w5 (by simp [work] at hd ⊢; omega) hw.skip h3 k2.cooled h5
     exact ⟨y,M',o',front (fun h=>by rw [hm] at h; cases h) (fun _=>f24_2_J hy),hr,.skip (by rw [hMg,hm]) hD⟩
    | false =>
     rw [hm] at hMg
     obtain ⟨w3',c3,c4⟩:=h3.nH hem (d:=0) (ys:=[B true]) (a:=true) rfl
     obtain ⟨vn,c5,c6⟩:=xH hf g
     have e6:ig f.blocks g=aH f.blocks g.toNat:=by rw [ig,if_pos hg.1]
     rw [e6] at c6
     have hgg:((g.toNat:Nat):Int)=g:=by omega
     obtain ⟨w4'',c7,c8⟩:=(RL.app (R:=RV none) (k2.toN) (e:=[I g,vn]) (a:=(g.toNat,aH f.blocks g.toNat)) ⟨vn,by rw [hgg],c6.weak fun _ _ h=>h⟩ (by simp; omega))
     obtain ⟨y,M',o',hy,hr,hD⟩:=ih (M.set g.toNat true) ((g.toNat,aH f.blocks g.toNat) :: (n,l) :: st') o w3' (cX w4'') w5 (by
      have h1:=count_set hMg
      have h2:=wM f.blocks g.toNat
      simp only [work,List.map_cons,List.sum_cons,List.length_cons] at hd ⊢
      omega) (hw.enter hMg) c4 (by rw [List.reverse_cons]; exact c8.cooled) h5
     refine ⟨y,M',o',front (fun _=>?_) (fun h=>by rw [hm] at h; cases h),hr,.enter hMg hD⟩
     refine aa.nat h3.slLen (aa.nat hgn (aa.chk ?_ (aa.tvs hem (aa.chk rfl (aa.tv c3 (aa.call c5 (aa.chk (d7 c6.isSl) (aa.rws rfl (aa.tv c7 (f24_2_J hy))))))))))
     rw [h3.slSize]; simpa using hMl
end
theorem r80 {q:Option Bool} {e:List TV} {f:DFunc} (he:RFunc q e f) (hs:f.blocks.length<=1000):∃ y o,dZ prog 24 [.agg e] y/\RInts (some true) y o/\wJ f.blocks o:=by
 have he0:=he
 obtain ⟨b,rfl,hb,_⟩:=he
 by_cases h0:f.blocks=[]
 ·refine ⟨.lit bD,[],?_,.nil,.inl ⟨h0,rfl⟩⟩
  refine dZ.of (f24_MR _) ?_
  unfold f24_M
  exact aa.chk rfl (aa.tv hb.len (aa.tv rfl (aa.ite (v:=true) (by simp [asBool,h0]) (fun _=>aa.chk rfl aa.ret) nofun)))
 ·have hl:0 < f.blocks.length:=List.length_pos_iff.2 h0
  have hrep:RBools (some true) (.sl true 1 (List.replicate f.blocks.length [B false])) (List.replicate f.blocks.length false):=.sl (by simp) (F2.Bj (by simp) fun i e a he ha=>by
   rw [List.getElem?_replicate] at he ha
   split at he
   ·rename_i h; rw [if_pos h] at ha; cases he; cases ha; rfl
   ·cases he) (by simp; omega)
  obtain ⟨e7,he7,hR⟩:=hrep.pel (i:=0) (a:=false) (by rw [List.getElem?_replicate,if_pos hl])
  cases hR
  obtain ⟨w3,c1,c2⟩:=hrep.nH he7 (d:=0) (ys:=[B true]) (a:=true) rfl
  obtain ⟨v,c3,c4⟩:=xH he0 ((0:Nat):Int)
  rw [jg] at c4
  have h2:RInts (some true) (.sl true 1 [[I ((0:Nat):Int)]]) [0]:=.sl (by simp) (.cons ⟨rfl,by constructor <;> decide⟩ .nil) (by decide)
  obtain ⟨w4,c5,c6⟩:=(RL.nil:RL (some true) 2 (RV none) (.lit bD) []).app (e:=[I ((0:Nat):Int),v]) (a:=(0,aH f.blocks 0)) ⟨v,rfl,c4.weak fun _ _ h=>h⟩ (by simp)
  have hw:WOk f.blocks ((List.replicate f.blocks.length false).set 0 true) [(0,aH f.blocks 0)] []:=⟨by simp,fun p hp=>by
   rw [List.mem_singleton] at hp
   subst hp
   exact ⟨hl,fun g hg=>gK hg⟩,by rw [ss (by rw [List.getElem?_replicate,if_pos hl])]; simp⟩
  obtain ⟨y,M',o',hy,hr,hD⟩:=yh he0 hs h2 _ _ _ [] w3 (cX w4) (.lit bD) (Nat.lt_succ_self _) hw c2 c6.cooled .nil
  refine ⟨y,o',?_,hr,.inr ⟨h0,M',hD⟩⟩
  have hn:aB (I (f.blocks.length:Nat))=some f.blocks.length:=b8 (by omega)
  refine dZ.of (f24_MR _) ?_
  unfold f24_M
  have hk:Nat.ble f.blocks.length 4294967296=true:=by simp; omega
  refine aa.chk rfl (aa.tv hb.len (aa.tv rfl (aa.ite (v:=false) (by simp [asBool]; omega) nofun fun _=>?_)))
  refine aa.tv hb.len (aa.nat hn (aa.nat hn (aa.chk (by simp [hk]) (aa.chk rfl (aa.chk rfl (f24_0_J ?_))))))
  unfold f24_0
  refine aa.tv h2.len (f24_1_J ?_)
  unfold f24_1
  have hck:(Bool.and (slSize (.sl true 1 (List.replicate f.blocks.length [B false])) 1) (Nat.blt 0 (List.replicate f.blocks.length false).length))=true:=by rw [hrep.slSize]; simpa using hl
  refine aa.tv rfl (aa.ite (v:=true) rfl (fun _=>?_) nofun)
  refine aa.nat h2.slLen (aa.nat (v:=0) rfl (aa.chk rfl (aa.tvs (v:=[I ((0:Nat):Int)]) rfl (aa.chk rfl ?_))))
  refine aa.nat hrep.slLen (aa.nat (v:=0) rfl (aa.chk hck (aa.tvs he7 (aa.chk rfl (aa.tv rfl (aa.ite (v:=true) rfl (fun _=>?_) nofun))))))
  refine aa.nat hrep.slLen (aa.nat (v:=0) rfl (aa.chk hck (aa.tvs he7 (aa.chk rfl (aa.tv c1 ?_)))))
  exact aa.call c3 (aa.chk (d7 c4.isSl) (aa.rws rfl (aa.tv c5 (f24_2_J hy))))
end Go.Ab.Q12
end
section
set_option maxRecDepth 10000
namespace Go.Ab
inductive Rc (bs:List DBlock) (no:Int):Nat->Prop
 | start (h:no≠0) (h0:0 < bs.length):Rc bs no 0
 | next {i:Nat} {g:Int} (hi:Rc bs no i) (hg:g ∈ aH bs i) (hn:g≠no):Rc bs no g.toNat
def tA (bs:List DBlock) (no:Int) (M:List Bool):Prop:=M.length=bs.length/\∀ i:Nat,M[i]? = some true ↔ Rc bs no i
theorem Rc.lt {bs:List DBlock} {no:Int} {i:Nat} (h:Rc bs no i):i < bs.length:=by
 cases h with
 | start _ h0=>exact h0
 | next _ hg _=>exact (gK hg).2
def Ckd (bs:List DBlock) (no:Int) (M:List Bool) (k:Nat):Prop:=∀ i:Nat,i < k->M[i]? = some true->∀ g ∈ aH bs i,g≠no->M[g.toNat]? = some true
def SndR (bs:List DBlock) (no:Int) (M:List Bool):Prop:=∀ i:Nat,M[i]? = some true->Rc bs no i
theorem A9 {bs:List DBlock} {no:Int} {M:List Bool} (hl:M.length=bs.length) (h1:SndR bs no M) (h2:no≠0->0 < bs.length->M[0]? = some true) (h3:Ckd bs no M bs.length):tA bs no M:=by
 refine ⟨hl,fun i=>⟨h1 i,fun h=>?_⟩⟩
 induction h with
 | start h h0=>exact h2 h h0
 | next hi hg hn ih=>exact h3 _ hi.lt ih _ hg hn
theorem qy {M:List Bool} {g i:Nat} (h:M[i]? = some true):(M.set g true)[i]? = some true:=by
 rw [List.getElem?_set]
 split
 ·rename_i e
  subst e
  have:=(Cx.1 h).1
  simp [this]
 ·exact h
theorem zc {n:Nat} (h:n<=9223372036854775807):RBools (some true) (.sl true 1 (List.replicate n [B false])) (List.replicate n false):=.sl (by simp) (F2.Bj (by simp) fun i e a he ha=>by
 rw [List.getElem?_replicate] at he ha
 split at he
 ·rename_i h; rw [if_pos h] at ha; cases he; cases ha; rfl
 ·cases he) (by simpa using h)
end Go.Ab
namespace Go.Ab.Q12
open Go Go.Ab Go.Proofs
section
variable {q:Option Bool} {b:TV} {f:DFunc} (hf:RFunc q [I f.params,I f.regs,b] f) (hs:f.blocks.length<=1000) {no:Int}
include hs
include hf
end
end Go.Ab.Q12
end
section
set_option maxRecDepth 10000
namespace Go.Ab
def LedO (bs:List DBlock) (S:Nat->Prop) (o:List Int):Prop:=∀ (A:List Int) (x:Int) (B:List Int),o=A ++ x :: B->x=0\/∃ p:Nat,x ∈ aH bs p/\((p:Int) ∈ A\/S p)
def Chain (bs:List DBlock):List (Nat × List Int)->Prop
 | []=>True
 | [p]=>p.1=0
 | p :: r :: l=>(p.1:Int) ∈ aH bs r.1/\Chain bs (r :: l)
structure DI (bs:List DBlock) (M:List Bool) (st:List (Nat × List Int)) (o:List Int):Prop where
 len:M.length=bs.length
 at_:∀ p ∈ st,p.1 < bs.length/\∀ g ∈ p.2,g ∈ aH bs p.1
 mem:∀ i:Nat,M[i]? = some true ↔ (∃ p ∈ st,p.1=i)\/(i:Int) ∈ o
 nod:(o ++ st.map fun p=>(p.1:Int)).Nodup
 out:∀ x ∈ o,0<=x/\∀ g ∈ aH bs x.toNat,M[g.toNat]? = some true
 todo:∀ p ∈ st,∀ g ∈ aH bs p.1,g ∈ p.2\/M[g.toNat]? = some true
 snd:SndR bs (-1) M
 led:LedO bs (fun p=>∃ r ∈ st,r.1=p) o
 chain:Chain bs st
 last:st=[]->o.head? = some 0
theorem mb {g:Int} (h:0<=g):((g.toNat:Nat):Int)=g:=by omega
theorem DI.leave {bs:List DBlock} {M:List Bool} {n:Nat} {st:List (Nat × List Int)} {o:List Int} (h:DI bs M ((n,[]) :: st) o):DI bs M st ((n:Int) :: o):=by
 refine ⟨h.len,fun p hp=>h.at_ p (CH _ hp),fun i=>?_,?_,fun x hx=>?_,fun p hp=>h.todo p (CH _ hp),h.snd,?_,?_,fun hst=>?_⟩
 ·rw [h.mem i]
  constructor
  ·rintro (⟨p,hp,rfl⟩ | hi)
   ·rcases List.mem_cons.1 hp with rfl | hp
    ·exact .inr CG
    ·exact .inl ⟨p,hp,rfl⟩
   ·exact .inr (CH _ hi)
  ·rintro (⟨p,hp,rfl⟩ | hi)
   ·exact .inl ⟨p,CH _ hp,rfl⟩
   ·rcases List.mem_cons.1 hi with hi | hi
    ·exact .inl ⟨(n,[]),CG,by omega⟩
    ·exact .inr hi
 ·have:=h.nod
  rw [List.map_cons] at this
  exact List.perm_middle.nodup_iff.1 this
 ·rcases List.mem_cons.1 hx with rfl | hx
  ·refine ⟨by omega,fun g hg=>?_⟩
   rcases h.todo (n,[]) CG g hg with h1 | h1
   ·cases h1
   ·exact h1
  ·exact h.out x hx
 ·intro A x B e
  cases A with
  | nil =>
   simp only [List.nil_append,List.cons.injEq] at e
   obtain ⟨rfl,_⟩:=e
   cases st with
   | nil=>left; have:=h.chain; simp only [Chain] at this; omega
   | cons r l=>right; exact ⟨r.1,h.chain.1,.inr ⟨r,CG,rfl⟩⟩
  | cons a A =>
   simp only [List.cons_append,List.cons.injEq] at e
   obtain ⟨rfl,e⟩:=e
   rcases h.led A x B e with h1 | ⟨p,h1,h2⟩
   ·exact .inl h1
   ·refine .inr ⟨p,h1,?_⟩
    rcases h2 with h2 | ⟨r,hr,rfl⟩
    ·exact .inl (CH _ h2)
    ·rcases List.mem_cons.1 hr with rfl | hr
     ·exact .inl CG
     ·exact .inr ⟨r,hr,rfl⟩
 ·have:=h.chain
  cases st with
  | nil=>trivial
  | cons r l=>exact this.2
 ·subst hst
  have:=h.chain
  simp only [Chain] at this
  subst this
  rfl
theorem DI.skip {bs:List DBlock} {M:List Bool} {n:Nat} {g:Int} {l:List Int} {st:List (Nat × List Int)} {o:List Int} (h:DI bs M ((n,g :: l) :: st) o) (hg:M[g.toNat]? = some true):DI bs M ((n,l) :: st) o:=by
 refine ⟨h.len,fun p hp=>?_,fun i=>?_,h.nod,h.out,fun p hp g' hg'=>?_,h.snd,fun A x B e=>?_,?_,fun hst=>(by cases hst)⟩
 ·rcases List.mem_cons.1 hp with rfl | hp
  ·exact ⟨(h.at_ _ CG).1,fun g' hg'=>(h.at_ (n,g :: l) CG).2 g' (CH _ hg')⟩
  ·exact h.at_ p (CH _ hp)
 ·rw [h.mem i]
  simp
 ·rcases List.mem_cons.1 hp with rfl | hp
  ·rcases h.todo (n,g :: l) CG g' hg' with h1 | h1
   ·rcases List.mem_cons.1 h1 with rfl | h1
    ·exact .inr hg
    ·exact .inl h1
   ·exact .inr h1
  ·exact h.todo p (CH _ hp) g' hg'
 ·rcases h.led A x B e with h1 | ⟨p,h1,h2⟩
  ·exact .inl h1
  ·refine .inr ⟨p,h1,h2.imp id ?_⟩
   rintro ⟨r,hr,rfl⟩
   rcases List.mem_cons.1 hr with rfl | hr
   ·exact ⟨(n,l),CG,rfl⟩
   ·exact ⟨r,CH _ hr,rfl⟩
 ·have:=h.chain
  cases st with
  | nil=>exact this
  | cons r l=>exact this
theorem DI.enter {bs:List DBlock} {M:List Bool} {n:Nat} {g:Int} {l:List Int} {st:List (Nat × List Int)} {o:List Int} (h:DI bs M ((n,g :: l) :: st) o) (hg:M[g.toNat]? = some false):DI bs (M.set g.toNat true) ((g.toNat,aH bs g.toNat) :: (n,l) :: st) o:=by
 have hgm:=(h.at_ (n,g :: l) CG).2 g CG
 have hgt:=gK hgm
 have hlt:=(Cx.1 hg).1
 have hgc:=mb hgt.1
 have hnM:∀ i:Nat,M[i]? = some true->i≠g.toNat:=fun i hi e=>by rw [e,hg] at hi; cases hi
 refine ⟨by rw [List.length_set]; exact h.len,fun p hp=>?_,fun i=>?_,?_,fun x hx=>⟨(h.out x hx).1,fun g' hg'=>qy ((h.out x hx).2 g' hg')⟩,fun p hp g' hg'=>?_,fun i hi=>?_,fun A x B e=>?_,?_,fun hst=>(by cases hst)⟩
 ·rcases List.mem_cons.1 hp with rfl | hp
  ·exact ⟨hgt.2,fun g' hg'=>hg'⟩
  ·rcases List.mem_cons.1 hp with rfl | hp
   ·exact ⟨(h.at_ _ CG).1,fun g' hg'=>(h.at_ (n,g :: l) CG).2 g' (CH _ hg')⟩
   ·exact h.at_ p (CH _ hp)
 ·rw [lz hlt,h.mem i]
  simp only [List.mem_cons,exists_eq_or_imp]
  constructor
  ·rintro (rfl | h1)
   ·exact .inl (.inl rfl)
   ·rcases h1 with h1 | h1
    ·exact .inl (.inr h1)
    ·exact .inr h1
  ·rintro ((h1 | h1) | h1)
   ·exact .inl h1.symm
   ·exact .inr (.inl h1)
   ·exact .inr (.inr h1)
 ·have h1:=h.nod
  rw [List.map_cons] at h1 ⊢
  rw [List.perm_middle.nodup_iff,List.nodup_cons]
  refine ⟨fun hin=>?_,by rw [List.map_cons]; exact h1⟩
  have:M[g.toNat]? = some true:=by
   rw [h.mem]
   rcases List.mem_append.1 hin with hin | hin
   ·exact .inr hin
   ·obtain ⟨p,hp,he⟩:=List.mem_map.1 hin
    have he:p.1=g.toNat:=by omega
    rcases List.mem_cons.1 hp with rfl | hp
    ·exact .inl ⟨(n,g :: l),CG,he⟩
    ·exact .inl ⟨p,CH _ hp,he⟩
  rw [hg] at this
  cases this
 ·rcases List.mem_cons.1 hp with rfl | hp
  ·exact .inl hg'
  ·rcases List.mem_cons.1 hp with rfl | hp
   ·rcases h.todo (n,g :: l) CG g' hg' with h1 | h1
    ·rcases List.mem_cons.1 h1 with rfl | h1
     ·exact .inr ((lz hlt).2 (.inl rfl))
     ·exact .inl h1
    ·exact .inr (qy h1)
   ·exact (h.todo p (CH _ hp) g' hg').imp id qy
 ·rcases (lz hlt).1 hi with rfl | h1
  ·have hn:M[n]? = some true:=(h.mem n).2 (.inl ⟨(n,g :: l),CG,rfl⟩)
   exact .next (h.snd n hn) hgm (by omega)
  ·exact h.snd i h1
 ·rcases h.led A x B e with h1 | ⟨p,h1,h2⟩
  ·exact .inl h1
  ·refine .inr ⟨p,h1,h2.imp id ?_⟩
   rintro ⟨r,hr,rfl⟩
   rcases List.mem_cons.1 hr with rfl | hr
   ·exact ⟨(n,l),CH _ CG,rfl⟩
   ·exact ⟨r,CH _ (CH _ hr),rfl⟩
 ·have:=h.chain
  refine ⟨by rw [hgc]; exact hgm,?_⟩
  cases st with
  | nil=>exact this
  | cons r l=>exact this
theorem Dfs.keeps {bs:List DBlock} {M M':List Bool} {st:List (Nat × List Int)} {o o':List Int} (h:Dfs bs M st o M' o'):DI bs M st o->DI bs M' [] o':=by
 induction h with
 | done=>exact fun h=>h
 | leave _ ih=>exact fun h=>ih h.leave
 | skip hg _ ih=>exact fun h=>ih (h.skip hg)
 | enter hg _ ih=>exact fun h=>ih (h.enter hg)
theorem DI.start {bs:List DBlock} (h:bs≠[]):DI bs ((List.replicate bs.length false).set 0 true) [(0,aH bs 0)] []:=by
 have hl:0 < bs.length:=List.length_pos_iff.2 h
 have hlr:0 < (List.replicate bs.length false).length:=by simpa using hl
 have none_:∀ i:Nat,¬ (List.replicate bs.length false)[i]? = some true:=fun i h=>by
  rw [List.getElem?_replicate] at h
  split at h <;> cases h
 refine ⟨by simp,fun p hp=>?_,fun i=>?_,by simp,fun x hx=>(by cases hx),fun p hp g hg=>?_,fun i hi=>?_,fun A x B e=>(by simp at e),rfl,fun hst=>(by cases hst)⟩
 ·rw [List.mem_singleton] at hp
  subst hp
  exact ⟨hl,fun g hg=>hg⟩
 ·rw [lz hlr]
  simp only [List.mem_singleton,exists_eq_left,List.not_mem_nil,or_false]
  constructor
  ·rintro (rfl | h)
   ·rfl
   ·exact absurd h (none_ i)
  ·rintro rfl
   exact .inl rfl
 ·rw [List.mem_singleton] at hp
  subst hp
  exact .inl hg
 ·rcases (lz hlr).1 hi with rfl | h
  ·exact .start (by omega) hl
  ·exact absurd h (none_ i)
structure OI (bs:List DBlock) (o:List Int):Prop where
 mem:∀ i:Nat,(i:Int) ∈ o ↔ Rc bs (-1) i
 pos:∀ x ∈ o,0<=x/\x < (bs.length:Int)
 nod:o.Nodup
 led:∀ (A:List Int) (x:Int) (B:List Int),o=A ++ x :: B->x=0\/∃ p:Nat,x ∈ aH bs p/\(p:Int) ∈ A
 first:bs≠[]->o.head? = some 0
theorem wJ.keeps {bs:List DBlock} {o:List Int} (h:wJ bs o):OI bs o:=by
 rcases h with ⟨rfl,rfl⟩ | ⟨h0,M',hD⟩
 ·refine ⟨fun i=>⟨fun h=>(by cases h),fun h=>absurd h.lt (by simp)⟩,fun x hx=>(by cases hx),List.nodup_nil,fun A x B e=>(by simp at e),fun h=>absurd rfl h⟩
 ·have h:=hD.keeps (DI.start h0)
  have hmem:∀ i:Nat,M'[i]? = some true ↔ (i:Int) ∈ o:=fun i=>by rw [h.mem i]; simp
  have hfull:tA bs (-1) M':=by
   have hhd:=h.last rfl
   have h0o:(0:Int) ∈ o:=by
    cases o with
    | nil=>cases hhd
    | cons a o=>simp only [List.head?_cons,Cz] at hhd; subst hhd; exact CG
   refine A9 h.len h.snd (fun _ _=>(hmem 0).2 h0o) (fun i _ hi g hg _=>?_)
   have:=(h.out i ((hmem i).1 hi)).2 g (by simpa using hg)
   exact this
  refine ⟨fun i=>by rw [<- hmem i]; exact hfull.2 i,fun x hx=>?_,by have:=h.nod; simpa using this,fun A x B e=>?_,fun _=>h.last rfl⟩
  ·have hx0:=(h.out x hx).1
   have:Rc bs (-1) x.toNat:=(hfull.2 _).1 ((hmem _).2 (by rw [mb hx0]; exact hx))
   have:=this.lt
   omega
  ·rcases h.led A x B e with h1 | ⟨p,h1,h2⟩
   ·exact .inl h1
   ·refine .inr ⟨p,h1,?_⟩
    rcases h2 with h2 | ⟨r,hr,_⟩
    ·exact h2
    ·cases hr
end Go.Ab
namespace Go.Ab.Q12
open Go Go.Ab Go.Proofs
theorem r85 {q:Option Bool} {e:List TV} {f:DFunc} (he:RFunc q e f) (hs:f.blocks.length<=1000):∃ y M,dZ prog 22 [.agg e] y/\RBools (some true) y M/\tA f.blocks (-1) M:=by
 obtain ⟨v,o,hv,hvr,hO⟩:=r80 he hs
 obtain ⟨b,rfl,hb,_⟩:=he
 have hI:=hO.keeps
 have hvb:=hvr.bnd
 have loop:∀ (d k:Nat) (M:List Bool) (w:TV),k + d=o.length->RBools (some true) w M->M.length=f.blocks.length->(∀ i:Nat,M[i]? = some true ↔ (i:Int) ∈ o.take k)->∃ y M,aa prog 22 (f22_0 (I o.length) (I k) w v) y/\RBools (some true) y M/\tA f.blocks (-1) M:=by
  intro d
  induction d with
  | zero =>
   intro k M w hk hw hl hm
   have hk:k=o.length:=by omega
   subst hk
   rw [List.take_length] at hm
   refine ⟨w,M,?_,hw,hl,fun i=>by rw [hm i]; exact hI.mem i⟩
   unfold f22_0
   exact aa.tv rfl (aa.ite lv nofun fun _=>aa.ret)
  | succ d ih =>
   intro k M w hk hw hl hm
   have hkl:k < o.length:=by omega
   obtain ⟨x,hxx⟩:∃ x,x=o[k]:=⟨_,rfl⟩
   have hox:o[k]? = some x:=by rw [hxx]; exact Cy hkl
   have hxo:=hI.pos x (CI hox)
   obtain ⟨e,he,rfl,hei⟩:=hvr.pel hox
   have hxl:x.toNat < M.length:=by omega
   obtain ⟨e2,he2,hR⟩:=hw.pel (Cy hxl)
   cases hR
   obtain ⟨w',c1,c2⟩:=hw.nH he2 (d:=0) (ys:=[B true]) (a:=true) rfl
   obtain ⟨y,M',hy,hr,hF⟩:=ih (k + 1) (M.set x.toNat true) w' (by omega) c2 (by rw [List.length_set]; exact hl) (fun i=>by
    rw [lz hxl,hm i,AF hox,List.mem_append,List.mem_singleton]
    constructor
    ·rintro (rfl | h)
     ·exact .inr (mb hxo.1)
     ·exact .inl h
    ·rintro (h | h)
     ·exact .inr h
     ·exact .inl (by omega))
   refine ⟨y,M',?_,hr,hF⟩
   unfold f22_0
   refine aa.tv rfl (aa.ite (mr hkl) (fun _=>?_) nofun)
   refine aa.nat hvr.slLen (aa.nat (b8 (by omega)) (aa.chk ?_ (aa.tvs he (aa.chk rfl (aa.nat hw.slLen (aa.nat (si hxo.1 hei) (aa.chk ?_ (aa.tvs he2 (aa.chk rfl (aa.tv c1 (aa.tv (inc hkl hvb) (f22_0_J hy))))))))))))
   ·rw [hvr.slSize]; simpa using hkl
   ·rw [hw.slSize]; simpa using hxl
 obtain ⟨y,M,hy,hr,hF⟩:=loop o.length 0 _ _ (by omega) (zc (n:=f.blocks.length) (by omega)) (by simp) (fun i=>by
  rw [List.getElem?_replicate]
  simp)
 refine ⟨y,M,?_,hr,hF⟩
 have hn:aB (I (f.blocks.length:Nat))=some f.blocks.length:=b8 (by omega)
 refine dZ.of (f22_MR _) ?_
 unfold f22_M
 refine aa.chk rfl (aa.tv hb.len (aa.nat hn (aa.nat hn (aa.chk ?_ (aa.call hv (aa.chk (d7 hvr.isSl) (aa.tv hvr.len (f22_0_J hy))))))))
 have:Nat.ble f.blocks.length 4294967296=true:=by simp; omega
 simp [this]
end Go.Ab.Q12
end
section
set_option maxRecDepth 100000
namespace Go.Ab.Q12
open Go Go.Ab Go.Proofs
theorem B0:dZ prog 15 [] (B true):=⟨40,by kernel_rfl⟩
end Go.Ab.Q12
end
section
set_option maxRecDepth 10000
namespace Go.Ab.Q12
open Go Go.Ab Go.Proofs
theorem yz {x y:TV} {l:List Int} (hx:RInts (some true) x l) (hy:RInts (some true) y l):dZ prog 16 [frz x,frz y] (B true):=by
 have:=r14 (hx.frz fun _ _ h=>h.frz) (hy.frz fun _ _ h=>h.frz)
 rwa [xO rfl] at this
end Go.Ab.Q12
end
section
set_option maxRecDepth 10000
namespace Go.Ab
theorem tF {bs:List DBlock} {n i:Nat} {b:DBlock} (h:i≠n):aH (bs.set n b) i=aH bs i:=by
 unfold aH
 rw [List.getElem?_set_ne (Ne.symm h),List.length_set]
theorem sK {bs:List DBlock} {n:Nat} {b:DBlock} (h:n < bs.length):aH (bs.set n b) n=(nx b).filter (eX bs.length):=by
 unfold aH
 rw [List.getElem?_set_self h,List.length_set]
theorem Rc.mono {bs bs':List DBlock} {no:Int} (hl:bs'.length=bs.length) (h:∀ i,∀ g ∈ aH bs i,g ∈ aH bs' i) {i:Nat} (hr:Rc bs no i):Rc bs' no i:=by
 induction hr with
 | start h h0=>exact .start h (by omega)
 | next hi hg hn ih=>exact .next ih (h _ _ hg) hn
theorem Rc.first {bs bs':List DBlock} {no:Int} {n:Nat} (hl:bs'.length=bs.length) (h:∀ i,i≠n->aH bs' i=aH bs i) {i:Nat} (hr:Rc bs no i):Rc bs' no i\/Rc bs' no n:=by
 induction hr with
 | start h h0=>exact .inl (.start h (by omega))
 | @next i g hi hg hn ih =>
  rcases ih with ih | ih
  ·by_cases e:i=n
   ·subst e; exact .inr ih
   ·exact .inl (.next ih (by rw [h _ e]; exact hg) hn)
  ·exact .inr ih
theorem xn {M M':List Bool} {n:Nat} {a b:Bool} (ha:M[n]? = some a) (hb:M'[n]? = some b) (h:M[n]? = some true ↔ M'[n]? = some true):a=b:=by
 rw [ha,hb] at h
 cases a <;> cases b <;> simp_all
theorem Ae {p:Int} (hp:0<=p) {L:Nat} (hL:0 < L):∃ N:Nat,N < L/\pbin (.int .i64) .rem (I p) (I (L:Int))=some (I (N:Int)):=by
 have h1:0<=p.tmod L:=Int.tmod_nonneg _ hp
 have h2:p.tmod L < L:=Int.tmod_lt_of_pos _ (by omega)
 refine ⟨(p.tmod L).toNat,by omega,?_⟩
 have h3:(((p.tmod L).toNat:Nat):Int)=p.tmod L:=by omega
 rw [h3]
 show (if (L:Int)=0 then none else some (I (p.tmod L)))=_
 rw [if_neg (by omega)]
theorem sP {a:Int} (h0:0<=a) (h:a<=255):pconv (.int .i64) (.lit (.int .u8 a))=some (I a):=by
 show some (TV.lit (.int .i64 (IntKind.i64.wrap a)))=_
 rw [IntKind.wrap_i64]
 congr 4
 omega
theorem RL.appN {α:Type} {s:Nat} {R:List TV->α->Prop} {m:List α} {rows:List (List TV)} (hr:F2 R rows m) (hl:m.length<=4294967296):∃ y',papp s (.sl true s []) rows=some y'/\RL (some true) s R y' m:=by
 have hlen:=hr.length
 refine ⟨.sl true s rows,?_,.sl (by simp) hr (by omega)⟩
 simp [papp,room]; omega
def yU:DEnd:=⟨1,0,0,0,[],0,0,0⟩
def wD (k:Int):DEnd:=⟨2,0,0,0,[],k,0,0⟩
def withE (b:DBlock) (e:DEnd):DBlock:={ b with fin:=e }
theorem RBlock.withE {q:Option Bool} {e:List TV} {b:DBlock} (h:RBlock q e b) {x:DEnd} {g:TV} (hg:RInts q g x.args) (hx:x.ok) :
  RBlock q (bC e 6 [I x.kind,I x.a,I x.dst,I x.f,g,I x.to,I x.els,I x.pad]) (withE b x):=by
 obtain ⟨c,i,g0,rfl,hc,hd,hi,_,_⟩:=h
 exact ⟨c,i,g,rfl,hc,hd,hi,hg,hx⟩
theorem RBlock.fitE {q:Option Bool} {e:List TV} {b:DBlock} (h:RBlock q e b):ak [.int .i64 0,.int .i64 0,.int .i64 0,.int .i64 0,.slice none 0 0,.int .i64 0,.int .i64 0,.int .i64 0] e 6=true:=by
 obtain ⟨c,i,g,rfl,hc,hd,hi,hg,hx⟩:=h
 have:=hg.isSl
 simp [ak,aR,this,TV.isSc,scV]
end Go.Ab
namespace Go.Ab.Q12
open Go Go.Ab Go.Proofs
theorem AJ {w1 w2 w3:TV} {Mw Ma Mb:List Bool} (h1:RBools (some true) w1 Mw) (h2:RBools (some true) w2 Ma) (h3:RBools (some true) w3 Mb) (l2:Ma.length=Mw.length) (l3:Mb.length=Mw.length)
  (hh:∀ i:Nat,Ma[i]? = some true->Mw[i]? = some true/\Mb[i]? = some true):∀ (d i:Nat),i + d=Mw.length->aa prog 6 (f6_2 (I i) w1 w2 w3) (B true):=by
 have hb:=h1.bnd
 intro d
 induction d with
 | zero =>
  intro i hi
  have hi:i=Mw.length:=by omega
  subst hi
  unfold f6_2
  exact aa.tv h1.len (aa.tv rfl (aa.ite lv nofun fun _=>aa.ret))
 | succ d ih =>
  intro i hi
  have hil:i < Mw.length:=by omega
  have ani:aB (I (i:Nat))=some i:=b8 (by omega)
  have g1:Mw[i]? = some Mw[i]:=Cy _
  have g2:Ma[i]? = some (Ma[i]'(by omega)):=Cy _
  have g3:Mb[i]? = some (Mb[i]'(by omega)):=Cy _
  obtain ⟨e1,he1,hR1⟩:=h1.pel g1
  obtain ⟨e2,he2,hR2⟩:=h2.pel g2
  obtain ⟨e3,he3,hR3⟩:=h3.pel g3
  cases hR1; cases hR2; cases hR3
  have next:=f6_2_J (ih (i + 1) (by omega))
  unfold f6_2
  refine aa.tv h1.len (aa.tv rfl (aa.ite (mr hil) (fun _=>?_) nofun))
  refine aa.nat h2.slLen (aa.nat ani (aa.chk (by rw [h2.slSize]; simp; omega) (aa.tvs he2 (aa.chk rfl (aa.ite rfl (fun h=>?_) fun _=>aa.tv (inc hil hb) next)))))
  have hT:Ma[i]'(by omega)=true:=by simpa using h
  rw [hT] at g2
  obtain ⟨k1,k3⟩:=hh i g2
  rw [g1] at k1
  rw [g3] at k3
  have k1:=Option.some.inj k1
  have k3:=Option.some.inj k3
  refine aa.nat h1.slLen (aa.nat ani (aa.chk (by rw [h1.slSize]; simp; omega) (aa.tvs he1 (aa.chk rfl (aa.tv rfl (aa.ite (v:=false) (by simp [asBool,k1]) nofun fun _=>?_))))))
  exact aa.nat h3.slLen (aa.nat ani (aa.chk (by rw [h3.slSize]; simp; omega) (aa.tvs he3 (aa.chk rfl (aa.tv rfl (aa.ite (v:=false) (by simp [asBool,k3]) nofun fun _=>aa.tv (inc hil hb) next))))))
theorem rFlowMore {q:Option Bool} {e:List TV} {f:DFunc} (he:RFunc q e f) {p p':Int} (hp:0<=p/\p<=255) (hp':0<=p'/\p'<=255):dZ prog 6 [.agg e,.lit (.int .u8 p),.lit (.int .u8 p')] (B true):=by
 have he0:=he
 obtain ⟨b,rfl,hb,hi1,hi2⟩:=he
 refine dZ.of (f6_MR _ _ _) ?_
 unfold f6_M
 refine aa.chk rfl (aa.call B0 (aa.chk rfl (aa.tv rfl (aa.ite (v:=false) rfl nofun fun _=>aa.tv hb.len (aa.tv rfl (aa.ite rfl (fun _=>aa.ret) fun h=>?_))))))
 have hs:f.blocks.length<=70:=by
  have:¬ (f.blocks.length:Int) > 70:=by simpa using h
  omega
 refine aa.tv hb.len (aa.tv rfl (aa.ite rfl (fun _=>aa.ret) fun h0=>?_))
 have hL:0 < f.blocks.length:=by
  have:¬ f.blocks.length=0:=by simpa using h0
  omega
 obtain ⟨n,hn,hrn⟩:=Ae hp.1 hL
 obtain ⟨k,hk,hrk⟩:=Ae hp'.1 hL
 have hbn:f.blocks[n]? = some f.blocks[n]:=Cy hn
 obtain ⟨bn,hbe⟩:∃ bn,bn=f.blocks[n]:=⟨_,rfl⟩
 rw [<- hbe] at hbn
 have ann:aB (I (n:Nat))=some n:=b8 (by omega)
 have ank:aB (I (k:Nat))=some k:=b8 (by omega)
 obtain ⟨yw,Mw,hyw,hrw,hFw⟩:=r85 he0 (by omega)
 obtain ⟨r1,hr1,hf1⟩:=hb.elems
 obtain ⟨a1,ha1,hra1⟩:=RL.appN (s:=14) hf1 (by omega)
 obtain ⟨e1,hpe1,hRe1⟩:=hra1.pel hbn
 have hargs:∀ {q},RInts q (.lit bD) []:=fun {q}=>RL.nil
 have ok1:yU.ok:=by simp [DEnd.ok,yU,inI]
 have okJ:(wD (k:Int)).ok:=by simp [DEnd.ok,wD,inI]; omega
 obtain ⟨a2,ha2,hra2⟩:=hra1.nH hpe1 (d:=6) (ys:=[I 1,I 0,I 0,I 0,.lit bD,I 0,I 0,I 0]) (hRe1.withE (x:=yU) hargs ok1)
 refine aa.tv (sP hp.1 hp.2) (aa.tv hb.len (aa.tv hrn (aa.tv (sP hp'.1 hp'.2) (aa.tv hb.len (aa.tv hrk ?_)))))
 refine aa.call hyw (aa.chk (d7 hrw.isSl) (aa.rws hr1 (aa.tv ha1 (aa.nat hra1.slLen (aa.nat ann (aa.chk (by rw [hra1.slSize]; simpa using hn) (aa.tvs hpe1 (aa.chk (by rw [Bool.and_true]; exact nW hRe1.fitE) (aa.tv ha2 (f6_0_J ?_))))))))))
 have hz2:=hra2.frz (S:=RBlock (some false)) fun _ _ h=>h.frz
 obtain ⟨ls,hls⟩:∃ ls,ls=f.blocks.set n (withE bn yU):=⟨_,rfl⟩
 rw [<- hls] at hz2 hra2
 have hlsl:ls.length=f.blocks.length:=by rw [hls,List.length_set]
 have hless:RFunc (some false) [I f.params,I f.regs,Go.Ab.frz a2] { f with blocks:=ls }:=⟨_,rfl,hz2,hi1,hi2⟩
 have hlsn:ls[n]? = some (withE bn yU):=by rw [hls,List.getElem?_set_self hn]
 obtain ⟨r2,hr2,hf2⟩:=hz2.elems
 obtain ⟨a3,ha3,hra3⟩:=RL.appN (s:=14) hf2 (by omega)
 obtain ⟨e2,hpe2,hRe2⟩:=hra3.pel hlsn
 obtain ⟨a4,ha4,hra4⟩:=hra3.nH hpe2 (d:=6) (ys:=[I 2,I 0,I 0,I 0,.lit bD,I (k:Int),I 0,I 0]) (hRe2.withE (x:=wD k) hargs okJ)
 have hz4:=hra4.frz (S:=RBlock (some false)) fun _ _ h=>h.frz
 have hms:ls.set n (withE (withE bn yU) (wD k))=f.blocks.set n (withE bn (wD k)):=by rw [hls,List.set_set]; rfl
 rw [hms] at hz4 hra4
 obtain ⟨ms,hmse⟩:∃ ms,ms=f.blocks.set n (withE bn (wD k)):=⟨_,rfl⟩
 rw [<- hmse] at hz4 hra4
 have hmsl:ms.length=f.blocks.length:=by rw [hmse,List.length_set]
 have hmore:RFunc (some false) [I f.params,I f.regs,Go.Ab.frz a4] { f with blocks:=ms }:=⟨_,rfl,hz4,hi1,hi2⟩
 have hz5:=hz4.frz (S:=RBlock (some false)) fun _ _ h=>h.frz
 have hmore2:RFunc (some false) [I f.params,I f.regs,Go.Ab.frz (Go.Ab.frz a4)] { f with blocks:=ms }:=⟨_,rfl,hz5,hi1,hi2⟩
 obtain ⟨ya,Ma,hya,hrya,hFa⟩:=r85 hless (by show ls.length<=_; omega)
 obtain ⟨yb,Mb,hyb,hryb,hFb⟩:=r85 hmore (by show ms.length<=_; omega)
 obtain ⟨y1,hy1,hk1⟩:=r71 hless (n:Int)
 obtain ⟨y2,hy2,hk2⟩:=r71 hmore2 (n:Int)
 have en1:ig ls (n:Int)=[]:=by
  rw [jg,hls,sK hn]
  rfl
 have en2:aH ms n=[(k:Int)]:=by
  rw [hmse,sK hn]
  have:eX f.blocks.length (k:Int)=true:=by simp [eX]; omega
  simp [nx,gl,withE,wD,this]
 have en3:ig ms (n:Int)=[(k:Int)]:=by rw [jg]; exact en2
 rw [show ({ f with blocks:=ls }:DFunc).blocks=ls from rfl,en1] at hk1
 rw [show ({ f with blocks:=ms }:DFunc).blocks=ms from rfl,en3] at hk2
 replace hFa:tA ls (-1) Ma:=hFa
 replace hFb:tA ms (-1) Mb:=hFb
 have lw:=hFw.1
 have la:=hFa.1
 have lb:=hFb.1
 have n1:∀ i,i≠n->aH ls i=aH f.blocks i:=fun i h=>by rw [hls]; exact tF h
 have n2:∀ i,i≠n->aH ms i=aH f.blocks i:=fun i h=>by rw [hmse]; exact tF h
 have e1:aH ls n=[]:=by rw [<- jg]; exact en1
 have iwa:Mw[n]? = some true ↔ Ma[n]? = some true:=by
  rw [hFw.2 n,hFa.2 n]
  exact ⟨fun h=>(h.first hlsl n1).elim id id,fun h=>(h.first hlsl.symm fun i hi=>(n1 i hi).symm).elim id id⟩
 have iwb:Mw[n]? = some true ↔ Mb[n]? = some true:=by
  rw [hFw.2 n,hFb.2 n]
  exact ⟨fun h=>(h.first hmsl n2).elim id id,fun h=>(h.first hmsl.symm fun i hi=>(n2 i hi).symm).elim id id⟩
 have down:∀ i:Nat,Ma[i]? = some true->Mw[i]? = some true/\Mb[i]? = some true:=fun i hi=>by
  rw [hFa.2 i] at hi
  rw [hFw.2 i,hFb.2 i]
  refine ⟨hi.mono (by omega) fun j g hg=>?_,hi.mono (by omega) fun j g hg=>?_⟩
  ·by_cases e:j=n
   ·subst e; rw [e1] at hg; cases hg
   ·rw [n1 j e] at hg; exact hg
  ·by_cases e:j=n
   ·subst e; rw [e1] at hg; cases hg
   ·rw [n1 j e] at hg; rw [n2 j e]; exact hg
 have to:Mw[n]? = some true->Mb[k]? = some true:=fun h=>by
  have:=(hFb.2 n).1 (iwb.1 h)
  exact (hFb.2 k).2 (.next (i:=n) (g:=(k:Int)) this (by rw [en2]; simp) (by omega))
 have gw:Mw[n]? = some (Mw[n]'(by omega)):=Cy _
 have ga:Ma[n]? = some (Ma[n]'(by omega)):=Cy _
 have gb:Mb[n]? = some (Mb[n]'(by omega)):=Cy _
 have gk:Mb[k]? = some (Mb[k]'(by omega)):=Cy _
 have eqa:=xn gw ga iwa
 have eqb:=xn gw gb iwb
 obtain ⟨ew,hew,hRw⟩:=hrw.pel gw
 obtain ⟨ea,hea,hRa⟩:=hrya.pel ga
 obtain ⟨eb,heb,hRb⟩:=hryb.pel gb
 obtain ⟨ek,hek,hRk⟩:=hryb.pel gk
 cases hRw; cases hRa; cases hRb; cases hRk
 have ckw:(Bool.and (slSize yw 1) (Nat.blt n Mw.length))=true:=by rw [hrw.slSize]; simp; omega
 have cka:(Bool.and (slSize ya 1) (Nat.blt n Ma.length))=true:=by rw [hrya.slSize]; simp; omega
 have ckb:(Bool.and (slSize yb 1) (Nat.blt n Mb.length))=true:=by rw [hryb.slSize]; simp; omega
 have ckk:(Bool.and (slSize yb 1) (Nat.blt k Mb.length))=true:=by rw [hryb.slSize]; simp; omega
 have hone:RInts (some true) (.sl true 1 [[I (k:Int)]]) [(k:Int)]:=.sl (by simp) (.cons ⟨rfl,by simp [inI]; omega⟩ .nil) (by simp)
 have fin:aa prog 6 (.jmp [1,0,1,1,1,1,1,1,1,1,1,1,1,1,1] (f6_1_S (TV.lit (Value.int IntKind.i64 (0:Int))) yw ya yb)) (B true):=by
  refine f6_1_J ?_
  unfold f6_1
  exact f6_2_J (AJ hrw hrya hryb (by omega) (by omega) down Mw.length 0 (by omega))
 unfold f6_0
 refine aa.rws hr2 (aa.tv ha3 (aa.chk rfl (aa.nat hra3.slLen (aa.nat ann (aa.chk (by rw [hra3.slSize]; simp; omega) (aa.tvs hpe2 (aa.chk (by rw [CB]; exact ⟨nW hRe2.fitE,rfl⟩) (aa.tv ha4 ?_))))))))
 refine aa.call hya (aa.chk (d7 hrya.isSl) (aa.call hyb (aa.chk (d7 hryb.isSl) (aa.call hy1 (aa.chk (d7 hk1.isSl) (aa.tv hk1.len (aa.tv rfl (aa.ite (v:=false) rfl nofun fun _=>?_))))))))
 refine aa.call hy2 (aa.chk (d7 hk2.isSl) (aa.chk rfl (aa.call (yz hk2 hone) (aa.chk rfl (aa.tv rfl (aa.ite (v:=false) rfl nofun fun _=>?_))))))
 refine aa.nat hrya.slLen (aa.nat ann (aa.chk cka (aa.tvs hea (aa.chk rfl (aa.nat hrw.slLen (aa.nat ann (aa.chk ckw (aa.tvs hew (aa.chk rfl (aa.tv rfl (aa.ite (v:=false) (by simp [asBool,eqa]) nofun fun _=>?_)))))))))))
 refine aa.nat hryb.slLen (aa.nat ann (aa.chk ckb (aa.tvs heb (aa.chk rfl (aa.nat hrw.slLen (aa.nat ann (aa.chk ckw (aa.tvs hew (aa.chk rfl (aa.tv rfl (aa.ite (v:=false) (by simp [asBool,eqb]) nofun fun _=>?_)))))))))))
 refine aa.nat hrw.slLen (aa.nat ann (aa.chk ckw (aa.tvs hew (aa.chk rfl (aa.ite rfl (fun h=>?_) fun _=>fin)))))
 have hT:Mw[n]'(by omega)=true:=by simpa using h
 rw [hT] at gw
 have hkT:=to gw
 rw [gk] at hkT
 have hkT:=Option.some.inj hkT
 exact aa.nat hryb.slLen (aa.nat ank (aa.chk ckk (aa.tvs hek (aa.chk rfl (aa.tv rfl (aa.ite (v:=false) (by simp [asBool,hkT]) nofun fun _=>fin))))))
end Go.Ab.Q12
end
section
namespace Go.Ab
open Go.RowKit
theorem aI {α:Type} (d:α):∀ (l:List α) (n:Nat),nth d l n=(l[n]?).getD d
 | [],n=>by simp [nth]
 | a :: l,0=>rfl
 | a :: l,n + 1=>by simp [nth,aI d l n]
theorem ag {α:Type}:∀ (l:List α) (n:Nat) (b:α),al l n b=l.set n b
 | [],n,b=>by simp [al]
 | a :: l,0,b=>rfl
 | a :: l,n + 1,b=>by simp [al,ag l n b]
theorem bA {α:Type} {d:α} {l:List α} {n:Nat} {a:α} (h:l[n]? = some a):nth d l n=a:=by rw [aI,h]; rfl
theorem am (a b:Nat):a.beq b=true ↔ a=b:=⟨Nat.eq_of_beq_eq_true,fun h=>h ▸ Nat.beq_refl a⟩
theorem bL (n:Nat):∀ l:List Nat,br n l=true ↔ n ∈ l
 | []=>by simp [br]
 | a :: l => by
  cases h:a.beq n
  ·have:a≠n:=fun e=>by simp [e] at h
   simp only [br,h,cond_false,bL n l,List.mem_cons]
   constructor
   ·exact .inr
   ·rintro (e | e)
    ·exact absurd e.symm this
    ·exact e
  ·simp only [br,h,cond_true,List.mem_cons,true_iff]
   exact .inl ((am a n).1 h).symm
theorem dR (a:Addr) (k:Nat):(a.add k).block=a.block:=by unfold Addr.add; split <;> rfl
theorem Bd {a:Addr} (h:a.spot=none) (k:Nat):(a.add k).spot=none:=by unfold Addr.add; split <;> simp [h]
theorem ec (a:Addr) (i j:Nat):(a.add i).add j=a.add (i + j):=by
 unfold Addr.add
 by_cases hi:i=0 <;> by_cases hj:j=0 <;> simp [hi,hj,Nat.add_assoc]
theorem dv (b o k:Nat):(⟨b,o,none⟩:Addr).add k=⟨b,o + k,none⟩:=by unfold Addr.add; split <;> simp_all
def spl {α:Type} (l:List α) (o:Nat) (ys:List α):List α:=l.take o ++ ys ++ l.drop (o + ys.length)
theorem ef {α:Type} {l ys:List α} {o:Nat} (h:o + ys.length<=l.length):(spl l o ys).length=l.length:=by
 simp only [spl,List.length_append,List.length_take,List.length_drop]
 omega
theorem bo {α:Type} {l ys:List α} {o:Nat} (h:o + ys.length<=l.length) (k:Nat):(spl l o ys)[k]? = if o<=k/\k < o + ys.length then ys[k - o]? else l[k]? := by
 have e1:(l.take o).length=o:=by simp; omega
 unfold spl
 by_cases h1:k < o
 ·rw [List.append_assoc,CJ (by omega),List.getElem?_take,if_pos h1,if_neg (by omega)]
 ·by_cases h2:k < o + ys.length
  ·rw [List.append_assoc,CK (by omega),e1,CJ (by omega),if_pos (by omega)]
  ·rw [CK (by simp; omega),List.getElem?_drop,if_neg (by omega)]
   congr 1
   simp
   omega
theorem eM {α:Type}:∀ (ps l:List α) (off:Nat),off + ps.length<=l.length->bC l off ps=spl l off ps
 | [],l,off,h=>by simp [bC,spl]
 | p :: ps, l, off, h => by
  have hlt:off < l.length:=by simp at h; omega
  simp only [bC]
  rw [ag,eM ps (l.set off p) (off + 1) (by simp at h ⊢; omega)]
  apply List.ext_getElem?
  intro k
  rw [bo (by simp at h ⊢; omega),bo h]
  simp only [List.length_cons,List.getElem?_set]
  by_cases h1:k < off
  ·rw [if_neg (by omega),if_neg (by omega),if_neg (by omega)]
  ·by_cases h2:k=off
   ·subst h2
    rw [if_neg (by omega),if_pos (by omega)]
    simp [hlt]
   ·by_cases h3:k < off + (ps.length + 1)
    ·rw [if_pos (by omega),if_pos (by omega)]
     rw [show k - off=(k - (off + 1)) + 1 by omega,List.getElem?_cons_succ]
    ·rw [if_neg (by omega),if_neg (by omega),if_neg (by omega)]
theorem eA {α:Type}:∀ (l:List α) (o n:Nat) (r:List α),ka l o n=some r->r.length=n/\(n=0\/o + n<=l.length)/\∀ j,j < n->r[j]? = l[o + j]?
 | l,o,0,r,h=>by cases l <;> simp [ka] at h <;> subst h <;> simp
 | [],o,n + 1,r,h=>by simp [ka] at h
 | a :: l, 0, n + 1, r, h => by
  simp only [ka] at h
  cases h1:ka l 0 n with
  | none=>simp [h1] at h
  | some r' =>
   simp only [h1,Cz] at h
   subst h
   obtain ⟨i1,i2,i3⟩:=eA l 0 n r' h1
   refine ⟨by simp [i1],.inr (by simp; omega),fun j hj=>?_⟩
   cases j with
   | zero=>simp
   | succ j=>simpa using i3 j (by omega)
 | a :: l,o + 1,n + 1,r,h=>by
  simp only [ka] at h
  obtain ⟨i1,i2,i3⟩:=eA l o (n + 1) r h
  refine ⟨i1,.inr (by rcases i2 with i2 | i2 <;> simp <;> omega),fun j hj=>?_⟩
  rw [i3 j hj,show o + 1 + j=(o + j) + 1 by omega,List.getElem?_cons_succ]
theorem bB {α:Type} {s:Nat}:∀ {xs:List (List α)},(∀ x ∈ xs,x.length=s)->xs.flatten.length=xs.length * s
 | [],_=>by simp
 | x :: xs,h=>by
  simp only [List.flatten_cons,List.length_append,List.length_cons,h x CG,bB (fun y hy=>h y (CH _ hy)),Nat.add_mul]
  omega
theorem cE {α:Type} {s:Nat}:∀ {xs:List (List α)} {i j:Nat} {x:List α} {c:α},(∀ x ∈ xs,x.length=s)->xs[i]? = some x->x[j]? = some c->xs.flatten[i * s + j]? = some c
 | x :: xs,0,j,_,c,h,hi,hj=>by
  simp at hi
  subst hi
  rw [List.flatten_cons,CJ (by simp; exact (Cx.1 hj).1)]
  simpa using hj
 | x :: xs,i + 1,j,y,c,h,hi,hj=>by
  simp at hi
  have hx:=h x CG
  rw [List.flatten_cons,CK (by rw [hx,Nat.add_mul]; omega),hx,show (i + 1) * s + j - s=i * s + j by rw [Nat.add_mul]; omega]
  exact cE (fun z hz=>h z (CH _ hz)) hi hj
theorem take_add {α:Type} {x l:List α} {s n:Nat} (h:x.length=s):(x ++ l).take (s + n)=x ++ l.take n:=by
 subst h
 exact List.take_length_add_append n
theorem uQ {α:Type} {x l:List α} {s n:Nat} (h:x.length=s):(x ++ l).drop (s + n)=l.drop n:=by
 subst h
 exact List.drop_length_add_append n
theorem ol (n s:Nat):(n + 1) * s=s + n * s:=by rw [Nat.add_mul]; omega
theorem lG {α:Type} {s:Nat}:∀ {xs:List (List α)} (n:Nat),(∀ x ∈ xs,x.length=s)->(xs.take n).flatten=xs.flatten.take (n * s)
 | [],n,_=>by simp
 | x :: xs,0,_=>by simp
 | x :: xs,n + 1,h=>by
  have hx:=h x CG
  rw [List.take_succ_cons,List.flatten_cons,List.flatten_cons,lG n (fun z hz=>h z (CH _ hz)),ol,take_add hx]
theorem kY {α:Type} {s:Nat}:∀ {xs:List (List α)} (n:Nat),(∀ x ∈ xs,x.length=s)->(xs.drop n).flatten=xs.flatten.drop (n * s)
 | [],n,_=>by simp
 | x :: xs,0,_=>by simp
 | x :: xs,n + 1,h=>by
  have hx:=h x CG
  rw [List.drop_succ_cons,List.flatten_cons,kY n (fun z hz=>h z (CH _ hz)),ol,uQ hx]
theorem vg {α:Type} {s:Nat}:∀ {xs:List (List α)} {i:Nat} {x y:List α},(∀ x ∈ xs,x.length=s)->xs[i]? = some x->y.length=s->(xs.set i y).flatten=spl xs.flatten (i * s) y
 | x :: xs,0,_,y,h,hi,hy=>by
  simp at hi
  subst hi
  have hx:=h x CG
  simp only [List.set_cons_zero,List.flatten_cons,Nat.zero_mul,spl,List.take_zero,List.nil_append,Nat.zero_add,hy,List.drop_append,hx,Nat.sub_self,List.drop_zero]
  rw [List.drop_of_length_le (by omega),List.nil_append]
 | x :: xs,i + 1,z,y,h,hi,hy=>by
  simp at hi
  have hx:=h x CG
  have ih:=vg (fun z hz=>h z (CH _ hz)) hi hy
  simp only [List.set_cons_succ,List.flatten_cons,ih,spl,ol,take_add hx,hy]
  rw [show s + i * s + s=s + (i * s + s) by omega,uQ hx]
  simp only [List.append_assoc]
theorem xI {α:Type} {s:Nat} {xs:List (List α)} {i:Nat} {y:List α} (h:∀ x ∈ xs,x.length=s) (hy:y.length=s):∀ x ∈ xs.set i y,x.length=s:=by
 intro x hx
 rcases List.mem_or_eq_of_mem_set hx with h' | h'
 ·exact h x h'
 ·rw [h']; exact hy
theorem vi {α:Type} {s:Nat} {xs:List (List α)} {i j:Nat} {x ys:List α} (h:∀ x ∈ xs,x.length=s) (hi:xs[i]? = some x) (hj:j + ys.length<=x.length) :
  (xs.set i (spl x j ys)).flatten=spl xs.flatten (i * s + j) ys/\i * s + j + ys.length<=xs.flatten.length:=by
 have hx:=h x (CI hi)
 have hlt:i < xs.length:=(Cx.1 hi).1
 have hle:i * s + s<=xs.flatten.length:=by
  rw [bB h]
  have:=Nat.mul_le_mul_right s (Nat.succ_le_of_lt hlt)
  rw [Nat.succ_mul] at this
  exact this
 refine ⟨?_,by omega⟩
 rw [vg h hi (by rw [ef hj,hx])]
 apply List.ext_getElem?
 intro k
 rw [bo (l:=xs.flatten) (ys:=spl x j ys) (by rw [ef hj]; omega),bo (l:=xs.flatten) (ys:=ys) (by omega),ef hj,hx]
 by_cases h1:i * s<=k/\k < i * s + s
 ·rw [if_pos h1,bo hj]
  by_cases h2:j<=k - i * s/\k - i * s < j + ys.length
  ·rw [if_pos h2,if_pos (by omega)]
   congr 1
   omega
  ·rw [if_neg h2,if_neg (by omega)]
   have hk:k - i * s < x.length:=by omega
   have:=cE h hi (Cy hk)
   rw [show i * s + (k - i * s)=k by omega] at this
   rw [this,Cy hk]
 ·rw [if_neg h1,if_neg (by omega)]
inductive Rep (w:World) (I:Nat->Prop):TV->Value->Prop
 | lit (v:Value):Rep w I (.lit v) v
 | hole (v:Value):Rep w I .hole v
 | buf {s:ByteArray} (e:TypeId) (h:s.size=0):Rep w I (.buf s e) bD
 | sl {size : Nat} {xs : List (List TV)} {a : Addr} {cap : Nat} (cell : Nat → Value) (hI : 0 < xs.length → I a.block) (hc : xs.length ≤ cap) (hm : cap ≤ maxLen)
   (hl:∀ x ∈ xs,x.length=size) (hcell:∀ k,k < xs.length * size->w.cell? (a.add k)=some (cell k)) (h1:∀ k,k < xs.length * size->(cell k).oneCell'=true)
   (hr:∀ (i:Nat) (x:List TV),xs[i]? = some x->∀ (j:Nat) (c:TV),x[j]? = some c->Rep w I c (cell (i * size + j))):Rep w I (.sl false size xs) (.slice (some a) xs.length cap)
 | agg {cs : List TV} {vs : Array Value} (hl : vs.size = cs.length) (h1 : ∀ j, j < vs.size → (vs.getD j undef).oneCell' = true)
   (hr:∀ (j:Nat) (c:TV),cs[j]? = some c->Rep w I c (vs.getD j undef)):Rep w I (.agg cs) (.agg vs)
 | tup {cs:List TV} {vs:Array Value} (hl:vs.size=cs.length) (hr:∀ (j:Nat) (c:TV),cs[j]? = some c->Rep w I c (vs.getD j undef)):Rep w I (.tup cs) (.tuple vs)
theorem Rep.mv {w w':World} {I I':Nat->Prop} (hh:∀ b,I b->w'.heap[b]? = w.heap[b]?) (hI:∀ b,I b->I' b) {x:TV} {v:Value} (h:Rep w I x v):Rep w' I' x v:=by
 induction h with
 | lit v=>exact .lit v
 | hole v=>exact .hole v
 | buf e h=>exact .buf e h
 | sl cell i c m l hcell h1 _ ih =>
  exact .sl cell (fun h=>hI _ (i h)) c m l (fun k hk=>by rw [<- hcell k hk]; exact World.cell?_of_block (by rw [dR]; exact hh _ (i (Nat.pos_of_ne_zero (fun e=>by simp [e] at hk))))) h1 ih
 | agg hl h1 _ ih=>exact .agg hl h1 ih
 | tup hl _ ih=>exact .tup hl ih
structure Row (w:World) (a:Addr) (n cap size:Nat) (us:List Value) (vs:Array Value) (ty:TypeId):Prop where
 heap:w.heap[a.block]? = some (.cells vs ty (0,0))
 spot:a.spot=none
 le:n<=cap
 max:cap<=maxLen
 fit:a.off + cap * size<=vs.size
 len:us.length=n * size
 cells:∀ k,k < n * size->vs[a.off + k]? = us[k]?
 one:∀ u ∈ us,u.oneCell'=true
theorem Row.cell {w:World} {a:Addr} {n cap size:Nat} {us:List Value} {vs:Array Value} {ty:TypeId} (h:Row w a n cap size us vs ty) {k:Nat} {u:Value} (hk:us[k]? = some u):w.cell? (a.add k)=some u:=by
 have hlt:k < n * size:=by rw [<- h.len]; exact (Cx.1 hk).1
 have:a.add k=⟨a.block,a.off + k,none⟩:=by
  have:=h.spot
  obtain ⟨b,o,sp⟩:=a
  simp at this
  subst this
  exact dv b o k
 rw [this]
 simp only [World.cell?,h.heap]
 simp only [Option.isSome_none,Bool.false_eq_true,if_false]
 rw [h.cells k hlt,hk]
inductive ai (w:World) (I:Nat->Prop):TV->Value->(Nat->Prop)->Prop
 | fr {x:TV} {v:Value} {S:Nat->Prop} (h:Rep w I x v):ai w I x v S
 | sl {size : Nat} {xs : List (List TV)} {a : Addr} {cap : Nat} {S : Nat → Prop} (us : List Value) (vs : Array Value) (ty : TypeId) (F : Nat → Nat → Prop) (hS : S a.block)
   (row:Row w a xs.length cap size us vs ty) (hl:∀ x ∈ xs,x.length=size) (hr:∀ (k:Nat) (c:TV),xs.flatten[k]? = some c->ai w I c (us.getD k undef) (F k))
   (hF:∀ k b,F k b->S b/\b≠a.block) (hd:∀ k k' b,F k b->F k' b->k=k'):ai w I (.sl true size xs) (.slice (some a) xs.length cap) S
 | agg {cs : List TV} {vs : Array Value} {S : Nat → Prop} (F : Nat → Nat → Prop) (hl : vs.size = cs.length) (h1 : ∀ j, j < vs.size → (vs.getD j undef).oneCell' = true)
   (hr:∀ (j:Nat) (c:TV),cs[j]? = some c->ai w I c (vs.getD j undef) (F j)) (hF:∀ j b,F j b->S b) (hd:∀ k k' b,F k b->F k' b->k=k'):ai w I (.agg cs) (.agg vs) S
 | buf {s:ByteArray} {e:TypeId} {v:Value} {S:Nat->Prop} (h:w.ownsRowF 0 e 1 v s.size (Lib.strCells s)) (hS:∀ b,v.ownBlock=some b->S b):ai w I (.buf s e) v S
 | tup {cs : List TV} {vs : Array Value} {S : Nat → Prop} (F : Nat → Nat → Prop) (hl : vs.size = cs.length)
   (hr:∀ (j:Nat) (c:TV),cs[j]? = some c->ai w I c (vs.getD j undef) (F j)) (hF:∀ j b,F j b->S b) (hd:∀ k k' b,F k b->F k' b->k=k'):ai w I (.tup cs) (.tuple vs) S
theorem _root_.Go.World.ownsRowF.moved {w w':World} {base:Nat} {e:TypeId} {size:Nat} {v:Value} {n:Nat} {xs:List Value} (h:w.ownsRowF base e size v n xs) (hh:∀ b,v.ownBlock=some b->w'.heap[b]? = w.heap[b]?):w'.ownsRowF base e size v n xs:=by
 refine ⟨h.1,?_⟩
 rcases h.2 with hn | ⟨g,cap,cur,fz,rfl,hb,hgg,rest⟩
 ·exact .inl hn
 ·exact .inr ⟨g,cap,cur,fz,rfl,hb,by rw [hh g rfl]; exact hgg,rest⟩
theorem ai.mv {w w':World} {I I':Nat->Prop} (hI:∀ b,I b->w'.heap[b]? = w.heap[b]?) (hs:∀ b,I b->I' b) {x:TV} {v:Value} {S:Nat->Prop} (h:ai w I x v S) :
  ∀ {S':Nat->Prop},(∀ b,S b->w'.heap[b]? = w.heap[b]?)->(∀ b,S b->S' b)->ai w' I' x v S':=by
 induction h with
 | fr h=>intro S' _ _; exact .fr (h.mv hI hs)
 | @sl size xs a cap S us vs ty F hS row hl hr hF hd ih =>
  intro S' hh hSS
  exact .sl us vs ty F (hSS _ hS) ⟨by rw [hh _ hS]; exact row.heap,row.spot,row.le,row.max,row.fit,row.len,row.cells,row.one⟩ hl (fun k c hk=>ih k c hk (fun b hb=>hh b (hF k b hb).1) (fun b hb=>hb))
   (fun k b hb=>⟨hSS b (hF k b hb).1,(hF k b hb).2⟩) hd
 | @buf s e v S h hS =>
  intro S' hh hSS
  exact .buf (h.moved (fun b hb=>hh b (hS b hb))) (fun b hb=>hSS b (hS b hb))
 | @agg cs vs S F hl h1 hr hF hd ih =>
  intro S' hh hSS
  exact .agg F hl h1 (fun k c hk=>ih k c hk (fun b hb=>hh b (hF k b hb)) (fun b hb=>hb)) (fun k b hb=>hSS b (hF k b hb)) hd
 | @tup cs vs S F hl hr hF hd ih =>
  intro S' hh hSS
  exact .tup F hl (fun k c hk=>ih k c hk (fun b hb=>hh b (hF k b hb)) (fun b hb=>hb)) (fun k b hb=>hSS b (hF k b hb)) hd
theorem ai.mono {w:World} {I:Nat->Prop} {x:TV} {v:Value} {S S':Nat->Prop} (h:ai w I x v S) (hS:∀ b,S b->S' b):ai w I x v S' :=
 h.mv (fun _ _=>rfl) (fun _ h=>h) (fun _ _=>rfl) hS
theorem be {w:World} {I:Nat->Prop} {v u:Value} (h:Rep w I (.lit v) u):u=v:=by cases h; rfl
theorem aK {w:World} {I:Nat->Prop} {v u:Value} {S:Nat->Prop} (h:ai w I (.lit v) u S):u=v:=by cases h with | fr h=>exact be h
theorem AS {w:World} {I:Nat->Prop} {s:Nat} {xs:List (List TV)} {u:Value} {S:Nat->Prop} (h:ai w I (.sl false s xs) u S):Rep w I (.sl false s xs) u:=by cases h with | fr h=>exact h
theorem pV {w:World} {I:Nat->Prop} {o:Bool} {s:Nat} {xs:List (List TV)} {u:Value} {S:Nat->Prop} (h:ai w I (.sl o s xs) u S):∃ a cap,u=.slice (some a) xs.length cap:=by
 cases h with
 | fr h=>cases h; exact ⟨_,_,rfl⟩
 | sl=>exact ⟨_,_,rfl⟩
theorem eT {w:World} {I:Nat->Prop} {x:TV} {u:Value} {S:Nat->Prop} (h:ai w I x u S) (hx:x.isSl=true):∃ a n cap,u=.slice a n cap:=by
 cases x with
 | lit v =>
  have:=aK h
  subst this
  cases u <;> simp [TV.isSl,aR] at hx ⊢
 | sl o s xs=>obtain ⟨a,cap,rfl⟩:=pV h; exact ⟨_,_,_,rfl⟩
 | _=>simp [TV.isSl] at hx
theorem pW {v:Value} (h:scV v=true):v.oneCell'=true:=by cases v <;> first | rfl | simp [scV] at h
theorem dT {w:World} {I:Nat->Prop} {x:TV} {u:Value} {S:Nat->Prop} (h:ai w I x u S) (hx:x.isSc=true):x=.lit u/\scV u=true:=by
 cases x with
 | lit v =>
  have:=aK h
  subst this
  exact ⟨rfl,hx⟩
 | _=>simp [TV.isSc] at hx
theorem BS {w:World} {I:Nat->Prop} {x:TV} {u:Value} {S:Nat->Prop} (h:ai w I x u S):Rep w I x.lf u:=by
 cases x with
 | lit v=>have:=aK h; subst this; exact .lit _
 | _=>exact .hole _
theorem lr:∀ l:List TV,pG l=l.map frz
 | []=>rfl
 | x :: l=>by simp [pG,lr l]
theorem fV:∀ l:List (List TV),qb l=l.map fun x=>x.map frz
 | []=>rfl
 | x :: l=>by simp [qb,fV l,lr]
theorem zr:∀ l:List TV,lfL l=l.map TV.lf
 | []=>rfl
 | x :: l=>by simp [lfL,zr l]
theorem xL:∀ l:List (List TV),uA l=l.map fun x=>x.map TV.lf
 | []=>rfl
 | x :: l=>by simp [uA,xL l,zr]
theorem Rep.frz {w:World} {I:Nat->Prop} {x:TV} {v:Value} (h:Rep w I x v):Rep w I (frz x) v:=by
 induction h with
 | lit v=>exact .lit v
 | hole v=>exact .hole v
 | buf e h=>exact .hole _
 | @sl size xs a cap cell hI hc hm hl hcell h1 _ ih =>
  simp only [Ab.frz,fV]
  have hlen:(xs.map fun x=>x.map Ab.frz).length=xs.length:=by simp
  have key:Rep w I (.sl false size (xs.map fun x=>x.map Ab.frz)) (.slice (some a) (xs.map fun x=>x.map Ab.frz).length cap):=by
   refine .sl cell (by rw [hlen]; exact hI) (by rw [hlen]; exact hc) hm (fun x hx=>?_) (by rw [hlen]; exact hcell) (by rw [hlen]; exact h1) (fun i y hy j c hj=>?_)
   ·obtain ⟨y,hy,rfl⟩:=List.mem_map.1 hx
    simpa using hl y hy
   ·rw [CE] at hy
    cases hxi:xs[i]? with
    | none=>simp [hxi] at hy
    | some x =>
     simp only [hxi,CM,Cz] at hy
     subst hy
     rw [CE] at hj
     cases hxj:x[j]? with
     | none=>simp [hxj] at hj
     | some c' =>
      simp only [hxj,CM,Cz] at hj
      subst hj
      exact ih i x hxi j c' hxj
  rwa [hlen] at key
 | @agg cs vs hl h1 _ ih =>
  simp only [Ab.frz,lr]
  refine .agg (by simpa using hl) h1 (fun j c hj=>?_)
  rw [CE] at hj
  cases hxj:cs[j]? with
  | none=>simp [hxj] at hj
  | some c'=>simp only [hxj,CM,Cz] at hj; subst hj; exact ih j c' hxj
 | @tup cs vs hl _ ih =>
  simp only [Ab.frz,lr]
  refine .tup (by simpa using hl) (fun j c hj=>?_)
  rw [CE] at hj
  cases hxj:cs[j]? with
  | none=>simp [hxj] at hj
  | some c'=>simp only [hxj,CM,Cz] at hj; subst hj; exact ih j c' hxj
theorem ai.frz {w:World} {I I':Nat->Prop} (hI:∀ b,I b->I' b) {x:TV} {v:Value} {S:Nat->Prop} (h:ai w I x v S):(∀ b,S b->I' b)->Rep w I' (frz x) v:=by
 induction h with
 | fr h=>intro _; exact (h.mv (fun _ _=>rfl) hI).frz
 | buf _ _=>intro _; exact .hole _
 | @sl size xs a cap S us vs ty F hS row hl hr hF hd ih =>
  intro hSI
  simp only [Ab.frz,fV]
  have hlen:(xs.map fun x=>x.map Ab.frz).length=xs.length:=by simp
  have key:Rep w I' (.sl false size (xs.map fun x=>x.map Ab.frz)) (.slice (some a) (xs.map fun x=>x.map Ab.frz).length cap):=by
   refine .sl (fun k=>us.getD k undef) (fun _=>hSI _ hS) (by rw [hlen]; exact row.le) row.max (fun x hx=>?_) (fun k hk=>?_) (fun k hk=>?_) (fun i y hy j c hj=>?_)
   ·obtain ⟨y,hy,rfl⟩:=List.mem_map.1 hx
    simpa using hl y hy
   ·rw [hlen] at hk
    have:k < us.length:=by rw [row.len]; exact hk
    exact row.cell (by simp [Cy this])
   ·rw [hlen] at hk
    have:k < us.length:=by rw [row.len]; exact hk
    simp only [CN,Cy this,Option.getD_some]
    exact row.one _ (List.getElem_mem this)
   ·rw [CE] at hy
    cases hxi:xs[i]? with
    | none=>simp [hxi] at hy
    | some x =>
     simp only [hxi,CM,Cz] at hy
     subst hy
     rw [CE] at hj
     cases hxj:x[j]? with
     | none=>simp [hxj] at hj
     | some c' =>
      simp only [hxj,CM,Cz] at hj
      subst hj
      exact ih _ c' (cE hl hxi hxj) (fun b hb=>hSI b (hF _ b hb).1)
  rwa [hlen] at key
 | @agg cs vs S F hl h1 hr hF hd ih =>
  intro hSI
  simp only [Ab.frz,lr]
  refine .agg (by simpa using hl) h1 (fun j c hj=>?_)
  rw [CE] at hj
  cases hxj:cs[j]? with
  | none=>simp [hxj] at hj
  | some c'=>simp only [hxj,CM,Cz] at hj; subst hj; exact ih j c' hxj (fun b hb=>hSI b (hF j b hb))
 | @tup cs vs S F hl hr hF hd ih =>
  intro hSI
  simp only [Ab.frz,lr]
  refine .tup (by simpa using hl) (fun j c hj=>?_)
  rw [CE] at hj
  cases hxj:cs[j]? with
  | none=>simp [hxj] at hj
  | some c'=>simp only [hxj,CM,Cz] at hj; subst hj; exact ih j c' hxj (fun b hb=>hSI b (hF j b hb))
theorem fp:∀ {l:List TV},gX l=true->∀ x ∈ l,cF x=true
 | [],_,x,hx=>by simp at hx
 | y :: l,h,x,hx=>by
  simp only [gX,CB] at h
  rcases List.mem_cons.1 hx with rfl | hx
  ·exact h.1
  ·exact fp h.2 x hx
theorem pb:∀ {l:List (List TV)},lj l=true->∀ x ∈ l,gX x=true
 | [],_,x,hx=>by simp at hx
 | y :: l,h,x,hx=>by
  simp only [lj,CB] at h
  rcases List.mem_cons.1 hx with rfl | hx
  ·exact h.1
  ·exact pb h.2 x hx
theorem Rep.own {w:World} {I I':Nat->Prop} {x:TV} {v:Value} (h:Rep w I x v):cF x=true->Rep w I' x v:=by
 induction h with
 | lit v=>intro _; exact .lit v
 | hole v=>intro _; exact .hole v
 | buf e h=>intro _; exact .buf e h
 | sl=>intro h; simp [cF] at h
 | @agg cs vs hl h1 _ ih=>intro h; simp only [cF] at h; exact .agg hl h1 (fun j c hj=>ih j c hj (fp h c (CI hj)))
 | @tup cs vs hl _ ih=>intro h; simp only [cF] at h; exact .tup hl (fun j c hj=>ih j c hj (fp h c (CI hj)))
theorem ai.own {w:World} {I I':Nat->Prop} {x:TV} {v:Value} {S:Nat->Prop} (h:ai w I x v S):cF x=true->ai w I' x v S:=by
 induction h with
 | fr h=>intro ho; exact .fr (h.own ho)
 | buf h hS=>intro _; exact .buf h hS
 | @sl size xs a cap S us vs ty F hS row hl hr hF hd ih =>
  intro ho
  simp only [cF,Bool.true_and] at ho
  refine .sl us vs ty F hS row hl (fun k c hk=>ih k c hk ?_) hF hd
  obtain ⟨x,hx,hc⟩:=List.mem_flatten.1 (CI hk)
  exact fp (pb ho x hx) c hc
 | @agg cs vs S F hl h1 hr hF hd ih=>intro ho; simp only [cF] at ho; exact .agg F hl h1 (fun j c hj=>ih j c hj (fp ho c (CI hj))) hF hd
 | @tup cs vs S F hl hr hF hd ih=>intro ho; simp only [cF] at ho; exact .tup F hl (fun j c hj=>ih j c hj (fp ho c (CI hj))) hF hd
end Go.Ab
end
section
namespace Go.Ab
open Go.RowKit
def TV.nd (x:TV):Option (Nat × Nat):=match x with | .sl _ s xs=>some (s,xs.length) | _=>none
def Node (w:World):Way->TV->Value->Value->Option (Nat × Nat)->Prop
 | [],x,u,v,nd=>v=u/\nd=x.nd
 | (k,j) :: p,x,u,v,nd=>∃ o s xs a n cap e y u',x=.sl o s xs/\u=.slice (some a) n cap/\xs[k]? = some e/\e[j]? = some y/\w.cell? (a.add (k * s + j))=some u'/\Node w p y u' v nd
section
variable {w w':World} {I I':Nat->Prop} {x y:TV} {u v:Value} {S:Nat->Prop}
theorem getD_some {l:List Value} {k:Nat} {u:Value} (h:l[k]? = some u):l.getD k undef=u:=by simp [h]
theorem ai.child {o:Bool} {s:Nat} {xs:List (List TV)} (h:ai w I (.sl o s xs) u S) {k j:Nat} {e:List TV} {y:TV} (hk:xs[k]? = some e) (hj:e[j]? = some y) :
  ∃ a cap u' S',u=.slice (some a) xs.length cap/\w.cell? (a.add (k * s + j))=some u'/\u'.oneCell'=true/\ai w I y u' S'/\(∀ b,S' b->S b)/\(S a.block\/I a.block)/\e.length=s:=by
 have hlt:k < xs.length:=(Cx.1 hk).1
 cases h with
 | fr h =>
  cases h with
  | @sl _ _ a cap cell hI hc hm hl hcell h1 hr =>
   have hel:=hl e (CI hk)
   have hf:k * s + j < xs.length * s:=by
    have hj':=(Cx.1 hj).1
    have:=Nat.mul_le_mul_right s (Nat.succ_le_of_lt hlt)
    rw [Nat.succ_mul] at this
    omega
   exact ⟨a,cap,_,fun _=>False,rfl,hcell _ hf,h1 _ hf,.fr (hr k e hk j y hj),fun _ h=>h.elim,.inr (hI (by omega)),hel⟩
 | @sl _ _ a cap S us vs ty F hS row hl hr hF hd =>
  have hel:=hl e (CI hk)
  have hfg:=cE hl hk hj
  have hlt2:k * s + j < us.length:=by
   rw [row.len,<- bB hl]
   exact (Cx.1 hfg).1
  have hu:=Cy hlt2
  refine ⟨a,cap,us[k * s + j],F (k * s + j),rfl,row.cell hu,row.one _ (List.getElem_mem hlt2),?_,fun b hb=>(hF _ b hb).1,.inl hS,hel⟩
  have:=hr _ _ hfg
  rwa [getD_some hu] at this
theorem Node.mv:∀ {p:Way} {x:TV} {u v:Value} {nd:Option (Nat × Nat)} {S:Nat->Prop},ai w I x u S->(∀ b,I b->w'.heap[b]? = w.heap[b]?)->(∀ b,S b->w'.heap[b]? = w.heap[b]?)->Node w p x u v nd->Node w' p x u v nd
 | [],x,u,v,nd,S,_,_,_,h=>h
 | (k,j) :: p,x,u,v,nd,S,hr,hI,hS,⟨o,s,xs,a,n,cap,e,y,u',hx,hu,he,hy,hc,h⟩=>by
  subst hx
  obtain ⟨a',cap',u2,S',h1,h2,h3,h4,h5,h6,h7⟩:=hr.child he hy
  rw [hu] at h1
  cases h1
  rw [hc] at h2
  cases h2
  refine ⟨o,s,xs,a,_,_,e,y,u',rfl,hu,he,hy,?_,Node.mv h4 hI (fun b hb=>hS b (h5 b hb)) h⟩
  rw [<- hc]
  refine World.cell?_of_block ?_
  rw [dR]
  rcases h6 with h6 | h6
  ·exact hS _ h6
  ·exact hI _ h6
theorem ai.get:∀ {p:Way} {x y:TV} {u:Value} {S:Nat->Prop},ai w I x u S->cu p x=some y->∃ v S',Node w p x u v y.nd/\ai w I y v S'/\(∀ b,S' b->S b)/\(p≠[]->v.oneCell'=true)
 | [],x,y,u,S,hr,h=>by
  simp only [cu,Cz] at h
  subst h
  exact ⟨u,S,⟨rfl,rfl⟩,hr,fun _ h=>h,fun h=>absurd rfl h⟩
 | (k, j) :: p, x, y, u, S, hr, h => by
  cases x with
  | sl o s xs =>
   simp only [cu] at h
   cases he:xs[k]? with
   | none=>simp [he] at h
   | some e =>
    simp only [he] at h
    cases hz:e[j]? with
    | none=>simp [hz] at h
    | some z =>
     simp only [hz] at h
     obtain ⟨a,cap,u',S1,h1,h2,h3,h4,h5,h6,h7⟩:=hr.child he hz
     obtain ⟨v,S2,n1,n2,n3,n4⟩:=ai.get h4 h
     refine ⟨v,S2,⟨o,s,xs,a,_,cap,e,z,u',rfl,h1,he,hz,h2,n1⟩,n2,fun b hb=>h5 b (n3 b hb),fun _=>?_⟩
     cases p with
     | nil=>rw [n1.1]; exact h3
     | cons=>exact n4 (by simp)
  | _=>simp [cu] at h
theorem Node.unique:∀ {p:Way} {x:TV} {u v v':Value} {nd nd':Option (Nat × Nat)},Node w p x u v nd->Node w p x u v' nd'->v=v'/\nd=nd'
 | [],x,u,v,v',nd,nd',h,h'=>⟨h.1.trans h'.1.symm,h.2.trans h'.2.symm⟩
 | (k,j) :: p,x,u,v,v',nd,nd',⟨o,s,xs,a,n,cap,e,y,u',hx,hu,he,hy,hc,h⟩,⟨o2,s2,xs2,a2,n2,cap2,e2,y2,u2,hx2,hu2,he2,hy2,hc2,h2⟩=>by
  subst hx
  cases hx2
  subst hu
  cases hu2
  rw [he] at he2
  cases he2
  rw [hy] at hy2
  cases hy2
  rw [hc] at hc2
  cases hc2
  exact Node.unique h h2
theorem ai.sub : ∀ {p : Way} {x y : TV} {u : Value} {S : Nat → Prop}, ai w I x u S → cu p x = some y →
  ∃ v Sy, ai w I y v Sy ∧ (∀ b, Sy b → S b) ∧ Node w p x u v y.nd ∧ (p ≠ [] → v.oneCell' = true) ∧
   ∀ (w':World) (I':Nat->Prop) (y' x':TV) (S':Nat->Prop),kA p x y'=some x'->(∀ b,I b->w'.heap[b]? = w.heap[b]?)->(∀ b,I b->I' b)->(∀ b,S b->¬ Sy b->w'.heap[b]? = w.heap[b]?) ->
    ai w' I' y' v S'->(∀ b,S' b->S b->Sy b)->ai w' I' x' u (fun b=>(S b/\¬ Sy b)\/S' b) /\
    ∀ (q:Way) (v':Value) (nd:Option (Nat × Nat)),(∀ q',q=p ++ q'->Node w q' y v v' nd->Node w' q' y' v v' nd)->Node w q x u v' nd->Node w' q x' u v' nd
 | [],x,y,u,S,hr,h=>by
  simp only [Ab.cu,Cz] at h
  subst h
  refine ⟨u,S,hr,fun _ h=>h,⟨rfl,rfl⟩,fun h=>absurd rfl h,?_⟩
  intro w' I' y' x' S' hs hI hII hh hr' hd
  simp only [kA,Cz] at hs
  subst hs
  exact ⟨hr'.mono (fun b hb=>.inr hb),fun q v' nd hq hn=>hq q rfl hn⟩
 | (k, j) :: p, x, y, u, S, hr, h => by
  cases x with
  | sl o s xs =>
   simp only [Ab.cu] at h
   cases he:xs[k]? with
   | none=>simp [he] at h
   | some e =>
    simp only [he] at h
    cases hz:e[j]? with
    | none=>simp [hz] at h
    | some z =>
     simp only [hz] at h
     cases o with
     | false =>
      obtain ⟨v,S',n1,n2,n3,n4⟩:=ai.get (p:=(k,j) :: p) (y:=y) hr (by simp only [Ab.cu,he,hz,h])
      refine ⟨v,S',n2,n3,n1,n4,?_⟩
      intro w' I' y' x' S2 hs
      simp [kA] at hs
     | true =>
      cases hr with
      | fr h=>cases h
      | @sl _ _ a cap S us vs ty F hS row hl hr hF hd =>
       have hel:=hl e (CI he)
       have hjl:j < e.length:=(Cx.1 hz).1
       have hfg:=cE hl he hz
       have hlt2:k * s + j < us.length:=by
        rw [row.len,<- bB hl]
        exact (Cx.1 hfg).1
       have hu:=Cy hlt2
       have hrz:=hr _ _ hfg
       rw [getD_some hu] at hrz
       obtain ⟨v,Sy,m1,m2,m3,m4,m5⟩:=ai.sub hrz h
       have hSyF:∀ b,Sy b->F (k * s + j) b:=m2
       refine ⟨v,Sy,m1,fun b hb=>(hF _ b (m2 b hb)).1,⟨true,s,xs,a,_,cap,e,z,us[k * s + j],rfl,rfl,he,hz,row.cell hu,m3⟩,fun _=>?_,?_⟩
       ·cases p with
        | nil=>rw [m3.1]; exact row.one _ (List.getElem_mem hlt2)
        | cons=>exact m4 (by simp)
       intro w' I' y' x' S' hs hI hII hh hr' hdis
       simp only [kA,he,hz] at hs
       cases hz':kA p z y' with
       | none=>simp [hz'] at hs
       | some z' =>
        simp only [hz',Cz,ag] at hs
        subst hs
        have hablk:¬ Sy a.block:=fun hb=>(hF _ _ (m2 _ hb)).2 rfl
        obtain ⟨r1,r2⟩:=m5 w' I' y' z' S' hz' hI hII (fun b hb hn=>hh b (hF _ b hb).1 hn) hr' (fun b hb hb2=>hdis b hb (hF _ b hb2).1)
        have hset:e.set j z'=spl e j [z']:=by
         apply List.ext_getElem?
         intro m
         rw [bo (by simp; omega),List.getElem?_set]
         by_cases hjm:j=m
         ·subst hjm; simp [hjl]
         ·rw [if_neg hjm,if_neg (by simp; omega)]
        obtain ⟨f1,f2⟩:=vi (ys:=[z']) hl he (by simp; omega:j + [z'].length<=e.length)
        have hlen:(xs.set k (e.set j z')).length=xs.length:=by simp
        have hrow:Row w' a (xs.set k (e.set j z')).length cap s us vs ty:=by
         rw [hlen]
         exact ⟨by rw [hh _ hS hablk]; exact row.heap,row.spot,row.le,row.max,row.fit,row.len,row.cells,row.one⟩
        have hother:∀ m c,m≠k * s + j->xs.flatten[m]? = some c->ai w' I' c (us.getD m undef) (F m):=fun m c hm hc =>
         (hr m c hc).mv hI hII (fun b hb=>hh b (hF m b hb).1 (fun hs=>hm (hd m _ b hb (m2 b hs)))) (fun _ h=>h)
        constructor
        ·have key:ai w' I' (.sl true s (xs.set k (e.set j z'))) (.slice (some a) (xs.set k (e.set j z')).length cap) (fun b=>(S b/\¬ Sy b)\/S' b):=by
          refine .sl us vs ty (fun m b=>if m=k * s + j then (F (k * s + j) b/\¬ Sy b)\/S' b else F m b) (.inl ⟨hS,hablk⟩) hrow (xI hl (by simp [hel])) (fun m c hc=>?_) (fun m b hb=>?_) (fun m m' b hb hb'=>?_)
          ·rw [hset,f1,bo f2] at hc
           by_cases hm:m=k * s + j
           ·subst hm
            simp only [List.length_singleton,Nat.sub_self] at hc
            rw [if_pos (by omega)] at hc
            simp only [List.getElem?_cons_zero,Cz] at hc
            subst hc
            simp only [if_true]
            rw [getD_some hu]
            exact r1
           ·rw [if_neg (by simp only [List.length_singleton]; omega)] at hc
            simp only [hm,if_false]
            exact hother m c hm hc
          ·by_cases hm:m=k * s + j
           ·subst hm
            simp only [if_true] at hb
            rcases hb with ⟨h1,h2⟩ | h1
            ·exact ⟨.inl ⟨(hF _ b h1).1,h2⟩,(hF _ b h1).2⟩
            ·exact ⟨.inr h1,fun e=>by subst e; exact hablk (hdis _ h1 hS)⟩
           ·simp only [hm,if_false] at hb
            exact ⟨.inl ⟨(hF _ b hb).1,fun hs=>hm (hd _ _ b hb (m2 b hs))⟩,(hF _ b hb).2⟩
          ·by_cases hm:m=k * s + j <;> by_cases hm':m'=k * s + j
           ·rw [hm,hm']
           ·simp only [hm,hm',if_true,if_false] at hb hb'
            rcases hb with ⟨h1,h2⟩ | h1
            ·exact hm ▸ hd _ _ b h1 hb'
            ·exact hm ▸ hd _ _ b (m2 b (hdis b h1 (hF _ b hb').1)) hb'
           ·simp only [hm,hm',if_true,if_false] at hb hb'
            rcases hb' with ⟨h1,h2⟩ | h1
            ·exact hm' ▸ hd _ _ b hb h1
            ·exact hm' ▸ hd _ _ b hb (m2 b (hdis b h1 (hF _ b hb).1))
           ·simp only [hm,hm',if_false] at hb hb'
            exact hd _ _ b hb hb'
         rwa [hlen] at key
        ·intro q v' nd hq hn
         cases q with
         | nil =>
          obtain ⟨e1,e2⟩:=hn
          exact ⟨e1,by rw [e2]; simp [TV.nd]⟩
         | cons kj q =>
          obtain ⟨k1,j1⟩:=kj
          obtain ⟨o2,s2,xs2,a2,n2,cap2,e2,y2,u2,hx2,hu2,he2,hy2,hc2,hn2⟩:=hn
          cases hx2
          cases hu2
          have hblk:∀ m,w'.cell? (a.add m)=w.cell? (a.add m):=fun m=>World.cell?_of_block (by rw [dR]; exact hh _ hS hablk)
          by_cases hk1:k1=k
          ·subst hk1
           rw [he] at he2
           cases he2
           have hk2:k1 < xs.length:=(Cx.1 he).1
           by_cases hj1:j1=j
           ·subst hj1
            rw [hz] at hy2
            cases hy2
            have:u2=us[k1 * s + j1]:=by rw [row.cell hu] at hc2; exact (Option.some.inj hc2).symm
            subst this
            refine ⟨true,s,_,a,_,cap,e.set j1 z',z',us[k1 * s + j1],rfl,rfl,by rw [List.getElem?_set_self hk2],by rw [List.getElem?_set_self hjl],by rw [hblk]; exact hc2,?_⟩
            exact r2 q v' nd (fun q' hq'=>hq q' (by rw [hq']; rfl)) hn2
           ·refine ⟨true,s,_,a,_,cap,e.set j z',y2,u2,rfl,rfl,by rw [List.getElem?_set_self hk2],by rw [List.getElem?_set_ne (fun h=>hj1 h.symm)]; exact hy2,by rw [hblk]; exact hc2,?_⟩
            have hfg2:=cE hl he hy2
            have hm:k1 * s + j1≠k1 * s + j:=by omega
            have hr2:=hr _ _ hfg2
            have hlt3:k1 * s + j1 < us.length:=by rw [row.len,<- bB hl]; exact (Cx.1 hfg2).1
            rw [getD_some (Cy hlt3)] at hr2
            have:u2=us[k1 * s + j1]:=by rw [row.cell (Cy hlt3)] at hc2; exact (Option.some.inj hc2).symm
            subst this
            exact Node.mv hr2 hI (fun b hb=>hh b (hF _ b hb).1 (fun hs=>hm (hd _ _ b hb (m2 b hs)))) hn2
          ·refine ⟨true,s,_,a,_,cap,e2,y2,u2,rfl,rfl,by rw [List.getElem?_set_ne (fun h=>hk1 h.symm)]; exact he2,hy2,by rw [hblk]; exact hc2,?_⟩
           have hfg2:=cE hl he2 hy2
           have hel2:=hl e2 (CI he2)
           have hj2:j1 < e2.length:=(Cx.1 hy2).1
           have hm:k1 * s + j1≠k * s + j:=by
            intro heq
            rcases Nat.lt_or_gt_of_ne hk1 with h' | h'
            ·have:=Nat.mul_le_mul_right s (Nat.succ_le_of_lt h')
             rw [Nat.succ_mul] at this
             omega
            ·have:=Nat.mul_le_mul_right s (Nat.succ_le_of_lt h')
             rw [Nat.succ_mul] at this
             omega
           have hr2:=hr _ _ hfg2
           have hlt3:k1 * s + j1 < us.length:=by rw [row.len,<- bB hl]; exact (Cx.1 hfg2).1
           rw [getD_some (Cy hlt3)] at hr2
           have:u2=us[k1 * s + j1]:=by rw [row.cell (Cy hlt3)] at hc2; exact (Option.some.inj hc2).symm
           subst this
           exact Node.mv hr2 hI (fun b hb=>hh b (hF _ b hb).1 (fun hs=>hm (hd _ _ b hb (m2 b hs)))) hn2
  | _=>simp [Ab.cu] at h
end
end Go.Ab
end

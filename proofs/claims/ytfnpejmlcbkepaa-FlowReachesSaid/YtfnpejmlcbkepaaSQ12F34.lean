import Derived.Test.YtfnpejmlcbkepaaSQ12F72
set_option linter.all false
section
set_option maxRecDepth 10000
namespace Go.Ab
theorem CS {α:Type} {l:List α} {a:α}:(l.reverse ++ [a])[l.length]? = some a:=by
 rw [EU (by simp)]; simp
end Go.Ab
namespace Go.Ab.Q12
open Go Go.Ab Go.Proofs
theorem zd {q:Option Bool} {b:TV} {f:DFunc} (hf:RFunc q [I f.params,I f.regs,b] f) (g:Int):∃ y,ao prog 48 [I g,.agg [I f.params,I f.regs,b]] y/\RInts (some true) y (jS f.blocks g):=by
 obtain ⟨v,h1,h2⟩:=r71 hf g
 refine ⟨v,?_,h2⟩
 refine ao.of (f48_MR _ _ _ _) ?_
 unfold f48_M
 exact aa.call h1 (aa.chk (je h2.isSl) (aa.chk (h2.own fun _ _ h=>h.own) aa.ret))
section
variable {q:Option Bool} {b:TV} {f:DFunc} (hf:RFunc q [I f.params,I f.regs,b] f) (hs:f.blocks.length<=1000) {w2:TV} (h2:RInts (some true) w2 [0])
include hf hs h2
theorem AM:∀ (d:Nat) (M:List Bool) (st:List (Nat × List Int)) (o:List Int) (w3 w4 w5:TV),work M st < d->WOk f.blocks M st o->RBools (some true) w3 M->RL (some true) 2 (RV (some false)) w4 st.reverse->RInts (some true) w5 o.reverse ->
  ∃ y M' o',aa prog 24 (f24_2 (I ((1:Nat):Int)) (I ((0:Nat):Int)) w2 (I f.params) (I f.regs) b w3 w4 w5) y/\RInts (some true) y o'/\Dfs f.blocks M st o M' o':=by
 intro d
 induction d with
 | zero=>intro M st o w3 w4 w5 hd; omega
 | succ d ih =>
  intro M st o w3 w4 w5 hd hw h3 h4 h5
  have hcap:=hw.cap
  match st,hd,hw,h4,hcap with
  | [],hd,hw,h4,hcap =>
   have hol:o.length<=1000:=by simp at hcap; omega
   obtain ⟨y,hy,hr⟩:=Eh (L:=o.reverse) o.reverse.length 0 ((o.reverse.length:Int) - 1) w5 o.reverse (by simp) (by simp; omega) (by simp) h5 rfl (fun k hk=>by rw [if_neg (by omega)])
   refine ⟨y,M,o,?_,by simpa using hr,.done⟩
   unfold f24_2
   refine aa.tv h4.len (aa.tv rfl (aa.ite (v:=false) (by simp [asBool]) nofun fun _=>aa.tv (inc (k:=0) (n:=1) (by omega) (by omega)) (f24_1_J ?_)))
   unfold f24_1
   exact aa.tv rfl (aa.ite bL nofun fun _=>aa.tv h5.len (aa.tv (psub (by simp only [List.length_reverse]; constructor <;> omega)) (f24_3_J hy)))
  | (n, l) :: st', hd, hw, h4, hcap =>
   have hol:st'.length + o.length < 1000:=by simp at hcap; omega
   have hlen:((n,l) :: st').reverse.length=st'.length + 1:=by simp
   have hlast:((n,l) :: st').reverse[st'.length]? = some (n,l):=by rw [List.reverse_cons]; exact CS
   have h4b:=h4.bnd
   obtain ⟨e,he,v,rfl,hv⟩:=h4.pel hlast
   have hgp:=h4.deep he (j:=1) (z:=v) rfl
   have hnat:ak (I (st'.length:Nat))=some st'.length:=cw (by omega)
   have hsub:pbin (.int .i64) .sub (I (((n,l) :: st').reverse.length:Nat)) (I 1)=some (I (st'.length:Nat)):=by
    have:=dec7 (n:=((n,l) :: st').reverse.length) (by omega) (by omega)
    rw [this,hlen]; rfl
   have hchk:(Bool.and (slSize w4 2) (Nat.blt st'.length ((n,l) :: st').reverse.length))=true:=by rw [h4.slSize,hlen]; simp
   have hfit1:ab zSl [I (n:Int),v] 1=true:=by
    show (v.isSl && true)=true
    rw [hv.isSl]; rfl
   have hfit2:bK zSl [I (n:Int),v] 1=true:=by
    show ((v.isSl || v.Dl) && true)=true
    rw [hv.isSl]; rfl
   have hgtr:asBool (.lit (.bool (decide (((((n,l) :: st').reverse.length:Nat):Int) > 0))))=some true:=by rw [hlen]; simp [asBool]
   match l,hd,hw,h4,hlast,hv,hsub,hchk,hlen,hgtr with
   | [], hd, hw, h4, hlast, hv, hsub, hchk, hlen, hgtr =>
    obtain ⟨w5',k1,k2⟩:=h5.app (e:=[I (n:Int)]) (a:=(n:Int)) ⟨rfl,by constructor <;> (have:=(hw.at_ _ EQ).1; simp at this; omega)⟩ (by simp; omega)
    obtain ⟨w4',k3,k4⟩:=h4.win (k:=st'.length) (by omega)
    have e4:((n,([]:List Int)) :: st').reverse.take st'.length=st'.reverse:=by
     rw [List.reverse_cons,List.take_append_of_le_length (by simp),List.take_of_length_le (by simp)]
    rw [e4] at k4
    obtain ⟨y,M',o',hy,hr,hD⟩:=ih M st' ((n:Int) :: o) w3 (dF w4') w5' (by simp [work] at hd ⊢; omega) hw.leave h3 k4.cooled (by rw [List.reverse_cons]; exact k2)
    refine ⟨y,M',o',?_,hr,.leave hD⟩
    unfold f24_2
    refine aa.tv h4.len (aa.tv rfl (aa.ite (v:=true) hgtr (fun _=>?_) nofun))
    refine aa.tv h4.len (aa.tv hsub (aa.nat h4.slLen (aa.nat hnat (aa.chk hchk (aa.tvs he (aa.chk hfit1 (aa.tv hgp (aa.tv hv.len (aa.tv rfl (aa.ite (v:=true) rfl (fun _=>?_) nofun)))))))))) 
    refine aa.tv h4.len (aa.tv hsub (aa.nat h4.slLen (aa.nat hnat (aa.chk hchk (aa.tvs he (aa.chk rfl (aa.rws rfl (aa.tv k1 (aa.nat h4.slLen (aa.nat hnat (aa.chk ?_ (aa.tv k3 (f24_2_J hy)))))))))))))
    rw [h4.slSize,hlen]; simp
   | g :: l, hd, hw, h4, hlast, hv, hsub, hchk, hlen, hgtr =>
    have hg:=(hw.at_ _ EQ).2 g EQ
    obtain ⟨eg,heg,rfl,hgi⟩:=hv.pel (i:=0) (a:=g) rfl
    obtain ⟨v',c1,c2⟩:=hv.winD (k:=1) (by simp)
    have e1:(g :: l).drop 1=l:=rfl
    rw [e1] at c2
    obtain ⟨w4',k1,k2⟩:=h4.j3 he (d:=1) (ys:=[v']) (a:=(n,l)) ⟨v',rfl,c2⟩
    have e4:((n,g :: l) :: st').reverse.set st'.length (n,l)=((n,l) :: st').reverse:=by
     rw [List.reverse_cons,List.reverse_cons,List.set_append_right _ _ (by simp)]
     simp
    rw [e4] at k2
    have hMl:g.toNat < M.length:=by rw [hw.len]; exact hg.2
    have hMg:M[g.toNat]? = some M[g.toNat]:=EK hMl
    obtain ⟨em,hem,hRm⟩:=h3.pel hMg
    cases hRm
    have hgn:ak (I g)=some g.toNat:=pG hg.1 hgi
    have h3b:=h3.bnd
    have hvl:(g :: l).length=l.length + 1:=rfl
    have front:∀ {r:TV},(M[g.toNat]=false->aa prog 24 (Prg.nat (slLen w3) fun n50=>Prg.nat (ak (nth TV.hole [I g] 0)) fun n51=>Prg.chk (Bool.and (slSize w3 1) (Nat.blt n51 n50)) (Prg.tvs (pel w3 n51) fun e52=>Prg.chk (ab au e52 0) (Prg.tv (cj [] w3 n51 0 [TV.lit (Value.bool true)]) fun v53 =>
      Prg.call 48 [t9 (nth TV.hole [I g] 0),TV.agg [I f.params,I f.regs,b]] fun v54=>Prg.chk (ab zSl [v54] 0) (Prg.rws (pelems 2 (TV.sl true 2 (chunks 2 1 [nth TV.hole [I g] 0,v54]))) fun r55=>Prg.tv (papp 2 w4' r55) fun v56=>Prg.jmp [0,0,1,1,0,0,1,1,0,0,1,0,1,1,12,0,1,1] (f24_2_S (I ((1:Nat):Int)) (I ((0:Nat):Int)) w2 (I f.params) (I f.regs) b v53 (dF v56) w5))))) r) ->
      (M[g.toNat]=true->aa prog 24 (Prg.jmp [0,0,1,1,0,0,1,1,0,0,1,0,1,1,12,0,1,1] (f24_2_S (I ((1:Nat):Int)) (I ((0:Nat):Int)) w2 (I f.params) (I f.regs) b w3 (dF w4') w5)) r)->aa prog 24 (f24_2 (I ((1:Nat):Int)) (I ((0:Nat):Int)) w2 (I f.params) (I f.regs) b w3 w4 w5) r:=fun {r} k0 k9=>by
     unfold f24_2
     refine aa.tv h4.len (aa.tv rfl (aa.ite (v:=true) hgtr (fun _=>?_) nofun))
     refine aa.tv h4.len (aa.tv hsub (aa.nat h4.slLen (aa.nat hnat (aa.chk hchk (aa.tvs he (aa.chk hfit1 (aa.tv hgp (aa.tv hv.len (aa.tv rfl (aa.ite (v:=false) (by simp [asBool]; omega) nofun fun _=>?_))))))))))
     refine aa.tvs he (aa.chk hfit1 (aa.tv hgp (aa.nat hv.slLen (aa.nat (v:=0) rfl (aa.chk ?_ (aa.tv hgp (aa.tvs heg (aa.chk rfl ?_))))))))
     ·rw [hv.slSize]; simp
     refine aa.tvs he (aa.chk hfit1 (aa.tv hgp (aa.nat hv.slLen (aa.nat (v:=1) rfl (aa.chk ?_ (aa.tv hgp (aa.tv c1 (aa.chk c2.ii ?_))))))))
     ·rw [hv.slSize]; simp
     refine aa.tvs he (aa.chk ?_ (aa.tv k1 (aa.nat h3.slLen (aa.nat hgn (aa.chk ?_ (aa.tvs hem (aa.chk rfl (aa.tv rfl (aa.ite rfl (fun h=>k0 ?_) fun h=>k9 ?_)))))))))
     ·rw [hfit2,je c2.isSl]; rfl
     ·rw [h3.slSize]; simpa using hMl
     ·simpa using h
     ·simpa using h
    cases hm:M[g.toNat] with
    | true =>
     obtain ⟨y,M',o',hy,hr,hD⟩:=ih M ((n,l) :: st') o w3 (dF w4') w5 (by simp [work] at hd ⊢; omega) hw.skip h3 k2.cooled h5
     exact ⟨y,M',o',front (fun h=>by rw [hm] at h; cases h) (fun _=>f24_2_J hy),hr,.skip (by rw [hMg,hm]) hD⟩
    | false =>
     rw [hm] at hMg
     obtain ⟨w3',c3,c4⟩:=h3.j3 hem (d:=0) (ys:=[B true]) (a:=true) rfl
     obtain ⟨vn,c5,c6⟩:=zd hf g
     have e6:jS f.blocks g=bE f.blocks g.toNat:=by rw [jS,if_pos hg.1]
     rw [e6] at c6
     have hgg:((g.toNat:Nat):Int)=g:=by omega
     obtain ⟨w4'',c7,c8⟩:=(RL.app (R:=RV none) (k2.toN) (e:=[I g,vn]) (a:=(g.toNat,bE f.blocks g.toNat)) ⟨vn,by rw [hgg],c6.weak fun _ _ h=>h⟩ (by simp; omega))
     obtain ⟨y,M',o',hy,hr,hD⟩:=ih (M.set g.toNat true) ((g.toNat,bE f.blocks g.toNat) :: (n,l) :: st') o w3' (dF w4'') w5 (by
      have h1:=count_set hMg
      have h2:=yM f.blocks g.toNat
      simp only [work,List.map_cons,List.sum_cons,List.length_cons] at hd ⊢
      omega) (hw.enter hMg) c4 (by rw [List.reverse_cons]; exact c8.cooled) h5
     refine ⟨y,M',o',front (fun _=>?_) (fun h=>by rw [hm] at h; cases h),hr,.enter hMg hD⟩
     refine aa.nat h3.slLen (aa.nat hgn (aa.chk ?_ (aa.tvs hem (aa.chk rfl (aa.tv c3 (aa.call c5 (aa.chk (je c6.isSl) (aa.rws rfl (aa.tv c7 (f24_2_J hy))))))))))
     rw [h3.slSize]; simpa using hMl
end
theorem r80 {q:Option Bool} {e:List TV} {f:DFunc} (he:RFunc q e f) (hs:f.blocks.length<=1000):∃ y o,ao prog 24 [.agg e] y/\RInts (some true) y o/\xW f.blocks o:=by
 have he0:=he
 obtain ⟨b,rfl,hb,_⟩:=he
 by_cases h0:f.blocks=[]
 ·refine ⟨.lit aI,[],?_,.nil,.inl ⟨h0,rfl⟩⟩
  refine ao.of (f24_MR _) ?_
  unfold f24_M
  exact aa.chk rfl (aa.tv hb.len (aa.tv rfl (aa.ite (v:=true) (by simp [asBool,h0]) (fun _=>aa.chk rfl aa.ret) nofun)))
 ·have hl:0 < f.blocks.length:=List.length_pos_iff.2 h0
  have hrep:RBools (some true) (.sl true 1 (List.replicate f.blocks.length [B false])) (List.replicate f.blocks.length false):=.sl (by simp) (F2.tF (by simp) fun i e a he ha=>by
   rw [List.getElem?_replicate] at he ha
   split at he
   ·rename_i h; rw [if_pos h] at ha; cases he; cases ha; rfl
   ·cases he) (by simp; omega)
  obtain ⟨e7,he7,hR⟩:=hrep.pel (i:=0) (a:=false) (by rw [List.getElem?_replicate,if_pos hl])
  cases hR
  obtain ⟨w3,c1,c2⟩:=hrep.j3 he7 (d:=0) (ys:=[B true]) (a:=true) rfl
  obtain ⟨v,c3,c4⟩:=zd he0 ((0:Nat):Int)
  rw [uu] at c4
  have h2:RInts (some true) (.sl true 1 [[I ((0:Nat):Int)]]) [0]:=.sl (by simp) (.cons ⟨rfl,by constructor <;> decide⟩ .nil) (by decide)
  obtain ⟨w4,c5,c6⟩:=(RL.nil:RL (some true) 2 (RV none) (.lit aI) []).app (e:=[I ((0:Nat):Int),v]) (a:=(0,bE f.blocks 0)) ⟨v,rfl,c4.weak fun _ _ h=>h⟩ (by simp)
  have hw:WOk f.blocks ((List.replicate f.blocks.length false).set 0 true) [(0,bE f.blocks 0)] []:=⟨by simp,fun p hp=>by
   rw [List.mem_singleton] at hp
   subst hp
   exact ⟨hl,fun g hg=>fM hg⟩,by rw [tV (by rw [List.getElem?_replicate,if_pos hl])]; simp⟩
  obtain ⟨y,M',o',hy,hr,hD⟩:=AM he0 hs h2 _ _ _ [] w3 (dF w4) (.lit aI) (Nat.lt_succ_self _) hw c2 c6.cooled .nil
  refine ⟨y,o',?_,hr,.inr ⟨h0,M',hD⟩⟩
  have hn:ak (I (f.blocks.length:Nat))=some f.blocks.length:=cw (by omega)
  refine ao.of (f24_MR _) ?_
  unfold f24_M
  have hk:Nat.ble f.blocks.length 4294967296=true:=by simp; omega
  refine aa.chk rfl (aa.tv hb.len (aa.tv rfl (aa.ite (v:=false) (by simp [asBool]; omega) nofun fun _=>?_)))
  refine aa.tv hb.len (aa.nat hn (aa.nat hn (aa.chk (by simp [hk]) (aa.chk rfl (aa.chk rfl (f24_0_J ?_))))))
  unfold f24_0
  refine aa.tv h2.len (f24_1_J ?_)
  unfold f24_1
  have hck:(Bool.and (slSize (.sl true 1 (List.replicate f.blocks.length [B false])) 1) (Nat.blt 0 (List.replicate f.blocks.length false).length))=true:=by rw [hrep.slSize]; simpa using hl
  refine aa.tv rfl (aa.ite (v:=true) rfl (fun _=>?_) nofun)
  refine aa.nat h2.slLen (aa.nat (v:=0) rfl (aa.chk rfl (aa.tvs (v:=[I ((0:Nat):Int)]) rfl (aa.chk rfl ?_))))
  refine aa.nat hrep.slLen (aa.nat (v:=0) rfl (aa.chk hck (aa.tvs he7 (aa.chk rfl (aa.tv rfl (aa.ite (v:=true) rfl (fun _=>?_) nofun))))))
  refine aa.nat hrep.slLen (aa.nat (v:=0) rfl (aa.chk hck (aa.tvs he7 (aa.chk rfl (aa.tv c1 ?_)))))
  exact aa.call c3 (aa.chk (je c4.isSl) (aa.rws rfl (aa.tv c5 (f24_2_J hy))))
end Go.Ab.Q12
end
section
set_option maxRecDepth 10000
namespace Go.Ab
inductive Rc (bs:List DBlock) (no:Int):Nat->Prop
 | start (h:no≠0) (h0:0 < bs.length):Rc bs no 0
 | next {i:Nat} {g:Int} (hi:Rc bs no i) (hg:g ∈ bE bs i) (hn:g≠no):Rc bs no g.toNat
def zB (bs:List DBlock) (no:Int) (M:List Bool):Prop:=M.length=bs.length/\∀ i:Nat,M[i]? = some true ↔ Rc bs no i
theorem Rc.lt {bs:List DBlock} {no:Int} {i:Nat} (h:Rc bs no i):i < bs.length:=by
 cases h with
 | start _ h0=>exact h0
 | next _ hg _=>exact (fM hg).2
def Ckd (bs:List DBlock) (no:Int) (M:List Bool) (k:Nat):Prop:=∀ i:Nat,i < k->M[i]? = some true->∀ g ∈ bE bs i,g≠no->M[g.toNat]? = some true
def SndR (bs:List DBlock) (no:Int) (M:List Bool):Prop:=∀ i:Nat,M[i]? = some true->Rc bs no i
theorem Cm {bs:List DBlock} {no:Int} {M:List Bool} (hl:M.length=bs.length) (h1:SndR bs no M) (h2:no≠0->0 < bs.length->M[0]? = some true) (h3:Ckd bs no M bs.length):zB bs no M:=by
 refine ⟨hl,fun i=>⟨h1 i,fun h=>?_⟩⟩
 induction h with
 | start h h0=>exact h2 h h0
 | next hi hg hn ih=>exact h3 _ hi.lt ih _ hg hn
theorem rK {M:List Bool} {g i:Nat} (h:M[i]? = some true):(M.set g true)[i]? = some true:=by
 rw [List.getElem?_set]
 split
 ·rename_i e
  subst e
  have:=(EJ.1 h).1
  simp [this]
 ·exact h
theorem AW {n:Nat} (h:n<=9223372036854775807):RBools (some true) (.sl true 1 (List.replicate n [B false])) (List.replicate n false):=.sl (by simp) (F2.tF (by simp) fun i e a he ha=>by
 rw [List.getElem?_replicate] at he ha
 split at he
 ·rename_i h; rw [if_pos h] at ha; cases he; cases ha; rfl
 ·cases he) (by simpa using h)
end Go.Ab
namespace Go.Ab.Q12
open Go Go.Ab Go.Proofs
section
variable {q:Option Bool} {b:TV} {f:DFunc} (hf:RFunc q [I f.params,I f.regs,b] f) (hs:f.blocks.length<=1000) {no:Int}
include hs
include hf
end
end Go.Ab.Q12
end
section
set_option maxRecDepth 10000
namespace Go.Ab
def LedO (bs:List DBlock) (S:Nat->Prop) (o:List Int):Prop:=∀ (A:List Int) (x:Int) (B:List Int),o=A ++ x :: B->x=0\/∃ p:Nat,x ∈ bE bs p/\((p:Int) ∈ A\/S p)
def Chain (bs:List DBlock):List (Nat × List Int)->Prop
 | []=>True
 | [p]=>p.1=0
 | p :: r :: l=>(p.1:Int) ∈ bE bs r.1/\Chain bs (r :: l)
structure DI (bs:List DBlock) (M:List Bool) (st:List (Nat × List Int)) (o:List Int):Prop where
 len:M.length=bs.length
 at_:∀ p ∈ st,p.1 < bs.length/\∀ g ∈ p.2,g ∈ bE bs p.1
 mem:∀ i:Nat,M[i]? = some true ↔ (∃ p ∈ st,p.1=i)\/(i:Int) ∈ o
 nod:(o ++ st.map fun p=>(p.1:Int)).Nodup
 out:∀ x ∈ o,0<=x/\∀ g ∈ bE bs x.toNat,M[g.toNat]? = some true
 todo:∀ p ∈ st,∀ g ∈ bE bs p.1,g ∈ p.2\/M[g.toNat]? = some true
 snd:SndR bs (-1) M
 led:LedO bs (fun p=>∃ r ∈ st,r.1=p) o
 chain:Chain bs st
 last:st=[]->o.head? = some 0
theorem nn {g:Int} (h:0<=g):((g.toNat:Nat):Int)=g:=by omega
theorem DI.leave {bs:List DBlock} {M:List Bool} {n:Nat} {st:List (Nat × List Int)} {o:List Int} (h:DI bs M ((n,[]) :: st) o):DI bs M st ((n:Int) :: o):=by
 refine ⟨h.len,fun p hp=>h.at_ p (ER _ hp),fun i=>?_,?_,fun x hx=>?_,fun p hp=>h.todo p (ER _ hp),h.snd,?_,?_,fun hst=>?_⟩
 ·rw [h.mem i]
  constructor
  ·rintro (⟨p,hp,rfl⟩ | hi)
   ·rcases List.mem_cons.1 hp with rfl | hp
    ·exact .inr EQ
    ·exact .inl ⟨p,hp,rfl⟩
   ·exact .inr (ER _ hi)
  ·rintro (⟨p,hp,rfl⟩ | hi)
   ·exact .inl ⟨p,ER _ hp,rfl⟩
   ·rcases List.mem_cons.1 hi with hi | hi
    ·exact .inl ⟨(n,[]),EQ,by omega⟩
    ·exact .inr hi
 ·have:=h.nod
  rw [List.map_cons] at this
  exact List.perm_middle.nodup_iff.1 this
 ·rcases List.mem_cons.1 hx with rfl | hx
  ·refine ⟨by omega,fun g hg=>?_⟩
   rcases h.todo (n,[]) EQ g hg with h1 | h1
   ·cases h1
   ·exact h1
  ·exact h.out x hx
 ·intro A x B e
  cases A with
  | nil =>
   simp only [List.nil_append,List.cons.injEq] at e
   obtain ⟨rfl,_⟩:=e
   cases st with
   | nil=>left; have:=h.chain; simp only [Chain] at this; omega
   | cons r l=>right; exact ⟨r.1,h.chain.1,.inr ⟨r,EQ,rfl⟩⟩
  | cons a A =>
   simp only [List.cons_append,List.cons.injEq] at e
   obtain ⟨rfl,e⟩:=e
   rcases h.led A x B e with h1 | ⟨p,h1,h2⟩
   ·exact .inl h1
   ·refine .inr ⟨p,h1,?_⟩
    rcases h2 with h2 | ⟨r,hr,rfl⟩
    ·exact .inl (ER _ h2)
    ·rcases List.mem_cons.1 hr with rfl | hr
     ·exact .inl EQ
     ·exact .inr ⟨r,hr,rfl⟩
 ·have:=h.chain
  cases st with
  | nil=>trivial
  | cons r l=>exact this.2
 ·subst hst
  have:=h.chain
  simp only [Chain] at this
  subst this
  rfl
theorem DI.skip {bs:List DBlock} {M:List Bool} {n:Nat} {g:Int} {l:List Int} {st:List (Nat × List Int)} {o:List Int} (h:DI bs M ((n,g :: l) :: st) o) (hg:M[g.toNat]? = some true):DI bs M ((n,l) :: st) o:=by
 refine ⟨h.len,fun p hp=>?_,fun i=>?_,h.nod,h.out,fun p hp g' hg'=>?_,h.snd,fun A x B e=>?_,?_,fun hst=>(by cases hst)⟩
 ·rcases List.mem_cons.1 hp with rfl | hp
  ·exact ⟨(h.at_ _ EQ).1,fun g' hg'=>(h.at_ (n,g :: l) EQ).2 g' (ER _ hg')⟩
  ·exact h.at_ p (ER _ hp)
 ·rw [h.mem i]
  simp
 ·rcases List.mem_cons.1 hp with rfl | hp
  ·rcases h.todo (n,g :: l) EQ g' hg' with h1 | h1
   ·rcases List.mem_cons.1 h1 with rfl | h1
    ·exact .inr hg
    ·exact .inl h1
   ·exact .inr h1
  ·exact h.todo p (ER _ hp) g' hg'
 ·rcases h.led A x B e with h1 | ⟨p,h1,h2⟩
  ·exact .inl h1
  ·refine .inr ⟨p,h1,h2.imp id ?_⟩
   rintro ⟨r,hr,rfl⟩
   rcases List.mem_cons.1 hr with rfl | hr
   ·exact ⟨(n,l),EQ,rfl⟩
   ·exact ⟨r,ER _ hr,rfl⟩
 ·have:=h.chain
  cases st with
  | nil=>exact this
  | cons r l=>exact this
theorem DI.enter {bs:List DBlock} {M:List Bool} {n:Nat} {g:Int} {l:List Int} {st:List (Nat × List Int)} {o:List Int} (h:DI bs M ((n,g :: l) :: st) o) (hg:M[g.toNat]? = some false):DI bs (M.set g.toNat true) ((g.toNat,bE bs g.toNat) :: (n,l) :: st) o:=by
 have hgm:=(h.at_ (n,g :: l) EQ).2 g EQ
 have hgt:=fM hgm
 have hlt:=(EJ.1 hg).1
 have hgc:=nn hgt.1
 have hnM:∀ i:Nat,M[i]? = some true->i≠g.toNat:=fun i hi e=>by rw [e,hg] at hi; cases hi
 refine ⟨by rw [List.length_set]; exact h.len,fun p hp=>?_,fun i=>?_,?_,fun x hx=>⟨(h.out x hx).1,fun g' hg'=>rK ((h.out x hx).2 g' hg')⟩,fun p hp g' hg'=>?_,fun i hi=>?_,fun A x B e=>?_,?_,fun hst=>(by cases hst)⟩
 ·rcases List.mem_cons.1 hp with rfl | hp
  ·exact ⟨hgt.2,fun g' hg'=>hg'⟩
  ·rcases List.mem_cons.1 hp with rfl | hp
   ·exact ⟨(h.at_ _ EQ).1,fun g' hg'=>(h.at_ (n,g :: l) EQ).2 g' (ER _ hg')⟩
   ·exact h.at_ p (ER _ hp)
 ·rw [lV hlt,h.mem i]
  simp only [List.mem_cons,exists_eq_or_imp]
  constructor
  ·rintro (rfl | h1)
   ·exact .inl (.inl rfl)
   ·rcases h1 with h1 | h1
    ·exact .inl (.inr h1)
    ·exact .inr h1
  ·rintro ((h1 | h1) | h1)
   ·exact .inl h1.symm
   ·exact .inr (.inl h1)
   ·exact .inr (.inr h1)
 ·have h1:=h.nod
  rw [List.map_cons] at h1 ⊢
  rw [List.perm_middle.nodup_iff,List.nodup_cons]
  refine ⟨fun hin=>?_,by rw [List.map_cons]; exact h1⟩
  have:M[g.toNat]? = some true:=by
   rw [h.mem]
   rcases List.mem_append.1 hin with hin | hin
   ·exact .inr hin
   ·obtain ⟨p,hp,he⟩:=List.mem_map.1 hin
    have he:p.1=g.toNat:=by omega
    rcases List.mem_cons.1 hp with rfl | hp
    ·exact .inl ⟨(n,g :: l),EQ,he⟩
    ·exact .inl ⟨p,ER _ hp,he⟩
  rw [hg] at this
  cases this
 ·rcases List.mem_cons.1 hp with rfl | hp
  ·exact .inl hg'
  ·rcases List.mem_cons.1 hp with rfl | hp
   ·rcases h.todo (n,g :: l) EQ g' hg' with h1 | h1
    ·rcases List.mem_cons.1 h1 with rfl | h1
     ·exact .inr ((lV hlt).2 (.inl rfl))
     ·exact .inl h1
    ·exact .inr (rK h1)
   ·exact (h.todo p (ER _ hp) g' hg').imp id rK
 ·rcases (lV hlt).1 hi with rfl | h1
  ·have hn:M[n]? = some true:=(h.mem n).2 (.inl ⟨(n,g :: l),EQ,rfl⟩)
   exact .next (h.snd n hn) hgm (by omega)
  ·exact h.snd i h1
 ·rcases h.led A x B e with h1 | ⟨p,h1,h2⟩
  ·exact .inl h1
  ·refine .inr ⟨p,h1,h2.imp id ?_⟩
   rintro ⟨r,hr,rfl⟩
   rcases List.mem_cons.1 hr with rfl | hr
   ·exact ⟨(n,l),ER _ EQ,rfl⟩
   ·exact ⟨r,ER _ (ER _ hr),rfl⟩
 ·have:=h.chain
  refine ⟨by rw [hgc]; exact hgm,?_⟩
  cases st with
  | nil=>exact this
  | cons r l=>exact this
theorem Dfs.keeps {bs:List DBlock} {M M':List Bool} {st:List (Nat × List Int)} {o o':List Int} (h:Dfs bs M st o M' o'):DI bs M st o->DI bs M' [] o':=by
 induction h with
 | done=>exact fun h=>h
 | leave _ ih=>exact fun h=>ih h.leave
 | skip hg _ ih=>exact fun h=>ih (h.skip hg)
 | enter hg _ ih=>exact fun h=>ih (h.enter hg)
theorem DI.start {bs:List DBlock} (h:bs≠[]):DI bs ((List.replicate bs.length false).set 0 true) [(0,bE bs 0)] []:=by
 have hl:0 < bs.length:=List.length_pos_iff.2 h
 have hlr:0 < (List.replicate bs.length false).length:=by simpa using hl
 have none_:∀ i:Nat,¬ (List.replicate bs.length false)[i]? = some true:=fun i h=>by
  rw [List.getElem?_replicate] at h
  split at h <;> cases h
 refine ⟨by simp,fun p hp=>?_,fun i=>?_,by simp,fun x hx=>(by cases hx),fun p hp g hg=>?_,fun i hi=>?_,fun A x B e=>(by simp at e),rfl,fun hst=>(by cases hst)⟩
 ·rw [List.mem_singleton] at hp
  subst hp
  exact ⟨hl,fun g hg=>hg⟩
 ·rw [lV hlr]
  simp only [List.mem_singleton,exists_eq_left,List.not_mem_nil,or_false]
  constructor
  ·rintro (rfl | h)
   ·rfl
   ·exact absurd h (none_ i)
  ·rintro rfl
   exact .inl rfl
 ·rw [List.mem_singleton] at hp
  subst hp
  exact .inl hg
 ·rcases (lV hlr).1 hi with rfl | h
  ·exact .start (by omega) hl
  ·exact absurd h (none_ i)
structure OI (bs:List DBlock) (o:List Int):Prop where
 mem:∀ i:Nat,(i:Int) ∈ o ↔ Rc bs (-1) i
 pos:∀ x ∈ o,0<=x/\x < (bs.length:Int)
 nod:o.Nodup
 led:∀ (A:List Int) (x:Int) (B:List Int),o=A ++ x :: B->x=0\/∃ p:Nat,x ∈ bE bs p/\(p:Int) ∈ A
 first:bs≠[]->o.head? = some 0
theorem xW.keeps {bs:List DBlock} {o:List Int} (h:xW bs o):OI bs o:=by
 rcases h with ⟨rfl,rfl⟩ | ⟨h0,M',hD⟩
 ·refine ⟨fun i=>⟨fun h=>(by cases h),fun h=>absurd h.lt (by simp)⟩,fun x hx=>(by cases hx),List.nodup_nil,fun A x B e=>(by simp at e),fun h=>absurd rfl h⟩
 ·have h:=hD.keeps (DI.start h0)
  have hmem:∀ i:Nat,M'[i]? = some true ↔ (i:Int) ∈ o:=fun i=>by rw [h.mem i]; simp
  have hfull:zB bs (-1) M':=by
   have hhd:=h.last rfl
   have h0o:(0:Int) ∈ o:=by
    cases o with
    | nil=>cases hhd
    | cons a o=>simp only [List.head?_cons,EL] at hhd; subst hhd; exact EQ
   refine Cm h.len h.snd (fun _ _=>(hmem 0).2 h0o) (fun i _ hi g hg _=>?_)
   have:=(h.out i ((hmem i).1 hi)).2 g (by simpa using hg)
   exact this
  refine ⟨fun i=>by rw [<- hmem i]; exact hfull.2 i,fun x hx=>?_,by have:=h.nod; simpa using this,fun A x B e=>?_,fun _=>h.last rfl⟩
  ·have hx0:=(h.out x hx).1
   have:Rc bs (-1) x.toNat:=(hfull.2 _).1 ((hmem _).2 (by rw [nn hx0]; exact hx))
   have:=this.lt
   omega
  ·rcases h.led A x B e with h1 | ⟨p,h1,h2⟩
   ·exact .inl h1
   ·refine .inr ⟨p,h1,?_⟩
    rcases h2 with h2 | ⟨r,hr,_⟩
    ·exact h2
    ·cases hr
end Go.Ab
namespace Go.Ab.Q12
open Go Go.Ab Go.Proofs
theorem r85 {q:Option Bool} {e:List TV} {f:DFunc} (he:RFunc q e f) (hs:f.blocks.length<=1000):∃ y M,ao prog 22 [.agg e] y/\RBools (some true) y M/\zB f.blocks (-1) M:=by
 obtain ⟨v,o,hv,hvr,hO⟩:=r80 he hs
 obtain ⟨b,rfl,hb,_⟩:=he
 have hI:=hO.keeps
 have hvb:=hvr.bnd
 have loop:∀ (d k:Nat) (M:List Bool) (w:TV),k + d=o.length->RBools (some true) w M->M.length=f.blocks.length->(∀ i:Nat,M[i]? = some true ↔ (i:Int) ∈ o.take k)->∃ y M,aa prog 22 (f22_0 (I o.length) (I k) w v) y/\RBools (some true) y M/\zB f.blocks (-1) M:=by
  intro d
  induction d with
  | zero =>
   intro k M w hk hw hl hm
   have hk:k=o.length:=by omega
   subst hk
   rw [List.take_length] at hm
   refine ⟨w,M,?_,hw,hl,fun i=>by rw [hm i]; exact hI.mem i⟩
   unfold f22_0
   exact aa.tv rfl (aa.ite bL nofun fun _=>aa.ret)
  | succ d ih =>
   intro k M w hk hw hl hm
   have hkl:k < o.length:=by omega
   obtain ⟨x,hxx⟩:∃ x,x=o[k]:=⟨_,rfl⟩
   have hox:o[k]? = some x:=by rw [hxx]; exact EK hkl
   have hxo:=hI.pos x (ES hox)
   obtain ⟨e,he,rfl,hei⟩:=hvr.pel hox
   have hxl:x.toNat < M.length:=by omega
   obtain ⟨e2,he2,hR⟩:=hw.pel (EK hxl)
   cases hR
   obtain ⟨w',c1,c2⟩:=hw.j3 he2 (d:=0) (ys:=[B true]) (a:=true) rfl
   obtain ⟨y,M',hy,hr,hF⟩:=ih (k + 1) (M.set x.toNat true) w' (by omega) c2 (by rw [List.length_set]; exact hl) (fun i=>by
    rw [lV hxl,hm i,Bh hox,List.mem_append,List.mem_singleton]
    constructor
    ·rintro (rfl | h)
     ·exact .inr (nn hxo.1)
     ·exact .inl h
    ·rintro (h | h)
     ·exact .inr h
     ·exact .inl (by omega))
   refine ⟨y,M',?_,hr,hF⟩
   unfold f22_0
   refine aa.tv rfl (aa.ite (bv hkl) (fun _=>?_) nofun)
   refine aa.nat hvr.slLen (aa.nat (cw (by omega)) (aa.chk ?_ (aa.tvs he (aa.chk rfl (aa.nat hw.slLen (aa.nat (pG hxo.1 hei) (aa.chk ?_ (aa.tvs he2 (aa.chk rfl (aa.tv c1 (aa.tv (inc hkl hvb) (f22_0_J hy))))))))))))
   ·rw [hvr.slSize]; simpa using hkl
   ·rw [hw.slSize]; simpa using hxl
 obtain ⟨y,M,hy,hr,hF⟩:=loop o.length 0 _ _ (by omega) (AW (n:=f.blocks.length) (by omega)) (by simp) (fun i=>by
  rw [List.getElem?_replicate]
  simp)
 refine ⟨y,M,?_,hr,hF⟩
 have hn:ak (I (f.blocks.length:Nat))=some f.blocks.length:=cw (by omega)
 refine ao.of (f22_MR _) ?_
 unfold f22_M
 refine aa.chk rfl (aa.tv hb.len (aa.nat hn (aa.nat hn (aa.chk ?_ (aa.call hv (aa.chk (je hvr.isSl) (aa.tv hvr.len (f22_0_J hy))))))))
 have:Nat.ble f.blocks.length 4294967296=true:=by simp; omega
 simp [this]
end Go.Ab.Q12
end
section
set_option maxRecDepth 100000
namespace Go.Ab.Q12
open Go Go.Ab Go.Proofs
theorem DQ:ao prog 15 [] (B true):=⟨40,by kernel_rfl⟩
end Go.Ab.Q12
end
section
set_option maxRecDepth 10000
namespace Go.Ab
structure DFrame where
 f:Int
 block:Int
 at_:Int
 regs:List Int
 fly:Int
def DFrame.ok (x:DFrame):Prop:=inI x.f/\inI x.block/\inI x.at_/\inW x.fly
def RFrame (q:Option Bool) (e:List TV) (x:DFrame):Prop:=∃ g,e=[I x.f,I x.block,I x.at_,g,W x.fly]/\RWords q g x.regs/\x.ok
theorem RFrame.weak {q:Option Bool} {e:List TV} {x:DFrame} (h:RFrame q e x):RFrame none e x:=by
 obtain ⟨g,rfl,hg,ho⟩:=h
 exact ⟨g,rfl,hg.weak fun _ _ h=>h,ho⟩
theorem RFrame.frz {q:Option Bool} {e:List TV} {x:DFrame} (h:RFrame q e x):RFrame (some false) (nX e) x:=by
 obtain ⟨g,rfl,hg,ho⟩:=h
 exact ⟨Go.Ab.frz g,rfl,hg.frz fun _ _ h=>h.frz,ho⟩
theorem RFrame.own {e:List TV} {x:DFrame} (h:RFrame (some true) e x):bn e=true:=by
 obtain ⟨g,rfl,hg,_⟩:=h
 simp [bn,isOwn,hg.own fun _ _ h=>h.own]
theorem jC {a b:DFrame}:a=b ↔ a.f=b.f/\a.block=b.block/\a.at_=b.at_/\a.regs=b.regs/\a.fly=b.fly:=by
 cases a; cases b; simp
theorem Ed (n:Int):IntKind.u16.wrap n=n % 65536:=by simp [IntKind.wrap,IntKind.bits,IntKind.signed]
theorem C0 (n:Int):inW (IntKind.u16.wrap n):=by rw [Ed]; constructor <;> omega
theorem wrap_i64 (n:Int):inI (IntKind.i64.wrap n):=by rw [IntKind.wrap_i64]; constructor <;> omega
def doW (op a b:Int):Option Int :=
 if op=2 then some a else if op=3 then some (IntKind.u16.wrap (a + b)) else if op=4 then some (IntKind.u16.wrap (a - b)) else if op=5 then some (IntKind.u16.wrap (a * b)) else
 if op=6 then (if b=0 then none else some (IntKind.u16.wrap (a.tdiv b))) else if op=7 then some (if a=b then 1 else 0) else if op=8 then some (if a < b then 1 else 0) else none
theorem By {op a b v:Int} (ha:inW a) (h:doW op a b=some v):inW v:=by
 have h0:inW 0:=⟨by decide,by decide⟩
 have h1:inW 1:=⟨by decide,by decide⟩
 unfold doW at h
 repeat' split at h
 all_goals first | (cases h; done) | (cases h; first | exact ha | exact C0 _ | exact h0 | exact h1 | (split <;> assumption))
def yA:Option Int->TV
 | some v=>.tup [W v,B true]
 | none=>.tup [W 0,B false]
def od (l:List Int) (n:Int):Option Int:=if 0<=n then l[n.toNat]? else none
def en (l:List Int) (x:DIns):Option Int :=
 if x.op=1 then some x.k else (od l x.a).bind fun a=>if 3<=x.op/\x.op<=8 then (od l x.b).bind fun b=>doW x.op a b else doW x.op a 0
def df (f:DFrame) (x:DIns):DFrame × Bool :=
 match en f.regs x with
 | none=>(f,false)
 | some w=>if 0<=x.dst/\x.dst < f.regs.length then ({ f with regs:=f.regs.set x.dst.toNat w,at_:=IntKind.i64.wrap (f.at_ + 1) },true) else (f,false)
theorem bu {l:List Int} {n:Int} (h:within n l.length):∃ a,l[n.toNat]? = some a/\n.toNat < l.length:=by
 have:n.toNat < l.length:=by have:=h.1; have:=h.2; omega
 exact ⟨_,EK this,this⟩
theorem kG {l:List Int} {n a:Int} (h0:0<=n) (h:l[n.toNat]? = some a):od l n=some a:=by simp [od,h0,h]
theorem tw {l:List Int} {n:Int} (h:¬ within n l.length):od l n=none:=by
 unfold od
 split
 ·rename_i h0
  exact EV (by have:¬ n < l.length:=fun h1=>h ⟨h0,h1⟩; omega)
 ·rfl
section
variable {q:Option Bool} {v:TV} {l:List Int}
theorem RWords.at_ (h:RWords q v l) {k:IntKind} {n a:Int} (h0:0<=n) (hn:l[n.toNat]? = some a):pidx 1 v (.lit (.int k n))=some [W a]/\inW a:=by
 obtain ⟨e,he,rfl,hw⟩:=h.bW (k:=k) h0 hn
 exact ⟨he,hw⟩
theorem RWords.mem (h:RWords q v l) {n:Nat} {a:Int} (hn:l[n]? = some a):inW a:=(RWords.at_ h (k:=.i64) (n:=(n:Int)) (by omega) (by simpa using hn)).2
theorem RWords.put (h:RWords (some true) v l) {n:Nat} {w:Int} (hn:n < l.length) (hw:inW w):∃ a v',pel v n=some [W a]/\cj [] v n 0 [W w]=some v'/\RWords (some true) v' (l.set n w):=by
 have hi:l[n]? = some l[n]:=EK hn
 have hp:=h.toRP (R:=fun _ e a=>RW1 e a) fun _ _ _ h=>h
 obtain ⟨e,he,⟨rfl,_⟩,_,hset⟩:=hp.row hi
 exact ⟨_,_,he,hset 0 _,(hp.setTo hi (b:=w) (S:=fun _ e a=>RW1 e a) ⟨rfl,hw⟩ fun _ _ _ _ h=>h).toRL fun _ _ _ _ h=>h⟩
theorem RWords.isOwn (h:RWords (some true) v l):Go.Ab.isOwn v=true:=RL.own h fun _ _ h=>h.own
end
theorem RL.app1 {α:Type} {s:Nat} {R:List TV->α->Prop} {y:TV} {l:List α} (hy:RL (some true) s R y l) {e:List TV} {a:α} (hR:R e a) (hl:l.length + 1<=4294967296):∃ y',papp s y [e]=some y'/\RL (some true) s R y' (l ++ [a]):=by
 rcases hy with ⟨rfl,rfl⟩ | ⟨o,xs,rfl,hq,h,hb⟩
 ·refine ⟨.sl true s [e],by simp [papp,aI,room,Cs],.sl (by simp) (.cons hR .nil) (by simp)⟩
 ·have hlen:=h.length
  rw [hq true rfl]
  refine ⟨.sl true s (xs ++ [e]),?_,.sl (by simp) (h.append (.cons hR .nil)) (by simp; omega)⟩
  simp [papp,room]; omega
end Go.Ab
namespace Go.Ab.Q12
open Go Go.Ab Go.Proofs
theorem rQuot0 {a b:Int} (h:b=0):ao prog 121 [W a,W b] (.tup [W 0,B false]):=by
 refine ao.of (f121_MR _ _) ?_
 unfold f121_M
 repeat' (first
  | refine aa.chk rfl ?_
  | refine aa.tv rfl ?_
  | refine aa.tv (RL.len (by assumption)) ?_
  | refine aa.nat rfl ?_
  | refine aa.ite rfl (fun _=>?_) (fun _=>?_)
  | refine aa.call (by assumption) ?_
  | refine aa.tvs (by assumption) ?_)
 ·exact aa.ret
 ·rename_i h'; simp [h] at h'
theorem rQuot {a b:Int} (h:¬ b=0):ao prog 121 [W a,W b] (.tup [W (IntKind.u16.wrap (a.tdiv b)),B true]):=by
 refine ao.of (f121_MR _ _) ?_
 unfold f121_M
 refine aa.tv rfl (aa.ite rfl (fun h'=>?_) fun _=>?_)
 ·simp at h'; exact absurd h' h
 ·exact aa.tv (by simp only [pbin,oS,if_true,if_neg h]) aa.ret
theorem Bq (b:Bool):ao prog 122 [B b] (W (if b then 1 else 0)):=by
  cases b
  · refine ao.of (f122_MR _) ?_
    unfold f122_M
    repeat' (first
      | refine aa.chk rfl ?_
      | refine aa.tv rfl ?_
      | refine aa.tv (RL.len (by assumption)) ?_
      | refine aa.nat rfl ?_
      | refine aa.ite (v:=true) rfl (fun _=>?_) nofun
      | refine aa.ite (v:=false) rfl nofun (fun _=>?_)
      | refine aa.ite rfl (fun _=>?_) (fun _=>?_)
      | refine aa.call (by assumption) ?_
      | refine aa.tvs (by assumption) ?_
       )
    exact aa.ret
  · refine ao.of (f122_MR _) ?_
    unfold f122_M
    repeat' (first
      | refine aa.chk rfl ?_
      | refine aa.tv rfl ?_
      | refine aa.tv (RL.len (by assumption)) ?_
      | refine aa.nat rfl ?_
      | refine aa.ite (v:=true) rfl (fun _=>?_) nofun
      | refine aa.ite (v:=false) rfl nofun (fun _=>?_)
      | refine aa.ite rfl (fun _=>?_) (fun _=>?_)
      | refine aa.call (by assumption) ?_
      | refine aa.tvs (by assumption) ?_
       )
    exact aa.ret
theorem rDo (op a b:Int):ao prog 113 [I op,W a,W b] (yA (doW op a b)):=by
 by_cases hb:b=0
 ·have hq:=rQuot0 (a:=a) hb
  refine ao.of (f113_MR _ _ _) ?_
  unfold f113_M
  repeat' (first
   | refine aa.chk rfl ?_
   | refine aa.tv rfl ?_
   | refine aa.tv (RL.len (by assumption)) ?_
   | refine aa.nat rfl ?_
   | refine aa.ite (v:=true) rfl (fun _=>?_) nofun
   | refine aa.ite (v:=false) rfl nofun (fun _=>?_)
   | refine aa.ite rfl (fun _=>?_) (fun _=>?_)
   | refine aa.call (by assumption) ?_
   | refine aa.tvs (by assumption) ?_
   | refine aa.call (Bq _) ?_)
  all_goals (refine dl.2 ?_; simp_all [doW,yA,TV.comp,nth])
 ·have hq:=rQuot (a:=a) hb
  refine ao.of (f113_MR _ _ _) ?_
  unfold f113_M
  repeat' (first
   | refine aa.chk rfl ?_
   | refine aa.tv rfl ?_
   | refine aa.tv (RL.len (by assumption)) ?_
   | refine aa.nat rfl ?_
   | refine aa.ite (v:=true) rfl (fun _=>?_) nofun
   | refine aa.ite (v:=false) rfl nofun (fun _=>?_)
   | refine aa.ite rfl (fun _=>?_) (fun _=>?_)
   | refine aa.call (by assumption) ?_
   | refine aa.tvs (by assumption) ?_
   | refine aa.call (Bq _) ?_)
  all_goals (refine dl.2 ?_; simp_all [doW,yA,TV.comp,nth])
theorem rPure (op:Int):ao prog 120 [I op] (B (decide (2<=op/\op<=8))):=by
 refine ao.of (f120_MR _) ?_
 unfold f120_M
 repeat' (first
  | refine aa.chk rfl ?_
  | refine aa.tv rfl ?_
  | refine aa.tv (RL.len (by assumption)) ?_
  | refine aa.nat rfl ?_
  | refine aa.ite rfl (fun _=>?_) (fun _=>?_)
  | refine aa.call (by assumption) ?_
  | refine aa.tvs (by assumption) ?_)
 all_goals (refine dl.2 ?_; simp_all <;> omega)
theorem rTwo (op:Int):ao prog 112 [I op] (B (decide (3<=op/\op<=8))):=by
 have h:=rPure op
 refine ao.of (f112_MR _) ?_
 unfold f112_M
 refine aa.call h (aa.chk rfl (aa.ite rfl (fun h=>?_) fun h=>?_))
 ·simp at h
  refine aa.tv rfl (dl.2 ?_)
  have:(op != 2)=decide (3<=op/\op<=8):=by rw [Bool.eq_iff_iff]; simp; omega
  rw [this]
 ·refine dl.2 ?_
  have h':¬ (2<=op/\op<=8):=by simpa using h
  simp; omega
end Go.Ab.Q12
end
section
set_option maxRecDepth 10000
namespace Go.Ab
def cJ (m:DMod) (f:DFrame):Prop:=0<=f.f/\∃ g,m.funcs[f.f.toNat]? = some g/\(f.regs.length:Int)=g.regs/\0<=f.block/\∃ b,g.blocks[f.block.toNat]? = some b/\0<=f.at_/\f.at_<=b.ins.length
def jb (m:DMod) (n:Int) (args:List Int):Option DFrame :=
 if 0<=n then (m.funcs[n.toNat]?).bind fun g=>if (args.length:Int)=g.params then some ⟨n,0,0,args.take g.regs.toNat ++ List.replicate (g.regs.toNat - args.length) 0,0⟩ else none else none
def eR:DFrame:=⟨0,0,0,[],0⟩
def ik (m:DMod) (f:DFrame) (pad w:Int):Option DFrame :=
 (m.funcs[f.f.toNat]?).bind fun g=>if 0<=pad then (g.blocks[pad.toNat]?).bind fun b=>if b.landing then some ⟨f.f,pad,0,f.regs.set b.pad.dst.toNat w,w⟩ else none else none
def Bg:Option DFrame->Int
 | some _=>0
 | none=>1
theorem wa {α:Type} {l:List α} {n:Int} (h0:0<=n) (h:¬ n < l.length):l[n.toNat]? = none:=EV (by omega)
theorem RNo:RFrame (some true) [I 0,I 0,I 0,.lit aI,W 0] eR:=⟨_,rfl,.nil,⟨by decide,by decide⟩,⟨by decide,by decide⟩,⟨by decide,by decide⟩,⟨by decide,by decide⟩⟩
def dZ:List Value:=[.int .i64 0,.int .i64 0,.int .i64 0,.slice none 0 0,.int .u16 0]
theorem fq {a b c d:Int} {y:TV} (h:y.isSl=true):(Bool.and ((TV.agg [I a,I b,I c,y,W d]).isAgg 5) (ab dZ ((TV.agg [I a,I b,I c,y,W d]).cellsL true) 0))=true:=by
 simp [ab,TV.isAgg,TV.cellsL,dZ,aO,h,TV.isSc,scV]
theorem in0:inI 0:=⟨by decide,by decide⟩
theorem nY:inW 0:=⟨by decide,by decide⟩
end Go.Ab
namespace Go.Ab.Q12
open Go Go.Ab Go.Proofs
theorem mU (c n:Int):ao prog 82 [I c,I n] (B (tt (within n c))):=by
 refine ao.of (f82_MR _ _) ?_
 unfold f82_M
 repeat' (first
  | refine aa.chk rfl ?_
  | refine aa.tv rfl ?_
  | refine aa.tv (RL.len (by assumption)) ?_
  | refine aa.nat rfl ?_
  | refine aa.ite rfl (fun _=>?_) (fun _=>?_)
  | refine aa.call (by assumption) ?_
  | refine aa.tvs (by assumption) ?_)
 all_goals (apply fR; simp_all [within] <;> omega)
theorem rOwn {q:Option Bool} {e:List TV} {x:DFrame} (he:RFrame q e x) (hl:x.regs.length<=4294967296):∃ e',ao prog 100 [.agg e] (.agg e')/\RFrame (some true) e' x:=by
 obtain ⟨g,rfl,hg,ho⟩:=he
 obtain ⟨y,hc,hr⟩:=r39 hg hl
 have hr:RWords (some true) y x.regs:=hr
 refine ⟨[I x.f,I x.block,I x.at_,y,W x.fly],?_,⟨_,rfl,hr,ho⟩⟩
 refine ao.of (f100_MR _) ?_
 unfold f100_M
 refine aa.chk rfl (aa.call hc (aa.chk ?_ (aa.chk ?_ aa.ret)))
 ·simp [zSl,ab,aO,hr.isSl]
 ·simp [isOwn,bn,RWords.isOwn hr,TV.cell,nth]
theorem rGo {q:Option Bool} {e:List TV} {x:DFrame} {b:Int} (he:RFrame q e x) (hl:x.regs.length<=4294967296) (hb:inI b):∃ e',ao prog 89 [.agg e,I b] (.agg e')/\RFrame (some true) e' { x with block:=b,at_:=0 }:=by
 obtain ⟨e',hr,he'⟩:=rOwn he hl
 obtain ⟨g,rfl,hg,ho⟩:=he
 obtain ⟨y,rfl,hy,ho'⟩:=he'
 refine ⟨[I x.f,I b,I 0,y,W x.fly],?_,⟨_,rfl,hy,ho.1,hb,in0,ho.2.2.2⟩⟩
 refine ao.of (f89_MR _ _) ?_
 unfold f89_M
 refine aa.chk rfl (aa.call hr (aa.chk (fq hy.isSl) (aa.chk rfl (aa.chk ?_ aa.ret))))
 simp [isOwn,bn,TV.cell,nth,RWords.isOwn hy]
theorem Dr {q q':Option Bool} {g:TV} {l:List Int} {e:List TV} {x:DIns} (hg:RWords q g l) (he:RIns q' e x):ao prog 107 [g,.agg e] (yA (en l x)):=by
 obtain ⟨a,rfl,ha,ho⟩:=he
 have h2:=rTwo x.op
 refine ao.of (f107_MR _ _) ?_
 unfold f107_M
 refine aa.chk rfl (aa.tv rfl (aa.ite rfl (fun h=>?_) fun h1=>?_))
 ·refine dl.2 ?_
  simp at h
  simp [en,h,yA,TV.cell,nth]
 have h1:¬ x.op=1:=by simpa using h1
 refine aa.tv hg.len (aa.call (mU _ _) (aa.chk rfl (aa.tv rfl (aa.ite rfl (fun h=>?_) fun h=>?_))))
 ·have h:¬ within x.a l.length:=db.1 (by simpa using h)
  refine dl.2 ?_
  simp [en,h1,tw h,yA]
 have hA:within x.a l.length:=cL.1 (by simpa using h)
 obtain ⟨u,hu,hul⟩:=bu hA
 obtain ⟨hi,hui⟩:=RWords.at_ hg (k:=.i64) hA.1 hu
 refine aa.tvs hi (aa.chk rfl (aa.call h2 (aa.chk rfl (aa.tv rfl (aa.ite rfl (fun h=>?_) fun h=>?_)))))
 ·have h:¬ (3<=x.op/\x.op<=8):=by simp at h; omega
  have hd:=rDo x.op u 0
  have hT:en l x=doW x.op u 0:=by simp [en,h1,kG hA.1 hu,h]
  rw [hT]
  refine aa.call hd ?_
  cases doW x.op u 0 with
  | none=>exact aa.chk rfl (aa.chk rfl (aa.chk rfl aa.ret))
  | some v=>exact aa.chk rfl (aa.chk rfl (aa.chk rfl aa.ret))
 have h3:3<=x.op/\x.op<=8:=by simpa using h
 refine aa.tv hg.len (aa.call (mU _ _) (aa.chk rfl (aa.tv rfl (aa.ite rfl (fun h=>?_) fun h=>?_))))
 ·have h:¬ within x.b l.length:=db.1 (by simpa using h)
  refine dl.2 ?_
  simp [en,h1,kG hA.1 hu,h3,tw h,yA]
 have hB:within x.b l.length:=cL.1 (by simpa using h)
 obtain ⟨v,hv,hvl⟩:=bu hB
 obtain ⟨hi',hvi⟩:=RWords.at_ hg (k:=.i64) hB.1 hv
 have hd:=rDo x.op u v
 have hT:en l x=doW x.op u v:=by simp [en,h1,kG hA.1 hu,h3,kG hB.1 hv]
 rw [hT]
 refine aa.tvs hi' (aa.chk rfl (aa.call hd ?_))
 cases doW x.op u v with
 | none=>exact aa.chk rfl (aa.chk rfl (aa.chk rfl aa.ret))
 | some v=>exact aa.chk rfl (aa.chk rfl (aa.chk rfl aa.ret))
theorem zX {q q':Option Bool} {g:TV} {l:List Int} {e:List TV} {x:DIns} (hg:RWords q g l) (he:RIns q' e x) {v:Int} (h:en l x=some v):inW v:=by
 obtain ⟨a,rfl,ha,ho⟩:=he
 unfold en at h
 split at h
 ·cases h; exact ho.2.2.2.2.1
 ·cases ha':od l x.a with
  | none=>rw [ha'] at h; cases h
  | some u =>
   have hu:inW u:=by
    unfold od at ha'
    split at ha'
    ·exact RWords.mem hg ha'
    ·cases ha'
   rw [ha'] at h
   simp only [Option.bind_some] at h
   split at h
   ·cases hb:od l x.b with
    | none=>rw [hb] at h; cases h
    | some w=>rw [hb] at h; exact By hu h
   ·exact By hu h
theorem Ej {q q':Option Bool} {e e':List TV} {f:DFrame} {x:DIns} (hf:RFrame q e f) (hx:RIns q' e' x) (hl:f.regs.length<=4294967296) :
  ∃ e2,ao prog 98 [.agg e,.agg e'] (.tup [.agg e2,B (df f x).2])/\RFrame (some true) e2 (df f x).1:=by
 obtain ⟨e1,hr,hf1⟩:=rOwn hf hl
 have hf1':=hf1
 obtain ⟨g0,rfl,hg0,_⟩:=hf
 obtain ⟨y,rfl,hy,ho'⟩:=hf1
 have hans:=Dr (hy.frz (S:=RW1) fun _ _ h=>h.frz) hx
 have hx':=hx
 obtain ⟨z,rfl,hz,hxo⟩:=hx
 have hfit:=fq (a:=f.f) (b:=f.block) (c:=f.at_) (d:=f.fly) hy.isSl
 have hown:bn [TV.agg [I f.f,I f.block,I f.at_,y,W f.fly],B false]=true:=by simp [isOwn,bn,RWords.isOwn hy]
 cases hT:en f.regs x with
 | none =>
  rw [hT] at hans
  have hR:df f x=(f,false):=by simp [df,hT]
  rw [hR]
  refine ⟨_,?_,hf1'⟩
  refine ao.of (f98_MR _ _) ?_
  unfold f98_M
  exact aa.chk rfl (aa.chk rfl (aa.call hr (aa.chk hfit (aa.call hans (aa.chk rfl (aa.chk rfl (aa.chk rfl (aa.tv rfl (aa.ite rfl (fun _=>aa.chk hown aa.ret) nofun)))))))))
 | some v =>
  rw [hT] at hans
  have hv:=zX hy hx' hT
  by_cases hD:within x.dst f.regs.length
  ·have hD':0<=x.dst/\x.dst < f.regs.length:=hD
   have hR:df f x=({ f with regs:=f.regs.set x.dst.toNat v,at_:=IntKind.i64.wrap (f.at_ + 1) },true):=by simp [df,hT,hD']
   have hlt:x.dst.toNat < f.regs.length:=by omega
   obtain ⟨a,v',hp,hs,hrl⟩:=RWords.put hy hlt hv
   have hbl:Nat.blt x.dst.toNat f.regs.length=true:=by simpa using hlt
   rw [hR]
   refine ⟨[I f.f,I f.block,I (IntKind.i64.wrap (f.at_ + 1)),v',W f.fly],?_,⟨_,rfl,hrl,ho'.1,ho'.2.1,wrap_i64 _,ho'.2.2.2⟩⟩
   refine ao.of (f98_MR _ _) ?_
   unfold f98_M
   refine aa.chk rfl (aa.chk rfl (aa.call hr (aa.chk hfit (aa.call hans (aa.chk rfl (aa.chk rfl (aa.chk rfl (aa.tv rfl (aa.ite rfl nofun fun _=>?_)))))))))
   refine aa.tv hy.len (aa.call (mU _ _) (aa.chk rfl (aa.tv rfl (aa.ite rfl (fun h=>?_) fun _=>?_))))
   ·exact absurd hD (db.1 (by simpa using h))
   ·have hdn:ak (I x.dst)=some x.dst.toNat:=by
     have:=hxo.2.1.2
     simp [ak,hD.1]; omega
    refine aa.nat hy.slLen (aa.nat hdn (aa.chk ?_ (aa.tvs hp (aa.chk rfl (aa.tv hs (aa.tv rfl (aa.chk ?_ aa.ret)))))))
    ·rw [hbl]; exact (Bool.and_true _).trans hy.slSize
    ·simp [isOwn,bn,RWords.isOwn hrl,TV.cell,nth]
  ·have hD':¬ (0<=x.dst/\x.dst < f.regs.length):=hD
   have hR:df f x=(f,false):=by simp only [df,hT]; rw [if_neg hD']
   rw [hR]
   refine ⟨_,?_,hf1'⟩
   refine ao.of (f98_MR _ _) ?_
   unfold f98_M
   refine aa.chk rfl (aa.chk rfl (aa.call hr (aa.chk hfit (aa.call hans (aa.chk rfl (aa.chk rfl (aa.chk rfl (aa.tv rfl (aa.ite rfl nofun fun _=>?_)))))))))
   refine aa.tv hy.len (aa.call (mU _ _) (aa.chk rfl (aa.tv rfl (aa.ite rfl (fun _=>aa.chk hown aa.ret) fun h=>?_))))
   exact absurd (cL.1 (by simpa using h)) hD
theorem nP {q:Option Bool} {e:List TV} {p:DPad} {w:Int} (he:RPad q e p):ao prog 103 [.agg e,W w] (B (tt (p.all=true\/w ∈ p.catches))):=by
 obtain ⟨x,rfl,hx,_⟩:=he
 have h56:=r56 (w:=w) hx
 refine ao.of (f103_MR _ _) ?_
 unfold f103_M
 repeat' (first
  | refine aa.chk rfl ?_
  | refine aa.tv rfl ?_
  | refine aa.tv (RL.len (by assumption)) ?_
  | refine aa.nat rfl ?_
  | refine aa.ite rfl (fun _=>?_) (fun _=>?_)
  | refine aa.call (by assumption) ?_
  | refine aa.tvs (by assumption) ?_)
 ·rename_i h
  have h:p.all=true:=by simpa [TV.cell,nth] using h
  exact DG (.inl h)
 ·rename_i h
  have h:p.all=false:=by simpa [TV.cell,nth] using h
  apply fR
  simp [cL,h]
end Go.Ab.Q12
end
section
set_option maxRecDepth 10000
namespace Go.Ab
theorem aV {n:Int} (h0:0<=n) (h:inI n):ak (I n)=some n.toNat:=by
 have:=h.2
 simp [ak,h0]; omega
theorem yO {xs:List (List TV)} {args:List Int} (h:F2 RW1 xs args) {n:Nat} (hn:n<=4294967296):RWords (some true) (.sl true 1 (xs.take (List.replicate n [W 0]).length ++ (List.replicate n [W 0]).drop xs.length)) (args.take n ++ List.replicate (n - args.length) 0):=by
 have hlen:=h.length
 refine .sl (by simp) ?_ (by simp; omega)
 rw [List.length_replicate,List.drop_replicate,hlen]
 refine (h.take n).append ?_
 exact F2.tF (by simp) fun i e a he ha=>by
  have h1:=(EJ.1 he)
  have h2:=(EJ.1 ha)
  obtain ⟨_,h1⟩:=h1
  obtain ⟨_,h2⟩:=h2
  simp at h1 h2
  subst h1 h2
  exact ⟨rfl,by decide,by decide⟩
theorem Dx {a b c d e:Int} {y:TV} (h:isOwn y=true):bn [.agg [I a,I b,I c,y,W d],I e]=true:=by
 simp [isOwn,bn,h]
theorem RW0:RW1 [W 0] 0:=⟨rfl,by decide,by decide⟩
end Go.Ab
namespace Go.Ab.Q12
open Go Go.Ab Go.Proofs
theorem iP {m:DMod} {g:DFunc} {n:Nat} (h:bP m) (hg:m.funcs[n]? = some g):wX m.funcs g:=h.2.2 n (EJ.1 hg).1 g hg
theorem sG {m:DMod} {g:DFunc} {n:Nat} (h:bP m) (hg:m.funcs[n]? = some g):0<=g.regs/\g.regs<=256:=by
 obtain ⟨⟨h1,h2,h3,h4⟩,_⟩:=iP h hg
 exact ⟨by omega,h4⟩
noncomputable def nv (m:DMod) (n:Int) (args:List Int):Option DFrame:=bif tt (bP m) then jb m n args else none
theorem rNew {q q':Option Bool} {e:List TV} {x:TV} {m:DMod} {n:Int} {args:List Int} (hm:RMod q e m) (hn:inI n) (hx:RWords q' x args):∃ e',ao prog 68 [.agg e,I n,x] (.tup [.agg e',I (Bg (nv m n args))])/\RFrame (some true) e' ((nv m n args).getD eR):=by
 have h8:=r8 hm
 obtain ⟨y,rfl,hy⟩:=hm
 have no:nv m n args=none->ao prog 68 [.agg [y],I n,x] (.tup [.agg [I 0,I 0,I 0,.lit aI,W 0],I 1])->∃ e',ao prog 68 [.agg [y],I n,x] (.tup [.agg e',I (Bg (nv m n args))])/\RFrame (some true) e' ((nv m n args).getD eR):=by
  intro h hr
  rw [h]
  exact ⟨_,hr,RNo⟩
 by_cases hM:bP m
 rotate_left
 ·refine no (by simp [nv,eJ hM]) ?_
  rw [eJ hM] at h8
  refine ao.of (f68_MR _ _ _) ?_
  unfold f68_M
  exact aa.chk rfl (aa.call h8 (aa.chk rfl (aa.tv rfl (aa.ite rfl (fun _=>aa.chk rfl aa.ret) nofun))))
 rw [gB hM] at h8
 have hD:nv m n args=jb m n args:=by simp [nv,gB hM]
 by_cases hF:within n m.funcs.length
 rotate_left
 ·have hN:nv m n args=none:=by
   rw [hD]
   unfold jb
   split
   ·rename_i h0
    rw [wa h0 fun h=>hF ⟨h0,h⟩]
    rfl
   ·rfl
  refine no hN ?_
  refine ao.of (f68_MR _ _ _) ?_
  unfold f68_M
  refine aa.chk rfl (aa.call h8 (aa.chk rfl (aa.tv rfl (aa.ite rfl nofun fun _=>?_))))
  refine aa.tv hy.len (aa.call (mU _ _) (aa.chk rfl (aa.tv rfl (aa.ite rfl (fun _=>aa.chk rfl aa.ret) fun h=>?_))))
  exact absurd (cL.1 (by simpa using h)) hF
 have hlt:n.toNat < m.funcs.length:=by have:=hF.1; have:=hF.2; omega
 have hu:m.funcs[n.toNat]? = some m.funcs[n.toNat]:=EK hlt
 obtain ⟨e,he,hr⟩:=hy.bW (k:=.i64) hF.1 hu
 generalize m.funcs[n.toNat]=u at hu hr
 obtain ⟨hr0,hr1⟩:=sG hM hu
 obtain ⟨b,rfl,hb,_⟩:=hr
 have hT:jb m n args=if (args.length:Int)=u.params then some ⟨n,0,0,args.take u.regs.toNat ++ List.replicate (u.regs.toNat - args.length) 0,0⟩ else none:=by simp [jb,hF.1,hu]
 by_cases hP:(args.length:Int)=u.params
 rotate_left
 ·refine no (by rw [hD,hT,if_neg hP]) ?_
  refine ao.of (f68_MR _ _ _) ?_
  unfold f68_M
  refine aa.chk rfl (aa.call h8 (aa.chk rfl (aa.tv rfl (aa.ite rfl nofun fun _=>?_))))
  refine aa.tv hy.len (aa.call (mU _ _) (aa.chk rfl (aa.tv rfl (aa.ite rfl (fun h=>?_) fun _=>?_))))
  ·exact absurd hF (db.1 (by simpa using h))
  refine aa.tv hx.len (aa.tvs he (aa.chk rfl (aa.tv rfl (aa.ite rfl (fun _=>aa.chk rfl aa.ret) fun h=>?_))))
  simp at h
  exact absurd h hP
 rw [hD,hT,if_pos hP]
 obtain ⟨xs,hxs,hF2⟩:=hx.elems
 have hmk:=yO hF2 (n:=u.regs.toNat) (by omega)
 have hnat:ak (I u.regs)=some u.regs.toNat:=aV hr0 ⟨by omega,by omega⟩
 refine ⟨[I n,I 0,I 0,_,W 0],?_,⟨_,rfl,hmk,hn,in0,in0,nY⟩⟩
 refine ao.of (f68_MR _ _ _) ?_
 unfold f68_M
 refine aa.chk rfl (aa.call h8 (aa.chk rfl (aa.tv rfl (aa.ite rfl nofun fun _=>?_))))
 refine aa.tv hy.len (aa.call (mU _ _) (aa.chk rfl (aa.tv rfl (aa.ite rfl (fun h=>?_) fun _=>?_))))
 ·exact absurd hF (db.1 (by simpa using h))
 refine aa.tv hx.len (aa.tvs he (aa.chk rfl (aa.tv rfl (aa.ite rfl (fun h=>?_) fun _=>?_))))
 ·simp at h
  exact absurd hP h
 refine aa.tvs he (aa.chk rfl (aa.nat hnat (aa.nat hnat (aa.chk ?_ (aa.rws hxs (aa.tv (by simp only [pcopy,if_true]) (aa.nat rfl (aa.chk rfl (aa.chk ?_ aa.ret)))))))))
 ·have:u.regs.toNat<=4294967296:=by omega
  simp [this]
 ·exact Dx (RWords.isOwn hmk)
end Go.Ab.Q12
end
section
set_option maxRecDepth 10000
namespace Go.Ab
theorem yu {m:DMod} {f:DFrame} {u:DFunc} {pad w:Int} (hu:m.funcs[f.f.toNat]? = some u) (h:¬ lA u.blocks pad true):ik m f pad w=none:=by
 unfold ik
 rw [hu]
 simp only [Option.bind_some]
 split
 ·rename_i h0
  cases hb:u.blocks[pad.toNat]? with
  | none=>rfl
  | some b =>
   simp only [Option.bind_some]
   split
   ·rename_i hl
    exact absurd ⟨h0,b,hb,hl⟩ h
   ·rfl
 ·rfl
theorem s6 {m:DMod} {f:DFrame} {u:DFunc} {b:DBlock} {pad w:Int} (hu:m.funcs[f.f.toNat]? = some u) (h0:0<=pad) (hb:u.blocks[pad.toNat]? = some b) (hl:b.landing=true) :
  ik m f pad w=some ⟨f.f,pad,0,f.regs.set b.pad.dst.toNat w,w⟩:=by
 simp [ik,hu,h0,hb,hl]
theorem ol {a b:Nat} (h:a < b):Nat.blt a b=true:=by simpa using h
end Go.Ab
namespace Go.Ab.Q12
open Go Go.Ab Go.Proofs
theorem rFSame {q q':Option Bool} {e e':List TV} {a b:DFrame} (ha:RFrame q e a) (hb:RFrame q' e' b):ao prog 54 [.agg e,.agg e'] (B (tt (a=b))):=by
 obtain ⟨x,rfl,hx,_⟩:=ha
 obtain ⟨y,rfl,hy,_⟩:=hb
 refine ao.of (f54_MR _ _) ?_
 unfold f54_M
 repeat' (first
  | refine aa.chk rfl ?_
  | refine aa.tv rfl ?_
  | refine aa.tv (RL.len (by assumption)) ?_
  | refine aa.nat rfl ?_
  | refine aa.ite rfl (fun _=>?_) (fun _=>?_)
  | refine aa.call (by assumption) ?_
  | refine aa.tvs (by assumption) ?_)
 ·apply bz; rw [jC]; simp_all
 ·apply bz; rw [jC]; simp_all
 ·apply bz; rw [jC]; simp_all
 ·apply bz; rw [jC]; simp_all
 ·rename_i h
  apply bz; rw [jC]
  intro h'
  rw [h'.2.2.2.1] at h
  simp at h
 ·rename_i h1 h2 h3 h4 h
  have hlen:a.regs.length=b.regs.length:=by simp at h; omega
  have hiff:a=b ↔ a.regs=b.regs:=by
   rw [jC]
   simp at h1 h2 h3 h4
   simp [h1,h2,h3,h4]
  refine f54_0_J ?_
  rw [dk (hiff.trans (ix hlen))]
  refine gJ (g:=fun k=>f54_0 (I k) (I a.f) (I a.block) (I a.at_) x (W a.fly) (I b.f) (I b.block) (I b.at_) y (W b.fly)) ?_ ?_
  ·unfold f54_0
   refine aa.tv (RL.len (by assumption)) (aa.tv rfl (aa.ite bL nofun fun _=>?_))
   exact aa.ret
  ·intro k hk r h1 h2
   have hk':k < b.regs.length:=by omega
   have hak:a.regs[k]? = some a.regs[k]:=EK hk
   have hbk:b.regs[k]? = some b.regs[k]:=EK hk'
   obtain ⟨e,he,rfl,_⟩:=hx.idx (k:=.i64) hak
   obtain ⟨e',he',rfl,_⟩:=hy.idx (k:=.i64) hbk
   unfold f54_0
   refine aa.tv (RL.len (by assumption)) (aa.tv rfl (aa.ite (bv hk) (fun _=>?_) nofun))
   refine aa.tvs he (aa.chk rfl (aa.tvs he' (aa.chk rfl (aa.tv rfl (aa.ite rfl (fun h=>?_) fun h=>?_)))))
   ·rw [h1 (by rw [hak,hbk]; simpa [nth] using h)]; exact aa.ret
   ·refine aa.tv (inc hk hx.bnd) (f54_0_J (h2 ?_))
    rw [hak,hbk]; simpa [nth] using h
end Go.Ab.Q12
end

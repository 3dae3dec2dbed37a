import Derived.Test.YtfnpejmlcbkepaaKQ12F73
import Derived.Test.YtfnpejmlcbkepaaKQ12T
set_option linter.all false
section
set_option maxRecDepth 10000
namespace Go.Ab
inductive Rc (bs:List DBlock) (no:Int):Nat->Prop
 | start (h:no≠0) (h0:0 < bs.length):Rc bs no 0
 | next {i:Nat} {g:Int} (hi:Rc bs no i) (hg:g ∈ ak bs i) (hn:g≠no):Rc bs no g.toNat
def vC (bs:List DBlock) (no:Int) (M:List Bool):Prop:=M.length=bs.length/\∀ i:Nat,M[i]? = some true ↔ Rc bs no i
theorem Rc.lt {bs:List DBlock} {no:Int} {i:Nat} (h:Rc bs no i):i < bs.length:=by
 cases h with
 | start _ h0=>exact h0
 | next _ hg _=>exact (aH hg).2
def Ckd (bs:List DBlock) (no:Int) (M:List Bool) (k:Nat):Prop:=∀ i:Nat,i < k->M[i]? = some true->∀ g ∈ ak bs i,g≠no->M[g.toNat]? = some true
def zt (bs:List DBlock) (no:Int) (M:List Bool):Prop:=∀ i:Nat,M[i]? = some true->Rc bs no i
theorem nY {bs:List DBlock} {no:Int} {M:List Bool} (hl:M.length=bs.length) (h1:zt bs no M) (h2:no≠0->0 < bs.length->M[0]? = some true) (h3:Ckd bs no M bs.length):vC bs no M:=by
 refine ⟨hl,fun i=>⟨h1 i,fun h=>?_⟩⟩
 induction h with
 | start h h0=>exact h2 h h0
 | next hi hg hn ih=>exact h3 _ hi.lt ih _ hg hn
theorem nZ {M:List Bool} {g i:Nat} (h:M[i]? = some true):(M.set g true)[i]? = some true:=by
 rw [List.getElem?_set]
 split
 ·rename_i e
  subst e
  have:=(Fw.1 h).1
  simp [this]
 ·exact h
theorem pg {n:Nat} (h:n<=9223372036854775807):RBools (some true) (.sl true 1 (List.replicate n [B false])) (List.replicate n false):=.sl (by simp) (F2.t7 (by simp) fun i e a he ha=>by
 rw [List.getElem?_replicate] at he ha
 split at he
 ·rename_i h; rw [if_pos h] at ha; cases he; cases ha; rfl
 ·cases he) (by simpa using h)
end Go.Ab
namespace Go.Ab.Q12
open Go Go.Ab Go.Proofs
section
variable {q:Option Bool} {b:TV} {f:DFunc} (hf:RFunc q [I f.params,I f.regs,b] f) (hs:f.blocks.length<=1000) {no:Int}
include hs
theorem withL {P:TV->Prop} {c0:Nat} {k:Nat} (hk:k < f.blocks.length) {w8:TV} (h8:RInts (some true) w8 (ak f.blocks k))
  (K:∀ (u:Bool) (M:List Bool) (w:TV),RBools (some true) w M->M.length=f.blocks.length->zt f.blocks no M->M[0]? = some true->(u=false->Ckd f.blocks no M (k + 1))->(u=true->c0 < M.count true)->c0<=M.count true->∃ y,aa prog 46 (f46_1 (I no) (B u) (I (k + 1:Nat)) (I f.params) (I f.regs) b w) y/\P y) :
  ∀ (d j:Nat) (u:Bool) (M:List Bool) (w:TV),j + d=(ak f.blocks k).length->RBools (some true) w M->M.length=f.blocks.length->zt f.blocks no M->M[0]? = some true ->
   (u=false->Ckd f.blocks no M k/\(M[k]? = some true->∀ (j':Nat) (g:Int),j' < j->(ak f.blocks k)[j']? = some g->g≠no->M[g.toNat]? = some true))->(u=true->c0 < M.count true)->c0<=M.count true ->
   ∃ y,aa prog 46 (f46_2 (I no) (B u) (I k) (I j) (I f.params) (I f.regs) b w w8) y/\P y:=by
 intro d
 have hk64:k < 9223372036854775807:=by omega
 have hn3:=ep f.blocks k
 induction d with
 | zero =>
  intro j u M w hj hw hl hsn hst hc h1 h2
  have hj:j=(ak f.blocks k).length:=by omega
  subst hj
  obtain ⟨y,hy,hP⟩:=K u M w hw hl hsn hst (fun hu i hi hMi g hg hgn=>by
   rcases Nat.lt_or_ge i k with h | h
   ·exact (hc hu).1 i h hMi g hg hgn
   ·have:i=k:=by omega
    subst this
    obtain ⟨j',hj',rfl⟩:=List.mem_iff_getElem.1 hg
    exact (hc hu).2 hMi j' _ hj' (Fx hj') hgn) h1 h2
  refine ⟨y,?_,hP⟩
  unfold f46_2
  exact aa.tv h8.len (aa.tv rfl (aa.ite aW nofun fun _=>aa.tv (inc hk (by omega)) (f46_1_J hy)))
 | succ d ih =>
  intro j u M w hj hw hl hsn hst hc h1 h2
  have hjl:j < (ak f.blocks k).length:=by omega
  obtain ⟨g,hgg⟩:∃ g,g=(ak f.blocks k)[j]:=⟨_,rfl⟩
  have hgk:(ak f.blocks k)[j]? = some g:=by rw [hgg]; exact Fx hjl
  have hgm:=FF hgk
  have hgt:=aH hgm
  obtain ⟨eg,heg,rfl,hgi⟩:=h8.pel hgk
  have hkM:M[k]? = some M[k]:=Fx (by omega)
  obtain ⟨ek,hek,hRk⟩:=hw.pel hkM
  cases hRk
  have hMl:g.toNat < M.length:=by omega
  have hMg:M[g.toNat]? = some M[g.toNat]:=Fx hMl
  obtain ⟨em,hem,hRm⟩:=hw.pel hMg
  cases hRm
  have ank:ac (I (k:Nat))=some k:=ah (by omega)
  have anj:ac (I (j:Nat))=some j:=ah (by omega)
  have hgn:ac (I g)=some g.toNat:=uq hgt.1 hgi
  have ck1:(Bool.and (slSize w 1) (Nat.blt k M.length))=true:=by rw [hw.slSize]; simp; omega
  have ck2:(Bool.and (slSize w8 1) (Nat.blt j (ak f.blocks k).length))=true:=by rw [h8.slSize]; simpa using hjl
  have ck3:(Bool.and (slSize w 1) (Nat.blt g.toNat M.length))=true:=by rw [hw.slSize]; simpa using hMl
  have rest:(u=false->M[k]? = some true->g≠no->M[g.toNat]? = some true)->∃ y,aa prog 46 (f46_2 (I no) (B u) (I k) (I (j + 1:Nat)) (I f.params) (I f.regs) b w w8) y/\P y:=fun hh=>by
   refine ih (j + 1) u M w (by omega) hw hl hsn hst (fun hu=>⟨(hc hu).1,fun hMk j' g' hj' hg' hn'=>?_⟩) h1 h2
   rcases Nat.lt_or_ge j' j with h | h
   ·exact (hc hu).2 hMk j' g' h hg' hn'
   ·have:j'=j:=by omega
    subst this
    rw [hgk] at hg'
    cases hg'
    exact hh hu hMk hn'
  cases hmk:M[k] with
  | false =>
   rw [hmk] at hek hkM
   obtain ⟨y,hy,hP⟩:=rest (fun _ h=>by rw [hkM] at h; cases h)
   refine ⟨y,?_,hP⟩
   unfold f46_2
   exact aa.tv h8.len (aa.tv rfl (aa.ite (aQ hjl) (fun _=>aa.nat hw.slLen (aa.nat ank (aa.chk ck1 (aa.tvs hek (aa.chk rfl (aa.ite (v:=false) rfl nofun fun _=>aa.tv (inc hjl (by omega)) (f46_2_J hy))))))) nofun))
  | true =>
   rw [hmk] at hek hkM
   by_cases hno:g=no
   ·obtain ⟨y,hy,hP⟩:=rest (fun _ _ h=>absurd hno h)
    refine ⟨y,?_,hP⟩
    unfold f46_2
    refine aa.tv h8.len (aa.tv rfl (aa.ite (aQ hjl) (fun _=>aa.nat hw.slLen (aa.nat ank (aa.chk ck1 (aa.tvs hek (aa.chk rfl (aa.ite (v:=true) rfl (fun _=>?_) nofun)))))) nofun))
    exact aa.nat h8.slLen (aa.nat anj (aa.chk ck2 (aa.tvs heg (aa.chk rfl (aa.tv rfl (aa.ite (v:=false) (by simp [asBool,hno]) nofun fun _=>aa.tv (inc hjl (by omega)) (f46_2_J hy)))))))
   ·have front:∀ {r:TV},(M[g.toNat]=false->aa prog 46 (Prg.nat (slLen w8) fun n29=>Prg.nat (ac (I (j:Nat))) fun n30=>Prg.chk (Bool.and (slSize w8 1) (Nat.blt n30 n29)) (Prg.tvs (pel w8 n30) fun e31=>Prg.chk (ab bc e31 0) (Prg.nat (slLen w) fun n32=>Prg.nat (ac (nth TV.hole e31 0)) fun n33 =>
       Prg.chk (Bool.and (slSize w 1) (Nat.blt n33 n32)) (Prg.tvs (pel w n33) fun e34=>Prg.chk (ab bu e34 0) (Prg.tv (cB [] w n33 0 [TV.lit (Value.bool true)]) fun v35=>Prg.tv (pbin (Kd.int IntKind.i64) BinOp.add (I (j:Nat)) (TV.lit (Value.int IntKind.i64 (1:Int)))) fun v36 =>
       Prg.jmp [0,0,1,1,0,0,1,0,0,1,1,0,1,0,0,1,0,1,1,1,1] (f46_2_S (I no) (TV.lit (Value.bool true)) (I k) v36 (I f.params) (I f.regs) b v35 w8)))))) r) ->
      (M[g.toNat]=true->aa prog 46 (Prg.tv (pbin (Kd.int IntKind.i64) BinOp.add (I (j:Nat)) (TV.lit (Value.int IntKind.i64 (1:Int)))) fun v37=>Prg.jmp [0,0,1,1,0,0,1,0,0,1,1,0,1,0,0,1,0,1,1,1,1] (f46_2_S (I no) (B u) (I k) v37 (I f.params) (I f.regs) b w w8)) r) ->
      aa prog 46 (f46_2 (I no) (B u) (I k) (I j) (I f.params) (I f.regs) b w w8) r:=fun {r} m0 m9=>by
     unfold f46_2
     refine aa.tv h8.len (aa.tv rfl (aa.ite (aQ hjl) (fun _=>aa.nat hw.slLen (aa.nat ank (aa.chk ck1 (aa.tvs hek (aa.chk rfl (aa.ite (v:=true) rfl (fun _=>?_) nofun)))))) nofun))
     refine aa.nat h8.slLen (aa.nat anj (aa.chk ck2 (aa.tvs heg (aa.chk rfl (aa.tv rfl (aa.ite (v:=true) (by simp [asBool,hno]) (fun _=>?_) nofun))))))
     refine aa.nat h8.slLen (aa.nat anj (aa.chk ck2 (aa.tvs heg (aa.chk rfl (aa.nat hw.slLen (aa.nat hgn (aa.chk ck3 (aa.tvs hem (aa.chk rfl (aa.tv rfl (aa.ite rfl (fun h=>m0 ?_) fun h=>m9 ?_)))))))))))
     ·simpa using h
     ·simpa using h
    cases hmg:M[g.toNat] with
    | true =>
     rw [hmg] at hMg
     obtain ⟨y,hy,hP⟩:=rest (fun _ _ _=>hMg)
     exact ⟨y,front (fun h=>by rw [hmg] at h; cases h) (fun _=>aa.tv (inc hjl (by omega)) (f46_2_J hy)),hP⟩
    | false =>
     rw [hmg] at hMg
     obtain ⟨w',c1,c2⟩:=hw.iy hem (d:=0) (ys:=[B true]) (a:=true) rfl
     have hcnt:=pV hMg
     obtain ⟨y,hy,hP⟩:=ih (j + 1) true (M.set g.toNat true) w' (by omega) c2 (by rw [List.length_set]; exact hl) (fun i hi=>by
      rcases (jq hMl).1 hi with rfl | h
      ·exact .next (hsn k hkM) hgm hno
      ·exact hsn i h) (nZ hst) (fun h=>by cases h) (fun _=>by omega) (by omega)
     refine ⟨y,front (fun _=>?_) (fun h=>by rw [hmg] at h; cases h),hP⟩
     exact aa.nat h8.slLen (aa.nat anj (aa.chk ck2 (aa.tvs heg (aa.chk rfl (aa.nat hw.slLen (aa.nat hgn (aa.chk ck3 (aa.tvs hem (aa.chk rfl (aa.tv c1 (aa.tv (inc hjl (by omega)) (f46_2_J hy))))))))))))
include hf
theorem withR {P:TV->Prop} {c0:Nat}
  (K:∀ (u:Bool) (M:List Bool) (w:TV),RBools (some true) w M->M.length=f.blocks.length->zt f.blocks no M->M[0]? = some true->(u=false->Ckd f.blocks no M f.blocks.length)->(u=true->c0 < M.count true)->c0<=M.count true->∃ y,aa prog 46 (f46_0 (I no) (B u) (I f.params) (I f.regs) b w) y/\P y) :
  ∀ (d k:Nat) (u:Bool) (M:List Bool) (w:TV),k + d=f.blocks.length->RBools (some true) w M->M.length=f.blocks.length->zt f.blocks no M->M[0]? = some true->(u=false->Ckd f.blocks no M k)->(u=true->c0 < M.count true)->c0<=M.count true ->
   ∃ y,aa prog 46 (f46_1 (I no) (B u) (I k) (I f.params) (I f.regs) b w) y/\P y:=by
 intro d
 induction d with
 | zero =>
  intro k u M w hk hw hl hsn hst hc h1 h2
  have hk:k=f.blocks.length:=by omega
  subst hk
  obtain ⟨y,hy,hP⟩:=K u M w hw hl hsn hst hc h1 h2
  refine ⟨y,?_,hP⟩
  unfold f46_1
  exact aa.tv hw.len (aa.tv rfl (aa.ite (v:=false) (by rw [hl]; exact aW) nofun fun _=>f46_0_J hy))
 | succ d ih =>
  intro k u M w hk hw hl hsn hst hc h1 h2
  have hkl:k < f.blocks.length:=by omega
  obtain ⟨v,hv,hvr⟩:=r72 hf (k:Int)
  rw [gA] at hvr
  obtain ⟨y,hy,hP⟩:=withL (b:=b) hs hkl hvr (fun u' M' w' a1 a2 a3 a4 a5 a6 a7=>ih (k + 1) u' M' w' (by omega) a1 a2 a3 a4 a5 a6 a7) (ak f.blocks k).length 0 u M w (by omega) hw hl hsn hst (fun hu=>⟨hc hu,fun _ j' g h=>by omega⟩) h1 h2
  refine ⟨y,?_,hP⟩
  unfold f46_1
  exact aa.tv hw.len (aa.tv rfl (aa.ite (v:=true) (by rw [hl]; exact aQ hkl) (fun _=>aa.call hv (aa.chk (aK hvr.isSl) (f46_2_J hy))) nofun))
theorem Ew:∀ (d:Nat) (M:List Bool) (w:TV),f.blocks.length < M.count true + d->RBools (some true) w M->M.length=f.blocks.length->zt f.blocks no M->M[0]? = some true ->
  ∃ y,aa prog 46 (f46_0 (I no) (B true) (I f.params) (I f.regs) b w) y/\∃ M,RBools (some true) y M/\vC f.blocks no M:=by
 intro d
 induction d with
 | zero =>
  intro M w hd hw hl
  have:=wU M
  omega
 | succ d ih =>
  intro M w hd hw hl hsn hst
  obtain ⟨y,hy,hP⟩:=withR hf hs (no:=no) (c0:=M.count true) (P:=fun y=>∃ M,RBools (some true) y M/\vC f.blocks no M) (fun u M' w' a1 a2 a3 a4 a5 a6 a7=>by
   cases u with
   | true=>exact ih M' w' (by have:=a6 rfl; omega) a1 a2 a3 a4
   | false =>
    refine ⟨w',?_,M',a1,nY a2 a3 (fun _ _=>a4) (a5 rfl)⟩
    unfold f46_0
    exact aa.ite (v:=false) rfl nofun fun _=>aa.ret) f.blocks.length 0 false M w (by omega) hw hl hsn hst (fun _ i h=>by omega) (fun h=>by cases h) (Nat.le_refl _)
  refine ⟨y,?_,hP⟩
  unfold f46_0
  exact aa.ite (v:=true) rfl (fun _=>f46_1_J hy) nofun
end
theorem r83 {q:Option Bool} {e:List TV} {f:DFunc} (he:RFunc q e f) (hs:f.blocks.length<=1000) (no:Int):∃ y M,ba prog 46 [.agg e,I no] y/\RBools (some true) y M/\vC f.blocks no M:=by
 have he0:=he
 obtain ⟨b,rfl,hb,_⟩:=he
 have hn:ac (I (f.blocks.length:Nat))=some f.blocks.length:=ah (by omega)
 have hck:(Bool.and (Nat.ble f.blocks.length f.blocks.length) (Nat.ble f.blocks.length 4294967296))=true:=by
  have:Nat.ble f.blocks.length 4294967296=true:=by simp; omega
  simp [this]
 have hrep:=pg (n:=f.blocks.length) (by omega)
 have none_:∀ i:Nat,¬ (List.replicate f.blocks.length false)[i]? = some true:=fun i h=>by
  rw [List.getElem?_replicate] at h
  split at h <;> cases h
 have hlen:=hrep.len (t:=4)
 rw [List.length_replicate] at hlen
 by_cases h0:f.blocks.length=0
 ·refine ⟨_,_,?_,hrep,nY (by simp) (fun i h=>absurd h (none_ i)) (fun _ h=>by omega) (fun i h=>by omega)⟩
  refine ba.of (f46_MR _ _) ?_
  unfold f46_M
  exact aa.chk rfl (aa.tv hb.len (aa.nat hn (aa.nat hn (aa.chk hck (aa.tv hlen (aa.tv rfl (aa.ite (v:=true) (by simp [asBool,h0]) (fun _=>aa.ret) nofun)))))))
 have h00:f.blocks≠[]:=fun h=>h0 (by rw [h]; rfl)
 by_cases h1:no=0
 ·refine ⟨_,_,?_,hrep,nY (by simp) (fun i h=>absurd h (none_ i)) (fun h _=>absurd h1 h) (fun i _ h=>absurd h (none_ i))⟩
  refine ba.of (f46_MR _ _) ?_
  unfold f46_M
  exact aa.chk rfl (aa.tv hb.len (aa.nat hn (aa.nat hn (aa.chk hck (aa.tv hlen (aa.tv rfl (aa.ite (v:=false) (by simp [asBool,h00]) nofun fun _=>aa.tv rfl (aa.ite (v:=true) (by simp [asBool,h1]) (fun _=>aa.ret) nofun))))))))
 have hl:0 < f.blocks.length:=by omega
 have hf0:(List.replicate f.blocks.length false)[0]? = some false:=by rw [List.getElem?_replicate,if_pos hl]
 obtain ⟨e7,he7,hR⟩:=hrep.pel hf0
 cases hR
 obtain ⟨w,c1,c2⟩:=hrep.iy he7 (d:=0) (ys:=[B true]) (a:=true) rfl
 have hlr:0 < (List.replicate f.blocks.length false).length:=by simpa using hl
 obtain ⟨y,hy,M,hM,hF⟩:=Ew he0 hs (no:=no) (f.blocks.length + 1) _ w (by omega) c2 (by simp) (fun i hi=>by
  rcases (jq hlr).1 hi with rfl | h
  ·exact .start h1 hl
  ·exact absurd h (none_ i)) ((jq hlr).2 (.inl rfl))
 refine ⟨y,M,?_,hM,hF⟩
 refine ba.of (f46_MR _ _) ?_
 unfold f46_M
 refine aa.chk rfl (aa.tv hb.len (aa.nat hn (aa.nat hn (aa.chk hck (aa.tv hlen (aa.tv rfl (aa.ite (v:=false) (by simp [asBool,h00]) nofun fun _=>aa.tv rfl (aa.ite (v:=false) (by simp [asBool,h1]) nofun fun _=>?_))))))))
 refine aa.nat hrep.slLen (aa.nat (v:=0) rfl (aa.chk ?_ (aa.tvs he7 (aa.chk rfl (aa.tv c1 (f46_0_J hy))))))
 rw [hrep.slSize]; simpa using hl
theorem r84 {q:Option Bool} {e:List TV} {f:DFunc} (he:RFunc q e f) (hs:f.blocks.length<=1000):∃ y M,ba prog 23 [.agg e] y/\RBools (some true) y M/\vC f.blocks (-1) M:=by
 obtain ⟨y,M,hy,hM,hF⟩:=r83 he hs (-1)
 obtain ⟨b,rfl,hb,_⟩:=he
 refine ⟨y,M,?_,hM,hF⟩
 refine ba.of (f23_MR _) ?_
 unfold f23_M
 exact aa.chk rfl (aa.call hy (aa.chk (aK hM.isSl) aa.ret))
end Go.Ab.Q12
end
section
set_option maxRecDepth 10000
namespace Go.Ab
def LedO (bs:List DBlock) (S:Nat->Prop) (o:List Int):Prop:=∀ (A:List Int) (x:Int) (B:List Int),o=A ++ x :: B->x=0\/∃ p:Nat,x ∈ ak bs p/\((p:Int) ∈ A\/S p)
def Chain (bs:List DBlock):List (Nat × List Int)->Prop
 | []=>True
 | [p]=>p.1=0
 | p :: r :: l=>(p.1:Int) ∈ ak bs r.1/\Chain bs (r :: l)
structure DI (bs:List DBlock) (M:List Bool) (st:List (Nat × List Int)) (o:List Int):Prop where
 len:M.length=bs.length
 at_:∀ p ∈ st,p.1 < bs.length/\∀ g ∈ p.2,g ∈ ak bs p.1
 mem:∀ i:Nat,M[i]? = some true ↔ (∃ p ∈ st,p.1=i)\/(i:Int) ∈ o
 nod:(o ++ st.map fun p=>(p.1:Int)).Nodup
 out:∀ x ∈ o,0<=x/\∀ g ∈ ak bs x.toNat,M[g.toNat]? = some true
 todo:∀ p ∈ st,∀ g ∈ ak bs p.1,g ∈ p.2\/M[g.toNat]? = some true
 snd:zt bs (-1) M
 led:LedO bs (fun p=>∃ r ∈ st,r.1=p) o
 chain:Chain bs st
 last:st=[]->o.head? = some 0
theorem sV {g:Int} (h:0<=g):((g.toNat:Nat):Int)=g:=by omega
theorem DI.leave {bs:List DBlock} {M:List Bool} {n:Nat} {st:List (Nat × List Int)} {o:List Int} (h:DI bs M ((n,[]) :: st) o):DI bs M st ((n:Int) :: o):=by
 refine ⟨h.len,fun p hp=>h.at_ p (FE _ hp),fun i=>?_,?_,fun x hx=>?_,fun p hp=>h.todo p (FE _ hp),h.snd,?_,?_,fun hst=>?_⟩
 ·rw [h.mem i]
  constructor
  ·rintro (⟨p,hp,rfl⟩ | hi)
   ·rcases List.mem_cons.1 hp with rfl | hp
    ·exact .inr FD
    ·exact .inl ⟨p,hp,rfl⟩
   ·exact .inr (FE _ hi)
  ·rintro (⟨p,hp,rfl⟩ | hi)
   ·exact .inl ⟨p,FE _ hp,rfl⟩
   ·rcases List.mem_cons.1 hi with hi | hi
    ·exact .inl ⟨(n,[]),FD,by omega⟩
    ·exact .inr hi
 ·have:=h.nod
  rw [List.map_cons] at this
  exact List.perm_middle.nodup_iff.1 this
 ·rcases List.mem_cons.1 hx with rfl | hx
  ·refine ⟨by omega,fun g hg=>?_⟩
   rcases h.todo (n,[]) FD g hg with h1 | h1
   ·cases h1
   ·exact h1
  ·exact h.out x hx
 ·intro A x B e
  cases A with
  | nil =>
   simp only [List.nil_append,List.cons.injEq] at e
   obtain ⟨rfl,_⟩:=e
   cases st with
   | nil=>left; have:=h.chain; simp only [Chain] at this; omega
   | cons r l=>right; exact ⟨r.1,h.chain.1,.inr ⟨r,FD,rfl⟩⟩
  | cons a A =>
   simp only [List.cons_append,List.cons.injEq] at e
   obtain ⟨rfl,e⟩:=e
   rcases h.led A x B e with h1 | ⟨p,h1,h2⟩
   ·exact .inl h1
   ·refine .inr ⟨p,h1,?_⟩
    rcases h2 with h2 | ⟨r,hr,rfl⟩
    ·exact .inl (FE _ h2)
    ·rcases List.mem_cons.1 hr with rfl | hr
     ·exact .inl FD
     ·exact .inr ⟨r,hr,rfl⟩
 ·have:=h.chain
  cases st with
  | nil=>trivial
  | cons r l=>exact this.2
 ·subst hst
  have:=h.chain
  simp only [Chain] at this
  subst this
  rfl
theorem DI.skip {bs:List DBlock} {M:List Bool} {n:Nat} {g:Int} {l:List Int} {st:List (Nat × List Int)} {o:List Int} (h:DI bs M ((n,g :: l) :: st) o) (hg:M[g.toNat]? = some true):DI bs M ((n,l) :: st) o:=by
 refine ⟨h.len,fun p hp=>?_,fun i=>?_,h.nod,h.out,fun p hp g' hg'=>?_,h.snd,fun A x B e=>?_,?_,fun hst=>(by cases hst)⟩
 ·rcases List.mem_cons.1 hp with rfl | hp
  ·exact ⟨(h.at_ _ FD).1,fun g' hg'=>(h.at_ (n,g :: l) FD).2 g' (FE _ hg')⟩
  ·exact h.at_ p (FE _ hp)
 ·rw [h.mem i]
  simp
 ·rcases List.mem_cons.1 hp with rfl | hp
  ·rcases h.todo (n,g :: l) FD g' hg' with h1 | h1
   ·rcases List.mem_cons.1 h1 with rfl | h1
    ·exact .inr hg
    ·exact .inl h1
   ·exact .inr h1
  ·exact h.todo p (FE _ hp) g' hg'
 ·rcases h.led A x B e with h1 | ⟨p,h1,h2⟩
  ·exact .inl h1
  ·refine .inr ⟨p,h1,h2.imp id ?_⟩
   rintro ⟨r,hr,rfl⟩
   rcases List.mem_cons.1 hr with rfl | hr
   ·exact ⟨(n,l),FD,rfl⟩
   ·exact ⟨r,FE _ hr,rfl⟩
 ·have:=h.chain
  cases st with
  | nil=>exact this
  | cons r l=>exact this
theorem DI.enter {bs:List DBlock} {M:List Bool} {n:Nat} {g:Int} {l:List Int} {st:List (Nat × List Int)} {o:List Int} (h:DI bs M ((n,g :: l) :: st) o) (hg:M[g.toNat]? = some false):DI bs (M.set g.toNat true) ((g.toNat,ak bs g.toNat) :: (n,l) :: st) o:=by
 have hgm:=(h.at_ (n,g :: l) FD).2 g FD
 have hgt:=aH hgm
 have hlt:=(Fw.1 hg).1
 have hgc:=sV hgt.1
 have hnM:∀ i:Nat,M[i]? = some true->i≠g.toNat:=fun i hi e=>by rw [e,hg] at hi; cases hi
 refine ⟨by rw [List.length_set]; exact h.len,fun p hp=>?_,fun i=>?_,?_,fun x hx=>⟨(h.out x hx).1,fun g' hg'=>nZ ((h.out x hx).2 g' hg')⟩,fun p hp g' hg'=>?_,fun i hi=>?_,fun A x B e=>?_,?_,fun hst=>(by cases hst)⟩
 ·rcases List.mem_cons.1 hp with rfl | hp
  ·exact ⟨hgt.2,fun g' hg'=>hg'⟩
  ·rcases List.mem_cons.1 hp with rfl | hp
   ·exact ⟨(h.at_ _ FD).1,fun g' hg'=>(h.at_ (n,g :: l) FD).2 g' (FE _ hg')⟩
   ·exact h.at_ p (FE _ hp)
 ·rw [jq hlt,h.mem i]
  simp only [List.mem_cons,exists_eq_or_imp]
  constructor
  ·rintro (rfl | h1)
   ·exact .inl (.inl rfl)
   ·rcases h1 with h1 | h1
    ·exact .inl (.inr h1)
    ·exact .inr h1
  ·rintro ((h1 | h1) | h1)
   ·exact .inl h1.symm
   ·exact .inr (.inl h1)
   ·exact .inr (.inr h1)
 ·have h1:=h.nod
  rw [List.map_cons] at h1 ⊢
  rw [List.perm_middle.nodup_iff,List.nodup_cons]
  refine ⟨fun hin=>?_,by rw [List.map_cons]; exact h1⟩
  have:M[g.toNat]? = some true:=by
   rw [h.mem]
   rcases List.mem_append.1 hin with hin | hin
   ·exact .inr hin
   ·obtain ⟨p,hp,he⟩:=List.mem_map.1 hin
    have he:p.1=g.toNat:=by omega
    rcases List.mem_cons.1 hp with rfl | hp
    ·exact .inl ⟨(n,g :: l),FD,he⟩
    ·exact .inl ⟨p,FE _ hp,he⟩
  rw [hg] at this
  cases this
 ·rcases List.mem_cons.1 hp with rfl | hp
  ·exact .inl hg'
  ·rcases List.mem_cons.1 hp with rfl | hp
   ·rcases h.todo (n,g :: l) FD g' hg' with h1 | h1
    ·rcases List.mem_cons.1 h1 with rfl | h1
     ·exact .inr ((jq hlt).2 (.inl rfl))
     ·exact .inl h1
    ·exact .inr (nZ h1)
   ·exact (h.todo p (FE _ hp) g' hg').imp id nZ
 ·rcases (jq hlt).1 hi with rfl | h1
  ·have hn:M[n]? = some true:=(h.mem n).2 (.inl ⟨(n,g :: l),FD,rfl⟩)
   exact .next (h.snd n hn) hgm (by omega)
  ·exact h.snd i h1
 ·rcases h.led A x B e with h1 | ⟨p,h1,h2⟩
  ·exact .inl h1
  ·refine .inr ⟨p,h1,h2.imp id ?_⟩
   rintro ⟨r,hr,rfl⟩
   rcases List.mem_cons.1 hr with rfl | hr
   ·exact ⟨(n,l),FE _ FD,rfl⟩
   ·exact ⟨r,FE _ (FE _ hr),rfl⟩
 ·have:=h.chain
  refine ⟨by rw [hgc]; exact hgm,?_⟩
  cases st with
  | nil=>exact this
  | cons r l=>exact this
theorem Dfs.keeps {bs:List DBlock} {M M':List Bool} {st:List (Nat × List Int)} {o o':List Int} (h:Dfs bs M st o M' o'):DI bs M st o->DI bs M' [] o':=by
 induction h with
 | done=>exact fun h=>h
 | leave _ ih=>exact fun h=>ih h.leave
 | skip hg _ ih=>exact fun h=>ih (h.skip hg)
 | enter hg _ ih=>exact fun h=>ih (h.enter hg)
theorem DI.start {bs:List DBlock} (h:bs≠[]):DI bs ((List.replicate bs.length false).set 0 true) [(0,ak bs 0)] []:=by
 have hl:0 < bs.length:=List.length_pos_iff.2 h
 have hlr:0 < (List.replicate bs.length false).length:=by simpa using hl
 have none_:∀ i:Nat,¬ (List.replicate bs.length false)[i]? = some true:=fun i h=>by
  rw [List.getElem?_replicate] at h
  split at h <;> cases h
 refine ⟨by simp,fun p hp=>?_,fun i=>?_,by simp,fun x hx=>(by cases hx),fun p hp g hg=>?_,fun i hi=>?_,fun A x B e=>(by simp at e),rfl,fun hst=>(by cases hst)⟩
 ·rw [List.mem_singleton] at hp
  subst hp
  exact ⟨hl,fun g hg=>hg⟩
 ·rw [jq hlr]
  simp only [List.mem_singleton,exists_eq_left,List.not_mem_nil,or_false]
  constructor
  ·rintro (rfl | h)
   ·rfl
   ·exact absurd h (none_ i)
  ·rintro rfl
   exact .inl rfl
 ·rw [List.mem_singleton] at hp
  subst hp
  exact .inl hg
 ·rcases (jq hlr).1 hi with rfl | h
  ·exact .start (by omega) hl
  ·exact absurd h (none_ i)
structure OI (bs:List DBlock) (o:List Int):Prop where
 mem:∀ i:Nat,(i:Int) ∈ o ↔ Rc bs (-1) i
 pos:∀ x ∈ o,0<=x/\x < (bs.length:Int)
 nod:o.Nodup
 led:∀ (A:List Int) (x:Int) (B:List Int),o=A ++ x :: B->x=0\/∃ p:Nat,x ∈ ak bs p/\(p:Int) ∈ A
 first:bs≠[]->o.head? = some 0
theorem we.keeps {bs:List DBlock} {o:List Int} (h:we bs o):OI bs o:=by
 rcases h with ⟨rfl,rfl⟩ | ⟨h0,M',hD⟩
 ·refine ⟨fun i=>⟨fun h=>(by cases h),fun h=>absurd h.lt (by simp)⟩,fun x hx=>(by cases hx),List.nodup_nil,fun A x B e=>(by simp at e),fun h=>absurd rfl h⟩
 ·have h:=hD.keeps (DI.start h0)
  have hmem:∀ i:Nat,M'[i]? = some true ↔ (i:Int) ∈ o:=fun i=>by rw [h.mem i]; simp
  have hfull:vC bs (-1) M':=by
   have hhd:=h.last rfl
   have h0o:(0:Int) ∈ o:=by
    cases o with
    | nil=>cases hhd
    | cons a o=>simp only [List.head?_cons,Fy] at hhd; subst hhd; exact FD
   refine nY h.len h.snd (fun _ _=>(hmem 0).2 h0o) (fun i _ hi g hg _=>?_)
   have:=(h.out i ((hmem i).1 hi)).2 g (by simpa using hg)
   exact this
  refine ⟨fun i=>by rw [<- hmem i]; exact hfull.2 i,fun x hx=>?_,by have:=h.nod; simpa using this,fun A x B e=>?_,fun _=>h.last rfl⟩
  ·have hx0:=(h.out x hx).1
   have:Rc bs (-1) x.toNat:=(hfull.2 _).1 ((hmem _).2 (by rw [sV hx0]; exact hx))
   have:=this.lt
   omega
  ·rcases h.led A x B e with h1 | ⟨p,h1,h2⟩
   ·exact .inl h1
   ·refine .inr ⟨p,h1,?_⟩
    rcases h2 with h2 | ⟨r,hr,_⟩
    ·exact h2
    ·cases hr
end Go.Ab
namespace Go.Ab.Q12
open Go Go.Ab Go.Proofs
end Go.Ab.Q12
end
section
set_option maxRecDepth 10000
namespace Go.Ab
def Dm (bs:List DBlock) (a b:Nat):Prop:=Rc bs (-1) b/\(a=b\/¬ Rc bs a b)
inductive Wy (bs:List DBlock) (no:Int) (x:Nat):Nat->Prop
 | refl:Wy bs no x x
 | next {i:Nat} {g:Int} (hi:Wy bs no x i) (hg:g ∈ ak bs i) (hn:g≠no):Wy bs no x g.toNat
theorem Wy.rc {bs:List DBlock} {no:Int} {x i:Nat} (hx:Rc bs no x) (h:Wy bs no x i):Rc bs no i:=by
 induction h with
 | refl=>exact hx
 | next _ hg hn ih=>exact .next ih hg hn
theorem Rc.any {bs:List DBlock} {no:Int} {i:Nat} (h:Rc bs no i):Rc bs (-1) i:=by
 induction h with
 | start _ h0=>exact .start (by omega) h0
 | next _ hg _ ih=>exact .next ih hg (by have:=aH hg; omega)
theorem Rc.DY {bs:List DBlock} {a:Nat} (h:Rc bs a a):False:=by
 have key:∀ {i:Nat},Rc bs a i->i≠a:=by
  intro i h
  cases h with
  | start h _=>omega
  | next _ hg hn=>have:=aH hg; omega
 exact key h rfl
theorem Rc.split {bs:List DBlock} {no:Int} {c:Nat} (h:Rc bs no c) (b:Nat):Rc bs b c\/Rc bs no b:=by
 induction h with
 | start h0 hl =>
  by_cases hb:b=0
  ·subst hb; exact .inr (.start h0 hl)
  ·exact .inl (.start (by omega) hl)
 | @next i g hi hg hn ih =>
  have ht:=aH hg
  rcases ih with ih | ih
  ·by_cases hb:g=(b:Int)
   ·right
    have:=Rc.next hi hg hn
    rw [hb] at this
    simpa using this
   ·exact .inl (.next ih hg hb)
  ·exact .inr ih
theorem Dm.refl {bs:List DBlock} {b:Nat} (h:Rc bs (-1) b):Dm bs b b:=⟨h,.inl rfl⟩
theorem Dm.self {bs:List DBlock} {a b:Nat}:Dm bs a b ↔ Rc bs (-1) b/\¬ Rc bs a b:=by
 constructor
 ·rintro ⟨h,rfl | h2⟩
  ·exact ⟨h,fun h=>h.DY⟩
  ·exact ⟨h,h2⟩
 ·exact fun ⟨h1,h2⟩=>⟨h1,.inr h2⟩
theorem Dm.up {bs:List DBlock} {a b:Nat} (h:Dm bs a b):Rc bs (-1) a:=by
 rw [Dm.self] at h
 rcases h.1.split a with h1 | h1
 ·exact absurd h1 h.2
 ·exact h1
theorem Dm.trans {bs:List DBlock} {a b c:Nat} (h:Dm bs a b) (h':Dm bs b c):Dm bs a c:=by
 rw [Dm.self] at *
 refine ⟨h'.1,fun hac=>?_⟩
 rcases hac.split b with h1 | h1
 ·exact h'.2 h1
 ·exact h.2 h1
theorem CT {bs:List DBlock} {a b i:Nat} (hab:a≠b) (h:Rc bs (-1) i):(Rc bs a i/\Rc bs b i)\/Rc bs b a\/Rc bs a b:=by
 induction h with
 | start h0 hl =>
  by_cases ha:a=0
  ·subst ha; exact .inr (.inl (.start (by omega) hl))
  ·by_cases hb:b=0
   ·subst hb; exact .inr (.inr (.start (by omega) hl))
   ·exact .inl ⟨.start (by omega) hl,.start (by omega) hl⟩
 | @next i g hi hg hn ih =>
  have ht:=aH hg
  rcases ih with ⟨h1,h2⟩ | ih
  ·by_cases ha:g=(a:Int)
   ·right; left
    have:=Rc.next h2 hg (by omega)
    rw [ha] at this
    simpa using this
   ·by_cases hb:g=(b:Int)
    ·right; right
     have:=Rc.next h1 hg ha
     rw [hb] at this
     simpa using this
    ·exact .inl ⟨.next h1 hg ha,.next h2 hg hb⟩
  ·exact .inr ih
theorem E1 {bs:List DBlock} {a b i:Nat} (hab:a≠b) (h:Rc bs (-1) i):(Rc bs a i/\Rc bs b i)\/Wy bs b a i\/Wy bs a b i:=by
 induction h with
 | start h0 hl =>
  by_cases ha:a=0
  ·subst ha; exact .inr (.inl .refl)
  ·by_cases hb:b=0
   ·subst hb; exact .inr (.inr .refl)
   ·exact .inl ⟨.start (by omega) hl,.start (by omega) hl⟩
 | @next i g hi hg hn ih =>
  have ht:=aH hg
  by_cases ha:g=(a:Int)
  ·rw [ha,Int.toNat_natCast]; exact .inr (.inl .refl)
  ·by_cases hb:g=(b:Int)
   ·rw [hb,Int.toNat_natCast]; exact .inr (.inr .refl)
   ·rcases ih with ⟨h1,h2⟩ | h1 | h1
    ·exact .inl ⟨.next h1 hg ha,.next h2 hg hb⟩
    ·exact .inr (.inl (.next h1 hg hb))
    ·exact .inr (.inr (.next h1 hg ha))
theorem Dm.anti {bs:List DBlock} {a b:Nat} (h:Dm bs a b) (h':Dm bs b a):a=b:=by
 by_cases hab:a=b
 ·exact hab
 ·exfalso
  rw [Dm.self] at *
  rcases CT hab h.1 with ⟨h1,_⟩ | h1 | h1
  ·exact h.2 h1
  ·exact h'.2 h1
  ·exact h.2 h1
theorem Dm.total {bs:List DBlock} {a b c:Nat} (h:Dm bs a c) (h':Dm bs b c):Dm bs a b\/Dm bs b a:=by
 by_cases hab:a=b
 ·subst hab; exact .inl (.refl h.up)
 ·have ha:=h.up
  have hb:=h'.up
  rw [Dm.self] at h h'
  rcases E1 hab h.1 with ⟨h1,_⟩ | h1 | h1
  ·exact absurd h1 h.2
  ·right
   exact Dm.self.2 ⟨ha,fun hr=>h'.2 (h1.rc hr)⟩
  ·left
   exact Dm.self.2 ⟨hb,fun hr=>h.2 (h1.rc hr)⟩
theorem Dm.zero {bs:List DBlock} {b:Nat} (h:Rc bs (-1) b):Dm bs 0 b:=by
 refine Dm.self.2 ⟨h,fun hr=>?_⟩
 have key:∀ {i:Nat},Rc bs ((0:Nat):Int) i->False:=by
  intro i h
  induction h with
  | start h _=>exact h rfl
  | next _ _ _ ih=>exact ih
 exact key hr
theorem Dm.step {bs:List DBlock} {a b:Nat} {g:Int} (h:Rc bs (-1) b) (hg:g ∈ ak bs b) (hd:Dm bs a g.toNat) (hn:g≠(a:Int)):Dm bs a b:=by
 rw [Dm.self] at *
 exact ⟨h,fun hr=>hd.2 (.next hr hg hn)⟩
def Nx (bs:List DBlock) (a b:Nat):Prop:=a≠b/\Dm bs a b/\∀ c,c≠b->Dm bs c b->Dm bs c a
theorem Nx.det {bs:List DBlock} {a a' b:Nat} (h:Nx bs a b) (h':Nx bs a' b):a=a':=(h'.2.2 a h.1 h.2.1).anti (h.2.2 a' h'.1 h'.2.1)
theorem Nx.ex {bs:List DBlock} {b:Nat} (h:Rc bs (-1) b) (hb:b≠0):∃ a,Nx bs a b:=by
 have key : ∀ k : Nat, ∃ a, a ≠ b ∧ Dm bs a b ∧ ∀ c, c < k → c ≠ b → Dm bs c b → Dm bs c a := by
  intro k
  induction k with
  | zero=>exact ⟨0,Ne.symm hb,.zero h,fun c hc=>absurd hc (Nat.not_lt_zero _)⟩
  | succ k ih =>
   obtain ⟨a,h1,h2,h3⟩:=ih
   by_cases hk:k≠b/\Dm bs k b
   ·rcases h2.total hk.2 with h4 | h4
    ·refine ⟨k,hk.1,hk.2,fun c hc hcb hcd=>?_⟩
     rcases Nat.lt_or_ge c k with h5 | h5
     ·exact (h3 c h5 hcb hcd).trans h4
     ·have:c=k:=by omega
      subst this
      exact .refl hk.2.up
    ·refine ⟨a,h1,h2,fun c hc hcb hcd=>?_⟩
     rcases Nat.lt_or_ge c k with h5 | h5
     ·exact h3 c h5 hcb hcd
     ·have:c=k:=by omega
      subst this
      exact h4
   ·refine ⟨a,h1,h2,fun c hc hcb hcd=>?_⟩
    rcases Nat.lt_or_ge c k with h5 | h5
    ·exact h3 c h5 hcb hcd
    ·have:c=k:=by omega
     subst this
     exact absurd ⟨hcb,hcd⟩ hk
 obtain ⟨a,h1,h2,h3⟩:=key bs.length
 exact ⟨a,h1,h2,fun c hc hd=>h3 c hd.up.lt hc hd⟩
end Go.Ab
end
section
set_option maxRecDepth 10000
namespace Go.Ab
open Classical in
noncomputable def ovN (bs:List DBlock) (b:Nat):Int:=if h:∃ a,Nx bs a b then ((h.choose:Nat):Int) else -1
theorem Cx {bs:List DBlock} {a b:Nat} (h:Nx bs a b):ovN bs b=(a:Int):=by
 have hx:∃ a,Nx bs a b:=⟨a,h⟩
 unfold ovN
 rw [dif_pos hx,(hx.choose_spec).det h]
theorem Nx.reached {bs:List DBlock} {a b:Nat} (h:Nx bs a b):Rc bs (-1) b/\b≠0:=by
 refine ⟨h.2.1.1,fun h0=>h.1 ?_⟩
 subst h0
 exact h.2.1.anti (.zero h.2.1.up)
theorem Dk {bs:List DBlock} {b:Nat} (h:¬ (Rc bs (-1) b/\b≠0)):ovN bs b=-1:=by
 unfold ovN
 rw [dif_neg]
 rintro ⟨a,ha⟩
 exact h ha.reached
noncomputable def iR (bs:List DBlock):List Int:=(List.range bs.length).map (ovN bs)
theorem qj (bs:List DBlock):(iR bs).length=bs.length:=by simp [iR]
theorem pM {bs:List DBlock} {b:Nat} (h:b < bs.length):(iR bs)[b]? = some (ovN bs b):=by simp [iR,h]
end Go.Ab
end
section
namespace Go.Ab
inductive Both (o:List Int):Int->Int->Int->Prop
 | done {a:Int}:Both o a a a
 | left {a b a' r:Int}:a≠b->a > b->0<=a->o[a.toNat]? = some a'->Both o a' b r->Both o a b r
 | right {a b b' r:Int}:a≠b->¬ a > b->0<=b->o[b.toNat]? = some b'->Both o a b' r->Both o a b r
inductive Bths (o:List Int):Int->List Int->Int->Prop
 | nil {v:Int}:Bths o v [] v
 | cons {v n v' r:Int} {l:List Int}:Both o v n v'->Bths o v' l r->Bths o v (n :: l) r
def AllP (o l:List Int) (r:Int):Prop:=∃ v,l.getLast? = some v/\Bths o v l.reverse r
inductive Up (T:Nat->Nat):Nat->Nat->Prop
 | refl {n:Nat}:Up T n n
 | step {n x:Nat}:n≠0->Up T (T n) x->Up T n x
def Low (N:Nat) (T:Nat->Nat):Prop:=∀ n,n≠0->n < N->T n < n
theorem Up.trans {T:Nat->Nat} {a b c:Nat} (h:Up T a b) (h':Up T b c):Up T a c:=by
 induction h with
 | refl=>exact h'
 | step h0 _ ih=>exact .step h0 (ih h')
theorem Up.le {N:Nat} {T:Nat->Nat} (hT:Low N T) {n x:Nat} (h:Up T n x):n < N->x<=n:=by
 induction h with
 | refl=>intro _; exact Nat.le_refl _
 | step h0 _ ih=>intro hn; have:=hT _ h0 hn; exact Nat.le_of_lt (Nat.lt_of_le_of_lt (ih (by omega)) this)
theorem Up.inv {T:Nat->Nat} {n x:Nat} (h:Up T n x) (hx:x≠n):n≠0/\Up T (T n) x:=by
 cases h with
 | refl=>exact absurd rfl hx
 | step h0 h=>exact ⟨h0,h⟩
theorem Up.zero {T:Nat->Nat} {x:Nat} (h:Up T 0 x):x=0:=by
 cases h with
 | refl=>rfl
 | step h0 _=>exact absurd rfl h0
def iq (N:Nat) (o:List Int) (T:Nat->Nat):Prop:=o.length=N/\∀ n,n < N->o[n]? = some ((T n:Nat):Int)
theorem D5 {N:Nat} {o:List Int} {T:Nat->Nat} (ho:iq N o T) (hT:Low N T):∀ (d a b:Nat),a + b<=d->a < N->b < N->∃ r:Nat,Both o a b r/\r<=a/\∀ x,Up T r x ↔ Up T a x/\Up T b x:=by
 intro d
 induction d with
 | zero =>
  intro a b h ha hb
  have:a=0:=by omega
  subst this
  have:b=0:=by omega
  subst this
  exact ⟨0,.done,Nat.le_refl _,fun x=>⟨fun h=>⟨h,h⟩,fun h=>h.1⟩⟩
 | succ d ih =>
  intro a b h ha hb
  by_cases hab:a=b
  ·subst hab
   exact ⟨a,.done,Nat.le_refl _,fun x=>⟨fun h=>⟨h,h⟩,fun h=>h.1⟩⟩
  ·by_cases hgt:b < a
   ·have hl:=hT a (by omega) ha
    obtain ⟨r,h1,h2,h3⟩:=ih (T a) b (by omega) (by omega) hb
    refine ⟨r,.left (by omega) (by omega) (by omega) (by rw [Int.toNat_natCast]; exact ho.2 a ha) h1,by omega,fun x=>?_⟩
    rw [h3]
    constructor
    ·exact fun ⟨h4,h5⟩=>⟨.step (by omega) h4,h5⟩
    ·rintro ⟨h4,h5⟩
     refine ⟨(h4.inv fun e=>?_).2,h5⟩
     subst e
     have:=h5.le hT hb
     omega
   ·have hl:=hT b (by omega) hb
    obtain ⟨r,h1,h2,h3⟩:=ih a (T b) (by omega) ha (by omega)
    refine ⟨r,.right (by omega) (by omega) (by omega) (by rw [Int.toNat_natCast]; exact ho.2 b hb) h1,h2,fun x=>?_⟩
    rw [h3]
    constructor
    ·exact fun ⟨h4,h5⟩=>⟨h4,.step (by omega) h5⟩
    ·rintro ⟨h4,h5⟩
     refine ⟨h4,(h5.inv fun e=>?_).2⟩
     subst e
     have:=h4.le hT ha
     omega
theorem Ad {N:Nat} {o:List Int} {T:Nat->Nat} (ho:iq N o T) (hT:Low N T):∀ (l:List Nat) (v:Nat),v < N->(∀ p ∈ l,p < N)->∃ r:Nat,Bths o v (l.map fun p:Nat=>(p:Int)) r/\r<=v/\∀ x,Up T r x ↔ Up T v x/\∀ p ∈ l,Up T p x
 | [],v,hv,hl=>⟨v,.nil,Nat.le_refl _,fun x=>by simp⟩
 | p :: l,v,hv,hl=>by
  obtain ⟨r,h1,h2,h3⟩:=D5 ho hT _ v p (Nat.le_refl _) hv (hl p FD)
  obtain ⟨s,h4,h5,h6⟩:=Ad ho hT l r (by omega) (fun q hq=>hl q (FE _ hq))
  refine ⟨s,.cons h1 h4,by omega,fun x=>?_⟩
  rw [h6,h3]
  simp only [List.mem_cons,forall_eq_or_imp,and_assoc]
theorem all_ex {N:Nat} {o:List Int} {T:Nat->Nat} (ho:iq N o T) (hT:Low N T) {l:List Nat} (h0:l≠[]) (hl:∀ p ∈ l,p < N):∃ r:Nat,AllP o (l.map fun p:Nat=>(p:Int)) r/\r < N/\∀ x,Up T r x ↔ ∀ p ∈ l,Up T p x:=by
 have hm:=List.getLast_mem h0
 obtain ⟨r,h1,h2,h3⟩:=Ad ho hT l.reverse (l.getLast h0) (hl _ hm) (fun p hp=>hl p (List.mem_reverse.1 hp))
 have:=hl _ hm
 refine ⟨r,⟨((l.getLast h0:Nat):Int),?_,?_⟩,by omega,fun x=>?_⟩
 ·rw [List.getLast?_map,List.getLast?_eq_some_getLast h0]; rfl
 ·rw [<- List.map_reverse]; exact h1
 ·rw [h3]
  constructor
  ·exact fun h p hp=>h.2 p (List.mem_reverse.2 hp)
  ·exact fun h=>⟨h _ hm,fun p hp=>h p (List.mem_reverse.1 hp)⟩
inductive Rv (pr:Nat->List Nat) (d:Nat):Nat->Prop
 | start:0≠d->Rv pr d 0
 | next {p n:Nat}:Rv pr d p->p ∈ pr n->n≠d->Rv pr d n
structure Grf (N:Nat) (pr:Nat->List Nat) (p0:Nat->Nat):Prop where
 in_:∀ n,n < N->∀ p ∈ pr n,p < N
 mem:∀ n,n≠0->n < N->p0 n ∈ pr n
 low:∀ n,n≠0->n < N->p0 n < n
structure TI (N:Nat) (pr:Nat->List Nat) (p0:Nat->Nat) (m:Nat) (T:Nat->Nat):Prop where
 low:Low N T
 meet:∀ n,n≠0->n < N->∀ c,(∀ p ∈ pr n,Up T p c)->Up T (T n) c
 way:∀ n,n≠0->n < N->∀ x,(n < m\/m<=x)->Up T (T n) x->Up T (p0 n) x
 dom:∀ n,n < N->∀ x,¬ Rv pr x n->Up T n x
theorem TI.start {N:Nat} {pr:Nat->List Nat} {p0:Nat->Nat} (hG:Grf N pr p0) (m:Nat):TI N pr p0 m p0:=by
 refine ⟨hG.low,fun n h0 hn c h=>h _ (hG.mem n h0 hn),fun n h0 hn x _ h=>h,?_⟩
 intro n
 induction n using Nat.strongRecOn with
 | _ n ih =>
  intro hn x hx
  by_cases h0:n=0
  ·subst h0
   by_cases hx0:x=0
   ·subst hx0; exact .refl
   ·exact absurd (Rv.start (Ne.symm hx0)) hx
  ·by_cases hxn:x=n
   ·subst hxn; exact .refl
   ·have hl:=hG.low n h0 hn
    exact .step h0 (ih _ hl (by omega) x fun h=>hx (.next h (hG.mem n h0 hn) (Ne.symm hxn)))
theorem TI.again {N m:Nat} {pr:Nat->List Nat} {p0:Nat->Nat} {T:Nat->Nat} (h:TI N pr p0 m T) (hm:N<=m):TI N pr p0 1 T :=
 ⟨h.low,h.meet,fun n h0 hn x _ hu=>h.way n h0 hn x (.inl (by omega)) hu,h.dom⟩
def nw (T:Nat->Nat) (m v:Nat) (n:Nat):Nat:=if n=m then v else T n
theorem iE {T:Nat->Nat} {m v:Nat}:nw T m v m=v:=by simp [nw]
theorem gD {T:Nat->Nat} {m v n:Nat} (h:n≠m):nw T m v n=T n:=by simp [nw,h]
section
variable {N:Nat} {pr:Nat->List Nat} {p0:Nat->Nat} {m v:Nat} {T:Nat->Nat} (hG:Grf N pr p0) (h:TI N pr p0 m T) (hm0:m≠0) (hm:m < N) (hv:∀ x,Up T v x ↔ ∀ p ∈ pr m,Up T p x)
include hG h hm0 hm hv
theorem TI.lower:Up T (T m) v:=h.meet m hm0 hm v ((hv v).1 .refl)
theorem TI.yD:v<=T m:=(TI.lower hG h hm0 hm hv).le h.low (by have:=h.low m hm0 hm; omega)
theorem TI.s1 {n x:Nat} (hu:Up (nw T m v) n x):Up T n x:=by
 induction hu with
 | refl=>exact .refl
 | @step n x h0 _ ih =>
  by_cases hn:n=m
  ·subst hn
   rw [iE] at ih
   exact .step h0 ((TI.lower hG h hm0 hm hv).trans ih)
  ·rw [gD hn] at ih
   exact .step h0 ih
theorem TI.s2 {n x:Nat} (hu:Up T n x):n < N->(¬ Up T n m\/m<=x)->Up (nw T m v) n x:=by
 induction hu with
 | refl=>exact fun _ _=>.refl
 | @step n x h0 hu ih =>
  intro hn hc
  have hl:=h.low n h0 hn
  by_cases hnm:n=m
  ·subst hnm
   exfalso
   rcases hc with hc | hc
   ·exact hc .refl
   ·have:=hu.le h.low (by omega)
    omega
  ·refine .step h0 ?_
   rw [gD hnm]
   exact ih (by omega) (hc.imp (fun hc hu'=>hc (.step h0 hu')) id)
theorem TI.below {n:Nat} (hn:n < m):¬ Up T n m:=fun hu=>by
 have:=hu.le h.low (by omega)
 omega
theorem TI.v_lt:v < m:=by
 have h1:=TI.yD hG h hm0 hm hv
 have h2:=h.low m hm0 hm
 omega
theorem TI.s3 {n x:Nat} (hn:n < N) (hu:Up T n m) (hx:Up T v x):Up (nw T m v) n x:=by
 have hvl:=TI.v_lt hG h hm0 hm hv
 refine (TI.s2 hG h hm0 hm hv hu hn (.inr (Nat.le_refl _))).trans (.step hm0 ?_)
 rw [iE]
 exact TI.s2 hG h hm0 hm hv hx (by omega) (.inl (TI.below hG h hm0 hm hv hvl))
theorem TI.s4 {n c:Nat} (hu:Up T n m):n < N->Up (nw T m v) n c->c < m->Up T v c:=by
 have key:∀ {n x:Nat},Up T n x->x=m->n < N->Up (nw T m v) n c->c < m->Up T v c:=by
  intro n x hu
  induction hu with
  | @refl n =>
   rintro rfl hn hu' hc
   have:=(hu'.inv (by omega)).2
   rw [iE] at this
   exact TI.s1 hG h hm0 hm hv this
  | @step n x h0 hux ih =>
   rintro hxm hn hu' hc
   have hl:=h.low n h0 hn
   have hle:=hux.le h.low (by omega)
   have:=(hu'.inv (by omega)).2
   rw [gD (by omega)] at this
   exact ih hxm (by omega) this hc
 exact key hu rfl
theorem TI.ways {x:Nat} (hx:x < m) (hr:Rv pr x m):∀ n,n < N->Up T n m->Rv pr x n:=by
 intro n
 induction n using Nat.strongRecOn with
 | _ n ih =>
  intro hn hu
  by_cases hnm:n=m
  ·subst hnm; exact hr
  ·obtain ⟨h0,hu'⟩:=hu.inv (Ne.symm hnm)
   have hl:=hG.low n h0 hn
   have hle:=hu.le h.low hn
   have:=ih (p0 n) hl (by omega) (h.way n h0 hn m (.inr (Nat.le_refl _)) hu')
   exact .next this (hG.mem n h0 hn) (by omega)
theorem TI.next:TI N pr p0 (m + 1) (nw T m v):=by
 have hvl:=TI.v_lt hG h hm0 hm hv
 have below:=fun {n:Nat} (hn:n < m)=>TI.below hG h hm0 hm hv hn
 refine ⟨fun n h0 hn=>?_,fun n h0 hn c hc=>?_,fun n h0 hn x hx hu=>?_,fun n hn x hx=>?_⟩
 ·by_cases hnm:n=m
  ·subst hnm; rw [iE]; exact hvl
  ·rw [gD hnm]; exact h.low n h0 hn
 ·by_cases hnm:n=m
  ·subst hnm
   rw [iE]
   exact TI.s2 hG h hm0 hm hv ((hv c).2 fun p hp=>TI.s1 hG h hm0 hm hv (hc p hp)) (by omega) (.inl (below hvl))
  ·rw [gD hnm]
   have hl:=h.low n h0 hn
   have hu:=h.meet n h0 hn c fun p hp=>TI.s1 hG h hm0 hm hv (hc p hp)
   by_cases h1:Up T (T n) m
   ·by_cases h2:m<=c
    ·exact TI.s2 hG h hm0 hm hv hu (by omega) (.inr h2)
    ·have h3:=h.way n h0 hn m (.inr (Nat.le_refl _)) h1
     have hl2:=hG.low n h0 hn
     exact TI.s3 hG h hm0 hm hv (by omega) h1 (TI.s4 hG h hm0 hm hv h3 (by omega) (hc _ (hG.mem n h0 hn)) (by omega))
   ·exact TI.s2 hG h hm0 hm hv hu (by omega) (.inl h1)
 ·have hl:=hG.low n h0 hn
  by_cases hnm:n=m
  ·subst hnm
   rw [iE] at hu
   exact TI.s2 hG h hm0 hm hv ((hv x).1 (TI.s1 hG h hm0 hm hv hu) _ (hG.mem n h0 hn)) (by omega) (.inl (below hl))
  ·rw [gD hnm] at hu
   have hu:=TI.s1 hG h hm0 hm hv hu
   rcases Nat.lt_or_ge n m with h1 | h1
   ·exact TI.s2 hG h hm0 hm hv (h.way n h0 hn x (.inl h1) hu) (by omega) (.inl (below (by omega)))
   ·have hx:m<=x:=by omega
    exact TI.s2 hG h hm0 hm hv (h.way n h0 hn x (.inr hx) hu) (by omega) (.inr hx)
 ·have hu:=h.dom n hn x hx
  by_cases h1:Up T n m
  ·by_cases h2:m<=x
   ·exact TI.s2 hG h hm0 hm hv hu hn (.inr h2)
   ·have h3:¬ Rv pr x m:=fun hr=>hx (TI.ways hG h hm0 hm hv (by omega) hr n hn h1)
    refine TI.s3 hG h hm0 hm hv hn h1 ((hv x).2 fun p hp=>h.dom p (hG.in_ m hm p hp) x fun hr=>h3 (.next hr hp (by omega)))
  ·exact TI.s2 hG h hm0 hm hv hu hn (.inl h1)
end
theorem TI.last {N:Nat} {pr:Nat->List Nat} {p0:Nat->Nat} {T:Nat->Nat} {m:Nat} (hG:Grf N pr p0) (h:TI N pr p0 m T) (hf:∀ n,n≠0->n < N->∀ x,Up T (T n) x ↔ ∀ p ∈ pr n,Up T p x) {n x:Nat} (hn:n < N):Up T n x ↔ ¬ Rv pr x n:=by
 refine ⟨fun hu hr=>?_,h.dom n hn x⟩
 have key:∀ {n:Nat},Rv pr x n->n < N->¬ Up T n x:=by
  intro n hr
  induction hr with
  | start h0=>exact fun _ hu=>h0 hu.zero.symm
  | @next p n _ hp hne ih =>
   intro hn hu
   obtain ⟨h0,hu⟩:=hu.inv (Ne.symm hne)
   exact ih (hG.in_ n hn p hp) ((hf n h0 hn x).1 hu p hp)
 exact key hr hn hu
def high (T:Nat->Nat):Nat->Nat
 | 0=>0
 | n + 1=>high T n + T n
theorem yu {T:Nat->Nat} {m v:Nat}:∀ N,m < N->high (nw T m v) N + T m=high T N + v
 | 0,h=>absurd h (Nat.not_lt_zero _)
 | N + 1, h => by
  simp only [high]
  by_cases hm:m=N
  ·subst hm
   have:∀ k,k<=m->high (nw T m v) k=high T k:=by
    intro k
    induction k with
    | zero=>intro _; rfl
    | succ k ih=>intro hk; simp only [high,ih (by omega)]; rw [gD (by omega)]
   rw [this m (Nat.le_refl _),iE]
   omega
  ·have:=yu (T:=T) (m:=m) (v:=v) N (by omega)
   rw [gD (T:=T) (n:=N) (by omega)]
   omega
def aS (l:List Nat):List Int:=l.map fun p:Nat=>(p:Int)
end Go.Ab
end
section
set_option maxRecDepth 10000
namespace Go.Ab
def blk (o:List Int) (n:Nat):Nat:=(o[n]?.getD 0).toNat
section
variable {bs:List DBlock} {o:List Int} (hI:OI bs o)
include hI
theorem OI.at_ {n:Nat} (h:n < o.length):o[n]? = some ((blk o n:Nat):Int):=by
 have hx:=Fx h
 have hp:=(hI.pos _ (FF hx)).1
 unfold blk
 rw [hx]
 simp only [Option.getD_some]
 congr 1
 omega
theorem OI.ip {n:Nat} (h:n < o.length):blk o n < bs.length:=by
 have:=(hI.pos _ (FF (hI.at_ h))).2
 omega
theorem OI.inj {n m:Nat} (h:n < o.length) (h':m < o.length) (e:blk o n=blk o m):n=m:=by
 have h1:=hI.at_ h
 have h2:=hI.at_ h'
 rw [e,<- h2] at h1
 exact (List.getElem?_inj h hI.nod).1 h1
theorem OI.rank {b:Nat} (h:Rc bs (-1) b):∃ n,n < o.length/\blk o n=b:=by
 obtain ⟨n,hn,e⟩:=List.mem_iff_getElem.1 ((hI.mem b).2 h)
 refine ⟨n,hn,?_⟩
 have:=hI.at_ hn
 rw [Fx hn,e] at this
 simp only [Fy] at this
 omega
theorem OI.rc {n:Nat} (h:n < o.length):Rc bs (-1) (blk o n):=(hI.mem _).1 (FF (hI.at_ h))
theorem OI.zero (h:bs≠[]):0 < o.length/\blk o 0=0:=by
 have:=hI.first h
 cases o with
 | nil=>cases this
 | cons a o =>
  simp only [List.head?_cons,Fy] at this
  subst this
  exact ⟨by simp,rfl⟩
end
def mc (o:List Int) (k n:Nat) (l:List Int):List Nat:=(l.filter fun g=>decide (g=((blk o n:Nat):Int))).map fun _=>k
def qg (bs:List DBlock) (o:List Int):Nat->Nat->List Nat
 | 0,_=>[]
 | k + 1,n=>qg bs o k n ++ mc o k n (ak bs (blk o k))
def prL (bs:List DBlock) (o:List Int) (n:Nat):List Nat:=qg bs o o.length n
theorem mL {o:List Int} {k n p:Nat} {l:List Int}:p ∈ mc o k n l ↔ p=k/\((blk o n:Nat):Int) ∈ l:=by
 unfold mc
 simp only [List.mem_map,List.mem_filter,decide_eq_true_eq]
 constructor
 ·rintro ⟨g,⟨h1,rfl⟩,rfl⟩; exact ⟨rfl,h1⟩
 ·rintro ⟨rfl,h⟩; exact ⟨_,⟨h,rfl⟩,rfl⟩
theorem s8 {bs:List DBlock} {o:List Int} {n p:Nat}:∀ {k:Nat},p ∈ qg bs o k n ↔ p < k/\((blk o n:Nat):Int) ∈ ak bs (blk o p)
 | 0=>by simp [qg]
 | k + 1 => by
  simp only [qg,List.mem_append,s8 (k:=k),mL]
  constructor
  ·rintro (⟨h1,h2⟩ | ⟨rfl,h⟩)
   ·exact ⟨by omega,h2⟩
   ·exact ⟨by omega,h⟩
  ·rintro ⟨h1,h2⟩
   by_cases e:p=k
   ·subst e; exact .inr ⟨rfl,h2⟩
   ·exact .inl ⟨by omega,h2⟩
theorem oY {bs:List DBlock} {o:List Int} {n p:Nat}:p ∈ prL bs o n ↔ p < o.length/\((blk o n:Nat):Int) ∈ ak bs (blk o p):=s8
theorem q9 {bs:List DBlock} {o:List Int} {n:Nat}:∀ (k:Nat),(qg bs o k n).Pairwise (·<=·)
 | 0=>.nil
 | k + 1 => by
  simp only [qg]
  refine List.pairwise_append.2 ⟨q9 k,?_,fun a ha b hb=>?_⟩
  ·refine List.pairwise_of_forall_mem_list fun a ha b hb=>?_
   rw [(mL.1 ha).1,(mL.1 hb).1]
   exact Nat.le_refl _
  ·have:=(s8.1 ha).1
   rw [(mL.1 hb).1]
   omega
def p0L (bs:List DBlock) (o:List Int) (n:Nat):Nat:=(prL bs o n)[0]?.getD 0
theorem E9 {bs:List DBlock} {o:List Int} {n p:Nat} (h:p ∈ prL bs o n):p0L bs o n ∈ prL bs o n/\p0L bs o n<=p:=by
 have hs:=q9 (bs:=bs) (o:=o) (n:=n) o.length
 unfold p0L
 cases hl:prL bs o n with
 | nil=>rw [hl] at h; cases h
 | cons a l =>
  unfold prL at hl
  rw [hl] at hs
  have h1:=(List.pairwise_cons.1 hs).1
  refine ⟨by simp,?_⟩
  unfold prL at h
  rw [hl] at h
  rcases List.mem_cons.1 h with rfl | h
  ·simp
  ·have:=h1 p h
   simpa using this
theorem p0_at {bs:List DBlock} {o:List Int} {n:Nat} (h:prL bs o n≠[]):(prL bs o n)[0]? = some (p0L bs o n):=by
 unfold p0L
 cases hl:prL bs o n with
 | nil=>exact absurd hl h
 | cons a l=>rfl
section
variable {bs:List DBlock} {o:List Int} (hI:OI bs o)
include hI
theorem OI.low {n:Nat} (h0:n≠0) (hn:n < o.length):∃ p,p ∈ prL bs o n/\p < n:=by
 have hat:=hI.at_ hn
 have he:o=o.take n ++ ((blk o n:Nat):Int) :: o.drop (n + 1):=by
  have h1:=Fx hn
  rw [hat] at h1
  simp only [Fy] at h1
  rw [h1,List.getElem_cons_drop,List.take_append_drop]
 rcases hI.led _ _ _ he with h1 | ⟨p,h1,h2⟩
 ·exfalso
  have hb:bs≠[]:=fun e=>by have:=hI.ip hn; rw [e] at this; cases this
  obtain ⟨z1,z2⟩:=hI.zero hb
  exact h0 (hI.inj hn z1 (by rw [z2]; omega))
 ·obtain ⟨m,hm,e⟩:=List.mem_iff_getElem.1 h2
  simp only [List.length_take] at hm
  rw [List.getElem_take] at e
  have hm2:m < o.length:=by omega
  have hbm:=hI.at_ hm2
  rw [Fx hm2,e] at hbm
  simp only [Fy] at hbm
  refine ⟨m,oY.2 ⟨hm2,?_⟩,by omega⟩
  rw [show blk o m=p by omega]
  exact h1
theorem OI.grf:Grf o.length (prL bs o) (p0L bs o):=by
 refine ⟨fun n hn p hp=>(oY.1 hp).1,fun n h0 hn=>?_,fun n h0 hn=>?_⟩
 ·obtain ⟨p,h1,h2⟩:=hI.low h0 hn
  exact (E9 h1).1
 ·obtain ⟨p,h1,h2⟩:=hI.low h0 hn
  exact Nat.lt_of_le_of_lt (E9 h1).2 h2
theorem OI.rv {d n:Nat} (hd:d < o.length) (hn:n < o.length):Rv (prL bs o) d n ↔ Rc bs ((blk o d:Nat):Int) (blk o n):=by
 have hb:bs≠[]:=fun e=>by have:=hI.ip hn; rw [e] at this; cases this
 obtain ⟨z1,z2⟩:=hI.zero hb
 constructor
 ·intro h
  have key:∀ {n:Nat},Rv (prL bs o) d n->n < o.length->Rc bs ((blk o d:Nat):Int) (blk o n):=by
   intro n h
   induction h with
   | start h0 =>
    intro _
    rw [z2]
    refine .start (fun e=>h0 (hI.inj z1 hd (by omega))) (List.length_pos_iff.2 hb)
   | @next p n _ hp hne ih =>
    intro hn
    obtain ⟨q1,q2⟩:=oY.1 hp
    have:=Rc.next (ih q1) q2 (fun e=>hne (hI.inj hn hd (by omega)))
    simpa using this
  exact key h hn
 ·intro h
  have key:∀ {b:Nat},Rc bs ((blk o d:Nat):Int) b->∃ n,n < o.length/\blk o n=b/\Rv (prL bs o) d n:=by
   intro b h
   induction h with
   | start h0 _=>exact ⟨0,z1,z2,.start fun e=>h0 (by rw [<- e,z2]; rfl)⟩
   | @next i g hi hg hne ih =>
    obtain ⟨m,m1,m2,m3⟩:=ih
    have ht:=aH hg
    obtain ⟨n,n1,n2⟩:=hI.rank (Rc.next hi hg hne).any
    refine ⟨n,n1,n2,.next m3 (oY.2 ⟨m1,?_⟩) fun e=>hne ?_⟩
    ·rw [n2,m2,show ((g.toNat:Nat):Int)=g by omega]; exact hg
    ·rw [<- e,n2]; omega
  obtain ⟨m,m1,m2,m3⟩:=key h
  rw [hI.inj hn m1 m2.symm]
  exact m3
variable {T p0:Nat->Nat} {m:Nat} (hG:Grf o.length (prL bs o) p0) (h:TI o.length (prL bs o) p0 m T) (hf:∀ n,n≠0->n < o.length->∀ x,Up T (T n) x ↔ ∀ p ∈ prL bs o n,Up T p x)
include hG h hf
theorem OI.up {n x:Nat} (hn:n < o.length) (hx:x < o.length):Dm bs (blk o x) (blk o n) ↔ Up T n x:=by
 rw [Dm.self,h.last hG hf hn,hI.rv hx hn]
 exact ⟨fun h=>h.2,fun h=>⟨hI.rc hn,h⟩⟩
theorem OI.nx {n:Nat} (h0:n≠0) (hn:n < o.length):Nx bs (blk o (T n)) (blk o n):=by
 have hl:=h.low n h0 hn
 have ht:T n < o.length:=by omega
 refine ⟨fun e=>by have:=hI.inj ht hn e; omega,(hI.up hG h hf hn ht).2 (.step h0 .refl),fun c hc hd=>?_⟩
 obtain ⟨x,x1,rfl⟩:=hI.rank hd.up
 have hu:=(hI.up hG h hf hn x1).1 hd
 exact (hI.up hG h hf ht x1).2 (hu.inv fun e=>hc (by rw [e])).2
theorem OI.ov {n:Nat} (h0:n≠0) (hn:n < o.length):ovN bs (blk o n)=((blk o (T n):Nat):Int):=Cx (hI.nx hG h hf h0 hn)
end
def p0Z (bs:List DBlock) (o:List Int) (n:Nat):Nat:=if n=0 then 0 else p0L bs o n
theorem OI.grfZ {bs:List DBlock} {o:List Int} (hI:OI bs o):Grf o.length (prL bs o) (p0Z bs o) :=
 ⟨hI.grf.in_,fun n h0 hn=>by rw [p0Z,if_neg h0]; exact hI.grf.mem n h0 hn,fun n h0 hn=>by rw [p0Z,if_neg h0]; exact hI.grf.low n h0 hn⟩
theorem jY:∀ (n:Nat) {l:List Nat},l.Nodup->(∀ x ∈ l,x < n)->l.length<=n
 | 0,l,_,h=>by
  cases l with
  | nil=>exact Nat.le_refl _
  | cons a l=>exact absurd (h a FD) (Nat.not_lt_zero _)
 | n + 1, l, hd, h => by
  by_cases hn:n ∈ l
  ·have:=jY n (hd.erase n) (fun x hx=>by
    have h1:=h x (List.mem_of_mem_erase hx)
    have h2:x≠n:=fun e=>by subst e; exact absurd hx (hd.not_mem_erase)
    omega)
   rw [List.length_erase_of_mem hn] at this
   omega
  ·have:=jY n hd (fun x hx=>by
    have h1:=h x hx
    have h2:x≠n:=fun e=>by subst e; exact hn hx
    omega)
   omega
theorem OI.len {bs:List DBlock} {o:List Int} (hI:OI bs o):o.length<=bs.length:=by
 have h1:(o.map Int.toNat).Nodup:=by
  refine List.pairwise_map.2 (List.Pairwise.imp_of_mem (fun {a b} ha hb hne e=>hne ?_) hI.nod)
  have:=hI.pos a ha
  have:=hI.pos b hb
  omega
 have:=jY bs.length h1 (fun x hx=>by
  obtain ⟨a,ha,rfl⟩:=List.mem_map.1 hx
  have:=hI.pos a ha
  omega)
 simpa using this
end Go.Ab
end

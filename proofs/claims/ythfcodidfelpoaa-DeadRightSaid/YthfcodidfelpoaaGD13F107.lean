import Derived.Test.YthfcodidfelpoaaGD13F73
set_option linter.all false
section
set_option maxRecDepth 10000
namespace Go.Ab
inductive Rc (bs:List DBlock) (no:Int):Nat->Prop
 | start (h:no≠0) (h0:0 < bs.length):Rc bs no 0
 | next {i:Nat} {g:Int} (hi:Rc bs no i) (hg:g ∈ aC bs i) (hn:g≠no):Rc bs no g.toNat
def m6 (bs:List DBlock) (no:Int) (M:List Bool):Prop:=M.length=bs.length/\∀ i:Nat,M[i]? = some true ↔ Rc bs no i
theorem Rc.lt {bs:List DBlock} {no:Int} {i:Nat} (h:Rc bs no i):i < bs.length:=by
 cases h with
 | start _ h0=>exact h0
 | next _ hg _=>exact (dm hg).2
def Ckd (bs:List DBlock) (no:Int) (M:List Bool) (k:Nat):Prop:=∀ i:Nat,i < k->M[i]? = some true->∀ g ∈ aC bs i,g≠no->M[g.toNat]? = some true
def xz (bs:List DBlock) (no:Int) (M:List Bool):Prop:=∀ i:Nat,M[i]? = some true->Rc bs no i
theorem m7 {bs:List DBlock} {no:Int} {M:List Bool} (hl:M.length=bs.length) (h1:xz bs no M) (h2:no≠0->0 < bs.length->M[0]? = some true) (h3:Ckd bs no M bs.length):m6 bs no M:=by
 refine ⟨hl,fun i=>⟨h1 i,fun h=>?_⟩⟩
 induction h with
 | start h h0=>exact h2 h h0
 | next hi hg hn ih=>exact h3 _ hi.lt ih _ hg hn
theorem nM {M:List Bool} {g i:Nat} (h:M[i]? = some true):(M.set g true)[i]? = some true:=by
 rw [List.getElem?_set]
 split
 ·rename_i e
  subst e
  have:=(Et.1 h).1
  simp [this]
 ·exact h
theorem tj {n:Nat} (h:n<=9223372036854775807):RBools (some true) (.sl true 1 (List.replicate n [B false])) (List.replicate n false):=.sl (by simp) (F2.yj (by simp) fun i e a he ha=>by
 rw [List.getElem?_replicate] at he ha
 split at he
 ·rename_i h; rw [if_pos h] at ha; cases he; cases ha; rfl
 ·cases he) (by simpa using h)
end Go.Ab
namespace Go.Ab.D13
open Go Go.Ab Go.Proofs
section
variable {q:Option Bool} {b:TV} {f:DFunc} (hf:RFunc q [I f.params,I f.regs,b] f) (hs:f.blocks.length<=1000) {no:Int}
include hs
theorem withL {P:TV->Prop} {c0:Nat} {k:Nat} (hk:k < f.blocks.length) {w8:TV} (h8:RInts (some true) w8 (aC f.blocks k))
  (K:∀ (u:Bool) (M:List Bool) (w:TV),RBools (some true) w M->M.length=f.blocks.length->xz f.blocks no M->M[0]? = some true->(u=false->Ckd f.blocks no M (k + 1))->(u=true->c0 < M.count true)->c0<=M.count true->∃ y,aa prog 48 (f48_1 (I no) (B u) (I (k + 1:Nat)) (I f.params) (I f.regs) b w) y/\P y) :
  ∀ (d j:Nat) (u:Bool) (M:List Bool) (w:TV),j + d=(aC f.blocks k).length->RBools (some true) w M->M.length=f.blocks.length->xz f.blocks no M->M[0]? = some true ->
   (u=false->Ckd f.blocks no M k/\(M[k]? = some true->∀ (j':Nat) (g:Int),j' < j->(aC f.blocks k)[j']? = some g->g≠no->M[g.toNat]? = some true))->(u=true->c0 < M.count true)->c0<=M.count true ->
   ∃ y,aa prog 48 (f48_2 (I no) (B u) (I k) (I j) (I f.params) (I f.regs) b w w8) y/\P y:=by
 intro d
 have hk64:k < 9223372036854775807:=by omega
 have hn3:=mB f.blocks k
 induction d with
 | zero =>
  intro j u M w hj hw hl hsn hst hc h1 h2
  have hj:j=(aC f.blocks k).length:=by omega
  subst hj
  obtain ⟨y,hy,hP⟩:=K u M w hw hl hsn hst (fun hu i hi hMi g hg hgn=>by
   rcases Nat.lt_or_ge i k with h | h
   ·exact (hc hu).1 i h hMi g hg hgn
   ·have:i=k:=by omega
    subst this
    obtain ⟨j',hj',rfl⟩:=List.mem_iff_getElem.1 hg
    exact (hc hu).2 hMi j' _ hj' (Eu hj') hgn) h1 h2
  refine ⟨y,?_,hP⟩
  unfold f48_2
  exact aa.tv h8.len (aa.tv rfl (aa.ite ap nofun fun _=>aa.tv (inc hk (by omega)) (f48_1_J hy)))
 | succ d ih =>
  intro j u M w hj hw hl hsn hst hc h1 h2
  have hjl:j < (aC f.blocks k).length:=by omega
  obtain ⟨g,hgg⟩:∃ g,g=(aC f.blocks k)[j]:=⟨_,rfl⟩
  have hgk:(aC f.blocks k)[j]? = some g:=by rw [hgg]; exact Eu hjl
  have hgm:=EC hgk
  have hgt:=dm hgm
  obtain ⟨eg,heg,rfl,hgi⟩:=h8.pel hgk
  have hkM:M[k]? = some M[k]:=Eu (by omega)
  obtain ⟨ek,hek,hRk⟩:=hw.pel hkM
  cases hRk
  have hMl:g.toNat < M.length:=by omega
  have hMg:M[g.toNat]? = some M[g.toNat]:=Eu hMl
  obtain ⟨em,hem,hRm⟩:=hw.pel hMg
  cases hRm
  have ank:af (I (k:Nat))=some k:=am (by omega)
  have anj:af (I (j:Nat))=some j:=am (by omega)
  have hgn:af (I g)=some g.toNat:=ix hgt.1 hgi
  have ck1:(Bool.and (slSize w 1) (Nat.blt k M.length))=true:=by rw [hw.slSize]; simp; omega
  have ck2:(Bool.and (slSize w8 1) (Nat.blt j (aC f.blocks k).length))=true:=by rw [h8.slSize]; simpa using hjl
  have ck3:(Bool.and (slSize w 1) (Nat.blt g.toNat M.length))=true:=by rw [hw.slSize]; simpa using hMl
  have rest:(u=false->M[k]? = some true->g≠no->M[g.toNat]? = some true)->∃ y,aa prog 48 (f48_2 (I no) (B u) (I k) (I (j + 1:Nat)) (I f.params) (I f.regs) b w w8) y/\P y:=fun hh=>by
   refine ih (j + 1) u M w (by omega) hw hl hsn hst (fun hu=>⟨(hc hu).1,fun hMk j' g' hj' hg' hn'=>?_⟩) h1 h2
   rcases Nat.lt_or_ge j' j with h | h
   ·exact (hc hu).2 hMk j' g' h hg' hn'
   ·have:j'=j:=by omega
    subst this
    rw [hgk] at hg'
    cases hg'
    exact hh hu hMk hn'
  cases hmk:M[k] with
  | false =>
   rw [hmk] at hek hkM
   obtain ⟨y,hy,hP⟩:=rest (fun _ h=>by rw [hkM] at h; cases h)
   refine ⟨y,?_,hP⟩
   unfold f48_2
   exact aa.tv h8.len (aa.tv rfl (aa.ite (aq hjl) (fun _=>aa.nat hw.slLen (aa.nat ank (aa.chk ck1 (aa.tvs hek (aa.chk rfl (aa.ite (v:=false) rfl nofun fun _=>aa.tv (inc hjl (by omega)) (f48_2_J hy))))))) nofun))
  | true =>
   rw [hmk] at hek hkM
   by_cases hno:g=no
   ·obtain ⟨y,hy,hP⟩:=rest (fun _ _ h=>absurd hno h)
    refine ⟨y,?_,hP⟩
    unfold f48_2
    refine aa.tv h8.len (aa.tv rfl (aa.ite (aq hjl) (fun _=>aa.nat hw.slLen (aa.nat ank (aa.chk ck1 (aa.tvs hek (aa.chk rfl (aa.ite (v:=true) rfl (fun _=>?_) nofun)))))) nofun))
    exact aa.nat h8.slLen (aa.nat anj (aa.chk ck2 (aa.tvs heg (aa.chk rfl (aa.tv rfl (aa.ite (v:=false) (by simp [asBool,hno]) nofun fun _=>aa.tv (inc hjl (by omega)) (f48_2_J hy)))))))
   ·have front:∀ {r:TV},(M[g.toNat]=false->aa prog 48 (Prg.nat (slLen w8) fun n29=>Prg.nat (af (I (j:Nat))) fun n30=>Prg.chk (Bool.and (slSize w8 1) (Nat.blt n30 n29)) (Prg.tvs (pel w8 n30) fun e31=>Prg.chk (ab ct e31 0) (Prg.nat (slLen w) fun n32=>Prg.nat (af (nth TV.hole e31 0)) fun n33 =>
       Prg.chk (Bool.and (slSize w 1) (Nat.blt n33 n32)) (Prg.tvs (pel w n33) fun e34=>Prg.chk (ab ao e34 0) (Prg.tv (df [] w n33 0 [TV.lit (Value.bool true)]) fun v35=>Prg.tv (pbin (Kd.int IntKind.i64) BinOp.add (I (j:Nat)) (TV.lit (Value.int IntKind.i64 (1:Int)))) fun v36 =>
       Prg.jmp [0,0,1,1,0,0,1,0,0,1,1,0,1,0,0,1,0,1,1,1,1] (f48_2_S (I no) (TV.lit (Value.bool true)) (I k) v36 (I f.params) (I f.regs) b v35 w8)))))) r) ->
      (M[g.toNat]=true->aa prog 48 (Prg.tv (pbin (Kd.int IntKind.i64) BinOp.add (I (j:Nat)) (TV.lit (Value.int IntKind.i64 (1:Int)))) fun v37=>Prg.jmp [0,0,1,1,0,0,1,0,0,1,1,0,1,0,0,1,0,1,1,1,1] (f48_2_S (I no) (B u) (I k) v37 (I f.params) (I f.regs) b w w8)) r) ->
      aa prog 48 (f48_2 (I no) (B u) (I k) (I j) (I f.params) (I f.regs) b w w8) r:=fun {r} m0 m9=>by
     unfold f48_2
     refine aa.tv h8.len (aa.tv rfl (aa.ite (aq hjl) (fun _=>aa.nat hw.slLen (aa.nat ank (aa.chk ck1 (aa.tvs hek (aa.chk rfl (aa.ite (v:=true) rfl (fun _=>?_) nofun)))))) nofun))
     refine aa.nat h8.slLen (aa.nat anj (aa.chk ck2 (aa.tvs heg (aa.chk rfl (aa.tv rfl (aa.ite (v:=true) (by simp [asBool,hno]) (fun _=>?_) nofun))))))
     refine aa.nat h8.slLen (aa.nat anj (aa.chk ck2 (aa.tvs heg (aa.chk rfl (aa.nat hw.slLen (aa.nat hgn (aa.chk ck3 (aa.tvs hem (aa.chk rfl (aa.tv rfl (aa.ite rfl (fun h=>m0 ?_) fun h=>m9 ?_)))))))))))
     ·simpa using h
     ·simpa using h
    cases hmg:M[g.toNat] with
    | true =>
     rw [hmg] at hMg
     obtain ⟨y,hy,hP⟩:=rest (fun _ _ _=>hMg)
     exact ⟨y,front (fun h=>by rw [hmg] at h; cases h) (fun _=>aa.tv (inc hjl (by omega)) (f48_2_J hy)),hP⟩
    | false =>
     rw [hmg] at hMg
     obtain ⟨w',c1,c2⟩:=hw.gT hem (d:=0) (ys:=[B true]) (a:=true) rfl
     have hcnt:=jA hMg
     obtain ⟨y,hy,hP⟩:=ih (j + 1) true (M.set g.toNat true) w' (by omega) c2 (by rw [List.length_set]; exact hl) (fun i hi=>by
      rcases (ik hMl).1 hi with rfl | h
      ·exact .next (hsn k hkM) hgm hno
      ·exact hsn i h) (nM hst) (fun h=>by cases h) (fun _=>by omega) (by omega)
     refine ⟨y,front (fun _=>?_) (fun h=>by rw [hmg] at h; cases h),hP⟩
     exact aa.nat h8.slLen (aa.nat anj (aa.chk ck2 (aa.tvs heg (aa.chk rfl (aa.nat hw.slLen (aa.nat hgn (aa.chk ck3 (aa.tvs hem (aa.chk rfl (aa.tv c1 (aa.tv (inc hjl (by omega)) (f48_2_J hy))))))))))))
include hf
theorem withR {P:TV->Prop} {c0:Nat}
  (K:∀ (u:Bool) (M:List Bool) (w:TV),RBools (some true) w M->M.length=f.blocks.length->xz f.blocks no M->M[0]? = some true->(u=false->Ckd f.blocks no M f.blocks.length)->(u=true->c0 < M.count true)->c0<=M.count true->∃ y,aa prog 48 (f48_0 (I no) (B u) (I f.params) (I f.regs) b w) y/\P y) :
  ∀ (d k:Nat) (u:Bool) (M:List Bool) (w:TV),k + d=f.blocks.length->RBools (some true) w M->M.length=f.blocks.length->xz f.blocks no M->M[0]? = some true->(u=false->Ckd f.blocks no M k)->(u=true->c0 < M.count true)->c0<=M.count true ->
   ∃ y,aa prog 48 (f48_1 (I no) (B u) (I k) (I f.params) (I f.regs) b w) y/\P y:=by
 intro d
 induction d with
 | zero =>
  intro k u M w hk hw hl hsn hst hc h1 h2
  have hk:k=f.blocks.length:=by omega
  subst hk
  obtain ⟨y,hy,hP⟩:=K u M w hw hl hsn hst hc h1 h2
  refine ⟨y,?_,hP⟩
  unfold f48_1
  exact aa.tv hw.len (aa.tv rfl (aa.ite (v:=false) (by rw [hl]; exact ap) nofun fun _=>f48_0_J hy))
 | succ d ih =>
  intro k u M w hk hw hl hsn hst hc h1 h2
  have hkl:k < f.blocks.length:=by omega
  obtain ⟨v,hv,hvr⟩:=r72 hf (k:Int)
  rw [jw] at hvr
  obtain ⟨y,hy,hP⟩:=withL (b:=b) hs hkl hvr (fun u' M' w' a1 a2 a3 a4 a5 a6 a7=>ih (k + 1) u' M' w' (by omega) a1 a2 a3 a4 a5 a6 a7) (aC f.blocks k).length 0 u M w (by omega) hw hl hsn hst (fun hu=>⟨hc hu,fun _ j' g h=>by omega⟩) h1 h2
  refine ⟨y,?_,hP⟩
  unfold f48_1
  exact aa.tv hw.len (aa.tv rfl (aa.ite (v:=true) (by rw [hl]; exact aq hkl) (fun _=>aa.call hv (aa.chk (bp hvr.isSl) (f48_2_J hy))) nofun))
theorem DA:∀ (d:Nat) (M:List Bool) (w:TV),f.blocks.length < M.count true + d->RBools (some true) w M->M.length=f.blocks.length->xz f.blocks no M->M[0]? = some true ->
  ∃ y,aa prog 48 (f48_0 (I no) (B true) (I f.params) (I f.regs) b w) y/\∃ M,RBools (some true) y M/\m6 f.blocks no M:=by
 intro d
 induction d with
 | zero =>
  intro M w hd hw hl
  have:=rt M
  omega
 | succ d ih =>
  intro M w hd hw hl hsn hst
  obtain ⟨y,hy,hP⟩:=withR hf hs (no:=no) (c0:=M.count true) (P:=fun y=>∃ M,RBools (some true) y M/\m6 f.blocks no M) (fun u M' w' a1 a2 a3 a4 a5 a6 a7=>by
   cases u with
   | true=>exact ih M' w' (by have:=a6 rfl; omega) a1 a2 a3 a4
   | false =>
    refine ⟨w',?_,M',a1,m7 a2 a3 (fun _ _=>a4) (a5 rfl)⟩
    unfold f48_0
    exact aa.ite (v:=false) rfl nofun fun _=>aa.ret) f.blocks.length 0 false M w (by omega) hw hl hsn hst (fun _ i h=>by omega) (fun h=>by cases h) (Nat.le_refl _)
  refine ⟨y,?_,hP⟩
  unfold f48_0
  exact aa.ite (v:=true) rfl (fun _=>f48_1_J hy) nofun
end
theorem r83 {q:Option Bool} {e:List TV} {f:DFunc} (he:RFunc q e f) (hs:f.blocks.length<=1000) (no:Int):∃ y M,aj prog 48 [.agg e,I no] y/\RBools (some true) y M/\m6 f.blocks no M:=by
 have he0:=he
 obtain ⟨b,rfl,hb,_⟩:=he
 have hn:af (I (f.blocks.length:Nat))=some f.blocks.length:=am (by omega)
 have hck:(Bool.and (Nat.ble f.blocks.length f.blocks.length) (Nat.ble f.blocks.length 4294967296))=true:=by
  have:Nat.ble f.blocks.length 4294967296=true:=by simp; omega
  simp [this]
 have hrep:=tj (n:=f.blocks.length) (by omega)
 have none_:∀ i:Nat,¬ (List.replicate f.blocks.length false)[i]? = some true:=fun i h=>by
  rw [List.getElem?_replicate] at h
  split at h <;> cases h
 have hlen:=hrep.len (t:=4)
 rw [List.length_replicate] at hlen
 by_cases h0:f.blocks.length=0
 ·refine ⟨_,_,?_,hrep,m7 (by simp) (fun i h=>absurd h (none_ i)) (fun _ h=>by omega) (fun i h=>by omega)⟩
  refine aj.of (f48_MR _ _) ?_
  unfold f48_M
  exact aa.chk rfl (aa.tv hb.len (aa.nat hn (aa.nat hn (aa.chk hck (aa.tv hlen (aa.tv rfl (aa.ite (v:=true) (by simp [asBool,h0]) (fun _=>aa.ret) nofun)))))))
 have h00:f.blocks≠[]:=fun h=>h0 (by rw [h]; rfl)
 by_cases h1:no=0
 ·refine ⟨_,_,?_,hrep,m7 (by simp) (fun i h=>absurd h (none_ i)) (fun h _=>absurd h1 h) (fun i _ h=>absurd h (none_ i))⟩
  refine aj.of (f48_MR _ _) ?_
  unfold f48_M
  exact aa.chk rfl (aa.tv hb.len (aa.nat hn (aa.nat hn (aa.chk hck (aa.tv hlen (aa.tv rfl (aa.ite (v:=false) (by simp [asBool,h00]) nofun fun _=>aa.tv rfl (aa.ite (v:=true) (by simp [asBool,h1]) (fun _=>aa.ret) nofun))))))))
 have hl:0 < f.blocks.length:=by omega
 have hf0:(List.replicate f.blocks.length false)[0]? = some false:=by rw [List.getElem?_replicate,if_pos hl]
 obtain ⟨e7,he7,hR⟩:=hrep.pel hf0
 cases hR
 obtain ⟨w,c1,c2⟩:=hrep.gT he7 (d:=0) (ys:=[B true]) (a:=true) rfl
 have hlr:0 < (List.replicate f.blocks.length false).length:=by simpa using hl
 obtain ⟨y,hy,M,hM,hF⟩:=DA he0 hs (no:=no) (f.blocks.length + 1) _ w (by omega) c2 (by simp) (fun i hi=>by
  rcases (ik hlr).1 hi with rfl | h
  ·exact .start h1 hl
  ·exact absurd h (none_ i)) ((ik hlr).2 (.inl rfl))
 refine ⟨y,M,?_,hM,hF⟩
 refine aj.of (f48_MR _ _) ?_
 unfold f48_M
 refine aa.chk rfl (aa.tv hb.len (aa.nat hn (aa.nat hn (aa.chk hck (aa.tv hlen (aa.tv rfl (aa.ite (v:=false) (by simp [asBool,h00]) nofun fun _=>aa.tv rfl (aa.ite (v:=false) (by simp [asBool,h1]) nofun fun _=>?_))))))))
 refine aa.nat hrep.slLen (aa.nat (v:=0) rfl (aa.chk ?_ (aa.tvs he7 (aa.chk rfl (aa.tv c1 (f48_0_J hy))))))
 rw [hrep.slSize]; simpa using hl
theorem r84 {q:Option Bool} {e:List TV} {f:DFunc} (he:RFunc q e f) (hs:f.blocks.length<=1000):∃ y M,aj prog 30 [.agg e] y/\RBools (some true) y M/\m6 f.blocks (-1) M:=by
 obtain ⟨y,M,hy,hM,hF⟩:=r83 he hs (-1)
 obtain ⟨b,rfl,hb,_⟩:=he
 refine ⟨y,M,?_,hM,hF⟩
 refine aj.of (f30_MR _) ?_
 unfold f30_M
 exact aa.chk rfl (aa.call hy (aa.chk (bp hM.isSl) aa.ret))
end Go.Ab.D13
end
section
set_option maxRecDepth 10000
namespace Go.Ab
def gk (u:DFunc) (k:Nat):Prop:=∃ b ∈ u.blocks,(∃ x ∈ b.ins,x.op=11/\x.f=(k:Int))\/b.fin.kind=4/\b.fin.f=(k:Int)
def ofP (m:DMod) (a k:Nat):Prop:=k < m.funcs.length/\∃ u,m.funcs[a]? = some u/\gk u k
inductive Co (m:DMod) (a:Nat):Nat->Prop
 | one {b:Nat} (h:ofP m a b):Co m a b
 | more {b c:Nat} (h:Co m a b) (h':ofP m b c):Co m a c
theorem Co.lt {m:DMod} {a b:Nat} (h:Co m a b):a < m.funcs.length/\b < m.funcs.length:=by
 induction h with
 | one h =>
  obtain ⟨h1,u,hu,_⟩:=h
  exact ⟨(Et.1 hu).1,h1⟩
 | more _ h ih=>exact ⟨ih.1,h.1⟩
end Go.Ab
end
section
set_option maxRecDepth 10000
namespace Go.Ab
def sM (l:List DIns):List Int:=(l.filter fun x=>decide (x.op=11)).map fun x=>x.f
theorem ub {l:List DIns} {j:Nat} {x:DIns} (h:l[j]? = some x):sM (l.take (j + 1))=sM (l.take j) ++ (if x.op=11 then [x.f] else []):=by
 unfold sM
 rw [List.take_add_one,h,List.filter_append,List.map_append]
 by_cases hp:x.op=11 <;> simp [hp]
theorem rb (l:List DIns):(sM l).length<=l.length:=by
 unfold sM
 rw [List.length_map]
 exact List.length_filter_le _ _
def xI (b:DBlock):List Int:=sM b.ins ++ (if b.fin.kind=4 then [b.fin.f] else [])
def dY (bs:List DBlock):List Int:=(bs.map xI).flatten
theorem pq {l:List DBlock} {j:Nat} {b:DBlock} (h:l[j]? = some b):dY (l.take (j + 1))=dY (l.take j) ++ xI b:=by
 unfold dY
 rw [List.take_add_one,h]
 simp
theorem tR {u:DFunc} {k:Nat}:(k:Int) ∈ dY u.blocks ↔ gk u k:=by
 constructor
 ·intro h
  obtain ⟨l,hl,hk⟩:=List.mem_flatten.1 h
  obtain ⟨b,hb,rfl⟩:=List.mem_map.1 hl
  rcases List.mem_append.1 hk with h | h
  ·obtain ⟨x,hx,h2⟩:=List.mem_map.1 h
   obtain ⟨hx,h1⟩:=List.mem_filter.1 hx
   exact ⟨b,hb,.inl ⟨x,hx,by simpa using h1,h2⟩⟩
  ·split at h
   ·rename_i h4
    exact ⟨b,hb,.inr ⟨h4,(List.mem_singleton.1 h).symm⟩⟩
   ·cases h
 ·rintro ⟨b,hb,h⟩
  refine List.mem_flatten.2 ⟨xI b,List.mem_map.2 ⟨b,hb,rfl⟩,List.mem_append.2 ?_⟩
  rcases h with ⟨x,hx,h1,h2⟩ | ⟨h1,h2⟩
  ·exact .inl (List.mem_map.2 ⟨x,List.mem_filter.2 ⟨hx,by simpa using h1⟩,h2⟩)
  ·exact .inr (by rw [if_pos h1,h2]; exact List.mem_singleton.2 rfl)
def uZ (u:DFunc):Prop:=u.blocks.length<=100/\∀ b ∈ u.blocks,b.ins.length<=100
def CE (m:DMod):Prop:=m.funcs.length<=100/\∀ u ∈ m.funcs,uZ u
theorem Ba {b:DBlock} (h:b.ins.length<=100):(xI b).length<=101:=by
 unfold xI
 have:=rb b.ins
 rw [List.length_append]
 split <;> simp <;> omega
theorem mM:∀ (bs:List DBlock),(∀ b ∈ bs,b.ins.length<=100)->(dY bs).length<=101 * bs.length
 | [],_=>Nat.le_refl _
 | b :: bs,h=>by
  have h1:=Ba (h b EA)
  have h2:=mM bs fun b hb=>h b (EB _ hb)
  unfold dY at *
  rw [List.map_cons,List.flatten_cons,List.length_append,List.length_cons]
  omega
end Go.Ab
namespace Go.Ab.D13
open Go Go.Ab Go.Proofs
section
variable {q:Option Bool} {b:TV} {bs:List DBlock} (hb:RL q 14 (RBlock q) b bs) (hs:bs.length<=100/\∀ b ∈ bs,b.ins.length<=100)
include hb hs
end
end Go.Ab.D13
end
section
set_option maxRecDepth 10000
namespace Go.Ab
open Classical in
noncomputable def ofF (u:DFunc) (N:Nat):List Int:=((List.range N).filter fun k=>decide (gk u k)).map fun k:Nat=>(k:Int)
theorem Dm {u:DFunc} {N:Nat} {a:Int}:a ∈ ofF u N ↔ ∃ k:Nat,a=(k:Int)/\k < N/\gk u k:=by
 unfold ofF
 simp only [List.mem_map,List.mem_filter,List.mem_range,decide_eq_true_eq]
 constructor
 ·rintro ⟨k,⟨h1,h2⟩,rfl⟩; exact ⟨k,rfl,h1,h2⟩
 ·rintro ⟨k,rfl,h1,h2⟩; exact ⟨k,⟨h1,h2⟩,rfl⟩
theorem yr (u:DFunc) (N:Nat):(ofF u N).length<=N:=by
 unfold ofF
 rw [List.length_map]
 exact Nat.le_trans (List.length_filter_le _ _) (by simp)
theorem xu (u:DFunc) (N:Nat):(ofF u N).Pairwise (· < ·):=by
 unfold ofF
 refine List.pairwise_map.2 (List.Pairwise.filter _ (List.Pairwise.imp (fun {a b} h=>?_) List.pairwise_lt_range))
 exact Int.ofNat_lt.2 h
noncomputable def ofL (m:DMod) (n:Int):List Int:=match (if 0<=n then m.funcs[n.toNat]? else none) with
 | some u=>ofF u m.funcs.length
 | none=>[]
theorem qb {m:DMod} {n:Nat} {a:Int}:a ∈ ofL m n ↔ ∃ k:Nat,a=(k:Int)/\ofP m n k:=by
 unfold ofL ofP
 rw [if_pos (by omega),Int.toNat_natCast]
 cases hu:m.funcs[n]? with
 | none=>simp
 | some u =>
  show a ∈ ofF u _ ↔ _
  rw [Dm]
  simp
theorem DO (m:DMod) (n:Int):(ofL m n).length<=m.funcs.length:=by
 unfold ofL
 split
 ·exact yr _ _
 ·exact Nat.zero_le _
theorem zy {m:DMod} {n:Int} (h:bh m.funcs.length n=false):ofL m n=[]:=by
 unfold ofL
 have h:¬ (0<=n/\n < (m.funcs.length:Int)):=by simpa [bh] using h
 split
 ·rename_i u hu
  exfalso
  split at hu
  ·have:=(Et.1 hu).1
   omega
  ·cases hu
 ·rfl
theorem AT {m:DMod} {n:Int} (h:bh m.funcs.length n=true):∃ u,m.funcs[n.toNat]? = some u/\n=(n.toNat:Int)/\ofL m n=ofF u m.funcs.length:=by
 have h:0<=n/\n < (m.funcs.length:Int):=by simpa [bh] using h
 have hl:n.toNat < m.funcs.length:=by omega
 refine ⟨_,Eu hl,by omega,?_⟩
 unfold ofL
 rw [if_pos h.1,Eu hl]
end Go.Ab
end
section
set_option maxRecDepth 10000
namespace Go.Ab
def CoI (m:DMod) (a:Int) (k:Nat):Prop:=∃ n:Nat,a=(n:Int)/\Co m n k
theorem yk {m:DMod} {a x:Int} (h:x ∈ ofL m a):∃ (n k:Nat),a=(n:Int)/\x=(k:Int)/\ofP m n k:=by
 cases ht:bh m.funcs.length a with
 | false=>rw [zy ht] at h; cases h
 | true =>
  obtain ⟨u,hu,hn,_⟩:=AT ht
  rw [hn] at h
  obtain ⟨k,hk,hp⟩:=qb.1 h
  exact ⟨_,k,hn,hk,hp⟩
theorem CoI.lt {m:DMod} {a:Int} {k:Nat} (h:CoI m a k):k < m.funcs.length:=by
 obtain ⟨n,_,h⟩:=h
 exact h.lt.2
end Go.Ab
namespace Go.Ab.D13
open Go Go.Ab Go.Proofs
section
variable {q:Option Bool} {b:TV} {m:DMod} (hb:RL q 3 (RFunc q) b m.funcs) (hs:CE m) {a:Int}
include hb hs
end
end Go.Ab.D13
end
section
set_option maxRecDepth 10000
namespace Go.Ab
open Classical in
noncomputable def aA (P:Nat->Prop) (k:Nat):Nat:=((List.range k).filter fun i=>decide (P i)).length
open Classical in
noncomputable def fw (P:Nat->Prop) (N:Nat):List Nat:=(List.range N).filter fun i=>decide (P i)
theorem lI (P:Nat->Prop):aA P 0=0:=by simp [aA]
theorem md {P:Nat->Prop} {k:Nat} (h:P k):aA P (k + 1)=aA P k + 1:=by
 unfold aA
 rw [List.range_succ,List.filter_append,List.length_append]
 simp [h]
theorem ot {P:Nat->Prop} {k:Nat} (h:¬ P k):aA P (k + 1)=aA P k:=by
 unfold aA
 rw [List.range_succ,List.filter_append,List.length_append]
 simp [h]
theorem qj (P:Nat->Prop) (k:Nat):aA P k<=k:=by
 unfold aA
 have:=List.length_filter_le (fun i=>@decide (P i) (Classical.propDecidable _)) (List.range k)
 simpa using this
theorem zd {P:Nat->Prop} {k N:Nat} (hk:k < N) (hp:P k):(fw P N)[aA P k]? = some k:=by
 have e:List.range N=List.range k ++ (List.range (N - k)).map (k + ·):=by
  rw [<- List.range_add]
  congr 1
  omega
 unfold fw
 rw [e,List.filter_append,EE (by unfold aA; omega)]
 have e0:N - k=(N - k - 1) + 1:=by omega
 rw [e0,List.range_succ_eq_map]
 unfold aA
 simp [hp]
theorem o8 {P:Nat->Prop} {N k:Nat}:k ∈ fw P N ↔ k < N/\P k:=by simp [fw]
theorem zV (P:Nat->Prop) (N:Nat):(fw P N).length<=N:=by
 have:=List.length_filter_le (fun i=>@decide (P i) (Classical.propDecidable _)) (List.range N)
 simp only [List.length_range] at this
 exact this
theorem Bp {l:List Nat} (h:l.Nodup) {i j:Nat} {a:Nat} (hi:l[i]? = some a) (hj:l[j]? = some a):i=j:=by
 have hp:=List.pairwise_iff_getElem.1 h
 obtain ⟨h1,e1⟩:=Et.1 hi
 obtain ⟨h2,e2⟩:=Et.1 hj
 rcases Nat.lt_trichotomy i j with h3 | h3 | h3
 ·exact absurd (e1.trans e2.symm) (hp i j h1 h2 h3)
 ·exact h3
 ·exact absurd (e2.trans e1.symm) (hp j i h2 h1 h3)
theorem Bc {P:Nat->Prop} {N j k:Nat} (h:(fw P N)[j]? = some k):k < N/\P k/\aA P k=j:=by
 obtain ⟨h1,h2⟩:=o8.1 (EC h)
 exact ⟨h1,h2,Bp (List.Pairwise.filter _ List.nodup_range) (zd h1 h2) h⟩
theorem Cd {P:Nat->Prop}:∀ {k:Nat},(∀ i,i < k->P i)->aA P k=k:=by
 intro k
 induction k with
 | zero=>exact fun _=>lI P
 | succ k ih=>exact fun h=>by rw [md (h k (by omega)),ih fun i hi=>h i (by omega)]
theorem oO {P:Nat->Prop} {N:Nat} (h:∀ i,i < N->P i):fw P N=List.range N:=by
 unfold fw
 rw [List.filter_eq_self]
 intro i hi
 simpa using h i (List.mem_range.1 hi)
theorem AB {P:Nat->Prop} {k:Nat} (h:P k):fw P (k + 1)=fw P k ++ [k]:=by
 unfold fw
 rw [List.range_succ,List.filter_append]
 simp [h]
theorem vY {P:Nat->Prop} {k:Nat} (h:¬ P k):fw P (k + 1)=fw P k:=by
 unfold fw
 rw [List.range_succ,List.filter_append]
 simp [h]
theorem xq {P:Nat->Prop} {k:Nat} (h:∀ i,k<=i->¬ P i):∀ d,fw P (k + d)=fw P k:=by
 intro d
 induction d with
 | zero=>rfl
 | succ d ih=>rw [<- Nat.add_assoc,vY (h _ (by omega)),ih]
theorem uK {α β:Type} {f:α->Option β} {g:α->β}:∀ {l:List α},(∀ x ∈ l,f x=some (g x))->l.filterMap f=l.map g:=by
 intro l
 induction l with
 | nil=>intro _; rfl
 | cons x l ih =>
  intro h
  rw [List.filterMap_cons,h x EA,List.map_cons,ih fun y hy=>h y (EB _ hy)]
theorem sD {α β:Type} {f g:α->Option β}:∀ {l:List α},(∀ x ∈ l,f x=g x)->l.filterMap f=l.filterMap g:=by
 intro l
 induction l with
 | nil=>intro _; rfl
 | cons x l ih =>
  intro h
  rw [List.filterMap_cons,List.filterMap_cons,h x EA,ih fun y hy=>h y (EB _ hy)]
noncomputable def bA {α β:Type} (P:Nat->Prop) (l:List α) (f:α->β) (k:Nat):List β:=(fw P k).filterMap fun i=>(l[i]?).map f
section
variable {α β:Type} {P:Nat->Prop} {l:List α} {f:α->β} {k:Nat}
theorem gd:bA P l f 0=[]:=by simp [bA,fw]
theorem gi {a:α} (hk:P k) (ha:l[k]? = some a):bA P l f (k + 1)=bA P l f k ++ [f a]:=by
 unfold bA
 rw [AB hk,List.filterMap_append]
 simp [ha]
theorem jt (hk:¬ P k):bA P l f (k + 1)=bA P l f k:=by
 unfold bA
 rw [vY hk]
theorem vI (hk:k<=l.length) (d:α):bA P l f k=(fw P k).map fun i=>f (l[i]?.getD d):=by
 unfold bA
 refine uK fun j hj=>?_
 have hj:=(o8.1 hj).1
 rw [Eu (by omega)]
 rfl
theorem Br {i:Nat} (hk:k<=l.length) (hi:i < k) (hp:P i):(bA P l f k)[aA P i]? = (l[i]?).map f:=by
 have hl:l[i]? = some (l[i]'(by omega)):=Eu (by omega)
 rw [vI hk (l[i]'(by omega)),Ez,zd hi hp,EG,hl]
 rfl
theorem fo:(bA P l f k).length<=k:=Nat.le_trans (List.length_filterMap_le _ _) (zV _ _)
theorem tL {b:β} (h:b ∈ bA P l f k):∃ i a,i < k/\P i/\l[i]? = some a/\b=f a:=by
 obtain ⟨i,hi,he⟩:=List.mem_filterMap.1 h
 obtain ⟨h1,h2⟩:=o8.1 hi
 cases ha:l[i]? with
 | none=>rw [ha] at he; cases he
 | some a=>rw [ha] at he; exact ⟨i,a,h1,h2,ha,(Option.some.inj he).symm⟩
theorem ye {j:Nat} {b:β} (hk:k<=l.length) (h:(bA P l f k)[j]? = some b):∃ i a,i < k/\P i/\l[i]? = some a/\b=f a/\aA P i=j:=by
 have h0:0 < l.length:=by
  have hj:=(Et.1 h).1
  have:=fo (P:=P) (l:=l) (f:=f) (k:=k)
  omega
 rw [vI hk l[0],Ez] at h
 cases hi:(fw P k)[j]? with
 | none=>rw [hi] at h; cases h
 | some i =>
  rw [hi] at h
  obtain ⟨h1,h2,h3⟩:=Bc hi
  have hl:l[i]? = some (l[i]'(by omega)):=Eu (by omega)
  refine ⟨i,l[i]'(by omega),h1,h2,hl,?_,h3⟩
  rw [EG,hl] at h
  exact (Option.some.inj h).symm
theorem tT {γ:Type} (g:β->γ):(bA P l f k).map g=bA P l (g ∘ f) k:=by
 unfold bA
 rw [List.map_filterMap]
 congr 1
 funext i
 cases l[i]? <;> rfl
theorem zQ (h:∀ i,i < l.length->P i):bA P l f l.length=l.map f:=by
 unfold bA
 rw [oO h]
 apply List.ext_getElem?
 intro i
 have e:(List.range l.length).filterMap (fun i=>(l[i]?).map f)=l.map f:=by
  conv=>rhs; rw [<- List.take_length (l:=l)]
  have:∀ n,n<=l.length->(List.range n).filterMap (fun i=>(l[i]?).map f)=(l.take n).map f:=by
   intro n
   induction n with
   | zero=>intro _; rfl
   | succ n ih =>
    intro hn
    rw [List.range_succ,List.filterMap_append,ih (by omega),List.take_add_one,Eu (by omega),List.map_append]
    simp [Eu (show n < l.length by omega)]
  exact this _ (Nat.le_refl _)
 rw [e]
end
def fZ (φ:Nat->Nat) (x:DIns):DIns:=if x.op=11 then { x with f:=((φ x.f.toNat:Nat):Int) } else x
def eJ (ψ:Nat->Nat) (e:DEnd):DEnd:={ e with to:=if e.kind=2\/e.kind=3\/e.kind=4 then ((ψ e.to.toNat:Nat):Int) else e.to,els:=if e.kind=3 then ((ψ e.els.toNat:Nat):Int) else e.els,pad:=if e.kind=4 then ((ψ e.pad.toNat:Nat):Int) else e.pad }
def fV (ψ:Nat->Nat) (b:DBlock):DBlock:={ b with fin:=eJ ψ b.fin }
def fT (φ:Nat->Nat) (b:DBlock):DBlock:={ b with ins:=b.ins.map (fZ φ),fin:={ b.fin with f:=if b.fin.kind=4 then ((φ b.fin.f.toNat:Nat):Int) else b.fin.f } }
def gF (φ:Nat->Nat) (u:DFunc):DFunc:={ u with blocks:=u.blocks.map (fT φ) }
theorem DE (b:DBlock):(nx b).length=if b.fin.kind=3\/b.fin.kind=4 then 2 else if b.fin.kind=2 then 1 else 0:=by
 unfold nx gl
 by_cases h2:b.fin.kind=2
 ·rw [h2]; rfl
 ·by_cases h3:b.fin.kind=3
  ·rw [h3]; rfl
  ·by_cases h4:b.fin.kind=4
   ·rw [h4]; rfl
   ·simp [h2,h3,h4]
theorem Df {ψ:Nat->Nat} {b:DBlock} (h:∀ g ∈ nx b,((ψ g.toNat:Nat):Int)=g):fV ψ b=b:=by
 have f2:(if b.fin.kind=2\/b.fin.kind=3\/b.fin.kind=4 then ((ψ b.fin.to.toNat:Nat):Int) else b.fin.to)=b.fin.to:=by
  split
  ·rename_i h2; exact h _ (by unfold nx gl; simp [h2])
  ·rfl
 have f3:(if b.fin.kind=3 then ((ψ b.fin.els.toNat:Nat):Int) else b.fin.els)=b.fin.els:=by
  split
  ·rename_i h2; exact h _ (by unfold nx gl; simp [h2])
  ·rfl
 have f4:(if b.fin.kind=4 then ((ψ b.fin.pad.toNat:Nat):Int) else b.fin.pad)=b.fin.pad:=by
  split
  ·rename_i h2; exact h _ (by unfold nx gl; simp [h2])
  ·rfl
 unfold fV eJ
 rw [f2,f3,f4]
def fU (u:DFunc):Prop:=∀ i b,Rc u.blocks (-1) i->u.blocks[i]? = some b->(aC u.blocks i).length=(nx b).length
theorem fU.goal {u:DFunc} (h:fU u) {i:Nat} {b:DBlock} (hi:Rc u.blocks (-1) i) (hb:u.blocks[i]? = some b):∀ g ∈ nx b,0<=g/\g.toNat < u.blocks.length/\Rc u.blocks (-1) g.toNat:=by
 intro g hg
 have h1:=h i b hi hb
 have e:aC u.blocks i=(nx b).filter (bh u.blocks.length):=by unfold aC; rw [hb]
 rw [e] at h1
 have h2:=List.length_filter_eq_length_iff.1 h1 g hg
 have h3:g ∈ aC u.blocks i:=by rw [e]; exact List.mem_filter.2 ⟨hg,h2⟩
 have h4:=dm h3
 exact ⟨h4.1,h4.2,.next hi h3 (by omega)⟩
def Dd (u:DFunc):Prop:=∀ b ∈ u.blocks,∀ g ∈ nx b,0<=g/\g.toNat < u.blocks.length
noncomputable def se (bs:List DBlock):List DBlock:=bA (Rc bs (-1)) bs (fV (aA (Rc bs (-1)))) bs.length
open Classical in
noncomputable def clF (u:DFunc):DFunc:=if fU u then { u with blocks:=se u.blocks } else u
theorem jV {u:DFunc} (h:fU u):clF u={ u with blocks:=se u.blocks }:=if_pos h
theorem so {u:DFunc} (h:¬ fU u):clF u=u:=if_neg h
theorem BO (u:DFunc):(clF u).params=u.params/\(clF u).regs=u.regs:=by
 by_cases h:fU u
 ·rw [jV h]; exact ⟨rfl,rfl⟩
 ·rw [so h]; exact ⟨rfl,rfl⟩
theorem C7 (u:DFunc):(clF u).blocks.length<=u.blocks.length:=by
 by_cases h:fU u
 ·rw [jV h]; exact fo
 ·rw [so h]; exact Nat.le_refl _
theorem vV {u:DFunc} {b:DBlock} (h:b ∈ (clF u).blocks):∃ b0 ∈ u.blocks,∃ ψ,b=fV ψ b0\/b=b0:=by
 by_cases hg:fU u
 ·rw [jV hg] at h
  obtain ⟨i,a,_,_,ha,rfl⟩:=tL h
  exact ⟨a,EC ha,_,.inl rfl⟩
 ·rw [so hg] at h
  exact ⟨b,h,id,.inr rfl⟩
noncomputable def clC (m:DMod):DMod:=⟨m.funcs.map clF⟩
def dz (c:DMod) (k:Nat):Prop:=k=0\/Co c 0 k
theorem pb {c:DMod} {k j:Nat} (h:dz c k) {v:DFunc} (hv:c.funcs[k]? = some v) (hc:gk v j) (hj:j < c.funcs.length):dz c j:=by
 right
 rcases h with rfl | h
 ·exact .one ⟨hj,v,hv,hc⟩
 ·exact .more h ⟨hj,v,hv,hc⟩
noncomputable def clM (m:DMod):DMod:=⟨bA (dz (clC m)) (clC m).funcs (gF (aA (dz (clC m)))) m.funcs.length⟩
theorem DQ {bs t:List DBlock} (hc:∀ b ∈ bs,∀ g ∈ nx b,0<=g/\g.toNat < bs.length) (h0:bs≠[]) {i:Nat}:Rc (bs ++ t) (-1) i ↔ Rc bs (-1) i:=by
 have nxt:∀ {i:Nat},i < bs.length->aC (bs ++ t) i=aC bs i:=by
  intro i hi
  unfold aC
  rw [ED hi,Eu hi]
  refine List.filter_congr fun g hg=>?_
  have:=hc _ (List.getElem_mem hi) g hg
  unfold bh
  rw [decide_eq_decide,List.length_append]
  omega
 constructor
 ·intro h
  induction h with
  | start a _=>exact .start a (List.length_pos_iff.2 h0)
  | next hi hg hn ih =>
   rw [nxt ih.lt] at hg
   exact .next ih hg hn
 ·intro h
  induction h with
  | start a _=>exact .start a (by rw [List.length_append]; have:=List.length_pos_iff.2 h0; omega)
  | next hi hg hn ih =>
   rw [<- nxt hi.lt] at hg
   exact .next ih hg hn
theorem BZ {v:DFunc} (hc:Dd v) (ha:∀ i,i < v.blocks.length->Rc v.blocks (-1) i) (h0:v.blocks≠[]) (t:List DBlock):clF { v with blocks:=v.blocks ++ t }=v:=by
 have hr:∀ i,Rc (v.blocks ++ t) (-1) i ↔ i < v.blocks.length:=fun i=>(DQ hc h0).trans ⟨fun h=>h.lt,ha i⟩
 have hg:fU { v with blocks:=v.blocks ++ t }:=by
  intro i b hi hb
  have hi:Rc (v.blocks ++ t) (-1) i:=hi
  have hb:(v.blocks ++ t)[i]? = some b:=hb
  show (aC (v.blocks ++ t) i).length=_
  have hil:=(hr i).1 hi
  rw [ED hil] at hb
  have e:aC (v.blocks ++ t) i=(nx b).filter (bh (v.blocks ++ t).length):=by unfold aC; rw [ED hil,hb]
  rw [e]
  refine List.length_filter_eq_length_iff.2 fun g hg=>?_
  have:=hc b (EC hb) g hg
  unfold bh
  rw [decide_eq_true_eq,List.length_append]
  omega
 rw [jV hg]
 have hP:Rc (v.blocks ++ t) (-1)=fun i=>i < v.blocks.length:=funext fun i=>propext (hr i)
 have e:se (v.blocks ++ t)=v.blocks:=by
  unfold se
  rw [hP]
  unfold bA
  rw [List.length_append,xq (fun i h=>by omega),oO (fun i h=>h)]
  have:(List.range v.blocks.length).filterMap (fun i=>((v.blocks ++ t)[i]?).map (fV (aA fun i=>i < v.blocks.length)))=bA (fun i=>i < v.blocks.length) v.blocks id v.blocks.length:=by
   unfold bA
   rw [oO (fun i h=>h)]
   refine sD fun i hi=>?_
   have hi:=List.mem_range.1 hi
   rw [ED hi,Eu hi]
   refine congrArg some (Df fun g hg=>?_)
   have:=hc _ (List.getElem_mem hi) g hg
   rw [Cd fun i hi=>by omega]
   omega
  rw [this,zQ (fun i h=>h),List.map_id]
 rw [e]
end Go.Ab
namespace Go.Ab.D13
open Go Go.Ab Go.Proofs
theorem modF {m:DMod} {g:DFunc} {n:Nat} (h:kL m) (hg:m.funcs[n]? = some g):p0 m.funcs g:=h.2.2 n (Et.1 hg).1 g hg
theorem Ay {m:DMod} {u:DFunc} {n:Nat} (h:kL m) (hu:m.funcs[n]? = some u) {b:DBlock} (hb:b ∈ u.blocks):(∀ x ∈ b.ins,x.op=11->0<=x.f/\x.f.toNat < m.funcs.length)/\(b.fin.kind=4->0<=b.fin.f/\b.fin.f.toNat < m.funcs.length):=by
 obtain ⟨i,hi,rfl⟩:=List.mem_iff_getElem.1 hb
 have hB:=(modF h hu).2.2.2 i hi _ (Eu hi)
 generalize u.blocks[i]=b at *
 constructor
 ·intro x hx h11
  obtain ⟨q,hq,rfl⟩:=List.mem_iff_getElem.1 hx
  have hc:=(hB.2.2.1 q hq _ (Eu hq)).2.2.2.2.2
  rw [h11] at hc
  obtain ⟨h0,g,hg,_⟩:=hc.1 rfl
  exact ⟨h0,(Et.1 hg).1⟩
 ·intro h4
  have hc:=hB.2.2.2.2.2.2.1
  rw [h4] at hc
  obtain ⟨h0,g,hg,_⟩:=hc.1 rfl
  exact ⟨h0,(Et.1 hg).1⟩
end Go.Ab.D13
end
section
set_option maxRecDepth 10000
namespace Go.Ab
def LedO (bs:List DBlock) (S:Nat->Prop) (o:List Int):Prop:=∀ (A:List Int) (x:Int) (B:List Int),o=A ++ x :: B->x=0\/∃ p:Nat,x ∈ aC bs p/\((p:Int) ∈ A\/S p)
def Chain (bs:List DBlock):List (Nat × List Int)->Prop
 | []=>True
 | [p]=>p.1=0
 | p :: r :: l=>(p.1:Int) ∈ aC bs r.1/\Chain bs (r :: l)
structure DI (bs:List DBlock) (M:List Bool) (st:List (Nat × List Int)) (o:List Int):Prop where
 len:M.length=bs.length
 at_:∀ p ∈ st,p.1 < bs.length/\∀ g ∈ p.2,g ∈ aC bs p.1
 mem:∀ i:Nat,M[i]? = some true ↔ (∃ p ∈ st,p.1=i)\/(i:Int) ∈ o
 nod:(o ++ st.map fun p=>(p.1:Int)).Nodup
 out:∀ x ∈ o,0<=x/\∀ g ∈ aC bs x.toNat,M[g.toNat]? = some true
 todo:∀ p ∈ st,∀ g ∈ aC bs p.1,g ∈ p.2\/M[g.toNat]? = some true
 snd:xz bs (-1) M
 led:LedO bs (fun p=>∃ r ∈ st,r.1=p) o
 chain:Chain bs st
 last:st=[]->o.head? = some 0
theorem mE {g:Int} (h:0<=g):((g.toNat:Nat):Int)=g:=by omega
theorem DI.leave {bs:List DBlock} {M:List Bool} {n:Nat} {st:List (Nat × List Int)} {o:List Int} (h:DI bs M ((n,[]) :: st) o):DI bs M st ((n:Int) :: o):=by
 refine ⟨h.len,fun p hp=>h.at_ p (EB _ hp),fun i=>?_,?_,fun x hx=>?_,fun p hp=>h.todo p (EB _ hp),h.snd,?_,?_,fun hst=>?_⟩
 ·rw [h.mem i]
  constructor
  ·rintro (⟨p,hp,rfl⟩ | hi)
   ·rcases List.mem_cons.1 hp with rfl | hp
    ·exact .inr EA
    ·exact .inl ⟨p,hp,rfl⟩
   ·exact .inr (EB _ hi)
  ·rintro (⟨p,hp,rfl⟩ | hi)
   ·exact .inl ⟨p,EB _ hp,rfl⟩
   ·rcases List.mem_cons.1 hi with hi | hi
    ·exact .inl ⟨(n,[]),EA,by omega⟩
    ·exact .inr hi
 ·have:=h.nod
  rw [List.map_cons] at this
  exact List.perm_middle.nodup_iff.1 this
 ·rcases List.mem_cons.1 hx with rfl | hx
  ·refine ⟨by omega,fun g hg=>?_⟩
   rcases h.todo (n,[]) EA g hg with h1 | h1
   ·cases h1
   ·exact h1
  ·exact h.out x hx
 ·intro A x B e
  cases A with
  | nil =>
   simp only [List.nil_append,List.cons.injEq] at e
   obtain ⟨rfl,_⟩:=e
   cases st with
   | nil=>left; have:=h.chain; simp only [Chain] at this; omega
   | cons r l=>right; exact ⟨r.1,h.chain.1,.inr ⟨r,EA,rfl⟩⟩
  | cons a A =>
   simp only [List.cons_append,List.cons.injEq] at e
   obtain ⟨rfl,e⟩:=e
   rcases h.led A x B e with h1 | ⟨p,h1,h2⟩
   ·exact .inl h1
   ·refine .inr ⟨p,h1,?_⟩
    rcases h2 with h2 | ⟨r,hr,rfl⟩
    ·exact .inl (EB _ h2)
    ·rcases List.mem_cons.1 hr with rfl | hr
     ·exact .inl EA
     ·exact .inr ⟨r,hr,rfl⟩
 ·have:=h.chain
  cases st with
  | nil=>trivial
  | cons r l=>exact this.2
 ·subst hst
  have:=h.chain
  simp only [Chain] at this
  subst this
  rfl
theorem DI.skip {bs:List DBlock} {M:List Bool} {n:Nat} {g:Int} {l:List Int} {st:List (Nat × List Int)} {o:List Int} (h:DI bs M ((n,g :: l) :: st) o) (hg:M[g.toNat]? = some true):DI bs M ((n,l) :: st) o:=by
 refine ⟨h.len,fun p hp=>?_,fun i=>?_,h.nod,h.out,fun p hp g' hg'=>?_,h.snd,fun A x B e=>?_,?_,fun hst=>(by cases hst)⟩
 ·rcases List.mem_cons.1 hp with rfl | hp
  ·exact ⟨(h.at_ _ EA).1,fun g' hg'=>(h.at_ (n,g :: l) EA).2 g' (EB _ hg')⟩
  ·exact h.at_ p (EB _ hp)
 ·rw [h.mem i]
  simp
 ·rcases List.mem_cons.1 hp with rfl | hp
  ·rcases h.todo (n,g :: l) EA g' hg' with h1 | h1
   ·rcases List.mem_cons.1 h1 with rfl | h1
    ·exact .inr hg
    ·exact .inl h1
   ·exact .inr h1
  ·exact h.todo p (EB _ hp) g' hg'
 ·rcases h.led A x B e with h1 | ⟨p,h1,h2⟩
  ·exact .inl h1
  ·refine .inr ⟨p,h1,h2.imp id ?_⟩
   rintro ⟨r,hr,rfl⟩
   rcases List.mem_cons.1 hr with rfl | hr
   ·exact ⟨(n,l),EA,rfl⟩
   ·exact ⟨r,EB _ hr,rfl⟩
 ·have:=h.chain
  cases st with
  | nil=>exact this
  | cons r l=>exact this
theorem DI.enter {bs:List DBlock} {M:List Bool} {n:Nat} {g:Int} {l:List Int} {st:List (Nat × List Int)} {o:List Int} (h:DI bs M ((n,g :: l) :: st) o) (hg:M[g.toNat]? = some false):DI bs (M.set g.toNat true) ((g.toNat,aC bs g.toNat) :: (n,l) :: st) o:=by
 have hgm:=(h.at_ (n,g :: l) EA).2 g EA
 have hgt:=dm hgm
 have hlt:=(Et.1 hg).1
 have hgc:=mE hgt.1
 have hnM:∀ i:Nat,M[i]? = some true->i≠g.toNat:=fun i hi e=>by rw [e,hg] at hi; cases hi
 refine ⟨by rw [List.length_set]; exact h.len,fun p hp=>?_,fun i=>?_,?_,fun x hx=>⟨(h.out x hx).1,fun g' hg'=>nM ((h.out x hx).2 g' hg')⟩,fun p hp g' hg'=>?_,fun i hi=>?_,fun A x B e=>?_,?_,fun hst=>(by cases hst)⟩
 ·rcases List.mem_cons.1 hp with rfl | hp
  ·exact ⟨hgt.2,fun g' hg'=>hg'⟩
  ·rcases List.mem_cons.1 hp with rfl | hp
   ·exact ⟨(h.at_ _ EA).1,fun g' hg'=>(h.at_ (n,g :: l) EA).2 g' (EB _ hg')⟩
   ·exact h.at_ p (EB _ hp)
 ·rw [ik hlt,h.mem i]
  simp only [List.mem_cons,exists_eq_or_imp]
  constructor
  ·rintro (rfl | h1)
   ·exact .inl (.inl rfl)
   ·rcases h1 with h1 | h1
    ·exact .inl (.inr h1)
    ·exact .inr h1
  ·rintro ((h1 | h1) | h1)
   ·exact .inl h1.symm
   ·exact .inr (.inl h1)
   ·exact .inr (.inr h1)
 ·have h1:=h.nod
  rw [List.map_cons] at h1 ⊢
  rw [List.perm_middle.nodup_iff,List.nodup_cons]
  refine ⟨fun hin=>?_,by rw [List.map_cons]; exact h1⟩
  have:M[g.toNat]? = some true:=by
   rw [h.mem]
   rcases List.mem_append.1 hin with hin | hin
   ·exact .inr hin
   ·obtain ⟨p,hp,he⟩:=List.mem_map.1 hin
    have he:p.1=g.toNat:=by omega
    rcases List.mem_cons.1 hp with rfl | hp
    ·exact .inl ⟨(n,g :: l),EA,he⟩
    ·exact .inl ⟨p,EB _ hp,he⟩
  rw [hg] at this
  cases this
 ·rcases List.mem_cons.1 hp with rfl | hp
  ·exact .inl hg'
  ·rcases List.mem_cons.1 hp with rfl | hp
   ·rcases h.todo (n,g :: l) EA g' hg' with h1 | h1
    ·rcases List.mem_cons.1 h1 with rfl | h1
     ·exact .inr ((ik hlt).2 (.inl rfl))
     ·exact .inl h1
    ·exact .inr (nM h1)
   ·exact (h.todo p (EB _ hp) g' hg').imp id nM
 ·rcases (ik hlt).1 hi with rfl | h1
  ·have hn:M[n]? = some true:=(h.mem n).2 (.inl ⟨(n,g :: l),EA,rfl⟩)
   exact .next (h.snd n hn) hgm (by omega)
  ·exact h.snd i h1
 ·rcases h.led A x B e with h1 | ⟨p,h1,h2⟩
  ·exact .inl h1
  ·refine .inr ⟨p,h1,h2.imp id ?_⟩
   rintro ⟨r,hr,rfl⟩
   rcases List.mem_cons.1 hr with rfl | hr
   ·exact ⟨(n,l),EB _ EA,rfl⟩
   ·exact ⟨r,EB _ (EB _ hr),rfl⟩
 ·have:=h.chain
  refine ⟨by rw [hgc]; exact hgm,?_⟩
  cases st with
  | nil=>exact this
  | cons r l=>exact this
theorem Dfs.keeps {bs:List DBlock} {M M':List Bool} {st:List (Nat × List Int)} {o o':List Int} (h:Dfs bs M st o M' o'):DI bs M st o->DI bs M' [] o':=by
 induction h with
 | done=>exact fun h=>h
 | leave _ ih=>exact fun h=>ih h.leave
 | skip hg _ ih=>exact fun h=>ih (h.skip hg)
 | enter hg _ ih=>exact fun h=>ih (h.enter hg)
theorem DI.start {bs:List DBlock} (h:bs≠[]):DI bs ((List.replicate bs.length false).set 0 true) [(0,aC bs 0)] []:=by
 have hl:0 < bs.length:=List.length_pos_iff.2 h
 have hlr:0 < (List.replicate bs.length false).length:=by simpa using hl
 have none_:∀ i:Nat,¬ (List.replicate bs.length false)[i]? = some true:=fun i h=>by
  rw [List.getElem?_replicate] at h
  split at h <;> cases h
 refine ⟨by simp,fun p hp=>?_,fun i=>?_,by simp,fun x hx=>(by cases hx),fun p hp g hg=>?_,fun i hi=>?_,fun A x B e=>(by simp at e),rfl,fun hst=>(by cases hst)⟩
 ·rw [List.mem_singleton] at hp
  subst hp
  exact ⟨hl,fun g hg=>hg⟩
 ·rw [ik hlr]
  simp only [List.mem_singleton,exists_eq_left,List.not_mem_nil,or_false]
  constructor
  ·rintro (rfl | h)
   ·rfl
   ·exact absurd h (none_ i)
  ·rintro rfl
   exact .inl rfl
 ·rw [List.mem_singleton] at hp
  subst hp
  exact .inl hg
 ·rcases (ik hlr).1 hi with rfl | h
  ·exact .start (by omega) hl
  ·exact absurd h (none_ i)
structure OI (bs:List DBlock) (o:List Int):Prop where
 mem:∀ i:Nat,(i:Int) ∈ o ↔ Rc bs (-1) i
 pos:∀ x ∈ o,0<=x/\x < (bs.length:Int)
 nod:o.Nodup
 led:∀ (A:List Int) (x:Int) (B:List Int),o=A ++ x :: B->x=0\/∃ p:Nat,x ∈ aC bs p/\(p:Int) ∈ A
 first:bs≠[]->o.head? = some 0
theorem xH.keeps {bs:List DBlock} {o:List Int} (h:xH bs o):OI bs o:=by
 rcases h with ⟨rfl,rfl⟩ | ⟨h0,M',hD⟩
 ·refine ⟨fun i=>⟨fun h=>(by cases h),fun h=>absurd h.lt (by simp)⟩,fun x hx=>(by cases hx),List.nodup_nil,fun A x B e=>(by simp at e),fun h=>absurd rfl h⟩
 ·have h:=hD.keeps (DI.start h0)
  have hmem:∀ i:Nat,M'[i]? = some true ↔ (i:Int) ∈ o:=fun i=>by rw [h.mem i]; simp
  have hfull:m6 bs (-1) M':=by
   have hhd:=h.last rfl
   have h0o:(0:Int) ∈ o:=by
    cases o with
    | nil=>cases hhd
    | cons a o=>simp only [List.head?_cons,Ev] at hhd; subst hhd; exact EA
   refine m7 h.len h.snd (fun _ _=>(hmem 0).2 h0o) (fun i _ hi g hg _=>?_)
   have:=(h.out i ((hmem i).1 hi)).2 g (by simpa using hg)
   exact this
  refine ⟨fun i=>by rw [<- hmem i]; exact hfull.2 i,fun x hx=>?_,by have:=h.nod; simpa using this,fun A x B e=>?_,fun _=>h.last rfl⟩
  ·have hx0:=(h.out x hx).1
   have:Rc bs (-1) x.toNat:=(hfull.2 _).1 ((hmem _).2 (by rw [mE hx0]; exact hx))
   have:=this.lt
   omega
  ·rcases h.led A x B e with h1 | ⟨p,h1,h2⟩
   ·exact .inl h1
   ·refine .inr ⟨p,h1,?_⟩
    rcases h2 with h2 | ⟨r,hr,_⟩
    ·exact h2
    ·cases hr
end Go.Ab
namespace Go.Ab.D13
open Go Go.Ab Go.Proofs
theorem r85 {q:Option Bool} {e:List TV} {f:DFunc} (he:RFunc q e f) (hs:f.blocks.length<=1000):∃ y M,aj prog 26 [.agg e] y/\RBools (some true) y M/\m6 f.blocks (-1) M:=by
 obtain ⟨v,o,hv,hvr,hO⟩:=r80 he hs
 obtain ⟨b,rfl,hb,_⟩:=he
 have hI:=hO.keeps
 have hvb:=hvr.bnd
 have loop:∀ (d k:Nat) (M:List Bool) (w:TV),k + d=o.length->RBools (some true) w M->M.length=f.blocks.length->(∀ i:Nat,M[i]? = some true ↔ (i:Int) ∈ o.take k)->∃ y M,aa prog 26 (f26_0 (I o.length) (I k) w v) y/\RBools (some true) y M/\m6 f.blocks (-1) M:=by
  intro d
  induction d with
  | zero =>
   intro k M w hk hw hl hm
   have hk:k=o.length:=by omega
   subst hk
   rw [List.take_length] at hm
   refine ⟨w,M,?_,hw,hl,fun i=>by rw [hm i]; exact hI.mem i⟩
   unfold f26_0
   exact aa.tv rfl (aa.ite ap nofun fun _=>aa.ret)
  | succ d ih =>
   intro k M w hk hw hl hm
   have hkl:k < o.length:=by omega
   obtain ⟨x,hxx⟩:∃ x,x=o[k]:=⟨_,rfl⟩
   have hox:o[k]? = some x:=by rw [hxx]; exact Eu hkl
   have hxo:=hI.pos x (EC hox)
   obtain ⟨e,he,rfl,hei⟩:=hvr.pel hox
   have hxl:x.toNat < M.length:=by omega
   obtain ⟨e2,he2,hR⟩:=hw.pel (Eu hxl)
   cases hR
   obtain ⟨w',c1,c2⟩:=hw.gT he2 (d:=0) (ys:=[B true]) (a:=true) rfl
   obtain ⟨y,M',hy,hr,hF⟩:=ih (k + 1) (M.set x.toNat true) w' (by omega) c2 (by rw [List.length_set]; exact hl) (fun i=>by
    rw [ik hxl,hm i,wz hox,List.mem_append,List.mem_singleton]
    constructor
    ·rintro (rfl | h)
     ·exact .inr (mE hxo.1)
     ·exact .inl h
    ·rintro (h | h)
     ·exact .inr h
     ·exact .inl (by omega))
   refine ⟨y,M',?_,hr,hF⟩
   unfold f26_0
   refine aa.tv rfl (aa.ite (aq hkl) (fun _=>?_) nofun)
   refine aa.nat hvr.slLen (aa.nat (am (by omega)) (aa.chk ?_ (aa.tvs he (aa.chk rfl (aa.nat hw.slLen (aa.nat (ix hxo.1 hei) (aa.chk ?_ (aa.tvs he2 (aa.chk rfl (aa.tv c1 (aa.tv (inc hkl hvb) (f26_0_J hy))))))))))))
   ·rw [hvr.slSize]; simpa using hkl
   ·rw [hw.slSize]; simpa using hxl
 obtain ⟨y,M,hy,hr,hF⟩:=loop o.length 0 _ _ (by omega) (tj (n:=f.blocks.length) (by omega)) (by simp) (fun i=>by
  rw [List.getElem?_replicate]
  simp)
 refine ⟨y,M,?_,hr,hF⟩
 have hn:af (I (f.blocks.length:Nat))=some f.blocks.length:=am (by omega)
 refine aj.of (f26_MR _) ?_
 unfold f26_M
 refine aa.chk rfl (aa.tv hb.len (aa.nat hn (aa.nat hn (aa.chk ?_ (aa.call hv (aa.chk (bp hvr.isSl) (aa.tv hvr.len (f26_0_J hy))))))))
 have:Nat.ble f.blocks.length 4294967296=true:=by simp; omega
 simp [this]
end Go.Ab.D13
end
section
set_option maxRecDepth 10000
namespace Go.Ab
def wZ {α:Type} (g:Nat->α) (k:Nat) (v:α):Nat->α:=fun i=>if i=k then v else g i
theorem nS {α:Type} {g:Nat->α} {k:Nat} {v:α}:wZ g k v k=v:=if_pos rfl
theorem nJ {α:Type} {g:Nat->α} {k i:Nat} {v:α} (h:i≠k):wZ g k v i=g i:=if_neg h
def dc {α:Type} (n:Nat) (g:Nat->α):List α:=(List.range n).map g
theorem ck {α:Type} (n:Nat) (g:Nat->α):(dc n g).length=n:=by simp [dc]
theorem cp {α:Type} {n:Nat} {g:Nat->α} {k:Nat} (h:k < n):(dc n g)[k]? = some (g k):=by simp [dc,h]
theorem rI {α:Type} {n:Nat} {g:Nat->α} {k:Nat} {v:α}:(dc n g).set k v=dc n (wZ g k v):=by
 apply List.ext_getElem?
 intro i
 by_cases hi:i < n
 ·by_cases e:k=i
  ·subst e
   rw [List.getElem?_set_self (by rw [ck]; exact hi),cp hi,nS]
  ·rw [List.getElem?_set_ne e,cp hi,cp hi,nJ (Ne.symm e)]
 ·rw [EF (by simp [dc]; omega),EF (by simp [dc]; omega)]
theorem wy {α:Type} (n:Nat) (a:α):List.replicate n a=dc n fun _=>a:=by
 apply List.ext_getElem?
 intro i
 by_cases hi:i < n
 ·rw [cp hi,List.getElem?_replicate,if_pos hi]
 ·rw [EF (by simp; omega),EF (by simp [dc]; omega)]
abbrev RArr (w:TV) (n:Nat) (g:Nat->Int):Prop:=RInts (some true) w (dc n g)
abbrev RBArr (w:TV) (n:Nat) (g:Nat->Bool):Prop:=RBools (some true) w (dc n g)
theorem RArr.get {w:TV} {n:Nat} {g:Nat->Int} (h:RArr w n g) {k:Nat} (hk:k < n):Go.Ab.pel w k=some [I (g k)]/\inI (g k):=by
 obtain ⟨e,he,rfl,hi⟩:=RL.pel h (cp hk)
 exact ⟨he,hi⟩
theorem RArr.set {w:TV} {n:Nat} {g:Nat->Int} (h:RArr w n g) {k:Nat} (hk:k < n) {v:Int} (hv:inI v):∃ w',df [] w k 0 [I v]=some w'/\RArr w' n (wZ g k v):=by
 obtain ⟨w',h1,h2⟩:=RL.gT h (h.get hk).1 (d:=0) (ys:=[I v]) (a:=v) ⟨rfl,hv⟩
 rw [rI] at h2
 exact ⟨w',h1,h2⟩
theorem RBArr.get {w:TV} {n:Nat} {g:Nat->Bool} (h:RBArr w n g) {k:Nat} (hk:k < n):Go.Ab.pel w k=some [B (g k)]:=by
 obtain ⟨e,he,rfl⟩:=RL.pel h (cp hk)
 exact he
theorem RBArr.set {w:TV} {n:Nat} {g:Nat->Bool} (h:RBArr w n g) {k:Nat} (hk:k < n) (v:Bool):∃ w',df [] w k 0 [B v]=some w'/\RBArr w' n (wZ g k v):=by
 obtain ⟨w',h1,h2⟩:=RL.gT h (h.get hk) (d:=0) (ys:=[B v]) (a:=v) rfl
 rw [rI] at h2
 exact ⟨w',h1,h2⟩
theorem bU {α:Type} {n:Nat} {g h:Nat->α} (e:∀ i,i < n->g i=h i):dc n g=dc n h:=by
 apply List.ext_getElem?
 intro i
 by_cases hi:i < n
 ·rw [cp hi,cp hi,e i hi]
 ·rw [EF (by rw [ck]; omega),EF (by rw [ck]; omega)]
end Go.Ab
end
section
set_option maxRecDepth 10000
namespace Go.Ab
theorem RI1.frzZ {e:List TV} {n:Int} (h:RI1 e n):RI1 (mN e) n:=by obtain ⟨rfl,h⟩:=h; exact ⟨rfl,h⟩
theorem F2.rep {α:Type} {R:List TV->α->Prop} {e:List TV} {a:α} (h:R e a):∀ n:Nat,F2 R (List.replicate n e) (List.replicate n a)
 | 0=>.nil
 | n + 1=>.cons h (F2.rep h n)
theorem RL.rep {α:Type} {s:Nat} {R:List TV->α->Prop} {e:List TV} {a:α} (h:R e a) {n:Nat} (hn:n<=9223372036854775807):RL (some true) s R (.sl true s (List.replicate n e)) (dc n fun _=>a):=by
 rw [<- wy]
 exact .sl (by simp) (F2.rep h n) (by simpa using hn)
theorem xp (m:DMod) (n:Int):(ofL m n).Pairwise (· < ·):=by
 unfold ofL
 split
 ·exact xu _ _
 ·exact List.Pairwise.nil
end Go.Ab
namespace Go.Ab.D13
open Go Go.Ab Go.Proofs
section
variable {q:Option Bool} {b:TV} {m:DMod} (hb:RL q 3 (RFunc q) b m.funcs) (hs:CE m)
include hb hs
end
end Go.Ab.D13
end
section
set_option maxRecDepth 10000
namespace Go.Ab
theorem pd:∀ (n:Nat) {l:List Nat},l.Nodup->(∀ x ∈ l,x < n)->l.length<=n
 | 0,l,_,h=>by
  cases l with
  | nil=>exact Nat.le_refl _
  | cons a l=>exact absurd (h a EA) (Nat.not_lt_zero _)
 | n + 1, l, hd, h => by
  by_cases hn:n ∈ l
  ·have:=pd n (hd.erase n) (fun x hx=>by
    have h1:=h x (List.mem_of_mem_erase hx)
    have h2:x≠n:=fun e=>by subst e; exact absurd hx (hd.not_mem_erase)
    omega)
   rw [List.length_erase_of_mem hn] at this
   omega
  ·have:=pd n hd (fun x hx=>by
    have h1:=h x hx
    have h2:x≠n:=fun e=>by subst e; exact hn hx
    omega)
   omega
section
variable (R:Nat->Nat->Prop) (N:Nat)
variable {R N}
variable (hT:∀ a b c,R a b->R b c->R a c)
include hT
end
end Go.Ab
end

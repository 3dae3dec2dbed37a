import Derived.Test.YthfcodidfelpoaaGD13F107
set_option linter.all false
section
set_option maxRecDepth 10000
namespace Go.Ab
def An (k:Nat) (x:DIns):Prop:=x.op=11/\x.f=(k:Int)
def BK (k:Nat) (b:DBlock):Prop:=(∃ x ∈ b.ins,An k x)\/b.fin.kind=4/\b.fin.f=(k:Int)
open Classical in
noncomputable def dP (p:Prop):Bool:=decide p
theorem dF {p:Prop} (h:p):dP p=true:=@decide_eq_true p (Classical.propDecidable p) h
theorem fS {p:Prop} (h:¬ p):dP p=false:=@decide_eq_false p (Classical.propDecidable p) h
theorem lB {p q:Prop} (h:p ↔ q):dP p=dP q:=by rw [propext h]
theorem Ec (p q:Prop):dP (p\/q)=(dP p || dP q):=by
 by_cases hp:p
 ·rw [dF (.inl hp),dF hp,Bool.true_or]
 ·rw [fS hp,Bool.false_or]
  exact lB ⟨fun h=>h.elim (fun h=>absurd h hp) id,.inr⟩
theorem yD {p:Prop} (h:dP p=true):p:=Classical.byContradiction fun hn=>by rw [fS hn] at h; cases h
theorem wV {p:Prop} (h:dP p=false):¬ p:=fun hp=>by rw [dF hp] at h; cases h
theorem vz {α:Type} {l:List α} {i:Nat} {x:α} (h:l[i]? = some x) (p:α->Prop):dP (∃ y ∈ l.drop i,p y)=(dP (p x) || dP (∃ y ∈ l.drop (i + 1),p y)):=by
 obtain ⟨hi,e⟩:=Et.1 h
 rw [List.drop_eq_getElem_cons hi,e,<- Ec]
 apply lB
 constructor
 ·rintro ⟨y,hy,hp⟩
  rcases List.mem_cons.1 hy with e | hy
  ·subst e; exact .inl hp
  ·exact .inr ⟨y,hy,hp⟩
 ·rintro (hp | ⟨y,hy,hp⟩)
  ·exact ⟨x,EA,hp⟩
  ·exact ⟨y,EB _ hy,hp⟩
theorem zp {α:Type} {l:List α} {p:α->Prop}:dP (∃ y ∈ l.drop l.length,p y)=false:=by
 rw [List.drop_length]
 exact fS fun ⟨y,hy,_⟩=>by cases hy
open Classical in
theorem vG (u:DFunc) (k:Nat):ofF u (k + 1)=ofF u k ++ (if gk u k then [(k:Int)] else []):=by
 unfold ofF
 rw [List.range_succ,List.filter_append,List.map_append]
 by_cases h:gk u k <;> simp [h]
def fq (l:List Nat):List Int:=l.map fun n:Nat=>(n:Int)
theorem Ar (l m:List Nat):fq (l ++ m)=fq l ++ fq m:=by simp [fq]
theorem tS (l:List Nat):(fq l).length=l.length:=by simp [fq]
structure TI (m:DMod) (a:Int) (l:List Nat) (at_:Nat):Prop where
 nod:l.Nodup
 frm:∀ k ∈ l,CoI m a k
 start:∀ k:Nat,(k:Int) ∈ ofL m a->k ∈ l
 clo:∀ i,i < at_->∀ j,l[i]? = some j->∀ k,ofP m j k->k ∈ l
theorem TI.done {m:DMod} {a:Int} {l:List Nat} (h:TI m a l l.length) (k:Nat):k ∈ l ↔ CoI m a k:=by
 refine ⟨h.frm k,?_⟩
 rintro ⟨n,rfl,hc⟩
 induction hc with
 | one hp=>exact h.start _ (qb.2 ⟨_,rfl,hp⟩)
 | more _ hp ih =>
  obtain ⟨i,hi,e⟩:=List.mem_iff_getElem.1 ih
  exact h.clo i hi _ (by rw [Eu hi,e]) _ hp
end Go.Ab
namespace Go.Ab.D13
open Go Go.Ab Go.Proofs
theorem Af {q:Option Bool} {e:List TV} {u:DFunc} (he:RFunc q e u) (k:Nat):aj prog 67 [.agg e,I (k:Int)] (B (dP (gk u k))):=by
 obtain ⟨bl,rfl,hb,_⟩:=he
 have hbn:=hb.bnd
 have key : ∀ (d i : Nat), i + d = u.blocks.length → aa prog 67 (f67_0 (I (k : Int)) (I i) (I u.params) (I u.regs) bl) (B (dP (∃ b ∈ u.blocks.drop i, BK k b))) := by
  intro d
  induction d with
  | zero =>
   intro i hi
   have hi:i=u.blocks.length:=by omega
   subst hi
   rw [zp]
   unfold f67_0
   exact aa.tv hb.len (aa.tv rfl (aa.ite ap nofun fun _=>aa.ret))
  | succ d ih =>
   intro i hi
   have hil:i < u.blocks.length:=by omega
   obtain ⟨x,hx⟩:∃ x,u.blocks[i]? = some x:=⟨_,Eu hil⟩
   have next:=ih (i + 1) (by omega)
   obtain ⟨e,he,hR⟩:=hb.idx (k:=.i64) hx
   obtain ⟨c,il,g,rfl,hc,hd,hin,hg,ho⟩:=hR
   have hinb:=hin.bnd
   have ten:aa prog 67 (f67_2 (I (k:Int)) (I i) (I u.params) (I u.regs) bl) (B (dP (x.fin.kind=4/\x.fin.f=(k:Int)) || dP (∃ b ∈ u.blocks.drop (i + 1),BK k b))):=by
    unfold f67_2
    refine aa.tvs he (aa.chk rfl (aa.tv rfl ?_))
    by_cases h4:x.fin.kind=4
    ·refine aa.ite (v:=true) (by simp [asBool,h4]) (fun _=>aa.tvs he (aa.chk rfl (aa.tv rfl ?_))) nofun
     by_cases hf:x.fin.f=(k:Int)
     ·rw [dF ⟨h4,hf⟩,Bool.true_or]
      exact aa.ite (v:=true) (by simp [asBool,hf]) (fun _=>aa.ret) nofun
     ·rw [fS (fun h=>hf h.2),Bool.false_or]
      exact aa.ite (v:=false) (by simp [asBool,hf]) nofun fun _=>aa.tv (inc hil hbn) (f67_0_J next)
    ·rw [fS (fun h=>h4 h.1),Bool.false_or]
     exact aa.ite (v:=false) (by simp [asBool,h4]) nofun fun _=>aa.tv (inc hil hbn) (f67_0_J next)
   have inner:∀ (d j:Nat),j + d=x.ins.length->aa prog 67 (f67_1 (I (k:Int)) (I i) (I j) (I u.params) (I u.regs) bl) (B (dP (∃ y ∈ x.ins.drop j,An k y) || (dP (x.fin.kind=4/\x.fin.f=(k:Int)) || dP (∃ b ∈ u.blocks.drop (i + 1),BK k b)))):=by
    intro d
    induction d with
    | zero =>
     intro j hj
     have hj:j=x.ins.length:=by omega
     subst hj
     rw [zp,Bool.false_or]
     unfold f67_1
     exact aa.tvs he (aa.chk rfl (aa.tv hin.len (aa.tv rfl (aa.ite ap nofun fun _=>f67_2_J ten))))
    | succ d ih2 =>
     intro j hj
     have hjl:j < x.ins.length:=by omega
     obtain ⟨y,hy⟩:∃ y,x.ins[j]? = some y:=⟨_,Eu hjl⟩
     have next2:=ih2 (j + 1) (by omega)
     obtain ⟨e2,he2,g2,rfl,_,hok⟩:=hin.idx (k:=.i64) hy
     rw [vz hy]
     unfold f67_1
     refine aa.tvs he (aa.chk rfl (aa.tv hin.len (aa.tv rfl (aa.ite (aq hjl) (fun _=>?_) nofun))))
     refine aa.tvs he (aa.chk rfl (aa.tvs he2 (aa.chk rfl (aa.tv rfl ?_))))
     by_cases h11:y.op=11
     ·refine aa.ite (v:=true) (by simp [asBool,h11]) (fun _=>aa.tvs he (aa.chk rfl (aa.tvs he2 (aa.chk rfl (aa.tv rfl ?_))))) nofun
      by_cases hf:y.f=(k:Int)
      ·rw [dF (show An k y from ⟨h11,hf⟩),Bool.true_or,Bool.true_or]
       exact aa.ite (v:=true) (by simp [asBool,hf]) (fun _=>aa.ret) nofun
      ·rw [fS (show ¬ An k y from fun h=>hf h.2),Bool.false_or]
       exact aa.ite (v:=false) (by simp [asBool,hf]) nofun fun _=>aa.tv (inc hjl hinb) (f67_1_J next2)
     ·rw [fS (show ¬ An k y from fun h=>h11 h.1),Bool.false_or]
      exact aa.ite (v:=false) (by simp [asBool,h11]) nofun fun _=>aa.tv (inc hjl hinb) (f67_1_J next2)
   have hin0:=inner x.ins.length 0 (by omega)
   rw [vz hx]
   have e1:dP (BK k x)=(dP (∃ y ∈ x.ins,An k y) || dP (x.fin.kind=4/\x.fin.f=(k:Int))):=by
    unfold BK
    rw [Ec]
   rw [e1,Bool.or_assoc]
   rw [List.drop_zero] at hin0
   unfold f67_0
   exact aa.tv hb.len (aa.tv rfl (aa.ite (aq hil) (fun _=>f67_1_J hin0) nofun))
 have h0:=key u.blocks.length 0 (by omega)
 rw [List.drop_zero] at h0
 refine aj.of (f67_MR _ _) ?_
 unfold f67_M
 exact aa.chk rfl (f67_0_J h0)
section
variable {b:TV} {m:DMod} (hb:RL (some false) 3 (RFunc (some false)) b m.funcs) (hN:m.funcs.length<=100)
include hb hN
theorem B7 (n:Int):∃ y,aj prog 52 [.agg [b],I n] y/\RInts (some true) y (ofL m n):=by
 have run:(∃ y,aa prog 52 (f52_0 (I n) (I (0:Nat)) b (.lit aB)) y/\RInts (some true) y (ofL m n))->∃ y,aj prog 52 [.agg [b],I n] y/\RInts (some true) y (ofL m n):=by
  rintro ⟨y,hy,hr⟩
  refine ⟨y,?_,hr⟩
  refine aj.of (f52_MR _ _) ?_
  unfold f52_M
  exact aa.chk rfl (aa.chk rfl (f52_0_J hy))
 refine run ?_
 cases ht:bh m.funcs.length n with
 | false =>
  rw [zy ht]
  have hno:¬ (0<=n/\n < (m.funcs.length:Int)):=by simpa [bh] using ht
  have key:∀ (d k:Nat),k + d=m.funcs.length->aa prog 52 (f52_0 (I n) (I k) b (.lit aB)) (.lit aB):=by
   intro d
   induction d with
   | zero =>
    intro k hk
    have hk:k=m.funcs.length:=by omega
    subst hk
    unfold f52_0
    exact aa.tv hb.len (aa.tv rfl (aa.ite ap nofun fun _=>aa.chk rfl aa.ret))
   | succ d ih =>
    intro k hk
    have hkl:k < m.funcs.length:=by omega
    have next:=ih (k + 1) (by omega)
    unfold f52_0
    refine aa.tv hb.len (aa.tv rfl (aa.ite (aq hkl) (fun _=>aa.tv rfl (aa.ite rfl (fun h1=>?_) fun h1=>?_)) nofun))
    ·refine aa.tv hb.len (aa.tv rfl (aa.ite rfl (fun h2=>?_) fun h2=>?_))
     ·exact absurd ⟨by simpa using h1,by simpa using h2⟩ hno
     ·exact aa.tv (inc hkl (by omega)) (f52_0_J next)
    ·exact aa.tv (inc hkl (by omega)) (f52_0_J next)
  exact ⟨_,key m.funcs.length 0 (by omega),RL.nil⟩
 | true =>
  obtain ⟨u,hu,hn,ho⟩:=AT ht
  obtain ⟨e,he,hR⟩:=hb.idx (k:=.i64) hu
  have hcall:=fun k=>Af hR k
  obtain ⟨bl,rfl,_⟩:=hR
  rw [<- hn] at he
  have hth:0<=n/\n < (m.funcs.length:Int):=by simpa [bh] using ht
  have key:∀ (d k:Nat) (w:TV),k + d=m.funcs.length->RInts (some true) w (ofF u k)->∃ y,aa prog 52 (f52_0 (I n) (I k) b w) y/\RInts (some true) y (ofF u m.funcs.length):=by
   intro d
   induction d with
   | zero =>
    intro k w hk hw
    have hk:k=m.funcs.length:=by omega
    subst hk
    refine ⟨w,?_,hw⟩
    unfold f52_0
    exact aa.tv hb.len (aa.tv rfl (aa.ite ap nofun fun _=>aa.chk (hw.own fun _ _ h=>h.own) aa.ret))
   | succ d ih =>
    intro k w hk hw
    have hkl:k < m.funcs.length:=by omega
    have hlen:=yr u k
    have top:∀ {y:TV},(∀ v:Bool,v=true->(gk u k)->∃ w',papp 1 w [[I (k:Int)]]=some w'/\aa prog 52 (f52_0 (I n) (I (k + 1:Nat)) b w') y)->(¬ gk u k->aa prog 52 (f52_0 (I n) (I (k + 1:Nat)) b w) y)->aa prog 52 (f52_0 (I n) (I k) b w) y:=by
     intro y g1 g2
     unfold f52_0
     refine aa.tv hb.len (aa.tv rfl (aa.ite (aq hkl) (fun _=>?_) nofun))
     refine aa.tv rfl (aa.ite (v:=true) (by simp [asBool]; omega) (fun _=>?_) nofun)
     refine aa.tv hb.len (aa.tv rfl (aa.ite (v:=true) (by simp [asBool]; omega) (fun _=>?_) nofun))
     refine aa.tvs he (aa.chk rfl (aa.call (hcall k) (aa.chk rfl (aa.ite rfl (fun h=>?_) fun h=>?_))))
     ·obtain ⟨w',a1,a2⟩:=g1 true rfl (yD h)
      exact aa.chk rfl (aa.rws rfl (aa.tv a1 (aa.tv (inc hkl (by omega)) (f52_0_J a2))))
     ·exact aa.tv (inc hkl (by omega)) (f52_0_J (g2 (wV h)))
    by_cases hc:gk u k
    ·obtain ⟨w',a1,hr⟩:=hw.app (e:=[I (k:Int)]) (a:=(k:Int)) ⟨rfl,by unfold inI; omega⟩ (by omega)
     obtain ⟨y,hy,hz⟩:=ih (k + 1) w' (by omega) (by rw [vG,if_pos hc]; exact hr)
     exact ⟨y,top (fun _ _ _=>⟨w',a1,hy⟩) (fun h=>absurd hc h),hz⟩
    ·obtain ⟨y,hy,hz⟩:=ih (k + 1) w (by omega) (by rw [vG,if_neg hc,List.append_nil]; exact hw)
     exact ⟨y,top (fun _ _ h=>absurd h hc) (fun _=>hy),hz⟩
  obtain ⟨y,hy,hr⟩:=key m.funcs.length 0 (.lit aB) (by omega) (by simpa [ofF] using RL.nil)
  exact ⟨y,hy,by rw [ho]; exact hr⟩
theorem rTo (a:Int):∃ y l,aj prog 34 [.agg [b],I a] y/\RInts (some true) y (fq l)/\∀ k,k ∈ l ↔ CoI m a k:=by
 have low:∀ {l:List Nat} {at_:Nat},TI m a l at_->l.length<=m.funcs.length:=fun {l at_} h=>pd _ h.nod fun x hx=>(h.frm x hx).lt
 have inner : ∀ {i n : Nat} {Z : TV → Prop} {r : TV}, RInts (some true) r (ofL m (n : Int)) → i ≤ 1000 →
   (∀ (w:TV) (l:List Nat),RInts (some true) w (fq l)->TI m a l i->l[i]? = some n->(∀ k,ofP m n k->k ∈ l)->∃ y,aa prog 34 (f34_0 (I (i + 1:Nat)) b w) y/\Z y) ->
   ∀ (d j:Nat) (w:TV) (l:List Nat),j + d=(ofL m (n:Int)).length->RInts (some true) w (fq l)->TI m a l i->l[i]? = some n->(∀ k:Nat,(k:Int) ∈ (ofL m (n:Int)).take j->k ∈ l) ->
    ∃ y,aa prog 34 (f34_1 (I i) (I j) b w r) y/\Z y:=by
  intro i n Z r hr hi hk d
  have hrl:=DO m (n:Int)
  induction d with
  | zero =>
   intro j w l hj hw hT hl hin
   have hj:j=(ofL m (n:Int)).length:=by omega
   subst hj
   rw [List.take_length] at hin
   obtain ⟨y,hy,hz⟩:=hk w l hw hT hl fun k hp=>hin k (qb.2 ⟨k,rfl,hp⟩)
   refine ⟨y,?_,hz⟩
   unfold f34_1
   exact aa.tv hr.len (aa.tv rfl (aa.ite ap nofun fun _=>aa.tv (inc (n:=2000) (by omega) (by omega)) (f34_0_J hy)))
  | succ d ih =>
   intro j w l hj hw hT hl hin
   have hjl:j < (ofL m (n:Int)).length:=by omega
   obtain ⟨x,hx⟩:∃ x,(ofL m (n:Int))[j]? = some x:=⟨_,Eu hjl⟩
   obtain ⟨c,rfl,hc⟩:=qb.1 (EC hx)
   obtain ⟨ec,hec,rfl,hec2⟩:=hr.pel hx
   have htk:(ofL m (n:Int)).take (j + 1)=(ofL m (n:Int)).take j ++ [(c:Int)]:=by rw [List.take_add_one,hx]; rfl
   have anj:af (I (j:Int))=some j:=am (by omega)
   have hcj:(slSize r 1 && Nat.blt j (ofL m (n:Int)).length)=true:=by rw [hr.slSize]; simpa using hjl
   have hhas:=r75 (hw.frz (S:=RI1) fun _ _ h=>h.frzZ) (c:Int)
   have hm:((c:Int) ∈ fq l) ↔ c ∈ l:=by
    unfold fq
    rw [List.mem_map]
    exact ⟨fun ⟨x,hx,e⟩=>by rw [<- Int.ofNat_inj.1 e]; exact hx,fun h=>⟨c,h,rfl⟩⟩
   have hin0:=(Et.1 hl).1
   by_cases hcl:c ∈ l
   ·rw [decide_eq_true (hm.2 hcl)] at hhas
    obtain ⟨y,hy,hz⟩:=ih (j + 1) w l (by omega) hw hT hl fun k hk'=>by
     rw [htk] at hk'
     rcases List.mem_append.1 hk' with h | h
     ·exact hin k h
     ·have:k=c:=by have:=List.mem_singleton.1 h; omega
      subst this; exact hcl
    refine ⟨y,?_,hz⟩
    unfold f34_1
    refine aa.tv hr.len (aa.tv rfl (aa.ite (aq hjl) (fun _=>?_) nofun))
    refine aa.nat hr.slLen (aa.nat anj (aa.chk hcj (aa.tvs hec (aa.chk rfl (aa.call hhas (aa.chk rfl (aa.tv rfl ?_)))))))
    exact aa.ite (v:=false) rfl nofun fun _=>aa.tv (inc hjl (by omega)) (f34_1_J hy)
   ·rw [decide_eq_false (fun h => hcl (hm.1 h))] at hhas
    have hln:=low hT
    obtain ⟨w',a1,hr'⟩:=hw.app (e:=[I (c:Int)]) (a:=(c:Int)) ⟨rfl,hec2⟩ (by rw [tS]; omega)
    obtain ⟨y,hy,hz⟩:=ih (j + 1) w' (l ++ [c]) (by omega) (by rw [Ar]; exact hr') ⟨List.nodup_append.2 ⟨hT.nod,by simp,fun x hx y hy e=>by subst e; rw [List.mem_singleton.1 hy] at hx; exact hcl hx⟩,fun k hk'=>by
      rcases List.mem_append.1 hk' with h | h
      ·exact hT.frm k h
      ·rw [List.mem_singleton.1 h]
       obtain ⟨n0,e0,h0⟩:=hT.frm n (EC hl)
       exact ⟨n0,e0,.more h0 hc⟩,fun k hk'=>List.mem_append.2 (.inl (hT.start k hk')),fun i' hi' j' hj' k hk'=>by
      rw [ED (by omega)] at hj'
      exact List.mem_append.2 (.inl (hT.clo i' hi' j' hj' k hk'))⟩ (by rw [ED hin0]; exact hl) fun k hk'=>by
     rw [htk] at hk'
     rcases List.mem_append.1 hk' with h | h
     ·exact List.mem_append.2 (.inl (hin k h))
     ·have:k=c:=by have:=List.mem_singleton.1 h; omega
      subst this; exact List.mem_append.2 (.inr (List.mem_singleton.2 rfl))
    refine ⟨y,?_,hz⟩
    unfold f34_1
    refine aa.tv hr.len (aa.tv rfl (aa.ite (aq hjl) (fun _=>?_) nofun))
    refine aa.nat hr.slLen (aa.nat anj (aa.chk hcj (aa.tvs hec (aa.chk rfl (aa.call hhas (aa.chk rfl (aa.tv rfl ?_)))))))
    refine aa.ite (v:=true) rfl (fun _=>?_) nofun
    exact aa.nat hr.slLen (aa.nat anj (aa.chk hcj (aa.tvs hec (aa.chk rfl (aa.rws rfl (aa.tv a1 (aa.tv (inc hjl (by omega)) (f34_1_J hy))))))))
 have outer:∀ (d i:Nat) (w:TV) (l:List Nat),i + d=m.funcs.length + 1->i<=l.length->RInts (some true) w (fq l)->TI m a l i->∃ y,aa prog 34 (f34_0 (I i) b w) y/\∃ l,RInts (some true) y (fq l)/\TI m a l l.length:=by
  intro d
  induction d with
  | zero =>
   intro i w l hi hil hw hT
   have:=low hT
   omega
  | succ d ih =>
   intro i w l hi hil hw hT
   have hln:=low hT
   have lw:=hw.len (t:=3)
   have lsw:=hw.slLen
   rw [tS] at lw lsw
   by_cases e:i=l.length
   ·subst e
    refine ⟨w,?_,l,hw,hT⟩
    unfold f34_0
    exact aa.tv lw (aa.tv rfl (aa.ite ap nofun fun _=>aa.chk (hw.own fun _ _ h=>h.own) aa.ret))
   ·have hlt:i < l.length:=by omega
    obtain ⟨n,hn⟩:∃ n,l[i]? = some n:=⟨_,Eu hlt⟩
    obtain ⟨en,hen,rfl,_⟩:=hw.pel (show (fq l)[i]? = some (n:Int) by simp [fq,hn])
    obtain ⟨r,hr1,hr2⟩:=B7 hb hN (n:Int)
    obtain ⟨y,hy,hz⟩:=inner hr2 (by omega) (fun w l hw hT hl hc=>ih (i + 1) w l (by omega) (by have:=(Et.1 hl).1; omega) hw ⟨hT.nod,hT.frm,hT.start,fun i' hi' j hj k hk=>by
     by_cases e:i'=i
     ·subst e; rw [hl] at hj; cases hj; exact hc k hk
     ·exact hT.clo i' (by omega) j hj k hk⟩) (ofL m (n:Int)).length 0 w l (by omega) hw hT hn (fun k hk=>by simp at hk)
    refine ⟨y,?_,hz⟩
    have ani:af (I (i:Int))=some i:=am (by omega)
    unfold f34_0
    refine aa.tv lw (aa.tv rfl (aa.ite (aq hlt) (fun _=>?_) nofun))
    exact aa.nat lsw (aa.nat ani (aa.chk (by rw [hw.slSize]; simpa using hlt) (aa.tvs hen (aa.chk rfl (aa.call hr1 (aa.chk (bp hr2.isSl) (f34_1_J hy)))))))
 obtain ⟨r,hr1,hr2⟩:=B7 hb hN a
 obtain ⟨l0,hl0⟩:∃ l0:List Nat,fq l0=ofL m a:=by
  refine ⟨(ofL m a).map Int.toNat,?_⟩
  unfold fq
  rw [List.map_map]
  refine (List.map_congr_left fun x hx=>?_).trans (List.map_id _)
  obtain ⟨n,k,_,rfl,_⟩:=yk hx
  rfl
 have hnd:l0.Nodup:=by
  have:=xp m a
  rw [<- hl0] at this
  exact (List.pairwise_map.1 this).imp fun {a b} h e=>by omega
 obtain ⟨y,hy,l,h1,h2⟩:=outer (m.funcs.length + 1) 0 r l0 (by omega) (Nat.zero_le _) (by rw [hl0]; exact hr2) ⟨hnd,fun k hk=>by
  have:(k:Int) ∈ ofL m a:=by rw [<- hl0]; exact List.mem_map.2 ⟨k,hk,rfl⟩
  obtain ⟨n,k',e1,e2,h3⟩:=yk this
  rw [Int.ofNat_inj.1 e2]
  exact ⟨n,e1,.one h3⟩,fun k hk=>by
  rw [<- hl0] at hk
  obtain ⟨x,hx,e⟩:=List.mem_map.1 hk
  rw [<- Int.ofNat_inj.1 e]
  exact hx,fun i hi=>absurd hi (Nat.not_lt_zero _)⟩
 refine ⟨y,l,?_,h1,h2.done⟩
 refine aj.of (f34_MR _ _) ?_
 unfold f34_M
 exact aa.chk rfl (aa.call hr1 (aa.chk (bp hr2.isSl) (f34_0_J hy)))
end
end Go.Ab.D13
end
section
set_option maxRecDepth 10000
namespace Go.Ab
noncomputable def mD (P:Nat->Prop) (i:Nat):Int:=if dP (P i)=true then (aA P i:Int) else 0
theorem kP {P:Nat->Prop} {i:Nat} (h:P i):mD P i=(aA P i:Int):=if_pos (dF h)
theorem DZ {P:Nat->Prop} {i:Nat} (h:¬ P i):mD P i=0:=if_neg (by rw [fS h]; exact nofun)
theorem RL.isOneD {α:Type} {q:Option Bool} {s:Nat} {R:List TV->α->Prop} {x:TV} {l:List α} (h:RL q s R x l):x.gR=true:=by
 rcases h with ⟨rfl,rfl⟩ | ⟨o,xs,rfl,hq,h,hb⟩ <;> rfl
theorem wx {bs:List DBlock} {M:List Bool} (h:m6 bs (-1) M):M=dc bs.length fun i=>dP (Rc bs (-1) i):=by
 apply List.ext_getElem?
 intro i
 by_cases hi:i < bs.length
 ·rw [cp hi]
  obtain ⟨c,hc⟩:∃ c,M[i]? = some c:=⟨_,Eu (by rw [h.1]; exact hi)⟩
  rw [hc]
  congr 1
  cases c with
  | true=>rw [dF ((h.2 i).1 hc)]
  | false=>rw [fS fun hr=>by rw [(h.2 i).2 hr] at hc; cases hc]
 ·rw [EF (by rw [h.1]; omega),EF (by rw [ck]; omega)]
end Go.Ab
namespace Go.Ab.D13
open Go Go.Ab Go.Proofs
section
variable {q:Option Bool} {x:TV} {N:Nat} {P:Nat->Prop} (hx:RBools q x (dc N fun i=>dP (P i))) (hN:N<=1000)
include hx hN
theorem D7:∃ y,aj prog 20 [x] y/\RInts (some true) y (dc N (mD P)):=by
 have key : ∀ (d i : Nat) (w : TV), i + d = N → RInts (some true) w (dc N fun k => if k < i then mD P k else 0) → ∃ y, aa prog 20 (f20_0 (I (aA P i)) x (I N) (I i) w) y ∧ RInts (some true) y (dc N (mD P)) := by
  intro d
  induction d with
  | zero =>
   intro i w hi hw
   have hi:i=N:=by omega
   subst hi
   rw [bU (h:=mD P) fun k hk=>if_pos hk] at hw
   refine ⟨w,?_,hw⟩
   unfold f20_0
   exact aa.tv rfl (aa.ite ap nofun fun _=>aa.chk (hw.own fun _ _ h=>h.own) aa.ret)
  | succ d ih =>
   intro i w hi hw
   have hil:i < N:=by omega
   obtain ⟨e,he,hR⟩:=hx.idx (k:=.i64) (cp hil)
   cases hR
   have hcl:=qj P i
   by_cases hp:P i
   ·rw [dF hp] at he
    obtain ⟨a1,a2⟩:=RArr.get hw hil
    obtain ⟨w',b1,b2⟩:=RArr.set hw hil (v:=(aA P i:Int)) (by unfold inI; omega)
    have b2:RInts (some true) w' (dc N fun k=>if k < i + 1 then mD P k else 0):=by
     rw [bU (h:=wZ (fun k=>if k < i then mD P k else 0) i (aA P i:Int)) fun k hk=>by
      by_cases e:k=i
      ·subst e; rw [nS,if_pos (by omega),kP hp]
      ·rw [nJ e]
       by_cases h:k < i
       ·rw [if_pos h,if_pos (by omega)]
       ·rw [if_neg h,if_neg (by omega)]]
     exact b2
    obtain ⟨y,hy,hr⟩:=ih (i + 1) w' (by omega) b2
    rw [md hp] at hy
    refine ⟨y,?_,hr⟩
    have l:=RL.slLen hw
    rw [ck] at l
    have ani:af (I (i:Int))=some i:=am (by omega)
    unfold f20_0
    refine aa.tv rfl (aa.ite (aq hil) (fun _=>aa.tvs he (aa.chk rfl (aa.ite (v:=true) rfl (fun _=>?_) nofun))) nofun)
    exact aa.nat l (aa.nat ani (aa.chk (by rw [RL.slSize hw]; simpa using hil) (aa.chk rfl (aa.tvs a1 (aa.chk rfl (aa.tv b1 (aa.tv (inc (k:=aA P i) (n:=N) (by omega) (by omega)) (aa.tv (inc hil (by omega)) (f20_0_J hy)))))))))
   ·rw [fS hp] at he
    have hw2:RInts (some true) w (dc N fun k=>if k < i + 1 then mD P k else 0):=by
     rw [bU (h:=fun k=>if k < i then mD P k else 0) fun k hk=>by
      by_cases e:k=i
      ·subst e; rw [if_pos (by omega),if_neg (by omega),DZ hp]
      ·by_cases h:k < i
       ·rw [if_pos h,if_pos (by omega)]
       ·rw [if_neg h,if_neg (by omega)]]
     exact hw
    obtain ⟨y,hy,hr⟩:=ih (i + 1) w (by omega) hw2
    rw [ot hp] at hy
    refine ⟨y,?_,hr⟩
    unfold f20_0
    refine aa.tv rfl (aa.ite (aq hil) (fun _=>aa.tvs he (aa.chk rfl (aa.ite (v:=false) rfl nofun fun _=>?_))) nofun)
    exact aa.tv (inc hil (by omega)) (f20_0_J hy)
 have hzero:RI1 [I 0] 0:=⟨rfl,by unfold inI; omega⟩
 have hr:=RL.rep (s:=1) hzero (n:=N) (by omega)
 obtain ⟨y,hy,hr⟩:=key N 0 _ (by omega) (by rw [bU (h:=fun _=>(0:Int)) fun k _=>if_neg (Nat.not_lt_zero _)]; exact hr)
 rw [lI] at hy
 refine ⟨y,?_,hr⟩
 have lx:=hx.len (t:=4)
 rw [ck] at lx
 have han:af (I (N:Int))=some N:=am (by omega)
 refine aj.of (f20_MR _) ?_
 unfold f20_M
 exact aa.tv lx (aa.nat han (aa.nat han (aa.chk (by simp; omega) (aa.tv lx (f20_0_J hy)))))
theorem rStayB {q2:Option Bool} {b:TV} {l:List DBlock} (hb:RL q2 14 (RBlock (some false)) b l) (hl:l.length=N):∃ y,aj prog 28 [b,x] y/\RL (some true) 14 (RBlock (some false)) y (bA P l id N):=by
 have key:∀ (d i:Nat) (w:TV),i + d=N->RL (some true) 14 (RBlock (some false)) w (bA P l id i)->∃ y,aa prog 28 (f28_0 x b (I N) (I i) w) y/\RL (some true) 14 (RBlock (some false)) y (bA P l id N):=by
  intro d
  induction d with
  | zero =>
   intro i w hi hw
   have hi:i=N:=by omega
   subst hi
   refine ⟨w,?_,hw⟩
   unfold f28_0
   exact aa.tv rfl (aa.ite ap nofun fun _=>aa.ret)
  | succ d ih =>
   intro i w hi hw
   have hil:i < N:=by omega
   obtain ⟨a,ha⟩:∃ a,l[i]? = some a:=⟨_,Eu (by omega)⟩
   obtain ⟨eb,heb,hRb⟩:=hb.idx (k:=.i64) ha
   obtain ⟨e,he,hR⟩:=hx.idx (k:=.i64) (cp hil)
   cases hR
   have hlen:=fo (P:=P) (l:=l) (f:=id) (k:=i)
   have hB:=hRb
   obtain ⟨c,t,g,rfl,_⟩:=hRb
   by_cases hp:P i
   ·rw [dF hp] at he
    obtain ⟨w',b1,b2⟩:=hw.app hB (by omega)
    obtain ⟨y,hy,hr⟩:=ih (i + 1) w' (by omega) (by rw [gi hp ha]; exact b2)
    refine ⟨y,?_,hr⟩
    unfold f28_0
    refine aa.tv rfl (aa.ite (aq hil) (fun _=>aa.tvs heb (aa.chk rfl (aa.tvs he (aa.chk rfl (aa.ite (v:=true) rfl (fun _=>?_) nofun))))) nofun)
    exact aa.rws rfl (aa.tv b1 (aa.tv (inc hil (by omega)) (f28_0_J hy)))
   ·rw [fS hp] at he
    obtain ⟨y,hy,hr⟩:=ih (i + 1) w (by omega) (by rw [jt hp]; exact hw)
    refine ⟨y,?_,hr⟩
    unfold f28_0
    refine aa.tv rfl (aa.ite (aq hil) (fun _=>aa.tvs heb (aa.chk rfl (aa.tvs he (aa.chk rfl (aa.ite (v:=false) rfl nofun fun _=>?_))))) nofun)
    exact aa.tv (inc hil (by omega)) (f28_0_J hy)
 obtain ⟨y,hy,hr⟩:=key N 0 (.lit aB) (by omega) (by rw [gd]; exact RL.nil)
 refine ⟨y,?_,hr⟩
 have lb:=hb.len (t:=46)
 rw [hl] at lb
 refine aj.of (f28_MR _ _) ?_
 unfold f28_M
 exact aa.tv lb (aa.chk rfl (f28_0_J hy))
theorem yG {n:Nat} (hn:n<=N):aj prog 32 [x,I (n:Int)] (I (aA P n)):=by
 have key:∀ (d i:Nat),i + d=n->aa prog 32 (f32_0 x (I n) (I (aA P i)) (I i)) (I (aA P n)):=by
  intro d
  induction d with
  | zero =>
   intro i hi
   have hi:i=n:=by omega
   subst hi
   unfold f32_0
   exact aa.tv rfl (aa.ite ap nofun fun _=>aa.ret)
  | succ d ih =>
   intro i hi
   have hil:i < n:=by omega
   obtain ⟨e,he,hR⟩:=hx.idx (k:=.i64) (cp (show i < N by omega))
   cases hR
   have hy:=ih (i + 1) (by omega)
   have hcl:=qj P i
   by_cases hp:P i
   ·rw [dF hp] at he
    rw [md hp] at hy
    unfold f32_0
    refine aa.tv rfl (aa.ite (aq hil) (fun _=>aa.tvs he (aa.chk rfl (aa.ite (v:=true) rfl (fun _=>?_) nofun))) nofun)
    exact aa.tv (inc (k:=aA P i) (n:=N) (by omega) (by omega)) (aa.tv (inc hil (by omega)) (f32_0_J hy))
   ·rw [fS hp] at he
    rw [ot hp] at hy
    unfold f32_0
    refine aa.tv rfl (aa.ite (aq hil) (fun _=>aa.tvs he (aa.chk rfl (aa.ite (v:=false) rfl nofun fun _=>?_))) nofun)
    exact aa.tv (inc hil (by omega)) (f32_0_J hy)
 have hy:=key n 0 (by omega)
 rw [lI] at hy
 refine aj.of (f32_MR _ _) ?_
 unfold f32_M
 exact f32_0_J hy
end
theorem Bk {q q':Option Bool} {e:List TV} {x:DEnd} (he:REnd q e x) {w:TV} {N:Nat} {g:Nat->Int} {ψ:Nat->Nat} (hw:RInts q' w (dc N g))
  (h2:x.kind=2\/x.kind=3\/x.kind=4->0<=x.to/\x.to.toNat < N/\g x.to.toNat=(ψ x.to.toNat:Int)) (h3:x.kind=3->0<=x.els/\x.els.toNat < N/\g x.els.toNat=(ψ x.els.toNat:Int)) (h4:x.kind=4->0<=x.pad/\x.pad.toNat < N/\g x.pad.toNat=(ψ x.pad.toNat:Int)) :
  ∃ e',aj prog 29 [.agg e,w] (.agg e')/\REnd q e' (eJ ψ x):=by
 obtain ⟨a,rfl,ha,ho⟩:=he
 have num:∀ {t:Int},0<=t/\t.toNat < N/\g t.toNat=(ψ t.toNat:Int)->pidx 1 w (I t)=some [I (ψ t.toNat:Int)]/\inI (ψ t.toNat:Int):=by
  rintro t ⟨t0,t1,t2⟩
  obtain ⟨e,he,hR⟩:=hw.AQ (k:=.i64) (n:=t) t0 (cp t1)
  obtain ⟨rfl,hi⟩:=hR
  rw [t2] at he hi
  exact ⟨he,hi⟩
 by_cases k3:x.kind=3
 ·obtain ⟨n1,o1⟩:=num (h2 (by omega))
  obtain ⟨n2,o2⟩:=num (h3 k3)
  have e:eJ ψ x={ x with to:=(ψ x.to.toNat:Int),els:=(ψ x.els.toNat:Int) }:=by
   unfold eJ
   rw [if_pos (by omega),if_pos k3,if_neg (by omega)]
  rw [e]
  refine ⟨_,?_,a,rfl,ha,⟨ho.1,ho.2.1,ho.2.2.1,ho.2.2.2.1,o1,o2,ho.2.2.2.2.2.2⟩⟩
  refine aj.of (f29_MR _ _) ?_
  unfold f29_M
  exact aa.chk rfl (aa.tv rfl (aa.ite (v:=true) (by simp [asBool,k3]) (fun _=>aa.tvs n1 (aa.chk rfl (aa.tvs n2 (aa.chk rfl aa.ret)))) nofun))
 ·by_cases k4:x.kind=4
  ·obtain ⟨n1,o1⟩:=num (h2 (by omega))
   obtain ⟨n2,o2⟩:=num (h4 k4)
   have e:eJ ψ x={ x with to:=(ψ x.to.toNat:Int),pad:=(ψ x.pad.toNat:Int) }:=by
    unfold eJ
    rw [if_pos (by omega),if_neg k3,if_pos k4]
   rw [e]
   refine ⟨_,?_,a,rfl,ha,⟨ho.1,ho.2.1,ho.2.2.1,ho.2.2.2.1,o1,ho.2.2.2.2.2.1,o2⟩⟩
   refine aj.of (f29_MR _ _) ?_
   unfold f29_M
   refine aa.chk rfl (aa.tv rfl (aa.ite (v:=false) (by simp [asBool,k3]) nofun fun _=>aa.tv rfl (aa.ite (v:=true) (by simp [asBool,k4]) (fun _=>aa.tvs n2 (aa.chk rfl (f29_0_J ?_))) nofun)))
   unfold f29_0
   exact aa.tvs n1 (aa.chk rfl aa.ret)
  ·by_cases k2:x.kind=2
   ·obtain ⟨n1,o1⟩:=num (h2 (by omega))
    have e:eJ ψ x={ x with to:=(ψ x.to.toNat:Int) }:=by
     unfold eJ
     rw [if_pos (by omega),if_neg k3,if_neg k4]
    rw [e]
    refine ⟨_,?_,a,rfl,ha,⟨ho.1,ho.2.1,ho.2.2.1,ho.2.2.2.1,o1,ho.2.2.2.2.2⟩⟩
    refine aj.of (f29_MR _ _) ?_
    unfold f29_M
    refine aa.chk rfl (aa.tv rfl (aa.ite (v:=false) (by simp [asBool,k3]) nofun fun _=>aa.tv rfl (aa.ite (v:=false) (by simp [asBool,k4]) nofun fun _=>aa.tv rfl (aa.ite (v:=true) (by simp [asBool,k2]) (fun _=>f29_0_J ?_) nofun))))
    unfold f29_0
    exact aa.tvs n1 (aa.chk rfl aa.ret)
   ·have e:eJ ψ x=x:=by
     unfold eJ
     rw [if_neg (by omega),if_neg k3,if_neg k4]
    rw [e]
    refine ⟨_,?_,a,rfl,ha,ho⟩
    refine aj.of (f29_MR _ _) ?_
    unfold f29_M
    exact aa.chk rfl (aa.tv rfl (aa.ite (v:=false) (by simp [asBool,k3]) nofun fun _=>aa.tv rfl (aa.ite (v:=false) (by simp [asBool,k4]) nofun fun _=>aa.tv rfl (aa.ite (v:=false) (by simp [asBool,k2]) nofun fun _=>aa.ret))))
theorem Dh {q q':Option Bool} {e:List TV} {u:DFunc} (he:RFunc q e u) {x:TV} (hx:RBools q' x (dc u.blocks.length fun i=>dP (Rc u.blocks (-1) i))):aj prog 27 [.agg e,x] (B (dP (¬ fU u))):=by
 have hF:=he
 obtain ⟨b,rfl,hb,_⟩:=he
 have hbn:=hb.bnd
 have key : ∀ (d i : Nat), i + d = u.blocks.length → aa prog 27 (f27_0 x b (I u.blocks.length) (I i) (I u.params) (I u.regs) b) (B (dP (∃ k c, i ≤ k ∧ Rc u.blocks (-1) k ∧ u.blocks[k]? = some c ∧ (aC u.blocks k).length < (nx c).length))) := by
  intro d
  induction d with
  | zero =>
   intro i hi
   have hi:i=u.blocks.length:=by omega
   subst hi
   rw [fS fun ⟨k,c,hk,hr,_⟩=>by have:=hr.lt; omega]
   unfold f27_0
   exact aa.tv rfl (aa.ite ap nofun fun _=>aa.ret)
  | succ d ih =>
   intro i hi
   have hil:i < u.blocks.length:=by omega
   have next:=ih (i + 1) (by omega)
   obtain ⟨a,ha⟩:∃ a,u.blocks[i]? = some a:=⟨_,Eu hil⟩
   obtain ⟨eb,heb,hRb⟩:=hb.idx (k:=.i64) ha
   obtain ⟨e,he,hR⟩:=hx.idx (k:=.i64) (cp hil)
   cases hR
   obtain ⟨y,hy,hry⟩:=r15 hRb
   obtain ⟨v,hv,hrv⟩:=r71 hF (i:Int)
   rw [jw] at hrv
   have hgl:(gl a).length<=2:=by unfold gl; split <;> split <;> simp
   have hnl:=mB u.blocks i
   obtain ⟨c,t,g,rfl,_,_,_,_,ho⟩:=hRb
   have rest:∀ {w:TV},RInts (some true) w (nx a)->aa prog 27 (f27_1 x (I i) b (I u.blocks.length) (I i) (I u.params) (I u.regs) b w) (B (dP (∃ k c,i<=k/\Rc u.blocks (-1) k/\u.blocks[k]? = some c/\(aC u.blocks k).length < (nx c).length))):=by
    intro w hw
    by_cases hp:Rc u.blocks (-1) i
    ·rw [dF hp] at he
     unfold f27_1
     refine aa.tvs he (aa.chk rfl (aa.ite (v:=true) rfl (fun _=>aa.call hv (aa.chk (bp hrv.isSl) (aa.tv hrv.len (aa.tv hw.len (aa.tv rfl (aa.ite rfl (fun h=>?_) fun h=>?_)))))) nofun))
     ·have h:(aC u.blocks i).length < (nx a).length:=by have:=of_decide_eq_true h; omega
      rw [dF ⟨i,a,Nat.le_refl _,hp,ha,h⟩]
      exact aa.ret
     ·have h:¬ (aC u.blocks i).length < (nx a).length:=by have:=of_decide_eq_false h; omega
      rw [lB (q:=∃ k c,i + 1<=k/\Rc u.blocks (-1) k/\u.blocks[k]? = some c/\(aC u.blocks k).length < (nx c).length) ⟨fun ⟨k,c,h1,h2,h3,h4⟩=>⟨k,c,by
       by_cases e:k=i
       ·subst e; rw [ha] at h3; cases h3; exact absurd h4 h
       ·omega,h2,h3,h4⟩,fun ⟨k,c,h1,h2⟩=>⟨k,c,by omega,h2⟩⟩]
      exact aa.tv (inc hil hbn) (f27_0_J next)
    ·rw [fS hp] at he
     unfold f27_1
     refine aa.tvs he (aa.chk rfl (aa.ite (v:=false) rfl nofun fun _=>?_))
     rw [lB (q:=∃ k c,i + 1<=k/\Rc u.blocks (-1) k/\u.blocks[k]? = some c/\(aC u.blocks k).length < (nx c).length) ⟨fun ⟨k,c,h1,h2,h3,h4⟩=>⟨k,c,by
       by_cases e:k=i
       ·subst e; exact absurd h2 hp
       ·omega,h2,h3,h4⟩,fun ⟨k,c,h1,h2⟩=>⟨k,c,by omega,h2⟩⟩]
     exact aa.tv (inc hil hbn) (f27_0_J next)
   unfold f27_0
   refine aa.tv rfl (aa.ite (aq hil) (fun _=>aa.tvs heb (aa.chk rfl (aa.call hy (aa.chk (bp hry.isSl) (aa.tv rfl ?_))))) nofun)
   by_cases h4:a.fin.kind=4
   ·obtain ⟨w',hw',hr'⟩:=hry.app (e:=[I a.fin.pad]) (a:=a.fin.pad) ⟨rfl,ho.2.2.2.2.2.2⟩ (by omega)
    refine aa.ite (v:=true) (by simp [asBool,h4]) (fun _=>aa.rws rfl (aa.tv hw' (f27_1_J (rest ?_)))) nofun
    unfold nx
    rw [if_pos h4]
    exact hr'
   ·refine aa.ite (v:=false) (by simp [asBool,h4]) nofun fun _=>f27_1_J (rest ?_)
    unfold nx
    rw [if_neg h4,List.append_nil]
    exact hry
 have e0:dP (¬ fU u)=dP (∃ k c,0<=k/\Rc u.blocks (-1) k/\u.blocks[k]? = some c/\(aC u.blocks k).length < (nx c).length):=by
  refine lB ⟨fun h=>Classical.byContradiction fun hn=>h fun i b hi hb=>?_,fun ⟨k,c,_,h1,h2,h3⟩ hg=>by have:=hg k c h1 h2; omega⟩
  have h1:(aC u.blocks i).length<=(nx b).length:=by
   unfold aC
   rw [hb]
   exact List.length_filter_le _ _
  have h2:¬ (aC u.blocks i).length < (nx b).length:=fun h=>hn ⟨i,b,Nat.zero_le _,hi,hb,h⟩
  omega
 rw [e0]
 refine aj.of (f27_MR _ _) ?_
 unfold f27_M
 exact aa.chk rfl (aa.tv hb.len (f27_0_J (key u.blocks.length 0 (by omega))))
end Go.Ab.D13
end

import Derived.Test.YthfcodidfelpoaaAD13F160
set_option linter.all false
section
set_option maxRecDepth 10000
namespace Go.Ab
open Classical in
noncomputable def aG (P:Nat->Prop) (k:Nat):Nat:=((List.range k).filter fun i=>decide (P i)).length
open Classical in
noncomputable def fT (P:Nat->Prop) (N:Nat):List Nat:=(List.range N).filter fun i=>decide (P i)
theorem mK (P:Nat->Prop):aG P 0=0:=by simp [aG]
theorem pX {P:Nat->Prop} {k:Nat} (h:P k):aG P (k + 1)=aG P k + 1:=by
 unfold aG
 rw [List.range_succ,List.filter_append,List.length_append]
 simp [h]
theorem vx {P:Nat->Prop} {k:Nat} (h:¬ P k):aG P (k + 1)=aG P k:=by
 unfold aG
 rw [List.range_succ,List.filter_append,List.length_append]
 simp [h]
theorem EG (P:Nat->Prop) (k:Nat):aG P k<=k:=by
 unfold aG
 have:=List.length_filter_le (fun i=>@decide (P i) (Classical.propDecidable _)) (List.range k)
 simpa using this
theorem zT {P:Nat->Prop} {k N:Nat} (hk:k < N) (hp:P k):(fT P N)[aG P k]? = some k:=by
 have e:List.range N=List.range k ++ (List.range (N - k)).map (k + ·):=by
  rw [<- List.range_add]
  congr 1
  omega
 unfold fT
 rw [e,List.filter_append,FP (by unfold aG; omega)]
 have e0:N - k=(N - k - 1) + 1:=by omega
 rw [e0,List.range_succ_eq_map]
 unfold aG
 simp [hp]
theorem pG {P:Nat->Prop} {N k:Nat}:k ∈ fT P N ↔ k < N/\P k:=by simp [fT]
theorem BW (P:Nat->Prop) (N:Nat):(fT P N).length<=N:=by
 have:=List.length_filter_le (fun i=>@decide (P i) (Classical.propDecidable _)) (List.range N)
 simp only [List.length_range] at this
 exact this
theorem DD {l:List Nat} (h:l.Nodup) {i j:Nat} {a:Nat} (hi:l[i]? = some a) (hj:l[j]? = some a):i=j:=by
 have hp:=List.pairwise_iff_getElem.1 h
 obtain ⟨h1,e1⟩:=FE.1 hi
 obtain ⟨h2,e2⟩:=FE.1 hj
 rcases Nat.lt_trichotomy i j with h3 | h3 | h3
 ·exact absurd (e1.trans e2.symm) (hp i j h1 h2 h3)
 ·exact h3
 ·exact absurd (e2.trans e1.symm) (hp j i h2 h1 h3)
theorem Dd {P:Nat->Prop} {N j k:Nat} (h:(fT P N)[j]? = some k):k < N/\P k/\aG P k=j:=by
 obtain ⟨h1,h2⟩:=pG.1 (FN h)
 exact ⟨h1,h2,DD (List.Pairwise.filter _ List.nodup_range) (zT h1 h2) h⟩
theorem D3 {P:Nat->Prop}:∀ {k:Nat},(∀ i,i < k->P i)->aG P k=k:=by
 intro k
 induction k with
 | zero=>exact fun _=>mK P
 | succ k ih=>exact fun h=>by rw [pX (h k (by omega)),ih fun i hi=>h i (by omega)]
theorem pn {P:Nat->Prop} {N:Nat} (h:∀ i,i < N->P i):fT P N=List.range N:=by
 unfold fT
 rw [List.filter_eq_self]
 intro i hi
 simpa using h i (List.mem_range.1 hi)
theorem A8 {P:Nat->Prop} {k:Nat} (h:P k):fT P (k + 1)=fT P k ++ [k]:=by
 unfold fT
 rw [List.range_succ,List.filter_append]
 simp [h]
theorem yb {P:Nat->Prop} {k:Nat} (h:¬ P k):fT P (k + 1)=fT P k:=by
 unfold fT
 rw [List.range_succ,List.filter_append]
 simp [h]
theorem zg {P:Nat->Prop} {k:Nat} (h:∀ i,k<=i->¬ P i):∀ d,fT P (k + d)=fT P k:=by
 intro d
 induction d with
 | zero=>rfl
 | succ d ih=>rw [<- Nat.add_assoc,yb (h _ (by omega)),ih]
theorem wy {α β:Type} {f:α->Option β} {g:α->β}:∀ {l:List α},(∀ x ∈ l,f x=some (g x))->l.filterMap f=l.map g:=by
 intro l
 induction l with
 | nil=>intro _; rfl
 | cons x l ih =>
  intro h
  rw [List.filterMap_cons,h x FL,List.map_cons,ih fun y hy=>h y (FM _ hy)]
theorem t8 {α β:Type} {f g:α->Option β}:∀ {l:List α},(∀ x ∈ l,f x=g x)->l.filterMap f=l.filterMap g:=by
 intro l
 induction l with
 | nil=>intro _; rfl
 | cons x l ih =>
  intro h
  rw [List.filterMap_cons,List.filterMap_cons,h x FL,ih fun y hy=>h y (FM _ hy)]
noncomputable def bV {α β:Type} (P:Nat->Prop) (l:List α) (f:α->β) (k:Nat):List β:=(fT P k).filterMap fun i=>(l[i]?).map f
section
variable {α β:Type} {P:Nat->Prop} {l:List α} {f:α->β} {k:Nat}
theorem lm:bV P l f 0=[]:=by simp [bV,fT]
theorem j8 {a:α} (hk:P k) (ha:l[k]? = some a):bV P l f (k + 1)=bV P l f k ++ [f a]:=by
 unfold bV
 rw [A8 hk,List.filterMap_append]
 simp [ha]
theorem oI (hk:¬ P k):bV P l f (k + 1)=bV P l f k:=by
 unfold bV
 rw [yb hk]
theorem xU (hk:k<=l.length) (d:α):bV P l f k=(fT P k).map fun i=>f (l[i]?.getD d):=by
 unfold bV
 refine wy fun j hj=>?_
 have hj:=(pG.1 hj).1
 rw [FF (by omega)]
 rfl
theorem D5 {i:Nat} (hk:k<=l.length) (hi:i < k) (hp:P i):(bV P l f k)[aG P i]? = (l[i]?).map f:=by
 have hl:l[i]? = some (l[i]'(by omega)):=FF (by omega)
 rw [xU hk (l[i]'(by omega)),FK,zT hi hp,FR,hl]
 rfl
theorem fM:(bV P l f k).length<=k:=Nat.le_trans (List.length_filterMap_le _ _) (BW _ _)
theorem mS {b:β} (h:b ∈ bV P l f k):∃ i a,i < k/\P i/\l[i]? = some a/\b=f a:=by
 obtain ⟨i,hi,he⟩:=List.mem_filterMap.1 h
 obtain ⟨h1,h2⟩:=pG.1 hi
 cases ha:l[i]? with
 | none=>rw [ha] at he; cases he
 | some a=>rw [ha] at he; exact ⟨i,a,h1,h2,ha,(Option.some.inj he).symm⟩
theorem s9 {j:Nat} {b:β} (hk:k<=l.length) (h:(bV P l f k)[j]? = some b):∃ i a,i < k/\P i/\l[i]? = some a/\b=f a/\aG P i=j:=by
 have h0:0 < l.length:=by
  have hj:=(FE.1 h).1
  have:=fM (P:=P) (l:=l) (f:=f) (k:=k)
  omega
 rw [xU hk l[0],FK] at h
 cases hi:(fT P k)[j]? with
 | none=>rw [hi] at h; cases h
 | some i =>
  rw [hi] at h
  obtain ⟨h1,h2,h3⟩:=Dd hi
  have hl:l[i]? = some (l[i]'(by omega)):=FF (by omega)
  refine ⟨i,l[i]'(by omega),h1,h2,hl,?_,h3⟩
  rw [FR,hl] at h
  exact (Option.some.inj h).symm
theorem u5 {γ:Type} (g:β->γ):(bV P l f k).map g=bV P l (g ∘ f) k:=by
 unfold bV
 rw [List.map_filterMap]
 congr 1
 funext i
 cases l[i]? <;> rfl
theorem BB (h:∀ i,i < l.length->P i):bV P l f l.length=l.map f:=by
 unfold bV
 rw [pn h]
 apply List.ext_getElem?
 intro i
 have e:(List.range l.length).filterMap (fun i=>(l[i]?).map f)=l.map f:=by
  conv=>rhs; rw [<- List.take_length (l:=l)]
  have:∀ n,n<=l.length->(List.range n).filterMap (fun i=>(l[i]?).map f)=(l.take n).map f:=by
   intro n
   induction n with
   | zero=>intro _; rfl
   | succ n ih =>
    intro hn
    rw [List.range_succ,List.filterMap_append,ih (by omega),List.take_add_one,FF (by omega),List.map_append]
    simp [FF (show n < l.length by omega)]
  exact this _ (Nat.le_refl _)
 rw [e]
end
def iE (φ:Nat->Nat) (x:DIns):DIns:=if x.op=11 then { x with f:=((φ x.f.toNat:Nat):Int) } else x
def mm (ψ:Nat->Nat) (e:DEnd):DEnd:={ e with to:=if e.kind=2\/e.kind=3\/e.kind=4 then ((ψ e.to.toNat:Nat):Int) else e.to,els:=if e.kind=3 then ((ψ e.els.toNat:Nat):Int) else e.els,pad:=if e.kind=4 then ((ψ e.pad.toNat:Nat):Int) else e.pad }
def fL (ψ:Nat->Nat) (b:DBlock):DBlock:={ b with fin:=mm ψ b.fin }
def eF (φ:Nat->Nat) (b:DBlock):DBlock:={ b with ins:=b.ins.map (iE φ),fin:={ b.fin with f:=if b.fin.kind=4 then ((φ b.fin.f.toNat:Nat):Int) else b.fin.f } }
def jj (φ:Nat->Nat) (u:DFunc):DFunc:={ u with blocks:=u.blocks.map (eF φ) }
theorem Av (φ:Nat->Nat) (b:DBlock):nx (eF φ b)=nx b:=rfl
theorem CW (ψ:Nat->Nat) (b:DBlock):nx (fL ψ b)=(nx b).map fun g=>((ψ g.toNat:Nat):Int):=by
 have k:(fL ψ b).fin.kind=b.fin.kind:=rfl
 unfold nx gl
 rw [k]
 by_cases h2:b.fin.kind=2
 ·simp [fL,mm,h2]
 ·by_cases h3:b.fin.kind=3
  ·simp [fL,mm,h3]
  ·by_cases h4:b.fin.kind=4
   ·simp [fL,mm,h4]
   ·simp [h2,h3,h4]
theorem EN {ψ:Nat->Nat} {b:DBlock} (h:∀ g ∈ nx b,((ψ g.toNat:Nat):Int)=g):fL ψ b=b:=by
 have f2:(if b.fin.kind=2\/b.fin.kind=3\/b.fin.kind=4 then ((ψ b.fin.to.toNat:Nat):Int) else b.fin.to)=b.fin.to:=by
  split
  ·rename_i h2; exact h _ (by unfold nx gl; simp [h2])
  ·rfl
 have f3:(if b.fin.kind=3 then ((ψ b.fin.els.toNat:Nat):Int) else b.fin.els)=b.fin.els:=by
  split
  ·rename_i h2; exact h _ (by unfold nx gl; simp [h2])
  ·rfl
 have f4:(if b.fin.kind=4 then ((ψ b.fin.pad.toNat:Nat):Int) else b.fin.pad)=b.fin.pad:=by
  split
  ·rename_i h2; exact h _ (by unfold nx gl; simp [h2])
  ·rfl
 unfold fL mm
 rw [f2,f3,f4]
def fV (u:DFunc):Prop:=∀ i b,Rc u.blocks (-1) i->u.blocks[i]? = some b->(aD u.blocks i).length=(nx b).length
theorem fV.goal {u:DFunc} (h:fV u) {i:Nat} {b:DBlock} (hi:Rc u.blocks (-1) i) (hb:u.blocks[i]? = some b):∀ g ∈ nx b,0<=g/\g.toNat < u.blocks.length/\Rc u.blocks (-1) g.toNat:=by
 intro g hg
 have h1:=h i b hi hb
 have e:aD u.blocks i=(nx b).filter (dJ u.blocks.length):=by unfold aD; rw [hb]
 rw [e] at h1
 have h2:=List.length_filter_eq_length_iff.1 h1 g hg
 have h3:g ∈ aD u.blocks i:=by rw [e]; exact List.mem_filter.2 ⟨hg,h2⟩
 have h4:=eH h3
 exact ⟨h4.1,h4.2,.next hi h3 (by omega)⟩
def rI (u:DFunc):Prop:=∀ b ∈ u.blocks,∀ g ∈ nx b,0<=g/\g.toNat < u.blocks.length
theorem rI.good {u:DFunc} (h:rI u):fV u:=by
 intro i b _ hb
 have e:aD u.blocks i=(nx b).filter (dJ u.blocks.length):=by unfold aD; rw [hb]
 rw [e]
 refine List.length_filter_eq_length_iff.2 fun g hg=>?_
 have:=h b (FN hb) g hg
 unfold dJ
 rw [decide_eq_true_eq]
 omega
noncomputable def jf (bs:List DBlock):List DBlock:=bV (Rc bs (-1)) bs (fL (aG (Rc bs (-1)))) bs.length
open Classical in
noncomputable def clF (u:DFunc):DFunc:=if fV u then { u with blocks:=jf u.blocks } else u
theorem kw {u:DFunc} (h:fV u):clF u={ u with blocks:=jf u.blocks }:=if_pos h
theorem vY {u:DFunc} (h:¬ fV u):clF u=u:=if_neg h
theorem C6 (u:DFunc):(clF u).params=u.params/\(clF u).regs=u.regs:=by
 by_cases h:fV u
 ·rw [kw h]; exact ⟨rfl,rfl⟩
 ·rw [vY h]; exact ⟨rfl,rfl⟩
theorem E6 (u:DFunc):(clF u).blocks.length<=u.blocks.length:=by
 by_cases h:fV u
 ·rw [kw h]; exact fM
 ·rw [vY h]; exact Nat.le_refl _
theorem xi {u:DFunc} {b:DBlock} (h:b ∈ (clF u).blocks):∃ b0 ∈ u.blocks,∃ ψ,b=fL ψ b0\/b=b0:=by
 by_cases hg:fV u
 ·rw [kw hg] at h
  obtain ⟨i,a,_,_,ha,rfl⟩:=mS h
  exact ⟨a,FN ha,_,.inl rfl⟩
 ·rw [vY hg] at h
  exact ⟨b,h,id,.inr rfl⟩
noncomputable def clC (m:DMod):DMod:=⟨m.funcs.map clF⟩
def eT (c:DMod) (k:Nat):Prop:=k=0\/Co c 0 k
theorem pB {c:DMod} {k j:Nat} (h:eT c k) {v:DFunc} (hv:c.funcs[k]? = some v) (hc:sI v j) (hj:j < c.funcs.length):eT c j:=by
 right
 rcases h with rfl | h
 ·exact .one ⟨hj,v,hv,hc⟩
 ·exact .more h ⟨hj,v,hv,hc⟩
noncomputable def clM (m:DMod):DMod:=⟨bV (eT (clC m)) (clC m).funcs (jj (aG (eT (clC m)))) m.funcs.length⟩
theorem En {bs t:List DBlock} (hc:∀ b ∈ bs,∀ g ∈ nx b,0<=g/\g.toNat < bs.length) (h0:bs≠[]) {i:Nat}:Rc (bs ++ t) (-1) i ↔ Rc bs (-1) i:=by
 have nxt:∀ {i:Nat},i < bs.length->aD (bs ++ t) i=aD bs i:=by
  intro i hi
  unfold aD
  rw [FO hi,FF hi]
  refine List.filter_congr fun g hg=>?_
  have:=hc _ (List.getElem_mem hi) g hg
  unfold dJ
  rw [decide_eq_decide,List.length_append]
  omega
 constructor
 ·intro h
  induction h with
  | start a _=>exact .start a (List.length_pos_iff.2 h0)
  | next hi hg hn ih =>
   rw [nxt ih.lt] at hg
   exact .next ih hg hn
 ·intro h
  induction h with
  | start a _=>exact .start a (by rw [List.length_append]; have:=List.length_pos_iff.2 h0; omega)
  | next hi hg hn ih =>
   rw [<- nxt hi.lt] at hg
   exact .next ih hg hn
theorem xb {v:DFunc} (hc:rI v) (ha:∀ i,i < v.blocks.length->Rc v.blocks (-1) i) (h0:v.blocks≠[]) (t:List DBlock):clF { v with blocks:=v.blocks ++ t }=v:=by
 have hr:∀ i,Rc (v.blocks ++ t) (-1) i ↔ i < v.blocks.length:=fun i=>(En hc h0).trans ⟨fun h=>h.lt,ha i⟩
 have hg:fV { v with blocks:=v.blocks ++ t }:=by
  intro i b hi hb
  have hi:Rc (v.blocks ++ t) (-1) i:=hi
  have hb:(v.blocks ++ t)[i]? = some b:=hb
  show (aD (v.blocks ++ t) i).length=_
  have hil:=(hr i).1 hi
  rw [FO hil] at hb
  have e:aD (v.blocks ++ t) i=(nx b).filter (dJ (v.blocks ++ t).length):=by unfold aD; rw [FO hil,hb]
  rw [e]
  refine List.length_filter_eq_length_iff.2 fun g hg=>?_
  have:=hc b (FN hb) g hg
  unfold dJ
  rw [decide_eq_true_eq,List.length_append]
  omega
 rw [kw hg]
 have hP:Rc (v.blocks ++ t) (-1)=fun i=>i < v.blocks.length:=funext fun i=>propext (hr i)
 have e:jf (v.blocks ++ t)=v.blocks:=by
  unfold jf
  rw [hP]
  unfold bV
  rw [List.length_append,zg (fun i h=>by omega),pn (fun i h=>h)]
  have:(List.range v.blocks.length).filterMap (fun i=>((v.blocks ++ t)[i]?).map (fL (aG fun i=>i < v.blocks.length)))=bV (fun i=>i < v.blocks.length) v.blocks id v.blocks.length:=by
   unfold bV
   rw [pn (fun i h=>h)]
   refine t8 fun i hi=>?_
   have hi:=List.mem_range.1 hi
   rw [FO hi,FF hi]
   refine congrArg some (EN fun g hg=>?_)
   have:=hc _ (List.getElem_mem hi) g hg
   rw [D3 fun i hi=>by omega]
   omega
  rw [this,BB (fun i h=>h),List.map_id]
 rw [e]
theorem Do {u:DFunc} (hg:fV u) {i:Nat} (h:Rc u.blocks (-1) i) (φ:Nat->Nat):Rc ((jf u.blocks).map (eF φ)) (-1) (aG (Rc u.blocks (-1)) i):=by
 have hat:∀ {i:Nat} {b:DBlock},Rc u.blocks (-1) i->u.blocks[i]? = some b->((jf u.blocks).map (eF φ))[aG (Rc u.blocks (-1)) i]? = some (eF φ (fL (aG (Rc u.blocks (-1))) b)):=by
  intro i b hi hb
  have:=D5 (P:=Rc u.blocks (-1)) (f:=fL (aG (Rc u.blocks (-1)))) (Nat.le_refl u.blocks.length) hi.lt hi
  rw [hb] at this
  rw [FK]
  unfold jf
  rw [this]
  rfl
 induction h with
 | start _ h0 =>
  have hr:Rc u.blocks (-1) 0:=.start (by omega) h0
  have:=hat hr (FF h0)
  rw [mK] at this ⊢
  exact .start (by omega) (FE.1 this).1
 | @next i g hi hgx hn ih =>
  obtain ⟨b,hb⟩:∃ b,u.blocks[i]? = some b:=⟨_,FF hi.lt⟩
  have hgt:=eH hgx
  have hrg:Rc u.blocks (-1) g.toNat:=.next hi hgx hn
  have h1:=hat hi hb
  have h2:=hat hrg (FF hgt.2)
  have hnx:g ∈ nx b:=by
   unfold aD at hgx
   rw [hb] at hgx
   exact (List.mem_filter.1 hgx).1
  have hin:((aG (Rc u.blocks (-1)) g.toNat:Nat):Int) ∈ aD ((jf u.blocks).map (eF φ)) (aG (Rc u.blocks (-1)) i):=by
   unfold aD
   rw [h1]
   refine List.mem_filter.2 ⟨?_,?_⟩
   ·rw [Av,CW]
    exact List.mem_map.2 ⟨g,hnx,rfl⟩
   ·have:=(FE.1 h2).1
    unfold dJ
    rw [decide_eq_true_eq]
    omega
  have:=Rc.next (no:=-1) ih hin (by omega)
  rwa [Int.toNat_natCast] at this
theorem DV {u:DFunc} (hg:fV u) (φ:Nat->Nat):(∀ i,i < (jf u.blocks).length->Rc ((jf u.blocks).map (eF φ)) (-1) i)/\(∀ b ∈ (jf u.blocks).map (eF φ),∀ g ∈ nx b,0<=g/\g.toNat < ((jf u.blocks).map (eF φ)).length):=by
 constructor
 ·intro j hj
  obtain ⟨i,a,hi,hr,_,_,e⟩:=s9 (Nat.le_refl u.blocks.length) (FF hj)
  rw [<- e]
  exact Do hg hr φ
 ·intro b hb g hgx
  obtain ⟨b1,hb1,rfl⟩:=List.mem_map.1 hb
  obtain ⟨i,a,hi,hr,ha,rfl⟩:=mS hb1
  rw [Av,CW] at hgx
  obtain ⟨g0,hg0,rfl⟩:=List.mem_map.1 hgx
  obtain ⟨h1,h2,h3⟩:=hg.goal hr ha g0 hg0
  have:=(Do hg h3 φ).lt
  exact ⟨by omega,by omega⟩
end Go.Ab
namespace Go.Ab.D13
open Go Go.Ab Go.Proofs
theorem modF {m:DMod} {g:DFunc} {n:Nat} (h:pZ m) (hg:m.funcs[n]? = some g):xu m.funcs g:=h.2.2 n (FE.1 hg).1 g hg
theorem zy {m:DMod} {u:DFunc} {n:Nat} (h:pZ m) (hu:m.funcs[n]? = some u):rI u:=by
 intro b hb g hg
 obtain ⟨i,hi,rfl⟩:=List.mem_iff_getElem.1 hb
 have hE:=((modF h hu).2.2.2 i hi _ (FF hi)).2.2.2
 generalize u.blocks[i]=b at *
 have there:∀ {g:Int} {l:Bool},wo u.blocks g l->0<=g/\g.toNat < u.blocks.length:=fun ⟨h0,_,hb,_⟩=>⟨h0,(FE.1 hb).1⟩
 have h5:=hE.2.2.2.2.1.1
 have h6:=hE.2.2.2.2.2.1.1
 have h7:=hE.2.2.2.2.2.2.1
 unfold nx gl at hg
 rcases List.mem_append.1 hg with hg | hg
 ·rcases List.mem_append.1 hg with hg | hg
  ·split at hg
   ·rename_i hk
    rw [List.mem_singleton.1 hg]
    rcases hk with e | e | e <;> (rw [e] at h5; exact there (h5 rfl))
   ·cases hg
  ·split at hg
   ·rename_i e
    rw [List.mem_singleton.1 hg]
    rw [e] at h6
    exact there (h6 rfl)
   ·cases hg
 ·split at hg
  ·rename_i e
   rw [List.mem_singleton.1 hg]
   rw [e] at h7
   exact there (h7 rfl)
  ·cases hg
theorem BT {m:DMod} {u:DFunc} {n:Nat} (h:pZ m) (hu:m.funcs[n]? = some u) {b:DBlock} (hb:b ∈ u.blocks):(∀ x ∈ b.ins,x.op=11->0<=x.f/\x.f.toNat < m.funcs.length)/\(b.fin.kind=4->0<=b.fin.f/\b.fin.f.toNat < m.funcs.length):=by
 obtain ⟨i,hi,rfl⟩:=List.mem_iff_getElem.1 hb
 have hB:=(modF h hu).2.2.2 i hi _ (FF hi)
 generalize u.blocks[i]=b at *
 constructor
 ·intro x hx h11
  obtain ⟨q,hq,rfl⟩:=List.mem_iff_getElem.1 hx
  have hc:=(hB.2.2.1 q hq _ (FF hq)).2.2.2.2.2
  rw [h11] at hc
  obtain ⟨h0,g,hg,_⟩:=hc.1 rfl
  exact ⟨h0,(FE.1 hg).1⟩
 ·intro h4
  have hc:=hB.2.2.2.2.2.2.1
  rw [h4] at hc
  obtain ⟨h0,g,hg,_⟩:=hc.1 rfl
  exact ⟨h0,(FE.1 hg).1⟩
end Go.Ab.D13
end
section
set_option maxRecDepth 10000
namespace Go.Ab
def LedO (bs:List DBlock) (S:Nat->Prop) (o:List Int):Prop:=∀ (A:List Int) (x:Int) (B:List Int),o=A ++ x :: B->x=0\/∃ p:Nat,x ∈ aD bs p/\((p:Int) ∈ A\/S p)
def Chain (bs:List DBlock):List (Nat × List Int)->Prop
 | []=>True
 | [p]=>p.1=0
 | p :: r :: l=>(p.1:Int) ∈ aD bs r.1/\Chain bs (r :: l)
structure DI (bs:List DBlock) (M:List Bool) (st:List (Nat × List Int)) (o:List Int):Prop where
 len:M.length=bs.length
 at_:∀ p ∈ st,p.1 < bs.length/\∀ g ∈ p.2,g ∈ aD bs p.1
 mem:∀ i:Nat,M[i]? = some true ↔ (∃ p ∈ st,p.1=i)\/(i:Int) ∈ o
 nod:(o ++ st.map fun p=>(p.1:Int)).Nodup
 out:∀ x ∈ o,0<=x/\∀ g ∈ aD bs x.toNat,M[g.toNat]? = some true
 todo:∀ p ∈ st,∀ g ∈ aD bs p.1,g ∈ p.2\/M[g.toNat]? = some true
 snd:SndR bs (-1) M
 led:LedO bs (fun p=>∃ r ∈ st,r.1=p) o
 chain:Chain bs st
 last:st=[]->o.head? = some 0
theorem nK {g:Int} (h:0<=g):((g.toNat:Nat):Int)=g:=by omega
theorem DI.leave {bs:List DBlock} {M:List Bool} {n:Nat} {st:List (Nat × List Int)} {o:List Int} (h:DI bs M ((n,[]) :: st) o):DI bs M st ((n:Int) :: o):=by
 refine ⟨h.len,fun p hp=>h.at_ p (FM _ hp),fun i=>?_,?_,fun x hx=>?_,fun p hp=>h.todo p (FM _ hp),h.snd,?_,?_,fun hst=>?_⟩
 ·rw [h.mem i]
  constructor
  ·rintro (⟨p,hp,rfl⟩ | hi)
   ·rcases List.mem_cons.1 hp with rfl | hp
    ·exact .inr FL
    ·exact .inl ⟨p,hp,rfl⟩
   ·exact .inr (FM _ hi)
  ·rintro (⟨p,hp,rfl⟩ | hi)
   ·exact .inl ⟨p,FM _ hp,rfl⟩
   ·rcases List.mem_cons.1 hi with hi | hi
    ·exact .inl ⟨(n,[]),FL,by omega⟩
    ·exact .inr hi
 ·have:=h.nod
  rw [List.map_cons] at this
  exact List.perm_middle.nodup_iff.1 this
 ·rcases List.mem_cons.1 hx with rfl | hx
  ·refine ⟨by omega,fun g hg=>?_⟩
   rcases h.todo (n,[]) FL g hg with h1 | h1
   ·cases h1
   ·exact h1
  ·exact h.out x hx
 ·intro A x B e
  cases A with
  | nil =>
   simp only [List.nil_append,List.cons.injEq] at e
   obtain ⟨rfl,_⟩:=e
   cases st with
   | nil=>left; have:=h.chain; simp only [Chain] at this; omega
   | cons r l=>right; exact ⟨r.1,h.chain.1,.inr ⟨r,FL,rfl⟩⟩
  | cons a A =>
   simp only [List.cons_append,List.cons.injEq] at e
   obtain ⟨rfl,e⟩:=e
   rcases h.led A x B e with h1 | ⟨p,h1,h2⟩
   ·exact .inl h1
   ·refine .inr ⟨p,h1,?_⟩
    rcases h2 with h2 | ⟨r,hr,rfl⟩
    ·exact .inl (FM _ h2)
    ·rcases List.mem_cons.1 hr with rfl | hr
     ·exact .inl FL
     ·exact .inr ⟨r,hr,rfl⟩
 ·have:=h.chain
  cases st with
  | nil=>trivial
  | cons r l=>exact this.2
 ·subst hst
  have:=h.chain
  simp only [Chain] at this
  subst this
  rfl
theorem DI.skip {bs:List DBlock} {M:List Bool} {n:Nat} {g:Int} {l:List Int} {st:List (Nat × List Int)} {o:List Int} (h:DI bs M ((n,g :: l) :: st) o) (hg:M[g.toNat]? = some true):DI bs M ((n,l) :: st) o:=by
 refine ⟨h.len,fun p hp=>?_,fun i=>?_,h.nod,h.out,fun p hp g' hg'=>?_,h.snd,fun A x B e=>?_,?_,fun hst=>(by cases hst)⟩
 ·rcases List.mem_cons.1 hp with rfl | hp
  ·exact ⟨(h.at_ _ FL).1,fun g' hg'=>(h.at_ (n,g :: l) FL).2 g' (FM _ hg')⟩
  ·exact h.at_ p (FM _ hp)
 ·rw [h.mem i]
  simp
 ·rcases List.mem_cons.1 hp with rfl | hp
  ·rcases h.todo (n,g :: l) FL g' hg' with h1 | h1
   ·rcases List.mem_cons.1 h1 with rfl | h1
    ·exact .inr hg
    ·exact .inl h1
   ·exact .inr h1
  ·exact h.todo p (FM _ hp) g' hg'
 ·rcases h.led A x B e with h1 | ⟨p,h1,h2⟩
  ·exact .inl h1
  ·refine .inr ⟨p,h1,h2.imp id ?_⟩
   rintro ⟨r,hr,rfl⟩
   rcases List.mem_cons.1 hr with rfl | hr
   ·exact ⟨(n,l),FL,rfl⟩
   ·exact ⟨r,FM _ hr,rfl⟩
 ·have:=h.chain
  cases st with
  | nil=>exact this
  | cons r l=>exact this
theorem DI.enter {bs:List DBlock} {M:List Bool} {n:Nat} {g:Int} {l:List Int} {st:List (Nat × List Int)} {o:List Int} (h:DI bs M ((n,g :: l) :: st) o) (hg:M[g.toNat]? = some false):DI bs (M.set g.toNat true) ((g.toNat,aD bs g.toNat) :: (n,l) :: st) o:=by
 have hgm:=(h.at_ (n,g :: l) FL).2 g FL
 have hgt:=eH hgm
 have hlt:=(FE.1 hg).1
 have hgc:=nK hgt.1
 have hnM:∀ i:Nat,M[i]? = some true->i≠g.toNat:=fun i hi e=>by rw [e,hg] at hi; cases hi
 refine ⟨by rw [List.length_set]; exact h.len,fun p hp=>?_,fun i=>?_,?_,fun x hx=>⟨(h.out x hx).1,fun g' hg'=>tq ((h.out x hx).2 g' hg')⟩,fun p hp g' hg'=>?_,fun i hi=>?_,fun A x B e=>?_,?_,fun hst=>(by cases hst)⟩
 ·rcases List.mem_cons.1 hp with rfl | hp
  ·exact ⟨hgt.2,fun g' hg'=>hg'⟩
  ·rcases List.mem_cons.1 hp with rfl | hp
   ·exact ⟨(h.at_ _ FL).1,fun g' hg'=>(h.at_ (n,g :: l) FL).2 g' (FM _ hg')⟩
   ·exact h.at_ p (FM _ hp)
 ·rw [mQ hlt,h.mem i]
  simp only [List.mem_cons,exists_eq_or_imp]
  constructor
  ·rintro (rfl | h1)
   ·exact .inl (.inl rfl)
   ·rcases h1 with h1 | h1
    ·exact .inl (.inr h1)
    ·exact .inr h1
  ·rintro ((h1 | h1) | h1)
   ·exact .inl h1.symm
   ·exact .inr (.inl h1)
   ·exact .inr (.inr h1)
 ·have h1:=h.nod
  rw [List.map_cons] at h1 ⊢
  rw [List.perm_middle.nodup_iff,List.nodup_cons]
  refine ⟨fun hin=>?_,by rw [List.map_cons]; exact h1⟩
  have:M[g.toNat]? = some true:=by
   rw [h.mem]
   rcases List.mem_append.1 hin with hin | hin
   ·exact .inr hin
   ·obtain ⟨p,hp,he⟩:=List.mem_map.1 hin
    have he:p.1=g.toNat:=by omega
    rcases List.mem_cons.1 hp with rfl | hp
    ·exact .inl ⟨(n,g :: l),FL,he⟩
    ·exact .inl ⟨p,FM _ hp,he⟩
  rw [hg] at this
  cases this
 ·rcases List.mem_cons.1 hp with rfl | hp
  ·exact .inl hg'
  ·rcases List.mem_cons.1 hp with rfl | hp
   ·rcases h.todo (n,g :: l) FL g' hg' with h1 | h1
    ·rcases List.mem_cons.1 h1 with rfl | h1
     ·exact .inr ((mQ hlt).2 (.inl rfl))
     ·exact .inl h1
    ·exact .inr (tq h1)
   ·exact (h.todo p (FM _ hp) g' hg').imp id tq
 ·rcases (mQ hlt).1 hi with rfl | h1
  ·have hn:M[n]? = some true:=(h.mem n).2 (.inl ⟨(n,g :: l),FL,rfl⟩)
   exact .next (h.snd n hn) hgm (by omega)
  ·exact h.snd i h1
 ·rcases h.led A x B e with h1 | ⟨p,h1,h2⟩
  ·exact .inl h1
  ·refine .inr ⟨p,h1,h2.imp id ?_⟩
   rintro ⟨r,hr,rfl⟩
   rcases List.mem_cons.1 hr with rfl | hr
   ·exact ⟨(n,l),FM _ FL,rfl⟩
   ·exact ⟨r,FM _ (FM _ hr),rfl⟩
 ·have:=h.chain
  refine ⟨by rw [hgc]; exact hgm,?_⟩
  cases st with
  | nil=>exact this
  | cons r l=>exact this
theorem Dfs.keeps {bs:List DBlock} {M M':List Bool} {st:List (Nat × List Int)} {o o':List Int} (h:Dfs bs M st o M' o'):DI bs M st o->DI bs M' [] o':=by
 induction h with
 | done=>exact fun h=>h
 | leave _ ih=>exact fun h=>ih h.leave
 | skip hg _ ih=>exact fun h=>ih (h.skip hg)
 | enter hg _ ih=>exact fun h=>ih (h.enter hg)
theorem DI.start {bs:List DBlock} (h:bs≠[]):DI bs ((List.replicate bs.length false).set 0 true) [(0,aD bs 0)] []:=by
 have hl:0 < bs.length:=List.length_pos_iff.2 h
 have hlr:0 < (List.replicate bs.length false).length:=by simpa using hl
 have none_:∀ i:Nat,¬ (List.replicate bs.length false)[i]? = some true:=fun i h=>by
  rw [List.getElem?_replicate] at h
  split at h <;> cases h
 refine ⟨by simp,fun p hp=>?_,fun i=>?_,by simp,fun x hx=>(by cases hx),fun p hp g hg=>?_,fun i hi=>?_,fun A x B e=>(by simp at e),rfl,fun hst=>(by cases hst)⟩
 ·rw [List.mem_singleton] at hp
  subst hp
  exact ⟨hl,fun g hg=>hg⟩
 ·rw [mQ hlr]
  simp only [List.mem_singleton,exists_eq_left,List.not_mem_nil,or_false]
  constructor
  ·rintro (rfl | h)
   ·rfl
   ·exact absurd h (none_ i)
  ·rintro rfl
   exact .inl rfl
 ·rw [List.mem_singleton] at hp
  subst hp
  exact .inl hg
 ·rcases (mQ hlr).1 hi with rfl | h
  ·exact .start (by omega) hl
  ·exact absurd h (none_ i)
structure OI (bs:List DBlock) (o:List Int):Prop where
 mem:∀ i:Nat,(i:Int) ∈ o ↔ Rc bs (-1) i
 pos:∀ x ∈ o,0<=x/\x < (bs.length:Int)
 nod:o.Nodup
 led:∀ (A:List Int) (x:Int) (B:List Int),o=A ++ x :: B->x=0\/∃ p:Nat,x ∈ aD bs p/\(p:Int) ∈ A
 first:bs≠[]->o.head? = some 0
theorem zq.keeps {bs:List DBlock} {o:List Int} (h:zq bs o):OI bs o:=by
 rcases h with ⟨rfl,rfl⟩ | ⟨h0,M',hD⟩
 ·refine ⟨fun i=>⟨fun h=>(by cases h),fun h=>absurd h.lt (by simp)⟩,fun x hx=>(by cases hx),List.nodup_nil,fun A x B e=>(by simp at e),fun h=>absurd rfl h⟩
 ·have h:=hD.keeps (DI.start h0)
  have hmem:∀ i:Nat,M'[i]? = some true ↔ (i:Int) ∈ o:=fun i=>by rw [h.mem i]; simp
  have hfull:xo bs (-1) M':=by
   have hhd:=h.last rfl
   have h0o:(0:Int) ∈ o:=by
    cases o with
    | nil=>cases hhd
    | cons a o=>simp only [List.head?_cons,FG] at hhd; subst hhd; exact FL
   refine CD h.len h.snd (fun _ _=>(hmem 0).2 h0o) (fun i _ hi g hg _=>?_)
   have:=(h.out i ((hmem i).1 hi)).2 g (by simpa using hg)
   exact this
  refine ⟨fun i=>by rw [<- hmem i]; exact hfull.2 i,fun x hx=>?_,by have:=h.nod; simpa using this,fun A x B e=>?_,fun _=>h.last rfl⟩
  ·have hx0:=(h.out x hx).1
   have:Rc bs (-1) x.toNat:=(hfull.2 _).1 ((hmem _).2 (by rw [nK hx0]; exact hx))
   have:=this.lt
   omega
  ·rcases h.led A x B e with h1 | ⟨p,h1,h2⟩
   ·exact .inl h1
   ·refine .inr ⟨p,h1,?_⟩
    rcases h2 with h2 | ⟨r,hr,_⟩
    ·exact h2
    ·cases hr
end Go.Ab
namespace Go.Ab.D13
open Go Go.Ab Go.Proofs
theorem r85 {q:Option Bool} {e:List TV} {f:DFunc} (he:RFunc q e f) (hs:f.blocks.length<=1000):∃ y M,aq prog 26 [.agg e] y/\RBools (some true) y M/\xo f.blocks (-1) M:=by
 obtain ⟨v,o,hv,hvr,hO⟩:=r80 he hs
 obtain ⟨b,rfl,hb,_⟩:=he
 have hI:=hO.keeps
 have hvb:=hvr.bnd
 have loop:∀ (d k:Nat) (M:List Bool) (w:TV),k + d=o.length->RBools (some true) w M->M.length=f.blocks.length->(∀ i:Nat,M[i]? = some true ↔ (i:Int) ∈ o.take k)->∃ y M,aa prog 26 (f26_0 (I o.length) (I k) w v) y/\RBools (some true) y M/\xo f.blocks (-1) M:=by
  intro d
  induction d with
  | zero =>
   intro k M w hk hw hl hm
   have hk:k=o.length:=by omega
   subst hk
   rw [List.take_length] at hm
   refine ⟨w,M,?_,hw,hl,fun i=>by rw [hm i]; exact hI.mem i⟩
   unfold f26_0
   exact aa.tv rfl (aa.ite aQ nofun fun _=>aa.ret)
  | succ d ih =>
   intro k M w hk hw hl hm
   have hkl:k < o.length:=by omega
   obtain ⟨x,hxx⟩:∃ x,x=o[k]:=⟨_,rfl⟩
   have hox:o[k]? = some x:=by rw [hxx]; exact FF hkl
   have hxo:=hI.pos x (FN hox)
   obtain ⟨e,he,rfl,hei⟩:=hvr.pel hox
   have hxl:x.toNat < M.length:=by omega
   obtain ⟨e2,he2,hR⟩:=hw.pel (FF hxl)
   cases hR
   obtain ⟨w',c1,c2⟩:=hw.jw he2 (d:=0) (ys:=[B true]) (a:=true) rfl
   obtain ⟨y,M',hy,hr,hF⟩:=ih (k + 1) (M.set x.toNat true) w' (by omega) c2 (by rw [List.length_set]; exact hl) (fun i=>by
    rw [mQ hxl,hm i,C7 hox,List.mem_append,List.mem_singleton]
    constructor
    ·rintro (rfl | h)
     ·exact .inr (nK hxo.1)
     ·exact .inl h
    ·rintro (h | h)
     ·exact .inr h
     ·exact .inl (by omega))
   refine ⟨y,M',?_,hr,hF⟩
   unfold f26_0
   refine aa.tv rfl (aa.ite (aT hkl) (fun _=>?_) nofun)
   refine aa.nat hvr.slLen (aa.nat (az (by omega)) (aa.chk ?_ (aa.tvs he (aa.chk rfl (aa.nat hw.slLen (aa.nat (jI hxo.1 hei) (aa.chk ?_ (aa.tvs he2 (aa.chk rfl (aa.tv c1 (aa.tv (inc hkl hvb) (f26_0_J hy))))))))))))
   ·rw [hvr.slSize]; simpa using hkl
   ·rw [hw.slSize]; simpa using hxl
 obtain ⟨y,M,hy,hr,hF⟩:=loop o.length 0 _ _ (by omega) (A9 (n:=f.blocks.length) (by omega)) (by simp) (fun i=>by
  rw [List.getElem?_replicate]
  simp)
 refine ⟨y,M,?_,hr,hF⟩
 have hn:aj (I (f.blocks.length:Nat))=some f.blocks.length:=az (by omega)
 refine aq.of (f26_MR _) ?_
 unfold f26_M
 refine aa.chk rfl (aa.tv hb.len (aa.nat hn (aa.nat hn (aa.chk ?_ (aa.call hv (aa.chk (cH hvr.isSl) (aa.tv hvr.len (f26_0_J hy))))))))
 have:Nat.ble f.blocks.length 4294967296=true:=by simp; omega
 simp [this]
end Go.Ab.D13
end
section
set_option maxRecDepth 10000
namespace Go.Ab
def zC {α:Type} (g:Nat->α) (k:Nat) (v:α):Nat->α:=fun i=>if i=k then v else g i
theorem rx {α:Type} {g:Nat->α} {k:Nat} {v:α}:zC g k v k=v:=if_pos rfl
theorem rE {α:Type} {g:Nat->α} {k i:Nat} {v:α} (h:i≠k):zC g k v i=g i:=if_neg h
def dM {α:Type} (n:Nat) (g:Nat->α):List α:=(List.range n).map g
theorem dF {α:Type} (n:Nat) (g:Nat->α):(dM n g).length=n:=by simp [dM]
theorem cB {α:Type} {n:Nat} {g:Nat->α} {k:Nat} (h:k < n):(dM n g)[k]? = some (g k):=by simp [dM,h]
theorem s7 {α:Type} {n:Nat} {g:Nat->α} {k:Nat} {v:α}:(dM n g).set k v=dM n (zC g k v):=by
 apply List.ext_getElem?
 intro i
 by_cases hi:i < n
 ·by_cases e:k=i
  ·subst e
   rw [List.getElem?_set_self (by rw [dF]; exact hi),cB hi,rx]
  ·rw [List.getElem?_set_ne e,cB hi,cB hi,rE (Ne.symm e)]
 ·rw [FQ (by simp [dM]; omega),FQ (by simp [dM]; omega)]
theorem yc {α:Type} (n:Nat) (a:α):List.replicate n a=dM n fun _=>a:=by
 apply List.ext_getElem?
 intro i
 by_cases hi:i < n
 ·rw [cB hi,List.getElem?_replicate,if_pos hi]
 ·rw [FQ (by simp; omega),FQ (by simp [dM]; omega)]
abbrev RArr (w:TV) (n:Nat) (g:Nat->Int):Prop:=RInts (some true) w (dM n g)
abbrev RBArr (w:TV) (n:Nat) (g:Nat->Bool):Prop:=RBools (some true) w (dM n g)
theorem RArr.get {w:TV} {n:Nat} {g:Nat->Int} (h:RArr w n g) {k:Nat} (hk:k < n):Go.Ab.pel w k=some [I (g k)]/\inI (g k):=by
 obtain ⟨e,he,rfl,hi⟩:=RL.pel h (cB hk)
 exact ⟨he,hi⟩
theorem RArr.set {w:TV} {n:Nat} {g:Nat->Int} (h:RArr w n g) {k:Nat} (hk:k < n) {v:Int} (hv:inI v):∃ w',eJ [] w k 0 [I v]=some w'/\RArr w' n (zC g k v):=by
 obtain ⟨w',h1,h2⟩:=RL.jw h (h.get hk).1 (d:=0) (ys:=[I v]) (a:=v) ⟨rfl,hv⟩
 rw [s7] at h2
 exact ⟨w',h1,h2⟩
theorem RBArr.get {w:TV} {n:Nat} {g:Nat->Bool} (h:RBArr w n g) {k:Nat} (hk:k < n):Go.Ab.pel w k=some [B (g k)]:=by
 obtain ⟨e,he,rfl⟩:=RL.pel h (cB hk)
 exact he
theorem RBArr.set {w:TV} {n:Nat} {g:Nat->Bool} (h:RBArr w n g) {k:Nat} (hk:k < n) (v:Bool):∃ w',eJ [] w k 0 [B v]=some w'/\RBArr w' n (zC g k v):=by
 obtain ⟨w',h1,h2⟩:=RL.jw h (h.get hk) (d:=0) (ys:=[B v]) (a:=v) rfl
 rw [s7] at h2
 exact ⟨w',h1,h2⟩
theorem cS {α:Type} {n:Nat} {g h:Nat->α} (e:∀ i,i < n->g i=h i):dM n g=dM n h:=by
 apply List.ext_getElem?
 intro i
 by_cases hi:i < n
 ·rw [cB hi,cB hi,e i hi]
 ·rw [FQ (by rw [dF]; omega),FQ (by rw [dF]; omega)]
end Go.Ab
end
section
set_option maxRecDepth 10000
namespace Go.Ab
theorem F2.rep {α:Type} {R:List TV->α->Prop} {e:List TV} {a:α} (h:R e a):∀ n:Nat,F2 R (List.replicate n e) (List.replicate n a)
 | 0=>.nil
 | n + 1=>.cons h (F2.rep h n)
theorem RL.rep {α:Type} {s:Nat} {R:List TV->α->Prop} {e:List TV} {a:α} (h:R e a) {n:Nat} (hn:n<=9223372036854775807):RL (some true) s R (.sl true s (List.replicate n e)) (dM n fun _=>a):=by
 rw [<- yc]
 exact .sl (by simp) (F2.rep h n) (by simpa using hn)
end Go.Ab
namespace Go.Ab.D13
open Go Go.Ab Go.Proofs
section
variable {q:Option Bool} {b:TV} {m:DMod} (hb:RL q 3 (RFunc q) b m.funcs) (hs:smallM m)
include hb hs
end
end Go.Ab.D13
end
section
set_option maxRecDepth 10000
namespace Go.Ab
open Classical in
noncomputable def dP (p:Prop):Bool:=decide p
theorem kG {p:Prop} (h:p):dP p=true:=@decide_eq_true p (Classical.propDecidable p) h
theorem oN {p:Prop} (h:¬ p):dP p=false:=@decide_eq_false p (Classical.propDecidable p) h
theorem si {p q:Prop} (h:p ↔ q):dP p=dP q:=by rw [propext h]
theorem EX {p:Prop} (h:dP p=true):p:=Classical.byContradiction fun hn=>by rw [oN hn] at h; cases h
theorem CG {p:Prop} (h:dP p=false):¬ p:=fun hp=>by rw [kG hp] at h; cases h
end Go.Ab
namespace Go.Ab.D13
open Go Go.Ab Go.Proofs
section
variable {b:TV} {m:DMod} (hb:RL (some false) 3 (RFunc (some false)) b m.funcs) (hN:m.funcs.length<=100)
include hb hN
end
end Go.Ab.D13
end
section
set_option maxRecDepth 10000
namespace Go.Ab
noncomputable def nD (P:Nat->Prop) (i:Nat):Int:=if dP (P i)=true then (aG P i:Int) else 0
theorem mr {P:Nat->Prop} {i:Nat} (h:P i):nD P i=(aG P i:Int):=if_pos (kG h)
theorem Ed {P:Nat->Prop} {i:Nat} (h:¬ P i):nD P i=0:=if_neg (by rw [oN h]; exact nofun)
theorem RL.isOneD {α:Type} {q:Option Bool} {s:Nat} {R:List TV->α->Prop} {x:TV} {l:List α} (h:RL q s R x l):x.iB=true:=by
 rcases h with ⟨rfl,rfl⟩ | ⟨o,xs,rfl,hq,h,hb⟩ <;> rfl
theorem DY {bs:List DBlock} {M:List Bool} (h:xo bs (-1) M):M=dM bs.length fun i=>dP (Rc bs (-1) i):=by
 apply List.ext_getElem?
 intro i
 by_cases hi:i < bs.length
 ·rw [cB hi]
  obtain ⟨c,hc⟩:∃ c,M[i]? = some c:=⟨_,FF (by rw [h.1]; exact hi)⟩
  rw [hc]
  congr 1
  cases c with
  | true=>rw [kG ((h.2 i).1 hc)]
  | false=>rw [oN fun hr=>by rw [(h.2 i).2 hr] at hc; cases hc]
 ·rw [FQ (by rw [h.1]; omega),FQ (by rw [dF]; omega)]
end Go.Ab
namespace Go.Ab.D13
open Go Go.Ab Go.Proofs
section
variable {q:Option Bool} {x:TV} {N:Nat} {P:Nat->Prop} (hx:RBools q x (dM N fun i=>dP (P i))) (hN:N<=1000)
include hx hN
theorem Fz:∃ y,aq prog 20 [x] y/\RInts (some true) y (dM N (nD P)):=by
 have key : ∀ (d i : Nat) (w : TV), i + d = N → RInts (some true) w (dM N fun k => if k < i then nD P k else 0) → ∃ y, aa prog 20 (f20_0 (I (aG P i)) x (I N) (I i) w) y ∧ RInts (some true) y (dM N (nD P)) := by
  intro d
  induction d with
  | zero =>
   intro i w hi hw
   have hi:i=N:=by omega
   subst hi
   rw [cS (h:=nD P) fun k hk=>if_pos hk] at hw
   refine ⟨w,?_,hw⟩
   unfold f20_0
   exact aa.tv rfl (aa.ite aQ nofun fun _=>aa.chk (hw.own fun _ _ h=>h.own) aa.ret)
  | succ d ih =>
   intro i w hi hw
   have hil:i < N:=by omega
   obtain ⟨e,he,hR⟩:=hx.idx (k:=.i64) (cB hil)
   cases hR
   have hcl:=EG P i
   by_cases hp:P i
   ·rw [kG hp] at he
    obtain ⟨a1,a2⟩:=RArr.get hw hil
    obtain ⟨w',b1,b2⟩:=RArr.set hw hil (v:=(aG P i:Int)) (by unfold inI; omega)
    have b2:RInts (some true) w' (dM N fun k=>if k < i + 1 then nD P k else 0):=by
     rw [cS (h:=zC (fun k=>if k < i then nD P k else 0) i (aG P i:Int)) fun k hk=>by
      by_cases e:k=i
      ·subst e; rw [rx,if_pos (by omega),mr hp]
      ·rw [rE e]
       by_cases h:k < i
       ·rw [if_pos h,if_pos (by omega)]
       ·rw [if_neg h,if_neg (by omega)]]
     exact b2
    obtain ⟨y,hy,hr⟩:=ih (i + 1) w' (by omega) b2
    rw [pX hp] at hy
    refine ⟨y,?_,hr⟩
    have l:=RL.slLen hw
    rw [dF] at l
    have ani:aj (I (i:Int))=some i:=az (by omega)
    unfold f20_0
    refine aa.tv rfl (aa.ite (aT hil) (fun _=>aa.tvs he (aa.chk rfl (aa.ite (v:=true) rfl (fun _=>?_) nofun))) nofun)
    exact aa.nat l (aa.nat ani (aa.chk (by rw [RL.slSize hw]; simpa using hil) (aa.chk rfl (aa.tvs a1 (aa.chk rfl (aa.tv b1 (aa.tv (inc (k:=aG P i) (n:=N) (by omega) (by omega)) (aa.tv (inc hil (by omega)) (f20_0_J hy)))))))))
   ·rw [oN hp] at he
    have hw2:RInts (some true) w (dM N fun k=>if k < i + 1 then nD P k else 0):=by
     rw [cS (h:=fun k=>if k < i then nD P k else 0) fun k hk=>by
      by_cases e:k=i
      ·subst e; rw [if_pos (by omega),if_neg (by omega),Ed hp]
      ·by_cases h:k < i
       ·rw [if_pos h,if_pos (by omega)]
       ·rw [if_neg h,if_neg (by omega)]]
     exact hw
    obtain ⟨y,hy,hr⟩:=ih (i + 1) w (by omega) hw2
    rw [vx hp] at hy
    refine ⟨y,?_,hr⟩
    unfold f20_0
    refine aa.tv rfl (aa.ite (aT hil) (fun _=>aa.tvs he (aa.chk rfl (aa.ite (v:=false) rfl nofun fun _=>?_))) nofun)
    exact aa.tv (inc hil (by omega)) (f20_0_J hy)
 have hzero:RI1 [I 0] 0:=⟨rfl,by unfold inI; omega⟩
 have hr:=RL.rep (s:=1) hzero (n:=N) (by omega)
 obtain ⟨y,hy,hr⟩:=key N 0 _ (by omega) (by rw [cS (h:=fun _=>(0:Int)) fun k _=>if_neg (Nat.not_lt_zero _)]; exact hr)
 rw [mK] at hy
 refine ⟨y,?_,hr⟩
 have lx:=hx.len (t:=4)
 rw [dF] at lx
 have han:aj (I (N:Int))=some N:=az (by omega)
 refine aq.of (f20_MR _) ?_
 unfold f20_M
 exact aa.tv lx (aa.nat han (aa.nat han (aa.chk (by simp; omega) (aa.tv lx (f20_0_J hy)))))
theorem rStayB {q2:Option Bool} {b:TV} {l:List DBlock} (hb:RL q2 14 (RBlock (some false)) b l) (hl:l.length=N):∃ y,aq prog 28 [b,x] y/\RL (some true) 14 (RBlock (some false)) y (bV P l id N):=by
 have key:∀ (d i:Nat) (w:TV),i + d=N->RL (some true) 14 (RBlock (some false)) w (bV P l id i)->∃ y,aa prog 28 (f28_0 x b (I N) (I i) w) y/\RL (some true) 14 (RBlock (some false)) y (bV P l id N):=by
  intro d
  induction d with
  | zero =>
   intro i w hi hw
   have hi:i=N:=by omega
   subst hi
   refine ⟨w,?_,hw⟩
   unfold f28_0
   exact aa.tv rfl (aa.ite aQ nofun fun _=>aa.ret)
  | succ d ih =>
   intro i w hi hw
   have hil:i < N:=by omega
   obtain ⟨a,ha⟩:∃ a,l[i]? = some a:=⟨_,FF (by omega)⟩
   obtain ⟨eb,heb,hRb⟩:=hb.idx (k:=.i64) ha
   obtain ⟨e,he,hR⟩:=hx.idx (k:=.i64) (cB hil)
   cases hR
   have hlen:=fM (P:=P) (l:=l) (f:=id) (k:=i)
   have hB:=hRb
   obtain ⟨c,t,g,rfl,_⟩:=hRb
   by_cases hp:P i
   ·rw [kG hp] at he
    obtain ⟨w',b1,b2⟩:=hw.app hB (by omega)
    obtain ⟨y,hy,hr⟩:=ih (i + 1) w' (by omega) (by rw [j8 hp ha]; exact b2)
    refine ⟨y,?_,hr⟩
    unfold f28_0
    refine aa.tv rfl (aa.ite (aT hil) (fun _=>aa.tvs heb (aa.chk rfl (aa.tvs he (aa.chk rfl (aa.ite (v:=true) rfl (fun _=>?_) nofun))))) nofun)
    exact aa.rws rfl (aa.tv b1 (aa.tv (inc hil (by omega)) (f28_0_J hy)))
   ·rw [oN hp] at he
    obtain ⟨y,hy,hr⟩:=ih (i + 1) w (by omega) (by rw [oI hp]; exact hw)
    refine ⟨y,?_,hr⟩
    unfold f28_0
    refine aa.tv rfl (aa.ite (aT hil) (fun _=>aa.tvs heb (aa.chk rfl (aa.tvs he (aa.chk rfl (aa.ite (v:=false) rfl nofun fun _=>?_))))) nofun)
    exact aa.tv (inc hil (by omega)) (f28_0_J hy)
 obtain ⟨y,hy,hr⟩:=key N 0 (.lit aF) (by omega) (by rw [lm]; exact RL.nil)
 refine ⟨y,?_,hr⟩
 have lb:=hb.len (t:=46)
 rw [hl] at lb
 refine aq.of (f28_MR _ _) ?_
 unfold f28_M
 exact aa.tv lb (aa.chk rfl (f28_0_J hy))
end
theorem DU {q q':Option Bool} {e:List TV} {x:DEnd} (he:REnd q e x) {w:TV} {N:Nat} {g:Nat->Int} {ψ:Nat->Nat} (hw:RInts q' w (dM N g))
  (h2:x.kind=2\/x.kind=3\/x.kind=4->0<=x.to/\x.to.toNat < N/\g x.to.toNat=(ψ x.to.toNat:Int)) (h3:x.kind=3->0<=x.els/\x.els.toNat < N/\g x.els.toNat=(ψ x.els.toNat:Int)) (h4:x.kind=4->0<=x.pad/\x.pad.toNat < N/\g x.pad.toNat=(ψ x.pad.toNat:Int)) :
  ∃ e',aq prog 29 [.agg e,w] (.agg e')/\REnd q e' (mm ψ x):=by
 obtain ⟨a,rfl,ha,ho⟩:=he
 have num:∀ {t:Int},0<=t/\t.toNat < N/\g t.toNat=(ψ t.toNat:Int)->pidx 1 w (I t)=some [I (ψ t.toNat:Int)]/\inI (ψ t.toNat:Int):=by
  rintro t ⟨t0,t1,t2⟩
  obtain ⟨e,he,hR⟩:=hw.idxI (k:=.i64) (n:=t) t0 (cB t1)
  obtain ⟨rfl,hi⟩:=hR
  rw [t2] at he hi
  exact ⟨he,hi⟩
 by_cases k3:x.kind=3
 ·obtain ⟨n1,o1⟩:=num (h2 (by omega))
  obtain ⟨n2,o2⟩:=num (h3 k3)
  have e:mm ψ x={ x with to:=(ψ x.to.toNat:Int),els:=(ψ x.els.toNat:Int) }:=by
   unfold mm
   rw [if_pos (by omega),if_pos k3,if_neg (by omega)]
  rw [e]
  refine ⟨_,?_,a,rfl,ha,⟨ho.1,ho.2.1,ho.2.2.1,ho.2.2.2.1,o1,o2,ho.2.2.2.2.2.2⟩⟩
  refine aq.of (f29_MR _ _) ?_
  unfold f29_M
  exact aa.chk rfl (aa.tv rfl (aa.ite (v:=true) (by simp [asBool,k3]) (fun _=>aa.tvs n1 (aa.chk rfl (aa.tvs n2 (aa.chk rfl aa.ret)))) nofun))
 ·by_cases k4:x.kind=4
  ·obtain ⟨n1,o1⟩:=num (h2 (by omega))
   obtain ⟨n2,o2⟩:=num (h4 k4)
   have e:mm ψ x={ x with to:=(ψ x.to.toNat:Int),pad:=(ψ x.pad.toNat:Int) }:=by
    unfold mm
    rw [if_pos (by omega),if_neg k3,if_pos k4]
   rw [e]
   refine ⟨_,?_,a,rfl,ha,⟨ho.1,ho.2.1,ho.2.2.1,ho.2.2.2.1,o1,ho.2.2.2.2.2.1,o2⟩⟩
   refine aq.of (f29_MR _ _) ?_
   unfold f29_M
   refine aa.chk rfl (aa.tv rfl (aa.ite (v:=false) (by simp [asBool,k3]) nofun fun _=>aa.tv rfl (aa.ite (v:=true) (by simp [asBool,k4]) (fun _=>aa.tvs n2 (aa.chk rfl (f29_0_J ?_))) nofun)))
   unfold f29_0
   exact aa.tvs n1 (aa.chk rfl aa.ret)
  ·by_cases k2:x.kind=2
   ·obtain ⟨n1,o1⟩:=num (h2 (by omega))
    have e:mm ψ x={ x with to:=(ψ x.to.toNat:Int) }:=by
     unfold mm
     rw [if_pos (by omega),if_neg k3,if_neg k4]
    rw [e]
    refine ⟨_,?_,a,rfl,ha,⟨ho.1,ho.2.1,ho.2.2.1,ho.2.2.2.1,o1,ho.2.2.2.2.2⟩⟩
    refine aq.of (f29_MR _ _) ?_
    unfold f29_M
    refine aa.chk rfl (aa.tv rfl (aa.ite (v:=false) (by simp [asBool,k3]) nofun fun _=>aa.tv rfl (aa.ite (v:=false) (by simp [asBool,k4]) nofun fun _=>aa.tv rfl (aa.ite (v:=true) (by simp [asBool,k2]) (fun _=>f29_0_J ?_) nofun))))
    unfold f29_0
    exact aa.tvs n1 (aa.chk rfl aa.ret)
   ·have e:mm ψ x=x:=by
     unfold mm
     rw [if_neg (by omega),if_neg k3,if_neg k4]
    rw [e]
    refine ⟨_,?_,a,rfl,ha,ho⟩
    refine aq.of (f29_MR _ _) ?_
    unfold f29_M
    exact aa.chk rfl (aa.tv rfl (aa.ite (v:=false) (by simp [asBool,k3]) nofun fun _=>aa.tv rfl (aa.ite (v:=false) (by simp [asBool,k4]) nofun fun _=>aa.tv rfl (aa.ite (v:=false) (by simp [asBool,k2]) nofun fun _=>aa.ret))))
theorem E3 {q q':Option Bool} {e:List TV} {u:DFunc} (he:RFunc q e u) {x:TV} (hx:RBools q' x (dM u.blocks.length fun i=>dP (Rc u.blocks (-1) i))):aq prog 27 [.agg e,x] (B (dP (¬ fV u))):=by
 have hF:=he
 obtain ⟨b,rfl,hb,_⟩:=he
 have hbn:=hb.bnd
 have key : ∀ (d i : Nat), i + d = u.blocks.length → aa prog 27 (f27_0 x b (I u.blocks.length) (I i) (I u.params) (I u.regs) b) (B (dP (∃ k c, i ≤ k ∧ Rc u.blocks (-1) k ∧ u.blocks[k]? = some c ∧ (aD u.blocks k).length < (nx c).length))) := by
  intro d
  induction d with
  | zero =>
   intro i hi
   have hi:i=u.blocks.length:=by omega
   subst hi
   rw [oN fun ⟨k,c,hk,hr,_⟩=>by have:=hr.lt; omega]
   unfold f27_0
   exact aa.tv rfl (aa.ite aQ nofun fun _=>aa.ret)
  | succ d ih =>
   intro i hi
   have hil:i < u.blocks.length:=by omega
   have next:=ih (i + 1) (by omega)
   obtain ⟨a,ha⟩:∃ a,u.blocks[i]? = some a:=⟨_,FF hil⟩
   obtain ⟨eb,heb,hRb⟩:=hb.idx (k:=.i64) ha
   obtain ⟨e,he,hR⟩:=hx.idx (k:=.i64) (cB hil)
   cases hR
   obtain ⟨y,hy,hry⟩:=r15 hRb
   obtain ⟨v,hv,hrv⟩:=r71 hF (i:Int)
   rw [qa] at hrv
   have hgl:(gl a).length<=2:=by unfold gl; split <;> split <;> simp
   have hnl:=tD u.blocks i
   obtain ⟨c,t,g,rfl,_,_,_,_,ho⟩:=hRb
   have rest:∀ {w:TV},RInts (some true) w (nx a)->aa prog 27 (f27_1 x (I i) b (I u.blocks.length) (I i) (I u.params) (I u.regs) b w) (B (dP (∃ k c,i<=k/\Rc u.blocks (-1) k/\u.blocks[k]? = some c/\(aD u.blocks k).length < (nx c).length))):=by
    intro w hw
    by_cases hp:Rc u.blocks (-1) i
    ·rw [kG hp] at he
     unfold f27_1
     refine aa.tvs he (aa.chk rfl (aa.ite (v:=true) rfl (fun _=>aa.call hv (aa.chk (cH hrv.isSl) (aa.tv hrv.len (aa.tv hw.len (aa.tv rfl (aa.ite rfl (fun h=>?_) fun h=>?_)))))) nofun))
     ·have h:(aD u.blocks i).length < (nx a).length:=by have:=of_decide_eq_true h; omega
      rw [kG ⟨i,a,Nat.le_refl _,hp,ha,h⟩]
      exact aa.ret
     ·have h:¬ (aD u.blocks i).length < (nx a).length:=by have:=of_decide_eq_false h; omega
      rw [si (q:=∃ k c,i + 1<=k/\Rc u.blocks (-1) k/\u.blocks[k]? = some c/\(aD u.blocks k).length < (nx c).length) ⟨fun ⟨k,c,h1,h2,h3,h4⟩=>⟨k,c,by
       by_cases e:k=i
       ·subst e; rw [ha] at h3; cases h3; exact absurd h4 h
       ·omega,h2,h3,h4⟩,fun ⟨k,c,h1,h2⟩=>⟨k,c,by omega,h2⟩⟩]
      exact aa.tv (inc hil hbn) (f27_0_J next)
    ·rw [oN hp] at he
     unfold f27_1
     refine aa.tvs he (aa.chk rfl (aa.ite (v:=false) rfl nofun fun _=>?_))
     rw [si (q:=∃ k c,i + 1<=k/\Rc u.blocks (-1) k/\u.blocks[k]? = some c/\(aD u.blocks k).length < (nx c).length) ⟨fun ⟨k,c,h1,h2,h3,h4⟩=>⟨k,c,by
       by_cases e:k=i
       ·subst e; exact absurd h2 hp
       ·omega,h2,h3,h4⟩,fun ⟨k,c,h1,h2⟩=>⟨k,c,by omega,h2⟩⟩]
     exact aa.tv (inc hil hbn) (f27_0_J next)
   unfold f27_0
   refine aa.tv rfl (aa.ite (aT hil) (fun _=>aa.tvs heb (aa.chk rfl (aa.call hy (aa.chk (cH hry.isSl) (aa.tv rfl ?_))))) nofun)
   by_cases h4:a.fin.kind=4
   ·obtain ⟨w',hw',hr'⟩:=hry.app (e:=[I a.fin.pad]) (a:=a.fin.pad) ⟨rfl,ho.2.2.2.2.2.2⟩ (by omega)
    refine aa.ite (v:=true) (by simp [asBool,h4]) (fun _=>aa.rws rfl (aa.tv hw' (f27_1_J (rest ?_)))) nofun
    unfold nx
    rw [if_pos h4]
    exact hr'
   ·refine aa.ite (v:=false) (by simp [asBool,h4]) nofun fun _=>f27_1_J (rest ?_)
    unfold nx
    rw [if_neg h4,List.append_nil]
    exact hry
 have e0:dP (¬ fV u)=dP (∃ k c,0<=k/\Rc u.blocks (-1) k/\u.blocks[k]? = some c/\(aD u.blocks k).length < (nx c).length):=by
  refine si ⟨fun h=>Classical.byContradiction fun hn=>h fun i b hi hb=>?_,fun ⟨k,c,_,h1,h2,h3⟩ hg=>by have:=hg k c h1 h2; omega⟩
  have h1:(aD u.blocks i).length<=(nx b).length:=by
   unfold aD
   rw [hb]
   exact List.length_filter_le _ _
  have h2:¬ (aD u.blocks i).length < (nx b).length:=fun h=>hn ⟨i,b,Nat.zero_le _,hi,hb,h⟩
  omega
 rw [e0]
 refine aq.of (f27_MR _ _) ?_
 unfold f27_M
 exact aa.chk rfl (aa.tv hb.len (f27_0_J (key u.blocks.length 0 (by omega))))
end Go.Ab.D13
end

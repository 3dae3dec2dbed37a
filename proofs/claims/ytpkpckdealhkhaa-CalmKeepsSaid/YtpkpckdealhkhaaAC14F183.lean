import Derived.Test.YtpkpckdealhkhaaAC14F98
set_option linter.all false
section
set_option maxRecDepth 10000
namespace Go.Ab
def bz (b:DBlock):DBlock:={ b with ins:=b.ins ++ [⟨11,b.fin.dst,0,0,0,b.fin.f,b.fin.args⟩],fin:=⟨2,0,0,0,[],b.fin.to,0,0⟩ }
structure Du (m n:DMod) (C:Nat->Nat->Prop) (X:DFunc->DBlock->Prop):Prop where
 here:∀(i:Nat) u,m.funcs[i]? = some u->∃u',n.funcs[i]? = some u'/\u'.params=u.params/\u'.regs=u.regs/\∀(j:Nat) b,u.blocks[j]? = some b->∃b',u'.blocks[j]? = some b'/\((¬C i j/\b'=b)\/(C i j/\b.fin.kind=4/\X u b/\b'=bz b))
theorem qd {P:Nat->Prop}:∀{n:Nat},d8 P n=none ↔ ∀j,j<n->¬P j:=by
 intro n
 induction n with
 | zero=>exact⟨fun _ j h=>by omega,fun _=>rfl⟩
 | succ n ih =>
  unfold d8
  constructor
  ·intro h
   split at h
   ·cases h
   ·rename_i hn
    intro j hj
    by_cases e:j=n
    ·subst e;exact hn
    ·exact ih.1 h j (by omega)
  ·intro h
   rw[if_neg (h n (by omega))]
   exact ih.2 fun j hj=>h j (by omega)
theorem wO {P Q:Nat->Prop} {n:Nat} (h1:∀k,P k->Q k) (h2:∀k,k<n->Q k->¬P k->∃k',k<k'/\k'<n/\P k'):d8 P n=d8 Q n:=by
 cases h:d8 Q n with
 | none=>exact qd.2 fun j hj hp=>qd.1 h j hj (h1 j hp)
 | some k =>
  obtain⟨hq,hk⟩:=oa h
  have hmax:=zp h
  by_cases hp:P k
  ·exact pQ hp hk fun j a b hj=>hmax j a b (h1 j hj)
  ·obtain⟨k',a,b,hp'⟩:=h2 k hk hq hp
   exact absurd (h1 k' hp') (hmax k' a b)
theorem uU (s:DMach):ln s s:=⟨rfl,rfl,rfl⟩
theorem twice {m n:DMod} {I:DMach->Prop} (hI:∀s,I s->I (aI m s)) (h:∀s,I s->aI n s=aI m s\/(aI n (aI n s)=aI m s/\ln (aI n s) (aI m s))) {s:DMach} (hs:I s) (fuel:Nat):vP (bO m s) (bO n s) fuel 2:=by
 have hIk:∀k,I (bO m s k):=fun k=>by
  induction k with
  | zero=>exact hs
  | succ k ih=>exact hI _ ih
 refine CJ (uX m s) (uX n s) (fun k=>?_) (fun j=>?_) fuel
 ·have:∃j,j<=k*2/\bO n s j=bO m s k:=by
   induction k with
   | zero=>exact⟨0,Nat.le_refl _,rfl⟩
   | succ k ih =>
    obtain⟨j,hj,e⟩:=ih
    rcases h _ (hIk k)with h|⟨h,_⟩
    ·exact⟨j+1,by omega,by show aI n (bO n s j)=aI m (bO m s k);rw[e,h]⟩
    ·exact⟨j+2,by omega,by show aI n (aI n (bO n s j))=aI m (bO m s k);rw[e,h]⟩
  obtain⟨j,hj,e⟩:=this
  exact⟨j,hj,by rw[e];exact uU _⟩
 ·have : ∃ k, bO n s j = bO m s k ∨ (aI n (bO n s j) = bO m s (k + 1) ∧ ln (bO n s j) (bO m s (k + 1))) := by
   induction j with
   | zero=>exact⟨0,.inl rfl⟩
   | succ j ih =>
    obtain⟨k,e|⟨e,_⟩⟩:=ih
    ·rcases h _ (hIk k)with h|⟨h,ht⟩
     ·exact⟨k+1,.inl (by show aI n (bO n s j)=aI m (bO m s k);rw[e,h])⟩
     ·refine⟨k,.inr ⟨?_,?_⟩⟩
      ·show aI n (aI n (bO n s j))=aI m (bO m s k)
       rw[e,h]
      ·show ln (aI n (bO n s j)) (aI m (bO m s k))
       rw[e];exact ht
    ·exact⟨k+1,.inl e⟩
  obtain⟨k,e|⟨_,ht⟩⟩:=this
  ·exact⟨k,by rw[e];exact uU _⟩
  ·exact⟨k+1,ht⟩
end Go.Ab
namespace Go.Ab.C14
open Go Go.Ab Go.Proofs
section
variable {m n:DMod} {C:Nat->Nat->Prop} {X:DFunc->DBlock->Prop} (hM:cF m) (hC:Du m n C X)
include hM hC
theorem md {f:DFrame} (hF:ca m f):∃u u' b b',m.funcs[f.f.toNat]? = some u/\n.funcs[f.f.toNat]? = some u'/\u.blocks[f.block.toNat]? = some b/\u'.blocks[f.block.toNat]? = some b'/\((¬C f.f.toNat f.block.toNat/\b'=b)\/(C f.f.toNat f.block.toNat/\b.fin.kind=4/\X u b/\b'=bz b)) /\
  (∀(j:Nat) c,u.blocks[j]? = some c->∃c',u'.blocks[j]? = some c'/\c'.pad=c.pad/\c'.landing=c.landing)/\0<=f.at_/\f.at_<=b.ins.length:=by
 obtain⟨_,u,hu,hlr,_,b,hb,ha0,ha1⟩:=hF
 obtain⟨u',hu',_,_,hall⟩:=hC.here _ u hu
 obtain⟨b',hb',hB⟩:=hall _ b hb
 refine⟨u,u',b,b',hu,hu',hb,hb',hB,fun j c hc=>?_,ha0,ha1⟩
 obtain⟨c',hc',hB'⟩:=hall j c hc
 rcases hB' with⟨_,e⟩|⟨_,_,_,e⟩
 ·exact⟨c',hc',by rw[e],by rw[e]⟩
 ·exact⟨c',hc',by rw[e];rfl,by rw[e];rfl⟩
theorem oz {f:DFrame} (hF:ca m f) (w:Int) (cl:Bool):iN n f w cl ↔ ¬C f.f.toNat f.block.toNat/\iN m f w cl:=by
 obtain⟨u,u',b,b',hu,hu',hb,hb',hB,hall,ha0,ha1⟩:=md hM hC hF
 constructor
 ·rintro⟨v,c,p,g1,g2,g3,g4,g5,g6⟩
  rw[hu']at g1
  cases g1
  rw[hb']at g2
  cases g2
  rcases hB with⟨hn,e⟩|⟨_,_,_,e⟩
  ·rw[e]at g3 g4 g5
   obtain⟨_,pb,hpb,_⟩:=nJ hM hu hb g4
   obtain⟨p',hp',e1,_⟩:=hall _ pb hpb
   rw[hp']at g5
   cases g5
   rw[e1]at g6
   exact⟨hn,u,b,pb,hu,hb,g3,g4,hpb,g6⟩
  ·rw[e]at g4
   exact absurd g4 (by decide:¬(2:Int)=4)
 ·rintro⟨hn,v,c,p,g1,g2,g3,g4,g5,g6⟩
  rw[hu]at g1
  cases g1
  rw[hb]at g2
  cases g2
  rcases hB with⟨_,e⟩|⟨hc,_⟩
  ·obtain⟨p',hp',e1,_⟩:=hall _ p g5
   rw[<-e1]at g6
   exact⟨u',b',p',hu',hb',by rw[e];exact g3,by rw[e];exact g4,by rw[e];exact hp',g6⟩
  ·exact absurd hc hn
theorem np {s:DMach} (hQ:db m s) {f:DFrame} (hf:f∈s.stack):ca m f:=by
 obtain⟨i,hi,rfl⟩:=List.mem_iff_getElem.1 hf
 exact hQ.st.1 i _ (FQ hi)
theorem C7 (hX:∀u b,X u b->¬Thr m b.fin.f.toNat) {s:DMach} (hQ:db m s) {f0:DFrame} (ht:jT s=some f0) (h0:Thr m f0.f.toNat) (w:Int):∀(d j:Nat) (f:DFrame),j+d=s.stack.length-1->s.stack[j]? = some f ->
  Thr m f.f.toNat\/∃j' f',j<=j'/\j'<s.stack.length-1/\s.stack[j']? = some f'/\¬C f'.f.toNat f'.block.toNat/\iN m f' w false:=by
 intro d
 induction d with
 | zero =>
  intro j f hj hf
  have hj:j=s.stack.length-1:=by omega
  subst hj
  have:jT s=some f:=hf
  rw[ht]at this
  cases this
  exact .inl h0
 | succ d ih =>
  intro j f hj hf
  obtain⟨g,hg⟩:∃g,s.stack[j+1]? = some g:=⟨_,FQ (by omega)⟩
  rcases ih (j+1) g (by omega) hg with h1|⟨j',f',a,b,c⟩
  ·obtain⟨u,b,hu,hb,⟨hat,h4,he⟩|⟨_,x,hx,h11,he⟩⟩:=hQ.st.2 j f g hf hg
   ·obtain⟨_,pb,hpb,_⟩:=nJ hM hu hb h4
    have hnC:¬C f.f.toNat f.block.toNat:=by
     obtain⟨u2,u',b2,b',hu2,_,hb2,_,hB,_⟩:=md hM hC (np hM hC hQ (FZ hf))
     rw[hu]at hu2
     cases hu2
     rw[hb]at hb2
     cases hb2
     rcases hB with⟨h,_⟩|⟨_,_,h,_⟩
     ·exact h
     ·have h:=hX _ _ h
      rw[he]at h;exact absurd h1 h
    cases hall:pb.pad.all with
    | true=>exact .inr ⟨j,f,Nat.le_refl _,by omega,hf,hnC,u,b,pb,hu,hb,hat,h4,hpb,.inl (.inl hall)⟩
    | false=>exact .inl (.inv hu hb h4 hpb hall (by rw[he];exact h1))
   ·exact .inl (.call hu hb hx h11 (by rw[he];exact h1))
  ·exact .inr ⟨j',f',by omega,b,c⟩
theorem Bu (hX:∀u b,X u b->¬Thr m b.fin.f.toNat) {s:DMach} (hQ:db m s) {f0:DFrame} (ht:jT s=some f0) (h0:Thr m f0.f.toNat) (w:Int):bI n s w=bI m s w:=by
 have sub:∀cl k,aV n (s.stack.take (s.stack.length-1)) w cl k->aV m (s.stack.take (s.stack.length-1)) w cl k:=by
  rintro cl k ⟨f,hf,hc⟩
  exact⟨f,hf,((oz hM hC (np hM hC hQ (List.mem_of_mem_take (FZ hf))) w cl).1 hc).2⟩
 have more:∀cl k,aV m (s.stack.take (s.stack.length-1)) w cl k->¬aV n (s.stack.take (s.stack.length-1)) w cl k->∃k',k<k'/\k'<s.stack.length-1/\aV n (s.stack.take (s.stack.length-1)) w false k':=by
  rintro cl k ⟨f,hf,hc⟩ hno
  have hF:=np hM hC hQ (List.mem_of_mem_take (FZ hf))
  have hCf:C f.f.toNat f.block.toNat:=by
   by_cases h:C f.f.toNat f.block.toNat
   ·exact h
   ·exact absurd ⟨f,hf,(oz hM hC hF w cl).2 ⟨h,hc⟩⟩ hno
  have hk:=(FP.1 hf).1
  have hk:k<s.stack.length-1:=by simp at hk;omega
  rw[List.getElem?_take,if_pos hk]at hf
  obtain⟨g,hg⟩:∃g,s.stack[k+1]? = some g:=⟨_,FQ (by omega)⟩
  have hng:¬Thr m g.f.toNat:=by
   obtain⟨u2,u',b2,b',hu2,_,hb2,_,hB,_⟩:=md hM hC hF
   obtain⟨u,b,p,hu,hb,hat,h4,_⟩:=hc
   rw[hu]at hu2
   cases hu2
   rw[hb]at hb2
   cases hb2
   rcases hB with⟨h,_⟩|⟨_,_,h,_⟩
   ·exact absurd hCf h
   ·obtain⟨u3,b3,hu3,hb3,⟨_,_,he⟩|⟨hne,_⟩⟩:=hQ.st.2 k f g hf hg
    ·rw[hu]at hu3
     cases hu3
     rw[hb]at hb3
     cases hb3
     rw[<-he]
     exact hX _ _ h
    ·rw[hu]at hu3
     cases hu3
     rw[hb]at hb3
     cases hb3
     exact absurd hat hne
  rcases C7 hM hC hX hQ ht h0 w (s.stack.length-1-(k+1)) (k+1) g (by omega) hg with h|⟨j',f',a,b,hf',hn',hc'⟩
  ·exact absurd h hng
  ·exact⟨j',by omega,b,f',by rw[List.getElem?_take,if_pos b];exact hf',(oz hM hC (np hM hC hQ (FZ hf')) w false).2 ⟨hn',hc'⟩⟩
 have ex:(∃i,aV n (s.stack.take (s.stack.length-1)) w false i) ↔ ∃i,aV m (s.stack.take (s.stack.length-1)) w false i:=by
  constructor
  ·rintro⟨i,h⟩;exact⟨i,sub _ _ h⟩
  ·rintro⟨i,h⟩
   by_cases hn:aV n (s.stack.take (s.stack.length-1)) w false i
   ·exact⟨i,hn⟩
   ·obtain⟨k',_,_,h'⟩:=more _ _ h hn
    exact⟨k',h'⟩
 have la:d8 (aV n (s.stack.take (s.stack.length-1)) w true) (s.stack.length-1)=d8 (aV m (s.stack.take (s.stack.length-1)) w true) (s.stack.length-1):=by
  refine wO (sub true) fun k _ hq hp=>?_
  obtain⟨k',a,b,f,hf,hc⟩:=more _ _ hq hp
  exact⟨k',a,b,f,hf,hc.more⟩
 unfold bI
 rw[la]
 by_cases hex:∃i,aV m (s.stack.take (s.stack.length-1)) w false i
 ·rw [if_pos hex, if_pos (ex.2 hex)]
  cases hk:d8 (aV m (s.stack.take (s.stack.length-1)) w true) (s.stack.length-1)with
  | none=>rfl
  | some k =>
   simp only
   cases hs:s.stack[k]? with
   | none=>rfl
   | some f =>
    simp only
    rw[hk]at la
    obtain⟨⟨f2,hf2,hc⟩,hlt⟩:=oa la
    rw[List.getElem?_take,if_pos hlt,hs]at hf2
    cases hf2
    have hF:=np hM hC hQ (FZ hs)
    obtain⟨hn,hcm⟩:=(oz hM hC hF w true).1 hc
    obtain⟨u,u',b,b',hu,hu',hb,hb',hB,hall,_⟩:=md hM hC hF
    obtain⟨v,c,p,g1,g2,_,g4,_⟩:=hcm
    rw[hu]at g1
    cases g1
    rw[hb]at g2
    cases g2
    have e:b'=b:=by
     rcases hB with⟨_,e⟩|⟨h,_⟩
     ·exact e
     ·exact absurd h hn
    obtain⟨hp0,pb,hpb,hld⟩:=nJ hM hu hb g4
    obtain⟨p',hp',e1,e2⟩:=hall _ pb hpb
    have P1:qj m f=b.fin.pad:=by simp[qj,hu,hb]
    have P2:qj n f=b.fin.pad:=by simp[qj,hu',hb',e]
    have L1:im m f b.fin.pad w=some ⟨f.f,b.fin.pad,0,f.regs.set pb.pad.dst.toNat w,w⟩:=by simp[im,hu,hp0,hpb,hld]
    have L2:im n f b.fin.pad w=some ⟨f.f,b.fin.pad,0,f.regs.set pb.pad.dst.toNat w,w⟩:=by simp[im,hu',hp0,hp',e1,e2,hld]
    rw[P1,P2,L1,L2]
 ·rw[if_neg hex,if_neg fun h=>hex (ex.1 h)]
theorem pT {s:DMach} {c regs:Int} {places:List Int} (hn:jf m.funcs regs c places):bQ n s c places=bQ m s c places:=by
 obtain⟨h0,u,hu,hul,_⟩:=hn
 obtain⟨u',hu',hp,hr,_⟩:=hC.here _ u hu
 unfold bQ
 split
 ·rfl
 ·cases ht:jT s with
  | none=>rfl
  | some f =>
   simp only
   have hwl:(bY f.regs places).length=places.length:=by simp[bY]
   have N1:ij m c (bY f.regs places)=some ⟨c,0,0,(bY f.regs places).take u.regs.toNat++List.replicate (u.regs.toNat-(bY f.regs places).length) 0,0⟩:=by simp[ij,h0,hu,hwl,hul]
   have N2:ij n c (bY f.regs places)=some ⟨c,0,0,(bY f.regs places).take u.regs.toNat++List.replicate (u.regs.toNat-(bY f.regs places).length) 0,0⟩:=by simp[ij,h0,hu',hp,hr,hwl,hul]
   rw[N1,N2]
theorem xD {s:DMach} (hd:s.done=0) (hQ:db m s) (w:Int):aK n s w=aK m s w\/(aI n (aK n s w)=aK m s w/\ln (aK n s w) (aK m s w)):=by
 unfold aK
 cases hs:s.stack[s.stack.length-2]? with
 | none=>exact .inl rfl
 | some f =>
  simp only
  by_cases h1':s.stack.length<=1
  ·rw[if_pos h1',if_pos h1'];exact .inl rfl
  rw[if_neg h1',if_neg h1']
  have hF:=np hM hC hQ (FZ hs)
  obtain⟨u,u',b,b',hu,hu',hb,hb',hB,hall,ha0,ha1⟩:=md hM hC hF
  have B1:bg m f=some b:=by simp[bg,hu,hb]
  have B2:bg n f=some b':=by simp[bg,hu',hb']
  rw[B1,B2]
  simp only
  rcases hB with⟨_,e⟩|⟨_,h4,_,e⟩
  ·rw[e];exact .inl rfl
  subst e
  have hlen:(bz b).ins.length=b.ins.length+1:=by simp[bz]
  by_cases hat:f.at_=b.ins.length
  ·have hat':¬f.at_=(bz b).ins.length:=by rw[hlen];omega
   rw[if_pos hat,if_neg hat']
   have hx:(bz b).ins[f.at_.toNat]? = some ⟨11,b.fin.dst,0,0,0,b.fin.f,b.fin.args⟩:=by
    rw[hat]
    simp[bz]
   rw[hx]
   simp only
   refine .inr ⟨?_,⟨rfl,rfl,rfl⟩⟩
   have h64:b.ins.length<=64:=(j6 hM hu hb).1
   have hw1:IntKind.i64.wrap (f.at_+1)=f.at_+1:=IntWalk.i64_in _ ⟨by omega,by omega⟩
   have hT:∀g:DFrame,jT (bJ { s with stack:=s.stack.take (s.stack.length-1) } g)=some g:=fun g=>by simp[jT,bJ]
   have hB3:bg n (upF (iW f b.fin.dst w))=some (bz b):=B2
   have hat3:(upF (iW f b.fin.dst w)).at_=(bz b).ins.length:=by
    show IntKind.i64.wrap (f.at_+1)=_
    rw[hw1,hlen,hat]
    rfl
   unfold aI
   have hdn:¬ ¬(bJ { s with stack:=s.stack.take (s.stack.length-1) } (upF (iW f b.fin.dst w))).done=0:=fun h=>h hd
   rw[if_neg hdn,hT]
   simp only
   rw[hB3]
   simp only
   have k2:(bz b).fin.kind=2:=rfl
   rw[if_pos hat3,k2,if_neg (by decide:¬(2:Int)=1),if_neg (by decide:¬(2:Int)=4),if_neg (by decide:¬(2:Int)=5),if_neg (by decide:¬(2:Int)=6),if_neg fun h=>absurd h.1 (by decide:¬(2:Int)=3)]
   simp[bJ,upF,iW,bz]
  ·have hat':¬f.at_=(bz b).ins.length\/f.at_=(bz b).ins.length:=(Decidable.em _).symm
   have hlt:f.at_.toNat<b.ins.length:=by omega
   have hat':¬f.at_=(bz b).ins.length:=by rw[hlen];omega
   rw[if_neg hat,if_neg hat']
   have hx:(bz b).ins[f.at_.toNat]? = b.ins[f.at_.toNat]? := by
    show(b.ins++_)[f.at_.toNat]? = _
    rw[F3 hlt]
   rw[hx]
   exact .inl rfl
theorem CG {s : DMach} (hQ : db m s) : aI n s = aI m s ∨ (aI n (aI n s) = aI m s ∧ ln (aI n s) (aI m s)) ∨ ∃ w f0, s.done = 0 ∧ jT s = some f0 ∧ Thr m f0.f.toNat ∧ aI m s = bI m s w ∧ aI n s = bI n s w := by
  by_cases hd:¬s.done=0
  · rw[jI hd,jI hd];exact .inl rfl
  have hd:s.done=0:=Decidable.not_not.1 hd
  cases ht:jT s with
  | none =>
    have:∀k,aI k s=s:=fun k=>by unfold aI;rw[if_neg (fun h=>h hd),ht]
    rw[this,this];exact .inl rfl
  | some f =>
    have hF:=np hM hC hQ (FZ ht)
    obtain⟨u,u',b,b',hu,hu',hb,hb',hB,hall,ha0,ha1⟩:=md hM hC hF
    have B1:bg m f=some b:=by simp[bg,hu,hb]
    have B2:bg n f=some b':=by simp[bg,hu',hb']
    have hE:=oC hM hu hb
    have S1 : ∀ {k : DMod} {c : DBlock}, bg k f = some c → aI k s = if f.at_ = c.ins.length then
        (if c.fin.kind = 1 then aK k s (reg f c.fin.a) else
         if c.fin.kind=4 then bQ k s c.fin.f c.fin.args else
         if c.fin.kind=5 then bI k s (reg f c.fin.a)else
         if c.fin.kind=6 then bI k s f.fly else
         if c.fin.kind=3/\reg f c.fin.a=0 then bJ s { f with block:=c.fin.els,at_:=0 }else bJ s { f with block:=c.fin.to,at_:=0 })
      else match c.ins[f.at_.toNat]? with
        | none=>s
        | some x=>fP k s f x:=fun{k c} h=>by
      unfold aI
      rw[if_neg (fun h=>h hd),ht]
      simp only
      rw[h]
      rfl
    have I1:∀{x:DIns},b.ins[f.at_.toNat]? = some x->fP n s f x=fP m s f x:=fun{x} hx=>by
      have hI:=ri hM hu hb hx
      unfold fP
      by_cases c11:x.op=11
      · have hc := hI.2.2.2.2.2
        rw[c11]at hc
        rw[if_pos c11,if_pos c11]
        exact pT hM hC (hc.1 rfl)
      · rw[if_neg c11,if_neg c11]
    rcases hB with⟨_,e⟩|⟨_,h4,_,e⟩
    · subst e
      by_cases hat:f.at_=b'.ins.length
      · by_cases k1 : b'.fin.kind = 1
        · have e1 : aI n s = aK n s (reg f b'.fin.a) := by rw [S1 B2, if_pos hat, if_pos k1]
          have e2:aI m s=aK m s (reg f b'.fin.a):=by rw[S1 B1,if_pos hat,if_pos k1]
          rw[e1,e2]
          exact(xD hM hC hd hQ _).imp id .inl
        by_cases k5:b'.fin.kind=5
        · refine .inr (.inr ⟨reg f b'.fin.a, f, hd, rfl, .thr hu hb (.inl k5), ?_, ?_⟩)
          · rw[S1 B1,if_pos hat,if_neg k1,if_neg (by omega),if_pos k5]
          · rw[S1 B2,if_pos hat,if_neg k1,if_neg (by omega),if_pos k5]
        by_cases k6:b'.fin.kind=6
        · refine .inr (.inr ⟨f.fly, f, hd, rfl, .thr hu hb (.inr k6), ?_, ?_⟩)
          · rw[S1 B1,if_pos hat,if_neg k1,if_neg (by omega),if_neg k5,if_pos k6]
          · rw[S1 B2,if_pos hat,if_neg k1,if_neg (by omega),if_neg k5,if_pos k6]
        refine .inl ?_
        rw[S1 B2,S1 B1,if_pos hat,if_pos hat,if_neg k1,if_neg k1]
        by_cases k4:b'.fin.kind=4
        · rw [if_pos k4, if_pos k4]
          have hc:=hE.2.2.2.1
          rw[k4]at hc
          exact pT hM hC (hc.1 rfl)
        rw[if_neg k4,if_neg k4,if_neg k5,if_neg k5,if_neg k6,if_neg k6]
      · refine .inl ?_
        rw[S1 B2,S1 B1,if_neg hat,if_neg hat]
        cases hx:b'.ins[f.at_.toNat]? with
        | none=>rfl
        | some x=>exact I1 hx
    · subst e
      have hlen:(bz b).ins.length=b.ins.length+1:=by simp[bz]
      refine .inl ?_
      have hat':¬f.at_=(bz b).ins.length:=by rw[hlen];omega
      rw[S1 B2,S1 B1,if_neg hat']
      by_cases hat:f.at_=b.ins.length
      · have hx : (bz b).ins[f.at_.toNat]? = some ⟨11, b.fin.dst, 0, 0, 0, b.fin.f, b.fin.args⟩ := by
          rw[hat]
          simp[bz]
        have hc:=hE.2.2.2.1
        rw[h4]at hc
        rw[hx,if_pos hat,if_neg (by omega),if_pos h4]
        simp only
        unfold fP
        rw[if_pos rfl]
        exact pT hM hC (hc.1 rfl)
      · have hlt : f.at_.toNat < b.ins.length := by omega
        have hx:(bz b).ins[f.at_.toNat]? = b.ins[f.at_.toNat]? := by
          show(b.ins++_)[f.at_.toNat]? = _
          rw[F3 hlt]
        rw[hx,if_neg hat]
        cases hx2:b.ins[f.at_.toNat]? with
        | none=>rfl
        | some x=>exact I1 hx2
theorem Ey (hX:∀u b,X u b->¬Thr m b.fin.f.toNat) {s:DMach} (hQ:db m s):aI n s=aI m s\/(aI n (aI n s)=aI m s/\ln (aI n s) (aI m s)):=by
 rcases CG hM hC hQ with h|h|⟨w,f0,_,ht,h0,e1,e2⟩
 ·exact .inl h
 ·exact .inr h
 ·exact .inl (by rw[e1,e2];exact Bu hM hC hX hQ ht h0 w)
end
end Go.Ab.C14
end
section
set_option maxRecDepth 10000
namespace Go.Ab
def jZ (F:List DBlock->DBlock->DBlock) (m:DMod):DMod:=⟨m.funcs.map fun u=>{ u with blocks:=u.blocks.map (F u.blocks) }⟩
end Go.Ab
namespace Go.Ab.C14
open Go Go.Ab Go.Proofs
section
variable {F:DBlock->DBlock}
theorem DY (hl:∀b,(F b).landing=b.landing) {bs:List DBlock} {n:Int} {l:Bool} (h:dk bs n l):dk (bs.map F) n l:=by
 obtain⟨h0,b,hb,h1⟩:=h
 exact⟨h0,F b,by simp[hb],by rw[hl];exact h1⟩
theorem pn (hl:∀b,(F b).landing=b.landing) {u:Bool} {bs:List DBlock} {n:Int} {l:Bool} (h:je u bs n l):je u (bs.map F) n l:=⟨fun hu=>DY hl (h.1 hu),h.2⟩
end
theorem DI {fs:List DFunc} {regs t:Int} {bs:List DBlock} (h:dk bs t false):nl fs regs bs ⟨2,0,0,0,[],t,0,0⟩:=by
 have e1:has (dm 2) 1=true:=by kernel_rfl
 have no:∀{b:Bool} {P:Prop},has (dm 2) 4=false/\has (dm 2) 2=false/\has (dm 2) 32=false/\has (dm 2) 128=false/\has (dm 2) 256=false:=⟨by kernel_rfl,by kernel_rfl,by kernel_rfl,by kernel_rfl,by kernel_rfl⟩
 obtain⟨n4,n2,n32,n128,n256⟩:=no (b:=true) (P:=True)
 have f:∀{x:Bool},x=false->x=true->False:=fun h1 h2=>by rw[h1]at h2;cases h2
 have e64:has (dm 2) 64=true:=by kernel_rfl
 exact⟨e1,⟨fun h=>(f n4 h).elim,fun _=>rfl⟩,⟨fun h=>(f n2 h).elim,fun _=>rfl⟩,⟨fun h=>(f n32 h).elim,fun _=>⟨rfl,rfl⟩⟩,⟨fun _=>h,fun h2=>(f h2 e64).elim⟩,⟨fun h=>(f n128 h).elim,fun _=>rfl⟩,⟨fun h=>(f n256 h).elim,fun _=>rfl⟩⟩
section
variable {m:DMod} {F:List DBlock->DBlock->DBlock}
theorem B6 {regs n:Int} {l:List Int} (h:jf m.funcs regs n l):jf (jZ F m).funcs regs n l:=by
 obtain⟨h0,g,hg,h1,h2⟩:=h
 exact⟨h0,{ g with blocks:=g.blocks.map (F g.blocks) },by simp[jZ,hg],h1,h2⟩
theorem tJ {u:Bool} {regs n:Int} {l:List Int} (h:jU u m.funcs regs n l):jU u (jZ F m).funcs regs n l:=⟨fun hu=>B6 (h.1 hu),h.2⟩
theorem Cg {regs:Int} {x:DIns} (h:li m.funcs regs x):li (jZ F m).funcs regs x:=⟨h.1,h.2.1,h.2.2.1,h.2.2.2.1,h.2.2.2.2.1,tJ h.2.2.2.2.2⟩
theorem Be (hl:∀bs b,(F bs b).landing=b.landing) {regs:Int} {bs:List DBlock} {x:DEnd} (h:nl m.funcs regs bs x):nl (jZ F m).funcs regs (bs.map (F bs)) x :=
 ⟨h.1,h.2.1,h.2.2.1,tJ h.2.2.2.1,pn (hl bs) h.2.2.2.2.1,pn (hl bs) h.2.2.2.2.2.1,pn (hl bs) h.2.2.2.2.2.2⟩
theorem Bo (hM:cF m) (hl:∀bs b,(F bs b).landing=b.landing) (hp:∀bs b,(F bs b).pad=b.pad)
  (hb:∀(fs:List DFunc) (regs:Int) (bs:List DBlock) (b:DBlock),i7 fs regs bs b->(F bs b).ins.length<=64/\(∀(i:Nat) (x:DIns),(F bs b).ins[i]? = some x->li fs regs x)/\nl fs regs bs (F bs b).fin):cF (jZ F m):=by
 obtain⟨h1,⟨f0,hf0,hz⟩,h2⟩:=hM
 refine⟨by simpa[jZ]using h1,⟨{ f0 with blocks:=f0.blocks.map (F f0.blocks) },by simp[jZ,hf0],hz⟩,fun i hi f hf=>?_⟩
 have hi':i<m.funcs.length:=by simpa[jZ]using hi
 have hg:m.funcs[i]? = some m.funcs[i]:=FQ hi'
 generalize m.funcs[i]=g at hg
 have hf':f={ g with blocks:=g.blocks.map (F g.blocks) }:=by
  simp[jZ,hg]at hf
  exact hf.symm
 subst hf'
 obtain⟨a1,a2,⟨b0,hb0,hl0⟩,a3⟩:=h2 i hi' g hg
 refine⟨a1,by simpa using a2,⟨F g.blocks b0,by simp[hb0],by rw[hl];exact hl0⟩,fun j hj c hc=>?_⟩
 have hj':j<g.blocks.length:=by simpa using hj
 have hcb:g.blocks[j]? = some g.blocks[j]:=FQ hj'
 generalize g.blocks[j]=b at hcb
 have hc':c=F g.blocks b:=by simp[hcb]at hc;exact hc.symm
 subst hc'
 have hB:=a3 j hj' b hcb
 obtain⟨c1,c2,c3⟩:=hb _ _ _ b hB
 refine⟨c1,?_,fun i _ x hx=>Cg (c2 i x hx),Be hl c3⟩
 rw[hl,hp]
 exact hB.2.1
end
theorem DV {fs:List DFunc} {regs d n:Int} {l:List Int} (h:within d regs) (ha:jf fs regs n l):li fs regs ⟨11,d,0,0,0,n,l⟩:=by
 have e1:has (ei 11) 1=true:=by kernel_rfl
 have e2:has (ei 11) 2=true:=by kernel_rfl
 have e4:has (ei 11) 4=false:=by kernel_rfl
 have e8:has (ei 11) 8=false:=by kernel_rfl
 have e32:has (ei 11) 32=true:=by kernel_rfl
 have f:∀{x:Bool},x=false->x=true->False:=fun h1 h2=>by rw[h1]at h2;cases h2
 exact⟨e1,⟨fun _=>h,fun h2=>(f h2 e2).elim⟩,⟨fun h2=>(f e4 h2).elim,fun _=>rfl⟩,⟨fun h2=>(f e8 h2).elim,fun _=>rfl⟩,.inr rfl,⟨fun _=>ha,fun h2=>(f h2 e32).elim⟩⟩
theorem AE {m:DMod} {F:List DBlock->DBlock->DBlock} {i:Nat} {u:DFunc} (hu:m.funcs[i]? = some u):(jZ F m).funcs[i]? = some { u with blocks:=u.blocks.map (F u.blocks) }:=by simp[jZ,hu]
theorem map_at {G:DBlock->DBlock} {l:List DBlock} {j:Nat} {b:DBlock} (hb:l[j]? = some b):(l.map G)[j]? = some (G b):=by simp[hb]
theorem B4 {fs:List DFunc} {regs:Int} {bs:List DBlock} {b:DBlock} (hB:i7 fs regs bs b) (h4:b.fin.kind=4) (hlen:b.ins.length<64):(bz b).ins.length<=64/\(∀(i:Nat) (x:DIns),(bz b).ins[i]? = some x->li fs regs x)/\nl fs regs bs (bz b).fin:=by
 have hE:=hB.2.2.2
 have hc:=hE.2.2.2.1
 have hd:=hE.2.2.1
 have hto:=hE.2.2.2.2.1.1
 rw[h4]at hc hd hto
 refine⟨by simp[bz];omega,fun i x hx=>?_,DI (hto rfl)⟩
 have hx:(b.ins ++ [⟨11,b.fin.dst,0,0,0,b.fin.f,b.fin.args⟩])[i]? = some x:=hx
 by_cases hi:i<b.ins.length
 ·rw[F3 hi]at hx
  exact hB.2.2.1 i hi x hx
 ·rw[F4 (by omega)]at hx
  have hi2:=(FP.1 hx).1
  have hi0:i-b.ins.length=0:=by simp at hi2;omega
  rw[hi0]at hx
  cases hx
  exact DV (hd.1 rfl) (hc.1 rfl)
open Classical in
noncomputable def cf (m:DMod):DMod:=jZ (fun _ b=>if b.fin.kind=4/\¬Thr m b.fin.f.toNat/\b.ins.length<64 then bz b else b) m
theorem BJ {m:DMod} (hM:cF m):cF (cf m):=by
 refine Bo hM (fun bs b=>?_) (fun bs b=>?_) fun fs regs bs b hB=>?_
 ·split<;>rfl
 ·split<;>rfl
 ·split
  ·rename_i h
   exact B4 hB h.1 h.2.2
  ·exact⟨hB.1,fun i x hx=>hB.2.2.1 i (FP.1 hx).1 x hx,hB.2.2.2⟩
theorem tI {m:DMod}:Du m (cf m) (fun i j=>∃u b,m.funcs[i]? = some u/\u.blocks[j]? = some b/\b.fin.kind=4/\¬Thr m b.fin.f.toNat/\b.ins.length<64) fun _ b=>¬Thr m b.fin.f.toNat:=by
 refine⟨fun i u hu=>⟨_,AE hu,rfl,rfl,fun j b hb=>⟨_,map_at hb,?_⟩⟩⟩
 by_cases h:b.fin.kind=4/\¬Thr m b.fin.f.toNat/\b.ins.length<64
 ·exact .inr ⟨⟨u,b,hu,hb,h⟩,h.1,h.2.1,if_pos h⟩
 ·refine .inl ⟨?_,if_neg h⟩
  rintro⟨u2,b2,hu2,hb2,h2⟩
  rw[hu]at hu2
  cases hu2
  rw[hb]at hb2
  cases hb2
  exact h h2
end Go.Ab.C14
end
section
set_option maxRecDepth 10000
namespace Go.Ab
theorem kG {l m:List Int}:l <+: m ↔ l.length<=m.length/\l=m.take l.length :=
 ⟨fun h=>⟨h.length_le,List.prefix_iff_eq_take.1 h⟩,fun h=>List.prefix_iff_eq_take.2 h.2⟩
theorem Ft {a b:Nat} (h:a*b<=9223372036854775807):pbin (.int .i64) .mul (I (a:Int)) (I (b:Int))=some (I ((a*b:Nat):Int)):=by
 have h1:((a:Int)*(b:Int))=((a*b:Nat):Int):=by simp
 show some (TV.lit (.int .i64 (IntKind.i64.wrap ((a:Int)*(b:Int)))))=_
 rw[h1,IntWalk.i64_in _ ⟨by omega,by omega⟩]
end Go.Ab
namespace Go.Ab.C14
open Go Go.Ab Go.Proofs
section
variable {m n:DMod} (hM:cF m) (hkeep:∀s,db m s->db m (aI m s)) {l:List Int} (hQ:db m (fy m l))
include hM hkeep hQ
theorem D6 {C:Nat->Nat->Prop} (hC:Du m n C fun _ b=>¬Thr m b.fin.f.toNat) (fuel:Nat):vP (lS m (fy m l)) (lS n (fy n l)) fuel 2:=by
 have e:fy n l=fy m l:=CD hM (fun u hu=>by obtain⟨u',a,b,c,_⟩:=hC.here 0 u hu;exact⟨u',a,b,c⟩) l
 rw[e,funext fun k=>u7 m k (fy m l),funext fun k=>u7 n k (fy m l)]
 exact twice (I:=db m) hkeep (fun s hs=>Ey hM hC (fun _ _ h=>h) hs) hQ fuel
end
theorem Bw {e e':List TV} {x:TV} {m n:DMod} {l:List Int} (he:RMod (some false) e m) (he':RMod (some false) e' n) (hM:cF m) (hM':cF n) (hx:RWords (some false) x l) {fuel times:Nat} (hf:fuel<=255) (ht:times<=20) (hk:vP (lS m (fy m l)) (lS n (fy n l)) fuel times) :
  aj prog 19 [.agg e,.agg e',x,I (fuel:Int),I (times:Int)] (B true):=by
 have hft:fuel*times<=255*20:=Nat.mul_le_mul hf ht
 obtain⟨e1,r1,h1⟩:=C1 (fuel:=fuel) he hM hx (by omega)
 obtain⟨e2,r2,h2⟩:=C1 (fuel:=fuel*times) he' hM' hx (by omega)
 obtain⟨e3,r3,h3⟩:=C1 (fuel:=fuel*20) he hM hx (by omega)
 have mul1:=Ft (a:=fuel) (b:=times) (by omega)
 have mul2:pbin (.int .i64) .mul (I (fuel:Int)) (I 20)=some (I ((fuel*20:Nat):Int)):=Ft (a:=fuel) (b:=20) (by omega)
 obtain⟨k1,k2⟩:=hk
 generalize lS m (fy m l) fuel=s at h1 k1 k2
 generalize lS n (fy n l) (fuel*times)=t at h2 k1 k2
 generalize lS m (fy m l) (fuel*20)=u at h3 k2
 have f1:=h1.fit
 have f2:=h2.fit
 have f3:=h3.fit
 obtain⟨_,rfl,_⟩:=id he
 obtain⟨_,rfl,_⟩:=id he'
 obtain⟨g1,i1,v1,rfl,hg1,hi1,hv1,ho1⟩:=h1
 obtain⟨g2,i2,v2,rfl,hg2,hi2,hv2,ho2⟩:=h2
 obtain⟨g3,i3,v3,rfl,hg3,hi3,hv3,ho3⟩:=h3
 have z1:=RMach.frz' hg1 hi1 hv1 ho1
 have z2:=RMach.frz' hg2 hi2 hv2 ho2
 have z3:=RMach.frz' hg3 hi3 hv3 ho3
 have t12:=Fu z1 z2
 have t23:=Fu z2 z3
 have w1:=hv1.frz (S:=RI1) fun _ _ h=>h.frz
 have w2:=hv2.frz (S:=RI1) fun _ _ h=>h.frz
 have w3:=hv3.frz (S:=RI1) fun _ _ h=>h.frz
 have b12:=wh w1 w2
 have b23:=wh w2 w3
 have b32:=wh w3 w2
 refine aj.of (f19_MR _ _ _ _ _) ?_
 unfold f19_M
 refine aa.chk rfl (aa.chk rfl (aa.call r1 (aa.chk f1 (aa.tv mul1 (aa.call r2 (aa.chk f2 (aa.tv rfl (aa.ite rfl (fun h=>?_) fun h=>?_))))))))
 ·have hd:¬s.done=0:=by simpa[TV.cell,nth,ar]using h
  rw[bp (show s.events=t.events/\s.done=t.done/\s.value=t.value from k1 hd)]at t12
  exact aa.call t12 (aa.chk rfl aa.ret)
 ·have hd:s.done=0:=by simpa[TV.cell,nth,ar]using h
  obtain⟨p1,p2,p3⟩:=k2 hd
  rw[bp (kG.1 p1)]at b12
  refine aa.call b12 (aa.chk rfl (aa.tv rfl (aa.ite (v:=false) rfl nofun fun _=>aa.tv mul2 (aa.call r3 (aa.chk f3 ?_)))))
  have last:¬(¬t.done=0/\¬u.done=0)->aa prog 19 (Prg.call 39 [frz v2,frz v3] fun v12=>Prg.chk (ab am [v12] 0) (Prg.ite (asBool v12) (Prg.ret (B true)) (Prg.tv (pbin (.int .i64) .eql (I u.done) (I 0)) fun v13=>Prg.ite (asBool v13) (Prg.call 39 [frz v3,frz v2] fun v14=>Prg.chk (ab am [v14] 0) (Prg.ret v14)) (Prg.ret (B false))))) (B true):=by
   intro hn
   by_cases hp:t.events <+: u.events
   ·rw[bp (kG.1 hp)]at b23
    exact aa.call b23 (aa.chk rfl (aa.ite (v:=true) rfl (fun _=>aa.ret) nofun))
   ·obtain⟨hd3,hp3⟩:=(p3 hn).resolve_left hp
    rw[ck fun h=>hp (kG.2 h)]at b23
    rw[bp (kG.1 hp3)]at b32
    exact aa.call b23 (aa.chk rfl (aa.ite (v:=false) rfl nofun fun _=>aa.tv rfl (aa.ite (v:=true) (by rw[hd3];rfl) (fun _=>aa.call b32 (aa.chk rfl aa.ret)) nofun)))
  refine aa.tv rfl (aa.ite rfl (fun h=>?_) fun h=>?_)
  ·have hd2:¬t.done=0:=by simpa[TV.cell,nth,ar]using h
   refine aa.tv rfl (aa.ite rfl (fun h=>?_) fun h=>?_)
   ·have hd3:¬u.done=0:=by simpa[TV.cell,nth,ar]using h
    rw[bp (show t.events=u.events/\t.done=u.done/\t.value=u.value from p2 ⟨hd2,hd3⟩)]at t23
    exact aa.call t23 (aa.chk rfl aa.ret)
   ·have hd3:u.done=0:=by simpa[TV.cell,nth,ar]using h
    refine f19_0_J ?_
    unfold f19_0
    exact last fun h=>h.2 hd3
  ·have hd2:t.done=0:=by simpa[TV.cell,nth,ar]using h
   refine f19_0_J ?_
   unfold f19_0
   exact last fun h=>h.1 hd2
end Go.Ab.C14
end
section
set_option maxRecDepth 10000
namespace Go.Ab.C14
open Go Go.Ab Go.Proofs
section
variable {m:DMod}
open Classical in
theorem l8 {i j:Nat} {u:DFunc} {b:DBlock} (hu:(cf m).funcs[i]? = some u) (hb:u.blocks[j]? = some b):∃v c,m.funcs[i]? = some v/\v.blocks[j]? = some c/\(∀(q:Nat),(u.blocks[q]?).map DBlock.pad=(v.blocks[q]?).map DBlock.pad) /\
  ((b=c/\¬(c.fin.kind=4/\¬Thr m c.fin.f.toNat/\c.ins.length<64))\/(b=bz c/\c.fin.kind=4/\¬Thr m c.fin.f.toNat)):=by
 have hi:i<m.funcs.length:=by
  have:=(FP.1 hu).1
  simpa[cf,jZ]using this
 have hv:m.funcs[i]? = some m.funcs[i]:=FQ hi
 generalize m.funcs[i]=v at hv
 have:=AE (F:=fun _ b=>if b.fin.kind=4/\¬Thr m b.fin.f.toNat/\b.ins.length<64 then bz b else b) hv
 have hu2:(cf m).funcs[i]? = _:=this
 rw[hu]at hu2
 cases hu2
 rw[FW]at hb
 cases hc:v.blocks[j]? with
 | none=>rw[hc]at hb;cases hb
 | some c =>
  rw[hc]at hb
  have hb:(if c.fin.kind=4/\¬Thr m c.fin.f.toNat/\c.ins.length<64 then bz c else c)=b:=Option.some.inj hb
  refine⟨v,c,hv,hc,fun q=>?_,?_⟩
  ·rw[FW,Option.map_map]
   congr 1
   funext d
   simp only[Function.comp]
   split<;>rfl
  ·by_cases h:c.fin.kind=4/\¬Thr m c.fin.f.toNat/\c.ins.length<64
   ·rw[if_pos h]at hb
    exact .inr ⟨hb.symm,h.1,h.2.1⟩
   ·rw[if_neg h]at hb
    exact .inl ⟨hb.symm,h⟩
theorem rR {k:Nat}:Thr (cf m) k ↔ Thr m k:=by
 constructor
 ·intro h
  induction h with
  | thr hu hb h =>
   obtain⟨v,c,hv,hc,_,⟨rfl,_⟩|⟨rfl,_⟩⟩:=l8 hu hb
   ·exact .thr hv hc h
   ·exact absurd h (by show ¬((2:Int)=5\/(2:Int)=6);decide)
  | @inv n i u b pb hu hb h hp ha _ ih =>
   obtain⟨v,c,hv,hc,hpad,⟨rfl,_⟩|⟨rfl,_⟩⟩:=l8 hu hb
   ·have:=hpad b.fin.pad.toNat
    rw[hp]at this
    cases hq:v.blocks[b.fin.pad.toNat]? with
    | none=>rw[hq]at this;cases this
    | some q =>
     rw[hq]at this
     have e:pb.pad=q.pad:=Option.some.inj this
     exact .inv hv hc h hq (by rw[<-e];exact ha) ih
   ·exact absurd h (by show ¬(2:Int)=4;decide)
  | @call n i j u b x hu hb hx h11 _ ih =>
   obtain⟨v,c,hv,hc,_,⟨rfl,_⟩|⟨rfl,h4,hno⟩⟩:=l8 hu hb
   ·exact .call hv hc hx h11 ih
   ·have hx:(c.ins ++ [⟨11,c.fin.dst,0,0,0,c.fin.f,c.fin.args⟩])[j]? = some x:=hx
    by_cases hj:j<c.ins.length
    ·rw[F3 hj]at hx
     exact .call hv hc hx h11 ih
    ·rw[F4 (by omega)]at hx
     have h2:=(FP.1 hx).1
     have h0:j-c.ins.length=0:=by simp at h2;omega
     rw[h0]at hx
     cases hx
     exact absurd ih hno
 ·intro h
  have there:∀{i j:Nat} {u:DFunc} {b:DBlock},m.funcs[i]? = some u->u.blocks[j]? = some b->∃u' b',(cf m).funcs[i]? = some u'/\u'.blocks[j]? = some b'/\b'.pad=b.pad/\(b.fin.kind=4->Thr m b.fin.f.toNat->b'=b)/\(b.fin.kind≠4->b'=b)/\∀(q:Nat) x,b.ins[q]? = some x->b'.ins[q]? = some x:=by
   intro i j u b hu hb
   obtain⟨u',hu',_,_,hall⟩:=tI.here i u hu
   obtain⟨b',hb',h⟩:=hall j b hb
   rcases h with⟨_,e⟩|⟨_,h4,hno,e⟩
   ·exact⟨u',b',hu',hb',by rw[e],fun _ _=>e,fun _=>e,fun q x hq=>by rw[e];exact hq⟩
   ·refine⟨u',b',hu',hb',by rw[e];rfl,fun _ ht=>absurd ht hno,fun h=>absurd h4 h,fun q x hq=>?_⟩
    rw[e]
    show(b.ins++_)[q]? = some x
    rw[F3 (FP.1 hq).1]
    exact hq
  induction h with
  | thr hu hb h =>
   obtain⟨u',b',hu',hb',_,_,e,_⟩:=there hu hb
   have e:=e (by omega)
   subst e
   exact .thr hu' hb' h
  | inv hu hb h hp ha ht ih =>
   obtain⟨u',b',hu',hb',_,e,_,_⟩:=there hu hb
   have e:=e h ht
   subst e
   obtain⟨u2,pb',hu2,hpb',ep,_⟩:=there hu hp
   rw[hu']at hu2
   cases hu2
   exact .inv hu' hb' h hpb' (by rw[ep];exact ha) ih
  | call hu hb hx h11 _ ih =>
   obtain⟨u',b',hu',hb',_,_,_,hi⟩:=there hu hb
   exact .call hu' hb' (hi _ _ hx) h11 ih
open Classical in
theorem zc:cf (cf m)=cf m:=by
 have key:∀b:DBlock,(if(if b.fin.kind=4/\¬Thr m b.fin.f.toNat/\b.ins.length<64 then bz b else b).fin.kind=4/\¬Thr (cf m) (if b.fin.kind=4/\¬Thr m b.fin.f.toNat/\b.ins.length<64 then bz b else b).fin.f.toNat/\(if b.fin.kind=4/\¬Thr m b.fin.f.toNat/\b.ins.length<64 then bz b else b).ins.length<64 then bz (if b.fin.kind=4/\¬Thr m b.fin.f.toNat/\b.ins.length<64 then bz b else b)else(if b.fin.kind=4/\¬Thr m b.fin.f.toNat/\b.ins.length<64 then bz b else b))=if b.fin.kind=4/\¬Thr m b.fin.f.toNat/\b.ins.length<64 then bz b else b:=by
  intro b
  by_cases h:b.fin.kind=4/\¬Thr m b.fin.f.toNat/\b.ins.length<64
  ·rw[if_pos h,if_neg fun hc=>absurd hc.1 (by show ¬(2:Int)=4;decide)]
  ·rw[if_neg h,if_neg fun hc=>h ⟨hc.1,fun ht=>hc.2.1 (rR.2 ht),hc.2.2⟩]
 show jZ _ (cf m)=cf m
 unfold jZ
 conv=>rhs;unfold cf jZ
 conv=>lhs;unfold cf jZ
 simp only[List.map_map]
 congr 1
 apply List.map_congr_left
 intro u _
 simp only[Function.comp,List.map_map]
 congr 1
 apply List.map_congr_left
 intro b _
 exact key b
end
end Go.Ab.C14
end
section
set_option maxRecDepth 10000
namespace Go.Ab
theorem vH {a c:Int}:asBool (.lit (.bool (a==c)))=some (decide (a=c)):=by
 by_cases h:a=c
 ·subst h;simp[asBool]
 ·have h1:(a==c)=false:=by simpa using h
  simp only[asBool,h1,decide_eq_false h]
theorem Cw {α:Type} {q:Option Bool} {s:Nat} {R:List TV->α->Prop} {x:TV} {l:List α} (h:RL q s R x l):x.eS=true:=by
 rcases h with⟨rfl,rfl⟩|⟨o,xs,rfl,_⟩<;>rfl
theorem DH {p:Prop}:asBool (B (tt p))=some (tt p):=rfl
def zf (N:Nat) (u:DFunc) (b:DBlock):Prop:=(∀x∈b.ins,x.op=11->0<=x.f/\x.f.toNat<N)/\(b.fin.kind=4->(0<=b.fin.f/\b.fin.f.toNat<N)/\0<=b.fin.pad/\∃pb,u.blocks[b.fin.pad.toNat]? = some pb)
end Go.Ab
namespace Go.Ab.C14
open Go Go.Ab Go.Proofs
theorem yB {m:DMod} (h:cF m) {n k:Nat} {u:DFunc} {b:DBlock} (hu:m.funcs[n]? = some u) (hb:u.blocks[k]? = some b):zf m.funcs.length u b:=by
 have hB:=(h.2.2 n (FP.1 hu).1 u hu).2.2.2 k (FP.1 hb).1 b hb
 refine⟨fun x hx h11=>?_,fun h4=>?_⟩
 ·obtain⟨i,hi,rfl⟩:=List.mem_iff_getElem.1 hx
  have:=(hB.2.2.1 i hi _ (FQ hi)).2.2.2.2.2
  rw[h11]at this
  obtain⟨h0,g,hg,_⟩:=this.1 rfl
  exact⟨h0,(FP.1 hg).1⟩
 ·obtain⟨_,_,_,hc,_,_,hp⟩:=hB.2.2.2
  rw[h4]at hc hp
  obtain⟨h0,g,hg,_⟩:=hc.1 rfl
  obtain⟨h1,pb,hpb,_⟩:=hp.1 rfl
  exact⟨⟨h0,(FP.1 hg).1⟩,h1,pb,hpb⟩
section
variable {q q':Option Bool} {w:TV} {F:List Bool} (hw:RBools q w F)
include hw
theorem BR {x:TV} {l:List DIns} (hx:RL q' 7 (RIns q') x l) (hn:∀y∈l,y.op=11->0<=y.f/\y.f.toNat<F.length):∀(d i:Nat),i+d=l.length ->
  aa prog 35 (f35_0 x (I l.length) (I i) w) (B (tt (∃j,i<=j/\∃y,l[j]? = some y/\y.op=11/\F[y.f.toNat]? = some true))):=by
 have hbnd:=hx.bnd
 intro d
 induction d with
 | zero =>
  intro i hi
  have hi:i=l.length:=by omega
  subst hi
  rw[ck (by rintro⟨j,hj,y,hy,_⟩;have:=(FP.1 hy).1;omega)]
  unfold f35_0
  exact aa.tv rfl (aa.ite aM nofun fun _=>aa.tv rfl aa.ret)
 | succ d ih =>
  intro i hi
  have hlt:i<l.length:=by omega
  have hy:=FQ hlt
  generalize l[i]=y at hy
  obtain⟨e,he,hR⟩:=hx.idx (k:=.i64) hy
  obtain⟨g,rfl,hg,ho⟩:=hR
  have hnext:=ih (i+1) (by omega)
  have split:(∃j,i<=j/\∃y,l[j]? = some y/\y.op=11/\F[y.f.toNat]? = some true) ↔ (y.op=11/\F[y.f.toNat]? = some true)\/∃j,i+1<=j/\∃y,l[j]? = some y/\y.op=11/\F[y.f.toNat]? = some true:=by
   constructor
   ·rintro⟨j,hj,y',hy',h⟩
    by_cases e:j=i
    ·subst e;rw[hy]at hy';cases hy';exact .inl h
    ·exact .inr ⟨j,by omega,y',hy',h⟩
   ·rintro(h|⟨j,hj,h⟩)
    ·exact⟨i,Nat.le_refl _,y,hy,h⟩
    ·exact⟨j,by omega,h⟩
  rw[aX split]
  unfold f35_0
  refine aa.tv rfl (aa.ite (aQ hlt) (fun _=>?_) nofun)
  refine aa.tvs he (aa.chk rfl (aa.tv rfl (aa.ite vH (fun h=>?_) fun h=>?_)))
  ·have h11:y.op=11:=by simpa using h
   obtain⟨h0,hlf⟩:=hn y (FZ hy) h11
   have hc:=FQ hlf
   generalize F[y.f.toNat]=c at hc
   obtain⟨e2,he2,hR2⟩:=hw.kX (k:=.i64) h0 hc
   cases hR2
   refine aa.tvs he2 (aa.chk rfl (aa.ite rfl (fun h=>?_) fun h=>?_))
   ·have hcc:c=true:=h
    subst hcc
    rw[bp (.inl ⟨h11,hc⟩)]
    exact aa.tv (v:=B true) (by show some (TV.lit (.bool (decide ((i:Int) >= 0))))=_;rw[decide_eq_true (by omega)]) aa.ret
   ·have hcc:c=false:=h
    subst hcc
    rw[aX (p':=∃j,i+1<=j/\∃y,l[j]? = some y/\y.op=11/\F[y.f.toNat]? = some true) ⟨fun h=>h.elim (fun h=>by rw[hc]at h;cases h.2) id,.inr⟩]
    exact aa.tv (inc hlt hbnd) (f35_0_J hnext)
  ·have h11:¬y.op=11:=by simpa using h
   rw[aX (p':=∃j,i+1<=j/\∃y,l[j]? = some y/\y.op=11/\F[y.f.toNat]? = some true) ⟨fun h=>h.elim (fun h=>absurd h.1 h11) id,.inr⟩]
   exact aa.tv (inc hlt hbnd) (f35_0_J hnext)
theorem Cn {e:List TV} {u:DFunc} {b:DBlock} (he:RBlock q' e b) (hn:zf F.length u b):aj prog 35 [.agg e,w] (B (tt (tj F b))):=by
 obtain⟨c,i,g,rfl,_,_,hi,_⟩:=he
 have h:=BR hw hi hn.1 b.ins.length 0 (by omega)
 rw[aX (p':=tj F b) ⟨fun⟨j,_,y,hy,h⟩=>⟨y,FZ hy,h⟩,fun⟨y,hy,h⟩=>by
  obtain⟨j,hj,rfl⟩:=List.mem_iff_getElem.1 hy
  exact⟨j,Nat.zero_le _,_,FQ hj,h⟩⟩]at h
 refine aj.of (f35_MR _ _) ?_
 unfold f35_M
 exact aa.chk rfl (aa.chk (Cw hw) (aa.tv hi.len (f35_0_J h)))
theorem zd {e:List TV} {u:DFunc} {b:DBlock} (he:RBlock q' e b) (hn:zf F.length u b):aj prog 36 [.agg e,w] (B (tt (invD F b))):=by
 obtain⟨c,i,g,rfl,_⟩:=he
 refine aj.of (f36_MR _ _) ?_
 unfold f36_M
 refine aa.chk rfl (aa.tv rfl (aa.ite vH (fun h=>?_) fun h=>?_))
 ·have h4:b.fin.kind=4:=by simpa using h
  obtain⟨h0,hlf⟩:=(hn.2 h4).1
  have hc:=FQ hlf
  generalize F[b.fin.f.toNat]=c at hc
  obtain⟨e2,he2,hR2⟩:=hw.kX (k:=.i64) h0 hc
  cases hR2
  refine aa.tvs he2 (aa.chk rfl ?_)
  exact aH ⟨fun h=>⟨h4,by rw[hc,h]⟩,fun h=>by have:=h.2;rw[hc]at this;exact Option.some.inj this⟩
 ·have h4:¬b.fin.kind=4:=by simpa using h
  exact aB fun h=>h4 h.1
end
end Go.Ab.C14
end
section
set_option maxRecDepth 10000
namespace Go.Ab
theorem geq0 {i:Nat}:pbin (.int .i64) .geq (I (i:Int)) (I 0)=some (B true):=by
 show some (TV.lit (.bool (decide ((i:Int) >= 0))))=_
 rw[decide_eq_true (by omega)]
theorem repF {n:Nat} (hn:n<=4294967296):RBools (some true) (.sl true 1 (List.replicate n [B false])) (List.replicate n false):=by
 refine .sl (by simp) ?_ (by simp;omega)
 clear hn
 induction n with
 | zero=>exact .nil
 | succ n ih=>exact .cons rfl ih
theorem Dk {X:Nat->Prop} {n:Nat}:vJ X (List.replicate n false):=fun k h=>by
 have:=List.eq_of_mem_replicate (FZ h)
 cases this
end Go.Ab
namespace Go.Ab.C14
open Go Go.Ab Go.Proofs
section
variable {q:Option Bool} {b w:TV} {m:DMod} (hb:RL q 3 (RFunc q) b m.funcs) (hM:cF m) {F:List Bool} (hl:F.length=m.funcs.length) (hw:RBools (some true) w F)
include hb hM hl hw
theorem outBlk {n:Nat} {u:DFunc} {bl:TV} {g:Bool} {y:TV} (hu:m.funcs[n]? = some u) (hbl:RL q 14 (RBlock q) bl u.blocks) (hF:F[n]? = some false)
  (miss:¬qM zA F u->aa prog 18 (f18_1 (B g) b (I m.funcs.length) (I (n+1:Nat)) b w) y)
  (hit:∀w',ja [] w n 0 [B true]=some w'->qM zA F u->aa prog 18 (f18_1 (B true) b (I m.funcs.length) (I (n+1:Nat)) b w') y) :
  ∀(d i:Nat),i+d=u.blocks.length->(∀j,j<i->∀c,u.blocks[j]? = some c->¬zA F u c) ->
   aa prog 18 (f18_2 bl (I u.blocks.length) (I i) (I u.params) (I u.regs) bl b w (B g) (I n) b (I m.funcs.length) (I n) (B true)) y:=by
 have hN:=hM.1
 have hbnd:=hbl.bnd
 have hlt:=(FP.1 hF).1
 obtain⟨e0,he0,hR0⟩:=hw.pel hF
 cases hR0
 obtain⟨w1,hs1,hw1⟩:=hw.FO he0 (d:=0) (ys:=[B true]) (a:=true) rfl
 have ann:aJ (I (n:Int))=some n:=bj (by omega)
 have hchk:(slSize w 1&&Nat.blt n F.length)=true:=by rw[hw.slSize];simpa using hlt
 have hinc:pbin (.int .i64) .add (I (n:Int)) (I (1:Int))=some (I ((n+1:Nat):Int)):=inc hlt (by omega)
 intro d
 induction d with
 | zero =>
  intro i hi hno
  have hi:i=u.blocks.length:=by omega
  subst hi
  unfold f18_2
  refine aa.tv rfl (aa.ite aM nofun fun _=>aa.tv (v:=B false) rfl (aa.ite (v:=true) rfl (fun _=>aa.ite (v:=false) rfl nofun fun _=>?_) nofun))
  refine aa.tv hinc (f18_1_J (miss ?_))
  rintro⟨c,hc,h⟩
  obtain⟨j,hj,rfl⟩:=List.mem_iff_getElem.1 hc
  exact hno j hj _ (FQ hj) h
 | succ d ih =>
  intro i hi hno
  have hil:i<u.blocks.length:=by omega
  have hc:=FQ hil
  generalize u.blocks[i]=c at hc
  have hnm:=yB hM hu hc
  rw[<-hl]at hnm
  obtain⟨e,he,hR⟩:=hbl.idx (k:=.i64) hc
  have hR':=hR
  obtain⟨c2,c5,c10,rfl,h2,hd,h5,h10,hok⟩:=hR'
  have hwz:=hw.frz (S:=RB1) fun _ _ h=>h.frz
  have hcl:=Cn hwz hR hnm
  have hiv:=zd hwz hR hnm
  have yes:zA F u c->aa prog 18 (f18_1 (B true) b (I m.funcs.length) (I (n+1:Nat)) b w1) y:=fun h=>hit w1 hs1 ⟨c,FZ hc,h⟩
  have no:¬zA F u c->aa prog 18 (f18_2 bl (I u.blocks.length) (I (i+1:Nat)) (I u.params) (I u.regs) bl b w (B g) (I n) b (I m.funcs.length) (I n) (B true)) y:=fun h =>
   ih (i+1) (by omega) fun j hj c' hc' h'=>by
    by_cases e:j=i
    ·subst e;rw[hc]at hc';cases hc';exact h h'
    ·exact hno j (by omega) c' hc' h'
  have three : ∀ z : Bool, (z = true ↔ c.fin.kind = 5 ∨ c.fin.kind = 6) →
    aa prog 18 (f18_3 (B z) w (I u.params) (I u.regs) bl (B c.landing) (I c.pad.dst) c2 (B c.pad.all) (B c.pad.cleanup) c5 (I c.fin.kind) (I c.fin.a) (I c.fin.dst) (I c.fin.f) c10 (I c.fin.to) (I c.fin.els) (I c.fin.pad) b (I u.params) (I u.regs) bl (B g) (I n) b (I m.funcs.length) (I n) (B true) bl (I i) (I u.blocks.length) (I i)) y:=by
   intro z hz
   unfold f18_3
   refine aa.ite rfl (fun h=>?_) fun h=>?_
   ·have hz1:z=true:=h
    refine aa.tv geq0 (aa.ite (v:=true) rfl (fun _=>aa.ite (v:=true) rfl (fun _=>?_) nofun) nofun)
    exact aa.nat hw.slLen (aa.nat ann (aa.chk hchk (aa.tvs he0 (aa.chk rfl (aa.tv hs1 (aa.tv hinc (f18_1_J (yes (.inl (hz.1 hz1))))))))))
   ·have hz0:¬(c.fin.kind=5\/c.fin.kind=6):=fun h'=>by rw[hz.2 h']at h;cases h
    refine aa.call hcl (aa.chk rfl (aa.ite DH (fun h=>?_) fun h=>?_))
    ·refine aa.tv geq0 (aa.ite (v:=true) rfl (fun _=>aa.ite (v:=true) rfl (fun _=>?_) nofun) nofun)
     exact aa.nat hw.slLen (aa.nat ann (aa.chk hchk (aa.tvs he0 (aa.chk rfl (aa.tv hs1 (aa.tv hinc (f18_1_J (yes (.inr (.inl (aG.1 h)))))))))))
    ·have hc0:¬tj F c:=fun h'=>by rw[bp h']at h;cases h
     refine aa.call hiv (aa.chk rfl (aa.ite DH (fun h=>?_) fun h=>?_))
     ·have hi1:=aG.1 h
      obtain⟨_,h0,pb,hpb⟩:=hnm.2 hi1.1
      obtain⟨e2,he2,hR2⟩:=hbl.kX (k:=.i64) h0 hpb
      obtain⟨p2,p5,p10,rfl,_⟩:=hR2
      refine aa.tvs he2 (aa.chk rfl (aa.tv rfl (aa.ite rfl (fun h=>?_) fun h=>?_)))
      ·have ha:pb.pad.all=false:=by simpa using h
       refine aa.tv geq0 (aa.ite (v:=true) rfl (fun _=>aa.ite (v:=true) rfl (fun _=>?_) nofun) nofun)
       exact aa.nat hw.slLen (aa.nat ann (aa.chk hchk (aa.tvs he0 (aa.chk rfl (aa.tv hs1 (aa.tv hinc (f18_1_J (yes (.inr (.inr ⟨hi1,pb,hpb,ha⟩))))))))))
      ·have ha:pb.pad.all=true:=by simpa using h
       refine aa.tv (inc hil hbnd) (f18_2_J (no ?_))
       rintro(h|h|⟨_,pb',hp',ha'⟩)
       ·exact hz0 h
       ·exact hc0 h
       ·rw[hpb]at hp';cases hp';rw[ha]at ha';cases ha'
     ·have hi0:¬invD F c:=fun h'=>by rw[bp h']at h;cases h
      refine aa.tv (inc hil hbnd) (f18_2_J (no ?_))
      rintro(h|h|⟨h,_⟩)
      ·exact hz0 h
      ·exact hc0 h
      ·exact hi0 h
  unfold f18_2
  refine aa.tv rfl (aa.ite (aQ hil) (fun _=>?_) nofun)
  refine aa.tvs he (aa.chk rfl (aa.tv rfl (aa.ite vH (fun h=>?_) fun h=>?_)))
  ·have h5':c.fin.kind=5:=by simpa using h
   exact f18_3_J (three true ⟨fun _=>.inl h5',fun _=>rfl⟩)
  ·have h5':¬c.fin.kind=5:=by simpa using h
   exact aa.tv (v:=B (c.fin.kind==6)) rfl (f18_3_J (three _ ⟨fun h=>.inr (by simpa using h),fun h=>by simpa using h.resolve_left h5'⟩))
end
theorem rOut {q:Option Bool} {e:List TV} {m:DMod} (he:RMod q e m) (hM:cF m):∃y F,aj prog 18 [.agg e] y/\RBools (some true) y F/\F.length=m.funcs.length/\∀k:Nat,F[k]? = some true ↔ Thr m k:=by
 have hsh:=r8 he
 obtain⟨b,rfl,hb⟩:=he
 have hN:=hM.1
 obtain⟨y,F',h1,h2,h3,h4⟩:=zx (BW m) (A:=prog) (f:=18) (P0:=fun g w=>f18_0 (B g) b w) (P1:=fun g n w=>f18_1 (B g) b (I m.funcs.length) (I n) b w)
  (fun w y h => by
   unfold f18_0
   exact aa.ite (v:=true) rfl (fun _=>aa.tv hb.len (f18_1_J h)) nofun)
  (fun w F h => by
   unfold f18_0
   exact aa.ite (v:=false) rfl nofun fun _=>aa.chk (h.own fun _ _ h=>by cases h;rfl) aa.ret)
  (fun g w y h => by
   unfold f18_1
   exact aa.tv rfl (aa.ite aM nofun fun _=>f18_0_J h))
  (fun g n w F c u y hl hw hc hu miss hit => by
   have hlt:=(FP.1 hu).1
   obtain⟨e1,he1,hR1⟩:=hb.idx (k:=.i64) hu
   obtain⟨bl,rfl,hbl,_⟩:=hR1
   obtain⟨e2,he2,hR2⟩:=hw.pel hc
   cases hR2
   unfold f18_1
   refine aa.tv rfl (aa.ite (aQ hlt) (fun _=>?_) nofun)
   refine aa.tvs he1 (aa.chk rfl (aa.nat hw.slLen (aa.nat (bj (by omega)) (aa.chk (by rw[hw.slSize];simpa[hl]using hlt) (aa.tvs he2 (aa.chk rfl (aa.tv rfl ?_)))))))
   cases c with
   | true=>exact aa.ite (v:=false) rfl nofun fun _=>aa.tv (inc hlt (by omega)) (f18_1_J (miss (.inl rfl)))
   | false=>exact aa.ite (v:=true) rfl (fun _=>aa.tv hbl.len (f18_2_J (outBlk hb hM hl hw hu hbl hc (fun h=>miss (.inr h)) (fun w' hs h=>hit w' hs rfl h) u.blocks.length 0 (by omega) fun j hj=>by omega))) nofun)
  m.funcs.length _ _ (by simp) (by simp) Dk (repF (n:=m.funcs.length) (by omega))
 refine⟨y,F',?_,h2,h3,h4⟩
 have han:aJ (I (m.funcs.length:Int))=some m.funcs.length:=bj (by omega)
 refine aj.of (f18_MR _) ?_
 unfold f18_M
 refine aa.chk rfl (aa.chk rfl (aa.call hsh (aa.chk rfl (aa.tv rfl (aa.ite rfl (fun h=>?_) fun h=>?_)))))
 ·rw[bp hM]at h;cases h
 ·exact aa.tv hb.len (aa.nat han (aa.nat han (aa.chk (by simp;omega) (f18_0_J h1))))
end Go.Ab.C14
end

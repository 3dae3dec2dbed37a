import Derived.Test.YtpkpckdealhkhaaAM2
set_option linter.all false
section
namespace Go.Ab
open Go.RowKit
section
variable {P:Program} {w w':World} {I I':Nat->Prop} {x y:TV} {u v:Value} {S:Nat->Prop}
theorem zC {s k j k' j':Nat} (hj:j<s) (hj':j'<s) (h:k*s+j=k'*s+j'):k=k'/\j=j':=by
 have h1:k=k':=by
  rcases Nat.lt_trichotomy k k' with h2|h2|h2
  ·have:=Nat.mul_le_mul_right s (Nat.succ_le_of_lt h2)
   rw[Nat.succ_mul]at this
   omega
  ·exact h2
  ·have:=Nat.mul_le_mul_right s (Nat.succ_le_of_lt h2)
   rw[Nat.succ_mul]at this
   omega
 subst h1
 exact⟨rfl,by omega⟩
theorem qW {α:Type} {s:Nat} {xs:List (List α)} (h:∀x∈xs,x.length=s) {k j:Nat} (hk:k<xs.length) (hj:j<s):∃e c,xs[k]? = some e/\e[j]? = some c/\xs.flatten[k*s+j]? = some c:=by
 have hel:=h xs[k] (List.getElem_mem hk)
 have hje:j<xs[k].length:=by omega
 exact⟨xs[k],xs[k][j],FQ hk,FQ hje,fZ h (FQ hk) (FQ hje)⟩
theorem wu (a:Addr) (h:a.spot=none) (k:Nat):a.add k=⟨a.block,a.off+k,none⟩:=by
 obtain⟨b,o,sp⟩:=a
 simp at h
 subst h
 exact gH b o k
theorem aq.write {s:Nat} {xs:List (List TV)} (h:aq w I (.sl true s xs) v S) (hnI:∀b,S b->¬I b):∃a cap vs ty us,v=.slice (some a) xs.length cap/\S a.block/\Row w a xs.length cap s us vs ty /\
  ∀(o:Nat) (ys:List TV) (us':List Value) (T:Nat->Nat->Prop) (w':World) (xs':List (List TV)),o+ys.length<=xs.flatten.length->us'.length=ys.length->(∀u∈us',u.oneCell'=true) ->
   (∀(m:Nat) (c:TV),ys[m]? = some c->aq w I c (us'.getD m undef) (T m))->(∀m b,T m b->¬S b)->(∀m m' b,T m b->T m' b->m=m') ->
   w'.heap[a.block]? = some (.cells (spl vs.toList (a.off+o) us').toArray ty (0,0))->(∀b,b≠a.block->w'.heap[b]? = w.heap[b]?)->xs'.length=xs.length->(∀x∈xs',x.length=s)->xs'.flatten=spl xs.flatten o ys ->
   aq w' I (.sl true s xs') v (fun b=>S b\/∃m,T m b) /\
   ∀(q:Way) (v':Value) (nd:Option (Nat × Nat)),(∀k1 j1 q1,q=(k1,j1)::q1->¬(o<=k1*s+j1/\k1*s+j1<o+ys.length))->Node w q (.sl true s xs) v v' nd->Node w' q (.sl true s xs') v v' nd:=by
 cases h with
 | fr h=>cases h
 | @sl _ _ a cap S us vs ty F hS row hl hr hF hd =>
  refine⟨a,cap,vs,ty,us,rfl,hS,row,?_⟩
  intro o ys us' T w' xs' ho hul h1 hy hT hTd hheap hoth hxl hxa hxf
  have hfl:=cz hl
  have hus:us.length=xs.flatten.length:=by rw[row.len,hfl]
  have hnIa:=hnI _ hS
  have hI:∀b,I b->w'.heap[b]? = w.heap[b]? := fun b hb=>hoth b (fun e=>hnIa (e▸hb))
  have hfit:a.off+o+us'.length<=vs.toList.length:=by
   have:=row.fit
   have h2:xs.length*s<=cap*s:=Nat.mul_le_mul_right _ row.le
   simp only[Array.length_toList]
   omega
  have hsl:o+us'.length<=us.length:=by omega
  have hrow:Row w' a xs'.length cap s (spl us o us') (spl vs.toList (a.off+o) us').toArray ty:=by
   rw[hxl]
   refine⟨hheap,row.spot,row.le,row.max,by rw[List.size_toArray,ix hfit];exact row.fit,by rw[ix hsl];exact row.len,fun k hk=>?_,fun u hu=>?_⟩
   ·rw[List.getElem?_toArray,cW hfit,cW hsl]
    by_cases hc:o<=k/\k<o+us'.length
    ·rw[if_pos hc,if_pos (by omega)]
     congr 1
     omega
    ·rw[if_neg hc,if_neg (by omega),FU]
     exact row.cells k hk
   ·obtain⟨m,hm⟩:=List.mem_iff_getElem?.1 hu
    rw[cW hsl]at hm
    split at hm
    ·exact h1 u (FZ hm)
    ·exact row.one u (FZ hm)
  constructor
  ·have key:aq w' I (.sl true s xs') (.slice (some a) xs'.length cap) (fun b=>S b\/∃m,T m b):=by
    refine .sl (spl us o us') _ ty (fun k b=>if o<=k/\k<o+ys.length then T (k-o) b else F k b) (.inl hS) hrow hxa (fun k c hc=>?_) (fun k b hb=>?_) (fun k k' b hb hb'=>?_)
    ·rw[hxf,cW ho]at hc
     have hg:(spl us o us').getD k undef=if o<=k/\k<o+ys.length then us'.getD (k-o) undef else us.getD k undef:=by
      simp only[F7,cW hsl,hul]
      split<;>rfl
     rw[hg]
     by_cases hk:o<=k/\k<o+ys.length
     ·rw[if_pos hk]at hc ⊢
      simp only[hk,and_self,if_true]
      exact(hy _ c hc).mv hI (fun _ h=>h) (fun b hb=>hoth b (fun e=>hT _ b hb (e▸hS))) (fun _ h=>h)
     ·rw[if_neg hk]at hc ⊢
      simp only[hk,if_false]
      exact(hr k c hc).mv hI (fun _ h=>h) (fun b hb=>hoth b (hF k b hb).2) (fun _ h=>h)
    ·by_cases hk:o<=k/\k<o+ys.length
     ·simp only[hk,and_self,if_true]at hb
      exact⟨.inr ⟨_,hb⟩,fun e=>hT _ b hb (e▸hS)⟩
     ·simp only[hk,if_false]at hb
      exact⟨.inl (hF k b hb).1,(hF k b hb).2⟩
    ·by_cases hk:o<=k/\k<o+ys.length<;>by_cases hk':o<=k'/\k'<o+ys.length
     ·simp only[hk,hk',and_self,if_true]at hb hb'
      have:=hTd _ _ b hb hb'
      omega
     ·simp only[hk,hk',and_self,if_true,if_false]at hb hb'
      exact absurd (hF k' b hb').1 (hT _ b hb)
     ·simp only[hk,hk',and_self,if_true,if_false]at hb hb'
      exact absurd (hF k b hb).1 (hT _ b hb')
     ·simp only[hk,hk',if_false]at hb hb'
      exact hd _ _ b hb hb'
   rwa[hxl]at key
  ·intro q v' nd hq hn
   cases q with
   | nil=>exact⟨hn.1,by rw[hn.2];simp[TV.nd,hxl]⟩
   | cons kj q =>
    obtain⟨k1,j1⟩:=kj
    obtain⟨o2,s2,xs2,a2,n2,cap2,e2,y2,u2,hx2,hu2,he2,hy2,hc2,hn2⟩:=hn
    cases hx2
    cases hu2
    have hel2:=hl e2 (FZ he2)
    have hj2:j1<s:=by have:=(FP.1 hy2).1;omega
    have hk2:k1<xs'.length:=by rw[hxl];exact(FP.1 he2).1
    have hnot:=hq k1 j1 q rfl
    have hfg:=fZ hl he2 hy2
    obtain⟨e3,c3,g1,g2,g3⟩:=qW hxa hk2 hj2
    rw[hxf,cW ho,if_neg hnot,hfg]at g3
    cases g3
    have hltu:k1*s+j1<us.length:=by rw[hus];exact(FP.1 hfg).1
    have hug:=FQ hltu
    have:u2=us[k1*s+j1]:=by rw[row.cell hug]at hc2;exact(Option.some.inj hc2).symm
    subst this
    refine⟨true,s,xs',a,_,cap,e3,y2,us[k1*s+j1],rfl,rfl,g1,g2,hrow.cell ?_,?_⟩
    ·rw[cW hsl,if_neg (by omega)];exact hug
    ·have hr2:=hr _ _ hfg
     rw[getD_some hug]at hr2
     exact Node.mv hr2 hI (fun b hb=>hoth b (hF _ b hb).2) hn2
def cut (s lo len:Nat):Value->Value
 | .slice (some a) n cap=>.slice (some (if cap=lo then a else a.add (lo*s))) len (cap-lo)
 | v=>v
def szOf:TV->Nat
 | .sl _ s _=>s
 | _=>0
theorem aq.win {lo len : Nat} (h : aq w I x v S) (hx : lh lo len x = some y) : aq w I y (cut (szOf x) lo len v) S := by
 unfold lh at hx
 split at hx
 ·rename_i o s xs
  split at hx
  ·rename_i hc
   simp only[FR]at hx
   subst hx
   have hlen:((xs.drop lo).take len).length=len:=by simp;omega
   have hall:∀(hl:∀x∈xs,x.length=s),∀x∈(xs.drop lo).take len,x.length=s:=fun hl x hx=>hl x (List.mem_of_mem_drop (List.mem_of_mem_take hx))
   cases h with
   | fr h =>
    cases h with
    | @sl _ _ a cap cell hI hcap hm hl hcell h1 hr =>
     simp only[cut,szOf]
     by_cases h0:len=0
     ·subst h0
      have key:Rep w I (.sl false s ((xs.drop lo).take 0)) (.slice (some (if cap=lo then a else a.add (lo*s))) ((xs.drop lo).take 0).length (cap-lo)) :=
       .sl cell (by simp) (by simp) (by omega) (by simp) (by simp) (by simp) (by simp)
      rw[hlen]at key
      exact .fr key
     ·have hne:cap≠lo:=by omega
      rw[if_neg hne]
      have hlt:∀k,k<len*s->lo*s+k<xs.length*s:=fun k hk=>by
       have:=Nat.mul_le_mul_right s hc
       rw[Nat.add_mul]at this
       omega
      have key:Rep w I (.sl false s ((xs.drop lo).take len)) (.slice (some (a.add (lo*s))) ((xs.drop lo).take len).length (cap-lo)):=by
       refine .sl (fun k=>cell (lo*s+k)) (fun _=>by rw[fG];exact hI (by omega)) (by rw[hlen];omega) (by omega) (hall hl) (fun k hk=>?_) (fun k hk=>?_) (fun i e hi j c hj=>?_)
       ·rw[hlen]at hk
        rw[fd]
        exact hcell _ (hlt k hk)
       ·rw[hlen]at hk
        exact h1 _ (hlt k hk)
       ·have hi':i<len:=by have:=(FP.1 hi).1;omega
        rw[List.getElem?_take_of_lt hi',List.getElem?_drop]at hi
        have:=hr (lo+i) e hi j c hj
        rw[Nat.add_mul,Nat.add_assoc]at this
        exact this
      rw[hlen]at key
      exact .fr key
   | @sl _ _ a cap S us vs ty F hS row hl hr hF hd =>
    simp only[cut,szOf]
    by_cases hcl:cap=lo
    ·have h0:len=0:=by have:=row.le;omega
     subst h0
     rw[if_pos hcl]
     have key:aq w I (.sl true s ((xs.drop lo).take 0)) (.slice (some a) ((xs.drop lo).take 0).length (cap-lo)) S:=by
      refine .sl [] vs ty (fun _ _=>False) hS ⟨row.heap,row.spot,by simp,by have:=row.max;omega,by have:=row.fit;rw[hcl];simp;omega,by simp,by simp,by simp⟩ (by simp) (by simp) (fun _ _ h=>h.elim) (fun _ _ _ h=>h.elim)
     rw[hlen]at key
     exact key
    ·rw [if_neg hcl]
     have hfit:=row.fit
     have hsp:=row.spot
     have hle:=row.le
     have hax:a.add (lo*s)=⟨a.block,a.off+lo*s,none⟩:=wu a hsp _
     have hfl:((xs.drop lo).take len).flatten=(xs.flatten.drop (lo*s)).take (len*s):=by
      rw[pC _ (fun x hx=>hl x (List.mem_of_mem_drop hx)),pa _ hl]
     have hmul:lo*s+len*s<=xs.length*s:=by rw[<-Nat.add_mul];exact Nat.mul_le_mul_right _ hc
     have key:aq w I (.sl true s ((xs.drop lo).take len)) (.slice (some (a.add (lo*s))) ((xs.drop lo).take len).length (cap-lo)) S:=by
      refine .sl ((us.drop (lo*s)).take (len*s)) vs ty (fun k=>F (lo*s+k)) (by rw[fG];exact hS) ?_ (hall hl) (fun k c hk=>?_) (fun k b hb=>?_) (fun k k' b hb hb'=>?_)
      ·rw[hax,hlen]
       have hcm:(cap-lo)*s+lo*s=cap*s:=by rw[<-Nat.add_mul];congr 1;omega
       refine⟨row.heap,rfl,by omega,by have:=row.max;omega,?_,by simp[row.len];omega,fun k hk=>?_,fun u hu=>row.one u (List.mem_of_mem_drop (List.mem_of_mem_take hu))⟩
       ·show a.off+lo*s+(cap-lo)*s<=vs.size
        omega
       ·show vs[a.off+lo*s+k]? = _
        rw[List.getElem?_take_of_lt hk,List.getElem?_drop,Nat.add_assoc]
        exact row.cells _ (by omega)
      ·rw[hfl]at hk
       have hk':k<len*s:=by
        have:=(FP.1 hk).1
        simp at this
        omega
       rw[List.getElem?_take_of_lt hk',List.getElem?_drop]at hk
       have:=hr _ c hk
       simp only[F7]at this ⊢
       rw[List.getElem?_take_of_lt hk',List.getElem?_drop]
       exact this
      ·rw[fG];exact hF _ b hb
      ·have:=hd _ _ b hb hb'
       omega
     rw[hlen]at key
     exact key
  ·cases hx
 ·split at hx
  ·simp only[FR]at hx
   subst hx
   have:=bq h
   subst this
   exact .fr (.lit _)
  ·cases hx
 ·cases hx
structure Src (w:World) (I:Nat->Prop) (s:Nat) (xs:List (List TV)) (v:Value) (us:List Value) (F:Nat->Nat->Prop):Prop where
 len:us.length=xs.length*s
 all:∀x∈xs,x.length=s
 one:∀u∈us,u.oneCell'=true
 form:∃A c,v=.slice A xs.length c/\(A=none->xs=[])/\∀ad,A=some ad->∀(j:Nat) (u:Value),us[j]? = some u->w.cell? (ad.add j)=some u
 rep:∀(k:Nat) (c:TV),xs.flatten[k]? = some c->aq w I c (us.getD k undef) (F k)
 apart:∀k k' b,F k b->F k' b->k=k'
theorem Src.of {s:Nat} {xs:List (List TV)} (h:aq w I x v S) (hp:pelems s x=some xs):∃us F,Src w I s xs v us F/\(∀k b,F k b->S b)/\∀k,xs=[]->k<us.length->False:=by
 unfold pelems at hp
 split at hp
 ·simp only[FR]at hp
  subst hp
  have:=bq h
  subst this
  exact⟨[],fun _ _=>False,⟨by simp,by simp,by simp,⟨none,_,rfl,fun _=>rfl,fun ad h=>by cases h⟩,by simp,fun _ _ _ h=>h.elim⟩,fun _ _ h=>h.elim,fun _ _ h=>by simp at h⟩
 ·rename_i o s' xs'
  split at hp
  ·rename_i hs
   subst hs
   simp only[FR]at hp
   subst hp
   cases h with
   | fr h =>
    cases h with
    | @sl _ _ a cap cell hI hcap hm hl hcell h1 hr =>
     have hg:∀k,k<xs'.length*s'->((List.range (xs'.length*s')).map cell)[k]? = some (cell k):=fun k hk=>by simp[hk]
     refine⟨(List.range (xs'.length*s')).map cell,fun _ _=>False,⟨by simp,hl,fun u hu=>?_,⟨some a,cap,rfl,by simp,fun ad he j u hu=>?_⟩,fun k c hc=>?_,fun _ _ _ h=>h.elim⟩,fun _ _ h=>h.elim,fun k h1 h2=>by subst h1;simp at h2⟩
     ·obtain⟨k,hk,rfl⟩:=List.mem_map.1 hu
      exact h1 k (by simpa using hk)
     ·cases he
      have hj:j<xs'.length*s':=by have:=(FP.1 hu).1;simpa using this
      rw[hg j hj]at hu
      cases hu
      exact hcell j hj
     ·have hk:k<xs'.length*s':=by rw[<-cz hl];exact(FP.1 hc).1
      simp only[F7,hg k hk,Option.getD_some]
      have hs0:0<s':=by
       rcases Nat.eq_zero_or_pos s' with h0|h0
       ·rw[h0]at hk;omega
       ·exact h0
      have hkd:k / s'<xs'.length:=Nat.div_lt_of_lt_mul (by rw[Nat.mul_comm];exact hk)
      obtain⟨e,c',g1,g2,g3⟩:=qW hl hkd (Nat.mod_lt k hs0)
      rw[Nat.mul_comm,Nat.div_add_mod]at g3
      rw[hc]at g3
      cases g3
      have:=hr _ e g1 _ c g2
      rw[Nat.mul_comm,Nat.div_add_mod]at this
      exact .fr this
   | @sl _ _ a cap S us vs ty F hS row hl hr hF hd =>
    exact⟨us,F,⟨row.len,hl,row.one,⟨some a,cap,rfl,by simp,fun ad he j u hu=>by cases he;exact row.cell hu⟩,hr,hd⟩,fun k b hb=>(hF k b hb).1,fun k h1 h2=>by subst h1;rw[row.len]at h2;simp at h2⟩
  ·cases hp
 ·cases hp
def Own (w:World) (s:Nat) (v:Value) (n:Nat) (us:List Value):Prop:=(v=bc/\n=0/\us=[])\/∃a cap vs ty,v=.slice (some a) n cap/\Row w a n cap s us vs ty
structure Grown (w w':World) (s:Nat) (v v':Value) (n:Nat) (us:List Value):Prop where
 form:(v'=v/\v=bc/\n=0/\us=[]/\w'=w)\/∃a cap vs ty,v'=.slice (some a) n cap/\Row w' a n cap s us vs ty/\((∃a' n' c',v=.slice (some a') n' c'/\a'.block=a.block)\/a.block=w.heap.size)
 os:w'.os=w.os
 tape:w'.tape=w.tape
 output:w'.output=w.output
 size:w.heap.size<=w'.heap.size
 block:∀k,k<w.heap.size->(∀a n c,v=.slice (some a) n c->k≠a.block)->w'.heap[k]? = w.heap[k]?
 keep:n=0->v'=v
theorem zh (t ty e:TypeId) (i:TypeInfo) (z:Value) (ht:P.underlying t=some (.slice e)) (hi:P.info? e=some i) (hz:i.zero=some z) (hzs:z.cells.size=i.size)
  {n:Nat} {us:List Value} (hown:Own w i.size v n us) {A:Option Addr} {m c:Nat} {news:List Value} (hl:news.length=m*i.size) (hA:A=none->m=0) (hnews:∀ad,A=some ad->∀j u,news[j]? = some u->w.cell? (ad.add j)=some u)
  (h1:∀u∈news,u.oneCell'=true) (h63:n+m<=maxLen) (hbytes:(n+m)*i.bytes<=140737488355328) :
  ∃v' w',(Builtin.append_ #[t,t] ty #[v,.slice A m c]).run P w=.ok v' w'/\Grown w w' i.size v v' (n+m) (us++news):=by
 have hsmall:n+m<=9223372036854775807:=by simp only[maxLen]at h63;omega
 have hul:us.length=n*i.size:=by
  rcases hown with⟨_,h0,h1⟩|⟨a,cap,vs,ty,_,hr⟩
  ·rw[h0,h1];simp
  ·exact hr.len
 have hu1:∀u∈us,u.oneCell'=true:=by
  rcases hown with⟨_,h0,h1⟩|⟨a,cap,vs,ty,_,hr⟩
  ·rw[h1];simp
  ·exact hr.one
 by_cases hm:m=0
 ·subst hm
  have hn:news=[]:=List.eq_nil_of_length_eq_zero (by simpa using hl)
  subst hn
  refine⟨v,w,?_,?_⟩
  ·have hf:(Builtin.firstCells i.size 0 (.slice A 0 c)).run P w=.ok #[] w:=by
    cases A with
    | none=>exact run_firstCells_none w i.size 0 0 c
    | some ad=>exact run_firstCells_some (P:=P) w i.size 0 ad 0 c [] (by simp) (by simp)
   rcases hown with⟨rfl,h0,h2⟩|⟨a,cap,vs,ty',rfl,hr⟩
   ·subst h0
    simp[bc,Builtin.append_,run_underlying ht,sizeOf,typeInfo,hi,Builtin.lenOf,hf]
   ·simp[Builtin.append_,run_underlying ht,sizeOf,typeInfo,hi,Builtin.lenOf,hr.le,hf,storeCells]
  ·rw[Nat.add_zero,List.append_nil]
   refine⟨?_,rfl,rfl,rfl,Nat.le_refl _,fun _ _ _=>rfl,fun _=>rfl⟩
   rcases hown with⟨h2,h0,h3⟩|⟨a,cap,vs,ty',h2,hr⟩
   ·exact .inl ⟨rfl,h2,h0,h3,rfl⟩
   ·exact .inr ⟨a,cap,vs,ty',h2,hr,.inl ⟨a,n,cap,h2,rfl⟩⟩
 ·obtain⟨ad,rfl⟩:∃ad,A=some ad:=by
   cases A with
   | none=>exact absurd (hA rfl) hm
   | some ad=>exact⟨ad,rfl⟩
  have hnews:=hnews ad rfl
  have hlen:(us++news).length=(n+m)*i.size:=by rw[List.length_append,hul,hl,Nat.add_mul]
  have grown:∀(old:Nat),∃arr,arr=us.toArray++news.toArray++Builtin.zeroCells z.cells (grownCap w (n+m) old e-(n+m)) /\
    Row (w.drew.alloc (.cells arr e)) ⟨w.heap.size,0,none⟩ (n+m) (grownCap w (n+m) old e) i.size (us++news) arr e:=by
   intro old
   have hge:=grownCap_ge w (n+m) old e
   have hcm:grownCap w (n+m) old e<=maxLen:=grownCap_le_maxLen w (n+m) old e h63
   refine⟨_,rfl,heap_alloc_new w.drew _,rfl,hge,hcm,?_,hlen,fun k hk=>?_,fun u hu=>?_⟩
   ·simp only[Array.size_append,List.size_toArray,size_zeroCells,hzs,hul,hl,Nat.zero_add,<-Nat.add_mul]
    apply Nat.le_of_eq
    congr 1
    omega
   ·rw[Nat.zero_add,Array.getElem?_append_left (by simp[hul,hl,<-Nat.add_mul];omega),List.append_toArray,List.getElem?_toArray]
   ·rcases List.mem_append.1 hu with h|h
    ·exact hu1 u h
    ·exact h1 u h
  have gl:∀(arr:Array Value),(∀k,k<w.heap.size->(w.drew.alloc (.cells arr e)).heap[k]? = w.heap[k]?):=fun arr k hk=>heap_alloc_old w.drew _ k hk
  rcases hown with⟨rfl,h0,h2⟩|⟨a,cap,vs,ty',rfl,hr⟩
  ·subst h0 h2
   obtain⟨arr,harr,hrow⟩:=grown 0
   have hrun:=run_append_nil (P:=P) w t ty e i z ht hi hz ad m c news hl hnews (by omega) (by omega) (by have hb:=hbytes;simp only[Nat.zero_add]at hb;omega)
   simp only[Nat.zero_add,List.nil_append,Array.empty_append]at harr hrow ⊢
   rw[<-harr]at hrun
   exact⟨_,_,hrun,.inr ⟨_,_,arr,e,rfl,hrow,.inr rfl⟩,rfl,rfl,rfl,by simp,fun k hk _=>gl arr k hk,fun h=>absurd h (by omega)⟩
  ·by_cases hroom:n+m<=cap
   ·have hfit:a.off+n*i.size+news.length<=vs.size:=by
     have h3:=hr.fit
     have h4:(n+m)*i.size<=cap*i.size:=Nat.mul_le_mul_right _ hroom
     rw[Nat.add_mul]at h4
     omega
    have hf:=run_firstCells_some (P:=P) w i.size m ad m c news hl hnews
    have hst:=run_storeCells_at P a.block (a.off+n*i.size) ty' news 0 vs w hr.heap (by simpa using hfit) h1
    simp only[Nat.add_zero]at hst
    have hheap:=setRow_heap w a.block vs (vs.toList.take (a.off+n*i.size)++news++vs.toList.drop (a.off+n*i.size+news.length)).toArray ty' (0,0) hr.heap
    refine⟨.slice (some a) (n+m) cap,w.setRow a.block (spl vs.toList (a.off+n*i.size) news).toArray,?_,.inr ⟨a,cap,(spl vs.toList (a.off+n*i.size) news).toArray,ty',rfl,?_,.inl ⟨a,n,cap,rfl,rfl⟩⟩,rfl,rfl,rfl,by simp,fun k _ hk=>setRow_other w a.block k _ (hk a n cap rfl),fun h=>absurd h (by omega)⟩
    ·simp only[spl]
     rw[<-wu a hr.spot]at hst
     simp[Builtin.append_,run_underlying ht,sizeOf,typeInfo,hi,Builtin.lenOf,hroom,hf,hst]
    ·have hfl:a.off+n*i.size+news.length<=vs.toList.length:=by simpa using hfit
     refine⟨hheap,hr.spot,hroom,hr.max,by rw[List.size_toArray,ix hfl];exact hr.fit,hlen,fun k hk=>?_,fun u hu=>?_⟩
     ·rw[List.getElem?_toArray,cW hfl]
      by_cases hk1:k<n*i.size
      ·rw[if_neg (by omega),FU,hr.cells k hk1,F3 (by omega)]
      ·rw[Nat.add_mul]at hk
       rw[if_pos (by omega),F4 (by omega)]
       congr 1
       omega
     ·rcases List.mem_append.1 hu with h|h
      ·exact hu1 u h
      ·exact h1 u h
   ·obtain⟨arr,harr,hrow⟩:=grown cap
    have hrun:=run_append_grow (P:=P) w t ty e i z ht hi hz a n cap us hul (fun j u hu=>hr.cell hu) ad m c news hl hnews (by omega) (by omega) (growslice_fits (by omega) hbytes)
    rw[<-harr]at hrun
    exact⟨_,_,hrun,.inr ⟨_,_,arr,e,rfl,hrow,.inr rfl⟩,rfl,rfl,rfl,by simp,fun k hk _=>gl arr k hk,fun h=>absurd h (by omega)⟩
end
end Go.Ab
end
section
namespace Go.Ab
open Go.RowKit
section
variable {P:Program} {w w':World} {I I':Nat->Prop} {x y:TV} {u v:Value} {S:Nat->Prop}
theorem aq.empty (h:aq w I x v S):(∀b,¬S b)->Rep w I x v:=by
 induction h with
 | fr h=>intro _;exact h
 | sl us vs ty F hS=>intro hn;exact absurd hS (hn _)
 | @buf s e v S h hS =>
  intro hn
  rcases h.2 with⟨rfl,h0⟩|⟨g,cap,cur,fz,rfl,_⟩
  ·exact .buf e h0
  ·exact absurd (hS g rfl) (hn _)
 | @agg cs vs S F hl h1 hr hF hd ih=>intro hn;exact .agg hl h1 (fun j c hj=>ih j c hj (fun b hb=>hn b (hF j b hb)))
 | @tup cs vs S F hl hr hF hd ih=>intro hn;exact .tup hl (fun j c hj=>ih j c hj (fun b hb=>hn b (hF j b hb)))
theorem nd_frz (x:TV):(frz x).nd=x.nd:=by
 cases x<;>simp[frz,TV.nd,gM]
theorem Node.frz:∀{q:Way} {x:TV} {u v:Value} {nd:Option (Nat × Nat)},Node w q x u v nd->Node w q (frz x) u v nd
 | [],x,u,v,nd,h=>⟨h.1,by rw[nd_frz];exact h.2⟩
 | (k,j)::q,x,u,v,nd,⟨o,s,xs,a,n,cap,e,y,u',hx,hu,he,hy,hc,h⟩=>by
  subst hx
  refine⟨false,s,xs.map fun x=>x.map Ab.frz,a,n,cap,e.map Ab.frz,Ab.frz y,u',by simp[Ab.frz,gM],hu,by simp[he],by simp[hy],hc,Node.frz h⟩
theorem Node.cool {q:Way} {x:TV} {u v:Value} {nd:Option (Nat × Nat)} (h:Node w q x u v nd):Node w q (lr x) u v nd:=by
 cases x with
 | sl o s xs =>
  cases q with
  | nil =>
   refine⟨h.1,?_⟩
   rw[h.2]
   simp[lr,TV.nd,gM]
  | cons kj q =>
   obtain⟨k,j⟩:=kj
   obtain⟨o',s',xs',a,n,cap,e,y,u',hx,hu,he,hy,hc,h⟩:=h
   cases hx
   exact⟨o,s,xs.map fun x=>x.map Ab.frz,a,n,cap,e.map Ab.frz,Ab.frz y,u',by simp[lr,gM],hu,by simp[he],by simp[hy],hc,Node.frz h⟩
 | _=>exact h
theorem aq.cool (h:aq w I x v S):∃S':Nat->Prop,(∀b,S' b->S b)/\aq w (fun b=>I b\/(S b/\¬S' b)) (lr x) v S':=by
 have same:lr x=x->∃S':Nat->Prop,(∀b,S' b->S b)/\aq w (fun b=>I b\/(S b/\¬S' b)) (lr x) v S':=fun e=>by
  rw[e]
  exact⟨S,fun _ h=>h,h.mv (fun _ _=>rfl) (fun _ h=>.inl h) (fun _ _=>rfl) (fun _ h=>h)⟩
 cases h with
 | fr h =>
  cases x with
  | sl o s xs =>
   refine⟨fun _=>False,fun _ h=>h.elim,.fr ?_⟩
   cases o with
   | false =>
    have:=(h.mv (I':=fun b=>I b\/(S b/\¬False)) (fun _ _=>rfl) (fun _ h=>.inl h)).frz
    simpa[Ab.frz,lr]using this
   | true=>exact absurd h (by intro h;cases h)
  | _=>exact⟨S,fun _ h=>h,.fr (h.mv (fun _ _=>rfl) (fun _ h=>.inl h))⟩
 | @sl s xs a cap _ us vs ty F hS row hl hr hF hd =>
  refine⟨fun b=>b=a.block,fun b hb=>hb▸hS,?_⟩
  have e:lr (.sl true s xs)=.sl true s (xs.map fun x=>x.map Ab.frz):=by simp[lr,gM]
  rw[e]
  have hlen:(xs.map fun x=>x.map Ab.frz).length=xs.length:=by simp
  have hfl:(xs.map fun x=>x.map Ab.frz).flatten=xs.flatten.map Ab.frz:=by rw[List.map_flatten]
  have key:=aq.sl (w:=w) (I:=fun b=>I b\/(S b/\¬b=a.block)) (size:=s) (xs:=xs.map fun x=>x.map Ab.frz) (a:=a) (cap:=cap) (S:=fun b=>b=a.block) us vs ty (fun _ _=>False) rfl (by rw[hlen];exact row)
   (fun x hx => by
    obtain⟨y,hy,rfl⟩:=List.mem_map.1 hx
    rw[List.length_map]
    exact hl y hy)
   (fun k c hc => by
    rw[hfl,FW]at hc
    cases hk:xs.flatten[k]? with
    | none=>rw[hk]at hc;cases hc
    | some c' =>
     rw[hk]at hc
     cases hc
     exact .fr ((hr k c' hk).frz (fun _ h=>.inl h) (fun b hb=>.inr (hF k b hb))))
   (fun k b h=>h.elim) (fun k k' b h=>h.elim)
  rw[hlen]at key
  exact key
 | agg F hl h1 hr hF hd=>exact same rfl
 | buf h hS=>exact same rfl
 | tup F hl hr hF hd=>exact same rfl
theorem aq.app {s:Nat} {news:List (List TV)} (h:aq w I x v S) (hp:papp s x news=some y):∃n us,Own w s v n us/\n+news.length<=room/\slLen y=some (n+news.length)/\(∀a m c,v=.slice (some a) m c->S a.block)/\(∃a c,v=.slice a n c) /\
  ∀(w':World) (v':Value) (us2:List Value) (T:Nat->Nat->Prop),us2.length=news.length*s->(∀x∈news,x.length=s)->(∀(k:Nat) (c:TV),news.flatten[k]? = some c->aq w I c (us2.getD k undef) (T k)) ->
   (∀k k' b,T k b->T k' b->k=k')->(∀b,I b->b<w.heap.size)->(∀b,S b->b<w.heap.size/\¬I b)->(∀k b,T k b->b<w.heap.size/\¬S b)->Grown w w' s v v' (n+news.length) (us++us2) ->
   aq w' I y v' (fun b=>S b\/(b=w.heap.size/\b<w'.heap.size)\/∃k,T k b)/\(∃a c,v'=.slice a (n+news.length) c):=by
 have core:∀(xs:List (List TV)) (us:List Value) (F:Nat->Nat->Prop),(∀x∈xs,x.length=s)->us.length=xs.length*s->(∀(k:Nat) (c:TV),xs.flatten[k]? = some c->aq w I c (us.getD k undef) (F k)) ->
   (∀k b,F k b->S b/\∀a m c,v=.slice (some a) m c->b≠a.block)->(∀k k' b,F k b->F k' b->k=k') ->
   ∀(w':World) (a:Addr) (cap:Nat) (vs:Array Value) (ty:TypeId) (us2:List Value) (T:Nat->Nat->Prop),us2.length=news.length*s->(∀x∈news,x.length=s)->(∀(k:Nat) (c:TV),news.flatten[k]? = some c->aq w I c (us2.getD k undef) (T k)) ->
   (∀k k' b,T k b->T k' b->k=k')->(∀b,I b->b<w.heap.size)->(∀b,S b->b<w.heap.size/\¬I b)->(∀k b,T k b->b<w.heap.size/\¬S b)->(∀a m c,v=.slice (some a) m c->S a.block) ->
   Row w' a (xs.length+news.length) cap s (us++us2) vs ty->((∃a' n' c',v=.slice (some a') n' c'/\a'.block=a.block)\/a.block=w.heap.size) ->
   (∀k,k<w.heap.size->(∀a n c,v=.slice (some a) n c->k≠a.block)->w'.heap[k]? = w.heap[k]?) ->
   aq w' I (.sl true s (xs++news)) (.slice (some a) (xs.length+news.length) cap) (fun b=>S b\/(b=w.heap.size/\b<w'.heap.size)\/∃k,T k b):=by
  intro xs us F hl hul hr hF hd w' a cap vs ty us2 T hul2 hl2 hr2 hd2 hI hS hT hva hrow hab hblk
  have hfl:=cz hl
  have hfl2:=cz hl2
  have keep:∀b,b<w.heap.size->(∀a m c,v=.slice (some a) m c->b≠a.block)->w'.heap[b]? = w.heap[b]? := hblk
  have hIk:∀b,I b->w'.heap[b]? = w.heap[b]? := fun b hb=>keep b (hI b hb) (fun a m c hv e=>(hS _ (hva a m c hv)).2 (e▸hb))
  have hablk:S a.block\/a.block=w.heap.size:=by
   rcases hab with⟨a',n',c',h1,h2⟩|h1
   ·exact .inl (h2▸hva a' n' c' h1)
   ·exact .inr h1
  have hTa:∀k b,T k b->b≠a.block:=fun k b hb e=>by
   rcases hablk with h1|h1
   ·exact(hT k b hb).2 (e▸h1)
   ·have:=(hT k b hb).1;omega
  have hFa:∀k b,F k b->b≠a.block:=fun k b hb e=>by
   rcases hab with⟨a',n',c',h1,h2⟩|h1
   ·exact(hF k b hb).2 a' n' c' h1 (e.trans h2.symm)
   ·have:=(hS b (hF k b hb).1).1;omega
  have key:aq w' I (.sl true s (xs++news)) (.slice (some a) (xs++news).length cap) (fun b=>S b\/(b=w.heap.size/\b<w'.heap.size)\/∃k,T k b):=by
   refine .sl (us++us2) vs ty (fun k b=>if k<xs.length*s then F k b else T (k-xs.length*s) b) ?_ (by rw[List.length_append];exact hrow) (fun x hx=>?_) (fun k c hc=>?_) (fun k b hb=>?_) (fun k k' b hb hb'=>?_)
   ·rcases hablk with h1|h1
    ·exact .inl h1
    ·exact .inr (.inl ⟨h1,(FV.1 hrow.heap).1⟩)
   ·rcases List.mem_append.1 hx with h1|h1
    ·exact hl x h1
    ·exact hl2 x h1
   ·rw[List.flatten_append]at hc
    by_cases hk:k<xs.length*s
    ·simp only[hk,if_true]
     rw[F3 (by omega)]at hc
     have:=hr k c hc
     rw[F7,F3 (by omega),<-F7]
     exact this.mv hIk (fun _ h=>h) (fun b hb=>keep b (hS b (hF k b hb).1).1 (hF k b hb).2) (fun _ h=>h)
    ·simp only[hk,if_false]
     rw[F4 (by omega),hfl]at hc
     have:=hr2 _ c hc
     rw[F7,F4 (by omega),hul,<-F7]
     exact this.mv hIk (fun _ h=>h) (fun b hb=>keep b (hT _ b hb).1 (fun a' m c' hv e=>(hT _ b hb).2 (e▸hva a' m c' hv))) (fun _ h=>h)
   ·by_cases hk:k<xs.length*s
    ·simp only[hk,if_true]at hb
     exact⟨.inl (hF k b hb).1,hFa k b hb⟩
    ·simp only[hk,if_false]at hb
     exact⟨.inr (.inr ⟨_,hb⟩),hTa _ b hb⟩
   ·by_cases hk:k<xs.length*s<;>by_cases hk':k'<xs.length*s
    ·simp only[hk,hk',if_true]at hb hb'
     exact hd _ _ b hb hb'
    ·simp only[hk,hk',if_true,if_false]at hb hb'
     exact absurd (hF k b hb).1 (hT _ b hb').2
    ·simp only[hk,hk',if_true,if_false]at hb hb'
     exact absurd (hF k' b hb').1 (hT _ b hb).2
    ·simp only[hk,hk',if_false]at hb hb'
     have:=hd2 _ _ b hb hb'
     omega
  rwa[List.length_append]at key
 unfold papp at hp
 split at hp
 ·split at hp
  ·rename_i hroom
   simp only[FR]at hp
   subst hp
   have:=bq h
   subst this
   refine⟨0,[],.inl ⟨rfl,rfl,rfl⟩,by omega,?_,fun a m c hv=>(by cases hv),⟨none,0,rfl⟩,?_⟩
   ·cases news<;>simp[Bc,slLen,bc]
   intro w' v' us2 T hul2 hl2 hr2 hd2 hI hS hT hg
   rcases hg.form with⟨e1,e2,e3,e4,e5⟩|⟨a,cap,vs,ty,e1,hrow,hab⟩
   ·have:news=[]:=List.eq_nil_of_length_eq_zero (by omega)
    subst this
    subst e1
    exact⟨.fr (.lit _),none,0,rfl⟩
   ·subst e1
    have hab':a.block=w.heap.size:=by
     rcases hab with⟨a',n',c',h1,h2⟩|h1
     ·cases h1
     ·exact h1
    have r:=core [] [] (fun _ _=>False) (by simp) (by simp) (by simp) (fun _ _ h=>h.elim) (fun _ _ _ h=>h.elim) w' a cap vs ty us2 T hul2 hl2 hr2 hd2 hI hS hT (fun a m c hv=>by cases hv) (by simpa using hrow) (.inr hab') hg.block
    simp only[List.length_nil,Nat.zero_add,List.nil_append]at r ⊢
    refine⟨?_,_,_,rfl⟩
    cases hn:news with
    | nil=>subst hn;have:=hg.keep rfl;cases this
    | cons z l=>rw[hn]at r;simpa[Bc]using r
  ·cases hp
 ·rename_i s' xs
  split at hp
  ·rename_i hc
   obtain⟨rfl,hroom⟩:=hc
   simp only[FR]at hp
   subst hp
   cases h with
   | fr h=>cases h
   | @sl _ _ a cap S us vs ty F hS row hl hr hF hd =>
    refine⟨xs.length,us,.inr ⟨a,cap,vs,ty,rfl,row⟩,hroom,by simp[slLen],fun a' m c hv=>by cases hv;exact hS,⟨_,_,rfl⟩,?_⟩
    intro w' v' us2 T hul2 hl2 hr2 hd2 hI hS' hT hg
    rcases hg.form with⟨e1,e2,e3,e4,e5⟩|⟨a2,cap2,vs2,ty2,e1,hrow2,hab⟩
    ·cases e2
    ·subst e1
     exact⟨core xs us F hl row.len hr (fun k b hb=>⟨(hF k b hb).1,fun a' m c hv=>by cases hv;exact(hF k b hb).2⟩) hd w' a2 cap2 vs2 ty2 us2 T hul2 hl2 hr2 hd2 hI hS' hT (fun a' m c hv=>by cases hv;exact hS) hrow2 hab hg.block,_,_,rfl⟩
  ·cases hp
 ·cases hp
end
end Go.Ab
end
section
namespace Go.Ab
open Go.RowKit
structure Forn where
 at_:Nat->Option Obj
 y:Nat->Nat
instance:CoeFun Forn (fun _=>Nat->Option Obj):=⟨Forn.at_⟩
structure Gh where
 I:Nat->Prop
 ρ:Nat->Nat->Value
 β:Nat->Nat
 φ:Nat->Nat->Nat->Prop
 O:Forn
def nY (v:Value):Prop:=∃a l c,v=.slice a l c
def vr (nd:Option (Nat × Nat)) (lo len:Nat) (u v:Value):Prop :=
 match nd with
 | some (s,n)=>lo+len<=n/\v=cut s lo len u
 | none=>lo=0/\len=0/\u=bc/\v=bc
def EV (w:World) (b:Nat) (ty:TypeId):Prop:=∃vs fr,w.heap[b]? = some (.cells vs ty fr)
def nn (w:World) (g:Gh) (p:Addr) (u:Value):Prop :=
 (g.I p.block/\w.cell? p=some u)\/∃ob,g.O p.block=some ob/\∀w':World,w'.heap[p.block]? = some ob->w'.cell? p=some u
def bW (w:World) (g:Gh) (look:Look):CA->Value->Prop
 | .t x,v=>Rep w g.I x v/\v.oneCell'=true
 | .ptr i off,v=>∃cs,look i=some (.cells cs)/\v=.pointer (some ⟨g.β i,off,none⟩)
 | .ref x off, v => ∃ (a : Addr) (cell : Nat → Value), v = .pointer (some (a.add off)) ∧
   ∀(j:Nat) (c:TV),x[j]? = some c->nn w g (a.add j) (cell j)/\(cell j).oneCell'=true/\Rep w g.I c (cell j)
 | .tptr i r p k j,v=>∃xs x a l cap s n,look i=some (.tree xs)/\xs[r]? = some x/\Node w p x (g.ρ i r) (.slice (some a) l cap) (some (s,n))/\k<n/\v=.pointer (some (a.add (k*s+j)))
 | .sref i r p,v=>∃xs x nd,look i=some (.tree xs)/\xs[r]? = some x/\Node w p x (g.ρ i r) v nd/\nY v
 | .swin i r p lo len,v=>∃xs x u nd,look i=some (.tree xs)/\xs[r]? = some x/\Node w p x (g.ρ i r) u nd/\nY u/\vr nd lo len u v
 | .may i ty,v=>∃cs,look i=some (.cells cs)/\EV w (g.β i) ty/\(v=.pointer none\/v=.pointer (some ⟨g.β i,0,none⟩))
 | .aptr i off len n,v=>∃cs,look i=some (.cells cs)/\n<len/\v=.pointer (some ⟨g.β i,off+n,none⟩)
 | .yl n,v=>v=.func (.yield (g.O.y n)) #[] #[]
 | .ifp ty i,v=>∃cs,look i=some (.cells cs)/\v=.iface ty (.pointer (some ⟨g.β i,0,none⟩))
 | .psl i len,v=>∃cs,look i=some (.cells cs)/\v=.slice (some ⟨g.β i,0,none⟩) len len
 | .fn1 f i,v=>∃cs,look i=some (.cells cs)/\v=.func (.func f) #[] #[.pointer (some ⟨g.β i,0,none⟩)]
 | .undef,v=>v=undef
 | .junk,_=>True
def CR (w:World) (g:Gh) (look:Look) (cs:List CA) (vs:List Value):Prop :=
 vs.length=cs.length/\∀(j:Nat) (c:CA) (u:Value),cs[j]? = some c->vs[j]? = some u->bW w g look c u/\u.oneCell'=true
def lP (w:World) (g:Gh) (look:Look):Bool->List CA->Value->Prop
 | true,cs,v=>∃vs:Array Value,v=.agg vs/\CR w g look cs vs.toList
 | false,cs,v=>∃c,cs=[c]/\bW w g look c v/\v.oneCell'=true
def bX (w:World) (g:Gh) (look:Look):AV->Value->Prop
 | .one c,v=>bW w g look c v
 | .agg cs,v=>lP w g look true cs v
 | .tv x,v=>Rep w g.I x v
 | .bl b,v=>v=.bool b
 | .tups l,v=>∃vs:Array Value,v=.tuple vs/\vs.size=l.length/\∀(j:Nat) (b:Bool) (c:List CA),l[j]? = some (b,c)->lP w g look b c (vs.getD j undef)
 | .clo f cs,v=>∃vs:Array Value,v=.func (.func f) #[] vs/\CR w g look cs vs.toList
def CA.okP (ok:Nat->Nat->Way->Prop):CA->Prop
 | .tptr i r p _ _=>ok i r p
 | .sref i r p=>ok i r p
 | .swin i r p _ _=>ok i r p
 | _=>True
structure Mv (ok:Nat->Nat->Way->Prop) (w:World) (g:Gh) (look:Look) (w':World) (g':Gh) (look':Look):Prop where
 heap:∀b,g.I b->w'.heap[b]? = w.heap[b]?
 sub:∀b,g.I b->g'.I b
 cells:∀i cs,look i=some (.cells cs)->∃cs',look' i=some (.cells cs')/\g'.β i=g.β i
 tyAt:∀i cs ty,look i=some (.cells cs)->EV w (g.β i) ty->EV w' (g.β i) ty
 tree:∀i r p xs x v nd,look i=some (.tree xs)->xs[r]? = some x->ok i r p->nY v->Node w p x (g.ρ i r) v nd->∃xs' x',look' i=some (.tree xs')/\xs'[r]? = some x'/\Node w' p x' (g'.ρ i r) v nd
 out:g'.O=g.O
theorem nn.mv {w w':World} {g g':Gh} (hh:∀b,g.I b->w'.heap[b]? = w.heap[b]?) (hI:∀b,g.I b->g'.I b) (hO:g'.O=g.O) {p:Addr} {u:Value} (h:nn w g p u):nn w' g' p u:=by
 rcases h with⟨h1,h2⟩|⟨ob,h1,h2⟩
 ·exact .inl ⟨hI _ h1,by rw[<-h2];exact World.cell?_of_block (hh _ h1)⟩
 ·exact .inr ⟨ob,by rw[hO];exact h1,h2⟩
section
variable {w w':World} {g g':Gh} {look look':Look} {ok:Nat->Nat->Way->Prop}
theorem bW.mv (m:Mv ok w g look w' g' look'):∀{c:CA} {v:Value},c.okP ok->bW w g look c v->bW w' g' look' c v
 | .t x,v,_,⟨h,h1⟩=>⟨h.mv m.heap m.sub,h1⟩
 | .ptr i off,v,_,⟨cs,hl,hv⟩=>by
  obtain⟨cs',h1,h2⟩:=m.cells i cs hl
  exact⟨cs',h1,by rw[h2];exact hv⟩
 | .ref x off,v,_,⟨a,cell,hv,h⟩ =>
  ⟨a,cell,hv,fun j c hj=>⟨(h j c hj).1.mv m.heap m.sub m.out,(h j c hj).2.1,(h j c hj).2.2.mv m.heap m.sub⟩⟩
 | .tptr i r p k j,v,ho,⟨xs,x,a,l,cap,s,n,hl,hx,hn,hk,hv⟩=>by
  obtain⟨xs',x',h1,h2,h3⟩:=m.tree i r p xs x _ _ hl hx ho ⟨_,_,_,rfl⟩ hn
  exact⟨xs',x',a,l,cap,s,n,h1,h2,h3,hk,hv⟩
 | .sref i r p,v,ho,⟨xs,x,nd,hl,hx,hn,hv⟩=>by
  obtain⟨xs',x',h1,h2,h3⟩:=m.tree i r p xs x _ _ hl hx ho hv hn
  exact⟨xs',x',nd,h1,h2,h3,hv⟩
 | .swin i r p lo len,v,ho,⟨xs,x,u,nd,hl,hx,hn,hu,hw⟩=>by
  obtain⟨xs',x',h1,h2,h3⟩:=m.tree i r p xs x _ _ hl hx ho hu hn
  exact⟨xs',x',u,nd,h1,h2,h3,hu,hw⟩
 | .may i ty,v,_,⟨cs,hl,ht,hv⟩=>by
  obtain⟨cs',h1,h2⟩:=m.cells i cs hl
  exact⟨cs',h1,by rw[h2];exact m.tyAt i cs ty hl ht,by rw[h2];exact hv⟩
 | .aptr i off len n,v,_,⟨cs,hl,hn,hv⟩=>by
  obtain⟨cs',h1,h2⟩:=m.cells i cs hl
  exact⟨cs',h1,hn,by rw[h2];exact hv⟩
 | .yl n,v,_,h=>by show v=.func (.yield (g'.O.y n)) #[] #[];rw[m.out];exact h
 | .ifp ty i,v,_,⟨cs,hl,hv⟩=>by
  obtain⟨cs',h1,h2⟩:=m.cells i cs hl
  exact⟨cs',h1,by rw[h2];exact hv⟩
 | .fn1 f i,v,_,⟨cs,hl,hv⟩=>by
  obtain⟨cs',h1,h2⟩:=m.cells i cs hl
  exact⟨cs',h1,by rw[h2];exact hv⟩
 | .psl i n,v,_,⟨cs,hl,hv⟩=>by
  obtain⟨cs',h1,h2⟩:=m.cells i cs hl
  exact⟨cs',h1,by rw[h2];exact hv⟩
 | .undef,v,_,h=>h
 | .junk,v,_,h=>h
theorem rT (f:CA->CA):∀(l:List CA) (j:Nat),(mapC f l)[j]? = (l[j]?).map f
 | [],j=>by simp[mapC]
 | c::l,0=>rfl
 | c::l,j+1=>by simp[mapC,rT f l j]
theorem nB (f:CA->CA) (l:List CA):(mapC f l).length=l.length:=by
 induction l with
 | nil=>rfl
 | cons c l ih=>simp[mapC,ih]
theorem yD (f:CA->CA):∀(l:List (Bool × List CA)) (j:Nat),(jD f l)[j]? = (l[j]?).map fun p=>(p.1,mapC f p.2)
 | [],j=>by simp[jD]
 | (b,c)::l,0=>rfl
 | (b,c)::l,j+1=>by simp[jD,yD f l j]
theorem C9 (f:CA->CA) (l:List (Bool × List CA)):(jD f l).length=l.length:=by
 induction l with
 | nil=>rfl
 | cons c l ih=>obtain⟨b,c⟩:=c;simp[jD,ih]
theorem mG (f:CA->CA):∀(l:List AV) (j:Nat),(cg f l)[j]? = (l[j]?).map (AV.b8 f)
 | [],j=>by simp[cg]
 | c::l,0=>rfl
 | c::l,j+1=>by simp[cg,mG f l j]
theorem bT (f:CA->CA) (l:List AV):(cg f l).length=l.length:=by
 induction l with
 | nil=>rfl
 | cons c l ih=>simp[cg,ih]
theorem pG (f:CA->CA):∀(l:List (Option BC)) (j:Nat),(eg f l)[j]? = (l[j]?).map (Option.map (BC.bS f))
 | [],j=>by simp[eg]
 | some b::l,0=>rfl
 | none::l,0=>rfl
 | some b::l,j+1=>by simp[eg,pG f l j]
 | none::l,j+1=>by simp[eg,pG f l j]
theorem l9 (f:CA->CA) (l:List (Option BC)):(eg f l).length=l.length:=by
 induction l with
 | nil=>rfl
 | cons c l ih=>cases c<;>simp[eg,ih]
theorem rb (l:List CA):mapC id l=l:=by
 induction l with
 | nil=>rfl
 | cons c l ih=>simp[mapC,ih]
theorem AH (v:AV):v.b8 id=v:=by
 cases v with
 | tups l =>
  have:∀l:List (Bool × List CA),jD id l=l:=fun l=>by
   induction l with
   | nil=>rfl
   | cons c l ih=>obtain⟨b,c⟩:=c;simp[jD,ih,rb]
  simp[AV.b8,this]
 | _=>simp[AV.b8,rb]
theorem CR.mapC {f:CA->CA} (hf:∀c v,bW w g look c v->bW w' g' look' (f c) v) {cs:List CA} {vs:List Value} (h:CR w g look cs vs):CR w' g' look' (Ab.mapC f cs) vs:=by
 refine⟨by rw[nB];exact h.1,fun j c u hc hu=>?_⟩
 rw[rT]at hc
 cases hj:cs[j]? with
 | none=>simp[hj]at hc
 | some c' =>
  simp only[hj,F6,FR]at hc
  subst hc
  exact⟨hf _ _ (h.2 j c' u hj hu).1,(h.2 j c' u hj hu).2⟩
theorem lP.mapC {f:CA->CA} (hf:∀c v,bW w g look c v->bW w' g' look' (f c) v):∀{b:Bool} {cs:List CA} {v:Value},lP w g look b cs v->lP w' g' look' b (Ab.mapC f cs) v
 | true,cs,v,⟨vs,h1,h2⟩=>⟨vs,h1,h2.mapC hf⟩
 | false,cs,v,⟨c,h1,h2,h3⟩=>⟨f c,by rw[h1];rfl,hf _ _ h2,h3⟩
theorem bX.b8 {f:CA->CA} (hf:∀c v,bW w g look c v->bW w' g' look' (f c) v) (hh:∀b,g.I b->w'.heap[b]? = w.heap[b]?) (hI:∀b,g.I b->g'.I b) :
  ∀{x:AV} {v:Value},bX w g look x v->bX w' g' look' (x.b8 f) v
 | .one c,v,h=>hf c v h
 | .agg cs,v,h=>lP.mapC (b:=true) hf h
 | .tv x,v,h=>Rep.mv hh hI h
 | .bl b,v,h=>h
 | .tups l, v, ⟨vs, h1, h2, h3⟩ => by
  refine⟨vs,h1,by rw[C9];exact h2,fun j b c hj=>?_⟩
  rw[yD]at hj
  cases hl:l[j]? with
  | none=>simp[hl]at hj
  | some p =>
   obtain⟨b',c'⟩:=p
   simp only[hl,F6,FR,Prod.mk.injEq]at hj
   obtain⟨rfl,rfl⟩:=hj
   exact(h3 j b' c' hl).mapC hf
 | .clo f cs,v,⟨vs,h1,h2⟩=>⟨vs,h1,h2.mapC hf⟩
theorem bX.mv (m:Mv (fun _ _ _=>True) w g look w' g' look') {x:AV} {v:Value} (h:bX w g look x v):bX w' g' look' x v:=by
 have:=h.b8 (f:=id) (w':=w') (g':=g') (look':=look') (fun c v hc=>bW.mv m (by cases c<;>trivial) hc) m.heap m.sub
 rwa[AH]at this
theorem CR.mv (m:Mv (fun _ _ _=>True) w g look w' g' look') {cs:List CA} {vs:List Value} (h:CR w g look cs vs):CR w' g' look' cs vs:=by
 have:=h.mapC (f:=id) (w':=w') (g':=g') (look':=look') (fun c v hc=>bW.mv m (by cases c<;>trivial) hc)
 rwa[rb]at this
end
def Foot (g:Gh) (look:Look) (i b:Nat):Prop:=(∃cs,look i=some (.cells cs)/\b=g.β i)\/∃xs r,look i=some (.tree xs)/\r<xs.length/\g.φ i r b
structure Laid where
 P:World->(Nat->Prop)->Prop
 mv:∀{w w':World} {I I':Nat->Prop},(∀b,I b->w'.heap[b]? = w.heap[b]?)->(∀b,I b->I' b)->P w I->P w' I'
structure Bs where
 w:World
 L:Nat->Prop
 G:Laid
 ds:List Deferred:=[]
 Y:Nat->Nat:=fun _=>0
abbrev Bs.of (w:World) (L:Nat->Prop) (G:Laid):Bs:={ w:=w,L:=L,G:=G }
def Bs.New (B:Bs) (b:Nat):Prop:=B.w.heap.size<=b\/B.L b
structure Bs.Bel (B:Bs) (w':World):Prop where
 os:w'.os=B.w.os
 tape:w'.tape=B.w.tape
 output:w'.output=B.w.output
 size:B.w.heap.size<=w'.heap.size
 block:∀k,k<B.w.heap.size->¬B.L k->w'.heap[k]? = B.w.heap[k]?
theorem Bs.Bel.refl (B:Bs):B.Bel B.w:=⟨rfl,rfl,rfl,Nat.le_refl _,fun _ _ _=>rfl⟩
theorem Bs.New.of_le {B:Bs} {w:World} (h:B.Bel w) {b:Nat} (hb:w.heap.size<=b):B.New b:=.inl (Nat.le_trans h.size hb)
theorem Bs.Bel.step {B:Bs} {w w':World} (h:B.Bel w) (k:Below w.heap.size w w'):B.Bel w' :=
 ⟨k.os.trans h.os,k.tape.trans h.tape,k.output.trans h.output,Nat.le_trans h.size k.size,fun i hi hl=>(k.block i (Nat.lt_of_lt_of_le hi h.size)).trans (h.block i hi hl)⟩
theorem Bs.Bel.but {B:Bs} {w w':World} (h:B.Bel w) (ho:w'.os=w.os) (ht:w'.tape=w.tape) (hu:w'.output=w.output) (hs:w.heap.size<=w'.heap.size) (k:∀i,i<w.heap.size->¬B.New i->w'.heap[i]? = w.heap[i]?):B.Bel w' :=
 ⟨ho.trans h.os,ht.trans h.tape,hu.trans h.output,Nat.le_trans h.size hs,fun i hi hl=>(k i (Nat.lt_of_lt_of_le hi h.size) (fun e=>e.elim (fun e=>by omega) hl)).trans (h.block i hi hl)⟩
theorem Bs.Bel.setRow {B:Bs} {w:World} {g:Nat} (h:B.Bel w) (hg:B.New g) (cs:Array Value):B.Bel (w.setRow g cs) :=
 h.but rfl rfl rfl (by simp[World.setRow]) fun i _ hi=>setRow_other w g i cs (fun e=>hi (e▸hg))
def Bs.Ok (B:Bs) (I0:Nat->Prop):Prop:=(∀b,I0 b->b<B.w.heap.size/\¬B.L b)/\B.G.P B.w I0
structure al (w0:Bs) (I0 R:Nat->Prop) (g:Gh) (st:ASt) (a:Act) (ov:List Value) (w:World):Prop where
 below:w0.Bel w
 sub:∀b,I0 b->g.I b
 lt:∀b,g.I b->b<w.heap.size
 old:∀b,¬w0.New b->g.I b->I0 b
 len:a.tmps.size=st.slots.length
 defers:a.defers=w0.ds
 slots:∀(t:Nat) (v:AV),st.slots[t]? = some v->bX w g st.look v (a.tmps.getD t undef)
 olen:ov.length=st.out.length
 outs:∀(t:Nat) (v:AV),st.out[t]? = some v->bX w g st.look v (ov.getD t undef)
 cells:∀(i:Nat) (cs:List CA),st.look i=some (.cells cs)->∃vs ty,w.heap[g.β i]? = some (.cells vs ty (0,0))/\CR w g st.look cs vs.toList
 trees:∀(i:Nat) (xs:List TV),st.look i=some (.tree xs)->∀(r:Nat) (x:TV),xs[r]? = some x->aq w g.I x (g.ρ i r) (g.φ i r)
 foot:∀i b,Foot g st.look i b->w0.New b/\b<w.heap.size/\¬g.I b/\¬R b
 apart:∀i j b,Foot g st.look i b->Foot g st.look j b->i=j
 apartR:∀i xs r r' b,st.look i=some (.tree xs)->r<xs.length->r'<xs.length->g.φ i r b->g.φ i r' b->r=r'
 res:∀b,R b->w0.New b/\b<w.heap.size/\¬g.I b
 base:w0.Ok I0
 out:(∀b ob,g.O b=some ob->w0.w.heap[b]? = some ob/\¬w0.L b)/\g.O.y=w0.Y
def Sim (w0:Bs) (I0:Nat->Prop) (st:ASt) (a:Act) (ov:List Value) (w:World):Prop:=∃g,al w0 I0 (fun _=>False) g st a ov w
section
variable {w0:Bs} {w w':World} {I0 R R':Nat->Prop} {g g':Gh} {st st':ASt} {a:Act} {ov:List Value}
theorem ag (st:ASt) (i j:Nat) (b:Option BC):(st.ac i b).look j=if i=j/\i<st.boxes.length then b else st.look j:=by
 simp only[ASt.look,ASt.ac,ah,bi,List.getElem?_set]
 by_cases h:i=j
 ·subst h
  by_cases h2:i<st.boxes.length<;>simp[h2]
 ·simp[h]
theorem tY (st:ASt) (i:Nat) (b c:Option BC):(st.ac i b).ac i c=st.ac i c:=by
 simp[ASt.ac,ah]
theorem bo (st:ASt) (d:Option Tmp) (v:AV):(st.put d v).look=st.look:=by cases d<;>rfl
theorem bU (st:ASt) (d:Option Tmp) (v:AV):(st.put d v).boxes=st.boxes:=by cases d<;>rfl
theorem ki (st:ASt) (d:Option Tmp) (v:AV):(st.put d v).out=st.out:=by cases d<;>rfl
theorem gF {st:ASt} {i:Nat} {b:BC} (h:st.look i=some b):i<st.boxes.length:=by
 rcases Nat.lt_or_ge i st.boxes.length with h'|h'
 ·exact h'
 ·simp[ASt.look,bi,F5 h']at h
theorem aS (st:ASt) (f:CA->CA) (i:Nat):(st.aE f).look i=(st.look i).map (BC.bS f):=by
 simp only[ASt.look,ASt.aE,bi,pG]
 cases st.boxes[i]? with
 | none=>rfl
 | some b=>cases b<;>rfl
theorem al.weaken (h:al w0 I0 R g st a ov w) (hR:∀b,R' b->R b):al w0 I0 R' g st a ov w :=
 ⟨h.below,h.sub,h.lt,h.old,h.len,h.defers,h.slots,h.olen,h.outs,h.cells,h.trees,fun i b hb=>by obtain⟨h1,h2,h3,h4⟩:=h.foot i b hb;exact⟨h1,h2,h3,fun hr=>h4 (hR b hr)⟩,h.apart,h.apartR,fun b hb=>h.res b (hR b hb),h.base,h.out⟩
theorem al.Eo (h:al w0 I0 R g st a ov w) {b:Nat} {ob:Obj} (ho:g.O b=some ob):w.heap[b]? = some ob:=by
 obtain⟨h1,h2⟩:=h.out.1 b ob ho
 rw[<-h1]
 exact h.below.block b (FV.1 h1).1 h2
theorem al.cellAt (h:al w0 I0 R g st a ov w) {p:Addr} {u:Value} (hc:nn w g p u):w.cell? p=some u:=by
 rcases hc with⟨_,h2⟩|⟨ob,h1,h2⟩
 ·exact h2
 ·exact h2 w (h.Eo h1)
theorem al.laid (h:al w0 I0 R g st a ov w) {I':Nat->Prop} (hI:∀b,g.I b->I' b):w0.G.P w I' :=
 w0.G.mv (fun b hb=>h.below.block b (h.base.1 b hb).1 (h.base.1 b hb).2) (fun b hb=>hI b (h.sub b hb)) h.base.2
theorem al.ev (h:al w0 I0 R g st a ov w) (x:Operand):bX w g st.look (st.ev x) (a.eval x):=by
 have con:∀v:Value,bX w g st.look (bif v.oneCell' then .one (.t (.lit v))else .tv (.lit v)) v:=fun v=>by
  cases h1:v.oneCell' with
  | true=>exact⟨.lit v,h1⟩
  | false=>exact .lit v
 cases x with
 | tmp t =>
  simp only[ASt.ev,Act.eval]
  cases ht:st.slots[t]? with
  | none=>rw[bi,ht];exact trivial
  | some v=>rw[b7 ht];exact h.slots t v ht
 | const v =>
  cases v with
  | bool b=>rfl
  | int k n=>exact con (.int k n)
  | float k n=>exact con (.float k n)
  | complex k n m=>exact con (.complex k n m)
  | string s=>exact con (.string s)
  | pointer p=>exact con (.pointer p)
  | slice p l c=>exact con (.slice p l c)
  | map r=>exact con (.map r)
  | chan r=>exact con (.chan r)
  | func f x y=>exact con (.func f x y)
  | nilFunc=>exact con .nilFunc
  | iface t v=>exact con (.iface t v)
  | nilIface=>exact con .nilIface
  | agg cs=>exact con (.agg cs)
  | tuple cs=>exact con (.tuple cs)
 | global g=>exact .lit _
 | func f=>exact .lit _
theorem oK (l:Array Value) (d t:Nat) (v:Value):(l.setIfInBounds d v).getD t undef=if d=t/\d<l.size then v else l.getD t undef:=by
 simp only[F8,Array.getElem?_setIfInBounds]
 by_cases h:d=t
 ·subst h
  by_cases h2:d<l.size<;>simp[h2]
 ·simp[h]
theorem al.put (h:al w0 I0 R g st a ov w) (d:Option Tmp) {v:AV} {u:Value} (hv:bX w g st.look v u):al w0 I0 R g (st.put d v) (a.put d u) ov w:=by
 cases d with
 | none=>exact h
 | some d =>
  refine⟨h.below,h.sub,h.lt,h.old,?_,h.defers,?_,h.olen,h.outs,h.cells,h.trees,h.foot,h.apart,h.apartR,h.res,h.base,h.out⟩
  ·simp[ASt.put,Act.put,ah,h.len]
  ·intro t x hx
   rw[bo]
   simp only[ASt.put,ah,List.getElem?_set]at hx
   simp only[Act.put,oK]
   by_cases hd:d=t
   ·subst hd
    by_cases h2:d<st.slots.length
    ·simp[h2]at hx
     subst hx
     simp[h.len,h2]
     exact hv
    ·simp[h2]at hx
   ·simp only[hd,if_false]at hx
    simp only[hd,false_and,if_false]
    exact h.slots t x hx
theorem xz {t:Nat} {u:Value} (h:a.tmps.getD t undef=u):a.put (some t) u=a:=by
 subst h
 simp only[Act.put]
 congr 1
 apply Array.ext_getElem?
 intro i
 rw[Array.getElem?_setIfInBounds]
 by_cases hi:t=i
 ·subst hi
  by_cases hl:t<a.tmps.size
  ·simp[hl]
  ·simp[hl]
 ·simp[hi]
theorem fO {f:CA->CA} (hf:∀c v,bW w g st.look c v->bW w' g' st'.look (f c) v) (hh:∀b,g.I b->w'.heap[b]? = w.heap[b]?) (hI:∀b,g.I b->g'.I b) {l:List AV} {vs:Nat->Value}
  (h:∀(t:Nat) (v:AV),l[t]? = some v->bX w g st.look v (vs t)):∀(t:Nat) (v:AV),(cg f l)[t]? = some v->bX w' g' st'.look v (vs t):=by
 intro t v hv
 rw[mG]at hv
 cases hl:l[t]? with
 | none=>simp[hl]at hv
 | some v' =>
  simp only[hl,F6,FR]at hv
  subst hv
  exact(h t v' hl).b8 hf hh hI
end
end Go.Ab
end
section
namespace Go.Ab
open Go.RowKit
section
variable {w0:Bs} {w w':World} {I0 R R':Nat->Prop} {g g':Gh} {st st':ASt} {a:Act} {ov:List Value}
theorem Co (l:List AV):cg id l=l:=by
 induction l with
 | nil=>rfl
 | cons c l ih=>simp[cg,ih,AH]
theorem CS (l:List (Option BC)):eg id l=l:=by
 induction l with
 | nil=>rfl
 | cons c l ih =>
  cases c with
  | none=>simp[eg,ih]
  | some b=>cases b<;>simp[eg,ih,BC.bS,rb]
theorem ci (st:ASt):st.aE id=st:=by
 obtain⟨a,b,c⟩:=st
 simp[ASt.aE,Co,CS]
theorem sB {f:CA->CA} {o:Option BC} {cs':List CA} (h:o.map (BC.bS f)=some (.cells cs')):∃cs,o=some (.cells cs)/\cs'=mapC f cs:=by
 cases o with
 | none=>simp at h
 | some b =>
  cases b with
  | cells cs=>simp[BC.bS]at h;exact⟨cs,rfl,h.symm⟩
  | tree xs=>simp[BC.bS]at h
theorem pl {f:CA->CA} {o:Option BC} {xs':List TV} (h:o.map (BC.bS f)=some (.tree xs')):o=some (.tree xs'):=by
 cases o with
 | none=>simp at h
 | some b =>
  cases b with
  | cells cs=>simp[BC.bS]at h
  | tree xs=>simp[BC.bS]at h;rw[h]
theorem al.change (hs:al w0 I0 R g st a ov w) {i:Nat} {b':BC} (hi:i<st.boxes.length) (f:CA->CA) (g':Gh) (w':World) (R':Nat->Prop)
  (hw:w0.Bel w') (hsz:w.heap.size<=w'.heap.size) (hk:∀b,b<w.heap.size->¬Foot g st.look i b->¬R b->w'.heap[b]? = w.heap[b]?)
  (hg:∀j,j≠i->g'.β j=g.β j/\g'.ρ j=g.ρ j/\g'.φ j=g.φ j)
  (hI:∀b,g.I b->g'.I b) (hIn:∀b,g'.I b->g.I b\/Foot g st.look i b) (hIf:∀b,g'.I b->¬Foot g' ((st.aE f).ac i (some b')).look i b)
  (hf:∀c v,bW w g st.look c v->bW w' g' ((st.aE f).ac i (some b')).look (f c) v)
  (hfoot:∀b,Foot g' ((st.aE f).ac i (some b')).look i b->Foot g st.look i b\/R b\/(w.heap.size<=b/\b<w'.heap.size))
  (hR:∀b,R' b->(R b\/Foot g st.look i b)/\¬Foot g' ((st.aE f).ac i (some b')).look i b/\¬g'.I b)
  (hcells:∀cs,b'=.cells cs->∃vs ty,w'.heap[g'.β i]? = some (.cells vs ty (0,0))/\CR w' g' ((st.aE f).ac i (some b')).look cs vs.toList)
  (htree:∀xs,b'=.tree xs->(∀(r:Nat) (x:TV),xs[r]? = some x->aq w' g'.I x (g'.ρ i r) (g'.φ i r))/\∀r r' b,r<xs.length->r'<xs.length->g'.φ i r b->g'.φ i r' b->r=r') (hO:g'.O=g.O:=by rfl) :
  al w0 I0 R' g' ((st.aE f).ac i (some b')) a ov w':=by
 have hlk:∀j,((st.aE f).ac i (some b')).look j=if i=j then some b' else(st.look j).map (BC.bS f):=fun j=>by
  rw[ag,aS]
  by_cases h:i=j
  ·subst h
   rw[if_pos ⟨rfl,by simp[ASt.aE,l9];exact hi⟩,if_pos rfl]
  ·rw[if_neg (fun h'=>h h'.1),if_neg h]
 have hF:∀j b,j≠i->Foot g' ((st.aE f).ac i (some b')).look j b->Foot g st.look j b:=by
  intro j b hj h
  rcases h with⟨cs,h1,h2⟩|⟨xs,r,h1,h2,h3⟩
  ·rw[hlk,if_neg (fun e=>hj e.symm)]at h1
   obtain⟨cs0,h4,_⟩:=sB h1
   exact .inl ⟨cs0,h4,by rw[<-(hg j hj).1];exact h2⟩
  ·rw[hlk,if_neg (fun e=>hj e.symm)]at h1
   exact .inr ⟨xs,r,pl h1,h2,by rw[<-(hg j hj).2.2];exact h3⟩
 have hIk:∀b,g.I b->w'.heap[b]? = w.heap[b]? := fun b hb=>hk b (hs.lt b hb) (fun h=>(hs.foot i b h).2.2.1 hb) (fun h=>(hs.res b h).2.2 hb)
 have hnew:∀b,Foot g st.look i b->w0.New b/\b<w.heap.size:=fun b hb=>⟨(hs.foot i b hb).1,(hs.foot i b hb).2.1⟩
 have hfi:∀b,Foot g' ((st.aE f).ac i (some b')).look i b->w0.New b/\b<w'.heap.size:=by
  intro b hb
  rcases hfoot b hb with h|h|h
  ·exact⟨(hnew b h).1,Nat.lt_of_lt_of_le (hnew b h).2 hsz⟩
  ·exact⟨(hs.res b h).1,Nat.lt_of_lt_of_le (hs.res b h).2.1 hsz⟩
  ·exact⟨.of_le hs.below h.1,h.2⟩
 have hout:∀i' j b,i'=i->j≠i->Foot g' ((st.aE f).ac i (some b')).look i' b->Foot g st.look j b->False:=by
  intro i' j b hi' hj h1 h2
  subst hi'
  rcases hfoot b h1 with h|h|h
  ·exact hj (hs.apart i' j b h h2).symm
  ·exact(hs.foot j b h2).2.2.2 h
  ·have:=(hs.foot j b h2).2.1;omega
 refine⟨hw,fun b hb=>hI b (hs.sub b hb),fun b hb=>?_,fun b hlt hb=>?_,by simp only[ASt.ac,ASt.aE,bT];exact hs.len,hs.defers,
  fO (vs:=fun t=>a.tmps.getD t undef) hf hIk hI hs.slots,by simp only[ASt.ac,ASt.aE,bT];exact hs.olen,fO (vs:=fun t=>ov.getD t undef) hf hIk hI hs.outs,?_,?_,?_,?_,?_,?_,hs.base,by rw[hO];exact hs.out⟩
 ·rcases hIn b hb with h|h
  ·exact Nat.lt_of_lt_of_le (hs.lt b h) hsz
  ·exact Nat.lt_of_lt_of_le (hnew b h).2 hsz
 ·rcases hIn b hb with h|h
  ·exact hs.old b hlt h
  ·exact absurd (hnew b h).1 hlt
 ·intro j cs hj
  rw[hlk]at hj
  by_cases hij:i=j
  ·subst hij
   rw[if_pos rfl]at hj
   exact hcells cs (Option.some.inj hj)
  ·rw[if_neg hij]at hj
   obtain⟨cs0,h1,h2⟩:=sB hj
   subst h2
   obtain⟨vs,ty,h3,h4⟩:=hs.cells j cs0 h1
   have hfj:Foot g st.look j (g.β j):=.inl ⟨cs0,h1,rfl⟩
   refine⟨vs,ty,?_,h4.mapC hf⟩
   rw[(hg j (fun e=>hij e.symm)).1,hk _ (hs.foot j _ hfj).2.1 (fun h=>hij (hs.apart i j _ h hfj)) (hs.foot j _ hfj).2.2.2]
   exact h3
 ·intro j xs hj r x hx
  rw[hlk]at hj
  by_cases hij:i=j
  ·subst hij
   rw[if_pos rfl]at hj
   exact(htree xs (Option.some.inj hj)).1 r x hx
  ·rw[if_neg hij]at hj
   have h1:=pl hj
   have hj':j≠i:=fun e=>hij e.symm
   rw[(hg j hj').2.1,(hg j hj').2.2]
   have hr:r<xs.length:=(FP.1 hx).1
   refine(hs.trees j xs h1 r x hx).mv hIk hI (fun b hb=>?_) (fun _ h=>h)
   have hfj:Foot g st.look j b:=.inr ⟨xs,r,h1,hr,hb⟩
   exact hk b (hs.foot j b hfj).2.1 (fun h=>hij (hs.apart i j b h hfj)) (hs.foot j b hfj).2.2.2
 ·intro j b hb
  by_cases hij:j=i
  ·subst hij
   exact⟨(hfi b hb).1,(hfi b hb).2,fun h=>hIf b h hb,fun h=>(hR b h).2.1 hb⟩
  ·have hfj:=hF j b hij hb
   obtain⟨h1,h2,h3,h4⟩:=hs.foot j b hfj
   refine⟨h1,Nat.lt_of_lt_of_le h2 hsz,fun h=>?_,fun h=>?_⟩
   ·rcases hIn b h with h5|h5
    ·exact h3 h5
    ·exact hij (hs.apart i j b h5 hfj).symm
   ·rcases(hR b h).1 with h5|h5
    ·exact h4 h5
    ·exact hij (hs.apart i j b h5 hfj).symm
 ·intro j k b hj hk'
  by_cases hji:j=i<;>by_cases hki:k=i
  ·rw[hji,hki]
  ·exact(hout j k b hji hki hj (hF k b hki hk')).elim
  ·exact(hout k j b hki hji hk' (hF j b hji hj)).elim
  ·exact hs.apart j k b (hF j b hji hj) (hF k b hki hk')
 ·intro j xs r r' b hj hr hr' hb hb'
  rw[hlk]at hj
  by_cases hij:i=j
  ·subst hij
   rw[if_pos rfl]at hj
   exact(htree xs (Option.some.inj hj)).2 r r' b hr hr' hb hb'
  ·rw[if_neg hij]at hj
   rw[(hg j (fun e=>hij e.symm)).2.2]at hb hb'
   exact hs.apartR j xs r r' b (pl hj) hr hr' hb hb'
 ·intro b hb
  obtain⟨h1,h2,h3⟩:=hR b hb
  rcases h1 with h|h
  ·exact⟨(hs.res b h).1,Nat.lt_of_lt_of_le (hs.res b h).2.1 hsz,h3⟩
  ·exact⟨(hnew b h).1,Nat.lt_of_lt_of_le (hnew b h).2 hsz,h3⟩
def Gh.setβ (g:Gh) (i b:Nat):Gh:=⟨g.I,g.ρ,fun j=>if j=i then b else g.β j,g.φ,g.O⟩
def Gh.kb (g:Gh) (i:Nat) (ρ:Nat->Value) (φ:Nat->Nat->Prop):Gh:=⟨g.I,fun j=>if j=i then ρ else g.ρ j,g.β,fun j=>if j=i then φ else g.φ j,g.O⟩
theorem bu {i:Nat} {b:BC} (h:st.bC i b=some st'):st.look i=none/\i<st.boxes.length/\st'=st.ac i (some b):=by
 unfold ASt.bC at h
 split at h
 ·cases h
 ·rename_i hl
  cases hb:i.blt st.boxes.length with
  | false=>simp[hb]at h
  | true=>simp only[hb,cond_true,FR]at h;exact⟨hl,by simpa using hb,h.symm⟩
theorem Mv.add (hs:al w0 I0 R g st a ov w) {i:Nat} {b:BC} (hi:i<st.boxes.length) (hn:st.look i=none) (hb:∀k,k<w.heap.size->¬R k->w'.heap[k]? = w.heap[k]?) {g':Gh} (hI:∀b,g.I b->g'.I b)
  (hg:∀j,j≠i->g'.β j=g.β j/\g'.ρ j=g.ρ j) (hO:g'.O=g.O:=by rfl):Mv (fun _ _ _=>True) w g st.look w' g' (st.ac i (some b)).look:=by
 have hlk:∀j b',st.look j=some b'->(st.ac i (some b)).look j=some b'/\j≠i:=fun j b' hj=>by
  have hne:j≠i:=fun e=>by subst e;rw[hn]at hj;cases hj
  rw[ag,if_neg (fun h=>hne h.1.symm)]
  exact⟨hj,hne⟩
 refine⟨fun k hk=>hb k (hs.lt k hk) (fun h=>(hs.res k h).2.2 hk),hI,fun j cs hj=>⟨cs,(hlk j _ hj).1,(hg j (hlk j _ hj).2).1⟩,fun j cs ty hj ht=>?_,fun j r p xs x v nd hj hx _ hv hnd=>⟨xs,x,(hlk j _ hj).1,hx,?_⟩,hO⟩
 ·obtain⟨vs,fr,h⟩:=ht
  have hf:=hs.foot j _ (.inl ⟨cs,hj,rfl⟩)
  exact⟨vs,fr,by rw[hb _ hf.2.1 hf.2.2.2];exact h⟩
 rw[(hg j (hlk j _ hj).2).2]
 have hr:r<xs.length:=(FP.1 hx).1
 exact Node.mv (hs.trees j xs hj r x hx) (fun k hk=>hb k (hs.lt k hk) (fun h=>(hs.res k h).2.2 hk)) (fun k hk=>hb k (hs.foot j k (.inr ⟨xs,r,hj,hr,hk⟩)).2.1 (hs.foot j k (.inr ⟨xs,r,hj,hr,hk⟩)).2.2.2) hnd
theorem al.tU (hs:al w0 I0 R g st a ov w) {i:Nat} {cs:List CA} (hi:i<st.boxes.length) (hn:st.look i=none) {vs:Array Value} {ty:TypeId} {k:Nat} (hb:Below w.heap.size w w') (hk:w.heap.size<=k)
  (hk2:k<w'.heap.size) (hh:w'.heap[k]? = some (.cells vs ty (0,0))) (hcr:CR w g st.look cs vs.toList) :
  al w0 I0 R (g.setβ i k) (st.ac i (some (.cells cs))) a ov w'/\Mv (fun _ _ _=>True) w g st.look w' (g.setβ i k) (st.ac i (some (.cells cs))).look:=by
 have m:Mv (fun _ _ _=>True) w g st.look w' (g.setβ i k) (st.ac i (some (.cells cs))).look:=Mv.add hs hi hn (fun k hk _=>hb.block k hk) (fun _ h=>h) (fun j hj=>⟨by simp[Gh.setβ,hj],rfl⟩)
 refine⟨?_,m⟩
 have hli:(st.ac i (some (.cells cs))).look i=some (.cells cs):=by rw[ag,if_pos ⟨rfl,hi⟩]
 have hfi:∀b,Foot (g.setβ i k) (st.ac i (some (.cells cs))).look i b->b=k:=by
  rintro b (⟨cs',h1,h2⟩|⟨xs,r,h1,_⟩)
  ·simpa[Gh.setβ]using h2
  ·rw[hli]at h1;cases h1
 have:=hs.change (b':=.cells cs) hi id (g.setβ i k) w' R (hs.below.step hb) hb.size (fun b hb' _ _=>hb.block b hb') (fun j hj=>⟨by simp[Gh.setβ,hj],rfl,rfl⟩) (fun _ h=>h) (fun _ h=>.inl h)
  (fun b hb1 hb2=>by rw[ci]at hb2;have:=hfi b hb2;subst this;have:=hs.lt _ hb1;omega)
  (fun c v hc=>by rw[ci];exact bW.mv m (by cases c<;>trivial) hc)
  (fun b hb2=>by rw[ci]at hb2;have:=hfi b hb2;subst this;exact .inr (.inr ⟨hk,hk2⟩))
  (fun b hb1=>⟨.inl hb1,fun hb2=>by rw[ci]at hb2;have:=hfi b hb2;subst this;have:=(hs.res _ hb1).2.1;omega,(hs.res b hb1).2.2⟩)
  (fun cs' h=>by cases h;rw[ci];exact⟨vs,ty,by simpa[Gh.setβ]using hh,hcr.mv m⟩) (fun xs h=>by cases h)
 rwa[ci]at this
theorem al.mI (hs:al w0 I0 R g st a ov w) {i:Nat} {xs:List TV} (hi:i<st.boxes.length) (hn:st.look i=none) (hw:w0.Bel w') (hsz:w.heap.size<=w'.heap.size) (hb:∀k,k<w.heap.size->¬R k->w'.heap[k]? = w.heap[k]?) (ρ:Nat->Value) (F:Nat->Nat->Prop)
  (hr:∀(r:Nat) (x:TV),xs[r]? = some x->aq w' g.I x (ρ r) (F r)) (hF:∀r b,r<xs.length->F r b->R b\/(w.heap.size<=b/\b<w'.heap.size)) (hd:∀r r' b,r<xs.length->r'<xs.length->F r b->F r' b->r=r') :
  al w0 I0 (fun _=>False) (g.kb i ρ F) (st.ac i (some (.tree xs))) a ov w'/\Mv (fun _ _ _=>True) w g st.look w' (g.kb i ρ F) (st.ac i (some (.tree xs))).look:=by
 have m:Mv (fun _ _ _=>True) w g st.look w' (g.kb i ρ F) (st.ac i (some (.tree xs))).look:=Mv.add hs hi hn hb (fun _ h=>h) (fun j hj=>⟨rfl,by simp[Gh.kb,hj]⟩)
 refine⟨?_,m⟩
 have hli:(st.ac i (some (.tree xs))).look i=some (.tree xs):=by rw[ag,if_pos ⟨rfl,hi⟩]
 have hfi:∀b,Foot (g.kb i ρ F) (st.ac i (some (.tree xs))).look i b->∃r,r<xs.length/\F r b:=by
  rintro b (⟨cs',h1,h2⟩|⟨xs',r,h1,h2,h3⟩)
  ·rw[hli]at h1;cases h1
  ·rw[hli]at h1
   cases h1
   exact⟨r,h2,by simpa[Gh.kb]using h3⟩
 have:=hs.change (b':=.tree xs) hi id (g.kb i ρ F) w' (fun _=>False) hw hsz (fun b hb' _ hr=>hb b hb' hr) (fun j hj=>⟨rfl,by simp[Gh.kb,hj],by simp[Gh.kb,hj]⟩) (fun _ h=>h) (fun _ h=>.inl h)
  (fun b hb1 hb2 => by
   rw[ci]at hb2
   obtain⟨r,h1,h2⟩:=hfi b hb2
   rcases hF r b h1 h2 with h|h
   ·exact(hs.res b h).2.2 hb1
   ·have:=hs.lt b hb1;omega)
  (fun c v hc=>by rw[ci];exact bW.mv m (by cases c<;>trivial) hc)
  (fun b hb2 => by
   rw[ci]at hb2
   obtain⟨r,h1,h2⟩:=hfi b hb2
   exact .inr (hF r b h1 h2))
  (fun b hb1=>hb1.elim) (fun cs' h=>by cases h)
  (fun xs' h=>by cases h;exact⟨fun r x hx=>by simpa[Gh.kb]using hr r x hx,fun r r' b h1 h2 h3 h4=>hd r r' b h1 h2 (by simpa[Gh.kb]using h3) (by simpa[Gh.kb]using h4)⟩)
 rwa[ci]at this
end
end Go.Ab
end
section
namespace Go.Ab
open Go.RowKit
section
variable {w0:Bs} {w w':World} {I0 R R':Nat->Prop} {g g':Gh} {st st':ASt} {a:Act} {ov:List Value}
theorem fk (st:ASt) (f:CA->CA):(st.aE f).boxes.length=st.boxes.length:=by simp[ASt.aE,l9]
theorem al.gd (hs:al w0 I0 R g st a ov w) {i:Nat} {cs cs':List CA} (hl:st.look i=some (.cells cs)) {vs':Array Value} {ty:TypeId} (hw:w0.Bel w') (hsz:w.heap.size<=w'.heap.size)
  (hk:∀b,b≠g.β i->w'.heap[b]? = w.heap[b]?) (hh:w'.heap[g.β i]? = some (.cells vs' ty (0,0))) (hty:EV w (g.β i) ty) (hcr:CR w g st.look cs' vs'.toList) :
  al w0 I0 R g (st.ac i (some (.cells cs'))) a ov w':=by
 have hi:=gF hl
 have hlk:∀j,(st.ac i (some (.cells cs'))).look j=if i=j then some (.cells cs')else st.look j:=fun j=>by
  rw[ag]
  by_cases h:i=j
  ·rw[if_pos ⟨h,hi⟩,if_pos h]
  ·rw[if_neg (fun h'=>h h'.1),if_neg h]
 have hfi:Foot g st.look i (g.β i):=.inl ⟨cs,hl,rfl⟩
 have m:Mv (fun _ _ _=>True) w g st.look w' g (st.ac i (some (.cells cs'))).look:=by
  refine⟨fun b hb=>hk b (fun e=>(hs.foot i _ hfi).2.2.1 (e▸hb)),fun _ h=>h,fun j c hj=>?_,fun j c t hj ht=>?_,fun j r p xs x v nd hj hx _ hv hn=>?_,rfl⟩
  ·rw[hlk]
   by_cases h:i=j
   ·subst h;exact⟨cs',by simp,rfl⟩
   ·exact⟨c,by rw[if_neg h];exact hj,rfl⟩
  ·obtain⟨us,fr,h1⟩:=ht
   by_cases h:g.β j=g.β i
   ·obtain⟨us',fr',h2⟩:=hty
    rw[h]at h1 ⊢
    rw[h2]at h1
    cases h1
    exact⟨vs',_,hh⟩
   ·exact⟨us,fr,by rw[hk _ h];exact h1⟩
  ·have hne:i≠j:=fun e=>by subst e;rw[hl]at hj;cases hj
   have hr:r<xs.length:=(FP.1 hx).1
   refine⟨xs,x,by rw[hlk,if_neg hne];exact hj,hx,Node.mv (hs.trees j xs hj r x hx) (fun b hb=>hk b (fun e=>(hs.foot i _ hfi).2.2.1 (e▸hb))) (fun b hb=>hk b (fun e=>?_)) hn⟩
   subst e
   exact hne (hs.apart i j _ hfi (.inr ⟨xs,r,hj,hr,hb⟩))
 have hF:∀b,Foot g (st.ac i (some (.cells cs'))).look i b->b=g.β i:=by
  rintro b (⟨c,h1,h2⟩|⟨xs,r,h1,_⟩)
  ·exact h2
  ·rw[hlk,if_pos rfl]at h1;cases h1
 have:=hs.change (b':=.cells cs') hi id g w' R hw hsz (fun b _ hb _=>hk b (fun e=>hb (e▸hfi))) (fun j _=>⟨rfl,rfl,rfl⟩) (fun _ h=>h) (fun _ h=>.inl h)
  (fun b hb1 hb2=>by rw[ci]at hb2;rw[hF b hb2]at hb1;exact(hs.foot i _ hfi).2.2.1 hb1)
  (fun c v hc=>by rw[ci];exact bW.mv m (by cases c<;>trivial) hc)
  (fun b hb2=>by rw[ci]at hb2;rw[hF b hb2];exact .inl hfi)
  (fun b hb1=>⟨.inl hb1,fun hb2=>by rw[ci]at hb2;rw[hF b hb2]at hb1;exact(hs.foot i _ hfi).2.2.2 hb1,(hs.res b hb1).2.2⟩)
  (fun c h=>by cases h;rw[ci];exact⟨vs',ty,hh,hcr.mv m⟩) (fun xs h=>by cases h)
 rwa[ci]at this
def Gh.df (g:Gh) (I':Nat->Prop) (i r:Nat) (u:Value) (S:Nat->Prop):Gh :=
 ⟨I',fun j k=>if j=i/\k=r then u else g.ρ j k,g.β,fun j k=>if j=i/\k=r then S else g.φ j k,g.O⟩
theorem al.gc (hs:al w0 I0 R g st a ov w) {i r:Nat} {xs:List TV} {x:TV} (hl:st.look i=some (.tree xs)) (hx:xs[r]? = some x) (f:CA->CA) (ok:Way->Prop)
  (hf:∀c,(f c=c/\c.okP (fun i' r' p=>i'=i->r'=r->ok p))\/f c=.junk) {w':World} {x':TV} {u':Value} {S' R' I':Nat->Prop} (hr:aq w' I' x' u' S')
  (hnode:∀(p:Way) (v:Value) (nd:Option (Nat × Nat)),ok p->nY v->Node w p x (g.ρ i r) v nd->Node w' p x' u' v nd)
  (hw:w0.Bel w') (hsz:w.heap.size<=w'.heap.size) (hmem:∀b,b<w.heap.size->¬g.φ i r b->¬R b->w'.heap[b]? = w.heap[b]?) (hS:∀b,S' b->g.φ i r b\/R b\/(w.heap.size<=b/\b<w'.heap.size))
  (hR:∀b,R' b->(R b\/g.φ i r b)/\¬S' b/\¬I' b) (hI:∀b,g.I b->I' b) (hIn:∀b,I' b->g.I b\/g.φ i r b) (hIS:∀b,I' b->¬S' b) :
  al w0 I0 R' (g.df I' i r u' S') ((st.aE f).ac i (some (.tree (ai xs r x')))) a ov w' /\
   ∀c v,bW w g st.look c v->bW w' (g.df I' i r u' S') ((st.aE f).ac i (some (.tree (ai xs r x')))).look (f c) v:=by
 have hi:=gF hl
 have hrl:r<xs.length:=(FP.1 hx).1
 rw[ah]
 have hlk:∀j,((st.aE f).ac i (some (.tree (xs.set r x')))).look j=if i=j then some (.tree (xs.set r x'))else(st.look j).map (BC.bS f):=fun j=>by
  rw[ag,aS]
  by_cases h:i=j
  ·subst h
   rw[if_pos ⟨rfl,by rw[fk];exact hi⟩,if_pos rfl]
  ·rw[if_neg (fun h'=>h h'.1),if_neg h]
 have hfr:∀k b,k<xs.length->g.φ i k b->Foot g st.look i b:=fun k b hk hb=>.inr ⟨xs,k,hl,hk,hb⟩
 have hIk:∀b,g.I b->w'.heap[b]? = w.heap[b]? := fun b hb=>hmem b (hs.lt b hb) (fun h=>(hs.foot i b (hfr r b hrl h)).2.2.1 hb) (fun h=>(hs.res b h).2.2 hb)
 have hothers:∀(k:Nat) (y:TV),k≠r->xs[k]? = some y->∀b,g.φ i k b->w'.heap[b]? = w.heap[b]? := fun k y hk hy b hb=>by
  have hkl:=(FP.1 hy).1
  exact hmem b (hs.foot i b (hfr k b hkl hb)).2.1 (fun h=>hk (hs.apartR i xs k r b hl hkl hrl hb h)) (hs.foot i b (hfr k b hkl hb)).2.2.2
 have m : ∀ c v, bW w g st.look c v → bW w' (g.df I' i r u' S') ((st.aE f).ac i (some (.tree (xs.set r x')))).look (f c) v := by
  have mv:Mv (fun i' r' p=>i'=i->r'=r->ok p) w g st.look w' (g.df I' i r u' S') ((st.aE f).ac i (some (.tree (xs.set r x')))).look:=by
   refine⟨hIk,hI,fun j cs hj=>?_,fun j cs ty hj ht=>?_,fun j k p ys y v nd hj hy ho hv hn=>?_,rfl⟩
   ·have hne:i≠j:=fun e=>by subst e;rw[hl]at hj;cases hj
    exact⟨mapC f cs,by rw[hlk,if_neg hne,hj];rfl,rfl⟩
   ·obtain⟨us,fr,h1⟩:=ht
    have hne:i≠j:=fun e=>by subst e;rw[hl]at hj;cases hj
    have hfj:Foot g st.look j (g.β j):=.inl ⟨cs,hj,rfl⟩
    exact⟨us,fr,by rw[hmem _ (hs.foot j _ hfj).2.1 (fun h=>hne (hs.apart i j _ (hfr r _ hrl h) hfj)) (hs.foot j _ hfj).2.2.2];exact h1⟩
   ·by_cases hij:j=i
    ·subst hij
     rw[hl]at hj
     cases hj
     by_cases hkr:k=r
     ·subst hkr
      rw[hx]at hy
      cases hy
      refine⟨xs.set k x',x',by rw[hlk,if_pos rfl],by rw[List.getElem?_set_self hrl],?_⟩
      have:(g.df I' j k u' S').ρ j k=u':=by simp[Gh.df]
      rw[this]
      exact hnode p v nd (ho rfl rfl) hv hn
     ·refine⟨xs.set r x',y,by rw[hlk,if_pos rfl],by rw[List.getElem?_set_ne (fun h=>hkr h.symm)];exact hy,?_⟩
      have:(g.df I' j r u' S').ρ j k=g.ρ j k:=by simp[Gh.df,hkr]
      rw[this]
      exact Node.mv (hs.trees j xs hl k y hy) hIk (hothers k y hkr hy) hn
    ·have hne:i≠j:=fun e=>hij e.symm
     have hk:k<ys.length:=(FP.1 hy).1
     refine⟨ys,y,by rw[hlk,if_neg hne,hj];rfl,hy,?_⟩
     have:(g.df I' i r u' S').ρ j k=g.ρ j k:=by simp[Gh.df,hij]
     rw[this]
     refine Node.mv (hs.trees j ys hj k y hy) hIk (fun b hb=>?_) hn
     have hfj:Foot g st.look j b:=.inr ⟨ys,k,hj,hk,hb⟩
     exact hmem b (hs.foot j b hfj).2.1 (fun h=>hij (hs.apart i j b (hfr r b hrl h) hfj).symm) (hs.foot j b hfj).2.2.2
  intro c v hc
  rcases hf c with⟨h1,h2⟩|h1
  ·rw[h1]
   exact bW.mv mv h2 hc
  ·rw[h1]
   trivial
 refine⟨?_,m⟩
 have hF:∀b,Foot (g.df I' i r u' S') ((st.aE f).ac i (some (.tree (xs.set r x')))).look i b->S' b\/∃k,k≠r/\k<xs.length/\g.φ i k b:=by
  rintro b (⟨c,h1,h2⟩|⟨ys,k,h1,h2,h3⟩)
  ·rw[hlk,if_pos rfl]at h1;cases h1
  ·rw[hlk,if_pos rfl]at h1
   cases h1
   rw[List.length_set]at h2
   by_cases hk:k=r
   ·subst hk
    simp only[Gh.df,and_self,if_true]at h3
    exact .inl h3
   ·simp only[Gh.df,hk,and_false,if_false]at h3
    exact .inr ⟨k,hk,h2,h3⟩
 refine hs.change (b':=.tree (xs.set r x')) hi f (g.df I' i r u' S') w' R' hw hsz (fun b hb hn hr=>hmem b hb (fun h=>hn (hfr r b hrl h)) hr) (fun j hj=>⟨rfl,by funext k;simp[Gh.df,hj],by funext k;simp[Gh.df,hj]⟩) hI
  (fun b hb=>(hIn b hb).imp id (hfr r b hrl)) (fun b hb1 hb2=>?_) m (fun b hb2=>?_) (fun b hb1=>⟨(hR b hb1).1.imp id (hfr r b hrl),fun hb2=>?_,(hR b hb1).2.2⟩) (fun c h=>by cases h) (fun ys h=>?_)
 ·rcases hF b hb2 with h|⟨k,h1,h2,h3⟩
  ·exact hIS b hb1 h
  ·rcases hIn b hb1 with h4|h4
   ·exact(hs.foot i b (hfr k b h2 h3)).2.2.1 h4
   ·exact h1 (hs.apartR i xs k r b hl h2 hrl h3 h4)
 ·rcases hF b hb2 with h|⟨k,h1,h2,h3⟩
  ·exact(hS b h).imp (hfr r b hrl) id
  ·exact .inl (hfr k b h2 h3)
 ·rcases hF b hb2 with h|⟨k,h1,h2,h3⟩
  ·exact(hR b hb1).2.1 h
  ·rcases(hR b hb1).1 with h4|h4
   ·exact(hs.foot i b (hfr k b h2 h3)).2.2.2 h4
   ·exact h1 (hs.apartR i xs k r b hl h2 hrl h3 h4)
 ·cases h
  constructor
  ·intro k y hy
   by_cases hk:k=r
   ·subst hk
    rw[List.getElem?_set_self hrl]at hy
    cases hy
    simp only[Gh.df,and_self,if_true]
    exact hr
   ·rw[List.getElem?_set_ne (fun h=>hk h.symm)]at hy
    simp only[Gh.df,hk,and_false,if_false]
    exact(hs.trees i xs hl k y hy).mv hIk hI (hothers k y hk hy) (fun _ h=>h)
  ·intro k k' b h1 h2 h3 h4
   rw[List.length_set]at h1 h2
   have cross:∀k,k≠r->k<xs.length->g.φ i k b->S' b->False:=fun k hk hkl hb hsb=>by
    rcases hS b hsb with h|h|h
    ·exact hk (hs.apartR i xs k r b hl hkl hrl hb h)
    ·exact(hs.foot i b (hfr k b hkl hb)).2.2.2 h
    ·have:=(hs.foot i b (hfr k b hkl hb)).2.1;omega
   by_cases hk:k=r<;>by_cases hk':k'=r
   ·rw[hk,hk']
   ·subst hk
    simp only[Gh.df,and_self,if_true,hk',and_false,if_false]at h3 h4
    exact(cross k' hk' h2 h4 h3).elim
   ·subst hk'
    simp only[Gh.df,and_self,if_true,hk,and_false,if_false]at h3 h4
    exact(cross k hk h1 h3 h4).elim
   ·simp only[Gh.df,hk,hk',and_false,if_false]at h3 h4
    exact hs.apartR i xs k k' b hl h1 h2 h3 h4
theorem gG (i r:Nat) (js:List Nat) (strict:Bool) (c:CA):(c.drop i r js strict=c/\c.okP (fun i' r' p=>i'=i->r'=r->leads strict js p=false))\/c.drop i r js strict=.junk:=by
 have key:∀(i' r':Nat) (p:Way),dz i r js strict i' r' p=false->(i'=i->r'=r->leads strict js p=false):=by
  intro i' r' p h h1 h2
  subst h1 h2
  simpa[dz]using h
 cases c with
 | tptr i' r' p k j =>
  simp only[CA.drop]
  cases h:dz i r js strict i' r' p with
  | true=>exact .inr rfl
  | false=>exact .inl ⟨rfl,key i' r' p h⟩
 | sref i' r' p =>
  simp only[CA.drop]
  cases h:dz i r js strict i' r' p with
  | true=>exact .inr rfl
  | false=>exact .inl ⟨rfl,key i' r' p h⟩
 | swin i' r' p lo len =>
  simp only[CA.drop]
  cases h:dz i r js strict i' r' p with
  | true=>exact .inr rfl
  | false=>exact .inl ⟨rfl,key i' r' p h⟩
 | _=>exact .inl ⟨rfl,trivial⟩
theorem iG (p:Way):leads false [] p=true:=by cases p<;>rfl
theorem kK:∀(p q:Way),leads false (bv p) (p++q)=true
 | [],q=>iG q
 | (k,j)::p,q=>by simp[bv,leads,kK p q]
theorem oF:∀(p q:Way),q≠[]->leads true (bv p) (p++q)=true
 | [],q,h=>by cases q with|nil=>exact absurd rfl h|cons a q=>rfl
 | (k,j)::p,q,h=>by simp[bv,leads,oF p q h]
theorem sQ:∀(p q:Way) (k j:Nat),leads false (bv p ++ [j]) (p++(k,j)::q)=true
 | [],q,k,j=>by cases q<;>simp[bv,leads]
 | (k',j')::p,q,k,j=>by simp[bv,leads,sQ p q k j]
theorem pW (f f':CA->CA) (l:List CA):mapC f' (mapC f l)=mapC (f'∘f) l:=by
 induction l with
 | nil=>rfl
 | cons c l ih=>simp[mapC,ih]
theorem Bm (f f':CA->CA) (l:List (Bool × List CA)):jD f' (jD f l)=jD (f'∘f) l:=by
 induction l with
 | nil=>rfl
 | cons c l ih=>obtain⟨b,c⟩:=c;simp[jD,ih,pW]
theorem Br (f f':CA->CA) (v:AV):(v.b8 f).b8 f'=v.b8 (f'∘f):=by
 cases v<;>simp[AV.b8,pW,Bm]
theorem zu (f f':CA->CA) (l:List AV):cg f' (cg f l)=cg (f'∘f) l:=by
 induction l with
 | nil=>rfl
 | cons c l ih=>simp[cg,ih,Br]
theorem yX (f f':CA->CA) (l:List (Option BC)):eg f' (eg f l)=eg (f'∘f) l:=by
 induction l with
 | nil=>rfl
 | cons c l ih =>
  cases c with
  | none=>simp[eg,ih]
  | some b=>cases b<;>simp[eg,ih,BC.bS,pW]
theorem Bb (st:ASt) (f f':CA->CA):(st.aE f).aE f'=st.aE (f'∘f):=by
 simp[ASt.aE,zu,yX]
theorem al.take (hs:al w0 I0 R g st a ov w) {i r:Nat} {xs:List TV} {x:TV} (hl:st.look i=some (.tree xs)) (hx:xs[r]? = some x) :
  al w0 I0 (fun b=>R b\/g.φ i r b) (g.df g.I i r (g.ρ i r) (fun _=>False)) ((st.aE (CA.drop i r [] false)).ac i (some (.tree (ai xs r .hole)))) a ov w /\
  aq w g.I x (g.ρ i r) (g.φ i r)/\(∀b,g.φ i r b->¬R b) /\
   ∀c v,bW w g st.look c v->bW w (g.df g.I i r (g.ρ i r) (fun _=>False)) ((st.aE (CA.drop i r [] false)).ac i (some (.tree (ai xs r .hole)))).look (c.drop i r [] false) v:=by
 have hrl:r<xs.length:=(FP.1 hx).1
 have hfr:∀b,g.φ i r b->Foot g st.look i b:=fun b hb=>.inr ⟨xs,r,hl,hrl,hb⟩
 obtain⟨h1,h2⟩:=hs.gc hl hx (CA.drop i r [] false) (fun p=>leads false [] p=false) (gG i r [] false) (w':=w) (x':=.hole) (u':=g.ρ i r) (S':=fun _=>False) (R':=fun b=>R b\/g.φ i r b) (I':=g.I) (.fr (.hole _))
  (fun p v nd ho _ _=>by rw[iG]at ho;cases ho) hs.below (Nat.le_refl _) (fun _ _ _ _=>rfl) (fun _ h=>h.elim) (fun b hb=>⟨hb,id,hb.elim (fun h=>(hs.res b h).2.2) (fun h=>(hs.foot i b (hfr b h)).2.2.1)⟩) (fun _ h=>h) (fun _ h=>.inl h) (fun _ _ h=>h)
 exact⟨h1,hs.trees i xs hl r x hx,fun b hb=>(hs.foot i b (hfr b hb)).2.2.2,h2⟩
theorem al.freeze (hs:al w0 I0 R g st a ov w) {i r:Nat} {xs:List TV} {x:TV} (hl:st.look i=some (.tree xs)) (hx:xs[r]? = some x) :
  Rep w (fun b=>g.I b\/g.φ i r b) (frz x) (g.ρ i r) /\
   al w0 I0 R (g.df (fun b=>g.I b\/g.φ i r b) i r (g.ρ i r) (fun _=>False)) (st.ac i (some (.tree (ai xs r (frz x))))) a ov w /\
   ∀c v,bW w g st.look c v->bW w (g.df (fun b=>g.I b\/g.φ i r b) i r (g.ρ i r) (fun _=>False)) (st.ac i (some (.tree (ai xs r (frz x))))).look c v:=by
 have hrl:r<xs.length:=(FP.1 hx).1
 have hfr:∀b,g.φ i r b->Foot g st.look i b:=fun b hb=>.inr ⟨xs,r,hl,hrl,hb⟩
 have hrep:=(hs.trees i xs hl r x hx).frz (I':=fun b=>g.I b\/g.φ i r b) (fun _ h=>.inl h) (fun _ h=>.inr h)
 have:=hs.gc hl hx id (fun _=>True) (fun c=>.inl ⟨rfl,by cases c<;>first|trivial|exact fun _ _=>trivial⟩) (w':=w) (R':=R) (S':=fun _=>False) (.fr hrep) (fun q v' nd _ _ hn=>Node.frz hn) hs.below (Nat.le_refl _) (fun _ _ _ _=>rfl) (fun b hb=>hb.elim)
  (fun b hb=>⟨.inl hb,fun h=>h,fun h=>h.elim (hs.res b hb).2.2 (fun h=>(hs.foot i b (hfr b h)).2.2.2 hb)⟩) (fun _ h=>.inl h) (fun b hb=>hb)
  (fun b hb h=>h)
 rw[ci]at this
 exact⟨hrep,this.1,fun c v hc=>this.2 c v hc⟩
theorem al.cool (hs:al w0 I0 R g st a ov w) {i r:Nat} {xs:List TV} {x:TV} (hl:st.look i=some (.tree xs)) (hx:xs[r]? = some x) :
  ∃g',al w0 I0 R g' (st.ac i (some (.tree (ai xs r (lr x))))) a ov w:=by
 have hrl:r<xs.length:=(FP.1 hx).1
 have hfr:∀b,g.φ i r b->Foot g st.look i b:=fun b hb=>.inr ⟨xs,r,hl,hrl,hb⟩
 obtain⟨S',hS',hrep⟩:=(hs.trees i xs hl r x hx).cool
 have:=hs.gc hl hx id (fun _=>True) (fun c=>.inl ⟨rfl,by cases c<;>first|trivial|exact fun _ _=>trivial⟩) (w':=w) (R':=R) (S':=S') hrep (fun q v' nd _ _ hn=>Node.cool hn) hs.below (Nat.le_refl _) (fun _ _ _ _=>rfl) (fun b hb=>.inl (hS' b hb))
  (fun b hb=>⟨.inl hb,fun h=>(hs.foot i b (hfr b (hS' b h))).2.2.2 hb,fun h=>h.elim (hs.res b hb).2.2 (fun h=>(hs.foot i b (hfr b h.1)).2.2.2 hb)⟩) (fun _ h=>.inl h) (fun b hb=>hb.elim .inl (fun h=>.inr h.1))
  (fun b hb h=>hb.elim (hs.foot i b (hfr b (hS' b h))).2.2.1 (fun hb=>hb.2 h))
 rw[ci]at this
 exact⟨_,this.1⟩
end
end Go.Ab
end

import Derived.Test.YtjdjnejdjhfmcabNM10
section
namespace Go.Ab
open Go.RowKit
set_option linter.unusedVariables false
section
variable {P:Program} {E:Env} {C:Cal} {w0:Bs} {w w':World} {I0 I R:Nat→Prop} {g g':Gh} {st st':ASt} {a:Act} {ov:List Value} {look:Look} {Q:Exit→Act→World→Prop} {id:Nat}
variable {dst:Option Tmp} {type:TypeId} {pos:String} {after:Array Edge} {guard:Option (Nat × Bool)}
theorem copyO_sound (hE : ∀ t d, E.T t = some d → TyOk P t d) (hlk : ∀ i b, look i = some b → st.look i = some b) (hs : SimI w0 I0 NoR g st a ov w) {t et : TypeId} {d : TyD} (hel : elemOf E.T t = some (et, d)) {x y : Operand} {e : Eff}
  (hh:(copyO look d (st.ev x) (st.ev y)).hits C e) (ha:e.app st dst=some st'):Good P w0 I0 ov ⟨dst,.call ⟨.builtin .copy,#[x,y],#[t,t]⟩,type,pos,after,guard⟩ st' a w Q:=by
 obtain ⟨dt,hT,hk,hTe⟩:=elemOf_spec hel
 have ht:=hE _ _ hT
 have hte:=hE _ _ hTe
 have hu:=kd_slice ht hk
 unfold copyO at hh
 obtain ⟨news,ps,hh,st1,g1,R1,us2,T,ts,p1,p2,p3,p4,p5,hsrc,hTR⟩:=srcO_sound (dst:=dst) hlk hs (hs.ev y) hh
 have hx:=hs.ev x
 rw [← p3] at hsrc
 split at hh
 ·rename_i i r p hxi
  rw [hxi] at hx p5
  have hts:∀ r,memP i r ts=false:=p5 i rfl
  split at hh
  ·rename_i x0 hx0
   obtain ⟨xs,h1,h2⟩:=rootOf_some hx0
   obtain ⟨xs',x',nd,g1',g2,hnode,g4⟩:=hx
   rw [hlk _ _ h1] at g1'
   cases g1'
   rw [h2] at g2
   cases g2
   obtain ⟨z,hz,y1,hp,hh⟩:=getO_hits hh
   obtain ⟨x1,hset,n,hn,hh⟩:=setO_hits hh
   cases hh
   obtain ⟨t1,t2,t3⟩:=p4.tree i xs hts (hlk _ _ h1)
   have hrl:r < xs.length:=(List.getElem?_eq_some_iff.1 h2).1
   have hfr:∀ b,g1.φ i r b→Foot g1 st1.look i b:=fun b hb=>.inr ⟨xs,r,t1,hrl,hb⟩
   obtain ⟨v,Sy,s1,s2,s3,s4,s5⟩:=(p2.trees i xs t1 r x0 h2).sub hz
   rw [t2] at s3
   obtain ⟨e1,e2⟩:=Node.unique hnode s3
   obtain ⟨A,c,hf,hA,hcell⟩:=hsrc.form
   have hlm:(st1.mapS (CA.drop i r (wayJs p) true)).look i=some (.tree xs):=by rw [look_mapS,t1]; rfl
   have happ:primsApp dst (ps ++ [.drop i r (wayJs p) true,.root i r x1]) st=some ((st1.mapS (CA.drop i r (wayJs p) true)).setBox i (some (.tree (setNth xs r x1)))):=by
    rw [prims_append,p1,Option.bind_some]
    simp only [primsApp,Prim.app,setRoot_tree hlm]
   simp only [Eff.app,happ,Option.some.injEq] at ha
   subst ha
   have fin:∀ (w':World) (S':Nat→Prop),RepO w' g1.I y1 v S'→y1.nd=z.nd→w0.Bel w'→w.heap.size≤w'.heap.size→(∀ b,b < w.heap.size→¬ Sy b→w'.heap[b]? = w.heap[b]?)→(∀ b,S' b→Sy b∨R1 b) →
     (execOp a.eval ⟨dst,.call ⟨.builtin .copy,#[x,y],#[t,t]⟩,type,pos,after,guard⟩).run P w=.ok (.value (.int .i64 (Nat.min news.length n))) w' →
     Good P w0 I0 ov ⟨dst,.call ⟨.builtin .copy,#[x,y],#[t,t]⟩,type,pos,after,guard⟩ (((st1.mapS (CA.drop i r (wayJs p) true)).setBox i (some (.tree (setNth xs r x1)))).put dst (.one (.t (.lit (.int .i64 (Nat.min news.length n)))))) a w Q:=by
    intro w' S' hr hnd hw hsz hblk hS hrun
    have hfx:∀ b,g1.φ i r b→b < w.heap.size:=fun b hb=>(p2.foot i b (hfr b hb)).2.1
    obtain ⟨m1,m2⟩:=s5 w' g1.I y1 x1 S' hset (fun b hb=>hblk b (p2.lt b hb) (fun h=>(p2.foot i b (hfr b (s2 b h))).2.2.1 hb)) (fun _ h=>h) (fun b hb hn=>hblk b (hfx b hb) hn) hr (fun b hb hb2=>by
     rcases hS b hb with h | h
     ·exact h
     ·exact absurd h (p2.foot i b (hfr b hb2)).2.2.2)
    obtain ⟨q1,q2⟩:=p2.updRoot t1 h2 (CA.drop i r (wayJs p) true) (fun q=>leads true (wayJs p) q=false) (drop_ok i r (wayJs p) true) (R':=NoR) (I':=g1.I) m1
     (fun q v' nd ho _ hn => m2 q v' nd (fun q' hq' hn' => by
      cases q' with
      | nil=>exact ⟨hn'.1,by rw [hn'.2,hnd]⟩
      | cons kj q'=>rw [hq',leads_strict p _ (by simp)] at ho; cases ho) hn)
     hw hsz (fun b hb hn _=>hblk b hb (fun h=>hn (s2 b h)))
     (fun b hb => by
      rcases hb with h | h
      ·exact .inl h.1
      ·rcases hS b h with h | h
       ·exact .inl (s2 b h)
       ·exact .inr (.inl h))
     (fun b hb => hb.elim) (fun _ h => h) (fun _ h => .inl h) (fun b hb hS' => by
      rcases hS' with h | h
      ·exact (p2.foot i b (hfr b h.1)).2.2.1 hb
      ·rcases hS b h with h | h
       ·exact (p2.foot i b (hfr b (s2 b h))).2.2.1 hb
       ·exact (p2.res b h).2.2 hb)
    exact wp_value hrun ⟨_,q1.put dst (v:=.one (.t (.lit (.int .i64 (Nat.min news.length n))))) ⟨.lit _,rfl⟩⟩
   have hrun0:∀ {u:Value} {w':World},(Builtin.copy_ #[t,t] type #[a.eval x,a.eval y]).run P w=.ok u w'→(execOp a.eval ⟨dst,.call ⟨.builtin .copy,#[x,y],#[t,t]⟩,type,pos,after,guard⟩).run P w=.ok (.value u) w':=fun h =>
    run_builtin (s:=Builtin.copy_ #[t,t] type #[a.eval x,a.eval y]) (fun cs=>by simp [builtin]) h
   unfold pcopy at hp
   split at hp
   ·rename_i s xs0
    split at hp
    ·rename_i hse
     subst hse
     simp only [Option.some.injEq] at hp
     subst hp
     simp only [slLen,Option.some.injEq] at hn
     subst hn
     have hnI:∀ b,Sy b→¬ g1.I b:=fun b hb=>(p2.foot i b (hfr b (s2 b hb))).2.2.1
     have hall:∀ x ∈ xs0,x.length=d.size:=by cases s1 with | fr h=>cases h | sl _ _ _ _ _ _ hl=>exact hl
     obtain ⟨a0,cap0,vs,ty,us0,w1,w2,w3,w4⟩:=s1.write hnI
     obtain ⟨m,hm⟩:∃ m,m=min news.length xs0.length:=⟨_,rfl⟩
     have hm1:m≤news.length:=by rw [hm]; exact Nat.min_le_left _ _
     have hm2:m≤xs0.length:=by rw [hm]; exact Nat.min_le_right _ _
     have hmul1:m * d.size≤news.length * d.size:=Nat.mul_le_mul_right _ hm1
     have hmul2:m * d.size≤xs0.length * d.size:=Nat.mul_le_mul_right _ hm2
     have hul:(us2.take (m * d.size)).length=m * d.size:=by rw [List.length_take,hsrc.len]; omega
     have hfl:(news.take xs0.length).flatten=news.flatten.take (m * d.size):=by
      have:news.take xs0.length=news.take m:=by
       rw [hm]
       rcases Nat.le_total news.length xs0.length with h | h
       ·rw [Nat.min_eq_left h,List.take_length,List.take_of_length_le h]
       ·rw [Nat.min_eq_right h]
      rw [this,flat_take _ hsrc.all]
     have hfll:(news.flatten.take (m * d.size)).length=m * d.size:=by rw [List.length_take,flat_len hsrc.all]; omega
     have hfit:a0.off + 0 + (us2.take (m * d.size)).length≤vs.size:=by
      rw [hul]
      have h1:=w3.fit
      have h2:=Nat.mul_le_mul_right d.size w3.le
      omega
     have hone:∀ u ∈ us2.take (m * d.size),u.oneCell'=true:=fun u hu=>hsrc.one u (List.mem_of_mem_take hu)
     have hst:=run_storeCells_at P a0.block a0.off ty (us2.take (m * d.size)) 0 vs w w3.heap (by simpa using hfit) hone
     simp only [Nat.add_zero] at hst
     have hheap:=setRow_heap w a0.block vs (vs.toList.take a0.off ++ us2.take (m * d.size) ++ vs.toList.drop (a0.off + (us2.take (m * d.size)).length)).toArray ty (0,0) w3.heap
     obtain ⟨W,hW⟩:∃ W,W=w.setRow a0.block (vs.toList.take a0.off ++ us2.take (m * d.size) ++ vs.toList.drop (a0.off + (us2.take (m * d.size)).length)).toArray:=⟨_,rfl⟩
     rw [← hW] at hst hheap
     have hoth:∀ b,b≠a0.block→W.heap[b]? = w.heap[b]? := fun b hb=>by rw [hW]; exact setRow_other w a0.block b _ hb
     have hablk:w0.New a0.block:=(p2.foot i _ (hfr _ (s2 _ w2))).1
     have hlen2:(news.take xs0.length ++ xs0.drop news.length).length=xs0.length:=by simp; omega
     have hflat2:(news.take xs0.length ++ xs0.drop news.length).flatten=spl xs0.flatten 0 (news.flatten.take (m * d.size)):=by
      rw [List.flatten_append,hfl,flat_drop _ hall,spl,List.take_zero,List.nil_append,Nat.zero_add,hfll]
      congr 1
      rcases Nat.le_total news.length xs0.length with h | h
      ·rw [hm,Nat.min_eq_left h]
      ·rw [hm,Nat.min_eq_right h,List.drop_of_length_le (by rw [flat_len hall]; exact Nat.mul_le_mul_right _ h),List.drop_of_length_le (by rw [flat_len hall]; exact Nat.le_refl _)]
     obtain ⟨n1,n2⟩:=w4 0 (news.flatten.take (m * d.size)) (us2.take (m * d.size)) (fun k b=>k < m * d.size∧T k b) W (news.take xs0.length ++ xs0.drop news.length) (by rw [hfll,flat_len hall]; omega) (by rw [hul,hfll]) hone
      (fun k c hc => by
       have hk':k < m * d.size:=by have:=(List.getElem?_eq_some_iff.1 hc).1; rw [hfll] at this; exact this
       rw [List.getElem?_take_of_lt hk'] at hc
       have:=hsrc.rep k c hc
       rw [List.getD_eq_getElem?_getD] at this ⊢
       rw [List.getElem?_take_of_lt hk']
       exact this.mono (fun b hb=>⟨hk',hb⟩))
      (fun k b hb h=>(p2.foot i b (hfr b (s2 b h))).2.2.2 (hTR k b hb.2)) (fun k k' b hb hb'=>hsrc.apart k k' b hb.2 hb'.2) (by rw [hheap]; rfl) hoth hlen2
      (fun x hx => by
       rcases List.mem_append.1 hx with h | h
       ·exact hsrc.all x (List.mem_of_mem_take h)
       ·exact hall x (List.mem_of_mem_drop h)) hflat2
     refine fin W _ n1 (by simp only [TV.nd,hlen2]) (by rw [hW]; exact p2.below.setRow hablk _) (by rw [hW]; simp) (fun b _ hb=>hoth b (fun e=>hb (e ▸ w2))) (fun b hb=>?_) (hrun0 ?_)
     ·rcases hb with h | ⟨k,h⟩
      ·exact .inl h
      ·exact .inr (hTR k b h.2)
     ·rw [e1, w1, hf]
      have hmin:min news.length xs0.length=m:=hm.symm
      have hmin2:Nat.min news.length xs0.length=m:=hm.symm
      have hfc:(Builtin.firstCells d.size m (.slice A news.length c)).run P w=.ok (us2.take (m * d.size)).toArray w:=by
       cases A with
       | none =>
        have h0:=hA rfl
        have:m=0:=by rw [hm,h0]; simp
        subst this
        simp [Builtin.firstCells]
       | some ad => exact run_firstCells_some (P := P) w d.size m ad news.length c _ hul (fun j u hu => hcell ad rfl j u (by
         have hj:j < m * d.size:=by have:=(List.getElem?_eq_some_iff.1 hu).1; rw [hul] at this; exact this
         rwa [List.getElem?_take_of_lt hj] at hu))
      have hadd:a0=⟨a0.block,a0.off,none⟩:=by
       have:=w3.spot
       obtain ⟨b,o,sp⟩:=a0
       simp at this
       subst this
       rfl
      rw [← hadd] at hst
      simp [Builtin.copy_,run_und hu,Builtin.lenOf,run_size hte,hmin,hfc,hst,goInt]
    ·cases hp
   ·simp only [Option.some.injEq] at hp
    subst hp
    have hv:=repO_lit s1
    have hv2:a.eval x=.slice none 0 0:=by rw [e1,hv]
    simp only [slLen,Option.some.injEq] at hn
    subst hn
    refine fin w Sy (.fr (by rw [hv]; exact .lit _)) rfl p2.below (Nat.le_refl _) (fun _ _ _=>rfl) (fun b hb=>.inl hb) (hrun0 ?_)
    rw [hv2,hf]
    have hfc:(Builtin.firstCells d.size 0 (.slice A news.length c)).run P w=.ok #[] w:=by
     cases A with
     | none=>simp [Builtin.firstCells]
     | some ad=>exact run_firstCells_some (P:=P) w d.size 0 ad news.length c [] (by simp) (by simp)
    simp [Builtin.copy_,run_und hu,Builtin.lenOf,run_size hte,hfc,goInt]
   ·cases hp
  ·exact hh.elim
 ·exact hh.elim
theorem chunks_spec {α:Type} (s:Nat):∀ (n:Nat) (l:List α),l.length=n * s→(chunks s n l).length=n∧(∀ x ∈ chunks s n l,x.length=s)∧(chunks s n l).flatten=l
 | 0,l,h=>⟨rfl,by simp [chunks],by have:l=[]:=List.eq_nil_of_length_eq_zero (by simpa using h); subst this; rfl⟩
 | n + 1,l,h=>by
  have h1:(l.drop s).length=n * s:=by rw [List.length_drop,h,Nat.add_mul]; omega
  obtain ⟨k1,k2,k3⟩:=chunks_spec s n (l.drop s) h1
  have hl:(l.take s).length=s:=by rw [List.length_take,h,Nat.add_mul]; omega
  refine ⟨by simp [chunks,k1],fun x hx=>?_,by simp only [chunks,List.flatten_cons,k3,List.take_append_drop]⟩
  rcases List.mem_cons.1 hx with rfl | hx
  ·exact hl
  ·exact k2 x hx
theorem flatten_replicate_len {α:Type}:∀ (n:Nat) (l:List α),(List.replicate n l).flatten.length=n * l.length
 | 0,l=>by simp
 | n + 1,l=>by simp [List.replicate_succ,flatten_replicate_len n l,Nat.add_mul]; omega
theorem zeros_eq (z:Array Value) (n:Nat) (hz:0 < z.size):((Array.range (n * z.size)).map (z[· % z.size]!)).toList=(List.replicate n z.toList).flatten:=by
 apply List.ext_getElem?
 intro k
 by_cases hk:k < n * z.size
 ·have hall:∀ x ∈ List.replicate n z.toList,x.length=z.size:=fun x hx=>by rw [List.eq_of_mem_replicate hx]; simp
  have hkd:k / z.size < n:=Nat.div_lt_of_lt_mul (by rw [Nat.mul_comm]; exact hk)
  have hr:=Nat.mod_lt k hz
  obtain ⟨el,c,g1,g2,g3⟩:=flat_at hall (by simpa using hkd) hr
  rw [Nat.mul_comm,Nat.div_add_mod] at g3
  rw [List.getElem?_replicate,if_pos hkd] at g1
  cases g1
  rw [g3]
  simp only [Array.toList_map,List.getElem?_map,Array.toList_range]
  rw [List.getElem?_range hk]
  simp only [Option.map_some,Option.some.injEq]
  rw [getElem!_pos z _ hr]
  rw [Array.getElem?_toList,Array.getElem?_eq_getElem hr] at g2
  exact Option.some.inj g2
 ·rw [List.getElem?_eq_none (by simpa using hk),List.getElem?_eq_none (by rw [flatten_replicate_len]; simpa using hk)]
theorem clearO_sound (hE : ∀ t d, E.T t = some d → TyOk P t d) (hlk : ∀ i b, look i = some b → st.look i = some b) (hs : SimI w0 I0 NoR g st a ov w) {t et : TypeId} {d : TyD} (hel : elemOf E.T t = some (et, d)) {x : Operand} {e : Eff}
  (hh:(clearO look d (st.ev x)).hits C e) (ha:e.app st dst=some st'):Good P w0 I0 ov ⟨dst,.call ⟨.builtin .clear,#[x],#[t]⟩,type,pos,after,guard⟩ st' a w Q:=by
 obtain ⟨dt,hT,hk,hTe⟩:=elemOf_spec hel
 have ht:=hE _ _ hT
 have hte:=hE _ _ hTe
 have hu:=kd_slice ht hk
 unfold clearO at hh
 have hx:=hs.ev x
 cases hd0:Nat.blt 0 d.size with
 | false=>simp [hd0,Prg.hits] at hh
 | true =>
 simp only [hd0,cond_true] at hh
 have hd1:0 < d.size:=by simpa using hd0
 split at hh
 ·rename_i i r p lo len hxi
  rw [hxi] at hx
  split at hh
  ·rename_i x0 hx0
   obtain ⟨xs,h1,h2⟩:=rootOf_some hx0
   obtain ⟨xs',x',u,nd,g1',g2,hnode,hsl,hwin⟩:=hx
   rw [hlk _ _ h1] at g1'
   cases g1'
   rw [h2] at g2
   cases g2
   obtain ⟨z,hz,y1,hp,hh⟩:=getO_hits hh
   obtain ⟨x1,hset,hh⟩:=setO_hits hh
   cases hh
   have t1:=hlk _ _ h1
   have hrl:r < xs.length:=(List.getElem?_eq_some_iff.1 h2).1
   have hfr:∀ b,g.φ i r b→Foot g st.look i b:=fun b hb=>.inr ⟨xs,r,t1,hrl,hb⟩
   obtain ⟨v,Sy,s1,s2,s3,s4,s5⟩:=(hs.trees i xs t1 r x0 h2).sub hz
   obtain ⟨e1,e2⟩:=Node.unique hnode s3
   have hlm:(st.mapS (CA.drop i r (wayJs p) true)).look i=some (.tree xs):=by rw [look_mapS,t1]; rfl
   have happ:primsApp dst [.drop i r (wayJs p) true,.root i r x1] st=some ((st.mapS (CA.drop i r (wayJs p) true)).setBox i (some (.tree (setNth xs r x1)))):=by
    simp only [primsApp,Prim.app,setRoot_tree hlm]
   simp only [Eff.app,happ,Option.some.injEq] at ha
   subst ha
   have fin:∀ (w':World) (S':Nat→Prop),RepO w' g.I y1 v S'→y1.nd=z.nd→w0.Bel w'→w.heap.size≤w'.heap.size→(∀ b,b < w.heap.size→¬ Sy b→w'.heap[b]? = w.heap[b]?)→(∀ b,S' b→Sy b) →
     (execOp a.eval ⟨dst,.call ⟨.builtin .clear,#[x],#[t]⟩,type,pos,after,guard⟩).run P w=.ok (.value (.tuple #[])) w' →
     Good P w0 I0 ov ⟨dst,.call ⟨.builtin .clear,#[x],#[t]⟩,type,pos,after,guard⟩ (((st.mapS (CA.drop i r (wayJs p) true)).setBox i (some (.tree (setNth xs r x1)))).put dst (.tups [])) a w Q:=by
    intro w' S' hr hnd hw hsz hblk hS hrun
    have hfx:∀ b,g.φ i r b→b < w.heap.size:=fun b hb=>(hs.foot i b (hfr b hb)).2.1
    obtain ⟨m1,m2⟩:=s5 w' g.I y1 x1 S' hset (fun b hb=>hblk b (hs.lt b hb) (fun h=>(hs.foot i b (hfr b (s2 b h))).2.2.1 hb)) (fun _ h=>h) (fun b hb hn=>hblk b (hfx b hb) hn) hr (fun b hb hb2=>hS b hb)
    obtain ⟨q1,q2⟩:=hs.updRoot t1 h2 (CA.drop i r (wayJs p) true) (fun q=>leads true (wayJs p) q=false) (drop_ok i r (wayJs p) true) (R':=NoR) (I':=g.I) m1
     (fun q v' nd ho _ hn => m2 q v' nd (fun q' hq' hn' => by
      cases q' with
      | nil=>exact ⟨hn'.1,by rw [hn'.2,hnd]⟩
      | cons kj q'=>rw [hq',leads_strict p _ (by simp)] at ho; cases ho) hn)
     hw hsz (fun b hb hn _=>hblk b hb (fun h=>hn (s2 b h)))
     (fun b hb => by
      rcases hb with h | h
      ·exact .inl h.1
      ·exact .inl (s2 b (hS b h)))
     (fun b hb => hb.elim) (fun _ h => h) (fun _ h => .inl h) (fun b hb hS' => by
      rcases hS' with h | h
      ·exact (hs.foot i b (hfr b h.1)).2.2.1 hb
      ·exact (hs.foot i b (hfr b (s2 b (hS b h)))).2.2.1 hb)
    exact wp_value hrun ⟨_,q1.put dst (v:=.tups []) ⟨#[],rfl,rfl,fun j b c hj=>by simp at hj⟩⟩
   have hrun0:∀ {u:Value} {w':World},(Builtin.clear_ #[t] type #[a.eval x]).run P w=.ok u w'→(execOp a.eval ⟨dst,.call ⟨.builtin .clear,#[x],#[t]⟩,type,pos,after,guard⟩).run P w=.ok (.value u) w':=fun h =>
    run_builtin (s:=Builtin.clear_ #[t] type #[a.eval x]) (fun cs=>by simp [builtin]) h
   unfold pclear at hp
   split at hp
   ·rename_i s xs0
    split at hp
    ·rename_i hse
     obtain ⟨hse,hle⟩:=hse
     subst hse
     simp only [Option.some.injEq] at hp
     subst hp
     have hnI:∀ b,Sy b→¬ g.I b:=fun b hb=>(hs.foot i b (hfr b (s2 b hb))).2.2.1
     have hall:∀ x ∈ xs0,x.length=d.size:=by cases s1 with | fr h=>cases h | sl _ _ _ _ _ _ hl=>exact hl
     obtain ⟨a0,cap0,vs,ty,us0,w1,w2,w3,w4⟩:=s1.write hnI
     have hz0:d.zero.length=d.size:=hte.zlen
     have hzl:∀ m:Nat,((List.replicate m (d.zero.map TV.lit)).flatten).length=m * d.size:=fun m=>by rw [flatten_replicate_len,List.length_map,hz0]
     have hvl:∀ m:Nat,((List.replicate m d.zero).flatten).length=m * d.size:=fun m=>by rw [flatten_replicate_len,hz0]
     have hxl:(xs0.take lo ++ (List.replicate len (d.zero.map TV.lit) ++ xs0.drop (lo + len))).length=xs0.length:=by simp; omega
     have hmul:(lo + len) * d.size≤xs0.length * d.size:=Nat.mul_le_mul_right _ hle
     rw [Nat.add_mul] at hmul
     have hfit:a0.off + lo * d.size + (List.replicate len d.zero).flatten.length≤vs.size:=by
      rw [hvl]
      have h1:=w3.fit
      have h2:=Nat.mul_le_mul_right d.size w3.le
      omega
     have hone:∀ u ∈ (List.replicate len d.zero).flatten,u.oneCell'=true:=fun u hu=>by
      simp only [List.mem_flatten,List.mem_replicate] at hu
      obtain ⟨l,⟨_,rfl⟩,h2⟩:=hu
      exact hte.zone u h2
     have hst:=run_storeCells_at P a0.block (a0.off + lo * d.size) ty (List.replicate len d.zero).flatten 0 vs w w3.heap (by simpa using hfit) hone
     simp only [Nat.add_zero] at hst
     have hheap:=setRow_heap w a0.block vs (vs.toList.take (a0.off + lo * d.size) ++ (List.replicate len d.zero).flatten ++ vs.toList.drop (a0.off + lo * d.size + (List.replicate len d.zero).flatten.length)).toArray ty (0,0) w3.heap
     obtain ⟨W,hW⟩:∃ W,W=w.setRow a0.block (vs.toList.take (a0.off + lo * d.size) ++ (List.replicate len d.zero).flatten ++ vs.toList.drop (a0.off + lo * d.size + (List.replicate len d.zero).flatten.length)).toArray:=⟨_,rfl⟩
     rw [← hW] at hst hheap
     have hoth:∀ b,b≠a0.block→W.heap[b]? = w.heap[b]? := fun b hb=>by rw [hW]; exact setRow_other w a0.block b _ hb
     have hablk:w0.New a0.block:=(hs.foot i _ (hfr _ (s2 _ w2))).1
     obtain ⟨n1,n2⟩:=w4 (lo * d.size) (List.replicate len (d.zero.map TV.lit)).flatten (List.replicate len d.zero).flatten (fun _ _=>False) W (xs0.take lo ++ (List.replicate len (d.zero.map TV.lit) ++ xs0.drop (lo + len))) (by rw [hzl,flat_len hall]; exact hmul) (by rw [hzl,hvl]) hone
      (fun k c hc => by
       have e:(List.replicate len (d.zero.map TV.lit)).flatten=(List.replicate len d.zero).flatten.map TV.lit:=by simp [List.map_flatten]
       rw [e,List.getElem?_map] at hc
       cases hk2:(List.replicate len d.zero).flatten[k]? with
       | none=>rw [hk2] at hc; cases hc
       | some q =>
        rw [hk2] at hc
        cases hc
        rw [List.getD_eq_getElem?_getD,hk2]
        exact .fr (.lit _))
      (fun k b hb=>hb.elim) (fun k k' b hb=>hb.elim) (by rw [hheap]; rfl) hoth hxl
      (fun x hx => by
       rcases List.mem_append.1 hx with h | h
       ·exact hall x (List.mem_of_mem_take h)
       ·rcases List.mem_append.1 h with h | h
        ·rw [List.eq_of_mem_replicate h,List.length_map,hz0]
        ·exact hall x (List.mem_of_mem_drop h))
      (by rw [List.flatten_append,List.flatten_append,flat_take _ hall,flat_drop _ hall,spl,hzl,List.append_assoc,Nat.add_mul])
     by_cases hlen:len=0
     ·subst hlen
      refine fin w Sy (by simpa using s1) (by simp only [TV.nd,hxl]) hs.below (Nat.le_refl _) (fun _ _ _=>rfl) (fun b hb=>hb) (hrun0 ?_)
      have hnd:nd=some (d.size,xs0.length):=e2
      rw [hnd] at hwin
      obtain ⟨_,hv⟩:=hwin
      rw [e1,w1] at hv
      simp only [cut] at hv
      rw [hv]
      simp [Builtin.clear_,run_und hu]
     have run:(Builtin.clear_ #[t] type #[a.eval x]).run P w=.ok (.tuple #[]) W:=by
      subst e1
      obtain ⟨z1,hz1,hz2⟩:=run_zero (w:=w) hte
      have hnd:nd=some (d.size,xs0.length):=e2
      rw [hnd] at hwin
      obtain ⟨_,hv⟩:=hwin
      have hle2:=w3.le
      rw [w1] at hv
      simp only [cut] at hv
      rw [if_neg (by omega)] at hv
      have hadd:a0.add (lo * d.size)=⟨a0.block,a0.off + lo * d.size,none⟩:=by
       have:=w3.spot
       obtain ⟨b,o,sp⟩:=a0
       simp at this
       subst this
       simp [Addr.add]
      rw [hadd] at hv
      have hzs:z1.cells.size=d.size:=by rw [← Array.length_toList,hz2,hz0]
      have hzz:(Builtin.zeroCells z1.cells len).toList=(List.replicate len d.zero).flatten:=by
       rw [← hz2]; exact zeros_eq z1.cells len (by rw [hzs]; exact hd1)
      obtain ⟨len',rfl⟩:∃ m,len=m + 1:=⟨len - 1,by omega⟩
      rw [hv]
      simp only [Builtin.clear_]
      simp [run_und hu,hz1,hzz]
      rw [hst]
      rfl
     refine fin W _ n1 (by simp only [TV.nd,hxl]) (by rw [hW]; exact hs.below.setRow hablk _) (by rw [hW]; simp) (fun b _ hb=>hoth b (fun e=>hb (e ▸ w2))) (fun b hb=>?_) (hrun0 run)
     rcases hb with h | ⟨k,h⟩
     ·exact h
     ·exact h.elim
    ·cases hp
   ·split at hp
    ·rename_i hl0
     simp only [Option.some.injEq] at hp
     subst hp
     have hv:=repO_lit s1
     subst hl0
     refine fin w Sy (.fr (by rw [hv]; exact .lit _)) rfl hs.below (Nat.le_refl _) (fun _ _ _=>rfl) (fun b hb=>hb) (hrun0 ?_)
     have hnd:nd=none:=e2
     rw [hnd] at hwin
     obtain ⟨_,_,_,hv⟩:=hwin
     rw [hv]
     simp [Builtin.clear_,nilV,run_und hu]
    ·cases hp
   ·cases hp
  ·exact hh.elim
 ·exact hh.elim
theorem op_buildSlice (hE:∀ t d,E.T t=some d→TyOk P t d) (hlk:∀ i b,look i=some b→st.look i=some b) (hs:SimI w0 I0 NoR g st a ov w) {t:TypeId} {len:Nat} {parts:Array (Nat × Operand)} {e:Eff}
  (hh:(opL E (st.nid dst) look (.buildSlice t len parts) ((Op.buildSlice t len parts).operands.toList.map st.ev)).hits C e) (ha:e.app st dst=some st'):Good P w0 I0 ov ⟨dst,.buildSlice t len parts,type,pos,after,guard⟩ st' a w Q:=by
 simp only [opL] at hh
 split at hh
 ·rename_i et d hel
  obtain ⟨dt,hT,hk,hTe⟩:=elemOf_spec hel
  have ht:=hE _ _ hT
  have hte:=hE _ _ hTe
  have hu:=kd_slice ht hk
  have hops:(Op.buildSlice t len parts).operands.toList.map st.ev=parts.toList.map fun p=>st.ev p.2:=by simp [Op.operands]
  rw [hops] at hh
  obtain ⟨z,hz,hzc⟩:=run_zero (w:=w) hte
  have hzl:z.cells.size=d.size:=by have:=hte.zlen; rw [← hzc] at this; simpa using this
  obtain ⟨Z,hZ⟩:∃ Z:Array Value,Z=(Array.range (len * d.size)).map ((if len * d.size=0 then #[] else z.cells)[· % (if len * d.size=0 then #[] else z.cells).size]!):=⟨_,rfl⟩
  have hZl:Z.toList=(List.replicate len d.zero).flatten:=by
   rw [hZ]
   by_cases h0:len * d.size=0
   ·rw [h0]
    have:(List.replicate len d.zero).flatten=[]:=List.eq_nil_of_length_eq_zero (by rw [flatten_replicate_len,hte.zlen,h0])
    rw [this]; simp
   ·rw [if_neg h0,← hzc,← hzl]
    have h1:0 < z.cells.size:=by
     rcases Nat.eq_zero_or_pos z.cells.size with h | h
     ·rw [← hzl,h] at h0; simp at h0
     ·exact h
    exact zeros_eq z.cells len h1
  have hcr0:CR w g st.look ((List.replicate len d.zero).flatten.map fun v=>.t (.lit v)) Z.toList:=by
   rw [hZl]
   exact CR.lits (fun v hv=>by
    obtain ⟨l,hl,hv'⟩:=List.mem_flatten.1 hv
    rw [List.eq_of_mem_replicate hl] at hv'
    exact hte.zone v hv')
  obtain ⟨cs,cells,hh,hfill,hcr⟩:=fillParts_hits (place:=fun i=>some (i * d.size,d.size)) (fun i off agg n hi=>by
   simp only [Option.some.injEq,Prod.mk.injEq] at hi
   obtain ⟨rfl,_,rfl⟩:=hi
   rfl) hs parts.toList _ Z hcr0 hh
  obtain ⟨ds,hh,hdl,hok⟩:=gatherT_hits hlk hs hcr hh
  cases hc:nodupP (ds.flatMap Gd.ts) && (len * d.size).ble 16777216 && (ds.map Gd.y).length.beq (len * d.size) && Nat.blt 0 d.size with
  | false=>simp only [hc,cond_false] at hh; exact hh.elim
  | true =>
   simp only [hc,cond_true] at hh
   cases hh
   simp only [Bool.and_eq_true] at hc
   obtain ⟨⟨⟨hc0,hc1⟩,hc2⟩,hc3⟩:=hc
   have hc1:len * d.size≤16777216:=by simpa using hc1
   have hc2:ds.length=len * d.size:=by simpa using hc2
   have hc3:0 < d.size:=by simpa using hc3
   have hrun:(execOp a.eval ⟨dst,.buildSlice t len parts,type,pos,after,guard⟩).run P w=.ok (.value (.slice (some ⟨w.heap.size,0,none⟩) len len)) (w.alloc (.cells cells et)):=by
    have hpl:(parts.map fun (p:Nat × Operand)=>(p.1,a.eval p.2)).toList=parts.toList.map fun p=>(p.1,a.eval p.2):=by simp
    have hnot':¬ 16777216 < len * d.size:=by omega
    simp only [execOp,Instr.buildSlice,Sem.run_bind,run_und hu,Result.andThen_ok,run_size hte]
    by_cases h0:len * d.size=0
    ·have hZ2:Array.map (fun x=>(default:Value)) (Array.range (len * d.size))=Z:=by rw [hZ]; simp [h0]
     simp [h0,newRow]
     rw [h0] at hZ2
     rw [← hZ2] at hfill
     simp [hfill]
    ·have hZ':Array.map (fun x=>z.cells[x % z.cells.size]!) (Array.range (len * d.size))=Z:=by rw [hZ]; simp [h0]
     simp [hnot',h0,newRow,hz,hZ',hfill]
   have hn63:len≤maxLen:=by
    have:len * 1≤len * d.size:=Nat.mul_le_mul_left _ hc3
    simp only [maxLen]; omega
   have hcl:cells.toList.length=ds.length:=by rw [hcr.1,hdl]
   obtain ⟨st2,g2,R2,F,q1,q2,q3,q4,q5,q6,q7,q8⟩:=gather_state (dst:=dst) ds hs hcl hok hc0
   obtain ⟨dd,h0,h1,h2,h3⟩:=mkNew_app ha q1 q4.out
   have hnid:st2.nid dst=st.nid dst:=nid_eq q4.out dst
   rw [← hnid] at h1 h2 h3
   obtain ⟨k1,k2,k3⟩:=chunks_spec d.size len (ds.map Gd.y) (by simpa using hc2)
   refine new_tree q2 rfl hrun (q2.below.step (below_new w _)) (below_new w _).size (fun k hk _=>(below_new w _).block k hk) (S:=fun b=>b=w.heap.size∨∃ m,F m b) ?_ (fun b hb=>?_) ⟨_,_,_,rfl⟩ h0 h1 h2 h3
   ·have hold:∀ b,b < w.heap.size→(w.alloc (.cells cells et)).heap[b]? = w.heap[b]? := (below_new w _).block
    have key:RepO (w.alloc (.cells cells et)) g2.I (.sl true d.size (chunks d.size len (ds.map Gd.y))) (.slice (some ⟨w.heap.size,0,none⟩) (chunks d.size len (ds.map Gd.y)).length len) (fun b=>b=w.heap.size∨∃ m,F m b):=by
     refine .sl cells.toList cells et F (.inl rfl) ?_ k2 (fun k c hk'=>?_) (fun k b hb=>⟨.inr ⟨k,hb⟩,fun e=>by have h5:=(q2.res b (q7 k b hb).1).2.1; have h6:b=w.heap.size:=e; omega⟩) q8
     ·rw [k1]
      refine ⟨heap_alloc_new w _,rfl,Nat.le_refl _,hn63,by have:=hcl; simp at this ⊢; omega,by omega,fun k _=>by rw [Nat.zero_add,Array.getElem?_toList],fun u hu'=>?_⟩
      obtain ⟨m,hm,rfl⟩:=List.mem_iff_getElem.1 hu'
      have hmd:m < ds.length:=by omega
      exact (q6 m ds[m] _ (List.getElem?_eq_getElem hmd) (List.getElem?_eq_getElem hm)).2
     ·rw [k3,List.getElem?_map] at hk'
      cases hdm:ds[k]? with
      | none=>simp [hdm] at hk'
      | some dd' =>
       simp only [hdm,Option.map_some,Option.some.injEq] at hk'
       subst hk'
       have hkl:k < cells.toList.length:=by rw [hcl]; exact (List.getElem?_eq_some_iff.1 hdm).1
       have:=(q6 k dd' _ hdm (List.getElem?_eq_getElem hkl)).1
       rw [getD_some (List.getElem?_eq_getElem hkl)]
       rw [← q3] at this
       exact this.mv (fun b hb=>hold b (q2.lt b hb)) (fun _ h=>h) (fun b hb=>hold b (q2.res b (q7 k b hb).1).2.1) (fun _ h=>h)
    rwa [k1] at key
   ·rcases hb with h | ⟨m,h⟩
    ·subst h; exact .inr ⟨Nat.le_refl _,by simp⟩
    ·exact .inl (q7 m b h).1
 ·exact hh.elim
end
end Go.Ab
end
section
namespace Go.Ab
open Go.RowKit
set_option linter.unusedVariables false
section
variable {P:Program} {E:Env} {C:Cal} {w0:Bs} {w w':World} {I0 I R:Nat→Prop} {g g':Gh} {st st':ASt} {a:Act} {ov:List Value} {look:Look} {Q:Exit→Act→World→Prop} {id:Nat}
variable {dst:Option Tmp} {type:TypeId} {pos:String} {after:Array Edge} {guard:Option (Nat × Bool)}
def CallOk (P:Program) (G:Laid) (f:FuncId) (args:List TV) (r:TV):Prop :=
 ∀ (I : Nat → Prop) (w : World) (vals : Array Value), G.P w I → (∀ b, I b → b < w.heap.size) → vals.size = args.length → (∀ (j : Nat) (x : TV), args[j]? = some x → Rep w I x (vals.getD j undef)) →
  (callFunc f vals).run P w=.ok (.enter f vals) w ∧
  Calls P f vals w fun e w'=>∃ v,e=.returned v∧Below w.heap.size w w'∧∃ I' S:Nat→Prop,(∀ b,I b→I' b)∧(∀ b,I' b→b < w'.heap.size)∧(∀ b,b < w.heap.size→I' b→I b) ∧
   (∀ b,S b→w.heap.size≤b∧b < w'.heap.size∧¬ I' b)∧RepO w' I' r v S
def RepM (w:World) (I:Nat→Prop) (b:Nat) (c:TV) (v:Value) (F:Nat→Prop):Prop :=
 (c.isMay=true∧(v=.pointer none∨v=.pointer (some ⟨b,0,none⟩)))∨(c.isMay=false∧RepO w I c v F)
def CallP (P:Program) (G:Laid) (c:Nat × Nat) (f:FuncId) (xs:List TV) (r:TV):Prop :=
 ∃ x args,xs=x :: args∧∀ (I:Nat→Prop) (w:World) (b:Nat) (vs:Array Value) (ty:TypeId) (vals:Array Value),G.P w I→(∀ b,I b→b < w.heap.size)→w.heap[b]? = some (.cells vs ty (0,0))→(∀ u ∈ vs.toList,u.oneCell'=true) →
  ¬ I b→vs.size=c.2→c.1 < c.2→b < w.heap.size→Rep w I x (vs.getD c.1 undef)→vals.size=xs.length→vals.getD 0 undef=.pointer (some ⟨b,0,none⟩)→(∀ (j:Nat) (y:TV),args[j]? = some y→Rep w I y (vals.getD (j + 1) undef)) →
  (callFunc f vals).run P w=.ok (.enter f vals) w∧Calls P f vals w fun e w'=>∃ v,e=.returned v∧Below w.heap.size w w'∧∃ I':Nat→Prop,(∀ b,I b→I' b)∧(∀ b,I' b→b < w'.heap.size)∧(∀ b,b < w.heap.size→I' b→I b)∧Rep w' I' r v
def RepV (w:World) (I:Nat→Prop) (ld:LentD) (b:Nat) (cs:List TV) (S:Nat→Prop):Prop :=
 S b∧∃ (vs:Array Value) (ty:TypeId) (F:Nat→Nat→Prop),w.heap[b]? = some (.cells vs ty (0,0))∧vs.size=cs.length ∧
  (∀ (k:Nat) (c:TV),cs[k]? = some c→RepM w I b c (vs.getD k undef) (F k)∧(vs.getD k undef).oneCell'=true∧(c.isMay=true→ty=ld.ty)) ∧
  (∀ k b',F k b'→S b'∧b'≠b)∧∀ k k' b',F k b'→F k' b'→k=k'
def CallV (P:Program) (G:Laid) (ld:LentD) (f:FuncId) (xs:List TV) (r:TV):Prop :=
 ∃ cs args r0 cs',xs=.tup cs :: args∧r=.tup [r0,.tup cs'] ∧
 ∀ (I : Nat → Prop) (w : World) (b : Nat) (vals : Array Value) (L : Nat → Prop), G.P w I → (∀ b, I b → b < w.heap.size) → (∀ b, L b → b < w.heap.size ∧ ¬ I b) → RepV w I ld b cs L →
  vals.size=xs.length→vals.getD 0 undef=.pointer (some ⟨b,0,none⟩)→(∀ (j:Nat) (x:TV),args[j]? = some x→Rep w I x (vals.getD (j + 1) undef)) →
  (callFunc f vals).run P w=.ok (.enter f vals) w ∧
  Calls P f vals w fun e w'=>∃ v,e=.returned v∧(Bs.of w L G).Bel w'∧∃ I' L' S:Nat→Prop,(∀ b,I b→I' b)∧(∀ b,I' b→b < w'.heap.size)∧(∀ b,¬ (Bs.of w L G).New b→I' b→I b) ∧
   (∀ b,L' b→(Bs.of w L G).New b∧b < w'.heap.size∧¬ I' b)∧RepO w' I' r0 v S∧RepV w' I' ld b cs' L'
theorem mapC_unM_junk {i:Nat}:∀ {cs:List CA},(∀ c ∈ cs,c=.junk)→mapC (CA.unM i) cs=cs
 | [],_=>rfl
 | c :: cs,h=>by
  have h0:=h c List.mem_cons_self
  subst h0
  simp only [mapC,CA.unM,mapC_unM_junk (i:=i) (cs:=cs) (fun c hc=>h c (List.mem_cons_of_mem _ hc))]
theorem SimI.growBut (hs:SimI w0 I0 R g st a ov w) {i:Nat} {cs:List CA} (hl:st.look i=some (.cells cs)) (hj:∀ c ∈ cs,c=.junk) {L:Nat→Prop} {G:Laid} (hL:∀ b,L b→b=g.β i∨R b) (hb:(Bs.of w L G).Bel w') {vs:Array Value} {ty:TypeId}
  (hh:w'.heap[g.β i]? = some (.cells vs ty (0,0))) (hn:vs.size=cs.length) (hone:∀ u ∈ vs.toList,u.oneCell'=true) {I' R':Nat→Prop} (hI:∀ b,g.I b→I' b) (hlt:∀ b,I' b→b < w'.heap.size)
  (hold:∀ b,¬ (Bs.of w L G).New b→I' b→g.I b) (hβ:¬ I' (g.β i)) (hR:∀ b,R' b→(R b∨w.heap.size≤b)∧b < w'.heap.size∧¬ I' b∧b≠g.β i):SimI w0 I0 R' ⟨I',g.ρ,g.β,g.φ,g.O⟩ (st.mapS (CA.unM i)) a ov w':=by
 have hfi:Foot g st.look i (g.β i):=.inl ⟨cs,hl,rfl⟩
 have hnL:∀ j b,Foot g st.look j b→j≠i→¬ L b:=fun j b hf hne hlb=>by
  rcases hL b hlb with e | e
  ·subst e; exact hne (hs.apart j i _ hf hfi)
  ·exact (hs.foot j b hf).2.2.2 e
 have hft:∀ j b,Foot g st.look j b→j≠i→w'.heap[b]? = w.heap[b]? := fun j b h hne=>hb.block b (hs.foot j b h).2.1 (hnL j b h hne)
 have hIk:∀ b,g.I b→w'.heap[b]? = w.heap[b]? := fun b h=>hb.block b (hs.lt b h) (fun hlb=>by
  rcases hL b hlb with e | e
  ·subst e; exact (hs.foot i _ hfi).2.2.1 h
  ·exact (hs.res b e).2.2 h)
 have hLN:∀ b,L b→w0.New b:=fun b hlb=>by
  rcases hL b hlb with e | e
  ·subst e; exact (hs.foot i _ hfi).1
  ·exact (hs.res b e).1
 have hci:∀ j cs',st.look j=some (.tree cs')→j≠i:=fun j cs' h e=>by subst e; rw [hl] at h; cases h
 have lkc:∀ j c,st.look j=some (.cells c)→(st.mapS (CA.unM i)).look j=some (.cells (mapC (CA.unM i) c)):=fun j c h=>by rw [look_mapS,h]; rfl
 have lkt:∀ j xs,st.look j=some (.tree xs)→(st.mapS (CA.unM i)).look j=some (.tree xs):=fun j c h=>by rw [look_mapS,h]; rfl
 have inv:∀ j b,(st.mapS (CA.unM i)).look j=some b→∃ b0,st.look j=some b0∧b=b0.mapB (CA.unM i):=fun j b h=>by
  rw [look_mapS] at h
  cases h0:st.look j with
  | none=>simp [h0] at h
  | some b0=>simp only [h0,Option.map_some,Option.some.injEq] at h; exact ⟨b0,rfl,h.symm⟩
 have invT:∀ j xs,(st.mapS (CA.unM i)).look j=some (.tree xs)→st.look j=some (.tree xs):=fun j xs h=>by
  obtain ⟨b0,h1,h2⟩:=inv j _ h
  cases b0 <;> simp [BC.mapB] at h2
  subst h2
  exact h1
 have nm:∀ j r p xs x v nd,st.look j=some (.tree xs)→xs[r]? = some x→Node w p x (g.ρ j r) v nd→Node w' p x (g.ρ j r) v nd:=fun j r p xs x v nd hl' hx hnd =>
  Node.mv (hs.trees j xs hl' r x hx) hIk (fun b h=>hft j b (.inr ⟨xs,r,hl',(List.getElem?_eq_some_iff.1 hx).1,h⟩) (hci j xs hl')) hnd
 have hf:∀ c v,RepC w g st.look c v→RepC w' ⟨I',g.ρ,g.β,g.φ,g.O⟩ (st.mapS (CA.unM i)).look (c.unM i) v:=by
  intro c v h
  cases c with
  | t x=>exact ⟨h.1.mv hIk hI,h.2⟩
  | ptr j off=>obtain ⟨c',h1,h2⟩:=h; exact ⟨_,lkc j c' h1,h2⟩
  | ref x off =>
   obtain ⟨ad,cell,h1,h3⟩:=h
   exact ⟨ad,cell,h1,fun k c hk=>⟨CellAt.mv (g':=⟨I',g.ρ,g.β,g.φ,g.O⟩) hIk hI rfl (h3 k c hk).1,(h3 k c hk).2.1,(h3 k c hk).2.2.mv hIk hI⟩⟩
  | tptr j r p k q=>obtain ⟨xs,x,ad,l,cap,s,n,h1,h2,h3,h4,h5⟩:=h; exact ⟨xs,x,ad,l,cap,s,n,lkt j xs h1,h2,nm j r p xs x _ _ h1 h2 h3,h4,h5⟩
  | sref j r p=>obtain ⟨xs,x,nd,h1,h2,h3,h4⟩:=h; exact ⟨xs,x,nd,lkt j xs h1,h2,nm j r p xs x _ _ h1 h2 h3,h4⟩
  | swin j r p lo len=>obtain ⟨xs,x,u,nd,h1,h2,h3,h4,h5⟩:=h; exact ⟨xs,x,u,nd,lkt j xs h1,h2,nm j r p xs x _ _ h1 h2 h3,h4,h5⟩
  | may j ty =>
   simp only [CA.unM]
   cases hji:j.beq i with
   | true=>exact trivial
   | false =>
    obtain ⟨c',h1,⟨us,fr,h2⟩,h3⟩:=h
    have hne:j≠i:=fun e=>by subst e; simp at hji
    exact ⟨_,lkc j c' h1,⟨us,fr,by show w'.heap[g.β j]? = _; rw [hft j _ (.inl ⟨c',h1,rfl⟩) hne]; exact h2⟩,h3⟩
  | aptr j off len n=>obtain ⟨c',h1,h2,h3⟩:=h; exact ⟨_,lkc j c' h1,h2,h3⟩
  | yl n=>exact h
  | undef=>exact h
  | junk=>exact h
 have hfoot:∀ j b,Foot ⟨I',g.ρ,g.β,g.φ,g.O⟩ (st.mapS (CA.unM i)).look j b→Foot g st.look j b:=fun j b h=>by
  rcases h with ⟨c,h1,h2⟩ | ⟨xs,r,h1,h2,h3⟩
  ·obtain ⟨b0,i1,i2⟩:=inv j _ h1
   cases b0 <;> simp [BC.mapB] at i2
   exact .inl ⟨_,i1,h2⟩
  ·exact .inr ⟨xs,r,invT j xs h1,h2,h3⟩
 have hsz:w.heap.size≤w'.heap.size:=hb.size
 refine ⟨hs.below.but hb.os hb.tape hb.output hb.size (fun k hk hnew=>hb.block k hk (fun h=>hnew (hLN k h))),fun b h=>hI b (hs.sub b h),hlt,fun b h1 h2=>hs.old b h1 (hold b (fun h=>h1 (h.elim (fun h=>.of_le hs.below h) (hLN b))) h2),by simp only [ASt.mapS,mapAs_len]; exact hs.len,hs.defers,
  slots_map (w':=w') (g':=⟨I',g.ρ,g.β,g.φ,g.O⟩) (st':=st.mapS (CA.unM i)) hf hIk hI (l:=st.slots) (vs:=fun t=>a.tmps.getD t undef) hs.slots,by simp only [ASt.mapS,mapAs_len]; exact hs.olen,
  slots_map (w':=w') (g':=⟨I',g.ρ,g.β,g.φ,g.O⟩) (st':=st.mapS (CA.unM i)) hf hIk hI (l:=st.out) (vs:=fun t=>ov.getD t undef) hs.outs,
  fun j c hl'=>?_,fun j xs hl' r x hx=>?_,fun j b h=>?_,fun i j b h1 h2=>hs.apart i j b (hfoot i b h1) (hfoot j b h2),fun i xs r r' b h1 h2 h3 h4 h5=>hs.apartR i xs r r' b (invT i xs h1) h2 h3 h4 h5,fun b hr=>?_,hs.base,hs.out⟩
 ·obtain ⟨b0,i1,i2⟩:=inv j _ hl'
  cases b0 with
  | tree xs=>simp [BC.mapB] at i2
  | cells c0 =>
   simp only [BC.mapB,BC.cells.injEq] at i2
   subst i2
   by_cases e:j=i
   ·subst e
    rw [hl] at i1
    cases i1
    rw [mapC_unM_junk hj]
    refine ⟨vs,ty,hh,by simpa using hn,fun k c u hc hu=>?_⟩
    have:=hj c (List.mem_of_getElem? hc)
    subst this
    exact ⟨trivial,hone u (List.mem_of_getElem? hu)⟩
   ·obtain ⟨us,t,h1,h2⟩:=hs.cells j c0 i1
    exact ⟨us,t,by rw [← h1]; exact hft j _ (.inl ⟨c0,i1,rfl⟩) e,h2.mapC hf⟩
 ·have hl2:=invT j xs hl'
  exact (hs.trees j xs hl2 r x hx).mv hIk hI (fun b h=>hft j b (.inr ⟨xs,r,hl2,(List.getElem?_eq_some_iff.1 hx).1,h⟩) (hci j xs hl2)) (fun _ h=>h)
 ·replace h:=hfoot j b h
  obtain ⟨h1,h2,h3,h4⟩:=hs.foot j b h
  refine ⟨h1,Nat.lt_of_lt_of_le h2 hsz,fun h'=>?_,fun h'=>?_⟩
  ·by_cases e:j=i
   ·subst e
    rcases h with ⟨c,_,e2⟩ | ⟨xs,r,e2,_⟩
    ·rw [e2] at h'; exact hβ h'
    ·rw [hl] at e2; cases e2
   ·exact h3 (hold b (fun hn=>hn.elim (fun hn=>by have:w.heap.size≤b:=hn; omega) (hnL j b h e)) h')
  ·obtain ⟨q1,_,_,q4⟩:=hR b h'
   rcases q1 with q1 | q1
   ·exact h4 q1
   ·omega
 ·obtain ⟨q1,q2,q3,_⟩:=hR b hr
  refine ⟨?_,q2,q3⟩
  rcases q1 with q1 | q1
  ·exact (hs.res b q1).1
  ·exact .of_le hs.below q1
theorem SimI.grow (hs:SimI w0 I0 R g st a ov w) (hb:Below w.heap.size w w') {I' R':Nat→Prop} (hI:∀ b,g.I b→I' b) (hlt:∀ b,I' b→b < w'.heap.size) (hold:∀ b,b < w.heap.size→I' b→g.I b)
  (hR:∀ b,R' b→R b∨(w.heap.size≤b∧b < w'.heap.size∧¬ I' b)):SimI w0 I0 R' ⟨I',g.ρ,g.β,g.φ,g.O⟩ st a ov w':=by
 have hft:∀ i b,Foot g st.look i b→w'.heap[b]? = w.heap[b]? := fun i b h=>hb.block b (hs.foot i b h).2.1
 have m:Mv (fun _ _ _=>True) w g st.look w' ⟨I',g.ρ,g.β,g.φ,g.O⟩ st.look:=by
  refine ⟨fun b h=>hb.block b (hs.lt b h),hI,fun i cs h=>⟨cs,h,rfl⟩,fun i cs ty h ht=>(by
   obtain ⟨vs,fr,h1⟩:=ht
   exact ⟨vs,fr,by rw [hft i _ (.inl ⟨cs,h,rfl⟩)]; exact h1⟩),fun i r p xs x v nd hl hx _ _ hn=>⟨xs,x,hl,hx,?_⟩,rfl⟩
  exact Node.mv (hs.trees i xs hl r x hx) (fun b h=>hb.block b (hs.lt b h)) (fun b h=>hft i b (.inr ⟨xs,r,hl,(List.getElem?_eq_some_iff.1 hx).1,h⟩)) hn
 have hfoot:∀ i b,Foot ⟨I',g.ρ,g.β,g.φ,g.O⟩ st.look i b→Foot g st.look i b:=fun i b h=>h
 refine ⟨hs.below.step hb,fun b h=>hI b (hs.sub b h),hlt,fun b h1 h2=>hs.old b h1 (hold b (by have:=mt (Bs.New.of_le hs.below (b:=b)) h1; omega) h2),hs.len,hs.defers,fun t v hv=>(hs.slots t v hv).mv m,hs.olen,fun t v hv=>(hs.outs t v hv).mv m,
  fun i cs hl=>?_,fun i xs hl r x hx=>?_,fun i b h=>?_,fun i j b h1 h2=>hs.apart i j b h1 h2,hs.apartR,fun b hr=>?_,hs.base,hs.out⟩
 ·obtain ⟨vs,ty,h1,h2⟩:=hs.cells i cs hl
  exact ⟨vs,ty,by rw [← h1]; exact hft i _ (.inl ⟨cs,hl,rfl⟩),h2.mv m⟩
 ·exact (hs.trees i xs hl r x hx).mv (fun b h=>hb.block b (hs.lt b h)) hI (fun b h=>hft i b (.inr ⟨xs,r,hl,(List.getElem?_eq_some_iff.1 hx).1,h⟩)) (fun _ h=>h)
 ·obtain ⟨h1,h2,h3,h4⟩:=hs.foot i b h
  refine ⟨h1,Nat.lt_of_lt_of_le h2 hb.size,fun h'=>h3 (hold b h2 h'),fun h'=>?_⟩
  rcases hR b h' with h' | h'
  ·exact h4 h'
  ·omega
 ·rcases hR b hr with h | h
  ·obtain ⟨h1,h2,h3⟩:=hs.res b h
   exact ⟨h1,Nat.lt_of_lt_of_le h2 hb.size,fun h'=>h3 (hold b h2 h')⟩
  ·exact ⟨.of_le hs.below h.1,h.2.1,h.2.2⟩
def Wide (g:Gh) (look:Look) (I2:Nat→Prop):Prop:=(∀ b,g.I b→I2 b)∧∀ i b,Foot g look i b→I2 b
theorem lendC_hits {T:Type} (hlk:∀ i b,look i=some b→st.look i=some b) (hs:SimI w0 I0 R g st a ov w) {c:CA} {u:Value} {k:TV→Prg T} {e:T} (hc:RepC w g st.look c u) (h:(lendC look c k).hits C e) :
  ∃ y,(k y).hits C e∧∀ I2,Wide g st.look I2→Rep w I2 y u:=by
 cases c with
 | t x=>exact ⟨x,h,fun I2 hw=>hc.1.mv (fun _ _=>rfl) hw.1⟩
 | sref i r p =>
  simp only [lendC,resT] at h
  split at h
  ·rename_i x hx
   obtain ⟨xs,h1,h2⟩:=rootOf_some hx
   obtain ⟨y,h3,h4⟩:=getO_hits h
   obtain ⟨xs',x',nd,g1,g2,g3,g4⟩:=hc
   rw [hlk _ _ h1] at g1
   cases g1
   rw [h2] at g2
   cases g2
   obtain ⟨_,S',r1,r2⟩:=hs.at (hlk _ _ h1) h2 g3 h3
   exact ⟨_,h4,fun I2 hw=>r1.frz hw.1 (fun b hb=>hw.2 i b (.inr ⟨xs,r,hlk _ _ h1,(List.getElem?_eq_some_iff.1 h2).1,r2 b hb⟩))⟩
  ·exact h.elim
 | swin i r p lo len =>
  simp only [lendC,resT] at h
  split at h
  ·rename_i x hx
   obtain ⟨xs,h1,h2⟩:=rootOf_some hx
   obtain ⟨y,h3,z,h4,h5⟩:=getO_hits h
   obtain ⟨xs',x',u,nd,g1,g2,g3,g4,g5⟩:=hc
   rw [hlk _ _ h1] at g1
   cases g1
   rw [h2] at g2
   cases g2
   obtain ⟨e1,S',r1,r2⟩:=hs.at (hlk _ _ h1) h2 g3 h3
   exact ⟨_,h5,fun I2 hw=>(win_rep r1 e1 g5 h4).frz hw.1 (fun b hb=>hw.2 i b (.inr ⟨xs,r,hlk _ _ h1,(List.getElem?_eq_some_iff.1 h2).1,r2 b hb⟩))⟩
  ·exact h.elim
 | _=>exact h.elim
theorem lendL_hits {T:Type} (hlk:∀ i b,look i=some b→st.look i=some b) (hs:SimI w0 I0 R g st a ov w):∀ {cs:List CA} {us:List Value} {k:List TV→Prg T} {e:T},CR w g st.look cs us→(lendL look cs k).hits C e →
  ∃ ys,(k ys).hits C e∧ys.length=cs.length∧∀ I2,Wide g st.look I2→∀ (m:Nat) (y:TV) (u:Value),ys[m]? = some y→us[m]? = some u→Rep w I2 y u
 | [],us,k,e,hcr,h=>⟨[],h,rfl,fun I2 _ m y u hy=>by simp at hy⟩
 | c :: l, us, k, e, hcr, h => by
  obtain ⟨u0,us',rfl⟩:∃ u0 us',us=u0 :: us':=by
   cases us with
   | nil=>have:=hcr.1; simp at this
   | cons u0 us'=>exact ⟨u0,us',rfl⟩
  have hc:=hcr.2 0 c u0 rfl rfl
  have hcr':CR w g st.look l us':=⟨by have:=hcr.1; simpa using this,fun j c' u hc' hu'=>hcr.2 (j + 1) c' u (by simpa using hc') (by simpa using hu')⟩
  obtain ⟨y,h1,h2⟩:=lendC_hits hlk hs hc.1 h
  obtain ⟨ys,h3,h4,h5⟩:=lendL_hits hlk hs hcr' h1
  refine ⟨y :: ys,h3,by simp [h4],fun I2 hw m y' u hy hu=>?_⟩
  cases m with
  | zero=>simp at hy hu; subst hy hu; exact h2 I2 hw
  | succ m=>simp at hy hu; exact h5 I2 hw m y' u hy hu
theorem rep_agg {ys:List TV} {vs:Array Value} (hl:vs.toList.length=ys.length) (h1:∀ (j:Nat) (u:Value),vs.toList[j]? = some u→u.oneCell'=true) (hr:∀ (m:Nat) (y:TV) (u:Value),ys[m]? = some y→vs.toList[m]? = some u→Rep w I y u):Rep w I (.agg ys) (.agg vs):=by
 refine .agg (by simpa using hl) (fun j hj=>?_) (fun j c hj=>?_)
 ·have:vs.toList[j]? = some vs[j]:=by simp [hj]
  rw [Array.getD_eq_getD_getElem?,Array.getElem?_eq_getElem hj]
  exact h1 j _ this
 ·have hj':j < vs.size:=by have:=(List.getElem?_eq_some_iff.1 hj).1; simp at hl; omega
  have:vs.toList[j]? = some vs[j]:=by simp [hj']
  rw [Array.getD_eq_getD_getElem?,Array.getElem?_eq_getElem hj']
  exact hr j c _ hj this
theorem lendA_hits {T:Type} (hlk:∀ i b,look i=some b→st.look i=some b) (hs:SimI w0 I0 R g st a ov w) {v:AV} {u:Value} {k:TV→Prg T} {e:T} (hv:RepA w g st.look v u) (h:(lendA look v k).hits C e) :
  ∃ y,(k y).hits C e∧∀ I2,Wide g st.look I2→Rep w I2 y u:=by
 cases v with
 | one c=>exact lendC_hits hlk hs hv h
 | tv x=>exact ⟨x,h,fun I2 hw=>Rep.mv (fun _ _=>rfl) hw.1 hv⟩
 | bl b =>
  have:u=.bool b:=hv
  subst this
  exact ⟨_,h,fun I2 _=>.lit _⟩
 | tups l=>exact h.elim
 | clo _ l=>exact h.elim
 | agg cs =>
  obtain ⟨vs,rfl,hcr⟩:=hv
  obtain ⟨ys,h1,h2,h3⟩:=lendL_hits hlk hs hcr h
  refine ⟨_,h1,fun I2 hw=>rep_agg (by rw [h2]; exact hcr.1) (fun j u hu=>?_) (h3 I2 hw)⟩
  have hj:j < cs.length:=by rw [← hcr.1]; exact (List.getElem?_eq_some_iff.1 hu).1
  exact (hcr.2 j _ u (List.getElem?_eq_getElem hj) hu).2
def RepAs (w:World) (g:Gh) (look:Look):List AV→List Value→Prop
 | [],[]=>True
 | v :: l,u :: us=>RepA w g look v u∧RepAs w g look l us
 | _,_=>False
theorem RepAs.len:∀ {l:List AV} {us:List Value},RepAs w g look l us→us.length=l.length
 | [],[],_=>rfl
 | v :: l,u :: us,h=>by simp [h.2.len]
 | [],u :: us,h=>h.elim
 | v :: l,[],h=>h.elim
theorem SimI.evs (hs:SimI w0 I0 R g st a ov w):∀ (xs:List Operand),RepAs w g st.look (xs.map st.ev) (xs.map a.eval)
 | []=>trivial
 | x :: xs=>⟨hs.ev x,hs.evs xs⟩
theorem lends_hits {T:Type} (hlk:∀ i b,look i=some b→st.look i=some b) (hs:SimI w0 I0 R g st a ov w):∀ {vs:List AV} {us:List Value} {k:List TV→Prg T} {e:T},RepAs w g st.look vs us→(lends look vs k).hits C e →
  ∃ ys,(k ys).hits C e∧ys.length=vs.length∧∀ I2,Wide g st.look I2→∀ (m:Nat) (y:TV),ys[m]? = some y→Rep w I2 y (us.getD m undef)
 | [],us,k,e,hr,h=>⟨[],h,rfl,fun I2 _ m y hy=>by simp at hy⟩
 | v :: l,[],k,e,hr,h=>hr.elim
 | v :: l,u :: us,k,e,hr,h=>by
  obtain ⟨y,h1,h2⟩:=lendA_hits hlk hs hr.1 h
  obtain ⟨ys,h3,h4,h5⟩:=lends_hits hlk hs hr.2 h1
  refine ⟨y :: ys,h3,by simp [h4],fun I2 hw m y' hy=>?_⟩
  cases m with
  | zero=>simp at hy ⊢; subst hy; exact h2 I2 hw
  | succ m=>simp at hy ⊢; simpa using h5 I2 hw m y' hy
def HandOk (g:Gh) (rs:List (Nat × Nat)) (I2:Nat→Prop):Prop:=(∀ b,g.I b→I2 b)∧∀ i r,(i,r) ∈ rs→∀ b,g.φ i r b→I2 b
def Roots (look:Look) (rs:List (Nat × Nat)):Prop:=∀ i r,(i,r) ∈ rs→∃ xs x,look i=some (.tree xs)∧xs[r]? = some x
theorem isFr_repI {x:TV} {v:Value} {S:Nat→Prop} {I2:Nat→Prop} (h:RepO w g.I x v S) (hf:x.isFr=true) (hI:∀ b,g.I b→I2 b):Rep w I2 x v:=by
 cases h with
 | fr h=>exact h.mv (fun _ _=>rfl) hI
 | sl=>simp [TV.isFr] at hf
 | agg=>simp [TV.isFr] at hf
 | tup=>simp [TV.isFr] at hf
 | buf=>simp [TV.isFr] at hf
theorem handC_hits {T:Type} (hlk:∀ i b,look i=some b→st.look i=some b) (hs:SimI w0 I0 R g st a ov w) {c:CA} {u:Value} {k:TV→List (Nat × Nat)→Prg T} {e:T} (hc:RepC w g st.look c u) (h:(handC look c k).hits C e) :
  ∃ y rs,(k y rs).hits C e∧Roots st.look rs∧∀ I2,HandOk g rs I2→Rep w I2 y u:=by
 cases c with
 | t x=>exact ⟨x,[],h,fun i r hm=>by simp at hm,fun I2 hw=>hc.1.mv (fun _ _=>rfl) hw.1⟩
 | sref i r p =>
  simp only [handC] at h
  split at h
  ·rename_i x hx
   obtain ⟨xs,h1,h2⟩:=rootOf_some hx
   obtain ⟨xs',x',nd,g1,g2,g3,g4⟩:=hc
   rw [hlk _ _ h1] at g1
   cases g1
   rw [h2] at g2
   cases g2
   have hroot:Roots st.look [(i,r)]:=fun i' r' hm=>by
    simp only [List.mem_singleton,Prod.mk.injEq] at hm
    obtain ⟨rfl,rfl⟩:=hm
    exact ⟨xs,x,hlk _ _ h1,h2⟩
   split at h
   ·refine ⟨_,_,h,hroot,fun I2 hw=>?_⟩
    rw [g3.1]
    exact (hs.trees i xs (hlk _ _ h1) r x h2).frz hw.1 (hw.2 i r (by simp))
   ·obtain ⟨y,hy,hf,h⟩:=h
    obtain ⟨_,S',r1,r2⟩:=hs.at (hlk _ _ h1) h2 g3 hy
    exact ⟨_,_,h,fun i r hm=>by simp at hm,fun I2 hw=>isFr_repI r1 hf hw.1⟩
  ·exact h.elim
 | swin i r p lo len =>
  simp only [handC] at h
  split at h
  ·rename_i x hx
   obtain ⟨xs,h1,h2⟩:=rootOf_some hx
   obtain ⟨xs',x',u,nd,g1,g2,g3,g4,g5⟩:=hc
   rw [hlk _ _ h1] at g1
   cases g1
   rw [h2] at g2
   cases g2
   have hroot:Roots st.look [(i,r)]:=fun i' r' hm=>by
    simp only [List.mem_singleton,Prod.mk.injEq] at hm
    obtain ⟨rfl,rfl⟩:=hm
    exact ⟨xs,x,hlk _ _ h1,h2⟩
   split at h
   ·obtain ⟨y,hy,h⟩:=h
    refine ⟨_,_,h,hroot,fun I2 hw=>?_⟩
    have hr:=hs.trees i xs (hlk _ _ h1) r x h2
    rw [← g3.1] at hr
    exact (win_rep hr g3.2 g5 hy).frz hw.1 (hw.2 i r (by simp))
   ·obtain ⟨z,hz,y,hy,hf,h⟩:=h
    obtain ⟨e1,S',r1,_⟩:=hs.at (hlk _ _ h1) h2 g3 hz
    exact ⟨_,_,h,fun i r hm=>by simp at hm,fun I2 hw=>isFr_repI (win_rep r1 e1 g5 hy) hf hw.1⟩
  ·exact h.elim
 | _=>exact h.elim
theorem Roots.app {rs rs':List (Nat × Nat)} (h:Roots look rs) (h':Roots look rs'):Roots look (rs ++ rs'):=fun i r hm=>by
 rcases List.mem_append.1 hm with hm | hm
 ·exact h i r hm
 ·exact h' i r hm
theorem HandOk.left {rs rs':List (Nat × Nat)} {I2:Nat→Prop} (h:HandOk g (rs ++ rs') I2):HandOk g rs I2:=⟨h.1,fun i r hm=>h.2 i r (List.mem_append_left _ hm)⟩
theorem HandOk.right {rs rs':List (Nat × Nat)} {I2:Nat→Prop} (h:HandOk g (rs ++ rs') I2):HandOk g rs' I2:=⟨h.1,fun i r hm=>h.2 i r (List.mem_append_right _ hm)⟩
theorem handL_hits {T:Type} (hlk:∀ i b,look i=some b→st.look i=some b) (hs:SimI w0 I0 R g st a ov w):∀ {cs:List CA} {us:List Value} {k:List TV→List (Nat × Nat)→Prg T} {e:T},CR w g st.look cs us→(handL look cs k).hits C e →
  ∃ ys rs,(k ys rs).hits C e∧Roots st.look rs∧ys.length=cs.length∧∀ I2,HandOk g rs I2→∀ (m:Nat) (y:TV) (u:Value),ys[m]? = some y→us[m]? = some u→Rep w I2 y u
 | [],us,k,e,hcr,h=>⟨[],[],h,fun i r hm=>by simp at hm,rfl,fun I2 _ m y u hy=>by simp at hy⟩
 | c :: l, us, k, e, hcr, h => by
  obtain ⟨u0,us',rfl⟩:∃ u0 us',us=u0 :: us':=by
   cases us with
   | nil=>have:=hcr.1; simp at this
   | cons u0 us'=>exact ⟨u0,us',rfl⟩
  have hc:=hcr.2 0 c u0 rfl rfl
  have hcr':CR w g st.look l us':=⟨by have:=hcr.1; simpa using this,fun j c' u hc' hu'=>hcr.2 (j + 1) c' u (by simpa using hc') (by simpa using hu')⟩
  obtain ⟨y,rs,h1,h0,h2⟩:=handC_hits hlk hs hc.1 h
  obtain ⟨ys,rs',h3,h0',h4,h5⟩:=handL_hits hlk hs hcr' h1
  refine ⟨y :: ys,rs ++ rs',h3,h0.app h0',by simp [h4],fun I2 hw m y' u hy hu=>?_⟩
  cases m with
  | zero=>simp at hy hu; subst hy hu; exact h2 I2 hw.left
  | succ m=>simp at hy hu; exact h5 I2 hw.right m y' u hy hu
theorem handA_hits {T:Type} (hlk:∀ i b,look i=some b→st.look i=some b) (hs:SimI w0 I0 R g st a ov w) {v:AV} {u:Value} {k:TV→List (Nat × Nat)→Prg T} {e:T} (hv:RepA w g st.look v u) (h:(handA look v k).hits C e) :
  ∃ y rs,(k y rs).hits C e∧Roots st.look rs∧∀ I2,HandOk g rs I2→Rep w I2 y u:=by
 cases v with
 | one c=>exact handC_hits hlk hs hv h
 | tv x=>exact ⟨x,[],h,fun i r hm=>by simp at hm,fun I2 hw=>Rep.mv (fun _ _=>rfl) hw.1 hv⟩
 | bl b =>
  have:u=.bool b:=hv
  subst this
  exact ⟨_,[],h,fun i r hm=>by simp at hm,fun I2 _=>.lit _⟩
 | tups l=>exact h.elim
 | clo _ l=>exact h.elim
 | agg cs =>
  obtain ⟨vs,rfl,hcr⟩:=hv
  obtain ⟨ys,rs,h1,h0,h2,h3⟩:=handL_hits hlk hs hcr h
  refine ⟨_,rs,h1,h0,fun I2 hw=>rep_agg (by rw [h2]; exact hcr.1) (fun j u hu=>?_) (h3 I2 hw)⟩
  have hj:j < cs.length:=by rw [← hcr.1]; exact (List.getElem?_eq_some_iff.1 hu).1
  exact (hcr.2 j _ u (List.getElem?_eq_getElem hj) hu).2
theorem hands_hits {T:Type} (hlk:∀ i b,look i=some b→st.look i=some b) (hs:SimI w0 I0 R g st a ov w):∀ {vs:List AV} {us:List Value} {k:List TV→List (Nat × Nat)→Prg T} {e:T},RepAs w g st.look vs us→(hands look vs k).hits C e →
  ∃ ys rs,(k ys rs).hits C e∧Roots st.look rs∧ys.length=vs.length∧∀ I2,HandOk g rs I2→∀ (m:Nat) (y:TV),ys[m]? = some y→Rep w I2 y (us.getD m undef)
 | [],us,k,e,hr,h=>⟨[],[],h,fun i r hm=>by simp at hm,rfl,fun I2 _ m y hy=>by simp at hy⟩
 | v :: l,[],k,e,hr,h=>hr.elim
 | v :: l,u :: us,k,e,hr,h=>by
  obtain ⟨y,rs,h1,h0,h2⟩:=handA_hits hlk hs hr.1 h
  obtain ⟨ys,rs',h3,h0',h4,h5⟩:=hands_hits hlk hs hr.2 h1
  refine ⟨y :: ys,rs ++ rs',h3,h0.app h0',by simp [h4],fun I2 hw m y' hy=>?_⟩
  cases m with
  | zero=>simp at hy ⊢; subst hy; exact h2 I2 hw.left
  | succ m=>simp at hy ⊢; simpa using h5 I2 hw.right m y' hy
theorem freeze_state:∀ (rs:List (Nat × Nat)) {st:ASt} {g:Gh},SimI w0 I0 R g st a ov w→Roots st.look rs→nodupP rs=true →
  ∃ st1 g1,primsApp dst (frzPs rs) st=some st1∧SimI w0 I0 R g1 st1 a ov w∧HandOk g rs g1.I∧st1.out.length=st.out.length∧∀ j cs,st.look j=some (.cells cs)→st1.look j=some (.cells cs)∧g1.β j=g.β j
 | [],st,g,hs,hr,hn=>⟨st,g,rfl,hs,⟨fun _ h=>h,fun i r hm=>by simp at hm⟩,rfl,fun _ _ h=>⟨h,rfl⟩⟩
 | (i, r) :: rs, st, g, hs, hr, hn => by
  obtain ⟨xs,x,hl,hx⟩:=hr i r (by simp)
  obtain ⟨h1,h2,h3⟩:=hs.freeze hl hx
  simp only [nodupP,Bool.and_eq_true,Bool.not_eq_true'] at hn
  have hne:∀ i' r',(i',r') ∈ rs→¬ (i'=i∧r'=r):=fun i' r' hm ⟨e1,e2⟩=>by
   subst e1 e2
   have:=hn.1
   rw [memP_false] at this
   exact this hm
  have hrl:r < xs.length:=(List.getElem?_eq_some_iff.1 hx).1
  have hlook:∀ j,(st.setBox i (some (.tree (setNth xs r (frz x))))).look j=if i=j then some (.tree (setNth xs r (frz x))) else st.look j:=fun j=>by
   rw [look_setBox]
   by_cases h:i=j
   ·subst h; rw [if_pos ⟨rfl,look_lt hl⟩,if_pos rfl]
   ·rw [if_neg (fun h'=>h h'.1),if_neg h]
  obtain ⟨st1,g1,q1,q2,q3,q4,q5⟩:=freeze_state rs h2 (fun i' r' hm=>by
   obtain ⟨xs',x',hl',hx'⟩:=hr i' r' (List.mem_cons_of_mem _ hm)
   rw [hlook]
   by_cases h:i=i'
   ·subst h
    rw [hl] at hl'
    cases hl'
    refine ⟨_,x',by rw [if_pos rfl],?_⟩
    rw [setNth_eq,List.getElem?_set,if_neg (fun e=>hne _ _ hm ⟨rfl,e.symm⟩)]
    exact hx'
   ·exact ⟨xs',x',by rw [if_neg h]; exact hl',hx'⟩) hn.2
  refine ⟨st1,g1,?_,q2,⟨fun b hb=>q3.1 b (.inl hb),fun i' r' hm b hb=>?_⟩,q4,fun j cs hj=>(by
   have hne:i≠j:=fun e=>by subst e; rw [hl] at hj; cases hj
   obtain ⟨z1,z2⟩:=q5 j cs (by rw [hlook,if_neg hne]; exact hj)
   exact ⟨z1,z2⟩)⟩
  ·have hro:rootOf st.look i r=some x:=by
    simp only [rootOf,hl]
    have hb:r.blt xs.length=true:=by simpa using hrl
    rw [hb,nth_some hx]
    rfl
   simp only [frzPs,primsApp,Prim.app,hro,setRoot,hl]
   exact q1
  ·rcases List.mem_cons.1 hm with hm | hm
   ·cases hm
    exact q3.1 b (.inr hb)
   ·refine q3.2 i' r' hm b ?_
    have:¬ (i'=i∧r'=r):=hne i' r' hm
    simp only [Gh.setR]
    rw [if_neg this]
    exact hb
end
end Go.Ab
end

import Derived.Test.YtpkpckdealhkhaaAM9c
import Derived.Test.YtpkpckdealhkhaaAM5b
import Derived.Lib.AppendStr
import Derived.Laws.BytesString
set_option linter.all false
section
namespace Go.Ab
open Go.RowKit
section
variable {P:Program} {E:Env} {C:Cal} {w0:Bs} {w w':World} {I0 I R:Nat->Prop} {g g':Gh} {st st':ASt} {a:Act} {ov:List Value} {look:Look} {Q:Exit->Act->World->Prop} {id:Nat}
variable {dst:Option Tmp} {type:TypeId} {pos:String} {after:Array Edge} {guard:Option (Nat × Bool)}
theorem Src.lf {s:Nat} {xs:List (List TV)} {v:Value} {us:List Value} {F:Nat->Nat->Prop} (h:Src w I s xs v us F):Src w I s (qK xs) v us (fun _ _=>False):=by
 rw[zU]
 refine⟨by simp[h.len],fun x hx=>?_,h.one,?_,fun k c hc=>?_,fun _ _ _ h=>h.elim⟩
 ·obtain⟨y,hy,rfl⟩:=List.mem_map.1 hx
  simpa using h.all y hy
 ·obtain⟨A,c,h1,h2,h3⟩:=h.form
  exact⟨A,c,by simpa using h1,fun hA=>by simp[h2 hA],h3⟩
 ·have:(xs.map fun x=>x.map TV.lf).flatten=xs.flatten.map TV.lf:=by rw[List.map_flatten]
  rw[this,FW]at hc
  cases hk:xs.flatten[k]? with
  | none=>simp[hk]at hc
  | some c' =>
   simp only[hk,F6,FR]at hc
   subst hc
   exact .fr (Ff (h.rep k c' hk))
theorem tp {S : Type} (hlk : ∀ i b, look i = some b → st.look i = some b) (hs : al w0 I0 NoR g st a ov w) {d : TyD} {dest : Option Nat} {x : AV} {v : Value} {k : List (List TV) → List Prim → Prg S} {e : S} (hx : bX w g st.look x v)
  (h : (yi look d dest x k).hits C e) : ∃ news ps, (k news ps).hits C e ∧ ∃ (st1 : ASt) (g1 : Gh) (R1 : Nat → Prop) (us : List Value) (T : Nat → Nat → Prop) (ts : List (Nat × Nat)), ae dst ps st = some st1 ∧ al w0 I0 R1 g1 st1 a ov w ∧ g1.I = g.I ∧ Kept ts g st g1 st1 ∧
   (∀j,dest=some j->∀r,ic j r ts=false)/\Src w g.I d.size news v us T/\∀k b,T k b->R1 b:=by
 have plain:∀(y:TV) (news:List (List TV)),Rep w g.I y v->pelems d.size y=some news->(k news []).hits C e->∃news ps,(k news ps).hits C e/\∃(st1:ASt) (g1:Gh) (R1:Nat->Prop) (us:List Value) (T:Nat->Nat->Prop) (ts:List (Nat × Nat)),ae dst ps st=some st1/\al w0 I0 R1 g1 st1 a ov w/\g1.I=g.I/\Kept ts g st g1 st1 /\
   (∀j,dest=some j->∀r,ic j r ts=false)/\Src w g.I d.size news v us T/\∀k b,T k b->R1 b:=by
  intro y news hr hp hk
  obtain⟨us,F,h1,h2,_⟩:=Src.of (S:=NoR) (.fr hr) hp
  exact⟨news,[],hk,st,g,NoR,us,F,[],rfl,hs,rfl,Kept.refl _ _ _,fun _ _ _=>rfl,h1,h2⟩
 have taken:∀(i r:Nat) (xs:List TV) (x y:TV) (news:List (List TV)),st.look i=some (.tree xs)->xs[r]? = some x->aq w g.I y v (g.φ i r)->(∀j,dest=some j->i≠j)->pelems d.size y=some news->(k news [.drop i r [] false,.root i r .hole]).hits C e ->
   ∃news ps,(k news ps).hits C e/\∃(st1:ASt) (g1:Gh) (R1:Nat->Prop) (us:List Value) (T:Nat->Nat->Prop) (ts:List (Nat × Nat)),ae dst ps st=some st1/\al w0 I0 R1 g1 st1 a ov w/\g1.I=g.I/\Kept ts g st g1 st1 /\
   (∀j,dest=some j->∀r,ic j r ts=false)/\Src w g.I d.size news v us T/\∀k b,T k b->R1 b:=by
  intro i r xs x y news hl hx hr hne hp hk
  obtain⟨st1,g1,t1,t2,t3,t4,t5,t6⟩:=rO (dst:=dst) hs hl hx
  obtain⟨us,F,h1,h2,_⟩:=Src.of hr hp
  refine⟨news,_,hk,st1,g1,_,us,F,[(i,r)],t1,t2,t3,t4,fun j hj r'=>?_,h1,fun k b hb=>.inr (h2 k b hb)⟩
  rw[dF]
  intro hin
  simp only[List.mem_singleton,Prod.mk.injEq]at hin
  exact hne j hj hin.1.symm
 have destNe:∀i,pd i dest=false->∀j,dest=some j->i≠j:=fun i hb j hj e=>by
  subst hj e
  simp[pd]at hb
 unfold yi at h
 split at h
 ·rename_i t ht
  obtain⟨news,hp,h⟩:=h
  exact plain t news (cG hx ht) hp h
 ·split at h
  ·rename_i c _
   cases hsl:ir d.zero with
   | true =>
    simp only[hsl,cond_true]at h
    cases c with
    | sref i r p =>
     simp only at h
     split at h
     ·rename_i x0 hx0
      obtain⟨xs,h1,h2⟩:=aD hx0
      obtain⟨xs',x',nd,g1,g2,g3,g4⟩:=hx
      rw[hlk _ _ h1]at g1
      cases g1
      rw[h2]at g2
      cases g2
      split at h
      ·cases hb:pd i dest with
       | true=>rw[hb]at h;exact h.elim
       | false =>
        rw[hb]at h
        obtain⟨news,hp,h⟩:=h
        refine taken i r xs x0 x0 news (hlk _ _ h1) h2 ?_ (destNe i hb) hp h
        rw[g3.1]
        exact hs.trees i xs (hlk _ _ h1) r x0 h2
      ·obtain⟨y,hy,hf,news,hp,h⟩:=h
       obtain⟨_,S',r1,_⟩:=hs.at (hlk _ _ h1) h2 g3 hy
       exact plain y news (jS r1 hf) hp h
     ·exact h.elim
    | swin i r p lo len =>
     simp only at h
     split at h
     ·rename_i x0 hx0
      obtain⟨xs,h1,h2⟩:=aD hx0
      obtain⟨xs',x',u,nd,g1,g2,g3,g4,g5⟩:=hx
      rw[hlk _ _ h1]at g1
      cases g1
      rw[h2]at g2
      cases g2
      split at h
      ·cases hb:pd i dest with
       | true=>rw[hb]at h;exact h.elim
       | false =>
        rw[hb]at h
        obtain⟨y,hy,news,hp,h⟩:=h
        refine taken i r xs x0 y news (hlk _ _ h1) h2 ?_ (destNe i hb) hp h
        have hr:=hs.trees i xs (hlk _ _ h1) r x0 h2
        rw[<-g3.1]at hr
        exact dI hr g3.2 g5 hy
      ·obtain⟨z,hz,y,hy,hf,news,hp,h⟩:=h
       obtain⟨e1,S',r1,_⟩:=hs.at (hlk _ _ h1) h2 g3 hz
       exact plain y news (jS (dI r1 e1 g5 hy) hf) hp h
     ·exact h.elim
    | _=>exact h.elim
   | false =>
    simp only[hsl,cond_false]at h
    obtain⟨y,T,h,hr⟩:=uJ hlk hs hx h
    obtain⟨xs,hp,h⟩:=h
    obtain⟨us,F,h1,h2,_⟩:=Src.of hr hp
    exact⟨_,[],h,st,g,NoR,us,fun _ _=>False,[],rfl,hs,rfl,Kept.refl _ _ _,fun _ _ _=>rfl,h1.lf,fun _ _ h=>h.elim⟩
  ·exact h.elim
theorem vX {st st1:ASt} (h:st1.out.length=st.out.length) (d:Option Tmp):st1.nid d=st.nid d:=by cases d<;>simp[ASt.nid,h]
theorem mB {ps:List Prim} {b:BC} {v:AV} {st1:ASt} (ha:(cU ps b v).app st dst=some st') (h1:ae dst ps st=some st1) (ho:st1.out.length=st.out.length) :
  ∃d,dst=some d/\st1.look (st.nid dst)=none/\st.nid dst<st1.boxes.length/\st'=(st1.ac (st.nid dst) (some b)).put (some d) v:=by
 cases ps with
 | nil =>
  simp only[ae,FR]at h1
  subst h1
  exact oA ha
 | cons p ps =>
  simp only[cU,Eff.app]at ha
  rw[cV,h1,Option.bind_some]at ha
  cases dst with
  | none=>simp[ae,Prim.app]at ha
  | some d =>
   simp only[ae,Prim.app]at ha
   cases hb:st1.bC (st1.nid (some d)) b with
   | none=>simp[hb]at ha
   | some s2 =>
    simp only[hb,FR]at ha
    obtain⟨k1,k2,k3⟩:=bu hb
    rw[vX ho]at k1 k2 k3
    subst k3
    exact⟨d,rfl,k1,k2,ha.symm⟩
theorem Grown.below {s n:Nat} {v v':Value} {us:List Value} (h:Grown w w' s v v' n us) (hw:w0.Bel w) (hb:∀a m c,v=.slice (some a) m c->w0.New a.block):w0.Bel w' :=
 hw.but h.os h.tape h.output h.size (fun k hlt hk=>h.block k hlt (fun a m c hv e=>hk (e▸hb a m c hv)))
theorem zD {t e:TypeId} {d dt:TyD} (ht:ba P t dt) (hk:dt.kd=.slice e) (hte:ba P e d) (hby:d.bytes<=4096) {x y:Operand} {v:Value} {n:Nat} {us us2:List Value} {news:List (List TV)} {T:Nat->Nat->Prop}
  (hv:a.eval x=v) (hown:Own w d.size v n us) (hsrc:Src w I d.size news (a.eval y) us2 T) (hroom:n+news.length<=room) :
  ∃v' w',(execOp a.eval ⟨dst,.call ⟨.builtin .append,#[x,y],#[t,t]⟩,type,pos,after,guard⟩).run P w=.ok (.value v') w'/\Grown w w' d.size v v' (n+news.length) (us++us2):=by
 obtain⟨i,z,hi,hsz,hb,hz,hzc⟩:=hte.info
 have hu:=dL ht hk
 have hzs:z.cells.size=i.size:=by have:=hte.zlen;rw[<-hzc]at this;rw[hsz];simpa using this
 obtain⟨A,c,hf,hA,hcell⟩:=hsrc.form
 rw[<-hsz]at hown
 have hr:n+news.length<=4294967296:=hroom
 obtain⟨v',w',h1,h2⟩:=zh (P:=P) (w:=w) (v:=v) t type e i z hu hi hz hzs hown (A:=A) (m:=news.length) (c:=c) (news:=us2) (by rw[hsrc.len,hsz]) (fun h=>by rw[hA h];rfl) hcell hsrc.one (by simp only[maxLen];omega)
  (by rw[hb];have:(n+news.length)*d.bytes<=4294967296*4096:=Nat.mul_le_mul hr hby;omega)
 refine⟨v',w',fI (s:=Builtin.append_ #[t,t] type #[a.eval x,a.eval y]) (fun cs=>by simp[builtin]) (by simpa[hv,hf]using h1),by rw[<-hsz];exact h2⟩
set_option maxHeartbeats 1000000 in
theorem ub (hlk:∀i b,look i=some b->st.look i=some b) (hs:al w0 I0 NoR g st a ov w) {t tu:TypeId} {d:TyD} {x y:Operand} {e:Eff} {news:List (List TV)} {ps:List Prim} {st1:ASt} {g1:Gh} {R1:Nat->Prop} {us2:List Value} {T:Nat->Nat->Prop} {ts:List (Nat × Nat)}
  (p1:ae dst ps st=some st1) (p2:al w0 I0 R1 g1 st1 a ov w) (p3:g1.I=g.I) (p4:Kept ts g st g1 st1) (p5:∀j,rJ (st.ev x)=some j->∀r,ic j r ts=false)
  (hl2:us2.length=news.length*d.size) (hall:∀x∈news,x.length=d.size) (hrp:∀(k:Nat) (c:TV),news.flatten[k]? = some c->aq w g1.I c (us2.getD k undef) (T k)) (hap:∀k k' b,T k b->T k' b->k=k') (hTR:∀k b,T k b->R1 b)
  (hrun:∀(v:Value) (n:Nat) (us:List Value),a.eval x=v->Own w d.size v n us->n+news.length<=room->∃v' w',(execOp a.eval ⟨dst,.call ⟨.builtin .append,#[x,y],#[t,tu]⟩,type,pos,after,guard⟩).run P w=.ok (.value v') w'/\Grown w w' d.size v v' (n+news.length) (us++us2))
  (hh:(nC (st.nid dst) look d (st.ev x) news ps).hits C e) (ha:e.app st dst=some st'):Good P w0 I0 ov ⟨dst,.call ⟨.builtin .append,#[x,y],#[t,tu]⟩,type,pos,after,guard⟩ st' a w Q:=by
 unfold nC at hh
 have hx:=hs.ev x
 have core:∀(z y1:TV) (v:Value) (S R2:Nat->Prop),a.eval x=v->aq w g1.I z v S->papp d.size z news=some y1->(∀b,S b->w0.New b/\b<w.heap.size/\¬g1.I b/\¬R1 b) ->
   ∃v' w',(execOp a.eval ⟨dst,.call ⟨.builtin .append,#[x,y],#[t,tu]⟩,type,pos,after,guard⟩).run P w=.ok (.value v') w'/\w0.Bel w'/\w.heap.size<=w'.heap.size/\(∀b,b<w.heap.size->¬S b->w'.heap[b]? = w.heap[b]?) /\
    aq w' g1.I y1 v' (fun b=>S b\/(w.heap.size<=b/\b<w'.heap.size)\/∃k,T k b)/\nY v':=by
  intro z y1 v S R2 hv hr hp hS
  obtain⟨n,us,b1,b2,b3,b4,b5,b6⟩:=hr.app hp
  obtain⟨v',w',r1,r2⟩:=hrun v n us hv b1 b2
  obtain⟨c1,c2⟩:=b6 w' v' us2 T hl2 hall hrp hap p2.lt (fun b hb=>⟨(hS b hb).2.1,(hS b hb).2.2.1⟩) (fun k b hb=>⟨(p2.res b (hTR k b hb)).2.1,fun h=>(hS b h).2.2.2 (hTR k b hb)⟩) r2
  refine⟨v',w',r1,r2.below p2.below (fun a m c hv=>(hS _ (b4 a m c hv)).1),r2.size,fun b hb hn=>r2.block b hb (fun a m c hv e=>hn (e▸b4 a m c hv)),?_,?_⟩
  ·refine c1.mono (fun b hb=>?_)
   rcases hb with h|h|h
   ·exact .inl h
   ·exact .inr (.inl ⟨by omega,h.2⟩)
   ·exact .inr (.inr h)
  ·obtain⟨A,c,hv'⟩:=c2;exact⟨_,_,_,hv'⟩
 have hnid:st1.nid dst=st.nid dst:=vX p4.out dst
 have turn:∀(i r:Nat) (xs:List TV) (x0 z y1:TV) (v:Value),st.look i=some (.tree xs)->xs[r]? = some x0->(∀r,ic i r ts=false)->a.eval x=v->(∀(I S:Nat->Prop),aq w I x0 (g.ρ i r) S->aq w I z v S)->papp d.size z news=some y1 ->
   (Eff.gen (ps ++ [.drop i r [] false,.root i r y1]) (.one (.sref i r []))).app st dst=some st'->Good P w0 I0 ov ⟨dst,.call ⟨.builtin .append,#[x,y],#[t,tu]⟩,type,pos,after,guard⟩ st' a w Q:=by
  intro i r xs x0 z y1 v hl hx0 hts hv hz hp ha
  obtain⟨t1,t2,t3⟩:=p4.tree i xs hts hl
  have hrl:r<xs.length:=(FP.1 hx0).1
  have hfr:∀b,g1.φ i r b->Foot g1 st1.look i b:=fun b hb=>.inr ⟨xs,r,t1,hrl,hb⟩
  have hrep:=hz _ _ (by rw[<-t2];exact p2.trees i xs t1 r x0 hx0)
  obtain⟨v',w',r1,r2,r3,r4,r5,r6⟩:=core z y1 v _ NoR hv hrep hp (fun b hb=>p2.foot i b (hfr b hb))
  obtain⟨q1,q2⟩:=p2.gc t1 hx0 (CA.drop i r [] false) (fun p=>leads false [] p=false) (gG i r [] false) (R':=NoR) (I':=g1.I) r5 (fun p v nd ho _ _=>by rw[iG]at ho;cases ho) r2 r3 (fun b hb hn _=>r4 b hb hn)
   (fun b hb => by
    rcases hb with h|h|⟨k,h⟩
    ·exact .inl h
    ·exact .inr (.inr h)
    ·exact .inr (.inl (hTR k b h)))
   (fun b hb => hb.elim) (fun _ h => h) (fun _ h => .inl h) (fun b hb hS => by
    rcases hS with h|h|⟨k,h⟩
    ·exact(p2.foot i b (hfr b h)).2.2.1 hb
    ·have:=p2.lt b hb;omega
    ·exact(p2.res b (hTR k b h)).2.2 hb)
  have hlm:(st1.aE (CA.drop i r [] false)).look i=some (.tree xs):=by rw[aS,t1];rfl
  have happ:ae dst (ps ++ [.drop i r [] false,.root i r y1]) st=some ((st1.aE (CA.drop i r [] false)).ac i (some (.tree (ai xs r y1)))):=by
   rw[cV,p1,Option.bind_some]
   simp only[ae,Prim.app,dB hlm]
  simp only[Eff.app,happ,FR]at ha
  subst ha
  refine gI r1 ⟨_,q1.put dst (v:=.one (.sref i r [])) ⟨ai xs r y1,y1,y1.nd,?_,by rw[ah,List.getElem?_set_self hrl],⟨by simp[Gh.df],rfl⟩,r6⟩⟩
  rw[ag,if_pos ⟨rfl,by rw[fk];exact gF t1⟩]
 have deep:∀(i r:Nat) (p:Way) (xs:List TV) (x0 z0 z y1 x1:TV) (v u:Value) (nd:Option (Nat × Nat)),st.look i=some (.tree xs)->xs[r]? = some x0->(∀r,ic i r ts=false)->a.eval x=v->Node w p x0 (g.ρ i r) u nd->a8 p x0=some z0->(∀(I S:Nat->Prop),aq w I z0 u S->aq w I z v S) ->
   papp d.size z news=some y1->iA p x0 .hole=some x1 ->
   (Eff.gen (ps ++ [.drop i r (bv p) false,.root i r x1,.newB (.tree [y1])]) (.one (.sref (st.nid dst) 0 []))).app st dst=some st'->Good P w0 I0 ov ⟨dst,.call ⟨.builtin .append,#[x,y],#[t,tu]⟩,type,pos,after,guard⟩ st' a w Q:=by
  intro i r p xs x0 z0 z y1 x1 v u nd hl hx0 hts hv hnode hg hz hp hset ha
  obtain⟨t1,t2,t3⟩:=p4.tree i xs hts hl
  have hrl:r<xs.length:=(FP.1 hx0).1
  have hfr:∀b,g1.φ i r b->Foot g1 st1.look i b:=fun b hb=>.inr ⟨xs,r,t1,hrl,hb⟩
  obtain⟨u',Sy,s1,s2,s3,s4,s5⟩:=(p2.trees i xs t1 r x0 hx0).sub hg
  rw[t2]at s3
  obtain⟨e1,e2⟩:=Node.unique hnode s3
  subst e1
  obtain⟨m1,m2⟩:=s5 w g1.I .hole x1 (fun _=>False) hset (fun _ _=>rfl) (fun _ h=>h) (fun _ _ _=>rfl) (.fr (.hole _)) (fun _ h=>h.elim)
  obtain⟨q1,q2⟩:=p2.gc t1 hx0 (CA.drop i r (bv p) false) (fun q=>leads false (bv p) q=false) (gG i r (bv p) false) (R':=fun b=>R1 b\/Sy b) (I':=g1.I) m1
   (fun q v' nd ho _ hn=>m2 q v' nd (fun q' hq' _=>by rw[hq',kK]at ho;cases ho) hn) p2.below (Nat.le_refl _) (fun _ _ _ _=>rfl) (fun b hb=>by rcases hb with h|h;exact .inl h.1;exact h.elim)
   (fun b hb => ⟨hb.imp _root_.id (s2 b), fun h => by
    rcases h with h|h
    ·rcases hb with hb|hb
     ·exact(p2.foot i b (hfr b h.1)).2.2.2 hb
     ·exact h.2 hb
    ·exact h,hb.elim (fun h=>(p2.res b h).2.2) (fun h=>(p2.foot i b (hfr b (s2 b h))).2.2.1)⟩)
   (fun _ h => h) (fun _ h => .inl h) (fun b hb hS => by
    rcases hS with h|h
    ·exact(p2.foot i b (hfr b h.1)).2.2.1 hb
    ·exact h)
  obtain⟨v',w',r1,r2,r3,r4,r5,r6⟩:=core z y1 v Sy NoR hv (hz _ _ s1) hp (fun b hb=>p2.foot i b (hfr b (s2 b hb)))
  have hlm:(st1.aE (CA.drop i r (bv p) false)).look i=some (.tree xs):=by rw[aS,t1];rfl
  obtain⟨st2,hst2⟩:∃st2,st2=(st1.aE (CA.drop i r (bv p) false)).ac i (some (.tree (ai xs r x1))):=⟨_,rfl⟩
  rw[<-hst2]at q1 q2
  have happ:ae dst (ps ++ [.drop i r (bv p) false,.root i r x1]) st=some st2:=by
   rw[cV,p1,Option.bind_some,hst2]
   simp only[ae,Prim.app,dB hlm]
  have hout:st2.out.length=st.out.length:=by rw[hst2];simp[ASt.ac,ASt.aE,bT,p4.out]
  have ha2:(cU (ps ++ [.drop i r (bv p) false,.root i r x1]) (.tree [y1]) (.one (.sref (st.nid dst) 0 []))).app st dst=some st':=by
   have:cU (ps ++ [.drop i r (bv p) false,.root i r x1]) (.tree [y1]) (.one (.sref (st.nid dst) 0 []))=.gen (ps ++ [.drop i r (bv p) false,.root i r x1,.newB (.tree [y1])]) (.one (.sref (st.nid dst) 0 [])):=by
    cases ps<;>simp[cU]
   rw[this];exact ha
  obtain⟨dd,h0,h1,h2,h3⟩:=mB ha2 happ hout
  have hn2:st2.nid dst=st.nid dst:=vX hout dst
  rw[<-hn2]at h1 h2 h3
  exact nE q1 rfl r1 r2 r3 (fun b hb hn=>r4 b hb (fun h=>hn (.inr h))) r5 (fun b hb=>by
   rcases hb with h|h|⟨k,h⟩
   ·exact .inl (.inr h)
   ·exact .inr h
   ·exact .inl (.inl (hTR k b h))) r6 h0 h1 h2 h3
 split at hh
 ·rename_i tx htx
  have hxr:=cG hx htx
  cases hn:ra tx with
  | false=>rw[hn]at hh;exact hh.elim
  | true =>
   rw[hn]at hh
   obtain⟨y1,hp,hh⟩:=hh
   cases hh
   have hv:=Cv (S:=NoR) hn (.fr hxr)
   obtain⟨v',w',r1,r2,r3,r4,r5,r6⟩:=core tx y1 _ NoR NoR rfl (by rw[p3];exact .fr hxr) hp (fun b hb=>hb.elim)
   obtain⟨dd,h0,h1,h2,h3⟩:=mB ha p1 p4.out
   rw[<-hnid]at h1 h2 h3
   exact nE p2 rfl r1 r2 r3 (fun b hb hn=>r4 b hb (fun h=>h)) r5 (fun b hb=>by
    rcases hb with h|h|⟨k,h⟩
    ·exact h.elim
    ·exact .inr h
    ·exact .inl (hTR k b h)) r6 h0 h1 h2 h3
 ·split at hh
  ·rename_i i r p hxi
   rw[hxi]at hx p5
   have hts:∀r,ic i r ts=false:=p5 i rfl
   split at hh
   ·rename_i x0 hx0
    obtain⟨xs,h1,h2⟩:=aD hx0
    obtain⟨xs',x',nd,g1',g2,g3,g4⟩:=hx
    rw[hlk _ _ h1]at g1'
    cases g1'
    rw[h2]at g2
    cases g2
    split at hh
    ·obtain⟨y1,hp,hh⟩:=hh
     cases hh
     exact turn i r xs x0 x0 y1 _ (hlk _ _ h1) h2 hts rfl (fun I S hr=>by rw[g3.1];exact hr) hp ha
    ·obtain⟨z,hz,y1,hp,x1,hset,hh⟩:=hh
     cases hh
     exact deep i r p xs x0 z z y1 x1 _ _ nd (hlk _ _ h1) h2 hts rfl g3 hz (fun I S hr=>hr) hp hset ha
   ·exact hh.elim
  ·rename_i i r p lo len hxi
   rw[hxi]at hx p5
   have hts:∀r,ic i r ts=false:=p5 i rfl
   split at hh
   ·rename_i x0 hx0
    obtain⟨xs,h1,h2⟩:=aD hx0
    obtain⟨xs',x',u,nd,g1',g2,g3,g4,g5⟩:=hx
    rw[hlk _ _ h1]at g1'
    cases g1'
    rw[h2]at g2
    cases g2
    split at hh
    ·obtain⟨z,hz,y1,hp,hh⟩:=hh
     cases hh
     exact turn i r xs x0 z y1 _ (hlk _ _ h1) h2 hts rfl (fun I S hr=>dI (by rw[g3.1];exact hr) g3.2 g5 hz) hp ha
    ·obtain⟨z0,hz0,z,hz,y1,hp,x1,hset,hh⟩:=hh
     cases hh
     have hnd:nd=z0.nd:=(hs.at (hlk _ _ h1) h2 g3 hz0).1
     exact deep i r p xs x0 z0 z y1 x1 _ _ nd (hlk _ _ h1) h2 hts rfl g3 hz0 (fun I S hr=>dI hr hnd g5 hz) hp hset ha
   ·exact hh.elim
  ·exact hh.elim
theorem tX (hE:∀t d,E.T t=some d->ba P t d) (hlk:∀i b,look i=some b->st.look i=some b) (hs:al w0 I0 NoR g st a ov w) {t et:TypeId} {d:TyD} (hel:jx E.T t=some (et,d)) {x y:Operand} {e:Eff}
  (hh:(nM (st.nid dst) look d (st.ev x) (st.ev y)).hits C e) (ha:e.app st dst=some st'):Good P w0 I0 ov ⟨dst,.call ⟨.builtin .append,#[x,y],#[t,t]⟩,type,pos,after,guard⟩ st' a w Q:=by
 obtain⟨dt,hT,hk,hTe⟩:=gQ hel
 have ht:=hE _ _ hT
 have hte:=hE _ _ hTe
 unfold nM at hh
 cases hc0:d.bytes.ble 4096&&Nat.blt 0 d.size with
 | false=>rw[hc0]at hh;exact hh.elim
 | true =>
  simp only[hc0,cond_true]at hh
  simp only[FS]at hc0
  have hby:d.bytes<=4096:=by simpa using hc0.1
  obtain⟨news,ps,hh,st1,g1,R1,us2,T,ts,p1,p2,p3,p4,p5,hsrc,hTR⟩:=tp (dst:=dst) hlk hs (hs.ev y) hh
  rw[<-p3]at hsrc
  exact ub hlk hs p1 p2 p3 p4 p5 hsrc.len hsrc.all hsrc.rep hsrc.apart hTR
   (fun v n us hv b1 b2=>zD (dst:=dst) (type:=type) (pos:=pos) (after:=after) (guard:=guard) ht hk hte hby hv b1 hsrc b2) hh ha
end
end Go.Ab
end
section
namespace Go.Ab
open Go.RowKit
section
variable {P:Program} {E:Env} {C:Cal} {w0:Bs} {w w':World} {I0 I R:Nat->Prop} {g g':Gh} {st st':ASt} {a:Act} {ov:List Value} {look:Look} {Q:Exit->Act->World->Prop} {id:Nat}
variable {dst:Option Tmp} {type:TypeId} {pos:String} {after:Array Edge} {guard:Option (Nat × Bool)}
theorem xC (hE : ∀ t d, E.T t = some d → ba P t d) (hlk : ∀ i b, look i = some b → st.look i = some b) (hs : al w0 I0 NoR g st a ov w) {t et : TypeId} {d : TyD} (hel : jx E.T t = some (et, d)) {x y : Operand} {e : Eff}
  (hh:(Aw look d (st.ev x) (st.ev y)).hits C e) (ha:e.app st dst=some st'):Good P w0 I0 ov ⟨dst,.call ⟨.builtin .copy,#[x,y],#[t,t]⟩,type,pos,after,guard⟩ st' a w Q:=by
 obtain⟨dt,hT,hk,hTe⟩:=gQ hel
 have ht:=hE _ _ hT
 have hte:=hE _ _ hTe
 have hu:=dL ht hk
 unfold Aw at hh
 obtain⟨news,ps,hh,st1,g1,R1,us2,T,ts,p1,p2,p3,p4,p5,hsrc,hTR⟩:=tp (dst:=dst) hlk hs (hs.ev y) hh
 have hx:=hs.ev x
 rw[<-p3]at hsrc
 split at hh
 ·rename_i i r p hxi
  rw[hxi]at hx p5
  have hts:∀r,ic i r ts=false:=p5 i rfl
  split at hh
  ·rename_i x0 hx0
   obtain⟨xs,h1,h2⟩:=aD hx0
   obtain⟨xs',x',nd,g1',g2,hnode,g4⟩:=hx
   rw[hlk _ _ h1]at g1'
   cases g1'
   rw[h2]at g2
   cases g2
   obtain⟨z,hz,y1,hp,hh⟩:=dP hh
   obtain⟨x1,hset,n,hn,hh⟩:=Cd hh
   cases hh
   obtain⟨t1,t2,t3⟩:=p4.tree i xs hts (hlk _ _ h1)
   have hrl:r<xs.length:=(FP.1 h2).1
   have hfr:∀b,g1.φ i r b->Foot g1 st1.look i b:=fun b hb=>.inr ⟨xs,r,t1,hrl,hb⟩
   obtain⟨v,Sy,s1,s2,s3,s4,s5⟩:=(p2.trees i xs t1 r x0 h2).sub hz
   rw[t2]at s3
   obtain⟨e1,e2⟩:=Node.unique hnode s3
   obtain⟨A,c,hf,hA,hcell⟩:=hsrc.form
   have hlm:(st1.aE (CA.drop i r (bv p) true)).look i=some (.tree xs):=by rw[aS,t1];rfl
   have happ:ae dst (ps ++ [.drop i r (bv p) true,.root i r x1]) st=some ((st1.aE (CA.drop i r (bv p) true)).ac i (some (.tree (ai xs r x1)))):=by
    rw[cV,p1,Option.bind_some]
    simp only[ae,Prim.app,dB hlm]
   simp only[Eff.app,happ,FR]at ha
   subst ha
   have fin:∀(w':World) (S':Nat->Prop),aq w' g1.I y1 v S'->y1.nd=z.nd->w0.Bel w'->w.heap.size<=w'.heap.size->(∀b,b<w.heap.size->¬Sy b->w'.heap[b]? = w.heap[b]?)->(∀b,S' b->Sy b\/R1 b) ->
     (execOp a.eval ⟨dst,.call ⟨.builtin .copy,#[x,y],#[t,t]⟩,type,pos,after,guard⟩).run P w=.ok (.value (.int .i64 (Nat.min news.length n))) w' ->
     Good P w0 I0 ov ⟨dst,.call ⟨.builtin .copy,#[x,y],#[t,t]⟩,type,pos,after,guard⟩ (((st1.aE (CA.drop i r (bv p) true)).ac i (some (.tree (ai xs r x1)))).put dst (.one (.t (.lit (.int .i64 (Nat.min news.length n)))))) a w Q:=by
    intro w' S' hr hnd hw hsz hblk hS hrun
    have hfx:∀b,g1.φ i r b->b<w.heap.size:=fun b hb=>(p2.foot i b (hfr b hb)).2.1
    obtain⟨m1,m2⟩:=s5 w' g1.I y1 x1 S' hset (fun b hb=>hblk b (p2.lt b hb) (fun h=>(p2.foot i b (hfr b (s2 b h))).2.2.1 hb)) (fun _ h=>h) (fun b hb hn=>hblk b (hfx b hb) hn) hr (fun b hb hb2=>by
     rcases hS b hb with h|h
     ·exact h
     ·exact absurd h (p2.foot i b (hfr b hb2)).2.2.2)
    obtain⟨q1,q2⟩:=p2.gc t1 h2 (CA.drop i r (bv p) true) (fun q=>leads true (bv p) q=false) (gG i r (bv p) true) (R':=NoR) (I':=g1.I) m1
     (fun q v' nd ho _ hn => m2 q v' nd (fun q' hq' hn' => by
      cases q' with
      | nil=>exact⟨hn'.1,by rw[hn'.2,hnd]⟩
      | cons kj q'=>rw[hq',oF p _ (by simp)]at ho;cases ho) hn)
     hw hsz (fun b hb hn _=>hblk b hb (fun h=>hn (s2 b h)))
     (fun b hb => by
      rcases hb with h|h
      ·exact .inl h.1
      ·rcases hS b h with h|h
       ·exact .inl (s2 b h)
       ·exact .inr (.inl h))
     (fun b hb => hb.elim) (fun _ h => h) (fun _ h => .inl h) (fun b hb hS' => by
      rcases hS' with h|h
      ·exact(p2.foot i b (hfr b h.1)).2.2.1 hb
      ·rcases hS b h with h|h
       ·exact(p2.foot i b (hfr b (s2 b h))).2.2.1 hb
       ·exact(p2.res b h).2.2 hb)
    exact gI hrun ⟨_,q1.put dst (v:=.one (.t (.lit (.int .i64 (Nat.min news.length n))))) ⟨.lit _,rfl⟩⟩
   have hrun0:∀{u:Value} {w':World},(Builtin.copy_ #[t,t] type #[a.eval x,a.eval y]).run P w=.ok u w'->(execOp a.eval ⟨dst,.call ⟨.builtin .copy,#[x,y],#[t,t]⟩,type,pos,after,guard⟩).run P w=.ok (.value u) w':=fun h =>
    fI (s:=Builtin.copy_ #[t,t] type #[a.eval x,a.eval y]) (fun cs=>by simp[builtin]) h
   unfold pcopy at hp
   split at hp
   ·rename_i s xs0
    split at hp
    ·rename_i hse
     subst hse
     simp only[FR]at hp
     subst hp
     simp only[slLen,FR]at hn
     subst hn
     have hnI:∀b,Sy b->¬g1.I b:=fun b hb=>(p2.foot i b (hfr b (s2 b hb))).2.2.1
     have hall:∀x∈xs0,x.length=d.size:=by cases s1 with|fr h=>cases h|sl _ _ _ _ _ _ hl=>exact hl
     obtain⟨a0,cap0,vs,ty,us0,w1,w2,w3,w4⟩:=s1.write hnI
     obtain⟨m,hm⟩:∃m,m=min news.length xs0.length:=⟨_,rfl⟩
     have hm1:m<=news.length:=by rw[hm];exact Nat.min_le_left _ _
     have hm2:m<=xs0.length:=by rw[hm];exact Nat.min_le_right _ _
     have hmul1:m*d.size<=news.length*d.size:=Nat.mul_le_mul_right _ hm1
     have hmul2:m*d.size<=xs0.length*d.size:=Nat.mul_le_mul_right _ hm2
     have hul:(us2.take (m*d.size)).length=m*d.size:=by rw[List.length_take,hsrc.len];omega
     have hfl:(news.take xs0.length).flatten=news.flatten.take (m*d.size):=by
      have:news.take xs0.length=news.take m:=by
       rw[hm]
       rcases Nat.le_total news.length xs0.length with h|h
       ·rw[Nat.min_eq_left h,List.take_length,List.take_of_length_le h]
       ·rw[Nat.min_eq_right h]
      rw[this,pC _ hsrc.all]
     have hfll:(news.flatten.take (m*d.size)).length=m*d.size:=by rw[List.length_take,cz hsrc.all];omega
     have hfit:a0.off+0+(us2.take (m*d.size)).length<=vs.size:=by
      rw[hul]
      have h1:=w3.fit
      have h2:=Nat.mul_le_mul_right d.size w3.le
      omega
     have hone:∀u∈us2.take (m*d.size),u.oneCell'=true:=fun u hu=>hsrc.one u (List.mem_of_mem_take hu)
     have hst:=run_storeCells_at P a0.block a0.off ty (us2.take (m*d.size)) 0 vs w w3.heap (by simpa using hfit) hone
     simp only[Nat.add_zero]at hst
     have hheap:=setRow_heap w a0.block vs (vs.toList.take a0.off++us2.take (m*d.size)++vs.toList.drop (a0.off+(us2.take (m*d.size)).length)).toArray ty (0,0) w3.heap
     obtain⟨W,hW⟩:∃W,W=w.setRow a0.block (vs.toList.take a0.off++us2.take (m*d.size)++vs.toList.drop (a0.off+(us2.take (m*d.size)).length)).toArray:=⟨_,rfl⟩
     rw[<-hW]at hst hheap
     have hoth:∀b,b≠a0.block->W.heap[b]? = w.heap[b]? := fun b hb=>by rw[hW];exact setRow_other w a0.block b _ hb
     have hablk:w0.New a0.block:=(p2.foot i _ (hfr _ (s2 _ w2))).1
     have hlen2:(news.take xs0.length++xs0.drop news.length).length=xs0.length:=by simp;omega
     have hflat2:(news.take xs0.length++xs0.drop news.length).flatten=spl xs0.flatten 0 (news.flatten.take (m*d.size)):=by
      rw[List.flatten_append,hfl,pa _ hall,spl,List.take_zero,List.nil_append,Nat.zero_add,hfll]
      congr 1
      rcases Nat.le_total news.length xs0.length with h|h
      ·rw[hm,Nat.min_eq_left h]
      ·rw[hm,Nat.min_eq_right h,List.drop_of_length_le (by rw[cz hall];exact Nat.mul_le_mul_right _ h),List.drop_of_length_le (by rw[cz hall];exact Nat.le_refl _)]
     obtain⟨n1,n2⟩:=w4 0 (news.flatten.take (m*d.size)) (us2.take (m*d.size)) (fun k b=>k<m*d.size/\T k b) W (news.take xs0.length++xs0.drop news.length) (by rw[hfll,cz hall];omega) (by rw[hul,hfll]) hone
      (fun k c hc => by
       have hk':k<m*d.size:=by have:=(FP.1 hc).1;rw[hfll]at this;exact this
       rw[List.getElem?_take_of_lt hk']at hc
       have:=hsrc.rep k c hc
       rw[F7]at this ⊢
       rw[List.getElem?_take_of_lt hk']
       exact this.mono (fun b hb=>⟨hk',hb⟩))
      (fun k b hb h=>(p2.foot i b (hfr b (s2 b h))).2.2.2 (hTR k b hb.2)) (fun k k' b hb hb'=>hsrc.apart k k' b hb.2 hb'.2) (by rw[hheap];rfl) hoth hlen2
      (fun x hx => by
       rcases List.mem_append.1 hx with h|h
       ·exact hsrc.all x (List.mem_of_mem_take h)
       ·exact hall x (List.mem_of_mem_drop h)) hflat2
     refine fin W _ n1 (by simp only[TV.nd,hlen2]) (by rw[hW];exact p2.below.setRow hablk _) (by rw[hW];simp) (fun b _ hb=>hoth b (fun e=>hb (e▸w2))) (fun b hb=>?_) (hrun0 ?_)
     ·rcases hb with h|⟨k,h⟩
      ·exact .inl h
      ·exact .inr (hTR k b h.2)
     ·rw [e1, w1, hf]
      have hmin:min news.length xs0.length=m:=hm.symm
      have hmin2:Nat.min news.length xs0.length=m:=hm.symm
      have hfc:(Builtin.firstCells d.size m (.slice A news.length c)).run P w=.ok (us2.take (m*d.size)).toArray w:=by
       cases A with
       | none =>
        have h0:=hA rfl
        have:m=0:=by rw[hm,h0];simp
        subst this
        simp[Builtin.firstCells]
       | some ad => exact run_firstCells_some (P := P) w d.size m ad news.length c _ hul (fun j u hu => hcell ad rfl j u (by
         have hj:j<m*d.size:=by have:=(FP.1 hu).1;rw[hul]at this;exact this
         rwa[List.getElem?_take_of_lt hj]at hu))
      have hadd:a0=⟨a0.block,a0.off,none⟩:=by
       have:=w3.spot
       obtain⟨b,o,sp⟩:=a0
       simp at this
       subst this
       rfl
      rw[<-hadd]at hst
      simp[Builtin.copy_,aT hu,Builtin.lenOf,cB hte,hmin,hfc,hst,goInt]
    ·cases hp
   ·simp only[FR]at hp
    subst hp
    have hv:=bq s1
    have hv2:a.eval x=.slice none 0 0:=by rw[e1,hv]
    simp only[slLen,FR]at hn
    subst hn
    refine fin w Sy (.fr (by rw[hv];exact .lit _)) rfl p2.below (Nat.le_refl _) (fun _ _ _=>rfl) (fun b hb=>.inl hb) (hrun0 ?_)
    rw[hv2,hf]
    have hfc:(Builtin.firstCells d.size 0 (.slice A news.length c)).run P w=.ok #[] w:=by
     cases A with
     | none=>simp[Builtin.firstCells]
     | some ad=>exact run_firstCells_some (P:=P) w d.size 0 ad news.length c [] (by simp) (by simp)
    simp[Builtin.copy_,aT hu,Builtin.lenOf,cB hte,hfc,goInt]
   ·cases hp
  ·exact hh.elim
 ·exact hh.elim
theorem qC {α:Type} (s:Nat):∀(n:Nat) (l:List α),l.length=n*s->(chunks s n l).length=n/\(∀x∈chunks s n l,x.length=s)/\(chunks s n l).flatten=l
 | 0,l,h=>⟨rfl,by simp[chunks],by have:l=[]:=List.eq_nil_of_length_eq_zero (by simpa using h);subst this;rfl⟩
 | n+1,l,h=>by
  have h1:(l.drop s).length=n*s:=by rw[List.length_drop,h,Nat.add_mul];omega
  obtain⟨k1,k2,k3⟩:=qC s n (l.drop s) h1
  have hl:(l.take s).length=s:=by rw[List.length_take,h,Nat.add_mul];omega
  refine⟨by simp[chunks,k1],fun x hx=>?_,by simp only[chunks,List.flatten_cons,k3,List.take_append_drop]⟩
  rcases List.mem_cons.1 hx with rfl|hx
  ·exact hl
  ·exact k2 x hx
theorem dX {α:Type}:∀(n:Nat) (l:List α),(List.replicate n l).flatten.length=n*l.length
 | 0,l=>by simp
 | n+1,l=>by simp[List.replicate_succ,dX n l,Nat.add_mul];omega
theorem Cs (z:Array Value) (n:Nat) (hz:0<z.size):((Array.range (n*z.size)).map (z[· % z.size]!)).toList=(List.replicate n z.toList).flatten:=by
 apply List.ext_getElem?
 intro k
 by_cases hk:k<n*z.size
 ·have hall:∀x∈List.replicate n z.toList,x.length=z.size:=fun x hx=>by rw[List.eq_of_mem_replicate hx];simp
  have hkd:k / z.size<n:=Nat.div_lt_of_lt_mul (by rw[Nat.mul_comm];exact hk)
  have hr:=Nat.mod_lt k hz
  obtain⟨el,c,g1,g2,g3⟩:=qW hall (by simpa using hkd) hr
  rw[Nat.mul_comm,Nat.div_add_mod]at g3
  rw[List.getElem?_replicate,if_pos hkd]at g1
  cases g1
  rw[g3]
  simp only[Array.toList_map,FW,Array.toList_range]
  rw[List.getElem?_range hk]
  simp only[F6,FR]
  rw[getElem!_pos z _ hr]
  rw[FU,Array.getElem?_eq_getElem hr]at g2
  exact Option.some.inj g2
 ·rw[F5 (by simpa using hk),F5 (by rw[dX];simpa using hk)]
theorem tZ (hE:∀t d,E.T t=some d->ba P t d) (hlk:∀i b,look i=some b->st.look i=some b) (hs:al w0 I0 NoR g st a ov w) {t:TypeId} {len:Nat} {parts:Array (Nat × Operand)} {e:Eff}
  (hh:(iV E (st.nid dst) look t len parts ((Op.buildSlice t len parts).operands.toList.map st.ev)).hits C e) (ha:e.app st dst=some st'):Good P w0 I0 ov ⟨dst,.buildSlice t len parts,type,pos,after,guard⟩ st' a w Q:=by
 unfold iV at hh
 split at hh
 ·rename_i et d hel
  obtain⟨dt,hT,hk,hTe⟩:=gQ hel
  have ht:=hE _ _ hT
  have hte:=hE _ _ hTe
  have hu:=dL ht hk
  have hops:(Op.buildSlice t len parts).operands.toList.map st.ev=parts.toList.map fun p=>st.ev p.2:=by simp[Op.operands]
  rw[hops]at hh
  obtain⟨z,hz,hzc⟩:=rz (w:=w) hte
  have hzl:z.cells.size=d.size:=by have:=hte.zlen;rw[<-hzc]at this;simpa using this
  obtain⟨Z,hZ⟩:∃Z:Array Value,Z=(Array.range (len*d.size)).map ((if len*d.size=0 then #[]else z.cells)[· % (if len*d.size=0 then #[]else z.cells).size]!):=⟨_,rfl⟩
  have hZl:Z.toList=(List.replicate len d.zero).flatten:=by
   rw[hZ]
   by_cases h0:len*d.size=0
   ·rw[h0]
    have:(List.replicate len d.zero).flatten=[]:=List.eq_nil_of_length_eq_zero (by rw[dX,hte.zlen,h0])
    rw[this];simp
   ·rw[if_neg h0,<-hzc,<-hzl]
    have h1:0<z.cells.size:=by
     rcases Nat.eq_zero_or_pos z.cells.size with h|h
     ·rw[<-hzl,h]at h0;simp at h0
     ·exact h
    exact Cs z.cells len h1
  have hcr0:CR w g st.look ((List.replicate len d.zero).flatten.map fun v=>.t (.lit v)) Z.toList:=by
   rw[hZl]
   exact CR.lits (fun v hv=>by
    obtain⟨l,hl,hv'⟩:=List.mem_flatten.1 hv
    rw[List.eq_of_mem_replicate hl]at hv'
    exact hte.zone v hv')
  obtain⟨cs,cells,hh,hfill,hcr⟩:=fR (place:=fun i=>some (i*d.size,d.size)) (fun i off agg n hi=>by
   simp only[FR,Prod.mk.injEq]at hi
   obtain⟨rfl,_,rfl⟩:=hi
   rfl) hs parts.toList _ Z hcr0 hh
  have hrunOf:len*d.size<=16777216->(execOp a.eval ⟨dst,.buildSlice t len parts,type,pos,after,guard⟩).run P w=.ok (.value (.slice (some ⟨w.heap.size,0,none⟩) len len)) (w.alloc (.cells cells et)):=fun hc1=>by
   have hpl:(parts.map fun(p:Nat × Operand)=>(p.1,a.eval p.2)).toList=parts.toList.map fun p=>(p.1,a.eval p.2):=by simp
   have hnot':¬16777216<len*d.size:=by omega
   simp only[execOp,Instr.buildSlice,Sem.run_bind,aT hu,Result.andThen_ok,cB hte]
   by_cases h0:len*d.size=0
   ·have hZ2:Array.map (fun x=>(default:Value)) (Array.range (len*d.size))=Z:=by rw[hZ];simp[h0]
    simp[h0,newRow]
    rw[h0]at hZ2
    rw[<-hZ2]at hfill
    simp[hfill]
   ·have hZ':Array.map (fun x=>z.cells[x%z.cells.size]!) (Array.range (len*d.size))=Z:=by rw[hZ];simp[h0]
    simp[hnot',h0,newRow,hz,hZ',hfill]
  cases hp:wa cs&&(!(len.beq 0)&&(d.size.beq 1&&len.ble 16777216))with
  | true =>
   rw[hp]at hh
   simp only[FS]at hp
   have hs1:d.size=1:=Nat.eq_of_beq_eq_true hp.2.2.1
   have hl1:len<=16777216:=Nat.le_of_ble_eq_true hp.2.2.2
   have he:Eff.new (.cells cs) (.one (.psl (st.nid dst) len))=e:=hh
   subst he
   exact Bl hs rfl (hrunOf (by rw[hs1];omega)) hcr ha
  | false =>
  rw[hp]at hh
  simp only[cond_false]at hh
  obtain⟨ds,hh,hdl,hok⟩:=oe hlk hs hcr hh
  cases hc:gk (ds.flatMap Gd.ts)&&(len*d.size).ble 16777216&&(ds.map Gd.y).length.beq (len*d.size)&&Nat.blt 0 d.size with
  | false=>simp only[hc,cond_false]at hh;exact hh.elim
  | true =>
   simp only[hc,cond_true]at hh
   cases hh
   simp only[FS]at hc
   obtain⟨⟨⟨hc0,hc1⟩,hc2⟩,hc3⟩:=hc
   have hc1:len*d.size<=16777216:=by simpa using hc1
   have hc2:ds.length=len*d.size:=by simpa using hc2
   have hc3:0<d.size:=by simpa using hc3
   have hrun:=hrunOf hc1
   have hn63:len<=maxLen:=by
    have:len*1<=len*d.size:=Nat.mul_le_mul_left _ hc3
    simp only[maxLen];omega
   have hcl:cells.toList.length=ds.length:=by rw[hcr.1,hdl]
   obtain⟨st2,g2,R2,F,q1,q2,q3,q4,q5,q6,q7,q8⟩:=eL (dst:=dst) ds hs hcl hok hc0
   obtain⟨dd,h0,h1,h2,h3⟩:=mB ha q1 q4.out
   have hnid:st2.nid dst=st.nid dst:=vX q4.out dst
   rw[<-hnid]at h1 h2 h3
   obtain⟨k1,k2,k3⟩:=qC d.size len (ds.map Gd.y) (by simpa using hc2)
   refine nE q2 rfl hrun (q2.below.step (dS w _)) (dS w _).size (fun k hk _=>(dS w _).block k hk) (S:=fun b=>b=w.heap.size\/∃m,F m b) ?_ (fun b hb=>?_) ⟨_,_,_,rfl⟩ h0 h1 h2 h3
   ·have hold:∀b,b<w.heap.size->(w.alloc (.cells cells et)).heap[b]? = w.heap[b]? := (dS w _).block
    have key:aq (w.alloc (.cells cells et)) g2.I (.sl true d.size (chunks d.size len (ds.map Gd.y))) (.slice (some ⟨w.heap.size,0,none⟩) (chunks d.size len (ds.map Gd.y)).length len) (fun b=>b=w.heap.size\/∃m,F m b):=by
     refine .sl cells.toList cells et F (.inl rfl) ?_ k2 (fun k c hk'=>?_) (fun k b hb=>⟨.inr ⟨k,hb⟩,fun e=>by have h5:=(q2.res b (q7 k b hb).1).2.1;have h6:b=w.heap.size:=e;omega⟩) q8
     ·rw[k1]
      refine⟨heap_alloc_new w _,rfl,Nat.le_refl _,hn63,by have:=hcl;simp at this ⊢;omega,by omega,fun k _=>by rw[Nat.zero_add,FU],fun u hu'=>?_⟩
      obtain⟨m,hm,rfl⟩:=List.mem_iff_getElem.1 hu'
      have hmd:m<ds.length:=by omega
      exact(q6 m ds[m] _ (FQ hmd) (FQ hm)).2
     ·rw[k3,FW]at hk'
      cases hdm:ds[k]? with
      | none=>simp[hdm]at hk'
      | some dd' =>
       simp only[hdm,F6,FR]at hk'
       subst hk'
       have hkl:k<cells.toList.length:=by rw[hcl];exact(FP.1 hdm).1
       have:=(q6 k dd' _ hdm (FQ hkl)).1
       rw[getD_some (FQ hkl)]
       rw[<-q3]at this
       exact this.mv (fun b hb=>hold b (q2.lt b hb)) (fun _ h=>h) (fun b hb=>hold b (q2.res b (q7 k b hb).1).2.1) (fun _ h=>h)
    rwa[k1]at key
   ·rcases hb with h|⟨m,h⟩
    ·subst h;exact .inr ⟨Nat.le_refl _,by simp⟩
    ·exact .inl (q7 m b h).1
 ·exact hh.elim
end
end Go.Ab
end
section
namespace Go.Ab
open Go.RowKit
section
variable {P:Program} {E:Env} {C:Cal} {w0:Bs} {w w':World} {I0 I R:Nat->Prop} {g g':Gh} {st st':ASt} {a:Act} {ov:List Value} {look:Look} {Q:Exit->Act->World->Prop} {id:Nat}
variable {dst:Option Tmp} {type:TypeId} {pos:String} {after:Array Edge} {guard:Option (Nat × Bool)}
def CU (P:Program) (G:Laid) (f:FuncId) (args:List TV) (r:TV):Prop :=
 ∀ (I : Nat → Prop) (w : World) (vals : Array Value), G.P w I → (∀ b, I b → b < w.heap.size) → vals.size = args.length → (∀ (j : Nat) (x : TV), args[j]? = some x → Rep w I x (vals.getD j undef)) →
  (callFunc f vals).run P w=.ok (.enter f vals) w /\
  Calls P f vals w fun e w'=>∃v,e=.returned v/\Below w.heap.size w w'/\∃I' S:Nat->Prop,(∀b,I b->I' b)/\(∀b,I' b->b<w'.heap.size)/\(∀b,b<w.heap.size->I' b->I b) /\
   (∀b,S b->w.heap.size<=b/\b<w'.heap.size/\¬I' b)/\aq w' I' r v S
def zS (P:Program) (G:Laid) (f:FuncId) (xs:List TV) (r:TV):Prop :=
 ∃ asz cs, xs = asz ++ [.agg cs] ∧ ∀ (I : Nat → Prop) (w : World) (b : Nat) (vs : Array Value) (ty : TypeId) (vals : Array Value), G.P w I → (∀ b, I b → b < w.heap.size) → w.heap[b]? = some (.cells vs ty (0, 0)) → (∀ u ∈ vs.toList, u.oneCell' = true) →
  ¬I b->vs.size=cs.length->b<w.heap.size->(∀(j:Nat) (c:TV),cs[j]? = some c->Rep w I c (vs.getD j undef))->vals.size=xs.length->vals.getD asz.length undef=.pointer (some ⟨b,0,none⟩)->(∀(j:Nat) (x:TV),asz[j]? = some x->Rep w I x (vals.getD j undef)) ->
  (callFunc f vals).run P w=.ok (.enter f vals) w /\
  Calls P f vals w fun e w'=>∃v,e=.returned v/\Below w.heap.size w w'/\∃I' S:Nat->Prop,(∀b,I b->I' b)/\(∀b,I' b->b<w'.heap.size)/\(∀b,b<w.heap.size->I' b->I b) /\
   (∀b,S b->w.heap.size<=b/\b<w'.heap.size/\¬I' b)/\aq w' I' r v S
def Ax (P : Program) (G : Laid) (f : FuncId) (xs : List TV) (r : TV) : Prop :=
  ∃z asz,xs=z::asz /\
  ((z = .lit bc ∧ r = .lit bc ∧ ∀ (I : Nat → Prop) (w : World) (vals : Array Value), vals.size = xs.length → vals.getD 0 undef = bc → (∀ (j : Nat) (x : TV), asz[j]? = some x → Rep w I x (vals.getD (j + 1) undef)) →
      (callFunc f vals).run P w=.ok (.enter f vals) w/\Calls P f vals w fun e w'=>e=.returned (.tuple #[])/\Below w.heap.size w w') \/
   ∃ rows rows', z = .sl true 1 rows ∧ r = .sl true 1 rows' ∧ rows'.length = rows.length ∧
    ∀ (I : Nat → Prop) (w : World) (a : Addr) (cap : Nat) (us : List Value) (vs : Array Value) (ty : TypeId) (F : Nat → Nat → Prop) (vals : Array Value), G.P w I → (∀ b, I b → b < w.heap.size) → w.heap[a.block]? = some (.cells vs ty (0, 0)) → a.spot = none → ¬ I a.block →
      a.off+rows.length<=vs.size->us.length=rows.length->(∀k,k<rows.length->vs[a.off+k]? = us[k]?)->(∀u∈us,u.oneCell'=true)->(∀x∈rows,x.length=1) ->
      (∀(k:Nat) (x:List TV) (c:TV),rows[k]? = some x->x[0]? = some c->aq w I c (us.getD k undef) (F k))->(∀k b,F k b->b≠a.block/\b<w.heap.size/\¬I b) ->
      vals.size=xs.length->vals.getD 0 undef=.slice (some a) rows.length cap->(∀(j:Nat) (x:TV),asz[j]? = some x->Rep w I x (vals.getD (j+1) undef)) ->
      (callFunc f vals).run P w=.ok (.enter f vals) w/\Calls P f vals w fun e w'=>e=.returned (.tuple #[])/\w'.os=w.os/\w'.tape=w.tape/\w'.output=w.output/\w.heap.size<=w'.heap.size /\
        (∀b,b<w.heap.size->b≠a.block->w'.heap[b]? = w.heap[b]?)/\∃(us':List Value) (σ:Nat->Nat),us'.length=us.length/\w'.heap[a.block]? = some (.cells (spl vs.toList a.off us').toArray ty (0,0)) /\
          (∀k,k<rows.length->σ k<rows.length/\us'[k]? = us[σ k]? /\ rows'[k]? = rows[σ k]?)/\∀k k',k<rows.length->k'<rows.length->σ k=σ k'->k=k')
def RepM (w:World) (I:Nat->Prop) (b:Nat) (c:TV) (v:Value) (F:Nat->Prop):Prop :=
 (c.Ep=true/\(v=.pointer none\/v=.pointer (some ⟨b,0,none⟩)))\/(c.Ep=false/\aq w I c v F)
def FF (P:Program) (G:Laid) (c:Nat × Nat) (f:FuncId) (xs:List TV) (r:TV):Prop :=
 ∃x args,xs=x::args/\∀(I:Nat->Prop) (w:World) (b:Nat) (vs:Array Value) (ty:TypeId) (vals:Array Value),G.P w I->(∀b,I b->b<w.heap.size)->w.heap[b]? = some (.cells vs ty (0,0))->(∀u∈vs.toList,u.oneCell'=true) ->
  ¬I b->vs.size=c.2->c.1<c.2->b<w.heap.size->Rep w I x (vs.getD c.1 undef)->vals.size=xs.length->vals.getD 0 undef=.pointer (some ⟨b,0,none⟩)->(∀(j:Nat) (y:TV),args[j]? = some y->Rep w I y (vals.getD (j+1) undef)) ->
  (callFunc f vals).run P w=.ok (.enter f vals) w/\Calls P f vals w fun e w'=>∃v,e=.returned v/\Below w.heap.size w w'/\∃I':Nat->Prop,(∀b,I b->I' b)/\(∀b,I' b->b<w'.heap.size)/\(∀b,b<w.heap.size->I' b->I b)/\Rep w' I' r v
def RepV (w:World) (I:Nat->Prop) (ld:jq) (b:Nat) (cs:List TV) (S:Nat->Prop):Prop :=
 S b/\∃(vs:Array Value) (ty:TypeId) (F:Nat->Nat->Prop),w.heap[b]? = some (.cells vs ty (0,0))/\vs.size=cs.length /\
  (∀(k:Nat) (c:TV),cs[k]? = some c->RepM w I b c (vs.getD k undef) (F k)/\(vs.getD k undef).oneCell'=true/\(c.Ep=true->ty=ld.ty)) /\
  (∀k b',F k b'->S b'/\b'≠b)/\∀k k' b',F k b'->F k' b'->k=k'
def Fs (P:Program) (G:Laid) (ld:jq) (f:FuncId) (xs:List TV) (r:TV):Prop :=
 ∃cs args r0 cs',xs=.tup cs::args/\r=.tup [r0,.tup cs'] /\
 ∀ (I : Nat → Prop) (w : World) (b : Nat) (vals : Array Value) (L : Nat → Prop), G.P w I → (∀ b, I b → b < w.heap.size) → (∀ b, L b → b < w.heap.size ∧ ¬ I b) → RepV w I ld b cs L →
  vals.size=xs.length->vals.getD 0 undef=.pointer (some ⟨b,0,none⟩)->(∀(j:Nat) (x:TV),args[j]? = some x->Rep w I x (vals.getD (j+1) undef)) ->
  (callFunc f vals).run P w=.ok (.enter f vals) w /\
  Calls P f vals w fun e w'=>∃v,e=.returned v/\(Bs.of w L G).Bel w'/\∃I' L' S:Nat->Prop,(∀b,I b->I' b)/\(∀b,I' b->b<w'.heap.size)/\(∀b,¬(Bs.of w L G).New b->I' b->I b) /\
   (∀b,L' b->(Bs.of w L G).New b/\b<w'.heap.size/\¬I' b)/\aq w' I' r0 v S/\RepV w' I' ld b cs' L'
theorem al.grow (hs:al w0 I0 R g st a ov w) (hb:Below w.heap.size w w') {I' R':Nat->Prop} (hI:∀b,g.I b->I' b) (hlt:∀b,I' b->b<w'.heap.size) (hold:∀b,b<w.heap.size->I' b->g.I b)
  (hR:∀b,R' b->R b\/(w.heap.size<=b/\b<w'.heap.size/\¬I' b)):al w0 I0 R' ⟨I',g.ρ,g.β,g.φ,g.O⟩ st a ov w':=by
 have hft:∀i b,Foot g st.look i b->w'.heap[b]? = w.heap[b]? := fun i b h=>hb.block b (hs.foot i b h).2.1
 have m:Mv (fun _ _ _=>True) w g st.look w' ⟨I',g.ρ,g.β,g.φ,g.O⟩ st.look:=by
  refine⟨fun b h=>hb.block b (hs.lt b h),hI,fun i cs h=>⟨cs,h,rfl⟩,fun i cs ty h ht=>(by
   obtain⟨vs,fr,h1⟩:=ht
   exact⟨vs,fr,by rw[hft i _ (.inl ⟨cs,h,rfl⟩)];exact h1⟩),fun i r p xs x v nd hl hx _ _ hn=>⟨xs,x,hl,hx,?_⟩,rfl⟩
  exact Node.mv (hs.trees i xs hl r x hx) (fun b h=>hb.block b (hs.lt b h)) (fun b h=>hft i b (.inr ⟨xs,r,hl,(FP.1 hx).1,h⟩)) hn
 have hfoot:∀i b,Foot ⟨I',g.ρ,g.β,g.φ,g.O⟩ st.look i b->Foot g st.look i b:=fun i b h=>h
 refine⟨hs.below.step hb,fun b h=>hI b (hs.sub b h),hlt,fun b h1 h2=>hs.old b h1 (hold b (by have:=mt (Bs.New.of_le hs.below (b:=b)) h1;omega) h2),hs.len,hs.defers,fun t v hv=>(hs.slots t v hv).mv m,hs.olen,fun t v hv=>(hs.outs t v hv).mv m,
  fun i cs hl=>?_,fun i xs hl r x hx=>?_,fun i b h=>?_,fun i j b h1 h2=>hs.apart i j b h1 h2,hs.apartR,fun b hr=>?_,hs.base,hs.out⟩
 ·obtain⟨vs,ty,h1,h2⟩:=hs.cells i cs hl
  exact⟨vs,ty,by rw[<-h1];exact hft i _ (.inl ⟨cs,hl,rfl⟩),h2.mv m⟩
 ·exact(hs.trees i xs hl r x hx).mv (fun b h=>hb.block b (hs.lt b h)) hI (fun b h=>hft i b (.inr ⟨xs,r,hl,(FP.1 hx).1,h⟩)) (fun _ h=>h)
 ·obtain⟨h1,h2,h3,h4⟩:=hs.foot i b h
  refine⟨h1,Nat.lt_of_lt_of_le h2 hb.size,fun h'=>h3 (hold b h2 h'),fun h'=>?_⟩
  rcases hR b h' with h'|h'
  ·exact h4 h'
  ·omega
 ·rcases hR b hr with h|h
  ·obtain⟨h1,h2,h3⟩:=hs.res b h
   exact⟨h1,Nat.lt_of_lt_of_le h2 hb.size,fun h'=>h3 (hold b h2 h')⟩
  ·exact⟨.of_le hs.below h.1,h.2.1,h.2.2⟩
def Wide (g:Gh) (look:Look) (I2:Nat->Prop):Prop:=(∀b,g.I b->I2 b)/\∀i b,Foot g look i b->I2 b
theorem rH {T:Type} (hlk:∀i b,look i=some b->st.look i=some b) (hs:al w0 I0 R g st a ov w) {c:CA} {u:Value} {k:TV->Prg T} {e:T} (hc:bW w g st.look c u) (h:(tQ look c k).hits C e) :
  ∃y,(k y).hits C e/\∀I2,Wide g st.look I2->Rep w I2 y u:=by
 cases c with
 | t x=>exact⟨x,h,fun I2 hw=>hc.1.mv (fun _ _=>rfl) hw.1⟩
 | sref i r p =>
  simp only[tQ,iZ]at h
  split at h
  ·rename_i x hx
   obtain⟨xs,h1,h2⟩:=aD hx
   obtain⟨y,h3,h4⟩:=dP h
   obtain⟨xs',x',nd,g1,g2,g3,g4⟩:=hc
   rw[hlk _ _ h1]at g1
   cases g1
   rw[h2]at g2
   cases g2
   obtain⟨_,S',r1,r2⟩:=hs.at (hlk _ _ h1) h2 g3 h3
   exact⟨_,h4,fun I2 hw=>r1.frz hw.1 (fun b hb=>hw.2 i b (.inr ⟨xs,r,hlk _ _ h1,(FP.1 h2).1,r2 b hb⟩))⟩
  ·exact h.elim
 | swin i r p lo len =>
  simp only[tQ,iZ]at h
  split at h
  ·rename_i x hx
   obtain⟨xs,h1,h2⟩:=aD hx
   obtain⟨y,h3,z,h4,h5⟩:=dP h
   obtain⟨xs',x',u,nd,g1,g2,g3,g4,g5⟩:=hc
   rw[hlk _ _ h1]at g1
   cases g1
   rw[h2]at g2
   cases g2
   obtain⟨e1,S',r1,r2⟩:=hs.at (hlk _ _ h1) h2 g3 h3
   exact⟨_,h5,fun I2 hw=>(dI r1 e1 g5 h4).frz hw.1 (fun b hb=>hw.2 i b (.inr ⟨xs,r,hlk _ _ h1,(FP.1 h2).1,r2 b hb⟩))⟩
  ·exact h.elim
 | _=>exact h.elim
theorem sa {T:Type} (hlk:∀i b,look i=some b->st.look i=some b) (hs:al w0 I0 R g st a ov w):∀{cs:List CA} {us:List Value} {k:List TV->Prg T} {e:T},CR w g st.look cs us->(AJ look cs k).hits C e ->
  ∃ys,(k ys).hits C e/\ys.length=cs.length/\∀I2,Wide g st.look I2->∀(m:Nat) (y:TV) (u:Value),ys[m]? = some y->us[m]? = some u->Rep w I2 y u
 | [],us,k,e,hcr,h=>⟨[],h,rfl,fun I2 _ m y u hy=>by simp at hy⟩
 | c :: l, us, k, e, hcr, h => by
  obtain⟨u0,us',rfl⟩:∃u0 us',us=u0::us':=by
   cases us with
   | nil=>have:=hcr.1;simp at this
   | cons u0 us'=>exact⟨u0,us',rfl⟩
  have hc:=hcr.2 0 c u0 rfl rfl
  have hcr':CR w g st.look l us':=⟨by have:=hcr.1;simpa using this,fun j c' u hc' hu'=>hcr.2 (j+1) c' u (by simpa using hc') (by simpa using hu')⟩
  obtain⟨y,h1,h2⟩:=rH hlk hs hc.1 h
  obtain⟨ys,h3,h4,h5⟩:=sa hlk hs hcr' h1
  refine⟨y::ys,h3,by simp[h4],fun I2 hw m y' u hy hu=>?_⟩
  cases m with
  | zero=>simp at hy hu;subst hy hu;exact h2 I2 hw
  | succ m=>simp at hy hu;exact h5 I2 hw m y' u hy hu
theorem Ae {ys:List TV} {vs:Array Value} (hl:vs.toList.length=ys.length) (h1:∀(j:Nat) (u:Value),vs.toList[j]? = some u->u.oneCell'=true) (hr:∀(m:Nat) (y:TV) (u:Value),ys[m]? = some y->vs.toList[m]? = some u->Rep w I y u):Rep w I (.agg ys) (.agg vs):=by
 refine .agg (by simpa using hl) (fun j hj=>?_) (fun j c hj=>?_)
 ·have:vs.toList[j]? = some vs[j]:=by simp[hj]
  rw[F8,Array.getElem?_eq_getElem hj]
  exact h1 j _ this
 ·have hj':j<vs.size:=by have:=(FP.1 hj).1;simp at hl;omega
  have:vs.toList[j]? = some vs[j]:=by simp[hj']
  rw[F8,Array.getElem?_eq_getElem hj']
  exact hr j c _ hj this
theorem zJ {T:Type} (hlk:∀i b,look i=some b->st.look i=some b) (hs:al w0 I0 R g st a ov w) {v:AV} {u:Value} {k:TV->Prg T} {e:T} (hv:bX w g st.look v u) (h:(rC look v k).hits C e) :
  ∃y,(k y).hits C e/\∀I2,Wide g st.look I2->Rep w I2 y u:=by
 cases v with
 | one c=>exact rH hlk hs hv h
 | tv x=>exact⟨x,h,fun I2 hw=>Rep.mv (fun _ _=>rfl) hw.1 hv⟩
 | bl b =>
  have:u=.bool b:=hv
  subst this
  exact⟨_,h,fun I2 _=>.lit _⟩
 | tups l=>exact h.elim
 | clo _ l=>exact h.elim
 | agg cs =>
  obtain⟨vs,rfl,hcr⟩:=hv
  obtain⟨ys,h1,h2,h3⟩:=sa hlk hs hcr h
  refine⟨_,h1,fun I2 hw=>Ae (by rw[h2];exact hcr.1) (fun j u hu=>?_) (h3 I2 hw)⟩
  have hj:j<cs.length:=by rw[<-hcr.1];exact(FP.1 hu).1
  exact(hcr.2 j _ u (FQ hj) hu).2
def oQ (w:World) (g:Gh) (look:Look):List AV->List Value->Prop
 | [],[]=>True
 | v::l,u::us=>bX w g look v u/\oQ w g look l us
 | _,_=>False
theorem oQ.len:∀{l:List AV} {us:List Value},oQ w g look l us->us.length=l.length
 | [],[],_=>rfl
 | v::l,u::us,h=>by simp[h.2.len]
 | [],u::us,h=>h.elim
 | v::l,[],h=>h.elim
theorem al.evs (hs:al w0 I0 R g st a ov w):∀(xs:List Operand),oQ w g st.look (xs.map st.ev) (xs.map a.eval)
 | []=>trivial
 | x::xs=>⟨hs.ev x,hs.evs xs⟩
theorem na {T:Type} (hlk:∀i b,look i=some b->st.look i=some b) (hs:al w0 I0 R g st a ov w):∀{vs:List AV} {us:List Value} {k:List TV->Prg T} {e:T},oQ w g st.look vs us->(lends look vs k).hits C e ->
  ∃ys,(k ys).hits C e/\ys.length=vs.length/\∀I2,Wide g st.look I2->∀(m:Nat) (y:TV),ys[m]? = some y->Rep w I2 y (us.getD m undef)
 | [],us,k,e,hr,h=>⟨[],h,rfl,fun I2 _ m y hy=>by simp at hy⟩
 | v::l,[],k,e,hr,h=>hr.elim
 | v::l,u::us,k,e,hr,h=>by
  obtain⟨y,h1,h2⟩:=zJ hlk hs hr.1 h
  obtain⟨ys,h3,h4,h5⟩:=na hlk hs hr.2 h1
  refine⟨y::ys,h3,by simp[h4],fun I2 hw m y' hy=>?_⟩
  cases m with
  | zero=>simp at hy ⊢;subst hy;exact h2 I2 hw
  | succ m=>simp at hy ⊢;simpa using h5 I2 hw m y' hy
def iU (g:Gh) (rs:List (Nat × Nat)) (I2:Nat->Prop):Prop:=(∀b,g.I b->I2 b)/\∀i r,(i,r)∈rs->∀b,g.φ i r b->I2 b
def Roots (look:Look) (rs:List (Nat × Nat)):Prop:=∀i r,(i,r)∈rs->∃xs x,look i=some (.tree xs)/\xs[r]? = some x
theorem vn {x:TV} {v:Value} {S:Nat->Prop} {I2:Nat->Prop} (h:aq w g.I x v S) (hf:x.jb=true) (hI:∀b,g.I b->I2 b):Rep w I2 x v:=by
 cases h with
 | fr h=>exact h.mv (fun _ _=>rfl) hI
 | sl=>simp[TV.jb]at hf
 | agg=>simp[TV.jb]at hf
 | tup=>simp[TV.jb]at hf
 | buf=>simp[TV.jb]at hf
theorem rL {T:Type} (hlk:∀i b,look i=some b->st.look i=some b) (hs:al w0 I0 R g st a ov w) {c:CA} {u:Value} {k:TV->List (Nat × Nat)->Prg T} {e:T} (hc:bW w g st.look c u) (h:(sA look c k).hits C e) :
  ∃y rs,(k y rs).hits C e/\Roots st.look rs/\∀I2,iU g rs I2->Rep w I2 y u:=by
 cases c with
 | t x=>exact⟨x,[],h,fun i r hm=>by simp at hm,fun I2 hw=>hc.1.mv (fun _ _=>rfl) hw.1⟩
 | sref i r p =>
  simp only[sA]at h
  split at h
  ·rename_i x hx
   obtain⟨xs,h1,h2⟩:=aD hx
   obtain⟨xs',x',nd,g1,g2,g3,g4⟩:=hc
   rw[hlk _ _ h1]at g1
   cases g1
   rw[h2]at g2
   cases g2
   have hroot:Roots st.look [(i,r)]:=fun i' r' hm=>by
    simp only[List.mem_singleton,Prod.mk.injEq]at hm
    obtain⟨rfl,rfl⟩:=hm
    exact⟨xs,x,hlk _ _ h1,h2⟩
   split at h
   ·refine⟨_,_,h,hroot,fun I2 hw=>?_⟩
    rw[g3.1]
    exact(hs.trees i xs (hlk _ _ h1) r x h2).frz hw.1 (hw.2 i r (by simp))
   ·obtain⟨y,hy,hf,h⟩:=h
    obtain⟨_,S',r1,r2⟩:=hs.at (hlk _ _ h1) h2 g3 hy
    exact⟨_,_,h,fun i r hm=>by simp at hm,fun I2 hw=>vn r1 hf hw.1⟩
  ·exact h.elim
 | swin i r p lo len =>
  simp only[sA]at h
  split at h
  ·rename_i x hx
   obtain⟨xs,h1,h2⟩:=aD hx
   obtain⟨xs',x',u,nd,g1,g2,g3,g4,g5⟩:=hc
   rw[hlk _ _ h1]at g1
   cases g1
   rw[h2]at g2
   cases g2
   have hroot:Roots st.look [(i,r)]:=fun i' r' hm=>by
    simp only[List.mem_singleton,Prod.mk.injEq]at hm
    obtain⟨rfl,rfl⟩:=hm
    exact⟨xs,x,hlk _ _ h1,h2⟩
   split at h
   ·obtain⟨y,hy,h⟩:=h
    refine⟨_,_,h,hroot,fun I2 hw=>?_⟩
    have hr:=hs.trees i xs (hlk _ _ h1) r x h2
    rw[<-g3.1]at hr
    exact(dI hr g3.2 g5 hy).frz hw.1 (hw.2 i r (by simp))
   ·obtain⟨z,hz,y,hy,hf,h⟩:=h
    obtain⟨e1,S',r1,_⟩:=hs.at (hlk _ _ h1) h2 g3 hz
    exact⟨_,_,h,fun i r hm=>by simp at hm,fun I2 hw=>vn (dI r1 e1 g5 hy) hf hw.1⟩
  ·exact h.elim
 | _=>exact h.elim
theorem Roots.app {rs rs':List (Nat × Nat)} (h:Roots look rs) (h':Roots look rs'):Roots look (rs++rs'):=fun i r hm=>by
 rcases List.mem_append.1 hm with hm|hm
 ·exact h i r hm
 ·exact h' i r hm
theorem iU.left {rs rs':List (Nat × Nat)} {I2:Nat->Prop} (h:iU g (rs++rs') I2):iU g rs I2:=⟨h.1,fun i r hm=>h.2 i r (List.mem_append_left _ hm)⟩
theorem iU.right {rs rs':List (Nat × Nat)} {I2:Nat->Prop} (h:iU g (rs++rs') I2):iU g rs' I2:=⟨h.1,fun i r hm=>h.2 i r (List.mem_append_right _ hm)⟩
theorem tP {T:Type} (hlk:∀i b,look i=some b->st.look i=some b) (hs:al w0 I0 R g st a ov w):∀{cs:List CA} {us:List Value} {k:List TV->List (Nat × Nat)->Prg T} {e:T},CR w g st.look cs us->(Av look cs k).hits C e ->
  ∃ys rs,(k ys rs).hits C e/\Roots st.look rs/\ys.length=cs.length/\∀I2,iU g rs I2->∀(m:Nat) (y:TV) (u:Value),ys[m]? = some y->us[m]? = some u->Rep w I2 y u
 | [],us,k,e,hcr,h=>⟨[],[],h,fun i r hm=>by simp at hm,rfl,fun I2 _ m y u hy=>by simp at hy⟩
 | c :: l, us, k, e, hcr, h => by
  obtain⟨u0,us',rfl⟩:∃u0 us',us=u0::us':=by
   cases us with
   | nil=>have:=hcr.1;simp at this
   | cons u0 us'=>exact⟨u0,us',rfl⟩
  have hc:=hcr.2 0 c u0 rfl rfl
  have hcr':CR w g st.look l us':=⟨by have:=hcr.1;simpa using this,fun j c' u hc' hu'=>hcr.2 (j+1) c' u (by simpa using hc') (by simpa using hu')⟩
  obtain⟨y,rs,h1,h0,h2⟩:=rL hlk hs hc.1 h
  obtain⟨ys,rs',h3,h0',h4,h5⟩:=tP hlk hs hcr' h1
  refine⟨y::ys,rs++rs',h3,h0.app h0',by simp[h4],fun I2 hw m y' u hy hu=>?_⟩
  cases m with
  | zero=>simp at hy hu;subst hy hu;exact h2 I2 hw.left
  | succ m=>simp at hy hu;exact h5 I2 hw.right m y' u hy hu
theorem yR {T:Type} (hlk:∀i b,look i=some b->st.look i=some b) (hs:al w0 I0 R g st a ov w) {v:AV} {u:Value} {k:TV->List (Nat × Nat)->Prg T} {e:T} (hv:bX w g st.look v u) (h:(tr look v k).hits C e) :
  ∃y rs,(k y rs).hits C e/\Roots st.look rs/\∀I2,iU g rs I2->Rep w I2 y u:=by
 cases v with
 | one c=>exact rL hlk hs hv h
 | tv x=>exact⟨x,[],h,fun i r hm=>by simp at hm,fun I2 hw=>Rep.mv (fun _ _=>rfl) hw.1 hv⟩
 | bl b =>
  have:u=.bool b:=hv
  subst this
  exact⟨_,[],h,fun i r hm=>by simp at hm,fun I2 _=>.lit _⟩
 | tups l=>exact h.elim
 | clo _ l=>exact h.elim
 | agg cs =>
  obtain⟨vs,rfl,hcr⟩:=hv
  obtain⟨ys,rs,h1,h0,h2,h3⟩:=tP hlk hs hcr h
  refine⟨_,rs,h1,h0,fun I2 hw=>Ae (by rw[h2];exact hcr.1) (fun j u hu=>?_) (h3 I2 hw)⟩
  have hj:j<cs.length:=by rw[<-hcr.1];exact(FP.1 hu).1
  exact(hcr.2 j _ u (FQ hj) hu).2
theorem sP {T:Type} (hlk:∀i b,look i=some b->st.look i=some b) (hs:al w0 I0 R g st a ov w):∀{vs:List AV} {us:List Value} {k:List TV->List (Nat × Nat)->Prg T} {e:T},oQ w g st.look vs us->(hands look vs k).hits C e ->
  ∃ys rs,(k ys rs).hits C e/\Roots st.look rs/\ys.length=vs.length/\∀I2,iU g rs I2->∀(m:Nat) (y:TV),ys[m]? = some y->Rep w I2 y (us.getD m undef)
 | [],us,k,e,hr,h=>⟨[],[],h,fun i r hm=>by simp at hm,rfl,fun I2 _ m y hy=>by simp at hy⟩
 | v::l,[],k,e,hr,h=>hr.elim
 | v::l,u::us,k,e,hr,h=>by
  obtain⟨y,rs,h1,h0,h2⟩:=yR hlk hs hr.1 h
  obtain⟨ys,rs',h3,h0',h4,h5⟩:=sP hlk hs hr.2 h1
  refine⟨y::ys,rs++rs',h3,h0.app h0',by simp[h4],fun I2 hw m y' hy=>?_⟩
  cases m with
  | zero=>simp at hy ⊢;subst hy;exact h2 I2 hw.left
  | succ m=>simp at hy ⊢;simpa using h5 I2 hw.right m y' hy
theorem nO:∀(rs:List (Nat × Nat)) {st:ASt} {g:Gh},al w0 I0 R g st a ov w->Roots st.look rs->gk rs=true ->
  ∃st1 g1,ae dst (yc rs) st=some st1/\al w0 I0 R g1 st1 a ov w/\iU g rs g1.I/\st1.out.length=st.out.length/\∀j cs,st.look j=some (.cells cs)->st1.look j=some (.cells cs)/\g1.β j=g.β j
 | [],st,g,hs,hr,hn=>⟨st,g,rfl,hs,⟨fun _ h=>h,fun i r hm=>by simp at hm⟩,rfl,fun _ _ h=>⟨h,rfl⟩⟩
 | (i, r) :: rs, st, g, hs, hr, hn => by
  obtain⟨xs,x,hl,hx⟩:=hr i r (by simp)
  obtain⟨h1,h2,h3⟩:=hs.freeze hl hx
  simp only[gk,FS,Bool.not_eq_true']at hn
  have hne:∀i' r',(i',r')∈rs->¬(i'=i/\r'=r):=fun i' r' hm ⟨e1,e2⟩=>by
   subst e1 e2
   have:=hn.1
   rw[dF]at this
   exact this hm
  have hrl:r<xs.length:=(FP.1 hx).1
  have hlook:∀j,(st.ac i (some (.tree (ai xs r (frz x))))).look j=if i=j then some (.tree (ai xs r (frz x)))else st.look j:=fun j=>by
   rw[ag]
   by_cases h:i=j
   ·subst h;rw[if_pos ⟨rfl,gF hl⟩,if_pos rfl]
   ·rw[if_neg (fun h'=>h h'.1),if_neg h]
  obtain⟨st1,g1,q1,q2,q3,q4,q5⟩:=nO rs h2 (fun i' r' hm=>by
   obtain⟨xs',x',hl',hx'⟩:=hr i' r' (FY _ hm)
   rw[hlook]
   by_cases h:i=i'
   ·subst h
    rw[hl]at hl'
    cases hl'
    refine⟨_,x',by rw[if_pos rfl],?_⟩
    rw[ah,List.getElem?_set,if_neg (fun e=>hne _ _ hm ⟨rfl,e.symm⟩)]
    exact hx'
   ·exact⟨xs',x',by rw[if_neg h];exact hl',hx'⟩) hn.2
  refine⟨st1,g1,?_,q2,⟨fun b hb=>q3.1 b (.inl hb),fun i' r' hm b hb=>?_⟩,q4,fun j cs hj=>(by
   have hne:i≠j:=fun e=>by subst e;rw[hl]at hj;cases hj
   obtain⟨z1,z2⟩:=q5 j cs (by rw[hlook,if_neg hne];exact hj)
   exact⟨z1,z2⟩)⟩
  ·have hro:cj st.look i r=some x:=by
    simp only[cj,hl]
    have hb:r.blt xs.length=true:=by simpa using hrl
    rw[hb,b7 hx]
    rfl
   simp only[yc,ae,Prim.app,hro,co,hl]
   exact q1
  ·rcases List.mem_cons.1 hm with hm|hm
   ·cases hm
    exact q3.1 b (.inr hb)
   ·refine q3.2 i' r' hm b ?_
    have:¬(i'=i/\r'=r):=hne i' r' hm
    simp only[Gh.df]
    rw[if_neg this]
    exact hb
end
end Go.Ab
end

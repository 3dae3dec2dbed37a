import Derived.Test.YtpkpckdealhkhaaAM6
import Derived.ChangeKeysEq
set_option linter.all false
namespace Go.Ab
open Go.RowKit
section
variable {P:Program} {E:Env} {C:Cal} {w0:Bs} {w w':World} {I0 I R:Nat->Prop} {g g':Gh} {st st':ASt} {a:Act} {ov:List Value} {look:Look} {Q:Exit->Act->World->Prop} {id:Nat}
variable {dst:Option Tmp} {type:TypeId} {pos:String} {after:Array Edge} {guard:Option (Nat × Bool)}
theorem Bk {v:Value} (h1:v.oneCell'=true):v.cells=#[v]:=by cases v<;>first|rfl|simp[Value.oneCell']at h1
theorem sE {v:Value} (h:nY v):v.oneCell'=true:=by obtain⟨a,l,c,rfl⟩:=h;rfl
theorem CC {s lo len:Nat} {u:Value} (h:nY u):nY (cut s lo len u):=by
 obtain⟨a,l,c,rfl⟩:=h
 cases a<;>exact⟨_,_,_,rfl⟩
theorem DW {nd:Option (Nat × Nat)} {lo len:Nat} {u v:Value} (hu:nY u) (h:vr nd lo len u v):nY v:=by
 unfold vr at h
 split at h
 ·rw[h.2];exact CC hu
 ·rw[h.2.2.2];exact⟨_,_,_,rfl⟩
theorem sF {c:CA} {v:Value} (h:bW w g look c v) (hk:c.kept=true):v.oneCell'=true:=by
 cases c with
 | t x=>exact h.2
 | ptr i off=>obtain⟨cs,_,rfl⟩:=h;rfl
 | ref x off=>obtain⟨a,cell,rfl,_⟩:=h;rfl
 | tptr i r p k j=>obtain⟨xs,x,a,l,cap,s,n,_,_,_,_,rfl⟩:=h;rfl
 | sref i r p=>obtain⟨xs,x,nd,_,_,_,hv⟩:=h;exact sE hv
 | swin i r p lo len=>obtain⟨xs,x,u,nd,_,_,_,hu,hw⟩:=h;exact sE (DW hu hw)
 | may i ty=>obtain⟨cs,_,_,rfl|rfl⟩:=h<;>rfl
 | aptr i off len n=>obtain⟨cs,_,_,rfl⟩:=h;rfl
 | yl n=>have h:v=.func (.yield (g.O.y n)) #[] #[]:=h;subst h;rfl
 | ifp ty i=>obtain⟨cs,_,rfl⟩:=h;rfl
 | fn1 f i=>obtain⟨cs,_,rfl⟩:=h;rfl
 | psl i n=>obtain⟨cs,_,rfl⟩:=h;rfl
 | undef=>simp[CA.kept]at hk
 | junk=>simp[CA.kept]at hk
theorem CR.append {x y:List CA} {u v:List Value} (h1:CR w g look x u) (h2:CR w g look y v):CR w g look (x++y) (u++v):=by
 refine⟨by simp[h1.1,h2.1],fun j c z hc hz=>?_⟩
 by_cases hj:j<x.length
 ·rw[F3 hj]at hc
  rw[F3 (by rw[h1.1];exact hj)]at hz
  exact h1.2 j c z hc hz
 ·rw[F4 (by omega)]at hc
  rw[F4 (by rw[h1.1];omega),h1.1]at hz
  exact h2.2 _ c z hc hz
theorem CR.take {x:List CA} {u:List Value} (h:CR w g look x u) (n:Nat):CR w g look (x.take n) (u.take n):=by
 refine⟨by simp[h.1],fun j c z hc hz=>?_⟩
 have hj:j<n:=by have:=(FP.1 hc).1;simp at this;omega
 rw[List.getElem?_take_of_lt hj]at hc hz
 exact h.2 j c z hc hz
theorem CR.drop {x:List CA} {u:List Value} (h:CR w g look x u) (n:Nat):CR w g look (x.drop n) (u.drop n):=by
 refine⟨by simp[h.1],fun j c z hc hz=>?_⟩
 rw[List.getElem?_drop]at hc hz
 exact h.2 _ c z hc hz
theorem CR.spl {cs ps:List CA} {vs us:List Value} (h1:CR w g look cs vs) (h2:CR w g look ps us) (off:Nat):CR w g look (Ab.spl cs off ps) (Ab.spl vs off us):=by
 unfold Ab.spl
 rw[h2.1]
 exact((h1.take off).append h2).append (h1.drop _)
theorem CR.lits {zs:List Value} (h:∀v∈zs,v.oneCell'=true):CR w g look (zs.map fun v=>.t (.lit v)) zs:=by
 refine⟨by simp,fun j c u hc hu=>?_⟩
 rw[FW,hu]at hc
 simp only[F6,FR]at hc
 subst hc
 exact⟨⟨.lit _,h u (FZ hu)⟩,h u (FZ hu)⟩
theorem Al {S:Type} {f:FuncId} {l:List CA} {n:Nat} {k:List CA->Prg S} {e:S} {v:Value} (hx:bX w g look (.clo f l) v) (h:(AV.bd false n (.clo f l) k).hits C e) :
  ∃i,(k [.fn1 f i]).hits C e/\bW w g look (.fn1 f i) v/\v.oneCell'=true:=by
 obtain⟨vs,rfl,hcr⟩:=hx
 unfold AV.bd at h
 split at h
 all_goals first|(rename_i heq;cases heq;done)|skip
 all_goals first|exact h.elim|skip
 rename_i f' i heq0 heq
 cases heq
 refine⟨i,h,?_,rfl⟩
 have h1:vs.size=1:=by simpa using hcr.1
 have h2:=(hcr.2 0 (.ptr i 0) (vs.getD 0 undef) rfl (by rw[FU,Array.getElem?_eq_getElem (by omega)];simp[h1])).1
 obtain⟨cs,hl,hv⟩:=h2
 refine⟨cs,hl,?_⟩
 have:vs=#[vs.getD 0 undef]:=by
  apply Array.ext
  ·simpa using h1
  ·intro q hq hq2
   have:q=0:=by simp at hq2;omega
   subst this
   simp[h1]
 rw[this,hv]
theorem eF {S:Type} {agg:Bool} {n:Nat} {x:AV} {k:List CA->Prg S} {e:S} {v:Value} (hx:bX w g look x v) (h:(x.bd agg n k).hits C e) :
  ∃cs,(k cs).hits C e/\CR w g look cs v.cells.toList/\(agg=true->cs.length=n)/\(agg=false->cs.length=1):=by
 have one:∀c,bW w g look c v->v.oneCell'=true->CR w g look [c] v.cells.toList:=fun c h1 h2=>by
  rw[Bk h2]
  refine⟨by simp,fun j c' u hc hu=>?_⟩
  cases j with
  | zero=>simp at hc hu;subst hc hu;exact⟨h1,h2⟩
  | succ j=>simp at hc
 cases agg with
 | false =>
  cases x with
  | one c =>
   simp only[AV.bd]at h
   cases hk:c.kept with
   | false=>simp[hk,Prg.hits]at h
   | true =>
    simp only[hk,cond_true]at h
    exact⟨[c],h,one c hx (sF hx hk),by simp,by simp⟩
  | tv x =>
   obtain⟨h1,h⟩:=h
   have h1':v.oneCell'=true:=by
    cases hx with
    | lit v=>exact h1
    | hole v=>simp[TV.eS]at h1
    | buf e h=>simp[TV.eS]at h1
    | sl=>rfl
    | agg=>simp[TV.eS]at h1
    | tup=>simp[TV.eS]at h1
   exact⟨[.t x],h,one _ ⟨hx,h1'⟩ h1',by simp,by simp⟩
  | bl b =>
   have:v=.bool b:=hx
   subst this
   exact⟨[.t (.lit (.bool b))],h,one _ ⟨.lit _,rfl⟩ rfl,by simp,by simp⟩
  | agg cs=>exact h.elim
  | tups l=>exact h.elim
  | clo f l =>
   obtain⟨i,h1,h2,h3⟩:=Al hx h
   exact⟨_,h1,one _ h2 h3,by simp,by simp⟩
 | true =>
  cases x with
  | agg cs =>
   simp only[AV.bd]at h
   cases hk:cs.length.beq n with
   | false=>simp[hk,Prg.hits]at h
   | true =>
    simp only[hk,cond_true]at h
    obtain⟨vs,rfl,hc⟩:=hx
    exact⟨cs,h,hc,fun _=>(az _ _).1 hk,by simp⟩
  | tv x =>
   obtain⟨h1,h⟩:=h
   have hx:Rep w g.I x v:=hx
   cases hx with
   | lit v=>simp[TV.isAgg]at h1
   | hole v=>simp[TV.isAgg]at h1
   | buf e h=>simp[TV.isAgg]at h1
   | sl=>simp[TV.isAgg]at h1
   | tup=>simp[TV.isAgg]at h1
   | @agg cs vs hl h1' hr =>
    have hn:cs.length=n:=(az _ _).1 h1
    refine⟨_,h,⟨by simp[Value.cells,hl,hn],fun j c u hc hu=>?_⟩,by simp,by simp⟩
    have hlt:j<n:=by
     have:=(FP.1 hc).1
     simpa using this
    rw[FW,List.getElem?_range hlt]at hc
    simp only[F6,FR]at hc
    subst hc
    have hj2:j<cs.length:=by omega
    have hcell:TV.cell (.agg cs) j=cs[j]:=by simp only[TV.cell];exact b7 (FQ hj2)
    rw[hcell]
    have hu':vs.getD j undef=u:=by
     simp only[Value.cells,FU]at hu
     rw[F8,hu];rfl
    rw[<-hu']
    exact⟨⟨hr j _ (FQ hj2),h1' j (by omega)⟩,h1' j (by omega)⟩
  | one c=>exact h.elim
  | bl b=>exact h.elim
  | tups l=>exact h.elim
  | clo _ l=>exact h.elim
theorem dS (w:World) (o:Obj):Below w.heap.size w (w.alloc o):=(Below.refl _ _).alloc (Nat.le_refl _) o
theorem oA {b:BC} {v:AV} (ha:(Eff.new b v).app st dst=some st'):∃d,dst=some d/\st.look (st.nid dst)=none/\st.nid dst<st.boxes.length/\st'=(st.ac (st.nid dst) (some b)).put (some d) v:=by
 cases dst with
 | none=>simp[Eff.app]at ha
 | some d =>
  simp only[Eff.app]at ha
  cases h:st.bC (st.nid (some d)) b with
  | none=>simp[h]at ha
  | some s1 =>
   simp only[h,FR]at ha
   obtain⟨h1,h2,h3⟩:=bu h
   subst h3
   exact⟨d,rfl,h1,h2,ha.symm⟩
theorem uj (hs:al w0 I0 NoR g st a ov w) {cs:List CA} {vs:Array Value} {t:TypeId} {o:Oper} (ho:o.dst=dst) (hrun:(execOp a.eval o).run P w=.ok (.value (.pointer (some ⟨w.heap.size,0,none⟩))) (w.alloc (.cells vs t)))
  (hcr:CR w g st.look cs vs.toList) (ha:(Eff.new (.cells cs) (.one (.ptr (st.nid dst) 0))).app st dst=some st'):Good P w0 I0 ov o st' a w Q:=by
 obtain⟨d,h0,h1,h2,h3⟩:=oA ha
 subst h3
 obtain⟨r1,r2⟩:=hs.tU h2 h1 (dS w (.cells vs t)) (Nat.le_refl _) (by simp) (heap_alloc_new w _) hcr
 refine gI hrun ⟨g.setβ (st.nid dst) w.heap.size,?_⟩
 rw[ho]
 subst h0
 refine r1.put (some d) (v:=.one (.ptr (st.nid (some d)) 0)) ?_
 refine⟨cs,?_,by simp[Gh.setβ]⟩
 rw[ag,if_pos ⟨rfl,h2⟩]
theorem Bl (hs:al w0 I0 NoR g st a ov w) {cs:List CA} {vs:Array Value} {t:TypeId} {len:Nat} {o:Oper} (ho:o.dst=dst) (hrun:(execOp a.eval o).run P w=.ok (.value (.slice (some ⟨w.heap.size,0,none⟩) len len)) (w.alloc (.cells vs t)))
  (hcr:CR w g st.look cs vs.toList) (ha:(Eff.new (.cells cs) (.one (.psl (st.nid dst) len))).app st dst=some st'):Good P w0 I0 ov o st' a w Q:=by
 obtain⟨d,h0,h1,h2,h3⟩:=oA ha
 subst h3
 obtain⟨r1,r2⟩:=hs.tU h2 h1 (dS w (.cells vs t)) (Nat.le_refl _) (by simp) (heap_alloc_new w _) hcr
 refine gI hrun ⟨g.setβ (st.nid dst) w.heap.size,?_⟩
 rw[ho]
 subst h0
 refine r1.put (some d) (v:=.one (.psl (st.nid (some d)) len)) ?_
 refine⟨cs,?_,by simp[Gh.setβ]⟩
 rw[ag,if_pos ⟨rfl,h2⟩]
theorem Cl (hE:∀t d,E.T t=some d->ba P t d) (hs:al w0 I0 NoR g st a ov w) {t:TypeId} {e:Eff} (hh:(opL E (st.nid dst) look (.alloc t) []).hits C e) (ha:e.app st dst=some st') :
  Good P w0 I0 ov ⟨dst,.alloc t,type,pos,after,guard⟩ st' a w Q:=by
 simp only[opL]at hh
 cases hT:E.T t with
 | none=>simp[hT,Prg.hits]at hh
 | some d =>
  simp only[hT]at hh
  cases hh
  have ht:=hE t d hT
  obtain⟨z,hz,hc⟩:=rz (w:=w) ht
  have hrun:(execOp a.eval ⟨dst,.alloc t,type,pos,after,guard⟩).run P w=.ok (.value (.pointer (some ⟨w.heap.size,0,none⟩))) (w.alloc (.cells z.cells t)):=by simp[execOp,Instr.alloc,hz,newVar,newRow]
  have plain:kq (E.selfT t) (st.nid dst) t d.zero=d.zero.map (fun v=>.t (.lit v))->Good P w0 I0 ov ⟨dst,.alloc t,type,pos,after,guard⟩ st' a w Q:=fun he=>by
   rw[he]at ha
   exact uj hs rfl (vs:=z.cells) (t:=t) hrun (by rw[hc];exact CR.lits ht.zone) ha
  by_cases hm:∃l,E.selfT t=true/\d.zero=.pointer none::l
  ·obtain⟨l,hself,hzero⟩:=hm
   rw[hself,hzero]at ha
   simp only[kq]at ha
   obtain⟨dd,h0,h1,h2,h3⟩:=oA ha
   subst h3
   obtain⟨r1,r2⟩:=hs.tU (cs:=d.zero.map fun v=>.t (.lit v)) h2 h1 (dS w (.cells z.cells t)) (Nat.le_refl _) (by simp) (heap_alloc_new w _) (by rw[hc];exact CR.lits ht.zone)
   have hlk:(st.ac (st.nid dst) (some (.cells (d.zero.map fun v=>.t (.lit v))))).look (st.nid dst)=some (.cells (d.zero.map fun v=>.t (.lit v))):=by rw[ag,if_pos ⟨rfl,h2⟩]
   have hβ:(g.setβ (st.nid dst) w.heap.size).β (st.nid dst)=w.heap.size:=by simp[Gh.setβ]
   have hheap:(w.alloc (.cells z.cells t)).heap[(g.setβ (st.nid dst) w.heap.size).β (st.nid dst)]? = some (.cells z.cells t (0,0)):=by rw[hβ];exact heap_alloc_new w _
   have hzc:z.cells.toList=.pointer none::l:=by rw[hc,hzero]
   have r3:=r1.gd hlk (cs':=.may (st.nid dst) t::l.map fun v=>.t (.lit v)) (vs':=z.cells) (ty:=t) r1.below (Nat.le_refl _) (fun _ _=>rfl) hheap ⟨_,_,hheap⟩ (by
    rw[hzc]
    have hl:=CR.lits (w:=w.alloc (.cells z.cells t)) (g:=g.setβ (st.nid dst) w.heap.size) (look:=(st.ac (st.nid dst) (some (.cells (d.zero.map fun v=>.t (.lit v))))).look) (zs:=l) (fun v hv=>ht.zone v (by rw[hzero];exact FY _ hv))
    refine⟨by simp,fun j c u hj hu=>?_⟩
    cases j with
    | zero =>
     simp at hj hu
     subst hj hu
     exact⟨⟨_,hlk,⟨_,_,hheap⟩,.inl rfl⟩,rfl⟩
    | succ j=>simp only[List.getElem?_cons_succ]at hj hu;exact hl.2 j c u hj hu)
   rw[tY]at r3
   refine gI hrun ⟨g.setβ (st.nid dst) w.heap.size,?_⟩
   subst h0
   refine r3.put (some dd) (v:=.one (.ptr (st.nid (some dd)) 0)) (u:=.pointer (some ⟨w.heap.size,0,none⟩)) ?_
   refine⟨.may (st.nid (some dd)) t::l.map fun v=>.t (.lit v),?_,by simp[Gh.setβ]⟩
   rw[ag,if_pos ⟨rfl,h2⟩]
  ·refine plain ?_
   unfold kq
   split
   ·rename_i l h1 h2
    exact absurd ⟨_,h1,h2⟩ hm
   ·rfl
theorem op_box (hE:∀t d,E.T t=some d->ba P t d) (hs:al w0 I0 NoR g st a ov w) {t:TypeId} {x:Operand} {e:Eff} (hh:(opL E (st.nid dst) look (.box t x) [st.ev x]).hits C e) (ha:e.app st dst=some st') :
  Good P w0 I0 ov ⟨dst,.box t x,type,pos,after,guard⟩ st' a w Q:=by
 simp only[opL]at hh
 cases hT:E.T t with
 | none=>simp[hT,Prg.hits]at hh
 | some d =>
  simp only[hT]at hh
  obtain⟨cs,hh,hcr,_⟩:=eF (hs.ev x) hh
  cases hh
  exact uj hs rfl (vs:=(a.eval x).cells) (t:=t) (by simp[execOp,Instr.box,newVar,newRow]) hcr ha
theorem eA {t:TypeId} {d:TyD} (ht:ba P t d) {ad:Addr} {vs:List Value} (hl:vs.length=(bif d.kd.isAgg then d.size else 1)) (hc:∀(j:Nat) (u:Value),vs[j]? = some u->w.cell? (ad.add j)=some u) :
  (d.kd.isAgg=true->(loadVar t ad).run P w=.ok (.agg vs.toArray) w)/\(d.kd.isAgg=false->∀u,vs[0]? = some u->(loadVar t ad).run P w=.ok u w):=by
 constructor
 ·intro hk
  rw[hk]at hl
  have:=run_loadCells_list (P:=P) w ad vs hc
  simp only[cond_true]at hl
  rw[hl]at this
  simp[loadVar,iI ht,hk,cB ht,this]
 ·intro hk u hu
  have:=hc 0 u hu
  simp[loadVar,iI ht,hk]
  have h0:ad.add 0=ad:=by simp[Addr.add]
  rw[h0]at this
  simp[this]
theorem rK (hs:al w0 I0 NoR g st a ov w) {t:TypeId} {d:TyD} (ht:ba P t d) {x:Operand} {ad:Addr} {cs:List CA} {vs:List Value} {v:AV} (hv:a.eval x=.pointer (some ad)) (hcr:CR w g st.look cs vs)
  (hl:cs.length=(bif d.kd.isAgg then d.size else 1)) (hc:∀(j:Nat) (u:Value),vs[j]? = some u->w.cell? (ad.add j)=some u) (hof:dh d.kd.isAgg cs=some v) (ha:(Eff.val v).app st dst=some st') :
  Good P w0 I0 ov ⟨dst,.load t x,type,pos,after,guard⟩ st' a w Q:=by
 obtain⟨r1,r2⟩:=eA (w:=w) ht (ad:=ad) (by rw[hcr.1];exact hl) hc
 cases hk:d.kd.isAgg with
 | true =>
  rw[hk]at hof
  exact aR hs (u:=.agg vs.toArray) (by simp[execOp,Instr.loadAt,hv,Instr.sureAddr,r1 hk]) (bV hof ⟨vs.toArray,rfl,by simpa using hcr⟩) ha
 | false =>
  rw[hk]at hof hl
  match cs,hl,hcr,hof with
  | [c],_,hcr,hof =>
   have h0:vs.length=1:=hcr.1
   have hu:vs[0]? = some (vs[0]'(by omega)):=FQ _
   have:=hcr.2 0 c _ rfl hu
   exact aR hs (u:=vs[0]'(by omega)) (by simp[execOp,Instr.loadAt,hv,Instr.sureAddr,r2 hk _ hu]) (bV hof ⟨c,rfl,this.1,this.2⟩) ha
theorem pU (hs:al w0 I0 NoR g st a ov w) {t:TypeId} {d:TyD} (ht:ba P t d) {x:Operand} {ad:Addr} {cs:List CA} {vs:List Value} {v:AV} (hv:a.eval x=.pointer (some ad)) (hcr:CR w g st.look cs vs)
  (hl:cs.length=(bif d.kd.isAgg then d.size else 1)) (hc:∀(j:Nat) (u:Value),vs[j]? = some u->w.cell? (ad.add j)=some u) (hof:dh d.kd.isAgg cs=some v) (ha:(Eff.val v).app st dst=some st') :
  qy P w0 I0 ov ⟨dst,.load t x,type,pos,after,guard⟩ st' a w:=by
 obtain⟨r1,r2⟩:=eA (w:=w) ht (ad:=ad) (by rw[hcr.1];exact hl) hc
 cases hk:d.kd.isAgg with
 | true =>
  rw[hk]at hof
  exact lm hs (u:=.agg vs.toArray) (by simp[execOp,Instr.loadAt,hv,Instr.sureAddr,r1 hk]) (bV hof ⟨vs.toArray,rfl,by simpa using hcr⟩) ha
 | false =>
  rw[hk]at hof hl
  match cs,hl,hcr,hof with
  | [c],_,hcr,hof =>
   have h0:vs.length=1:=hcr.1
   have hu:vs[0]? = some (vs[0]'(by omega)):=FQ _
   have:=hcr.2 0 c _ rfl hu
   exact lm hs (u:=vs[0]'(by omega)) (by simp[execOp,Instr.loadAt,hv,Instr.sureAddr,r2 hk _ hu]) (bV hof ⟨c,rfl,this.1,this.2⟩) ha
theorem t7 (hs:al w0 I0 NoR g st a ov w) {t:TypeId} {d:TyD} (ht:ba P t d) {x:Operand} {y:List TV} {off:Nat} {ad:Addr} {cell:Nat->Value} {e:Eff}
  (hv:a.eval x=.pointer (some (ad.add off))) (hc:∀(j:Nat) (c:TV),y[j]? = some c->w.cell? (ad.add j)=some (cell j)/\(cell j).oneCell'=true/\Rep w g.I c (cell j))
  (hh:(kT d y off).hits C e) (ha:e.app st dst=some st'):Good P w0 I0 ov ⟨dst,.load t x,type,pos,after,guard⟩ st' a w Q:=by
 unfold kT at hh
 cases hk:d.kd.isAgg with
 | true =>
  simp only[hk,cond_true]at hh
  obtain⟨hle,hh⟩:=hh
  cases hh
  have hle:off+d.size<=y.length:=by simpa using hle
  refine rK hs ht (cs:=(List.range d.size).map fun j=>.t (nth .hole y (off+j))) (vs:=(List.range d.size).map fun j=>cell (off+j)) hv ⟨by simp,fun j c u hcj huj=>?_⟩ (by simp[hk]) (fun j u hu=>?_) (by
   rw[hk]
   cases hr:(List.range d.size).map (fun j=>CA.t (nth .hole y (off+j)))<;>simp[dh]) ha
  ·have hlt:j<d.size:=by have:=(FP.1 hcj).1;simpa using this
   rw[FW,List.getElem?_range hlt]at hcj huj
   simp only[F6,FR]at hcj huj
   subst hcj huj
   have hlt2:off+j<y.length:=by omega
   have:=hc (off+j) _ (FQ hlt2)
   rw[b7 (FQ hlt2)]
   exact⟨⟨this.2.2,this.2.1⟩,this.2.1⟩
  ·have hlt:j<d.size:=by have:=(FP.1 hu).1;simpa using this
   rw[FW,List.getElem?_range hlt]at hu
   simp only[F6,FR]at hu
   subst hu
   rw[fd]
   exact(hc (off+j) _ (FQ (by omega))).1
 | false =>
  simp only[hk,cond_false]at hh
  obtain⟨hle,hh⟩:=hh
  have hle:off<y.length:=by simpa using hle
  have h1:=hc off _ (FQ hle)
  have hrun:=(eA (w:=w) ht (ad:=ad.add off) (vs:=[cell off]) (by simp[hk]) (fun j u hu=>by
   cases j with
   | zero=>simp at hu;subst hu;rw[fd];exact h1.1
   | succ j=>simp at hu)).2 hk (cell off) rfl
  refine cO hs (u:=cell off) (by simp[execOp,Instr.loadAt,hv,Instr.sureAddr,hrun]) ?_ h1.2.1 hh ha
  rw[b7 (FQ hle)]
  exact h1.2.2
theorem tE (hs:al w0 I0 NoR g st a ov w) {t:TypeId} {d:TyD} (ht:ba P t d) {x:Operand} {y:List TV} {off:Nat} {ad:Addr} {cell:Nat->Value} {e:Eff}
  (hv:a.eval x=.pointer (some (ad.add off))) (hc:∀(j:Nat) (c:TV),y[j]? = some c->w.cell? (ad.add j)=some (cell j)/\(cell j).oneCell'=true/\Rep w g.I c (cell j))
  (hh:(kT d y off).hits C e) (ha:e.app st dst=some st'):qy P w0 I0 ov ⟨dst,.load t x,type,pos,after,guard⟩ st' a w:=by
 unfold kT at hh
 cases hk:d.kd.isAgg with
 | true =>
  simp only[hk,cond_true]at hh
  obtain⟨hle,hh⟩:=hh
  cases hh
  have hle:off+d.size<=y.length:=by simpa using hle
  refine pU hs ht (cs:=(List.range d.size).map fun j=>.t (nth .hole y (off+j))) (vs:=(List.range d.size).map fun j=>cell (off+j)) hv ⟨by simp,fun j c u hcj huj=>?_⟩ (by simp[hk]) (fun j u hu=>?_) (by
   rw[hk]
   cases hr:(List.range d.size).map (fun j=>CA.t (nth .hole y (off+j)))<;>simp[dh]) ha
  ·have hlt:j<d.size:=by have:=(FP.1 hcj).1;simpa using this
   rw[FW,List.getElem?_range hlt]at hcj huj
   simp only[F6,FR]at hcj huj
   subst hcj huj
   have hlt2:off+j<y.length:=by omega
   have:=hc (off+j) _ (FQ hlt2)
   rw[b7 (FQ hlt2)]
   exact⟨⟨this.2.2,this.2.1⟩,this.2.1⟩
  ·have hlt:j<d.size:=by have:=(FP.1 hu).1;simpa using this
   rw[FW,List.getElem?_range hlt]at hu
   simp only[F6,FR]at hu
   subst hu
   rw[fd]
   exact(hc (off+j) _ (FQ (by omega))).1
 | false =>
  simp only[hk,cond_false]at hh
  obtain⟨hle,hh⟩:=hh
  have hle:off<y.length:=by simpa using hle
  have h1:=hc off _ (FQ hle)
  have hrun:=(eA (w:=w) ht (ad:=ad.add off) (vs:=[cell off]) (by simp[hk]) (fun j u hu=>by
   cases j with
   | zero=>simp at hu;subst hu;rw[fd];exact h1.1
   | succ j=>simp at hu)).2 hk (cell off) rfl
  refine zZ hs (u:=cell off) (by simp[execOp,Instr.loadAt,hv,Instr.sureAddr,hrun]) ?_ h1.2.1 hh ha
  rw[b7 (FQ hle)]
  exact h1.2.2
theorem gL:∀{zs:List Value} {e:List TV} {j:Nat},ab zs e j=true->∀(m:Nat) (z:Value),zs[m]? = some z->∃c,e[j+m]? = some c/\(aF z=true->c.isSl=true)/\(aF z=false->c.isSc=true)
 | [],e,j,_,m,z,hz=>by simp at hz
 | z0 :: zs, e, j, h, m, z, hz => by
  simp only[ab]at h
  cases hc:e[j]? with
  | none=>simp[hc]at h
  | some c =>
   simp only[hc,FS]at h
   cases m with
   | zero =>
    simp at hz
    subst hz
    refine⟨c,by simpa using hc,fun hs=>?_,fun hs=>?_⟩
    ·rw[hs]at h;exact h.1
    ·rw[hs]at h;exact h.1
   | succ m =>
    obtain⟨c',h1,h2⟩:=gL h.2 m z (by simpa using hz)
    exact⟨c',by rw[<-h1];congr 1;omega,h2⟩
theorem rY:∀{zs:List Value} {e:List TV} {j:Nat},ab zs e j=true->cL zs e j=true
 | [],e,j,_=>rfl
 | z0 :: zs, e, j, h => by
  simp only[ab]at h
  simp only[cL]
  cases hc:e[j]? with
  | none=>simp[hc]at h
  | some c =>
   simp only[hc,FS]at h ⊢
   refine⟨?_,rY h.2⟩
   cases hz:aF z0 with
   | true=>have:=h.1;rw[hz]at this;simp only[cond_true]at this ⊢;rw[this];rfl
   | false=>have:=h.1;rw[hz]at this;exact this
theorem ny:∀{zs:List Value} {e:List TV} {j:Nat},cL zs e j=true->∀(m:Nat) (z:Value),zs[m]? = some z->∃c,e[j+m]? = some c/\(aF z=false->c.isSc=true)
 | [],e,j,_,m,z,hz=>by simp at hz
 | z0 :: zs, e, j, h, m, z, hz => by
  simp only[cL]at h
  cases hc:e[j]? with
  | none=>simp[hc]at h
  | some c =>
   simp only[hc,FS]at h
   cases m with
   | zero =>
    simp at hz
    subst hz
    refine⟨c,by simpa using hc,fun hs=>?_⟩
    rw[hs]at h;exact h.1
   | succ m =>
    obtain⟨c',h1,h2⟩:=ny h.2 m z (by simpa using hz)
    exact⟨c',by rw[<-h1];congr 1;omega,h2⟩
theorem lL (i r:Nat) (p:Way) (k:Nat) (e:List TV):∀(zs:List Value) (j m:Nat),(gD i r p k e zs j)[m]? = (zs[m]?).map fun z=>bif aF z then .sref i r (p ++ [(k,j+m)])else .t (nth .hole e (j+m))
 | [],j,m=>by simp[gD]
 | z::zs,j,0=>by simp[gD]
 | z::zs,j,m+1=>by
  simp only[gD,List.getElem?_cons_succ,lL i r p k e zs (j+1) m]
  rw[show j+1+m=j+(m+1) by omega]
theorem ej (i r:Nat) (p:Way) (k:Nat) (e:List TV):∀(zs:List Value) (j:Nat),(gD i r p k e zs j).length=zs.length
 | [],j=>rfl
 | z::zs,j=>by simp[gD,ej i r p k e zs (j+1)]
theorem Node.append:∀{p q:Way} {x y:TV} {u v v':Value} {nd nd':Option (Nat × Nat)},Node w p x u v nd->Ab.a8 p x=some y->Node w q y v v' nd'->Node w (p++q) x u v' nd'
 | [],q,x,y,u,v,v',nd,nd',h,hy,hq=>by
  simp only[Ab.a8,FR]at hy
  subst hy
  rw[h.1]at hq
  exact hq
 | (k,j)::p,q,x,y,u,v,v',nd,nd',⟨o,s,xs,a,n,cap,e,z,u',hx,hu,he,hz,hc,h⟩,hy,hq=>by
  subst hx
  simp only[Ab.a8,he,hz]at hy
  exact⟨o,s,xs,a,n,cap,e,z,u',rfl,hu,he,hz,hc,Node.append h hy hq⟩
theorem sv {x:TV} {k:Nat} {e:List TV} (h:pel x k=some e):∃o s xs,x=.sl o s xs/\xs[k]? = some e:=by
 unfold pel at h
 split at h
 ·exact⟨_,_,_,rfl,h⟩
 ·cases h
theorem EX (hE : ∀ t d, E.T t = some d → ba P t d) (hlk : ∀ i b, look i = some b → st.look i = some b) (hs : al w0 I0 NoR g st a ov w) {t : TypeId} {x : Operand} {e : Eff}
  (hh:(opL E id look (.load t x) [st.ev x]).hits C e) (ha:e.app st dst=some st'):Good P w0 I0 ov ⟨dst,.load t x,type,pos,after,guard⟩ st' a w Q:=by
 simp only[opL]at hh
 cases hT:E.T t with
 | none=>simp[hT,Prg.hits]at hh
 | some d =>
  simp only[hT]at hh
  have ht:=hE t d hT
  unfold AT at hh
  have hx:=hs.ev x
  split at hh
  ·rename_i i off len n hxi
   rw[hxi]at hx
   cases hk:d.kd.isAgg with
   | true=>rw[hk]at hh;exact hh.elim
   | false =>
    rw[hk]at hh
    simp only[cond_false]at hh
    split at hh
    ·rename_i cs xs hrow
     obtain⟨hl,hxl,_,hget⟩:=jj hrow
     obtain⟨y,hy,hh⟩:=hh
     have hl2:=hlk i _ hl
     obtain⟨cs',hl',hn,hv⟩:=hx
     rw[hl2]at hl'
     cases hl'
     obtain⟨vs,ty,h4,hcr⟩:=hs.cells i _ hl2
     have hc:=hget n y hy
     have hlt:off+n<vs.toList.length:=by rw[hcr.1];exact(FP.1 hc).1
     have hu:vs.toList[off+n]? = some (vs.toList[off+n]'hlt):=FQ _
     obtain⟨⟨hr,_⟩,h1⟩:=hcr.2 _ _ _ hc hu
     have hcell:w.cell? ⟨g.β i,off+n,none⟩=some (vs.toList[off+n]'hlt):=by
      rw[cell_of_row w (g.β i) _ vs ty (0,0) h4,<-FU]
      exact hu
     have hrun:=(eA (w:=w) ht (ad:=⟨g.β i,off+n,none⟩) (vs:=[vs.toList[off+n]'hlt]) (by rw[hk];rfl) (fun j u hj=>by
      cases j with
      | zero=>simp only[List.getElem?_cons_zero,FR]at hj;subst hj;simpa[Addr.add]using hcell
      | succ j=>simp at hj)).2 hk _ rfl
     exact cO hs (by simp[execOp,Instr.loadAt,hv,Instr.sureAddr,hrun]) hr h1 hh ha
    ·exact hh.elim
  ·rename_i i off hxi
   rw[hxi]at hx
   split at hh
   ·rename_i cs hl
    have hl2:=hlk i _ hl
    obtain⟨cs',hl',hv⟩:=hx
    rw[hl2]at hl'
    cases hl'
    obtain⟨vs,ty,h4,hcr⟩:=hs.cells i _ hl2
    split at hh
    ·rename_i cs1 htk
     obtain⟨k1,k2,k3⟩:=fg _ _ _ _ htk
     split at hh
     ·rename_i v hof
      cases hh
      refine rK hs ht (cs:=cs1) (vs:=(vs.toList.drop off).take cs1.length) hv ⟨?_,fun j c u hc hu=>?_⟩ k1 (fun j u hu=>?_) hof ha
      ·have:=hcr.1
       rcases k2 with k2|k2
       ·have:cs1=[]:=List.eq_nil_of_length_eq_zero (by omega)
        subst this;simp
       ·simp only[List.length_take,List.length_drop];omega
      ·have hj:j<cs1.length:=(FP.1 hc).1
       rw[List.getElem?_take_of_lt hj,List.getElem?_drop]at hu
       rw[k3 j (by omega)]at hc
       exact hcr.2 _ c u hc hu
      ·have hj:j<cs1.length:=by
        have:=(FP.1 hu).1
        simp at this
        omega
       rw[List.getElem?_take_of_lt hj,List.getElem?_drop,FU]at hu
       rw[gH,cell_of_row w (g.β i) _ vs ty (0,0) h4]
       exact hu
     ·exact hh.elim
    ·exact hh.elim
   ·exact hh.elim
  ·rename_i y off hxi
   rw[hxi]at hx
   obtain⟨ad,cell,hv,hc⟩:=hx
   exact t7 hs ht hv (fun j c hj=>⟨hs.cellAt (hc j c hj).1,(hc j c hj).2⟩) hh ha
  ·rename_i i r p k j hxi
   rw[hxi]at hx
   split at hh
   ·rename_i x0 hx0
    obtain⟨xs,hl,hxr⟩:=aD hx0
    have hl2:=hlk i _ hl
    obtain⟨xs',x',ad,l,cap,s,n,hl',hx',hn,hk,hv⟩:=hx
    rw[hl2]at hl'
    cases hl'
    rw[hxr]at hx'
    cases hx'
    obtain⟨sl,hsl,hh⟩:=dP hh
    obtain⟨el,hel,hfit,hh⟩:=hh
    obtain⟨hnd,S',hrep,_⟩:=hs.at hl2 hxr hn hsl
    obtain⟨o,s',ys,rfl,hye⟩:=sv hel
    simp only[TV.nd,FR,Prod.mk.injEq]at hnd
    obtain⟨rfl,rfl⟩:=hnd
    split at hh
    ·rename_i v hof
     cases hh
     have hzl:=ht.zlen
     have hcell:∀m z,d.zero[m]? = some z->∃c u' S2,el[j+m]? = some c/\(aF z=true->c.isSl=true)/\(aF z=false->c.isSc=true)/\w.cell? (ad.add (k*s+(j+m)))=some u'/\u'.oneCell'=true/\aq w g.I c u' S2:=fun m z hz=>by
      obtain⟨c,h1,h2,h3⟩:=gL hfit m z hz
      obtain⟨a',cap',u',S2,e1,e2,e3,e4,e5,e6,e7⟩:=hrep.child hye h1
      cases e1
      exact⟨c,u',S2,h1,h2,h3,e2,e3,e4⟩
     have hval:∀m,m<d.zero.length->∃u,w.cell? (ad.add (k*s+(j+m)))=some u:=fun m hm=>by
      obtain⟨c,u',S2,_,_,_,h,_⟩:=hcell m _ (FQ hm)
      exact⟨u',h⟩
     refine rK hs ht (cs:=gD i r p k el d.zero j) (vs:=(List.range d.zero.length).map fun m=>(w.cell? (ad.add (k*s+(j+m)))).getD undef) hv ⟨by simp[ej],fun m c u hc hu=>?_⟩ ?_ (fun m u hu=>?_) hof ha
     ·have hm:m<d.zero.length:=by have:=(FP.1 hc).1;rw[ej]at this;exact this
      rw[FW,List.getElem?_range hm]at hu
      simp only[F6,FR]at hu
      obtain⟨c',u',S2,h1,h2,h3,h4,h5,h6⟩:=hcell m _ (FQ hm)
      rw[h4,Option.getD_some]at hu
      subst hu
      rw[lL,FQ hm]at hc
      simp only[F6,FR]at hc
      refine⟨?_,h5⟩
      cases hz:aF d.zero[m]with
      | true =>
       simp only[hz,cond_true]at hc
       subst hc
       obtain⟨a1,n1,c1,hsl1⟩:=iJ h6 (h2 hz)
       exact⟨xs,x0,c'.nd,hl2,hxr,Node.append hn hsl ⟨o,s,ys,ad,_,_,el,c',u',rfl,rfl,hye,h1,h4,rfl,rfl⟩,⟨a1,n1,c1,hsl1⟩⟩
      | false =>
       simp only[hz,cond_false]at hc
       subst hc
       obtain⟨e1,e2⟩:=gu h6 (h3 hz)
       rw[b7 h1,e1]
       exact⟨.lit _,h5⟩
     ·rw[ej,hzl]
      cases hka:d.kd.isAgg with
      | true=>rfl
      | false=>simpa using ht.one hka
     ·have hm:m<d.zero.length:=by have:=(FP.1 hu).1;simpa using this
      rw[FW,List.getElem?_range hm]at hu
      simp only[F6,FR]at hu
      obtain⟨u',hu'⟩:=hval m hm
      rw[hu',Option.getD_some]at hu
      subst hu
      rw[fd,Nat.add_assoc]
      exact hu'
    ·exact hh.elim
   ·exact hh.elim
  ·exact hh.elim
theorem Dx (hE : ∀ t d, E.T t = some d → ba P t d) (hlk : ∀ i b, look i = some b → st.look i = some b) (hs : al w0 I0 NoR g st a ov w) {t : TypeId} {x : Operand} {e : Eff}
  (hh:(opL E id look (.load t x) [st.ev x]).hits C e) (ha:e.app st dst=some st'):qy P w0 I0 ov ⟨dst,.load t x,type,pos,after,guard⟩ st' a w:=by
 simp only[opL]at hh
 cases hT:E.T t with
 | none=>simp[hT,Prg.hits]at hh
 | some d =>
  simp only[hT]at hh
  have ht:=hE t d hT
  unfold AT at hh
  have hx:=hs.ev x
  split at hh
  ·rename_i i off len n hxi
   rw[hxi]at hx
   cases hk:d.kd.isAgg with
   | true=>rw[hk]at hh;exact hh.elim
   | false =>
    rw[hk]at hh
    simp only[cond_false]at hh
    split at hh
    ·rename_i cs xs hrow
     obtain⟨hl,hxl,_,hget⟩:=jj hrow
     obtain⟨y,hy,hh⟩:=hh
     have hl2:=hlk i _ hl
     obtain⟨cs',hl',hn,hv⟩:=hx
     rw[hl2]at hl'
     cases hl'
     obtain⟨vs,ty,h4,hcr⟩:=hs.cells i _ hl2
     have hc:=hget n y hy
     have hlt:off+n<vs.toList.length:=by rw[hcr.1];exact(FP.1 hc).1
     have hu:vs.toList[off+n]? = some (vs.toList[off+n]'hlt):=FQ _
     obtain⟨⟨hr,_⟩,h1⟩:=hcr.2 _ _ _ hc hu
     have hcell:w.cell? ⟨g.β i,off+n,none⟩=some (vs.toList[off+n]'hlt):=by
      rw[cell_of_row w (g.β i) _ vs ty (0,0) h4,<-FU]
      exact hu
     have hrun:=(eA (w:=w) ht (ad:=⟨g.β i,off+n,none⟩) (vs:=[vs.toList[off+n]'hlt]) (by rw[hk];rfl) (fun j u hj=>by
      cases j with
      | zero=>simp only[List.getElem?_cons_zero,FR]at hj;subst hj;simpa[Addr.add]using hcell
      | succ j=>simp at hj)).2 hk _ rfl
     exact zZ hs (by simp[execOp,Instr.loadAt,hv,Instr.sureAddr,hrun]) hr h1 hh ha
    ·exact hh.elim
  ·rename_i i off hxi
   rw[hxi]at hx
   split at hh
   ·rename_i cs hl
    have hl2:=hlk i _ hl
    obtain⟨cs',hl',hv⟩:=hx
    rw[hl2]at hl'
    cases hl'
    obtain⟨vs,ty,h4,hcr⟩:=hs.cells i _ hl2
    split at hh
    ·rename_i cs1 htk
     obtain⟨k1,k2,k3⟩:=fg _ _ _ _ htk
     split at hh
     ·rename_i v hof
      cases hh
      refine pU hs ht (cs:=cs1) (vs:=(vs.toList.drop off).take cs1.length) hv ⟨?_,fun j c u hc hu=>?_⟩ k1 (fun j u hu=>?_) hof ha
      ·have:=hcr.1
       rcases k2 with k2|k2
       ·have:cs1=[]:=List.eq_nil_of_length_eq_zero (by omega)
        subst this;simp
       ·simp only[List.length_take,List.length_drop];omega
      ·have hj:j<cs1.length:=(FP.1 hc).1
       rw[List.getElem?_take_of_lt hj,List.getElem?_drop]at hu
       rw[k3 j (by omega)]at hc
       exact hcr.2 _ c u hc hu
      ·have hj:j<cs1.length:=by
        have:=(FP.1 hu).1
        simp at this
        omega
       rw[List.getElem?_take_of_lt hj,List.getElem?_drop,FU]at hu
       rw[gH,cell_of_row w (g.β i) _ vs ty (0,0) h4]
       exact hu
     ·exact hh.elim
    ·exact hh.elim
   ·exact hh.elim
  ·rename_i y off hxi
   rw[hxi]at hx
   obtain⟨ad,cell,hv,hc⟩:=hx
   exact tE hs ht hv (fun j c hj=>⟨hs.cellAt (hc j c hj).1,(hc j c hj).2⟩) hh ha
  ·rename_i i r p k j hxi
   rw[hxi]at hx
   split at hh
   ·rename_i x0 hx0
    obtain⟨xs,hl,hxr⟩:=aD hx0
    have hl2:=hlk i _ hl
    obtain⟨xs',x',ad,l,cap,s,n,hl',hx',hn,hk,hv⟩:=hx
    rw[hl2]at hl'
    cases hl'
    rw[hxr]at hx'
    cases hx'
    obtain⟨sl,hsl,hh⟩:=dP hh
    obtain⟨el,hel,hfit,hh⟩:=hh
    obtain⟨hnd,S',hrep,_⟩:=hs.at hl2 hxr hn hsl
    obtain⟨o,s',ys,rfl,hye⟩:=sv hel
    simp only[TV.nd,FR,Prod.mk.injEq]at hnd
    obtain⟨rfl,rfl⟩:=hnd
    split at hh
    ·rename_i v hof
     cases hh
     have hzl:=ht.zlen
     have hcell:∀m z,d.zero[m]? = some z->∃c u' S2,el[j+m]? = some c/\(aF z=true->c.isSl=true)/\(aF z=false->c.isSc=true)/\w.cell? (ad.add (k*s+(j+m)))=some u'/\u'.oneCell'=true/\aq w g.I c u' S2:=fun m z hz=>by
      obtain⟨c,h1,h2,h3⟩:=gL hfit m z hz
      obtain⟨a',cap',u',S2,e1,e2,e3,e4,e5,e6,e7⟩:=hrep.child hye h1
      cases e1
      exact⟨c,u',S2,h1,h2,h3,e2,e3,e4⟩
     have hval:∀m,m<d.zero.length->∃u,w.cell? (ad.add (k*s+(j+m)))=some u:=fun m hm=>by
      obtain⟨c,u',S2,_,_,_,h,_⟩:=hcell m _ (FQ hm)
      exact⟨u',h⟩
     refine pU hs ht (cs:=gD i r p k el d.zero j) (vs:=(List.range d.zero.length).map fun m=>(w.cell? (ad.add (k*s+(j+m)))).getD undef) hv ⟨by simp[ej],fun m c u hc hu=>?_⟩ ?_ (fun m u hu=>?_) hof ha
     ·have hm:m<d.zero.length:=by have:=(FP.1 hc).1;rw[ej]at this;exact this
      rw[FW,List.getElem?_range hm]at hu
      simp only[F6,FR]at hu
      obtain⟨c',u',S2,h1,h2,h3,h4,h5,h6⟩:=hcell m _ (FQ hm)
      rw[h4,Option.getD_some]at hu
      subst hu
      rw[lL,FQ hm]at hc
      simp only[F6,FR]at hc
      refine⟨?_,h5⟩
      cases hz:aF d.zero[m]with
      | true =>
       simp only[hz,cond_true]at hc
       subst hc
       obtain⟨a1,n1,c1,hsl1⟩:=iJ h6 (h2 hz)
       exact⟨xs,x0,c'.nd,hl2,hxr,Node.append hn hsl ⟨o,s,ys,ad,_,_,el,c',u',rfl,rfl,hye,h1,h4,rfl,rfl⟩,⟨a1,n1,c1,hsl1⟩⟩
      | false =>
       simp only[hz,cond_false]at hc
       subst hc
       obtain⟨e1,e2⟩:=gu h6 (h3 hz)
       rw[b7 h1,e1]
       exact⟨.lit _,h5⟩
     ·rw[ej,hzl]
      cases hka:d.kd.isAgg with
      | true=>rfl
      | false=>simpa using ht.one hka
     ·have hm:m<d.zero.length:=by have:=(FP.1 hu).1;simpa using this
      rw[FW,List.getElem?_range hm]at hu
      simp only[F6,FR]at hu
      obtain⟨u',hu'⟩:=hval m hm
      rw[hu',Option.getD_some]at hu
      subst hu
      rw[fd,Nat.add_assoc]
      exact hu'
    ·exact hh.elim
   ·exact hh.elim
  ·exact hh.elim
theorem jy (hE:∀t d,E.T t=some d->ba P t d) {t:TypeId} {d:TyD} (ht:ba P t d) (hk:d.kd=.struct) {f off n:Nat} {agg:Bool} (h:places E.T d f=some (off,agg,n)) :
  ∃fs fl e,P.underlying t=some (.struct fs)/\fs[f]? = some fl/\fl.offset=off/\ba P fl.type e/\e.size=n/\e.kd.isAgg=agg:=by
 obtain⟨fs,hu,hf⟩:=vj ht hk
 simp only[places,hk]at h
 rw[hf]at h
 cases hg:fs[f]? with
 | none=>simp[hg]at h
 | some fl =>
  simp only[FW,FU,hg,F6]at h
  cases hT:E.T fl.type with
  | none=>simp[hT]at h
  | some e =>
   simp only[hT,FR,Prod.mk.injEq]at h
   obtain⟨h1,h2,h3⟩:=h
   exact⟨fs,fl,e,hu,hg,h1,hE _ _ hT,h3,h2⟩
theorem uD (hE : ∀ t d, E.T t = some d → ba P t d) (hs : al w0 I0 NoR g st a ov w) {t : TypeId} {f : Nat} {x : Operand} {e : Eff} (hh : (opL E id look (.fieldAddr t x f) [st.ev x]).hits C e) (ha : e.app st dst = some st') :
    qy P w0 I0 ov ⟨dst,.fieldAddr t x f,type,pos,after,guard⟩ st' a w:=by
  simp only[opL]at hh
  have hx:=hs.ev x
  split at hh
  · rename_i d c hT hxc
    rw[hxc]at hx
    have ht:=hE t d hT
    split at hh
    · rename_i off agg n hk hp
      obtain⟨fs,fl,ed,hu,hg,ho,hte,hsz,_⟩:=jy hE ht hk hp
      cases hn:Nat.blt 0 n with
      | false=>simp[hn,Prg.hits]at hh
      | true =>
        simp only[hn,cond_true]at hh
        have hn' : n ≠ 0 := by have : 0 < n := by simpa using hn
                               omega
        split at hh
        · rename_i c' hadd
          cases hh
          have hfp:∀ad,(fieldPlace ad fl).run P w=.ok (ad.add off) w:=fun ad=>by
            simp[fieldPlace,cB hte,hsz,hn',ho]
          have fin:∀ad,a.eval x=.pointer (some ad)->bW w g st.look c' (.pointer (some (ad.add off)))->qy P w0 I0 ov ⟨dst,.fieldAddr t x f,type,pos,after,guard⟩ st' a w:=fun ad hv hr =>
            lm hs (v:=.one c') (u:=.pointer (some (ad.add off))) (by simp[execOp,Instr.fieldAt,aT hu,hg,hv,Instr.sureAddr,hfp]) hr ha
          cases c with
          | ptr i o =>
            simp only[CA.add,FR]at hadd
            subst hadd
            obtain⟨cs,hl,hv⟩:=hx
            exact fin _ hv ⟨cs,hl,by rw[gH]⟩
          | ref y o =>
            simp only[CA.add,FR]at hadd
            subst hadd
            obtain⟨ad,cell,hv,r⟩:=hx
            exact fin _ hv ⟨ad,cell,by rw[fd],r⟩
          | tptr i r p k o =>
            simp only[CA.add,FR]at hadd
            subst hadd
            obtain⟨xs,x',ad,l,cap,s,n,hl,hx',hnn,hk',hv⟩:=hx
            exact fin _ hv ⟨xs,x',ad,l,cap,s,n,hl,hx',hnn,hk',by rw[fd,Nat.add_assoc]⟩
          | _=>simp[CA.add]at hadd
        · exact hh.elim
    · exact hh.elim
  · exact hh.elim
theorem vO (hE:∀t d,E.T t=some d->ba P t d) (hs:al w0 I0 NoR g st a ov w) {t:TypeId} {f:Nat} {x:Operand} {e:Eff} (hh:(opL E id look (.fieldAddr t x f) [st.ev x]).hits C e) (ha:e.app st dst=some st') :
  Good P w0 I0 ov ⟨dst,.fieldAddr t x f,type,pos,after,guard⟩ st' a w Q:=by
 obtain⟨u,h1,h2⟩:=uD hE hs hh ha
 exact gI h1 h2
theorem Ee (hE : ∀ t d, E.T t = some d → ba P t d) (hs : al w0 I0 NoR g st a ov w) {t : TypeId} {f : Nat} {x : Operand} {e : Eff} (hh : (opL E id look (.field t x f) [st.ev x]).hits C e) (ha : e.app st dst = some st') :
  Good P w0 I0 ov ⟨dst,.field t x f,type,pos,after,guard⟩ st' a w Q:=by
 simp only[opL]at hh
 have hx:=hs.ev x
 cases hT:E.T t with
 | none=>simp[hT,Prg.hits]at hh
 | some d =>
  simp only[hT]at hh
  have ht:=hE t d hT
  split at hh
  ·rename_i off agg n hk hp
   obtain⟨fs,fl,ed,hu,hg,ho,hte,hsz,hagg⟩:=jy hE ht hk hp
   have fin:∀(vs:Array Value) (cs1:List CA) (v:AV),a.eval x=.agg vs->CR w g st.look cs1 ((vs.toList.drop off).take cs1.length)->cs1.length=(bif agg then n else 1)->dh agg cs1=some v->(Eff.val v).app st dst=some st' ->
     Good P w0 I0 ov ⟨dst,.field t x f,type,pos,after,guard⟩ st' a w Q:=by
    intro vs cs1 v hv hcr hl hof ha
    cases agg with
    | true =>
     simp only[cond_true]at hl
     refine aR hs (u:=.agg (vs.extract off (off+n))) (by simp[execOp,Instr.field,aT hu,hg,hv,asAgg,part,iI hte,hagg,cB hte,hsz,ho]) (bV hof ⟨_,rfl,?_⟩) ha
     rw[hl]at hcr
     have:(vs.extract off (off+n)).toList=(vs.toList.drop off).take n:=by simp[List.extract_eq_take_drop]
     rw[this]
     exact hcr
    | false =>
     simp only[cond_false]at hl
     match cs1,hl,hcr,hof with
     | [c],_,hcr,hof =>
      have h0:((vs.toList.drop off).take 1).length=1:=hcr.1
      have hlt:off<vs.size:=by simp at h0;omega
      have hu1:((vs.toList.drop off).take 1)[0]? = some vs[off]:=by simp[hlt]
      have h3:=hcr.2 0 c _ rfl hu1
      exact aR hs (u:=vs[off]) (by simp[execOp,Instr.field,aT hu,hg,hv,asAgg,part,iI hte,hagg,ho,hlt]) (bV hof ⟨c,rfl,h3.1,h3.2⟩) ha
   unfold vY at hh
   split at hh
   ·rename_i cs hxc
    rw[hxc]at hx
    obtain⟨vs,hv,hcr⟩:=hx
    split at hh
    ·rename_i cs1 htk
     obtain⟨k1,k2,k3⟩:=fg _ _ _ _ htk
     split at hh
     ·rename_i v hof
      cases hh
      refine fin vs cs1 v hv ⟨?_,fun j c u hc hu'=>?_⟩ k1 hof ha
      ·have:=hcr.1
       rcases k2 with k2|k2
       ·have:cs1=[]:=List.eq_nil_of_length_eq_zero (by omega)
        subst this;simp
       ·simp only[List.length_take,List.length_drop];omega
      ·have hj:j<cs1.length:=(FP.1 hc).1
       rw[List.getElem?_take_of_lt hj,List.getElem?_drop]at hu'
       rw[k3 j (by omega)]at hc
       exact hcr.2 _ c u hc hu'
     ·exact hh.elim
    ·exact hh.elim
   ·rename_i y hxy
    rw[hxy]at hx
    obtain⟨hc,hh⟩:=hh
    cases hh
    simp only[FS]at hc
    obtain⟨⟨hc1,hc2⟩,hc3⟩:=hc
    have hc2:off+n<=d.size:=by simpa using hc2
    have hc3:0<n:=by simpa using hc3
    generalize hv:a.eval x=u at hx
    have hx:Rep w g.I y u:=hx
    cases hx with
    | lit v=>simp[TV.isAgg]at hc1
    | hole v=>simp[TV.isAgg]at hc1
    | buf e h=>simp[TV.isAgg]at hc1
    | sl=>simp[TV.isAgg]at hc1
    | tup=>simp[TV.isAgg]at hc1
    | @agg cs vs hl h1 hr =>
     have hn:cs.length=d.size:=by simpa[TV.isAgg]using hc1
     have hm:(bif agg then n else 1)<=n:=by cases agg<;>simp<;>omega
     refine fin vs ((List.range (bif agg then n else 1)).map fun j=>.t (TV.cell (.agg cs) (off+j))) _ hv ⟨by simp;omega,fun j c u hc hu'=>?_⟩ (by simp) (by
      cases agg with
      | true=>cases hq:(List.range n).map (fun j=>CA.t (TV.cell (.agg cs) (off+j)))<;>simp[dh,hq]
      | false=>simp[dh]) ha
     have hj:j<(bif agg then n else 1):=by have:=(FP.1 hc).1;simpa using this
     rw[FW,List.getElem?_range hj]at hc
     simp only[F6,FR]at hc
     subst hc
     rw[List.length_map,List.length_range,List.getElem?_take_of_lt hj,List.getElem?_drop,FU]at hu'
     have hj2:off+j<cs.length:=by omega
     have hg2:vs.getD (off+j) undef=u:=by rw[F8,hu'];rfl
     have hcell:TV.cell (.agg cs) (off+j)=cs[off+j]:=by simp only[TV.cell];exact b7 (FQ hj2)
     rw[hcell,<-hg2]
     exact⟨⟨hr _ _ (FQ hj2),h1 _ (by omega)⟩,h1 _ (by omega)⟩
   ·exact hh.elim
  ·exact hh.elim
theorem uZ:∀(l:List Value) (k off:Nat) (cells:Array Value),((l.zipIdx k).foldl (fun cs (p:Value × Nat)=>cs.setIfInBounds (off+p.2) p.1) cells).toList=bH cells.toList (off+k) l
 | [],k,off,cells=>rfl
 | c::l,k,off,cells=>by
  simp only[List.zipIdx_cons,List.foldl_cons,bH,ah]
  rw[uZ l (k+1) off]
  simp[Nat.add_assoc]
theorem fR {S:Type} {at_:Nat->Option (Nat × Bool × Nat)} {place:Nat->Option (Nat × Nat)} (hp:∀i off agg n,at_ i=some (off,agg,n)->place i=some (off,n)) (hs:al w0 I0 R g st a ov w) {k:List CA->Prg S} {e:S} :
  ∀(parts:List (Nat × Operand)) (cs:List CA) (cells:Array Value),CR w g st.look cs cells.toList->(cp at_ (parts.map (·.1)) (parts.map fun p=>st.ev p.2) cs k).hits C e ->
   ∃cs' cells',(k cs').hits C e/\Instr.fill place cells (parts.map fun p=>(p.1,a.eval p.2))=some cells'/\CR w g st.look cs' cells'.toList
 | [],cs,cells,hcr,h=>⟨cs,cells,h,rfl,hcr⟩
 | (i, x) :: parts, cs, cells, hcr, h => by
  simp only[List.map_cons,cp]at h
  cases hi:at_ i with
  | none=>simp[hi,Prg.hits]at h
  | some q =>
   obtain⟨off,agg,n⟩:=q
   simp only[hi]at h
   obtain⟨ps,h,hps,_⟩:=eF (hs.ev x) h
   cases hc:(off+ps.length).ble cs.length&&ps.length.beq n with
   | false=>simp[hc,Prg.hits]at h
   | true =>
    simp only[hc,cond_true]at h
    simp only[FS]at hc
    have hc1:off+ps.length<=cs.length:=by simpa using hc.1
    have hc2:ps.length=n:=by simpa using hc.2
    have hsz:(a.eval x).cells.size=n:=by have:=hps.1;simp at this;omega
    have hcl:cells.size=cs.length:=by simpa using hcr.1
    have hfold:((a.eval x).cells.zipIdx.foldl (fun cs (p:Value × Nat)=>cs.setIfInBounds (off+p.2) p.1) cells).toList=bH cells.toList off (a.eval x).cells.toList:=by
     rw[<-Array.foldl_toList,Array.toList_zipIdx,uZ]
     simp
    have hcr':CR w g st.look (bH cs off ps) ((a.eval x).cells.zipIdx.foldl (fun cs (p:Value × Nat)=>cs.setIfInBounds (off+p.2) p.1) cells).toList:=by
     rw[hfold,fK (a.eval x).cells.toList cells.toList off (by have:=hps.1;have:=hcr.1;omega),fK ps cs off hc1]
     exact hcr.spl hps off
    obtain⟨cs',cells',h1,h2,h3⟩:=fR hp hs parts _ _ hcr' h
    refine⟨cs',cells',h1,?_,h3⟩
    simp only[List.map_cons,Instr.fill,hp i off agg n hi]
    have:¬((a.eval x).cells.size≠n||off+(a.eval x).cells.size > cells.size)=true:=by simp[hsz];omega
    rw[if_neg this]
    exact h2
theorem qL (fs:Array Field) (hf:∀f∈fs.toList,(P.info? f.type).isSome=true) :
  (fs.mapM fun f=>(do pure (f.offset,<-sizeOf f.type):Sem (Nat × Nat))).run P w=.ok (fs.map fun f=>(f.offset,P.cellsOf f.type)) w:=by
 have key:∀l:List Field,(∀f∈l,(P.info? f.type).isSome=true)->(l.mapM fun f=>(do pure (f.offset,<-sizeOf f.type):Sem (Nat × Nat))).run P w=.ok (l.map fun f=>(f.offset,P.cellsOf f.type)) w:=by
  intro l
  induction l with
  | nil=>intro _;simp
  | cons f l ih =>
   intro h
   obtain⟨i,hi⟩:=Option.isSome_iff_exists.1 (h f (by simp))
   have:=ih (fun g hg=>h g (by simp[hg]))
   simp only[List.mapM_cons]
   simp[sizeOf,typeInfo,hi,Program.cellsOf]at this ⊢
   rw[this]
   rfl
 rw[Array.mapM_eq_mapM_toList,<-bind_pure_comp,Sem.run_bind,key fs.toList hf]
 simp
 apply Array.ext'
 simp
theorem xn {S:Type} {n:Nat} {x:AV} {k:List CA->Prg S} {e:S} {v:Value} (hx:bX w g look x v) (h:(x.bd false n k).hits C e) :
  ∃c,(k [c]).hits C e/\bW w g look c v/\v.oneCell'=true:=by
 cases x with
 | one c =>
  simp only[AV.bd]at h
  cases hk:c.kept with
  | false=>simp[hk,Prg.hits]at h
  | true =>
   simp only[hk,cond_true]at h
   exact⟨c,h,hx,sF hx hk⟩
 | tv x =>
  obtain⟨h1,h⟩:=h
  have h1':v.oneCell'=true:=by
   cases hx with
   | lit v=>exact h1
   | hole v=>simp[TV.eS]at h1
   | buf e h=>simp[TV.eS]at h1
   | sl=>rfl
   | agg=>simp[TV.eS]at h1
   | tup=>simp[TV.eS]at h1
  exact⟨.t x,h,⟨hx,h1'⟩,h1'⟩
 | bl b =>
  have:v=.bool b:=hx
  subst this
  exact⟨.t (.lit (.bool b)),h,⟨.lit _,rfl⟩,rfl⟩
 | agg cs=>exact h.elim
 | tups l=>exact h.elim
 | clo f l =>
  obtain⟨i,h1,h2,h3⟩:=Al hx h
  exact⟨_,h1,h2,h3⟩
theorem p7 {S:Type}:∀{xs:List AV} {vs:List Value} {k:List CA->Prg S} {e:S},xs.length=vs.length->(∀(j:Nat) (x:AV) (v:Value),xs[j]? = some x->vs[j]? = some v->bX w g look x v)->(kx xs k).hits C e ->
  ∃cs,(k cs).hits C e/\CR w g look cs vs
 | [],[],k,e,_,_,h=>⟨[],h,rfl,fun j c u hc=>by simp at hc⟩
 | [],_::_,_,_,hl,_,_=>by simp at hl
 | _::_,[],_,_,hl,_,_=>by simp at hl
 | x::xs,v::vs,k,e,hl,hr,h=>by
  obtain⟨c,h,h1,h2⟩:=xn (hr 0 x v rfl rfl) h
  obtain⟨cs,h,h3⟩:=p7 (by simpa using hl) (fun j x' v' hx hv=>hr (j+1) x' v' hx hv) h
  refine⟨c::cs,h,by simp[h3.1],fun j c' u hc hu=>?_⟩
  cases j with
  | zero=>simp at hc hu;subst hc hu;exact⟨h1,h2⟩
  | succ j=>exact h3.2 j c' u (by simpa using hc) (by simpa using hu)
theorem xH (hs:al w0 I0 NoR g st a ov w) {fn:Fn} {first cap:Array Operand} {e:Eff}
  (hh:(opL E id look (.makeFunc fn first cap) ((Op.makeFunc fn first cap).operands.toList.map st.ev)).hits C e) (ha:e.app st dst=some st'):Good P w0 I0 ov ⟨dst,.makeFunc fn first cap,type,pos,after,guard⟩ st' a w Q:=by
 cases fn with
 | func f =>
  simp only[opL]at hh
  cases hb:first.size.beq 0 with
  | false=>simp[hb,Prg.hits]at hh
  | true =>
   simp only[hb,cond_true]at hh
   have hf:first=#[]:=Array.eq_empty_of_size_eq_zero ((az _ _).1 hb)
   subst hf
   have hops:(Op.makeFunc (.func f) #[] cap).operands.toList.map st.ev=cap.toList.map st.ev:=by simp[Op.operands]
   rw[hops]at hh
   obtain⟨cs,hh,hc⟩:=p7 (vs:=cap.toList.map a.eval) (by simp) (fun j x v hx hv=>by
    rw[FW]at hx hv
    cases hj:cap.toList[j]? with
    | none=>simp[hj]at hx
    | some o =>
     simp only[hj,F6,FR]at hx hv
     subst hx hv
     exact hs.ev o) hh
   cases hh
   exact aR hs (v:=.clo f cs) (u:=.func (.func f) #[] (cap.map a.eval)) (by simp[execOp,Instr.makeFunc]) ⟨cap.map a.eval,rfl,by simpa using hc⟩ ha
 | _=>simp[opL,Prg.hits]at hh
theorem DG (hE:∀t d,E.T t=some d->ba P t d) (hs:al w0 I0 NoR g st a ov w) {t:TypeId} {parts:Array (Nat × Operand)} {e:Eff}
  (hh:(opL E id look (.build t parts) ((Op.build t parts).operands.toList.map st.ev)).hits C e) (ha:e.app st dst=some st'):Good P w0 I0 ov ⟨dst,.build t parts,type,pos,after,guard⟩ st' a w Q:=by
 simp only[opL]at hh
 cases hT:E.T t with
 | none=>simp[hT,Prg.hits]at hh
 | some d =>
  simp only[hT]at hh
  have ht:=hE _ _ hT
  cases hk:lQ E.T d.kd with
  | false=>simp[hk,Prg.hits]at hh
  | true =>
   simp only[hk,cond_true]at hh
   have hops:(Op.build t parts).operands.toList.map st.ev=parts.toList.map fun p=>st.ev p.2:=by simp[Op.operands]
   rw[hops]at hh
   obtain⟨z,hz,hzc⟩:=rz (w:=w) ht
   have hcr0:CR w g st.look (d.zero.map fun v=>.t (.lit v)) z.cells.toList:=by rw[hzc];exact CR.lits ht.zone
   have fin:∀{cs':List CA} {cells':Array Value},(Prg.ret (Eff.val (.agg cs'))).hits C e->CR w g st.look cs' cells'.toList->(execOp a.eval ⟨dst,.build t parts,type,pos,after,guard⟩).run P w=.ok (.value (.agg cells')) w->Good P w0 I0 ov ⟨dst,.build t parts,type,pos,after,guard⟩ st' a w Q:=by
    intro cs' cells' h1 h2 h3
    cases h1
    exact aR hs (v:=.agg cs') h3 ⟨cells',rfl,h2⟩ ha
   cases hkd:d.kd with
   | struct =>
    obtain⟨fs,hu,hf⟩:=vj ht hkd
    have hflds:∀f∈fs.toList,(P.info? f.type).isSome=true:=fun f hf'=>ht.flds (f.offset,f.type) (by rw[hf];exact List.mem_map.2 ⟨f,hf',rfl⟩)
    obtain⟨cs',cells',h1,h2,h3⟩:=fR (place:=((fs.map fun f=>(f.offset,P.cellsOf f.type))[·]?)) (fun i off agg n hi=>by
     obtain⟨fs',fl,ed,hu',hg,ho,hte,hsz,_⟩:=jy hE ht hkd hi
     rw[hu]at hu'
     cases hu'
     obtain⟨i0,z0,hi0,hs0,_⟩:=hte.info
     simp[hg,ho,Program.cellsOf,hi0,hs0,hsz]) hs parts.toList _ z.cells hcr0 hh
    refine fin h1 h3 ?_
    have hpl:(parts.map fun(p:Nat × Operand)=>(p.1,a.eval p.2)).toList=parts.toList.map fun p=>(p.1,a.eval p.2):=by simp
    simp only[execOp,Instr.build,Sem.run_bind,hz,aT hu,Result.andThen_ok,qL fs hflds,hpl,h2,Sem.run_pure]
   | arr n0 e0 =>
    have hu:=so ht hkd
    cases hTe:E.T e0 with
    | none=>simp[hkd,lQ,hTe]at hk
    | some ed =>
     have hte:=hE _ _ hTe
     obtain⟨cs',cells',h1,h2,h3⟩:=fR (place:=fun i=>some (i*ed.size,ed.size)) (fun i off agg n hi=>by
      simp only[places,hkd,hTe,FR,Prod.mk.injEq]at hi
      obtain⟨rfl,_,rfl⟩:=hi
      rfl) hs parts.toList _ z.cells hcr0 hh
     refine fin h1 h3 ?_
     simp[execOp,Instr.build,hz,aT hu,cB hte,h2]
   | _=>simp[hkd,lQ]at hk
theorem jl {k:IntKind}:∀{xs:List TV} {l:List Int},mZ k xs=some l->xs=l.map fun n=>TV.lit (.int k n)
 | [],l,h=>by simp only[mZ,FR]at h;subst h;rfl
 | x :: xs, l, h => by
  unfold mZ at h
  split at h
  ·rename_i heq;cases heq
  ·rename_i k' n rest heq
   simp only[List.cons.injEq]at heq
   obtain⟨rfl,rfl⟩:=heq
   split at h
   ·rename_i hk
    subst hk
    split at h
    ·rename_i r hr
     simp only[FR]at h
     subst h
     rw[jl hr]
     rfl
    ·cases h
   ·cases h
  ·cases h
theorem rZ {cs:List CA} {xs:List TV} {k:IntKind} {l:List Int} {vs:List Value} (hcr:CR w g look cs vs) (hp:fS cs=some xs) (hi:mZ k xs=some l):vs=l.map (Value.int k):=by
 have h1:=eN hp
 have h2:=jl hi
 have hlen:vs.length=l.length:=by rw[hcr.1,h1,h2];simp
 apply List.ext_getElem?
 intro j
 by_cases hj:j<l.length
 ·have hc:cs[j]? = some (.t (.lit (.int k l[j]))):=by rw[h1,h2];simp[hj]
  have hv:vs[j]? = some (vs[j]'(by omega)):=FQ _
  have:=bM (hcr.2 j _ _ hc hv).1.1
  rw[hv,this]
  simp[hj]
 ·rw[F5 (by omega),F5 (by simp;omega)]
theorem jF {e:TypeId} {k:IntKind} {de:TyD} (hte:ba P e de) (hke:de.kd=.int k) (d:Nat) (a b:List Int):∀(m s:Nat),s+m<=a.length->s+m<=b.length ->
  (Op.eqItems (d+1) e 1 (a.map (Value.int k)).toArray (b.map (Value.int k)).toArray (List.range' s m)).run P w=.ok ((a.drop s).take m==(b.drop s).take m) w
 | 0,s,_,_=>by simp[Op.eqItems]
 | m + 1, s, ha, hb => by
  have hsa:s<a.length:=by omega
  have hsb:s<b.length:=by omega
  have hpart:∀l:List Int,(hl:s<l.length)->(part e (l.map (Value.int k)).toArray (s*1)).run P w=.ok (.int k l[s]) w:=fun l hl=>by
   have hagg:de.kd.isAgg=false:=by rw[hke];rfl
   simp[part,iI hte,hagg,hl]
  have hu:=yT hte hke
  rw[List.range'_succ]
  simp only[Op.eqItems,Sem.run_bind,hpart a hsa,hpart b hsb,Result.andThen_ok]
  have heq:(Op.equalIn (d+1) e (.int k a[s]) (.int k b[s])).run P w=.ok (a[s]==b[s]) w:=by
   simp only[Op.equalIn];simp[aT hu]
  rw[heq]
  simp only[Result.andThen_ok]
  rw[List.drop_eq_getElem_cons hsa,List.drop_eq_getElem_cons hsb,List.take_succ_cons,List.take_succ_cons]
  cases hab:a[s]==b[s]with
  | false =>
   simp only[Bool.not_false,if_true,Sem.run_pure]
   congr 1
   simp only[beq_eq_false_iff_ne,ne_eq]at hab
   symm
   simp[hab]
  | true =>
   simp only[Bool.not_true,Bool.false_eq_true,if_false]
   have:=jF hte hke d a b m (s+1) (by omega) (by omega)
   rw[this]
   congr 1
   simp only[beq_iff_eq]at hab
   rw[hab]
   simp
theorem yK {len:Nat} {t e:TypeId} {d de:TyD} {k:IntKind} {op:BinOp} (ht:ba P t d) (hk:d.kd=.arr len e) (hte:ba P e de) (hke:de.kd=.int k) (hse:de.size=1) {xs ys:List TV} {r:TV} {cs cs':List CA} {u v:Array Value}
  (h:peqL k op xs ys=some r) (hp:fS cs=some xs) (hp':fS cs'=some ys) (hl:cs.length=len) (hl':cs'.length=len) (hc:CR w g look cs u.toList) (hc':CR w g look cs' v.toList) (ox oy:Operand) :
  ∃z,r=.lit z/\z.oneCell'=true/\(eqGuard op t ox oy (.agg u) (.agg v)).run P w=.ok () w/\(binOp op t (.agg u) (.agg v)).run P w=.ok z w:=by
 unfold peqL at h
 split at h
 ·rename_i a b ha hb
  have hu:=rZ hc hp ha
  have hv:=rZ hc' hp' hb
  have hxa:xs.length=len:=by have:=congrArg List.length (eN hp);simp at this;omega
  have hyb:ys.length=len:=by have:=congrArg List.length (eN hp');simp at this;omega
  have hal:a.length=len:=by have:=congrArg List.length (jl ha);simp at this;omega
  have hbl:b.length=len:=by have:=congrArg List.length (jl hb);simp at this;omega
  obtain⟨i,z,hi,hsz,_⟩:=hte.info
  have hcell:P.cellsOf e=1:=by simp[Program.cellsOf,hi,hsz,hse]
  have hua:=so ht hk
  have hue:=yT hte hke
  have huA:u=(a.map (Value.int k)).toArray:=by rw[<-hu]
  have hvA:v=(b.map (Value.int k)).toArray:=by rw[<-hv]
  have heq:(Op.equalIn 10000 t (.agg u) (.agg v)).run P w=.ok (a==b) w:=by
   rw[show(10000:Nat)=9999+1 from rfl,run_equalIn_array w 9999 u v hua hi,hcell,huA,hvA,List.range_eq_range']
   have:=jF (w:=w) hte hke 9998 a b len 0 (by omega) (by omega)
   rw[this]
   simp only[List.drop_zero]
   rw[List.take_of_length_le (by omega),List.take_of_length_le (by omega)]
  have hg:P.eqGuardType P.depth t=false:=by
   have hd:P.depth=(2*(P.types.size+Made.depth))+1+1:=rfl
   rw[hd]
   simp[Program.eqGuardType,hua,hue]
  unfold yS at h
  cases op<;>simp only[FR,reduceCtorEq]at h
  ·subst h
   exact⟨_,rfl,rfl,run_eqGuard_agg w _ t ox oy u v hg,by rw[run_eql_struct,heq];rfl⟩
  ·subst h
   exact⟨_,rfl,rfl,run_eqGuard_agg w _ t ox oy u v hg,by rw[run_neq_struct,heq];rfl⟩
 ·cases h
theorem op_bin (hE:∀t d,E.T t=some d->ba P t d) (hlk:∀i b,look i=some b->st.look i=some b) (hs:al w0 I0 NoR g st a ov w) {op:BinOp} {xt yt:TypeId} {x y:Operand} {e:Eff}
  (hh:(opL E id look (.binOp op xt x y yt) [st.ev x,st.ev y]).hits C e) (ha:e.app st dst=some st'):Good P w0 I0 ov ⟨dst,.binOp op xt x y yt,type,pos,after,guard⟩ st' a w Q:=by
 simp only[opL]at hh
 cases hT:E.T xt with
 | none=>simp[hT,Prg.hits]at hh
 | some d =>
  simp only[hT]at hh
  have ht:=hE xt d hT
  have hx:=hs.ev x
  have hy:=hs.ev y
  unfold EH at hh
  split at hh
  ·rename_i len et hka
   split at hh
   ·rename_i by_ k z_ f_ hTe
    have hte:=hE _ _ hTe
    have hr2:∀{v:AV} {u:Value} {kk:List CA->Out} {ee:Eff},bX w g st.look v u->(v.bd true len kk).hits C ee->∃us,u=.agg us:=fun{v u kk ee} h1 h2=>by
     cases v with
     | agg cs=>obtain⟨us,rfl,_⟩:=h1;exact⟨us,rfl⟩
     | tv x =>
      simp only[AV.bd]at h2
      obtain⟨hx2,_⟩:=h2
      cases x<;>simp[TV.isAgg]at hx2
      cases h1 with
      | agg=>exact⟨_,rfl⟩
     | one c=>exact h2.elim
     | tups cs=>exact h2.elim
     | clo _ cs=>exact h2.elim
     | bl b=>exact h2.elim
    have hh0:=hh
    obtain⟨cs,hh,hc,hcl,_⟩:=eF hx hh
    have hh1:=hh
    obtain⟨cs',hh,hc',hcl',_⟩:=eF hy hh
    split at hh
    ·rename_i xs ys hp hp'
     obtain⟨r,hr,hh⟩:=hh
     obtain⟨u,hu⟩:=hr2 hx hh0
     obtain⟨v,hv⟩:=hr2 hy hh1
     rw[hu]at hc
     rw[hv]at hc'
     obtain⟨z,rfl,h1,hg,hrun⟩:=yK (u:=u) (v:=v) ht hka hte rfl rfl hr hp hp' (hcl rfl) (hcl' rfl) hc hc' x y
     exact cO hs (u:=z) (by
      simp only[execOp,hu,hv,Sem.run_bind]
      rw[hg]
      simp only[Result.andThen_ok]
      rw[hrun]
      simp) (.lit _) h1 hh ha
    ·exact hh.elim
   ·exact hh.elim
  ·rename_i hka
   obtain⟨desc,hu,hd,_⟩:=ht.und
   rw[hka]at hd
   have hu2:P.underlying xt=some (.pointer (P.pointee xt)):=by
    cases desc<;>simp[o5]at hd
    simp only[Program.pointee,hu]
   have far:∀{v:AV} {u:Value} {b:Bool},bX w g st.look v u->uh v=some b->∃p:Option Addr,u=.pointer p/\p.isSome=b:=by
    intro v u b hv hb
    unfold uh at hb
    split at hb<;>simp only[FR,reduceCtorEq]at hb<;>subst hb
    ·obtain⟨_,_,rfl⟩:=hv;exact⟨_,rfl,rfl⟩
    ·obtain⟨_,_,rfl,_⟩:=hv;exact⟨_,rfl,rfl⟩
    ·obtain⟨_,_,_,_,_,_,_,_,_,_,_,rfl⟩:=hv;exact⟨_,rfl,rfl⟩
    ·obtain⟨_,_,_,rfl⟩:=hv;exact⟨_,rfl,rfl⟩
    ·have:=bM hv.1;subst this;exact⟨_,rfl,rfl⟩
    ·have:=bM hv;subst this;exact⟨_,rfl,rfl⟩
   have hg:∀(p q:Option Addr),(eqGuard op xt x y (.pointer p) (.pointer q)).run P w=.ok () w:=fun p q=>by
    simp only[eqGuard]
    split<;>simp
   unfold E9 at hh
   split at hh
   ·rename_i b h1 h2
    obtain⟨p,hp,rfl⟩:=far hx h1
    obtain⟨q,hq,hq2⟩:=far hy h2
    have:q=none:=by cases q<;>simp at hq2<;>rfl
    subst this
    cases hh
    refine aR hs (v:=.bl (!p.isSome)) (u:=.bool p.isNone) (by simp[execOp,hp,hq,hg,run_eql_pointer_nil w xt p hu2]) ?_ ha
    cases p<;>rfl
   ·rename_i b h1 h2
    obtain⟨p,hp,rfl⟩:=far hx h1
    obtain⟨q,hq,hq2⟩:=far hy h2
    have:q=none:=by cases q<;>simp at hq2<;>rfl
    subst this
    cases hh
    refine aR hs (v:=.bl p.isSome) (u:=.bool (!p.isNone)) (by simp[execOp,hp,hq,hg,run_neq_pointer_nil w xt p hu2]) ?_ ha
    cases p<;>rfl
   ·exact hh.elim
  unfold E6 at hh
  have fin:∀(tx ty:TV) (S T:Nat->Prop),aq w g.I tx (a.eval x) S->aq w g.I ty (a.eval y) T->(Prg.tv (pbin d.kd op tx ty) vt).hits C e->Good P w0 I0 ov ⟨dst,.binOp op xt x y yt,type,pos,after,guard⟩ st' a w Q:=by
   intro tx ty S T h1 h2 hh
   obtain⟨r,hr,hh⟩:=hh
   obtain⟨z,rfl,h1,hg,hrun⟩:=yP ht hr h1 h2 x y
   exact cO hs (u:=z) (by simp[execOp,hg,hrun]) (.lit _) h1 hh ha
  cases hk:d.kd.A2 with
  | true =>
   simp only[hk,cond_true]at hh
   obtain⟨tx,S,hh,h1⟩:=pA hlk hs hx hh
   obtain⟨ty,T,hh,h2⟩:=pA hlk hs hy hh
   exact fin tx ty S T h1 h2 hh
  | false =>
   simp only[hk,cond_false]at hh
   split at hh
   ·rename_i tx ty h1 h2
    exact fin tx ty NoR NoR (.fr (cG hx h1)) (.fr (cG hy h2)) hh
   ·exact hh.elim
end
end Go.Ab

import Derived.Test.YtpkpckdealhkhaaAM7
set_option linter.all false
section
namespace Go.Ab
open Go.RowKit
section
variable {P:Program} {E:Env} {C:Cal} {w0:Bs} {w w':World} {I0 I R:Nat->Prop} {g g':Gh} {st st':ASt} {a:Act} {ov:List Value} {look:Look} {Q:Exit->Act->World->Prop} {id:Nat}
variable {dst:Option Tmp} {type:TypeId} {pos:String} {after:Array Edge} {guard:Option (Nat × Bool)}
theorem gQ {T:Tab} {t e:TypeId} {d:TyD} (h:jx T t=some (e,d)):∃dt,T t=some dt/\dt.kd=.slice e/\T e=some d:=by
 unfold jx at h
 split at h
 ·rename_i s b e' z f hT
  split at h
  ·rename_i d' hd
   simp only[FR,Prod.mk.injEq]at h
   obtain⟨rfl,rfl⟩:=h
   exact⟨_,hT,rfl,hd⟩
  ·cases h
 ·cases h
theorem eC {x:TV} {n:Nat} {v:Value} (h:aJ x=some n) (hx:Rep w I x v):n<=9223372036854775807/\∃k,v=.int k (n:Int):=by
 unfold aJ at h
 split at h
 ·rename_i k m
  split at h
  ·rename_i hm
   simp only[FR]at h
   subst h
   have:=bM hx
   subst this
   exact⟨by omega,k,by rw[Int.toNat_of_nonneg hm.1]⟩
  ·cases h
 ·cases h
theorem i5 {x:TV} {n:Nat} {v:Value} {S:Nat->Prop} (h:slLen x=some n) (hr:aq w I x v S):(∃o s xs a cap,x=.sl o s xs/\n=xs.length/\v=.slice (some a) n cap/\n<=cap)\/(x=.lit bc/\n=0/\v=bc):=by
 unfold slLen at h
 split at h
 ·rename_i o s xs
  simp only[FR]at h
  subst h
  left
  cases hr with
  | fr hr =>
   cases hr with
   | sl cell hI hc=>exact⟨_,s,xs,_,_,rfl,rfl,rfl,hc⟩
  | sl us vs ty F hS row=>exact⟨_,s,xs,_,_,rfl,rfl,rfl,row.le⟩
 ·simp only[FR]at h
  subst h
  exact .inr ⟨rfl,rfl,bq hr⟩
 ·cases h
theorem rV (hlk:∀i b,look i=some b->st.look i=some b) {i r:Nat} {p:Way} {S:Type} {k:TV->Prg S} {e:S} (h:(iZ look (.sref i r p) k).hits C e):∃xs x y,st.look i=some (.tree xs)/\xs[r]? = some x/\a8 p x=some y/\(k y).hits C e:=by
 simp only[iZ]at h
 split at h
 ·rename_i x hx
  obtain⟨xs,h1,h2⟩:=aD hx
  obtain⟨y,h3,h4⟩:=dP h
  exact⟨xs,x,y,hlk _ _ h1,h2,h3,h4⟩
 ·exact h.elim
theorem tG {C:Cal} {b k:Nat} {e:Eff}:∀{n:Nat},(AY b k n).hits C e->k<n/\e=.val (.one (.ptr b k))
 | 0,h=>h.elim
 | n + 1, h => by
  obtain⟨v,hv,h⟩:=h
  have hv:k.beq n=v:=Option.some.inj hv
  rcases h with⟨rfl,h⟩|⟨rfl,h⟩
  ·have:k=n:=Nat.eq_of_beq_eq_true hv
   subst this
   have h:Eff.val (.one (.ptr b k))=e:=h
   exact⟨Nat.lt_succ_self _,h.symm⟩
  ·have:=tG h
   exact⟨by omega,this.2⟩
theorem wi (hE : ∀ t d, E.T t = some d → ba P t d) (hlk : ∀ i b, look i = some b → st.look i = some b) (hs : al w0 I0 NoR g st a ov w) {t : TypeId} {x y : Operand} {e : Eff}
  (hh:(opL E id look (.indexAddr t x y) [st.ev x,st.ev y]).hits C e) (ha:e.app st dst=some st'):Good P w0 I0 ov ⟨dst,.indexAddr t x y,type,pos,after,guard⟩ st' a w Q:=by
 simp only[opL]at hh
 split at hh
 ·rename_i et d hel
  obtain⟨dt,hT,hk,hTe⟩:=gQ hel
  have ht:=hE _ _ hT
  have hte:=hE _ _ hTe
  have hu:=dL ht hk
  have run:∀(ad:Addr) (len cap:Nat) (k:IntKind) (n:Nat),a.eval x=.slice (some ad) len cap->a.eval y=.int k (n:Int)->n<len ->
    (execOp a.eval ⟨dst,.indexAddr t x y,type,pos,after,guard⟩).run P w=.ok (.value (.pointer (some (ad.add (n*d.size))))) w:=fun ad len cap k n hx hy hn=>by
   have h1:(0:Int)<=n/\(n:Int)<len:=⟨by omega,by omega⟩
   simp[execOp,Instr.indexAt,hx,hy,asIntOf,aT hu,h1,cB hte]
   omega
  unfold pH at hh
  have hx:=hs.ev x
  have hy:=hs.ev y
  split at hh
  ·rename_i ti hti
   have hyr:=cG hy hti
   split at hh
   ·rename_i tx htx
    have hxr:=cG hx htx
    obtain⟨el,hp,hh⟩:=hh
    cases hh
    unfold pidx at hp
    split at hp
    ·rename_i o s xs k n
     split at hp
     ·rename_i hc
      obtain⟨rfl,hn0⟩:=hc
      have hyv:=bM hyr
      generalize hxv:a.eval x=u at hxr
      cases hxr with
      | @sl _ _ ad cap cell hI hcap hm hl hcell h1 hr =>
       have hlt:=(FP.1 hp).1
       refine aR hs (v:=.one (.ref el 0)) (run ad _ cap k n.toNat hxv (by rw[hyv,Int.toNat_of_nonneg hn0]) hlt) ?_ ha
       refine⟨ad.add (n.toNat*d.size),fun j=>cell (n.toNat*d.size+j),by simp[Addr.add],fun j c hj=>?_⟩
       have hel':el.length=d.size:=hl el (FZ hp)
       have hj':j<d.size:=by have:=(FP.1 hj).1;omega
       have hlt2:n.toNat*d.size+j<xs.length*d.size:=by
        have:(n.toNat+1)*d.size<=xs.length*d.size:=Nat.mul_le_mul_right _ hlt
        rw[Nat.add_mul]at this
        omega
       rw[fd]
       exact⟨.inl ⟨by rw[fG];exact hI (by omega),hcell _ hlt2⟩,h1 _ hlt2,hr n.toNat el hp j c hj⟩
     ·cases hp
    ·cases hp
   ·split at hh
    ·rename_i b r p hxi
     rw[hxi]at hx
     obtain⟨xs,x0,s0,hl,hx0,hg0,hh⟩:=rV hlk hh
     obtain⟨n,hn,k,hk',hc,hh⟩:=hh
     cases hh
     simp only[FS]at hc
     have hc2:k<n:=by simpa using hc.2
     obtain⟨_,kd,hyv⟩:=eC hk' hyr
     obtain⟨xs',x',nd,hl',hx',hnode,hsl⟩:=hx
     rw[hl]at hl'
     cases hl'
     rw[hx0]at hx'
     cases hx'
     obtain⟨hnd,S',hrep,_⟩:=hs.at hl hx0 hnode hg0
     rcases i5 hn hrep with⟨o,s,ys,ad,cap,rfl,rfl,hv,hle⟩|⟨_,h0,_⟩
     ·have hsz:s=d.size:=by simpa[slSize]using hc.1
      subst hsz
      rw[hnd]at hnode
      refine aR hs (v:=.one (.tptr b r p k 0)) (run ad _ cap kd k hv hyv hc2) ⟨xs,x0,ad,_,cap,d.size,ys.length,hl,hx0,by rw[hv]at hnode;exact hnode,hc2,by simp⟩ ha
     ·omega
    ·rename_i b r p lo n hxi
     rw[hxi]at hx
     obtain⟨xs,x0,s0,hl,hx0,hg0,hh⟩:=rV hlk hh
     obtain⟨k,hk',hc,hh⟩:=hh
     cases hh
     simp only[FS]at hc
     have hc2:k<n:=by simpa using hc.2
     obtain⟨_,kd,hyv⟩:=eC hk' hyr
     obtain⟨xs',x',u,nd,hl',hx',hnode,hsl,hwin⟩:=hx
     rw[hl]at hl'
     cases hl'
     rw[hx0]at hx'
     cases hx'
     obtain⟨hnd,S',hrep,_⟩:=hs.at hl hx0 hnode hg0
     subst hnd
     cases hq:s0.nd with
     | none =>
      rw[hq]at hwin
      have:=hwin.2.1
      omega
     | some sn =>
      obtain⟨s,m⟩:=sn
      rw[hq]at hwin hnode
      obtain⟨o,ys,rfl,rfl⟩:=wC hq
      obtain⟨hle,hv⟩:=hwin
      have hsz:s=d.size:=by simpa[slSize]using hc.1
      subst hsz
      rcases i5 (n:=ys.length) rfl hrep with⟨o',s',ys',ad,cap,e1,e2,hu',hcap⟩|⟨h0,_⟩
      ·subst hu'
       simp only[cut]at hv
       have hne:cap≠lo:=by omega
       rw[if_neg hne]at hv
       refine aR hs (v:=.one (.tptr b r p (lo+k) 0)) (run _ _ _ kd k hv hyv hc2) ⟨xs,x0,ad,_,cap,d.size,ys.length,hl,hx0,hnode,by omega,?_⟩ ha
       rw[fd,Nat.add_mul,Nat.add_zero]
      ·cases h0
    ·rename_i b n hxi
     rw[hxi]at hx
     obtain⟨cs,hl,hv⟩:=hx
     cases hsz:d.size.beq 1 with
     | false=>rw[hsz]at hh;exact False.elim hh
     | true =>
      rw[hsz]at hh
      obtain⟨k,hk',hh⟩:=hh
      obtain⟨_,kd,hyv⟩:=eC hk' hyr
      obtain⟨hkn,rfl⟩:=tG hh
      have hs1:d.size=1:=Nat.eq_of_beq_eq_true hsz
      exact aR hs (v:=.one (.ptr b k)) (run _ _ _ kd k hv hyv hkn) ⟨cs,hl,by rw[hs1,Nat.mul_one];simp[Addr.add];omega⟩ ha
    ·exact hh.elim
  ·exact hh.elim
 ·unfold qY at hh
  split at hh
  ·rename_i len e z fl hT
   split at hh
   ·rename_i d b off ti hTe hxi hti
    cases hc:(!d.kd.isAgg&&d.size.beq 1)with
    | false=>rw[hc]at hh;exact hh.elim
    | true =>
     rw[hc]at hh
     simp only[cond_true]at hh
     simp only[FS]at hc
     obtain⟨k,hk,hlt,hh⟩:=hh
     cases hh
     have ht:=hE _ _ hT
     have hte:=hE _ _ hTe
     have hu:=so ht rfl
     have hx:=hs.ev x
     rw[hxi]at hx
     obtain⟨cs,hl,hv⟩:=hx
     have hyr:=cG (hs.ev y) hti
     obtain⟨_,kd,hyv⟩:=eC hk hyr
     have hlt:k<len:=by simpa using hlt
     have hsz:d.size=1:=by simpa using hc.2
     have h1:(0:Int)<=k/\(k:Int)<len:=⟨by omega,by omega⟩
     refine aR hs (v:=.one (.aptr b off len k)) (u:=.pointer (some ⟨g.β b,off+k,none⟩)) ?_ ⟨cs,hl,hlt,rfl⟩ ha
     simp[execOp,Instr.indexAt,hv,hyv,asIntOf,aT hu,h1,cB hte,hsz,Instr.sureAddr,gH]
     omega
   ·exact hh.elim
  ·exact hh.elim
theorem DL (hE:∀t d,E.T t=some d->ba P t d) (hs:al w0 I0 NoR g st a ov w) {t:TypeId} {x y:Operand} {e:Eff}
  (hh:(opL E id look (.index t x y) [st.ev x,st.ev y]).hits C e) (ha:e.app st dst=some st'):Good P w0 I0 ov ⟨dst,.index t x y,type,pos,after,guard⟩ st' a w Q:=by
 simp only[opL]at hh
 split at hh
 ·rename_i s b z f tx ti hT hx hi
  have ht:=hE _ _ hT
  have hxr:=cG (hs.ev x) hx
  have hyr:=cG (hs.ev y) hi
  obtain⟨v,hv,hh⟩:=hh
  unfold pstr at hv
  split at hv
  ·rename_i s k n
   split at hv
   ·rename_i hn
    have hxv:=bM hxr
    have hyv:=bM hyr
    cases hb:s[n.toNat]? with
    | none=>simp[hb]at hv
    | some b =>
     simp only[hb,F6,FR]at hv
     subst hv
     exact cO hs (u:=.int .u8 b.toNat) (by simp[execOp,Instr.index,hxv,hyv,asIntOf,aT (rN ht rfl),hn,hb]) (.lit _) rfl hh ha
   ·cases hv
  ·cases hv
 ·unfold rn at hh
  split at hh
  ·rename_i len e z fl hT
   split at hh
   ·rename_i d cs ti hTe hxi hti
    cases hc:(!d.kd.isAgg&&d.size.beq 1)with
    | false=>rw[hc]at hh;exact hh.elim
    | true =>
     rw[hc]at hh
     simp only[cond_true]at hh
     simp only[FS]at hc
     split at hh
     ·rename_i xs hxs
      obtain⟨k,hk,hlt,v,hv,hh⟩:=hh
      have ht:=hE _ _ hT
      have hte:=hE _ _ hTe
      have hu:=so ht rfl
      have hx:=hs.ev x
      rw[hxi]at hx
      obtain⟨vs,hvs,hcr⟩:=hx
      have hyr:=cG (hs.ev y) hti
      obtain⟨_,kd,hyv⟩:=eC hk hyr
      have hlt:k<len:=by simpa using hlt
      have hsz:d.size=1:=by simpa using hc.2
      have hagg:d.kd.isAgg=false:=by simpa using hc.1
      have h1:(0:Int)<=k/\(k:Int)<len:=⟨by omega,by omega⟩
      have e:=eN hxs
      subst e
      have hv:xs[k]? = some v:=hv
      have hkl:k<vs.size:=by
       have:=(FP.1 hv).1
       have:=hcr.1
       simp at this
       omega
      have hr:=hcr.2 k (.t v) vs[k] (by rw[FW,hv];rfl) (by simp[hkl])
      exact cO hs (u:=vs[k]) (by simp[execOp,Instr.index,hvs,hyv,asIntOf,aT hu,h1,part,iI hte,hagg,cB hte,hsz,hkl];intro h;omega) hr.1.1 hr.2 hh ha
     ·exact hh.elim
   ·exact hh.elim
  ·exact hh.elim
theorem ez {S:Type} {v:Option AV} {k:Option Nat->Prg S} {e:S} {ov:Option Value} (hv:match v,ov with|none,none=>True|some x,some u=>bX w g look x u|_,_=>False) (h:(fU v k).hits C e) :
  ∃n,(k n).hits C e/\((n=none/\ov=none)\/∃m kd,n=some m/\m<=9223372036854775807/\ov=some (.int kd (m:Int))):=by
 unfold fU at h
 split at h
 ·cases ov with
  | none=>exact⟨none,h,.inl ⟨rfl,rfl⟩⟩
  | some u=>exact hv.elim
 ·rename_i x
  split at h
  ·rename_i tx htx
   obtain⟨m,hm,h⟩:=h
   cases ov with
   | none=>exact hv.elim
   | some u =>
    obtain⟨hle,kd,hu⟩:=eC hm (cG hv htx)
    exact⟨some m,h,.inr ⟨m,kd,rfl,hle,by rw[hu]⟩⟩
  ·exact h.elim
theorem mV (isS:Bool) {len cap:Nat} {lo hi:Option Value} {l h:Option Nat} (hlo:(l=none/\lo=none)\/∃m kd,l=some m/\m<=9223372036854775807/\lo=some (.int kd (m:Int)))
  (hhi:(h=none/\hi=none)\/∃m kd,h=some m/\m<=9223372036854775807/\hi=some (.int kd (m:Int))) (h1:l.getD 0<=h.getD len) (h2:h.getD len<=cap) :
  (Instr.sliceBounds isS len cap lo hi none).run P w=.ok (l.getD 0,h.getD len,cap) w:=by
 rcases hlo with⟨rfl,rfl⟩|⟨ml,kl,rfl,hml,rfl⟩<;>rcases hhi with⟨rfl,rfl⟩|⟨mh,kh,rfl,hmh,rfl⟩
 ·simp[Instr.sliceBounds]
 ·simp only[Option.getD_some]at h1 h2
  simp[Instr.sliceBounds,Instr.sliceBound,asIntOf,h2]
 ·simp only[Option.getD_some,Option.getD_none]at h1 h2
  simp[Instr.sliceBounds,Instr.sliceBound,asIntOf,h1]
 ·simp only[Option.getD_some]at h1 h2
  simp[Instr.sliceBounds,Instr.sliceBound,asIntOf,h1,h2]
theorem vR (hE:∀t d,E.T t=some d->ba P t d) (hlk:∀i b,look i=some b->st.look i=some b) (hs:al w0 I0 NoR g st a ov w) {t:TypeId} {d:TyD} (ht:ba P t d) {sz:Nat} (hTe:rd E.T d.kd=some sz)
  {x:Operand} {lo hi:Option Operand} {e:Eff}
  (hh:(iQ look d.kd sz (st.ev x) (lo.map st.ev) (hi.map st.ev)).hits C e) (ha:e.app st dst=some st'):Good P w0 I0 ov ⟨dst,.slice t x lo hi none,type,pos,after,guard⟩ st' a w Q:=by
 have hrep:∀o:Option Operand,(match o.map st.ev,o.map a.eval with|none,none=>True|some x,some u=>bX w g st.look x u|_,_=>False):=fun o=>by
  cases o with
  | none=>trivial
  | some x=>exact hs.ev x
 have hx:=hs.ev x
 have hel:∀e1,d.kd=.slice e1->∃ed,ba P e1 ed/\ed.size=sz:=fun e1 hk=>by
  rw[hk]at hTe
  simp only[rd]at hTe
  cases hd:E.T e1 with
  | none=>simp[hd]at hTe
  | some ed=>simp only[hd,FR]at hTe;exact⟨ed,hE _ _ hd,hTe⟩
 have cutS:∀(e1:TypeId) (hk:d.kd=.slice e1) (ad:Addr) (n cap:Nat) (l h:Option Nat),a.eval x=.slice (some ad) n cap->n<=cap->((l=none/\lo.map a.eval=none)\/∃m kd,l=some m/\m<=9223372036854775807/\lo.map a.eval=some (.int kd (m:Int))) ->
   ((h=none/\hi.map a.eval=none)\/∃m kd,h=some m/\m<=9223372036854775807/\hi.map a.eval=some (.int kd (m:Int)))->l.getD 0<=h.getD n->h.getD n<=n ->
   (execOp a.eval ⟨dst,.slice t x lo hi none,type,pos,after,guard⟩).run P w=.ok (.value (cut sz (l.getD 0) (h.getD n-l.getD 0) (.slice (some ad) n cap))) w:=by
  intro e1 hk ad n cap l h hv hnc hl hh h1 h2
  obtain⟨ed,hte,hes⟩:=hel e1 hk
  have hu:=dL ht hk
  have hb:=mV (P:=P) (w:=w) true (len:=n) (cap:=cap) hl hh h1 (by omega)
  have hrun:(execOp a.eval ⟨dst,.slice t x lo hi none,type,pos,after,guard⟩).run P w=.ok (.value (.slice (if cap=l.getD 0 then some ad else(some ad).map (·.add (l.getD 0*sz))) (h.getD n-l.getD 0) (cap-l.getD 0))) w:=by
   simp[execOp,Instr.sliceAt,Instr.slice,aT hu,hv,hb,cB hte,hes]
  rw[hrun]
  simp only[cut]
  split<;>rfl
 have cutN:∀(e1:TypeId) (hk:d.kd=.slice e1) (l h:Option Nat),a.eval x=bc->((l=none/\lo.map a.eval=none)\/∃m kd,l=some m/\m<=9223372036854775807/\lo.map a.eval=some (.int kd (m:Int))) ->
   ((h=none/\hi.map a.eval=none)\/∃m kd,h=some m/\m<=9223372036854775807/\hi.map a.eval=some (.int kd (m:Int)))->l.getD 0=0->h.getD 0=0 ->
   (execOp a.eval ⟨dst,.slice t x lo hi none,type,pos,after,guard⟩).run P w=.ok (.value bc) w:=by
  intro e1 hk l h hv hl hh h1 h2
  obtain⟨ed,hte,hes⟩:=hel e1 hk
  have hu:=dL ht hk
  have hb:=mV (P:=P) (w:=w) true (len:=0) (cap:=0) hl hh (by omega) (by omega)
  rw[h1,h2]at hb
  simp[execOp,Instr.sliceAt,Instr.slice,aT hu,hv,hb,cB hte,bc]
 unfold iQ at hh
 split at hh
 ·rename_i tx htx
  have hxr:=cG hx htx
  replace hh:=ez (hrep lo) hh
  obtain⟨l,hh,hl⟩:=hh
  replace hh:=ez (hrep hi) hh
  obtain⟨h,hh,hhi⟩:=hh
  obtain⟨v,hv,hh⟩:=hh
  unfold pslice at hv
  split at hv
  ·rename_i e1 o s xs hk
   split at hv
   ·rename_i hc
    simp only[FR]at hv
    subst hv
    obtain⟨rfl,hc⟩:=hc
    obtain⟨ad,cap,hxv⟩:=qX (S:=NoR) (.fr hxr)
    have hcap:xs.length<=cap:=by
     rw[hxv]at hxr
     cases hxr with
     | sl cell hI hc=>exact hc
    have hw:=(aq.fr (S:=NoR) hxr).win (lo:=l.getD 0) (len:=h.getD xs.length-l.getD 0) (y:=.sl o s ((xs.drop (l.getD 0)).take (h.getD xs.length-l.getD 0))) (by simp only[lh];rw[if_pos (by omega)])
    rw[hxv]at hw
    exact cO hs (cutS e1 hk ad _ cap l h hxv hcap hl hhi hc.1 hc.2) (hw.empty (fun _ h=>h)) rfl hh ha
   ·cases hv
  ·rename_i e1 hk
   split at hv
   ·rename_i hc
    simp only[FR]at hv
    subst hv
    exact cO hs (cutN e1 hk l h (bM hxr) hl hhi hc.1 hc.2) (.lit _) rfl hh ha
   ·cases hv
  ·rename_i str hk
   split at hv
   ·rename_i hc
    simp only[FR]at hv
    subst hv
    have hu:=rN ht hk
    have hxv:=bM hxr
    have hb:=mV (P:=P) (w:=w) false (len:=str.size) (cap:=str.size) hl hhi hc.1 hc.2
    exact cO hs (u:=.string (str.extract (l.getD 0) (h.getD str.size))) (by simp[execOp,Instr.sliceAt,Instr.slice,aT hu,hxv,hb]) (.lit _) rfl hh ha
   ·cases hv
  ·cases hv
 ·split at hh
  ·rename_i e1 i r p hk hxi
   rw[hxi]at hx
   obtain⟨xs,x0,s0,hl0,hx0,hg0,hh⟩:=rV hlk hh
   obtain⟨n,hn,hh⟩:=hh
   obtain⟨l,hh,hl⟩:=ez (hrep lo) hh
   obtain⟨h,hh,hhi⟩:=ez (hrep hi) hh
   obtain⟨hc,hh⟩:=hh
   cases hh
   simp only[FS]at hc
   obtain⟨⟨hc0,hc1⟩,hc2⟩:=hc
   have hc1:l.getD 0<=h.getD n:=by simpa using hc1
   have hc2:h.getD n<=n:=by simpa using hc2
   obtain⟨xs',x',nd,hl',hx',hnode,hsl⟩:=hx
   rw[hl0]at hl'
   cases hl'
   rw[hx0]at hx'
   cases hx'
   obtain⟨hnd,S',hr,_⟩:=hs.at hl0 hx0 hnode hg0
   rcases i5 hn hr with⟨o,s,ys,ad,cap,rfl,rfl,hv,hle⟩|⟨rfl,rfl,hv⟩
   ·have hsz:s=sz:=by simpa[slSize]using hc0
    subst hsz
    refine aR hs (v:=.one (.swin i r p (l.getD 0) (h.getD ys.length-l.getD 0))) (cutS e1 hk ad _ cap l h hv hle hl hhi hc1 hc2) ⟨xs,x0,a.eval x,nd,hl0,hx0,hnode,hsl,?_⟩ ha
    rw[hnd]
    exact⟨by omega,by rw[hv]⟩
   ·have e1':l.getD 0=0:=by omega
    have e2':h.getD 0=0:=by omega
    refine aR hs (v:=.one (.swin i r p (l.getD 0) (h.getD 0-l.getD 0))) (cutN e1 hk l h hv hl hhi e1' e2') ⟨xs,x0,a.eval x,nd,hl0,hx0,hnode,hsl,?_⟩ ha
    rw[hnd]
    exact⟨e1',by omega,hv,rfl⟩
  ·rename_i e1 i r p lo0 n hk hxi
   rw[hxi]at hx
   split at hh
   ·rename_i hlo
    have hl:((none:Option Nat)=none/\lo.map a.eval=none)\/∃m kd,(none:Option Nat)=some m/\m<=9223372036854775807/\lo.map a.eval=some (.int kd (m:Int)):=by
     cases lo with
     | none=>exact .inl ⟨rfl,rfl⟩
     | some o=>simp at hlo
    obtain⟨xs,x0,s0,hl0,hx0,hg0,hh⟩:=rV hlk hh
    obtain⟨h,hh,hhi⟩:=ez (hrep hi) hh
    obtain⟨hc,hh⟩:=hh
    cases hh
    simp only[FS]at hc
    obtain⟨hc0,hc2⟩:=hc
    have hc2:h.getD n<=n:=by simpa using hc2
    obtain⟨xs',x',u,nd,hl',hx',hnode,hsl,hwin⟩:=hx
    rw[hl0]at hl'
    cases hl'
    rw[hx0]at hx'
    cases hx'
    obtain⟨hnd,S',hr,_⟩:=hs.at hl0 hx0 hnode hg0
    subst hnd
    cases hq:s0.nd with
    | none =>
     rw[hq]at hwin hnode
     obtain⟨w1,w2,w3,w4⟩:=hwin
     have e2':h.getD 0=0:=by cases h<;>simp at hc2 ⊢;omega
     have hN:=cutN e1 hk none h w4 hl hhi rfl e2'
     refine aR hs (v:=.one (.swin i r p lo0 (h.getD n))) hN ⟨xs,x0,u,none,hl0,hx0,hnode,hsl,?_⟩ ha
     exact⟨w1,by omega,w3,rfl⟩
    | some sn =>
     obtain⟨s,m⟩:=sn
     rw[hq]at hwin hnode
     obtain⟨o,ys,rfl,rfl⟩:=wC hq
     obtain⟨hle,hv⟩:=hwin
     have hsz:s=sz:=by simpa[slSize]using hc0
     subst hsz
     rcases i5 (n:=ys.length) rfl hr with⟨o',s',ys',ad,cap,e1',e2',hu',hcap⟩|⟨h0,_⟩
     ·subst hu'
      have hv2:∃ad',a.eval x=.slice (some ad') n (cap-lo0)/\ad'=(if cap=lo0 then ad else ad.add (lo0*s)):=by
       rw[hv]
       simp only[cut]
       split<;>exact⟨_,rfl,rfl⟩
      obtain⟨ad',hv2,had⟩:=hv2
      have hlen:n<=cap-lo0:=by omega
      have hrun:=cutS e1 hk ad' n (cap-lo0) none h hv2 hlen hl hhi (Nat.zero_le _) hc2
      refine aR hs (v:=.one (.swin i r p lo0 (h.getD n))) hrun ⟨xs,x0,_,_,hl0,hx0,hnode,hsl,?_⟩ ha
      refine⟨by omega,?_⟩
      simp only[cut,Option.getD_none,Nat.zero_mul,Nat.sub_zero,had]
      by_cases hcl:cap=lo0
      ·simp[hcl]
      ·have:cap-lo0≠0:=by omega
       simp[hcl,this,Addr.add]
     ·cases h0
   ·rename_i lo1 hlo
    obtain⟨xs,x0,s0,hl0,hx0,hg0,hh⟩:=rV hlk hh
    obtain⟨l,hh,hl⟩:=ez (hrep lo) hh
    obtain⟨h,hh,hhi⟩:=ez (hrep hi) hh
    obtain⟨hc,hh⟩:=hh
    cases hh
    simp only[FS]at hc
    obtain⟨⟨⟨hcz,hc0⟩,hc1⟩,hc2⟩:=hc
    have hz0:lo0=0:=(az _ _).1 hcz
    subst hz0
    have hc1:l.getD 0<=h.getD n:=by simpa using hc1
    have hc2:h.getD n<=n:=by simpa using hc2
    obtain⟨xs',x',u,nd,hl',hx',hnode,hsl,hwin⟩:=hx
    rw[hl0]at hl'
    cases hl'
    rw[hx0]at hx'
    cases hx'
    obtain⟨hnd,S',hr,_⟩:=hs.at hl0 hx0 hnode hg0
    subst hnd
    cases hq:s0.nd with
    | none =>
     rw[hq]at hwin hnode
     obtain⟨w1,w2,w3,w4⟩:=hwin
     subst w2
     have e1':l.getD 0=0:=by omega
     have e2':h.getD 0=0:=by omega
     refine aR hs (v:=.one (.swin i r p (l.getD 0) (h.getD 0-l.getD 0))) (cutN e1 hk l h w4 hl hhi e1' e2') ⟨xs,x0,u,none,hl0,hx0,hnode,hsl,?_⟩ ha
     exact⟨e1',by omega,w3,rfl⟩
    | some sn =>
     obtain⟨s,m⟩:=sn
     rw[hq]at hwin hnode
     obtain⟨o,ys,rfl,rfl⟩:=wC hq
     obtain⟨hle,hv⟩:=hwin
     have hsz:s=sz:=by simpa[slSize]using hc0
     subst hsz
     rcases i5 (n:=ys.length) rfl hr with⟨o',s',ys',ad,cap,e1',e2',hu',hcap⟩|⟨h0,_⟩
     ·subst hu'
      have hv2:a.eval x=.slice (some ad) n cap:=by
       rw[hv]
       simp[cut,Addr.add]
      have hrun:=cutS e1 hk ad n cap l h hv2 (by omega) hl hhi hc1 hc2
      refine aR hs (v:=.one (.swin i r p (l.getD 0) (h.getD n-l.getD 0))) hrun ⟨xs,x0,_,_,hl0,hx0,hnode,hsl,?_⟩ ha
      refine⟨by omega,?_⟩
      simp[cut]
     ·cases h0
  ·exact hh.elim
theorem Ea (hE:∀t d,E.T t=some d->ba P t d) (hlk:∀i b,look i=some b->st.look i=some b) (hs:al w0 I0 NoR g st a ov w) {t:TypeId} {x:Operand} {lo hi mx:Option Operand} {e:Eff}
  (hh:(opL E id look (.slice t x lo hi mx) ((Op.slice t x lo hi mx).operands.toList.map st.ev)).hits C e) (ha:e.app st dst=some st'):Good P w0 I0 ov ⟨dst,.slice t x lo hi mx,type,pos,after,guard⟩ st' a w Q:=by
 cases mx with
 | some m=>cases lo<;>cases hi<;>simp[opL,Prg.hits]at hh
 | none =>
  cases hT:E.T t with
  | none=>cases lo<;>cases hi<;>simp[opL,Op.operands,hT,Prg.hits]at hh
  | some d =>
   cases hz:rd E.T d.kd with
   | none=>cases lo<;>cases hi<;>simp[opL,Op.operands,hT,hz,Prg.hits]at hh
   | some sz =>
    refine vR hE hlk hs (hE _ _ hT) hz (e:=e) (C:=C) ?_ ha
    cases lo<;>cases hi<;>simpa[opL,Op.operands,hT,hz]using hh
theorem fI {b:Builtin} {args:Array Operand} {tys:Array TypeId} {s:Sem Value} {v:Value} (hb:∀cs,builtin b tys type cs (args.map a.eval)=(do pure (.value (<-s)))) (hr:s.run P w=.ok v w') :
  (execOp a.eval ⟨dst,.call ⟨.builtin b,args,tys⟩,type,pos,after,guard⟩).run P w=.ok (.value v) w':=by
 simp[execOp,resolve,invoke,hb,hr]
theorem list1 {α β:Type} {f:α->β} {xs:Array α} {y:β} (h:xs.toList.map f=[y]):∃x,xs=#[x]/\f x=y:=by
 obtain⟨l⟩:=xs
 match l,h with
 | [x],h=>exact⟨x,rfl,by simpa using h⟩
theorem list2 {α β:Type} {f:α->β} {xs:Array α} {y z:β} (h:xs.toList.map f=[y,z]):∃x x',xs=#[x,x']/\f x=y/\f x'=z:=by
 obtain⟨l⟩:=xs
 match l,h with
 | [x,x'],h=>exact⟨x,x',rfl,by simpa using h⟩
theorem arr1 {xs:Array TypeId} {y:TypeId} (h:xs.toList=[y]):xs=#[y]:=by obtain⟨l⟩:=xs;simp at h;rw[h]
theorem arr2 {xs:Array TypeId} {y z:TypeId} (h:xs.toList=[y,z]):xs=#[y,z]:=by obtain⟨l⟩:=xs;simp at h;rw[h]
theorem sH (hlk:∀i b,look i=some b->st.look i=some b) (hs:al w0 I0 NoR g st a ov w) {t:TypeId} {d:TyD} (ht:ba P t d) {x:Operand} {e:Eff} (hx:bX w g st.look (st.ev x) (a.eval x)) (hh:(tC look (st.ev x) fun s=>.tv (plen d.kd s) vt).hits C e) (ha:e.app st dst=some st') :
  Good P w0 I0 ov ⟨dst,.call ⟨.builtin .len,#[x],#[t]⟩,type,pos,after,guard⟩ st' a w Q:=by
 have run:∀{v:Value},(Builtin.len_ #[t] type #[a.eval x]).run P w=.ok v w->(execOp a.eval ⟨dst,.call ⟨.builtin .len,#[x],#[t]⟩,type,pos,after,guard⟩).run P w=.ok (.value v) w:=fun h =>
  fI (fun cs=>by simp[builtin]) h
 obtain⟨s,T,hh,hr⟩:=pA hlk hs hx hh
 obtain⟨v,hv,hh⟩:=hh
 unfold plen at hv
 split at hv
 ·rename_i e1 c hk
  simp only[FR]at hv
  subst hv
  have hxv:=bq hr
  exact cO hs (run (by simp[Builtin.len_,aT (dL ht hk),hxv];rfl)) (.lit _) rfl hh ha
 ·rename_i s hk
  simp only[FR]at hv
  subst hv
  have hxv:=bq hr
  exact cO hs (run (by simp[Builtin.len_,aT (rN ht hk),hxv];rfl)) (.lit _) rfl hh ha
 ·rename_i e1 o s xs hk
  simp only[FR]at hv
  subst hv
  obtain⟨ad,cap,hxv⟩:=qX hr
  exact cO hs (run (by simp[Builtin.len_,aT (dL ht hk),hxv];rfl)) (.lit _) rfl hh ha
 ·cases hv
theorem ze (hlk:∀i b,look i=some b->st.look i=some b) (hs:al w0 I0 NoR g st a ov w) {t:TypeId} {d:TyD} (ht:ba P t d) {x:Operand} {e:Eff} (hh:(wZ look d.kd (st.ev x)).hits C e) (ha:e.app st dst=some st') :
  Good P w0 I0 ov ⟨dst,.call ⟨.builtin .len,#[x],#[t]⟩,type,pos,after,guard⟩ st' a w Q:=by
 have hx:=hs.ev x
 have run:∀{v:Value},(Builtin.len_ #[t] type #[a.eval x]).run P w=.ok v w->(execOp a.eval ⟨dst,.call ⟨.builtin .len,#[x],#[t]⟩,type,pos,after,guard⟩).run P w=.ok (.value v) w:=fun h =>
  fI (fun cs=>by simp[builtin]) h
 unfold wZ at hh
 split at hh
 ·rename_i n e1 hk
  exact cO hs (run (by simp[Builtin.len_,aT (so ht hk)];rfl)) (.lit _) rfl hh ha
 ·rename_i e1 hk
  split at hh
  ·rename_i b n hxe
   rw[hxe]at hx
   obtain⟨cs,_,hv⟩:=hx
   exact cO hs (run (by simp[Builtin.len_,aT (dL ht hk),hv];rfl)) (.lit _) rfl hh ha
  ·rw[<-hk]at hh
   exact sH hlk hs ht hx hh ha
 ·exact sH hlk hs ht hx hh ha
theorem s6 (hs:al w0 I0 NoR g st a ov w) {tys:Array TypeId} {mx:Bool} {x y:Operand} {e:Eff} (hh:(wR mx (st.ev x) (st.ev y)).hits C e) (ha:e.app st dst=some st') :
  Good P w0 I0 ov ⟨dst,.call ⟨.builtin (bif mx then .max else .min),#[x,y],tys⟩,type,pos,after,guard⟩ st' a w Q:=by
 unfold wR at hh
 split at hh
 ·rename_i tx ty hx hy
  obtain⟨v,hv,hh⟩:=hh
  unfold pmin at hv
  split at hv
  ·rename_i k m k' n
   simp only[FR]at hv
   subst hv
   have ex:=bM (cG (hs.ev x) hx)
   have ey:=bM (cG (hs.ev y) hy)
   refine cO hs (u:=.int k (bif mx then(if n > m then n else m)else(if n<m then n else m))) ?_ (.lit _) rfl hh ha
   cases mx with
   | true=>exact fI (s:=Builtin.max_ tys type #[a.eval x,a.eval y]) (fun cs=>by simp[builtin]) (by rw[ex,ey];simp[Builtin.max_,Builtin.max2])
   | false=>exact fI (s:=Builtin.min_ tys type #[a.eval x,a.eval y]) (fun cs=>by simp[builtin]) (by rw[ex,ey];simp[Builtin.min_,Builtin.min2])
  ·cases hv
 ·exact hh.elim
theorem nE (hs:al w0 I0 R g st a ov w) {x:TV} {v:Value} {o:Oper} (ho:o.dst=dst) {w':World} {S:Nat->Prop} (hrun:(execOp a.eval o).run P w=.ok (.value v) w') (hw:w0.Bel w') (hsz:w.heap.size<=w'.heap.size) (hb:∀k,k<w.heap.size->¬R k->w'.heap[k]? = w.heap[k]?) (hr:aq w' g.I x v S)
  (hS:∀b,S b->R b\/(w.heap.size<=b/\b<w'.heap.size)) (hsl:nY v) {d:Tmp} (hd:dst=some d) (hn:st.look (st.nid dst)=none) (hlt:st.nid dst<st.boxes.length) (hst:st'=(st.ac (st.nid dst) (some (.tree [x]))).put (some d) (.one (.sref (st.nid dst) 0 []))) :
  Good P w0 I0 ov o st' a w Q:=by
 subst hst
 obtain⟨r1,r2⟩:=hs.mI (xs:=[x]) hlt hn hw hsz hb (fun _=>v) (fun _=>S) (fun r y hy=>by
  cases r with
  | zero=>simp at hy;subst hy;exact hr
  | succ r=>simp at hy) (fun r b _ hb=>hS b hb) (fun r r' b h1 h2 _ _=>by simp at h1 h2;omega)
 refine gI hrun ⟨g.kb (st.nid dst) (fun _=>v) (fun _=>S),?_⟩
 rw[ho]
 subst hd
 refine r1.put (some d) (v:=.one (.sref (st.nid (some d)) 0 [])) ⟨[x],x,x.nd,?_,rfl,⟨by simp[Gh.kb],rfl⟩,hsl⟩
 rw[ag,if_pos ⟨rfl,hlt⟩]
theorem vS (hE:∀t d,E.T t=some d->ba P t d) (hs:al w0 I0 NoR g st a ov w) {t:TypeId} {x y:Operand} {e:Eff}
  (hh:(opL E (st.nid dst) look (.makeSlice t x y) [st.ev x,st.ev y]).hits C e) (ha:e.app st dst=some st'):Good P w0 I0 ov ⟨dst,.makeSlice t x y,type,pos,after,guard⟩ st' a w Q:=by
 simp only[opL]at hh
 split at hh
 ·rename_i et d tl tc hel hx hy
  obtain⟨dt,hT,hk,hTe⟩:=gQ hel
  have ht:=hE _ _ hT
  have hte:=hE _ _ hTe
  have hu:=dL ht hk
  cases hb4:d.bytes.ble 4096 with
  | false=>rw[hb4]at hh;exact hh.elim
  | true =>
   rw[hb4]at hh
   replace hh:(Prg.nat (aJ tl) fun n=>.nat (aJ tc) fun m=>.chk (n.ble m&&m.ble room) (.ret (Eff.new (.tree [.sl true d.size (List.replicate n (d.zero.map .lit))]) (.one (.sref (st.nid dst) 0 []))))).hits C e:=hh
   obtain⟨n,hn,m,hm,hc,hh⟩:=hh
   cases hh
   obtain⟨_,kl,hxv⟩:=eC hn (cG (hs.ev x) hx)
   obtain⟨_,kc,hyv⟩:=eC hm (cG (hs.ev y) hy)
   simp only[FS]at hc
   obtain⟨hc1,hc2⟩:=hc
   have hc1:n<=m:=by simpa using hc1
   have hc2:m<=4294967296:=by simpa[room]using hc2
   have hc3:d.bytes<=4096:=by simpa using hb4
   obtain⟨i,z,hi,hsz,hby,hz,hzc⟩:=hte.info
   obtain⟨dd,h0,hl,hlt,hst⟩:=oA ha
   have hbytes:(i.bytes:Int)*(m:Int)<=281474976710656:=by
    rw[hby]
    have:d.bytes*m<=4096*4294967296:=Nat.mul_le_mul hc3 hc2
    have h2:((d.bytes*m:Nat):Int)<=281474976710656:=by omega
    rwa[Int.natCast_mul]at h2
   have hrun:=run_make (P:=P) w t et i z hu hi hz kl kc (n:Int) (m:Int) (by omega) (by omega) hbytes (by omega)
   simp only[Int.toNat_natCast]at hrun
   have hzl:z.cells.size=d.size:=by have:=hte.zlen;rw[<-hzc]at this;simpa using this
   have hmm:n*d.size<=m*d.size:=Nat.mul_le_mul_right _ hc1
   have hlen:(List.replicate n (d.zero.map TV.lit)).length=n:=by simp
   have hall:∀x∈List.replicate n (d.zero.map TV.lit),x.length=d.size:=fun x hx=>by rw[List.eq_of_mem_replicate hx];simp[hte.zlen]
   have hat:∀k,k<n*d.size->(madeCells z.cells (m*i.size))[k]? = some (d.zero.getD (k%d.size) undef):=fun k hk'=>by
    have h0:0<d.size:=by
     rcases Nat.eq_zero_or_pos d.size with h|h
     ·rw[h]at hk';omega
     ·exact h
    have hkm:k<m*i.size:=by rw[hsz];omega
    have hr:=Nat.mod_lt k h0
    simp only[madeCells,Array.getElem?_map]
    rw[Array.getElem?_eq_getElem (by simpa using hkm)]
    simp only[Array.getElem_range,F6,FR,hzl]
    rw[getElem!_pos z.cells _ (by omega),<-hzc,F7,FU,Array.getElem?_eq_getElem (by omega)]
    rfl
   refine nE hs (x:=.sl true d.size (List.replicate n (d.zero.map TV.lit))) (v:=.slice (some ⟨w.heap.size,0,none⟩) n m) rfl (w':=w.alloc (.cells (madeCells z.cells (m*i.size)) et)) (S:=fun b=>b=w.heap.size)
    (by simp[execOp,hxv,hyv,hrun]) (hs.below.step (dS w _)) (dS w _).size (fun k hk _=>(dS w _).block k hk) ?_ (fun b hb=>.inr (by subst hb;simp)) ⟨_,_,_,rfl⟩ h0 hl hlt hst
   have hflk:∀(k:Nat) (c:TV),(List.replicate n (d.zero.map TV.lit)).flatten[k]? = some c->k<n*d.size/\c=.lit (d.zero.getD (k%d.size) undef):=fun k c hc=>by
    have hk':k<n*d.size:=by
     have:=(FP.1 hc).1
     rwa[cz hall,hlen]at this
    refine⟨hk',?_⟩
    have h0:0<d.size:=by
     rcases Nat.eq_zero_or_pos d.size with h|h
     ·rw[h]at hk';omega
     ·exact h
    have hkd:k / d.size<n:=Nat.div_lt_of_lt_mul (by rw[Nat.mul_comm];exact hk')
    obtain⟨el,c',g1,g2,g3⟩:=qW hall (by rw[hlen];exact hkd) (Nat.mod_lt k h0)
    rw[Nat.mul_comm,Nat.div_add_mod,hc]at g3
    cases g3
    rw[List.getElem?_replicate,if_pos hkd]at g1
    cases g1
    rw[FW]at g2
    cases hz2:d.zero[k%d.size]? with
    | none=>simp[hz2]at g2
    | some zz=>simp only[hz2,F6,FR]at g2;rw[<-g2,F7,hz2];rfl
   have key:aq (w.alloc (.cells (madeCells z.cells (m*i.size)) et)) g.I (.sl true d.size (List.replicate n (d.zero.map TV.lit))) (.slice (some ⟨w.heap.size,0,none⟩) (List.replicate n (d.zero.map TV.lit)).length m) (fun b=>b=w.heap.size):=by
    refine .sl ((madeCells z.cells (m*i.size)).toList.take (n*d.size)) (madeCells z.cells (m*i.size)) et (fun _ _=>False) rfl ?_ hall (fun k c hc=>?_) (fun _ _ h=>h.elim) (fun _ _ _ h=>h.elim)
    ·rw[hlen]
     refine⟨heap_alloc_new w _,rfl,hc1,by simp only[maxLen];omega,by rw[size_madeCells,hsz];simp,by rw[List.length_take,Array.length_toList,size_madeCells,hsz];omega,fun k hk'=>?_,fun u hu=>?_⟩
     ·rw[Nat.zero_add,List.getElem?_take_of_lt hk',FU]
     ·obtain⟨k,hk'⟩:=List.mem_iff_getElem?.1 hu
      have hlt':k<n*d.size:=by have:=(FP.1 hk').1;simp at this;omega
      rw[List.getElem?_take_of_lt hlt',FU,hat k hlt']at hk'
      cases hk'
      have h0:0<d.size:=by
       rcases Nat.eq_zero_or_pos d.size with h|h
       ·rw[h]at hlt';omega
       ·exact h
      have:k%d.size<d.zero.length:=by rw[hte.zlen];exact Nat.mod_lt k h0
      rw[F7,FQ this]
      exact hte.zone _ (List.getElem_mem this)
    ·obtain⟨hk',rfl⟩:=hflk k c hc
     have e1:((madeCells z.cells (m*i.size)).toList.take (n*d.size)).getD k undef=d.zero.getD (k%d.size) undef:=by
      rw[F7,List.getElem?_take_of_lt hk',FU,hat k hk']
      rfl
     rw[e1]
     exact .fr (.lit _)
   rwa[hlen]at key
 ·exact hh.elim
end
end Go.Ab
end
section
namespace Go.Ab
open Go.RowKit
section
variable {P:Program} {E:Env} {C:Cal} {w0:Bs} {w w':World} {I0 I R:Nat->Prop} {g g':Gh} {st st':ASt} {a:Act} {ov:List Value} {look:Look} {Q:Exit->Act->World->Prop} {id:Nat}
variable {dst:Option Tmp} {type:TypeId} {pos:String} {after:Array Edge} {guard:Option (Nat × Bool)}
theorem cV {ps qs:List Prim} {st:ASt}:ae dst (ps++qs) st=(ae dst ps st).bind (ae dst qs):=by
 induction ps generalizing st with
 | nil=>rfl
 | cons p ps ih =>
  simp only[List.cons_append,ae]
  cases p.app st dst with
  | none=>rfl
  | some s1=>exact ih
structure Kept (ts:List (Nat × Nat)) (g:Gh) (st:ASt) (g1:Gh) (st1:ASt):Prop where
 slots:st1.slots.length=st.slots.length
 out:st1.out.length=st.out.length
 boxes:st1.boxes.length=st.boxes.length
 none:∀j,st.look j=none->st1.look j=none
 tree:∀j xs,(∀r,ic j r ts=false)->st.look j=some (.tree xs)->st1.look j=some (.tree xs)/\g1.ρ j=g.ρ j/\g1.φ j=g.φ j
 root:∀j r xs x,ic j r ts=false->st.look j=some (.tree xs)->xs[r]? = some x->∃xs1,st1.look j=some (.tree xs1)/\xs1[r]? = some x/\g1.ρ j r=g.ρ j r/\g1.φ j r=g.φ j r
 I:∀b,g.I b->g1.I b
 cells:∀j cs,st.look j=some (.cells cs)->∃cs1,st1.look j=some (.cells cs1)/\cs1.length=cs.length/\g1.β j=g.β j
theorem Kept.refl (ts:List (Nat × Nat)) (g:Gh) (st:ASt):Kept ts g st g st :=
 ⟨rfl,rfl,rfl,fun _ h=>h,fun _ _ _ h=>⟨h,rfl,rfl⟩,fun _ _ xs _ _ h hx=>⟨xs,h,hx,rfl,rfl⟩,fun _ h=>h,fun _ cs h=>⟨cs,h,rfl,rfl⟩⟩
theorem sk (i r:Nat):∀l:List (Nat × Nat),ic i r l=true ↔ (i,r)∈l
 | []=>by simp[ic]
 | (a, b) :: l => by
  simp only[ic,List.mem_cons,Prod.mk.injEq]
  cases h1:a.beq i with
  | false =>
   have:a≠i:=fun e=>by subst e;simp at h1
   simp only[Bool.false_and,cond_false,sk i r l]
   constructor
   ·exact .inr
   ·rintro(⟨e,_⟩|h)
    ·exact absurd e.symm this
    ·exact h
  | true =>
   have e1:=(az _ _).1 h1
   subst e1
   cases h2:b.beq r with
   | false =>
    have:b≠r:=fun e=>by subst e;simp at h2
    simp only[Bool.true_and,cond_false,sk a r l]
    constructor
    ·exact .inr
    ·rintro(⟨_,e⟩|h)
     ·exact absurd e.symm this
     ·exact h
   | true =>
    have e2:=(az _ _).1 h2
    subst e2
    simp
theorem dF (i r:Nat) (l:List (Nat × Nat)):ic i r l=false ↔ (i,r)∉l:=by
 rw[<-sk];cases ic i r l<;>simp
theorem dB {i r:Nat} {xs:List TV} {x:TV} (h:look i=some (.tree xs)):co look i r x=some (.tree (ai xs r x)):=by simp[co,h]
theorem jS {x:TV} {v:Value} {S:Nat->Prop} (h:aq w I x v S) (hf:x.jb=true):Rep w I x v:=by
 cases x with
 | lit z=>exact(bq h) ▸ .lit _
 | sl o s xs =>
  cases o with
  | false=>exact Ed h
  | true=>simp[TV.jb]at hf
 | _=>simp[TV.jb]at hf
theorem rO (hs:al w0 I0 R g st a ov w) {i r:Nat} {xs:List TV} {x:TV} (hl:st.look i=some (.tree xs)) (hx:xs[r]? = some x) :
  ∃st1 g1,ae dst [.drop i r [] false,.root i r .hole] st=some st1/\al w0 I0 (fun b=>R b\/g.φ i r b) g1 st1 a ov w/\g1.I=g.I/\Kept [(i,r)] g st g1 st1/\(∀b,g.φ i r b->¬R b) /\
   (∀c v,bW w g st.look c v->bW w g1 st1.look (c.drop i r [] false) v):=by
 obtain⟨h1,h2,h3,h4⟩:=hs.take hl hx
 have hi:=gF hl
 have hlm:(st.aE (CA.drop i r [] false)).look i=some (.tree xs):=by rw[aS,hl];rfl
 refine⟨_,_,by simp only[ae,Prim.app,dB hlm],h1,rfl,⟨?_,?_,?_,?_,?_,?_,fun _ h=>h,fun j cs hj=>?_⟩,h3,h4⟩
 ·simp[ASt.ac,ASt.aE,bT]
 ·simp[ASt.ac,ASt.aE,bT]
 ·simp[ASt.ac,ASt.aE,ah,l9]
 ·intro j hj
  have hne:i≠j:=fun e=>by subst e;rw[hl]at hj;cases hj
  rw[ag,if_neg (fun h=>hne h.1),aS,hj]
  rfl
 ·intro j ys hj hlj
  have hne:i≠j:=fun e=>by
   subst e
   have:=hj r
   rw[dF]at this
   exact this (by simp)
  have hne':j≠i:=fun h=>hne h.symm
  refine⟨by rw[ag,if_neg (fun h=>hne h.1),aS,hlj];rfl,?_,?_⟩
  ·funext k;simp[Gh.df,hne']
  ·funext k;simp[Gh.df,hne']
 ·intro j k ys y hm hlj hy
  rw[dF]at hm
  by_cases hij:i=j
  ·subst hij
   rw[hl]at hlj
   cases hlj
   have hk:k≠r:=fun e=>hm (by rw[e];simp)
   refine⟨ai xs r .hole,by rw[ag,if_pos ⟨rfl,by rw[fk];exact hi⟩],by rw[ah,List.getElem?_set_ne (fun h=>hk h.symm)];exact hy,by simp[Gh.df,hk],by simp[Gh.df,hk]⟩
  ·have hne':j≠i:=fun h=>hij h.symm
   exact⟨ys,by rw[ag,if_neg (fun h=>hij h.1),aS,hlj];rfl,hy,by simp[Gh.df,hne'],by simp[Gh.df,hne']⟩
 ·have hij:i≠j:=fun e=>by subst e;rw[hl]at hj;cases hj
  exact⟨_,by rw[ag,if_neg (fun h=>hij h.1),aS,hj];rfl,nB _ _,rfl⟩
theorem pZ (hs:al w0 I0 R g st a ov w) {i r:Nat} {xs:List TV} {x y x':TV} {p:Way} {u:Value} {nd:Option (Nat × Nat)} (hl:st.look i=some (.tree xs)) (hx:xs[r]? = some x) (hg:a8 p x=some y) (hset:iA p x .hole=some x') (hnode:Node w p x (g.ρ i r) u nd) :
  ∃st1 g1 Sy,ae dst [.drop i r (bv p) false,.root i r x'] st=some st1/\al w0 I0 (fun b=>R b\/Sy b) g1 st1 a ov w/\g1.I=g.I/\Kept [(i,r)] g st g1 st1/\(∀b,Sy b->¬R b)/\aq w g.I y u Sy:=by
 have hi:=gF hl
 have hrl:r<xs.length:=(FP.1 hx).1
 have hfr:∀b,g.φ i r b->Foot g st.look i b:=fun b hb=>.inr ⟨xs,r,hl,hrl,hb⟩
 obtain⟨u',Sy,s1,s2,s3,s4,s5⟩:=(hs.trees i xs hl r x hx).sub hg
 obtain⟨e1,e2⟩:=Node.unique hnode s3
 subst e1
 obtain⟨m1,m2⟩:=s5 w g.I .hole x' (fun _=>False) hset (fun _ _=>rfl) (fun _ h=>h) (fun _ _ _=>rfl) (.fr (.hole _)) (fun _ h=>h.elim)
 obtain⟨q1,q2⟩:=hs.gc hl hx (CA.drop i r (bv p) false) (fun q=>leads false (bv p) q=false) (gG i r (bv p) false) (R':=fun b=>R b\/Sy b) (I':=g.I) m1
  (fun q v' nd ho _ hn=>m2 q v' nd (fun q' hq' _=>by rw[hq',kK]at ho;cases ho) hn) hs.below (Nat.le_refl _) (fun _ _ _ _=>rfl) (fun b hb=>by rcases hb with h|h;exact .inl h.1;exact h.elim)
  (fun b hb => ⟨hb.imp _root_.id (s2 b), fun h => by
   rcases h with h|h
   ·rcases hb with hb|hb
    ·exact(hs.foot i b (hfr b h.1)).2.2.2 hb
    ·exact h.2 hb
   ·exact h,hb.elim (fun h=>(hs.res b h).2.2) (fun h=>(hs.foot i b (hfr b (s2 b h))).2.2.1)⟩)
  (fun _ h => h) (fun _ h => .inl h) (fun b hb hS => by
   rcases hS with h|h
   ·exact(hs.foot i b (hfr b h.1)).2.2.1 hb
   ·exact h)
 have hlm:(st.aE (CA.drop i r (bv p) false)).look i=some (.tree xs):=by rw[aS,hl];rfl
 refine⟨_,_,Sy,by simp only[ae,Prim.app,dB hlm],q1,rfl,⟨?_,?_,?_,?_,?_,?_,fun _ h=>h,fun j cs hj=>?_⟩,fun b hb=>(hs.foot i b (hfr b (s2 b hb))).2.2.2,s1⟩
 ·simp[ASt.ac,ASt.aE,bT]
 ·simp[ASt.ac,ASt.aE,bT]
 ·simp[ASt.ac,ASt.aE,ah,l9]
 ·intro j hj
  have hne:i≠j:=fun e=>by subst e;rw[hl]at hj;cases hj
  rw[ag,if_neg (fun h=>hne h.1),aS,hj]
  rfl
 ·intro j ys hj hlj
  have hne:i≠j:=fun e=>by
   subst e
   have:=hj r
   rw[dF]at this
   exact this (by simp)
  have hne':j≠i:=fun h=>hne h.symm
  refine⟨by rw[ag,if_neg (fun h=>hne h.1),aS,hlj];rfl,?_,?_⟩
  ·funext k;simp[Gh.df,hne']
  ·funext k;simp[Gh.df,hne']
 ·intro j k ys y hm hlj hy
  rw[dF]at hm
  by_cases hij:i=j
  ·subst hij
   rw[hl]at hlj
   cases hlj
   have hk:k≠r:=fun e=>hm (by rw[e];simp)
   refine⟨ai xs r x',by rw[ag,if_pos ⟨rfl,by rw[fk];exact hi⟩],by rw[ah,List.getElem?_set_ne (fun h=>hk h.symm)];exact hy,by simp[Gh.df,hk],by simp[Gh.df,hk]⟩
  ·have hne':j≠i:=fun h=>hij h.symm
   exact⟨ys,by rw[ag,if_neg (fun h=>hij h.1),aS,hlj];rfl,hy,by simp[Gh.df,hne'],by simp[Gh.df,hne']⟩
 ·have hij:i≠j:=fun e=>by subst e;rw[hl]at hj;cases hj
  exact⟨_,by rw[ag,if_neg (fun h=>hij h.1),aS,hj];rfl,nB _ _,rfl⟩
theorem Kept.trans {ts ts':List (Nat × Nat)} {g g1 g2:Gh} {st st1 st2:ASt} (h:Kept ts g st g1 st1) (k:Kept ts' g1 st1 g2 st2):Kept (ts++ts') g st g2 st2:=by
 have sp:∀j r,ic j r (ts++ts')=false->ic j r ts=false/\ic j r ts'=false:=fun j r hm=>by
  simp only[dF,List.mem_append,not_or]at hm ⊢
  exact hm
 refine⟨k.slots.trans h.slots,k.out.trans h.out,k.boxes.trans h.boxes,fun j hj=>k.none j (h.none j hj),fun j xs hm hl=>?_,fun j r xs x hm hl hx=>?_,fun b hb=>k.I b (h.I b hb),fun j cs hj=>(by
  obtain⟨c1,e1,e2,e3⟩:=h.cells j cs hj
  obtain⟨c2,f1,f2,f3⟩:=k.cells j c1 e1
  exact⟨c2,f1,f2.trans e2,f3.trans e3⟩)⟩
 ·obtain⟨h1,h2,h3⟩:=h.tree j xs (fun r=>(sp j r (hm r)).1) hl
  obtain⟨k1,k2,k3⟩:=k.tree j xs (fun r=>(sp j r (hm r)).2) h1
  exact⟨k1,k2.trans h2,k3.trans h3⟩
 ·obtain⟨xs1,h1,h2,h3,h4⟩:=h.root j r xs x (sp j r hm).1 hl hx
  obtain⟨xs2,k1,k2,k3,k4⟩:=k.root j r xs1 x (sp j r hm).2 h1 h2
  exact⟨xs2,k1,k2,k3.trans h3,k4.trans h4⟩
inductive Gd where
 | fr (y:TV)
 | tk (i r:Nat) (x y:TV)
 | td (i r:Nat) (p:Way) (x y x':TV)
def Gd.y:Gd->TV
 | .fr y=>y
 | .tk _ _ _ y=>y
 | .td _ _ _ _ y _=>y
def Gd.qs:Gd->List Prim
 | .fr _=>[]
 | .tk i r _ _=>[.drop i r [] false,.root i r .hole]
 | .td i r p _ _ x'=>[.drop i r (bv p) false,.root i r x']
def Gd.ts:Gd->List (Nat × Nat)
 | .fr _=>[]
 | .tk i r _ _=>[(i,r)]
 | .td i r _ _ _ _=>[(i,r)]
def xf (w:World) (g:Gh) (look:Look):Gd->Value->Prop
 | .fr y,u=>Rep w g.I y u/\u.oneCell'=true
 | .td i r p x y x',u=>u.oneCell'=true/\(∃xs,look i=some (.tree xs)/\xs[r]? = some x)/\a8 p x=some y/\iA p x .hole=some x'/\∃nd,Node w p x (g.ρ i r) u nd
 | .tk i r x y,u=>u.oneCell'=true/\(∃xs,look i=some (.tree xs)/\xs[r]? = some x)/\∀(I S:Nat->Prop),aq w I x (g.ρ i r) S->aq w I y u S
theorem lB {T:Type} (hlk:∀i b,look i=some b->st.look i=some b) (hs:al w0 I0 R g st a ov w):∀{cs:List CA} {us:List Value} {k:List TV->List Prim->List (Nat × Nat)->Prg T} {e:T},CR w g st.look cs us->(cP look cs k).hits C e ->
  ∃ds:List Gd,(k (ds.map Gd.y) (ds.flatMap Gd.qs) (ds.flatMap Gd.ts)).hits C e/\ds.length=cs.length/\∀(m:Nat) (d:Gd) (u:Value),ds[m]? = some d->us[m]? = some u->xf w g st.look d u
 | [],us,k,e,hcr,h=>⟨[],h,rfl,fun m d u hd=>by simp at hd⟩
 | c :: l, us, k, e, hcr, h => by
  obtain⟨u0,us',rfl⟩:∃u0 us',us=u0::us':=by
   cases us with
   | nil=>have:=hcr.1;simp at this
   | cons u0 us'=>exact⟨u0,us',rfl⟩
  have hc:=hcr.2 0 c u0 rfl rfl
  have hcr':CR w g st.look l us':=⟨by have:=hcr.1;simpa using this,fun j c' u hc' hu'=>hcr.2 (j+1) c' u (by simpa using hc') (by simpa using hu')⟩
  have fin:∀(d:Gd),xf w g st.look d u0->(cP look l fun xs ps ts=>k (d.y::xs) (d.qs++ps) (d.ts++ts)).hits C e->∃ds:List Gd,(k (ds.map Gd.y) (ds.flatMap Gd.qs) (ds.flatMap Gd.ts)).hits C e/\ds.length=(c::l).length/\∀(m:Nat) (d:Gd) (u:Value),ds[m]? = some d->(u0::us')[m]? = some u->xf w g st.look d u:=by
   intro d hd hh
   obtain⟨ds,h1,h2,h3⟩:=lB hlk hs hcr' hh
   refine⟨d::ds,by simpa using h1,by simp[h2],fun m d' u hm hu=>?_⟩
   cases m with
   | zero=>simp at hm hu;subst hm hu;exact hd
   | succ m=>simp at hm hu;exact h3 m d' u hm hu
  cases c with
  | t x =>
   simp only[cP]at h
   exact fin (.fr x) ⟨hc.1.1,hc.2⟩ (by simpa[Gd.y,Gd.qs,Gd.ts]using h)
  | sref i r p =>
   simp only[cP]at h
   split at h
   ·rename_i x hx
    obtain⟨xs,h1,h2⟩:=aD hx
    obtain⟨xs',x',nd,g1,g2,g3,g4⟩:=hc.1
    rw[hlk _ _ h1]at g1
    cases g1
    rw[h2]at g2
    cases g2
    split at h
    ·refine fin (.tk i r x x) ⟨hc.2,⟨xs,hlk _ _ h1,h2⟩,fun I S hr=>?_⟩ (by simpa[Gd.y,Gd.qs,Gd.ts]using h)
     rw[g3.1];exact hr
    ·obtain⟨y,hy,hf,h⟩:=h
     obtain⟨_,S',r1,_⟩:=hs.at (hlk _ _ h1) h2 g3 hy
     exact fin (.fr y) ⟨jS r1 hf,hc.2⟩ (by simpa[Gd.y,Gd.qs,Gd.ts]using h)
   ·exact h.elim
  | swin i r p lo len =>
   simp only[cP]at h
   split at h
   ·rename_i x hx
    obtain⟨xs,h1,h2⟩:=aD hx
    obtain⟨xs',x',u,nd,g1,g2,g3,g4,g5⟩:=hc.1
    rw[hlk _ _ h1]at g1
    cases g1
    rw[h2]at g2
    cases g2
    split at h
    ·obtain⟨y,hy,h⟩:=h
     refine fin (.tk i r x y) ⟨hc.2,⟨xs,hlk _ _ h1,h2⟩,fun I S hr=>?_⟩ (by simpa[Gd.y,Gd.qs,Gd.ts]using h)
     rw[<-g3.1]at hr
     exact dI hr g3.2 g5 hy
    ·obtain⟨z,hz,y,hy,hf,h⟩:=h
     obtain⟨e1,S',r1,_⟩:=hs.at (hlk _ _ h1) h2 g3 hz
     exact fin (.fr y) ⟨jS (dI r1 e1 g5 hy) hf,hc.2⟩ (by simpa[Gd.y,Gd.qs,Gd.ts]using h)
   ·exact h.elim
  | _=>simp[cP,Prg.hits]at h
theorem oe {T:Type} (hlk:∀i b,look i=some b->st.look i=some b) (hs:al w0 I0 R g st a ov w):∀{cs:List CA} {us:List Value} {k:List TV->List Prim->List (Nat × Nat)->Prg T} {e:T},CR w g st.look cs us->(cm look cs k).hits C e ->
  ∃ds:List Gd,(k (ds.map Gd.y) (ds.flatMap Gd.qs) (ds.flatMap Gd.ts)).hits C e/\ds.length=cs.length/\∀(m:Nat) (d:Gd) (u:Value),ds[m]? = some d->us[m]? = some u->xf w g st.look d u
 | [],us,k,e,hcr,h=>⟨[],h,rfl,fun m d u hd=>by simp at hd⟩
 | c :: l, us, k, e, hcr, h => by
  obtain⟨u0,us',rfl⟩:∃u0 us',us=u0::us':=by
   cases us with
   | nil=>have:=hcr.1;simp at this
   | cons u0 us'=>exact⟨u0,us',rfl⟩
  have hc:=hcr.2 0 c u0 rfl rfl
  have hcr':CR w g st.look l us':=⟨by have:=hcr.1;simpa using this,fun j c' u hc' hu'=>hcr.2 (j+1) c' u (by simpa using hc') (by simpa using hu')⟩
  have fin:∀(d:Gd),xf w g st.look d u0->(cm look l fun xs ps ts=>k (d.y::xs) (d.qs++ps) (d.ts++ts)).hits C e->∃ds:List Gd,(k (ds.map Gd.y) (ds.flatMap Gd.qs) (ds.flatMap Gd.ts)).hits C e/\ds.length=(c::l).length/\∀(m:Nat) (d:Gd) (u:Value),ds[m]? = some d->(u0::us')[m]? = some u->xf w g st.look d u:=by
   intro d hd hh
   obtain⟨ds,h1,h2,h3⟩:=oe hlk hs hcr' hh
   refine⟨d::ds,by simpa using h1,by simp[h2],fun m d' u hm hu=>?_⟩
   cases m with
   | zero=>simp at hm hu;subst hm hu;exact hd
   | succ m=>simp at hm hu;exact h3 m d' u hm hu
  cases c with
  | t x =>
   simp only[cm]at h
   exact fin (.fr x) ⟨hc.1.1,hc.2⟩ (by simpa[Gd.y,Gd.qs,Gd.ts]using h)
  | sref i r p =>
   simp only[cm]at h
   split at h
   ·rename_i x hx
    obtain⟨xs,h1,h2⟩:=aD hx
    obtain⟨xs',x',nd,g1,g2,g3,g4⟩:=hc.1
    rw[hlk _ _ h1]at g1
    cases g1
    rw[h2]at g2
    cases g2
    split at h
    ·refine fin (.tk i r x x) ⟨hc.2,⟨xs,hlk _ _ h1,h2⟩,fun I S hr=>?_⟩ (by simpa[Gd.y,Gd.qs,Gd.ts]using h)
     rw[g3.1];exact hr
    ·obtain⟨y,hy,hb,hb1,h⟩:=h
     simp only[frB,FR]at hb1
     rcases h with⟨hv,h⟩|⟨hv,h⟩
     ·obtain⟨_,S',r1,_⟩:=hs.at (hlk _ _ h1) h2 g3 hy
      exact fin (.fr y) ⟨jS r1 (hb1.trans hv),hc.2⟩ (by simpa[Gd.y,Gd.qs,Gd.ts]using h)
     ·obtain⟨x',hset,h⟩:=h
      exact fin (.td i r _ x y x') ⟨hc.2,⟨xs,hlk _ _ h1,h2⟩,hy,hset,nd,g3⟩ (by simpa[Gd.y,Gd.qs,Gd.ts]using h)
   ·exact h.elim
  | swin i r p lo len =>
   simp only[cm]at h
   split at h
   ·rename_i x hx
    obtain⟨xs,h1,h2⟩:=aD hx
    obtain⟨xs',x',u,nd,g1,g2,g3,g4,g5⟩:=hc.1
    rw[hlk _ _ h1]at g1
    cases g1
    rw[h2]at g2
    cases g2
    split at h
    ·obtain⟨y,hy,h⟩:=h
     refine fin (.tk i r x y) ⟨hc.2,⟨xs,hlk _ _ h1,h2⟩,fun I S hr=>?_⟩ (by simpa[Gd.y,Gd.qs,Gd.ts]using h)
     rw[<-g3.1]at hr
     exact dI hr g3.2 g5 hy
    ·obtain⟨z,hz,y,hy,hf,h⟩:=h
     obtain⟨e1,S',r1,_⟩:=hs.at (hlk _ _ h1) h2 g3 hz
     exact fin (.fr y) ⟨jS (dI r1 e1 g5 hy) hf,hc.2⟩ (by simpa[Gd.y,Gd.qs,Gd.ts]using h)
   ·exact h.elim
  | _=>simp[cm,Prg.hits]at h
theorem eL:∀(ds:List Gd) {us:List Value} {st:ASt} {g:Gh} {R:Nat->Prop},al w0 I0 R g st a ov w->us.length=ds.length->(∀(m:Nat) (d:Gd) (u:Value),ds[m]? = some d->us[m]? = some u->xf w g st.look d u)->gk (ds.flatMap Gd.ts)=true ->
  ∃(st2:ASt) (g2:Gh) (R2:Nat->Prop) (F:Nat->Nat->Prop),ae dst (ds.flatMap Gd.qs) st=some st2/\al w0 I0 R2 g2 st2 a ov w/\g2.I=g.I/\Kept (ds.flatMap Gd.ts) g st g2 st2/\(∀b,R b->R2 b) /\
   (∀(m:Nat) (d:Gd) (u:Value),ds[m]? = some d->us[m]? = some u->aq w g.I d.y u (F m)/\u.oneCell'=true)/\(∀m b,F m b->R2 b/\¬R b)/\(∀m m' b,F m b->F m' b->m=m')
 | [],us,st,g,R,hs,hl,hok,hn=>⟨st,g,R,fun _ _=>False,rfl,hs,rfl,Kept.refl _ _ _,fun _ h=>h,fun m d u hd=>by simp at hd,fun _ _ h=>h.elim,fun _ _ _ h=>h.elim⟩
 | d :: ds, us, st, g, R, hs, hl, hok, hn => by
  obtain⟨u0,us',rfl⟩:∃u0 us',us=u0::us':=by
   cases us with
   | nil=>simp at hl
   | cons u0 us'=>exact⟨u0,us',rfl⟩
  have hl':us'.length=ds.length:=by simpa using hl
  have h0:=hok 0 d u0 rfl rfl
  have hok':∀(m:Nat) (d':Gd) (u:Value),ds[m]? = some d'->us'[m]? = some u->xf w g st.look d' u:=fun m d' u hd hu=>hok (m+1) d' u (by simpa using hd) (by simpa using hu)
  cases d with
  | fr y =>
   obtain⟨st2,g2,R2,F,h1,h2,h3,h4,h5,h6,h7,h8⟩:=eL ds hs hl' hok' (by simpa[Gd.ts]using hn)
   refine⟨st2,g2,R2,fun m b=>match m with|0=>False|m+1=>F m b,by simpa[Gd.qs]using h1,h2,h3,by simpa[Gd.ts]using h4,h5,fun m d u hd hu=>?_,fun m b hb=>?_,fun m m' b hb hb'=>?_⟩
   ·cases m with
    | zero=>simp at hd hu;subst hd hu;exact⟨.fr h0.1,h0.2⟩
    | succ m=>simp at hd hu;exact h6 m d u hd hu
   ·cases m with
    | zero=>exact hb.elim
    | succ m=>exact h7 m b hb
   ·cases m with
    | zero=>exact hb.elim
    | succ m =>
     cases m' with
     | zero=>exact hb'.elim
     | succ m'=>rw[h8 m m' b hb hb']
  | tk i r x y =>
   obtain⟨k1,⟨xs,k2,k3⟩,k4⟩:=h0
   obtain⟨st1,g1,t1,t2,t3,t4,t5,t6⟩:=rO (dst:=dst) hs k2 k3
   have hrep:=k4 _ _ (hs.trees i xs k2 r x k3)
   simp only[List.flatMap_cons,Gd.ts,List.singleton_append,gk,FS,Bool.not_eq_true']at hn
   obtain⟨hn1,hn2⟩:=hn
   have hne:∀d'∈ds,∀i' r',(i',r')∈d'.ts->ic i' r' [(i,r)]=false:=fun d' hm i' r' hin'=>by
    rw[dF]at hn1 ⊢
    intro hin
    simp only[List.mem_singleton,Prod.mk.injEq]at hin
    obtain⟨rfl,rfl⟩:=hin
    exact hn1 (List.mem_flatMap.2 ⟨_,hm,hin'⟩)
   obtain⟨st2,g2,R2,F,h1,h2,h3,h4,h5,h6,h7,h8⟩:=eL ds t2 hl' (fun m d' u hd hu=>by
    have hk:=hok' m d' u hd hu
    have hne2:=hne d' (FZ hd)
    cases d' with
    | fr y'=>exact⟨by rw[t3];exact hk.1,hk.2⟩
    | tk i' r' x' y' =>
     obtain⟨q1,⟨xs',q2,q3⟩,q4⟩:=hk
     obtain⟨xs1,z1,z2,z3,z4⟩:=t4.root i' r' xs' x' (hne2 i' r' (by simp[Gd.ts])) q2 q3
     exact⟨q1,⟨xs1,z1,z2⟩,fun I S hr=>q4 I S (by rw[<-z3];exact hr)⟩
    | td i' r' p' x' y' x2' =>
     obtain⟨q1,⟨xs',q2,q3⟩,q4,q5,nd,q6⟩:=hk
     obtain⟨xs1,z1,z2,z3,z4⟩:=t4.root i' r' xs' x' (hne2 i' r' (by simp[Gd.ts])) q2 q3
     exact⟨q1,⟨xs1,z1,z2⟩,q4,q5,nd,by rw[z3];exact q6⟩) hn2
   refine⟨st2,g2,R2,fun m b=>match m with|0=>g.φ i r b|m+1=>F m b,?_,h2,h3.trans t3,by simpa[Gd.ts]using t4.trans h4,fun b hb=>h5 b (.inl hb),fun m d u hd hu=>?_,fun m b hb=>?_,fun m m' b hb hb'=>?_⟩
   ·simp only[List.flatMap_cons,Gd.qs]
    rw[cV,t1]
    exact h1
   ·cases m with
    | zero=>simp at hd hu;subst hd hu;exact⟨hrep,k1⟩
    | succ m=>simp at hd hu;have:=h6 m d u hd hu;rw[t3]at this;exact this
   ·cases m with
    | zero=>exact⟨h5 b (.inr hb),t5 b hb⟩
    | succ m=>exact⟨(h7 m b hb).1,fun h=>(h7 m b hb).2 (.inl h)⟩
   ·cases m with
    | zero =>
     cases m' with
     | zero=>rfl
     | succ m'=>exact absurd (.inr hb) (h7 m' b hb').2
    | succ m =>
     cases m' with
     | zero=>exact absurd (.inr hb') (h7 m b hb).2
     | succ m'=>rw[h8 m m' b hb hb']
  | td i r p x y x' =>
   obtain⟨k1,⟨xs,k2,k3⟩,k4,k5,nd,k6⟩:=h0
   obtain⟨st1,g1,Sy,t1,t2,t3,t4,t5,hrep⟩:=pZ (dst:=dst) hs k2 k3 k4 k5 k6
   simp only[List.flatMap_cons,Gd.ts,List.singleton_append,gk,FS,Bool.not_eq_true']at hn
   obtain⟨hn1,hn2⟩:=hn
   have hne:∀d'∈ds,∀i' r',(i',r')∈d'.ts->ic i' r' [(i,r)]=false:=fun d' hm i' r' hin'=>by
    rw[dF]at hn1 ⊢
    intro hin
    simp only[List.mem_singleton,Prod.mk.injEq]at hin
    obtain⟨rfl,rfl⟩:=hin
    exact hn1 (List.mem_flatMap.2 ⟨_,hm,hin'⟩)
   obtain⟨st2,g2,R2,F,h1,h2,h3,h4,h5,h6,h7,h8⟩:=eL ds t2 hl' (fun m d' u hd hu=>by
    have hk:=hok' m d' u hd hu
    have hne2:=hne d' (FZ hd)
    cases d' with
    | fr y'=>exact⟨by rw[t3];exact hk.1,hk.2⟩
    | tk i' r' x' y' =>
     obtain⟨q1,⟨xs',q2,q3⟩,q4⟩:=hk
     obtain⟨xs1,z1,z2,z3,z4⟩:=t4.root i' r' xs' x' (hne2 i' r' (by simp[Gd.ts])) q2 q3
     exact⟨q1,⟨xs1,z1,z2⟩,fun I S hr=>q4 I S (by rw[<-z3];exact hr)⟩
    | td i' r' p' x' y' x2' =>
     obtain⟨q1,⟨xs',q2,q3⟩,q4,q5,nd,q6⟩:=hk
     obtain⟨xs1,z1,z2,z3,z4⟩:=t4.root i' r' xs' x' (hne2 i' r' (by simp[Gd.ts])) q2 q3
     exact⟨q1,⟨xs1,z1,z2⟩,q4,q5,nd,by rw[z3];exact q6⟩) hn2
   refine⟨st2,g2,R2,fun m b=>match m with|0=>Sy b|m+1=>F m b,?_,h2,h3.trans t3,by simpa[Gd.ts]using t4.trans h4,fun b hb=>h5 b (.inl hb),fun m d u hd hu=>?_,fun m b hb=>?_,fun m m' b hb hb'=>?_⟩
   ·simp only[List.flatMap_cons,Gd.qs]
    rw[cV,t1]
    exact h1
   ·cases m with
    | zero=>simp at hd hu;subst hd hu;exact⟨hrep,k1⟩
    | succ m=>simp at hd hu;have:=h6 m d u hd hu;rw[t3]at this;exact this
   ·cases m with
    | zero=>exact⟨h5 b (.inr hb),t5 b hb⟩
    | succ m=>exact⟨(h7 m b hb).1,fun h=>(h7 m b hb).2 (.inl h)⟩
   ·cases m with
    | zero =>
     cases m' with
     | zero=>rfl
     | succ m'=>exact absurd (.inr hb) (h7 m' b hb').2
    | succ m =>
     cases m' with
     | zero=>exact absurd (.inr hb') (h7 m b hb).2
     | succ m'=>rw[h8 m m' b hb hb']
end
end Go.Ab
end
section
namespace Go.Ab
open Go.RowKit
section
variable {P:Program} {E:Env} {C:Cal} {w0:Bs} {w w':World} {I0 I R:Nat->Prop} {g g':Gh} {st st':ASt} {a:Act} {ov:List Value} {look:Look} {Q:Exit->Act->World->Prop} {id:Nat}
variable {dst:Option Tmp} {type:TypeId} {pos:String} {after:Array Edge} {guard:Option (Nat × Bool)}
theorem o8 (i r:Nat) (js:List Nat):∀(zs:List Value) (j:Nat) (st:ASt),∃f:CA->CA,ae dst (kv i r js zs j) st=some (st.aE f)/\f .junk=.junk /\
  ∀c,(f c=c/\c.okP (fun i' r' p=>i'=i->r'=r->∀m z,zs[m]? = some z->aF z=true->leads false (js ++ [j+m]) p=false))\/f c=.junk
 | [],j,st=>⟨_root_.id,by rw[ci];rfl,rfl,fun c=>.inl ⟨rfl,by cases c<;>first|trivial|exact fun _ _ m z hz=>by simp at hz⟩⟩
 | z :: zs, j, st => by
  cases hz:aF z with
  | false =>
   obtain⟨f,h1,h0,h2⟩:=o8 i r js zs (j+1) st
   refine⟨f,by simp only[kv,hz,cond_false];exact h1,h0,fun c=>?_⟩
   rcases h2 c with⟨h3,h4⟩|h3
   ·refine .inl ⟨h3,?_⟩
    have key:∀i' r' p,(i'=i->r'=r->∀m z,zs[m]? = some z->aF z=true->leads false (js ++ [j+1+m]) p=false)->(i'=i->r'=r->∀m z',(z::zs)[m]? = some z'->aF z'=true->leads false (js ++ [j+m]) p=false):=by
     intro i' r' p hk e1 e2 m z' hm hs
     cases m with
     | zero=>simp at hm;subst hm;rw[hz]at hs;cases hs
     | succ m=>simp at hm;have:=hk e1 e2 m z' hm hs;rwa[show j+1+m=j+(m+1) by omega]at this
    cases c<;>first|trivial|exact key _ _ _ h4
   ·exact .inr h3
  | true =>
   obtain⟨f,h1,h0,h2⟩:=o8 i r js zs (j+1) (st.aE (CA.drop i r (js ++ [j]) false))
   refine⟨f∘CA.drop i r (js ++ [j]) false,by simp only[kv,hz,cond_true,ae,Prim.app];rw[h1,Bb],by simp[CA.drop,h0],fun c=>?_⟩
   simp only[Function.comp]
   rcases gG i r (js ++ [j]) false c with⟨h3,h4⟩|h3
   ·rw[h3]
    rcases h2 c with⟨h5,h6⟩|h5
    ·refine .inl ⟨h5,?_⟩
     have key:∀i' r' p,(i'=i->r'=r->leads false (js ++ [j]) p=false)->(i'=i->r'=r->∀m z,zs[m]? = some z->aF z=true->leads false (js ++ [j+1+m]) p=false)->(i'=i->r'=r->∀m z',(z::zs)[m]? = some z'->aF z'=true->leads false (js ++ [j+m]) p=false):=by
      intro i' r' p hk0 hk e1 e2 m z' hm hs
      cases m with
      | zero=>exact hk0 e1 e2
      | succ m=>simp at hm;have:=hk e1 e2 m z' hm hs;rwa[show j+1+m=j+(m+1) by omega]at this
     cases c<;>first|trivial|exact key _ _ _ h4 h6
    ·exact .inr h5
   ·rw[h3]
    exact .inr h0
theorem rx (hs:al w0 I0 R g st a ov w) {i r:Nat} {xs:List TV} {x:TV} {p:Way} {k j s n l cap:Nat} {ad:Addr} (hl:st.look i=some (.tree xs)) (hx:xs[r]? = some x)
  (hnode:Node w p x (g.ρ i r) (.slice (some ad) l cap) (some (s,n))) {sl:TV} (hg:a8 p x=some sl) {e:List TV} (he:pel sl k=some e) {zs:List Value} (hz0:0<zs.length) (hfit:cL zs e j=true) {ys:List TV} {us:List Value} (hyl:ys.length=zs.length)
  (hul:us.length=ys.length) {x':TV} (hset:ja p x k j ys=some x') {F:Nat->Nat->Prop} (hp:∀(m:Nat) (y:TV) (u:Value),ys[m]? = some y->us[m]? = some u->aq w g.I y u (F m)/\u.oneCell'=true)
  (hFR:∀m b,F m b->R b) (hFd:∀m m' b,F m b->F m' b->m=m') (f:CA->CA)
  (hf:∀c,(f c=c/\c.okP (fun i' r' q=>i'=i->r'=r->∀m z,zs[m]? = some z->aF z=true->leads false (bv p ++ [j+m]) q=false))\/f c=.junk) :
  ∃w' g',(storeCells (ad.add (k*s+j)) us).run P w=.ok () w'/\al w0 I0 NoR g' ((st.aE f).ac i (some (.tree (ai xs r x')))) a ov w':=by
 have hrl:r<xs.length:=(FP.1 hx).1
 have hfr:∀b,g.φ i r b->Foot g st.look i b:=fun b hb=>.inr ⟨xs,r,hl,hrl,hb⟩
 obtain⟨v,Sy,s1,s2,s3,s4,s5⟩:=(hs.trees i xs hl r x hx).sub hg
 obtain⟨e1,e2⟩:=Node.unique hnode s3
 subst e1
 obtain⟨o,s',ys0,rfl,hke⟩:=sv he
 simp only[TV.nd,FR,Prod.mk.injEq]at e2
 obtain⟨rfl,rfl⟩:=e2
 simp only[ja,hg]at hset
 cases o with
 | false=>simp[uR]at hset
 | true =>
  simp only[uR,hke]at hset
  have hall:∀x∈ys0,x.length=s:=by cases s1 with|fr h=>cases h|sl _ _ _ _ _ _ hl=>exact hl
  have hel:e.length=s:=hall e (FZ hke)
  have hold:∀m,m<zs.length->∃c,e[j+m]? = some c/\(aF zs[m]! = false->c.isSc=true):=fun m hm=>by
   obtain⟨c,h1,h3⟩:=ny hfit m _ (FQ hm)
   rw[getElem!_pos zs m hm]
   exact⟨c,h1,h3⟩
  have hje:j+ys.length<=e.length:=by
   obtain⟨c,h1,_⟩:=hold (zs.length-1) (by omega)
   have:=(FP.1 h1).1
   omega
  rw[fK ys e j hje,ah]at hset
  have hnI:∀b,Sy b->¬g.I b:=fun b hb=>(hs.foot i b (hfr b (s2 b hb))).2.2.1
  obtain⟨a0,cap0,vs,ty,us0,w1,w2,w3,w4⟩:=s1.write hnI
  cases w1
  obtain⟨f1,f2⟩:=wX hall hke hje
  have hofs:k*s+j+us.length<=ys0.length*s:=by rw[<-cz hall];omega
  have hfitv:ad.off+(k*s+j)+us.length<=vs.size:=by
   have h1:=w3.fit
   have h2:=Nat.mul_le_mul_right s w3.le
   omega
  have hone:∀u∈us,u.oneCell'=true:=fun u hu=>by
   obtain⟨m,hm,rfl⟩:=List.mem_iff_getElem.1 hu
   exact(hp m (ys[m]'(by omega)) _ (FQ (by omega)) (FQ hm)).2
  have hst:=run_storeCells_at P ad.block (ad.off+(k*s+j)) ty us 0 vs w w3.heap (by simpa using hfitv) hone
  simp only[Nat.add_zero]at hst
  have hheap:=setRow_heap w ad.block vs (vs.toList.take (ad.off+(k*s+j))++us++vs.toList.drop (ad.off+(k*s+j)+us.length)).toArray ty (0,0) w3.heap
  obtain⟨W,hW⟩:∃W,W=w.setRow ad.block (vs.toList.take (ad.off+(k*s+j))++us++vs.toList.drop (ad.off+(k*s+j)+us.length)).toArray:=⟨_,rfl⟩
  rw[<-hW]at hst hheap
  have hoth:∀b,b≠ad.block->W.heap[b]? = w.heap[b]? := fun b hb=>by rw[hW];exact setRow_other w ad.block b _ hb
  have hablk:w0.New ad.block:=(hs.foot i _ (hfr _ (s2 _ w2))).1
  have hyu:∀(m:Nat) (c:TV),ys[m]? = some c->aq w g.I c (us.getD m undef) (F m):=fun m c hc=>by
   have hm:m<us.length:=by have:=(FP.1 hc).1;omega
   have:=(hp m c us[m] hc (FQ hm)).1
   rw[F7,FQ hm]
   exact this
  obtain⟨n1,n2⟩:=w4 (k*s+j) ys us F W (ys0.set k (spl e j ys)) f2 hul hone hyu (fun m b hb h=>(hs.foot i b (hfr b (s2 b h))).2.2.2 (hFR m b hb)) hFd (by rw[hheap];rfl) hoth (by simp) (AD hall (by rw[ix hje,hel])) f1
  obtain⟨m1,m2⟩:=s5 W g.I (.sl true s (ys0.set k (spl e j ys))) x' _ hset (fun b hb=>hoth b (fun e=>hnI _ w2 (e▸hb))) (fun _ h=>h) (fun b hb hn=>hoth b (fun e=>hn (e▸w2))) n1 (fun b hb hS=>by
   rcases hb with hb|⟨m,hb⟩
   ·exact hb
   ·exact absurd (hFR m b hb) (hs.foot i b (hfr b hS)).2.2.2)
  have hadd:ad.add (k*s+j)=⟨ad.block,ad.off+(k*s+j),none⟩:=wu ad w3.spot _
  rw[<-hadd]at hst
  have hkeep:∀(q:Way) (v':Value) (nd:Option (Nat × Nat)),(∀m z,zs[m]? = some z->aF z=true->leads false (bv p ++ [j+m]) q=false)->nY v'->Node w q x (g.ρ i r) v' nd->Node W q x' (g.ρ i r) v' nd:=by
   intro q v' nd hok hsl hn
   refine m2 q v' nd (fun q' hq' hn'=>n2 q' v' nd (fun k1 j1 q1 hq1 hr1=>?_) hn') hn
   subst hq1
   obtain⟨o2,s2',xs2,a2,n2',cap2,e3,y3,u3,hx3,hu3,he3,hy3,hc3,hn3⟩:=hn'
   cases hx3
   have hj1:j1<s:=by have:=(FP.1 hy3).1;have:=hall e3 (FZ he3);omega
   obtain⟨m,hm⟩:∃m,k1*s+j1=k*s+(j+m):=⟨k1*s+j1-(k*s+j),by omega⟩
   have hmz:m<zs.length:=by omega
   have hjm:j+m<s:=by
    obtain⟨c,h1,_⟩:=hold m hmz
    have:=(FP.1 h1).1
    omega
   obtain⟨d1,d2⟩:=zC hj1 hjm hm
   subst d1 d2
   rw[hke]at he3
   cases he3
   obtain⟨c,h1,h3⟩:=hold m hmz
   rw[hy3]at h1
   cases h1
   cases hz:aF zs[m]! with
   | true =>
    have:=hok m zs[m] (FQ hmz) (by rw[<-getElem!_pos zs m hmz];exact hz)
    rw[hq',sQ]at this
    cases this
   | false =>
    obtain⟨a',cap',u',S2,c1,c2,c3,c4,c5,c6,c7⟩:=s1.child hke hy3
    rw[hu3]at c1
    cases c1
    rw[hc3]at c2
    cases c2
    obtain⟨q1',q2'⟩:=gu c4 (h3 hz)
    cases q1 with
    | nil =>
     obtain⟨b1,b2,b3,hv⟩:=hsl
     rw[hn3.1]at hv
     rw[hv]at q2'
     simp[scV]at q2'
    | cons kj q3 =>
     obtain⟨o4,s4,xs4,a4,n4,cap4,e4,y4,u4,hx4,_⟩:=hn3
     rw[q1']at hx4
     cases hx4
  obtain⟨r1,r2⟩:=hs.gc hl hx f (fun q=>∀m z,zs[m]? = some z->aF z=true->leads false (bv p ++ [j+m]) q=false) hf (R':=NoR) (I':=g.I) m1 hkeep
   (by rw[hW];exact hs.below.setRow hablk _) (by rw[hW];simp) (fun b _ hb _=>hoth b (fun e=>hb (e▸s2 _ w2)))
   (fun b hb => by
    rcases hb with hb|hb|⟨m,hb⟩
    ·exact .inl hb.1
    ·exact .inl (s2 b hb)
    ·exact .inr (.inl (hFR m b hb)))
   (fun b hb => hb.elim) (fun _ h => h) (fun _ h => .inl h) (fun b hb hS => by
    rcases hS with hS|hS|⟨m,hS⟩
    ·exact(hs.foot i b (hfr b hS.1)).2.2.1 hb
    ·exact hnI b hS hb
    ·exact(hs.res b (hFR m b hS)).2.2 hb)
  exact⟨W,_,hst,r1⟩
end
end Go.Ab
end
section
namespace Go.Ab
open Go.RowKit
section
variable {P:Program} {E:Env} {C:Cal} {w0:Bs} {w w':World} {I0 I R:Nat->Prop} {g g':Gh} {st st':ASt} {a:Act} {ov:List Value} {look:Look} {Q:Exit->Act->World->Prop} {id:Nat}
variable {dst:Option Tmp} {type:TypeId} {pos:String} {after:Array Edge} {guard:Option (Nat × Bool)}
theorem kI {v:Value} {cs:List CA} (h:CR w g look cs v.cells.toList):v.cells.size=cs.length:=by simpa using h.1
theorem tD {i:Nat}:∀{l:List (Nat × Nat)},wK i l=true->∀r,ic i r l=false
 | [],_,r=>rfl
 | (a,b)::l,h,r=>by
  simp only[wK]at h
  cases hb:a.beq i with
  | true=>simp[hb]at h
  | false=>simp only[hb,cond_false]at h;simp only[ic,hb,Bool.false_and,cond_false];exact tD h r
theorem gY:∀{zs:List Value},ir zs=false->∀(m:Nat) (z:Value),zs[m]? = some z->aF z=false
 | [],_,m,z,hz=>by simp at hz
 | z0 :: zs, h, m, z, hz => by
  simp only[ir]at h
  cases h0:aF z0 with
  | true=>simp[h0]at h
  | false =>
   simp only[h0,cond_false]at h
   cases m with
   | zero=>simp at hz;subst hz;exact h0
   | succ m=>simp at hz;exact gY h m z hz
theorem qs_nil {ds:List Gd} (h:ds.flatMap Gd.qs=[]):ds.flatMap Gd.ts=[]:=by
 induction ds with
 | nil=>rfl
 | cons d ds ih =>
  cases d with
  | fr y=>simp only[List.flatMap_cons,Gd.qs,Gd.ts,List.nil_append]at h ⊢;exact ih h
  | tk i r x y=>simp[Gd.qs]at h
  | td i r p x y x'=>simp[Gd.qs]at h
theorem C0 (hE : ∀ t d, E.T t = some d → ba P t d) (hlk : ∀ i b, look i = some b → st.look i = some b) (hs : al w0 I0 NoR g st a ov w) {t : TypeId} {x y : Operand} {e : Eff}
  (hh:(opL E id look (.store t x y) [st.ev x,st.ev y]).hits C e) (ha:e.app st dst=some st'):Good P w0 I0 ov ⟨dst,.store t x y,type,pos,after,guard⟩ st' a w Q:=by
 simp only[opL]at hh
 cases hT:E.T t with
 | none=>simp[hT,Prg.hits]at hh
 | some d =>
  simp only[hT]at hh
  have ht:=hE t d hT
  unfold wc at hh
  have hx:=hs.ev x
  have hy:=hs.ev y
  split at hh
  ·rename_i i off len n hxi
   rw[hxi]at hx
   cases hk:d.kd.isAgg with
   | true=>rw[hk]at hh;exact hh.elim
   | false =>
    rw[hk]at hh
    simp only[cond_false]at hh
    split at hh
    ·rename_i cs xs hrow
     obtain⟨hl,hxl,hfit,hget⟩:=jj hrow
     obtain⟨ps,hh,hcr,hps⟩:=eF hy hh
     clear hps
     split at hh
     ·rename_i yv
      cases hh
      have hl2:=hlk i _ hl
      obtain⟨cs',hl',hn,hv⟩:=hx
      rw[hl2]at hl'
      cases hl'
      simp only[Eff.app,FR]at ha
      subst ha
      obtain⟨vs,ty,h4,hcr2⟩:=hs.cells i _ hl2
      have hd1:d.size=1:=ht.one hk
      have hul:(a.eval y).cells.toList.length=1:=hcr.1
      obtain⟨u,hu⟩:∃u,(a.eval y).cells.toList=[u]:=List.length_eq_one_iff.1 hul
      obtain⟨⟨hur,_⟩,hu1⟩:=hcr.2 0 (.t yv) u rfl (by rw[hu];rfl)
      have hvs:vs.toList.length=cs.length:=hcr2.1
      have hfit':off+len<=cs.length:=by rcases hfit with h|h<;>omega
      have hone:∀v∈(a.eval y).cells.toList,v.oneCell'=true:=fun v hv=>by
       rw[hu]at hv
       simp only[List.mem_singleton]at hv
       subst hv
       exact hu1
      have hst:=run_storeCells_at P (g.β i) (off+n) ty (a.eval y).cells.toList 0 vs w h4 (by simp only[Array.length_toList]at hvs;omega) hone
      simp only[Nat.add_zero]at hst
      obtain⟨W,hW⟩:∃W,W=w.setRow (g.β i) (vs.toList.take (off+n)++(a.eval y).cells.toList++vs.toList.drop (off+n+(a.eval y).cells.toList.length)).toArray:=⟨_,rfl⟩
      rw[<-hW]at hst
      have hfi:Foot g st.look i (g.β i):=.inl ⟨cs,hl2,rfl⟩
      refine oL (w':=W) (by simp[execOp,Instr.storeAt,hv,Instr.sureAddr,storeVar,cB ht,kI hcr,hd1,hst]) ⟨g,?_⟩
      refine al.put ?_ dst (v:=.one .undef) rfl
      subst hW
      have hsl:(ib n yv 0 xs).length=len:=by rw[zy];exact hxl
      have hsp:CR w g st.look (bH cs off (ib n yv 0 xs)) (spl vs.toList (off+n) (a.eval y).cells.toList):=by
       have hf1:off+(ib n yv 0 xs).length<=cs.length:=by omega
       have hf2:off+n+(a.eval y).cells.toList.length<=vs.toList.length:=by omega
       rw[fK _ _ _ hf1]
       refine⟨by rw[ix hf1,ix hf2];exact hcr2.1,fun j c v hc hv'=>?_⟩
       rw[cW hf1]at hc
       rw[cW hf2]at hv'
       by_cases hj:off<=j/\j<off+(ib n yv 0 xs).length
       ·rw[if_pos hj,sw]at hc
        cases hxj:xs[j-off]? with
        | none=>rw[hxj]at hc;cases hc
        | some x =>
         rw[hxj]at hc
         simp only[F6,FR,Nat.zero_add]at hc
         subst hc
         have hcx:=hget _ _ hxj
         rw[show off+(j-off)=j by omega]at hcx
         by_cases hjn:j-off=n
         ·rw[if_pos (by rw[hu];simp;omega),hu,show j-(off+n)=0 by omega]at hv'
          simp only[List.getElem?_cons_zero,FR]at hv'
          subst hv'
          simp only[dq,hjn,show Nat.beq n n=true by simp,cond_true]
          exact⟨⟨hur,hu1⟩,hu1⟩
         ·rw[if_neg (by rw[hu];simp;omega)]at hv'
          simp only[dq,show Nat.beq n (j-off)=false from(by cases hbq:Nat.beq n (j-off)with|false=>rfl|true=>exact absurd (Nat.eq_of_beq_eq_true hbq).symm hjn),cond_false]
          exact hcr2.2 j _ v hcx hv'
       ·rw[if_neg hj]at hc
        rw[if_neg (by rw[hu];simp;omega)]at hv'
        exact hcr2.2 j c v hc hv'
      exact hs.gd hl2 (vs':=(vs.toList.take (off+n)++(a.eval y).cells.toList++vs.toList.drop (off+n+(a.eval y).cells.toList.length)).toArray) (ty:=ty) (hs.below.setRow (hs.foot i _ hfi).1 _) (by simp)
       (fun b hb=>setRow_other w (g.β i) b _ hb) (setRow_heap w (g.β i) vs _ ty (0,0) h4) ⟨_,_,h4⟩ (by simpa[spl]using hsp)
     ·exact hh.elim
    ·exact hh.elim
  ·rename_i i off hxi
   rw[hxi]at hx
   obtain⟨ps,hh,hcr,_⟩:=eF hy hh
   split at hh
   ·rename_i cs hl
    have hl2:=hlk i _ hl
    obtain⟨cs',hl',hv⟩:=hx
    rw[hl2]at hl'
    cases hl'
    cases hc:(off+ps.length).ble cs.length&&ps.length.beq d.size with
    | false=>simp[hc,Prg.hits]at hh
    | true =>
     simp only[hc,cond_true]at hh
     cases hh
     simp only[FS]at hc
     have hc1:off+ps.length<=cs.length:=by simpa using hc.1
     have hc2:ps.length=d.size:=by simpa using hc.2
     simp only[Eff.app,FR]at ha
     subst ha
     obtain⟨vs,ty,h4,hcr2⟩:=hs.cells i _ hl2
     have hvl:(a.eval y).cells.toList.length=ps.length:=hcr.1
     have hvs:vs.toList.length=cs.length:=hcr2.1
     have hone:∀u∈(a.eval y).cells.toList,u.oneCell'=true:=fun u hu=>by
      obtain⟨j,hj,rfl⟩:=List.mem_iff_getElem.1 hu
      exact(hcr.2 j (ps[j]'(by omega)) _ (FQ (by omega)) (FQ hj)).2
     have hst:=run_storeCells_at P (g.β i) off ty (a.eval y).cells.toList 0 vs w h4 (by simp only[Array.length_toList]at hvs;omega) hone
     simp only[Nat.add_zero]at hst
     obtain⟨W,hW⟩:∃W,W=w.setRow (g.β i) (vs.toList.take off++(a.eval y).cells.toList++vs.toList.drop (off+(a.eval y).cells.toList.length)).toArray:=⟨_,rfl⟩
     rw[<-hW]at hst
     have hfi:Foot g st.look i (g.β i):=.inl ⟨cs,hl2,rfl⟩
     refine oL (w':=W) (by simp[execOp,Instr.storeAt,hv,Instr.sureAddr,storeVar,cB ht,kI hcr,hc2,hst]) ⟨g,?_⟩
     refine al.put ?_ dst (v:=.one .undef) rfl
     have hsp:=hcr2.spl hcr off
     rw[<-fK ps cs off hc1]at hsp
     subst hW
     exact hs.gd hl2 (vs':=(vs.toList.take off++(a.eval y).cells.toList++vs.toList.drop (off+(a.eval y).cells.toList.length)).toArray) (ty:=ty) (hs.below.setRow (hs.foot i _ hfi).1 _) (by simp)
      (fun b hb=>setRow_other w (g.β i) b _ hb) (setRow_heap w (g.β i) vs _ ty (0,0) h4) ⟨_,_,h4⟩ (by simpa[spl]using hsp)
   ·exact hh.elim
  ·rename_i i r p k j hxi
   rw[hxi]at hx
   obtain⟨ps,hh,hcr,_⟩:=eF hy hh
   split at hh
   ·rename_i x0 hx0
    obtain⟨xs,hl,hxr⟩:=aD hx0
    have hl2:=hlk i _ hl
    obtain⟨xs',x',ad,l,cap,s,n,hl',hx',hnode,hk,hv⟩:=hx
    rw[hl2]at hl'
    cases hl'
    rw[hxr]at hx'
    cases hx'
    cases hd0:Nat.blt 0 d.size with
    | false=>simp[hd0,Prg.hits]at hh
    | true =>
     have hd0:0<d.size:=by simpa using hd0
     simp only[show Nat.blt 0 d.size=true by simpa using hd0,Bool.not_true,cond_false]at hh
     have hzl:=ht.zlen
     cases hsl:ir d.zero with
     | true =>
      simp only[hsl,cond_true]at hh
      obtain⟨ds,hh,hdl,hok⟩:=lB hlk hs hcr hh
      cases hc:gk (ds.flatMap Gd.ts)&&wK i (ds.flatMap Gd.ts)&&(ds.map Gd.y).length.beq d.size with
      | false=>simp only[hc,cond_false]at hh;exact hh.elim
      | true =>
       simp only[hc,cond_true]at hh
       simp only[FS]at hc
       obtain⟨⟨hc1,hc2⟩,hc3⟩:=hc
       have hc3:ds.length=d.size:=by simpa using hc3
       obtain⟨sl,hg,hh⟩:=dP hh
       obtain⟨el,hel,hfit,x1,hset,hh⟩:=hh
       cases hh
       simp only[FS]at hfit
       have hul:(a.eval y).cells.toList.length=ds.length:=by rw[hcr.1,hdl]
       obtain⟨st2,g2,R2,F,q1,q2,q3,q4,q5,q6,q7,q8⟩:=eL (dst:=dst) ds hs hul hok hc1
       obtain⟨t1,t2,t3⟩:=q4.tree i xs (tD hc2) hl2
       obtain⟨f,f1,f0,f2⟩:=o8 (dst:=dst) i r (bv p) d.zero j st2
       obtain⟨w',g',hst,hsim⟩:=rx (P:=P) q2 t1 hxr (by rw[t2];exact hnode) hg hel (zs:=d.zero) (by omega) hfit.1 (ys:=ds.map Gd.y) (us:=(a.eval y).cells.toList) (by simp;omega) (by simpa using hul) hset (F:=F)
        (fun m y' u hy' hu => by
         rw[FW]at hy'
         cases hdm:ds[m]? with
         | none=>simp[hdm]at hy'
         | some dd =>
          simp only[hdm,F6,FR]at hy'
          subst hy'
          rw[q3]
          exact q6 m dd u hdm hu)
        (fun m b hb=>(q7 m b hb).1) q8 f f2
       have happ:ae dst (ds.flatMap Gd.qs++kv i r (bv p) d.zero j ++ [.root i r x1]) st=some ((st2.aE f).ac i (some (.tree (ai xs r x1)))):=by
        rw[List.append_assoc,cV,q1,Option.bind_some,cV,f1,Option.bind_some]
        have hlm:(st2.aE f).look i=some (.tree xs):=by rw[aS,t1];rfl
        simp only[ae,Prim.app,dB hlm]
       simp only[Eff.app,happ,FR]at ha
       subst ha
       refine oL (w':=w') ?_ ⟨g',hsim.put dst (v:=.one .undef) rfl⟩
       simp[execOp,Instr.storeAt,hv,Instr.sureAddr,storeVar,cB ht,kI hcr,<-hdl,hc3,hst]
     | false =>
      simp only[hsl,cond_false]at hh
      obtain⟨ds,hh,hdl,hok⟩:=lB hlk hs hcr hh
      split at hh
      ·rename_i hqs
       have hts:=qs_nil hqs
       cases hc:(ds.map Gd.y).length.beq d.size with
       | false=>simp only[hc,cond_false]at hh;exact hh.elim
       | true =>
        simp only[hc,cond_true]at hh
        have hc3:ds.length=d.size:=by simpa using hc
        obtain⟨sl,hg,hh⟩:=dP hh
        obtain⟨el,hel,hfit,x1,hset,hh⟩:=hh
        simp only[dB hl]at hh
        cases hh
        have hul:(a.eval y).cells.toList.length=ds.length:=by rw[hcr.1,hdl]
        obtain⟨st2,g2,R2,F,q1,q2,q3,q4,q5,q6,q7,q8⟩:=eL (dst:=dst) ds hs hul hok (by rw[hts];rfl)
        rw[hqs]at q1
        simp only[ae,FR]at q1
        subst q1
        obtain⟨t1,t2,t3⟩:=q4.tree i xs (fun r=>by rw[hts];rfl) hl2
        obtain⟨w',g',hst,hsim⟩:=rx (P:=P) q2 t1 hxr (by rw[t2];exact hnode) hg hel (zs:=d.zero) (by omega) (rY hfit) (ys:=ds.map Gd.y) (us:=(a.eval y).cells.toList) (by simp;omega) (by simpa using hul) hset (F:=F)
         (fun m y' u hy' hu => by
          rw[FW]at hy'
          cases hdm:ds[m]? with
          | none=>simp[hdm]at hy'
          | some dd =>
           simp only[hdm,F6,FR]at hy'
           subst hy'
           rw[q3]
           exact q6 m dd u hdm hu)
         (fun m b hb => (q7 m b hb).1) q8 _root_.id (fun c => .inl ⟨rfl, by
          have key:∀(q:Way),∀m z,d.zero[m]? = some z->aF z=true->leads false (bv p ++ [j+m]) q=false:=fun q m z hz hs'=>by
           rw[gY hsl m z hz]at hs';cases hs'
          cases c<;>first|trivial|exact fun _ _=>key _⟩)
        simp only[Eff.app,FR]at ha
        subst ha
        rw[ci]at hsim
        refine oL (w':=w') ?_ ⟨g',hsim.put dst (v:=.one .undef) rfl⟩
        simp[execOp,Instr.storeAt,hv,Instr.sureAddr,storeVar,cB ht,kI hcr,<-hdl,hc3,hst]
      ·exact hh.elim
   ·exact hh.elim
  ·exact hh.elim
end
end Go.Ab
end

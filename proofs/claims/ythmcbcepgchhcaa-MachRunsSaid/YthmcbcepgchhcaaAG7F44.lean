import Derived.Test.YthmcbcepgchhcaaAG7F41
section
set_option linter.unusedVariables false
set_option maxRecDepth 10000
namespace Go.Ab
def zBlk:List Value:=[.bool false,.int .i64 0,.slice none 0 0,.bool false,.bool false,.slice none 0 0,.int .i64 0,.int .i64 0,.int .i64 0,.int .i64 0,.slice none 0 0,.int .i64 0,.int .i64 0,.int .i64 0]
theorem fit_block {q:Option Bool} {e:List TV} {b:DBlock} (h:RBlock q e b):(Bool.and ((TV.agg e).isAgg 14) (fitsAt zBlk ((TV.agg e).cellsL true) 0))=true:=by
 obtain ⟨c,is,ga,rfl,hc,hdi,his,hga,_⟩:=h
 simp [fitsAt,TV.isAgg,TV.cellsL,zBlk,isSlV,hc.isSl,his.isSl,hga.isSl,TV.isSc,scV]
def catchP (m:DMod) (f:DFrame) (w:Int) (cl:Bool):Prop :=
 ∃ u b p,m.funcs[f.f.toNat]? = some u∧u.blocks[f.block.toNat]? = some b∧f.at_=b.ins.length∧b.fin.kind=4∧u.blocks[b.fin.pad.toNat]? = some p∧((p.pad.all=true∨w ∈ p.pad.catches)∨cl=true∧p.pad.cleanup=true)
theorem catchP.more {m:DMod} {f:DFrame} {w:Int} (h:catchP m f w false):catchP m f w true:=by
 obtain ⟨u,b,p,h1,h2,h3,h4,h5,h6⟩:=h
 refine ⟨u,b,p,h1,h2,h3,h4,h5,.inl ?_⟩
 rcases h6 with h | ⟨h,_⟩
 ·exact h
 ·cases h
open Classical in
noncomputable def lastAt (P:Nat→Prop):Nat→Option Nat
 | 0=>none
 | n + 1=>if P n then some n else lastAt P n
theorem lastAt_eq {P:Nat→Prop} {k:Nat} (h:P k):∀ {n:Nat},k < n→(∀ j,k < j→j < n→¬ P j)→lastAt P n=some k
 | 0,hk,_=>absurd hk (Nat.not_lt_zero _)
 | n + 1, hk, hn => by
  by_cases he:k=n
  ·subst he
   simp [lastAt,h]
  ·simp only [lastAt]
   rw [if_neg (hn n (by omega) (by omega))]
   exact lastAt_eq h (by omega) fun j h1 h2=>hn j h1 (by omega)
def padOf (m:DMod) (f:DFrame):Int:=((((m.funcs[f.f.toNat]?).bind fun u=>u.blocks[f.block.toNat]?).map fun b=>b.fin.pad).getD 0)
def catchAt (m:DMod) (l:List DFrame) (w:Int) (cl:Bool) (i:Nat):Prop:=∃ f,l[i]? = some f∧catchP m f w cl
open Classical in
noncomputable def thrownT (m:DMod) (s:DMach) (w:Int):DMach :=
 if ∃ i,catchAt m (s.stack.take (s.stack.length - 1)) w false i then
  match lastAt (catchAt m (s.stack.take (s.stack.length - 1)) w true) (s.stack.length - 1) with
  | none=>s
  | some k=>match s.stack[k]? with
   | none=>s
   | some f=>withT { s with stack:=s.stack.take (k + 1) } ((landT m f (padOf m f) w).getD f)
 else endedT { s with stack:=s.stack.take (s.stack.length - 1) } 2 w
end Go.Ab
namespace Go.Ab.G7
open Go Go.Ab Go.Proofs
theorem mod_block {m:DMod} {g:DFunc} {b:DBlock} {n k:Nat} (h:modP m) (hg:m.funcs[n]? = some g) (hb:g.blocks[k]? = some b):blockP m.funcs g.regs g.blocks b :=
 (mod_func h hg).2.2.2 k (List.getElem?_eq_some_iff.1 hb).1 b hb
theorem mod_pad {m:DMod} {g:DFunc} {b:DBlock} {n k:Nat} (h:modP m) (hg:m.funcs[n]? = some g) (hb:g.blocks[k]? = some b) (h4:b.fin.kind=4):goalAt g.blocks b.fin.pad true:=by
 have:=(mod_block h hg hb).2.2.2.2.2.2.2.2.2.1
 rw [h4] at this
 exact this rfl
theorem frame_len {m:DMod} {f:DFrame} (h:modP m) (hQ:frameQ m f):f.regs.length≤256:=by
 obtain ⟨h0,u,hu,hL,_⟩:=hQ
 have:=mod_regs h hu
 omega
theorem rCatcher {q q':Option Bool} {e e':List TV} {m:DMod} {f:DFrame} {w:Int} {cl:Bool} (hm:RMod q e m) (hM:modP m) (hf:RFrame q' e' f) (hQ:frameQ m f) :
  Runs prog 94 [.agg e,.agg e',W w,B cl] (B (tt (catchP m f w cl))):=by
 obtain ⟨h0,u,hu,hL,hb0,b,hb,ha0,ha1⟩:=hQ
 obtain ⟨eb,hrs,hrb⟩:=rStands hm hf h0 hu hb0 hb
 have hfit:=fit_block hrb
 obtain ⟨y,rfl,hy⟩:=hm
 obtain ⟨g,rfl,hg,ho⟩:=hf
 obtain ⟨c,is,ga,rfl,hc,hdi,his,hga,_⟩:=hrb
 refine Runs.of (f94_MR _ _ _ _) ?_
 unfold f94_M
 by_cases hat:f.at_=(b.ins.length:Int)
 rotate_left
 ·rw [tt_false hat] at hrs
  refine Goes.chk rfl (Goes.chk rfl (Goes.call hrs (Goes.chk rfl (Goes.chk hfit (Goes.chk rfl (Goes.tv rfl (Goes.ite rfl (fun _=>?_) fun h=>nomatch h)))))))
  refine ret_no ?_
  rintro ⟨u',b',p,hu',hb',h,_⟩
  rw [hu] at hu'
  cases hu'
  rw [hb] at hb'
  cases hb'
  exact hat h
 rw [tt_true hat] at hrs
 refine Goes.chk rfl (Goes.chk rfl (Goes.call hrs (Goes.chk rfl (Goes.chk hfit (Goes.chk rfl (Goes.tv rfl (Goes.ite rfl (fun h=>nomatch h) fun _=>?_)))))))
 refine Goes.tv rfl (Goes.ite rfl (fun h=>?_) fun h=>?_)
 ·have h:¬ b.fin.kind=4:=by simpa [TV.cell,TV.comp,nth] using h
  refine ret_no ?_
  rintro ⟨u',b',p,hu',hb',_,h',_⟩
  rw [hu] at hu'
  cases hu'
  rw [hb] at hb'
  cases hb'
  exact h h'
 have h4:b.fin.kind=4:=by simpa [TV.cell,TV.comp,nth] using h
 obtain ⟨hp0,p,hp,_⟩:=mod_pad hM hu hb h4
 obtain ⟨eu,heu,hru⟩:=hy.idxI (k:=.i64) h0 hu
 obtain ⟨bs,rfl,hbs,_⟩:=hru
 obtain ⟨ep,hep,hrp⟩:=hbs.idxI (k:=.i64) hp0 hp
 obtain ⟨c2,is2,ga2,rfl,hc2,hdi2,_⟩:=hrp
 have hcat:=rCatches' (w:=w) (q:=q) (e:=[I p.pad.dst,c2,B p.pad.all,B p.pad.cleanup]) (p:=p.pad) ⟨_,rfl,hc2,hdi2⟩
 refine Goes.tvs heu (Goes.chk rfl (Goes.tvs hep (Goes.chk rfl (Goes.call hcat (Goes.chk rfl ?_)))))
 have hiff:catchP m f w cl ↔ ((p.pad.all=true∨w ∈ p.pad.catches)∨cl=true∧p.pad.cleanup=true):=by
  constructor
  ·rintro ⟨u',b',p',hu',hb',_,_,hp',h⟩
   rw [hu] at hu'
   cases hu'
   rw [hb] at hb'
   cases hb'
   rw [hp] at hp'
   cases hp'
   exact h
  ·exact fun h=>⟨u,b,p,hu,hb,hat,h4,hp,h⟩
 rw [tt_congr hiff]
 by_cases hc:p.pad.all=true∨w ∈ p.pad.catches
 ·rw [tt_true hc]
  refine Goes.ite rfl (fun _=>?_) fun h=>nomatch h
  exact ret_yes (.inl hc)
 rw [tt_false hc]
 refine Goes.ite rfl (fun h=>nomatch h) fun _=>?_
 cases cl with
 | true =>
  refine Goes.ite rfl (fun _=>?_) fun h=>nomatch h
  apply ret_tt
  simp [hc]
 | false =>
  refine Goes.ite rfl (fun h=>nomatch h) fun _=>?_
  exact ret_no fun h=>by
   rcases h with h | ⟨h,_⟩
   ·exact hc h
   ·cases h
theorem rThrown {q:Option Bool} {e e':List TV} {m:DMod} {s:DMach} {w:Int} (hm:RMod q e m) (hM:modP m) (hs:RMach e' s) (hw:inW w) (h0:0 < s.stack.length) (hl:s.stack.length≤4294967296) (hQ:∀ (k:Nat) f,s.stack[k]? = some f→frameQ m f) :
  ∃ e2,Runs prog 68 [.agg e,.agg e',W w] (.agg e2)∧RMach e2 (thrownT m s w):=by
 obtain ⟨g,i,v,rfl,hg,hi,hv,ho⟩:=hs
 obtain ⟨st,hst,hrst⟩:=hg.slice (t:=47) (lo:=none) (hi:=some (s.stack.length - 1)) (by simp) (by simp)
 have hrst:RL none 5 (RFrame none) st (s.stack.take (s.stack.length - 1)):=by simpa using hrst
 have hm':=hm
 obtain ⟨y,rfl,hy⟩:=hm
 generalize hTe:s.stack.take (s.stack.length - 1)=t at hrst
 have htl:t.length=s.stack.length - 1:=by rw [← hTe]; simp
 have hQt:∀ (k:Nat) f,t[k]? = some f→frameQ m f:=by
  intro k f hk
  rw [← hTe,List.getElem?_take] at hk
  split at hk
  ·exact hQ k f hk
  ·cases hk
 have s1:∀ {r:TV},Goes prog 68 (f68_0 (W w) (I (0:Nat)) y st (W (s.c 0)) (W (s.c 1)) (W (s.c 2)) (W (s.c 3)) (W (s.c 4)) (W (s.c 5)) (W (s.c 6)) (W (s.c 7)) (W (s.c 8)) (W (s.c 9)) (W (s.c 10)) (W (s.c 11)) (W (s.c 12)) (W (s.c 13)) (W (s.c 14)) (W (s.c 15)) i v (I s.done) (W s.value)) r→Runs prog 68 [.agg [y],.agg (machCells s g i v),W w] r:=by
  intro r hr
  refine Runs.of (f68_MR _ _ _) ?_
  unfold f68_M
  exact Goes.chk rfl (Goes.chk rfl (Goes.tv (RL.len hg) (Goes.tv (dec h0 (by omega)) (Goes.nat (asNat_of (by omega)) (Goes.tv hst (f68_0_J hr))))))
 have outer:∀ {r:TV},((∀ j,¬ catchAt m t w false j)→Goes prog 68 (f68_2 (W w) st (W (s.c 0)) (W (s.c 1)) (W (s.c 2)) (W (s.c 3)) (W (s.c 4)) (W (s.c 5)) (W (s.c 6)) (W (s.c 7)) (W (s.c 8)) (W (s.c 9)) (W (s.c 10)) (W (s.c 11)) (W (s.c 12)) (W (s.c 13)) (W (s.c 14)) (W (s.c 15)) i v (I s.done) (W s.value)) r) →
   ((∃ j,catchAt m t w false j)→Goes prog 68 (f68_1 (W w) (I ((t.length - 1:Nat):Int)) y st (W (s.c 0)) (W (s.c 1)) (W (s.c 2)) (W (s.c 3)) (W (s.c 4)) (W (s.c 5)) (W (s.c 6)) (W (s.c 7)) (W (s.c 8)) (W (s.c 9)) (W (s.c 10)) (W (s.c 11)) (W (s.c 12)) (W (s.c 13)) (W (s.c 14)) (W (s.c 15)) i v (I s.done) (W s.value)) r) →
   ∀ d k,k + d=t.length→(∀ j,j < k→¬ catchAt m t w false j)→Goes prog 68 (f68_0 (W w) (I (k:Int)) y st (W (s.c 0)) (W (s.c 1)) (W (s.c 2)) (W (s.c 3)) (W (s.c 4)) (W (s.c 5)) (W (s.c 6)) (W (s.c 7)) (W (s.c 8)) (W (s.c 9)) (W (s.c 10)) (W (s.c 11)) (W (s.c 12)) (W (s.c 13)) (W (s.c 14)) (W (s.c 15)) i v (I s.done) (W s.value)) r:=by
  intro r hno hyes d
  induction d with
  | zero =>
   intro k hk hn
   have hk:k=t.length:=by omega
   subst hk
   unfold f68_0
   refine Goes.tv (RL.len (by assumption)) (Goes.tv rfl (Goes.ite asB_end (fun h=>nomatch h) fun _=>?_))
   refine f68_2_J (hno fun j hj=>?_)
   by_cases hlt:j < t.length
   ·exact hn j hlt hj
   ·obtain ⟨f,hf,_⟩:=hj
    exact hlt (List.getElem?_eq_some_iff.1 hf).1
  | succ d ih =>
   intro k hk hn
   have hlt:k < t.length:=by omega
   have hkf:t[k]? = some t[k]:=List.getElem?_eq_getElem hlt
   obtain ⟨ef,hef,hrf⟩:=hrst.idx (k:=.i64) hkf
   have hcat:=rCatcher (w:=w) (cl:=false) hm' hM hrf (hQt k _ hkf)
   obtain ⟨gr,rfl,hgr,hof⟩:=hrf
   unfold f68_0
   refine Goes.tv (RL.len (by assumption)) (Goes.tv rfl (Goes.ite (asB_lt hlt) (fun _=>?_) fun h=>nomatch h))
   refine Goes.tvs hef (Goes.chk rfl (Goes.call hcat (Goes.chk rfl ?_)))
   by_cases hc:catchP m t[k] w false
   ·rw [tt_true hc]
    refine Goes.ite rfl (fun _=>?_) fun h=>nomatch h
    exact Goes.tv (RL.len hrst) (Goes.tv (dec (by omega) (by omega)) (f68_1_J (hyes ⟨k,_,hkf,hc⟩)))
   ·rw [tt_false hc]
    refine Goes.ite rfl (fun h=>nomatch h) fun _=>?_
    refine Goes.tv (inc hlt hrst.bnd) (f68_0_J (ih (k + 1) (by omega) fun j hj=>?_))
    by_cases hjk:j < k
    ·exact hn j hjk
    ·have:j=k:=by omega
     subst this
     rintro ⟨f,hf,h⟩
     rw [hkf] at hf
     cases hf
     exact hc h
 have inner:∀ {r:TV},(∀ k,k < t.length→catchAt m t w true k→(∀ j,k < j→j < t.length→¬ catchAt m t w true j)→Goes prog 68 (f68_3 (W w) (I (k:Int)) y st (W (s.c 0)) (W (s.c 1)) (W (s.c 2)) (W (s.c 3)) (W (s.c 4)) (W (s.c 5)) (W (s.c 6)) (W (s.c 7)) (W (s.c 8)) (W (s.c 9)) (W (s.c 10)) (W (s.c 11)) (W (s.c 12)) (W (s.c 13)) (W (s.c 14)) (W (s.c 15)) i v (I s.done) (W s.value)) r) →
   ∀ k,k < t.length→(∃ j,j≤k∧catchAt m t w true j)→(∀ j,k < j→j < t.length→¬ catchAt m t w true j)→Goes prog 68 (f68_1 (W w) (I (k:Int)) y st (W (s.c 0)) (W (s.c 1)) (W (s.c 2)) (W (s.c 3)) (W (s.c 4)) (W (s.c 5)) (W (s.c 6)) (W (s.c 7)) (W (s.c 8)) (W (s.c 9)) (W (s.c 10)) (W (s.c 11)) (W (s.c 12)) (W (s.c 13)) (W (s.c 14)) (W (s.c 15)) i v (I s.done) (W s.value)) r:=by
  intro r hyes k
  induction k with
  | zero =>
   intro hlt hex hn
   obtain ⟨j,hj,hc⟩:=hex
   have hj:j=0:=by omega
   subst hj
   have hc':=hc
   obtain ⟨f,hkf,hc⟩:=hc
   obtain ⟨ef,hef,hrf⟩:=hrst.idx (k:=.i64) hkf
   have hcat:=rCatcher (w:=w) (cl:=true) hm' hM hrf (hQt _ _ hkf)
   obtain ⟨gr,rfl,hgr,hof⟩:=hrf
   rw [tt_true hc] at hcat
   unfold f68_1
   refine Goes.tvs hef (Goes.chk rfl (Goes.call hcat (Goes.chk rfl (Goes.tv rfl (Goes.ite rfl (fun h=>nomatch h) fun _=>?_)))))
   exact f68_3_J (hyes 0 hlt hc' hn)
  | succ k ih =>
   intro hlt hex hn
   have hkf:t[k + 1]? = some t[k + 1]:=List.getElem?_eq_getElem hlt
   obtain ⟨ef,hef,hrf⟩:=hrst.idx (k:=.i64) hkf
   have hcat:=rCatcher (w:=w) (cl:=true) hm' hM hrf (hQt _ _ hkf)
   obtain ⟨gr,rfl,hgr,hof⟩:=hrf
   unfold f68_1
   refine Goes.tvs hef (Goes.chk rfl (Goes.call hcat (Goes.chk rfl ?_)))
   by_cases hc:catchP m t[k + 1] w true
   ·rw [tt_true hc]
    refine Goes.tv rfl (Goes.ite rfl (fun h=>nomatch h) fun _=>?_)
    exact f68_3_J (hyes (k + 1) hlt ⟨_,hkf,hc⟩ hn)
   ·rw [tt_false hc]
    refine Goes.tv rfl (Goes.ite rfl (fun _=>?_) fun h=>nomatch h)
    have hno:¬ catchAt m t w true (k + 1):=by
     rintro ⟨f,hf,h⟩
     rw [hkf] at hf
     cases hf
     exact hc h
    refine Goes.tv (dec (by omega) (by have:=hrst.bnd; omega)) (f68_1_J (ih (by omega) ?_ ?_))
    ·obtain ⟨j,hj,h⟩:=hex
     refine ⟨j,?_,h⟩
     by_cases hjk:j=k + 1
     ·subst hjk; exact absurd h hno
     ·omega
    ·intro j h1 h2
     by_cases hjk:j=k + 1
     ·subst hjk; exact hno
     ·exact hn j (by omega) h2
 by_cases hC:∃ j,catchAt m t w false j
 rotate_left
 ·have hT:thrownT m s w=endedT { s with stack:=t } 2 w:=by
   unfold thrownT
   rw [if_neg (by rw [hTe]; exact hC),hTe]
  rw [hT]
  obtain ⟨e2,hr2,h2⟩:=rEnded (e:=machCells { s with stack:=t } st i v) (s:={ s with stack:=t }) (how:=2) (w:=w) ⟨st,i,v,rfl,hrst,hi,hv,ho⟩ ⟨by decide,by decide⟩ hw
  refine ⟨e2,s1 (outer (fun _=>?_) (fun h=>absurd h hC) t.length 0 (by omega) fun j hj=>by omega),h2⟩
  obtain ⟨g2,i2,v2,rfl,hg2,hi2,hv2,ho2⟩:=h2
  unfold f68_2
  exact Goes.call hr2 (Goes.chk (fit_mach hg2.isSl hi2.isSl hv2.isSl) Goes.ret)
 obtain ⟨j0,hj0⟩:=hC
 have hj1:j0 < t.length:=by
  obtain ⟨f,hf,_⟩:=hj0
  exact (List.getElem?_eq_some_iff.1 hf).1
 have hup:catchAt m t w true j0:=by
  obtain ⟨f,hf,h⟩:=hj0
  exact ⟨f,hf,h.more⟩
 have hbig : ∃ k, k < t.length ∧ catchAt m t w true k ∧ ∀ j, k < j → j < t.length → ¬ catchAt m t w true j := by
  have key:∀ n,n≤t.length→(∃ j,j < n∧catchAt m t w true j)→∃ k,k < n∧catchAt m t w true k∧∀ j,k < j→j < n→¬ catchAt m t w true j:=by
   intro n
   induction n with
   | zero=>intro _ ⟨j,hj,_⟩; omega
   | succ n ih =>
    intro hn ⟨j,hj,hjc⟩
    by_cases hc:catchAt m t w true n
    ·exact ⟨n,by omega,hc,fun j h1 h2=>by omega⟩
    ·have hjn:j < n:=by
      by_cases h:j=n
      ·subst h; exact absurd hjc hc
      ·omega
     obtain ⟨k,hk,hkc,hkn⟩:=ih (by omega) ⟨j,hjn,hjc⟩
     refine ⟨k,by omega,hkc,fun j h1 h2=>?_⟩
     by_cases h:j=n
     ·subst h; exact hc
     ·exact hkn j h1 (by omega)
  exact key t.length (Nat.le_refl _) ⟨j0,hj1,hup⟩
 obtain ⟨k,hk,hkc,hkn⟩:=hbig
 have hlast:lastAt (catchAt m t w true) (s.stack.length - 1)=some k:=by
  rw [← htl]
  exact lastAt_eq hkc hk hkn
 obtain ⟨f,hkf,hcf⟩:=id hkc
 have hsk:s.stack[k]? = some f:=by
  rw [← hTe,List.getElem?_take] at hkf
  split at hkf
  ·exact hkf
  ·cases hkf
 have hT:thrownT m s w=withT { s with stack:=s.stack.take (k + 1) } ((landT m f (padOf m f) w).getD f):=by
  unfold thrownT
  rw [if_pos ⟨j0,by rw [hTe]; exact hj0⟩]
  simp only [hTe,hlast,hsk]
 have htk:t.take (k + 1)=s.stack.take (k + 1):=by
  rw [← hTe,List.take_take]
  congr 1
  omega
 rw [hT]
 have hQf:=hQt k f hkf
 obtain ⟨u,b,p,hu,hb,hat,h4,hp,_⟩:=hcf
 obtain ⟨hf0,u',hu',hL',hb0,b',hb',_⟩:=id hQf
 obtain ⟨hp0,_⟩:=mod_pad hM hu hb h4
 have hpad:padOf m f=b.fin.pad:=by simp [padOf,hu,hb]
 rw [hpad]
 obtain ⟨v18,hv18,hr18⟩:=hrst.slice (t:=47) (lo:=none) (hi:=some (k + 1)) (by simp) (by simp; omega)
 have hr18:RL none 5 (RFrame none) v18 (s.stack.take (k + 1)):=by
  rw [← htk]
  simpa using hr18
 have hk18:(s.stack.take (k + 1))[k]? = some f:=by
  rw [← htk,List.getElem?_take]
  simp [hkf]
 obtain ⟨ef,hef,hrf⟩:=hr18.idx (k:=.i64) hk18
 obtain ⟨eu,heu,hru⟩:=hy.idxI (k:=.i64) hf0 hu
 obtain ⟨bs,rfl,hbs,_⟩:=hru
 obtain ⟨eb,heb,hrb⟩:=hbs.idxI (k:=.i64) hb0 hb
 obtain ⟨c,is,ga,rfl,hc,hdi,his,hga,hfo⟩:=hrb
 have hreg:=frame_len hM hQf
 obtain ⟨e3,hr3,hf3⟩:=rLand' (pad:=b.fin.pad) (w:=w) hm' hrf (by omega) hfo.2.2.2.2.2.2 hw hM hQf
 have hfz:=hf3.frz
 generalize hld:(landT m f b.fin.pad w).getD f=f3 at hf3 hfz ⊢
 obtain ⟨y3,rfl,hy3,ho3⟩:=hf3
 obtain ⟨e4,hr4,h4'⟩:=rMWith (e:=machCells { s with stack:=s.stack.take (k + 1) } v18 i v) (s:={ s with stack:=s.stack.take (k + 1) }) ⟨v18,i,v,rfl,hr18,hi,hv,ho⟩ hfz (by simp; omega) (by simp; omega)
 refine ⟨e4,s1 (outer (fun h=>absurd hj0 (h j0)) (fun _=>?_) t.length 0 (by omega) fun j hj=>by omega),h4'⟩
 refine inner (fun k2 hk2 hc2 hn2=>?_) (t.length - 1) (by omega) ⟨k,by omega,hkc⟩ fun j h1 h2=>by omega
 have:k2=k:=by
  by_cases h1:k2 < k
  ·exact absurd hkc (hn2 k h1 hk)
  ·by_cases h2:k < k2
   ·exact absurd hc2 (hkn k2 h2 hk2)
   ·omega
 subst this
 obtain ⟨g4,i4,v4,rfl,hg4,hi4,hv4,ho4⟩:=h4'
 obtain ⟨gr,rfl,hgr,hof⟩:=hrf
 unfold f68_3
 refine Goes.tv (inc hk hrst.bnd) (Goes.nat (asNat_of (by have:=hrst.bnd; omega)) (Goes.tv hv18 (Goes.tvs hef (Goes.chk rfl (Goes.tvs heu (Goes.chk rfl (Goes.tvs heb (Goes.chk rfl ?_))))))))
 refine Goes.call hr3 (Goes.chk rfl (Goes.chk (fit_frame hy3.isSl) (Goes.chk rfl ?_)))
 exact Goes.call hr4 (Goes.chk (fit_mach hg4.isSl hi4.isSl hv4.isSl) Goes.ret)
end Go.Ab.G7
end
section
set_option linter.unusedVariables false
set_option maxRecDepth 10000
set_option linter.unusedSimpArgs false
namespace Go.Ab
theorem pconv_wi {a:Int} (ha:inW a):pconv (.int .i64) (W a)=some (I a):=by
 simp only [pconv]
 rw [IntKind.wrap_i64]
 have:=ha.1
 have:=ha.2
 congr 3
 omega
theorem nth16 (F:Nat→TV) {n:Nat} (h:n < 16):pnth n [F 0,F 1,F 2,F 3,F 4,F 5,F 6,F 7,F 8,F 9,F 10,F 11,F 12,F 13,F 14,F 15]=some (F n):=by
 match n,h with
 | 0,_=>rfl
 | 1,_=>rfl
 | 2,_=>rfl
 | 3,_=>rfl
 | 4,_=>rfl
 | 5,_=>rfl
 | 6,_=>rfl
 | 7,_=>rfl
 | 8,_=>rfl
 | 9,_=>rfl
 | 10,_=>rfl
 | 11,_=>rfl
 | 12,_=>rfl
 | 13,_=>rfl
 | 14,_=>rfl
 | 15,_=>rfl
 | n + 16,h=>omega
theorem F2.lf1 {rs:List (List TV)} {l:List Int} (h:F2 RI1 rs l):F2 RI1 (lfLL rs) l:=by
 induction h with
 | nil=>exact .nil
 | cons h1 _ ih =>
  obtain ⟨rfl,h1⟩:=h1
  exact .cons ⟨rfl,h1⟩ ih
def upF (f:DFrame):DFrame:={ f with at_:=IntKind.i64.wrap (f.at_ + 1) }
def putT (f:DFrame) (n w:Int):DFrame:={ f with regs:=f.regs.set n.toNat w }
def blockOf (m:DMod) (f:DFrame):Option DBlock:=(m.funcs[f.f.toNat]?).bind fun u=>u.blocks[f.block.toNat]?
open Classical in
noncomputable def answeredT (m:DMod) (s:DMach) (w:Int):DMach :=
 match s.stack[s.stack.length - 2]? with
 | none=>s
 | some f => if s.stack.length ≤ 1 then endedT { s with stack := [] } 1 w else
  match blockOf m f with
  | none=>s
  | some b=>if f.at_=b.ins.length then withT { s with stack:=s.stack.take (s.stack.length - 1) } { putT f b.fin.dst w with block:=b.fin.to,at_:=0 } else
   match b.ins[f.at_.toNat]? with
   | none=>s
   | some x=>withT { s with stack:=s.stack.take (s.stack.length - 1) } (upF (putT f x.dst w))
def reg (f:DFrame) (n:Int):Int:=f.regs.getD n.toNat 0
def putCell (s:DMach) (n:Nat) (w:Int):DMach:={ s with cells:=s.cells.set n w }
def insT (m:DMod) (s:DMach) (f:DFrame) (x:DIns):DMach :=
 if x.op=11 then calledT m s x.f x.args else
 if x.op≤8 then (if (reckonT f x).2=true then withT s (reckonT f x).1 else endedT s 3 0) else
 if x.op=9 then (if 16≤reg f x.a then endedT s 4 0 else withT s (upF (putT f x.dst (s.c (reg f x.a).toNat)))) else
 if x.op=10 then (if 16≤reg f x.a then endedT s 4 0 else withT (putCell s (reg f x.a).toNat (reg f x.b)) (upF f)) else
 if x.op=12 then withT { s with events:=s.events ++ [reg f x.a] } (upF f) else
 match s.inputs with
 | []=>endedT s 6 0
 | a :: l=>withT { s with events:=s.events ++ [a + 65536],inputs:=l } (upF (putT f x.dst a))
theorem putCell_c {s:DMach} {n j:Nat} {w:Int} (hl:s.cells.length=16) (hj:j < 16):selT n j (W w) (W (s.c j))=W ((putCell s n w).c j):=by
 have hl':j < s.cells.length:=by omega
 by_cases h:n=j
 ·subst h
  simp [selT,putCell,DMach.c,List.getD,List.getElem?_set_self hl']
 ·have hb:n.beq j=false:=by
   cases h':n.beq j with
   | false=>rfl
   | true=>exact absurd (Nat.eq_of_beq_eq_true h') h
  simp [selT,hb,putCell,DMach.c,List.getD,List.getElem?_set_ne h]
theorem putCell_in {s:DMach} {n:Nat} {w:Int} (h:∀ k,inW (s.c k)) (hw:inW w) (k:Nat):inW ((putCell s n w).c k):=by
 have hk:=h k
 simp only [DMach.c,putCell,List.getD,List.getElem?_set] at hk ⊢
 split
 ·split
  ·exact hw
  ·exact inW0
 ·exact hk
end Go.Ab
namespace Go.Ab.G7
open Go Go.Ab Go.Proofs
theorem uses_of {op:Int} (h:has (usesI op) 1=true):1≤op∧op≤13:=by
 by_cases hn:1≤op∧op≤13
 ·exact hn
 ·have:usesI op=0:=by
   unfold usesI
   repeat rw [if_neg (by omega)]
  rw [this] at h
  exact absurd h (by decide)
theorem ins3 {q q':Option Bool} {s:DMach} {f:DFrame} {g i v gr:TV} (hg:RL none 5 (RFrame none) g s.stack) (hi:RWords none i s.inputs) (hv:RInts q v s.events) (ho:s.ok) (hgr:RWords q' gr f.regs) (hof:f.ok) (h0:0 < s.stack.length) (hl:s.stack.length≤4294967296) :
  ∃ e2,Goes prog 65 (f65_3 g (W (s.c 0)) (W (s.c 1)) (W (s.c 2)) (W (s.c 3)) (W (s.c 4)) (W (s.c 5)) (W (s.c 6)) (W (s.c 7)) (W (s.c 8)) (W (s.c 9)) (W (s.c 10)) (W (s.c 11)) (W (s.c 12)) (W (s.c 13)) (W (s.c 14)) (W (s.c 15)) i (I s.done) (W s.value) (I f.f) (I f.block) (I f.at_) (W f.fly) v gr) (.agg e2)∧RMach e2 (withT s (upF f)):=by
 have hvz:=hv.frz (S:=RI1) fun _ _ h=>h.frz
 have hgz:=hgr.frz (S:=RW1) fun _ _ h=>h.frz
 obtain ⟨e2,hr2,h2⟩:=rMWith (e:=machCells s g i (Go.Ab.frz v)) (s:=s) (f:=upF f) (q':=some false) (e':=[I f.f,I f.block,I (IntKind.i64.wrap (f.at_ + 1)),Go.Ab.frz gr,W f.fly]) ⟨g,i,_,rfl,hg,hi,hvz.weak fun _ _ h=>h,ho⟩ ⟨_,rfl,hgz,hof.1,hof.2.1,wrap_i64 _,hof.2.2.2⟩ h0 hl
 refine ⟨e2,?_,h2⟩
 obtain ⟨g2,i2,v2,rfl,hg2,hi2,hv2,ho2⟩:=h2
 unfold f65_3
 exact Goes.tv rfl (Goes.call hr2 (Goes.chk (fit_mach hg2.isSl hi2.isSl hv2.isSl) Goes.ret))
theorem ins2 {q q':Option Bool} {s:DMach} {f:DFrame} {x:DIns} {g i v gr z:TV} {b:Bool} (hb:b=false) (hg:RL none 5 (RFrame none) g s.stack) (hi:RWords none i s.inputs) (hv:RInts q v s.events) (ho:s.ok) (hgr:RWords q' gr f.regs) (hof:f.ok) (h0:0 < s.stack.length) (hl:s.stack.length≤4294967296) :
  ∃ e2,Goes prog 65 (f65_2 (B b) g (W (s.c 0)) (W (s.c 1)) (W (s.c 2)) (W (s.c 3)) (W (s.c 4)) (W (s.c 5)) (W (s.c 6)) (W (s.c 7)) (W (s.c 8)) (W (s.c 9)) (W (s.c 10)) (W (s.c 11)) (W (s.c 12)) (W (s.c 13)) (W (s.c 14)) (W (s.c 15)) i (I s.done) (W s.value) (I f.f) (I f.block) (I f.at_) (W f.fly) (I x.op) (I x.dst) (I x.a) (I x.b) (W x.k) (I x.f) z v gr) (.agg e2)∧RMach e2 (withT s (upF f)):=by
 obtain ⟨e2,hr2,h2⟩:=ins3 hg hi hv ho hgr hof h0 hl
 refine ⟨e2,?_,h2⟩
 subst hb
 unfold f65_2
 exact Goes.ite rfl (fun h=>nomatch h) fun _=>f65_3_J hr2
theorem ins1 {q q':Option Bool} {s:DMach} {f:DFrame} {x:DIns} {g i v gr z:TV} {b:Bool} (hb:b=false) (h13:¬ x.op=13) (hg:RL none 5 (RFrame none) g s.stack) (hi:RWords none i s.inputs) (hv:RInts q v s.events) (ho:s.ok) (hgr:RWords q' gr f.regs) (hof:f.ok) (h0:0 < s.stack.length) (hl:s.stack.length≤4294967296) :
  ∃ e2,Goes prog 65 (f65_1 (B b) g (W (s.c 0)) (W (s.c 1)) (W (s.c 2)) (W (s.c 3)) (W (s.c 4)) (W (s.c 5)) (W (s.c 6)) (W (s.c 7)) (W (s.c 8)) (W (s.c 9)) (W (s.c 10)) (W (s.c 11)) (W (s.c 12)) (W (s.c 13)) (W (s.c 14)) (W (s.c 15)) i v (I s.done) (W s.value) (I f.f) (I f.block) (I f.at_) (W f.fly) (I x.op) (I x.dst) (I x.a) (I x.b) (W x.k) (I x.f) z gr) (.agg e2)∧RMach e2 (withT s (upF f)):=by
 obtain ⟨e2,hr2,h2⟩:=ins2 (x:=x) (z:=z) (b:=decide (x.op=13)) (by simpa using h13) hg hi hv ho hgr hof h0 hl
 refine ⟨e2,?_,h2⟩
 subst hb
 unfold f65_1
 exact Goes.ite rfl (fun h=>nomatch h) fun _=>Goes.tv rfl (Goes.chk hv.isSl (f65_2_J hr2))
theorem rIns {q q' q'':Option Bool} {e es ef ex:List TV} {m:DMod} {s:DMach} {f:DFrame} {x:DIns} (hm:RMod q e m) (hM:modP m) (hs:RMach es s) (hf:RFrame q' ef f) (hx:RIns q'' ex x) (hp:insP m.funcs f.regs.length x) (ht:topT s=some f) (hrl:f.regs.length≤256) (hal:x.args.length≤4294967295) (hl:s.stack.length≤4294967296) (hel:s.events.length + 1≤4294967296) :
  ∃ e2,Runs prog 65 [.agg e,.agg es,.agg ef,.agg ex] (.agg e2)∧RMach e2 (insT m s f x):=by
 have hm':=hm
 have hs':=hs
 have hf':=hf
 have hx':=hx
 obtain ⟨y,rfl,hy⟩:=hm
 obtain ⟨g,i,v,rfl,hg,hi,hv,ho⟩:=hs
 obtain ⟨gr,rfl,hgr,hof⟩:=hf
 obtain ⟨z,rfl,hz,hxo⟩:=hx
 obtain ⟨hp1,hpd,hpa,hpb,_,hpc⟩:=hp
 have h0:0 < s.stack.length:=by
  have:=(List.getElem?_eq_some_iff.1 ht).1
  omega
 obtain ⟨hlo,hhi⟩:=uses_of hp1
 by_cases h11:x.op=11
 ·have hT:insT m s f x=calledT m s x.f x.args:=by simp [insT,h11]
  rw [hT]
  rw [h11] at hpc
  obtain ⟨_,u,hu,hul,hua⟩:=hpc.1 rfl
  obtain ⟨e2,hr2,h2⟩:=rCalled hm' hM hs' hxo.2.2.2.2.2 hz ht (fun k p hk=>hua k (List.getElem?_eq_some_iff.1 hk).1 p hk) hal
  refine ⟨e2,?_,h2⟩
  obtain ⟨g2,i2,v2,rfl,hg2,hi2,hv2,ho2⟩:=h2
  refine Runs.of (f65_MR _ _ _ _) ?_
  unfold f65_M
  refine Goes.chk rfl (Goes.chk rfl (Goes.chk rfl (Goes.chk rfl (Goes.tv rfl (Goes.ite rfl (fun _=>?_) fun h=>?_)))))
  ·exact Goes.call hr2 (Goes.chk (fit_mach hg2.isSl hi2.isSl hv2.isSl) Goes.ret)
  ·simp [TV.cell,nth] at h; omega
 by_cases h8:x.op≤8
 ·have hT:insT m s f x=if (reckonT f x).2=true then withT s (reckonT f x).1 else endedT s 3 0:=by simp [insT,h11,h8]
  rw [hT]
  obtain ⟨e3,hr3,h3⟩:=rReckon' hf' hx' (by omega)
  obtain ⟨e5,hr5,h5⟩:=rEnded (how:=3) (w:=0) hs' ⟨by decide,by decide⟩ inW0
  obtain ⟨e4,hr4,h4⟩:=rMWith hs' h3.frz h0 hl
  generalize hR:reckonT f x=R at *
  obtain ⟨f3,ok⟩:=R
  simp only at hr3 h3 hr4 h4 ⊢
  obtain ⟨g3,rfl,hg3,_⟩:=h3
  cases ok with
  | false =>
   refine ⟨e5,?_,by simpa using h5⟩
   obtain ⟨g2,i2,v2,rfl,hg2,hi2,hv2,ho2⟩:=h5
   refine Runs.of (f65_MR _ _ _ _) ?_
   unfold f65_M
   refine Goes.chk rfl (Goes.chk rfl (Goes.chk rfl (Goes.chk rfl (Goes.tv rfl (Goes.ite rfl (fun h=>?_) fun _=>?_)))))
   ·simp [TV.cell,nth] at h; omega
   refine Goes.tv rfl (Goes.ite rfl (fun _=>?_) fun h=>?_)
   rotate_left
   ·simp [TV.cell,nth] at h; omega
   refine Goes.call hr3 (Goes.chk rfl (Goes.chk (fit_frame hg3.isSl) (Goes.chk rfl (Goes.tv rfl (Goes.ite rfl (fun _=>?_) fun h=>nomatch h)))))
   exact Goes.call hr5 (Goes.chk (fit_mach hg2.isSl hi2.isSl hv2.isSl) Goes.ret)
  | true =>
   refine ⟨e4,?_,by simpa using h4⟩
   obtain ⟨g2,i2,v2,rfl,hg2,hi2,hv2,ho2⟩:=h4
   refine Runs.of (f65_MR _ _ _ _) ?_
   unfold f65_M
   refine Goes.chk rfl (Goes.chk rfl (Goes.chk rfl (Goes.chk rfl (Goes.tv rfl (Goes.ite rfl (fun h=>?_) fun _=>?_)))))
   ·simp [TV.cell,nth] at h; omega
   refine Goes.tv rfl (Goes.ite rfl (fun _=>?_) fun h=>?_)
   rotate_left
   ·simp [TV.cell,nth] at h; omega
   refine Goes.call hr3 (Goes.chk rfl (Goes.chk (fit_frame hg3.isSl) (Goes.chk rfl (Goes.tv rfl (Goes.ite rfl (fun h=>nomatch h) fun _=>?_)))))
   exact Goes.call hr4 (Goes.chk (fit_mach hg2.isSl hi2.isSl hv2.isSl) Goes.ret)
 have start:∀ {r:TV},Goes prog 65 (f65_0 (B (decide (x.op=9∨x.op=10))) g (W (s.c 0)) (W (s.c 1)) (W (s.c 2)) (W (s.c 3)) (W (s.c 4)) (W (s.c 5)) (W (s.c 6)) (W (s.c 7)) (W (s.c 8)) (W (s.c 9)) (W (s.c 10)) (W (s.c 11)) (W (s.c 12)) (W (s.c 13)) (W (s.c 14)) (W (s.c 15)) i v (I s.done) (W s.value) (I f.f) (I f.block) (I f.at_) gr (W f.fly) (I x.op) (I x.dst) (I x.a) (I x.b) (W x.k) (I x.f) z) r→Runs prog 65 [.agg [y],.agg (machCells s g i v),.agg [I f.f,I f.block,I f.at_,gr,W f.fly],.agg [I x.op,I x.dst,I x.a,I x.b,W x.k,I x.f,z]] r:=by
  intro r hr
  refine Runs.of (f65_MR _ _ _ _) ?_
  unfold f65_M
  refine Goes.chk rfl (Goes.chk rfl (Goes.chk rfl (Goes.chk rfl (Goes.tv rfl (Goes.ite rfl (fun h=>?_) fun _=>?_)))))
  ·simp [TV.cell,nth] at h; omega
  refine Goes.tv rfl (Goes.ite rfl (fun h=>?_) fun _=>?_)
  ·simp [TV.cell,nth] at h; omega
  refine Goes.tv rfl (Goes.ite rfl (fun h=>?_) fun h=>?_)
  ·have h9:x.op=9:=by simpa [TV.cell,nth] using h
   refine f65_0_J ?_
   have hd:decide (x.op=9∨x.op=10)=true:=by simp [h9]
   rw [hd] at hr
   exact hr
  ·have h9:¬ x.op=9:=by simpa [TV.cell,nth] using h
   refine Goes.tv rfl (f65_0_J ?_)
   have hd:decide (x.op=9∨x.op=10)=(x.op == 10):=by simp [h9]; rfl
   rw [hd] at hr
   exact hr
 by_cases h9:x.op=9∨x.op=10
 ·have hd:decide (x.op=9∨x.op=10)=true:=by simp [h9]
  rw [hd] at start
  have hA:within x.a f.regs.length:=by
   rcases h9 with h | h
   ·rw [h] at hpa; exact hpa.1 rfl
   ·rw [h] at hpa; exact hpa.1 rfl
  obtain ⟨a,ha,hal'⟩:=within_at hA
  obtain ⟨hia,haw⟩:=RWords.at_ hgr (k:=.i64) hA.1 ha
  have hra:reg f x.a=a:=getD_at ha
  by_cases h16:16≤a
  ·obtain ⟨e5,hr5,h5⟩:=rEnded (how:=4) (w:=0) hs' ⟨by decide,by decide⟩ inW0
   have hT:insT m s f x=endedT s 4 0:=by
    unfold insT
    rw [if_neg h11,if_neg h8,hra]
    rcases h9 with h | h
    ·rw [if_pos h,if_pos h16]
    ·rw [if_neg (by omega),if_pos h,if_pos h16]
   rw [hT]
   refine ⟨e5,start ?_,h5⟩
   obtain ⟨g2,i2,v2,rfl,hg2,hi2,hv2,ho2⟩:=h5
   unfold f65_0
   refine Goes.ite rfl (fun _=>?_) fun h=>nomatch h
   refine Goes.tvs hia (Goes.chk rfl (Goes.tv (pconv_wi haw) (Goes.tv rfl (Goes.ite rfl (fun _=>?_) fun h=>?_))))
   ·exact Goes.call hr5 (Goes.chk (fit_mach hg2.isSl hi2.isSl hv2.isSl) Goes.ret)
   ·simp at h; omega
  have han:asNat (I a)=some a.toNat:=asNat_in haw.1 ⟨by have:=haw.1; omega,by omega⟩
  have hlt:a.toNat < 16:=by have:=haw.1; omega
  by_cases h9':x.op=9
  ·have hT:insT m s f x=withT s (upF (putT f x.dst (s.c a.toNat))):=by
    unfold insT
    rw [if_neg h11,if_neg h8,if_pos h9',hra,if_neg h16]
   rw [hT]
   rw [h9'] at hpd
   have hD:within x.dst f.regs.length:=hpd.1 rfl
   obtain ⟨e6,hr6,h6⟩:=rWith (w:=s.c a.toNat) hf' (by omega) hD hxo.2.1 (ho.2.1 _)
   obtain ⟨g6,rfl,hg6,hof6⟩:=h6
   obtain ⟨e2,hr2,h2⟩:=ins1 (f:=putT f x.dst (s.c a.toNat)) (x:=x) (z:=z) (b:=x.op == 12) (by simp; omega) (by omega) hg hi hv ho hg6 hof6 h0 hl
   refine ⟨e2,start ?_,h2⟩
   unfold f65_0
   refine Goes.ite rfl (fun _=>?_) fun h=>nomatch h
   refine Goes.tvs hia (Goes.chk rfl (Goes.tv (pconv_wi haw) (Goes.tv rfl (Goes.ite rfl (fun h=>?_) fun _=>?_))))
   ·simp at h; omega
   refine Goes.tv rfl (Goes.ite rfl (fun _=>?_) fun h=>?_)
   rotate_left
   ·simp at h; omega
   refine Goes.nat han (Goes.chk (blt_true hlt) (Goes.tv (nth16 (fun k=>W (s.c k)) hlt) (Goes.call hr6 (Goes.chk (fit_frame hg6.isSl) (Goes.tv rfl (f65_1_J hr2))))))
  ·have h10:x.op=10:=by omega
   rw [h10] at hpb
   have hB:within x.b f.regs.length:=hpb.1 rfl
   obtain ⟨b,hb,hbl⟩:=within_at hB
   obtain ⟨hib,hbw⟩:=RWords.at_ hgr (k:=.i64) hB.1 hb
   have hrb:reg f x.b=b:=getD_at hb
   have hT:insT m s f x=withT (putCell s a.toNat b) (upF f):=by
    unfold insT
    rw [if_neg h11,if_neg h8,if_neg h9',if_pos h10,hra,hrb,if_neg h16]
   rw [hT]
   have ho':(putCell s a.toNat b).ok:=⟨by simp [putCell,ho.1],putCell_in ho.2.1 hbw,ho.2.2⟩
   obtain ⟨e2,hr2,h2⟩:=ins1 (s:=putCell s a.toNat b) (f:=f) (x:=x) (z:=z) (b:=x.op == 12) (by simp; omega) (by omega) hg hi hv ho' hgr hof h0 hl
   refine ⟨e2,start ?_,h2⟩
   unfold f65_0
   refine Goes.ite rfl (fun _=>?_) fun h=>nomatch h
   refine Goes.tvs hia (Goes.chk rfl (Goes.tv (pconv_wi haw) (Goes.tv rfl (Goes.ite rfl (fun h=>?_) fun _=>?_))))
   ·simp at h; omega
   refine Goes.tv rfl (Goes.ite rfl (fun h=>?_) fun _=>?_)
   ·simp at h; omega
   refine Goes.tvs hib (Goes.chk rfl (Goes.nat han (Goes.chk (blt_true hlt) (Goes.tv rfl (Goes.chk hgr.isSl (f65_1_J ?_))))))
   have hc:∀ j,j < 16→selT a.toNat j (W b) (W (s.c j))=W ((putCell s a.toNat b).c j):=fun j hj=>putCell_c ho.1 hj
   show Goes prog 65 (f65_1 (B (x.op == 12)) g (selT a.toNat 0 (W b) (W (s.c 0))) (selT a.toNat 1 (W b) (W (s.c 1))) (selT a.toNat 2 (W b) (W (s.c 2))) (selT a.toNat 3 (W b) (W (s.c 3))) (selT a.toNat 4 (W b) (W (s.c 4))) (selT a.toNat 5 (W b) (W (s.c 5))) (selT a.toNat 6 (W b) (W (s.c 6))) (selT a.toNat 7 (W b) (W (s.c 7))) (selT a.toNat 8 (W b) (W (s.c 8))) (selT a.toNat 9 (W b) (W (s.c 9))) (selT a.toNat 10 (W b) (W (s.c 10))) (selT a.toNat 11 (W b) (W (s.c 11))) (selT a.toNat 12 (W b) (W (s.c 12))) (selT a.toNat 13 (W b) (W (s.c 13))) (selT a.toNat 14 (W b) (W (s.c 14))) (selT a.toNat 15 (W b) (W (s.c 15))) i v (I s.done) (W s.value) (I f.f) (I f.block) (I f.at_) (W f.fly) (I x.op) (I x.dst) (I x.a) (I x.b) (W x.k) (I x.f) z gr) _
   rw [hc 0 (by omega),hc 1 (by omega),hc 2 (by omega),hc 3 (by omega),hc 4 (by omega),hc 5 (by omega),hc 6 (by omega),hc 7 (by omega),hc 8 (by omega),hc 9 (by omega),hc 10 (by omega),hc 11 (by omega),hc 12 (by omega),hc 13 (by omega),hc 14 (by omega),hc 15 (by omega)]
   exact hr2
 have hd:decide (x.op=9∨x.op=10)=false:=by simp [h9]
 rw [hd] at start
 by_cases h12:x.op=12
 ·rw [h12] at hpa
  have hA:within x.a f.regs.length:=hpa.1 rfl
  obtain ⟨a,ha,hal'⟩:=within_at hA
  obtain ⟨pe,hpe,rfl,haw⟩:=hgr.pel ha
  have hra:reg f x.a=a:=getD_at ha
  have hT:insT m s f x=withT { s with events:=s.events ++ [a] } (upF f):=by
   unfold insT
   rw [if_neg h11,if_neg h8,if_neg (by omega),if_neg (by omega),if_pos h12,hra]
  rw [hT]
  obtain ⟨rs,hrs,hF⟩:=hv.elems
  have hnil:RL (some true) 1 RI1 (.sl true 1 []) ([]:List Int):=.sl (by simp) .nil (by simp)
  obtain ⟨z1,hz1,hrz1⟩:=hnil.appM hF (by simp; omega)
  obtain ⟨z2,hz2,hrz2⟩:=hrz1.app1 (e:=[I a]) (a:=a) ⟨rfl,by have:=haw.1; have:=haw.2; constructor <;> omega⟩ (by simp; omega)
  obtain ⟨e2,hr2,h2⟩:=ins2 (s:={ s with events:=s.events ++ [a] }) (f:=f) (x:=x) (z:=z) (b:=x.op == 13) (by simp; omega) hg hi hrz2 ho hgr hof h0 hl
  refine ⟨e2,start ?_,h2⟩
  unfold f65_0
  refine Goes.ite rfl (fun h=>nomatch h) fun _=>Goes.tv rfl (Goes.chk hgr.isSl (f65_1_J ?_))
  unfold f65_1
  refine Goes.ite rfl (fun _=>?_) fun h=>?_
  rotate_left
  ·simp at h; omega
  refine Goes.rws hrs (Goes.tv hz1 (Goes.nat hgr.slLen (Goes.nat (asNat_in hA.1 hxo.2.2.1) (Goes.chk ?_ (Goes.tvs hpe (Goes.chk rfl (Goes.tv (pconv_wi haw) (Goes.rws rfl (Goes.tv hz2 (Goes.tv rfl (f65_2_J hr2)))))))))))
  rw [blt_true hal']; exact (Bool.and_true _).trans hgr.slSize
 have h13:x.op=13:=by omega
 rw [h13] at hpd
 have hD:within x.dst f.regs.length:=hpd.1 rfl
 have go2:∀ {r:TV},Goes prog 65 (f65_2 (B (x.op == 13)) g (W (s.c 0)) (W (s.c 1)) (W (s.c 2)) (W (s.c 3)) (W (s.c 4)) (W (s.c 5)) (W (s.c 6)) (W (s.c 7)) (W (s.c 8)) (W (s.c 9)) (W (s.c 10)) (W (s.c 11)) (W (s.c 12)) (W (s.c 13)) (W (s.c 14)) (W (s.c 15)) i (I s.done) (W s.value) (I f.f) (I f.block) (I f.at_) (W f.fly) (I x.op) (I x.dst) (I x.a) (I x.b) (W x.k) (I x.f) z v gr) r→Runs prog 65 [.agg [y],.agg (machCells s g i v),.agg [I f.f,I f.block,I f.at_,gr,W f.fly],.agg [I x.op,I x.dst,I x.a,I x.b,W x.k,I x.f,z]] r:=by
  intro r hr
  refine start ?_
  unfold f65_0
  refine Goes.ite rfl (fun h=>nomatch h) fun _=>Goes.tv rfl (Goes.chk hgr.isSl (f65_1_J ?_))
  unfold f65_1
  refine Goes.ite rfl (fun h=>?_) fun _=>?_
  ·simp at h; omega
  exact Goes.tv rfl (Goes.chk hv.isSl (f65_2_J hr))
 have hvz:=(hv.frz (S:=RI1) fun _ _ h=>h.frz).weak (S:=RI1) fun _ _ h=>h
 cases hin:s.inputs with
 | nil =>
  have hT:insT m s f x=endedT s 6 0:=by
   unfold insT
   rw [if_neg h11,if_neg h8,if_neg (by omega),if_neg (by omega),if_neg h12,hin]
  rw [hT]
  obtain ⟨e5,hr5,h5⟩:=rEnded (e:=machCells s g i (Go.Ab.frz v)) (s:=s) (how:=6) (w:=0) ⟨g,i,_,rfl,hg,hi,hvz,ho⟩ ⟨by decide,by decide⟩ inW0
  refine ⟨e5,go2 ?_,h5⟩
  obtain ⟨g2,i2,v2,rfl,hg2,hi2,hv2,ho2⟩:=h5
  have hlen:=RL.len (t:=29) hi
  rw [hin] at hlen
  unfold f65_2
  refine Goes.ite rfl (fun _=>?_) fun h=>?_
  rotate_left
  ·simp at h; omega
  refine Goes.tv hlen (Goes.tv rfl (Goes.ite rfl (fun _=>?_) fun h=>nomatch h))
  exact Goes.call hr5 (Goes.chk (fit_mach hg2.isSl hi2.isSl hv2.isSl) Goes.ret)
 | cons a l =>
  have hT:insT m s f x=withT { s with events:=s.events ++ [a + 65536],inputs:=l } (upF (putT f x.dst a)):=by
   unfold insT
   rw [if_neg h11,if_neg h8,if_neg (by omega),if_neg (by omega),if_neg h12,hin]
  rw [hT]
  have hlen:=RL.len (t:=29) hi
  have hbnd:=hi.bnd
  rw [hin] at hlen hbnd hi
  obtain ⟨hi0,haw⟩:=RWords.at_ hi (k:=.i64) (n:=0) (a:=a) (by decide) rfl
  obtain ⟨si,hsi,hrsi⟩:=hi.slice (t:=29) (lo:=some 1) (hi:=none) (by simp) (by simp)
  have hrsi:RWords none si l:=by
   have:((a :: l).drop ((some 1).getD 0)).take ((none:Option Nat).getD (a :: l).length - (some 1).getD 0)=l:=by simp
   rw [this] at hrsi
   exact hrsi
  have hgz:=hgr.frz (S:=RW1) fun _ _ h=>h.frz
  obtain ⟨e6,hr6,h6⟩:=rWith (w:=a) (e:=[I f.f,I f.block,I f.at_,Go.Ab.frz gr,W f.fly]) (f:=f) (q:=some false) ⟨_,rfl,hgz,hof⟩ (by omega) hD hxo.2.1 haw
  obtain ⟨g6,rfl,hg6,hof6⟩:=h6
  obtain ⟨rs,hrs,hF⟩:=hv.elems
  have hnil:RL (some true) 1 RI1 (.sl true 1 []) ([]:List Int):=.sl (by simp) .nil (by simp)
  have hF:=F2.lf1 hF
  obtain ⟨z1,hz1,hrz1⟩:=hnil.appM hF (by simp; omega)
  obtain ⟨z2,hz2,hrz2⟩:=hrz1.app1 (e:=[I (a + 65536)]) (a:=a + 65536) ⟨rfl,by have:=haw.1; have:=haw.2; constructor <;> omega⟩ (by simp; omega)
  obtain ⟨e2,hr2,h2⟩:=ins3 (s:={ s with events:=s.events ++ [a + 65536],inputs:=l }) (f:=putT f x.dst a) hg hrsi hrz2 ho hg6 hof6 h0 hl
  refine ⟨e2,go2 ?_,h2⟩
  unfold f65_2
  refine Goes.ite rfl (fun _=>?_) fun h=>?_
  rotate_left
  ·simp at h; omega
  refine Goes.tv hlen (Goes.tv rfl (Goes.ite rfl (fun h=>?_) fun _=>?_))
  ·simp at h; omega
  have hadd:pbin (.int .i64) .add (I a) (I 65536)=some (I (a + 65536)):=padd (by have:=haw.1; have:=haw.2; constructor <;> omega)
  exact Goes.tvs hi0 (Goes.chk rfl (Goes.call hr6 (Goes.chk (fit_frame hg6.isSl) (Goes.rws hrs (Goes.tv hz1 (Goes.tvs hi0 (Goes.chk rfl (Goes.tv (pconv_wi haw) (Goes.tv hadd (Goes.rws rfl (Goes.tv hz2 (Goes.nat rfl (Goes.tv hsi (f65_3_J hr2))))))))))))))
end Go.Ab.G7
end
section
set_option linter.unusedVariables false
set_option linter.unusedSimpArgs false
set_option maxRecDepth 10000
namespace Go.Ab
def linkP (m:DMod) (f g:DFrame):Prop :=
 ∃ u b,m.funcs[f.f.toNat]? = some u∧u.blocks[f.block.toNat]? = some b∧((f.at_=b.ins.length∧b.fin.kind=4∧b.fin.f=g.f)∨(¬ f.at_=b.ins.length∧∃ x,b.ins[f.at_.toNat]? = some x∧x.op=11∧x.f=g.f))
def machQ (m:DMod) (s:DMach):Prop :=
 (0≤s.done∧s.done≤6)∧s.stack.length≤32∧(s.done=0→0 < s.stack.length)∧(∀ (k:Nat) f,s.stack[k]? = some f→frameQ m f)∧∀ (k:Nat) f g,s.stack[k]? = some f→s.stack[k + 1]? = some g→linkP m f g
theorem getP_of_pel {x:TV} {k j:Nat} {e:List TV} {y:TV} (h:pel x k=some e) (hj:e[j]? = some y):getP [(k,j)] x=some y:=by
 cases x <;> simp [pel] at h
 simp [getP,h,hj]
noncomputable def stepT (m:DMod) (s:DMach):DMach :=
  if ¬ s.done=0 then s else
  match topT s with
  | none=>s
  | some f => match blockOf m f with
    | none=>s
    | some b => if f.at_ = b.ins.length then
        (if b.fin.kind = 1 then answeredT m s (reg f b.fin.a) else
         if b.fin.kind=4 then calledT m s b.fin.f b.fin.args else
         if b.fin.kind=5 then thrownT m s (reg f b.fin.a) else
         if b.fin.kind=6 then thrownT m s f.fly else
         if b.fin.kind=3∧reg f b.fin.a=0 then withT s { f with block:=b.fin.els,at_:=0 } else withT s { f with block:=b.fin.to,at_:=0 })
      else match b.ins[f.at_.toNat]? with
        | none=>s
        | some x=>insT m s f x
end Go.Ab
namespace Go.Ab.G7
open Go Go.Ab Go.Proofs
theorem mod_ins {m:DMod} {g:DFunc} {b:DBlock} {x:DIns} {n k j:Nat} (h:modP m) (hg:m.funcs[n]? = some g) (hb:g.blocks[k]? = some b) (hx:b.ins[j]? = some x):insP m.funcs g.regs x :=
 (mod_block h hg hb).2.2.1 j (List.getElem?_eq_some_iff.1 hx).1 x hx
theorem mod_end {m:DMod} {g:DFunc} {b:DBlock} {n k:Nat} (h:modP m) (hg:m.funcs[n]? = some g) (hb:g.blocks[k]? = some b):endP m.funcs g.regs g.blocks b.fin :=
 (mod_block h hg hb).2.2.2
theorem rAnswered {q:Option Bool} {e es:List TV} {m:DMod} {s:DMach} {w:Int} (hm:RMod q e m) (hM:modP m) (hs:RMach es s) (hw:inW w) (hQ:machQ m s) (h0:0 < s.stack.length) :
  ∃ e2,Runs prog 66 [.agg e,.agg es,W w] (.agg e2)∧RMach e2 (answeredT m s w):=by
 obtain ⟨_,h32,_,hQf,hL⟩:=hQ
 have hm':=hm
 obtain ⟨y,rfl,hy⟩:=hm
 obtain ⟨g,i,v,rfl,hg,hi,hv,ho⟩:=hs
 obtain ⟨st,hst,hrst⟩:=hg.slice (t:=47) (lo:=none) (hi:=some (s.stack.length - 1)) (by simp) (by simp)
 have hrst:RL none 5 (RFrame none) st (s.stack.take (s.stack.length - 1)):=by simpa using hrst
 generalize hTe:s.stack.take (s.stack.length - 1)=t at hrst
 have htl:t.length=s.stack.length - 1:=by rw [← hTe]; simp
 obtain ⟨f,hf⟩:∃ f,s.stack[s.stack.length - 2]? = some f:=⟨_,List.getElem?_eq_getElem (by omega)⟩
 have lenT:=RL.len (t:=47) hrst
 by_cases h1:s.stack.length≤1
 ·have ht0:t=[]:=List.length_eq_zero_iff.1 (by omega)
  have hT:answeredT m s w=endedT { s with stack:=t } 1 w:=by
   unfold answeredT
   rw [hf]
   simp only
   rw [if_pos h1,ht0]
  rw [hT]
  obtain ⟨e2,hr2,h2⟩:=rEnded (e:=machCells { s with stack:=t } st i v) (s:={ s with stack:=t }) (how:=1) (w:=w) ⟨st,i,v,rfl,hrst,hi,hv,ho⟩ ⟨by decide,by decide⟩ hw
  refine ⟨e2,?_,h2⟩
  obtain ⟨g2,i2,v2,rfl,hg2,hi2,hv2,ho2⟩:=h2
  refine Runs.of (f66_MR _ _ _) ?_
  unfold f66_M
  refine Goes.chk rfl (Goes.chk rfl (Goes.tv (RL.len hg) (Goes.tv (dec h0 (by omega)) (Goes.nat (asNat_of (by omega)) (Goes.tv hst (Goes.tv lenT (Goes.tv rfl (Goes.ite rfl (fun _=>?_) fun h=>?_))))))))
  ·exact Goes.call hr2 (Goes.chk (fit_mach hg2.isSl hi2.isSl hv2.isSl) Goes.ret)
  ·rw [ht0] at h; simp at h
 have htf:t[t.length - 1]? = some f:=by
  rw [← hTe,List.getElem?_take]
  rw [if_pos (by simp; omega)]
  rw [← hf]
  congr 1
  simp; omega
 obtain ⟨f2,hf2⟩:∃ f,s.stack[s.stack.length - 2 + 1]? = some f:=⟨_,List.getElem?_eq_getElem (by omega)⟩
 obtain ⟨u,b,hu,hb,hlink⟩:=hL _ f f2 hf hf2
 have hQ:=hQf _ f hf
 have hrl:=frame_len hM hQ
 obtain ⟨hf0,u',hu',hLr,hb0,b',hb',ha0,ha1⟩:=hQ
 rw [hu] at hu'
 cases hu'
 rw [hb] at hb'
 cases hb'
 have hbo:blockOf m f=some b:=by simp [blockOf,hu,hb]
 obtain ⟨ef,hef,hrf⟩:=hrst.idx (k:=.i64) htf
 obtain ⟨eb,hrs,hrb⟩:=rStands hm' hrf hf0 hu hb0 hb
 have hfit:=fit_block hrb
 have hrf':=hrf
 obtain ⟨gr,rfl,hgr,hof⟩:=hrf
 obtain ⟨c,is,ga,rfl,hc,hdi,his,hga,hfo⟩:=hrb
 have fin:∀ {f3:DFrame} {y3:TV},RWords (some true) y3 f3.regs→f3.ok→∃ e2,Goes prog 66 (f66_0 st (W (s.c 0)) (W (s.c 1)) (W (s.c 2)) (W (s.c 3)) (W (s.c 4)) (W (s.c 5)) (W (s.c 6)) (W (s.c 7)) (W (s.c 8)) (W (s.c 9)) (W (s.c 10)) (W (s.c 11)) (W (s.c 12)) (W (s.c 13)) (W (s.c 14)) (W (s.c 15)) i v (I s.done) (W s.value) (I f3.f) (I f3.block) (I f3.at_) (W f3.fly) TV.hole TV.hole TV.hole y3 TV.hole) (.agg e2)∧RMach e2 (withT { s with stack:=t } f3):=by
  intro f3 y3 hy3 hof3
  have hz:=hy3.frz (S:=RW1) fun _ _ h=>h.frz
  obtain ⟨e2,hr2,h2⟩:=rMWith (e:=machCells { s with stack:=t } st i v) (s:={ s with stack:=t }) (f:=f3) (q':=some false) (e':=[I f3.f,I f3.block,I f3.at_,Go.Ab.frz y3,W f3.fly]) ⟨st,i,v,rfl,hrst,hi,hv,ho⟩ ⟨_,rfl,hz,hof3⟩ (by show 0 < t.length; omega) (by show t.length≤_; omega)
  refine ⟨e2,?_,h2⟩
  obtain ⟨g2,i2,v2,rfl,hg2,hi2,hv2,ho2⟩:=h2
  unfold f66_0
  exact Goes.call hr2 (Goes.chk (fit_mach hg2.isSl hi2.isSl hv2.isSl) Goes.ret)
 by_cases hat:f.at_=(b.ins.length:Int)
 ·have h4:b.fin.kind=4:=by
   rcases hlink with ⟨_,h,_⟩ | ⟨h,_⟩
   ·exact h
   ·exact absurd hat h
  have hT:answeredT m s w=withT { s with stack:=t } { putT f b.fin.dst w with block:=b.fin.to,at_:=0 }:=by
   unfold answeredT
   rw [hf]
   simp only
   rw [if_neg h1,hbo]
   simp only
   rw [if_pos hat,hTe]
  rw [hT]
  rw [tt_true hat] at hrs
  have hE:=mod_end hM hu hb
  have hD:within b.fin.dst f.regs.length:=by
   rw [hLr]
   have:=hE.2.2.1.1
   rw [h4] at this
   exact this rfl
  obtain ⟨e6,hr6,h6⟩:=rWith hrf' (by omega) hD hfo.2.2.1 hw
  obtain ⟨g6,rfl,hg6,hof6⟩:=h6
  obtain ⟨e2,hr2,h2⟩:=fin (f3:={ putT f b.fin.dst w with block:=b.fin.to,at_:=0 }) hg6 ⟨hof6.1,hfo.2.2.2.2.1,in0,hof6.2.2.2⟩
  refine ⟨e2,?_,h2⟩
  refine Runs.of (f66_MR _ _ _) ?_
  unfold f66_M
  refine Goes.chk rfl (Goes.chk rfl (Goes.tv (RL.len hg) (Goes.tv (dec h0 (by omega)) (Goes.nat (asNat_of (by omega)) (Goes.tv hst (Goes.tv lenT (Goes.tv rfl (Goes.ite rfl (fun h=>?_) fun _=>?_))))))))
  ·simp at h; rw [h] at htl; simp at htl; omega
  refine Goes.tv lenT (Goes.tv (dec (by omega) (by omega)) (Goes.tvs hef (Goes.chk rfl ?_)))
  exact Goes.call hrs (Goes.chk rfl (Goes.chk hfit (Goes.chk rfl (Goes.ite rfl (fun _=>Goes.call hr6 (Goes.chk (fit_frame hg6.isSl) (f66_0_J hr2))) fun h=>nomatch h))))
 ·obtain ⟨x,hx,h11⟩:∃ x,b.ins[f.at_.toNat]? = some x∧x.op=11:=by
   rcases hlink with ⟨h,_⟩ | ⟨_,x,hx,h,_⟩
   ·exact absurd h hat
   ·exact ⟨x,hx,h⟩
  have hT:answeredT m s w=withT { s with stack:=t } (upF (putT f x.dst w)):=by
   unfold answeredT
   rw [hf]
   simp only
   rw [if_neg h1,hbo]
   simp only
   rw [if_neg hat,hTe,hx]
  rw [hT]
  rw [tt_false hat] at hrs
  have hI:=mod_ins hM hu hb hx
  have hD:within x.dst f.regs.length:=by
   rw [hLr]
   have:=hI.2.1.1
   rw [h11] at this
   exact this rfl
  obtain ⟨ex,hex,hrx⟩:=his.pel hx
  obtain ⟨z,rfl,hz,hxo⟩:=hrx
  obtain ⟨e6,hr6,h6⟩:=rWith hrf' (by omega) hD hxo.2.1 hw
  obtain ⟨g6,rfl,hg6,hof6⟩:=h6
  obtain ⟨e2,hr2,h2⟩:=fin (f3:=upF (putT f x.dst w)) hg6 ⟨hof6.1,hof6.2.1,wrap_i64 _,hof6.2.2.2⟩
  refine ⟨e2,?_,h2⟩
  refine Runs.of (f66_MR _ _ _) ?_
  unfold f66_M
  refine Goes.chk rfl (Goes.chk rfl (Goes.tv (RL.len hg) (Goes.tv (dec h0 (by omega)) (Goes.nat (asNat_of (by omega)) (Goes.tv hst (Goes.tv lenT (Goes.tv rfl (Goes.ite rfl (fun h=>?_) fun _=>?_))))))))
  ·simp at h; rw [h] at htl; simp at htl; omega
  refine Goes.tv lenT (Goes.tv (dec (by omega) (by omega)) (Goes.tvs hef (Goes.chk rfl ?_)))
  have hlt:f.at_.toNat < b.ins.length:=(List.getElem?_eq_some_iff.1 hx).1
  refine Goes.call hrs (Goes.chk rfl (Goes.chk hfit (Goes.chk rfl (Goes.ite rfl (fun h=>nomatch h) fun _=>?_))))
  refine Goes.nat his.slLen (Goes.nat (asNat_in ha0 hof.2.2.1) (Goes.chk ?_ (Goes.tvs hex (Goes.chk rfl (Goes.call hr6 (Goes.chk (fit_frame hg6.isSl) (Goes.tv rfl (f66_0_J hr2))))))))
  rw [blt_true hlt]; exact (Bool.and_true _).trans his.slSize
end Go.Ab.G7
end

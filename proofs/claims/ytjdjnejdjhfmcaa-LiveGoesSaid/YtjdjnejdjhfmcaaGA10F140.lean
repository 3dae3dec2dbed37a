import Derived.Test.YtjdjnejdjhfmcaaGA10T
import Derived.Test.YtjdjnejdjhfmcaaGA10Xb
import Derived.Test.YtjdjnejdjhfmcaaGA10Xd
import Derived.OpenShut
section
set_option linter.unusedVariables false
set_option maxRecDepth 10000
namespace Go.Ab
theorem RL.idxI {α:Type} {q:Option Bool} {s:Nat} {R:List TV→α→Prop} {x:TV} {l:List α} (h:RL q s R x l) {k:IntKind} {n:Int} {a:α} (h0:0≤n) (hi:l[n.toNat]? = some a):∃ e,pidx s x (.lit (.int k n))=some e∧R e a:=by
 rcases h with ⟨rfl,rfl⟩ | ⟨o,xs,rfl,hq,h,_⟩
 ·simp at hi
 ·obtain ⟨e,he,hr⟩:=h.get hi
  exact ⟨e,by simp [pidx,he,h0],hr⟩
def within (n most:Int):Prop:=0≤n∧n < most
def placeP (u:Bool) (regs n:Int):Prop:=(u=true→within n regs)∧(u=false→n=0)
def argsP (fs:List DFunc) (regs n:Int) (l:List Int):Prop:=0≤n∧∃ g,fs[n.toNat]? = some g∧(l.length:Int)=g.params∧∀ i,i < l.length→∀ a,l[i]? = some a→within a regs
def callP (u:Bool) (fs:List DFunc) (regs n:Int) (l:List Int):Prop:=(u=true→argsP fs regs n l)∧(u=false→n=0∧l=[])
def goalAt (bs:List DBlock) (n:Int) (landing:Bool):Prop:=0≤n∧∃ b,bs[n.toNat]? = some b∧b.landing=landing
def goalP (u:Bool) (bs:List DBlock) (n:Int) (landing:Bool):Prop:=(u=true→goalAt bs n landing)∧(u=false→n=0)
theorem placeP_t {regs n:Int}:placeP true regs n ↔ within n regs:=⟨fun h=>h.1 rfl,fun h=>⟨fun _=>h,fun h=>nomatch h⟩⟩
theorem tt_iff0 {p:Prop}:tt p=false ↔ ¬ p:=⟨fun h hp=>(by rw [tt_true hp] at h; exact Bool.noConfusion h),fun h=>tt_false h⟩
end Go.Ab
namespace Go.Ab.A10
open Go Go.Ab Go.Proofs
def usesI (op:Int):Int :=
 if op=1 then 19 else if op=2 then 7 else if op=9 then 7 else if op=3 then 15 else if op=4 then 15 else if op=5 then 15 else if op=6 then 15 else if op=7 then 15 else if op=8 then 15 else if op=10 then 13 else if op=11 then 35 else if op=12 then 5 else if op=13 then 3 else 0
def usesE (k:Int):Int :=
 if k=1 then 5 else if k=5 then 5 else if k=2 then 65 else if k=3 then 197 else if k=4 then 355 else if k=6 then 1 else 0
def has (u f:Int):Bool:=decide (¬ IntKind.i64.wrap ((BitVec.ofInt 64 u &&& BitVec.ofInt 64 f).toNat:Int)=0)
theorem r25 (u f:Int):Runs prog 74 [I u,I f] (B (has u f)):=by
 refine Runs.of (f74_MR _ _) ?_
 unfold f74_M
 repeat' (first
  | refine Goes.chk rfl ?_
  | refine Goes.tv rfl ?_
  | refine Goes.tv (RL.len (by assumption)) ?_
  | refine Goes.nat rfl ?_
  | refine Goes.ite rfl (fun _=>?_) (fun _=>?_)
  | refine Goes.call (by assumption) ?_
  | refine Goes.tvs (by assumption) ?_)
 refine goes_ret.2 ?_
 simp [has]
 rfl
theorem r24 (k:Int):Runs prog 73 [I k] (I (usesE k)):=by
 refine Runs.of (f73_MR _) ?_
 unfold f73_M
 repeat' (first
  | refine Goes.chk rfl ?_
  | refine Goes.tv rfl ?_
  | refine Goes.tv (RL.len (by assumption)) ?_
  | refine Goes.nat rfl ?_
  | refine Goes.ite rfl (fun _=>?_) (fun _=>?_)
  | refine Goes.call (by assumption) ?_
  | refine Goes.tvs (by assumption) ?_)
 all_goals (refine goes_ret.2 ?_; simp_all [usesE])
theorem r49 (k:Int):Runs prog 80 [I k] (I (usesI k)):=by
 refine Runs.of (f80_MR _) ?_
 unfold f80_M
 repeat' (first
  | refine Goes.chk rfl ?_
  | refine Goes.tv rfl ?_
  | refine Goes.tv (RL.len (by assumption)) ?_
  | refine Goes.nat rfl ?_
  | refine Goes.ite rfl (fun _=>?_) (fun _=>?_)
  | refine Goes.call (by assumption) ?_
  | refine Goes.tvs (by assumption) ?_)
 all_goals (refine goes_ret.2 ?_; simp_all [usesI])
theorem r47 {fs bs:TV} {p regs n:Int} {u:Bool}:Runs prog 78 [.agg [fs,I p,I regs,bs],B u,I n] (B (tt (placeP u regs n))):=by
  cases u
  · refine Runs.of (f78_MR _ _ _) ?_
    unfold f78_M
    repeat' (first
      | refine Goes.chk rfl ?_
      | refine Goes.tv rfl ?_
      | refine Goes.tv (RL.len (by assumption)) ?_
      | refine Goes.nat rfl ?_
      | refine Goes.ite (v:=true) rfl (fun _=>?_) (fun h=>nomatch h)
      | refine Goes.ite (v:=false) rfl (fun h=>nomatch h) (fun _=>?_)
      | refine Goes.ite rfl (fun _=>?_) (fun _=>?_)
      | refine Goes.call (by assumption) ?_
      | refine Goes.tvs (by assumption) ?_
       )
    all_goals (apply ret_tt; simp_all [placeP])
  · refine Runs.of (f78_MR _ _ _) ?_
    unfold f78_M
    repeat' (first
      | refine Goes.chk rfl ?_
      | refine Goes.tv rfl ?_
      | refine Goes.tv (RL.len (by assumption)) ?_
      | refine Goes.nat rfl ?_
      | refine Goes.ite (v:=true) rfl (fun _=>?_) (fun h=>nomatch h)
      | refine Goes.ite (v:=false) rfl (fun h=>nomatch h) (fun _=>?_)
      | refine Goes.ite rfl (fun _=>?_) (fun _=>?_)
      | refine Goes.call (by assumption) ?_
      | refine Goes.tvs (by assumption) ?_
       )
    all_goals (apply ret_tt; simp_all [placeP,within] <;> omega)
theorem r50 {q q' : Option Bool} {x bs g : TV} {fs : List DFunc} {p regs n : Int} {u : Bool} {l : List Int} (hx : RL q 3 (RFunc q) x fs) (hg : RInts q' g l) : Runs prog 81 [.agg [x, I p, I regs, bs], B u, I n, g] (B (tt (callP u fs regs n l))) := by
  cases u
  · refine Runs.of (f81_MR _ _ _ _) ?_
    unfold f81_M
    repeat' (first
      | refine Goes.chk rfl ?_
      | refine Goes.tv rfl ?_
      | refine Goes.tv (RL.len (by assumption)) ?_
      | refine Goes.nat rfl ?_
      | refine Goes.ite (v:=true) rfl (fun _=>?_) (fun h=>nomatch h)
      | refine Goes.ite (v:=false) rfl (fun h=>nomatch h) (fun _=>?_)
      | refine Goes.ite rfl (fun _=>?_) (fun _=>?_)
      | refine Goes.call (by assumption) ?_
      | refine Goes.tvs (by assumption) ?_
       )
    all_goals (apply ret_tt; simp_all [callP])
  · rw [show tt (callP true fs regs n l) = tt (argsP fs regs n l) from tt_congr ⟨fun h => h.1 rfl, fun h => ⟨fun _ => h, fun h => nomatch h⟩⟩]
    refine Runs.of (f81_MR _ _ _ _) ?_
    unfold f81_M
    refine Goes.chk rfl (Goes.tv rfl (Goes.ite rfl (fun h=>nomatch h) fun _=>Goes.tv rfl (Goes.ite rfl (fun h=>?_) fun h=>?_)))
    · simp at h
      exact ret_no fun h'=>by have:=h'.1; omega
    · have h0 : 0 ≤ n := by simpa using h
      refine Goes.tv hx.len (Goes.tv rfl (Goes.ite rfl (fun h=>?_) fun h=>?_))
      · simp at h
        refine ret_no ?_
        rintro ⟨_,f,hf,_⟩
        have:=(List.getElem?_eq_some_iff.1 hf).1
        omega
      · simp at h
        have hlt:n.toNat < fs.length:=by omega
        have hf:fs[n.toNat]? = some fs[n.toNat]:=List.getElem?_eq_getElem hlt
        obtain ⟨e,he,hr⟩:=hx.idxI (k:=.i64) h0 hf
        obtain ⟨b,rfl,_⟩:=hr
        refine Goes.tv hg.len (Goes.tvs he (Goes.chk rfl (Goes.tv rfl (Goes.ite rfl (fun h=>?_) fun h=>?_))))
        · refine ret_no ?_
          rintro ⟨_,f,hf',hl,_⟩
          rw [hf] at hf'
          simp at hf' h
          subst hf'
          exact h hl
        · simp at h
          refine Goes.tv hg.len (f81_0_J ?_)
          have hp:argsP fs regs n l ↔ ∀ i,i < l.length→∀ a,l[i]? = some a→within a regs:=by
            refine ⟨fun ⟨_,f,hf',hl,ha⟩=>ha,fun ha=>⟨h0,_,hf,h,ha⟩⟩
          rw [tt_congr hp]
          refine allLoop' (g:=fun k=>f81_0 g (I l.length) (I k) x (I p) (I regs) bs) ?_ ?_
          · unfold f81_0
            refine Goes.tv rfl (Goes.ite asB_end (fun h=>nomatch h) fun _=>?_)
            exact Goes.ret
          · intro k hk r h1 h2
            have ha:l[k]? = some l[k]:=List.getElem?_eq_getElem hk
            obtain ⟨e,he,rfl,_⟩:=hg.idx (k:=.i64) ha
            unfold f81_0
            refine Goes.tv rfl (Goes.ite (asB_lt hk) (fun _=>?_) fun h=>nomatch h)
            refine Goes.tvs he (Goes.chk rfl (Goes.call r47 (Goes.chk rfl (Goes.tv rfl (Goes.ite rfl (fun h=>?_) fun h=>?_)))))
            · rw [h1 (by simp [ha]; simpa [tt_iff,tt_iff0,placeP_t] using h)]; exact Goes.ret
            · refine Goes.tv (inc hk hg.bnd) (f81_0_J (h2 ?_))
              simp [ha]; simpa [tt_iff,tt_iff0,placeP_t] using h
theorem r51 {q : Option Bool} {fs x : TV} {bs : List DBlock} {p regs n : Int} {u landing : Bool} (hx : RL q 14 (RBlock q) x bs) : Runs prog 82 [.agg [fs, I p, I regs, x], B u, I n, B landing] (B (tt (goalP u bs n landing))) := by
  cases u
  · refine Runs.of (f82_MR _ _ _ _) ?_
    unfold f82_M
    repeat' (first
      | refine Goes.chk rfl ?_
      | refine Goes.tv rfl ?_
      | refine Goes.tv (RL.len (by assumption)) ?_
      | refine Goes.nat rfl ?_
      | refine Goes.ite (v:=true) rfl (fun _=>?_) (fun h=>nomatch h)
      | refine Goes.ite (v:=false) rfl (fun h=>nomatch h) (fun _=>?_)
      | refine Goes.ite rfl (fun _=>?_) (fun _=>?_)
      | refine Goes.call (by assumption) ?_
      | refine Goes.tvs (by assumption) ?_
       )
    all_goals (apply ret_tt; simp_all [goalP])
  · rw [show tt (goalP true bs n landing) = tt (goalAt bs n landing) from tt_congr ⟨fun h => h.1 rfl, fun h => ⟨fun _ => h, fun h => nomatch h⟩⟩]
    refine Runs.of (f82_MR _ _ _ _) ?_
    unfold f82_M
    refine Goes.chk rfl (Goes.tv rfl (Goes.ite rfl (fun h=>nomatch h) fun _=>Goes.tv rfl (Goes.ite rfl (fun h=>?_) fun h=>?_)))
    · have h0 : 0 ≤ n := by simpa using h
      refine Goes.tv hx.len (Goes.tv rfl (Goes.ite rfl (fun h=>?_) fun h=>?_))
      · simp at h
        have hlt:n.toNat < bs.length:=by omega
        have hf:bs[n.toNat]? = some bs[n.toNat]:=List.getElem?_eq_getElem hlt
        obtain ⟨e,he,hr⟩:=hx.idxI (k:=.i64) h0 hf
        obtain ⟨c,i,g,rfl,_⟩:=hr
        refine Goes.tvs he (Goes.chk rfl (Goes.tv rfl ?_))
        apply ret_tt
        simp [goalAt,h0,hf]
      · simp at h
        refine ret_no ?_
        rintro ⟨_,f,hf,_⟩
        have:=(List.getElem?_eq_some_iff.1 hf).1
        omega
    · simp at h
      exact ret_no fun h'=>by have:=h'.1; omega
def insP (fs:List DFunc) (regs:Int) (x:DIns):Prop :=
 has (usesI x.op) 1=true∧placeP (has (usesI x.op) 2) regs x.dst∧placeP (has (usesI x.op) 4) regs x.a∧placeP (has (usesI x.op) 8) regs x.b∧(has (usesI x.op) 16=true∨x.k=0)∧callP (has (usesI x.op) 32) fs regs x.f x.args
theorem r33 {q q':Option Bool} {x bs:TV} {e:List TV} {fs:List DFunc} {p regs:Int} {a:DIns} (hx:RL q 3 (RFunc q) x fs) (he:RIns q' e a):Runs prog 70 [.agg [x,I p,I regs,bs],.agg e] (B (tt (insP fs regs a))):=by
 obtain ⟨g,rfl,hg,_⟩:=he
 have h49:=r49 a.op
 have h50:∀ {u:Bool} {n:Int},Runs prog 81 [.agg [x,I p,I regs,bs],B u,I n,g] (B (tt (callP u fs regs n a.args))):=r50 hx hg
 refine Runs.of (f70_MR _ _) ?_
 unfold f70_M
 repeat' (first
  | refine Goes.chk rfl ?_
  | refine Goes.tv rfl ?_
  | refine Goes.tv (RL.len (by assumption)) ?_
  | refine Goes.nat rfl ?_
  | refine Goes.ite (v:=true) rfl (fun _=>?_) (fun h=>nomatch h)
  | refine Goes.ite (v:=false) rfl (fun h=>nomatch h) (fun _=>?_)
  | refine Goes.ite rfl (fun _=>?_) (fun _=>?_)
  | refine Goes.call (by assumption) ?_
  | refine Goes.tvs (by assumption) ?_
  | refine Goes.call (r25 _ _) ?_ | refine Goes.call r47 ?_ | refine Goes.call h50 ?_)
 all_goals (apply ret_tt; simp_all [insP,tt_iff,tt_iff0])
def endP (fs:List DFunc) (regs:Int) (bs:List DBlock) (x:DEnd):Prop :=
 has (usesE x.kind) 1=true∧placeP (has (usesE x.kind) 4) regs x.a∧placeP (has (usesE x.kind) 2) regs x.dst∧callP (has (usesE x.kind) 32) fs regs x.f x.args ∧
  goalP (has (usesE x.kind) 64) bs x.to false∧goalP (has (usesE x.kind) 128) bs x.els false∧goalP (has (usesE x.kind) 256) bs x.pad true
theorem r34 {q q' q2:Option Bool} {x y:TV} {e:List TV} {fs:List DFunc} {bs:List DBlock} {p regs:Int} {a:DEnd} (hx:RL q 3 (RFunc q) x fs) (hy:RL q2 14 (RBlock q2) y bs) (he:REnd q' e a):Runs prog 71 [.agg [x,I p,I regs,y],.agg e] (B (tt (endP fs regs bs a))):=by
 obtain ⟨g,rfl,hg,_⟩:=he
 have h24:=r24 a.kind
 have h50:∀ {u:Bool} {n:Int},Runs prog 81 [.agg [x,I p,I regs,y],B u,I n,g] (B (tt (callP u fs regs n a.args))):=r50 hx hg
 have h51:∀ {u landing:Bool} {n:Int},Runs prog 82 [.agg [x,I p,I regs,y],B u,I n,B landing] (B (tt (goalP u bs n landing))):=r51 hy
 refine Runs.of (f71_MR _ _) ?_
 unfold f71_M
 repeat' (first
  | refine Goes.chk rfl ?_
  | refine Goes.tv rfl ?_
  | refine Goes.tv (RL.len (by assumption)) ?_
  | refine Goes.nat rfl ?_
  | refine Goes.ite (v:=true) rfl (fun _=>?_) (fun h=>nomatch h)
  | refine Goes.ite (v:=false) rfl (fun h=>nomatch h) (fun _=>?_)
  | refine Goes.ite rfl (fun _=>?_) (fun _=>?_)
  | refine Goes.call (by assumption) ?_
  | refine Goes.tvs (by assumption) ?_
  | refine Goes.call (r25 _ _) ?_ | refine Goes.call r47 ?_ | refine Goes.call h50 ?_ | refine Goes.call h51 ?_)
 all_goals (apply ret_tt; simp_all [endP,tt_iff,tt_iff0])
end Go.Ab.A10
end
section
set_option linter.unusedVariables false
set_option maxRecDepth 10000
namespace Go.Ab
theorem RL.slice {α:Type} {q:Option Bool} {s:Nat} {R:List TV→α→Prop} {x:TV} {l:List α} (h:RL q s R x l) {t:TypeId} {lo hi:Option Nat} (h1:lo.getD 0≤hi.getD l.length) (h2:hi.getD l.length≤l.length) :
  ∃ y,pslice (.slice t) s x lo hi=some y∧RL q s R y ((l.drop (lo.getD 0)).take (hi.getD l.length - lo.getD 0)):=by
 rcases h with ⟨rfl,rfl⟩ | ⟨o,xs,rfl,hq,h,hb⟩
 ·simp at h1 h2
  refine ⟨_,?_,by simpa using RL.nil⟩
  have h3:lo.getD 0=0:=by omega
  simp only [pslice,nilV,h2,h3,and_self,if_true]
 ·have hl:=h.length
  refine ⟨.sl o s ((xs.drop (lo.getD 0)).take (hi.getD xs.length - lo.getD 0)),?_,?_⟩
  ·rw [← hl] at h1 h2
   simp only [pslice,h1,h2,and_self,if_true]
  ·rw [← hl]
   exact .sl hq ((h.drop _).take _) (by simp; omega)
theorem asNat_nat {k:Nat} (h:k≤9223372036854775807):asNat (I (k:Int))=some k:=by
 simp [asNat]; omega
def unlikeP (l:List Int):Prop:=∀ i,i < l.length→∀ a,l[i]? = some a→a ∉ l.take i
def padP (landing:Bool) (regs:Int) (p:DPad):Prop:=(landing=false→p.dst=0∧p.catches=[]∧p.all=false∧p.cleanup=false) ∧
 (landing=true→within p.dst regs∧p.catches.length≤8∧unlikeP p.catches∧(p.catches≠[]∨p.all=true∨p.cleanup=true))
end Go.Ab
namespace Go.Ab.A10
open Go Go.Ab Go.Proofs
theorem r59 {q:Option Bool} {x:TV} {l:List Int} {w:Int} (hx:RWords q x l):∃ n,Runs prog 77 [x,W w] (I n)∧(0≤n ↔ w ∈ l):=by
 have loop : ∀ d k, k + d = l.length → ∃ n, Goes prog 77 (f77_0 x (W w) (I l.length) (I k)) (I n) ∧ (0 ≤ n ↔ ∃ i, k ≤ i ∧ l[i]? = some w) := by
  intro d
  induction d with
  | zero =>
   intro k hk
   have hk:k=l.length:=by omega
   subst hk
   refine ⟨-1,?_,?_⟩
   ·unfold f77_0
    refine Goes.tv rfl (Goes.ite asB_end (fun h=>nomatch h) fun _=>?_)
    exact Goes.ret
   ·simp only [show ¬ (0:Int)≤-1 by omega,false_iff,not_exists,not_and]
    intro i hi
    rw [List.getElem?_eq_none hi]; simp
  | succ d ih =>
   intro k hk
   have hk':k < l.length:=by omega
   have ha:l[k]? = some l[k]:=List.getElem?_eq_getElem hk'
   obtain ⟨e,he,rfl,_⟩:=hx.idx (k:=.i64) ha
   obtain ⟨n,hn,hiff⟩:=ih (k + 1) (by omega)
   by_cases hw:w=l[k]
   ·refine ⟨(k:Int),?_,?_⟩
    ·unfold f77_0
     refine Goes.tv rfl (Goes.ite (asB_lt hk') (fun _=>?_) fun h=>nomatch h)
     refine Goes.tvs he (Goes.chk rfl (Goes.tv rfl (Goes.ite rfl (fun h=>Goes.ret) fun h=>?_)))
     simp at h; exact absurd hw h
    ·constructor
     ·intro _; exact ⟨k,Nat.le_refl _,by rw [ha,hw]⟩
     ·intro _; omega
   ·refine ⟨n,?_,?_⟩
    ·unfold f77_0
     refine Goes.tv rfl (Goes.ite (asB_lt hk') (fun _=>?_) fun h=>nomatch h)
     refine Goes.tvs he (Goes.chk rfl (Goes.tv rfl (Goes.ite rfl (fun h=>?_) fun h=>?_)))
     ·simp at h; exact absurd h hw
     ·refine Goes.tv (inc hk' hx.bnd) (f77_0_J hn)
    ·rw [hiff]
     constructor
     ·rintro ⟨i,hi,h⟩; exact ⟨i,by omega,h⟩
     ·rintro ⟨i,hi,h⟩
      refine ⟨i,?_,h⟩
      by_cases hik:i=k
      ·subst hik; rw [ha] at h; simp at h; exact absurd h.symm hw
      ·omega
 obtain ⟨n,hn,hiff⟩:=loop l.length 0 (by omega)
 refine ⟨n,?_,?_⟩
 ·refine Runs.of (f77_MR _ _) ?_
  unfold f77_M
  exact Goes.tv hx.len (f77_0_J hn)
 ·rw [hiff,List.mem_iff_getElem?]
  simp
theorem r56 {q:Option Bool} {x:TV} {l:List Int} {w:Int} (hx:RWords q x l):Runs prog 68 [x,W w] (B (tt (w ∈ l))):=by
 obtain ⟨n,hn,hiff⟩:=r59 (w:=w) hx
 refine Runs.of (f68_MR _ _) ?_
 unfold f68_M
 repeat' (first
  | refine Goes.chk rfl ?_
  | refine Goes.tv rfl ?_
  | refine Goes.tv (RL.len (by assumption)) ?_
  | refine Goes.nat rfl ?_
  | refine Goes.ite rfl (fun _=>?_) (fun _=>?_)
  | refine Goes.call (by assumption) ?_
  | refine Goes.tvs (by assumption) ?_)
 apply ret_tt
 simp [hiff]
theorem r48 {q:Option Bool} {x:TV} {l:List Int} (hx:RWords q x l):Runs prog 79 [x] (B (tt (unlikeP l))):=by
 refine Runs.of (f79_MR _) ?_
 unfold f79_M
 refine Goes.tv hx.len (f79_0_J ?_)
 refine allLoop' (g:=fun k=>f79_0 x x (I l.length) (I k)) ?_ ?_
 ·unfold f79_0
  refine Goes.tv rfl (Goes.ite asB_end (fun h=>nomatch h) fun _=>?_)
  exact Goes.ret
 ·intro k hk r h1 h2
  have ha:l[k]? = some l[k]:=List.getElem?_eq_getElem hk
  obtain ⟨e,he,rfl,_⟩:=hx.idx (k:=.i64) ha
  obtain ⟨y,hy,hry⟩:=hx.slice (t:=29) (lo:=none) (hi:=some k) (by simp) (by simp; omega)
  have hry':RWords q y (l.take k):=by simpa using hry
  unfold f79_0
  refine Goes.tv rfl (Goes.ite (asB_lt hk) (fun _=>?_) fun h=>nomatch h)
  have hb:=hx.bnd
  refine Goes.tvs he (Goes.chk rfl (Goes.nat (asNat_nat (by omega)) (Goes.tv hy (Goes.call (r56 hry') (Goes.chk rfl (Goes.ite rfl (fun h=>?_) fun h=>?_))))))
  ·rw [h1 (by simp [ha]; simpa [tt_iff] using h)]; exact Goes.ret
  ·refine Goes.tv (inc hk hx.bnd) (f79_0_J (h2 ?_))
   simp [ha]; simpa [tt_iff0] using h
theorem r32 {q:Option Bool} {fs bs:TV} {e:List TV} {p regs:Int} {a:DPad} {landing:Bool} (he:RPad q e a):Runs prog 69 [.agg [fs,I p,I regs,bs],B landing,.agg e] (B (tt (padP landing regs a))):=by
  obtain ⟨x,rfl,hx,_⟩:=he
  have h48:=r48 hx
  cases landing
  · refine Runs.of (f69_MR _ _ _) ?_
    unfold f69_M
    repeat' (first
      | refine Goes.chk rfl ?_
      | refine Goes.tv rfl ?_
      | refine Goes.tv (RL.len (by assumption)) ?_
      | refine Goes.nat rfl ?_
      | refine Goes.ite (v:=true) rfl (fun _=>?_) (fun h=>nomatch h)
      | refine Goes.ite (v:=false) rfl (fun h=>nomatch h) (fun _=>?_)
      | refine Goes.ite rfl (fun _=>?_) (fun _=>?_)
      | refine Goes.call (by assumption) ?_
      | refine Goes.tvs (by assumption) ?_
       )
    all_goals (apply ret_tt; simp_all [padP])
  · refine Runs.of (f69_MR _ _ _) ?_
    unfold f69_M
    repeat' (first
      | refine Goes.chk rfl ?_
      | refine Goes.tv rfl ?_
      | refine Goes.tv (RL.len (by assumption)) ?_
      | refine Goes.nat rfl ?_
      | refine Goes.ite (v:=true) rfl (fun _=>?_) (fun h=>nomatch h)
      | refine Goes.ite (v:=false) rfl (fun h=>nomatch h) (fun _=>?_)
      | refine Goes.ite rfl (fun _=>?_) (fun _=>?_)
      | refine Goes.call (by assumption) ?_
      | refine Goes.tvs (by assumption) ?_
      | refine Goes.call r47 ?_)
    all_goals (apply ret_tt; simp_all [padP,tt_iff,tt_iff0,placeP_t,List.length_pos_iff] <;> omega)
def blockP (fs:List DFunc) (regs:Int) (bs:List DBlock) (b:DBlock):Prop:=b.ins.length≤64∧padP b.landing regs b.pad∧(∀ i,i < b.ins.length→∀ x,b.ins[i]? = some x→insP fs regs x)∧endP fs regs bs b.fin
def funcP (fs:List DFunc) (f:DFunc):Prop:=(0≤f.params∧f.params≤8∧f.params≤f.regs∧f.regs≤256)∧f.blocks.length≤64∧(∃ b,f.blocks[0]? = some b∧b.landing=false)∧∀ i,i < f.blocks.length→∀ b,f.blocks[i]? = some b→blockP fs f.regs f.blocks b
theorem r19 {q q' q2:Option Bool} {x y:TV} {e:List TV} {fs:List DFunc} {bs:List DBlock} {p regs:Int} {b:DBlock} (hx:RL q 3 (RFunc q) x fs) (hy:RL q2 14 (RBlock q2) y bs) (he:RBlock q' e b) :
  Runs prog 58 [.agg [x,I p,I regs,y],.agg e] (B (tt (blockP fs regs bs b))):=by
 obtain ⟨c,i,g,rfl,hc,hd,hi,hg,ho⟩:=he
 have h32:Runs prog 69 [.agg [x,I p,I regs,y],B b.landing,.agg [I b.pad.dst,c,B b.pad.all,B b.pad.cleanup]] (B (tt (padP b.landing regs b.pad))):=r32 (q:=q') ⟨c,rfl,hc,hd⟩
 have h34:Runs prog 71 [.agg [x,I p,I regs,y],.agg [I b.fin.kind,I b.fin.a,I b.fin.dst,I b.fin.f,g,I b.fin.to,I b.fin.els,I b.fin.pad]] (B (tt (endP fs regs bs b.fin))):=r34 (q':=q') hx hy ⟨g,rfl,hg,ho⟩
 refine Runs.of (f58_MR _ _) ?_
 unfold f58_M
 refine Goes.chk rfl (Goes.chk rfl (Goes.tv hi.len (Goes.tv rfl (Goes.ite rfl (fun h=>?_) fun h0=>?_))))
 ·simp at h
  exact ret_no fun h'=>by have:=h'.1; omega
 ·refine Goes.call h32 (Goes.chk rfl (Goes.tv rfl (Goes.ite rfl (fun h=>?_) fun h=>?_)))
  ·simp [tt_iff0] at h
   exact ret_no fun h'=>h h'.2.1
  ·simp [tt_iff] at h h0
   refine Goes.tv hi.len (f58_0_J ?_)
   rw [show tt (blockP fs regs bs b)=tt (allFrom 0 b.ins.length (fun i=>∀ x,b.ins[i]? = some x→insP fs regs x)∧endP fs regs bs b.fin) from tt_congr (by
    rw [allFrom_zero]
    exact ⟨fun h=>h.2.2,fun h'=>⟨by omega,h,h'⟩⟩)]
   refine allLoop (g:=fun k=>f58_0 i (I b.ins.length) (I k) x (I p) (I regs) y (B b.landing) (I b.pad.dst) c (B b.pad.all) (B b.pad.cleanup) i (I b.fin.kind) (I b.fin.a) (I b.fin.dst) (I b.fin.f) g (I b.fin.to) (I b.fin.els) (I b.fin.pad)) ?_ ?_ b.ins.length 0 (by omega)
   ·unfold f58_0
    refine Goes.tv rfl (Goes.ite asB_end (fun h=>nomatch h) fun _=>?_)
    refine f58_1_J ?_
    unfold f58_1
    exact Goes.call h34 (Goes.chk rfl Goes.ret)
   ·intro k hk r h1 h2
    have ha:b.ins[k]? = some b.ins[k]:=List.getElem?_eq_getElem hk
    obtain ⟨e,he,hr⟩:=hi.idx (k:=.i64) ha
    have h33:Runs prog 70 [.agg [x,I p,I regs,y],.agg e] (B (tt (insP fs regs b.ins[k]))):=r33 hx hr
    obtain ⟨_,rfl,_⟩:=hr
    unfold f58_0
    refine Goes.tv rfl (Goes.ite (asB_lt hk) (fun _=>?_) fun h=>nomatch h)
    refine Goes.tvs he (Goes.chk rfl (Goes.call h33 (Goes.chk rfl (Goes.tv rfl (Goes.ite rfl (fun h=>?_) fun h=>?_)))))
    ·rw [h1 (by simp [ha]; simpa [tt_iff0] using h)]; exact Goes.ret
    ·refine Goes.tv (inc hk hi.bnd) (f58_0_J (h2 ?_))
     simp [ha]; simpa [tt_iff] using h
theorem r10 {q q':Option Bool} {e e':List TV} {m:DMod} {f:DFunc} (hm:RMod q e m) (hf:RFunc q' e' f):Runs prog 44 [.agg e,.agg e'] (B (tt (funcP m.funcs f))):=by
 obtain ⟨x,rfl,hx⟩:=hm
 obtain ⟨y,rfl,hy,_⟩:=hf
 refine Runs.of (f44_MR _ _) ?_
 unfold f44_M
 refine Goes.chk rfl (Goes.chk rfl (Goes.tv rfl (Goes.ite rfl (fun h=>?_) fun g1=>?_)))
 ·simp at h; exact ret_no fun h'=>by have:=h'.1; omega
 refine Goes.tv rfl (Goes.ite rfl (fun h=>?_) fun g2=>?_)
 ·simp at h; exact ret_no fun h'=>by have:=h'.1; omega
 refine Goes.tv rfl (Goes.ite rfl (fun h=>?_) fun g3=>?_)
 ·simp at h; exact ret_no fun h'=>by have:=h'.1; omega
 refine Goes.tv rfl (Goes.ite rfl (fun h=>?_) fun g4=>?_)
 ·simp at h; exact ret_no fun h'=>by have:=h'.1; omega
 refine Goes.tv hy.len (Goes.tv rfl (Goes.ite rfl (fun h=>?_) fun g5=>?_))
 ·simp at h
  refine ret_no ?_
  rintro ⟨_,_,⟨b,hb,_⟩,_⟩
  have:=(List.getElem?_eq_some_iff.1 hb).1
  omega
 refine Goes.tv hy.len (Goes.tv rfl (Goes.ite rfl (fun h=>?_) fun g6=>?_))
 ·simp at h; exact ret_no fun h'=>by have:=h'.2.1; omega
 simp at g1 g2 g3 g4 g5 g6
 have hpos:0 < f.blocks.length:=by omega
 have hb0:f.blocks[0]? = some f.blocks[0]:=List.getElem?_eq_getElem hpos
 obtain ⟨e0,he0,hr0⟩:=hy.idx (k:=.i64) hb0
 obtain ⟨_,_,_,rfl,_⟩:=hr0
 refine Goes.tvs he0 (Goes.chk rfl (Goes.ite rfl (fun h=>?_) fun g7=>?_))
 ·refine ret_no ?_
  rintro ⟨_,_,⟨b,hb,hl⟩,_⟩
  rw [hb0] at hb
  simp at hb
  subst hb
  rw [hl] at h
  cases h
 refine Goes.tv hy.len (f44_0_J ?_)
 rw [show tt (funcP m.funcs f)=tt (∀ i,i < f.blocks.length→∀ b,f.blocks[i]? = some b→blockP m.funcs f.regs f.blocks b) from tt_congr
  ⟨fun h=>h.2.2.2,fun h=>⟨⟨by omega,by omega,by omega,by omega⟩,by omega,⟨_,hb0,g7⟩,h⟩⟩]
 refine allLoop' (g:=fun k=>f44_0 y (I f.blocks.length) (I k) x (I f.params) (I f.regs) y) ?_ ?_
 ·unfold f44_0
  refine Goes.tv rfl (Goes.ite asB_end (fun h=>nomatch h) fun _=>?_)
  exact Goes.ret
 ·intro k hk r h1 h2
  have ha:f.blocks[k]? = some f.blocks[k]:=List.getElem?_eq_getElem hk
  obtain ⟨e,he,hr⟩:=hy.idx (k:=.i64) ha
  have h19:Runs prog 58 [.agg [x,I f.params,I f.regs,y],.agg e] (B (tt (blockP m.funcs f.regs f.blocks f.blocks[k]))):=r19 hx hy hr
  obtain ⟨_,_,_,rfl,_⟩:=hr
  unfold f44_0
  refine Goes.tv rfl (Goes.ite (asB_lt hk) (fun _=>?_) fun h=>nomatch h)
  refine Goes.tvs he (Goes.chk rfl (Goes.call h19 (Goes.chk rfl (Goes.tv rfl (Goes.ite rfl (fun h=>?_) fun h=>?_)))))
  ·rw [h1 (by simp [ha]; simpa [tt_iff0] using h)]; exact Goes.ret
  ·refine Goes.tv (inc hk hy.bnd) (f44_0_J (h2 ?_))
   simp [ha]; simpa [tt_iff] using h
end Go.Ab.A10
end
section
set_option linter.unusedVariables false
set_option maxRecDepth 10000
namespace Go.Ab
section
variable {α:Type} {s:Nat} {R S:Nat→List TV→α→Prop} {x:TV} {l:List α}
theorem setNth_len {β:Type}:∀ (l:List β) (n:Nat) (b:β),(setNth l n b).length=l.length
 | [],_,_=>rfl
 | _ :: _,0,_=>rfl
 | a :: l,n + 1,b=>by simp [setNth,setNth_len l n b]
end
theorem isOwnLL_all:∀ (xs:List (List TV)),(∀ e ∈ xs,isOwnL e=true)→isOwnLL xs=true
 | [],_=>rfl
 | e :: xs,h=>by
  simp only [isOwnLL,Bool.and_eq_true]
  exact ⟨h e List.mem_cons_self,isOwnLL_all xs fun e he=>h e (List.mem_cons_of_mem _ he)⟩
theorem F2.memL {α β:Type} {R:α→β→Prop} {xs:List α} {l:List β} (h:F2 R xs l) {e:α} (he:e ∈ xs):∃ a,a ∈ l∧R e a:=by
 obtain ⟨i,hi,rfl⟩:=List.mem_iff_getElem.1 he
 obtain ⟨a,ha,hr⟩:=h.getL (List.getElem?_eq_getElem hi)
 exact ⟨a,List.mem_of_getElem? ha,hr⟩
theorem RL.own {α:Type} {s:Nat} {R:List TV→α→Prop} {x:TV} {l:List α} (h:RL (some true) s R x l) (hm:∀ e a,R e a→isOwnL e=true):isOwn x=true:=by
 rcases h with ⟨rfl,rfl⟩ | ⟨o,xs,rfl,hq,h,hb⟩
 ·rfl
 ·rw [hq true rfl]
  simp only [isOwn,Bool.true_and]
  refine isOwnLL_all _ fun e he=>?_
  obtain ⟨a,_,hr⟩:=h.memL he
  exact hm _ _ hr
theorem RI1.own {e:List TV} {n:Int} (h:RI1 e n):isOwnL e=true:=by obtain ⟨rfl,_⟩:=h; rfl
theorem RB1.own {e:List TV} {n:Bool} (h:RB1 e n):isOwnL e=true:=by cases h; rfl
theorem own_copy {α:Type} {q:Option Bool} {s:Nat} {R:List TV→α→Prop} {x:TV} {l:List α} (h:RL q s R x l) (z:List TV) {xs:List (List TV)} (hx:pelems s x=some xs):∃ y,pcopy s (.sl true s (List.replicate l.length z)) xs=some y∧RL (some true) s R y l:=by
 have hl:F2 R xs l∧xs.length≤9223372036854775807:=by
  rcases h with ⟨rfl,rfl⟩ | ⟨o,ys,rfl,hq,h,hb⟩
  ·change some []=some xs at hx; cases hx; exact ⟨.nil,by simp⟩
  ·simp [pelems] at hx; subst hx; exact ⟨h,hb⟩
 have hlen:=hl.1.length
 refine ⟨.sl true s (xs.take l.length ++ (List.replicate l.length z).drop xs.length),by simp [pcopy],?_⟩
 rw [← hlen,List.take_length,List.drop_eq_nil_of_le (by simp),List.append_nil]
 exact .sl (by simp) hl.1 hl.2
end Go.Ab
namespace Go.Ab.A10
open Go Go.Ab Go.Proofs
theorem r41 {q:Option Bool} {x:TV} {l:List Int} (hx:RL q 1 RI1 x l) (hl:l.length≤4294967296):∃ y,Runs prog 20 [x] y∧RL (some true) 1 RI1 y l:=by
 obtain ⟨xs,hxs,_⟩:=hx.elems
 obtain ⟨y,hy,hr⟩:=own_copy hx [.lit (.int .i64 0)] hxs
 have hn:=asNat_nat (k:=l.length) (by omega)
 have hle:(Nat.ble l.length 4294967296)=true:=by simpa using hl
 have hle':(Nat.ble l.length l.length)=true:=by simp
 have hown:=hr.own fun _ _ h=>h.own
 rcases hx with ⟨rfl,rfl⟩ | ⟨o,ys,rfl,hq,h,hb⟩
 ·refine ⟨.lit nilV,?_,.nil⟩
  refine Runs.of (f20_MR _) ?_
  unfold f20_M
  exact Goes.tv rfl (Goes.ite rfl (fun _=>Goes.chk rfl Goes.ret) fun h=>nomatch h)
 ·refine ⟨y,?_,hr⟩
  refine Runs.of (f20_MR _) ?_
  unfold f20_M
  refine Goes.tv rfl (Goes.ite rfl (fun h=>nomatch h) fun _=>?_)
  refine Goes.tv (v:=I l.length) (by simp [plen,h.length]) (Goes.nat hn (Goes.nat hn (Goes.chk (by rw [hle,hle']; rfl) (Goes.rws hxs (Goes.tv hy (Goes.nat rfl (Goes.chk hown Goes.ret)))))))
end Go.Ab.A10
end
section
set_option linter.unusedVariables false
set_option maxRecDepth 10000
namespace Go.Ab
section
variable {α β:Type} {p:Way} {w y:TV} {s:Nat} {R:List TV→α→Prop} {Q:TV→β→Prop} {G:List α→DMod} {l:List α}
theorem RL.at (hy:RL (some true) s R y l) {k:Nat} {e:List TV} (he:Go.Ab.pel y k=some e):∃ xs,y=.sl true s xs∧xs[k]? = some e∧F2 R xs l∧xs.length≤9223372036854775807:=by
 rcases hy with ⟨rfl,rfl⟩ | ⟨o,xs,rfl,hq,h,hb⟩
 ·simp [Go.Ab.pel] at he
 ·have:o=true:=hq true rfl
  subst this
  exact ⟨xs,rfl,he,h,hb⟩
end
end Go.Ab
namespace Go.Ab.A10
open Go Go.Ab Go.Proofs
end Go.Ab.A10
end
section
set_option linter.unusedVariables false
set_option maxRecDepth 10000
namespace Go.Ab
def gl (b:DBlock):List Int:=(if b.fin.kind=2∨b.fin.kind=3∨b.fin.kind=4 then [b.fin.to] else []) ++ (if b.fin.kind=3 then [b.fin.els] else [])
section
variable {α:Type} {s:Nat} {R:List TV→α→Prop} {y:TV} {l:List α}
theorem RL.setAt (hy:RL (some true) s R y l) {i:Nat} {e:List TV} (he:Go.Ab.pel y i=some e) {d:Nat} {ys:List TV} {a:α} (hR:R (setCells e d ys) a):∃ y',setC [] y i d ys=some y'∧RL (some true) s R y' (l.set i a):=by
 obtain ⟨xs,rfl,hk,hf,hb⟩:=hy.at he
 refine ⟨.sl true s (setNth xs i (setCells e d ys)),by simp only [setC,getP,setEl,hk,setP],.sl (by simp) (hf.set hR) (by rw [setNth_len]; exact hb)⟩
theorem RL.app (hy:RL (some true) s R y l) {e:List TV} {a:α} (hR:R e a) (hl:l.length + 1≤4294967296):∃ y',papp s y [e]=some y'∧RL (some true) s R y' (l ++ [a]):=by
 rcases hy with ⟨rfl,rfl⟩ | ⟨o,xs,rfl,hq,h,hb⟩
 ·refine ⟨.sl true s [e],by simp [papp,nilV,room,rowT],.sl (by simp) (.cons hR .nil) (by simp)⟩
 ·have:o=true:=hq true rfl
  subst this
  have hxl:=h.length
  refine ⟨.sl true s (xs ++ [e]),?_,.sl (by simp) (h.append (.cons hR .nil)) (by simp; omega)⟩
  simp [papp,room]; omega
end
end Go.Ab
namespace Go.Ab.A10
open Go Go.Ab Go.Proofs
theorem has64 (k:Int):has (usesE k) 64=true ↔ k=2∨k=3∨k=4:=by
 by_cases h1:k=1
 ·subst h1; exact ⟨fun h=>absurd h (by decide +kernel),fun h=>absurd h (by decide)⟩
 by_cases h5:k=5
 ·subst h5; exact ⟨fun h=>absurd h (by decide +kernel),fun h=>absurd h (by decide)⟩
 by_cases h2:k=2
 ·subst h2; exact ⟨fun _=>.inl rfl,fun _=>by decide +kernel⟩
 by_cases h3:k=3
 ·subst h3; exact ⟨fun _=>.inr (.inl rfl),fun _=>by decide +kernel⟩
 by_cases h4:k=4
 ·subst h4; exact ⟨fun _=>.inr (.inr rfl),fun _=>by decide +kernel⟩
 have:has (usesE k) 64=false:=by
  by_cases h6:k=6
  ·subst h6; decide +kernel
  ·have:usesE k=0:=by simp [usesE, *]
   rw [this]; decide +kernel
 simp [this,h2,h3,h4]
theorem has128 (k:Int):has (usesE k) 128=true ↔ k=3:=by
 by_cases h1:k=1
 ·subst h1; exact ⟨fun h=>absurd h (by decide +kernel),fun h=>absurd h (by decide)⟩
 by_cases h5:k=5
 ·subst h5; exact ⟨fun h=>absurd h (by decide +kernel),fun h=>absurd h (by decide)⟩
 by_cases h2:k=2
 ·subst h2; exact ⟨fun h=>absurd h (by decide +kernel),fun h=>absurd h (by decide)⟩
 by_cases h3:k=3
 ·subst h3; exact ⟨fun _=>rfl,fun _=>by decide +kernel⟩
 by_cases h4:k=4
 ·subst h4; exact ⟨fun h=>absurd h (by decide +kernel),fun h=>absurd h (by decide)⟩
 have:has (usesE k) 128=false:=by
  by_cases h6:k=6
  ·subst h6; decide +kernel
  ·have:usesE k=0:=by simp [usesE, *]
   rw [this]; decide +kernel
 simp [this,h3]
theorem r15 {q:Option Bool} {e:List TV} {b:DBlock} (he:RBlock q e b):∃ y,Runs prog 66 [.agg e] y∧RInts (some true) y (gl b):=by
 obtain ⟨c,i,g,rfl,hc,hd,hi,hg,ho⟩:=he
 obtain ⟨o1,o2,o3,o4,o5,o6,o7⟩:=ho
 have tail:∀ (w:TV) (l:List Int) (u:Bool),RInts (some true) w l→l.length≤1→(u=true ↔ b.fin.kind=3)→∃ y,Goes prog 66 (f66_0 (B u) (B b.landing) (I b.pad.dst) c (B b.pad.all) (B b.pad.cleanup) i (I b.fin.kind) (I b.fin.a) (I b.fin.dst) (I b.fin.f) g (I b.fin.to) (I b.fin.els) (I b.fin.pad) w) y∧RInts (some true) y (l ++ (if b.fin.kind=3 then [b.fin.els] else [])):=by
  intro w l u hw hl hu
  by_cases h:b.fin.kind=3
  ·have hut:u=true:=hu.2 h
   subst hut
   obtain ⟨w',hw',hr⟩:=hw.app (e:=[I b.fin.els]) (a:=b.fin.els) ⟨rfl,o6⟩ (by omega)
   refine ⟨w',?_,by simpa [h] using hr⟩
   unfold f66_0
   exact Goes.ite rfl (fun _=>Goes.rws rfl (Goes.tv hw' (Goes.chk (hr.own fun _ _ h=>h.own) Goes.ret))) fun h=>nomatch h
  ·have huf:u=false:=by cases u with
    | false=>rfl
    | true=>exact absurd (hu.1 rfl) h
   subst huf
   refine ⟨w,?_,by simpa [h] using hw⟩
   unfold f66_0
   exact Goes.ite rfl (fun h=>nomatch h) fun _=>Goes.chk (hw.own fun _ _ h=>h.own) Goes.ret
 by_cases h:b.fin.kind=2∨b.fin.kind=3∨b.fin.kind=4
 ·obtain ⟨y,hy,hr⟩:=tail (.sl true 1 [[I b.fin.to]]) [b.fin.to] (has (usesE b.fin.kind) 128) (.sl (by simp) (.cons ⟨rfl,o5⟩ .nil) (by simp)) (by simp) (has128 _)
  refine ⟨y,?_,by simpa [gl,h] using hr⟩
  refine Runs.of (f66_MR _) ?_
  unfold f66_M
  refine Goes.chk rfl (Goes.call (r24 _) (Goes.chk rfl (Goes.call (r25 _ _) (Goes.chk rfl (Goes.ite (v:=true) (by rw [(has64 _).2 h]; rfl) (fun _=>?_) fun h=>nomatch h)))))
  exact Goes.rws rfl (Goes.tv rfl (Goes.call (r25 _ _) (Goes.chk rfl (f66_0_J hy))))
 ·obtain ⟨y,hy,hr⟩:=tail (.lit nilV) [] (has (usesE b.fin.kind) 128) .nil (by simp) (has128 _)
  refine ⟨y,?_,by simpa [gl,h] using hr⟩
  refine Runs.of (f66_MR _) ?_
  unfold f66_M
  have hf:has (usesE b.fin.kind) 64=false:=by
   cases hh:has (usesE b.fin.kind) 64 with
   | false=>rfl
   | true=>exact absurd ((has64 _).1 hh) h
  refine Goes.chk rfl (Goes.call (r24 _) (Goes.chk rfl (Goes.call (r25 _ _) (Goes.chk rfl (Goes.ite (v:=false) (by rw [hf]; rfl) (fun h=>nomatch h) fun _=>?_)))))
  exact Goes.call (r25 _ _) (Goes.chk rfl (Goes.chk rfl (f66_0_J hy)))
end Go.Ab.A10
end
section
set_option linter.unusedVariables false
set_option linter.unusedSectionVars false
set_option maxRecDepth 10000
namespace Go.Ab
def updF {α:Type} (g:Nat→α) (k:Nat) (v:α):Nat→α:=fun i=>if i=k then v else g i
theorem updF_at {α:Type} {g:Nat→α} {k:Nat} {v:α}:updF g k v k=v:=if_pos rfl
theorem updF_ne {α:Type} {g:Nat→α} {k i:Nat} {v:α} (h:i≠k):updF g k v i=g i:=if_neg h
def tabL {α:Type} (n:Nat) (g:Nat→α):List α:=(List.range n).map g
theorem tabL_len {α:Type} (n:Nat) (g:Nat→α):(tabL n g).length=n:=by simp [tabL]
theorem tabL_get {α:Type} {n:Nat} {g:Nat→α} {k:Nat} (h:k < n):(tabL n g)[k]? = some (g k):=by simp [tabL,h]
theorem tabL_set {α:Type} {n:Nat} {g:Nat→α} {k:Nat} {v:α}:(tabL n g).set k v=tabL n (updF g k v):=by
 apply List.ext_getElem?
 intro i
 by_cases hi:i < n
 ·by_cases e:k=i
  ·subst e
   rw [List.getElem?_set_self (by rw [tabL_len]; exact hi),tabL_get hi,updF_at]
  ·rw [List.getElem?_set_ne e,tabL_get hi,tabL_get hi,updF_ne (Ne.symm e)]
 ·rw [List.getElem?_eq_none (by simp [tabL]; omega),List.getElem?_eq_none (by simp [tabL]; omega)]
theorem tabL_rep {α:Type} (n:Nat) (a:α):List.replicate n a=tabL n fun _=>a:=by
 apply List.ext_getElem?
 intro i
 by_cases hi:i < n
 ·rw [tabL_get hi,List.getElem?_replicate,if_pos hi]
 ·rw [List.getElem?_eq_none (by simp; omega),List.getElem?_eq_none (by simp [tabL]; omega)]
abbrev RBArr (w:TV) (n:Nat) (g:Nat→Bool):Prop:=RBools (some true) w (tabL n g)
theorem RBArr.get {w:TV} {n:Nat} {g:Nat→Bool} (h:RBArr w n g) {k:Nat} (hk:k < n):Go.Ab.pel w k=some [B (g k)]:=by
 obtain ⟨e,he,rfl⟩:=RL.pel h (tabL_get hk)
 exact he
theorem RBArr.set {w:TV} {n:Nat} {g:Nat→Bool} (h:RBArr w n g) {k:Nat} (hk:k < n) (v:Bool):∃ w',setC [] w k 0 [B v]=some w'∧RBArr w' n (updF g k v):=by
 obtain ⟨w',h1,h2⟩:=RL.setAt h (h.get hk) (d:=0) (ys:=[B v]) (a:=v) rfl
 rw [tabL_set] at h2
 exact ⟨w',h1,h2⟩
theorem tabL_congr {α:Type} {n:Nat} {g h:Nat→α} (e:∀ i,i < n→g i=h i):tabL n g=tabL n h:=by
 apply List.ext_getElem?
 intro i
 by_cases hi:i < n
 ·rw [tabL_get hi,tabL_get hi,e i hi]
 ·rw [List.getElem?_eq_none (by rw [tabL_len]; omega),List.getElem?_eq_none (by rw [tabL_len]; omega)]
end Go.Ab
end
section
set_option linter.unusedVariables false
set_option maxRecDepth 10000
namespace Go.Ab
structure DFrame where
 f:Int
 block:Int
 at_:Int
 regs:List Int
 fly:Int
section
variable {q:Option Bool} {v:TV} {l:List Int}
end
end Go.Ab
namespace Go.Ab.A10
open Go Go.Ab Go.Proofs
end Go.Ab.A10
end
section
set_option linter.unusedVariables false
set_option maxRecDepth 10000
namespace Go.Ab
theorem asNat_in {n:Int} (h0:0≤n) (h:inI n):asNat (I n)=some n.toNat:=by
 have:=h.2
 simp [asNat,h0]; omega
end Go.Ab
namespace Go.Ab.A10
open Go Go.Ab Go.Proofs
end Go.Ab.A10
end
section
set_option linter.unusedVariables false
set_option maxRecDepth 10000
namespace Go.Ab
structure DMach where
 stack:List DFrame
 cells:List Int
 inputs:List Int
 events:List Int
 done:Int
 value:Int
end Go.Ab
namespace Go.Ab.A10
open Go Go.Ab Go.Proofs
end Go.Ab.A10
end
section
set_option linter.unusedVariables false
set_option maxRecDepth 10000
set_option linter.unusedSimpArgs false
namespace Go.Ab
def reg (f:DFrame) (n:Int):Int:=f.regs.getD n.toNat 0
end Go.Ab
namespace Go.Ab.A10
open Go Go.Ab Go.Proofs
end Go.Ab.A10
end
section
set_option linter.unusedVariables false
set_option linter.unusedSimpArgs false
set_option maxRecDepth 10000
namespace Go.Ab
theorem getP_of_pel {x:TV} {k j:Nat} {e:List TV} {y:TV} (h:pel x k=some e) (hj:e[j]? = some y):getP [(k,j)] x=some y:=by
 cases x <;> simp [pel] at h
 simp [getP,h,hj]
end Go.Ab
namespace Go.Ab.A10
open Go Go.Ab Go.Proofs
end Go.Ab.A10
end
section
set_option linter.unusedVariables false
set_option linter.unusedSimpArgs false
set_option linter.unusedSectionVars false
set_option maxRecDepth 10000
namespace Go.Ab
def asksI (x:DIns):List Int:=if x.op=2∨x.op=9∨x.op=12 then [x.a] else if (3≤x.op∧x.op≤8)∨x.op=10 then [x.a,x.b] else if x.op=11 then x.args else []
def setsI (x:DIns):Option Int:=if 1≤x.op∧x.op≤13∧x.op≠10∧x.op≠12 then some x.dst else none
def asksE (e:DEnd):List Int:=if e.kind=1∨e.kind=3∨e.kind=5 then [e.a] else if e.kind=4 then e.args else []
inductive Lv (bs:List DBlock) (p:Int):Nat→Nat→Prop
 | ask {n k:Nat} {b:DBlock} {x:DIns} (hb:bs[n]? = some b) (hx:b.ins[k]? = some x) (h:p ∈ asksI x):Lv bs p n k
 | on {n k:Nat} {b:DBlock} {x:DIns} (hb:bs[n]? = some b) (hx:b.ins[k]? = some x) (h:setsI x≠some p) (hl:Lv bs p n (k + 1)):Lv bs p n k
 | askE {n:Nat} {b:DBlock} (hb:bs[n]? = some b) (h:p ∈ asksE b.fin):Lv bs p n b.ins.length
 | to {n:Nat} {b:DBlock} (hb:bs[n]? = some b) (h:b.fin.kind=2∨b.fin.kind=3∨b.fin.kind=4∧b.fin.dst≠p) (hl:Lv bs p b.fin.to.toNat 0):Lv bs p n b.ins.length
 | els {n:Nat} {b:DBlock} (hb:bs[n]? = some b) (h:b.fin.kind=3) (hl:Lv bs p b.fin.els.toNat 0):Lv bs p n b.ins.length
 | pad {n:Nat} {b pb:DBlock} (hb:bs[n]? = some b) (h:b.fin.kind=4) (hp:bs[b.fin.pad.toNat]? = some pb) (hd:pb.pad.dst≠p) (hl:Lv bs p b.fin.pad.toNat 0):Lv bs p n b.ins.length
def Bh (bs:List DBlock) (p:Int) (n k:Nat):Prop:=∃ b,bs[n]? = some b∧((∃ x,b.ins[k]? = some x∧setsI x≠some p∧Lv bs p n (k + 1))∨(k=b.ins.length ∧
 (((b.fin.kind=2∨b.fin.kind=3∨b.fin.kind=4∧b.fin.dst≠p)∧Lv bs p b.fin.to.toNat 0)∨(b.fin.kind=3∧Lv bs p b.fin.els.toNat 0)∨(b.fin.kind=4∧∃ pb,bs[b.fin.pad.toNat]? = some pb∧pb.pad.dst≠p∧Lv bs p b.fin.pad.toNat 0))))
def agr (P:Int→Prop) (f g:DFrame):Prop:=f.f=g.f∧f.block=g.block∧f.at_=g.at_∧f.fly=g.fly∧f.regs.length=g.regs.length∧∀ p:Int,0≤p→P p→reg f p=reg g p
def agrL (m:DMod) (f g:DFrame):Prop:=∃ u,m.funcs[f.f.toNat]? = some u∧agr (fun p=>Bh u.blocks p f.block.toNat f.at_.toNat) f g
def Tl5 (s t:DMach):Prop:=s.cells=t.cells∧s.inputs=t.inputs∧s.events=t.events∧s.done=t.done∧s.value=t.value
end Go.Ab
namespace Go.Ab.A10
open Go Go.Ab Go.Proofs
section
variable {m:DMod} {s t:DMach} {lo lo':List DFrame} {f g:DFrame} (hT:Tl5 s t) (hs:s.stack=lo ++ [f]) (ht:t.stack=lo' ++ [g]) (hL:F2 (agrL m) lo lo')
include hT hs ht hL
omit hT ht hL in
end
end Go.Ab.A10
end
section
set_option linter.unusedVariables false
set_option linter.unusedSectionVars false
set_option maxRecDepth 10000
namespace Go.Ab
noncomputable def onB (g:Nat→Bool) (l:List Int):Nat→Bool:=fun i=>g i || tt ((i:Int) ∈ l)
noncomputable def offB (g:Nat→Bool) (s:Option Int):Nat→Bool:=fun i=>g i && tt (s≠some (i:Int))
noncomputable def stepB (x:DIns) (g:Nat→Bool):Nat→Bool:=onB (offB g (setsI x)) (asksI x)
noncomputable def begI (l:List DIns) (g:Nat→Bool):Nat→Bool:=l.foldr stepB g
noncomputable def begB (b:DBlock) (g:Nat→Bool):Nat→Bool:=begI b.ins (onB g (asksE b.fin))
def NextP (bs:List DBlock) (A:Nat→Nat→Prop) (e:DEnd) (i:Nat):Prop :=
 ((e.kind=2∨e.kind=3∨e.kind=4∧e.dst≠(i:Int))∧A e.to.toNat i)∨(e.kind=3∧A e.els.toNat i)∨(e.kind=4∧∃ pb,bs[e.pad.toNat]? = some pb∧pb.pad.dst≠(i:Int)∧A e.pad.toNat i)
noncomputable def atT (bs:List DBlock) (H:Nat→Nat→Bool) (n:Nat):Nat→Bool:=match bs[n]? with | some b=>begB b (H n) | none=>fun _=>false
def atP (bs:List DBlock) (H:Nat→Nat→Bool) (n i:Nat):Prop:=atT bs H n i=true
noncomputable def behB (bs:List DBlock) (A:Nat→Nat→Prop) (e:DEnd):Nat→Bool:=fun i=>tt (NextP bs A e i)
def LvN (bs:List DBlock) (n i:Nat):Prop:=Lv bs (i:Int) n 0
theorem onB_t {g:Nat→Bool} {l:List Int} {i:Nat}:onB g l i=true ↔ g i=true∨(i:Int) ∈ l:=by simp [onB,tt_iff]
theorem offB_t {g:Nat→Bool} {s:Option Int} {i:Nat}:offB g s i=true ↔ g i=true∧s≠some (i:Int):=by simp [offB,tt_iff]
theorem stepB_t {x:DIns} {g:Nat→Bool} {i:Nat}:stepB x g i=true ↔ (g i=true∧setsI x≠some (i:Int))∨(i:Int) ∈ asksI x:=by rw [stepB,onB_t,offB_t]
theorem NextP.mono {bs:List DBlock} {A A':Nat→Nat→Prop} (h:∀ n i,A n i→A' n i) {e:DEnd} {i:Nat} (hn:NextP bs A e i):NextP bs A' e i:=by
 rcases hn with ⟨h1,h2⟩ | ⟨h1,h2⟩ | ⟨h1,pb,h2,h3,h4⟩
 ·exact .inl ⟨h1,h _ _ h2⟩
 ·exact .inr (.inl ⟨h1,h _ _ h2⟩)
 ·exact .inr (.inr ⟨h1,pb,h2,h3,h _ _ h4⟩)
theorem begI_mono {g g':Nat→Bool} (h:∀ i,g i=true→g' i=true):∀ (l:List DIns) (i:Nat),begI l g i=true→begI l g' i=true
 | [],i,hi=>h i hi
 | x :: l,i,hi=>by
  have hi:stepB x (begI l g) i=true:=hi
  show stepB x (begI l g') i=true
  rw [stepB_t] at hi ⊢
  exact hi.imp (fun h1=>⟨begI_mono h l i h1.1,h1.2⟩) id
theorem begB_mono {g g':Nat→Bool} (h:∀ i,g i=true→g' i=true) {b:DBlock} {i:Nat} (hi:begB b g i=true):begB b g' i=true :=
 begI_mono (fun i hi=>by rw [onB_t] at hi ⊢; exact hi.imp (h i) id) _ _ hi
theorem atP_mono {bs:List DBlock} {H H':Nat→Nat→Bool} (h:∀ n i,H n i=true→H' n i=true) {n i:Nat} (hi:atP bs H n i):atP bs H' n i:=by
 unfold atP atT at hi ⊢
 cases hb:bs[n]? with
 | none=>rw [hb] at hi; cases hi
 | some b=>rw [hb] at hi; exact begB_mono (h n) hi
structure LiveI (bs:List DBlock) (H:Nat→Nat→Bool):Prop where
 up:∀ n b,bs[n]? = some b→∀ i,H n i=true→NextP bs (atP bs H) b.fin i
 snd:∀ n b,bs[n]? = some b→∀ i,H n i=true→NextP bs (LvN bs) b.fin i
theorem LiveI.start (bs:List DBlock):LiveI bs fun _ _=>false:=⟨fun _ _ _ _ h=>(nomatch h),fun _ _ _ _ h=>(nomatch h)⟩
theorem lv_next {bs:List DBlock} {n i:Nat} {b:DBlock} (hb:bs[n]? = some b) (h:NextP bs (LvN bs) b.fin i):Lv bs (i:Int) n b.ins.length:=by
 rcases h with ⟨h1,h2⟩ | ⟨h1,h2⟩ | ⟨h1,pb,h2,h3,h4⟩
 ·exact .to hb h1 h2
 ·exact .els hb h1 h2
 ·exact .pad hb h1 h2 h3 h4
theorem begI_lv {bs:List DBlock} {n:Nat} {b:DBlock} (hb:bs[n]? = some b) {g:Nat→Bool} (hg:∀ i,g i=true→NextP bs (LvN bs) b.fin i):∀ (d k:Nat),k + d=b.ins.length→∀ i,begI (b.ins.drop k) (onB g (asksE b.fin)) i=true→Lv bs (i:Int) n k:=by
 intro d
 induction d with
 | zero =>
  intro k hk i hi
  have hk:k=b.ins.length:=by omega
  subst hk
  rw [List.drop_length] at hi
  have hi:onB g (asksE b.fin) i=true:=hi
  rcases onB_t.1 hi with h | h
  ·exact lv_next hb (hg i h)
  ·exact .askE hb h
 | succ d ih =>
  intro k hk i hi
  have hkl:k < b.ins.length:=by omega
  rw [List.drop_eq_getElem_cons hkl] at hi
  have hx:b.ins[k]? = some b.ins[k]:=List.getElem?_eq_getElem hkl
  generalize b.ins[k]=x at hi hx
  have hi:stepB x (begI (b.ins.drop (k + 1)) (onB g (asksE b.fin))) i=true:=hi
  rcases stepB_t.1 hi with ⟨h1,h2⟩ | h
  ·exact .on hb hx h2 (ih (k + 1) (by omega) i h1)
  ·exact .ask hb hx h
theorem LiveI.lv {bs:List DBlock} {H:Nat→Nat→Bool} (h:LiveI bs H) {n i:Nat} (hi:atP bs H n i):LvN bs n i:=by
 unfold atP atT at hi
 cases hb:bs[n]? with
 | none=>rw [hb] at hi; cases hi
 | some b =>
  rw [hb] at hi
  exact begI_lv hb (h.snd n b hb) b.ins.length 0 (by omega) i (by simpa [begB] using hi)
theorem LiveI.grow {bs:List DBlock} {H:Nat→Nat→Bool} (h:LiveI bs H) {n:Nat} {b:DBlock} (hb:bs[n]? = some b):LiveI bs (updF H n (behB bs (atP bs H) b.fin))∧∀ m i,H m i=true→updF H n (behB bs (atP bs H) b.fin) m i=true:=by
 have hle:∀ m i,H m i=true→updF H n (behB bs (atP bs H) b.fin) m i=true:=fun m i hm=>by
  by_cases e:m=n
  ·subst e; rw [updF_at]; exact tt_true (h.up m b hb i hm)
  ·rw [updF_ne e]; exact hm
 refine ⟨⟨fun m c hc i hi=>?_,fun m c hc i hi=>?_⟩,hle⟩
 ·by_cases e:m=n
  ·subst e
   rw [hb] at hc
   cases hc
   rw [updF_at] at hi
   exact (tt_iff.1 hi).mono fun n i ha=>atP_mono hle ha
  ·rw [updF_ne e] at hi
   exact (h.up m c hc i hi).mono fun n i ha=>atP_mono hle ha
 ·by_cases e:m=n
  ·subst e
   rw [hb] at hc
   cases hc
   rw [updF_at] at hi
   exact (tt_iff.1 hi).mono fun n i ha=>h.lv ha
  ·rw [updF_ne e] at hi
   exact h.snd m c hc i hi
theorem lv_blk {bs:List DBlock} {p:Int} {n k:Nat} (h:Lv bs p n k):∃ b,bs[n]? = some b:=by
 cases h <;> exact ⟨_,by assumption⟩
theorem begI_of_lv {bs:List DBlock} {H:Nat→Nat→Bool} (hf:∀ n b,bs[n]? = some b→∀ i,NextP bs (atP bs H) b.fin i→H n i=true) {p:Int} {n k:Nat} (h:Lv bs p n k):∀ (i:Nat),p=(i:Int)→∀ b,bs[n]? = some b→begI (b.ins.drop k) (onB (H n) (asksE b.fin)) i=true:=by
 have dr:∀ {b:DBlock} {x:DIns} {k:Nat},b.ins[k]? = some x→b.ins.drop k=x :: b.ins.drop (k + 1):=fun hx=>by
  obtain ⟨hk,rfl⟩:=List.getElem?_eq_some_iff.1 hx
  exact List.drop_eq_getElem_cons hk
 have at0:∀ {n i:Nat},(∃ b,bs[n]? = some b)→(∀ b,bs[n]? = some b→begI (b.ins.drop 0) (onB (H n) (asksE b.fin)) i=true)→atP bs H n i:=by
  rintro n i ⟨b,hb⟩ h
  have:=h b hb
  unfold atP atT
  rw [hb]
  simpa [begB] using this
 induction h with
 | ask hb hx h =>
  rintro i rfl b' hb'
  rw [hb] at hb'; cases hb'
  rw [dr hx]
  exact stepB_t.2 (.inr h)
 | on hb hx h hl ih =>
  rintro i rfl b' hb'
  rw [hb] at hb'; cases hb'
  rw [dr hx]
  exact stepB_t.2 (.inl ⟨ih i rfl _ hb,h⟩)
 | askE hb h =>
  rintro i rfl b' hb'
  rw [hb] at hb'; cases hb'
  rw [List.drop_length]
  exact onB_t.2 (.inr h)
 | to hb h hl ih =>
  rintro i rfl b' hb'
  rw [hb] at hb'; cases hb'
  rw [List.drop_length]
  exact onB_t.2 (.inl (hf _ _ hb i (.inl ⟨h,at0 (lv_blk hl) (ih i rfl)⟩)))
 | els hb h hl ih =>
  rintro i rfl b' hb'
  rw [hb] at hb'; cases hb'
  rw [List.drop_length]
  exact onB_t.2 (.inl (hf _ _ hb i (.inr (.inl ⟨h,at0 (lv_blk hl) (ih i rfl)⟩))))
 | pad hb h hp hd hl ih =>
  rintro i rfl b' hb'
  rw [hb] at hb'; cases hb'
  rw [List.drop_length]
  exact onB_t.2 (.inl (hf _ _ hb i (.inr (.inr ⟨h,_,hp,hd,at0 (lv_blk hl) (ih i rfl)⟩))))
theorem LiveI.done {bs:List DBlock} {H:Nat→Nat→Bool} (h:LiveI bs H) (hf:∀ n b,bs[n]? = some b→∀ i,NextP bs (atP bs H) b.fin i→H n i=true) (n i:Nat):atP bs H n i ↔ LvN bs n i:=by
 refine ⟨h.lv,fun hl=>?_⟩
 obtain ⟨b,hb⟩:=lv_blk hl
 have:=begI_of_lv hf hl i rfl b hb
 unfold atP atT
 rw [hb]
 simpa [begB] using this
theorem LiveI.done2 {bs:List DBlock} {H:Nat→Nat→Bool} (h:LiveI bs H) (hf:∀ n b,bs[n]? = some b→∀ i,NextP bs (atP bs H) b.fin i→H n i=true) {n:Nat} {b:DBlock} (hb:bs[n]? = some b) (i:Nat):H n i=true ↔ NextP bs (LvN bs) b.fin i :=
 ⟨h.snd n b hb i,fun hn=>hf n b hb i (hn.mono fun n i hl=>(h.done hf n i).2 hl)⟩
def cntF (g:Nat→Bool):Nat→Nat
 | 0=>0
 | k + 1=>cntF g k + (if g k=true then 0 else 1)
def cnt2 (R:Nat) (H:Nat→Nat→Bool):Nat→Nat
 | 0=>0
 | n + 1=>cnt2 R H n + cntF (H n) R
theorem cntF_le {g g':Nat→Bool} (h:∀ i,g i=true→g' i=true):∀ R,cntF g' R≤cntF g R
 | 0=>Nat.le_refl _
 | R + 1=>by
  have:=cntF_le h R
  simp only [cntF]
  have h0:=h R
  by_cases e:g R=true
  ·rw [if_pos e,if_pos (h0 e)]; exact this
  ·rw [if_neg e]; split <;> omega
theorem cntF_lt {g g':Nat→Bool} (h:∀ i,g i=true→g' i=true):∀ {R i:Nat},i < R→g i=false→g' i=true→cntF g' R < cntF g R
 | R + 1, i, hi, h1, h2 => by
  simp only [cntF]
  by_cases e:i=R
  ·subst e
   have:=cntF_le h i
   rw [if_pos h2,if_neg (by rw [h1]; decide)]
   omega
  ·have:=cntF_lt h (R:=R) (by omega) h1 h2
   have h0:=h R
   by_cases e:g R=true
   ·rw [if_pos e,if_pos (h0 e)]; exact this
   ·rw [if_neg e]; split <;> omega
theorem cnt2_same {R:Nat} {H:Nat→Nat→Bool} {n:Nat} {g:Nat→Bool}:∀ {N:Nat},N≤n→cnt2 R (updF H n g) N=cnt2 R H N
 | 0,_=>rfl
 | N + 1,h=>by simp only [cnt2]; rw [cnt2_same (by omega),updF_ne (by omega)]
theorem cnt2_lt {R:Nat} {H:Nat→Nat→Bool} {n:Nat} {g:Nat→Bool} (h:cntF g R < cntF (H n) R):∀ {N:Nat},n < N→cnt2 R (updF H n g) N < cnt2 R H N
 | N + 1, hn => by
  simp only [cnt2]
  by_cases e:n=N
  ·subst e
   rw [cnt2_same (Nat.le_refl _),updF_at]
   omega
  ·rw [updF_ne (fun e2=>e e2.symm)]
   have:=cnt2_lt h (N:=N) (by omega)
   omega
theorem row_more {R:Nat} {g g':Nat→Bool} (h:∀ i,g i=true→g' i=true) (hn:tabL R g'≠tabL R g):cntF g' R < cntF g R:=by
 have:∃ i,i < R∧g' i≠g i:=Classical.byContradiction fun hc=>hn (tabL_congr fun i hi=>Classical.byContradiction fun he=>hc ⟨i,hi,he⟩)
 obtain ⟨i,hi,hne⟩:=this
 have h0:=h i
 refine cntF_lt h hi ?_ ?_
 ·cases hg:g i with
  | false=>rfl
  | true=>rw [hg,h0 hg] at hne; exact absurd rfl hne
 ·cases hg:g i with
  | true=>exact h0 hg
  | false=>cases hg':g' i with
   | true=>rfl
   | false=>rw [hg,hg'] at hne; exact absurd rfl hne
end Go.Ab
end

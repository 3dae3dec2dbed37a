import Derived.Test.YthmcbcepgchhcaaAG7F3
section
set_option linter.unusedVariables false
set_option maxRecDepth 10000
namespace Go.Ab
theorem RL.idxI {α:Type} {q:Option Bool} {s:Nat} {R:List TV→α→Prop} {x:TV} {l:List α} (h:RL q s R x l) {k:IntKind} {n:Int} {a:α} (h0:0≤n) (hi:l[n.toNat]? = some a):∃ e,pidx s x (.lit (.int k n))=some e∧R e a:=by
 rcases h with ⟨rfl,rfl⟩ | ⟨o,xs,rfl,hq,h,_⟩
 ·simp at hi
 ·obtain ⟨e,he,hr⟩:=h.get hi
  exact ⟨e,by simp [pidx,he,h0],hr⟩
def within (n most:Int):Prop:=0≤n∧n < most
def placeP (u:Bool) (regs n:Int):Prop:=(u=true→within n regs)∧(u=false→n=0)
def argsP (fs:List DFunc) (regs n:Int) (l:List Int):Prop:=0≤n∧∃ g,fs[n.toNat]? = some g∧(l.length:Int)=g.params∧∀ i,i < l.length→∀ a,l[i]? = some a→within a regs
def callP (u:Bool) (fs:List DFunc) (regs n:Int) (l:List Int):Prop:=(u=true→argsP fs regs n l)∧(u=false→n=0∧l=[])
def goalAt (bs:List DBlock) (n:Int) (landing:Bool):Prop:=0≤n∧∃ b,bs[n.toNat]? = some b∧b.landing=landing
def goalP (u:Bool) (bs:List DBlock) (n:Int) (landing:Bool):Prop:=(u=true→goalAt bs n landing)∧(u=false→n=0)
theorem placeP_t {regs n:Int}:placeP true regs n ↔ within n regs:=⟨fun h=>h.1 rfl,fun h=>⟨fun _=>h,fun h=>nomatch h⟩⟩
theorem tt_iff0 {p:Prop}:tt p=false ↔ ¬ p:=⟨fun h hp=>(by rw [tt_true hp] at h; exact Bool.noConfusion h),fun h=>tt_false h⟩
end Go.Ab
namespace Go.Ab.G7
open Go Go.Ab Go.Proofs
def usesI (op:Int):Int :=
 if op=1 then 19 else if op=2 then 7 else if op=9 then 7 else if op=3 then 15 else if op=4 then 15 else if op=5 then 15 else if op=6 then 15 else if op=7 then 15 else if op=8 then 15 else if op=10 then 13 else if op=11 then 35 else if op=12 then 5 else if op=13 then 3 else 0
def usesE (k:Int):Int :=
 if k=1 then 5 else if k=5 then 5 else if k=2 then 65 else if k=3 then 197 else if k=4 then 355 else if k=6 then 1 else 0
def has (u f:Int):Bool:=decide (¬ IntKind.i64.wrap ((BitVec.ofInt 64 u &&& BitVec.ofInt 64 f).toNat:Int)=0)
theorem r25 (u f:Int):Runs prog 75 [I u,I f] (B (has u f)):=by
 refine Runs.of (f75_MR _ _) ?_
 unfold f75_M
 repeat' (first
  | refine Goes.chk rfl ?_
  | refine Goes.tv rfl ?_
  | refine Goes.tv (RL.len (by assumption)) ?_
  | refine Goes.nat rfl ?_
  | refine Goes.ite rfl (fun _=>?_) (fun _=>?_)
  | refine Goes.call (by assumption) ?_
  | refine Goes.tvs (by assumption) ?_)
 refine goes_ret.2 ?_
 simp [has]
 rfl
theorem r24 (k:Int):Runs prog 74 [I k] (I (usesE k)):=by
 refine Runs.of (f74_MR _) ?_
 unfold f74_M
 repeat' (first
  | refine Goes.chk rfl ?_
  | refine Goes.tv rfl ?_
  | refine Goes.tv (RL.len (by assumption)) ?_
  | refine Goes.nat rfl ?_
  | refine Goes.ite rfl (fun _=>?_) (fun _=>?_)
  | refine Goes.call (by assumption) ?_
  | refine Goes.tvs (by assumption) ?_)
 all_goals (refine goes_ret.2 ?_; simp_all [usesE])
theorem r49 (k:Int):Runs prog 116 [I k] (I (usesI k)):=by
 refine Runs.of (f116_MR _) ?_
 unfold f116_M
 repeat' (first
  | refine Goes.chk rfl ?_
  | refine Goes.tv rfl ?_
  | refine Goes.tv (RL.len (by assumption)) ?_
  | refine Goes.nat rfl ?_
  | refine Goes.ite rfl (fun _=>?_) (fun _=>?_)
  | refine Goes.call (by assumption) ?_
  | refine Goes.tvs (by assumption) ?_)
 all_goals (refine goes_ret.2 ?_; simp_all [usesI])
theorem r35 (n m:Int):Runs prog 87 [I n,I m] (B (tt (within n m))):=by
 refine Runs.of (f87_MR _ _) ?_
 unfold f87_M
 repeat' (first
  | refine Goes.chk rfl ?_
  | refine Goes.tv rfl ?_
  | refine Goes.tv (RL.len (by assumption)) ?_
  | refine Goes.nat rfl ?_
  | refine Goes.ite rfl (fun _=>?_) (fun _=>?_)
  | refine Goes.call (by assumption) ?_
  | refine Goes.tvs (by assumption) ?_)
 all_goals (apply ret_tt; simp_all [within] <;> omega)
theorem r47 {fs bs:TV} {p regs n:Int} {u:Bool}:Runs prog 114 [.agg [fs,I p,I regs,bs],B u,I n] (B (tt (placeP u regs n))):=by
  cases u
  · refine Runs.of (f114_MR _ _ _) ?_
    unfold f114_M
    repeat' (first
      | refine Goes.chk rfl ?_
      | refine Goes.tv rfl ?_
      | refine Goes.tv (RL.len (by assumption)) ?_
      | refine Goes.nat rfl ?_
      | refine Goes.ite (v:=true) rfl (fun _=>?_) (fun h=>nomatch h)
      | refine Goes.ite (v:=false) rfl (fun h=>nomatch h) (fun _=>?_)
      | refine Goes.ite rfl (fun _=>?_) (fun _=>?_)
      | refine Goes.call (by assumption) ?_
      | refine Goes.tvs (by assumption) ?_
       )
    all_goals (apply ret_tt; simp_all [placeP])
  · refine Runs.of (f114_MR _ _ _) ?_
    unfold f114_M
    repeat' (first
      | refine Goes.chk rfl ?_
      | refine Goes.tv rfl ?_
      | refine Goes.tv (RL.len (by assumption)) ?_
      | refine Goes.nat rfl ?_
      | refine Goes.ite (v:=true) rfl (fun _=>?_) (fun h=>nomatch h)
      | refine Goes.ite (v:=false) rfl (fun h=>nomatch h) (fun _=>?_)
      | refine Goes.ite rfl (fun _=>?_) (fun _=>?_)
      | refine Goes.call (by assumption) ?_
      | refine Goes.tvs (by assumption) ?_
       )
    all_goals (apply ret_tt; simp_all [placeP,within] <;> omega)
theorem r50 {q q' : Option Bool} {x bs g : TV} {fs : List DFunc} {p regs n : Int} {u : Bool} {l : List Int} (hx : RL q 3 (RFunc q) x fs) (hg : RInts q' g l) : Runs prog 117 [.agg [x, I p, I regs, bs], B u, I n, g] (B (tt (callP u fs regs n l))) := by
  cases u
  · refine Runs.of (f117_MR _ _ _ _) ?_
    unfold f117_M
    repeat' (first
      | refine Goes.chk rfl ?_
      | refine Goes.tv rfl ?_
      | refine Goes.tv (RL.len (by assumption)) ?_
      | refine Goes.nat rfl ?_
      | refine Goes.ite (v:=true) rfl (fun _=>?_) (fun h=>nomatch h)
      | refine Goes.ite (v:=false) rfl (fun h=>nomatch h) (fun _=>?_)
      | refine Goes.ite rfl (fun _=>?_) (fun _=>?_)
      | refine Goes.call (by assumption) ?_
      | refine Goes.tvs (by assumption) ?_
       )
    all_goals (apply ret_tt; simp_all [callP])
  · rw [show tt (callP true fs regs n l) = tt (argsP fs regs n l) from tt_congr ⟨fun h => h.1 rfl, fun h => ⟨fun _ => h, fun h => nomatch h⟩⟩]
    refine Runs.of (f117_MR _ _ _ _) ?_
    unfold f117_M
    refine Goes.chk rfl (Goes.tv rfl (Goes.ite rfl (fun h=>nomatch h) fun _=>Goes.tv rfl (Goes.ite rfl (fun h=>?_) fun h=>?_)))
    · simp at h
      exact ret_no fun h'=>by have:=h'.1; omega
    · have h0 : 0 ≤ n := by simpa using h
      refine Goes.tv hx.len (Goes.tv rfl (Goes.ite rfl (fun h=>?_) fun h=>?_))
      · simp at h
        refine ret_no ?_
        rintro ⟨_,f,hf,_⟩
        have:=(List.getElem?_eq_some_iff.1 hf).1
        omega
      · simp at h
        have hlt:n.toNat < fs.length:=by omega
        have hf:fs[n.toNat]? = some fs[n.toNat]:=List.getElem?_eq_getElem hlt
        obtain ⟨e,he,hr⟩:=hx.idxI (k:=.i64) h0 hf
        obtain ⟨b,rfl,_⟩:=hr
        refine Goes.tv hg.len (Goes.tvs he (Goes.chk rfl (Goes.tv rfl (Goes.ite rfl (fun h=>?_) fun h=>?_))))
        · refine ret_no ?_
          rintro ⟨_,f,hf',hl,_⟩
          rw [hf] at hf'
          simp at hf' h
          subst hf'
          exact h hl
        · simp at h
          refine Goes.tv hg.len (f117_0_J ?_)
          have hp:argsP fs regs n l ↔ ∀ i,i < l.length→∀ a,l[i]? = some a→within a regs:=by
            refine ⟨fun ⟨_,f,hf',hl,ha⟩=>ha,fun ha=>⟨h0,_,hf,h,ha⟩⟩
          rw [tt_congr hp]
          refine allLoop' (g:=fun k=>f117_0 g (I l.length) (I k) x (I p) (I regs) bs) ?_ ?_
          · unfold f117_0
            refine Goes.tv rfl (Goes.ite asB_end (fun h=>nomatch h) fun _=>?_)
            exact Goes.ret
          · intro k hk r h1 h2
            have ha:l[k]? = some l[k]:=List.getElem?_eq_getElem hk
            obtain ⟨e,he,rfl,_⟩:=hg.idx (k:=.i64) ha
            unfold f117_0
            refine Goes.tv rfl (Goes.ite (asB_lt hk) (fun _=>?_) fun h=>nomatch h)
            refine Goes.tvs he (Goes.chk rfl (Goes.call r47 (Goes.chk rfl (Goes.tv rfl (Goes.ite rfl (fun h=>?_) fun h=>?_)))))
            · rw [h1 (by simp [ha]; simpa [tt_iff,tt_iff0,placeP_t] using h)]; exact Goes.ret
            · refine Goes.tv (inc hk hg.bnd) (f117_0_J (h2 ?_))
              simp [ha]; simpa [tt_iff,tt_iff0,placeP_t] using h
theorem r51 {q : Option Bool} {fs x : TV} {bs : List DBlock} {p regs n : Int} {u landing : Bool} (hx : RL q 14 (RBlock q) x bs) : Runs prog 118 [.agg [fs, I p, I regs, x], B u, I n, B landing] (B (tt (goalP u bs n landing))) := by
  cases u
  · refine Runs.of (f118_MR _ _ _ _) ?_
    unfold f118_M
    repeat' (first
      | refine Goes.chk rfl ?_
      | refine Goes.tv rfl ?_
      | refine Goes.tv (RL.len (by assumption)) ?_
      | refine Goes.nat rfl ?_
      | refine Goes.ite (v:=true) rfl (fun _=>?_) (fun h=>nomatch h)
      | refine Goes.ite (v:=false) rfl (fun h=>nomatch h) (fun _=>?_)
      | refine Goes.ite rfl (fun _=>?_) (fun _=>?_)
      | refine Goes.call (by assumption) ?_
      | refine Goes.tvs (by assumption) ?_
       )
    all_goals (apply ret_tt; simp_all [goalP])
  · rw [show tt (goalP true bs n landing) = tt (goalAt bs n landing) from tt_congr ⟨fun h => h.1 rfl, fun h => ⟨fun _ => h, fun h => nomatch h⟩⟩]
    refine Runs.of (f118_MR _ _ _ _) ?_
    unfold f118_M
    refine Goes.chk rfl (Goes.tv rfl (Goes.ite rfl (fun h=>nomatch h) fun _=>Goes.tv rfl (Goes.ite rfl (fun h=>?_) fun h=>?_)))
    · have h0 : 0 ≤ n := by simpa using h
      refine Goes.tv hx.len (Goes.tv rfl (Goes.ite rfl (fun h=>?_) fun h=>?_))
      · simp at h
        have hlt:n.toNat < bs.length:=by omega
        have hf:bs[n.toNat]? = some bs[n.toNat]:=List.getElem?_eq_getElem hlt
        obtain ⟨e,he,hr⟩:=hx.idxI (k:=.i64) h0 hf
        obtain ⟨c,i,g,rfl,_⟩:=hr
        refine Goes.tvs he (Goes.chk rfl (Goes.tv rfl ?_))
        apply ret_tt
        simp [goalAt,h0,hf]
      · simp at h
        refine ret_no ?_
        rintro ⟨_,f,hf,_⟩
        have:=(List.getElem?_eq_some_iff.1 hf).1
        omega
    · simp at h
      exact ret_no fun h'=>by have:=h'.1; omega
def insP (fs:List DFunc) (regs:Int) (x:DIns):Prop :=
 has (usesI x.op) 1=true∧placeP (has (usesI x.op) 2) regs x.dst∧placeP (has (usesI x.op) 4) regs x.a∧placeP (has (usesI x.op) 8) regs x.b∧(has (usesI x.op) 16=true∨x.k=0)∧callP (has (usesI x.op) 32) fs regs x.f x.args
theorem r33 {q q':Option Bool} {x bs:TV} {e:List TV} {fs:List DFunc} {p regs:Int} {a:DIns} (hx:RL q 3 (RFunc q) x fs) (he:RIns q' e a):Runs prog 110 [.agg [x,I p,I regs,bs],.agg e] (B (tt (insP fs regs a))):=by
 obtain ⟨g,rfl,hg,_⟩:=he
 have h49:=r49 a.op
 have h50:∀ {u:Bool} {n:Int},Runs prog 117 [.agg [x,I p,I regs,bs],B u,I n,g] (B (tt (callP u fs regs n a.args))):=r50 hx hg
 refine Runs.of (f110_MR _ _) ?_
 unfold f110_M
 repeat' (first
  | refine Goes.chk rfl ?_
  | refine Goes.tv rfl ?_
  | refine Goes.tv (RL.len (by assumption)) ?_
  | refine Goes.nat rfl ?_
  | refine Goes.ite (v:=true) rfl (fun _=>?_) (fun h=>nomatch h)
  | refine Goes.ite (v:=false) rfl (fun h=>nomatch h) (fun _=>?_)
  | refine Goes.ite rfl (fun _=>?_) (fun _=>?_)
  | refine Goes.call (by assumption) ?_
  | refine Goes.tvs (by assumption) ?_
  | refine Goes.call (r25 _ _) ?_ | refine Goes.call r47 ?_ | refine Goes.call h50 ?_)
 all_goals (apply ret_tt; simp_all [insP,tt_iff,tt_iff0])
def endP (fs:List DFunc) (regs:Int) (bs:List DBlock) (x:DEnd):Prop :=
 has (usesE x.kind) 1=true∧placeP (has (usesE x.kind) 4) regs x.a∧placeP (has (usesE x.kind) 2) regs x.dst∧callP (has (usesE x.kind) 32) fs regs x.f x.args ∧
  goalP (has (usesE x.kind) 64) bs x.to false∧goalP (has (usesE x.kind) 128) bs x.els false∧goalP (has (usesE x.kind) 256) bs x.pad true
theorem r34 {q q' q2:Option Bool} {x y:TV} {e:List TV} {fs:List DFunc} {bs:List DBlock} {p regs:Int} {a:DEnd} (hx:RL q 3 (RFunc q) x fs) (hy:RL q2 14 (RBlock q2) y bs) (he:REnd q' e a):Runs prog 111 [.agg [x,I p,I regs,y],.agg e] (B (tt (endP fs regs bs a))):=by
 obtain ⟨g,rfl,hg,_⟩:=he
 have h24:=r24 a.kind
 have h50:∀ {u:Bool} {n:Int},Runs prog 117 [.agg [x,I p,I regs,y],B u,I n,g] (B (tt (callP u fs regs n a.args))):=r50 hx hg
 have h51:∀ {u landing:Bool} {n:Int},Runs prog 118 [.agg [x,I p,I regs,y],B u,I n,B landing] (B (tt (goalP u bs n landing))):=r51 hy
 refine Runs.of (f111_MR _ _) ?_
 unfold f111_M
 repeat' (first
  | refine Goes.chk rfl ?_
  | refine Goes.tv rfl ?_
  | refine Goes.tv (RL.len (by assumption)) ?_
  | refine Goes.nat rfl ?_
  | refine Goes.ite (v:=true) rfl (fun _=>?_) (fun h=>nomatch h)
  | refine Goes.ite (v:=false) rfl (fun h=>nomatch h) (fun _=>?_)
  | refine Goes.ite rfl (fun _=>?_) (fun _=>?_)
  | refine Goes.call (by assumption) ?_
  | refine Goes.tvs (by assumption) ?_
  | refine Goes.call (r25 _ _) ?_ | refine Goes.call r47 ?_ | refine Goes.call h50 ?_ | refine Goes.call h51 ?_)
 all_goals (apply ret_tt; simp_all [endP,tt_iff,tt_iff0])
end Go.Ab.G7
end
section
set_option linter.unusedVariables false
set_option maxRecDepth 10000
namespace Go.Ab
theorem RL.slice {α:Type} {q:Option Bool} {s:Nat} {R:List TV→α→Prop} {x:TV} {l:List α} (h:RL q s R x l) {t:TypeId} {lo hi:Option Nat} (h1:lo.getD 0≤hi.getD l.length) (h2:hi.getD l.length≤l.length) :
  ∃ y,pslice (.slice t) s x lo hi=some y∧RL q s R y ((l.drop (lo.getD 0)).take (hi.getD l.length - lo.getD 0)):=by
 rcases h with ⟨rfl,rfl⟩ | ⟨o,xs,rfl,hq,h,hb⟩
 ·simp at h1 h2
  refine ⟨_,?_,by simpa using RL.nil⟩
  have h3:lo.getD 0=0:=by omega
  simp only [pslice,nilV,h2,h3,and_self,if_true]
 ·have hl:=h.length
  refine ⟨.sl o s ((xs.drop (lo.getD 0)).take (hi.getD xs.length - lo.getD 0)),?_,?_⟩
  ·rw [← hl] at h1 h2
   simp only [pslice,h1,h2,and_self,if_true]
  ·rw [← hl]
   exact .sl hq ((h.drop _).take _) (by simp; omega)
theorem asNat_nat {k:Nat} (h:k≤9223372036854775807):asNat (I (k:Int))=some k:=by
 simp [asNat]; omega
def unlikeP (l:List Int):Prop:=∀ i,i < l.length→∀ a,l[i]? = some a→a ∉ l.take i
def padP (landing:Bool) (regs:Int) (p:DPad):Prop:=(landing=false→p.dst=0∧p.catches=[]∧p.all=false∧p.cleanup=false) ∧
 (landing=true→within p.dst regs∧p.catches.length≤8∧unlikeP p.catches∧(p.catches≠[]∨p.all=true∨p.cleanup=true))
end Go.Ab
namespace Go.Ab.G7
open Go Go.Ab Go.Proofs
theorem r59 {q:Option Bool} {x:TV} {l:List Int} {w:Int} (hx:RWords q x l):∃ n,Runs prog 121 [x,W w] (I n)∧(0≤n ↔ w ∈ l):=by
 have loop : ∀ d k, k + d = l.length → ∃ n, Goes prog 121 (f121_0 x (W w) (I l.length) (I k)) (I n) ∧ (0 ≤ n ↔ ∃ i, k ≤ i ∧ l[i]? = some w) := by
  intro d
  induction d with
  | zero =>
   intro k hk
   have hk:k=l.length:=by omega
   subst hk
   refine ⟨-1,?_,?_⟩
   ·unfold f121_0
    refine Goes.tv rfl (Goes.ite asB_end (fun h=>nomatch h) fun _=>?_)
    exact Goes.ret
   ·simp only [show ¬ (0:Int)≤-1 by omega,false_iff,not_exists,not_and]
    intro i hi
    rw [List.getElem?_eq_none hi]; simp
  | succ d ih =>
   intro k hk
   have hk':k < l.length:=by omega
   have ha:l[k]? = some l[k]:=List.getElem?_eq_getElem hk'
   obtain ⟨e,he,rfl,_⟩:=hx.idx (k:=.i64) ha
   obtain ⟨n,hn,hiff⟩:=ih (k + 1) (by omega)
   by_cases hw:w=l[k]
   ·refine ⟨(k:Int),?_,?_⟩
    ·unfold f121_0
     refine Goes.tv rfl (Goes.ite (asB_lt hk') (fun _=>?_) fun h=>nomatch h)
     refine Goes.tvs he (Goes.chk rfl (Goes.tv rfl (Goes.ite rfl (fun h=>Goes.ret) fun h=>?_)))
     simp at h; exact absurd hw h
    ·constructor
     ·intro _; exact ⟨k,Nat.le_refl _,by rw [ha,hw]⟩
     ·intro _; omega
   ·refine ⟨n,?_,?_⟩
    ·unfold f121_0
     refine Goes.tv rfl (Goes.ite (asB_lt hk') (fun _=>?_) fun h=>nomatch h)
     refine Goes.tvs he (Goes.chk rfl (Goes.tv rfl (Goes.ite rfl (fun h=>?_) fun h=>?_)))
     ·simp at h; exact absurd h hw
     ·refine Goes.tv (inc hk' hx.bnd) (f121_0_J hn)
    ·rw [hiff]
     constructor
     ·rintro ⟨i,hi,h⟩; exact ⟨i,by omega,h⟩
     ·rintro ⟨i,hi,h⟩
      refine ⟨i,?_,h⟩
      by_cases hik:i=k
      ·subst hik; rw [ha] at h; simp at h; exact absurd h.symm hw
      ·omega
 obtain ⟨n,hn,hiff⟩:=loop l.length 0 (by omega)
 refine ⟨n,?_,?_⟩
 ·refine Runs.of (f121_MR _ _) ?_
  unfold f121_M
  exact Goes.tv hx.len (f121_0_J hn)
 ·rw [hiff,List.mem_iff_getElem?]
  simp
theorem r56 {q:Option Bool} {x:TV} {l:List Int} {w:Int} (hx:RWords q x l):Runs prog 113 [x,W w] (B (tt (w ∈ l))):=by
 obtain ⟨n,hn,hiff⟩:=r59 (w:=w) hx
 refine Runs.of (f113_MR _ _) ?_
 unfold f113_M
 repeat' (first
  | refine Goes.chk rfl ?_
  | refine Goes.tv rfl ?_
  | refine Goes.tv (RL.len (by assumption)) ?_
  | refine Goes.nat rfl ?_
  | refine Goes.ite rfl (fun _=>?_) (fun _=>?_)
  | refine Goes.call (by assumption) ?_
  | refine Goes.tvs (by assumption) ?_)
 apply ret_tt
 simp [hiff]
theorem r48 {q:Option Bool} {x:TV} {l:List Int} (hx:RWords q x l):Runs prog 115 [x] (B (tt (unlikeP l))):=by
 refine Runs.of (f115_MR _) ?_
 unfold f115_M
 refine Goes.tv hx.len (f115_0_J ?_)
 refine allLoop' (g:=fun k=>f115_0 x x (I l.length) (I k)) ?_ ?_
 ·unfold f115_0
  refine Goes.tv rfl (Goes.ite asB_end (fun h=>nomatch h) fun _=>?_)
  exact Goes.ret
 ·intro k hk r h1 h2
  have ha:l[k]? = some l[k]:=List.getElem?_eq_getElem hk
  obtain ⟨e,he,rfl,_⟩:=hx.idx (k:=.i64) ha
  obtain ⟨y,hy,hry⟩:=hx.slice (t:=29) (lo:=none) (hi:=some k) (by simp) (by simp; omega)
  have hry':RWords q y (l.take k):=by simpa using hry
  unfold f115_0
  refine Goes.tv rfl (Goes.ite (asB_lt hk) (fun _=>?_) fun h=>nomatch h)
  have hb:=hx.bnd
  refine Goes.tvs he (Goes.chk rfl (Goes.nat (asNat_nat (by omega)) (Goes.tv hy (Goes.call (r56 hry') (Goes.chk rfl (Goes.ite rfl (fun h=>?_) fun h=>?_))))))
  ·rw [h1 (by simp [ha]; simpa [tt_iff] using h)]; exact Goes.ret
  ·refine Goes.tv (inc hk hx.bnd) (f115_0_J (h2 ?_))
   simp [ha]; simpa [tt_iff0] using h
theorem r32 {q:Option Bool} {fs bs:TV} {e:List TV} {p regs:Int} {a:DPad} {landing:Bool} (he:RPad q e a):Runs prog 109 [.agg [fs,I p,I regs,bs],B landing,.agg e] (B (tt (padP landing regs a))):=by
  obtain ⟨x,rfl,hx,_⟩:=he
  have h48:=r48 hx
  cases landing
  · refine Runs.of (f109_MR _ _ _) ?_
    unfold f109_M
    repeat' (first
      | refine Goes.chk rfl ?_
      | refine Goes.tv rfl ?_
      | refine Goes.tv (RL.len (by assumption)) ?_
      | refine Goes.nat rfl ?_
      | refine Goes.ite (v:=true) rfl (fun _=>?_) (fun h=>nomatch h)
      | refine Goes.ite (v:=false) rfl (fun h=>nomatch h) (fun _=>?_)
      | refine Goes.ite rfl (fun _=>?_) (fun _=>?_)
      | refine Goes.call (by assumption) ?_
      | refine Goes.tvs (by assumption) ?_
       )
    all_goals (apply ret_tt; simp_all [padP])
  · refine Runs.of (f109_MR _ _ _) ?_
    unfold f109_M
    repeat' (first
      | refine Goes.chk rfl ?_
      | refine Goes.tv rfl ?_
      | refine Goes.tv (RL.len (by assumption)) ?_
      | refine Goes.nat rfl ?_
      | refine Goes.ite (v:=true) rfl (fun _=>?_) (fun h=>nomatch h)
      | refine Goes.ite (v:=false) rfl (fun h=>nomatch h) (fun _=>?_)
      | refine Goes.ite rfl (fun _=>?_) (fun _=>?_)
      | refine Goes.call (by assumption) ?_
      | refine Goes.tvs (by assumption) ?_
      | refine Goes.call r47 ?_)
    all_goals (apply ret_tt; simp_all [padP,tt_iff,tt_iff0,placeP_t,List.length_pos_iff] <;> omega)
def blockP (fs:List DFunc) (regs:Int) (bs:List DBlock) (b:DBlock):Prop:=b.ins.length≤64∧padP b.landing regs b.pad∧(∀ i,i < b.ins.length→∀ x,b.ins[i]? = some x→insP fs regs x)∧endP fs regs bs b.fin
def funcP (fs:List DFunc) (f:DFunc):Prop:=(0≤f.params∧f.params≤8∧f.params≤f.regs∧f.regs≤256)∧f.blocks.length≤64∧(∃ b,f.blocks[0]? = some b∧b.landing=false)∧∀ i,i < f.blocks.length→∀ b,f.blocks[i]? = some b→blockP fs f.regs f.blocks b
def modP (m:DMod):Prop:=m.funcs.length≤16∧(∃ f,m.funcs[0]? = some f∧f.params=0)∧∀ i,i < m.funcs.length→∀ f,m.funcs[i]? = some f→funcP m.funcs f
theorem r19 {q q' q2:Option Bool} {x y:TV} {e:List TV} {fs:List DFunc} {bs:List DBlock} {p regs:Int} {b:DBlock} (hx:RL q 3 (RFunc q) x fs) (hy:RL q2 14 (RBlock q2) y bs) (he:RBlock q' e b) :
  Runs prog 96 [.agg [x,I p,I regs,y],.agg e] (B (tt (blockP fs regs bs b))):=by
 obtain ⟨c,i,g,rfl,hc,hd,hi,hg,ho⟩:=he
 have h32:Runs prog 109 [.agg [x,I p,I regs,y],B b.landing,.agg [I b.pad.dst,c,B b.pad.all,B b.pad.cleanup]] (B (tt (padP b.landing regs b.pad))):=r32 (q:=q') ⟨c,rfl,hc,hd⟩
 have h34:Runs prog 111 [.agg [x,I p,I regs,y],.agg [I b.fin.kind,I b.fin.a,I b.fin.dst,I b.fin.f,g,I b.fin.to,I b.fin.els,I b.fin.pad]] (B (tt (endP fs regs bs b.fin))):=r34 (q':=q') hx hy ⟨g,rfl,hg,ho⟩
 refine Runs.of (f96_MR _ _) ?_
 unfold f96_M
 refine Goes.chk rfl (Goes.chk rfl (Goes.tv hi.len (Goes.tv rfl (Goes.ite rfl (fun h=>?_) fun h0=>?_))))
 ·simp at h
  exact ret_no fun h'=>by have:=h'.1; omega
 ·refine Goes.call h32 (Goes.chk rfl (Goes.tv rfl (Goes.ite rfl (fun h=>?_) fun h=>?_)))
  ·simp [tt_iff0] at h
   exact ret_no fun h'=>h h'.2.1
  ·simp [tt_iff] at h h0
   refine Goes.tv hi.len (f96_0_J ?_)
   rw [show tt (blockP fs regs bs b)=tt (allFrom 0 b.ins.length (fun i=>∀ x,b.ins[i]? = some x→insP fs regs x)∧endP fs regs bs b.fin) from tt_congr (by
    rw [allFrom_zero]
    exact ⟨fun h=>h.2.2,fun h'=>⟨by omega,h,h'⟩⟩)]
   refine allLoop (g:=fun k=>f96_0 i (I b.ins.length) (I k) x (I p) (I regs) y (B b.landing) (I b.pad.dst) c (B b.pad.all) (B b.pad.cleanup) i (I b.fin.kind) (I b.fin.a) (I b.fin.dst) (I b.fin.f) g (I b.fin.to) (I b.fin.els) (I b.fin.pad)) ?_ ?_ b.ins.length 0 (by omega)
   ·unfold f96_0
    refine Goes.tv rfl (Goes.ite asB_end (fun h=>nomatch h) fun _=>?_)
    refine f96_1_J ?_
    unfold f96_1
    exact Goes.call h34 (Goes.chk rfl Goes.ret)
   ·intro k hk r h1 h2
    have ha:b.ins[k]? = some b.ins[k]:=List.getElem?_eq_getElem hk
    obtain ⟨e,he,hr⟩:=hi.idx (k:=.i64) ha
    have h33:Runs prog 110 [.agg [x,I p,I regs,y],.agg e] (B (tt (insP fs regs b.ins[k]))):=r33 hx hr
    obtain ⟨_,rfl,_⟩:=hr
    unfold f96_0
    refine Goes.tv rfl (Goes.ite (asB_lt hk) (fun _=>?_) fun h=>nomatch h)
    refine Goes.tvs he (Goes.chk rfl (Goes.call h33 (Goes.chk rfl (Goes.tv rfl (Goes.ite rfl (fun h=>?_) fun h=>?_)))))
    ·rw [h1 (by simp [ha]; simpa [tt_iff0] using h)]; exact Goes.ret
    ·refine Goes.tv (inc hk hi.bnd) (f96_0_J (h2 ?_))
     simp [ha]; simpa [tt_iff] using h
theorem r10 {q q':Option Bool} {e e':List TV} {m:DMod} {f:DFunc} (hm:RMod q e m) (hf:RFunc q' e' f):Runs prog 70 [.agg e,.agg e'] (B (tt (funcP m.funcs f))):=by
 obtain ⟨x,rfl,hx⟩:=hm
 obtain ⟨y,rfl,hy,_⟩:=hf
 refine Runs.of (f70_MR _ _) ?_
 unfold f70_M
 refine Goes.chk rfl (Goes.chk rfl (Goes.tv rfl (Goes.ite rfl (fun h=>?_) fun g1=>?_)))
 ·simp at h; exact ret_no fun h'=>by have:=h'.1; omega
 refine Goes.tv rfl (Goes.ite rfl (fun h=>?_) fun g2=>?_)
 ·simp at h; exact ret_no fun h'=>by have:=h'.1; omega
 refine Goes.tv rfl (Goes.ite rfl (fun h=>?_) fun g3=>?_)
 ·simp at h; exact ret_no fun h'=>by have:=h'.1; omega
 refine Goes.tv rfl (Goes.ite rfl (fun h=>?_) fun g4=>?_)
 ·simp at h; exact ret_no fun h'=>by have:=h'.1; omega
 refine Goes.tv hy.len (Goes.tv rfl (Goes.ite rfl (fun h=>?_) fun g5=>?_))
 ·simp at h
  refine ret_no ?_
  rintro ⟨_,_,⟨b,hb,_⟩,_⟩
  have:=(List.getElem?_eq_some_iff.1 hb).1
  omega
 refine Goes.tv hy.len (Goes.tv rfl (Goes.ite rfl (fun h=>?_) fun g6=>?_))
 ·simp at h; exact ret_no fun h'=>by have:=h'.2.1; omega
 simp at g1 g2 g3 g4 g5 g6
 have hpos:0 < f.blocks.length:=by omega
 have hb0:f.blocks[0]? = some f.blocks[0]:=List.getElem?_eq_getElem hpos
 obtain ⟨e0,he0,hr0⟩:=hy.idx (k:=.i64) hb0
 obtain ⟨_,_,_,rfl,_⟩:=hr0
 refine Goes.tvs he0 (Goes.chk rfl (Goes.ite rfl (fun h=>?_) fun g7=>?_))
 ·refine ret_no ?_
  rintro ⟨_,_,⟨b,hb,hl⟩,_⟩
  rw [hb0] at hb
  simp at hb
  subst hb
  rw [hl] at h
  cases h
 refine Goes.tv hy.len (f70_0_J ?_)
 rw [show tt (funcP m.funcs f)=tt (∀ i,i < f.blocks.length→∀ b,f.blocks[i]? = some b→blockP m.funcs f.regs f.blocks b) from tt_congr
  ⟨fun h=>h.2.2.2,fun h=>⟨⟨by omega,by omega,by omega,by omega⟩,by omega,⟨_,hb0,g7⟩,h⟩⟩]
 refine allLoop' (g:=fun k=>f70_0 y (I f.blocks.length) (I k) x (I f.params) (I f.regs) y) ?_ ?_
 ·unfold f70_0
  refine Goes.tv rfl (Goes.ite asB_end (fun h=>nomatch h) fun _=>?_)
  exact Goes.ret
 ·intro k hk r h1 h2
  have ha:f.blocks[k]? = some f.blocks[k]:=List.getElem?_eq_getElem hk
  obtain ⟨e,he,hr⟩:=hy.idx (k:=.i64) ha
  have h19:Runs prog 96 [.agg [x,I f.params,I f.regs,y],.agg e] (B (tt (blockP m.funcs f.regs f.blocks f.blocks[k]))):=r19 hx hy hr
  obtain ⟨_,_,_,rfl,_⟩:=hr
  unfold f70_0
  refine Goes.tv rfl (Goes.ite (asB_lt hk) (fun _=>?_) fun h=>nomatch h)
  refine Goes.tvs he (Goes.chk rfl (Goes.call h19 (Goes.chk rfl (Goes.tv rfl (Goes.ite rfl (fun h=>?_) fun h=>?_)))))
  ·rw [h1 (by simp [ha]; simpa [tt_iff0] using h)]; exact Goes.ret
  ·refine Goes.tv (inc hk hy.bnd) (f70_0_J (h2 ?_))
   simp [ha]; simpa [tt_iff] using h
theorem r8 {q:Option Bool} {e:List TV} {m:DMod} (hm:RMod q e m):Runs prog 41 [.agg e] (B (tt (modP m))):=by
 have hm':=hm
 obtain ⟨x,rfl,hx⟩:=hm
 refine Runs.of (f41_MR _) ?_
 unfold f41_M
 refine Goes.chk rfl (Goes.tv hx.len (Goes.tv rfl (Goes.ite rfl (fun h=>?_) fun g1=>?_)))
 ·simp at h
  refine ret_no ?_
  rintro ⟨_,⟨b,hb,_⟩,_⟩
  have:=(List.getElem?_eq_some_iff.1 hb).1
  omega
 refine Goes.tv hx.len (Goes.tv rfl (Goes.ite rfl (fun h=>?_) fun g2=>?_))
 ·simp at h; exact ret_no fun h'=>by have:=h'.1; omega
 simp at g1 g2
 have hpos:0 < m.funcs.length:=by omega
 have hb0:m.funcs[0]? = some m.funcs[0]:=List.getElem?_eq_getElem hpos
 obtain ⟨e0,he0,hr0⟩:=hx.idx (k:=.i64) hb0
 obtain ⟨_,rfl,_⟩:=hr0
 refine Goes.tvs he0 (Goes.chk rfl (Goes.tv rfl (Goes.ite rfl (fun h=>?_) fun g7=>?_)))
 ·refine ret_no ?_
  rintro ⟨_,⟨b,hb,hl⟩,_⟩
  rw [hb0] at hb
  simp at hb
  subst hb
  rw [hl] at h
  simp at h
 simp at g7
 refine Goes.tv hx.len (f41_0_J ?_)
 rw [show tt (modP m)=tt (∀ i,i < m.funcs.length→∀ f,m.funcs[i]? = some f→funcP m.funcs f) from tt_congr ⟨fun h=>h.2.2,fun h=>⟨by omega,⟨_,hb0,g7⟩,h⟩⟩]
 refine allLoop' (g:=fun k=>f41_0 x (I m.funcs.length) (I k) x) ?_ ?_
 ·unfold f41_0
  refine Goes.tv rfl (Goes.ite asB_end (fun h=>nomatch h) fun _=>?_)
  exact Goes.ret
 ·intro k hk r h1 h2
  have ha:m.funcs[k]? = some m.funcs[k]:=List.getElem?_eq_getElem hk
  obtain ⟨e,he,hr⟩:=hx.idx (k:=.i64) ha
  have h10:=r10 hm' hr
  obtain ⟨_,rfl,_⟩:=hr
  unfold f41_0
  refine Goes.tv rfl (Goes.ite (asB_lt hk) (fun _=>?_) fun h=>nomatch h)
  refine Goes.tvs he (Goes.chk rfl (Goes.call h10 (Goes.chk rfl (Goes.tv rfl (Goes.ite rfl (fun h=>?_) fun h=>?_)))))
  ·rw [h1 (by simp [ha]; simpa [tt_iff0] using h)]; exact Goes.ret
  ·refine Goes.tv (inc hk hx.bnd) (f41_0_J (h2 ?_))
   simp [ha]; simpa [tt_iff] using h
end Go.Ab.G7
end
section
set_option linter.unusedVariables false
set_option maxRecDepth 10000
namespace Go.Ab
def shortB (b:DBlock):Prop:=b.ins.length≤70∧b.pad.catches.length≤20∧b.fin.args.length≤20∧∀ i,i < b.ins.length→∀ x,b.ins[i]? = some x→x.args.length≤20
def shortF (f:DFunc):Prop:=f.blocks.length≤70∧∀ i,i < f.blocks.length→∀ b,f.blocks[i]? = some b→shortB b
def shortM (m:DMod):Prop:=m.funcs.length≤20∧∀ i,i < m.funcs.length→∀ f,m.funcs[i]? = some f→shortF f
def rowsOf:TV→List (List TV)
 | .sl _ _ xs=>xs
 | _=>[]
def RP {α:Type} (s:Nat) (R:Nat→List TV→α→Prop) (x:TV) (l:List α):Prop :=
 (x=.lit nilV∧l=[])∨∃ xs,x=.sl true s xs∧xs.length=l.length∧xs.length≤9223372036854775807∧∀ i e a,xs[i]? = some e→l[i]? = some a→R i e a
section
variable {α:Type} {s:Nat} {R S:Nat→List TV→α→Prop} {x:TV} {l:List α}
theorem setNth_len {β:Type}:∀ (l:List β) (n:Nat) (b:β),(setNth l n b).length=l.length
 | [],_,_=>rfl
 | _ :: _,0,_=>rfl
 | a :: l,n + 1,b=>by simp [setNth,setNth_len l n b]
theorem setNth_get {β:Type}:∀ (l:List β) (n:Nat) (b:β) (i:Nat),n < l.length→(setNth l n b)[i]? = if i=n then some b else l[i]?
 | [],_,_,_,h=>by simp at h
 | _ :: _,0,_,0,_=>rfl
 | _ :: _,0,_,i + 1,_=>by simp [setNth]
 | a :: l,n + 1,b,0,_=>by simp [setNth]
 | a :: l,n + 1,b,i + 1,h=>by
  have:=setNth_get l n b i (by simpa using h)
  simp [setNth,this]
theorem RP.row (h:RP s R x l) {i:Nat} {a:α} (hi:l[i]? = some a):∃ e,Go.Ab.pel x i=some e∧R i e a∧(∀ j y,e[j]? = some y→getP [(i,j)] x=some y) ∧
  ∀ j ys,setC [] x i j ys=some (.sl true s (setNth (rowsOf x) i (setCells e j ys))):=by
 rcases h with ⟨rfl,rfl⟩ | ⟨xs,rfl,hl,hb,h⟩
 ·simp at hi
 ·have hlt:=(List.getElem?_eq_some_iff.1 hi).1
  have hx:xs[i]? = some (xs[i]'(by omega)):=List.getElem?_eq_getElem _
  refine ⟨_,hx,h i _ a hx hi,fun j y hy=>?_,fun j ys=>?_⟩
  ·simp only [getP,hx,hy]
  ·simp only [setC,getP,setEl,hx,setP,rowsOf]
theorem RP.setTo (h:RP s R x l) {i:Nat} {a b:α} (hi:l[i]? = some a) {e:List TV} (hS:S i e b) (hR:∀ j e c,j≠i→R j e c→S j e c):RP s S (.sl true s (setNth (rowsOf x) i e)) (l.set i b):=by
 rcases h with ⟨rfl,rfl⟩ | ⟨xs,rfl,hl,hb,h⟩
 ·simp at hi
 ·have hlt:=(List.getElem?_eq_some_iff.1 hi).1
  refine .inr ⟨_,rfl,by simp [setNth_len,rowsOf,hl],by simp [setNth_len,rowsOf,hb],fun j e' c hj hc=>?_⟩
  rw [setNth_get _ _ _ _ (by simp only [rowsOf]; omega)] at hj
  simp only [rowsOf] at hj
  rw [List.getElem?_set] at hc
  by_cases hji:j=i
  ·subst hji
   simp [hlt] at hj hc
   subst hj hc
   exact hS
  ·rw [if_neg hji] at hj
   rw [if_neg (fun h=>hji h.symm)] at hc
   exact hR j _ _ hji (h j _ _ hj hc)
theorem RP.toRL {T:List TV→α→Prop} (h:RP s R x l) (hm:∀ i e a,i < l.length→R i e a→T e a):RL (some true) s T x l:=by
 rcases h with ⟨rfl,rfl⟩ | ⟨xs,rfl,hl,hb,h⟩
 ·exact .nil
 ·refine .sl (by simp) (F2.of_get hl fun i e a he ha=>hm i e a ?_ (h i e a he ha)) hb
  exact (List.getElem?_eq_some_iff.1 ha).1
theorem RL.toRP {T:List TV→α→Prop} (h:RL (some true) s T x l) (hm:∀ i e a,T e a→R i e a):RP s R x l:=by
 rcases h with ⟨rfl,rfl⟩ | ⟨o,xs,rfl,hq,h,hb⟩
 ·exact .inl ⟨rfl,rfl⟩
 ·have:o=true:=hq true rfl
  subst this
  refine .inr ⟨xs,rfl,h.length,hb,fun i e a he ha=>?_⟩
  obtain ⟨e',he',hr⟩:=h.get ha
  rw [he] at he'
  cases he'
  exact hm _ _ _ hr
end
theorem RL.isFr {α:Type} {s:Nat} {R:List TV→α→Prop} {x:TV} {l:List α} (h:RL (some false) s R x l):x.isFr=true:=by
 rcases h with ⟨rfl,rfl⟩ | ⟨o,xs,rfl,hq,h,hb⟩
 ·rfl
 ·rw [hq false rfl]; rfl
theorem isOwnLL_all:∀ (xs:List (List TV)),(∀ e ∈ xs,isOwnL e=true)→isOwnLL xs=true
 | [],_=>rfl
 | e :: xs,h=>by
  simp only [isOwnLL,Bool.and_eq_true]
  exact ⟨h e List.mem_cons_self,isOwnLL_all xs fun e he=>h e (List.mem_cons_of_mem _ he)⟩
theorem F2.memL {α β:Type} {R:α→β→Prop} {xs:List α} {l:List β} (h:F2 R xs l) {e:α} (he:e ∈ xs):∃ a,a ∈ l∧R e a:=by
 obtain ⟨i,hi,rfl⟩:=List.mem_iff_getElem.1 he
 obtain ⟨a,ha,hr⟩:=h.getL (List.getElem?_eq_getElem hi)
 exact ⟨a,List.mem_of_getElem? ha,hr⟩
theorem RL.own {α:Type} {s:Nat} {R:List TV→α→Prop} {x:TV} {l:List α} (h:RL (some true) s R x l) (hm:∀ e a,R e a→isOwnL e=true):isOwn x=true:=by
 rcases h with ⟨rfl,rfl⟩ | ⟨o,xs,rfl,hq,h,hb⟩
 ·rfl
 ·rw [hq true rfl]
  simp only [isOwn,Bool.true_and]
  refine isOwnLL_all _ fun e he=>?_
  obtain ⟨a,_,hr⟩:=h.memL he
  exact hm _ _ hr
theorem RI1.own {e:List TV} {n:Int} (h:RI1 e n):isOwnL e=true:=by obtain ⟨rfl,_⟩:=h; rfl
theorem RW1.own {e:List TV} {n:Int} (h:RW1 e n):isOwnL e=true:=by obtain ⟨rfl,_⟩:=h; rfl
theorem own_copy {α:Type} {q:Option Bool} {s:Nat} {R:List TV→α→Prop} {x:TV} {l:List α} (h:RL q s R x l) (z:List TV) {xs:List (List TV)} (hx:pelems s x=some xs):∃ y,pcopy s (.sl true s (List.replicate l.length z)) xs=some y∧RL (some true) s R y l:=by
 have hl:F2 R xs l∧xs.length≤9223372036854775807:=by
  rcases h with ⟨rfl,rfl⟩ | ⟨o,ys,rfl,hq,h,hb⟩
  ·change some []=some xs at hx; cases hx; exact ⟨.nil,by simp⟩
  ·simp [pelems] at hx; subst hx; exact ⟨h,hb⟩
 have hlen:=hl.1.length
 refine ⟨.sl true s (xs.take l.length ++ (List.replicate l.length z).drop xs.length),by simp [pcopy],?_⟩
 rw [← hlen,List.take_length,List.drop_eq_nil_of_le (by simp),List.append_nil]
 exact .sl (by simp) hl.1 hl.2
end Go.Ab
namespace Go.Ab.G7
open Go Go.Ab Go.Proofs
theorem r7 {q : Option Bool} {e : List TV} {m : DMod} (hm : RMod q e m) : ∃ b, Runs prog 34 [.agg e] (B b) ∧ (b = true → shortM m) := by
 obtain ⟨x,rfl,hx⟩:=hm
 have no:∀ {p:Prg TV},Goes prog 34 p (B false)→∃ b,Goes prog 34 p (B b)∧(b=true→shortM m):=fun h=>⟨false,h,fun h=>nomatch h⟩
 by_cases hlen:m.funcs.length≤20
 ·have outer : ∀ d i (n : Int), i + d = m.funcs.length → 0 ≤ n → n ≤ (i : Int) * 4900 → (∀ j, j < i → ∀ f, m.funcs[j]? = some f → shortF f) → ∃ b, Goes prog 34 (f34_0 (I n) (I i) x) (B b) ∧ (b = true → shortM m) := by
   intro d
   induction d with
   | zero =>
    intro i n hi h0 hn hs
    have hi:i=m.funcs.length:=by omega
    subst hi
    refine ⟨decide (n≤2000),?_,fun _=>⟨hlen,hs⟩⟩
    unfold f34_0
    refine Goes.tv (RL.len (by assumption)) (Goes.tv rfl (Goes.ite asB_end (fun h=>nomatch h) fun _=>?_))
    exact Goes.tv rfl Goes.ret
   | succ d ih =>
    intro i n hi h0 hn hs
    have hk:i < m.funcs.length:=by omega
    have ha:m.funcs[i]? = some m.funcs[i]:=List.getElem?_eq_getElem hk
    obtain ⟨e,he,hr⟩:=hx.idx (k:=.i64) ha
    generalize m.funcs[i]=f at ha hr
    obtain ⟨y,rfl,hy,_⟩:=hr
    by_cases hbl:f.blocks.length≤70
    ·have mid : ∀ d k (n : Int), k + d = f.blocks.length → 0 ≤ n → n ≤ (i : Int) * 4900 + k * 70 → (∀ j, j < k → ∀ b, f.blocks[j]? = some b → shortB b) → ∃ b, Goes prog 34 (f34_1 (I n) (I i) (I k) x) (B b) ∧ (b = true → shortM m) := by
      intro d
      induction d with
      | zero =>
       intro k n hk' h0 hn hsb
       have hk':k=f.blocks.length:=by omega
       subst hk'
       obtain ⟨b,hb,himp⟩:=ih (i + 1) n (by omega) h0 (by simp; omega) (fun j hj g hg=>by
        by_cases hji:j=i
        ·subst hji; rw [ha] at hg; cases hg; exact ⟨hbl,fun j hj=>hsb j hj⟩
        ·exact hs j (by omega) g hg)
       refine ⟨b,?_,himp⟩
       unfold f34_1
       refine Goes.tvs he (Goes.chk rfl (Goes.tv hy.len (Goes.tv rfl (Goes.ite asB_end (fun h=>nomatch h) fun _=>?_))))
       exact Goes.tv (inc hk hx.bnd) (f34_0_J hb)
      | succ d ihm =>
       intro k n hk' h0 hn hsb
       have hkb:k < f.blocks.length:=by omega
       have hab:f.blocks[k]? = some f.blocks[k]:=List.getElem?_eq_getElem hkb
       obtain ⟨e2,he2,hr2⟩:=hy.idx (k:=.i64) hab
       generalize f.blocks[k]=b at hab hr2
       obtain ⟨c,is,g,rfl,hc,hd,his,hg,ho⟩:=hr2
       have start:∀ r,(¬ (b.ins.length≤70∧b.pad.catches.length≤20∧b.fin.args.length≤20)→r=B false)→(b.ins.length≤70∧b.pad.catches.length≤20∧b.fin.args.length≤20→Goes prog 34 (f34_2 (I (n + b.ins.length)) (I i) (I k) (I (0:Nat)) x (B b.landing) (I b.pad.dst) c (B b.pad.all) (B b.pad.cleanup) is (I b.fin.kind) (I b.fin.a) (I b.fin.dst) (I b.fin.f) g (I b.fin.to) (I b.fin.els) (I b.fin.pad)) r)→Goes prog 34 (f34_1 (I n) (I i) (I k) x) r:=by
        intro r h1 h2
        unfold f34_1
        refine Goes.tvs he (Goes.chk rfl (Goes.tv hy.len (Goes.tv rfl (Goes.ite (asB_lt hkb) (fun _=>?_) fun h=>nomatch h))))
        refine Goes.tvs he (Goes.chk rfl (Goes.tvs he2 (Goes.chk rfl (Goes.tv his.len (Goes.tv rfl (Goes.ite rfl (fun h=>?_) fun g1=>?_))))))
        ·rw [h1 (by simp at h; omega)]; exact Goes.ret
        ·refine Goes.tv hc.len (Goes.tv rfl (Goes.ite rfl (fun h=>?_) fun g2=>?_))
         ·rw [h1 (by simp at h; omega)]; exact Goes.ret
         ·refine Goes.tv hg.len (Goes.tv rfl (Goes.ite rfl (fun h=>?_) fun g3=>?_))
          ·rw [h1 (by simp at h; omega)]; exact Goes.ret
          ·simp at g1 g2 g3
           refine Goes.tv his.len (Goes.tv (padd (by constructor <;> omega)) (f34_2_J (h2 ⟨by omega,by omega,by omega⟩)))
       by_cases hsz:b.ins.length≤70∧b.pad.catches.length≤20∧b.fin.args.length≤20
       ·have inner:∀ d j,j + d=b.ins.length→(∀ t,t < j→∀ x,b.ins[t]? = some x→x.args.length≤20)→∃ r,Goes prog 34 (f34_2 (I (n + b.ins.length)) (I i) (I k) (I j) x (B b.landing) (I b.pad.dst) c (B b.pad.all) (B b.pad.cleanup) is (I b.fin.kind) (I b.fin.a) (I b.fin.dst) (I b.fin.f) g (I b.fin.to) (I b.fin.els) (I b.fin.pad)) (B r)∧(r=true→shortM m):=by
         intro d
         induction d with
         | zero =>
          intro j hj hs2
          have hj:j=b.ins.length:=by omega
          subst hj
          obtain ⟨r,hb,himp⟩:=ihm (k + 1) (n + b.ins.length) (by omega) (by omega) (by simp; omega) (fun j hj g hg=>by
           by_cases hji:j=k
           ·subst hji; rw [hab] at hg; cases hg; exact ⟨hsz.1,hsz.2.1,hsz.2.2,hs2⟩
           ·exact hsb j (by omega) g hg)
          refine ⟨r,?_,himp⟩
          unfold f34_2
          refine Goes.tv (RL.len (by assumption)) (Goes.tv rfl (Goes.ite asB_end (fun h=>nomatch h) fun _=>?_))
          exact Goes.tv (inc hkb hy.bnd) (f34_1_J hb)
         | succ d ihi =>
          intro j hj hs2
          have hjb:j < b.ins.length:=by omega
          have hax:b.ins[j]? = some b.ins[j]:=List.getElem?_eq_getElem hjb
          obtain ⟨e3,he3,hr3⟩:=his.idx (k:=.i64) hax
          generalize b.ins[j]=u at hax hr3
          obtain ⟨v,rfl,hv,_⟩:=hr3
          by_cases hu:u.args.length≤20
          ·obtain ⟨r,hb,himp⟩:=ihi (j + 1) (by omega) (fun t ht z hz=>by
            by_cases htj:t=j
            ·subst htj; rw [hax] at hz; cases hz; exact hu
            ·exact hs2 t (by omega) z hz)
           refine ⟨r,?_,himp⟩
           unfold f34_2
           refine Goes.tv (RL.len (by assumption)) (Goes.tv rfl (Goes.ite (asB_lt hjb) (fun _=>?_) fun h=>nomatch h))
           refine Goes.tvs he3 (Goes.chk rfl (Goes.tv hv.len (Goes.tv rfl (Goes.ite rfl (fun h=>?_) fun _=>?_))))
           ·simp at h; omega
           ·exact Goes.tv (inc hjb his.bnd) (f34_2_J hb)
          ·refine no ?_
           unfold f34_2
           refine Goes.tv (RL.len (by assumption)) (Goes.tv rfl (Goes.ite (asB_lt hjb) (fun _=>?_) fun h=>nomatch h))
           refine Goes.tvs he3 (Goes.chk rfl (Goes.tv hv.len (Goes.tv rfl (Goes.ite rfl (fun h=>Goes.ret) fun h=>?_))))
           simp at h; omega
        obtain ⟨r,hb,himp⟩:=inner b.ins.length 0 (by omega) (fun t ht=>by omega)
        exact ⟨r,start _ (fun h=>absurd hsz h) (fun _=>hb),himp⟩
       ·exact no (start _ (fun _=>rfl) (fun h=>absurd h hsz))
     obtain ⟨b,hb,himp⟩:=mid f.blocks.length 0 n (by omega) h0 (by simp; omega) (fun j hj=>by omega)
     refine ⟨b,?_,himp⟩
     unfold f34_0
     refine Goes.tv (RL.len (by assumption)) (Goes.tv rfl (Goes.ite (asB_lt hk) (fun _=>?_) fun h=>nomatch h))
     refine Goes.tvs he (Goes.chk rfl (Goes.tv hy.len (Goes.tv rfl (Goes.ite rfl (fun h=>?_) fun _=>?_))))
     ·simp at h; omega
     ·exact f34_1_J hb
    ·refine no ?_
     unfold f34_0
     refine Goes.tv (RL.len (by assumption)) (Goes.tv rfl (Goes.ite (asB_lt hk) (fun _=>?_) fun h=>nomatch h))
     refine Goes.tvs he (Goes.chk rfl (Goes.tv hy.len (Goes.tv rfl (Goes.ite rfl (fun h=>Goes.ret) fun h=>?_))))
     simp at h; omega
  obtain ⟨b,hb,himp⟩:=outer m.funcs.length 0 0 (by omega) (by omega) (by simp) (fun j hj=>by omega)
  refine ⟨b,?_,himp⟩
  refine Runs.of (f34_MR _) ?_
  unfold f34_M
  refine Goes.chk rfl (Goes.tv hx.len (Goes.tv rfl (Goes.ite rfl (fun h=>?_) fun _=>f34_0_J hb)))
  simp at h; omega
 ·refine ⟨false,?_,fun h=>nomatch h⟩
  refine Runs.of (f34_MR _) ?_
  unfold f34_M
  refine Goes.chk rfl (Goes.tv hx.len (Goes.tv rfl (Goes.ite rfl (fun _=>Goes.ret) fun h=>?_)))
  simp at h; omega
theorem r39 {q:Option Bool} {x:TV} {l:List Int} (hx:RL q 1 RW1 x l) (hl:l.length≤4294967296):∃ y,Runs prog 55 [x] y∧RL (some true) 1 RW1 y l:=by
 obtain ⟨xs,hxs,_⟩:=hx.elems
 obtain ⟨y,hy,hr⟩:=own_copy hx [.lit (.int .u16 0)] hxs
 have hn:=asNat_nat (k:=l.length) (by omega)
 have hle:(Nat.ble l.length 4294967296)=true:=by simpa using hl
 have hle':(Nat.ble l.length l.length)=true:=by simp
 have hown:=hr.own fun _ _ h=>h.own
 rcases hx with ⟨rfl,rfl⟩ | ⟨o,ys,rfl,hq,h,hb⟩
 ·refine ⟨.lit nilV,?_,.nil⟩
  refine Runs.of (f55_MR _) ?_
  unfold f55_M
  exact Goes.tv rfl (Goes.ite rfl (fun _=>Goes.chk rfl Goes.ret) fun h=>nomatch h)
 ·refine ⟨y,?_,hr⟩
  refine Runs.of (f55_MR _) ?_
  unfold f55_M
  refine Goes.tv rfl (Goes.ite rfl (fun h=>nomatch h) fun _=>?_)
  refine Goes.tv (v:=I l.length) (by simp [plen,h.length]) (Goes.nat hn (Goes.nat hn (Goes.chk (by rw [hle,hle']; rfl) (Goes.rws hxs (Goes.tv hy (Goes.nat rfl (Goes.chk hown Goes.ret)))))))
end Go.Ab.G7
end
section
set_option linter.unusedVariables false
set_option maxRecDepth 10000
namespace Go.Ab
structure DFrame where
 f:Int
 block:Int
 at_:Int
 regs:List Int
 fly:Int
def DFrame.ok (x:DFrame):Prop:=inI x.f∧inI x.block∧inI x.at_∧inW x.fly
def RFrame (q:Option Bool) (e:List TV) (x:DFrame):Prop:=∃ g,e=[I x.f,I x.block,I x.at_,g,W x.fly]∧RWords q g x.regs∧x.ok
theorem RFrame.weak {q:Option Bool} {e:List TV} {x:DFrame} (h:RFrame q e x):RFrame none e x:=by
 obtain ⟨g,rfl,hg,ho⟩:=h
 exact ⟨g,rfl,hg.weak fun _ _ h=>h,ho⟩
theorem RFrame.frz {q:Option Bool} {e:List TV} {x:DFrame} (h:RFrame q e x):RFrame (some false) (frzL e) x:=by
 obtain ⟨g,rfl,hg,ho⟩:=h
 exact ⟨Go.Ab.frz g,rfl,hg.frz fun _ _ h=>h.frz,ho⟩
theorem RFrame.own {e:List TV} {x:DFrame} (h:RFrame (some true) e x):isOwnL e=true:=by
 obtain ⟨g,rfl,hg,_⟩:=h
 simp [isOwnL,isOwn,hg.own fun _ _ h=>h.own]
theorem frame_eq {a b:DFrame}:a=b ↔ a.f=b.f∧a.block=b.block∧a.at_=b.at_∧a.regs=b.regs∧a.fly=b.fly:=by
 cases a; cases b; simp
theorem u16_mod (n:Int):IntKind.u16.wrap n=n % 65536:=by simp [IntKind.wrap,IntKind.bits,IntKind.signed]
theorem wrap_u16 (n:Int):inW (IntKind.u16.wrap n):=by rw [u16_mod]; constructor <;> omega
theorem wrap_i64 (n:Int):inI (IntKind.i64.wrap n):=by rw [IntKind.wrap_i64]; constructor <;> omega
def doW (op a b:Int):Option Int :=
 if op=2 then some a else if op=3 then some (IntKind.u16.wrap (a + b)) else if op=4 then some (IntKind.u16.wrap (a - b)) else if op=5 then some (IntKind.u16.wrap (a * b)) else
 if op=6 then (if b=0 then none else some (IntKind.u16.wrap (a.tdiv b))) else if op=7 then some (if a=b then 1 else 0) else if op=8 then some (if a < b then 1 else 0) else none
theorem doW_in {op a b v:Int} (ha:inW a) (h:doW op a b=some v):inW v:=by
 have h0:inW 0:=⟨by decide,by decide⟩
 have h1:inW 1:=⟨by decide,by decide⟩
 unfold doW at h
 repeat' split at h
 all_goals first | (cases h; done) | (cases h; first | exact ha | exact wrap_u16 _ | exact h0 | exact h1 | (split <;> assumption))
def ansW:Option Int→TV
 | some v=>.tup [W v,B true]
 | none=>.tup [W 0,B false]
theorem u64w {a:Int} (h:inW a):IntKind.u64.wrap a=a:=IntWalk.u64_in _ ⟨h.1,by have:=h.2; omega⟩
theorem u64mul {a b:Int} (ha:inW a) (hb:inW b):IntKind.u64.wrap (a * b)=a * b:=by
 obtain ⟨a0,a1⟩:=ha
 obtain ⟨b0,b1⟩:=hb
 have h0:=Int.mul_nonneg a0 b0
 have h1:a * b≤65535 * 65535:=Int.mul_le_mul a1 b1 b0 (by decide)
 exact IntWalk.u64_in _ ⟨h0,by omega⟩
def regAt (l:List Int) (n:Int):Option Int:=if 0≤n then l[n.toNat]? else none
def answerT (l:List Int) (x:DIns):Option Int :=
 if x.op=1 then some x.k else (regAt l x.a).bind fun a=>if 3≤x.op∧x.op≤8 then (regAt l x.b).bind fun b=>doW x.op a b else doW x.op a 0
def reckonT (f:DFrame) (x:DIns):DFrame × Bool :=
 match answerT f.regs x with
 | none=>(f,false)
 | some w=>if 0≤x.dst∧x.dst < f.regs.length then ({ f with regs:=f.regs.set x.dst.toNat w,at_:=IntKind.i64.wrap (f.at_ + 1) },true) else (f,false)
theorem within_at {l:List Int} {n:Int} (h:within n l.length):∃ a,l[n.toNat]? = some a∧n.toNat < l.length:=by
 have:n.toNat < l.length:=by have:=h.1; have:=h.2; omega
 exact ⟨_,List.getElem?_eq_getElem this,this⟩
theorem regAt_some {l:List Int} {n a:Int} (h0:0≤n) (h:l[n.toNat]? = some a):regAt l n=some a:=by simp [regAt,h0,h]
theorem regAt_none {l:List Int} {n:Int} (h:¬ within n l.length):regAt l n=none:=by
 unfold regAt
 split
 ·rename_i h0
  exact List.getElem?_eq_none (by have:¬ n < l.length:=fun h1=>h ⟨h0,h1⟩; omega)
 ·rfl
section
variable {q:Option Bool} {v:TV} {l:List Int}
theorem RWords.at_ (h:RWords q v l) {k:IntKind} {n a:Int} (h0:0≤n) (hn:l[n.toNat]? = some a):pidx 1 v (.lit (.int k n))=some [W a]∧inW a:=by
 obtain ⟨e,he,rfl,hw⟩:=h.idxI (k:=k) h0 hn
 exact ⟨he,hw⟩
theorem RWords.mem (h:RWords q v l) {n:Nat} {a:Int} (hn:l[n]? = some a):inW a:=(RWords.at_ h (k:=.i64) (n:=(n:Int)) (by omega) (by simpa using hn)).2
theorem RWords.put (h:RWords (some true) v l) {n:Nat} {w:Int} (hn:n < l.length) (hw:inW w):∃ a v',pel v n=some [W a]∧setC [] v n 0 [W w]=some v'∧RWords (some true) v' (l.set n w):=by
 have hi:l[n]? = some l[n]:=List.getElem?_eq_getElem hn
 have hp:=h.toRP (R:=fun _ e a=>RW1 e a) fun _ _ _ h=>h
 obtain ⟨e,he,⟨rfl,_⟩,_,hset⟩:=hp.row hi
 exact ⟨_,_,he,hset 0 _,(hp.setTo hi (b:=w) (S:=fun _ e a=>RW1 e a) ⟨rfl,hw⟩ fun _ _ _ _ h=>h).toRL fun _ _ _ _ h=>h⟩
theorem RWords.isOwn (h:RWords (some true) v l):Go.Ab.isOwn v=true:=RL.own h fun _ _ h=>h.own
end
theorem RL.app1 {α:Type} {s:Nat} {R:List TV→α→Prop} {y:TV} {l:List α} (hy:RL (some true) s R y l) {e:List TV} {a:α} (hR:R e a) (hl:l.length + 1≤4294967296):∃ y',papp s y [e]=some y'∧RL (some true) s R y' (l ++ [a]):=by
 rcases hy with ⟨rfl,rfl⟩ | ⟨o,xs,rfl,hq,h,hb⟩
 ·refine ⟨.sl true s [e],by simp [papp,nilV,room,rowT],.sl (by simp) (.cons hR .nil) (by simp)⟩
 ·have hlen:=h.length
  rw [hq true rfl]
  refine ⟨.sl true s (xs ++ [e]),?_,.sl (by simp) (h.append (.cons hR .nil)) (by simp; omega)⟩
  simp [papp,room]; omega
end Go.Ab
namespace Go.Ab.G7
open Go Go.Ab Go.Proofs
theorem rQuot0 {a b:Int} (h:b=0):Runs prog 123 [W a,W b] (.tup [W 0,B false]):=by
 refine Runs.of (f123_MR _ _) ?_
 unfold f123_M
 repeat' (first
  | refine Goes.chk rfl ?_
  | refine Goes.tv rfl ?_
  | refine Goes.tv (RL.len (by assumption)) ?_
  | refine Goes.nat rfl ?_
  | refine Goes.ite rfl (fun _=>?_) (fun _=>?_)
  | refine Goes.call (by assumption) ?_
  | refine Goes.tvs (by assumption) ?_)
 ·exact Goes.ret
 ·rename_i h'; simp [h] at h'
theorem rQuot {a b:Int} (h:¬ b=0):Runs prog 123 [W a,W b] (.tup [W (IntKind.u16.wrap (a.tdiv b)),B true]):=by
 refine Runs.of (f123_MR _ _) ?_
 unfold f123_M
 refine Goes.tv rfl (Goes.ite rfl (fun h'=>?_) fun _=>?_)
 ·simp at h'; exact absurd h' h
 ·exact Goes.tv (by simp only [pbin,intBin,if_true,if_neg h]) Goes.ret
theorem rTruth (b:Bool):Runs prog 124 [B b] (W (if b then 1 else 0)):=by
  cases b
  · refine Runs.of (f124_MR _) ?_
    unfold f124_M
    repeat' (first
      | refine Goes.chk rfl ?_
      | refine Goes.tv rfl ?_
      | refine Goes.tv (RL.len (by assumption)) ?_
      | refine Goes.nat rfl ?_
      | refine Goes.ite (v:=true) rfl (fun _=>?_) (fun h=>nomatch h)
      | refine Goes.ite (v:=false) rfl (fun h=>nomatch h) (fun _=>?_)
      | refine Goes.ite rfl (fun _=>?_) (fun _=>?_)
      | refine Goes.call (by assumption) ?_
      | refine Goes.tvs (by assumption) ?_
       )
    exact Goes.ret
  · refine Runs.of (f124_MR _) ?_
    unfold f124_M
    repeat' (first
      | refine Goes.chk rfl ?_
      | refine Goes.tv rfl ?_
      | refine Goes.tv (RL.len (by assumption)) ?_
      | refine Goes.nat rfl ?_
      | refine Goes.ite (v:=true) rfl (fun _=>?_) (fun h=>nomatch h)
      | refine Goes.ite (v:=false) rfl (fun h=>nomatch h) (fun _=>?_)
      | refine Goes.ite rfl (fun _=>?_) (fun _=>?_)
      | refine Goes.call (by assumption) ?_
      | refine Goes.tvs (by assumption) ?_
       )
    exact Goes.ret
theorem rDo (op a b:Int):Runs prog 120 [I op,W a,W b] (ansW (doW op a b)):=by
 by_cases hb:b=0
 ·have hq:=rQuot0 (a:=a) hb
  refine Runs.of (f120_MR _ _ _) ?_
  unfold f120_M
  repeat' (first
   | refine Goes.chk rfl ?_
   | refine Goes.tv rfl ?_
   | refine Goes.tv (RL.len (by assumption)) ?_
   | refine Goes.nat rfl ?_
   | refine Goes.ite (v:=true) rfl (fun _=>?_) (fun h=>nomatch h)
   | refine Goes.ite (v:=false) rfl (fun h=>nomatch h) (fun _=>?_)
   | refine Goes.ite rfl (fun _=>?_) (fun _=>?_)
   | refine Goes.call (by assumption) ?_
   | refine Goes.tvs (by assumption) ?_
   | refine Goes.call (rTruth _) ?_)
  all_goals (refine goes_ret.2 ?_; simp_all [doW,ansW,TV.comp,nth])
 ·have hq:=rQuot (a:=a) hb
  refine Runs.of (f120_MR _ _ _) ?_
  unfold f120_M
  repeat' (first
   | refine Goes.chk rfl ?_
   | refine Goes.tv rfl ?_
   | refine Goes.tv (RL.len (by assumption)) ?_
   | refine Goes.nat rfl ?_
   | refine Goes.ite (v:=true) rfl (fun _=>?_) (fun h=>nomatch h)
   | refine Goes.ite (v:=false) rfl (fun h=>nomatch h) (fun _=>?_)
   | refine Goes.ite rfl (fun _=>?_) (fun _=>?_)
   | refine Goes.call (by assumption) ?_
   | refine Goes.tvs (by assumption) ?_
   | refine Goes.call (rTruth _) ?_)
  all_goals (refine goes_ret.2 ?_; simp_all [doW,ansW,TV.comp,nth])
theorem rPure (op:Int):Runs prog 122 [I op] (B (decide (2≤op∧op≤8))):=by
 refine Runs.of (f122_MR _) ?_
 unfold f122_M
 repeat' (first
  | refine Goes.chk rfl ?_
  | refine Goes.tv rfl ?_
  | refine Goes.tv (RL.len (by assumption)) ?_
  | refine Goes.nat rfl ?_
  | refine Goes.ite rfl (fun _=>?_) (fun _=>?_)
  | refine Goes.call (by assumption) ?_
  | refine Goes.tvs (by assumption) ?_)
 all_goals (refine goes_ret.2 ?_; simp_all <;> omega)
theorem rTwo (op:Int):Runs prog 119 [I op] (B (decide (3≤op∧op≤8))):=by
 have h:=rPure op
 refine Runs.of (f119_MR _) ?_
 unfold f119_M
 refine Goes.call h (Goes.chk rfl (Goes.ite rfl (fun h=>?_) fun h=>?_))
 ·simp at h
  refine Goes.tv rfl (goes_ret.2 ?_)
  have:(op != 2)=decide (3≤op∧op≤8):=by rw [Bool.eq_iff_iff]; simp; omega
  rw [this]
 ·refine goes_ret.2 ?_
  have h':¬ (2≤op∧op≤8):=by simpa using h
  simp; omega
theorem rDo' (op:Int) {a b:Int} (ha:inW a) (hb:inW b):Runs prog 107 [I op,W a,W b] (ansW (doW op a b)):=by
 have hb0:=hb.1
 have hb1:=hb.2
 have ha0:=ha.1
 have ha1:=ha.2
 refine Runs.of (f107_MR _ _ _) ?_
 unfold f107_M
 refine Goes.tv (v:=.lit (.int .u64 a)) (by simp [pconv,u64w ha]) (Goes.tv (v:=.lit (.int .u64 b)) (by simp [pconv,u64w hb]) ?_)
 refine Goes.tv rfl (Goes.ite rfl (fun h=>?_) fun h2=>?_)
 ·refine goes_ret.2 ?_; simp_all [doW,ansW]
 refine Goes.tv rfl (Goes.ite rfl (fun h=>?_) fun h3=>?_)
 ·refine Goes.tv (v:=.lit (.int .u64 (a + b))) (by simp [pbin,intBin]; exact IntWalk.u64_in _ (by omega)) (Goes.tv rfl (Goes.tv rfl (goes_ret.2 ?_)))
  simp at h
  subst h
  simp only [doW,ansW,u16_mod,Int.tmod_eq_emod_of_nonneg (show 0≤a + b by omega)]
  simp
 refine Goes.tv rfl (Goes.ite rfl (fun h=>?_) fun h4=>?_)
 ·refine Goes.tv (v:=.lit (.int .u64 (a + 65536))) (by simp [pbin,intBin]; exact IntWalk.u64_in _ (by omega)) (Goes.tv (v:=.lit (.int .u64 (a + 65536 - b))) (by simp [pbin,intBin]; exact IntWalk.u64_in _ (by omega)) (Goes.tv rfl (Goes.tv rfl (goes_ret.2 ?_))))
  simp at h
  subst h
  simp only [doW,ansW,u16_mod,Int.tmod_eq_emod_of_nonneg (show 0≤a + 65536 - b by omega)]
  simp
  omega
 refine Goes.tv rfl (Goes.ite rfl (fun h=>?_) fun h5=>?_)
 ·refine Goes.tv (v:=.lit (.int .u64 (a * b))) (by simp [pbin,intBin]; exact u64mul ha hb) (Goes.tv rfl (Goes.tv rfl (goes_ret.2 ?_)))
  simp at h
  subst h
  simp only [doW,ansW,u16_mod,Int.tmod_eq_emod_of_nonneg (Int.mul_nonneg ha0 hb0)]
  simp
 refine Goes.tv rfl (Goes.ite rfl (fun h=>?_) fun h6=>?_)
 ·refine Goes.tv rfl (Goes.ite rfl (fun g=>?_) fun g=>?_)
  ·have hbp:0 < b:=by simpa using g
   have hd:=IntWalk.tdiv_le a b ha0 (by omega)
   have he:a.tdiv b=a / b:=Int.tdiv_eq_ediv_of_nonneg ha0
   refine Goes.tv (v:=.lit (.int .u64 (a.tdiv b))) (by simp only [pbin,intBin,if_true,if_neg (show ¬ b=0 by omega)]; rw [IntWalk.u64_in _ (by rw [he]; omega)]) (Goes.tv rfl (goes_ret.2 ?_))
   simp at h
   subst h
   simp [doW,ansW,show ¬ b=0 by omega]
  ·have hb':b=0:=by simp at g; omega
   simp at h
   subst h hb'
   refine f107_0_J ?_
   unfold f107_0
   refine Goes.tv rfl (Goes.ite rfl (fun h=>nomatch h) fun _=>Goes.tv rfl (Goes.ite rfl (fun h=>nomatch h) fun _=>f107_1_J ?_))
   unfold f107_1
   refine Goes.tv rfl (Goes.ite rfl (fun h=>nomatch h) fun _=>Goes.tv rfl (goes_ret.2 ?_))
   rfl
 ·refine f107_0_J ?_
  unfold f107_0
  simp at h2 h3 h4 h5 h6
  refine Goes.tv rfl (Goes.ite rfl (fun h=>?_) fun h7=>?_)
  ·simp at h
   subst h
   refine Goes.tv rfl (Goes.ite rfl (fun g=>?_) fun g=>?_)
   ·simp at g; refine goes_ret.2 ?_; simp [doW,ansW,g]
   ·simp at g
    refine Goes.tv rfl (Goes.ite rfl (fun h=>nomatch h) fun _=>f107_1_J ?_)
    unfold f107_1
    refine Goes.tv rfl (Goes.ite rfl (fun _=>goes_ret.2 ?_) fun h=>nomatch h)
    simp [doW,ansW,g]
  ·simp at h7
   refine Goes.tv rfl (Goes.ite rfl (fun h=>?_) fun h8=>?_)
   ·simp at h
    subst h
    refine Goes.tv rfl (Goes.ite rfl (fun g=>?_) fun g=>?_)
    ·simp at g; refine goes_ret.2 ?_; simp [doW,ansW,g]
    ·simp at g
     refine f107_1_J ?_
     unfold f107_1
     refine Goes.tv rfl (Goes.ite rfl (fun h=>nomatch h) fun _=>Goes.tv rfl (goes_ret.2 ?_))
     simp [doW,ansW,show ¬ a < b by omega]
   ·simp at h8
    refine f107_1_J ?_
    unfold f107_1
    refine Goes.tv rfl (Goes.ite rfl (fun h=>?_) fun _=>Goes.tv rfl (goes_ret.2 ?_))
    ·simp at h; exact absurd h h7
    ·simp [doW,ansW,h2,h3,h4,h5,h6,h7,h8]
end Go.Ab.G7
end

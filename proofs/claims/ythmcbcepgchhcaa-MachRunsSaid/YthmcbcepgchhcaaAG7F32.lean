import Derived.Test.YthmcbcepgchhcaaAG7F31
section
set_option linter.unusedVariables false
set_option maxRecDepth 10000
namespace Go.Ab
theorem placeP_f {regs n:Int}:placeP false regs n ↔ n=0:=⟨fun h=>h.2 rfl,fun h=>⟨(fun h=>nomatch h),fun _=>h⟩⟩
theorem callP_t {fs:List DFunc} {regs n:Int} {l:List Int}:callP true fs regs n l ↔ argsP fs regs n l:=⟨fun h=>h.1 rfl,fun h=>⟨fun _=>h,fun h=>nomatch h⟩⟩
theorem callP_f {fs:List DFunc} {regs n:Int} {l:List Int}:callP false fs regs n l ↔ n=0∧l=[]:=⟨fun h=>h.2 rfl,fun h=>⟨(fun h=>nomatch h),fun _=>h⟩⟩
theorem goalP_t {bs:List DBlock} {n:Int} {x:Bool}:goalP true bs n x ↔ goalAt bs n x:=⟨fun h=>h.1 rfl,fun h=>⟨fun _=>h,fun h=>nomatch h⟩⟩
theorem goalP_f {bs:List DBlock} {n:Int} {x:Bool}:goalP false bs n x ↔ n=0:=⟨fun h=>h.2 rfl,fun h=>⟨(fun h=>nomatch h),fun _=>h⟩⟩
end Go.Ab
namespace Go.Ab.G7
open Go Go.Ab Go.Proofs
theorem insP_of {fs:List DFunc} {regs n:Int} {x:DIns} {d a b k c:Bool} (hop:x.op=n) (h1:has (usesI n) 1=true) (hd:has (usesI n) 2=d) (ha:has (usesI n) 4=a) (hb:has (usesI n) 8=b) (hk:has (usesI n) 16=k) (hc:has (usesI n) 32=c) :
  insP fs regs x ↔ placeP d regs x.dst∧placeP a regs x.a∧placeP b regs x.b∧(k=true∨x.k=0)∧callP c fs regs x.f x.args:=by
 subst hop hd ha hb hk hc; simp [insP,h1]
theorem endP_of {fs:List DFunc} {regs n:Int} {bs:List DBlock} {x:DEnd} {a d c t e p:Bool} (hop:x.kind=n) (h1:has (usesE n) 1=true) (ha:has (usesE n) 4=a) (hd:has (usesE n) 2=d) (hc:has (usesE n) 32=c) (ht:has (usesE n) 64=t) (he:has (usesE n) 128=e) (hp:has (usesE n) 256=p) :
  endP fs regs bs x ↔ placeP a regs x.a∧placeP d regs x.dst∧callP c fs regs x.f x.args∧goalP t bs x.to false∧goalP e bs x.els false∧goalP p bs x.pad true:=by
 subst hop ha hd hc ht he hp; simp [endP,h1]
theorem r38 {q:Option Bool} {g:TV} {k f:Int} {l:List Int} (hg:RInts q g l):Runs prog 90 [W k,I f,g] (B (tt (k=0∧f=0∧l=[]))):=by
 refine Runs.of (f90_MR _ _ _) ?_
 unfold f90_M
 repeat' (first
  | refine Goes.chk rfl ?_
  | refine Goes.tv rfl ?_
  | refine Goes.tv (RL.len (by assumption)) ?_
  | refine Goes.nat rfl ?_
  | refine Goes.ite rfl (fun _=>?_) (fun _=>?_)
  | refine Goes.call (by assumption) ?_
  | refine Goes.tvs (by assumption) ?_)
 all_goals (apply ret_tt; simp_all)
theorem r36 {q:Option Bool} {y:TV} {bs:List DBlock} {p regs n:Int} (hy:RL q 14 (RBlock q) y bs):Runs prog 88 [.agg [I p,I regs,y],I n] (B (tt (goalAt bs n false))):=by
 refine Runs.of (f88_MR _ _) ?_
 unfold f88_M
 refine Goes.chk rfl (Goes.tv hy.len (Goes.call (r35 _ _) (Goes.chk rfl (Goes.ite rfl (fun h=>?_) fun h=>?_))))
 ·rw [tt_iff] at h
  have hlt:n.toNat < bs.length:=by have:=h.1; have:=h.2; omega
  have hf:bs[n.toNat]? = some bs[n.toNat]:=List.getElem?_eq_getElem hlt
  obtain ⟨e,he,hr⟩:=hy.idxI (k:=.i64) h.1 hf
  obtain ⟨c,i,g,rfl,_⟩:=hr
  refine Goes.tvs he (Goes.chk rfl (Goes.tv rfl ?_))
  apply ret_tt
  simp [goalAt,h.1,hf]
 ·rw [tt_iff0] at h
  refine ret_no ?_
  rintro ⟨h0,f,hf,_⟩
  have:=(List.getElem?_eq_some_iff.1 hf).1
  exact h ⟨h0,by omega⟩
theorem r37 {q q':Option Bool} {x y g:TV} {fs:List DFunc} {p regs n:Int} {l:List Int} (hx:RL q 3 (RFunc q) x fs) (hg:RInts q' g l):Runs prog 89 [.agg [x],.agg [I p,I regs,y],I n,g] (B (tt (argsP fs regs n l))):=by
 refine Runs.of (f89_MR _ _ _ _) ?_
 unfold f89_M
 refine Goes.chk rfl (Goes.chk rfl (Goes.tv hx.len (Goes.call (r35 _ _) (Goes.chk rfl (Goes.tv rfl (Goes.ite rfl (fun h=>?_) fun h=>?_))))))
 ·simp [tt_iff0] at h
  refine ret_no ?_
  rintro ⟨h0,f,hf,_⟩
  have:=(List.getElem?_eq_some_iff.1 hf).1
  exact h ⟨h0,by omega⟩
 ·simp [tt_iff] at h
  have hlt:n.toNat < fs.length:=by have:=h.1; have:=h.2; omega
  have hf:fs[n.toNat]? = some fs[n.toNat]:=List.getElem?_eq_getElem hlt
  obtain ⟨e,he,hr⟩:=hx.idxI (k:=.i64) h.1 hf
  obtain ⟨b,rfl,_⟩:=hr
  refine Goes.tv hg.len (Goes.tvs he (Goes.chk rfl (Goes.tv rfl (Goes.ite rfl (fun h2=>?_) fun h2=>?_))))
  ·refine ret_no ?_
   rintro ⟨_,f,hf',hl,_⟩
   rw [hf] at hf'
   simp at hf' h2
   subst hf'
   exact h2 hl
  ·simp at h2
   refine f89_0_J ?_
   have hp:argsP fs regs n l ↔ ∀ i,i < l.length→∀ a,l[i]? = some a→within a regs:=by
    refine ⟨fun ⟨_,f,hf',hl,ha⟩=>ha,fun ha=>⟨h.1,_,hf,h2,ha⟩⟩
   rw [tt_congr hp]
   refine allLoop' (g:=fun k=>f89_0 g (I k) (I p) (I regs) y) ?_ ?_
   ·unfold f89_0
    refine Goes.tv (RL.len (by assumption)) (Goes.tv rfl (Goes.ite asB_end (fun h=>nomatch h) fun _=>?_))
    exact Goes.ret
   ·intro k hk r h1 h2
    have ha:l[k]? = some l[k]:=List.getElem?_eq_getElem hk
    obtain ⟨e,he,rfl,_⟩:=hg.idx (k:=.i64) ha
    unfold f89_0
    refine Goes.tv (RL.len (by assumption)) (Goes.tv rfl (Goes.ite (asB_lt hk) (fun _=>?_) fun h=>nomatch h))
    refine Goes.tvs he (Goes.chk rfl (Goes.call (r35 _ _) (Goes.chk rfl (Goes.tv rfl (Goes.ite rfl (fun h=>?_) fun h=>?_)))))
    ·rw [h1 (by simp [ha]; simpa [tt_iff0] using h)]; exact Goes.ret
    ·refine Goes.tv (inc hk hg.bnd) (f89_0_J (h2 ?_))
     simp [ha]; simpa [tt_iff] using h
set_option maxHeartbeats 4000000 in
theorem r22 {q q':Option Bool} {x y:TV} {e:List TV} {fs:List DFunc} {p regs:Int} {a:DIns} (hx:RL q 3 (RFunc q) x fs) (he:RIns q' e a):Runs prog 62 [.agg [x],.agg [I p,I regs,y],.agg e] (B (tt (insP fs regs a))):=by
 obtain ⟨g,rfl,hg,_⟩:=he
 obtain ⟨op,dst,a,b,k,f,args⟩:=a
 have h38:∀ {k f:Int},Runs prog 90 [W k,I f,g] (B (tt (k=0∧f=0∧args=[]))):=r38 hg
 have h37:∀ {n:Int},Runs prog 89 [.agg [x],.agg [I p,I regs,y],I n,g] (B (tt (argsP fs regs n args))):=r37 hx hg
 refine Runs.of (f62_MR _ _ _) ?_
 unfold f62_M
 refine Goes.chk rfl (Goes.chk rfl (Goes.chk rfl (Goes.call (r35 _ _) (Goes.chk rfl (Goes.call (r35 _ _) (Goes.chk rfl (Goes.call (r35 _ _) (Goes.chk rfl ?_))))))))
 by_cases h1:op=1
 ·subst h1
  repeat' (first
   | refine Goes.chk rfl ?_
   | refine Goes.tv rfl ?_
   | refine Goes.tv (RL.len (by assumption)) ?_
   | refine Goes.nat rfl ?_
   | refine Goes.ite (v:=true) rfl (fun _=>?_) (fun h=>nomatch h)
   | refine Goes.ite (v:=false) rfl (fun h=>nomatch h) (fun _=>?_)
   | refine Goes.ite rfl (fun _=>?_) (fun _=>?_)
   | refine Goes.call (by assumption) ?_
   | refine Goes.tvs (by assumption) ?_
   | (refine f62_0_J ?_; unfold f62_0) | (refine f62_1_J ?_; unfold f62_1) | refine Goes.call h38 ?_ | refine Goes.call h37 ?_)
  all_goals (apply ret_tt; rw [insP_of (n:=1) (d:=true) (a:=false) (b:=false) (k:=true) (c:=false) rfl (by decide +kernel) (by decide +kernel) (by decide +kernel) (by decide +kernel) (by decide +kernel) (by decide +kernel)]; simp_all [placeP_t,placeP_f,callP_f,tt_iff,tt_iff0])
 by_cases h2:op=2
 ·subst h2
  repeat' (first
   | refine Goes.chk rfl ?_
   | refine Goes.tv rfl ?_
   | refine Goes.tv (RL.len (by assumption)) ?_
   | refine Goes.nat rfl ?_
   | refine Goes.ite (v:=true) rfl (fun _=>?_) (fun h=>nomatch h)
   | refine Goes.ite (v:=false) rfl (fun h=>nomatch h) (fun _=>?_)
   | refine Goes.ite rfl (fun _=>?_) (fun _=>?_)
   | refine Goes.call (by assumption) ?_
   | refine Goes.tvs (by assumption) ?_
   | (refine f62_0_J ?_; unfold f62_0) | (refine f62_1_J ?_; unfold f62_1) | refine Goes.call h38 ?_ | refine Goes.call h37 ?_)
  all_goals (apply ret_tt; rw [insP_of (n:=2) (d:=true) (a:=true) (b:=false) (k:=false) (c:=false) rfl (by decide +kernel) (by decide +kernel) (by decide +kernel) (by decide +kernel) (by decide +kernel) (by decide +kernel)]; simp_all [placeP_t,placeP_f,callP_f,tt_iff,tt_iff0])
 by_cases h9:op=9
 ·subst h9
  repeat' (first
   | refine Goes.chk rfl ?_
   | refine Goes.tv rfl ?_
   | refine Goes.tv (RL.len (by assumption)) ?_
   | refine Goes.nat rfl ?_
   | refine Goes.ite (v:=true) rfl (fun _=>?_) (fun h=>nomatch h)
   | refine Goes.ite (v:=false) rfl (fun h=>nomatch h) (fun _=>?_)
   | refine Goes.ite rfl (fun _=>?_) (fun _=>?_)
   | refine Goes.call (by assumption) ?_
   | refine Goes.tvs (by assumption) ?_
   | (refine f62_0_J ?_; unfold f62_0) | (refine f62_1_J ?_; unfold f62_1) | refine Goes.call h38 ?_ | refine Goes.call h37 ?_)
  all_goals (apply ret_tt; rw [insP_of (n:=9) (d:=true) (a:=true) (b:=false) (k:=false) (c:=false) rfl (by decide +kernel) (by decide +kernel) (by decide +kernel) (by decide +kernel) (by decide +kernel) (by decide +kernel)]; simp_all [placeP_t,placeP_f,callP_f,tt_iff,tt_iff0])
 by_cases h3:op=3
 ·subst h3
  repeat' (first
   | refine Goes.chk rfl ?_
   | refine Goes.tv rfl ?_
   | refine Goes.tv (RL.len (by assumption)) ?_
   | refine Goes.nat rfl ?_
   | refine Goes.ite (v:=true) rfl (fun _=>?_) (fun h=>nomatch h)
   | refine Goes.ite (v:=false) rfl (fun h=>nomatch h) (fun _=>?_)
   | refine Goes.ite rfl (fun _=>?_) (fun _=>?_)
   | refine Goes.call (by assumption) ?_
   | refine Goes.tvs (by assumption) ?_
   | (refine f62_0_J ?_; unfold f62_0) | (refine f62_1_J ?_; unfold f62_1) | refine Goes.call h38 ?_ | refine Goes.call h37 ?_)
  all_goals (apply ret_tt; rw [insP_of (n:=3) (d:=true) (a:=true) (b:=true) (k:=false) (c:=false) rfl (by decide +kernel) (by decide +kernel) (by decide +kernel) (by decide +kernel) (by decide +kernel) (by decide +kernel)]; simp_all [placeP_t,callP_f,tt_iff,tt_iff0])
 by_cases h4:op=4
 ·subst h4
  repeat' (first
   | refine Goes.chk rfl ?_
   | refine Goes.tv rfl ?_
   | refine Goes.tv (RL.len (by assumption)) ?_
   | refine Goes.nat rfl ?_
   | refine Goes.ite (v:=true) rfl (fun _=>?_) (fun h=>nomatch h)
   | refine Goes.ite (v:=false) rfl (fun h=>nomatch h) (fun _=>?_)
   | refine Goes.ite rfl (fun _=>?_) (fun _=>?_)
   | refine Goes.call (by assumption) ?_
   | refine Goes.tvs (by assumption) ?_
   | (refine f62_0_J ?_; unfold f62_0) | (refine f62_1_J ?_; unfold f62_1) | refine Goes.call h38 ?_ | refine Goes.call h37 ?_)
  all_goals (apply ret_tt; rw [insP_of (n:=4) (d:=true) (a:=true) (b:=true) (k:=false) (c:=false) rfl (by decide +kernel) (by decide +kernel) (by decide +kernel) (by decide +kernel) (by decide +kernel) (by decide +kernel)]; simp_all [placeP_t,callP_f,tt_iff,tt_iff0])
 by_cases h5:op=5
 ·subst h5
  repeat' (first
   | refine Goes.chk rfl ?_
   | refine Goes.tv rfl ?_
   | refine Goes.tv (RL.len (by assumption)) ?_
   | refine Goes.nat rfl ?_
   | refine Goes.ite (v:=true) rfl (fun _=>?_) (fun h=>nomatch h)
   | refine Goes.ite (v:=false) rfl (fun h=>nomatch h) (fun _=>?_)
   | refine Goes.ite rfl (fun _=>?_) (fun _=>?_)
   | refine Goes.call (by assumption) ?_
   | refine Goes.tvs (by assumption) ?_
   | (refine f62_0_J ?_; unfold f62_0) | (refine f62_1_J ?_; unfold f62_1) | refine Goes.call h38 ?_ | refine Goes.call h37 ?_)
  all_goals (apply ret_tt; rw [insP_of (n:=5) (d:=true) (a:=true) (b:=true) (k:=false) (c:=false) rfl (by decide +kernel) (by decide +kernel) (by decide +kernel) (by decide +kernel) (by decide +kernel) (by decide +kernel)]; simp_all [placeP_t,callP_f,tt_iff,tt_iff0])
 by_cases h6:op=6
 ·subst h6
  repeat' (first
   | refine Goes.chk rfl ?_
   | refine Goes.tv rfl ?_
   | refine Goes.tv (RL.len (by assumption)) ?_
   | refine Goes.nat rfl ?_
   | refine Goes.ite (v:=true) rfl (fun _=>?_) (fun h=>nomatch h)
   | refine Goes.ite (v:=false) rfl (fun h=>nomatch h) (fun _=>?_)
   | refine Goes.ite rfl (fun _=>?_) (fun _=>?_)
   | refine Goes.call (by assumption) ?_
   | refine Goes.tvs (by assumption) ?_
   | (refine f62_0_J ?_; unfold f62_0) | (refine f62_1_J ?_; unfold f62_1) | refine Goes.call h38 ?_ | refine Goes.call h37 ?_)
  all_goals (apply ret_tt; rw [insP_of (n:=6) (d:=true) (a:=true) (b:=true) (k:=false) (c:=false) rfl (by decide +kernel) (by decide +kernel) (by decide +kernel) (by decide +kernel) (by decide +kernel) (by decide +kernel)]; simp_all [placeP_t,callP_f,tt_iff,tt_iff0])
 by_cases h7:op=7
 ·subst h7
  repeat' (first
   | refine Goes.chk rfl ?_
   | refine Goes.tv rfl ?_
   | refine Goes.tv (RL.len (by assumption)) ?_
   | refine Goes.nat rfl ?_
   | refine Goes.ite (v:=true) rfl (fun _=>?_) (fun h=>nomatch h)
   | refine Goes.ite (v:=false) rfl (fun h=>nomatch h) (fun _=>?_)
   | refine Goes.ite rfl (fun _=>?_) (fun _=>?_)
   | refine Goes.call (by assumption) ?_
   | refine Goes.tvs (by assumption) ?_
   | (refine f62_0_J ?_; unfold f62_0) | (refine f62_1_J ?_; unfold f62_1) | refine Goes.call h38 ?_ | refine Goes.call h37 ?_)
  all_goals (apply ret_tt; rw [insP_of (n:=7) (d:=true) (a:=true) (b:=true) (k:=false) (c:=false) rfl (by decide +kernel) (by decide +kernel) (by decide +kernel) (by decide +kernel) (by decide +kernel) (by decide +kernel)]; simp_all [placeP_t,callP_f,tt_iff,tt_iff0])
 by_cases h8:op=8
 ·subst h8
  repeat' (first
   | refine Goes.chk rfl ?_
   | refine Goes.tv rfl ?_
   | refine Goes.tv (RL.len (by assumption)) ?_
   | refine Goes.nat rfl ?_
   | refine Goes.ite (v:=true) rfl (fun _=>?_) (fun h=>nomatch h)
   | refine Goes.ite (v:=false) rfl (fun h=>nomatch h) (fun _=>?_)
   | refine Goes.ite rfl (fun _=>?_) (fun _=>?_)
   | refine Goes.call (by assumption) ?_
   | refine Goes.tvs (by assumption) ?_
   | (refine f62_0_J ?_; unfold f62_0) | (refine f62_1_J ?_; unfold f62_1) | refine Goes.call h38 ?_ | refine Goes.call h37 ?_)
  all_goals (apply ret_tt; rw [insP_of (n:=8) (d:=true) (a:=true) (b:=true) (k:=false) (c:=false) rfl (by decide +kernel) (by decide +kernel) (by decide +kernel) (by decide +kernel) (by decide +kernel) (by decide +kernel)]; simp_all [placeP_t,callP_f,tt_iff,tt_iff0])
 by_cases h10:op=10
 ·subst h10
  repeat' (first
   | refine Goes.chk rfl ?_
   | refine Goes.tv rfl ?_
   | refine Goes.tv (RL.len (by assumption)) ?_
   | refine Goes.nat rfl ?_
   | refine Goes.ite (v:=true) rfl (fun _=>?_) (fun h=>nomatch h)
   | refine Goes.ite (v:=false) rfl (fun h=>nomatch h) (fun _=>?_)
   | refine Goes.ite rfl (fun _=>?_) (fun _=>?_)
   | refine Goes.call (by assumption) ?_
   | refine Goes.tvs (by assumption) ?_
   | (refine f62_0_J ?_; unfold f62_0) | (refine f62_1_J ?_; unfold f62_1) | refine Goes.call h38 ?_ | refine Goes.call h37 ?_)
  all_goals (apply ret_tt; rw [insP_of (n:=10) (d:=false) (a:=true) (b:=true) (k:=false) (c:=false) rfl (by decide +kernel) (by decide +kernel) (by decide +kernel) (by decide +kernel) (by decide +kernel) (by decide +kernel)]; simp_all [placeP_t,placeP_f,callP_f,tt_iff,tt_iff0])
 by_cases h11:op=11
 ·subst h11
  repeat' (first
   | refine Goes.chk rfl ?_
   | refine Goes.tv rfl ?_
   | refine Goes.tv (RL.len (by assumption)) ?_
   | refine Goes.nat rfl ?_
   | refine Goes.ite (v:=true) rfl (fun _=>?_) (fun h=>nomatch h)
   | refine Goes.ite (v:=false) rfl (fun h=>nomatch h) (fun _=>?_)
   | refine Goes.ite rfl (fun _=>?_) (fun _=>?_)
   | refine Goes.call (by assumption) ?_
   | refine Goes.tvs (by assumption) ?_
   | (refine f62_0_J ?_; unfold f62_0) | (refine f62_1_J ?_; unfold f62_1) | refine Goes.call h38 ?_ | refine Goes.call h37 ?_)
  all_goals (apply ret_tt; rw [insP_of (n:=11) (d:=true) (a:=false) (b:=false) (k:=false) (c:=true) rfl (by decide +kernel) (by decide +kernel) (by decide +kernel) (by decide +kernel) (by decide +kernel) (by decide +kernel)]; simp_all [placeP_t,placeP_f,callP_t,tt_iff,tt_iff0])
 by_cases h12:op=12
 ·subst h12
  repeat' (first
   | refine Goes.chk rfl ?_
   | refine Goes.tv rfl ?_
   | refine Goes.tv (RL.len (by assumption)) ?_
   | refine Goes.nat rfl ?_
   | refine Goes.ite (v:=true) rfl (fun _=>?_) (fun h=>nomatch h)
   | refine Goes.ite (v:=false) rfl (fun h=>nomatch h) (fun _=>?_)
   | refine Goes.ite rfl (fun _=>?_) (fun _=>?_)
   | refine Goes.call (by assumption) ?_
   | refine Goes.tvs (by assumption) ?_
   | (refine f62_0_J ?_; unfold f62_0) | (refine f62_1_J ?_; unfold f62_1) | refine Goes.call h38 ?_ | refine Goes.call h37 ?_)
  all_goals (apply ret_tt; rw [insP_of (n:=12) (d:=false) (a:=true) (b:=false) (k:=false) (c:=false) rfl (by decide +kernel) (by decide +kernel) (by decide +kernel) (by decide +kernel) (by decide +kernel) (by decide +kernel)]; simp_all [placeP_t,placeP_f,callP_f,tt_iff,tt_iff0])
 by_cases h13:op=13
 ·subst h13
  repeat' (first
   | refine Goes.chk rfl ?_
   | refine Goes.tv rfl ?_
   | refine Goes.tv (RL.len (by assumption)) ?_
   | refine Goes.nat rfl ?_
   | refine Goes.ite (v:=true) rfl (fun _=>?_) (fun h=>nomatch h)
   | refine Goes.ite (v:=false) rfl (fun h=>nomatch h) (fun _=>?_)
   | refine Goes.ite rfl (fun _=>?_) (fun _=>?_)
   | refine Goes.call (by assumption) ?_
   | refine Goes.tvs (by assumption) ?_
   | (refine f62_0_J ?_; unfold f62_0) | (refine f62_1_J ?_; unfold f62_1) | refine Goes.call h38 ?_ | refine Goes.call h37 ?_)
  all_goals (apply ret_tt; rw [insP_of (n:=13) (d:=true) (a:=false) (b:=false) (k:=false) (c:=false) rfl (by decide +kernel) (by decide +kernel) (by decide +kernel) (by decide +kernel) (by decide +kernel) (by decide +kernel)]; simp_all [placeP_t,placeP_f,callP_f,tt_iff,tt_iff0])
 repeat' (first
  | refine Goes.chk rfl ?_
  | refine Goes.tv rfl ?_
  | refine Goes.tv (RL.len (by assumption)) ?_
  | refine Goes.nat rfl ?_
  | refine Goes.ite (v:=true) rfl (fun _=>?_) (fun h=>nomatch h)
  | refine Goes.ite (v:=false) rfl (fun h=>nomatch h) (fun _=>?_)
  | refine Goes.ite rfl (fun _=>?_) (fun _=>?_)
  | refine Goes.call (by assumption) ?_
  | refine Goes.tvs (by assumption) ?_
  | (refine f62_0_J ?_; unfold f62_0) | (refine f62_1_J ?_; unfold f62_1) | refine Goes.call h38 ?_ | refine Goes.call h37 ?_)
 all_goals first
  | (exfalso; simp_all; done)
  | (apply ret_no; intro h; have h:=h.1; simp [usesI, *] at h; exact absurd h (by decide))
set_option maxHeartbeats 4000000 in
theorem r21 {q q' q2:Option Bool} {x y:TV} {e:List TV} {fs:List DFunc} {bs:List DBlock} {p regs:Int} {a:DEnd} (hx:RL q 3 (RFunc q) x fs) (hy:RL q2 14 (RBlock q2) y bs) (he:REnd q' e a):Runs prog 61 [.agg [x],.agg [I p,I regs,y],.agg e] (B (tt (endP fs regs bs a))):=by
 obtain ⟨g,rfl,hg,_⟩:=he
 obtain ⟨kind,a,dst,f,args,to,els,pad⟩:=a
 have h36:∀ {n:Int},Runs prog 88 [.agg [I p,I regs,y],I n] (B (tt (goalAt bs n false))):=r36 hy
 have h37:∀ {n:Int},Runs prog 89 [.agg [x],.agg [I p,I regs,y],I n,g] (B (tt (argsP fs regs n args))):=r37 hx hg
 have last:∀ (f:FuncId) (r:TV) (k:List TV→Prg TV),tt (within pad bs.length)=true→(∀ b e,0≤pad→bs[pad.toNat]? = some b→RBlock q2 e b→pidx 14 y (I pad)=some e→Goes prog f (k e) r)→Goes prog f (.tvs (pidx 14 y (I pad)) k) r:=by
  intro f r k h hk
  rw [tt_iff] at h
  have hlt:pad.toNat < bs.length:=by have:=h.1; have:=h.2; omega
  have hf:bs[pad.toNat]? = some bs[pad.toNat]:=List.getElem?_eq_getElem hlt
  obtain ⟨e,he,hr⟩:=hy.idxI (k:=.i64) h.1 hf
  exact Goes.tvs he (hk _ _ h.1 hf hr he)
 refine Runs.of (f61_MR _ _ _) ?_
 unfold f61_M
 by_cases h1:kind=1
 ·subst h1
  repeat' (first
   | refine Goes.chk rfl ?_
   | refine Goes.tv rfl ?_
   | refine Goes.tv (RL.len (by assumption)) ?_
   | refine Goes.nat rfl ?_
   | refine Goes.ite (v:=true) rfl (fun _=>?_) (fun h=>nomatch h)
   | refine Goes.ite (v:=false) rfl (fun h=>nomatch h) (fun _=>?_)
   | refine Goes.ite rfl (fun _=>?_) (fun _=>?_)
   | refine Goes.call (by assumption) ?_
   | refine Goes.tvs (by assumption) ?_
   | (refine f61_0_J ?_; unfold f61_0) | (refine f61_1_J ?_; unfold f61_1) | refine Goes.call h36 ?_ | refine Goes.call h37 ?_ | refine Goes.call (r35 _ _) ?_)
  all_goals first
   | (apply ret_tt; rw [endP_of (n:=1) (a:=true) (d:=false) (c:=false) (t:=false) (e:=false) (p:=false) rfl (by decide +kernel) (by decide +kernel) (by decide +kernel) (by decide +kernel) (by decide +kernel) (by decide +kernel) (by decide +kernel)]; simp_all [placeP_t,placeP_f,callP_f,goalP_f,tt_iff,tt_iff0]; done)
   | (refine last _ _ _ (by assumption) fun b e h0 hb hr he=>?_; obtain ⟨_,_,_,rfl,_⟩:=hr; refine Goes.chk rfl ?_; apply ret_tt; rw [endP_of (n:=1) (a:=true) (d:=false) (c:=false) (t:=false) (e:=false) (p:=false) rfl (by decide +kernel) (by decide +kernel) (by decide +kernel) (by decide +kernel) (by decide +kernel) (by decide +kernel) (by decide +kernel)]; have hgl:goalAt bs pad true ↔ b.landing=true:=⟨fun ⟨_,b',hb',hl⟩=>(by rw [hb] at hb'; cases hb'; exact hl),fun h=>⟨h0,b,hb,h⟩⟩; simp only [goalP_t,hgl,placeP_t,placeP_f,callP_t,callP_f,goalP_f]; clear hgl; simp_all [tt_iff,tt_iff0]; done)
   | (apply ret_no; rw [endP_of (n:=1) (a:=true) (d:=false) (c:=false) (t:=false) (e:=false) (p:=false) rfl (by decide +kernel) (by decide +kernel) (by decide +kernel) (by decide +kernel) (by decide +kernel) (by decide +kernel) (by decide +kernel)]; rintro ⟨_,_,_,_,_,hp⟩; rw [goalP_t] at hp; obtain ⟨h0,b,hb,_⟩:=hp; have h9:=(List.getElem?_eq_some_iff.1 hb).1; have h10:tt (within pad bs.length)=false:=(by assumption); rw [tt_iff0] at h10; have h9:pad.toNat < bs.length:=h9; have h0:0≤pad:=h0; exact h10 ⟨h0,by omega⟩)
 by_cases h5:kind=5
 ·subst h5
  repeat' (first
   | refine Goes.chk rfl ?_
   | refine Goes.tv rfl ?_
   | refine Goes.tv (RL.len (by assumption)) ?_
   | refine Goes.nat rfl ?_
   | refine Goes.ite (v:=true) rfl (fun _=>?_) (fun h=>nomatch h)
   | refine Goes.ite (v:=false) rfl (fun h=>nomatch h) (fun _=>?_)
   | refine Goes.ite rfl (fun _=>?_) (fun _=>?_)
   | refine Goes.call (by assumption) ?_
   | refine Goes.tvs (by assumption) ?_
   | (refine f61_0_J ?_; unfold f61_0) | (refine f61_1_J ?_; unfold f61_1) | refine Goes.call h36 ?_ | refine Goes.call h37 ?_ | refine Goes.call (r35 _ _) ?_)
  all_goals first
   | (apply ret_tt; rw [endP_of (n:=5) (a:=true) (d:=false) (c:=false) (t:=false) (e:=false) (p:=false) rfl (by decide +kernel) (by decide +kernel) (by decide +kernel) (by decide +kernel) (by decide +kernel) (by decide +kernel) (by decide +kernel)]; simp_all [placeP_t,placeP_f,callP_f,goalP_f,tt_iff,tt_iff0]; done)
   | (refine last _ _ _ (by assumption) fun b e h0 hb hr he=>?_; obtain ⟨_,_,_,rfl,_⟩:=hr; refine Goes.chk rfl ?_; apply ret_tt; rw [endP_of (n:=5) (a:=true) (d:=false) (c:=false) (t:=false) (e:=false) (p:=false) rfl (by decide +kernel) (by decide +kernel) (by decide +kernel) (by decide +kernel) (by decide +kernel) (by decide +kernel) (by decide +kernel)]; have hgl:goalAt bs pad true ↔ b.landing=true:=⟨fun ⟨_,b',hb',hl⟩=>(by rw [hb] at hb'; cases hb'; exact hl),fun h=>⟨h0,b,hb,h⟩⟩; simp only [goalP_t,hgl,placeP_t,placeP_f,callP_t,callP_f,goalP_f]; clear hgl; simp_all [tt_iff,tt_iff0]; done)
   | (apply ret_no; rw [endP_of (n:=5) (a:=true) (d:=false) (c:=false) (t:=false) (e:=false) (p:=false) rfl (by decide +kernel) (by decide +kernel) (by decide +kernel) (by decide +kernel) (by decide +kernel) (by decide +kernel) (by decide +kernel)]; rintro ⟨_,_,_,_,_,hp⟩; rw [goalP_t] at hp; obtain ⟨h0,b,hb,_⟩:=hp; have h9:=(List.getElem?_eq_some_iff.1 hb).1; have h10:tt (within pad bs.length)=false:=(by assumption); rw [tt_iff0] at h10; have h9:pad.toNat < bs.length:=h9; have h0:0≤pad:=h0; exact h10 ⟨h0,by omega⟩)
 by_cases h2:kind=2
 ·subst h2
  repeat' (first
   | refine Goes.chk rfl ?_
   | refine Goes.tv rfl ?_
   | refine Goes.tv (RL.len (by assumption)) ?_
   | refine Goes.nat rfl ?_
   | refine Goes.ite (v:=true) rfl (fun _=>?_) (fun h=>nomatch h)
   | refine Goes.ite (v:=false) rfl (fun h=>nomatch h) (fun _=>?_)
   | refine Goes.ite rfl (fun _=>?_) (fun _=>?_)
   | refine Goes.call (by assumption) ?_
   | refine Goes.tvs (by assumption) ?_
   | (refine f61_0_J ?_; unfold f61_0) | (refine f61_1_J ?_; unfold f61_1) | refine Goes.call h36 ?_ | refine Goes.call h37 ?_ | refine Goes.call (r35 _ _) ?_)
  all_goals first
   | (apply ret_tt; rw [endP_of (n:=2) (a:=false) (d:=false) (c:=false) (t:=true) (e:=false) (p:=false) rfl (by decide +kernel) (by decide +kernel) (by decide +kernel) (by decide +kernel) (by decide +kernel) (by decide +kernel) (by decide +kernel)]; simp_all [placeP_f,callP_f,goalP_t,goalP_f,tt_iff,tt_iff0]; done)
   | (refine last _ _ _ (by assumption) fun b e h0 hb hr he=>?_; obtain ⟨_,_,_,rfl,_⟩:=hr; refine Goes.chk rfl ?_; apply ret_tt; rw [endP_of (n:=2) (a:=false) (d:=false) (c:=false) (t:=true) (e:=false) (p:=false) rfl (by decide +kernel) (by decide +kernel) (by decide +kernel) (by decide +kernel) (by decide +kernel) (by decide +kernel) (by decide +kernel)]; have hgl:goalAt bs pad true ↔ b.landing=true:=⟨fun ⟨_,b',hb',hl⟩=>(by rw [hb] at hb'; cases hb'; exact hl),fun h=>⟨h0,b,hb,h⟩⟩; simp only [goalP_t,hgl,placeP_t,placeP_f,callP_t,callP_f,goalP_f]; clear hgl; simp_all [tt_iff,tt_iff0]; done)
   | (apply ret_no; rw [endP_of (n:=2) (a:=false) (d:=false) (c:=false) (t:=true) (e:=false) (p:=false) rfl (by decide +kernel) (by decide +kernel) (by decide +kernel) (by decide +kernel) (by decide +kernel) (by decide +kernel) (by decide +kernel)]; rintro ⟨_,_,_,_,_,hp⟩; rw [goalP_t] at hp; obtain ⟨h0,b,hb,_⟩:=hp; have h9:=(List.getElem?_eq_some_iff.1 hb).1; have h10:tt (within pad bs.length)=false:=(by assumption); rw [tt_iff0] at h10; have h9:pad.toNat < bs.length:=h9; have h0:0≤pad:=h0; exact h10 ⟨h0,by omega⟩)
 by_cases h3:kind=3
 ·subst h3
  repeat' (first
   | refine Goes.chk rfl ?_
   | refine Goes.tv rfl ?_
   | refine Goes.tv (RL.len (by assumption)) ?_
   | refine Goes.nat rfl ?_
   | refine Goes.ite (v:=true) rfl (fun _=>?_) (fun h=>nomatch h)
   | refine Goes.ite (v:=false) rfl (fun h=>nomatch h) (fun _=>?_)
   | refine Goes.ite rfl (fun _=>?_) (fun _=>?_)
   | refine Goes.call (by assumption) ?_
   | refine Goes.tvs (by assumption) ?_
   | (refine f61_0_J ?_; unfold f61_0) | (refine f61_1_J ?_; unfold f61_1) | refine Goes.call h36 ?_ | refine Goes.call h37 ?_ | refine Goes.call (r35 _ _) ?_)
  all_goals first
   | (apply ret_tt; rw [endP_of (n:=3) (a:=true) (d:=false) (c:=false) (t:=true) (e:=true) (p:=false) rfl (by decide +kernel) (by decide +kernel) (by decide +kernel) (by decide +kernel) (by decide +kernel) (by decide +kernel) (by decide +kernel)]; simp_all [placeP_t,placeP_f,callP_f,goalP_t,goalP_f,tt_iff,tt_iff0]; done)
   | (refine last _ _ _ (by assumption) fun b e h0 hb hr he=>?_; obtain ⟨_,_,_,rfl,_⟩:=hr; refine Goes.chk rfl ?_; apply ret_tt; rw [endP_of (n:=3) (a:=true) (d:=false) (c:=false) (t:=true) (e:=true) (p:=false) rfl (by decide +kernel) (by decide +kernel) (by decide +kernel) (by decide +kernel) (by decide +kernel) (by decide +kernel) (by decide +kernel)]; have hgl:goalAt bs pad true ↔ b.landing=true:=⟨fun ⟨_,b',hb',hl⟩=>(by rw [hb] at hb'; cases hb'; exact hl),fun h=>⟨h0,b,hb,h⟩⟩; simp only [goalP_t,hgl,placeP_t,placeP_f,callP_t,callP_f,goalP_f]; clear hgl; simp_all [tt_iff,tt_iff0]; done)
   | (apply ret_no; rw [endP_of (n:=3) (a:=true) (d:=false) (c:=false) (t:=true) (e:=true) (p:=false) rfl (by decide +kernel) (by decide +kernel) (by decide +kernel) (by decide +kernel) (by decide +kernel) (by decide +kernel) (by decide +kernel)]; rintro ⟨_,_,_,_,_,hp⟩; rw [goalP_t] at hp; obtain ⟨h0,b,hb,_⟩:=hp; have h9:=(List.getElem?_eq_some_iff.1 hb).1; have h10:tt (within pad bs.length)=false:=(by assumption); rw [tt_iff0] at h10; have h9:pad.toNat < bs.length:=h9; have h0:0≤pad:=h0; exact h10 ⟨h0,by omega⟩)
 by_cases h4:kind=4
 ·subst h4
  repeat' (first
   | refine Goes.chk rfl ?_
   | refine Goes.tv rfl ?_
   | refine Goes.tv (RL.len (by assumption)) ?_
   | refine Goes.nat rfl ?_
   | refine Goes.ite (v:=true) rfl (fun _=>?_) (fun h=>nomatch h)
   | refine Goes.ite (v:=false) rfl (fun h=>nomatch h) (fun _=>?_)
   | refine Goes.ite rfl (fun _=>?_) (fun _=>?_)
   | refine Goes.call (by assumption) ?_
   | refine Goes.tvs (by assumption) ?_
   | (refine f61_0_J ?_; unfold f61_0) | (refine f61_1_J ?_; unfold f61_1) | refine Goes.call h36 ?_ | refine Goes.call h37 ?_ | refine Goes.call (r35 _ _) ?_)
  all_goals first
   | (apply ret_tt; rw [endP_of (n:=4) (a:=false) (d:=true) (c:=true) (t:=true) (e:=false) (p:=true) rfl (by decide +kernel) (by decide +kernel) (by decide +kernel) (by decide +kernel) (by decide +kernel) (by decide +kernel) (by decide +kernel)]; simp_all [placeP_t,placeP_f,callP_t,goalP_t,goalP_f,tt_iff,tt_iff0]; done)
   | (refine last _ _ _ (by assumption) fun b e h0 hb hr he=>?_; obtain ⟨_,_,_,rfl,_⟩:=hr; refine Goes.chk rfl ?_; apply ret_tt; rw [endP_of (n:=4) (a:=false) (d:=true) (c:=true) (t:=true) (e:=false) (p:=true) rfl (by decide +kernel) (by decide +kernel) (by decide +kernel) (by decide +kernel) (by decide +kernel) (by decide +kernel) (by decide +kernel)]; have hgl:goalAt bs pad true ↔ b.landing=true:=⟨fun ⟨_,b',hb',hl⟩=>(by rw [hb] at hb'; cases hb'; exact hl),fun h=>⟨h0,b,hb,h⟩⟩; simp only [goalP_t,hgl,placeP_t,placeP_f,callP_t,goalP_f]; clear hgl; simp_all [tt_iff]; done)
   | (apply ret_no; rw [endP_of (n:=4) (a:=false) (d:=true) (c:=true) (t:=true) (e:=false) (p:=true) rfl (by decide +kernel) (by decide +kernel) (by decide +kernel) (by decide +kernel) (by decide +kernel) (by decide +kernel) (by decide +kernel)]; rintro ⟨_,_,_,_,_,hp⟩; rw [goalP_t] at hp; obtain ⟨h0,b,hb,_⟩:=hp; have h9:=(List.getElem?_eq_some_iff.1 hb).1; have h10:tt (within pad bs.length)=false:=(by assumption); rw [tt_iff0] at h10; have h9:pad.toNat < bs.length:=h9; have h0:0≤pad:=h0; exact h10 ⟨h0,by omega⟩)
 by_cases h6:kind=6
 ·subst h6
  repeat' (first
   | refine Goes.chk rfl ?_
   | refine Goes.tv rfl ?_
   | refine Goes.tv (RL.len (by assumption)) ?_
   | refine Goes.nat rfl ?_
   | refine Goes.ite (v:=true) rfl (fun _=>?_) (fun h=>nomatch h)
   | refine Goes.ite (v:=false) rfl (fun h=>nomatch h) (fun _=>?_)
   | refine Goes.ite rfl (fun _=>?_) (fun _=>?_)
   | refine Goes.call (by assumption) ?_
   | refine Goes.tvs (by assumption) ?_
   | (refine f61_0_J ?_; unfold f61_0) | (refine f61_1_J ?_; unfold f61_1) | refine Goes.call h36 ?_ | refine Goes.call h37 ?_ | refine Goes.call (r35 _ _) ?_)
  all_goals first
   | (apply ret_tt; rw [endP_of (n:=6) (a:=false) (d:=false) (c:=false) (t:=false) (e:=false) (p:=false) rfl (by decide +kernel) (by decide +kernel) (by decide +kernel) (by decide +kernel) (by decide +kernel) (by decide +kernel) (by decide +kernel)]; simp_all [placeP_f,callP_f,goalP_f,tt_iff]; done)
   | (refine last _ _ _ (by assumption) fun b e h0 hb hr he=>?_; obtain ⟨_,_,_,rfl,_⟩:=hr; refine Goes.chk rfl ?_; apply ret_tt; rw [endP_of (n:=6) (a:=false) (d:=false) (c:=false) (t:=false) (e:=false) (p:=false) rfl (by decide +kernel) (by decide +kernel) (by decide +kernel) (by decide +kernel) (by decide +kernel) (by decide +kernel) (by decide +kernel)]; have hgl:goalAt bs pad true ↔ b.landing=true:=⟨fun ⟨_,b',hb',hl⟩=>(by rw [hb] at hb'; cases hb'; exact hl),fun h=>⟨h0,b,hb,h⟩⟩; simp only [goalP_t,hgl,placeP_t,placeP_f,callP_t,callP_f,goalP_f]; clear hgl; simp_all [tt_iff,tt_iff0]; done)
   | (apply ret_no; rw [endP_of (n:=6) (a:=false) (d:=false) (c:=false) (t:=false) (e:=false) (p:=false) rfl (by decide +kernel) (by decide +kernel) (by decide +kernel) (by decide +kernel) (by decide +kernel) (by decide +kernel) (by decide +kernel)]; rintro ⟨_,_,_,_,_,hp⟩; rw [goalP_t] at hp; obtain ⟨h0,b,hb,_⟩:=hp; have h9:=(List.getElem?_eq_some_iff.1 hb).1; have h10:tt (within pad bs.length)=false:=(by assumption); rw [tt_iff0] at h10; have h9:pad.toNat < bs.length:=h9; have h0:0≤pad:=h0; exact h10 ⟨h0,by omega⟩)
 repeat' (first
  | refine Goes.chk rfl ?_
  | refine Goes.tv rfl ?_
  | refine Goes.tv (RL.len (by assumption)) ?_
  | refine Goes.nat rfl ?_
  | refine Goes.ite (v:=true) rfl (fun _=>?_) (fun h=>nomatch h)
  | refine Goes.ite (v:=false) rfl (fun h=>nomatch h) (fun _=>?_)
  | refine Goes.ite rfl (fun _=>?_) (fun _=>?_)
  | refine Goes.call (by assumption) ?_
  | refine Goes.tvs (by assumption) ?_
  | (refine f61_0_J ?_; unfold f61_0) | (refine f61_1_J ?_; unfold f61_1) | refine Goes.call h36 ?_ | refine Goes.call h37 ?_ | refine Goes.call (r35 _ _) ?_)
 all_goals first
  | (exfalso; simp_all; done)
  | (apply ret_no; intro h; have h:=h.1; simp [usesE, *] at h; exact absurd h (by decide))
theorem mem_take_iff {l:List Int} {i:Nat} {a:Int}:a ∈ l.take i ↔ ∃ k,k < i∧l[k]? = some a:=by
 rw [List.mem_iff_getElem?]
 constructor
 ·rintro ⟨k,hk⟩
  rw [List.getElem?_take] at hk
  split at hk
  ·exact ⟨k,by assumption,hk⟩
  ·cases hk
 ·rintro ⟨k,h1,h2⟩
  exact ⟨k,by rw [List.getElem?_take,if_pos h1]; exact h2⟩
theorem r20 {q q':Option Bool} {y:TV} {e:List TV} {p regs:Int} {b:DBlock} (he:RBlock q' e b):Runs prog 60 [.agg [I p,I regs,y],.agg e] (B (tt (padP b.landing regs b.pad))):=by
 obtain ⟨c,i,g,rfl,hc,hd,hi,hg,ho⟩:=he
 refine Runs.of (f60_MR _ _) ?_
 unfold f60_M
 cases hl:b.landing
 ·repeat' (first
   | refine Goes.chk rfl ?_
   | refine Goes.tv rfl ?_
   | refine Goes.tv (RL.len (by assumption)) ?_
   | refine Goes.nat rfl ?_
   | refine Goes.ite (v:=true) rfl (fun _=>?_) (fun h=>nomatch h)
   | refine Goes.ite (v:=false) rfl (fun h=>nomatch h) (fun _=>?_)
   | refine Goes.ite rfl (fun _=>?_) (fun _=>?_)
   | refine Goes.call (by assumption) ?_
   | refine Goes.tvs (by assumption) ?_
   )
  all_goals (apply ret_tt; simp_all [padP])
 ·refine Goes.chk rfl (Goes.chk rfl (Goes.tv rfl (Goes.ite rfl (fun h=>nomatch h) fun _=>?_)))
  refine f60_0_J ?_
  rw [show tt (padP true regs b.pad)=tt (within b.pad.dst regs∧b.pad.catches.length≤8∧unlikeP b.pad.catches∧(b.pad.catches≠[]∨b.pad.all=true∨b.pad.cleanup=true)) from tt_congr ⟨fun h=>h.2 rfl,fun h=>⟨(fun h=>nomatch h),fun _=>h⟩⟩]
  refine allLoopR (n:=b.pad.catches.length) (P:=fun i=>i < 8∧∀ a,b.pad.catches[i]? = some a→a ∉ b.pad.catches.take i) (g:=fun k=>f60_0 (I k) (I p) (I regs) y (I b.pad.dst) c (B b.pad.all) (B b.pad.cleanup)) ?_ ?_ ?_
  ·intro hn
   rw [tt_false]
   rintro ⟨_,h8,hu,_⟩
   exact hn fun i hi=>⟨by omega,hu i hi⟩
  ·intro hall
   have h8:b.pad.catches.length≤8:=by
    by_cases h:b.pad.catches.length≤8
    ·exact h
    ·have:=(hall 8 (by omega)).1; omega
   have hu:unlikeP b.pad.catches:=fun i hi=>(hall i hi).2
   unfold f60_0
   refine Goes.tv (RL.len (by assumption)) (Goes.tv rfl (Goes.ite asB_end (fun h=>nomatch h) fun _=>?_))
   refine f60_2_J ?_
   unfold f60_2
   repeat' (first
    | refine Goes.chk rfl ?_
    | refine Goes.tv rfl ?_
    | refine Goes.tv (RL.len (by assumption)) ?_
    | refine Goes.nat rfl ?_
    | refine Goes.ite (v:=true) rfl (fun _=>?_) (fun h=>nomatch h)
    | refine Goes.ite (v:=false) rfl (fun h=>nomatch h) (fun _=>?_)
    | refine Goes.ite rfl (fun _=>?_) (fun _=>?_)
    | refine Goes.call (by assumption) ?_
    | refine Goes.tvs (by assumption) ?_
    | refine Goes.call (r35 _ _) ?_)
   all_goals (apply ret_tt; simp_all [tt_iff,tt_iff0,List.length_pos_iff])
  ·intro k hk r h1 h2
   have ha:b.pad.catches[k]? = some b.pad.catches[k]:=List.getElem?_eq_getElem hk
   obtain ⟨e,he,rfl,_⟩:=hc.idx (k:=.i64) ha
   unfold f60_0
   refine Goes.tv (RL.len (by assumption)) (Goes.tv rfl (Goes.ite (asB_lt hk) (fun _=>?_) fun h=>nomatch h))
   refine Goes.tv rfl (Goes.ite rfl (fun h=>?_) fun h=>?_)
   ·rw [h1 (by simp at h; omega)]; exact Goes.ret
   ·have h8:k < 8:=by simp at h; omega
    refine f60_1_J ?_
    refine allLoopR (n:=k) (P:=fun j=>b.pad.catches[j]? ≠ b.pad.catches[k]?) (g:=fun j=>f60_1 (I k) (I j) (I p) (I regs) y (I b.pad.dst) c (B b.pad.all) (B b.pad.cleanup)) ?_ ?_ ?_
    ·intro hn
     refine h1 fun h'=>hn fun j hj hjk=>?_
     rw [ha] at hjk
     exact h'.2 _ ha (mem_take_iff.2 ⟨j,hj,hjk⟩)
    ·intro hall
     unfold f60_1
     refine Goes.tv rfl (Goes.ite asB_end (fun h=>nomatch h) fun _=>?_)
     refine Goes.tv (inc hk hc.bnd) (f60_0_J (h2 ⟨h8,fun a h3 h4=>?_⟩))
     obtain ⟨j,hj,h5⟩:=mem_take_iff.1 h4
     exact hall j hj (by rw [h5,h3])
    ·intro j hj r g1 g2
     have hjl:j < b.pad.catches.length:=by omega
     have hb:b.pad.catches[j]? = some b.pad.catches[j]:=List.getElem?_eq_getElem hjl
     obtain ⟨e,he2,rfl,_⟩:=hc.idx (k:=.i64) hb
     unfold f60_1
     refine Goes.tv rfl (Goes.ite (asB_lt hj) (fun _=>?_) fun h=>nomatch h)
     refine Goes.tvs he2 (Goes.chk rfl (Goes.tvs he (Goes.chk rfl (Goes.tv rfl (Goes.ite rfl (fun h=>?_) fun h=>?_)))))
     ·rw [g1 (by rw [ha,hb]; simpa using h)]; exact Goes.ret
     ·refine Goes.tv (inc hjl hc.bnd) (f60_1_J (g2 ?_))
      rw [ha,hb]; simpa using h
theorem r11 {q q':Option Bool} {e e':List TV} {m:DMod} {f:DFunc} (hm:RMod q e m) (hf:RFunc q' e' f):Runs prog 37 [.agg e,.agg e'] (B (tt (funcP m.funcs f))):=by
 obtain ⟨x,rfl,hx⟩:=hm
 obtain ⟨y,rfl,hy,_⟩:=hf
 refine Runs.of (f37_MR _ _) ?_
 unfold f37_M
 refine Goes.chk rfl (Goes.chk rfl (Goes.tv rfl (Goes.ite rfl (fun h=>?_) fun g1=>?_)))
 ·simp at h; exact ret_no fun h'=>by have:=h'.1; omega
 refine Goes.tv rfl (Goes.ite rfl (fun h=>?_) fun g2=>?_)
 ·simp at h; exact ret_no fun h'=>by have:=h'.1; omega
 refine Goes.tv rfl (Goes.ite rfl (fun h=>?_) fun g3=>?_)
 ·simp at h; exact ret_no fun h'=>by have:=h'.1; omega
 refine Goes.tv rfl (Goes.ite rfl (fun h=>?_) fun g4=>?_)
 ·simp at h; exact ret_no fun h'=>by have:=h'.1; omega
 refine Goes.tv hy.len (Goes.tv rfl (Goes.ite rfl (fun h=>?_) fun g5=>?_))
 ·simp at h
  refine ret_no ?_
  rintro ⟨_,_,⟨b,hb,_⟩,_⟩
  rw [h] at hb
  simp at hb
 refine Goes.tv hy.len (Goes.tv rfl (Goes.ite rfl (fun h=>?_) fun g6=>?_))
 ·simp at h; exact ret_no fun h'=>by have:=h'.2.1; omega
 simp at g1 g2 g3 g4 g5 g6
 have hpos:0 < f.blocks.length:=List.length_pos_iff.2 g5
 have hb0:f.blocks[0]? = some f.blocks[0]:=List.getElem?_eq_getElem hpos
 obtain ⟨e0,he0,hr0⟩:=hy.idx (k:=.i64) hb0
 obtain ⟨_,_,_,rfl,_⟩:=hr0
 refine Goes.tvs he0 (Goes.chk rfl (Goes.ite rfl (fun h=>?_) fun g7=>?_))
 ·refine ret_no ?_
  rintro ⟨_,_,⟨b,hb,hl⟩,_⟩
  rw [hb0] at hb
  simp at hb
  subst hb
  rw [hl] at h
  cases h
 refine f37_0_J ?_
 rw [show tt (funcP m.funcs f)=tt (∀ i,i < f.blocks.length→∀ b,f.blocks[i]? = some b→blockP m.funcs f.regs f.blocks b) from tt_congr
  ⟨fun h=>h.2.2.2,fun h=>⟨⟨by omega,by omega,by omega,by omega⟩,by omega,⟨_,hb0,g7⟩,h⟩⟩]
 refine allLoop' (g:=fun k=>f37_0 (I k) x (I f.params) (I f.regs) y) ?_ ?_
 ·unfold f37_0
  refine Goes.tv (RL.len (by assumption)) (Goes.tv rfl (Goes.ite asB_end (fun h=>nomatch h) fun _=>?_))
  exact Goes.ret
 ·intro k hk r h1 h2
  have ha:f.blocks[k]? = some f.blocks[k]:=List.getElem?_eq_getElem hk
  obtain ⟨e,he,hr⟩:=hy.idx (k:=.i64) ha
  have h1:¬ blockP m.funcs f.regs f.blocks f.blocks[k]→r=B false:=fun h=>h1 fun h'=>h (h' _ ha)
  have h2:blockP m.funcs f.regs f.blocks f.blocks[k]→Goes prog 37 (f37_0 (I ((k + 1:Nat):Int)) x (I f.params) (I f.regs) y) r:=fun h=>h2 fun b hb=>by rw [ha] at hb; cases hb; exact h
  generalize f.blocks[k]=b at *
  have h20:Runs prog 60 [.agg [I f.params,I f.regs,y],.agg e] (B (tt (padP b.landing f.regs b.pad))):=r20 (q:=q) hr
  obtain ⟨c,i,g,rfl,hc,hd,hi,hg,ho⟩:=hr
  have h21:Runs prog 61 [.agg [x],.agg [I f.params,I f.regs,y],.agg [I b.fin.kind,I b.fin.a,I b.fin.dst,I b.fin.f,g,I b.fin.to,I b.fin.els,I b.fin.pad]] (B (tt (endP m.funcs f.regs f.blocks b.fin))):=r21 (q':=q') hx hy ⟨g,rfl,hg,ho⟩
  unfold f37_0
  refine Goes.tv (RL.len (by assumption)) (Goes.tv rfl (Goes.ite (asB_lt hk) (fun _=>?_) fun h=>nomatch h))
  refine Goes.tvs he (Goes.chk rfl (Goes.tv hi.len (Goes.tv rfl (Goes.ite rfl (fun h=>?_) fun g1=>?_))))
  ·rw [h1 (fun h'=>by have:=h'.1; simp at h; omega)]; exact Goes.ret
  refine Goes.call h20 (Goes.chk rfl (Goes.tv rfl (Goes.ite rfl (fun h=>?_) fun g2=>?_)))
  ·rw [h1 (fun h'=>by simp [tt_iff0] at h; exact h h'.2.1)]; exact Goes.ret
  refine Goes.call h21 (Goes.chk rfl (Goes.tv rfl (Goes.ite rfl (fun h=>?_) fun g3=>?_)))
  ·rw [h1 (fun h'=>by simp [tt_iff0] at h; exact h h'.2.2.2)]; exact Goes.ret
  simp [tt_iff] at g1 g2 g3
  refine f37_1_J ?_
  refine allLoopR (n:=b.ins.length) (P:=fun j=>∀ u,b.ins[j]? = some u→insP m.funcs f.regs u) (g:=fun j=>f37_1 (I k) (I j) x (I f.params) (I f.regs) y (B b.landing) (I b.pad.dst) c (B b.pad.all) (B b.pad.cleanup) i (I b.fin.kind) (I b.fin.a) (I b.fin.dst) (I b.fin.f) g (I b.fin.to) (I b.fin.els) (I b.fin.pad)) ?_ ?_ ?_
  ·intro hn; exact h1 fun h'=>hn h'.2.2.1
  ·intro hall
   unfold f37_1
   refine Goes.tv (RL.len (by assumption)) (Goes.tv rfl (Goes.ite asB_end (fun h=>nomatch h) fun _=>?_))
   exact Goes.tv (inc hk hy.bnd) (f37_0_J (h2 ⟨by omega,g2,hall,g3⟩))
  ·intro j hj r k1 k2
   have hau:b.ins[j]? = some b.ins[j]:=List.getElem?_eq_getElem hj
   obtain ⟨e,he,hea⟩:=hi.idx (k:=.i64) hau
   have h22:Runs prog 62 [.agg [x],.agg [I f.params,I f.regs,y],.agg e] (B (tt (insP m.funcs f.regs b.ins[j]))):=r22 hx hea
   obtain ⟨_,rfl,_⟩:=hea
   unfold f37_1
   refine Goes.tv (RL.len (by assumption)) (Goes.tv rfl (Goes.ite (asB_lt hj) (fun _=>?_) fun h=>nomatch h))
   refine Goes.tvs he (Goes.chk rfl (Goes.call h22 (Goes.chk rfl (Goes.tv rfl (Goes.ite rfl (fun h=>?_) fun h=>?_)))))
   ·rw [k1 (by simp [hau]; simpa [tt_iff0] using h)]; exact Goes.ret
   ·refine Goes.tv (inc hj hi.bnd) (f37_1_J (k2 ?_))
    simp [hau]; simpa [tt_iff] using h
theorem r9 {q:Option Bool} {e:List TV} {m:DMod} (hm:RMod q e m):Runs prog 14 [.agg e] (B (tt (modP m))):=by
 have hm':=hm
 obtain ⟨x,rfl,hx⟩:=hm
 refine Runs.of (f14_MR _) ?_
 unfold f14_M
 refine Goes.chk rfl (Goes.tv hx.len (Goes.tv rfl (Goes.ite rfl (fun h=>?_) fun g1=>?_)))
 ·simp at h
  refine ret_no ?_
  rintro ⟨_,⟨b,hb,_⟩,_⟩
  rw [h] at hb
  simp at hb
 refine Goes.tv hx.len (Goes.tv rfl (Goes.ite rfl (fun h=>?_) fun g2=>?_))
 ·simp at h; exact ret_no fun h'=>by have:=h'.1; omega
 simp at g1 g2
 have hpos:0 < m.funcs.length:=List.length_pos_iff.2 g1
 have hb0:m.funcs[0]? = some m.funcs[0]:=List.getElem?_eq_getElem hpos
 obtain ⟨e0,he0,hr0⟩:=hx.idx (k:=.i64) hb0
 obtain ⟨_,rfl,_⟩:=hr0
 refine Goes.tvs he0 (Goes.chk rfl (Goes.tv rfl (Goes.ite rfl (fun h=>?_) fun g7=>?_)))
 ·refine ret_no ?_
  rintro ⟨_,⟨b,hb,hl⟩,_⟩
  rw [hb0] at hb
  simp at hb
  subst hb
  rw [hl] at h
  simp at h
 simp at g7
 refine f14_0_J ?_
 rw [show tt (modP m)=tt (∀ i,i < m.funcs.length→∀ f,m.funcs[i]? = some f→funcP m.funcs f) from tt_congr ⟨fun h=>h.2.2,fun h=>⟨by omega,⟨_,hb0,g7⟩,h⟩⟩]
 refine allLoop' (g:=fun k=>f14_0 (I k) x) ?_ ?_
 ·unfold f14_0
  refine Goes.tv (RL.len (by assumption)) (Goes.tv rfl (Goes.ite asB_end (fun h=>nomatch h) fun _=>?_))
  exact Goes.ret
 ·intro k hk r h1 h2
  have ha:m.funcs[k]? = some m.funcs[k]:=List.getElem?_eq_getElem hk
  obtain ⟨e,he,hr⟩:=hx.idx (k:=.i64) ha
  have h11:=r11 hm' hr
  obtain ⟨_,rfl,_⟩:=hr
  unfold f14_0
  refine Goes.tv (RL.len (by assumption)) (Goes.tv rfl (Goes.ite (asB_lt hk) (fun _=>?_) fun h=>nomatch h))
  refine Goes.tvs he (Goes.chk rfl (Goes.call h11 (Goes.chk rfl (Goes.tv rfl (Goes.ite rfl (fun h=>?_) fun h=>?_)))))
  ·rw [h1 (by simp [ha]; simpa [tt_iff0] using h)]; exact Goes.ret
  ·refine Goes.tv (inc hk hx.bnd) (f14_0_J (h2 ?_))
   simp [ha]; simpa [tt_iff] using h
end Go.Ab.G7
end
section
set_option linter.unusedVariables false
set_option maxRecDepth 10000
namespace Go.Ab
def frameQ (m:DMod) (f:DFrame):Prop:=0≤f.f∧∃ g,m.funcs[f.f.toNat]? = some g∧(f.regs.length:Int)=g.regs∧0≤f.block∧∃ b,g.blocks[f.block.toNat]? = some b∧0≤f.at_∧f.at_≤b.ins.length
def newT (m:DMod) (n:Int) (args:List Int):Option DFrame :=
 if 0≤n then (m.funcs[n.toNat]?).bind fun g=>if (args.length:Int)=g.params then some ⟨n,0,0,args.take g.regs.toNat ++ List.replicate (g.regs.toNat - args.length) 0,0⟩ else none else none
def noFrame:DFrame:=⟨0,0,0,[],0⟩
def landT (m:DMod) (f:DFrame) (pad w:Int):Option DFrame :=
 (m.funcs[f.f.toNat]?).bind fun g=>if 0≤pad then (g.blocks[pad.toNat]?).bind fun b=>if b.landing then some ⟨f.f,pad,0,f.regs.set b.pad.dst.toNat w,w⟩ else none else none
def errOf:Option DFrame→Int
 | some _=>0
 | none=>1
theorem within_none {α:Type} {l:List α} {n:Int} (h0:0≤n) (h:¬ n < l.length):l[n.toNat]? = none:=List.getElem?_eq_none (by omega)
theorem RNo:RFrame (some true) [I 0,I 0,I 0,.lit nilV,W 0] noFrame:=⟨_,rfl,.nil,⟨by decide,by decide⟩,⟨by decide,by decide⟩,⟨by decide,by decide⟩,⟨by decide,by decide⟩⟩
def zFrame:List Value:=[.int .i64 0,.int .i64 0,.int .i64 0,.slice none 0 0,.int .u16 0]
theorem fit_frame {a b c d:Int} {y:TV} (h:y.isSl=true):(Bool.and ((TV.agg [I a,I b,I c,y,W d]).isAgg 5) (fitsAt zFrame ((TV.agg [I a,I b,I c,y,W d]).cellsL true) 0))=true:=by
 simp [fitsAt,TV.isAgg,TV.cellsL,zFrame,isSlV,h,TV.isSc,scV]
theorem in0:inI 0:=⟨by decide,by decide⟩
theorem inW0:inW 0:=⟨by decide,by decide⟩
end Go.Ab
namespace Go.Ab.G7
open Go Go.Ab Go.Proofs
theorem rOneOf (c n:Int):Runs prog 71 [I c,I n] (B (tt (within n c))):=by
 refine Runs.of (f71_MR _ _) ?_
 unfold f71_M
 repeat' (first
  | refine Goes.chk rfl ?_
  | refine Goes.tv rfl ?_
  | refine Goes.tv (RL.len (by assumption)) ?_
  | refine Goes.nat rfl ?_
  | refine Goes.ite rfl (fun _=>?_) (fun _=>?_)
  | refine Goes.call (by assumption) ?_
  | refine Goes.tvs (by assumption) ?_)
 all_goals (apply ret_tt; simp_all [within] <;> omega)
theorem rThere {q:Option Bool} {e:List TV} {x:DFrame} (he:RFrame q e x) (n:Int):Runs prog 106 [.agg e,I n] (B (tt (within n x.regs.length))):=by
 obtain ⟨g,rfl,hg,_⟩:=he
 refine Runs.of (f106_MR _ _) ?_
 unfold f106_M
 repeat' (first
  | refine Goes.chk rfl ?_
  | refine Goes.tv rfl ?_
  | refine Goes.tv (RL.len (by assumption)) ?_
  | refine Goes.nat rfl ?_
  | refine Goes.ite rfl (fun _=>?_) (fun _=>?_)
  | refine Goes.call (by assumption) ?_
  | refine Goes.tvs (by assumption) ?_)
 all_goals (apply ret_tt; simp_all [within] <;> omega)
theorem rOwn {q:Option Bool} {e:List TV} {x:DFrame} (he:RFrame q e x) (hl:x.regs.length≤4294967296):∃ e',Runs prog 101 [.agg e] (.agg e')∧RFrame (some true) e' x:=by
 obtain ⟨g,rfl,hg,ho⟩:=he
 obtain ⟨y,hc,hr⟩:=r39 hg hl
 have hr:RWords (some true) y x.regs:=hr
 refine ⟨[I x.f,I x.block,I x.at_,y,W x.fly],?_,⟨_,rfl,hr,ho⟩⟩
 refine Runs.of (f101_MR _) ?_
 unfold f101_M
 refine Goes.chk rfl (Goes.call hc (Goes.chk ?_ (Goes.chk ?_ Goes.ret)))
 ·simp [zSl,fitsAt,isSlV,hr.isSl]
 ·simp [isOwn,isOwnL,RWords.isOwn hr,TV.cell,nth]
theorem rGo {q:Option Bool} {e:List TV} {x:DFrame} {b:Int} (he:RFrame q e x) (hl:x.regs.length≤4294967296) (hb:inI b):∃ e',Runs prog 85 [.agg e,I b] (.agg e')∧RFrame (some true) e' { x with block:=b,at_:=0 }:=by
 obtain ⟨e',hr,he'⟩:=rOwn he hl
 obtain ⟨g,rfl,hg,ho⟩:=he
 obtain ⟨y,rfl,hy,ho'⟩:=he'
 refine ⟨[I x.f,I b,I 0,y,W x.fly],?_,⟨_,rfl,hy,ho.1,hb,in0,ho.2.2.2⟩⟩
 refine Runs.of (f85_MR _ _) ?_
 unfold f85_M
 refine Goes.chk rfl (Goes.call hr (Goes.chk (fit_frame hy.isSl) (Goes.chk rfl (Goes.chk ?_ Goes.ret))))
 simp [isOwn,isOwnL,TV.cell,nth,RWords.isOwn hy]
theorem rAnswer {q q':Option Bool} {g:TV} {l:List Int} {e:List TV} {x:DIns} (hg:RWords q g l) (he:RIns q' e x):Runs prog 112 [g,.agg e] (ansW (answerT l x)):=by
 obtain ⟨a,rfl,ha,ho⟩:=he
 have h2:=rTwo x.op
 refine Runs.of (f112_MR _ _) ?_
 unfold f112_M
 refine Goes.chk rfl (Goes.tv rfl (Goes.ite rfl (fun h=>?_) fun h1=>?_))
 ·refine goes_ret.2 ?_
  simp at h
  simp [answerT,h,ansW,TV.cell,nth]
 have h1:¬ x.op=1:=by simpa using h1
 refine Goes.tv hg.len (Goes.call (rOneOf _ _) (Goes.chk rfl (Goes.tv rfl (Goes.ite rfl (fun h=>?_) fun h=>?_))))
 ·have h:¬ within x.a l.length:=tt_iff0.1 (by simpa using h)
  refine goes_ret.2 ?_
  simp [answerT,h1,regAt_none h,ansW]
 have hA:within x.a l.length:=tt_iff.1 (by simpa using h)
 obtain ⟨u,hu,hul⟩:=within_at hA
 obtain ⟨hi,hui⟩:=RWords.at_ hg (k:=.i64) hA.1 hu
 refine Goes.tvs hi (Goes.chk rfl (Goes.call h2 (Goes.chk rfl (Goes.tv rfl (Goes.ite rfl (fun h=>?_) fun h=>?_)))))
 ·have h:¬ (3≤x.op∧x.op≤8):=by simp at h; omega
  have hd:=rDo x.op u 0
  have hT:answerT l x=doW x.op u 0:=by simp [answerT,h1,regAt_some hA.1 hu,h]
  rw [hT]
  refine Goes.call hd ?_
  cases doW x.op u 0 with
  | none=>exact Goes.chk rfl (Goes.chk rfl (Goes.chk rfl Goes.ret))
  | some v=>exact Goes.chk rfl (Goes.chk rfl (Goes.chk rfl Goes.ret))
 have h3:3≤x.op∧x.op≤8:=by simpa using h
 refine Goes.tv hg.len (Goes.call (rOneOf _ _) (Goes.chk rfl (Goes.tv rfl (Goes.ite rfl (fun h=>?_) fun h=>?_))))
 ·have h:¬ within x.b l.length:=tt_iff0.1 (by simpa using h)
  refine goes_ret.2 ?_
  simp [answerT,h1,regAt_some hA.1 hu,h3,regAt_none h,ansW]
 have hB:within x.b l.length:=tt_iff.1 (by simpa using h)
 obtain ⟨v,hv,hvl⟩:=within_at hB
 obtain ⟨hi',hvi⟩:=RWords.at_ hg (k:=.i64) hB.1 hv
 have hd:=rDo x.op u v
 have hT:answerT l x=doW x.op u v:=by simp [answerT,h1,regAt_some hA.1 hu,h3,regAt_some hB.1 hv]
 rw [hT]
 refine Goes.tvs hi' (Goes.chk rfl (Goes.call hd ?_))
 cases doW x.op u v with
 | none=>exact Goes.chk rfl (Goes.chk rfl (Goes.chk rfl Goes.ret))
 | some v=>exact Goes.chk rfl (Goes.chk rfl (Goes.chk rfl Goes.ret))
theorem answer_in {q q':Option Bool} {g:TV} {l:List Int} {e:List TV} {x:DIns} (hg:RWords q g l) (he:RIns q' e x) {v:Int} (h:answerT l x=some v):inW v:=by
 obtain ⟨a,rfl,ha,ho⟩:=he
 unfold answerT at h
 split at h
 ·cases h; exact ho.2.2.2.2.1
 ·cases ha':regAt l x.a with
  | none=>rw [ha'] at h; cases h
  | some u =>
   have hu:inW u:=by
    unfold regAt at ha'
    split at ha'
    ·exact RWords.mem hg ha'
    ·cases ha'
   rw [ha'] at h
   simp only [Option.bind_some] at h
   split at h
   ·cases hb:regAt l x.b with
    | none=>rw [hb] at h; cases h
    | some w=>rw [hb] at h; exact doW_in hu h
   ·exact doW_in hu h
theorem rReckon {q q':Option Bool} {e e':List TV} {f:DFrame} {x:DIns} (hf:RFrame q e f) (hx:RIns q' e' x) (hl:f.regs.length≤4294967296) :
  ∃ e2,Runs prog 99 [.agg e,.agg e'] (.tup [.agg e2,B (reckonT f x).2])∧RFrame (some true) e2 (reckonT f x).1:=by
 obtain ⟨e1,hr,hf1⟩:=rOwn hf hl
 have hf1':=hf1
 obtain ⟨g0,rfl,hg0,_⟩:=hf
 obtain ⟨y,rfl,hy,ho'⟩:=hf1
 have hans:=rAnswer (hy.frz (S:=RW1) fun _ _ h=>h.frz) hx
 have hx':=hx
 obtain ⟨z,rfl,hz,hxo⟩:=hx
 have hfit:=fit_frame (a:=f.f) (b:=f.block) (c:=f.at_) (d:=f.fly) hy.isSl
 have hown:isOwnL [TV.agg [I f.f,I f.block,I f.at_,y,W f.fly],B false]=true:=by simp [isOwn,isOwnL,RWords.isOwn hy]
 cases hT:answerT f.regs x with
 | none =>
  rw [hT] at hans
  have hR:reckonT f x=(f,false):=by simp [reckonT,hT]
  rw [hR]
  refine ⟨_,?_,hf1'⟩
  refine Runs.of (f99_MR _ _) ?_
  unfold f99_M
  exact Goes.chk rfl (Goes.chk rfl (Goes.call hr (Goes.chk hfit (Goes.call hans (Goes.chk rfl (Goes.chk rfl (Goes.chk rfl (Goes.tv rfl (Goes.ite rfl (fun _=>Goes.chk hown Goes.ret) fun h=>nomatch h)))))))))
 | some v =>
  rw [hT] at hans
  have hv:=answer_in hy hx' hT
  by_cases hD:within x.dst f.regs.length
  ·have hD':0≤x.dst∧x.dst < f.regs.length:=hD
   have hR:reckonT f x=({ f with regs:=f.regs.set x.dst.toNat v,at_:=IntKind.i64.wrap (f.at_ + 1) },true):=by simp [reckonT,hT,hD']
   have hlt:x.dst.toNat < f.regs.length:=by omega
   obtain ⟨a,v',hp,hs,hrl⟩:=RWords.put hy hlt hv
   have hbl:Nat.blt x.dst.toNat f.regs.length=true:=by simpa using hlt
   rw [hR]
   refine ⟨[I f.f,I f.block,I (IntKind.i64.wrap (f.at_ + 1)),v',W f.fly],?_,⟨_,rfl,hrl,ho'.1,ho'.2.1,wrap_i64 _,ho'.2.2.2⟩⟩
   refine Runs.of (f99_MR _ _) ?_
   unfold f99_M
   refine Goes.chk rfl (Goes.chk rfl (Goes.call hr (Goes.chk hfit (Goes.call hans (Goes.chk rfl (Goes.chk rfl (Goes.chk rfl (Goes.tv rfl (Goes.ite rfl (fun h=>nomatch h) fun _=>?_)))))))))
   refine Goes.tv hy.len (Goes.call (rOneOf _ _) (Goes.chk rfl (Goes.tv rfl (Goes.ite rfl (fun h=>?_) fun _=>?_))))
   ·exact absurd hD (tt_iff0.1 (by simpa using h))
   ·have hdn:asNat (I x.dst)=some x.dst.toNat:=by
     have:=hxo.2.1.2
     simp [asNat,hD.1]; omega
    refine Goes.nat hy.slLen (Goes.nat hdn (Goes.chk ?_ (Goes.tvs hp (Goes.chk rfl (Goes.tv hs (Goes.tv rfl (Goes.chk ?_ Goes.ret)))))))
    ·rw [hbl]; exact (Bool.and_true _).trans hy.slSize
    ·simp [isOwn,isOwnL,RWords.isOwn hrl,TV.cell,nth]
  ·have hD':¬ (0≤x.dst∧x.dst < f.regs.length):=hD
   have hR:reckonT f x=(f,false):=by simp only [reckonT,hT]; rw [if_neg hD']
   rw [hR]
   refine ⟨_,?_,hf1'⟩
   refine Runs.of (f99_MR _ _) ?_
   unfold f99_M
   refine Goes.chk rfl (Goes.chk rfl (Goes.call hr (Goes.chk hfit (Goes.call hans (Goes.chk rfl (Goes.chk rfl (Goes.chk rfl (Goes.tv rfl (Goes.ite rfl (fun h=>nomatch h) fun _=>?_)))))))))
   refine Goes.tv hy.len (Goes.call (rOneOf _ _) (Goes.chk rfl (Goes.tv rfl (Goes.ite rfl (fun _=>Goes.chk hown Goes.ret) fun h=>?_))))
   exact absurd (tt_iff.1 (by simpa using h)) hD
theorem rCatches {q:Option Bool} {e:List TV} {p:DPad} {w:Int} (he:RPad q e p):Runs prog 104 [.agg e,W w] (B (tt (p.all=true∨w ∈ p.catches))):=by
 obtain ⟨x,rfl,hx,_⟩:=he
 have h56:=r56 (w:=w) hx
 refine Runs.of (f104_MR _ _) ?_
 unfold f104_M
 repeat' (first
  | refine Goes.chk rfl ?_
  | refine Goes.tv rfl ?_
  | refine Goes.tv (RL.len (by assumption)) ?_
  | refine Goes.nat rfl ?_
  | refine Goes.ite rfl (fun _=>?_) (fun _=>?_)
  | refine Goes.call (by assumption) ?_
  | refine Goes.tvs (by assumption) ?_)
 ·rename_i h
  have h:p.all=true:=by simpa [TV.cell,nth] using h
  exact ret_yes (.inl h)
 ·rename_i h
  have h:p.all=false:=by simpa [TV.cell,nth] using h
  apply ret_tt
  simp [tt_iff,h]
end Go.Ab.G7
end

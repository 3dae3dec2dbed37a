import Derived.Test.YtdfmiamebejhoaaHT12F6
import Derived.OpenShut
set_option linter.all false
section
set_option maxRecDepth 10000
namespace Go.Ab
theorem bz {regs n:Int}:eV false regs n ↔ n=0:=⟨fun h=>h.2 rfl,fun h=>⟨(fun h=>nomatch h),fun _=>h⟩⟩
theorem iF {fs:List DFunc} {regs n:Int} {l:List Int}:i9 true fs regs n l ↔ pP fs regs n l:=⟨fun h=>h.1 rfl,fun h=>⟨fun _=>h,fun h=>nomatch h⟩⟩
theorem bI {fs:List DFunc} {regs n:Int} {l:List Int}:i9 false fs regs n l ↔ n=0∧l=[]:=⟨fun h=>h.2 rfl,fun h=>⟨(fun h=>nomatch h),fun _=>h⟩⟩
theorem dc {bs:List DBlock} {n:Int} {x:Bool}:iM true bs n x ↔ fy bs n x:=⟨fun h=>h.1 rfl,fun h=>⟨fun _=>h,fun h=>nomatch h⟩⟩
theorem ep {bs:List DBlock} {n:Int} {x:Bool}:iM false bs n x ↔ n=0:=⟨fun h=>h.2 rfl,fun h=>⟨(fun h=>nomatch h),fun _=>h⟩⟩
end Go.Ab
namespace Go.Ab.T12
open Go Go.Ab Go.Proofs
theorem eg {fs:List DFunc} {regs n:Int} {x:DIns} {d a b k c:Bool} (hop:x.op=n) (h1:has (iu n) 1=true) (hd:has (iu n) 2=d) (ha:has (iu n) 4=a) (hb:has (iu n) 8=b) (hk:has (iu n) 16=k) (hc:has (iu n) 32=c) :
  sO fs regs x ↔ eV d regs x.dst∧eV a regs x.a∧eV b regs x.b∧(k=true∨x.k=0)∧i9 c fs regs x.f x.args:=by
 subst hop hd ha hb hk hc; simp [sO,h1]
theorem cp {fs:List DFunc} {regs n:Int} {bs:List DBlock} {x:DEnd} {a d c t e p:Bool} (hop:x.kind=n) (h1:has (dp n) 1=true) (ha:has (dp n) 4=a) (hd:has (dp n) 2=d) (hc:has (dp n) 32=c) (ht:has (dp n) 64=t) (he:has (dp n) 128=e) (hp:has (dp n) 256=p) :
  rC fs regs bs x ↔ eV a regs x.a∧eV d regs x.dst∧i9 c fs regs x.f x.args∧iM t bs x.to false∧iM e bs x.els false∧iM p bs x.pad true:=by
 subst hop ha hd hc ht he hp; simp [rC,h1]
theorem r38 {q:Option Bool} {g:TV} {k f:Int} {l:List Int} (hg:RInts q g l):aG prog 57 [W k,I f,g] (B (tt (k=0∧f=0∧l=[]))):=by
 refine aG.of (f57_MR _ _ _) ?_
 unfold f57_M
 repeat' (first
  | refine aa.chk rfl ?_
  | refine aa.tv rfl ?_
  | refine aa.tv (RL.len (by assumption)) ?_
  | refine aa.nat rfl ?_
  | refine aa.ite rfl (fun _=>?_) (fun _=>?_)
  | refine aa.call (by assumption) ?_
  | refine aa.tvs (by assumption) ?_)
 all_goals (apply aL; simp_all)
theorem r36 {q:Option Bool} {y:TV} {bs:List DBlock} {p regs n:Int} (hy:RL q 14 (RBlock q) y bs):aG prog 55 [.agg [I p,I regs,y],I n] (B (tt (fy bs n false))):=by
 refine aG.of (f55_MR _ _) ?_
 unfold f55_M
 refine aa.chk rfl (aa.tv hy.len (aa.call (r35 _ _) (aa.chk rfl (aa.ite rfl (fun h=>?_) fun h=>?_))))
 ·rw [aB] at h
  have hlt:n.toNat < bs.length:=by have:=h.1; have:=h.2; omega
  have hf:bs[n.toNat]? = some bs[n.toNat]:=C7 hlt
  obtain ⟨e,he,hr⟩:=hy.wI (k:=.i64) h.1 hf
  obtain ⟨c,i,g,rfl,_⟩:=hr
  refine aa.tvs he (aa.chk rfl (aa.tv rfl ?_))
  apply aL
  simp [fy,h.1,hf]
 ·rw [aw] at h
  refine aP ?_
  rintro ⟨h0,f,hf,_⟩
  have:=(C6.1 hf).1
  exact h ⟨h0,by omega⟩
theorem r37 {q q':Option Bool} {x y g:TV} {fs:List DFunc} {p regs n:Int} {l:List Int} (hx:RL q 3 (RFunc q) x fs) (hg:RInts q' g l):aG prog 56 [.agg [x],.agg [I p,I regs,y],I n,g] (B (tt (pP fs regs n l))):=by
 refine aG.of (f56_MR _ _ _ _) ?_
 unfold f56_M
 refine aa.chk rfl (aa.chk rfl (aa.tv hx.len (aa.call (r35 _ _) (aa.chk rfl (aa.tv rfl (aa.ite rfl (fun h=>?_) fun h=>?_))))))
 ·simp [aw] at h
  refine aP ?_
  rintro ⟨h0,f,hf,_⟩
  have:=(C6.1 hf).1
  exact h ⟨h0,by omega⟩
 ·simp [aB] at h
  have hlt:n.toNat < fs.length:=by have:=h.1; have:=h.2; omega
  have hf:fs[n.toNat]? = some fs[n.toNat]:=C7 hlt
  obtain ⟨e,he,hr⟩:=hx.wI (k:=.i64) h.1 hf
  obtain ⟨b,rfl,_⟩:=hr
  refine aa.tv hg.len (aa.tvs he (aa.chk rfl (aa.tv rfl (aa.ite rfl (fun h2=>?_) fun h2=>?_))))
  ·refine aP ?_
   rintro ⟨_,f,hf',hl,_⟩
   rw [hf] at hf'
   simp at hf' h2
   subst hf'
   exact h2 hl
  ·simp at h2
   refine f56_0_J ?_
   have hp:pP fs regs n l ↔ ∀ i,i < l.length→∀ a,l[i]? = some a→within a regs:=by
    refine ⟨fun ⟨_,f,hf',hl,ha⟩=>ha,fun ha=>⟨h.1,_,hf,h2,ha⟩⟩
   rw [bU hp]
   refine ia (g:=fun k=>f56_0 g (I k) (I p) (I regs) y) ?_ ?_
   ·unfold f56_0
    refine aa.tv (RL.len (by assumption)) (aa.tv rfl (aa.ite bg (fun h=>nomatch h) fun _=>?_))
    exact aa.ret
   ·intro k hk r h1 h2
    have ha:l[k]? = some l[k]:=C7 hk
    obtain ⟨e,he,rfl,_⟩:=hg.idx (k:=.i64) ha
    unfold f56_0
    refine aa.tv (RL.len (by assumption)) (aa.tv rfl (aa.ite (br hk) (fun _=>?_) fun h=>nomatch h))
    refine aa.tvs he (aa.chk rfl (aa.call (r35 _ _) (aa.chk rfl (aa.tv rfl (aa.ite rfl (fun h=>?_) fun h=>?_)))))
    ·rw [h1 (by simp [ha]; simpa [aw] using h)]; exact aa.ret
    ·refine aa.tv (inc hk hg.bnd) (f56_0_J (h2 ?_))
     simp [ha]; simpa [aB] using h
set_option maxHeartbeats 4000000 in
theorem r22 {q q':Option Bool} {x y:TV} {e:List TV} {fs:List DFunc} {p regs:Int} {a:DIns} (hx:RL q 3 (RFunc q) x fs) (he:RIns q' e a):aG prog 40 [.agg [x],.agg [I p,I regs,y],.agg e] (B (tt (sO fs regs a))):=by
 obtain ⟨g,rfl,hg,_⟩:=he
 obtain ⟨op,dst,a,b,k,f,args⟩:=a
 have h38:∀ {k f:Int},aG prog 57 [W k,I f,g] (B (tt (k=0∧f=0∧args=[]))):=r38 hg
 have h37:∀ {n:Int},aG prog 56 [.agg [x],.agg [I p,I regs,y],I n,g] (B (tt (pP fs regs n args))):=r37 hx hg
 refine aG.of (f40_MR _ _ _) ?_
 unfold f40_M
 refine aa.chk rfl (aa.chk rfl (aa.chk rfl (aa.call (r35 _ _) (aa.chk rfl (aa.call (r35 _ _) (aa.chk rfl (aa.call (r35 _ _) (aa.chk rfl ?_))))))))
 by_cases h1:op=1
 ·subst h1
  repeat' (first
   | refine aa.chk rfl ?_
   | refine aa.tv rfl ?_
   | refine aa.tv (RL.len (by assumption)) ?_
   | refine aa.nat rfl ?_
   | refine aa.ite (v:=true) rfl (fun _=>?_) (fun h=>nomatch h)
   | refine aa.ite (v:=false) rfl (fun h=>nomatch h) (fun _=>?_)
   | refine aa.ite rfl (fun _=>?_) (fun _=>?_)
   | refine aa.call (by assumption) ?_
   | refine aa.tvs (by assumption) ?_
   | (refine f40_0_J ?_; unfold f40_0) | (refine f40_1_J ?_; unfold f40_1) | refine aa.call h38 ?_ | refine aa.call h37 ?_)
  all_goals (apply aL; rw [eg (n:=1) (d:=true) (a:=false) (b:=false) (k:=true) (c:=false) rfl (by decide +kernel) (by decide +kernel) (by decide +kernel) (by decide +kernel) (by decide +kernel) (by decide +kernel)]; simp_all [aO,bz,bI,aB,aw])
 by_cases h2:op=2
 ·subst h2
  repeat' (first
   | refine aa.chk rfl ?_
   | refine aa.tv rfl ?_
   | refine aa.tv (RL.len (by assumption)) ?_
   | refine aa.nat rfl ?_
   | refine aa.ite (v:=true) rfl (fun _=>?_) (fun h=>nomatch h)
   | refine aa.ite (v:=false) rfl (fun h=>nomatch h) (fun _=>?_)
   | refine aa.ite rfl (fun _=>?_) (fun _=>?_)
   | refine aa.call (by assumption) ?_
   | refine aa.tvs (by assumption) ?_
   | (refine f40_0_J ?_; unfold f40_0) | (refine f40_1_J ?_; unfold f40_1) | refine aa.call h38 ?_ | refine aa.call h37 ?_)
  all_goals (apply aL; rw [eg (n:=2) (d:=true) (a:=true) (b:=false) (k:=false) (c:=false) rfl (by decide +kernel) (by decide +kernel) (by decide +kernel) (by decide +kernel) (by decide +kernel) (by decide +kernel)]; simp_all [aO,bz,bI,aB,aw])
 by_cases h9:op=9
 ·subst h9
  repeat' (first
   | refine aa.chk rfl ?_
   | refine aa.tv rfl ?_
   | refine aa.tv (RL.len (by assumption)) ?_
   | refine aa.nat rfl ?_
   | refine aa.ite (v:=true) rfl (fun _=>?_) (fun h=>nomatch h)
   | refine aa.ite (v:=false) rfl (fun h=>nomatch h) (fun _=>?_)
   | refine aa.ite rfl (fun _=>?_) (fun _=>?_)
   | refine aa.call (by assumption) ?_
   | refine aa.tvs (by assumption) ?_
   | (refine f40_0_J ?_; unfold f40_0) | (refine f40_1_J ?_; unfold f40_1) | refine aa.call h38 ?_ | refine aa.call h37 ?_)
  all_goals (apply aL; rw [eg (n:=9) (d:=true) (a:=true) (b:=false) (k:=false) (c:=false) rfl (by decide +kernel) (by decide +kernel) (by decide +kernel) (by decide +kernel) (by decide +kernel) (by decide +kernel)]; simp_all [aO,bz,bI,aB,aw])
 by_cases h3:op=3
 ·subst h3
  repeat' (first
   | refine aa.chk rfl ?_
   | refine aa.tv rfl ?_
   | refine aa.tv (RL.len (by assumption)) ?_
   | refine aa.nat rfl ?_
   | refine aa.ite (v:=true) rfl (fun _=>?_) (fun h=>nomatch h)
   | refine aa.ite (v:=false) rfl (fun h=>nomatch h) (fun _=>?_)
   | refine aa.ite rfl (fun _=>?_) (fun _=>?_)
   | refine aa.call (by assumption) ?_
   | refine aa.tvs (by assumption) ?_
   | (refine f40_0_J ?_; unfold f40_0) | (refine f40_1_J ?_; unfold f40_1) | refine aa.call h38 ?_ | refine aa.call h37 ?_)
  all_goals (apply aL; rw [eg (n:=3) (d:=true) (a:=true) (b:=true) (k:=false) (c:=false) rfl (by decide +kernel) (by decide +kernel) (by decide +kernel) (by decide +kernel) (by decide +kernel) (by decide +kernel)]; simp_all [aO,bI,aB,aw])
 by_cases h4:op=4
 ·subst h4
  repeat' (first
   | refine aa.chk rfl ?_
   | refine aa.tv rfl ?_
   | refine aa.tv (RL.len (by assumption)) ?_
   | refine aa.nat rfl ?_
   | refine aa.ite (v:=true) rfl (fun _=>?_) (fun h=>nomatch h)
   | refine aa.ite (v:=false) rfl (fun h=>nomatch h) (fun _=>?_)
   | refine aa.ite rfl (fun _=>?_) (fun _=>?_)
   | refine aa.call (by assumption) ?_
   | refine aa.tvs (by assumption) ?_
   | (refine f40_0_J ?_; unfold f40_0) | (refine f40_1_J ?_; unfold f40_1) | refine aa.call h38 ?_ | refine aa.call h37 ?_)
  all_goals (apply aL; rw [eg (n:=4) (d:=true) (a:=true) (b:=true) (k:=false) (c:=false) rfl (by decide +kernel) (by decide +kernel) (by decide +kernel) (by decide +kernel) (by decide +kernel) (by decide +kernel)]; simp_all [aO,bI,aB,aw])
 by_cases h5:op=5
 ·subst h5
  repeat' (first
   | refine aa.chk rfl ?_
   | refine aa.tv rfl ?_
   | refine aa.tv (RL.len (by assumption)) ?_
   | refine aa.nat rfl ?_
   | refine aa.ite (v:=true) rfl (fun _=>?_) (fun h=>nomatch h)
   | refine aa.ite (v:=false) rfl (fun h=>nomatch h) (fun _=>?_)
   | refine aa.ite rfl (fun _=>?_) (fun _=>?_)
   | refine aa.call (by assumption) ?_
   | refine aa.tvs (by assumption) ?_
   | (refine f40_0_J ?_; unfold f40_0) | (refine f40_1_J ?_; unfold f40_1) | refine aa.call h38 ?_ | refine aa.call h37 ?_)
  all_goals (apply aL; rw [eg (n:=5) (d:=true) (a:=true) (b:=true) (k:=false) (c:=false) rfl (by decide +kernel) (by decide +kernel) (by decide +kernel) (by decide +kernel) (by decide +kernel) (by decide +kernel)]; simp_all [aO,bI,aB,aw])
 by_cases h6:op=6
 ·subst h6
  repeat' (first
   | refine aa.chk rfl ?_
   | refine aa.tv rfl ?_
   | refine aa.tv (RL.len (by assumption)) ?_
   | refine aa.nat rfl ?_
   | refine aa.ite (v:=true) rfl (fun _=>?_) (fun h=>nomatch h)
   | refine aa.ite (v:=false) rfl (fun h=>nomatch h) (fun _=>?_)
   | refine aa.ite rfl (fun _=>?_) (fun _=>?_)
   | refine aa.call (by assumption) ?_
   | refine aa.tvs (by assumption) ?_
   | (refine f40_0_J ?_; unfold f40_0) | (refine f40_1_J ?_; unfold f40_1) | refine aa.call h38 ?_ | refine aa.call h37 ?_)
  all_goals (apply aL; rw [eg (n:=6) (d:=true) (a:=true) (b:=true) (k:=false) (c:=false) rfl (by decide +kernel) (by decide +kernel) (by decide +kernel) (by decide +kernel) (by decide +kernel) (by decide +kernel)]; simp_all [aO,bI,aB,aw])
 by_cases h7:op=7
 ·subst h7
  repeat' (first
   | refine aa.chk rfl ?_
   | refine aa.tv rfl ?_
   | refine aa.tv (RL.len (by assumption)) ?_
   | refine aa.nat rfl ?_
   | refine aa.ite (v:=true) rfl (fun _=>?_) (fun h=>nomatch h)
   | refine aa.ite (v:=false) rfl (fun h=>nomatch h) (fun _=>?_)
   | refine aa.ite rfl (fun _=>?_) (fun _=>?_)
   | refine aa.call (by assumption) ?_
   | refine aa.tvs (by assumption) ?_
   | (refine f40_0_J ?_; unfold f40_0) | (refine f40_1_J ?_; unfold f40_1) | refine aa.call h38 ?_ | refine aa.call h37 ?_)
  all_goals (apply aL; rw [eg (n:=7) (d:=true) (a:=true) (b:=true) (k:=false) (c:=false) rfl (by decide +kernel) (by decide +kernel) (by decide +kernel) (by decide +kernel) (by decide +kernel) (by decide +kernel)]; simp_all [aO,bI,aB,aw])
 by_cases h8:op=8
 ·subst h8
  repeat' (first
   | refine aa.chk rfl ?_
   | refine aa.tv rfl ?_
   | refine aa.tv (RL.len (by assumption)) ?_
   | refine aa.nat rfl ?_
   | refine aa.ite (v:=true) rfl (fun _=>?_) (fun h=>nomatch h)
   | refine aa.ite (v:=false) rfl (fun h=>nomatch h) (fun _=>?_)
   | refine aa.ite rfl (fun _=>?_) (fun _=>?_)
   | refine aa.call (by assumption) ?_
   | refine aa.tvs (by assumption) ?_
   | (refine f40_0_J ?_; unfold f40_0) | (refine f40_1_J ?_; unfold f40_1) | refine aa.call h38 ?_ | refine aa.call h37 ?_)
  all_goals (apply aL; rw [eg (n:=8) (d:=true) (a:=true) (b:=true) (k:=false) (c:=false) rfl (by decide +kernel) (by decide +kernel) (by decide +kernel) (by decide +kernel) (by decide +kernel) (by decide +kernel)]; simp_all [aO,bI,aB,aw])
 by_cases h10:op=10
 ·subst h10
  repeat' (first
   | refine aa.chk rfl ?_
   | refine aa.tv rfl ?_
   | refine aa.tv (RL.len (by assumption)) ?_
   | refine aa.nat rfl ?_
   | refine aa.ite (v:=true) rfl (fun _=>?_) (fun h=>nomatch h)
   | refine aa.ite (v:=false) rfl (fun h=>nomatch h) (fun _=>?_)
   | refine aa.ite rfl (fun _=>?_) (fun _=>?_)
   | refine aa.call (by assumption) ?_
   | refine aa.tvs (by assumption) ?_
   | (refine f40_0_J ?_; unfold f40_0) | (refine f40_1_J ?_; unfold f40_1) | refine aa.call h38 ?_ | refine aa.call h37 ?_)
  all_goals (apply aL; rw [eg (n:=10) (d:=false) (a:=true) (b:=true) (k:=false) (c:=false) rfl (by decide +kernel) (by decide +kernel) (by decide +kernel) (by decide +kernel) (by decide +kernel) (by decide +kernel)]; simp_all [aO,bz,bI,aB,aw])
 by_cases h11:op=11
 ·subst h11
  repeat' (first
   | refine aa.chk rfl ?_
   | refine aa.tv rfl ?_
   | refine aa.tv (RL.len (by assumption)) ?_
   | refine aa.nat rfl ?_
   | refine aa.ite (v:=true) rfl (fun _=>?_) (fun h=>nomatch h)
   | refine aa.ite (v:=false) rfl (fun h=>nomatch h) (fun _=>?_)
   | refine aa.ite rfl (fun _=>?_) (fun _=>?_)
   | refine aa.call (by assumption) ?_
   | refine aa.tvs (by assumption) ?_
   | (refine f40_0_J ?_; unfold f40_0) | (refine f40_1_J ?_; unfold f40_1) | refine aa.call h38 ?_ | refine aa.call h37 ?_)
  all_goals (apply aL; rw [eg (n:=11) (d:=true) (a:=false) (b:=false) (k:=false) (c:=true) rfl (by decide +kernel) (by decide +kernel) (by decide +kernel) (by decide +kernel) (by decide +kernel) (by decide +kernel)]; simp_all [aO,bz,iF,aB,aw])
 by_cases h12:op=12
 ·subst h12
  repeat' (first
   | refine aa.chk rfl ?_
   | refine aa.tv rfl ?_
   | refine aa.tv (RL.len (by assumption)) ?_
   | refine aa.nat rfl ?_
   | refine aa.ite (v:=true) rfl (fun _=>?_) (fun h=>nomatch h)
   | refine aa.ite (v:=false) rfl (fun h=>nomatch h) (fun _=>?_)
   | refine aa.ite rfl (fun _=>?_) (fun _=>?_)
   | refine aa.call (by assumption) ?_
   | refine aa.tvs (by assumption) ?_
   | (refine f40_0_J ?_; unfold f40_0) | (refine f40_1_J ?_; unfold f40_1) | refine aa.call h38 ?_ | refine aa.call h37 ?_)
  all_goals (apply aL; rw [eg (n:=12) (d:=false) (a:=true) (b:=false) (k:=false) (c:=false) rfl (by decide +kernel) (by decide +kernel) (by decide +kernel) (by decide +kernel) (by decide +kernel) (by decide +kernel)]; simp_all [aO,bz,bI,aB,aw])
 by_cases h13:op=13
 ·subst h13
  repeat' (first
   | refine aa.chk rfl ?_
   | refine aa.tv rfl ?_
   | refine aa.tv (RL.len (by assumption)) ?_
   | refine aa.nat rfl ?_
   | refine aa.ite (v:=true) rfl (fun _=>?_) (fun h=>nomatch h)
   | refine aa.ite (v:=false) rfl (fun h=>nomatch h) (fun _=>?_)
   | refine aa.ite rfl (fun _=>?_) (fun _=>?_)
   | refine aa.call (by assumption) ?_
   | refine aa.tvs (by assumption) ?_
   | (refine f40_0_J ?_; unfold f40_0) | (refine f40_1_J ?_; unfold f40_1) | refine aa.call h38 ?_ | refine aa.call h37 ?_)
  all_goals (apply aL; rw [eg (n:=13) (d:=true) (a:=false) (b:=false) (k:=false) (c:=false) rfl (by decide +kernel) (by decide +kernel) (by decide +kernel) (by decide +kernel) (by decide +kernel) (by decide +kernel)]; simp_all [aO,bz,bI,aB,aw])
 repeat' (first
  | refine aa.chk rfl ?_
  | refine aa.tv rfl ?_
  | refine aa.tv (RL.len (by assumption)) ?_
  | refine aa.nat rfl ?_
  | refine aa.ite (v:=true) rfl (fun _=>?_) (fun h=>nomatch h)
  | refine aa.ite (v:=false) rfl (fun h=>nomatch h) (fun _=>?_)
  | refine aa.ite rfl (fun _=>?_) (fun _=>?_)
  | refine aa.call (by assumption) ?_
  | refine aa.tvs (by assumption) ?_
  | (refine f40_0_J ?_; unfold f40_0) | (refine f40_1_J ?_; unfold f40_1) | refine aa.call h38 ?_ | refine aa.call h37 ?_)
 all_goals first
  | (exfalso; simp_all; done)
  | (apply aP; intro h; have h:=h.1; simp [iu, *] at h; exact absurd h (by decide))
set_option maxHeartbeats 4000000 in
theorem r21 {q q' q2:Option Bool} {x y:TV} {e:List TV} {fs:List DFunc} {bs:List DBlock} {p regs:Int} {a:DEnd} (hx:RL q 3 (RFunc q) x fs) (hy:RL q2 14 (RBlock q2) y bs) (he:REnd q' e a):aG prog 39 [.agg [x],.agg [I p,I regs,y],.agg e] (B (tt (rC fs regs bs a))):=by
 obtain ⟨g,rfl,hg,_⟩:=he
 obtain ⟨kind,a,dst,f,args,to,els,pad⟩:=a
 have h36:∀ {n:Int},aG prog 55 [.agg [I p,I regs,y],I n] (B (tt (fy bs n false))):=r36 hy
 have h37:∀ {n:Int},aG prog 56 [.agg [x],.agg [I p,I regs,y],I n,g] (B (tt (pP fs regs n args))):=r37 hx hg
 have last:∀ (f:FuncId) (r:TV) (k:List TV→Prg TV),tt (within pad bs.length)=true→(∀ b e,0≤pad→bs[pad.toNat]? = some b→RBlock q2 e b→pidx 14 y (I pad)=some e→aa prog f (k e) r)→aa prog f (.tvs (pidx 14 y (I pad)) k) r:=by
  intro f r k h hk
  rw [aB] at h
  have hlt:pad.toNat < bs.length:=by have:=h.1; have:=h.2; omega
  have hf:bs[pad.toNat]? = some bs[pad.toNat]:=C7 hlt
  obtain ⟨e,he,hr⟩:=hy.wI (k:=.i64) h.1 hf
  exact aa.tvs he (hk _ _ h.1 hf hr he)
 refine aG.of (f39_MR _ _ _) ?_
 unfold f39_M
 by_cases h1:kind=1
 ·subst h1
  repeat' (first
   | refine aa.chk rfl ?_
   | refine aa.tv rfl ?_
   | refine aa.tv (RL.len (by assumption)) ?_
   | refine aa.nat rfl ?_
   | refine aa.ite (v:=true) rfl (fun _=>?_) (fun h=>nomatch h)
   | refine aa.ite (v:=false) rfl (fun h=>nomatch h) (fun _=>?_)
   | refine aa.ite rfl (fun _=>?_) (fun _=>?_)
   | refine aa.call (by assumption) ?_
   | refine aa.tvs (by assumption) ?_
   | (refine f39_0_J ?_; unfold f39_0) | (refine f39_1_J ?_; unfold f39_1) | refine aa.call h36 ?_ | refine aa.call h37 ?_ | refine aa.call (r35 _ _) ?_)
  all_goals first
   | (apply aL; rw [cp (n:=1) (a:=true) (d:=false) (c:=false) (t:=false) (e:=false) (p:=false) rfl (by decide +kernel) (by decide +kernel) (by decide +kernel) (by decide +kernel) (by decide +kernel) (by decide +kernel) (by decide +kernel)]; simp_all [aO,bz,bI,ep,aB,aw]; done)
   | (refine last _ _ _ (by assumption) fun b e h0 hb hr he=>?_; obtain ⟨_,_,_,rfl,_⟩:=hr; refine aa.chk rfl ?_; apply aL; rw [cp (n:=1) (a:=true) (d:=false) (c:=false) (t:=false) (e:=false) (p:=false) rfl (by decide +kernel) (by decide +kernel) (by decide +kernel) (by decide +kernel) (by decide +kernel) (by decide +kernel) (by decide +kernel)]; have hgl:fy bs pad true ↔ b.landing=true:=⟨fun ⟨_,b',hb',hl⟩=>(by rw [hb] at hb'; cases hb'; exact hl),fun h=>⟨h0,b,hb,h⟩⟩; simp only [dc,hgl,aO,bz,iF,bI,ep]; clear hgl; simp_all [aB,aw]; done)
   | (apply aP; rw [cp (n:=1) (a:=true) (d:=false) (c:=false) (t:=false) (e:=false) (p:=false) rfl (by decide +kernel) (by decide +kernel) (by decide +kernel) (by decide +kernel) (by decide +kernel) (by decide +kernel) (by decide +kernel)]; rintro ⟨_,_,_,_,_,hp⟩; rw [dc] at hp; obtain ⟨h0,b,hb,_⟩:=hp; have h9:=(C6.1 hb).1; have h10:tt (within pad bs.length)=false:=(by assumption); rw [aw] at h10; have h9:pad.toNat < bs.length:=h9; have h0:0≤pad:=h0; exact h10 ⟨h0,by omega⟩)
 by_cases h5:kind=5
 ·subst h5
  repeat' (first
   | refine aa.chk rfl ?_
   | refine aa.tv rfl ?_
   | refine aa.tv (RL.len (by assumption)) ?_
   | refine aa.nat rfl ?_
   | refine aa.ite (v:=true) rfl (fun _=>?_) (fun h=>nomatch h)
   | refine aa.ite (v:=false) rfl (fun h=>nomatch h) (fun _=>?_)
   | refine aa.ite rfl (fun _=>?_) (fun _=>?_)
   | refine aa.call (by assumption) ?_
   | refine aa.tvs (by assumption) ?_
   | (refine f39_0_J ?_; unfold f39_0) | (refine f39_1_J ?_; unfold f39_1) | refine aa.call h36 ?_ | refine aa.call h37 ?_ | refine aa.call (r35 _ _) ?_)
  all_goals first
   | (apply aL; rw [cp (n:=5) (a:=true) (d:=false) (c:=false) (t:=false) (e:=false) (p:=false) rfl (by decide +kernel) (by decide +kernel) (by decide +kernel) (by decide +kernel) (by decide +kernel) (by decide +kernel) (by decide +kernel)]; simp_all [aO,bz,bI,ep,aB,aw]; done)
   | (refine last _ _ _ (by assumption) fun b e h0 hb hr he=>?_; obtain ⟨_,_,_,rfl,_⟩:=hr; refine aa.chk rfl ?_; apply aL; rw [cp (n:=5) (a:=true) (d:=false) (c:=false) (t:=false) (e:=false) (p:=false) rfl (by decide +kernel) (by decide +kernel) (by decide +kernel) (by decide +kernel) (by decide +kernel) (by decide +kernel) (by decide +kernel)]; have hgl:fy bs pad true ↔ b.landing=true:=⟨fun ⟨_,b',hb',hl⟩=>(by rw [hb] at hb'; cases hb'; exact hl),fun h=>⟨h0,b,hb,h⟩⟩; simp only [dc,hgl,aO,bz,iF,bI,ep]; clear hgl; simp_all [aB,aw]; done)
   | (apply aP; rw [cp (n:=5) (a:=true) (d:=false) (c:=false) (t:=false) (e:=false) (p:=false) rfl (by decide +kernel) (by decide +kernel) (by decide +kernel) (by decide +kernel) (by decide +kernel) (by decide +kernel) (by decide +kernel)]; rintro ⟨_,_,_,_,_,hp⟩; rw [dc] at hp; obtain ⟨h0,b,hb,_⟩:=hp; have h9:=(C6.1 hb).1; have h10:tt (within pad bs.length)=false:=(by assumption); rw [aw] at h10; have h9:pad.toNat < bs.length:=h9; have h0:0≤pad:=h0; exact h10 ⟨h0,by omega⟩)
 by_cases h2:kind=2
 ·subst h2
  repeat' (first
   | refine aa.chk rfl ?_
   | refine aa.tv rfl ?_
   | refine aa.tv (RL.len (by assumption)) ?_
   | refine aa.nat rfl ?_
   | refine aa.ite (v:=true) rfl (fun _=>?_) (fun h=>nomatch h)
   | refine aa.ite (v:=false) rfl (fun h=>nomatch h) (fun _=>?_)
   | refine aa.ite rfl (fun _=>?_) (fun _=>?_)
   | refine aa.call (by assumption) ?_
   | refine aa.tvs (by assumption) ?_
   | (refine f39_0_J ?_; unfold f39_0) | (refine f39_1_J ?_; unfold f39_1) | refine aa.call h36 ?_ | refine aa.call h37 ?_ | refine aa.call (r35 _ _) ?_)
  all_goals first
   | (apply aL; rw [cp (n:=2) (a:=false) (d:=false) (c:=false) (t:=true) (e:=false) (p:=false) rfl (by decide +kernel) (by decide +kernel) (by decide +kernel) (by decide +kernel) (by decide +kernel) (by decide +kernel) (by decide +kernel)]; simp_all [bz,bI,dc,ep,aB,aw]; done)
   | (refine last _ _ _ (by assumption) fun b e h0 hb hr he=>?_; obtain ⟨_,_,_,rfl,_⟩:=hr; refine aa.chk rfl ?_; apply aL; rw [cp (n:=2) (a:=false) (d:=false) (c:=false) (t:=true) (e:=false) (p:=false) rfl (by decide +kernel) (by decide +kernel) (by decide +kernel) (by decide +kernel) (by decide +kernel) (by decide +kernel) (by decide +kernel)]; have hgl:fy bs pad true ↔ b.landing=true:=⟨fun ⟨_,b',hb',hl⟩=>(by rw [hb] at hb'; cases hb'; exact hl),fun h=>⟨h0,b,hb,h⟩⟩; simp only [dc,hgl,aO,bz,iF,bI,ep]; clear hgl; simp_all [aB,aw]; done)
   | (apply aP; rw [cp (n:=2) (a:=false) (d:=false) (c:=false) (t:=true) (e:=false) (p:=false) rfl (by decide +kernel) (by decide +kernel) (by decide +kernel) (by decide +kernel) (by decide +kernel) (by decide +kernel) (by decide +kernel)]; rintro ⟨_,_,_,_,_,hp⟩; rw [dc] at hp; obtain ⟨h0,b,hb,_⟩:=hp; have h9:=(C6.1 hb).1; have h10:tt (within pad bs.length)=false:=(by assumption); rw [aw] at h10; have h9:pad.toNat < bs.length:=h9; have h0:0≤pad:=h0; exact h10 ⟨h0,by omega⟩)
 by_cases h3:kind=3
 ·subst h3
  repeat' (first
   | refine aa.chk rfl ?_
   | refine aa.tv rfl ?_
   | refine aa.tv (RL.len (by assumption)) ?_
   | refine aa.nat rfl ?_
   | refine aa.ite (v:=true) rfl (fun _=>?_) (fun h=>nomatch h)
   | refine aa.ite (v:=false) rfl (fun h=>nomatch h) (fun _=>?_)
   | refine aa.ite rfl (fun _=>?_) (fun _=>?_)
   | refine aa.call (by assumption) ?_
   | refine aa.tvs (by assumption) ?_
   | (refine f39_0_J ?_; unfold f39_0) | (refine f39_1_J ?_; unfold f39_1) | refine aa.call h36 ?_ | refine aa.call h37 ?_ | refine aa.call (r35 _ _) ?_)
  all_goals first
   | (apply aL; rw [cp (n:=3) (a:=true) (d:=false) (c:=false) (t:=true) (e:=true) (p:=false) rfl (by decide +kernel) (by decide +kernel) (by decide +kernel) (by decide +kernel) (by decide +kernel) (by decide +kernel) (by decide +kernel)]; simp_all [aO,bz,bI,dc,ep,aB,aw]; done)
   | (refine last _ _ _ (by assumption) fun b e h0 hb hr he=>?_; obtain ⟨_,_,_,rfl,_⟩:=hr; refine aa.chk rfl ?_; apply aL; rw [cp (n:=3) (a:=true) (d:=false) (c:=false) (t:=true) (e:=true) (p:=false) rfl (by decide +kernel) (by decide +kernel) (by decide +kernel) (by decide +kernel) (by decide +kernel) (by decide +kernel) (by decide +kernel)]; have hgl:fy bs pad true ↔ b.landing=true:=⟨fun ⟨_,b',hb',hl⟩=>(by rw [hb] at hb'; cases hb'; exact hl),fun h=>⟨h0,b,hb,h⟩⟩; simp only [dc,hgl,aO,bz,iF,bI,ep]; clear hgl; simp_all [aB,aw]; done)
   | (apply aP; rw [cp (n:=3) (a:=true) (d:=false) (c:=false) (t:=true) (e:=true) (p:=false) rfl (by decide +kernel) (by decide +kernel) (by decide +kernel) (by decide +kernel) (by decide +kernel) (by decide +kernel) (by decide +kernel)]; rintro ⟨_,_,_,_,_,hp⟩; rw [dc] at hp; obtain ⟨h0,b,hb,_⟩:=hp; have h9:=(C6.1 hb).1; have h10:tt (within pad bs.length)=false:=(by assumption); rw [aw] at h10; have h9:pad.toNat < bs.length:=h9; have h0:0≤pad:=h0; exact h10 ⟨h0,by omega⟩)
 by_cases h4:kind=4
 ·subst h4
  repeat' (first
   | refine aa.chk rfl ?_
   | refine aa.tv rfl ?_
   | refine aa.tv (RL.len (by assumption)) ?_
   | refine aa.nat rfl ?_
   | refine aa.ite (v:=true) rfl (fun _=>?_) (fun h=>nomatch h)
   | refine aa.ite (v:=false) rfl (fun h=>nomatch h) (fun _=>?_)
   | refine aa.ite rfl (fun _=>?_) (fun _=>?_)
   | refine aa.call (by assumption) ?_
   | refine aa.tvs (by assumption) ?_
   | (refine f39_0_J ?_; unfold f39_0) | (refine f39_1_J ?_; unfold f39_1) | refine aa.call h36 ?_ | refine aa.call h37 ?_ | refine aa.call (r35 _ _) ?_)
  all_goals first
   | (apply aL; rw [cp (n:=4) (a:=false) (d:=true) (c:=true) (t:=true) (e:=false) (p:=true) rfl (by decide +kernel) (by decide +kernel) (by decide +kernel) (by decide +kernel) (by decide +kernel) (by decide +kernel) (by decide +kernel)]; simp_all [aO,bz,iF,dc,ep,aB,aw]; done)
   | (refine last _ _ _ (by assumption) fun b e h0 hb hr he=>?_; obtain ⟨_,_,_,rfl,_⟩:=hr; refine aa.chk rfl ?_; apply aL; rw [cp (n:=4) (a:=false) (d:=true) (c:=true) (t:=true) (e:=false) (p:=true) rfl (by decide +kernel) (by decide +kernel) (by decide +kernel) (by decide +kernel) (by decide +kernel) (by decide +kernel) (by decide +kernel)]; have hgl:fy bs pad true ↔ b.landing=true:=⟨fun ⟨_,b',hb',hl⟩=>(by rw [hb] at hb'; cases hb'; exact hl),fun h=>⟨h0,b,hb,h⟩⟩; simp only [dc,hgl,aO,bz,iF,ep]; clear hgl; simp_all [aB]; done)
   | (apply aP; rw [cp (n:=4) (a:=false) (d:=true) (c:=true) (t:=true) (e:=false) (p:=true) rfl (by decide +kernel) (by decide +kernel) (by decide +kernel) (by decide +kernel) (by decide +kernel) (by decide +kernel) (by decide +kernel)]; rintro ⟨_,_,_,_,_,hp⟩; rw [dc] at hp; obtain ⟨h0,b,hb,_⟩:=hp; have h9:=(C6.1 hb).1; have h10:tt (within pad bs.length)=false:=(by assumption); rw [aw] at h10; have h9:pad.toNat < bs.length:=h9; have h0:0≤pad:=h0; exact h10 ⟨h0,by omega⟩)
 by_cases h6:kind=6
 ·subst h6
  repeat' (first
   | refine aa.chk rfl ?_
   | refine aa.tv rfl ?_
   | refine aa.tv (RL.len (by assumption)) ?_
   | refine aa.nat rfl ?_
   | refine aa.ite (v:=true) rfl (fun _=>?_) (fun h=>nomatch h)
   | refine aa.ite (v:=false) rfl (fun h=>nomatch h) (fun _=>?_)
   | refine aa.ite rfl (fun _=>?_) (fun _=>?_)
   | refine aa.call (by assumption) ?_
   | refine aa.tvs (by assumption) ?_
   | (refine f39_0_J ?_; unfold f39_0) | (refine f39_1_J ?_; unfold f39_1) | refine aa.call h36 ?_ | refine aa.call h37 ?_ | refine aa.call (r35 _ _) ?_)
  all_goals first
   | (apply aL; rw [cp (n:=6) (a:=false) (d:=false) (c:=false) (t:=false) (e:=false) (p:=false) rfl (by decide +kernel) (by decide +kernel) (by decide +kernel) (by decide +kernel) (by decide +kernel) (by decide +kernel) (by decide +kernel)]; simp_all [bz,bI,ep,aB]; done)
   | (refine last _ _ _ (by assumption) fun b e h0 hb hr he=>?_; obtain ⟨_,_,_,rfl,_⟩:=hr; refine aa.chk rfl ?_; apply aL; rw [cp (n:=6) (a:=false) (d:=false) (c:=false) (t:=false) (e:=false) (p:=false) rfl (by decide +kernel) (by decide +kernel) (by decide +kernel) (by decide +kernel) (by decide +kernel) (by decide +kernel) (by decide +kernel)]; have hgl:fy bs pad true ↔ b.landing=true:=⟨fun ⟨_,b',hb',hl⟩=>(by rw [hb] at hb'; cases hb'; exact hl),fun h=>⟨h0,b,hb,h⟩⟩; simp only [dc,hgl,aO,bz,iF,bI,ep]; clear hgl; simp_all [aB,aw]; done)
   | (apply aP; rw [cp (n:=6) (a:=false) (d:=false) (c:=false) (t:=false) (e:=false) (p:=false) rfl (by decide +kernel) (by decide +kernel) (by decide +kernel) (by decide +kernel) (by decide +kernel) (by decide +kernel) (by decide +kernel)]; rintro ⟨_,_,_,_,_,hp⟩; rw [dc] at hp; obtain ⟨h0,b,hb,_⟩:=hp; have h9:=(C6.1 hb).1; have h10:tt (within pad bs.length)=false:=(by assumption); rw [aw] at h10; have h9:pad.toNat < bs.length:=h9; have h0:0≤pad:=h0; exact h10 ⟨h0,by omega⟩)
 repeat' (first
  | refine aa.chk rfl ?_
  | refine aa.tv rfl ?_
  | refine aa.tv (RL.len (by assumption)) ?_
  | refine aa.nat rfl ?_
  | refine aa.ite (v:=true) rfl (fun _=>?_) (fun h=>nomatch h)
  | refine aa.ite (v:=false) rfl (fun h=>nomatch h) (fun _=>?_)
  | refine aa.ite rfl (fun _=>?_) (fun _=>?_)
  | refine aa.call (by assumption) ?_
  | refine aa.tvs (by assumption) ?_
  | (refine f39_0_J ?_; unfold f39_0) | (refine f39_1_J ?_; unfold f39_1) | refine aa.call h36 ?_ | refine aa.call h37 ?_ | refine aa.call (r35 _ _) ?_)
 all_goals first
  | (exfalso; simp_all; done)
  | (apply aP; intro h; have h:=h.1; simp [dp, *] at h; exact absurd h (by decide))
theorem nw {l:List Int} {i:Nat} {a:Int}:a ∈ l.take i ↔ ∃ k,k < i∧l[k]? = some a:=by
 rw [List.mem_iff_getElem?]
 constructor
 ·rintro ⟨k,hk⟩
  rw [List.getElem?_take] at hk
  split at hk
  ·exact ⟨k,by assumption,hk⟩
  ·cases hk
 ·rintro ⟨k,h1,h2⟩
  exact ⟨k,by rw [List.getElem?_take,if_pos h1]; exact h2⟩
theorem r20 {q q':Option Bool} {y:TV} {e:List TV} {p regs:Int} {b:DBlock} (he:RBlock q' e b):aG prog 38 [.agg [I p,I regs,y],.agg e] (B (tt (uE b.landing regs b.pad))):=by
 obtain ⟨c,i,g,rfl,hc,hd,hi,hg,ho⟩:=he
 refine aG.of (f38_MR _ _) ?_
 unfold f38_M
 cases hl:b.landing
 ·repeat' (first
   | refine aa.chk rfl ?_
   | refine aa.tv rfl ?_
   | refine aa.tv (RL.len (by assumption)) ?_
   | refine aa.nat rfl ?_
   | refine aa.ite (v:=true) rfl (fun _=>?_) (fun h=>nomatch h)
   | refine aa.ite (v:=false) rfl (fun h=>nomatch h) (fun _=>?_)
   | refine aa.ite rfl (fun _=>?_) (fun _=>?_)
   | refine aa.call (by assumption) ?_
   | refine aa.tvs (by assumption) ?_
   )
  all_goals (apply aL; simp_all [uE])
 ·refine aa.chk rfl (aa.chk rfl (aa.tv rfl (aa.ite rfl (fun h=>nomatch h) fun _=>?_)))
  refine f38_0_J ?_
  rw [show tt (uE true regs b.pad)=tt (within b.pad.dst regs∧b.pad.catches.length≤8∧qh b.pad.catches∧(b.pad.catches≠[]∨b.pad.all=true∨b.pad.cleanup=true)) from bU ⟨fun h=>h.2 rfl,fun h=>⟨(fun h=>nomatch h),fun _=>h⟩⟩]
  refine rz (n:=b.pad.catches.length) (P:=fun i=>i < 8∧∀ a,b.pad.catches[i]? = some a→a ∉ b.pad.catches.take i) (g:=fun k=>f38_0 (I k) (I p) (I regs) y (I b.pad.dst) c (B b.pad.all) (B b.pad.cleanup)) ?_ ?_ ?_
  ·intro hn
   rw [lu]
   rintro ⟨_,h8,hu,_⟩
   exact hn fun i hi=>⟨by omega,hu i hi⟩
  ·intro hall
   have h8:b.pad.catches.length≤8:=by
    by_cases h:b.pad.catches.length≤8
    ·exact h
    ·have:=(hall 8 (by omega)).1; omega
   have hu:qh b.pad.catches:=fun i hi=>(hall i hi).2
   unfold f38_0
   refine aa.tv (RL.len (by assumption)) (aa.tv rfl (aa.ite bg (fun h=>nomatch h) fun _=>?_))
   refine f38_2_J ?_
   unfold f38_2
   repeat' (first
    | refine aa.chk rfl ?_
    | refine aa.tv rfl ?_
    | refine aa.tv (RL.len (by assumption)) ?_
    | refine aa.nat rfl ?_
    | refine aa.ite (v:=true) rfl (fun _=>?_) (fun h=>nomatch h)
    | refine aa.ite (v:=false) rfl (fun h=>nomatch h) (fun _=>?_)
    | refine aa.ite rfl (fun _=>?_) (fun _=>?_)
    | refine aa.call (by assumption) ?_
    | refine aa.tvs (by assumption) ?_
    | refine aa.call (r35 _ _) ?_)
   all_goals (apply aL; simp_all [aB,aw,List.length_pos_iff])
  ·intro k hk r h1 h2
   have ha:b.pad.catches[k]? = some b.pad.catches[k]:=C7 hk
   obtain ⟨e,he,rfl,_⟩:=hc.idx (k:=.i64) ha
   unfold f38_0
   refine aa.tv (RL.len (by assumption)) (aa.tv rfl (aa.ite (br hk) (fun _=>?_) fun h=>nomatch h))
   refine aa.tv rfl (aa.ite rfl (fun h=>?_) fun h=>?_)
   ·rw [h1 (by simp at h; omega)]; exact aa.ret
   ·have h8:k < 8:=by simp at h; omega
    refine f38_1_J ?_
    refine rz (n:=k) (P:=fun j=>b.pad.catches[j]? ≠ b.pad.catches[k]?) (g:=fun j=>f38_1 (I k) (I j) (I p) (I regs) y (I b.pad.dst) c (B b.pad.all) (B b.pad.cleanup)) ?_ ?_ ?_
    ·intro hn
     refine h1 fun h'=>hn fun j hj hjk=>?_
     rw [ha] at hjk
     exact h'.2 _ ha (nw.2 ⟨j,hj,hjk⟩)
    ·intro hall
     unfold f38_1
     refine aa.tv rfl (aa.ite bg (fun h=>nomatch h) fun _=>?_)
     refine aa.tv (inc hk hc.bnd) (f38_0_J (h2 ⟨h8,fun a h3 h4=>?_⟩))
     obtain ⟨j,hj,h5⟩:=nw.1 h4
     exact hall j hj (by rw [h5,h3])
    ·intro j hj r g1 g2
     have hjl:j < b.pad.catches.length:=by omega
     have hb:b.pad.catches[j]? = some b.pad.catches[j]:=C7 hjl
     obtain ⟨e,he2,rfl,_⟩:=hc.idx (k:=.i64) hb
     unfold f38_1
     refine aa.tv rfl (aa.ite (br hj) (fun _=>?_) fun h=>nomatch h)
     refine aa.tvs he2 (aa.chk rfl (aa.tvs he (aa.chk rfl (aa.tv rfl (aa.ite rfl (fun h=>?_) fun h=>?_)))))
     ·rw [g1 (by rw [ha,hb]; simpa using h)]; exact aa.ret
     ·refine aa.tv (inc hjl hc.bnd) (f38_1_J (g2 ?_))
      rw [ha,hb]; simpa using h
theorem r11 {q q':Option Bool} {e e':List TV} {m:DMod} {f:DFunc} (hm:RMod q e m) (hf:RFunc q' e' f):aG prog 23 [.agg e,.agg e'] (B (tt (pn m.funcs f))):=by
 obtain ⟨x,rfl,hx⟩:=hm
 obtain ⟨y,rfl,hy,_⟩:=hf
 refine aG.of (f23_MR _ _) ?_
 unfold f23_M
 refine aa.chk rfl (aa.chk rfl (aa.tv rfl (aa.ite rfl (fun h=>?_) fun g1=>?_)))
 ·simp at h; exact aP fun h'=>by have:=h'.1; omega
 refine aa.tv rfl (aa.ite rfl (fun h=>?_) fun g2=>?_)
 ·simp at h; exact aP fun h'=>by have:=h'.1; omega
 refine aa.tv rfl (aa.ite rfl (fun h=>?_) fun g3=>?_)
 ·simp at h; exact aP fun h'=>by have:=h'.1; omega
 refine aa.tv rfl (aa.ite rfl (fun h=>?_) fun g4=>?_)
 ·simp at h; exact aP fun h'=>by have:=h'.1; omega
 refine aa.tv hy.len (aa.tv rfl (aa.ite rfl (fun h=>?_) fun g5=>?_))
 ·simp at h
  refine aP ?_
  rintro ⟨_,_,⟨b,hb,_⟩,_⟩
  rw [h] at hb
  simp at hb
 refine aa.tv hy.len (aa.tv rfl (aa.ite rfl (fun h=>?_) fun g6=>?_))
 ·simp at h; exact aP fun h'=>by have:=h'.2.1; omega
 simp at g1 g2 g3 g4 g5 g6
 have hpos:0 < f.blocks.length:=List.length_pos_iff.2 g5
 have hb0:f.blocks[0]? = some f.blocks[0]:=C7 hpos
 obtain ⟨e0,he0,hr0⟩:=hy.idx (k:=.i64) hb0
 obtain ⟨_,_,_,rfl,_⟩:=hr0
 refine aa.tvs he0 (aa.chk rfl (aa.ite rfl (fun h=>?_) fun g7=>?_))
 ·refine aP ?_
  rintro ⟨_,_,⟨b,hb,hl⟩,_⟩
  rw [hb0] at hb
  simp at hb
  subst hb
  rw [hl] at h
  cases h
 refine f23_0_J ?_
 rw [show tt (pn m.funcs f)=tt (∀ i,i < f.blocks.length→∀ b,f.blocks[i]? = some b→iZ m.funcs f.regs f.blocks b) from bU
  ⟨fun h=>h.2.2.2,fun h=>⟨⟨by omega,by omega,by omega,by omega⟩,by omega,⟨_,hb0,g7⟩,h⟩⟩]
 refine ia (g:=fun k=>f23_0 (I k) x (I f.params) (I f.regs) y) ?_ ?_
 ·unfold f23_0
  refine aa.tv (RL.len (by assumption)) (aa.tv rfl (aa.ite bg (fun h=>nomatch h) fun _=>?_))
  exact aa.ret
 ·intro k hk r h1 h2
  have ha:f.blocks[k]? = some f.blocks[k]:=C7 hk
  obtain ⟨e,he,hr⟩:=hy.idx (k:=.i64) ha
  have h1:¬ iZ m.funcs f.regs f.blocks f.blocks[k]→r=B false:=fun h=>h1 fun h'=>h (h' _ ha)
  have h2:iZ m.funcs f.regs f.blocks f.blocks[k]→aa prog 23 (f23_0 (I ((k + 1:Nat):Int)) x (I f.params) (I f.regs) y) r:=fun h=>h2 fun b hb=>by rw [ha] at hb; cases hb; exact h
  generalize f.blocks[k]=b at *
  have h20:aG prog 38 [.agg [I f.params,I f.regs,y],.agg e] (B (tt (uE b.landing f.regs b.pad))):=r20 (q:=q) hr
  obtain ⟨c,i,g,rfl,hc,hd,hi,hg,ho⟩:=hr
  have h21:aG prog 39 [.agg [x],.agg [I f.params,I f.regs,y],.agg [I b.fin.kind,I b.fin.a,I b.fin.dst,I b.fin.f,g,I b.fin.to,I b.fin.els,I b.fin.pad]] (B (tt (rC m.funcs f.regs f.blocks b.fin))):=r21 (q':=q') hx hy ⟨g,rfl,hg,ho⟩
  unfold f23_0
  refine aa.tv (RL.len (by assumption)) (aa.tv rfl (aa.ite (br hk) (fun _=>?_) fun h=>nomatch h))
  refine aa.tvs he (aa.chk rfl (aa.tv hi.len (aa.tv rfl (aa.ite rfl (fun h=>?_) fun g1=>?_))))
  ·rw [h1 (fun h'=>by have:=h'.1; simp at h; omega)]; exact aa.ret
  refine aa.call h20 (aa.chk rfl (aa.tv rfl (aa.ite rfl (fun h=>?_) fun g2=>?_)))
  ·rw [h1 (fun h'=>by simp [aw] at h; exact h h'.2.1)]; exact aa.ret
  refine aa.call h21 (aa.chk rfl (aa.tv rfl (aa.ite rfl (fun h=>?_) fun g3=>?_)))
  ·rw [h1 (fun h'=>by simp [aw] at h; exact h h'.2.2.2)]; exact aa.ret
  simp [aB] at g1 g2 g3
  refine f23_1_J ?_
  refine rz (n:=b.ins.length) (P:=fun j=>∀ u,b.ins[j]? = some u→sO m.funcs f.regs u) (g:=fun j=>f23_1 (I k) (I j) x (I f.params) (I f.regs) y (B b.landing) (I b.pad.dst) c (B b.pad.all) (B b.pad.cleanup) i (I b.fin.kind) (I b.fin.a) (I b.fin.dst) (I b.fin.f) g (I b.fin.to) (I b.fin.els) (I b.fin.pad)) ?_ ?_ ?_
  ·intro hn; exact h1 fun h'=>hn h'.2.2.1
  ·intro hall
   unfold f23_1
   refine aa.tv (RL.len (by assumption)) (aa.tv rfl (aa.ite bg (fun h=>nomatch h) fun _=>?_))
   exact aa.tv (inc hk hy.bnd) (f23_0_J (h2 ⟨by omega,g2,hall,g3⟩))
  ·intro j hj r k1 k2
   have hau:b.ins[j]? = some b.ins[j]:=C7 hj
   obtain ⟨e,he,hea⟩:=hi.idx (k:=.i64) hau
   have h22:aG prog 40 [.agg [x],.agg [I f.params,I f.regs,y],.agg e] (B (tt (sO m.funcs f.regs b.ins[j]))):=r22 hx hea
   obtain ⟨_,rfl,_⟩:=hea
   unfold f23_1
   refine aa.tv (RL.len (by assumption)) (aa.tv rfl (aa.ite (br hj) (fun _=>?_) fun h=>nomatch h))
   refine aa.tvs he (aa.chk rfl (aa.call h22 (aa.chk rfl (aa.tv rfl (aa.ite rfl (fun h=>?_) fun h=>?_)))))
   ·rw [k1 (by simp [hau]; simpa [aw] using h)]; exact aa.ret
   ·refine aa.tv (inc hj hi.bnd) (f23_1_J (k2 ?_))
    simp [hau]; simpa [aB] using h
theorem r9 {q:Option Bool} {e:List TV} {m:DMod} (hm:RMod q e m):aG prog 11 [.agg e] (B (tt (j6 m))):=by
 have hm':=hm
 obtain ⟨x,rfl,hx⟩:=hm
 refine aG.of (f11_MR _) ?_
 unfold f11_M
 refine aa.chk rfl (aa.tv hx.len (aa.tv rfl (aa.ite rfl (fun h=>?_) fun g1=>?_)))
 ·simp at h
  refine aP ?_
  rintro ⟨_,⟨b,hb,_⟩,_⟩
  rw [h] at hb
  simp at hb
 refine aa.tv hx.len (aa.tv rfl (aa.ite rfl (fun h=>?_) fun g2=>?_))
 ·simp at h; exact aP fun h'=>by have:=h'.1; omega
 simp at g1 g2
 have hpos:0 < m.funcs.length:=List.length_pos_iff.2 g1
 have hb0:m.funcs[0]? = some m.funcs[0]:=C7 hpos
 obtain ⟨e0,he0,hr0⟩:=hx.idx (k:=.i64) hb0
 obtain ⟨_,rfl,_⟩:=hr0
 refine aa.tvs he0 (aa.chk rfl (aa.tv rfl (aa.ite rfl (fun h=>?_) fun g7=>?_)))
 ·refine aP ?_
  rintro ⟨_,⟨b,hb,hl⟩,_⟩
  rw [hb0] at hb
  simp at hb
  subst hb
  rw [hl] at h
  simp at h
 simp at g7
 refine f11_0_J ?_
 rw [show tt (j6 m)=tt (∀ i,i < m.funcs.length→∀ f,m.funcs[i]? = some f→pn m.funcs f) from bU ⟨fun h=>h.2.2,fun h=>⟨by omega,⟨_,hb0,g7⟩,h⟩⟩]
 refine ia (g:=fun k=>f11_0 (I k) x) ?_ ?_
 ·unfold f11_0
  refine aa.tv (RL.len (by assumption)) (aa.tv rfl (aa.ite bg (fun h=>nomatch h) fun _=>?_))
  exact aa.ret
 ·intro k hk r h1 h2
  have ha:m.funcs[k]? = some m.funcs[k]:=C7 hk
  obtain ⟨e,he,hr⟩:=hx.idx (k:=.i64) ha
  have h11:=r11 hm' hr
  obtain ⟨_,rfl,_⟩:=hr
  unfold f11_0
  refine aa.tv (RL.len (by assumption)) (aa.tv rfl (aa.ite (br hk) (fun _=>?_) fun h=>nomatch h))
  refine aa.tvs he (aa.chk rfl (aa.call h11 (aa.chk rfl (aa.tv rfl (aa.ite rfl (fun h=>?_) fun h=>?_)))))
  ·rw [h1 (by simp [ha]; simpa [aw] using h)]; exact aa.ret
  ·refine aa.tv (inc hk hx.bnd) (f11_0_J (h2 ?_))
   simp [ha]; simpa [aB] using h
end Go.Ab.T12
end
section
set_option maxRecDepth 10000
namespace Go.Ab
section
variable {α β:Type} {p:Way} {w y:TV} {s:Nat} {R:List TV→α→Prop} {Q:TV→β→Prop} {G:List α→DMod} {l:List α}
theorem RL.at (hy:RL (some true) s R y l) {k:Nat} {e:List TV} (he:Go.Ab.pel y k=some e):∃ xs,y=.sl true s xs∧xs[k]? = some e∧F2 R xs l∧xs.length≤9223372036854775807:=by
 rcases hy with ⟨rfl,rfl⟩ | ⟨o,xs,rfl,hq,h,hb⟩
 ·simp [Go.Ab.pel] at he
 ·have:o=true:=hq true rfl
  subst this
  exact ⟨xs,rfl,he,h,hb⟩
end
end Go.Ab
namespace Go.Ab.T12
open Go Go.Ab Go.Proofs
end Go.Ab.T12
end
section
set_option maxRecDepth 10000
namespace Go.Ab
section
variable {α:Type} {s:Nat} {R:List TV→α→Prop} {y:TV} {l:List α}
theorem RL.sH (hy:RL (some true) s R y l) {i:Nat} {e:List TV} (he:Go.Ab.pel y i=some e) {d:Nat} {ys:List TV} {a:α} (hR:R (bK e d ys) a):∃ y',eT [] y i d ys=some y'∧RL (some true) s R y' (l.set i a):=by
 obtain ⟨xs,rfl,hk,hf,hb⟩:=hy.at he
 refine ⟨.sl true s (am xs i (bK e d ys)),by simp only [eT,dK,yk,hk,lm],.sl (by simp) (hf.set hR) (by rw [rt]; exact hb)⟩
end
end Go.Ab
namespace Go.Ab.T12
open Go Go.Ab Go.Proofs
end Go.Ab.T12
end
section
set_option maxRecDepth 10000
namespace Go.Ab
inductive Thr (m:DMod):Nat→Prop
 | thr {n i:Nat} {u:DFunc} {b:DBlock} (hu:m.funcs[n]? = some u) (hb:u.blocks[i]? = some b) (h:b.fin.kind=5∨b.fin.kind=6):Thr m n
 | inv {n i:Nat} {u:DFunc} {b pb:DBlock} (hu:m.funcs[n]? = some u) (hb:u.blocks[i]? = some b) (h:b.fin.kind=4) (hp:u.blocks[b.fin.pad.toNat]? = some pb) (ha:pb.pad.all=false) (ht:Thr m b.fin.f.toNat):Thr m n
 | call {n i k:Nat} {u:DFunc} {b:DBlock} {x:DIns} (hu:m.funcs[n]? = some u) (hb:u.blocks[i]? = some b) (hx:b.ins[k]? = some x) (h:x.op=11) (ht:Thr m x.f.toNat):Thr m n
inductive Doe (m:DMod) (P:Int→Prop):Nat→Prop
 | own {n i k:Nat} {u:DFunc} {b:DBlock} {x:DIns} (hu:m.funcs[n]? = some u) (hb:u.blocks[i]? = some b) (hx:b.ins[k]? = some x) (h:P x.op):Doe m P n
 | inv {n i:Nat} {u:DFunc} {b:DBlock} (hu:m.funcs[n]? = some u) (hb:u.blocks[i]? = some b) (h:b.fin.kind=4) (ht:Doe m P b.fin.f.toNat):Doe m P n
 | call {n i k:Nat} {u:DFunc} {b:DBlock} {x:DIns} (hu:m.funcs[n]? = some u) (hb:u.blocks[i]? = some b) (hx:b.ins[k]? = some x) (h:x.op=11) (ht:Doe m P x.f.toNat):Doe m P n
def kN (F:List Bool) (b:DBlock):Prop:=∃ x ∈ b.ins,x.op=11∧F[x.f.toNat]? = some true
def zi (F:List Bool) (b:DBlock):Prop:=b.fin.kind=4∧F[b.fin.f.toNat]? = some true
def xk (F:List Bool) (u:DFunc) (b:DBlock):Prop:=(b.fin.kind=5∨b.fin.kind=6)∨kN F b∨(zi F b∧∃ pb,u.blocks[b.fin.pad.toNat]? = some pb∧pb.pad.all=false)
def sB (P:Int→Prop) (F:List Bool) (u:DFunc) (b:DBlock):Prop:=(∃ x ∈ b.ins,P x.op)∨kN F b∨zi F b
def uS (X:Nat→Prop) (F:List Bool):Prop:=∀ k:Nat,F[k]? = some true→X k
def l6 (D:List Bool→DFunc→DBlock→Prop) (F:List Bool) (u:DFunc):Prop:=∃ b ∈ u.blocks,D F u b
def ClsL (m:DMod) (D:List Bool→DFunc→DBlock→Prop) (F:List Bool):Prop:=∀ (n:Nat) u,m.funcs[n]? = some u→l6 D F u→F[n]? = some true
structure u6 (m:DMod) (D:List Bool→DFunc→DBlock→Prop) (X:Nat→Prop):Prop where
 up:∀ F,uS X F→∀ (n:Nat) u,m.funcs[n]? = some u→l6 D F u→X n
 dn:∀ F,ClsL m D F→∀ n,X n→F[n]? = some true
theorem sY {m:DMod} {X:Nat→Prop} {F:List Bool} {b:DBlock} (h:uS X F) (hc:kN F b):∃ (k:Nat) (x:DIns),b.ins[k]? = some x∧x.op=11∧X x.f.toNat:=by
 obtain ⟨x,hx,h11,hF⟩:=hc
 obtain ⟨k,hk,rfl⟩:=List.mem_iff_getElem.1 hx
 exact ⟨k,_,C7 hk,h11,h _ hF⟩
theorem zK (m:DMod):u6 m xk (Thr m):=by
 refine ⟨fun F hs n u hu ⟨b,hb,h⟩=>?_,fun F hc n h=>?_⟩
 ·obtain ⟨i,hi,rfl⟩:=List.mem_iff_getElem.1 hb
  have hbi:=C7 hi
  rcases h with h | h | ⟨⟨h4,hF⟩,pb,hp,ha⟩
  ·exact .thr hu hbi h
  ·obtain ⟨k,x,hx,h11,ht⟩:=sY (m:=m) hs h
   exact .call hu hbi hx h11 ht
  ·exact .inv hu hbi h4 hp ha (hs _ hF)
 ·induction h with
  | thr hu hb h=>exact hc _ _ hu ⟨_,Df hb,.inl h⟩
  | inv hu hb h hp ha _ ih=>exact hc _ _ hu ⟨_,Df hb,.inr (.inr ⟨⟨h,ih⟩,_,hp,ha⟩)⟩
  | call hu hb hx h _ ih=>exact hc _ _ hu ⟨_,Df hb,.inr (.inl ⟨_,Df hx,h,ih⟩)⟩
theorem tI (m:DMod) (P:Int→Prop):u6 m (sB P) (Doe m P):=by
 refine ⟨fun F hs n u hu ⟨b,hb,h⟩=>?_,fun F hc n h=>?_⟩
 ·obtain ⟨i,hi,rfl⟩:=List.mem_iff_getElem.1 hb
  have hbi:=C7 hi
  rcases h with ⟨x,hx,hP⟩ | h | ⟨h4,hF⟩
  ·obtain ⟨k,hk,rfl⟩:=List.mem_iff_getElem.1 hx
   exact .own hu hbi (C7 hk) hP
  ·obtain ⟨k,x,hx,h11,ht⟩:=sY (m:=m) hs h
   exact .call hu hbi hx h11 ht
  ·exact .inv hu hbi h4 (hs _ hF)
 ·induction h with
  | own hu hb hx h=>exact hc _ _ hu ⟨_,Df hb,.inl ⟨_,Df hx,h⟩⟩
  | inv hu hb h _ ih=>exact hc _ _ hu ⟨_,Df hb,.inr (.inr ⟨h,ih⟩)⟩
  | call hu hb hx h _ ih=>exact hc _ _ hu ⟨_,Df hb,.inr (.inl ⟨_,Df hx,h,ih⟩)⟩
theorem tY (x:TV):wN x x=true:=by
 unfold wN
 exact Bool.or_eq_true _ _ |>.mpr (.inr (@decide_eq_true _ (Classical.propDecidable _) rfl))
theorem Cm {M:List Bool} {g:Nat} (h:M[g]? = some false):(M.set g true).count false + 1=M.count false:=by
 obtain ⟨hlt,hg⟩:=C6.1 h
 have hpos:0 < M.count false:=List.count_pos_iff.2 (Df h)
 rw [List.count_set hlt]
 simp [hg]
 omega
structure va (m:DMod) (D:List Bool→DFunc→DBlock→Prop) (X:Nat→Prop) (F0 F:List Bool) (g:Bool) (n:Nat):Prop where
 len:F.length=m.funcs.length
 snd:uS X F
 no:g=false→F=F0∧∀ (k:Nat) u,k < n→m.funcs[k]? = some u→l6 D F u→F[k]? = some true
 yes:g=true→F.count false < F0.count false
theorem va.start {m:DMod} {D:List Bool→DFunc→DBlock→Prop} {X:Nat→Prop} {F:List Bool} (hl:F.length=m.funcs.length) (hs:uS X F):va m D X F F false 0 :=
 ⟨hl,hs,fun _=>⟨rfl,fun k u h=>absurd h (Nat.not_lt_zero _)⟩,(fun h=>nomatch h)⟩
theorem va.hit {m:DMod} {D:List Bool→DFunc→DBlock→Prop} {X:Nat→Prop} {F0 F:List Bool} {g:Bool} {n:Nat} {u:DFunc} (hX:u6 m D X) (h:va m D X F0 F g n) (hn:F[n]? = some false) (hu:m.funcs[n]? = some u) (hh:l6 D F u):va m D X F0 (F.set n true) true (n + 1):=by
 have hlt:=(C6.1 hn).1
 refine ⟨by rw [List.length_set]; exact h.len,fun k hk=>?_,(fun h=>nomatch h),fun _=>?_⟩
 ·by_cases e:k=n
  ·subst e; exact hX.up F h.snd _ u hu hh
  ·rw [List.getElem?_set_ne (Ne.symm e)] at hk
   exact h.snd k hk
 ·have:=Cm hn
  cases g with
  | true=>have:=h.yes rfl; omega
  | false=>have:=(h.no rfl).1; subst this; omega
theorem va.miss {m:DMod} {D:List Bool→DFunc→DBlock→Prop} {X:Nat→Prop} {F0 F:List Bool} {g:Bool} {n:Nat} (h:va m D X F0 F g n) (hn:F[n]? = some true∨∀ u,m.funcs[n]? = some u→¬ l6 D F u):va m D X F0 F g (n + 1):=by
 refine ⟨h.len,h.snd,fun hg=>⟨(h.no hg).1,fun k u hk hu hh=>?_⟩,h.yes⟩
 by_cases e:k=n
 ·subst e
  rcases hn with hn | hn
  ·exact hn
  ·exact absurd hh (hn u hu)
 ·exact (h.no hg).2 k u (by omega) hu hh
theorem mu {A:AProg} {f:FuncId} {m:DMod} {D:List Bool→DFunc→DBlock→Prop} {X:Nat→Prop} (hX:u6 m D X) {P0:Bool→TV→Prg TV} {P1:Bool→Nat→TV→Prg TV}
  (h0t:∀ w y,aa A f (P1 false 0 w) y→aa A f (P0 true w) y)
  (h0f:∀ w F,RBools (some true) w F→aa A f (P0 false w) w)
  (h1e:∀ g w y,aa A f (P0 g w) y→aa A f (P1 g m.funcs.length w) y)
  (h1s : ∀ g n w F c u y, F.length = m.funcs.length → RBools (some true) w F → F[n]? = some c → m.funcs[n]? = some u →
   ((c=true∨¬ l6 D F u)→aa A f (P1 g (n + 1) w) y)→(∀ w',eT [] w n 0 [B true]=some w'→c=false→l6 D F u→aa A f (P1 true (n + 1) w') y)→aa A f (P1 g n w) y) :
  ∀ (d:Nat) (F:List Bool) (w:TV),F.count false≤d→F.length=m.funcs.length→uS X F→RBools (some true) w F →
   ∃ y F',aa A f (P0 true w) y∧RBools (some true) y F'∧F'.length=m.funcs.length∧∀ k:Nat,F'[k]? = some true ↔ X k:=by
 have fin:∀ {w F},F.length=m.funcs.length→uS X F→ClsL m D F→RBools (some true) w F→∃ y F',aa A f (P0 false w) y∧RBools (some true) y F'∧F'.length=m.funcs.length∧∀ k:Nat,F'[k]? = some true ↔ X k :=
  fun hl hs hc hw=>⟨_,_,h0f _ _ hw,hw,hl,fun k=>⟨hs k,hX.dn _ hc k⟩⟩
 have row:∀ (F0:List Bool) (K:∀ F w,F.count false < F0.count false→F.length=m.funcs.length→uS X F→RBools (some true) w F→∃ y F',aa A f (P0 true w) y∧RBools (some true) y F'∧F'.length=m.funcs.length∧∀ k:Nat,F'[k]? = some true ↔ X k),
   ∀ (d n:Nat) (F:List Bool) (g:Bool) (w:TV),n + d=m.funcs.length→va m D X F0 F g n→RBools (some true) w F→∃ y F',aa A f (P1 g n w) y∧RBools (some true) y F'∧F'.length=m.funcs.length∧∀ k:Nat,F'[k]? = some true ↔ X k:=by
  intro F0 K d
  induction d with
  | zero =>
   intro n F g w hn hr hw
   have hn:n=m.funcs.length:=by omega
   subst hn
   cases g with
   | true =>
    obtain ⟨y,F',h1,h2⟩:=K F w (hr.yes rfl) hr.len hr.snd hw
    exact ⟨y,F',h1e _ _ _ h1,h2⟩
   | false =>
    obtain ⟨y,F',h1,h2⟩:=fin hr.len hr.snd (fun k u hu hh=>(hr.no rfl).2 k u (C6.1 hu).1 hu hh) hw
    exact ⟨y,F',h1e _ _ _ h1,h2⟩
  | succ d ih =>
   intro n F g w hn hr hw
   have hlt:n < m.funcs.length:=by omega
   have hu:=C7 hlt
   have hc:F[n]? = some (F[n]'(by rw [hr.len]; exact hlt)):=C7 _
   generalize m.funcs[n]=u at hu
   generalize F[n]'(by rw [hr.len]; exact hlt)=c at hc
   by_cases hm:c=true∨¬ l6 D F u
   ·obtain ⟨y,F',h1,h2⟩:=ih (n + 1) F g w (by omega) (hr.miss (hm.imp (fun e=>by rw [hc,e]) fun h v hv=>by rw [hu] at hv; cases hv; exact h)) hw
    exact ⟨y,F',h1s g n w F c u y hr.len hw hc hu (fun _=>h1) (fun w' _ e hh=>by
     rcases hm with h | h
     ·rw [e] at h; cases h
     ·exact absurd hh h),h2⟩
   ·have hcf:c=false:=by
     cases c with
     | false=>rfl
     | true=>exact absurd (.inl rfl) hm
    subst hcf
    have hh:l6 D F u:=Classical.byContradiction fun h=>hm (.inr h)
    obtain ⟨e,he,hR⟩:=hw.pel hc
    cases hR
    obtain ⟨w1,hs1,hw1⟩:=hw.sH he (d:=0) (ys:=[B true]) (a:=true) rfl
    obtain ⟨y,F',h1,h2⟩:=ih (n + 1) (F.set n true) true w1 (by omega) (hr.hit hX hc hu hh) hw1
    refine ⟨y,F',h1s g n w F false u y hr.len hw hc hu (fun h=>absurd h hm) (fun w' hs' _ _=>?_),h2⟩
    rw [hs1] at hs'
    cases hs'
    exact h1
 intro d
 induction d with
 | zero =>
  intro F w hd hl hs hw
  obtain ⟨y,F',h1,h2⟩:=row F (fun F' w' h=>by omega) m.funcs.length 0 F false w (by omega) (.start hl hs) hw
  exact ⟨y,F',h0t _ _ h1,h2⟩
 | succ d ih =>
  intro F w hd hl hs hw
  obtain ⟨y,F',h1,h2⟩:=row F (fun F' w' h hl' hs' hw'=>ih F' w' (by omega) hl' hs' hw') m.funcs.length 0 F false w (by omega) (.start hl hs) hw
  exact ⟨y,F',h0t _ _ h1,h2⟩
end Go.Ab
end
section
set_option maxRecDepth 10000
namespace Go.Ab
structure GI (m:DMod) (X:Nat→Prop) (F0 F:List Bool) (Z:List Bool→Prop):Prop where
 len:F.length=m.funcs.length
 snd:uS X F
 two:(F.count false < F0.count false∧∃ k:Nat,F0[k]? = some false∧X k)∨(F=F0∧Z F0)
def ZnL (m:DMod) (D:List Bool→DFunc→DBlock→Prop) (n:Nat) (F:List Bool):Prop:=∀ (k:Nat) u,k < n→m.funcs[k]? = some u→l6 D F u→F[k]? = some true
section
variable {m:DMod} {D E:List Bool→DFunc→DBlock→Prop} {Q:List Bool→DIns→Prop} {X:Nat→Prop} {F0 F:List Bool} {Z Z':List Bool→Prop}
end
def IsX (m:DMod) (X:Nat→Prop) (y:TV):Prop:=∃ F:List Bool,RBools (some true) y F∧F.length=m.funcs.length∧∀ k:Nat,F[k]? = some true ↔ X k
end Go.Ab
end

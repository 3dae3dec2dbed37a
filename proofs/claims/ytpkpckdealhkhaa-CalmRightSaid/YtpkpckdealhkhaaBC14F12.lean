import Derived.Test.YtpkpckdealhkhaaBC14F6
import Derived.OpenShut
set_option linter.all false
section
set_option maxRecDepth 10000
namespace Go.Ab
theorem bq {regs n:Int}:ec false regs n ↔ n=0:=⟨fun h=>h.2 rfl,fun h=>⟨nofun,fun _=>h⟩⟩
theorem ig {fs:List DFunc} {regs n:Int} {l:List Int}:jF true fs regs n l ↔ nI fs regs n l:=⟨fun h=>h.1 rfl,fun h=>⟨fun _=>h,nofun⟩⟩
theorem bE {fs:List DFunc} {regs n:Int} {l:List Int}:jF false fs regs n l ↔ n=0/\l=[]:=⟨fun h=>h.2 rfl,fun h=>⟨nofun,fun _=>h⟩⟩
theorem cL {bs:List DBlock} {n:Int} {x:Bool}:jy true bs n x ↔ eW bs n x:=⟨fun h=>h.1 rfl,fun h=>⟨fun _=>h,nofun⟩⟩
theorem dX {bs:List DBlock} {n:Int} {x:Bool}:jy false bs n x ↔ n=0:=⟨fun h=>h.2 rfl,fun h=>⟨nofun,fun _=>h⟩⟩
end Go.Ab
namespace Go.Ab.C14
open Go Go.Ab Go.Proofs
theorem dF {fs:List DFunc} {regs n:Int} {x:DIns} {d a b k c:Bool} (hop:x.op=n) (h1:has (gS n) 1=true) (hd:has (gS n) 2=d) (ha:has (gS n) 4=a) (hb:has (gS n) 8=b) (hk:has (gS n) 16=k) (hc:has (gS n) 32=c) :
  rn fs regs x ↔ ec d regs x.dst/\ec a regs x.a/\ec b regs x.b/\(k=true\/x.k=0)/\jF c fs regs x.f x.args:=by
 subst hop hd ha hb hk hc;simp[rn,h1]
theorem ck {fs:List DFunc} {regs n:Int} {bs:List DBlock} {x:DEnd} {a d c t e p:Bool} (hop:x.kind=n) (h1:has (fq n) 1=true) (ha:has (fq n) 4=a) (hd:has (fq n) 2=d) (hc:has (fq n) 32=c) (ht:has (fq n) 64=t) (he:has (fq n) 128=e) (hp:has (fq n) 256=p) :
  tO fs regs bs x ↔ ec a regs x.a/\ec d regs x.dst/\jF c fs regs x.f x.args/\jy t bs x.to false/\jy e bs x.els false/\jy p bs x.pad true:=by
 subst hop ha hd hc ht he hp;simp[tO,h1]
theorem r38 {q:Option Bool} {g:TV} {k f:Int} {l:List Int} (hg:RInts q g l):ao prog 59 [W k,I f,g] (B (tt (k=0/\f=0/\l=[]))):=by
 refine ao.of (f59_MR _ _ _) ?_
 unfold f59_M
 repeat' (first
  | refine aa.chk rfl ?_
  | refine aa.tv rfl ?_
  | refine aa.tv (RL.len (by assumption)) ?_
  | refine aa.nat rfl ?_
  | refine aa.ite rfl (fun _=>?_) (fun _=>?_)
  | refine aa.call (by assumption) ?_
  | refine aa.tvs (by assumption) ?_)
 all_goals (apply aJ;simp_all)
theorem r36 {q:Option Bool} {y:TV} {bs:List DBlock} {p regs n:Int} (hy:RL q 14 (RBlock q) y bs):ao prog 57 [.agg [I p,I regs,y],I n] (B (tt (eW bs n false))):=by
 refine ao.of (f57_MR _ _) ?_
 unfold f57_M
 refine aa.chk rfl (aa.tv hy.len (aa.call (r35 _ _) (aa.chk rfl (aa.ite rfl (fun h=>?_) fun h=>?_))))
 ·rw[aE]at h
  have hlt:n.toNat<bs.length:=by have:=h.1;have:=h.2;omega
  have hf:bs[n.toNat]? = some bs[n.toNat]:=Ci hlt
  obtain⟨e,he,hr⟩:=hy.ru (k:=.i64) h.1 hf
  obtain⟨c,i,g,rfl,_⟩:=hr
  refine aa.tvs he (aa.chk rfl (aa.tv rfl ?_))
  apply aJ
  simp[eW,h.1,hf]
 ·rw[aq]at h
  refine aD ?_
  rintro⟨h0,f,hf,_⟩
  have:=(Ch.1 hf).1
  exact h ⟨h0,by omega⟩
theorem r37 {q q':Option Bool} {x y g:TV} {fs:List DFunc} {p regs n:Int} {l:List Int} (hx:RL q 3 (RFunc q) x fs) (hg:RInts q' g l):ao prog 58 [.agg [x],.agg [I p,I regs,y],I n,g] (B (tt (nI fs regs n l))):=by
 refine ao.of (f58_MR _ _ _ _) ?_
 unfold f58_M
 refine aa.chk rfl (aa.chk rfl (aa.tv hx.len (aa.call (r35 _ _) (aa.chk rfl (aa.tv rfl (aa.ite rfl (fun h=>?_) fun h=>?_))))))
 ·simp[aq]at h
  refine aD ?_
  rintro⟨h0,f,hf,_⟩
  have:=(Ch.1 hf).1
  exact h ⟨h0,by omega⟩
 ·simp[aE]at h
  have hlt:n.toNat<fs.length:=by have:=h.1;have:=h.2;omega
  have hf:fs[n.toNat]? = some fs[n.toNat]:=Ci hlt
  obtain⟨e,he,hr⟩:=hx.ru (k:=.i64) h.1 hf
  obtain⟨b,rfl,_⟩:=hr
  refine aa.tv hg.len (aa.tvs he (aa.chk rfl (aa.tv rfl (aa.ite rfl (fun h2=>?_) fun h2=>?_))))
  ·refine aD ?_
   rintro⟨_,f,hf',hl,_⟩
   rw[hf]at hf'
   simp at hf' h2
   subst hf'
   exact h2 hl
  ·simp at h2
   refine f58_0_J ?_
   have hp:nI fs regs n l ↔ ∀i,i<l.length->∀a,l[i]? = some a->within a regs:=by
    refine⟨fun⟨_,f,hf',hl,ha⟩=>ha,fun ha=>⟨h.1,_,hf,h2,ha⟩⟩
   rw[be hp]
   refine du (g:=fun k=>f58_0 g (I k) (I p) (I regs) y) ?_ ?_
   ·unfold f58_0
    refine aa.tv (RL.len (by assumption)) (aa.tv rfl (aa.ite aI nofun fun _=>?_))
    exact aa.ret
   ·intro k hk r h1 h2
    have ha:l[k]? = some l[k]:=Ci hk
    obtain⟨e,he,rfl,_⟩:=hg.idx (k:=.i64) ha
    unfold f58_0
    refine aa.tv (RL.len (by assumption)) (aa.tv rfl (aa.ite (aH hk) (fun _=>?_) nofun))
    refine aa.tvs he (aa.chk rfl (aa.call (r35 _ _) (aa.chk rfl (aa.tv rfl (aa.ite rfl (fun h=>?_) fun h=>?_)))))
    ·rw[h1 (by simp[ha];simpa[aq]using h)];exact aa.ret
    ·refine aa.tv (inc hk hg.bnd) (f58_0_J (h2 ?_))
     simp[ha];simpa[aE]using h
set_option maxHeartbeats 4000000 in
theorem r22 {q q':Option Bool} {x y:TV} {e:List TV} {fs:List DFunc} {p regs:Int} {a:DIns} (hx:RL q 3 (RFunc q) x fs) (he:RIns q' e a):ao prog 47 [.agg [x],.agg [I p,I regs,y],.agg e] (B (tt (rn fs regs a))):=by
 obtain⟨g,rfl,hg,_⟩:=he
 obtain⟨op,dst,a,b,k,f,args⟩:=a
 have h38:∀{k f:Int},ao prog 59 [W k,I f,g] (B (tt (k=0/\f=0/\args=[]))):=r38 hg
 have h37:∀{n:Int},ao prog 58 [.agg [x],.agg [I p,I regs,y],I n,g] (B (tt (nI fs regs n args))):=r37 hx hg
 refine ao.of (f47_MR _ _ _) ?_
 unfold f47_M
 refine aa.chk rfl (aa.chk rfl (aa.chk rfl (aa.call (r35 _ _) (aa.chk rfl (aa.call (r35 _ _) (aa.chk rfl (aa.call (r35 _ _) (aa.chk rfl ?_))))))))
 by_cases h1:op=1
 ·subst h1
  repeat' (first
   | refine aa.chk rfl ?_
   | refine aa.tv rfl ?_
   | refine aa.tv (RL.len (by assumption)) ?_
   | refine aa.nat rfl ?_
   | refine aa.ite (v:=true) rfl (fun _=>?_) nofun
   | refine aa.ite (v:=false) rfl nofun (fun _=>?_)
   | refine aa.ite rfl (fun _=>?_) (fun _=>?_)
   | refine aa.call (by assumption) ?_
   | refine aa.tvs (by assumption) ?_
   | (refine f47_0_J ?_;unfold f47_0)|(refine f47_1_J ?_;unfold f47_1)|refine aa.call h38 ?_|refine aa.call h37 ?_)
  all_goals (apply aJ;rw[dF (n:=1) (d:=true) (a:=false) (b:=false) (k:=true) (c:=false) rfl (by decide +kernel) (by decide +kernel) (by decide +kernel) (by decide +kernel) (by decide +kernel) (by decide +kernel)];simp_all[aQ,bq,bE,aE,aq])
 by_cases h2:op=2
 ·subst h2
  repeat' (first
   | refine aa.chk rfl ?_
   | refine aa.tv rfl ?_
   | refine aa.tv (RL.len (by assumption)) ?_
   | refine aa.nat rfl ?_
   | refine aa.ite (v:=true) rfl (fun _=>?_) nofun
   | refine aa.ite (v:=false) rfl nofun (fun _=>?_)
   | refine aa.ite rfl (fun _=>?_) (fun _=>?_)
   | refine aa.call (by assumption) ?_
   | refine aa.tvs (by assumption) ?_
   | (refine f47_0_J ?_;unfold f47_0)|(refine f47_1_J ?_;unfold f47_1)|refine aa.call h38 ?_|refine aa.call h37 ?_)
  all_goals (apply aJ;rw[dF (n:=2) (d:=true) (a:=true) (b:=false) (k:=false) (c:=false) rfl (by decide +kernel) (by decide +kernel) (by decide +kernel) (by decide +kernel) (by decide +kernel) (by decide +kernel)];simp_all[aQ,bq,bE,aE,aq])
 by_cases h9:op=9
 ·subst h9
  repeat' (first
   | refine aa.chk rfl ?_
   | refine aa.tv rfl ?_
   | refine aa.tv (RL.len (by assumption)) ?_
   | refine aa.nat rfl ?_
   | refine aa.ite (v:=true) rfl (fun _=>?_) nofun
   | refine aa.ite (v:=false) rfl nofun (fun _=>?_)
   | refine aa.ite rfl (fun _=>?_) (fun _=>?_)
   | refine aa.call (by assumption) ?_
   | refine aa.tvs (by assumption) ?_
   | (refine f47_0_J ?_;unfold f47_0)|(refine f47_1_J ?_;unfold f47_1)|refine aa.call h38 ?_|refine aa.call h37 ?_)
  all_goals (apply aJ;rw[dF (n:=9) (d:=true) (a:=true) (b:=false) (k:=false) (c:=false) rfl (by decide +kernel) (by decide +kernel) (by decide +kernel) (by decide +kernel) (by decide +kernel) (by decide +kernel)];simp_all[aQ,bq,bE,aE,aq])
 by_cases h3:op=3
 ·subst h3
  repeat' (first
   | refine aa.chk rfl ?_
   | refine aa.tv rfl ?_
   | refine aa.tv (RL.len (by assumption)) ?_
   | refine aa.nat rfl ?_
   | refine aa.ite (v:=true) rfl (fun _=>?_) nofun
   | refine aa.ite (v:=false) rfl nofun (fun _=>?_)
   | refine aa.ite rfl (fun _=>?_) (fun _=>?_)
   | refine aa.call (by assumption) ?_
   | refine aa.tvs (by assumption) ?_
   | (refine f47_0_J ?_;unfold f47_0)|(refine f47_1_J ?_;unfold f47_1)|refine aa.call h38 ?_|refine aa.call h37 ?_)
  all_goals (apply aJ;rw[dF (n:=3) (d:=true) (a:=true) (b:=true) (k:=false) (c:=false) rfl (by decide +kernel) (by decide +kernel) (by decide +kernel) (by decide +kernel) (by decide +kernel) (by decide +kernel)];simp_all[aQ,bE,aE,aq])
 by_cases h4:op=4
 ·subst h4
  repeat' (first
   | refine aa.chk rfl ?_
   | refine aa.tv rfl ?_
   | refine aa.tv (RL.len (by assumption)) ?_
   | refine aa.nat rfl ?_
   | refine aa.ite (v:=true) rfl (fun _=>?_) nofun
   | refine aa.ite (v:=false) rfl nofun (fun _=>?_)
   | refine aa.ite rfl (fun _=>?_) (fun _=>?_)
   | refine aa.call (by assumption) ?_
   | refine aa.tvs (by assumption) ?_
   | (refine f47_0_J ?_;unfold f47_0)|(refine f47_1_J ?_;unfold f47_1)|refine aa.call h38 ?_|refine aa.call h37 ?_)
  all_goals (apply aJ;rw[dF (n:=4) (d:=true) (a:=true) (b:=true) (k:=false) (c:=false) rfl (by decide +kernel) (by decide +kernel) (by decide +kernel) (by decide +kernel) (by decide +kernel) (by decide +kernel)];simp_all[aQ,bE,aE,aq])
 by_cases h5:op=5
 ·subst h5
  repeat' (first
   | refine aa.chk rfl ?_
   | refine aa.tv rfl ?_
   | refine aa.tv (RL.len (by assumption)) ?_
   | refine aa.nat rfl ?_
   | refine aa.ite (v:=true) rfl (fun _=>?_) nofun
   | refine aa.ite (v:=false) rfl nofun (fun _=>?_)
   | refine aa.ite rfl (fun _=>?_) (fun _=>?_)
   | refine aa.call (by assumption) ?_
   | refine aa.tvs (by assumption) ?_
   | (refine f47_0_J ?_;unfold f47_0)|(refine f47_1_J ?_;unfold f47_1)|refine aa.call h38 ?_|refine aa.call h37 ?_)
  all_goals (apply aJ;rw[dF (n:=5) (d:=true) (a:=true) (b:=true) (k:=false) (c:=false) rfl (by decide +kernel) (by decide +kernel) (by decide +kernel) (by decide +kernel) (by decide +kernel) (by decide +kernel)];simp_all[aQ,bE,aE,aq])
 by_cases h6:op=6
 ·subst h6
  repeat' (first
   | refine aa.chk rfl ?_
   | refine aa.tv rfl ?_
   | refine aa.tv (RL.len (by assumption)) ?_
   | refine aa.nat rfl ?_
   | refine aa.ite (v:=true) rfl (fun _=>?_) nofun
   | refine aa.ite (v:=false) rfl nofun (fun _=>?_)
   | refine aa.ite rfl (fun _=>?_) (fun _=>?_)
   | refine aa.call (by assumption) ?_
   | refine aa.tvs (by assumption) ?_
   | (refine f47_0_J ?_;unfold f47_0)|(refine f47_1_J ?_;unfold f47_1)|refine aa.call h38 ?_|refine aa.call h37 ?_)
  all_goals (apply aJ;rw[dF (n:=6) (d:=true) (a:=true) (b:=true) (k:=false) (c:=false) rfl (by decide +kernel) (by decide +kernel) (by decide +kernel) (by decide +kernel) (by decide +kernel) (by decide +kernel)];simp_all[aQ,bE,aE,aq])
 by_cases h7:op=7
 ·subst h7
  repeat' (first
   | refine aa.chk rfl ?_
   | refine aa.tv rfl ?_
   | refine aa.tv (RL.len (by assumption)) ?_
   | refine aa.nat rfl ?_
   | refine aa.ite (v:=true) rfl (fun _=>?_) nofun
   | refine aa.ite (v:=false) rfl nofun (fun _=>?_)
   | refine aa.ite rfl (fun _=>?_) (fun _=>?_)
   | refine aa.call (by assumption) ?_
   | refine aa.tvs (by assumption) ?_
   | (refine f47_0_J ?_;unfold f47_0)|(refine f47_1_J ?_;unfold f47_1)|refine aa.call h38 ?_|refine aa.call h37 ?_)
  all_goals (apply aJ;rw[dF (n:=7) (d:=true) (a:=true) (b:=true) (k:=false) (c:=false) rfl (by decide +kernel) (by decide +kernel) (by decide +kernel) (by decide +kernel) (by decide +kernel) (by decide +kernel)];simp_all[aQ,bE,aE,aq])
 by_cases h8:op=8
 ·subst h8
  repeat' (first
   | refine aa.chk rfl ?_
   | refine aa.tv rfl ?_
   | refine aa.tv (RL.len (by assumption)) ?_
   | refine aa.nat rfl ?_
   | refine aa.ite (v:=true) rfl (fun _=>?_) nofun
   | refine aa.ite (v:=false) rfl nofun (fun _=>?_)
   | refine aa.ite rfl (fun _=>?_) (fun _=>?_)
   | refine aa.call (by assumption) ?_
   | refine aa.tvs (by assumption) ?_
   | (refine f47_0_J ?_;unfold f47_0)|(refine f47_1_J ?_;unfold f47_1)|refine aa.call h38 ?_|refine aa.call h37 ?_)
  all_goals (apply aJ;rw[dF (n:=8) (d:=true) (a:=true) (b:=true) (k:=false) (c:=false) rfl (by decide +kernel) (by decide +kernel) (by decide +kernel) (by decide +kernel) (by decide +kernel) (by decide +kernel)];simp_all[aQ,bE,aE,aq])
 by_cases h10:op=10
 ·subst h10
  repeat' (first
   | refine aa.chk rfl ?_
   | refine aa.tv rfl ?_
   | refine aa.tv (RL.len (by assumption)) ?_
   | refine aa.nat rfl ?_
   | refine aa.ite (v:=true) rfl (fun _=>?_) nofun
   | refine aa.ite (v:=false) rfl nofun (fun _=>?_)
   | refine aa.ite rfl (fun _=>?_) (fun _=>?_)
   | refine aa.call (by assumption) ?_
   | refine aa.tvs (by assumption) ?_
   | (refine f47_0_J ?_;unfold f47_0)|(refine f47_1_J ?_;unfold f47_1)|refine aa.call h38 ?_|refine aa.call h37 ?_)
  all_goals (apply aJ;rw[dF (n:=10) (d:=false) (a:=true) (b:=true) (k:=false) (c:=false) rfl (by decide +kernel) (by decide +kernel) (by decide +kernel) (by decide +kernel) (by decide +kernel) (by decide +kernel)];simp_all[aQ,bq,bE,aE,aq])
 by_cases h11:op=11
 ·subst h11
  repeat' (first
   | refine aa.chk rfl ?_
   | refine aa.tv rfl ?_
   | refine aa.tv (RL.len (by assumption)) ?_
   | refine aa.nat rfl ?_
   | refine aa.ite (v:=true) rfl (fun _=>?_) nofun
   | refine aa.ite (v:=false) rfl nofun (fun _=>?_)
   | refine aa.ite rfl (fun _=>?_) (fun _=>?_)
   | refine aa.call (by assumption) ?_
   | refine aa.tvs (by assumption) ?_
   | (refine f47_0_J ?_;unfold f47_0)|(refine f47_1_J ?_;unfold f47_1)|refine aa.call h38 ?_|refine aa.call h37 ?_)
  all_goals (apply aJ;rw[dF (n:=11) (d:=true) (a:=false) (b:=false) (k:=false) (c:=true) rfl (by decide +kernel) (by decide +kernel) (by decide +kernel) (by decide +kernel) (by decide +kernel) (by decide +kernel)];simp_all[aQ,bq,ig,aE,aq])
 by_cases h12:op=12
 ·subst h12
  repeat' (first
   | refine aa.chk rfl ?_
   | refine aa.tv rfl ?_
   | refine aa.tv (RL.len (by assumption)) ?_
   | refine aa.nat rfl ?_
   | refine aa.ite (v:=true) rfl (fun _=>?_) nofun
   | refine aa.ite (v:=false) rfl nofun (fun _=>?_)
   | refine aa.ite rfl (fun _=>?_) (fun _=>?_)
   | refine aa.call (by assumption) ?_
   | refine aa.tvs (by assumption) ?_
   | (refine f47_0_J ?_;unfold f47_0)|(refine f47_1_J ?_;unfold f47_1)|refine aa.call h38 ?_|refine aa.call h37 ?_)
  all_goals (apply aJ;rw[dF (n:=12) (d:=false) (a:=true) (b:=false) (k:=false) (c:=false) rfl (by decide +kernel) (by decide +kernel) (by decide +kernel) (by decide +kernel) (by decide +kernel) (by decide +kernel)];simp_all[aQ,bq,bE,aE,aq])
 by_cases h13:op=13
 ·subst h13
  repeat' (first
   | refine aa.chk rfl ?_
   | refine aa.tv rfl ?_
   | refine aa.tv (RL.len (by assumption)) ?_
   | refine aa.nat rfl ?_
   | refine aa.ite (v:=true) rfl (fun _=>?_) nofun
   | refine aa.ite (v:=false) rfl nofun (fun _=>?_)
   | refine aa.ite rfl (fun _=>?_) (fun _=>?_)
   | refine aa.call (by assumption) ?_
   | refine aa.tvs (by assumption) ?_
   | (refine f47_0_J ?_;unfold f47_0)|(refine f47_1_J ?_;unfold f47_1)|refine aa.call h38 ?_|refine aa.call h37 ?_)
  all_goals (apply aJ;rw[dF (n:=13) (d:=true) (a:=false) (b:=false) (k:=false) (c:=false) rfl (by decide +kernel) (by decide +kernel) (by decide +kernel) (by decide +kernel) (by decide +kernel) (by decide +kernel)];simp_all[aQ,bq,bE,aE,aq])
 repeat' (first
  | refine aa.chk rfl ?_
  | refine aa.tv rfl ?_
  | refine aa.tv (RL.len (by assumption)) ?_
  | refine aa.nat rfl ?_
  | refine aa.ite (v:=true) rfl (fun _=>?_) nofun
  | refine aa.ite (v:=false) rfl nofun (fun _=>?_)
  | refine aa.ite rfl (fun _=>?_) (fun _=>?_)
  | refine aa.call (by assumption) ?_
  | refine aa.tvs (by assumption) ?_
  | (refine f47_0_J ?_;unfold f47_0)|(refine f47_1_J ?_;unfold f47_1)|refine aa.call h38 ?_|refine aa.call h37 ?_)
 all_goals first
  | (exfalso;simp_all;done)
  | (apply aD;intro h;have h:=h.1;simp[gS, *]at h;exact absurd h (by decide))
set_option maxHeartbeats 4000000 in
theorem r21 {q q' q2:Option Bool} {x y:TV} {e:List TV} {fs:List DFunc} {bs:List DBlock} {p regs:Int} {a:DEnd} (hx:RL q 3 (RFunc q) x fs) (hy:RL q2 14 (RBlock q2) y bs) (he:REnd q' e a):ao prog 46 [.agg [x],.agg [I p,I regs,y],.agg e] (B (tt (tO fs regs bs a))):=by
 obtain⟨g,rfl,hg,_⟩:=he
 obtain⟨kind,a,dst,f,args,to,els,pad⟩:=a
 have h36:∀{n:Int},ao prog 57 [.agg [I p,I regs,y],I n] (B (tt (eW bs n false))):=r36 hy
 have h37:∀{n:Int},ao prog 58 [.agg [x],.agg [I p,I regs,y],I n,g] (B (tt (nI fs regs n args))):=r37 hx hg
 have last:∀(f:FuncId) (r:TV) (k:List TV->Prg TV),tt (within pad bs.length)=true->(∀b e,0<=pad->bs[pad.toNat]? = some b->RBlock q2 e b->pidx 14 y (I pad)=some e->aa prog f (k e) r)->aa prog f (.tvs (pidx 14 y (I pad)) k) r:=by
  intro f r k h hk
  rw[aE]at h
  have hlt:pad.toNat<bs.length:=by have:=h.1;have:=h.2;omega
  have hf:bs[pad.toNat]? = some bs[pad.toNat]:=Ci hlt
  obtain⟨e,he,hr⟩:=hy.ru (k:=.i64) h.1 hf
  exact aa.tvs he (hk _ _ h.1 hf hr he)
 refine ao.of (f46_MR _ _ _) ?_
 unfold f46_M
 by_cases h1:kind=1
 ·subst h1
  repeat' (first
   | refine aa.chk rfl ?_
   | refine aa.tv rfl ?_
   | refine aa.tv (RL.len (by assumption)) ?_
   | refine aa.nat rfl ?_
   | refine aa.ite (v:=true) rfl (fun _=>?_) nofun
   | refine aa.ite (v:=false) rfl nofun (fun _=>?_)
   | refine aa.ite rfl (fun _=>?_) (fun _=>?_)
   | refine aa.call (by assumption) ?_
   | refine aa.tvs (by assumption) ?_
   | (refine f46_0_J ?_;unfold f46_0)|(refine f46_1_J ?_;unfold f46_1)|refine aa.call h36 ?_|refine aa.call h37 ?_|refine aa.call (r35 _ _) ?_)
  all_goals first
   | (apply aJ;rw[ck (n:=1) (a:=true) (d:=false) (c:=false) (t:=false) (e:=false) (p:=false) rfl (by decide +kernel) (by decide +kernel) (by decide +kernel) (by decide +kernel) (by decide +kernel) (by decide +kernel) (by decide +kernel)];simp_all[aQ,bq,bE,dX,aE,aq];done)
   | (refine last _ _ _ (by assumption) fun b e h0 hb hr he=>?_;obtain⟨_,_,_,rfl,_⟩:=hr;refine aa.chk rfl ?_;apply aJ;rw[ck (n:=1) (a:=true) (d:=false) (c:=false) (t:=false) (e:=false) (p:=false) rfl (by decide +kernel) (by decide +kernel) (by decide +kernel) (by decide +kernel) (by decide +kernel) (by decide +kernel) (by decide +kernel)];have hgl:eW bs pad true ↔ b.landing=true:=⟨fun⟨_,b',hb',hl⟩=>(by rw[hb]at hb';cases hb';exact hl),fun h=>⟨h0,b,hb,h⟩⟩;simp only[cL,hgl,aQ,bq,ig,bE,dX];clear hgl;simp_all[aE,aq];done)
   | (apply aD;rw[ck (n:=1) (a:=true) (d:=false) (c:=false) (t:=false) (e:=false) (p:=false) rfl (by decide +kernel) (by decide +kernel) (by decide +kernel) (by decide +kernel) (by decide +kernel) (by decide +kernel) (by decide +kernel)];rintro⟨_,_,_,_,_,hp⟩;rw[cL]at hp;obtain⟨h0,b,hb,_⟩:=hp;have h9:=(Ch.1 hb).1;have h10:tt (within pad bs.length)=false:=(by assumption);rw[aq]at h10;have h9:pad.toNat<bs.length:=h9;have h0:0<=pad:=h0;exact h10 ⟨h0,by omega⟩)
 by_cases h5:kind=5
 ·subst h5
  repeat' (first
   | refine aa.chk rfl ?_
   | refine aa.tv rfl ?_
   | refine aa.tv (RL.len (by assumption)) ?_
   | refine aa.nat rfl ?_
   | refine aa.ite (v:=true) rfl (fun _=>?_) nofun
   | refine aa.ite (v:=false) rfl nofun (fun _=>?_)
   | refine aa.ite rfl (fun _=>?_) (fun _=>?_)
   | refine aa.call (by assumption) ?_
   | refine aa.tvs (by assumption) ?_
   | (refine f46_0_J ?_;unfold f46_0)|(refine f46_1_J ?_;unfold f46_1)|refine aa.call h36 ?_|refine aa.call h37 ?_|refine aa.call (r35 _ _) ?_)
  all_goals first
   | (apply aJ;rw[ck (n:=5) (a:=true) (d:=false) (c:=false) (t:=false) (e:=false) (p:=false) rfl (by decide +kernel) (by decide +kernel) (by decide +kernel) (by decide +kernel) (by decide +kernel) (by decide +kernel) (by decide +kernel)];simp_all[aQ,bq,bE,dX,aE,aq];done)
   | (refine last _ _ _ (by assumption) fun b e h0 hb hr he=>?_;obtain⟨_,_,_,rfl,_⟩:=hr;refine aa.chk rfl ?_;apply aJ;rw[ck (n:=5) (a:=true) (d:=false) (c:=false) (t:=false) (e:=false) (p:=false) rfl (by decide +kernel) (by decide +kernel) (by decide +kernel) (by decide +kernel) (by decide +kernel) (by decide +kernel) (by decide +kernel)];have hgl:eW bs pad true ↔ b.landing=true:=⟨fun⟨_,b',hb',hl⟩=>(by rw[hb]at hb';cases hb';exact hl),fun h=>⟨h0,b,hb,h⟩⟩;simp only[cL,hgl,aQ,bq,ig,bE,dX];clear hgl;simp_all[aE,aq];done)
   | (apply aD;rw[ck (n:=5) (a:=true) (d:=false) (c:=false) (t:=false) (e:=false) (p:=false) rfl (by decide +kernel) (by decide +kernel) (by decide +kernel) (by decide +kernel) (by decide +kernel) (by decide +kernel) (by decide +kernel)];rintro⟨_,_,_,_,_,hp⟩;rw[cL]at hp;obtain⟨h0,b,hb,_⟩:=hp;have h9:=(Ch.1 hb).1;have h10:tt (within pad bs.length)=false:=(by assumption);rw[aq]at h10;have h9:pad.toNat<bs.length:=h9;have h0:0<=pad:=h0;exact h10 ⟨h0,by omega⟩)
 by_cases h2:kind=2
 ·subst h2
  repeat' (first
   | refine aa.chk rfl ?_
   | refine aa.tv rfl ?_
   | refine aa.tv (RL.len (by assumption)) ?_
   | refine aa.nat rfl ?_
   | refine aa.ite (v:=true) rfl (fun _=>?_) nofun
   | refine aa.ite (v:=false) rfl nofun (fun _=>?_)
   | refine aa.ite rfl (fun _=>?_) (fun _=>?_)
   | refine aa.call (by assumption) ?_
   | refine aa.tvs (by assumption) ?_
   | (refine f46_0_J ?_;unfold f46_0)|(refine f46_1_J ?_;unfold f46_1)|refine aa.call h36 ?_|refine aa.call h37 ?_|refine aa.call (r35 _ _) ?_)
  all_goals first
   | (apply aJ;rw[ck (n:=2) (a:=false) (d:=false) (c:=false) (t:=true) (e:=false) (p:=false) rfl (by decide +kernel) (by decide +kernel) (by decide +kernel) (by decide +kernel) (by decide +kernel) (by decide +kernel) (by decide +kernel)];simp_all[bq,bE,cL,dX,aE,aq];done)
   | (refine last _ _ _ (by assumption) fun b e h0 hb hr he=>?_;obtain⟨_,_,_,rfl,_⟩:=hr;refine aa.chk rfl ?_;apply aJ;rw[ck (n:=2) (a:=false) (d:=false) (c:=false) (t:=true) (e:=false) (p:=false) rfl (by decide +kernel) (by decide +kernel) (by decide +kernel) (by decide +kernel) (by decide +kernel) (by decide +kernel) (by decide +kernel)];have hgl:eW bs pad true ↔ b.landing=true:=⟨fun⟨_,b',hb',hl⟩=>(by rw[hb]at hb';cases hb';exact hl),fun h=>⟨h0,b,hb,h⟩⟩;simp only[cL,hgl,aQ,bq,ig,bE,dX];clear hgl;simp_all[aE,aq];done)
   | (apply aD;rw[ck (n:=2) (a:=false) (d:=false) (c:=false) (t:=true) (e:=false) (p:=false) rfl (by decide +kernel) (by decide +kernel) (by decide +kernel) (by decide +kernel) (by decide +kernel) (by decide +kernel) (by decide +kernel)];rintro⟨_,_,_,_,_,hp⟩;rw[cL]at hp;obtain⟨h0,b,hb,_⟩:=hp;have h9:=(Ch.1 hb).1;have h10:tt (within pad bs.length)=false:=(by assumption);rw[aq]at h10;have h9:pad.toNat<bs.length:=h9;have h0:0<=pad:=h0;exact h10 ⟨h0,by omega⟩)
 by_cases h3:kind=3
 ·subst h3
  repeat' (first
   | refine aa.chk rfl ?_
   | refine aa.tv rfl ?_
   | refine aa.tv (RL.len (by assumption)) ?_
   | refine aa.nat rfl ?_
   | refine aa.ite (v:=true) rfl (fun _=>?_) nofun
   | refine aa.ite (v:=false) rfl nofun (fun _=>?_)
   | refine aa.ite rfl (fun _=>?_) (fun _=>?_)
   | refine aa.call (by assumption) ?_
   | refine aa.tvs (by assumption) ?_
   | (refine f46_0_J ?_;unfold f46_0)|(refine f46_1_J ?_;unfold f46_1)|refine aa.call h36 ?_|refine aa.call h37 ?_|refine aa.call (r35 _ _) ?_)
  all_goals first
   | (apply aJ;rw[ck (n:=3) (a:=true) (d:=false) (c:=false) (t:=true) (e:=true) (p:=false) rfl (by decide +kernel) (by decide +kernel) (by decide +kernel) (by decide +kernel) (by decide +kernel) (by decide +kernel) (by decide +kernel)];simp_all[aQ,bq,bE,cL,dX,aE,aq];done)
   | (refine last _ _ _ (by assumption) fun b e h0 hb hr he=>?_;obtain⟨_,_,_,rfl,_⟩:=hr;refine aa.chk rfl ?_;apply aJ;rw[ck (n:=3) (a:=true) (d:=false) (c:=false) (t:=true) (e:=true) (p:=false) rfl (by decide +kernel) (by decide +kernel) (by decide +kernel) (by decide +kernel) (by decide +kernel) (by decide +kernel) (by decide +kernel)];have hgl:eW bs pad true ↔ b.landing=true:=⟨fun⟨_,b',hb',hl⟩=>(by rw[hb]at hb';cases hb';exact hl),fun h=>⟨h0,b,hb,h⟩⟩;simp only[cL,hgl,aQ,bq,ig,bE,dX];clear hgl;simp_all[aE,aq];done)
   | (apply aD;rw[ck (n:=3) (a:=true) (d:=false) (c:=false) (t:=true) (e:=true) (p:=false) rfl (by decide +kernel) (by decide +kernel) (by decide +kernel) (by decide +kernel) (by decide +kernel) (by decide +kernel) (by decide +kernel)];rintro⟨_,_,_,_,_,hp⟩;rw[cL]at hp;obtain⟨h0,b,hb,_⟩:=hp;have h9:=(Ch.1 hb).1;have h10:tt (within pad bs.length)=false:=(by assumption);rw[aq]at h10;have h9:pad.toNat<bs.length:=h9;have h0:0<=pad:=h0;exact h10 ⟨h0,by omega⟩)
 by_cases h4:kind=4
 ·subst h4
  repeat' (first
   | refine aa.chk rfl ?_
   | refine aa.tv rfl ?_
   | refine aa.tv (RL.len (by assumption)) ?_
   | refine aa.nat rfl ?_
   | refine aa.ite (v:=true) rfl (fun _=>?_) nofun
   | refine aa.ite (v:=false) rfl nofun (fun _=>?_)
   | refine aa.ite rfl (fun _=>?_) (fun _=>?_)
   | refine aa.call (by assumption) ?_
   | refine aa.tvs (by assumption) ?_
   | (refine f46_0_J ?_;unfold f46_0)|(refine f46_1_J ?_;unfold f46_1)|refine aa.call h36 ?_|refine aa.call h37 ?_|refine aa.call (r35 _ _) ?_)
  all_goals first
   | (apply aJ;rw[ck (n:=4) (a:=false) (d:=true) (c:=true) (t:=true) (e:=false) (p:=true) rfl (by decide +kernel) (by decide +kernel) (by decide +kernel) (by decide +kernel) (by decide +kernel) (by decide +kernel) (by decide +kernel)];simp_all[aQ,bq,ig,cL,dX,aE,aq];done)
   | (refine last _ _ _ (by assumption) fun b e h0 hb hr he=>?_;obtain⟨_,_,_,rfl,_⟩:=hr;refine aa.chk rfl ?_;apply aJ;rw[ck (n:=4) (a:=false) (d:=true) (c:=true) (t:=true) (e:=false) (p:=true) rfl (by decide +kernel) (by decide +kernel) (by decide +kernel) (by decide +kernel) (by decide +kernel) (by decide +kernel) (by decide +kernel)];have hgl:eW bs pad true ↔ b.landing=true:=⟨fun⟨_,b',hb',hl⟩=>(by rw[hb]at hb';cases hb';exact hl),fun h=>⟨h0,b,hb,h⟩⟩;simp only[cL,hgl,aQ,bq,ig,dX];clear hgl;simp_all[aE];done)
   | (apply aD;rw[ck (n:=4) (a:=false) (d:=true) (c:=true) (t:=true) (e:=false) (p:=true) rfl (by decide +kernel) (by decide +kernel) (by decide +kernel) (by decide +kernel) (by decide +kernel) (by decide +kernel) (by decide +kernel)];rintro⟨_,_,_,_,_,hp⟩;rw[cL]at hp;obtain⟨h0,b,hb,_⟩:=hp;have h9:=(Ch.1 hb).1;have h10:tt (within pad bs.length)=false:=(by assumption);rw[aq]at h10;have h9:pad.toNat<bs.length:=h9;have h0:0<=pad:=h0;exact h10 ⟨h0,by omega⟩)
 by_cases h6:kind=6
 ·subst h6
  repeat' (first
   | refine aa.chk rfl ?_
   | refine aa.tv rfl ?_
   | refine aa.tv (RL.len (by assumption)) ?_
   | refine aa.nat rfl ?_
   | refine aa.ite (v:=true) rfl (fun _=>?_) nofun
   | refine aa.ite (v:=false) rfl nofun (fun _=>?_)
   | refine aa.ite rfl (fun _=>?_) (fun _=>?_)
   | refine aa.call (by assumption) ?_
   | refine aa.tvs (by assumption) ?_
   | (refine f46_0_J ?_;unfold f46_0)|(refine f46_1_J ?_;unfold f46_1)|refine aa.call h36 ?_|refine aa.call h37 ?_|refine aa.call (r35 _ _) ?_)
  all_goals first
   | (apply aJ;rw[ck (n:=6) (a:=false) (d:=false) (c:=false) (t:=false) (e:=false) (p:=false) rfl (by decide +kernel) (by decide +kernel) (by decide +kernel) (by decide +kernel) (by decide +kernel) (by decide +kernel) (by decide +kernel)];simp_all[bq,bE,dX,aE];done)
   | (refine last _ _ _ (by assumption) fun b e h0 hb hr he=>?_;obtain⟨_,_,_,rfl,_⟩:=hr;refine aa.chk rfl ?_;apply aJ;rw[ck (n:=6) (a:=false) (d:=false) (c:=false) (t:=false) (e:=false) (p:=false) rfl (by decide +kernel) (by decide +kernel) (by decide +kernel) (by decide +kernel) (by decide +kernel) (by decide +kernel) (by decide +kernel)];have hgl:eW bs pad true ↔ b.landing=true:=⟨fun⟨_,b',hb',hl⟩=>(by rw[hb]at hb';cases hb';exact hl),fun h=>⟨h0,b,hb,h⟩⟩;simp only[cL,hgl,aQ,bq,ig,bE,dX];clear hgl;simp_all[aE,aq];done)
   | (apply aD;rw[ck (n:=6) (a:=false) (d:=false) (c:=false) (t:=false) (e:=false) (p:=false) rfl (by decide +kernel) (by decide +kernel) (by decide +kernel) (by decide +kernel) (by decide +kernel) (by decide +kernel) (by decide +kernel)];rintro⟨_,_,_,_,_,hp⟩;rw[cL]at hp;obtain⟨h0,b,hb,_⟩:=hp;have h9:=(Ch.1 hb).1;have h10:tt (within pad bs.length)=false:=(by assumption);rw[aq]at h10;have h9:pad.toNat<bs.length:=h9;have h0:0<=pad:=h0;exact h10 ⟨h0,by omega⟩)
 repeat' (first
  | refine aa.chk rfl ?_
  | refine aa.tv rfl ?_
  | refine aa.tv (RL.len (by assumption)) ?_
  | refine aa.nat rfl ?_
  | refine aa.ite (v:=true) rfl (fun _=>?_) nofun
  | refine aa.ite (v:=false) rfl nofun (fun _=>?_)
  | refine aa.ite rfl (fun _=>?_) (fun _=>?_)
  | refine aa.call (by assumption) ?_
  | refine aa.tvs (by assumption) ?_
  | (refine f46_0_J ?_;unfold f46_0)|(refine f46_1_J ?_;unfold f46_1)|refine aa.call h36 ?_|refine aa.call h37 ?_|refine aa.call (r35 _ _) ?_)
 all_goals first
  | (exfalso;simp_all;done)
  | (apply aD;intro h;have h:=h.1;simp[fq, *]at h;exact absurd h (by decide))
theorem lM {l:List Int} {i:Nat} {a:Int}:a∈l.take i ↔ ∃k,k<i/\l[k]? = some a:=by
 rw[List.mem_iff_getElem?]
 constructor
 ·rintro⟨k,hk⟩
  rw[List.getElem?_take]at hk
  split at hk
  ·exact⟨k,by assumption,hk⟩
  ·cases hk
 ·rintro⟨k,h1,h2⟩
  exact⟨k,by rw[List.getElem?_take,if_pos h1];exact h2⟩
theorem r20 {q q':Option Bool} {y:TV} {e:List TV} {p regs:Int} {b:DBlock} (he:RBlock q' e b):ao prog 45 [.agg [I p,I regs,y],.agg e] (B (tt (s6 b.landing regs b.pad))):=by
 obtain⟨c,i,g,rfl,hc,hd,hi,hg,ho⟩:=he
 refine ao.of (f45_MR _ _) ?_
 unfold f45_M
 cases hl:b.landing
 ·repeat' (first
   | refine aa.chk rfl ?_
   | refine aa.tv rfl ?_
   | refine aa.tv (RL.len (by assumption)) ?_
   | refine aa.nat rfl ?_
   | refine aa.ite (v:=true) rfl (fun _=>?_) nofun
   | refine aa.ite (v:=false) rfl nofun (fun _=>?_)
   | refine aa.ite rfl (fun _=>?_) (fun _=>?_)
   | refine aa.call (by assumption) ?_
   | refine aa.tvs (by assumption) ?_
   )
  all_goals (apply aJ;simp_all[s6])
 ·refine aa.chk rfl (aa.chk rfl (aa.tv rfl (aa.ite rfl nofun fun _=>?_)))
  refine f45_0_J ?_
  rw[show tt (s6 true regs b.pad)=tt (within b.pad.dst regs/\b.pad.catches.length<=8/\o7 b.pad.catches/\(b.pad.catches≠[]\/b.pad.all=true\/b.pad.cleanup=true)) from be ⟨fun h=>h.2 rfl,fun h=>⟨nofun,fun _=>h⟩⟩]
  refine mD (n:=b.pad.catches.length) (P:=fun i=>i<8/\∀a,b.pad.catches[i]? = some a->a∉b.pad.catches.take i) (g:=fun k=>f45_0 (I k) (I p) (I regs) y (I b.pad.dst) c (B b.pad.all) (B b.pad.cleanup)) ?_ ?_ ?_
  ·intro hn
   rw[gH]
   rintro⟨_,h8,hu,_⟩
   exact hn fun i hi=>⟨by omega,hu i hi⟩
  ·intro hall
   have h8:b.pad.catches.length<=8:=by
    by_cases h:b.pad.catches.length<=8
    ·exact h
    ·have:=(hall 8 (by omega)).1;omega
   have hu:o7 b.pad.catches:=fun i hi=>(hall i hi).2
   unfold f45_0
   refine aa.tv (RL.len (by assumption)) (aa.tv rfl (aa.ite aI nofun fun _=>?_))
   refine f45_2_J ?_
   unfold f45_2
   repeat' (first
    | refine aa.chk rfl ?_
    | refine aa.tv rfl ?_
    | refine aa.tv (RL.len (by assumption)) ?_
    | refine aa.nat rfl ?_
    | refine aa.ite (v:=true) rfl (fun _=>?_) nofun
    | refine aa.ite (v:=false) rfl nofun (fun _=>?_)
    | refine aa.ite rfl (fun _=>?_) (fun _=>?_)
    | refine aa.call (by assumption) ?_
    | refine aa.tvs (by assumption) ?_
    | refine aa.call (r35 _ _) ?_)
   all_goals (apply aJ;simp_all[aE,aq,List.length_pos_iff])
  ·intro k hk r h1 h2
   have ha:b.pad.catches[k]? = some b.pad.catches[k]:=Ci hk
   obtain⟨e,he,rfl,_⟩:=hc.idx (k:=.i64) ha
   unfold f45_0
   refine aa.tv (RL.len (by assumption)) (aa.tv rfl (aa.ite (aH hk) (fun _=>?_) nofun))
   refine aa.tv rfl (aa.ite rfl (fun h=>?_) fun h=>?_)
   ·rw[h1 (by simp at h;omega)];exact aa.ret
   ·have h8:k<8:=by simp at h;omega
    refine f45_1_J ?_
    refine mD (n:=k) (P:=fun j=>b.pad.catches[j]? ≠ b.pad.catches[k]?) (g:=fun j=>f45_1 (I k) (I j) (I p) (I regs) y (I b.pad.dst) c (B b.pad.all) (B b.pad.cleanup)) ?_ ?_ ?_
    ·intro hn
     refine h1 fun h'=>hn fun j hj hjk=>?_
     rw[ha]at hjk
     exact h'.2 _ ha (lM.2 ⟨j,hj,hjk⟩)
    ·intro hall
     unfold f45_1
     refine aa.tv rfl (aa.ite aI nofun fun _=>?_)
     refine aa.tv (inc hk hc.bnd) (f45_0_J (h2 ⟨h8,fun a h3 h4=>?_⟩))
     obtain⟨j,hj,h5⟩:=lM.1 h4
     exact hall j hj (by rw[h5,h3])
    ·intro j hj r g1 g2
     have hjl:j<b.pad.catches.length:=by omega
     have hb:b.pad.catches[j]? = some b.pad.catches[j]:=Ci hjl
     obtain⟨e,he2,rfl,_⟩:=hc.idx (k:=.i64) hb
     unfold f45_1
     refine aa.tv rfl (aa.ite (aH hj) (fun _=>?_) nofun)
     refine aa.tvs he2 (aa.chk rfl (aa.tvs he (aa.chk rfl (aa.tv rfl (aa.ite rfl (fun h=>?_) fun h=>?_)))))
     ·rw[g1 (by rw[ha,hb];simpa using h)];exact aa.ret
     ·refine aa.tv (inc hjl hc.bnd) (f45_1_J (g2 ?_))
      rw[ha,hb];simpa using h
theorem r11 {q q':Option Bool} {e e':List TV} {m:DMod} {f:DFunc} (hm:RMod q e m) (hf:RFunc q' e' f):ao prog 29 [.agg e,.agg e'] (B (tt (pp m.funcs f))):=by
 obtain⟨x,rfl,hx⟩:=hm
 obtain⟨y,rfl,hy,_⟩:=hf
 refine ao.of (f29_MR _ _) ?_
 unfold f29_M
 refine aa.chk rfl (aa.chk rfl (aa.tv rfl (aa.ite rfl (fun h=>?_) fun g1=>?_)))
 ·simp at h;exact aD fun h'=>by have:=h'.1;omega
 refine aa.tv rfl (aa.ite rfl (fun h=>?_) fun g2=>?_)
 ·simp at h;exact aD fun h'=>by have:=h'.1;omega
 refine aa.tv rfl (aa.ite rfl (fun h=>?_) fun g3=>?_)
 ·simp at h;exact aD fun h'=>by have:=h'.1;omega
 refine aa.tv rfl (aa.ite rfl (fun h=>?_) fun g4=>?_)
 ·simp at h;exact aD fun h'=>by have:=h'.1;omega
 refine aa.tv hy.len (aa.tv rfl (aa.ite rfl (fun h=>?_) fun g5=>?_))
 ·simp at h
  refine aD ?_
  rintro⟨_,_,⟨b,hb,_⟩,_⟩
  rw[h]at hb
  simp at hb
 refine aa.tv hy.len (aa.tv rfl (aa.ite rfl (fun h=>?_) fun g6=>?_))
 ·simp at h;exact aD fun h'=>by have:=h'.2.1;omega
 simp at g1 g2 g3 g4 g5 g6
 have hpos:0<f.blocks.length:=List.length_pos_iff.2 g5
 have hb0:f.blocks[0]? = some f.blocks[0]:=Ci hpos
 obtain⟨e0,he0,hr0⟩:=hy.idx (k:=.i64) hb0
 obtain⟨_,_,_,rfl,_⟩:=hr0
 refine aa.tvs he0 (aa.chk rfl (aa.ite rfl (fun h=>?_) fun g7=>?_))
 ·refine aD ?_
  rintro⟨_,_,⟨b,hb,hl⟩,_⟩
  rw[hb0]at hb
  simp at hb
  subst hb
  rw[hl]at h
  cases h
 refine f29_0_J ?_
 rw[show tt (pp m.funcs f)=tt (∀i,i<f.blocks.length->∀b,f.blocks[i]? = some b->j8 m.funcs f.regs f.blocks b) from be
  ⟨fun h=>h.2.2.2,fun h=>⟨⟨by omega,by omega,by omega,by omega⟩,by omega,⟨_,hb0,g7⟩,h⟩⟩]
 refine du (g:=fun k=>f29_0 (I k) x (I f.params) (I f.regs) y) ?_ ?_
 ·unfold f29_0
  refine aa.tv (RL.len (by assumption)) (aa.tv rfl (aa.ite aI nofun fun _=>?_))
  exact aa.ret
 ·intro k hk r h1 h2
  have ha:f.blocks[k]? = some f.blocks[k]:=Ci hk
  obtain⟨e,he,hr⟩:=hy.idx (k:=.i64) ha
  have h1:¬j8 m.funcs f.regs f.blocks f.blocks[k]->r=B false:=fun h=>h1 fun h'=>h (h' _ ha)
  have h2:j8 m.funcs f.regs f.blocks f.blocks[k]->aa prog 29 (f29_0 (I ((k+1:Nat):Int)) x (I f.params) (I f.regs) y) r:=fun h=>h2 fun b hb=>by rw[ha]at hb;cases hb;exact h
  generalize f.blocks[k]=b at *
  have h20:ao prog 45 [.agg [I f.params,I f.regs,y],.agg e] (B (tt (s6 b.landing f.regs b.pad))):=r20 (q:=q) hr
  obtain⟨c,i,g,rfl,hc,hd,hi,hg,ho⟩:=hr
  have h21:ao prog 46 [.agg [x],.agg [I f.params,I f.regs,y],.agg [I b.fin.kind,I b.fin.a,I b.fin.dst,I b.fin.f,g,I b.fin.to,I b.fin.els,I b.fin.pad]] (B (tt (tO m.funcs f.regs f.blocks b.fin))):=r21 (q':=q') hx hy ⟨g,rfl,hg,ho⟩
  unfold f29_0
  refine aa.tv (RL.len (by assumption)) (aa.tv rfl (aa.ite (aH hk) (fun _=>?_) nofun))
  refine aa.tvs he (aa.chk rfl (aa.tv hi.len (aa.tv rfl (aa.ite rfl (fun h=>?_) fun g1=>?_))))
  ·rw[h1 (fun h'=>by have:=h'.1;simp at h;omega)];exact aa.ret
  refine aa.call h20 (aa.chk rfl (aa.tv rfl (aa.ite rfl (fun h=>?_) fun g2=>?_)))
  ·rw[h1 (fun h'=>by simp[aq]at h;exact h h'.2.1)];exact aa.ret
  refine aa.call h21 (aa.chk rfl (aa.tv rfl (aa.ite rfl (fun h=>?_) fun g3=>?_)))
  ·rw[h1 (fun h'=>by simp[aq]at h;exact h h'.2.2.2)];exact aa.ret
  simp[aE]at g1 g2 g3
  refine f29_1_J ?_
  refine mD (n:=b.ins.length) (P:=fun j=>∀u,b.ins[j]? = some u->rn m.funcs f.regs u) (g:=fun j=>f29_1 (I k) (I j) x (I f.params) (I f.regs) y (B b.landing) (I b.pad.dst) c (B b.pad.all) (B b.pad.cleanup) i (I b.fin.kind) (I b.fin.a) (I b.fin.dst) (I b.fin.f) g (I b.fin.to) (I b.fin.els) (I b.fin.pad)) ?_ ?_ ?_
  ·intro hn;exact h1 fun h'=>hn h'.2.2.1
  ·intro hall
   unfold f29_1
   refine aa.tv (RL.len (by assumption)) (aa.tv rfl (aa.ite aI nofun fun _=>?_))
   exact aa.tv (inc hk hy.bnd) (f29_0_J (h2 ⟨by omega,g2,hall,g3⟩))
  ·intro j hj r k1 k2
   have hau:b.ins[j]? = some b.ins[j]:=Ci hj
   obtain⟨e,he,hea⟩:=hi.idx (k:=.i64) hau
   have h22:ao prog 47 [.agg [x],.agg [I f.params,I f.regs,y],.agg e] (B (tt (rn m.funcs f.regs b.ins[j]))):=r22 hx hea
   obtain⟨_,rfl,_⟩:=hea
   unfold f29_1
   refine aa.tv (RL.len (by assumption)) (aa.tv rfl (aa.ite (aH hj) (fun _=>?_) nofun))
   refine aa.tvs he (aa.chk rfl (aa.call h22 (aa.chk rfl (aa.tv rfl (aa.ite rfl (fun h=>?_) fun h=>?_)))))
   ·rw[k1 (by simp[hau];simpa[aq]using h)];exact aa.ret
   ·refine aa.tv (inc hj hi.bnd) (f29_1_J (k2 ?_))
    simp[hau];simpa[aE]using h
theorem r9 {q:Option Bool} {e:List TV} {m:DMod} (hm:RMod q e m):ao prog 13 [.agg e] (B (tt (ln m))):=by
 have hm':=hm
 obtain⟨x,rfl,hx⟩:=hm
 refine ao.of (f13_MR _) ?_
 unfold f13_M
 refine aa.chk rfl (aa.tv hx.len (aa.tv rfl (aa.ite rfl (fun h=>?_) fun g1=>?_)))
 ·simp at h
  refine aD ?_
  rintro⟨_,⟨b,hb,_⟩,_⟩
  rw[h]at hb
  simp at hb
 refine aa.tv hx.len (aa.tv rfl (aa.ite rfl (fun h=>?_) fun g2=>?_))
 ·simp at h;exact aD fun h'=>by have:=h'.1;omega
 simp at g1 g2
 have hpos:0<m.funcs.length:=List.length_pos_iff.2 g1
 have hb0:m.funcs[0]? = some m.funcs[0]:=Ci hpos
 obtain⟨e0,he0,hr0⟩:=hx.idx (k:=.i64) hb0
 obtain⟨_,rfl,_⟩:=hr0
 refine aa.tvs he0 (aa.chk rfl (aa.tv rfl (aa.ite rfl (fun h=>?_) fun g7=>?_)))
 ·refine aD ?_
  rintro⟨_,⟨b,hb,hl⟩,_⟩
  rw[hb0]at hb
  simp at hb
  subst hb
  rw[hl]at h
  simp at h
 simp at g7
 refine f13_0_J ?_
 rw[show tt (ln m)=tt (∀i,i<m.funcs.length->∀f,m.funcs[i]? = some f->pp m.funcs f) from be ⟨fun h=>h.2.2,fun h=>⟨by omega,⟨_,hb0,g7⟩,h⟩⟩]
 refine du (g:=fun k=>f13_0 (I k) x) ?_ ?_
 ·unfold f13_0
  refine aa.tv (RL.len (by assumption)) (aa.tv rfl (aa.ite aI nofun fun _=>?_))
  exact aa.ret
 ·intro k hk r h1 h2
  have ha:m.funcs[k]? = some m.funcs[k]:=Ci hk
  obtain⟨e,he,hr⟩:=hx.idx (k:=.i64) ha
  have h11:=r11 hm' hr
  obtain⟨_,rfl,_⟩:=hr
  unfold f13_0
  refine aa.tv (RL.len (by assumption)) (aa.tv rfl (aa.ite (aH hk) (fun _=>?_) nofun))
  refine aa.tvs he (aa.chk rfl (aa.call h11 (aa.chk rfl (aa.tv rfl (aa.ite rfl (fun h=>?_) fun h=>?_)))))
  ·rw[h1 (by simp[ha];simpa[aq]using h)];exact aa.ret
  ·refine aa.tv (inc hk hx.bnd) (f13_0_J (h2 ?_))
   simp[ha];simpa[aE]using h
end Go.Ab.C14
end
section
set_option maxRecDepth 10000
namespace Go.Ab.C14
open Go Go.Ab Go.Proofs
theorem r16 {e:List TV} {m:DMod} (he:RMod (some false) e m) (hs:gJ m):∃e',ao prog 8 [.agg e] (.agg e')/\RMod (some true) e' m:=by
 obtain⟨x,rfl,hx⟩:=he
 obtain⟨hs1,hs2⟩:=hs
 obtain⟨x',h26,hx'⟩:=r26 hx (by omega)
 have outer : ∀ d k w, k + d = m.funcs.length → RP 3 (fun j e f => RFunc (if j < k then some true else some false) e f) w m.funcs → ∃ w', aa prog 8 (f8_0 (I m.funcs.length) (I k) w) (.agg [w']) ∧ RL (some true) 3 (RFunc (some true)) w' m.funcs := by
  intro d
  induction d with
  | zero =>
   intro k w hk hw
   have hk:k=m.funcs.length:=by omega
   subst hk
   have hw':RL (some true) 3 (RFunc (some true)) w m.funcs:=hw.toRL fun i e a hi h=>by simpa[hi]using h
   refine⟨w,?_,hw'⟩
   unfold f8_0
   refine aa.tv rfl (aa.ite aI nofun fun _=>?_)
   exact aa.chk (by simp[bX,bN,hw'.own fun _ _ h=>h.own]) aa.ret
  | succ d ih =>
   intro k w hk hw
   have hkb:k<m.funcs.length:=by omega
   have ha:m.funcs[k]? = some m.funcs[k]:=Ci hkb
   obtain⟨e,he,hr,hget,hset⟩:=hw.row ha
   simp only[Nat.lt_irrefl,if_false]at hr
   obtain⟨hsf1,hsf2⟩:=hs2 k hkb _ ha
   generalize hu:m.funcs[k]=f at *
   obtain⟨v,rfl,hv,hok⟩:=hr
   obtain⟨v',h27,hv'⟩:=r27 hv (by omega)
   have hbk:(k:Nat)<=9223372036854775807:=by omega
   have hlt:(Nat.blt k m.funcs.length)=true:=by simpa using hkb
   have inner:∀d j y,j+d=f.blocks.length->RP 14 (fun t e b=>RBlock (if t<j then some true else some false) e b) y f.blocks->∃w',aa prog 8 (f8_1 (I k) (I m.funcs.length) (I k) (I f.blocks.length) (I j) w y) (.agg [w'])/\RL (some true) 3 (RFunc (some true)) w' m.funcs:=by
    intro d
    induction d with
    | zero =>
     intro j y hj hy
     have hj:j=f.blocks.length:=by omega
     subst hj
     have hy':RL (some true) 14 (RBlock (some true)) y f.blocks:=hy.toRL fun i e a hi h=>by simpa[hi]using h
     have hw2:=hw.set (S:=fun j e x=>RFunc (if j<k+1 then some true else some false) e x) ha (e:=[I f.params,I f.regs,y]) (by simp;exact⟨y,rfl,hy',hok⟩) (fun j e c hj h=>by
      by_cases hjk:j<k
      ·simpa[hjk,show j<k+1 by omega]using h
      ·simpa[hjk,show ¬j<k+1 by omega]using h)
     obtain⟨w',hw',hrl⟩:=ih (k+1) _ (by omega) hw2
     refine⟨w',?_,hrl⟩
     unfold f8_1
     refine aa.tv rfl (aa.ite aI nofun fun _=>?_)
     refine f8_2_J ?_
     unfold f8_2
     refine aa.nat hw.slLen (aa.nat (aK hbk) (aa.chk (by rw[hw.slSize,hlt];rfl) (aa.tvs he (aa.chk (by simp[bD,ab,zSl,az,hv.isSl,hy'.isSl]) (aa.tv (hset 2 [y]) (aa.tv (inc hkb hx.bnd) (f8_0_J hw')))))))
    | succ d ihi =>
     intro j y hj hy
     have hjb:j<f.blocks.length:=by omega
     have hab:f.blocks[j]? = some f.blocks[j]:=Ci hjb
     obtain⟨e2,he2,hr2,hget2,hset2⟩:=hy.row hab
     simp only[Nat.lt_irrefl,if_false]at hr2
     have hsb:=hsf2 j hjb _ hab
     generalize f.blocks[j]=b at *
     obtain⟨e3,h28,hr3⟩:=r28 hr2.frz hsb
     obtain⟨c,i,g,rfl,hc,hd,hi,hg,ho⟩:=hr2
     have hr4:=hr3
     obtain⟨c',i',g',rfl,hc',hd',hi',hg',ho'⟩:=hr3
     have hy2:=hy.set (S:=fun t e b=>RBlock (if t<j+1 then some true else some false) e b) hab (e:=[B b.landing,I b.pad.dst,c',B b.pad.all,B b.pad.cleanup,i',I b.fin.kind,I b.fin.a,I b.fin.dst,I b.fin.f,g',I b.fin.to,I b.fin.els,I b.fin.pad]) (by simp;exact hr4) (fun t e c ht h=>by
      by_cases htj:t<j
      ·simpa[htj,show t<j+1 by omega]using h
      ·simpa[htj,show ¬t<j+1 by omega]using h)
     obtain⟨w',hw',hrl⟩:=ihi (j+1) _ (by omega) hy2
     refine⟨w',?_,hrl⟩
     have hltb:(Nat.blt j f.blocks.length)=true:=by simpa using hjb
     have hf1:ab cE [B b.landing,I b.pad.dst,c,B b.pad.all,B b.pad.cleanup,i,I b.fin.kind,I b.fin.a,I b.fin.dst,I b.fin.f,g,I b.fin.to,I b.fin.els,I b.fin.pad] 0=true:=by
      simp[ab,cE,az,TV.isSc,scV,hc.isSl,hi.isSl,hg.isSl]
     have hf2:ab cE [B b.landing,I b.pad.dst,c',B b.pad.all,B b.pad.cleanup,i',I b.fin.kind,I b.fin.a,I b.fin.dst,I b.fin.f,g',I b.fin.to,I b.fin.els,I b.fin.pad] 0=true:=by
      simp[ab,cE,az,TV.isSc,scV,hc'.isSl,hi'.isSl,hg'.isSl]
     unfold f8_1
     refine aa.tv rfl (aa.ite (aH hjb) (fun _=>?_) nofun)
     refine aa.nat hy.slLen (aa.nat (aK (by omega)) (aa.chk (by rw[hy.slSize,hltb];rfl) (aa.tvs he2 (aa.chk hf1 (aa.tv (hget2 2 c rfl) (aa.tv (hget2 5 i rfl) (aa.tv (hget2 10 g rfl) (aa.call h28 (aa.chk hf2 ?_)))))))))
     refine aa.nat hy.slLen (aa.nat (aK (by omega)) (aa.chk (by rw[hy.slSize,hltb];rfl) (aa.tvs he2 (aa.chk (by rw[mO hf1];exact hf2) (aa.tv (hset2 0 _) (aa.tv (inc hjb (by omega)) (f8_1_J hw')))))))
   obtain⟨w',hw',hrl⟩:=inner f.blocks.length 0 v' (by omega) (hv'.toRP fun i e a h=>by simpa using h)
   refine⟨w',?_,hrl⟩
   unfold f8_0
   refine aa.tv rfl (aa.ite (aH hkb) (fun _=>?_) nofun)
   refine aa.nat hw.slLen (aa.nat (aK hbk) (aa.chk (by rw[hw.slSize,hlt];rfl) (aa.tvs he (aa.chk (by simp[bD,ab,zSl,az,hv.isSl]) (aa.tv (hget 2 v rfl) (aa.chk hv.fX (aa.call h27 (aa.chk (by simp[ab,zSl,az,hv'.isSl]) (aa.tv hv'.len (f8_1_J hw'))))))))))
 obtain⟨w',hw',hrl⟩:=outer m.funcs.length 0 x' (by omega) (hx'.toRP fun i e a h=>by simpa using h)
 refine⟨_,?_,⟨w',rfl,hrl⟩⟩
 refine ao.of (f8_MR _) ?_
 unfold f8_M
 exact aa.chk rfl (aa.call h26 (aa.chk (by simp[bD,ab,zSl,az,hx'.isSl]) (aa.tv hx'.len (f8_0_J hw'))))
end Go.Ab.C14
end
section
set_option maxRecDepth 10000
namespace Go.Ab
theorem ux:∀(p:Way) (k j:Nat) (x y:TV),aS p x=some y->aS (p ++ [(k,j)]) x=aS [(k,j)] y
 | [],k,j,x,y,h=>by simp[aS]at h;subst h;rfl
 | (a, b) :: p, k, j, x, y, h => by
  cases x with
  | sl o s xs =>
   simp only[aS,List.cons_append]at h ⊢
   cases hx:xs[a]? with
   | none=>simp[hx]at h
   | some e =>
    simp only[hx]at h ⊢
    cases he:e[b]? with
    | none=>simp[he]at h
    | some z =>
     simp only[he]at h ⊢
     exact ux p k j z y h
  | _=>simp[aS]at h
section
variable {α β:Type} {p:Way} {w y:TV} {s:Nat} {R:List TV->α->Prop} {Q:TV->β->Prop} {G:List α->DMod} {l:List α}
theorem RL.at (hy:RL (some true) s R y l) {k:Nat} {e:List TV} (he:Go.Ab.pel y k=some e):∃xs,y=.sl true s xs/\xs[k]? = some e/\F2 R xs l/\xs.length<=9223372036854775807:=by
 rcases hy with⟨rfl,rfl⟩|⟨o,xs,rfl,hq,h,hb⟩
 ·simp[Go.Ab.pel]at he
 ·have:o=true:=hq true rfl
  subst this
  exact⟨xs,rfl,he,h,hb⟩
end
end Go.Ab
namespace Go.Ab.C14
open Go Go.Ab Go.Proofs
end Go.Ab.C14
end
section
set_option maxRecDepth 10000
namespace Go.Ab
section
variable {α:Type} {s:Nat} {R:List TV->α->Prop} {y:TV} {l:List α}
theorem RL.vz (hy:RL (some true) s R y l) {i:Nat} {e:List TV} (he:Go.Ab.pel y i=some e) {d:Nat} {ys:List TV} {a:α} (hR:R (bu e d ys) a):∃y',fK [] y i d ys=some y'/\RL (some true) s R y' (l.set i a):=by
 obtain⟨xs,rfl,hk,hf,hb⟩:=hy.at he
 refine⟨.sl true s (ai xs i (bu e d ys)),by simp only[fK,aS,rA,hk,fP],.sl (by simp) (hf.set hR) (by rw[ca];exact hb)⟩
theorem RL.app (hy:RL (some true) s R y l) {e:List TV} {a:α} (hR:R e a) (hl:l.length+1<=4294967296):∃y',papp s y [e]=some y'/\RL (some true) s R y' (l ++ [a]):=by
 rcases hy with⟨rfl,rfl⟩|⟨o,xs,rfl,hq,h,hb⟩
 ·refine⟨.sl true s [e],by simp[papp,bj,room,BD],.sl (by simp) (.cons hR .nil) (by simp)⟩
 ·have:o=true:=hq true rfl
  subst this
  have hxl:=h.length
  refine⟨.sl true s (xs ++ [e]),?_,.sl (by simp) (h.append (.cons hR .nil)) (by simp;omega)⟩
  simp[papp,room];omega
end
end Go.Ab
namespace Go.Ab.C14
open Go Go.Ab Go.Proofs
end Go.Ab.C14
end

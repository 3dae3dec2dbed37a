import Derived.Test.YtpkpckdealhkhaaAC14F3
set_option linter.all false
section
set_option maxRecDepth 10000
namespace Go.Ab
theorem RL.kX {α:Type} {q:Option Bool} {s:Nat} {R:List TV->α->Prop} {x:TV} {l:List α} (h:RL q s R x l) {k:IntKind} {n:Int} {a:α} (h0:0<=n) (hi:l[n.toNat]? = some a):∃e,pidx s x (.lit (.int k n))=some e/\R e a:=by
 rcases h with⟨rfl,rfl⟩|⟨o,xs,rfl,hq,h,_⟩
 ·simp at hi
 ·obtain⟨e,he,hr⟩:=h.get hi
  exact⟨e,by simp[pidx,he,h0],hr⟩
def within (n most:Int):Prop:=0<=n/\n<most
def fw (u:Bool) (regs n:Int):Prop:=(u=true->within n regs)/\(u=false->n=0)
def jf (fs:List DFunc) (regs n:Int) (l:List Int):Prop:=0<=n/\∃g,fs[n.toNat]? = some g/\(l.length:Int)=g.params/\∀i,i<l.length->∀a,l[i]? = some a->within a regs
def jU (u:Bool) (fs:List DFunc) (regs n:Int) (l:List Int):Prop:=(u=true->jf fs regs n l)/\(u=false->n=0/\l=[])
def dk (bs:List DBlock) (n:Int) (landing:Bool):Prop:=0<=n/\∃b,bs[n.toNat]? = some b/\b.landing=landing
def je (u:Bool) (bs:List DBlock) (n:Int) (landing:Bool):Prop:=(u=true->dk bs n landing)/\(u=false->n=0)
theorem aU {regs n:Int}:fw true regs n ↔ within n regs:=⟨fun h=>h.1 rfl,fun h=>⟨fun _=>h,nofun⟩⟩
theorem aw {p:Prop}:tt p=false ↔ ¬p:=⟨fun h hp=>(by rw[bp hp]at h;exact Bool.noConfusion h),fun h=>ck h⟩
end Go.Ab
namespace Go.Ab.C14
open Go Go.Ab Go.Proofs
def ei (op:Int):Int :=
 if op=1 then 19 else if op=2 then 7 else if op=9 then 7 else if op=3 then 15 else if op=4 then 15 else if op=5 then 15 else if op=6 then 15 else if op=7 then 15 else if op=8 then 15 else if op=10 then 13 else if op=11 then 35 else if op=12 then 5 else if op=13 then 3 else 0
def dm (k:Int):Int :=
 if k=1 then 5 else if k=5 then 5 else if k=2 then 65 else if k=3 then 197 else if k=4 then 355 else if k=6 then 1 else 0
def has (u f:Int):Bool:=decide (¬IntKind.i64.wrap ((BitVec.ofInt 64 u &&& BitVec.ofInt 64 f).toNat:Int)=0)
theorem r25 (u f:Int):aj prog 75 [I u,I f] (B (has u f)):=by
 refine aj.of (f75_MR _ _) ?_
 unfold f75_M
 repeat' (first
  | refine aa.chk rfl ?_
  | refine aa.tv rfl ?_
  | refine aa.tv (RL.len (by assumption)) ?_
  | refine aa.nat rfl ?_
  | refine aa.ite rfl (fun _=>?_) (fun _=>?_)
  | refine aa.call (by assumption) ?_
  | refine aa.tvs (by assumption) ?_)
 refine cS.2 ?_
 simp[has]
 rfl
theorem r24 (k:Int):aj prog 77 [I k] (I (dm k)):=by
 refine aj.of (f77_MR _) ?_
 unfold f77_M
 repeat' (first
  | refine aa.chk rfl ?_
  | refine aa.tv rfl ?_
  | refine aa.tv (RL.len (by assumption)) ?_
  | refine aa.nat rfl ?_
  | refine aa.ite rfl (fun _=>?_) (fun _=>?_)
  | refine aa.call (by assumption) ?_
  | refine aa.tvs (by assumption) ?_)
 all_goals (refine cS.2 ?_;simp_all[dm])
theorem r49 (k:Int):aj prog 74 [I k] (I (ei k)):=by
 refine aj.of (f74_MR _) ?_
 unfold f74_M
 repeat' (first
  | refine aa.chk rfl ?_
  | refine aa.tv rfl ?_
  | refine aa.tv (RL.len (by assumption)) ?_
  | refine aa.nat rfl ?_
  | refine aa.ite rfl (fun _=>?_) (fun _=>?_)
  | refine aa.call (by assumption) ?_
  | refine aa.tvs (by assumption) ?_)
 all_goals (refine cS.2 ?_;simp_all[ei])
theorem r35 (n m:Int):aj prog 56 [I n,I m] (B (tt (within n m))):=by
 refine aj.of (f56_MR _ _) ?_
 unfold f56_M
 repeat' (first
  | refine aa.chk rfl ?_
  | refine aa.tv rfl ?_
  | refine aa.tv (RL.len (by assumption)) ?_
  | refine aa.nat rfl ?_
  | refine aa.ite rfl (fun _=>?_) (fun _=>?_)
  | refine aa.call (by assumption) ?_
  | refine aa.tvs (by assumption) ?_)
 all_goals (apply aH;simp_all[within]<;>omega)
theorem r47 {fs bs:TV} {p regs n:Int} {u:Bool}:aj prog 72 [.agg [fs,I p,I regs,bs],B u,I n] (B (tt (fw u regs n))):=by
  cases u
  · refine aj.of (f72_MR _ _ _) ?_
    unfold f72_M
    repeat' (first
      | refine aa.chk rfl ?_
      | refine aa.tv rfl ?_
      | refine aa.tv (RL.len (by assumption)) ?_
      | refine aa.nat rfl ?_
      | refine aa.ite (v:=true) rfl (fun _=>?_) nofun
      | refine aa.ite (v:=false) rfl nofun (fun _=>?_)
      | refine aa.ite rfl (fun _=>?_) (fun _=>?_)
      | refine aa.call (by assumption) ?_
      | refine aa.tvs (by assumption) ?_
       )
    all_goals (apply aH;simp_all[fw])
  · refine aj.of (f72_MR _ _ _) ?_
    unfold f72_M
    repeat' (first
      | refine aa.chk rfl ?_
      | refine aa.tv rfl ?_
      | refine aa.tv (RL.len (by assumption)) ?_
      | refine aa.nat rfl ?_
      | refine aa.ite (v:=true) rfl (fun _=>?_) nofun
      | refine aa.ite (v:=false) rfl nofun (fun _=>?_)
      | refine aa.ite rfl (fun _=>?_) (fun _=>?_)
      | refine aa.call (by assumption) ?_
      | refine aa.tvs (by assumption) ?_
       )
    all_goals (apply aH;simp_all[fw,within]<;>omega)
theorem r50 {q q' : Option Bool} {x bs g : TV} {fs : List DFunc} {p regs n : Int} {u : Bool} {l : List Int} (hx : RL q 3 (RFunc q) x fs) (hg : RInts q' g l) : aj prog 76 [.agg [x, I p, I regs, bs], B u, I n, g] (B (tt (jU u fs regs n l))) := by
  cases u
  · refine aj.of (f76_MR _ _ _ _) ?_
    unfold f76_M
    repeat' (first
      | refine aa.chk rfl ?_
      | refine aa.tv rfl ?_
      | refine aa.tv (RL.len (by assumption)) ?_
      | refine aa.nat rfl ?_
      | refine aa.ite (v:=true) rfl (fun _=>?_) nofun
      | refine aa.ite (v:=false) rfl nofun (fun _=>?_)
      | refine aa.ite rfl (fun _=>?_) (fun _=>?_)
      | refine aa.call (by assumption) ?_
      | refine aa.tvs (by assumption) ?_
       )
    all_goals (apply aH;simp_all[jU])
  · rw [show tt (jU true fs regs n l) = tt (jf fs regs n l) from aX ⟨fun h => h.1 rfl, fun h => ⟨fun _ => h, fun h => nomatch h⟩⟩]
    refine aj.of (f76_MR _ _ _ _) ?_
    unfold f76_M
    refine aa.chk rfl (aa.tv rfl (aa.ite rfl nofun fun _=>aa.tv rfl (aa.ite rfl (fun h=>?_) fun h=>?_)))
    · simp at h
      exact aB fun h'=>by have:=h'.1;omega
    · have h0 : 0 ≤ n := by simpa using h
      refine aa.tv hx.len (aa.tv rfl (aa.ite rfl (fun h=>?_) fun h=>?_))
      · simp at h
        refine aB ?_
        rintro⟨_,f,hf,_⟩
        have:=(FP.1 hf).1
        omega
      · simp at h
        have hlt:n.toNat<fs.length:=by omega
        have hf:fs[n.toNat]? = some fs[n.toNat]:=FQ hlt
        obtain⟨e,he,hr⟩:=hx.kX (k:=.i64) h0 hf
        obtain⟨b,rfl,_⟩:=hr
        refine aa.tv hg.len (aa.tvs he (aa.chk rfl (aa.tv rfl (aa.ite rfl (fun h=>?_) fun h=>?_))))
        · refine aB ?_
          rintro⟨_,f,hf',hl,_⟩
          rw[hf]at hf'
          simp at hf' h
          subst hf'
          exact h hl
        · simp at h
          refine aa.tv hg.len (f76_0_J ?_)
          have hp:jf fs regs n l ↔ ∀i,i<l.length->∀a,l[i]? = some a->within a regs:=by
            refine⟨fun⟨_,f,hf',hl,ha⟩=>ha,fun ha=>⟨h0,_,hf,h,ha⟩⟩
          rw[aX hp]
          refine dM (g:=fun k=>f76_0 g (I l.length) (I k) x (I p) (I regs) bs) ?_ ?_
          · unfold f76_0
            refine aa.tv rfl (aa.ite aM nofun fun _=>?_)
            exact aa.ret
          · intro k hk r h1 h2
            have ha:l[k]? = some l[k]:=FQ hk
            obtain⟨e,he,rfl,_⟩:=hg.idx (k:=.i64) ha
            unfold f76_0
            refine aa.tv rfl (aa.ite (aQ hk) (fun _=>?_) nofun)
            refine aa.tvs he (aa.chk rfl (aa.call r47 (aa.chk rfl (aa.tv rfl (aa.ite rfl (fun h=>?_) fun h=>?_)))))
            · rw[h1 (by simp[ha];simpa[aG,aw,aU]using h)];exact aa.ret
            · refine aa.tv (inc hk hg.bnd) (f76_0_J (h2 ?_))
              simp[ha];simpa[aG,aw,aU]using h
theorem r51 {q : Option Bool} {fs x : TV} {bs : List DBlock} {p regs n : Int} {u landing : Bool} (hx : RL q 14 (RBlock q) x bs) : aj prog 78 [.agg [fs, I p, I regs, x], B u, I n, B landing] (B (tt (je u bs n landing))) := by
  cases u
  · refine aj.of (f78_MR _ _ _ _) ?_
    unfold f78_M
    repeat' (first
      | refine aa.chk rfl ?_
      | refine aa.tv rfl ?_
      | refine aa.tv (RL.len (by assumption)) ?_
      | refine aa.nat rfl ?_
      | refine aa.ite (v:=true) rfl (fun _=>?_) nofun
      | refine aa.ite (v:=false) rfl nofun (fun _=>?_)
      | refine aa.ite rfl (fun _=>?_) (fun _=>?_)
      | refine aa.call (by assumption) ?_
      | refine aa.tvs (by assumption) ?_
       )
    all_goals (apply aH;simp_all[je])
  · rw [show tt (je true bs n landing) = tt (dk bs n landing) from aX ⟨fun h => h.1 rfl, fun h => ⟨fun _ => h, fun h => nomatch h⟩⟩]
    refine aj.of (f78_MR _ _ _ _) ?_
    unfold f78_M
    refine aa.chk rfl (aa.tv rfl (aa.ite rfl nofun fun _=>aa.tv rfl (aa.ite rfl (fun h=>?_) fun h=>?_)))
    · have h0 : 0 ≤ n := by simpa using h
      refine aa.tv hx.len (aa.tv rfl (aa.ite rfl (fun h=>?_) fun h=>?_))
      · simp at h
        have hlt:n.toNat<bs.length:=by omega
        have hf:bs[n.toNat]? = some bs[n.toNat]:=FQ hlt
        obtain⟨e,he,hr⟩:=hx.kX (k:=.i64) h0 hf
        obtain⟨c,i,g,rfl,_⟩:=hr
        refine aa.tvs he (aa.chk rfl (aa.tv rfl ?_))
        apply aH
        simp[dk,h0,hf]
      · simp at h
        refine aB ?_
        rintro⟨_,f,hf,_⟩
        have:=(FP.1 hf).1
        omega
    · simp at h
      exact aB fun h'=>by have:=h'.1;omega
def li (fs:List DFunc) (regs:Int) (x:DIns):Prop :=
 has (ei x.op) 1=true/\fw (has (ei x.op) 2) regs x.dst/\fw (has (ei x.op) 4) regs x.a/\fw (has (ei x.op) 8) regs x.b/\(has (ei x.op) 16=true\/x.k=0)/\jU (has (ei x.op) 32) fs regs x.f x.args
theorem r33 {q q':Option Bool} {x bs:TV} {e:List TV} {fs:List DFunc} {p regs:Int} {a:DIns} (hx:RL q 3 (RFunc q) x fs) (he:RIns q' e a):aj prog 61 [.agg [x,I p,I regs,bs],.agg e] (B (tt (li fs regs a))):=by
 obtain⟨g,rfl,hg,_⟩:=he
 have h49:=r49 a.op
 have h50:∀{u:Bool} {n:Int},aj prog 76 [.agg [x,I p,I regs,bs],B u,I n,g] (B (tt (jU u fs regs n a.args))):=r50 hx hg
 refine aj.of (f61_MR _ _) ?_
 unfold f61_M
 repeat' (first
  | refine aa.chk rfl ?_
  | refine aa.tv rfl ?_
  | refine aa.tv (RL.len (by assumption)) ?_
  | refine aa.nat rfl ?_
  | refine aa.ite (v:=true) rfl (fun _=>?_) nofun
  | refine aa.ite (v:=false) rfl nofun (fun _=>?_)
  | refine aa.ite rfl (fun _=>?_) (fun _=>?_)
  | refine aa.call (by assumption) ?_
  | refine aa.tvs (by assumption) ?_
  | refine aa.call (r25 _ _) ?_|refine aa.call r47 ?_|refine aa.call h50 ?_)
 all_goals (apply aH;simp_all[li,aG,aw])
def nl (fs:List DFunc) (regs:Int) (bs:List DBlock) (x:DEnd):Prop :=
 has (dm x.kind) 1=true/\fw (has (dm x.kind) 4) regs x.a/\fw (has (dm x.kind) 2) regs x.dst/\jU (has (dm x.kind) 32) fs regs x.f x.args /\
  je (has (dm x.kind) 64) bs x.to false/\je (has (dm x.kind) 128) bs x.els false/\je (has (dm x.kind) 256) bs x.pad true
theorem r34 {q q' q2:Option Bool} {x y:TV} {e:List TV} {fs:List DFunc} {bs:List DBlock} {p regs:Int} {a:DEnd} (hx:RL q 3 (RFunc q) x fs) (hy:RL q2 14 (RBlock q2) y bs) (he:REnd q' e a):aj prog 62 [.agg [x,I p,I regs,y],.agg e] (B (tt (nl fs regs bs a))):=by
 obtain⟨g,rfl,hg,_⟩:=he
 have h24:=r24 a.kind
 have h50:∀{u:Bool} {n:Int},aj prog 76 [.agg [x,I p,I regs,y],B u,I n,g] (B (tt (jU u fs regs n a.args))):=r50 hx hg
 have h51:∀{u landing:Bool} {n:Int},aj prog 78 [.agg [x,I p,I regs,y],B u,I n,B landing] (B (tt (je u bs n landing))):=r51 hy
 refine aj.of (f62_MR _ _) ?_
 unfold f62_M
 repeat' (first
  | refine aa.chk rfl ?_
  | refine aa.tv rfl ?_
  | refine aa.tv (RL.len (by assumption)) ?_
  | refine aa.nat rfl ?_
  | refine aa.ite (v:=true) rfl (fun _=>?_) nofun
  | refine aa.ite (v:=false) rfl nofun (fun _=>?_)
  | refine aa.ite rfl (fun _=>?_) (fun _=>?_)
  | refine aa.call (by assumption) ?_
  | refine aa.tvs (by assumption) ?_
  | refine aa.call (r25 _ _) ?_|refine aa.call r47 ?_|refine aa.call h50 ?_|refine aa.call h51 ?_)
 all_goals (apply aH;simp_all[nl,aG,aw])
end Go.Ab.C14
end
section
set_option maxRecDepth 10000
namespace Go.Ab
theorem RL.slice {α:Type} {q:Option Bool} {s:Nat} {R:List TV->α->Prop} {x:TV} {l:List α} (h:RL q s R x l) {t:TypeId} {lo hi:Option Nat} (h1:lo.getD 0<=hi.getD l.length) (h2:hi.getD l.length<=l.length) :
  ∃y,pslice (.slice t) s x lo hi=some y/\RL q s R y ((l.drop (lo.getD 0)).take (hi.getD l.length-lo.getD 0)):=by
 rcases h with⟨rfl,rfl⟩|⟨o,xs,rfl,hq,h,hb⟩
 ·simp at h1 h2
  refine⟨_,?_,by simpa using RL.nil⟩
  have h3:lo.getD 0=0:=by omega
  simp only[pslice,bc,h2,h3,and_self,if_true]
 ·have hl:=h.length
  refine⟨.sl o s ((xs.drop (lo.getD 0)).take (hi.getD xs.length-lo.getD 0)),?_,?_⟩
  ·rw[<-hl]at h1 h2
   simp only[pslice,h1,h2,and_self,if_true]
  ·rw[<-hl]
   exact .sl hq ((h.drop _).take _) (by simp;omega)
theorem bj {k:Nat} (h:k<=9223372036854775807):aJ (I (k:Int))=some k:=by
 simp[aJ];omega
def qV (l:List Int):Prop:=∀i,i<l.length->∀a,l[i]? = some a->a∉l.take i
def wo (landing:Bool) (regs:Int) (p:DPad):Prop:=(landing=false->p.dst=0/\p.catches=[]/\p.all=false/\p.cleanup=false) /\
 (landing=true->within p.dst regs/\p.catches.length<=8/\qV p.catches/\(p.catches≠[]\/p.all=true\/p.cleanup=true))
end Go.Ab
namespace Go.Ab.C14
open Go Go.Ab Go.Proofs
theorem r59 {q:Option Bool} {x:TV} {l:List Int} {w:Int} (hx:RWords q x l):∃n,aj prog 88 [x,W w] (I n)/\(0<=n ↔ w∈l):=by
 have loop : ∀ d k, k + d = l.length → ∃ n, aa prog 88 (f88_0 x (W w) (I l.length) (I k)) (I n) ∧ (0 ≤ n ↔ ∃ i, k ≤ i ∧ l[i]? = some w) := by
  intro d
  induction d with
  | zero =>
   intro k hk
   have hk:k=l.length:=by omega
   subst hk
   refine⟨-1,?_,?_⟩
   ·unfold f88_0
    refine aa.tv rfl (aa.ite aM nofun fun _=>?_)
    exact aa.ret
   ·simp only[show ¬(0:Int)<=-1 by omega,false_iff,not_exists,not_and]
    intro i hi
    rw[F5 hi];simp
  | succ d ih =>
   intro k hk
   have hk':k<l.length:=by omega
   have ha:l[k]? = some l[k]:=FQ hk'
   obtain⟨e,he,rfl,_⟩:=hx.idx (k:=.i64) ha
   obtain⟨n,hn,hiff⟩:=ih (k+1) (by omega)
   by_cases hw:w=l[k]
   ·refine⟨(k:Int),?_,?_⟩
    ·unfold f88_0
     refine aa.tv rfl (aa.ite (aQ hk') (fun _=>?_) nofun)
     refine aa.tvs he (aa.chk rfl (aa.tv rfl (aa.ite rfl (fun h=>aa.ret) fun h=>?_)))
     simp at h;exact absurd hw h
    ·constructor
     ·intro _;exact⟨k,Nat.le_refl _,by rw[ha,hw]⟩
     ·intro _;omega
   ·refine⟨n,?_,?_⟩
    ·unfold f88_0
     refine aa.tv rfl (aa.ite (aQ hk') (fun _=>?_) nofun)
     refine aa.tvs he (aa.chk rfl (aa.tv rfl (aa.ite rfl (fun h=>?_) fun h=>?_)))
     ·simp at h;exact absurd h hw
     ·refine aa.tv (inc hk' hx.bnd) (f88_0_J hn)
    ·rw[hiff]
     constructor
     ·rintro⟨i,hi,h⟩;exact⟨i,by omega,h⟩
     ·rintro⟨i,hi,h⟩
      refine⟨i,?_,h⟩
      by_cases hik:i=k
      ·subst hik;rw[ha]at h;simp at h;exact absurd h.symm hw
      ·omega
 obtain⟨n,hn,hiff⟩:=loop l.length 0 (by omega)
 refine⟨n,?_,?_⟩
 ·refine aj.of (f88_MR _ _) ?_
  unfold f88_M
  exact aa.tv hx.len (f88_0_J hn)
 ·rw[hiff,List.mem_iff_getElem?]
  simp
theorem r56 {q:Option Bool} {x:TV} {l:List Int} {w:Int} (hx:RWords q x l):aj prog 84 [x,W w] (B (tt (w∈l))):=by
 obtain⟨n,hn,hiff⟩:=r59 (w:=w) hx
 refine aj.of (f84_MR _ _) ?_
 unfold f84_M
 repeat' (first
  | refine aa.chk rfl ?_
  | refine aa.tv rfl ?_
  | refine aa.tv (RL.len (by assumption)) ?_
  | refine aa.nat rfl ?_
  | refine aa.ite rfl (fun _=>?_) (fun _=>?_)
  | refine aa.call (by assumption) ?_
  | refine aa.tvs (by assumption) ?_)
 apply aH
 simp[hiff]
theorem r48 {q:Option Bool} {x:TV} {l:List Int} (hx:RWords q x l):aj prog 73 [x] (B (tt (qV l))):=by
 refine aj.of (f73_MR _) ?_
 unfold f73_M
 refine aa.tv hx.len (f73_0_J ?_)
 refine dM (g:=fun k=>f73_0 x x (I l.length) (I k)) ?_ ?_
 ·unfold f73_0
  refine aa.tv rfl (aa.ite aM nofun fun _=>?_)
  exact aa.ret
 ·intro k hk r h1 h2
  have ha:l[k]? = some l[k]:=FQ hk
  obtain⟨e,he,rfl,_⟩:=hx.idx (k:=.i64) ha
  obtain⟨y,hy,hry⟩:=hx.slice (t:=53) (lo:=none) (hi:=some k) (by simp) (by simp;omega)
  have hry':RWords q y (l.take k):=by simpa using hry
  unfold f73_0
  refine aa.tv rfl (aa.ite (aQ hk) (fun _=>?_) nofun)
  have hb:=hx.bnd
  refine aa.tvs he (aa.chk rfl (aa.nat (bj (by omega)) (aa.tv hy (aa.call (r56 hry') (aa.chk rfl (aa.ite rfl (fun h=>?_) fun h=>?_))))))
  ·rw[h1 (by simp[ha];simpa[aG]using h)];exact aa.ret
  ·refine aa.tv (inc hk hx.bnd) (f73_0_J (h2 ?_))
   simp[ha];simpa[aw]using h
theorem r32 {q:Option Bool} {fs bs:TV} {e:List TV} {p regs:Int} {a:DPad} {landing:Bool} (he:RPad q e a):aj prog 60 [.agg [fs,I p,I regs,bs],B landing,.agg e] (B (tt (wo landing regs a))):=by
  obtain⟨x,rfl,hx,_⟩:=he
  have h48:=r48 hx
  cases landing
  · refine aj.of (f60_MR _ _ _) ?_
    unfold f60_M
    repeat' (first
      | refine aa.chk rfl ?_
      | refine aa.tv rfl ?_
      | refine aa.tv (RL.len (by assumption)) ?_
      | refine aa.nat rfl ?_
      | refine aa.ite (v:=true) rfl (fun _=>?_) nofun
      | refine aa.ite (v:=false) rfl nofun (fun _=>?_)
      | refine aa.ite rfl (fun _=>?_) (fun _=>?_)
      | refine aa.call (by assumption) ?_
      | refine aa.tvs (by assumption) ?_
       )
    all_goals (apply aH;simp_all[wo])
  · refine aj.of (f60_MR _ _ _) ?_
    unfold f60_M
    repeat' (first
      | refine aa.chk rfl ?_
      | refine aa.tv rfl ?_
      | refine aa.tv (RL.len (by assumption)) ?_
      | refine aa.nat rfl ?_
      | refine aa.ite (v:=true) rfl (fun _=>?_) nofun
      | refine aa.ite (v:=false) rfl nofun (fun _=>?_)
      | refine aa.ite rfl (fun _=>?_) (fun _=>?_)
      | refine aa.call (by assumption) ?_
      | refine aa.tvs (by assumption) ?_
      | refine aa.call r47 ?_)
    all_goals (apply aH;simp_all[wo,aG,aw,aU,List.length_pos_iff]<;>omega)
def i7 (fs:List DFunc) (regs:Int) (bs:List DBlock) (b:DBlock):Prop:=b.ins.length<=64/\wo b.landing regs b.pad/\(∀i,i<b.ins.length->∀x,b.ins[i]? = some x->li fs regs x)/\nl fs regs bs b.fin
def qF (fs:List DFunc) (f:DFunc):Prop:=(0<=f.params/\f.params<=8/\f.params<=f.regs/\f.regs<=256)/\f.blocks.length<=64/\(∃b,f.blocks[0]? = some b/\b.landing=false)/\∀i,i<f.blocks.length->∀b,f.blocks[i]? = some b->i7 fs f.regs f.blocks b
def cF (m:DMod):Prop:=m.funcs.length<=16/\(∃f,m.funcs[0]? = some f/\f.params=0)/\∀i,i<m.funcs.length->∀f,m.funcs[i]? = some f->qF m.funcs f
theorem r19 {q q' q2:Option Bool} {x y:TV} {e:List TV} {fs:List DFunc} {bs:List DBlock} {p regs:Int} {b:DBlock} (hx:RL q 3 (RFunc q) x fs) (hy:RL q2 14 (RBlock q2) y bs) (he:RBlock q' e b) :
  aj prog 49 [.agg [x,I p,I regs,y],.agg e] (B (tt (i7 fs regs bs b))):=by
 obtain⟨c,i,g,rfl,hc,hd,hi,hg,ho⟩:=he
 have h32:aj prog 60 [.agg [x,I p,I regs,y],B b.landing,.agg [I b.pad.dst,c,B b.pad.all,B b.pad.cleanup]] (B (tt (wo b.landing regs b.pad))):=r32 (q:=q') ⟨c,rfl,hc,hd⟩
 have h34:aj prog 62 [.agg [x,I p,I regs,y],.agg [I b.fin.kind,I b.fin.a,I b.fin.dst,I b.fin.f,g,I b.fin.to,I b.fin.els,I b.fin.pad]] (B (tt (nl fs regs bs b.fin))):=r34 (q':=q') hx hy ⟨g,rfl,hg,ho⟩
 refine aj.of (f49_MR _ _) ?_
 unfold f49_M
 refine aa.chk rfl (aa.chk rfl (aa.tv hi.len (aa.tv rfl (aa.ite rfl (fun h=>?_) fun h0=>?_))))
 ·simp at h
  exact aB fun h'=>by have:=h'.1;omega
 ·refine aa.call h32 (aa.chk rfl (aa.tv rfl (aa.ite rfl (fun h=>?_) fun h=>?_)))
  ·simp[aw]at h
   exact aB fun h'=>h h'.2.1
  ·simp[aG]at h h0
   refine aa.tv hi.len (f49_0_J ?_)
   rw[show tt (i7 fs regs bs b)=tt (fX 0 b.ins.length (fun i=>∀x,b.ins[i]? = some x->li fs regs x)/\nl fs regs bs b.fin) from aX (by
    rw[fY]
    exact⟨fun h=>h.2.2,fun h'=>⟨by omega,h,h'⟩⟩)]
   refine AR (g:=fun k=>f49_0 i (I b.ins.length) (I k) x (I p) (I regs) y (B b.landing) (I b.pad.dst) c (B b.pad.all) (B b.pad.cleanup) i (I b.fin.kind) (I b.fin.a) (I b.fin.dst) (I b.fin.f) g (I b.fin.to) (I b.fin.els) (I b.fin.pad)) ?_ ?_ b.ins.length 0 (by omega)
   ·unfold f49_0
    refine aa.tv rfl (aa.ite aM nofun fun _=>?_)
    refine f49_1_J ?_
    unfold f49_1
    exact aa.call h34 (aa.chk rfl aa.ret)
   ·intro k hk r h1 h2
    have ha:b.ins[k]? = some b.ins[k]:=FQ hk
    obtain⟨e,he,hr⟩:=hi.idx (k:=.i64) ha
    have h33:aj prog 61 [.agg [x,I p,I regs,y],.agg e] (B (tt (li fs regs b.ins[k]))):=r33 hx hr
    obtain⟨_,rfl,_⟩:=hr
    unfold f49_0
    refine aa.tv rfl (aa.ite (aQ hk) (fun _=>?_) nofun)
    refine aa.tvs he (aa.chk rfl (aa.call h33 (aa.chk rfl (aa.tv rfl (aa.ite rfl (fun h=>?_) fun h=>?_)))))
    ·rw[h1 (by simp[ha];simpa[aw]using h)];exact aa.ret
    ·refine aa.tv (inc hk hi.bnd) (f49_0_J (h2 ?_))
     simp[ha];simpa[aG]using h
theorem r10 {q q':Option Bool} {e e':List TV} {m:DMod} {f:DFunc} (hm:RMod q e m) (hf:RFunc q' e' f):aj prog 32 [.agg e,.agg e'] (B (tt (qF m.funcs f))):=by
 obtain⟨x,rfl,hx⟩:=hm
 obtain⟨y,rfl,hy,_⟩:=hf
 refine aj.of (f32_MR _ _) ?_
 unfold f32_M
 refine aa.chk rfl (aa.chk rfl (aa.tv rfl (aa.ite rfl (fun h=>?_) fun g1=>?_)))
 ·simp at h;exact aB fun h'=>by have:=h'.1;omega
 refine aa.tv rfl (aa.ite rfl (fun h=>?_) fun g2=>?_)
 ·simp at h;exact aB fun h'=>by have:=h'.1;omega
 refine aa.tv rfl (aa.ite rfl (fun h=>?_) fun g3=>?_)
 ·simp at h;exact aB fun h'=>by have:=h'.1;omega
 refine aa.tv rfl (aa.ite rfl (fun h=>?_) fun g4=>?_)
 ·simp at h;exact aB fun h'=>by have:=h'.1;omega
 refine aa.tv hy.len (aa.tv rfl (aa.ite rfl (fun h=>?_) fun g5=>?_))
 ·simp at h
  refine aB ?_
  rintro⟨_,_,⟨b,hb,_⟩,_⟩
  have:=(FP.1 hb).1
  omega
 refine aa.tv hy.len (aa.tv rfl (aa.ite rfl (fun h=>?_) fun g6=>?_))
 ·simp at h;exact aB fun h'=>by have:=h'.2.1;omega
 simp at g1 g2 g3 g4 g5 g6
 have hpos:0<f.blocks.length:=by omega
 have hb0:f.blocks[0]? = some f.blocks[0]:=FQ hpos
 obtain⟨e0,he0,hr0⟩:=hy.idx (k:=.i64) hb0
 obtain⟨_,_,_,rfl,_⟩:=hr0
 refine aa.tvs he0 (aa.chk rfl (aa.ite rfl (fun h=>?_) fun g7=>?_))
 ·refine aB ?_
  rintro⟨_,_,⟨b,hb,hl⟩,_⟩
  rw[hb0]at hb
  simp at hb
  subst hb
  rw[hl]at h
  cases h
 refine aa.tv hy.len (f32_0_J ?_)
 rw[show tt (qF m.funcs f)=tt (∀i,i<f.blocks.length->∀b,f.blocks[i]? = some b->i7 m.funcs f.regs f.blocks b) from aX
  ⟨fun h=>h.2.2.2,fun h=>⟨⟨by omega,by omega,by omega,by omega⟩,by omega,⟨_,hb0,g7⟩,h⟩⟩]
 refine dM (g:=fun k=>f32_0 y (I f.blocks.length) (I k) x (I f.params) (I f.regs) y) ?_ ?_
 ·unfold f32_0
  refine aa.tv rfl (aa.ite aM nofun fun _=>?_)
  exact aa.ret
 ·intro k hk r h1 h2
  have ha:f.blocks[k]? = some f.blocks[k]:=FQ hk
  obtain⟨e,he,hr⟩:=hy.idx (k:=.i64) ha
  have h19:aj prog 49 [.agg [x,I f.params,I f.regs,y],.agg e] (B (tt (i7 m.funcs f.regs f.blocks f.blocks[k]))):=r19 hx hy hr
  obtain⟨_,_,_,rfl,_⟩:=hr
  unfold f32_0
  refine aa.tv rfl (aa.ite (aQ hk) (fun _=>?_) nofun)
  refine aa.tvs he (aa.chk rfl (aa.call h19 (aa.chk rfl (aa.tv rfl (aa.ite rfl (fun h=>?_) fun h=>?_)))))
  ·rw[h1 (by simp[ha];simpa[aw]using h)];exact aa.ret
  ·refine aa.tv (inc hk hy.bnd) (f32_0_J (h2 ?_))
   simp[ha];simpa[aG]using h
theorem r8 {q:Option Bool} {e:List TV} {m:DMod} (hm:RMod q e m):aj prog 16 [.agg e] (B (tt (cF m))):=by
 have hm':=hm
 obtain⟨x,rfl,hx⟩:=hm
 refine aj.of (f16_MR _) ?_
 unfold f16_M
 refine aa.chk rfl (aa.tv hx.len (aa.tv rfl (aa.ite rfl (fun h=>?_) fun g1=>?_)))
 ·simp at h
  refine aB ?_
  rintro⟨_,⟨b,hb,_⟩,_⟩
  have:=(FP.1 hb).1
  omega
 refine aa.tv hx.len (aa.tv rfl (aa.ite rfl (fun h=>?_) fun g2=>?_))
 ·simp at h;exact aB fun h'=>by have:=h'.1;omega
 simp at g1 g2
 have hpos:0<m.funcs.length:=by omega
 have hb0:m.funcs[0]? = some m.funcs[0]:=FQ hpos
 obtain⟨e0,he0,hr0⟩:=hx.idx (k:=.i64) hb0
 obtain⟨_,rfl,_⟩:=hr0
 refine aa.tvs he0 (aa.chk rfl (aa.tv rfl (aa.ite rfl (fun h=>?_) fun g7=>?_)))
 ·refine aB ?_
  rintro⟨_,⟨b,hb,hl⟩,_⟩
  rw[hb0]at hb
  simp at hb
  subst hb
  rw[hl]at h
  simp at h
 simp at g7
 refine aa.tv hx.len (f16_0_J ?_)
 rw[show tt (cF m)=tt (∀i,i<m.funcs.length->∀f,m.funcs[i]? = some f->qF m.funcs f) from aX ⟨fun h=>h.2.2,fun h=>⟨by omega,⟨_,hb0,g7⟩,h⟩⟩]
 refine dM (g:=fun k=>f16_0 x (I m.funcs.length) (I k) x) ?_ ?_
 ·unfold f16_0
  refine aa.tv rfl (aa.ite aM nofun fun _=>?_)
  exact aa.ret
 ·intro k hk r h1 h2
  have ha:m.funcs[k]? = some m.funcs[k]:=FQ hk
  obtain⟨e,he,hr⟩:=hx.idx (k:=.i64) ha
  have h10:=r10 hm' hr
  obtain⟨_,rfl,_⟩:=hr
  unfold f16_0
  refine aa.tv rfl (aa.ite (aQ hk) (fun _=>?_) nofun)
  refine aa.tvs he (aa.chk rfl (aa.call h10 (aa.chk rfl (aa.tv rfl (aa.ite rfl (fun h=>?_) fun h=>?_)))))
  ·rw[h1 (by simp[ha];simpa[aw]using h)];exact aa.ret
  ·refine aa.tv (inc hk hx.bnd) (f16_0_J (h2 ?_))
   simp[ha];simpa[aG]using h
end Go.Ab.C14
end
section
set_option maxRecDepth 10000
namespace Go.Ab
def yJ (b:DBlock):Prop:=b.ins.length<=70/\b.pad.catches.length<=20/\b.fin.args.length<=20/\∀i,i<b.ins.length->∀x,b.ins[i]? = some x->x.args.length<=20
def DR (f:DFunc):Prop:=f.blocks.length<=70/\∀i,i<f.blocks.length->∀b,f.blocks[i]? = some b->yJ b
def ig (m:DMod):Prop:=m.funcs.length<=20/\∀i,i<m.funcs.length->∀f,m.funcs[i]? = some f->DR f
def lU:TV->List (List TV)
 | .sl _ _ xs=>xs
 | _=>[]
theorem sS {β:Type} {l:List β} {i:Nat} {a:β} (h:l[i]? = some a):l.set i a=l:=by
 apply List.ext_getElem?
 intro j
 rw[List.getElem?_set]
 by_cases hj:i=j
 ·subst hj;have:=(FP.1 h).1;simp only[if_true,this];rw[h]
 ·simp[hj]
def RP {α:Type} (s:Nat) (R:Nat->List TV->α->Prop) (x:TV) (l:List α):Prop :=
 (x=.lit bc/\l=[])\/∃xs,x=.sl true s xs/\xs.length=l.length/\xs.length<=9223372036854775807/\∀i e a,xs[i]? = some e->l[i]? = some a->R i e a
section
variable {α:Type} {s:Nat} {R S:Nat->List TV->α->Prop} {x:TV} {l:List α}
theorem cI {β:Type}:∀(l:List β) (n:Nat) (b:β),(ai l n b).length=l.length
 | [],_,_=>rfl
 | _::_,0,_=>rfl
 | a::l,n+1,b=>by simp[ai,cI l n b]
theorem sq {β:Type}:∀(l:List β) (n:Nat) (b:β) (i:Nat),n<l.length->(ai l n b)[i]? = if i=n then some b else l[i]?
 | [],_,_,_,h=>by simp at h
 | _::_,0,_,0,_=>rfl
 | _::_,0,_,i+1,_=>by simp[ai]
 | a::l,n+1,b,0,_=>by simp[ai]
 | a::l,n+1,b,i+1,h=>by
  have:=sq l n b i (by simpa using h)
  simp[ai,this]
theorem RP.slLen (h:RP s R x l):Go.Ab.slLen x=some l.length:=by
 rcases h with⟨rfl,rfl⟩|⟨xs,rfl,hl,hb,h⟩
 ·rfl
 ·simp[Go.Ab.slLen,hl]
theorem RP.slSize (h:RP s R x l):Go.Ab.slSize x s=true:=by
 rcases h with⟨rfl,rfl⟩|⟨xs,rfl,hl,hb,h⟩
 ·rfl
 ·simp[Go.Ab.slSize]
theorem RP.row (h:RP s R x l) {i:Nat} {a:α} (hi:l[i]? = some a):∃e,Go.Ab.pel x i=some e/\R i e a/\(∀j y,e[j]? = some y->a8 [(i,j)] x=some y) /\
  ∀j ys,ja [] x i j ys=some (.sl true s (ai (lU x) i (bH e j ys))):=by
 rcases h with⟨rfl,rfl⟩|⟨xs,rfl,hl,hb,h⟩
 ·simp at hi
 ·have hlt:=(FP.1 hi).1
  have hx:xs[i]? = some (xs[i]'(by omega)):=FQ _
  refine⟨_,hx,h i _ a hx hi,fun j y hy=>?_,fun j ys=>?_⟩
  ·simp only[a8,hx,hy]
  ·simp only[ja,a8,uR,hx,iA,lU]
theorem RP.FN (h:RP s R x l) {i:Nat} {a b:α} (hi:l[i]? = some a) {e:List TV} (hS:S i e b) (hR:∀j e c,j≠i->R j e c->S j e c):RP s S (.sl true s (ai (lU x) i e)) (l.set i b):=by
 rcases h with⟨rfl,rfl⟩|⟨xs,rfl,hl,hb,h⟩
 ·simp at hi
 ·have hlt:=(FP.1 hi).1
  refine .inr ⟨_,rfl,by simp[cI,lU,hl],by simp[cI,lU,hb],fun j e' c hj hc=>?_⟩
  rw[sq _ _ _ _ (by simp only[lU];omega)]at hj
  simp only[lU]at hj
  rw[List.getElem?_set]at hc
  by_cases hji:j=i
  ·subst hji
   simp[hlt]at hj hc
   subst hj hc
   exact hS
  ·rw[if_neg hji]at hj
   rw[if_neg (fun h=>hji h.symm)]at hc
   exact hR j _ _ hji (h j _ _ hj hc)
theorem RP.set (h:RP s R x l) {i:Nat} {a:α} (hi:l[i]? = some a) {e:List TV} (hS:S i e a) (hR:∀j e c,j≠i->R j e c->S j e c):RP s S (.sl true s (ai (lU x) i e)) l:=by
 have:=RP.FN h hi hS hR
 rwa[sS hi]at this
theorem RP.Fk {T:List TV->α->Prop} (h:RP s R x l) (hm:∀i e a,i<l.length->R i e a->T e a):RL (some true) s T x l:=by
 rcases h with⟨rfl,rfl⟩|⟨xs,rfl,hl,hb,h⟩
 ·exact .nil
 ·refine .sl (by simp) (F2.of_get hl fun i e a he ha=>hm i e a ?_ (h i e a he ha)) hb
  exact(FP.1 ha).1
theorem RL.Fj {T:List TV->α->Prop} (h:RL (some true) s T x l) (hm:∀i e a,T e a->R i e a):RP s R x l:=by
 rcases h with⟨rfl,rfl⟩|⟨o,xs,rfl,hq,h,hb⟩
 ·exact .inl ⟨rfl,rfl⟩
 ·have:o=true:=hq true rfl
  subst this
  refine .inr ⟨xs,rfl,h.length,hb,fun i e a he ha=>?_⟩
  obtain⟨e',he',hr⟩:=h.get ha
  rw[he]at he'
  cases he'
  exact hm _ _ _ hr
end
theorem RL.jb {α:Type} {s:Nat} {R:List TV->α->Prop} {x:TV} {l:List α} (h:RL (some false) s R x l):x.jb=true:=by
 rcases h with⟨rfl,rfl⟩|⟨o,xs,rfl,hq,h,hb⟩
 ·rfl
 ·rw[hq false rfl];rfl
theorem qx:∀(xs:List (List TV)),(∀e∈xs,bE e=true)->mc xs=true
 | [],_=>rfl
 | e::xs,h=>by
  simp only[mc,FS]
  exact⟨h e FX,qx xs fun e he=>h e (FY _ he)⟩
theorem F2.memL {α β:Type} {R:α->β->Prop} {xs:List α} {l:List β} (h:F2 R xs l) {e:α} (he:e∈xs):∃a,a∈l/\R e a:=by
 obtain⟨i,hi,rfl⟩:=List.mem_iff_getElem.1 he
 obtain⟨a,ha,hr⟩:=h.getL (FQ hi)
 exact⟨a,FZ ha,hr⟩
theorem RL.own {α:Type} {s:Nat} {R:List TV->α->Prop} {x:TV} {l:List α} (h:RL (some true) s R x l) (hm:∀e a,R e a->bE e=true):isOwn x=true:=by
 rcases h with⟨rfl,rfl⟩|⟨o,xs,rfl,hq,h,hb⟩
 ·rfl
 ·rw[hq true rfl]
  simp only[isOwn,Bool.true_and]
  refine qx _ fun e he=>?_
  obtain⟨a,_,hr⟩:=h.memL he
  exact hm _ _ hr
theorem RI1.own {e:List TV} {n:Int} (h:RI1 e n):bE e=true:=by obtain⟨rfl,_⟩:=h;rfl
theorem RW1.own {e:List TV} {n:Int} (h:RW1 e n):bE e=true:=by obtain⟨rfl,_⟩:=h;rfl
theorem RIns.own {e:List TV} {a:DIns} (h:RIns (some true) e a):bE e=true:=by
 obtain⟨g,rfl,hg,_⟩:=h
 simp[bE,isOwn,hg.own fun _ _ h=>h.own]
theorem RBlock.own {e:List TV} {a:DBlock} (h:RBlock (some true) e a):bE e=true:=by
 obtain⟨c,i,g,rfl,hc,hd,hi,hg,ho⟩:=h
 simp[bE,isOwn,hc.own fun _ _ h=>h.own,hi.own fun _ _ h=>h.own,hg.own fun _ _ h=>h.own]
theorem RFunc.own {e:List TV} {a:DFunc} (h:RFunc (some true) e a):bE e=true:=by
 obtain⟨b,rfl,hb,ho⟩:=h
 simp[bE,isOwn,hb.own fun _ _ h=>h.own]
theorem lO {α:Type} {q:Option Bool} {s:Nat} {R:List TV->α->Prop} {x:TV} {l:List α} (h:RL q s R x l) (z:List TV) {xs:List (List TV)} (hx:pelems s x=some xs):∃y,pcopy s (.sl true s (List.replicate l.length z)) xs=some y/\RL (some true) s R y l:=by
 have hl:F2 R xs l/\xs.length<=9223372036854775807:=by
  rcases h with⟨rfl,rfl⟩|⟨o,ys,rfl,hq,h,hb⟩
  ·change some []=some xs at hx;cases hx;exact⟨.nil,by simp⟩
  ·simp[pelems]at hx;subst hx;exact⟨h,hb⟩
 have hlen:=hl.1.length
 refine⟨.sl true s (xs.take l.length++(List.replicate l.length z).drop xs.length),by simp[pcopy],?_⟩
 rw[<-hlen,List.take_length,List.drop_eq_nil_of_le (by simp),List.append_nil]
 exact .sl (by simp) hl.1 hl.2
end Go.Ab
namespace Go.Ab.C14
open Go Go.Ab Go.Proofs
theorem r7 {q : Option Bool} {e : List TV} {m : DMod} (hm : RMod q e m) : ∃ b, aj prog 7 [.agg e] (B b) ∧ (b = true → ig m) := by
 obtain⟨x,rfl,hx⟩:=hm
 have no:∀{p:Prg TV},aa prog 7 p (B false)->∃b,aa prog 7 p (B b)/\(b=true->ig m):=fun h=>⟨false,h,nofun⟩
 by_cases hlen:m.funcs.length<=20
 ·have outer : ∀ d i (n : Int), i + d = m.funcs.length → 0 ≤ n → n ≤ (i : Int) * 4900 → (∀ j, j < i → ∀ f, m.funcs[j]? = some f → DR f) → ∃ b, aa prog 7 (f7_0 (I n) (I i) x) (B b) ∧ (b = true → ig m) := by
   intro d
   induction d with
   | zero =>
    intro i n hi h0 hn hs
    have hi:i=m.funcs.length:=by omega
    subst hi
    refine⟨decide (n<=2000),?_,fun _=>⟨hlen,hs⟩⟩
    unfold f7_0
    refine aa.tv (RL.len (by assumption)) (aa.tv rfl (aa.ite aM nofun fun _=>?_))
    exact aa.tv rfl aa.ret
   | succ d ih =>
    intro i n hi h0 hn hs
    have hk:i<m.funcs.length:=by omega
    have ha:m.funcs[i]? = some m.funcs[i]:=FQ hk
    obtain⟨e,he,hr⟩:=hx.idx (k:=.i64) ha
    generalize m.funcs[i]=f at ha hr
    obtain⟨y,rfl,hy,_⟩:=hr
    by_cases hbl:f.blocks.length<=70
    ·have mid : ∀ d k (n : Int), k + d = f.blocks.length → 0 ≤ n → n ≤ (i : Int) * 4900 + k * 70 → (∀ j, j < k → ∀ b, f.blocks[j]? = some b → yJ b) → ∃ b, aa prog 7 (f7_1 (I n) (I i) (I k) x) (B b) ∧ (b = true → ig m) := by
      intro d
      induction d with
      | zero =>
       intro k n hk' h0 hn hsb
       have hk':k=f.blocks.length:=by omega
       subst hk'
       obtain⟨b,hb,himp⟩:=ih (i+1) n (by omega) h0 (by simp;omega) (fun j hj g hg=>by
        by_cases hji:j=i
        ·subst hji;rw[ha]at hg;cases hg;exact⟨hbl,fun j hj=>hsb j hj⟩
        ·exact hs j (by omega) g hg)
       refine⟨b,?_,himp⟩
       unfold f7_1
       refine aa.tvs he (aa.chk rfl (aa.tv hy.len (aa.tv rfl (aa.ite aM nofun fun _=>?_))))
       exact aa.tv (inc hk hx.bnd) (f7_0_J hb)
      | succ d ihm =>
       intro k n hk' h0 hn hsb
       have hkb:k<f.blocks.length:=by omega
       have hab:f.blocks[k]? = some f.blocks[k]:=FQ hkb
       obtain⟨e2,he2,hr2⟩:=hy.idx (k:=.i64) hab
       generalize f.blocks[k]=b at hab hr2
       obtain⟨c,is,g,rfl,hc,hd,his,hg,ho⟩:=hr2
       have start:∀r,(¬(b.ins.length<=70/\b.pad.catches.length<=20/\b.fin.args.length<=20)->r=B false)->(b.ins.length<=70/\b.pad.catches.length<=20/\b.fin.args.length<=20->aa prog 7 (f7_2 (I (n+b.ins.length)) (I i) (I k) (I (0:Nat)) x (B b.landing) (I b.pad.dst) c (B b.pad.all) (B b.pad.cleanup) is (I b.fin.kind) (I b.fin.a) (I b.fin.dst) (I b.fin.f) g (I b.fin.to) (I b.fin.els) (I b.fin.pad)) r)->aa prog 7 (f7_1 (I n) (I i) (I k) x) r:=by
        intro r h1 h2
        unfold f7_1
        refine aa.tvs he (aa.chk rfl (aa.tv hy.len (aa.tv rfl (aa.ite (aQ hkb) (fun _=>?_) nofun))))
        refine aa.tvs he (aa.chk rfl (aa.tvs he2 (aa.chk rfl (aa.tv his.len (aa.tv rfl (aa.ite rfl (fun h=>?_) fun g1=>?_))))))
        ·rw[h1 (by simp at h;omega)];exact aa.ret
        ·refine aa.tv hc.len (aa.tv rfl (aa.ite rfl (fun h=>?_) fun g2=>?_))
         ·rw[h1 (by simp at h;omega)];exact aa.ret
         ·refine aa.tv hg.len (aa.tv rfl (aa.ite rfl (fun h=>?_) fun g3=>?_))
          ·rw[h1 (by simp at h;omega)];exact aa.ret
          ·simp at g1 g2 g3
           refine aa.tv his.len (aa.tv (padd (by constructor<;>omega)) (f7_2_J (h2 ⟨by omega,by omega,by omega⟩)))
       by_cases hsz:b.ins.length<=70/\b.pad.catches.length<=20/\b.fin.args.length<=20
       ·have inner:∀d j,j+d=b.ins.length->(∀t,t<j->∀x,b.ins[t]? = some x->x.args.length<=20)->∃r,aa prog 7 (f7_2 (I (n+b.ins.length)) (I i) (I k) (I j) x (B b.landing) (I b.pad.dst) c (B b.pad.all) (B b.pad.cleanup) is (I b.fin.kind) (I b.fin.a) (I b.fin.dst) (I b.fin.f) g (I b.fin.to) (I b.fin.els) (I b.fin.pad)) (B r)/\(r=true->ig m):=by
         intro d
         induction d with
         | zero =>
          intro j hj hs2
          have hj:j=b.ins.length:=by omega
          subst hj
          obtain⟨r,hb,himp⟩:=ihm (k+1) (n+b.ins.length) (by omega) (by omega) (by simp;omega) (fun j hj g hg=>by
           by_cases hji:j=k
           ·subst hji;rw[hab]at hg;cases hg;exact⟨hsz.1,hsz.2.1,hsz.2.2,hs2⟩
           ·exact hsb j (by omega) g hg)
          refine⟨r,?_,himp⟩
          unfold f7_2
          refine aa.tv (RL.len (by assumption)) (aa.tv rfl (aa.ite aM nofun fun _=>?_))
          exact aa.tv (inc hkb hy.bnd) (f7_1_J hb)
         | succ d ihi =>
          intro j hj hs2
          have hjb:j<b.ins.length:=by omega
          have hax:b.ins[j]? = some b.ins[j]:=FQ hjb
          obtain⟨e3,he3,hr3⟩:=his.idx (k:=.i64) hax
          generalize b.ins[j]=u at hax hr3
          obtain⟨v,rfl,hv,_⟩:=hr3
          by_cases hu:u.args.length<=20
          ·obtain⟨r,hb,himp⟩:=ihi (j+1) (by omega) (fun t ht z hz=>by
            by_cases htj:t=j
            ·subst htj;rw[hax]at hz;cases hz;exact hu
            ·exact hs2 t (by omega) z hz)
           refine⟨r,?_,himp⟩
           unfold f7_2
           refine aa.tv (RL.len (by assumption)) (aa.tv rfl (aa.ite (aQ hjb) (fun _=>?_) nofun))
           refine aa.tvs he3 (aa.chk rfl (aa.tv hv.len (aa.tv rfl (aa.ite rfl (fun h=>?_) fun _=>?_))))
           ·simp at h;omega
           ·exact aa.tv (inc hjb his.bnd) (f7_2_J hb)
          ·refine no ?_
           unfold f7_2
           refine aa.tv (RL.len (by assumption)) (aa.tv rfl (aa.ite (aQ hjb) (fun _=>?_) nofun))
           refine aa.tvs he3 (aa.chk rfl (aa.tv hv.len (aa.tv rfl (aa.ite rfl (fun h=>aa.ret) fun h=>?_))))
           simp at h;omega
        obtain⟨r,hb,himp⟩:=inner b.ins.length 0 (by omega) (fun t ht=>by omega)
        exact⟨r,start _ (fun h=>absurd hsz h) (fun _=>hb),himp⟩
       ·exact no (start _ (fun _=>rfl) (fun h=>absurd h hsz))
     obtain⟨b,hb,himp⟩:=mid f.blocks.length 0 n (by omega) h0 (by simp;omega) (fun j hj=>by omega)
     refine⟨b,?_,himp⟩
     unfold f7_0
     refine aa.tv (RL.len (by assumption)) (aa.tv rfl (aa.ite (aQ hk) (fun _=>?_) nofun))
     refine aa.tvs he (aa.chk rfl (aa.tv hy.len (aa.tv rfl (aa.ite rfl (fun h=>?_) fun _=>?_))))
     ·simp at h;omega
     ·exact f7_1_J hb
    ·refine no ?_
     unfold f7_0
     refine aa.tv (RL.len (by assumption)) (aa.tv rfl (aa.ite (aQ hk) (fun _=>?_) nofun))
     refine aa.tvs he (aa.chk rfl (aa.tv hy.len (aa.tv rfl (aa.ite rfl (fun h=>aa.ret) fun h=>?_))))
     simp at h;omega
  obtain⟨b,hb,himp⟩:=outer m.funcs.length 0 0 (by omega) (by omega) (by simp) (fun j hj=>by omega)
  refine⟨b,?_,himp⟩
  refine aj.of (f7_MR _) ?_
  unfold f7_M
  refine aa.chk rfl (aa.tv hx.len (aa.tv rfl (aa.ite rfl (fun h=>?_) fun _=>f7_0_J hb)))
  simp at h;omega
 ·refine⟨false,?_,nofun⟩
  refine aj.of (f7_MR _) ?_
  unfold f7_M
  refine aa.chk rfl (aa.tv hx.len (aa.tv rfl (aa.ite rfl (fun _=>aa.ret) fun h=>?_)))
  simp at h;omega
theorem r26 {α:Type} {q:Option Bool} {R:List TV->α->Prop} {x:TV} {l:List α} (hx:RL q 3 R x l) (hl:l.length<=4294967296):∃y,aj prog 22 [x] y/\RL (some true) 3 R y l:=by
 obtain⟨xs,hxs,_⟩:=hx.elems
 obtain⟨y,hy,hr⟩:=lO hx [.lit (.int .i64 0),.lit (.int .i64 0),.lit (.slice none 0 0)] hxs
 have hn:=bj (k:=l.length) (by omega)
 have hle:(Nat.ble l.length 4294967296)=true:=by simpa using hl
 have hle':(Nat.ble l.length l.length)=true:=by simp
 rcases hx with⟨rfl,rfl⟩|⟨o,ys,rfl,hq,h,hb⟩
 ·refine⟨.lit bc,?_,.nil⟩
  refine aj.of (f22_MR _) ?_
  unfold f22_M
  exact aa.tv rfl (aa.ite rfl (fun _=>aa.ret) nofun)
 ·refine⟨y,?_,hr⟩
  refine aj.of (f22_MR _) ?_
  unfold f22_M
  refine aa.tv rfl (aa.ite rfl nofun fun _=>?_)
  refine aa.tv (v:=I l.length) (by simp[plen,h.length]) (aa.nat hn (aa.nat hn (aa.chk (by rw[hle,hle'];rfl) (aa.rws hxs (aa.tv hy (aa.nat rfl aa.ret))))))
theorem r27 {α:Type} {q:Option Bool} {R:List TV->α->Prop} {x:TV} {l:List α} (hx:RL q 14 R x l) (hl:l.length<=4294967296):∃y,aj prog 23 [x] y/\RL (some true) 14 R y l:=by
 obtain⟨xs,hxs,_⟩:=hx.elems
 obtain⟨y,hy,hr⟩:=lO hx [.lit (.bool false),.lit (.int .i64 0),.lit (.slice none 0 0),.lit (.bool false),.lit (.bool false),.lit (.slice none 0 0),.lit (.int .i64 0),.lit (.int .i64 0),.lit (.int .i64 0),.lit (.int .i64 0),.lit (.slice none 0 0),.lit (.int .i64 0),.lit (.int .i64 0),.lit (.int .i64 0)] hxs
 have hn:=bj (k:=l.length) (by omega)
 have hle:(Nat.ble l.length 4294967296)=true:=by simpa using hl
 have hle':(Nat.ble l.length l.length)=true:=by simp
 rcases hx with⟨rfl,rfl⟩|⟨o,ys,rfl,hq,h,hb⟩
 ·refine⟨.lit bc,?_,.nil⟩
  refine aj.of (f23_MR _) ?_
  unfold f23_M
  exact aa.tv rfl (aa.ite rfl (fun _=>aa.ret) nofun)
 ·refine⟨y,?_,hr⟩
  refine aj.of (f23_MR _) ?_
  unfold f23_M
  refine aa.tv rfl (aa.ite rfl nofun fun _=>?_)
  refine aa.tv (v:=I l.length) (by simp[plen,h.length]) (aa.nat hn (aa.nat hn (aa.chk (by rw[hle,hle'];rfl) (aa.rws hxs (aa.tv hy (aa.nat rfl aa.ret))))))
theorem r40 {α:Type} {q:Option Bool} {R:List TV->α->Prop} {x:TV} {l:List α} (hx:RL q 7 R x l) (hl:l.length<=4294967296):∃y,aj prog 42 [x] y/\RL (some true) 7 R y l:=by
 obtain⟨xs,hxs,_⟩:=hx.elems
 obtain⟨y,hy,hr⟩:=lO hx [.lit (.int .i64 0),.lit (.int .i64 0),.lit (.int .i64 0),.lit (.int .i64 0),.lit (.int .u16 0),.lit (.int .i64 0),.lit (.slice none 0 0)] hxs
 have hn:=bj (k:=l.length) (by omega)
 have hle:(Nat.ble l.length 4294967296)=true:=by simpa using hl
 have hle':(Nat.ble l.length l.length)=true:=by simp
 rcases hx with⟨rfl,rfl⟩|⟨o,ys,rfl,hq,h,hb⟩
 ·refine⟨.lit bc,?_,.nil⟩
  refine aj.of (f42_MR _) ?_
  unfold f42_M
  exact aa.tv rfl (aa.ite rfl (fun _=>aa.ret) nofun)
 ·refine⟨y,?_,hr⟩
  refine aj.of (f42_MR _) ?_
  unfold f42_M
  refine aa.tv rfl (aa.ite rfl nofun fun _=>?_)
  refine aa.tv (v:=I l.length) (by simp[plen,h.length]) (aa.nat hn (aa.nat hn (aa.chk (by rw[hle,hle'];rfl) (aa.rws hxs (aa.tv hy (aa.nat rfl aa.ret))))))
theorem r39 {q:Option Bool} {x:TV} {l:List Int} (hx:RL q 1 RW1 x l) (hl:l.length<=4294967296):∃y,aj prog 41 [x] y/\RL (some true) 1 RW1 y l:=by
 obtain⟨xs,hxs,_⟩:=hx.elems
 obtain⟨y,hy,hr⟩:=lO hx [.lit (.int .u16 0)] hxs
 have hn:=bj (k:=l.length) (by omega)
 have hle:(Nat.ble l.length 4294967296)=true:=by simpa using hl
 have hle':(Nat.ble l.length l.length)=true:=by simp
 have hown:=hr.own fun _ _ h=>h.own
 rcases hx with⟨rfl,rfl⟩|⟨o,ys,rfl,hq,h,hb⟩
 ·refine⟨.lit bc,?_,.nil⟩
  refine aj.of (f41_MR _) ?_
  unfold f41_M
  exact aa.tv rfl (aa.ite rfl (fun _=>aa.chk rfl aa.ret) nofun)
 ·refine⟨y,?_,hr⟩
  refine aj.of (f41_MR _) ?_
  unfold f41_M
  refine aa.tv rfl (aa.ite rfl nofun fun _=>?_)
  refine aa.tv (v:=I l.length) (by simp[plen,h.length]) (aa.nat hn (aa.nat hn (aa.chk (by rw[hle,hle'];rfl) (aa.rws hxs (aa.tv hy (aa.nat rfl (aa.chk hown aa.ret)))))))
theorem r41 {q:Option Bool} {x:TV} {l:List Int} (hx:RL q 1 RI1 x l) (hl:l.length<=4294967296):∃y,aj prog 43 [x] y/\RL (some true) 1 RI1 y l:=by
 obtain⟨xs,hxs,_⟩:=hx.elems
 obtain⟨y,hy,hr⟩:=lO hx [.lit (.int .i64 0)] hxs
 have hn:=bj (k:=l.length) (by omega)
 have hle:(Nat.ble l.length 4294967296)=true:=by simpa using hl
 have hle':(Nat.ble l.length l.length)=true:=by simp
 have hown:=hr.own fun _ _ h=>h.own
 rcases hx with⟨rfl,rfl⟩|⟨o,ys,rfl,hq,h,hb⟩
 ·refine⟨.lit bc,?_,.nil⟩
  refine aj.of (f43_MR _) ?_
  unfold f43_M
  exact aa.tv rfl (aa.ite rfl (fun _=>aa.chk rfl aa.ret) nofun)
 ·refine⟨y,?_,hr⟩
  refine aj.of (f43_MR _) ?_
  unfold f43_M
  refine aa.tv rfl (aa.ite rfl nofun fun _=>?_)
  refine aa.tv (v:=I l.length) (by simp[plen,h.length]) (aa.nat hn (aa.nat hn (aa.chk (by rw[hle,hle'];rfl) (aa.rws hxs (aa.tv hy (aa.nat rfl (aa.chk hown aa.ret)))))))
theorem r28 {q:Option Bool} {e:List TV} {b:DBlock} (he:RBlock q e b) (hs:yJ b):∃e',aj prog 24 [.agg e] (.agg e')/\RBlock (some true) e' b:=by
 obtain⟨c,i,g,rfl,hc,hd,hi,hg,ho⟩:=he
 obtain⟨hs1,hs2,hs3,hs4⟩:=hs
 obtain⟨c',h39,hc'⟩:=r39 hc (by omega)
 obtain⟨i',h40,hi'⟩:=r40 hi (by omega)
 obtain⟨g',h41,hg'⟩:=r41 hg (by omega)
 have loop:∀d k w,k+d=b.ins.length->RP 7 (fun j e x=>RIns (if j<k then some true else q) e x) w b.ins->∃w',aa prog 24 (f24_0 (I b.ins.length) (I k) (B b.landing) (I b.pad.dst) (B b.pad.all) (B b.pad.cleanup) (I b.fin.kind) (I b.fin.a) (I b.fin.dst) (I b.fin.f) g (I b.fin.to) (I b.fin.els) (I b.fin.pad) c' w) (.agg [B b.landing,I b.pad.dst,c',B b.pad.all,B b.pad.cleanup,w',I b.fin.kind,I b.fin.a,I b.fin.dst,I b.fin.f,g',I b.fin.to,I b.fin.els,I b.fin.pad])/\RL (some true) 7 (RIns (some true)) w' b.ins:=by
  intro d
  induction d with
  | zero =>
   intro k w hk hw
   have hk:k=b.ins.length:=by omega
   subst hk
   have hw':RL (some true) 7 (RIns (some true)) w b.ins:=hw.Fk fun i e a hi h=>by simpa[hi]using h
   refine⟨w,?_,hw'⟩
   unfold f24_0
   refine aa.tv rfl (aa.ite aM nofun fun _=>?_)
   refine f24_1_J ?_
   unfold f24_1
   refine aa.call h41 (aa.chk ?_ (aa.chk ?_ aa.ret))
   ·simp[ab,zSl,aF,hg'.isSl]
   ·simp[isOwn,bE,hc'.own fun _ _ h=>h.own,hg'.own fun _ _ h=>h.own,hw'.own fun _ _ h=>h.own]
  | succ d ih =>
   intro k w hk hw
   have hkb:k<b.ins.length:=by omega
   have ha:b.ins[k]? = some b.ins[k]:=FQ hkb
   obtain⟨e,he,hr,hget,hset⟩:=hw.row ha
   simp only[Nat.lt_irrefl,if_false]at hr
   have hrr:=hr
   have hargs:=hs4 k hkb _ ha
   generalize hu:b.ins[k]=u at *
   obtain⟨v,rfl,hv,hok⟩:=hr
   obtain⟨v',h41v,hv'⟩:=r41 (hv.frz (S:=RI1) fun _ _ h=>h.frz) (by omega)
   have hw2:=hw.set (S:=fun j e x=>RIns (if j<k+1 then some true else q) e x) ha (e:=[I u.op,I u.dst,I u.a,I u.b,W u.k,I u.f,v']) (by simp;exact⟨v',rfl,hv',hok⟩) (fun j e c hj h=>by
    by_cases hjk:j<k
    ·simpa[hjk,show j<k+1 by omega]using h
    ·simpa[hjk,show ¬j<k+1 by omega]using h)
   obtain⟨w',hw',hrl⟩:=ih (k+1) _ (by omega) hw2
   refine⟨w',?_,hrl⟩
   have hb:=hi.bnd
   have hlt:(Nat.blt k b.ins.length)=true:=by simpa using hkb
   unfold f24_0
   refine aa.tv rfl (aa.ite (aQ hkb) (fun _=>?_) nofun)
   refine aa.nat hw.slLen (aa.nat (bj (by omega)) (aa.chk (by rw[hw.slSize,hlt];rfl) (aa.tvs he (aa.chk (by simp[ab,zSl,aF,hv.isSl]) (aa.tv (hget 6 v rfl) (aa.call h41v (aa.chk (by simp[ab,zSl,aF,hv'.isSl]) ?_)))))))
   refine aa.nat hw.slLen (aa.nat (bj (by omega)) (aa.chk (by rw[hw.slSize,hlt];rfl) (aa.tvs he (aa.chk (by simp[cL,ab,zSl,aF,hv.isSl,hv'.isSl]) (aa.tv (hset 6 [v']) (aa.tv (inc hkb hb) (f24_0_J hw')))))))
 obtain⟨w',hw',hrl⟩:=loop b.ins.length 0 i' (by omega) (hi'.Fj fun i e a h=>by simpa using h)
 refine⟨_,?_,⟨c',w',g',rfl,hc',hd,hrl,hg',ho⟩⟩
 refine aj.of (f24_MR _) ?_
 unfold f24_M
 refine aa.chk rfl (aa.call h39 (aa.chk (by simp[ab,zSl,aF,hc'.isSl]) (aa.call h40 (aa.chk (by simp[ab,zSl,aF,hi'.isSl]) (aa.tv hi'.len (f24_0_J hw'))))))
end Go.Ab.C14
end

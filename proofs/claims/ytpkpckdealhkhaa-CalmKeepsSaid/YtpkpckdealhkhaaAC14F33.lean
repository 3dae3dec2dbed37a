import Derived.Test.YtpkpckdealhkhaaAC14F6
set_option linter.all false
section
set_option maxRecDepth 10000
namespace Go.Ab
structure DFrame where
 f:Int
 block:Int
 at_:Int
 regs:List Int
 fly:Int
def DFrame.ok (x:DFrame):Prop:=inI x.f/\inI x.block/\inI x.at_/\inW x.fly
def RFrame (q:Option Bool) (e:List TV) (x:DFrame):Prop:=∃g,e=[I x.f,I x.block,I x.at_,g,W x.fly]/\RWords q g x.regs/\x.ok
theorem RFrame.weak {q:Option Bool} {e:List TV} {x:DFrame} (h:RFrame q e x):RFrame none e x:=by
 obtain⟨g,rfl,hg,ho⟩:=h
 exact⟨g,rfl,hg.weak fun _ _ h=>h,ho⟩
theorem RFrame.frz {q:Option Bool} {e:List TV} {x:DFrame} (h:RFrame q e x):RFrame (some false) (nq e) x:=by
 obtain⟨g,rfl,hg,ho⟩:=h
 exact⟨Go.Ab.frz g,rfl,hg.frz fun _ _ h=>h.frz,ho⟩
theorem rk (n:Int):IntKind.u16.wrap n=n%65536:=by simp[IntKind.wrap,IntKind.bits,IntKind.signed]
theorem Ei (n:Int):inW (IntKind.u16.wrap n):=by rw[rk];constructor<;>omega
theorem wrap_i64 (n:Int):inI (IntKind.i64.wrap n):=by rw[IntKind.wrap_i64];constructor<;>omega
def doW (op a b:Int):Option Int :=
 if op=2 then some a else if op=3 then some (IntKind.u16.wrap (a+b))else if op=4 then some (IntKind.u16.wrap (a-b))else if op=5 then some (IntKind.u16.wrap (a*b))else
 if op=6 then(if b=0 then none else some (IntKind.u16.wrap (a.tdiv b)))else if op=7 then some (if a=b then 1 else 0)else if op=8 then some (if a<b then 1 else 0)else none
theorem doW_in {op a b v:Int} (ha:inW a) (h:doW op a b=some v):inW v:=by
 have h0:inW 0:=⟨by decide,by decide⟩
 have h1:inW 1:=⟨by decide,by decide⟩
 unfold doW at h
 repeat' split at h
 all_goals first|(cases h;done)|(cases h;first|exact ha|exact Ei _|exact h0|exact h1|(split<;>assumption))
def ru:Option Int->TV
 | some v=>.tup [W v,B true]
 | none=>.tup [W 0,B false]
theorem u64w {a:Int} (h:inW a):IntKind.u64.wrap a=a:=IntWalk.u64_in _ ⟨h.1,by have:=h.2;omega⟩
theorem u64mul {a b:Int} (ha:inW a) (hb:inW b):IntKind.u64.wrap (a*b)=a*b:=by
 obtain⟨a0,a1⟩:=ha
 obtain⟨b0,b1⟩:=hb
 have h0:=Int.mul_nonneg a0 b0
 have h1:a*b<=65535*65535:=Int.mul_le_mul a1 b1 b0 (by decide)
 exact IntWalk.u64_in _ ⟨h0,by omega⟩
def lp (l:List Int) (n:Int):Option Int:=if 0<=n then l[n.toNat]? else none
def cK (l:List Int) (x:DIns):Option Int :=
 if x.op=1 then some x.k else(lp l x.a).bind fun a=>if 3<=x.op/\x.op<=8 then(lp l x.b).bind fun b=>doW x.op a b else doW x.op a 0
def bR (f:DFrame) (x:DIns):DFrame × Bool :=
 match cK f.regs x with
 | none=>(f,false)
 | some w=>if 0<=x.dst/\x.dst<f.regs.length then({ f with regs:=f.regs.set x.dst.toNat w,at_:=IntKind.i64.wrap (f.at_+1) },true)else(f,false)
theorem gj {l:List Int} {n:Int} (h:within n l.length):∃a,l[n.toNat]? = some a/\n.toNat<l.length:=by
 have:n.toNat<l.length:=by have:=h.1;have:=h.2;omega
 exact⟨_,FQ this,this⟩
theorem rE {l:List Int} {n a:Int} (h0:0<=n) (h:l[n.toNat]? = some a):lp l n=some a:=by simp[lp,h0,h]
theorem tB {l:List Int} {n:Int} (h:¬within n l.length):lp l n=none:=by
 unfold lp
 split
 ·rename_i h0
  exact F5 (by have:¬n<l.length:=fun h1=>h ⟨h0,h1⟩;omega)
 ·rfl
section
variable {q:Option Bool} {v:TV} {l:List Int}
theorem RWords.at_ (h:RWords q v l) {k:IntKind} {n a:Int} (h0:0<=n) (hn:l[n.toNat]? = some a):pidx 1 v (.lit (.int k n))=some [W a]/\inW a:=by
 obtain⟨e,he,rfl,hw⟩:=h.kX (k:=k) h0 hn
 exact⟨he,hw⟩
theorem RWords.put (h:RWords (some true) v l) {n:Nat} {w:Int} (hn:n<l.length) (hw:inW w):∃a v',pel v n=some [W a]/\ja [] v n 0 [W w]=some v'/\RWords (some true) v' (l.set n w):=by
 have hi:l[n]? = some l[n]:=FQ hn
 have hp:=h.Fj (R:=fun _ e a=>RW1 e a) fun _ _ _ h=>h
 obtain⟨e,he,⟨rfl,_⟩,_,hset⟩:=hp.row hi
 exact⟨_,_,he,hset 0 _,(hp.FN hi (b:=w) (S:=fun _ e a=>RW1 e a) ⟨rfl,hw⟩ fun _ _ _ _ h=>h).Fk fun _ _ _ _ h=>h⟩
theorem RWords.isOwn (h:RWords (some true) v l):Go.Ab.isOwn v=true:=RL.own h fun _ _ h=>h.own
end
theorem RL.app1 {α:Type} {s:Nat} {R:List TV->α->Prop} {y:TV} {l:List α} (hy:RL (some true) s R y l) {e:List TV} {a:α} (hR:R e a) (hl:l.length+1<=4294967296):∃y',papp s y [e]=some y'/\RL (some true) s R y' (l ++ [a]):=by
 rcases hy with⟨rfl,rfl⟩|⟨o,xs,rfl,hq,h,hb⟩
 ·refine⟨.sl true s [e],by simp[papp,bc,room,Bc],.sl (by simp) (.cons hR .nil) (by simp)⟩
 ·have hlen:=h.length
  rw[hq true rfl]
  refine⟨.sl true s (xs ++ [e]),?_,.sl (by simp) (h.append (.cons hR .nil)) (by simp;omega)⟩
  simp[papp,room];omega
end Go.Ab
namespace Go.Ab.C14
open Go Go.Ab Go.Proofs
theorem rDo' (op:Int) {a b:Int} (ha:inW a) (hb:inW b):aj prog 86 [I op,W a,W b] (ru (doW op a b)):=by
 have hb0:=hb.1
 have hb1:=hb.2
 have ha0:=ha.1
 have ha1:=ha.2
 refine aj.of (f86_MR _ _ _) ?_
 unfold f86_M
 refine aa.tv (v:=.lit (.int .u64 a)) (by simp[pconv,u64w ha]) (aa.tv (v:=.lit (.int .u64 b)) (by simp[pconv,u64w hb]) ?_)
 refine aa.tv rfl (aa.ite rfl (fun h=>?_) fun h2=>?_)
 ·refine cS.2 ?_;simp_all[doW,ru]
 refine aa.tv rfl (aa.ite rfl (fun h=>?_) fun h3=>?_)
 ·refine aa.tv (v:=.lit (.int .u64 (a+b))) (by simp[pbin,kM];exact IntWalk.u64_in _ (by omega)) (aa.tv rfl (aa.tv rfl (cS.2 ?_)))
  simp at h
  subst h
  simp only[doW,ru,rk,Int.tmod_eq_emod_of_nonneg (show 0<=a+b by omega)]
  simp
 refine aa.tv rfl (aa.ite rfl (fun h=>?_) fun h4=>?_)
 ·refine aa.tv (v:=.lit (.int .u64 (a+65536))) (by simp[pbin,kM];exact IntWalk.u64_in _ (by omega)) (aa.tv (v:=.lit (.int .u64 (a+65536-b))) (by simp[pbin,kM];exact IntWalk.u64_in _ (by omega)) (aa.tv rfl (aa.tv rfl (cS.2 ?_))))
  simp at h
  subst h
  simp only[doW,ru,rk,Int.tmod_eq_emod_of_nonneg (show 0<=a+65536-b by omega)]
  simp
  omega
 refine aa.tv rfl (aa.ite rfl (fun h=>?_) fun h5=>?_)
 ·refine aa.tv (v:=.lit (.int .u64 (a*b))) (by simp[pbin,kM];exact u64mul ha hb) (aa.tv rfl (aa.tv rfl (cS.2 ?_)))
  simp at h
  subst h
  simp only[doW,ru,rk,Int.tmod_eq_emod_of_nonneg (Int.mul_nonneg ha0 hb0)]
  simp
 refine aa.tv rfl (aa.ite rfl (fun h=>?_) fun h6=>?_)
 ·refine aa.tv rfl (aa.ite rfl (fun g=>?_) fun g=>?_)
  ·have hbp:0<b:=by simpa using g
   have hd:=IntWalk.tdiv_le a b ha0 (by omega)
   have he:a.tdiv b=a / b:=Int.tdiv_eq_ediv_of_nonneg ha0
   refine aa.tv (v:=.lit (.int .u64 (a.tdiv b))) (by simp only[pbin,kM,if_true,if_neg (show ¬b=0 by omega)];rw[IntWalk.u64_in _ (by rw[he];omega)]) (aa.tv rfl (cS.2 ?_))
   simp at h
   subst h
   simp[doW,ru,show ¬b=0 by omega]
  ·have hb':b=0:=by simp at g;omega
   simp at h
   subst h hb'
   refine f86_0_J ?_
   unfold f86_0
   refine aa.tv rfl (aa.ite rfl nofun fun _=>aa.tv rfl (aa.ite rfl nofun fun _=>f86_1_J ?_))
   unfold f86_1
   refine aa.tv rfl (aa.ite rfl nofun fun _=>aa.tv rfl (cS.2 ?_))
   rfl
 ·refine f86_0_J ?_
  unfold f86_0
  simp at h2 h3 h4 h5 h6
  refine aa.tv rfl (aa.ite rfl (fun h=>?_) fun h7=>?_)
  ·simp at h
   subst h
   refine aa.tv rfl (aa.ite rfl (fun g=>?_) fun g=>?_)
   ·simp at g;refine cS.2 ?_;simp[doW,ru,g]
   ·simp at g
    refine aa.tv rfl (aa.ite rfl nofun fun _=>f86_1_J ?_)
    unfold f86_1
    refine aa.tv rfl (aa.ite rfl (fun _=>cS.2 ?_) nofun)
    simp[doW,ru,g]
  ·simp at h7
   refine aa.tv rfl (aa.ite rfl (fun h=>?_) fun h8=>?_)
   ·simp at h
    subst h
    refine aa.tv rfl (aa.ite rfl (fun g=>?_) fun g=>?_)
    ·simp at g;refine cS.2 ?_;simp[doW,ru,g]
    ·simp at g
     refine f86_1_J ?_
     unfold f86_1
     refine aa.tv rfl (aa.ite rfl nofun fun _=>aa.tv rfl (cS.2 ?_))
     simp[doW,ru,show ¬a<b by omega]
   ·simp at h8
    refine f86_1_J ?_
    unfold f86_1
    refine aa.tv rfl (aa.ite rfl (fun h=>?_) fun _=>aa.tv rfl (cS.2 ?_))
    ·simp at h;exact absurd h h7
    ·simp[doW,ru,h2,h3,h4,h5,h6,h7,h8]
end Go.Ab.C14
end
section
set_option maxRecDepth 10000
namespace Go.Ab
theorem bP {regs n:Int}:fw false regs n ↔ n=0:=⟨fun h=>h.2 rfl,fun h=>⟨nofun,fun _=>h⟩⟩
theorem jo {fs:List DFunc} {regs n:Int} {l:List Int}:jU true fs regs n l ↔ jf fs regs n l:=⟨fun h=>h.1 rfl,fun h=>⟨fun _=>h,nofun⟩⟩
theorem bZ {fs:List DFunc} {regs n:Int} {l:List Int}:jU false fs regs n l ↔ n=0/\l=[]:=⟨fun h=>h.2 rfl,fun h=>⟨nofun,fun _=>h⟩⟩
theorem dw {bs:List DBlock} {n:Int} {x:Bool}:je true bs n x ↔ dk bs n x:=⟨fun h=>h.1 rfl,fun h=>⟨fun _=>h,nofun⟩⟩
theorem fb {bs:List DBlock} {n:Int} {x:Bool}:je false bs n x ↔ n=0:=⟨fun h=>h.2 rfl,fun h=>⟨nofun,fun _=>h⟩⟩
end Go.Ab
namespace Go.Ab.C14
open Go Go.Ab Go.Proofs
theorem eQ {fs:List DFunc} {regs n:Int} {x:DIns} {d a b k c:Bool} (hop:x.op=n) (h1:has (ei n) 1=true) (hd:has (ei n) 2=d) (ha:has (ei n) 4=a) (hb:has (ei n) 8=b) (hk:has (ei n) 16=k) (hc:has (ei n) 32=c) :
  li fs regs x ↔ fw d regs x.dst/\fw a regs x.a/\fw b regs x.b/\(k=true\/x.k=0)/\jU c fs regs x.f x.args:=by
 subst hop hd ha hb hk hc;simp[li,h1]
theorem cJ {fs:List DFunc} {regs n:Int} {bs:List DBlock} {x:DEnd} {a d c t e p:Bool} (hop:x.kind=n) (h1:has (dm n) 1=true) (ha:has (dm n) 4=a) (hd:has (dm n) 2=d) (hc:has (dm n) 32=c) (ht:has (dm n) 64=t) (he:has (dm n) 128=e) (hp:has (dm n) 256=p) :
  nl fs regs bs x ↔ fw a regs x.a/\fw d regs x.dst/\jU c fs regs x.f x.args/\je t bs x.to false/\je e bs x.els false/\je p bs x.pad true:=by
 subst hop ha hd hc ht he hp;simp[nl,h1]
theorem r38 {q:Option Bool} {g:TV} {k f:Int} {l:List Int} (hg:RInts q g l):aj prog 59 [W k,I f,g] (B (tt (k=0/\f=0/\l=[]))):=by
 refine aj.of (f59_MR _ _ _) ?_
 unfold f59_M
 repeat' (first
  | refine aa.chk rfl ?_
  | refine aa.tv rfl ?_
  | refine aa.tv (RL.len (by assumption)) ?_
  | refine aa.nat rfl ?_
  | refine aa.ite rfl (fun _=>?_) (fun _=>?_)
  | refine aa.call (by assumption) ?_
  | refine aa.tvs (by assumption) ?_)
 all_goals (apply aH;simp_all)
theorem r36 {q:Option Bool} {y:TV} {bs:List DBlock} {p regs n:Int} (hy:RL q 14 (RBlock q) y bs):aj prog 57 [.agg [I p,I regs,y],I n] (B (tt (dk bs n false))):=by
 refine aj.of (f57_MR _ _) ?_
 unfold f57_M
 refine aa.chk rfl (aa.tv hy.len (aa.call (r35 _ _) (aa.chk rfl (aa.ite rfl (fun h=>?_) fun h=>?_))))
 ·rw[aG]at h
  have hlt:n.toNat<bs.length:=by have:=h.1;have:=h.2;omega
  have hf:bs[n.toNat]? = some bs[n.toNat]:=FQ hlt
  obtain⟨e,he,hr⟩:=hy.kX (k:=.i64) h.1 hf
  obtain⟨c,i,g,rfl,_⟩:=hr
  refine aa.tvs he (aa.chk rfl (aa.tv rfl ?_))
  apply aH
  simp[dk,h.1,hf]
 ·rw[aw]at h
  refine aB ?_
  rintro⟨h0,f,hf,_⟩
  have:=(FP.1 hf).1
  exact h ⟨h0,by omega⟩
theorem r37 {q q':Option Bool} {x y g:TV} {fs:List DFunc} {p regs n:Int} {l:List Int} (hx:RL q 3 (RFunc q) x fs) (hg:RInts q' g l):aj prog 58 [.agg [x],.agg [I p,I regs,y],I n,g] (B (tt (jf fs regs n l))):=by
 refine aj.of (f58_MR _ _ _ _) ?_
 unfold f58_M
 refine aa.chk rfl (aa.chk rfl (aa.tv hx.len (aa.call (r35 _ _) (aa.chk rfl (aa.tv rfl (aa.ite rfl (fun h=>?_) fun h=>?_))))))
 ·simp[aw]at h
  refine aB ?_
  rintro⟨h0,f,hf,_⟩
  have:=(FP.1 hf).1
  exact h ⟨h0,by omega⟩
 ·simp[aG]at h
  have hlt:n.toNat<fs.length:=by have:=h.1;have:=h.2;omega
  have hf:fs[n.toNat]? = some fs[n.toNat]:=FQ hlt
  obtain⟨e,he,hr⟩:=hx.kX (k:=.i64) h.1 hf
  obtain⟨b,rfl,_⟩:=hr
  refine aa.tv hg.len (aa.tvs he (aa.chk rfl (aa.tv rfl (aa.ite rfl (fun h2=>?_) fun h2=>?_))))
  ·refine aB ?_
   rintro⟨_,f,hf',hl,_⟩
   rw[hf]at hf'
   simp at hf' h2
   subst hf'
   exact h2 hl
  ·simp at h2
   refine f58_0_J ?_
   have hp:jf fs regs n l ↔ ∀i,i<l.length->∀a,l[i]? = some a->within a regs:=by
    refine⟨fun⟨_,f,hf',hl,ha⟩=>ha,fun ha=>⟨h.1,_,hf,h2,ha⟩⟩
   rw[aX hp]
   refine dM (g:=fun k=>f58_0 g (I k) (I p) (I regs) y) ?_ ?_
   ·unfold f58_0
    refine aa.tv (RL.len (by assumption)) (aa.tv rfl (aa.ite aM nofun fun _=>?_))
    exact aa.ret
   ·intro k hk r h1 h2
    have ha:l[k]? = some l[k]:=FQ hk
    obtain⟨e,he,rfl,_⟩:=hg.idx (k:=.i64) ha
    unfold f58_0
    refine aa.tv (RL.len (by assumption)) (aa.tv rfl (aa.ite (aQ hk) (fun _=>?_) nofun))
    refine aa.tvs he (aa.chk rfl (aa.call (r35 _ _) (aa.chk rfl (aa.tv rfl (aa.ite rfl (fun h=>?_) fun h=>?_)))))
    ·rw[h1 (by simp[ha];simpa[aw]using h)];exact aa.ret
    ·refine aa.tv (inc hk hg.bnd) (f58_0_J (h2 ?_))
     simp[ha];simpa[aG]using h
set_option maxHeartbeats 4000000 in
theorem r22 {q q':Option Bool} {x y:TV} {e:List TV} {fs:List DFunc} {p regs:Int} {a:DIns} (hx:RL q 3 (RFunc q) x fs) (he:RIns q' e a):aj prog 47 [.agg [x],.agg [I p,I regs,y],.agg e] (B (tt (li fs regs a))):=by
 obtain⟨g,rfl,hg,_⟩:=he
 obtain⟨op,dst,a,b,k,f,args⟩:=a
 have h38:∀{k f:Int},aj prog 59 [W k,I f,g] (B (tt (k=0/\f=0/\args=[]))):=r38 hg
 have h37:∀{n:Int},aj prog 58 [.agg [x],.agg [I p,I regs,y],I n,g] (B (tt (jf fs regs n args))):=r37 hx hg
 refine aj.of (f47_MR _ _ _) ?_
 unfold f47_M
 refine aa.chk rfl (aa.chk rfl (aa.chk rfl (aa.call (r35 _ _) (aa.chk rfl (aa.call (r35 _ _) (aa.chk rfl (aa.call (r35 _ _) (aa.chk rfl ?_))))))))
 by_cases h1:op=1
 ·subst h1
  repeat' (first
   | refine aa.chk rfl ?_
   | refine aa.tv rfl ?_
   | refine aa.tv (RL.len (by assumption)) ?_
   | refine aa.nat rfl ?_
   | refine aa.ite (v:=true) rfl (fun _=>?_) nofun
   | refine aa.ite (v:=false) rfl nofun (fun _=>?_)
   | refine aa.ite rfl (fun _=>?_) (fun _=>?_)
   | refine aa.call (by assumption) ?_
   | refine aa.tvs (by assumption) ?_
   | (refine f47_0_J ?_;unfold f47_0)|(refine f47_1_J ?_;unfold f47_1)|refine aa.call h38 ?_|refine aa.call h37 ?_)
  all_goals (apply aH;rw[eQ (n:=1) (d:=true) (a:=false) (b:=false) (k:=true) (c:=false) rfl (by decide +kernel) (by decide +kernel) (by decide +kernel) (by decide +kernel) (by decide +kernel) (by decide +kernel)];simp_all[aU,bP,bZ,aG,aw])
 by_cases h2:op=2
 ·subst h2
  repeat' (first
   | refine aa.chk rfl ?_
   | refine aa.tv rfl ?_
   | refine aa.tv (RL.len (by assumption)) ?_
   | refine aa.nat rfl ?_
   | refine aa.ite (v:=true) rfl (fun _=>?_) nofun
   | refine aa.ite (v:=false) rfl nofun (fun _=>?_)
   | refine aa.ite rfl (fun _=>?_) (fun _=>?_)
   | refine aa.call (by assumption) ?_
   | refine aa.tvs (by assumption) ?_
   | (refine f47_0_J ?_;unfold f47_0)|(refine f47_1_J ?_;unfold f47_1)|refine aa.call h38 ?_|refine aa.call h37 ?_)
  all_goals (apply aH;rw[eQ (n:=2) (d:=true) (a:=true) (b:=false) (k:=false) (c:=false) rfl (by decide +kernel) (by decide +kernel) (by decide +kernel) (by decide +kernel) (by decide +kernel) (by decide +kernel)];simp_all[aU,bP,bZ,aG,aw])
 by_cases h9:op=9
 ·subst h9
  repeat' (first
   | refine aa.chk rfl ?_
   | refine aa.tv rfl ?_
   | refine aa.tv (RL.len (by assumption)) ?_
   | refine aa.nat rfl ?_
   | refine aa.ite (v:=true) rfl (fun _=>?_) nofun
   | refine aa.ite (v:=false) rfl nofun (fun _=>?_)
   | refine aa.ite rfl (fun _=>?_) (fun _=>?_)
   | refine aa.call (by assumption) ?_
   | refine aa.tvs (by assumption) ?_
   | (refine f47_0_J ?_;unfold f47_0)|(refine f47_1_J ?_;unfold f47_1)|refine aa.call h38 ?_|refine aa.call h37 ?_)
  all_goals (apply aH;rw[eQ (n:=9) (d:=true) (a:=true) (b:=false) (k:=false) (c:=false) rfl (by decide +kernel) (by decide +kernel) (by decide +kernel) (by decide +kernel) (by decide +kernel) (by decide +kernel)];simp_all[aU,bP,bZ,aG,aw])
 by_cases h3:op=3
 ·subst h3
  repeat' (first
   | refine aa.chk rfl ?_
   | refine aa.tv rfl ?_
   | refine aa.tv (RL.len (by assumption)) ?_
   | refine aa.nat rfl ?_
   | refine aa.ite (v:=true) rfl (fun _=>?_) nofun
   | refine aa.ite (v:=false) rfl nofun (fun _=>?_)
   | refine aa.ite rfl (fun _=>?_) (fun _=>?_)
   | refine aa.call (by assumption) ?_
   | refine aa.tvs (by assumption) ?_
   | (refine f47_0_J ?_;unfold f47_0)|(refine f47_1_J ?_;unfold f47_1)|refine aa.call h38 ?_|refine aa.call h37 ?_)
  all_goals (apply aH;rw[eQ (n:=3) (d:=true) (a:=true) (b:=true) (k:=false) (c:=false) rfl (by decide +kernel) (by decide +kernel) (by decide +kernel) (by decide +kernel) (by decide +kernel) (by decide +kernel)];simp_all[aU,bZ,aG,aw])
 by_cases h4:op=4
 ·subst h4
  repeat' (first
   | refine aa.chk rfl ?_
   | refine aa.tv rfl ?_
   | refine aa.tv (RL.len (by assumption)) ?_
   | refine aa.nat rfl ?_
   | refine aa.ite (v:=true) rfl (fun _=>?_) nofun
   | refine aa.ite (v:=false) rfl nofun (fun _=>?_)
   | refine aa.ite rfl (fun _=>?_) (fun _=>?_)
   | refine aa.call (by assumption) ?_
   | refine aa.tvs (by assumption) ?_
   | (refine f47_0_J ?_;unfold f47_0)|(refine f47_1_J ?_;unfold f47_1)|refine aa.call h38 ?_|refine aa.call h37 ?_)
  all_goals (apply aH;rw[eQ (n:=4) (d:=true) (a:=true) (b:=true) (k:=false) (c:=false) rfl (by decide +kernel) (by decide +kernel) (by decide +kernel) (by decide +kernel) (by decide +kernel) (by decide +kernel)];simp_all[aU,bZ,aG,aw])
 by_cases h5:op=5
 ·subst h5
  repeat' (first
   | refine aa.chk rfl ?_
   | refine aa.tv rfl ?_
   | refine aa.tv (RL.len (by assumption)) ?_
   | refine aa.nat rfl ?_
   | refine aa.ite (v:=true) rfl (fun _=>?_) nofun
   | refine aa.ite (v:=false) rfl nofun (fun _=>?_)
   | refine aa.ite rfl (fun _=>?_) (fun _=>?_)
   | refine aa.call (by assumption) ?_
   | refine aa.tvs (by assumption) ?_
   | (refine f47_0_J ?_;unfold f47_0)|(refine f47_1_J ?_;unfold f47_1)|refine aa.call h38 ?_|refine aa.call h37 ?_)
  all_goals (apply aH;rw[eQ (n:=5) (d:=true) (a:=true) (b:=true) (k:=false) (c:=false) rfl (by decide +kernel) (by decide +kernel) (by decide +kernel) (by decide +kernel) (by decide +kernel) (by decide +kernel)];simp_all[aU,bZ,aG,aw])
 by_cases h6:op=6
 ·subst h6
  repeat' (first
   | refine aa.chk rfl ?_
   | refine aa.tv rfl ?_
   | refine aa.tv (RL.len (by assumption)) ?_
   | refine aa.nat rfl ?_
   | refine aa.ite (v:=true) rfl (fun _=>?_) nofun
   | refine aa.ite (v:=false) rfl nofun (fun _=>?_)
   | refine aa.ite rfl (fun _=>?_) (fun _=>?_)
   | refine aa.call (by assumption) ?_
   | refine aa.tvs (by assumption) ?_
   | (refine f47_0_J ?_;unfold f47_0)|(refine f47_1_J ?_;unfold f47_1)|refine aa.call h38 ?_|refine aa.call h37 ?_)
  all_goals (apply aH;rw[eQ (n:=6) (d:=true) (a:=true) (b:=true) (k:=false) (c:=false) rfl (by decide +kernel) (by decide +kernel) (by decide +kernel) (by decide +kernel) (by decide +kernel) (by decide +kernel)];simp_all[aU,bZ,aG,aw])
 by_cases h7:op=7
 ·subst h7
  repeat' (first
   | refine aa.chk rfl ?_
   | refine aa.tv rfl ?_
   | refine aa.tv (RL.len (by assumption)) ?_
   | refine aa.nat rfl ?_
   | refine aa.ite (v:=true) rfl (fun _=>?_) nofun
   | refine aa.ite (v:=false) rfl nofun (fun _=>?_)
   | refine aa.ite rfl (fun _=>?_) (fun _=>?_)
   | refine aa.call (by assumption) ?_
   | refine aa.tvs (by assumption) ?_
   | (refine f47_0_J ?_;unfold f47_0)|(refine f47_1_J ?_;unfold f47_1)|refine aa.call h38 ?_|refine aa.call h37 ?_)
  all_goals (apply aH;rw[eQ (n:=7) (d:=true) (a:=true) (b:=true) (k:=false) (c:=false) rfl (by decide +kernel) (by decide +kernel) (by decide +kernel) (by decide +kernel) (by decide +kernel) (by decide +kernel)];simp_all[aU,bZ,aG,aw])
 by_cases h8:op=8
 ·subst h8
  repeat' (first
   | refine aa.chk rfl ?_
   | refine aa.tv rfl ?_
   | refine aa.tv (RL.len (by assumption)) ?_
   | refine aa.nat rfl ?_
   | refine aa.ite (v:=true) rfl (fun _=>?_) nofun
   | refine aa.ite (v:=false) rfl nofun (fun _=>?_)
   | refine aa.ite rfl (fun _=>?_) (fun _=>?_)
   | refine aa.call (by assumption) ?_
   | refine aa.tvs (by assumption) ?_
   | (refine f47_0_J ?_;unfold f47_0)|(refine f47_1_J ?_;unfold f47_1)|refine aa.call h38 ?_|refine aa.call h37 ?_)
  all_goals (apply aH;rw[eQ (n:=8) (d:=true) (a:=true) (b:=true) (k:=false) (c:=false) rfl (by decide +kernel) (by decide +kernel) (by decide +kernel) (by decide +kernel) (by decide +kernel) (by decide +kernel)];simp_all[aU,bZ,aG,aw])
 by_cases h10:op=10
 ·subst h10
  repeat' (first
   | refine aa.chk rfl ?_
   | refine aa.tv rfl ?_
   | refine aa.tv (RL.len (by assumption)) ?_
   | refine aa.nat rfl ?_
   | refine aa.ite (v:=true) rfl (fun _=>?_) nofun
   | refine aa.ite (v:=false) rfl nofun (fun _=>?_)
   | refine aa.ite rfl (fun _=>?_) (fun _=>?_)
   | refine aa.call (by assumption) ?_
   | refine aa.tvs (by assumption) ?_
   | (refine f47_0_J ?_;unfold f47_0)|(refine f47_1_J ?_;unfold f47_1)|refine aa.call h38 ?_|refine aa.call h37 ?_)
  all_goals (apply aH;rw[eQ (n:=10) (d:=false) (a:=true) (b:=true) (k:=false) (c:=false) rfl (by decide +kernel) (by decide +kernel) (by decide +kernel) (by decide +kernel) (by decide +kernel) (by decide +kernel)];simp_all[aU,bP,bZ,aG,aw])
 by_cases h11:op=11
 ·subst h11
  repeat' (first
   | refine aa.chk rfl ?_
   | refine aa.tv rfl ?_
   | refine aa.tv (RL.len (by assumption)) ?_
   | refine aa.nat rfl ?_
   | refine aa.ite (v:=true) rfl (fun _=>?_) nofun
   | refine aa.ite (v:=false) rfl nofun (fun _=>?_)
   | refine aa.ite rfl (fun _=>?_) (fun _=>?_)
   | refine aa.call (by assumption) ?_
   | refine aa.tvs (by assumption) ?_
   | (refine f47_0_J ?_;unfold f47_0)|(refine f47_1_J ?_;unfold f47_1)|refine aa.call h38 ?_|refine aa.call h37 ?_)
  all_goals (apply aH;rw[eQ (n:=11) (d:=true) (a:=false) (b:=false) (k:=false) (c:=true) rfl (by decide +kernel) (by decide +kernel) (by decide +kernel) (by decide +kernel) (by decide +kernel) (by decide +kernel)];simp_all[aU,bP,jo,aG,aw])
 by_cases h12:op=12
 ·subst h12
  repeat' (first
   | refine aa.chk rfl ?_
   | refine aa.tv rfl ?_
   | refine aa.tv (RL.len (by assumption)) ?_
   | refine aa.nat rfl ?_
   | refine aa.ite (v:=true) rfl (fun _=>?_) nofun
   | refine aa.ite (v:=false) rfl nofun (fun _=>?_)
   | refine aa.ite rfl (fun _=>?_) (fun _=>?_)
   | refine aa.call (by assumption) ?_
   | refine aa.tvs (by assumption) ?_
   | (refine f47_0_J ?_;unfold f47_0)|(refine f47_1_J ?_;unfold f47_1)|refine aa.call h38 ?_|refine aa.call h37 ?_)
  all_goals (apply aH;rw[eQ (n:=12) (d:=false) (a:=true) (b:=false) (k:=false) (c:=false) rfl (by decide +kernel) (by decide +kernel) (by decide +kernel) (by decide +kernel) (by decide +kernel) (by decide +kernel)];simp_all[aU,bP,bZ,aG,aw])
 by_cases h13:op=13
 ·subst h13
  repeat' (first
   | refine aa.chk rfl ?_
   | refine aa.tv rfl ?_
   | refine aa.tv (RL.len (by assumption)) ?_
   | refine aa.nat rfl ?_
   | refine aa.ite (v:=true) rfl (fun _=>?_) nofun
   | refine aa.ite (v:=false) rfl nofun (fun _=>?_)
   | refine aa.ite rfl (fun _=>?_) (fun _=>?_)
   | refine aa.call (by assumption) ?_
   | refine aa.tvs (by assumption) ?_
   | (refine f47_0_J ?_;unfold f47_0)|(refine f47_1_J ?_;unfold f47_1)|refine aa.call h38 ?_|refine aa.call h37 ?_)
  all_goals (apply aH;rw[eQ (n:=13) (d:=true) (a:=false) (b:=false) (k:=false) (c:=false) rfl (by decide +kernel) (by decide +kernel) (by decide +kernel) (by decide +kernel) (by decide +kernel) (by decide +kernel)];simp_all[aU,bP,bZ,aG,aw])
 repeat' (first
  | refine aa.chk rfl ?_
  | refine aa.tv rfl ?_
  | refine aa.tv (RL.len (by assumption)) ?_
  | refine aa.nat rfl ?_
  | refine aa.ite (v:=true) rfl (fun _=>?_) nofun
  | refine aa.ite (v:=false) rfl nofun (fun _=>?_)
  | refine aa.ite rfl (fun _=>?_) (fun _=>?_)
  | refine aa.call (by assumption) ?_
  | refine aa.tvs (by assumption) ?_
  | (refine f47_0_J ?_;unfold f47_0)|(refine f47_1_J ?_;unfold f47_1)|refine aa.call h38 ?_|refine aa.call h37 ?_)
 all_goals first
  | (exfalso;simp_all;done)
  | (apply aB;intro h;have h:=h.1;simp[ei, *]at h;exact absurd h (by decide))
set_option maxHeartbeats 4000000 in
theorem r21 {q q' q2:Option Bool} {x y:TV} {e:List TV} {fs:List DFunc} {bs:List DBlock} {p regs:Int} {a:DEnd} (hx:RL q 3 (RFunc q) x fs) (hy:RL q2 14 (RBlock q2) y bs) (he:REnd q' e a):aj prog 46 [.agg [x],.agg [I p,I regs,y],.agg e] (B (tt (nl fs regs bs a))):=by
 obtain⟨g,rfl,hg,_⟩:=he
 obtain⟨kind,a,dst,f,args,to,els,pad⟩:=a
 have h36:∀{n:Int},aj prog 57 [.agg [I p,I regs,y],I n] (B (tt (dk bs n false))):=r36 hy
 have h37:∀{n:Int},aj prog 58 [.agg [x],.agg [I p,I regs,y],I n,g] (B (tt (jf fs regs n args))):=r37 hx hg
 have last:∀(f:FuncId) (r:TV) (k:List TV->Prg TV),tt (within pad bs.length)=true->(∀b e,0<=pad->bs[pad.toNat]? = some b->RBlock q2 e b->pidx 14 y (I pad)=some e->aa prog f (k e) r)->aa prog f (.tvs (pidx 14 y (I pad)) k) r:=by
  intro f r k h hk
  rw[aG]at h
  have hlt:pad.toNat<bs.length:=by have:=h.1;have:=h.2;omega
  have hf:bs[pad.toNat]? = some bs[pad.toNat]:=FQ hlt
  obtain⟨e,he,hr⟩:=hy.kX (k:=.i64) h.1 hf
  exact aa.tvs he (hk _ _ h.1 hf hr he)
 refine aj.of (f46_MR _ _ _) ?_
 unfold f46_M
 by_cases h1:kind=1
 ·subst h1
  repeat' (first
   | refine aa.chk rfl ?_
   | refine aa.tv rfl ?_
   | refine aa.tv (RL.len (by assumption)) ?_
   | refine aa.nat rfl ?_
   | refine aa.ite (v:=true) rfl (fun _=>?_) nofun
   | refine aa.ite (v:=false) rfl nofun (fun _=>?_)
   | refine aa.ite rfl (fun _=>?_) (fun _=>?_)
   | refine aa.call (by assumption) ?_
   | refine aa.tvs (by assumption) ?_
   | (refine f46_0_J ?_;unfold f46_0)|(refine f46_1_J ?_;unfold f46_1)|refine aa.call h36 ?_|refine aa.call h37 ?_|refine aa.call (r35 _ _) ?_)
  all_goals first
   | (apply aH;rw[cJ (n:=1) (a:=true) (d:=false) (c:=false) (t:=false) (e:=false) (p:=false) rfl (by decide +kernel) (by decide +kernel) (by decide +kernel) (by decide +kernel) (by decide +kernel) (by decide +kernel) (by decide +kernel)];simp_all[aU,bP,bZ,fb,aG,aw];done)
   | (refine last _ _ _ (by assumption) fun b e h0 hb hr he=>?_;obtain⟨_,_,_,rfl,_⟩:=hr;refine aa.chk rfl ?_;apply aH;rw[cJ (n:=1) (a:=true) (d:=false) (c:=false) (t:=false) (e:=false) (p:=false) rfl (by decide +kernel) (by decide +kernel) (by decide +kernel) (by decide +kernel) (by decide +kernel) (by decide +kernel) (by decide +kernel)];have hgl:dk bs pad true ↔ b.landing=true:=⟨fun⟨_,b',hb',hl⟩=>(by rw[hb]at hb';cases hb';exact hl),fun h=>⟨h0,b,hb,h⟩⟩;simp only[dw,hgl,aU,bP,jo,bZ,fb];clear hgl;simp_all[aG,aw];done)
   | (apply aB;rw[cJ (n:=1) (a:=true) (d:=false) (c:=false) (t:=false) (e:=false) (p:=false) rfl (by decide +kernel) (by decide +kernel) (by decide +kernel) (by decide +kernel) (by decide +kernel) (by decide +kernel) (by decide +kernel)];rintro⟨_,_,_,_,_,hp⟩;rw[dw]at hp;obtain⟨h0,b,hb,_⟩:=hp;have h9:=(FP.1 hb).1;have h10:tt (within pad bs.length)=false:=(by assumption);rw[aw]at h10;have h9:pad.toNat<bs.length:=h9;have h0:0<=pad:=h0;exact h10 ⟨h0,by omega⟩)
 by_cases h5:kind=5
 ·subst h5
  repeat' (first
   | refine aa.chk rfl ?_
   | refine aa.tv rfl ?_
   | refine aa.tv (RL.len (by assumption)) ?_
   | refine aa.nat rfl ?_
   | refine aa.ite (v:=true) rfl (fun _=>?_) nofun
   | refine aa.ite (v:=false) rfl nofun (fun _=>?_)
   | refine aa.ite rfl (fun _=>?_) (fun _=>?_)
   | refine aa.call (by assumption) ?_
   | refine aa.tvs (by assumption) ?_
   | (refine f46_0_J ?_;unfold f46_0)|(refine f46_1_J ?_;unfold f46_1)|refine aa.call h36 ?_|refine aa.call h37 ?_|refine aa.call (r35 _ _) ?_)
  all_goals first
   | (apply aH;rw[cJ (n:=5) (a:=true) (d:=false) (c:=false) (t:=false) (e:=false) (p:=false) rfl (by decide +kernel) (by decide +kernel) (by decide +kernel) (by decide +kernel) (by decide +kernel) (by decide +kernel) (by decide +kernel)];simp_all[aU,bP,bZ,fb,aG,aw];done)
   | (refine last _ _ _ (by assumption) fun b e h0 hb hr he=>?_;obtain⟨_,_,_,rfl,_⟩:=hr;refine aa.chk rfl ?_;apply aH;rw[cJ (n:=5) (a:=true) (d:=false) (c:=false) (t:=false) (e:=false) (p:=false) rfl (by decide +kernel) (by decide +kernel) (by decide +kernel) (by decide +kernel) (by decide +kernel) (by decide +kernel) (by decide +kernel)];have hgl:dk bs pad true ↔ b.landing=true:=⟨fun⟨_,b',hb',hl⟩=>(by rw[hb]at hb';cases hb';exact hl),fun h=>⟨h0,b,hb,h⟩⟩;simp only[dw,hgl,aU,bP,jo,bZ,fb];clear hgl;simp_all[aG,aw];done)
   | (apply aB;rw[cJ (n:=5) (a:=true) (d:=false) (c:=false) (t:=false) (e:=false) (p:=false) rfl (by decide +kernel) (by decide +kernel) (by decide +kernel) (by decide +kernel) (by decide +kernel) (by decide +kernel) (by decide +kernel)];rintro⟨_,_,_,_,_,hp⟩;rw[dw]at hp;obtain⟨h0,b,hb,_⟩:=hp;have h9:=(FP.1 hb).1;have h10:tt (within pad bs.length)=false:=(by assumption);rw[aw]at h10;have h9:pad.toNat<bs.length:=h9;have h0:0<=pad:=h0;exact h10 ⟨h0,by omega⟩)
 by_cases h2:kind=2
 ·subst h2
  repeat' (first
   | refine aa.chk rfl ?_
   | refine aa.tv rfl ?_
   | refine aa.tv (RL.len (by assumption)) ?_
   | refine aa.nat rfl ?_
   | refine aa.ite (v:=true) rfl (fun _=>?_) nofun
   | refine aa.ite (v:=false) rfl nofun (fun _=>?_)
   | refine aa.ite rfl (fun _=>?_) (fun _=>?_)
   | refine aa.call (by assumption) ?_
   | refine aa.tvs (by assumption) ?_
   | (refine f46_0_J ?_;unfold f46_0)|(refine f46_1_J ?_;unfold f46_1)|refine aa.call h36 ?_|refine aa.call h37 ?_|refine aa.call (r35 _ _) ?_)
  all_goals first
   | (apply aH;rw[cJ (n:=2) (a:=false) (d:=false) (c:=false) (t:=true) (e:=false) (p:=false) rfl (by decide +kernel) (by decide +kernel) (by decide +kernel) (by decide +kernel) (by decide +kernel) (by decide +kernel) (by decide +kernel)];simp_all[bP,bZ,dw,fb,aG,aw];done)
   | (refine last _ _ _ (by assumption) fun b e h0 hb hr he=>?_;obtain⟨_,_,_,rfl,_⟩:=hr;refine aa.chk rfl ?_;apply aH;rw[cJ (n:=2) (a:=false) (d:=false) (c:=false) (t:=true) (e:=false) (p:=false) rfl (by decide +kernel) (by decide +kernel) (by decide +kernel) (by decide +kernel) (by decide +kernel) (by decide +kernel) (by decide +kernel)];have hgl:dk bs pad true ↔ b.landing=true:=⟨fun⟨_,b',hb',hl⟩=>(by rw[hb]at hb';cases hb';exact hl),fun h=>⟨h0,b,hb,h⟩⟩;simp only[dw,hgl,aU,bP,jo,bZ,fb];clear hgl;simp_all[aG,aw];done)
   | (apply aB;rw[cJ (n:=2) (a:=false) (d:=false) (c:=false) (t:=true) (e:=false) (p:=false) rfl (by decide +kernel) (by decide +kernel) (by decide +kernel) (by decide +kernel) (by decide +kernel) (by decide +kernel) (by decide +kernel)];rintro⟨_,_,_,_,_,hp⟩;rw[dw]at hp;obtain⟨h0,b,hb,_⟩:=hp;have h9:=(FP.1 hb).1;have h10:tt (within pad bs.length)=false:=(by assumption);rw[aw]at h10;have h9:pad.toNat<bs.length:=h9;have h0:0<=pad:=h0;exact h10 ⟨h0,by omega⟩)
 by_cases h3:kind=3
 ·subst h3
  repeat' (first
   | refine aa.chk rfl ?_
   | refine aa.tv rfl ?_
   | refine aa.tv (RL.len (by assumption)) ?_
   | refine aa.nat rfl ?_
   | refine aa.ite (v:=true) rfl (fun _=>?_) nofun
   | refine aa.ite (v:=false) rfl nofun (fun _=>?_)
   | refine aa.ite rfl (fun _=>?_) (fun _=>?_)
   | refine aa.call (by assumption) ?_
   | refine aa.tvs (by assumption) ?_
   | (refine f46_0_J ?_;unfold f46_0)|(refine f46_1_J ?_;unfold f46_1)|refine aa.call h36 ?_|refine aa.call h37 ?_|refine aa.call (r35 _ _) ?_)
  all_goals first
   | (apply aH;rw[cJ (n:=3) (a:=true) (d:=false) (c:=false) (t:=true) (e:=true) (p:=false) rfl (by decide +kernel) (by decide +kernel) (by decide +kernel) (by decide +kernel) (by decide +kernel) (by decide +kernel) (by decide +kernel)];simp_all[aU,bP,bZ,dw,fb,aG,aw];done)
   | (refine last _ _ _ (by assumption) fun b e h0 hb hr he=>?_;obtain⟨_,_,_,rfl,_⟩:=hr;refine aa.chk rfl ?_;apply aH;rw[cJ (n:=3) (a:=true) (d:=false) (c:=false) (t:=true) (e:=true) (p:=false) rfl (by decide +kernel) (by decide +kernel) (by decide +kernel) (by decide +kernel) (by decide +kernel) (by decide +kernel) (by decide +kernel)];have hgl:dk bs pad true ↔ b.landing=true:=⟨fun⟨_,b',hb',hl⟩=>(by rw[hb]at hb';cases hb';exact hl),fun h=>⟨h0,b,hb,h⟩⟩;simp only[dw,hgl,aU,bP,jo,bZ,fb];clear hgl;simp_all[aG,aw];done)
   | (apply aB;rw[cJ (n:=3) (a:=true) (d:=false) (c:=false) (t:=true) (e:=true) (p:=false) rfl (by decide +kernel) (by decide +kernel) (by decide +kernel) (by decide +kernel) (by decide +kernel) (by decide +kernel) (by decide +kernel)];rintro⟨_,_,_,_,_,hp⟩;rw[dw]at hp;obtain⟨h0,b,hb,_⟩:=hp;have h9:=(FP.1 hb).1;have h10:tt (within pad bs.length)=false:=(by assumption);rw[aw]at h10;have h9:pad.toNat<bs.length:=h9;have h0:0<=pad:=h0;exact h10 ⟨h0,by omega⟩)
 by_cases h4:kind=4
 ·subst h4
  repeat' (first
   | refine aa.chk rfl ?_
   | refine aa.tv rfl ?_
   | refine aa.tv (RL.len (by assumption)) ?_
   | refine aa.nat rfl ?_
   | refine aa.ite (v:=true) rfl (fun _=>?_) nofun
   | refine aa.ite (v:=false) rfl nofun (fun _=>?_)
   | refine aa.ite rfl (fun _=>?_) (fun _=>?_)
   | refine aa.call (by assumption) ?_
   | refine aa.tvs (by assumption) ?_
   | (refine f46_0_J ?_;unfold f46_0)|(refine f46_1_J ?_;unfold f46_1)|refine aa.call h36 ?_|refine aa.call h37 ?_|refine aa.call (r35 _ _) ?_)
  all_goals first
   | (apply aH;rw[cJ (n:=4) (a:=false) (d:=true) (c:=true) (t:=true) (e:=false) (p:=true) rfl (by decide +kernel) (by decide +kernel) (by decide +kernel) (by decide +kernel) (by decide +kernel) (by decide +kernel) (by decide +kernel)];simp_all[aU,bP,jo,dw,fb,aG,aw];done)
   | (refine last _ _ _ (by assumption) fun b e h0 hb hr he=>?_;obtain⟨_,_,_,rfl,_⟩:=hr;refine aa.chk rfl ?_;apply aH;rw[cJ (n:=4) (a:=false) (d:=true) (c:=true) (t:=true) (e:=false) (p:=true) rfl (by decide +kernel) (by decide +kernel) (by decide +kernel) (by decide +kernel) (by decide +kernel) (by decide +kernel) (by decide +kernel)];have hgl:dk bs pad true ↔ b.landing=true:=⟨fun⟨_,b',hb',hl⟩=>(by rw[hb]at hb';cases hb';exact hl),fun h=>⟨h0,b,hb,h⟩⟩;simp only[dw,hgl,aU,bP,jo,fb];clear hgl;simp_all[aG];done)
   | (apply aB;rw[cJ (n:=4) (a:=false) (d:=true) (c:=true) (t:=true) (e:=false) (p:=true) rfl (by decide +kernel) (by decide +kernel) (by decide +kernel) (by decide +kernel) (by decide +kernel) (by decide +kernel) (by decide +kernel)];rintro⟨_,_,_,_,_,hp⟩;rw[dw]at hp;obtain⟨h0,b,hb,_⟩:=hp;have h9:=(FP.1 hb).1;have h10:tt (within pad bs.length)=false:=(by assumption);rw[aw]at h10;have h9:pad.toNat<bs.length:=h9;have h0:0<=pad:=h0;exact h10 ⟨h0,by omega⟩)
 by_cases h6:kind=6
 ·subst h6
  repeat' (first
   | refine aa.chk rfl ?_
   | refine aa.tv rfl ?_
   | refine aa.tv (RL.len (by assumption)) ?_
   | refine aa.nat rfl ?_
   | refine aa.ite (v:=true) rfl (fun _=>?_) nofun
   | refine aa.ite (v:=false) rfl nofun (fun _=>?_)
   | refine aa.ite rfl (fun _=>?_) (fun _=>?_)
   | refine aa.call (by assumption) ?_
   | refine aa.tvs (by assumption) ?_
   | (refine f46_0_J ?_;unfold f46_0)|(refine f46_1_J ?_;unfold f46_1)|refine aa.call h36 ?_|refine aa.call h37 ?_|refine aa.call (r35 _ _) ?_)
  all_goals first
   | (apply aH;rw[cJ (n:=6) (a:=false) (d:=false) (c:=false) (t:=false) (e:=false) (p:=false) rfl (by decide +kernel) (by decide +kernel) (by decide +kernel) (by decide +kernel) (by decide +kernel) (by decide +kernel) (by decide +kernel)];simp_all[bP,bZ,fb,aG];done)
   | (refine last _ _ _ (by assumption) fun b e h0 hb hr he=>?_;obtain⟨_,_,_,rfl,_⟩:=hr;refine aa.chk rfl ?_;apply aH;rw[cJ (n:=6) (a:=false) (d:=false) (c:=false) (t:=false) (e:=false) (p:=false) rfl (by decide +kernel) (by decide +kernel) (by decide +kernel) (by decide +kernel) (by decide +kernel) (by decide +kernel) (by decide +kernel)];have hgl:dk bs pad true ↔ b.landing=true:=⟨fun⟨_,b',hb',hl⟩=>(by rw[hb]at hb';cases hb';exact hl),fun h=>⟨h0,b,hb,h⟩⟩;simp only[dw,hgl,aU,bP,jo,bZ,fb];clear hgl;simp_all[aG,aw];done)
   | (apply aB;rw[cJ (n:=6) (a:=false) (d:=false) (c:=false) (t:=false) (e:=false) (p:=false) rfl (by decide +kernel) (by decide +kernel) (by decide +kernel) (by decide +kernel) (by decide +kernel) (by decide +kernel) (by decide +kernel)];rintro⟨_,_,_,_,_,hp⟩;rw[dw]at hp;obtain⟨h0,b,hb,_⟩:=hp;have h9:=(FP.1 hb).1;have h10:tt (within pad bs.length)=false:=(by assumption);rw[aw]at h10;have h9:pad.toNat<bs.length:=h9;have h0:0<=pad:=h0;exact h10 ⟨h0,by omega⟩)
 repeat' (first
  | refine aa.chk rfl ?_
  | refine aa.tv rfl ?_
  | refine aa.tv (RL.len (by assumption)) ?_
  | refine aa.nat rfl ?_
  | refine aa.ite (v:=true) rfl (fun _=>?_) nofun
  | refine aa.ite (v:=false) rfl nofun (fun _=>?_)
  | refine aa.ite rfl (fun _=>?_) (fun _=>?_)
  | refine aa.call (by assumption) ?_
  | refine aa.tvs (by assumption) ?_
  | (refine f46_0_J ?_;unfold f46_0)|(refine f46_1_J ?_;unfold f46_1)|refine aa.call h36 ?_|refine aa.call h37 ?_|refine aa.call (r35 _ _) ?_)
 all_goals first
  | (exfalso;simp_all;done)
  | (apply aB;intro h;have h:=h.1;simp[dm, *]at h;exact absurd h (by decide))
theorem nv {l:List Int} {i:Nat} {a:Int}:a∈l.take i ↔ ∃k,k<i/\l[k]? = some a:=by
 rw[List.mem_iff_getElem?]
 constructor
 ·rintro⟨k,hk⟩
  rw[List.getElem?_take]at hk
  split at hk
  ·exact⟨k,by assumption,hk⟩
  ·cases hk
 ·rintro⟨k,h1,h2⟩
  exact⟨k,by rw[List.getElem?_take,if_pos h1];exact h2⟩
theorem r20 {q q':Option Bool} {y:TV} {e:List TV} {p regs:Int} {b:DBlock} (he:RBlock q' e b):aj prog 45 [.agg [I p,I regs,y],.agg e] (B (tt (wo b.landing regs b.pad))):=by
 obtain⟨c,i,g,rfl,hc,hd,hi,hg,ho⟩:=he
 refine aj.of (f45_MR _ _) ?_
 unfold f45_M
 cases hl:b.landing
 ·repeat' (first
   | refine aa.chk rfl ?_
   | refine aa.tv rfl ?_
   | refine aa.tv (RL.len (by assumption)) ?_
   | refine aa.nat rfl ?_
   | refine aa.ite (v:=true) rfl (fun _=>?_) nofun
   | refine aa.ite (v:=false) rfl nofun (fun _=>?_)
   | refine aa.ite rfl (fun _=>?_) (fun _=>?_)
   | refine aa.call (by assumption) ?_
   | refine aa.tvs (by assumption) ?_
   )
  all_goals (apply aH;simp_all[wo])
 ·refine aa.chk rfl (aa.chk rfl (aa.tv rfl (aa.ite rfl nofun fun _=>?_)))
  refine f45_0_J ?_
  rw[show tt (wo true regs b.pad)=tt (within b.pad.dst regs/\b.pad.catches.length<=8/\qV b.pad.catches/\(b.pad.catches≠[]\/b.pad.all=true\/b.pad.cleanup=true)) from aX ⟨fun h=>h.2 rfl,fun h=>⟨nofun,fun _=>h⟩⟩]
  refine nF (n:=b.pad.catches.length) (P:=fun i=>i<8/\∀a,b.pad.catches[i]? = some a->a∉b.pad.catches.take i) (g:=fun k=>f45_0 (I k) (I p) (I regs) y (I b.pad.dst) c (B b.pad.all) (B b.pad.cleanup)) ?_ ?_ ?_
  ·intro hn
   rw[ck]
   rintro⟨_,h8,hu,_⟩
   exact hn fun i hi=>⟨by omega,hu i hi⟩
  ·intro hall
   have h8:b.pad.catches.length<=8:=by
    by_cases h:b.pad.catches.length<=8
    ·exact h
    ·have:=(hall 8 (by omega)).1;omega
   have hu:qV b.pad.catches:=fun i hi=>(hall i hi).2
   unfold f45_0
   refine aa.tv (RL.len (by assumption)) (aa.tv rfl (aa.ite aM nofun fun _=>?_))
   refine f45_2_J ?_
   unfold f45_2
   repeat' (first
    | refine aa.chk rfl ?_
    | refine aa.tv rfl ?_
    | refine aa.tv (RL.len (by assumption)) ?_
    | refine aa.nat rfl ?_
    | refine aa.ite (v:=true) rfl (fun _=>?_) nofun
    | refine aa.ite (v:=false) rfl nofun (fun _=>?_)
    | refine aa.ite rfl (fun _=>?_) (fun _=>?_)
    | refine aa.call (by assumption) ?_
    | refine aa.tvs (by assumption) ?_
    | refine aa.call (r35 _ _) ?_)
   all_goals (apply aH;simp_all[aG,aw,List.length_pos_iff])
  ·intro k hk r h1 h2
   have ha:b.pad.catches[k]? = some b.pad.catches[k]:=FQ hk
   obtain⟨e,he,rfl,_⟩:=hc.idx (k:=.i64) ha
   unfold f45_0
   refine aa.tv (RL.len (by assumption)) (aa.tv rfl (aa.ite (aQ hk) (fun _=>?_) nofun))
   refine aa.tv rfl (aa.ite rfl (fun h=>?_) fun h=>?_)
   ·rw[h1 (by simp at h;omega)];exact aa.ret
   ·have h8:k<8:=by simp at h;omega
    refine f45_1_J ?_
    refine nF (n:=k) (P:=fun j=>b.pad.catches[j]? ≠ b.pad.catches[k]?) (g:=fun j=>f45_1 (I k) (I j) (I p) (I regs) y (I b.pad.dst) c (B b.pad.all) (B b.pad.cleanup)) ?_ ?_ ?_
    ·intro hn
     refine h1 fun h'=>hn fun j hj hjk=>?_
     rw[ha]at hjk
     exact h'.2 _ ha (nv.2 ⟨j,hj,hjk⟩)
    ·intro hall
     unfold f45_1
     refine aa.tv rfl (aa.ite aM nofun fun _=>?_)
     refine aa.tv (inc hk hc.bnd) (f45_0_J (h2 ⟨h8,fun a h3 h4=>?_⟩))
     obtain⟨j,hj,h5⟩:=nv.1 h4
     exact hall j hj (by rw[h5,h3])
    ·intro j hj r g1 g2
     have hjl:j<b.pad.catches.length:=by omega
     have hb:b.pad.catches[j]? = some b.pad.catches[j]:=FQ hjl
     obtain⟨e,he2,rfl,_⟩:=hc.idx (k:=.i64) hb
     unfold f45_1
     refine aa.tv rfl (aa.ite (aQ hj) (fun _=>?_) nofun)
     refine aa.tvs he2 (aa.chk rfl (aa.tvs he (aa.chk rfl (aa.tv rfl (aa.ite rfl (fun h=>?_) fun h=>?_)))))
     ·rw[g1 (by rw[ha,hb];simpa using h)];exact aa.ret
     ·refine aa.tv (inc hjl hc.bnd) (f45_1_J (g2 ?_))
      rw[ha,hb];simpa using h
theorem r11 {q q':Option Bool} {e e':List TV} {m:DMod} {f:DFunc} (hm:RMod q e m) (hf:RFunc q' e' f):aj prog 29 [.agg e,.agg e'] (B (tt (qF m.funcs f))):=by
 obtain⟨x,rfl,hx⟩:=hm
 obtain⟨y,rfl,hy,_⟩:=hf
 refine aj.of (f29_MR _ _) ?_
 unfold f29_M
 refine aa.chk rfl (aa.chk rfl (aa.tv rfl (aa.ite rfl (fun h=>?_) fun g1=>?_)))
 ·simp at h;exact aB fun h'=>by have:=h'.1;omega
 refine aa.tv rfl (aa.ite rfl (fun h=>?_) fun g2=>?_)
 ·simp at h;exact aB fun h'=>by have:=h'.1;omega
 refine aa.tv rfl (aa.ite rfl (fun h=>?_) fun g3=>?_)
 ·simp at h;exact aB fun h'=>by have:=h'.1;omega
 refine aa.tv rfl (aa.ite rfl (fun h=>?_) fun g4=>?_)
 ·simp at h;exact aB fun h'=>by have:=h'.1;omega
 refine aa.tv hy.len (aa.tv rfl (aa.ite rfl (fun h=>?_) fun g5=>?_))
 ·simp at h
  refine aB ?_
  rintro⟨_,_,⟨b,hb,_⟩,_⟩
  rw[h]at hb
  simp at hb
 refine aa.tv hy.len (aa.tv rfl (aa.ite rfl (fun h=>?_) fun g6=>?_))
 ·simp at h;exact aB fun h'=>by have:=h'.2.1;omega
 simp at g1 g2 g3 g4 g5 g6
 have hpos:0<f.blocks.length:=List.length_pos_iff.2 g5
 have hb0:f.blocks[0]? = some f.blocks[0]:=FQ hpos
 obtain⟨e0,he0,hr0⟩:=hy.idx (k:=.i64) hb0
 obtain⟨_,_,_,rfl,_⟩:=hr0
 refine aa.tvs he0 (aa.chk rfl (aa.ite rfl (fun h=>?_) fun g7=>?_))
 ·refine aB ?_
  rintro⟨_,_,⟨b,hb,hl⟩,_⟩
  rw[hb0]at hb
  simp at hb
  subst hb
  rw[hl]at h
  cases h
 refine f29_0_J ?_
 rw[show tt (qF m.funcs f)=tt (∀i,i<f.blocks.length->∀b,f.blocks[i]? = some b->i7 m.funcs f.regs f.blocks b) from aX
  ⟨fun h=>h.2.2.2,fun h=>⟨⟨by omega,by omega,by omega,by omega⟩,by omega,⟨_,hb0,g7⟩,h⟩⟩]
 refine dM (g:=fun k=>f29_0 (I k) x (I f.params) (I f.regs) y) ?_ ?_
 ·unfold f29_0
  refine aa.tv (RL.len (by assumption)) (aa.tv rfl (aa.ite aM nofun fun _=>?_))
  exact aa.ret
 ·intro k hk r h1 h2
  have ha:f.blocks[k]? = some f.blocks[k]:=FQ hk
  obtain⟨e,he,hr⟩:=hy.idx (k:=.i64) ha
  have h1:¬i7 m.funcs f.regs f.blocks f.blocks[k]->r=B false:=fun h=>h1 fun h'=>h (h' _ ha)
  have h2:i7 m.funcs f.regs f.blocks f.blocks[k]->aa prog 29 (f29_0 (I ((k+1:Nat):Int)) x (I f.params) (I f.regs) y) r:=fun h=>h2 fun b hb=>by rw[ha]at hb;cases hb;exact h
  generalize f.blocks[k]=b at *
  have h20:aj prog 45 [.agg [I f.params,I f.regs,y],.agg e] (B (tt (wo b.landing f.regs b.pad))):=r20 (q:=q) hr
  obtain⟨c,i,g,rfl,hc,hd,hi,hg,ho⟩:=hr
  have h21:aj prog 46 [.agg [x],.agg [I f.params,I f.regs,y],.agg [I b.fin.kind,I b.fin.a,I b.fin.dst,I b.fin.f,g,I b.fin.to,I b.fin.els,I b.fin.pad]] (B (tt (nl m.funcs f.regs f.blocks b.fin))):=r21 (q':=q') hx hy ⟨g,rfl,hg,ho⟩
  unfold f29_0
  refine aa.tv (RL.len (by assumption)) (aa.tv rfl (aa.ite (aQ hk) (fun _=>?_) nofun))
  refine aa.tvs he (aa.chk rfl (aa.tv hi.len (aa.tv rfl (aa.ite rfl (fun h=>?_) fun g1=>?_))))
  ·rw[h1 (fun h'=>by have:=h'.1;simp at h;omega)];exact aa.ret
  refine aa.call h20 (aa.chk rfl (aa.tv rfl (aa.ite rfl (fun h=>?_) fun g2=>?_)))
  ·rw[h1 (fun h'=>by simp[aw]at h;exact h h'.2.1)];exact aa.ret
  refine aa.call h21 (aa.chk rfl (aa.tv rfl (aa.ite rfl (fun h=>?_) fun g3=>?_)))
  ·rw[h1 (fun h'=>by simp[aw]at h;exact h h'.2.2.2)];exact aa.ret
  simp[aG]at g1 g2 g3
  refine f29_1_J ?_
  refine nF (n:=b.ins.length) (P:=fun j=>∀u,b.ins[j]? = some u->li m.funcs f.regs u) (g:=fun j=>f29_1 (I k) (I j) x (I f.params) (I f.regs) y (B b.landing) (I b.pad.dst) c (B b.pad.all) (B b.pad.cleanup) i (I b.fin.kind) (I b.fin.a) (I b.fin.dst) (I b.fin.f) g (I b.fin.to) (I b.fin.els) (I b.fin.pad)) ?_ ?_ ?_
  ·intro hn;exact h1 fun h'=>hn h'.2.2.1
  ·intro hall
   unfold f29_1
   refine aa.tv (RL.len (by assumption)) (aa.tv rfl (aa.ite aM nofun fun _=>?_))
   exact aa.tv (inc hk hy.bnd) (f29_0_J (h2 ⟨by omega,g2,hall,g3⟩))
  ·intro j hj r k1 k2
   have hau:b.ins[j]? = some b.ins[j]:=FQ hj
   obtain⟨e,he,hea⟩:=hi.idx (k:=.i64) hau
   have h22:aj prog 47 [.agg [x],.agg [I f.params,I f.regs,y],.agg e] (B (tt (li m.funcs f.regs b.ins[j]))):=r22 hx hea
   obtain⟨_,rfl,_⟩:=hea
   unfold f29_1
   refine aa.tv (RL.len (by assumption)) (aa.tv rfl (aa.ite (aQ hj) (fun _=>?_) nofun))
   refine aa.tvs he (aa.chk rfl (aa.call h22 (aa.chk rfl (aa.tv rfl (aa.ite rfl (fun h=>?_) fun h=>?_)))))
   ·rw[k1 (by simp[hau];simpa[aw]using h)];exact aa.ret
   ·refine aa.tv (inc hj hi.bnd) (f29_1_J (k2 ?_))
    simp[hau];simpa[aG]using h
theorem r9 {q:Option Bool} {e:List TV} {m:DMod} (hm:RMod q e m):aj prog 13 [.agg e] (B (tt (cF m))):=by
 have hm':=hm
 obtain⟨x,rfl,hx⟩:=hm
 refine aj.of (f13_MR _) ?_
 unfold f13_M
 refine aa.chk rfl (aa.tv hx.len (aa.tv rfl (aa.ite rfl (fun h=>?_) fun g1=>?_)))
 ·simp at h
  refine aB ?_
  rintro⟨_,⟨b,hb,_⟩,_⟩
  rw[h]at hb
  simp at hb
 refine aa.tv hx.len (aa.tv rfl (aa.ite rfl (fun h=>?_) fun g2=>?_))
 ·simp at h;exact aB fun h'=>by have:=h'.1;omega
 simp at g1 g2
 have hpos:0<m.funcs.length:=List.length_pos_iff.2 g1
 have hb0:m.funcs[0]? = some m.funcs[0]:=FQ hpos
 obtain⟨e0,he0,hr0⟩:=hx.idx (k:=.i64) hb0
 obtain⟨_,rfl,_⟩:=hr0
 refine aa.tvs he0 (aa.chk rfl (aa.tv rfl (aa.ite rfl (fun h=>?_) fun g7=>?_)))
 ·refine aB ?_
  rintro⟨_,⟨b,hb,hl⟩,_⟩
  rw[hb0]at hb
  simp at hb
  subst hb
  rw[hl]at h
  simp at h
 simp at g7
 refine f13_0_J ?_
 rw[show tt (cF m)=tt (∀i,i<m.funcs.length->∀f,m.funcs[i]? = some f->qF m.funcs f) from aX ⟨fun h=>h.2.2,fun h=>⟨by omega,⟨_,hb0,g7⟩,h⟩⟩]
 refine dM (g:=fun k=>f13_0 (I k) x) ?_ ?_
 ·unfold f13_0
  refine aa.tv (RL.len (by assumption)) (aa.tv rfl (aa.ite aM nofun fun _=>?_))
  exact aa.ret
 ·intro k hk r h1 h2
  have ha:m.funcs[k]? = some m.funcs[k]:=FQ hk
  obtain⟨e,he,hr⟩:=hx.idx (k:=.i64) ha
  have h11:=r11 hm' hr
  obtain⟨_,rfl,_⟩:=hr
  unfold f13_0
  refine aa.tv (RL.len (by assumption)) (aa.tv rfl (aa.ite (aQ hk) (fun _=>?_) nofun))
  refine aa.tvs he (aa.chk rfl (aa.call h11 (aa.chk rfl (aa.tv rfl (aa.ite rfl (fun h=>?_) fun h=>?_)))))
  ·rw[h1 (by simp[ha];simpa[aw]using h)];exact aa.ret
  ·refine aa.tv (inc hk hx.bnd) (f13_0_J (h2 ?_))
   simp[ha];simpa[aG]using h
end Go.Ab.C14
end
section
set_option maxRecDepth 10000
namespace Go.Ab
def ca (m:DMod) (f:DFrame):Prop:=0<=f.f/\∃g,m.funcs[f.f.toNat]? = some g/\(f.regs.length:Int)=g.regs/\0<=f.block/\∃b,g.blocks[f.block.toNat]? = some b/\0<=f.at_/\f.at_<=b.ins.length
def ij (m:DMod) (n:Int) (args:List Int):Option DFrame :=
 if 0<=n then(m.funcs[n.toNat]?).bind fun g=>if(args.length:Int)=g.params then some ⟨n,0,0,args.take g.regs.toNat++List.replicate (g.regs.toNat-args.length) 0,0⟩else none else none
def fc:DFrame:=⟨0,0,0,[],0⟩
def im (m:DMod) (f:DFrame) (pad w:Int):Option DFrame :=
 (m.funcs[f.f.toNat]?).bind fun g=>if 0<=pad then(g.blocks[pad.toNat]?).bind fun b=>if b.landing then some ⟨f.f,pad,0,f.regs.set b.pad.dst.toNat w,w⟩else none else none
def DQ:Option DFrame->Int
 | some _=>0
 | none=>1
theorem xL {α:Type} {l:List α} {n:Int} (h0:0<=n) (h:¬n<l.length):l[n.toNat]? = none:=F5 (by omega)
theorem RNo:RFrame (some true) [I 0,I 0,I 0,.lit bc,W 0] fc:=⟨_,rfl,.nil,⟨by decide,by decide⟩,⟨by decide,by decide⟩,⟨by decide,by decide⟩,⟨by decide,by decide⟩⟩
def DE:List Value:=[.int .i64 0,.int .i64 0,.int .i64 0,.slice none 0 0,.int .u16 0]
theorem dl {a b c d:Int} {y:TV} (h:y.isSl=true):(Bool.and ((TV.agg [I a,I b,I c,y,W d]).isAgg 5) (ab DE ((TV.agg [I a,I b,I c,y,W d]).cellsL true) 0))=true:=by
 simp[ab,TV.isAgg,TV.cellsL,DE,aF,h,TV.isSc,scV]
theorem in0:inI 0:=⟨by decide,by decide⟩
theorem wz:inW 0:=⟨by decide,by decide⟩
end Go.Ab
namespace Go.Ab.C14
open Go Go.Ab Go.Proofs
theorem zj {q:Option Bool} {e:List TV} {x:DFrame} (he:RFrame q e x) (n:Int):aj prog 85 [.agg e,I n] (B (tt (within n x.regs.length))):=by
 obtain⟨g,rfl,hg,_⟩:=he
 refine aj.of (f85_MR _ _) ?_
 unfold f85_M
 repeat' (first
  | refine aa.chk rfl ?_
  | refine aa.tv rfl ?_
  | refine aa.tv (RL.len (by assumption)) ?_
  | refine aa.nat rfl ?_
  | refine aa.ite rfl (fun _=>?_) (fun _=>?_)
  | refine aa.call (by assumption) ?_
  | refine aa.tvs (by assumption) ?_)
 all_goals (apply aH;simp_all[within]<;>omega)
end Go.Ab.C14
end
section
set_option maxRecDepth 10000
namespace Go.Ab
theorem jY {n:Int} (h0:0<=n) (h:inI n):aJ (I n)=some n.toNat:=by
 have:=h.2
 simp[aJ,h0];omega
theorem EC {a b c d e:Int} {y:TV} (h:isOwn y=true):bE [.agg [I a,I b,I c,y,W d],I e]=true:=by
 simp[isOwn,bE,h]
theorem RW0:RW1 [W 0] 0:=⟨rfl,by decide,by decide⟩
end Go.Ab
namespace Go.Ab.C14
open Go Go.Ab Go.Proofs
theorem lK {m:DMod} {g:DFunc} {n:Nat} (h:cF m) (hg:m.funcs[n]? = some g):qF m.funcs g:=h.2.2 n (FP.1 hg).1 g hg
theorem sM {m:DMod} {g:DFunc} {n:Nat} (h:cF m) (hg:m.funcs[n]? = some g):0<=g.regs/\g.regs<=256:=by
 obtain⟨⟨h1,h2,h3,h4⟩,_⟩:=lK h hg
 exact⟨by omega,h4⟩
theorem EE {m:DMod} {g:DFunc} {b:DBlock} {n k:Nat} (h:cF m) (hg:m.funcs[n]? = some g) (hb:g.blocks[k]? = some b) (hl:b.landing=true):within b.pad.dst g.regs:=by
 obtain⟨_,_,_,h4⟩:=lK h hg
 exact((h4 k (FP.1 hb).1 b hb).2.1.2 hl).1
end Go.Ab.C14
end

import Derived.Test.YtpkpckdealhkhaaAM0
import Derived.IntWalk
import Derived.Lib.ItoaNum
import Derived.Test.YtpkpckdealhkhaaProg
set_option linter.all false
section
namespace Go.Ab
def wq:List Value:=[.int .i64 0]
def CZ:List Value:=[.int .u16 0]
def am:List Value:=[.bool false]
def zSl:List Value:=[.slice none 0 0]
def zIns:List Value:=[.int .i64 0,.int .i64 0,.int .i64 0,.int .i64 0,.int .u16 0,.int .i64 0,.slice none 0 0]
def dK:List Value:=[.bool false,.int .i64 0,.slice none 0 0,.bool false,.bool false,.slice none 0 0,.int .i64 0,.int .i64 0,.int .i64 0,.int .i64 0,.slice none 0 0,.int .i64 0,.int .i64 0,.int .i64 0]
def FJ:List Value:=[.int .i64 0,.int .i64 0,.slice none 0 0]
end Go.Ab
end
section
namespace Go.Ab
section
variable {R:Type} {C C':FuncId->List TV->Option TV} {J J':List Nat->ASt->Option R}
theorem Prg.dp (hC:∀f xs v,C f xs=some v->C' f xs=some v) (hJ:∀p st r,J p st=some r->J' p st=some r):∀{p:Prg R} {r:R},p.run C J=some r->p.run C' J'=some r
 | .fail,r,h=>by simp[Prg.run]at h
 | .ret x,r,h=>h
 | .tv p k,r,h=>by
  cases p with
  | none=>simp[Prg.run]at h
  | some v=>exact Prg.dp hC hJ (p:=k v) h
 | .tvs p k,r,h=>by
  cases p with
  | none=>simp[Prg.run]at h
  | some v=>exact Prg.dp hC hJ (p:=k v) h
 | .rws p k,r,h=>by
  cases p with
  | none=>simp[Prg.run]at h
  | some v=>exact Prg.dp hC hJ (p:=k v) h
 | .nat p k,r,h=>by
  cases p with
  | none=>simp[Prg.run]at h
  | some v=>exact Prg.dp hC hJ (p:=k v) h
 | .chk b k,r,h=>by
  cases b with
  | false=>simp[Prg.run]at h
  | true=>exact Prg.dp hC hJ (p:=k) h
 | .ite b t e, r, h => by
  cases b with
  | none=>simp[Prg.run]at h
  | some b =>
   cases b with
   | true=>exact Prg.dp hC hJ (p:=t) h
   | false=>exact Prg.dp hC hJ (p:=e) h
 | .call f xs k, r, h => by
  simp only[Prg.run]at h ⊢
  cases hc:C f xs with
  | none=>rw[hc]at h;simp at h
  | some v =>
   rw[hc]at h
   rw[hC _ _ _ hc]
   exact Prg.dp hC hJ (p:=k v) h
 | .jmp p st,r,h=>hJ _ _ _ h
end
section
variable {A:AProg} {f g:FuncId}
theorem jN {C C':FuncId->List TV->Option TV} (hC:∀f xs v,C f xs=some v->C' f xs=some v):∀{m m':Nat},m<=m'->∀{p:List Nat} {st:ASt} {r:TV},jG A C f m p st=some r->jG A C' f m' p st=some r
 | 0,_,_,_,_,_,h=>by simp[jG]at h
 | m+1,0,hle,_,_,_,_=>by omega
 | m+1,m'+1,hle,p,st,r,h=>by
  simp only[jG]at h ⊢
  exact Prg.dp hC (fun p st r h=>jN hC (by omega) h) h
theorem gq:∀{n n':Nat},n<=n'->∀{f:FuncId} {args:List TV} {r:TV},acall A n f args=some r->acall A n' f args=some r
 | 0,_,_,_,_,_,h=>by simp[acall]at h
 | n+1,0,hle,_,_,_,_=>by omega
 | n + 1, n' + 1, hle, f, args, r, h => by
  simp only[acall]at h ⊢
  have hC:∀f xs v,acall A n f xs=some v->acall A n' f xs=some v:=fun f xs v h=>gq (by omega) h
  split at h
  ·rename_i g hg
   exact h
  ·exact Prg.dp hC (fun p st r h=>jN hC (by omega) h) h
def aj (A:AProg) (f:FuncId) (args:List TV) (r:TV):Prop:=∃n,acall A n f args=some r
def aa (A:AProg) (f:FuncId) (p:Prg TV) (r:TV):Prop:=∃n,p.run (acall A n) (jG A (acall A n) f n)=some r
variable {r:TV}
theorem aa.up {p:Prg TV} {n n':Nat} (h:p.run (acall A n) (jG A (acall A n) f n)=some r) (hle:n<=n'):p.run (acall A n') (jG A (acall A n') f n')=some r :=
 Prg.dp (fun _ _ _ h=>gq hle h) (fun _ _ _ h=>jN (fun _ _ _ h=>gq hle h) hle h) h
theorem aa.ret:aa A f (.ret r) r:=⟨0,rfl⟩
theorem cS {x:TV}:aa A f (.ret x) r ↔ x=r:=⟨fun⟨n,h⟩=>by simpa[Prg.run]using h,fun h=>h▸aa.ret⟩
theorem EB {p:Option TV} {k:TV->Prg TV}:aa A f (.tv p k) r ↔ ∃v,p=some v/\aa A f (k v) r:=by
 constructor
 ·rintro⟨n,h⟩
  cases p with
  | none=>simp[Prg.run]at h
  | some v=>exact⟨v,rfl,n,h⟩
 ·rintro⟨v,rfl,n,h⟩;exact⟨n,h⟩
theorem DO {p:Option (List TV)} {k:List TV->Prg TV}:aa A f (.tvs p k) r ↔ ∃v,p=some v/\aa A f (k v) r:=by
 constructor
 ·rintro⟨n,h⟩
  cases p with
  | none=>simp[Prg.run]at h
  | some v=>exact⟨v,rfl,n,h⟩
 ·rintro⟨v,rfl,n,h⟩;exact⟨n,h⟩
theorem Cu {p:Option (List (List TV))} {k:List (List TV)->Prg TV}:aa A f (.rws p k) r ↔ ∃v,p=some v/\aa A f (k v) r:=by
 constructor
 ·rintro⟨n,h⟩
  cases p with
  | none=>simp[Prg.run]at h
  | some v=>exact⟨v,rfl,n,h⟩
 ·rintro⟨v,rfl,n,h⟩;exact⟨n,h⟩
theorem DN {p:Option Nat} {k:Nat->Prg TV}:aa A f (.nat p k) r ↔ ∃v,p=some v/\aa A f (k v) r:=by
 constructor
 ·rintro⟨n,h⟩
  cases p with
  | none=>simp[Prg.run]at h
  | some v=>exact⟨v,rfl,n,h⟩
 ·rintro⟨v,rfl,n,h⟩;exact⟨n,h⟩
theorem CQ {b:Bool} {k:Prg TV}:aa A f (.chk b k) r ↔ b=true/\aa A f k r:=by
 constructor
 ·rintro⟨n,h⟩
  cases b with
  | false=>simp[Prg.run]at h
  | true=>exact⟨rfl,n,h⟩
 ·rintro⟨rfl,n,h⟩;exact⟨n,h⟩
theorem Ec {b:Option Bool} {t e:Prg TV}:aa A f (.ite b t e) r ↔ ∃v,b=some v/\aa A f (bif v then t else e) r:=by
 constructor
 ·rintro⟨n,h⟩
  cases b with
  | none=>simp[Prg.run]at h
  | some v=>refine⟨v,rfl,n,?_⟩;cases v<;>exact h
 ·rintro⟨v,rfl,n,h⟩;refine⟨n,?_⟩;cases v<;>exact h
theorem Bf {xs:List TV} {k:TV->Prg TV}:aa A f (.call g xs k) r ↔ ∃v,aj A g xs v/\aa A f (k v) r:=by
 constructor
 ·rintro⟨n,h⟩
  simp only[Prg.run]at h
  cases hc:acall A n g xs with
  | none=>rw[hc]at h;simp at h
  | some v=>rw[hc]at h;exact⟨v,⟨n,hc⟩,n,h⟩
 ·rintro⟨v,⟨n,hc⟩,m,h⟩
  refine⟨max n m,?_⟩
  simp only[Prg.run]
  rw[gq (Nat.le_max_left n m) hc]
  exact aa.up h (Nat.le_max_right n m)
theorem Dv {p:List Nat} {st:ASt}:aa A f (.jmp p st) r ↔ aa A f (jz A f p st) r:=by
 constructor
 ·rintro⟨n,h⟩
  cases n with
  | zero=>simp[Prg.run,jG]at h
  | succ n =>
   refine⟨n+1,?_⟩
   simp only[Prg.run,jG]at h
   exact Prg.dp (fun _ _ _ h=>h) (fun _ _ _ h=>jN (fun _ _ _ h=>h) (Nat.le_succ n) h) h
 ·rintro⟨n,h⟩
  refine⟨n+1,?_⟩
  simp only[Prg.run,jG]
  exact Prg.dp (fun _ _ _ h=>gq (Nat.le_succ n) h) (fun _ _ _ h=>jN (fun _ _ _ h=>gq (Nat.le_succ n) h) (Nat.le_refl n) h) h
theorem Ds {args:List TV} (hx:A.ext f=none):aj A f args r ↔ aa A f (ap A f args) r:=by
 constructor
 ·rintro⟨n,h⟩
  cases n with
  | zero=>simp[acall]at h
  | succ n=>simp only[acall,hx]at h;exact⟨n,h⟩
 ·rintro⟨n,h⟩;exact⟨n+1,by simp only[acall,hx];exact h⟩
theorem aa.tv {p:Option TV} {k:TV->Prg TV} {v:TV} (h:p=some v) (hk:aa A f (k v) r):aa A f (.tv p k) r:=EB.2 ⟨v,h,hk⟩
theorem aa.tvs {p:Option (List TV)} {k:List TV->Prg TV} {v:List TV} (h:p=some v) (hk:aa A f (k v) r):aa A f (.tvs p k) r:=DO.2 ⟨v,h,hk⟩
theorem aa.rws {p:Option (List (List TV))} {k:List (List TV)->Prg TV} {v:List (List TV)} (h:p=some v) (hk:aa A f (k v) r):aa A f (.rws p k) r:=Cu.2 ⟨v,h,hk⟩
theorem aa.nat {p:Option Nat} {k:Nat->Prg TV} {v:Nat} (h:p=some v) (hk:aa A f (k v) r):aa A f (.nat p k) r:=DN.2 ⟨v,h,hk⟩
theorem aa.chk {b:Bool} {k:Prg TV} (h:b=true) (hk:aa A f k r):aa A f (.chk b k) r:=CQ.2 ⟨h,hk⟩
theorem aa.ite {b:Option Bool} {t e:Prg TV} {v:Bool} (h:b=some v) (ht:v=true->aa A f t r) (he:v=false->aa A f e r):aa A f (.ite b t e) r:=by
 refine Ec.2 ⟨v,h,?_⟩
 cases v with
 | true=>exact ht rfl
 | false=>exact he rfl
theorem aa.call {xs:List TV} {k:TV->Prg TV} {v:TV} (h:aj A g xs v) (hk:aa A f (k v) r):aa A f (.call g xs k) r:=Bf.2 ⟨v,h,hk⟩
theorem aa.jmp {p:List Nat} {st:ASt} {q:Prg TV} (h:jz A f p st=q) (hk:aa A f q r):aa A f (.jmp p st) r:=Dv.2 (h▸hk)
theorem aj.of {args:List TV} {q:Prg TV} (h:ap A f args=q) (hk:aa A f q r) (hx:A.ext f=none:=by rfl):aj A f args r:=(Ds hx).2 (h▸hk)
end
end Go.Ab
end
section
namespace Go.Ab
inductive F2 {α β:Type} (R:α->β->Prop):List α->List β->Prop
 | nil:F2 R [] []
 | cons {a b l m}:R a b->F2 R l m->F2 R (a::l) (b::m)
section
variable {α β γ:Type} {R S:α->β->Prop}
theorem F2.length {xs:List α} {l:List β} (h:F2 R xs l):xs.length=l.length:=by
 induction h with
 | nil=>rfl
 | cons _ _ ih=>simp[ih]
theorem F2.get {xs:List α} {l:List β} (h:F2 R xs l):∀{i:Nat} {a:β},l[i]? = some a->∃e,xs[i]? = some e/\R e a:=by
 induction h with
 | nil=>intro i a h;simp at h
 | cons hr _ ih =>
  intro i a h
  cases i with
  | zero=>simp at h;subst h;exact⟨_,rfl,hr⟩
  | succ i=>simp at h;simpa using ih h
theorem F2.getL {xs:List α} {l:List β} (h:F2 R xs l):∀{i:Nat} {e:α},xs[i]? = some e->∃a,l[i]? = some a/\R e a:=by
 induction h with
 | nil=>intro i a h;simp at h
 | cons hr _ ih =>
  intro i a h
  cases i with
  | zero=>simp at h;subst h;exact⟨_,rfl,hr⟩
  | succ i=>simp at h;simpa using ih h
theorem F2.mono (hm:∀e a,R e a->S e a) {xs:List α} {l:List β} (h:F2 R xs l):F2 S xs l:=by
 induction h with
 | nil=>exact .nil
 | cons hr _ ih=>exact .cons (hm _ _ hr) ih
theorem F2.append {xs ys:List α} {l m:List β} (h:F2 R xs l) (h':F2 R ys m):F2 R (xs++ys) (l++m):=by
 induction h with
 | nil=>exact h'
 | cons hr _ ih=>exact .cons hr ih
theorem F2.take {xs:List α} {l:List β} (h:F2 R xs l):∀n,F2 R (xs.take n) (l.take n):=by
 induction h with
 | nil=>intro n;simp;exact .nil
 | cons hr _ ih=>intro n;cases n with
  | zero=>exact .nil
  | succ n=>exact .cons hr (ih n)
theorem F2.drop {xs:List α} {l:List β} (h:F2 R xs l):∀n,F2 R (xs.drop n) (l.drop n):=by
 induction h with
 | nil=>intro n;simp;exact .nil
 | cons hr h ih=>intro n;cases n with
  | zero=>exact .cons hr h
  | succ n=>exact ih n
theorem F2.set {xs:List α} {l:List β} (h:F2 R xs l):∀{i:Nat} {e:α} {a:β},R e a->F2 R (ai xs i e) (l.set i a):=by
 induction h with
 | nil=>intro i e a _;exact .nil
 | cons hr h ih=>intro i e a hea;cases i with
  | zero=>exact .cons hea h
  | succ i=>exact .cons hr (ih hea)
theorem F2.mapL {f:γ->α} {Q:γ->β->Prop} {xs:List γ} {l:List β} (h:F2 Q xs l) (hf:∀x a,Q x a->R (f x) a):F2 R (xs.map f) l:=by
 induction h with
 | nil=>exact .nil
 | cons hr _ ih=>exact .cons (hf _ _ hr) ih
theorem F2.of_get {xs:List α}:∀{l:List β},xs.length=l.length->(∀(i:Nat) e a,xs[i]? = some e->l[i]? = some a->R e a)->F2 R xs l:=by
 induction xs with
 | nil=>intro l h _;cases l with
  | nil=>exact .nil
  | cons _ _=>simp at h
 | cons x xs ih=>intro l h hg;cases l with
  | nil=>simp at h
  | cons a l=>exact .cons (hg 0 x a rfl rfl) (ih (by simpa using h) fun i e b he hb=>hg (i+1) e b (by simpa using he) (by simpa using hb))
end
abbrev I (n:Int):TV:=.lit (.int .i64 n)
abbrev W (n:Int):TV:=.lit (.int .u16 n)
abbrev B (b:Bool):TV:=.lit (.bool b)
def inI (n:Int):Prop:=-9223372036854775808<=n/\n<=9223372036854775807
def inW (n:Int):Prop:=0<=n/\n<=65535
def RL {α:Type} (q:Option Bool) (s:Nat) (R:List TV->α->Prop) (x:TV) (l:List α):Prop :=
 (x=.lit bc/\l=[])\/∃o xs,x=.sl o s xs/\(∀b,q=some b->o=b)/\F2 R xs l/\xs.length<=9223372036854775807
theorem pw:∀ys:List (List TV),sd ys=ys.map nq
 | []=>rfl
 | y::ys=>by simp[sd,pw ys]
section
variable {α:Type} {q:Option Bool} {s:Nat} {R S:List TV->α->Prop} {x:TV} {l:List α}
theorem RL.nil:RL q s R (.lit bc) []:=.inl ⟨rfl,rfl⟩
theorem RL.sl {o:Bool} {xs:List (List TV)} (hq:∀b,q=some b->o=b) (h:F2 R xs l) (hb:xs.length<=9223372036854775807):RL q s R (.sl o s xs) l:=.inr ⟨o,xs,rfl,hq,h,hb⟩
theorem RL.bnd (h:RL q s R x l):l.length<=9223372036854775807:=by
 rcases h with⟨rfl,rfl⟩|⟨o,xs,rfl,hq,h,hb⟩
 ·simp
 ·rw[<-h.length];exact hb
theorem RL.weak (h:RL q s R x l) (hm:∀e a,R e a->S e a):RL none s S x l:=by
 rcases h with⟨rfl,rfl⟩|⟨o,xs,rfl,hq,h,hb⟩
 ·exact .nil
 ·exact .sl (by simp) (h.mono hm) hb
theorem RL.len {t:TypeId} (h:RL q s R x l):plen (.slice t) x=some (I l.length):=by
 rcases h with⟨rfl,rfl⟩|⟨o,xs,rfl,hq,h,hb⟩
 ·rfl
 ·simp[plen,h.length]
theorem RL.slLen (h:RL q s R x l):Go.Ab.slLen x=some l.length:=by
 rcases h with⟨rfl,rfl⟩|⟨o,xs,rfl,hq,h,hb⟩
 ·rfl
 ·simp[Go.Ab.slLen,h.length]
theorem RL.slSize (h:RL q s R x l):Go.Ab.slSize x s=true:=by
 rcases h with⟨rfl,rfl⟩|⟨o,xs,rfl,hq,h,hb⟩
 ·rfl
 ·simp[Go.Ab.slSize]
theorem RL.isSl (h:RL q s R x l):x.isSl=true:=by
 rcases h with⟨rfl,rfl⟩|⟨o,xs,rfl,hq,h,hb⟩<;>rfl
theorem RL.idx (h:RL q s R x l) {k:IntKind} {i:Nat} {a:α} (hi:l[i]? = some a):∃e,pidx s x (.lit (.int k i))=some e/\R e a:=by
 rcases h with⟨rfl,rfl⟩|⟨o,xs,rfl,hq,h,hb⟩
 ·simp at hi
 ·obtain⟨e,he,hr⟩:=h.get hi
  exact⟨e,by simp[pidx,he],hr⟩
theorem RL.elems (h:RL q s R x l):∃xs,pelems s x=some xs/\F2 R xs l:=by
 rcases h with⟨rfl,rfl⟩|⟨o,xs,rfl,hq,h,hb⟩
 ·exact⟨[],rfl,.nil⟩
 ·exact⟨xs,by simp[pelems],h⟩
theorem RL.pel (h:RL q s R x l) {i:Nat} {a:α} (hi:l[i]? = some a):∃e,Go.Ab.pel x i=some e/\R e a:=by
 rcases h with⟨rfl,rfl⟩|⟨o,xs,rfl,hq,h,hb⟩
 ·simp at hi
 ·exact h.get hi
theorem RL.frz (h:RL q s R x l) (hm:∀e a,R e a->S (nq e) a):RL (some false) s S (frz x) l:=by
 rcases h with⟨rfl,rfl⟩|⟨o,xs,rfl,hq,h,hb⟩
 ·exact .nil
 ·refine .sl (by simp) ?_ ?_
  rotate_left
  ·rw[pw,List.length_map];exact hb
  rw[pw]
  exact h.mapL hm
end
def RI1 (e:List TV) (n:Int):Prop:=e=[I n]/\inI n
def RW1 (e:List TV) (n:Int):Prop:=e=[W n]/\inW n
def RB1 (e:List TV) (b:Bool):Prop:=e=[B b]
abbrev RInts (q:Option Bool):TV->List Int->Prop:=RL q 1 RI1
abbrev RWords (q:Option Bool):TV->List Int->Prop:=RL q 1 RW1
abbrev RBools (q:Option Bool):TV->List Bool->Prop:=RL q 1 RB1
structure DIns where
 op:Int
 dst:Int
 a:Int
 b:Int
 k:Int
 f:Int
 args:List Int
structure DEnd where
 kind:Int
 a:Int
 dst:Int
 f:Int
 args:List Int
 to:Int
 els:Int
 pad:Int
structure DPad where
 dst:Int
 catches:List Int
 all:Bool
 cleanup:Bool
structure DBlock where
 landing:Bool
 pad:DPad
 ins:List DIns
 fin:DEnd
structure DFunc where
 params:Int
 regs:Int
 blocks:List DBlock
structure DMod where
 funcs:List DFunc
def DIns.ok (x:DIns):Prop:=inI x.op/\inI x.dst/\inI x.a/\inI x.b/\inW x.k/\inI x.f
def DEnd.ok (x:DEnd):Prop:=inI x.kind/\inI x.a/\inI x.dst/\inI x.f/\inI x.to/\inI x.els/\inI x.pad
def RIns (q:Option Bool) (e:List TV) (x:DIns):Prop:=∃g,e=[I x.op,I x.dst,I x.a,I x.b,W x.k,I x.f,g]/\RInts q g x.args/\x.ok
def REnd (q:Option Bool) (e:List TV) (x:DEnd):Prop:=∃g,e=[I x.kind,I x.a,I x.dst,I x.f,g,I x.to,I x.els,I x.pad]/\RInts q g x.args/\x.ok
def RPad (q:Option Bool) (e:List TV) (x:DPad):Prop:=∃g,e=[I x.dst,g,B x.all,B x.cleanup]/\RWords q g x.catches/\inI x.dst
def RBlock (q:Option Bool) (e:List TV) (x:DBlock):Prop:=∃c i g,e=[B x.landing,I x.pad.dst,c,B x.pad.all,B x.pad.cleanup,i,I x.fin.kind,I x.fin.a,I x.fin.dst,I x.fin.f,g,I x.fin.to,I x.fin.els,I x.fin.pad] /\
 RWords q c x.pad.catches/\inI x.pad.dst/\RL q 7 (RIns q) i x.ins/\RInts q g x.fin.args/\x.fin.ok
def RFunc (q:Option Bool) (e:List TV) (x:DFunc):Prop:=∃b,e=[I x.params,I x.regs,b]/\RL q 14 (RBlock q) b x.blocks/\inI x.params/\inI x.regs
def RMod (q:Option Bool) (e:List TV) (x:DMod):Prop:=∃b,e=[b]/\RL q 3 (RFunc q) b x.funcs
theorem RI1.frz {e:List TV} {n:Int} (h:RI1 e n):RI1 (nq e) n:=by obtain⟨rfl,h⟩:=h;exact⟨rfl,h⟩
theorem RW1.frz {e:List TV} {n:Int} (h:RW1 e n):RW1 (nq e) n:=by obtain⟨rfl,h⟩:=h;exact⟨rfl,h⟩
theorem RB1.frz {e:List TV} {n:Bool} (h:RB1 e n):RB1 (nq e) n:=by cases h;exact rfl
theorem RIns.frz {q:Option Bool} {e:List TV} {x:DIns} (h:RIns q e x):RIns (some false) (nq e) x:=by
 obtain⟨g,rfl,hg,ho⟩:=h
 exact⟨Go.Ab.frz g,rfl,hg.frz fun _ _ h=>h.frz,ho⟩
theorem RBlock.frz {q:Option Bool} {e:List TV} {x:DBlock} (h:RBlock q e x):RBlock (some false) (nq e) x:=by
 obtain⟨c,i,g,rfl,hc,hd,hi,hg,ho⟩:=h
 exact⟨Go.Ab.frz c,Go.Ab.frz i,Go.Ab.frz g,rfl,hc.frz fun _ _ h=>h.frz,hd,hi.frz fun _ _ h=>h.frz,hg.frz fun _ _ h=>h.frz,ho⟩
theorem RFunc.frz {q:Option Bool} {e:List TV} {x:DFunc} (h:RFunc q e x):RFunc (some false) (nq e) x:=by
 obtain⟨b,rfl,hb,ho⟩:=h
 exact⟨Go.Ab.frz b,rfl,hb.frz fun _ _ h=>h.frz,ho⟩
theorem padd {a b:Int} (h:inI (a+b)):pbin (.int .i64) .add (I a) (I b)=some (I (a+b)):=by
 simp[pbin,kM,IntWalk.i64_in _ h]
theorem inc {k n:Nat} (h:k<n) (hn:n<=9223372036854775807):pbin (.int .i64) .add (I (k:Int)) (I (1:Int))=some (I ((k+1:Nat):Int)):=by
 rw[padd (by constructor<;>omega)];rfl
open Classical in
noncomputable def tt (p:Prop):Bool:=decide p
theorem aG {p:Prop}:tt p=true ↔ p:=by simp[tt]
theorem FI {b:Bool} {p:Prop} (h:b=true ↔ p):b=tt p:=by
 cases b with
 | true=>exact(aG.2 (h.1 rfl)).symm
 | false =>
  cases hp:tt p with
  | false=>rfl
  | true=>exact absurd (h.2 (aG.1 hp)) (by simp)
theorem aX {p p':Prop} (h:p ↔ p'):tt p=tt p':=by rw[propext h]
theorem bp {p:Prop} (h:p):tt p=true:=aG.2 h
theorem ck {p:Prop} (h:¬p):tt p=false:=by
 cases hp:tt p with
 | false=>rfl
 | true=>exact absurd (aG.1 hp) h
section
variable {A:AProg} {f:FuncId}
theorem aH {b:Bool} {p:Prop} (h:b=true ↔ p):aa A f (.ret (B b)) (B (tt p)):=by rw[<-FI h];exact aa.ret
theorem Af {p:Prop} (h:p):aa A f (.ret (B true)) (B (tt p)):=aH (by simp[h])
theorem aB {p:Prop} (h:¬p):aa A f (.ret (B false)) (B (tt p)):=aH (by simp[h])
end
def fX (k n:Nat) (P:Nat->Prop):Prop:=∀i,k<=i->i<n->P i
theorem xB {n:Nat} {P:Nat->Prop}:fX n n P:=fun i h1 h2=>by omega
theorem ky {k n:Nat} {P:Nat->Prop} (h:k<n):fX k n P ↔ P k/\fX (k+1) n P:=by
 constructor
 ·intro ha;exact⟨ha k (Nat.le_refl k) h,fun i h1 h2=>ha i (by omega) h2⟩
 ·rintro⟨hp,ha⟩ i h1 h2
  by_cases hi:i=k
  ·subst hi;exact hp
  ·exact ha i (by omega) h2
theorem fY {n:Nat} {P:Nat->Prop}:fX 0 n P ↔ ∀i,i<n->P i:=⟨fun h i hi=>h i (Nat.zero_le i) hi,fun h i _ hi=>h i hi⟩
theorem yx {α:Type} {l m:List α} (h:l.length=m.length):l=m ↔ fX 0 l.length fun i=>l[i]? = m[i]? := by
 rw[fY]
 constructor
 ·rintro rfl i _;rfl
 ·intro ha
  apply List.ext_getElem? 
  intro i
  by_cases hi:i<l.length
  ·exact ha i hi
  ·rw[F5 (by omega),F5 (by omega)]
end Go.Ab
namespace Go.Ab
theorem AR {A:AProg} {f:FuncId} {n:Nat} {P:Nat->Prop} {Q:Prop} {g:Nat->Prg TV} (hend:aa A f (g n) (B (tt Q)))
  (hstep:∀k,k<n->∀r,(¬P k->r=B false)->(P k->aa A f (g (k+1)) r)->aa A f (g k) r):∀d k,k+d=n->aa A f (g k) (B (tt (fX k n P/\Q))):=by
 intro d
 induction d with
 | zero =>
  intro k hk
  have hk:k=n:=by omega
  subst hk
  rw[show tt (fX k k P/\Q)=tt Q from aX ⟨fun h=>h.2,fun h=>⟨xB,h⟩⟩]
  exact hend
 | succ d ih =>
  intro k hk
  have hlt:k<n:=by omega
  refine hstep k hlt _ (fun hp=>?_) (fun hp=>?_)
  ·rw[ck]
   intro h
   exact hp ((ky hlt).1 h.1).1
  ·rw[show tt (fX k n P/\Q)=tt (fX (k+1) n P/\Q) from aX ⟨fun h=>⟨((ky hlt).1 h.1).2,h.2⟩,fun h=>⟨(ky hlt).2 ⟨hp,h.1⟩,h.2⟩⟩]
   exact ih (k+1) (by omega)
theorem dM {A:AProg} {f:FuncId} {n:Nat} {P:Nat->Prop} {g:Nat->Prg TV} (hend:aa A f (g n) (B true))
  (hstep:∀k,k<n->∀r,(¬P k->r=B false)->(P k->aa A f (g (k+1)) r)->aa A f (g k) r):aa A f (g 0) (B (tt (∀i,i<n->P i))):=by
 have:=AR (Q:=True) (by rw[bp trivial];exact hend) hstep n 0 (by omega)
 rw[show tt (∀i,i<n->P i)=tt (fX 0 n P/\True) from aX ⟨fun h=>⟨fY.2 h,trivial⟩,fun h=>fY.1 h.1⟩]
 exact this
theorem aQ {k n:Nat} (h:k<n):asBool (.lit (.bool (decide ((k:Int)<(n:Int)))))=some true:=by simp[asBool,h]
theorem aM {n:Nat}:asBool (.lit (.bool (decide ((n:Int)<(n:Int)))))=some false:=by simp[asBool]
theorem dH {α:Type} {l m:List α} (h:l.length=m.length):l=m ↔ ∀i,i<l.length->l[i]? = m[i]? := by
 rw[yx h,fY]
end Go.Ab
namespace Go.Ab
theorem nF {A:AProg} {f:FuncId} {n:Nat} {P:Nat->Prop} {r:TV} {g:Nat->Prg TV} (hno:¬(∀i,i<n->P i)->r=B false) (hend:(∀i,i<n->P i)->aa A f (g n) r)
  (hstep:∀k,k<n->∀r,(¬P k->r=B false)->(P k->aa A f (g (k+1)) r)->aa A f (g k) r):aa A f (g 0) r:=by
 have:∀d k,k+d=n->(∀i,i<k->P i)->aa A f (g k) r:=by
  intro d
  induction d with
  | zero =>
   intro k hk hp
   have hk:k=n:=by omega
   subst hk
   exact hend hp
  | succ d ih =>
   intro k hk hp
   have hlt:k<n:=by omega
   refine hstep k hlt _ (fun hq=>hno fun h=>hq (h k hlt)) (fun hq=>ih (k+1) (by omega) fun i hi=>?_)
   by_cases h:i=k
   ·subst h;exact hq
   ·exact hp i (by omega)
 exact this n 0 (by omega) (fun i hi=>by omega)
theorem uS:∀{zs:List Value} {e:List TV} {j:Nat},ab zs e j=true->cL zs e j=true
 | [],_,_,_=>rfl
 | z :: zs, e, j, h => by
  unfold ab at h
  unfold cL
  split at h
  ·rename_i c hc
   rw[FS]at h
   rw[FS]
   refine⟨?_,uS h.2⟩
   have h1:=h.1
   cases hz:aF z with
   | true=>rw[hz]at h1;simp only[cond_true]at h1 ⊢;rw[h1];rfl
   | false=>rw[hz]at h1;exact h1
  ·cases h
end Go.Ab
end
section
namespace Go.Ab
def Fv:List (Nat × jq)->Nat->Option jq
 | [],_=>none
 | (k,d)::r,t=>bif k.beq t then some d else Fv r t
end Go.Ab
end
section
namespace Go.Ab.C14
open Go.Ab Go.Proofs
def Jk:AV:=AV.one CA.junk
def Sr (i:Nat):AV:=AV.one (CA.sref i 0 [])
def Pt (i:Nat):AV:=AV.one (CA.ptr i 0)
def Tr (w:TV):Option BC:=some (BC.tree [w])
def Ct (y:TV):Option BC:=some (BC.cells [CA.t y])
def Rj (n:Nat):List AV:=List.replicate n (AV.one CA.junk)
def Rz (n:Nat):List (Option BC):=List.replicate n none
def bk:List (Nat × Ann)->Nat->Option Ann
 | [],_=>none
 | (k,d)::r,t=>bif k.beq t then some d else bk r t
def z2:List Value:=[.int .i64 0]
def z3:List Value:=[.int .i64 0]
def z4:List Value:=[.bool false]
def z5:List Value:=[.int .u8 0]
def z6:List Value:=[.int .u8 0]
def z7:List Value:=[.int .i64 0,.int .i64 0,.bool false,.int .u8 0]
def z8:List Value:=[.int .i64 0,.int .i64 0,.bool false,.int .u8 0]
def z9:List Value:=[.string ⟨#[]⟩]
def z10:List Value:=[.string ⟨#[]⟩]
def z11:List Value:=[.string ⟨#[]⟩]
def z12:List Value:=[.int .u64 0]
def z13:List Value:=[.string ⟨#[]⟩,.int .u64 0]
def z14:List Value:=[.string ⟨#[]⟩,.int .u64 0]
def z15:List Value:=[.pointer none]
def z16:List Value:=[.pointer none]
def z17:List Value:=[.pointer none]
def z18:List Value:=[.pointer none]
def z19:List Value:=[.pointer none]
def z20:List Value:=[.nilIface]
def z21:List Value:=[.int .i32 0]
def z22:List Value:=[.slice none 0 0]
def z23:List Value:=[.slice none 0 0]
def z24:List Value:=[.slice none 0 0]
def z25:List Value:=[.nilFunc]
def z26:List Value:=[.nilFunc]
def z27:List Value:=[.nilFunc]
def z28:List Value:=[.int .i64 0]
def z30:List Value:=[.nilFunc]
def z31:List Value:=[.nilFunc]
def z32:List Value:=[.nilFunc]
def z33:List Value:=[.slice none 0 0]
def z34:List Value:=[.nilFunc]
def z35:List Value:=[.nilFunc]
def z36:List Value:=[.slice none 0 0]
def z37:List Value:=[.nilFunc]
def z38:List Value:=[.slice none 0 0]
def z39:List Value:=[.int .i64 0,.int .i64 0,.slice none 0 0]
def z40:List Value:=[.int .i64 0,.int .i64 0,.slice none 0 0]
def z41:List Value:=[.int .i64 0,.slice none 0 0,.bool false,.bool false]
def z42:List Value:=[.int .i64 0,.slice none 0 0,.bool false,.bool false]
def z43:List Value:=[.slice none 0 0]
def z44:List Value:=[.slice none 0 0]
def z45:List Value:=[.int .i64 0,.int .i64 0,.int .i64 0,.int .i64 0,.slice none 0 0,.int .i64 0,.int .i64 0,.int .i64 0]
def z46:List Value:=[.int .i64 0,.int .i64 0,.int .i64 0,.int .i64 0,.slice none 0 0,.int .i64 0,.int .i64 0,.int .i64 0]
def z47:List Value:=[.bool false,.int .i64 0,.slice none 0 0,.bool false,.bool false,.slice none 0 0,.int .i64 0,.int .i64 0,.int .i64 0,.int .i64 0,.slice none 0 0,.int .i64 0,.int .i64 0,.int .i64 0]
def z48:List Value:=[.bool false,.int .i64 0,.slice none 0 0,.bool false,.bool false,.slice none 0 0,.int .i64 0,.int .i64 0,.int .i64 0,.int .i64 0,.slice none 0 0,.int .i64 0,.int .i64 0,.int .i64 0]
def z49:List Value:=[.nilFunc]
def z50:List Value:=[.nilFunc]
def z51:List Value:=[.nilFunc]
def z52:List Value:=[.nilFunc]
def z53:List Value:=[.int .u16 0]
def z54:List Value:=[.int .i64 0,.int .i64 0,.int .i64 0,.int .i64 0,.int .u16 0,.int .i64 0,.slice none 0 0]
def z55:List Value:=[.int .i64 0,.int .i64 0,.int .i64 0,.int .i64 0,.int .u16 0,.int .i64 0,.slice none 0 0]
def z56:List Value:=[.nilFunc]
def z57:List Value:=[.nilFunc]
def z58:List Value:=[.nilFunc]
def z59:List Value:=[.nilFunc]
def z60:List Value:=[.nilFunc]
def z61:List Value:=[.nilFunc]
def z62:List Value:=[.nilFunc]
def z63:List Value:=[.nilFunc]
def z64:List Value:=[.nilFunc]
def z65:List Value:=[.nilFunc]
def z66:List Value:=[.slice none 0 0]
def z67:List Value:=[.int .u16 0,.int .u16 0,.int .u16 0,.int .u16 0,.int .u16 0,.int .u16 0,.int .u16 0,.int .u16 0,.int .u16 0,.int .u16 0,.int .u16 0,.int .u16 0,.int .u16 0,.int .u16 0,.int .u16 0,.int .u16 0]
def z68:List Value:=[.slice none 0 0,.int .u16 0,.int .u16 0,.int .u16 0,.int .u16 0,.int .u16 0,.int .u16 0,.int .u16 0,.int .u16 0,.int .u16 0,.int .u16 0,.int .u16 0,.int .u16 0,.int .u16 0,.int .u16 0,.int .u16 0,.int .u16 0,.slice none 0 0,.slice none 0 0,.int .i64 0,.int .u16 0]
def z69:List Value:=[.slice none 0 0,.int .u16 0,.int .u16 0,.int .u16 0,.int .u16 0,.int .u16 0,.int .u16 0,.int .u16 0,.int .u16 0,.int .u16 0,.int .u16 0,.int .u16 0,.int .u16 0,.int .u16 0,.int .u16 0,.int .u16 0,.int .u16 0,.slice none 0 0,.slice none 0 0,.int .i64 0,.int .u16 0]
def z70:List Value:=[.nilFunc]
def z71:List Value:=[.nilFunc]
def z72:List Value:=[.nilFunc]
def z73:List Value:=[.nilFunc]
def z74:List Value:=[.nilFunc]
def z75:List Value:=[.nilFunc]
def z76:List Value:=[.nilFunc]
def z77:List Value:=[.nilFunc]
def z78:List Value:=[.nilFunc]
def z79:List Value:=[.nilFunc]
def z80:List Value:=[.slice none 0 0,.int .i64 0,.int .i64 0,.slice none 0 0]
def z81:List Value:=[.slice none 0 0,.int .i64 0,.int .i64 0,.slice none 0 0]
def z82:List Value:=[.nilFunc]
def z83:List Value:=[.nilFunc]
def z84:List Value:=[.nilFunc]
def z85:List Value:=[.nilFunc]
def z86:List Value:=[.nilFunc]
def z87:List Value:=[.nilFunc]
def z88:List Value:=[.nilFunc]
def z89:List Value:=[.nilFunc]
def z90:List Value:=[.nilFunc]
def z91:List Value:=[.nilFunc]
def z92:List Value:=[.nilFunc]
def z93:List Value:=[.nilFunc]
def z94:List Value:=[.nilFunc]
def z95:List Value:=[.nilFunc]
def z96:List Value:=[.int .i64 0,.int .i64 0,.int .i64 0,.slice none 0 0,.int .u16 0]
def z97:List Value:=[.int .i64 0,.int .i64 0,.int .i64 0,.slice none 0 0,.int .u16 0]
def z99:List Value:=[.nilFunc]
def z101:List Value:=[.nilFunc]
def z102:List Value:=[.nilFunc]
def z103:List Value:=[.nilFunc]
def z104:List Value:=[.nilFunc]
def z105:List Value:=[.nilFunc]
def z106:List Value:=[.nilFunc]
def z107:List Value:=[.nilFunc]
def z108:List Value:=[.int .i64 0]
def z109:List Value:=[.nilFunc]
def z110:List Value:=[.nilFunc]
def z111:List Value:=[.nilFunc]
def z112:List Value:=[.nilFunc]
def z114:List Value:=[.nilFunc]
def z115:List Value:=[.nilFunc]
def z116:List Value:=[.nilFunc]
def z117:List Value:=[.nilFunc]
def z118:List Value:=[.nilFunc]
def z119:List Value:=[.nilFunc]
def z120:List Value:=[.nilFunc]
def z122:List Value:=[.nilFunc]
def z123:List Value:=[.nilFunc]
def z124:List Value:=[.nilFunc]
def z125:List Value:=[.int .u64 0]
def z126:List Value:=[.nilFunc]
def z127:List Value:=[.pointer none,.pointer none,.pointer none,.string ⟨#[]⟩]
def z128:List Value:=[.pointer none,.pointer none,.pointer none,.string ⟨#[]⟩]
def z129:List Value:=[]
def z130:List Value:=[]
def z131:List Value:=[]
def z132:List Value:=[.nilFunc]
def z133:List Value:=[.int .u32 0]
def z134:List Value:=[.int .u8 0]
def z135:List Value:=[.int .u8 0]
def z136:List Value:=[.nilFunc]
def z137:List Value:=[.pointer none]
def z138:List Value:=[.int .i32 0]
def z139:List Value:=[.int .i32 0]
def z140:List Value:=[.int .u64 0,.int .u64 0,.int .u32 0,.int .u8 0,.int .u8 0,.int .u8 0,.int .u8 0,.nilFunc,.pointer none,.int .i32 0,.int .i32 0]
def z141:List Value:=[.int .u64 0,.int .u64 0,.int .u32 0,.int .u8 0,.int .u8 0,.int .u8 0,.int .u8 0,.nilFunc,.pointer none,.int .i32 0,.int .i32 0]
def tab:Tab:=sO [
 (2,⟨1,8,.int .i64,z2,[]⟩),
 (3,⟨1,8,.int .i64,z3,[]⟩),
 (4,⟨1,1,.bool,z4,[]⟩),
 (5,⟨1,1,.int .u8,z5,[]⟩),
 (6,⟨1,1,.int .u8,z6,[]⟩),
 (7,⟨4,24,.struct,z7,[(0,2),(1,3),(2,4),(3,6)]⟩),
 (8,⟨4,24,.struct,z8,[(0,2),(1,3),(2,4),(3,6)]⟩),
 (9,⟨1,16,.str,z9,[]⟩),
 (10,⟨1,16,.str,z10,[]⟩),
 (11,⟨1,16,.str,z11,[]⟩),
 (12,⟨1,8,.int .u64,z12,[]⟩),
 (13,⟨2,24,.struct,z13,[(0,9),(1,12)]⟩),
 (14,⟨2,24,.struct,z14,[(0,9),(1,12)]⟩),
 (15,⟨1,8,.ptr,z15,[]⟩),
 (16,⟨1,8,.ptr,z16,[]⟩),
 (17,⟨1,8,.ptr,z17,[]⟩),
 (18,⟨1,8,.struct,z18,[(0,17)]⟩),
 (19,⟨1,8,.struct,z19,[(0,17)]⟩),
 (20,⟨1,16,.other,z20,[]⟩),
 (21,⟨1,4,.int .i32,z21,[]⟩),
 (22,⟨1,24,.slice 40,z22,[]⟩),
 (23,⟨1,24,.struct,z23,[(0,22)]⟩),
 (24,⟨1,24,.struct,z24,[(0,22)]⟩),
 (25,⟨1,8,.other,z25,[]⟩),
 (26,⟨1,8,.other,z26,[]⟩),
 (27,⟨1,8,.other,z27,[]⟩),
 (28,⟨1,8,.int .i64,z28,[]⟩),
 (30,⟨1,8,.other,z30,[]⟩),
 (31,⟨1,8,.other,z31,[]⟩),
 (32,⟨1,8,.other,z32,[]⟩),
 (33,⟨1,24,.slice 53,z33,[]⟩),
 (34,⟨1,8,.other,z34,[]⟩),
 (35,⟨1,8,.other,z35,[]⟩),
 (36,⟨1,24,.slice 4,z36,[]⟩),
 (37,⟨1,8,.other,z37,[]⟩),
 (38,⟨1,24,.slice 48,z38,[]⟩),
 (39,⟨3,40,.struct,z39,[(0,3),(1,3),(2,38)]⟩),
 (40,⟨3,40,.struct,z40,[(0,3),(1,3),(2,38)]⟩),
 (41,⟨4,40,.struct,z41,[(0,3),(1,33),(2,4),(3,4)]⟩),
 (42,⟨4,40,.struct,z42,[(0,3),(1,33),(2,4),(3,4)]⟩),
 (43,⟨1,24,.slice 55,z43,[]⟩),
 (44,⟨1,24,.slice 3,z44,[]⟩),
 (45,⟨8,80,.struct,z45,[(0,3),(1,3),(2,3),(3,3),(4,44),(5,3),(6,3),(7,3)]⟩),
 (46,⟨8,80,.struct,z46,[(0,3),(1,3),(2,3),(3,3),(4,44),(5,3),(6,3),(7,3)]⟩),
 (47,⟨14,152,.struct,z47,[(0,4),(1,42),(5,43),(6,46)]⟩),
 (48,⟨14,152,.struct,z48,[(0,4),(1,42),(5,43),(6,46)]⟩),
 (49,⟨1,8,.other,z49,[]⟩),
 (50,⟨1,8,.other,z50,[]⟩),
 (51,⟨1,8,.other,z51,[]⟩),
 (52,⟨1,8,.other,z52,[]⟩),
 (53,⟨1,2,.int .u16,z53,[]⟩),
 (54,⟨7,72,.struct,z54,[(0,3),(1,3),(2,3),(3,3),(4,53),(5,3),(6,44)]⟩),
 (55,⟨7,72,.struct,z55,[(0,3),(1,3),(2,3),(3,3),(4,53),(5,3),(6,44)]⟩),
 (56,⟨1,8,.other,z56,[]⟩),
 (57,⟨1,8,.other,z57,[]⟩),
 (58,⟨1,8,.other,z58,[]⟩),
 (59,⟨1,8,.other,z59,[]⟩),
 (60,⟨1,8,.other,z60,[]⟩),
 (61,⟨1,8,.other,z61,[]⟩),
 (62,⟨1,8,.other,z62,[]⟩),
 (63,⟨1,8,.other,z63,[]⟩),
 (64,⟨1,8,.other,z64,[]⟩),
 (65,⟨1,8,.other,z65,[]⟩),
 (66,⟨1,24,.slice 97,z66,[]⟩),
 (67,⟨16,32,.arr 16 53,z67,[]⟩),
 (68,⟨21,120,.struct,z68,[(0,66),(1,67),(17,33),(18,44),(19,3),(20,53)]⟩),
 (69,⟨21,120,.struct,z69,[(0,66),(1,67),(17,33),(18,44),(19,3),(20,53)]⟩),
 (70,⟨1,8,.other,z70,[]⟩),
 (71,⟨1,8,.other,z71,[]⟩),
 (72,⟨1,8,.other,z72,[]⟩),
 (73,⟨1,8,.other,z73,[]⟩),
 (74,⟨1,8,.other,z74,[]⟩),
 (75,⟨1,8,.other,z75,[]⟩),
 (76,⟨1,8,.other,z76,[]⟩),
 (77,⟨1,8,.other,z77,[]⟩),
 (78,⟨1,8,.other,z78,[]⟩),
 (79,⟨1,8,.other,z79,[]⟩),
 (80,⟨4,64,.struct,z80,[(0,22),(1,40)]⟩),
 (81,⟨4,64,.struct,z81,[(0,22),(1,40)]⟩),
 (82,⟨1,8,.other,z82,[]⟩),
 (83,⟨1,8,.other,z83,[]⟩),
 (84,⟨1,8,.other,z84,[]⟩),
 (85,⟨1,8,.other,z85,[]⟩),
 (86,⟨1,8,.other,z86,[]⟩),
 (87,⟨1,8,.other,z87,[]⟩),
 (88,⟨1,8,.other,z88,[]⟩),
 (89,⟨1,8,.other,z89,[]⟩),
 (90,⟨1,8,.other,z90,[]⟩),
 (91,⟨1,8,.other,z91,[]⟩),
 (92,⟨1,8,.other,z92,[]⟩),
 (93,⟨1,8,.other,z93,[]⟩),
 (94,⟨1,8,.other,z94,[]⟩),
 (95,⟨1,8,.other,z95,[]⟩),
 (96,⟨5,56,.struct,z96,[(0,3),(1,3),(2,3),(3,33),(4,53)]⟩),
 (97,⟨5,56,.struct,z97,[(0,3),(1,3),(2,3),(3,33),(4,53)]⟩),
 (99,⟨1,8,.other,z99,[]⟩),
 (101,⟨1,8,.other,z101,[]⟩),
 (102,⟨1,8,.other,z102,[]⟩),
 (103,⟨1,8,.other,z103,[]⟩),
 (104,⟨1,8,.other,z104,[]⟩),
 (105,⟨1,8,.other,z105,[]⟩),
 (106,⟨1,8,.other,z106,[]⟩),
 (107,⟨1,8,.other,z107,[]⟩),
 (108,⟨1,8,.int .i64,z108,[]⟩),
 (109,⟨1,8,.other,z109,[]⟩),
 (110,⟨1,8,.other,z110,[]⟩),
 (111,⟨1,8,.other,z111,[]⟩),
 (112,⟨1,8,.other,z112,[]⟩),
 (114,⟨1,8,.other,z114,[]⟩),
 (115,⟨1,8,.other,z115,[]⟩),
 (116,⟨1,8,.other,z116,[]⟩),
 (117,⟨1,8,.other,z117,[]⟩),
 (118,⟨1,8,.other,z118,[]⟩),
 (119,⟨1,8,.other,z119,[]⟩),
 (120,⟨1,8,.other,z120,[]⟩),
 (122,⟨1,8,.other,z122,[]⟩),
 (123,⟨1,8,.other,z123,[]⟩),
 (124,⟨1,8,.other,z124,[]⟩),
 (125,⟨1,8,.int .u64,z125,[]⟩),
 (126,⟨1,8,.other,z126,[]⟩),
 (127,⟨4,40,.struct,z127,[(0,17),(1,17),(2,17),(3,9)]⟩),
 (128,⟨4,40,.struct,z128,[(0,17),(1,17),(2,17),(3,9)]⟩),
 (129,⟨0,0,.arr 0 16,z129,[]⟩),
 (130,⟨0,0,.struct,z130,[(0,129)]⟩),
 (131,⟨0,0,.struct,z131,[(0,129)]⟩),
 (132,⟨1,8,.other,z132,[]⟩),
 (133,⟨1,4,.int .u32,z133,[]⟩),
 (134,⟨1,1,.int .u8,z134,[]⟩),
 (135,⟨1,1,.int .u8,z135,[]⟩),
 (136,⟨1,8,.other,z136,[]⟩),
 (137,⟨1,8,.ptr,z137,[]⟩),
 (138,⟨1,4,.int .i32,z138,[]⟩),
 (139,⟨1,4,.int .i32,z139,[]⟩),
 (140,⟨11,48,.struct,z140,[(0,12),(1,12),(2,133),(3,134),(4,5),(5,5),(6,135),(7,136),(8,137),(9,138),(10,139)]⟩),
 (141,⟨11,48,.struct,z141,[(0,12),(1,12),(2,133),(3,134),(4,5),(5,5),(6,135),(7,136),(8,137),(9,138),(10,139)]⟩)]
def pure (f:FuncId):Bool:=bF f [65,81,30,43,41,8,24,18,9]
def Fo:List (Nat × List Nat)->Nat->List Nat
 | [],_=>[]
 | (k,d)::r,t=>bif k.beq t then d else Fo r t
def rts:FuncId->List TypeId:=Fo [(4,[4]),(6,[4]),(7,[4]),(8,[24]),(9,[24,28]),(10,[3]),(12,[4]),(13,[4]),(15,[4]),(16,[4]),(17,[4]),(18,[36]),(19,[4]),(20,[4]),(21,[4]),(22,[22]),(23,[38]),(24,[48]),(25,[4]),(26,[48]),(27,[4]),(28,[4]),(29,[4]),(32,[4]),(33,[36]),(34,[4]),(35,[4]),(36,[4]),(37,[69]),(38,[4]),(39,[4]),(40,[4]),(41,[33]),(42,[43]),(43,[44]),(44,[4]),(45,[4]),(46,[4]),(47,[4]),(49,[4]),(50,[4]),(51,[4]),(52,[4]),(53,[4]),(54,[69]),(55,[69]),(56,[4]),(57,[4]),(58,[4]),(59,[4]),(60,[4]),(61,[4]),(62,[4]),(63,[3]),(64,[3]),(65,[97,3]),(66,[48,4]),(67,[69]),(68,[69]),(69,[69]),(70,[69]),(71,[69]),(72,[4]),(73,[4]),(74,[108]),(75,[4]),(76,[4]),(77,[108]),(78,[4]),(79,[97,4]),(80,[69]),(81,[97]),(82,[4]),(83,[97,3]),(84,[4]),(85,[4]),(86,[53,4]),(87,[4]),(88,[3])]
def f4_ann:Nat->Option Ann:=bk [(13,⟨[1,2,3,7,11,12],[11],[],[],[]⟩),(16,⟨[1,2,3,7,11,12,13],[11],[],[],[]⟩)]
def f4_jn:Nat->Option Ann:=bk [(21,⟨[1,2,3,7],[],[],[],[]⟩)]
def f7_ann:Nat->Option Ann:=bk [(5,⟨[1,3,4],[],[],[],[]⟩),(10,⟨[1,3,4,5],[],[],[],[]⟩),(17,⟨[1,3,4,5,6,7],[],[],[],[]⟩)]
def f8_ann:Nat->Option Ann:=bk [(3,⟨[2,3,12,13],[3],[],[2],[]⟩),(7,⟨[2,3,4,5,12,13,22,23,24],[3,5,22],[],[2],[]⟩)]
def f8_jn:Nat->Option Ann:=bk [(11,⟨[2,3,4,5,12,13],[3,5],[],[2],[]⟩)]
def f9_ann:Nat->Option Ann:=bk [(6,⟨[1,2,4,19,20,21],[4],[],[2],[]⟩),(9,⟨[1,2,4,6,19,20,21,26,27,28],[4],[],[2],[]⟩)]
def f9_jn:Nat->Option Ann:=bk [(100012,⟨[],[],[(8,2002),(8,2010)],[],[]⟩)]
def f10_ann:Nat->Option Ann:=bk [(3,⟨[3,9,10,11],[],[],[],[]⟩),(6,⟨[3,9,10,11,16,17,18],[],[],[],[]⟩)]
def f12_ann:Nat->Option Ann:=bk [(4,⟨[2,3,5],[],[],[],[]⟩)]
def f13_ann:Nat->Option Ann:=bk [(4,⟨[1,3],[],[],[],[]⟩)]
def f16_ann:Nat->Option Ann:=bk [(4,⟨[1,24,25,26],[],[],[],[]⟩)]
def f17_ann:Nat->Option Ann:=bk [(4,⟨[0,1,5],[],[],[],[]⟩)]
def f19_jn:Nat->Option Ann:=bk [(10,⟨[12,13],[],[],[],[]⟩)]
def f24_ann:Nat->Option Ann:=bk [(4,⟨[1,2,16,17],[],[],[2],[]⟩)]
def f24_jn:Nat->Option Ann:=bk [(8,⟨[1,2],[],[],[2],[]⟩)]
def f28_ann:Nat->Option Ann:=bk [(4,⟨[2,3,5],[],[],[],[]⟩),(10,⟨[2,3,5,6,7,8],[],[],[],[]⟩)]
def f29_ann:Nat->Option Ann:=bk [(4,⟨[2,3,5],[],[],[],[]⟩),(10,⟨[2,3,5,6,7],[],[],[],[]⟩)]
def f32_ann:Nat->Option Ann:=bk [(7,⟨[5,50,51,52],[],[],[],[]⟩)]
def f33_ann:Nat->Option Ann:=bk [(5,⟨[2,3,5,6],[],[],[],[]⟩),(8,⟨[2,3,5,6,18,19,20],[],[],[],[]⟩)]
def f34_jn:Nat->Option Ann:=bk [(2,⟨[2,3,4,7],[],[],[],[]⟩)]
def f37_ann:Nat->Option Ann:=bk [(3,⟨[2,3,6,7,8],[],[],[6],[]⟩)]
def f40_ann:Nat->Option Ann:=bk [(4,⟨[0,1,5],[],[],[],[]⟩)]
def f44_ann:Nat->Option Ann:=bk [(4,⟨[2,3,5],[],[],[],[]⟩)]
def f45_ann:Nat->Option Ann:=bk [(5,⟨[2,5,6],[],[],[],[]⟩),(10,⟨[2,5,6,7],[],[],[],[]⟩)]
def f45_jn:Nat->Option Ann:=bk [(14,⟨[2,5],[],[],[],[]⟩)]
def f46_jn:Nat->Option Ann:=bk [(4,⟨[3,4,5,7,8,9,40],[],[],[],[]⟩),(6,⟨[3,4,5,7,8,9,40,41],[],[],[],[]⟩)]
def f47_jn:Nat->Option Ann:=bk [(7,⟨[3,4,5,7,8,9,26,51],[],[],[],[]⟩),(14,⟨[3,4,5,7,8,9,26,72],[],[],[],[]⟩)]
def f49_ann:Nat->Option Ann:=bk [(4,⟨[2,3,21,22,23],[],[],[],[]⟩)]
def f49_jn:Nat->Option Ann:=bk [(9,⟨[2,3],[],[],[],[]⟩)]
def f55_jn:Nat->Option Ann:=bk [(21,⟨[3,4,5],[],[],[4],[]⟩)]
def f58_ann:Nat->Option Ann:=bk [(4,⟨[3,5,9],[],[],[],[]⟩)]
def f63_ann:Nat->Option Ann:=bk [(2,⟨[0,1,7,8],[],[],[],[]⟩)]
def f64_ann:Nat->Option Ann:=bk [(2,⟨[0,1,7,8],[],[],[],[]⟩)]
def f65_ann:Nat->Option Ann:=bk [(5,⟨[1,2,3,6,8,9],[],[(8,3)],[6],[]⟩)]
def f67_jn:Nat->Option Ann:=bk [(9,⟨[5,6,7,8,45],[],[],[8],[]⟩),(16,⟨[5,6,7,8,79],[],[(6,3)],[8],[]⟩),(18,⟨[5,6,7,8,96],[],[(5,18),(6,3)],[8],[]⟩),(23,⟨[5,6,8],[],[(6,3)],[8],[]⟩)]
def f68_jn:Nat->Option Ann:=bk [(12,⟨[4,6,7],[],[],[6],[]⟩)]
def f69_ann:Nat->Option Ann:=bk [(6,⟨[2,3,4,5,8,9,10,11],[10],[],[8],[]⟩)]
def f69_jn:Nat->Option Ann:=bk [(9,⟨[2,4,5,8,10],[10],[],[8],[]⟩),(10,⟨[5,8,12],[],[],[8],[(12,3)]⟩)]
def f70_ann:Nat->Option Ann:=bk [(3,⟨[2,3,4,6,7],[],[],[6],[]⟩),(7,⟨[2,3,4,6,8],[],[],[6],[]⟩)]
def f70_jn:Nat->Option Ann:=bk [(9,⟨[2,3,4,6,8],[],[],[6],[]⟩),(13,⟨[2,4,6],[],[],[6],[]⟩)]
def f73_ann:Nat->Option Ann:=bk [(2,⟨[0,5,6,7],[],[],[],[]⟩)]
def f76_ann:Nat->Option Ann:=bk [(6,⟨[4,40,41,42],[],[],[],[]⟩)]
def f79_jn:Nat->Option Ann:=bk [(9,⟨[2,3,4,7,51],[],[],[4],[]⟩),(10,⟨[2,3,4,7],[],[],[4],[]⟩),(14,⟨[2,3,4,6],[],[],[4],[]⟩)]
def f86_jn:Nat->Option Ann:=bk [(12,⟨[0,8,9],[],[],[],[]⟩),(14,⟨[0],[],[],[],[]⟩)]
def f87_ann:Nat->Option Ann:=bk [(2,⟨[1,2,5],[],[],[],[]⟩)]
def f88_ann:Nat->Option Ann:=bk [(2,⟨[0,1,7,8],[],[],[],[]⟩)]
noncomputable def fns:FuncId->Option Func:=fun f=>bif f.beq 4 then some Try.f4 else bif f.beq 6 then some Try.f6 else bif f.beq 7 then some Try.f7 else bif f.beq 8 then some Try.f8 else bif f.beq 9 then some Try.f9 else bif f.beq 10 then some Try.f10 else bif f.beq 12 then some Try.f12 else bif f.beq 13 then some Try.f13 else bif f.beq 15 then some Try.f15 else bif f.beq 16 then some Try.f16 else bif f.beq 17 then some Try.f17 else bif f.beq 18 then some Try.f18 else bif f.beq 19 then some Try.f19 else bif f.beq 20 then some Try.f20 else bif f.beq 21 then some Try.f21 else bif f.beq 22 then some Try.f22 else bif f.beq 23 then some Try.f23 else bif f.beq 24 then some Try.f24 else bif f.beq 25 then some Try.f25 else bif f.beq 26 then some Try.f26 else bif f.beq 27 then some Try.f27 else bif f.beq 28 then some Try.f28 else bif f.beq 29 then some Try.f29 else bif f.beq 32 then some Try.f32 else bif f.beq 33 then some Try.f33 else bif f.beq 34 then some Try.f34 else bif f.beq 35 then some Try.f35 else bif f.beq 36 then some Try.f36 else bif f.beq 37 then some Try.f37 else bif f.beq 38 then some Try.f38 else bif f.beq 39 then some Try.f39 else bif f.beq 40 then some Try.f40 else bif f.beq 41 then some Try.f41 else bif f.beq 42 then some Try.f42 else bif f.beq 43 then some Try.f43 else bif f.beq 44 then some Try.f44 else bif f.beq 45 then some Try.f45 else bif f.beq 46 then some Try.f46 else bif f.beq 47 then some Try.f47 else bif f.beq 49 then some Try.f49 else bif f.beq 50 then some Try.f50 else bif f.beq 51 then some Try.f51 else bif f.beq 52 then some Try.f52 else bif f.beq 53 then some Try.f53 else bif f.beq 54 then some Try.f54 else bif f.beq 55 then some Try.f55 else bif f.beq 56 then some Try.f56 else bif f.beq 57 then some Try.f57 else bif f.beq 58 then some Try.f58 else bif f.beq 59 then some Try.f59 else bif f.beq 60 then some Try.f60 else bif f.beq 61 then some Try.f61 else bif f.beq 62 then some Try.f62 else bif f.beq 63 then some Try.f63 else bif f.beq 64 then some Try.f64 else bif f.beq 65 then some Try.f65 else bif f.beq 66 then some Try.f66 else bif f.beq 67 then some Try.f67 else bif f.beq 68 then some Try.f68 else bif f.beq 69 then some Try.f69 else bif f.beq 70 then some Try.f70 else bif f.beq 71 then some Try.f71 else bif f.beq 72 then some Try.f72 else bif f.beq 73 then some Try.f73 else bif f.beq 74 then some Try.f74 else bif f.beq 75 then some Try.f75 else bif f.beq 76 then some Try.f76 else bif f.beq 77 then some Try.f77 else bif f.beq 78 then some Try.f78 else bif f.beq 79 then some Try.f79 else bif f.beq 80 then some Try.f80 else bif f.beq 81 then some Try.f81 else bif f.beq 82 then some Try.f82 else bif f.beq 83 then some Try.f83 else bif f.beq 84 then some Try.f84 else bif f.beq 85 then some Try.f85 else bif f.beq 86 then some Try.f86 else bif f.beq 87 then some Try.f87 else bif f.beq 88 then some Try.f88 else none
def anns:FuncId->Nat->Option Ann:=fun f=>bif f.beq 4 then f4_ann else bif f.beq 7 then f7_ann else bif f.beq 8 then f8_ann else bif f.beq 9 then f9_ann else bif f.beq 10 then f10_ann else bif f.beq 12 then f12_ann else bif f.beq 13 then f13_ann else bif f.beq 16 then f16_ann else bif f.beq 17 then f17_ann else bif f.beq 24 then f24_ann else bif f.beq 28 then f28_ann else bif f.beq 29 then f29_ann else bif f.beq 32 then f32_ann else bif f.beq 33 then f33_ann else bif f.beq 37 then f37_ann else bif f.beq 40 then f40_ann else bif f.beq 44 then f44_ann else bif f.beq 45 then f45_ann else bif f.beq 49 then f49_ann else bif f.beq 58 then f58_ann else bif f.beq 63 then f63_ann else bif f.beq 64 then f64_ann else bif f.beq 65 then f65_ann else bif f.beq 69 then f69_ann else bif f.beq 70 then f70_ann else bif f.beq 73 then f73_ann else bif f.beq 76 then f76_ann else bif f.beq 87 then f87_ann else bif f.beq 88 then f88_ann else fun _=>none
def jns:FuncId->Nat->Option Ann:=fun f=>bif f.beq 4 then f4_jn else bif f.beq 8 then f8_jn else bif f.beq 9 then f9_jn else bif f.beq 19 then f19_jn else bif f.beq 24 then f24_jn else bif f.beq 34 then f34_jn else bif f.beq 45 then f45_jn else bif f.beq 46 then f46_jn else bif f.beq 47 then f47_jn else bif f.beq 49 then f49_jn else bif f.beq 55 then f55_jn else bif f.beq 67 then f67_jn else bif f.beq 68 then f68_jn else bif f.beq 69 then f69_jn else bif f.beq 70 then f70_jn else bif f.beq 79 then f79_jn else bif f.beq 86 then f86_jn else fun _=>none
def lent:FuncId->Option jq:=Fv []
def selfT (t:TypeId):Bool:=bF t []
def ext:FuncId->Option (List TV->Option TV):=fun f=>none
def opn (f:FuncId):Bool:=bF f [26,33,34,50,51,52,53,63,64]
def mQ:List (Nat × List Nat)->Nat->Option (List Nat)
 | [],_=>none
 | (k,d)::r,t=>bif k.beq t then some d else mQ r t
def f9_kp:Nat->Option (List Nat):=mQ [(12004,[1,2,4,6,7,19,20,21,26,27,28,42,43,44])]
def f18_kp:Nat->Option (List Nat):=mQ [(1001,[])]
def f33_kp:Nat->Option (List Nat):=mQ [(10009,[2,3,5,6,7,18,19,20,30])]
def f35_kp:Nat->Option (List Nat):=mQ [(1003,[])]
def f50_kp:Nat->Option (List Nat):=mQ [(1002,[])]
def f51_kp:Nat->Option (List Nat):=mQ [(1004,[])]
def f52_kp:Nat->Option (List Nat):=mQ [(1002,[])]
def f63_kp:Nat->Option (List Nat):=mQ [(4005,[0,1,5,7,8])]
def f64_kp:Nat->Option (List Nat):=mQ [(4005,[0,1,5,7,8])]
def kps:FuncId->Nat->Option (List Nat):=fun f=>bif f.beq 9 then f9_kp else bif f.beq 18 then f18_kp else bif f.beq 33 then f33_kp else bif f.beq 35 then f35_kp else bif f.beq 50 then f50_kp else bif f.beq 51 then f51_kp else bif f.beq 52 then f52_kp else bif f.beq 63 then f63_kp else bif f.beq 64 then f64_kp else fun _=>none
def peek:FuncId->Option (Nat × Nat):=fun f=>none
def turn (f:FuncId):Bool:=bF f []
def mth:TypeId->String->Option (FuncId × Bool):=fun t s=>none
def eye (f:FuncId):Bool:=bF f []
def cold (t:TypeId):Bool:=bF t []
noncomputable def prog:AProg:=⟨tab,pure,rts,fns,anns,jns,lent,selfT,ext,opn,kps,peek,turn,mth,eye,cold⟩
end Go.Ab.C14
end

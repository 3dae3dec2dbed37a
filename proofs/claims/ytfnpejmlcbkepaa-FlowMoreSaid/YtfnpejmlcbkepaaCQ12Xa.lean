import Derived.Test.YtfnpejmlcbkepaaCM0
import Derived.IntWalk
import Derived.Lib.ItoaNum
import Derived.Test.YtfnpejmlcbkepaaProg
set_option linter.all false
section
namespace Go.Ab
def pE:List Value:=[.int .i64 0]
def dB:List Value:=[.bool false]
def zSl:List Value:=[.slice none 0 0]
def zEnd:List Value:=[.int .i64 0,.int .i64 0,.int .i64 0,.int .i64 0,.slice none 0 0,.int .i64 0,.int .i64 0,.int .i64 0]
end Go.Ab
end
section
namespace Go.Ab
section
variable {R:Type} {C C':FuncId->List TV->Option TV} {J J':List Nat->ASt->Option R}
theorem Prg.cI (hC:∀ f xs v,C f xs=some v->C' f xs=some v) (hJ:∀ p st r,J p st=some r->J' p st=some r):∀ {p:Prg R} {r:R},p.run C J=some r->p.run C' J'=some r
 | .fail,r,h=>by simp [Prg.run] at h
 | .ret x,r,h=>h
 | .tv p k,r,h=>by
  cases p with
  | none=>simp [Prg.run] at h
  | some v=>exact Prg.cI hC hJ (p:=k v) h
 | .tvs p k,r,h=>by
  cases p with
  | none=>simp [Prg.run] at h
  | some v=>exact Prg.cI hC hJ (p:=k v) h
 | .rws p k,r,h=>by
  cases p with
  | none=>simp [Prg.run] at h
  | some v=>exact Prg.cI hC hJ (p:=k v) h
 | .nat p k,r,h=>by
  cases p with
  | none=>simp [Prg.run] at h
  | some v=>exact Prg.cI hC hJ (p:=k v) h
 | .chk b k,r,h=>by
  cases b with
  | false=>simp [Prg.run] at h
  | true=>exact Prg.cI hC hJ (p:=k) h
 | .ite b t e, r, h => by
  cases b with
  | none=>simp [Prg.run] at h
  | some b =>
   cases b with
   | true=>exact Prg.cI hC hJ (p:=t) h
   | false=>exact Prg.cI hC hJ (p:=e) h
 | .call f xs k, r, h => by
  simp only [Prg.run] at h ⊢
  cases hc:C f xs with
  | none=>rw [hc] at h; simp at h
  | some v =>
   rw [hc] at h
   rw [hC _ _ _ hc]
   exact Prg.cI hC hJ (p:=k v) h
 | .jmp p st,r,h=>hJ _ _ _ h
end
section
variable {A:AProg} {f g:FuncId}
theorem iS {C C':FuncId->List TV->Option TV} (hC:∀ f xs v,C f xs=some v->C' f xs=some v):∀ {m m':Nat},m<=m'->∀ {p:List Nat} {st:ASt} {r:TV},ie A C f m p st=some r->ie A C' f m' p st=some r
 | 0,_,_,_,_,_,h=>by simp [ie] at h
 | m + 1,0,hle,_,_,_,_=>by omega
 | m + 1,m' + 1,hle,p,st,r,h=>by
  simp only [ie] at h ⊢
  exact Prg.cI hC (fun p st r h=>iS hC (by omega) h) h
theorem fy:∀ {n n':Nat},n<=n'->∀ {f:FuncId} {args:List TV} {r:TV},acall A n f args=some r->acall A n' f args=some r
 | 0,_,_,_,_,_,h=>by simp [acall] at h
 | n + 1,0,hle,_,_,_,_=>by omega
 | n + 1, n' + 1, hle, f, args, r, h => by
  simp only [acall] at h ⊢
  have hC:∀ f xs v,acall A n f xs=some v->acall A n' f xs=some v:=fun f xs v h=>fy (by omega) h
  split at h
  ·rename_i g hg
   exact h
  ·exact Prg.cI hC (fun p st r h=>iS hC (by omega) h) h
def dZ (A:AProg) (f:FuncId) (args:List TV) (r:TV):Prop:=∃ n,acall A n f args=some r
def aa (A:AProg) (f:FuncId) (p:Prg TV) (r:TV):Prop:=∃ n,p.run (acall A n) (ie A (acall A n) f n)=some r
variable {r:TV}
theorem aa.up {p:Prg TV} {n n':Nat} (h:p.run (acall A n) (ie A (acall A n) f n)=some r) (hle:n<=n'):p.run (acall A n') (ie A (acall A n') f n')=some r :=
 Prg.cI (fun _ _ _ h=>fy hle h) (fun _ _ _ h=>iS (fun _ _ _ h=>fy hle h) hle h) h
theorem aa.ret:aa A f (.ret r) r:=⟨0,rfl⟩
theorem nr {x:TV}:aa A f (.ret x) r ↔ x=r:=⟨fun ⟨n,h⟩=>by simpa [Prg.run] using h,fun h=>h ▸ aa.ret⟩
theorem Bn {p:Option TV} {k:TV->Prg TV}:aa A f (.tv p k) r ↔ ∃ v,p=some v/\aa A f (k v) r:=by
 constructor
 ·rintro ⟨n,h⟩
  cases p with
  | none=>simp [Prg.run] at h
  | some v=>exact ⟨v,rfl,n,h⟩
 ·rintro ⟨v,rfl,n,h⟩; exact ⟨n,h⟩
theorem AN {p:Option (List TV)} {k:List TV->Prg TV}:aa A f (.tvs p k) r ↔ ∃ v,p=some v/\aa A f (k v) r:=by
 constructor
 ·rintro ⟨n,h⟩
  cases p with
  | none=>simp [Prg.run] at h
  | some v=>exact ⟨v,rfl,n,h⟩
 ·rintro ⟨v,rfl,n,h⟩; exact ⟨n,h⟩
theorem zK {p:Option (List (List TV))} {k:List (List TV)->Prg TV}:aa A f (.rws p k) r ↔ ∃ v,p=some v/\aa A f (k v) r:=by
 constructor
 ·rintro ⟨n,h⟩
  cases p with
  | none=>simp [Prg.run] at h
  | some v=>exact ⟨v,rfl,n,h⟩
 ·rintro ⟨v,rfl,n,h⟩; exact ⟨n,h⟩
theorem Af {p:Option Nat} {k:Nat->Prg TV}:aa A f (.nat p k) r ↔ ∃ v,p=some v/\aa A f (k v) r:=by
 constructor
 ·rintro ⟨n,h⟩
  cases p with
  | none=>simp [Prg.run] at h
  | some v=>exact ⟨v,rfl,n,h⟩
 ·rintro ⟨v,rfl,n,h⟩; exact ⟨n,h⟩
theorem zy {b:Bool} {k:Prg TV}:aa A f (.chk b k) r ↔ b=true/\aa A f k r:=by
 constructor
 ·rintro ⟨n,h⟩
  cases b with
  | false=>simp [Prg.run] at h
  | true=>exact ⟨rfl,n,h⟩
 ·rintro ⟨rfl,n,h⟩; exact ⟨n,h⟩
theorem zI {b:Option Bool} {t e:Prg TV}:aa A f (.ite b t e) r ↔ ∃ v,b=some v/\aa A f (bif v then t else e) r:=by
 constructor
 ·rintro ⟨n,h⟩
  cases b with
  | none=>simp [Prg.run] at h
  | some v=>refine ⟨v,rfl,n,?_⟩; cases v <;> exact h
 ·rintro ⟨v,rfl,n,h⟩; refine ⟨n,?_⟩; cases v <;> exact h
theorem yD {xs:List TV} {k:TV->Prg TV}:aa A f (.call g xs k) r ↔ ∃ v,dZ A g xs v/\aa A f (k v) r:=by
 constructor
 ·rintro ⟨n,h⟩
  simp only [Prg.run] at h
  cases hc:acall A n g xs with
  | none=>rw [hc] at h; simp at h
  | some v=>rw [hc] at h; exact ⟨v,⟨n,hc⟩,n,h⟩
 ·rintro ⟨v,⟨n,hc⟩,m,h⟩
  refine ⟨max n m,?_⟩
  simp only [Prg.run]
  rw [fy (Nat.le_max_left n m) hc]
  exact aa.up h (Nat.le_max_right n m)
theorem zn {p:List Nat} {st:ASt}:aa A f (.jmp p st) r ↔ aa A f (ep A f p st) r:=by
 constructor
 ·rintro ⟨n,h⟩
  cases n with
  | zero=>simp [Prg.run,ie] at h
  | succ n =>
   refine ⟨n + 1,?_⟩
   simp only [Prg.run,ie] at h
   exact Prg.cI (fun _ _ _ h=>h) (fun _ _ _ h=>iS (fun _ _ _ h=>h) (Nat.le_succ n) h) h
 ·rintro ⟨n,h⟩
  refine ⟨n + 1,?_⟩
  simp only [Prg.run,ie]
  exact Prg.cI (fun _ _ _ h=>fy (Nat.le_succ n) h) (fun _ _ _ h=>iS (fun _ _ _ h=>fy (Nat.le_succ n) h) (Nat.le_refl n) h) h
theorem zw {args:List TV} (hx:A.ext f=none):dZ A f args r ↔ aa A f (eE A f args) r:=by
 constructor
 ·rintro ⟨n,h⟩
  cases n with
  | zero=>simp [acall] at h
  | succ n=>simp only [acall,hx] at h; exact ⟨n,h⟩
 ·rintro ⟨n,h⟩; exact ⟨n + 1,by simp only [acall,hx]; exact h⟩
theorem aa.tv {p:Option TV} {k:TV->Prg TV} {v:TV} (h:p=some v) (hk:aa A f (k v) r):aa A f (.tv p k) r:=Bn.2 ⟨v,h,hk⟩
theorem aa.tvs {p:Option (List TV)} {k:List TV->Prg TV} {v:List TV} (h:p=some v) (hk:aa A f (k v) r):aa A f (.tvs p k) r:=AN.2 ⟨v,h,hk⟩
theorem aa.rws {p:Option (List (List TV))} {k:List (List TV)->Prg TV} {v:List (List TV)} (h:p=some v) (hk:aa A f (k v) r):aa A f (.rws p k) r:=zK.2 ⟨v,h,hk⟩
theorem aa.nat {p:Option Nat} {k:Nat->Prg TV} {v:Nat} (h:p=some v) (hk:aa A f (k v) r):aa A f (.nat p k) r:=Af.2 ⟨v,h,hk⟩
theorem aa.chk {b:Bool} {k:Prg TV} (h:b=true) (hk:aa A f k r):aa A f (.chk b k) r:=zy.2 ⟨h,hk⟩
theorem aa.ite {b:Option Bool} {t e:Prg TV} {v:Bool} (h:b=some v) (ht:v=true->aa A f t r) (he:v=false->aa A f e r):aa A f (.ite b t e) r:=by
 refine zI.2 ⟨v,h,?_⟩
 cases v with
 | true=>exact ht rfl
 | false=>exact he rfl
theorem aa.call {xs:List TV} {k:TV->Prg TV} {v:TV} (h:dZ A g xs v) (hk:aa A f (k v) r):aa A f (.call g xs k) r:=yD.2 ⟨v,h,hk⟩
theorem aa.jmp {p:List Nat} {st:ASt} {q:Prg TV} (h:ep A f p st=q) (hk:aa A f q r):aa A f (.jmp p st) r:=zn.2 (h ▸ hk)
theorem dZ.of {args:List TV} {q:Prg TV} (h:eE A f args=q) (hk:aa A f q r) (hx:A.ext f=none:=by rfl):dZ A f args r:=(zw hx).2 (h ▸ hk)
end
end Go.Ab
end
section
namespace Go.Ab
inductive F2 {α β:Type} (R:α->β->Prop):List α->List β->Prop
 | nil:F2 R [] []
 | cons {a b l m}:R a b->F2 R l m->F2 R (a :: l) (b :: m)
section
variable {α β γ:Type} {R S:α->β->Prop}
theorem F2.length {xs:List α} {l:List β} (h:F2 R xs l):xs.length=l.length:=by
 induction h with
 | nil=>rfl
 | cons _ _ ih=>simp [ih]
theorem F2.get {xs:List α} {l:List β} (h:F2 R xs l):∀ {i:Nat} {a:β},l[i]? = some a->∃ e,xs[i]? = some e/\R e a:=by
 induction h with
 | nil=>intro i a h; simp at h
 | cons hr _ ih =>
  intro i a h
  cases i with
  | zero=>simp at h; subst h; exact ⟨_,rfl,hr⟩
  | succ i=>simp at h; simpa using ih h
theorem F2.getL {xs:List α} {l:List β} (h:F2 R xs l):∀ {i:Nat} {e:α},xs[i]? = some e->∃ a,l[i]? = some a/\R e a:=by
 induction h with
 | nil=>intro i a h; simp at h
 | cons hr _ ih =>
  intro i a h
  cases i with
  | zero=>simp at h; subst h; exact ⟨_,rfl,hr⟩
  | succ i=>simp at h; simpa using ih h
theorem F2.mono (hm:∀ e a,R e a->S e a) {xs:List α} {l:List β} (h:F2 R xs l):F2 S xs l:=by
 induction h with
 | nil=>exact .nil
 | cons hr _ ih=>exact .cons (hm _ _ hr) ih
theorem F2.append {xs ys:List α} {l m:List β} (h:F2 R xs l) (h':F2 R ys m):F2 R (xs ++ ys) (l ++ m):=by
 induction h with
 | nil=>exact h'
 | cons hr _ ih=>exact .cons hr ih
theorem F2.take {xs:List α} {l:List β} (h:F2 R xs l):∀ n,F2 R (xs.take n) (l.take n):=by
 induction h with
 | nil=>intro n; simp; exact .nil
 | cons hr _ ih=>intro n; cases n with
  | zero=>exact .nil
  | succ n=>exact .cons hr (ih n)
theorem F2.drop {xs:List α} {l:List β} (h:F2 R xs l):∀ n,F2 R (xs.drop n) (l.drop n):=by
 induction h with
 | nil=>intro n; simp; exact .nil
 | cons hr h ih=>intro n; cases n with
  | zero=>exact .cons hr h
  | succ n=>exact ih n
theorem F2.set {xs:List α} {l:List β} (h:F2 R xs l):∀ {i:Nat} {e:α} {a:β},R e a->F2 R (al xs i e) (l.set i a):=by
 induction h with
 | nil=>intro i e a _; exact .nil
 | cons hr h ih=>intro i e a hea; cases i with
  | zero=>exact .cons hea h
  | succ i=>exact .cons hr (ih hea)
theorem F2.mapL {f:γ->α} {Q:γ->β->Prop} {xs:List γ} {l:List β} (h:F2 Q xs l) (hf:∀ x a,Q x a->R (f x) a):F2 R (xs.map f) l:=by
 induction h with
 | nil=>exact .nil
 | cons hr _ ih=>exact .cons (hf _ _ hr) ih
theorem F2.Bj {xs:List α}:∀ {l:List β},xs.length=l.length->(∀ (i:Nat) e a,xs[i]? = some e->l[i]? = some a->R e a)->F2 R xs l:=by
 induction xs with
 | nil=>intro l h _; cases l with
  | nil=>exact .nil
  | cons _ _=>simp at h
 | cons x xs ih=>intro l h hg; cases l with
  | nil=>simp at h
  | cons a l=>exact .cons (hg 0 x a rfl rfl) (ih (by simpa using h) fun i e b he hb=>hg (i + 1) e b (by simpa using he) (by simpa using hb))
end
abbrev I (n:Int):TV:=.lit (.int .i64 n)
abbrev W (n:Int):TV:=.lit (.int .u16 n)
abbrev B (b:Bool):TV:=.lit (.bool b)
def inI (n:Int):Prop:=-9223372036854775808<=n/\n<=9223372036854775807
def inW (n:Int):Prop:=0<=n/\n<=65535
def RL {α:Type} (q:Option Bool) (s:Nat) (R:List TV->α->Prop) (x:TV) (l:List α):Prop :=
 (x=.lit bD/\l=[])\/∃ o xs,x=.sl o s xs/\(∀ b,q=some b->o=b)/\F2 R xs l/\xs.length<=9223372036854775807
theorem iZ:∀ ys:List (List TV),qb ys=ys.map pG
 | []=>rfl
 | y :: ys=>by simp [qb,iZ ys]
section
variable {α:Type} {q:Option Bool} {s:Nat} {R S:List TV->α->Prop} {x:TV} {l:List α}
theorem RL.nil:RL q s R (.lit bD) []:=.inl ⟨rfl,rfl⟩
theorem RL.sl {o:Bool} {xs:List (List TV)} (hq:∀ b,q=some b->o=b) (h:F2 R xs l) (hb:xs.length<=9223372036854775807):RL q s R (.sl o s xs) l:=.inr ⟨o,xs,rfl,hq,h,hb⟩
theorem RL.bnd (h:RL q s R x l):l.length<=9223372036854775807:=by
 rcases h with ⟨rfl,rfl⟩ | ⟨o,xs,rfl,hq,h,hb⟩
 ·simp
 ·rw [<- h.length]; exact hb
theorem RL.weak (h:RL q s R x l) (hm:∀ e a,R e a->S e a):RL none s S x l:=by
 rcases h with ⟨rfl,rfl⟩ | ⟨o,xs,rfl,hq,h,hb⟩
 ·exact .nil
 ·exact .sl (by simp) (h.mono hm) hb
theorem RL.len {t:TypeId} (h:RL q s R x l):plen (.slice t) x=some (I l.length):=by
 rcases h with ⟨rfl,rfl⟩ | ⟨o,xs,rfl,hq,h,hb⟩
 ·rfl
 ·simp [plen,h.length]
theorem RL.slLen (h:RL q s R x l):Go.Ab.slLen x=some l.length:=by
 rcases h with ⟨rfl,rfl⟩ | ⟨o,xs,rfl,hq,h,hb⟩
 ·rfl
 ·simp [Go.Ab.slLen,h.length]
theorem RL.slSize (h:RL q s R x l):Go.Ab.slSize x s=true:=by
 rcases h with ⟨rfl,rfl⟩ | ⟨o,xs,rfl,hq,h,hb⟩
 ·rfl
 ·simp [Go.Ab.slSize]
theorem RL.isSl (h:RL q s R x l):x.isSl=true:=by
 rcases h with ⟨rfl,rfl⟩ | ⟨o,xs,rfl,hq,h,hb⟩ <;> rfl
theorem RL.idx (h:RL q s R x l) {k:IntKind} {i:Nat} {a:α} (hi:l[i]? = some a):∃ e,pidx s x (.lit (.int k i))=some e/\R e a:=by
 rcases h with ⟨rfl,rfl⟩ | ⟨o,xs,rfl,hq,h,hb⟩
 ·simp at hi
 ·obtain ⟨e,he,hr⟩:=h.get hi
  exact ⟨e,by simp [pidx,he],hr⟩
theorem RL.elems (h:RL q s R x l):∃ xs,pelems s x=some xs/\F2 R xs l:=by
 rcases h with ⟨rfl,rfl⟩ | ⟨o,xs,rfl,hq,h,hb⟩
 ·exact ⟨[],rfl,.nil⟩
 ·exact ⟨xs,by simp [pelems],h⟩
theorem RL.pel (h:RL q s R x l) {i:Nat} {a:α} (hi:l[i]? = some a):∃ e,Go.Ab.pel x i=some e/\R e a:=by
 rcases h with ⟨rfl,rfl⟩ | ⟨o,xs,rfl,hq,h,hb⟩
 ·simp at hi
 ·exact h.get hi
theorem RL.frz (h:RL q s R x l) (hm:∀ e a,R e a->S (pG e) a):RL (some false) s S (frz x) l:=by
 rcases h with ⟨rfl,rfl⟩ | ⟨o,xs,rfl,hq,h,hb⟩
 ·exact .nil
 ·refine .sl (by simp) ?_ ?_
  rotate_left
  ·rw [iZ,List.length_map]; exact hb
  rw [iZ]
  exact h.mapL hm
end
def RI1 (e:List TV) (n:Int):Prop:=e=[I n]/\inI n
def RW1 (e:List TV) (n:Int):Prop:=e=[W n]/\inW n
def RB1 (e:List TV) (b:Bool):Prop:=e=[B b]
abbrev RInts (q:Option Bool):TV->List Int->Prop:=RL q 1 RI1
abbrev RWords (q:Option Bool):TV->List Int->Prop:=RL q 1 RW1
abbrev RBools (q:Option Bool):TV->List Bool->Prop:=RL q 1 RB1
structure DIns where
 op:Int
 dst:Int
 a:Int
 b:Int
 k:Int
 f:Int
 args:List Int
structure DEnd where
 kind:Int
 a:Int
 dst:Int
 f:Int
 args:List Int
 to:Int
 els:Int
 pad:Int
structure DPad where
 dst:Int
 catches:List Int
 all:Bool
 cleanup:Bool
structure DBlock where
 landing:Bool
 pad:DPad
 ins:List DIns
 fin:DEnd
structure DFunc where
 params:Int
 regs:Int
 blocks:List DBlock
structure DMod where
 funcs:List DFunc
def DIns.ok (x:DIns):Prop:=inI x.op/\inI x.dst/\inI x.a/\inI x.b/\inW x.k/\inI x.f
def DEnd.ok (x:DEnd):Prop:=inI x.kind/\inI x.a/\inI x.dst/\inI x.f/\inI x.to/\inI x.els/\inI x.pad
def RIns (q:Option Bool) (e:List TV) (x:DIns):Prop:=∃ g,e=[I x.op,I x.dst,I x.a,I x.b,W x.k,I x.f,g]/\RInts q g x.args/\x.ok
def REnd (q:Option Bool) (e:List TV) (x:DEnd):Prop:=∃ g,e=[I x.kind,I x.a,I x.dst,I x.f,g,I x.to,I x.els,I x.pad]/\RInts q g x.args/\x.ok
def RPad (q:Option Bool) (e:List TV) (x:DPad):Prop:=∃ g,e=[I x.dst,g,B x.all,B x.cleanup]/\RWords q g x.catches/\inI x.dst
def RBlock (q:Option Bool) (e:List TV) (x:DBlock):Prop:=∃ c i g,e=[B x.landing,I x.pad.dst,c,B x.pad.all,B x.pad.cleanup,i,I x.fin.kind,I x.fin.a,I x.fin.dst,I x.fin.f,g,I x.fin.to,I x.fin.els,I x.fin.pad] /\
 RWords q c x.pad.catches/\inI x.pad.dst/\RL q 7 (RIns q) i x.ins/\RInts q g x.fin.args/\x.fin.ok
def RFunc (q:Option Bool) (e:List TV) (x:DFunc):Prop:=∃ b,e=[I x.params,I x.regs,b]/\RL q 14 (RBlock q) b x.blocks/\inI x.params/\inI x.regs
theorem RI1.frz {e:List TV} {n:Int} (h:RI1 e n):RI1 (pG e) n:=by obtain ⟨rfl,h⟩:=h; exact ⟨rfl,h⟩
theorem RW1.frz {e:List TV} {n:Int} (h:RW1 e n):RW1 (pG e) n:=by obtain ⟨rfl,h⟩:=h; exact ⟨rfl,h⟩
theorem RIns.frz {q:Option Bool} {e:List TV} {x:DIns} (h:RIns q e x):RIns (some false) (pG e) x:=by
 obtain ⟨g,rfl,hg,ho⟩:=h
 exact ⟨Go.Ab.frz g,rfl,hg.frz fun _ _ h=>h.frz,ho⟩
theorem RBlock.frz {q:Option Bool} {e:List TV} {x:DBlock} (h:RBlock q e x):RBlock (some false) (pG e) x:=by
 obtain ⟨c,i,g,rfl,hc,hd,hi,hg,ho⟩:=h
 exact ⟨Go.Ab.frz c,Go.Ab.frz i,Go.Ab.frz g,rfl,hc.frz fun _ _ h=>h.frz,hd,hi.frz fun _ _ h=>h.frz,hg.frz fun _ _ h=>h.frz,ho⟩
theorem padd {a b:Int} (h:inI (a + b)):pbin (.int .i64) .add (I a) (I b)=some (I (a + b)):=by
 simp [pbin,qf,IntWalk.i64_in _ h]
theorem psub {a b:Int} (h:inI (a - b)):pbin (.int .i64) .sub (I a) (I b)=some (I (a - b)):=by
 simp [pbin,qf,IntWalk.i64_in _ h]
theorem inc {k n:Nat} (h:k < n) (hn:n<=9223372036854775807):pbin (.int .i64) .add (I (k:Int)) (I (1:Int))=some (I ((k + 1:Nat):Int)):=by
 rw [padd (by constructor <;> omega)]; rfl
open Classical in
noncomputable def tt (p:Prop):Bool:=decide p
theorem t8 {p:Prop}:tt p=true ↔ p:=by simp [tt]
theorem tt_eq {b:Bool} {p:Prop} (h:b=true ↔ p):b=tt p:=by
 cases b with
 | true=>exact (t8.2 (h.1 rfl)).symm
 | false =>
  cases hp:tt p with
  | false=>rfl
  | true=>exact absurd (h.2 (t8.1 hp)) (by simp)
theorem nj {p p':Prop} (h:p ↔ p'):tt p=tt p':=by rw [propext h]
theorem xO {p:Prop} (h:p):tt p=true:=t8.2 h
theorem AE {p:Prop} (h:¬ p):tt p=false:=by
 cases hp:tt p with
 | false=>rfl
 | true=>exact absurd (t8.1 hp) h
section
variable {A:AProg} {f:FuncId}
theorem ret_tt {b:Bool} {p:Prop} (h:b=true ↔ p):aa A f (.ret (B b)) (B (tt p)):=by rw [<- tt_eq h]; exact aa.ret
theorem ret_no {p:Prop} (h:¬ p):aa A f (.ret (B false)) (B (tt p)):=ret_tt (by simp [h])
end
def fJ (k n:Nat) (P:Nat->Prop):Prop:=∀ i,k<=i->i < n->P i
theorem vW {n:Nat} {P:Nat->Prop}:fJ n n P:=fun i h1 h2=>by omega
theorem jU {k n:Nat} {P:Nat->Prop} (h:k < n):fJ k n P ↔ P k/\fJ (k + 1) n P:=by
 constructor
 ·intro ha; exact ⟨ha k (Nat.le_refl k) h,fun i h1 h2=>ha i (by omega) h2⟩
 ·rintro ⟨hp,ha⟩ i h1 h2
  by_cases hi:i=k
  ·subst hi; exact hp
  ·exact ha i (by omega) h2
theorem gJ {n:Nat} {P:Nat->Prop}:fJ 0 n P ↔ ∀ i,i < n->P i:=⟨fun h i hi=>h i (Nat.zero_le i) hi,fun h i _ hi=>h i hi⟩
theorem vY {α:Type} {l m:List α} (h:l.length=m.length):l=m ↔ fJ 0 l.length fun i=>l[i]? = m[i]? := by
 rw [gJ]
 constructor
 ·rintro rfl i _; rfl
 ·intro ha
  apply List.ext_getElem? 
  intro i
  by_cases hi:i < l.length
  ·exact ha i hi
  ·rw [CL (by omega),CL (by omega)]
end Go.Ab
namespace Go.Ab
theorem Bz {A:AProg} {f:FuncId} {n:Nat} {P:Nat->Prop} {Q:Prop} {g:Nat->Prg TV} (hend:aa A f (g n) (B (tt Q)))
  (hstep:∀ k,k < n->∀ r,(¬ P k->r=B false)->(P k->aa A f (g (k + 1)) r)->aa A f (g k) r):∀ d k,k + d=n->aa A f (g k) (B (tt (fJ k n P/\Q))):=by
 intro d
 induction d with
 | zero =>
  intro k hk
  have hk:k=n:=by omega
  subst hk
  rw [show tt (fJ k k P/\Q)=tt Q from nj ⟨fun h=>h.2,fun h=>⟨vW,h⟩⟩]
  exact hend
 | succ d ih =>
  intro k hk
  have hlt:k < n:=by omega
  refine hstep k hlt _ (fun hp=>?_) (fun hp=>?_)
  ·rw [AE]
   intro h
   exact hp ((jU hlt).1 h.1).1
  ·rw [show tt (fJ k n P/\Q)=tt (fJ (k + 1) n P/\Q) from nj ⟨fun h=>⟨((jU hlt).1 h.1).2,h.2⟩,fun h=>⟨(jU hlt).2 ⟨hp,h.1⟩,h.2⟩⟩]
   exact ih (k + 1) (by omega)
theorem Ba {A:AProg} {f:FuncId} {n:Nat} {P:Nat->Prop} {g:Nat->Prg TV} (hend:aa A f (g n) (B true))
  (hstep:∀ k,k < n->∀ r,(¬ P k->r=B false)->(P k->aa A f (g (k + 1)) r)->aa A f (g k) r):aa A f (g 0) (B (tt (∀ i,i < n->P i))):=by
 have:=Bz (Q:=True) (by rw [xO trivial]; exact hend) hstep n 0 (by omega)
 rw [show tt (∀ i,i < n->P i)=tt (fJ 0 n P/\True) from nj ⟨fun h=>⟨gJ.2 h,trivial⟩,fun h=>gJ.1 h.1⟩]
 exact this
theorem mr {k n:Nat} (h:k < n):asBool (.lit (.bool (decide ((k:Int) < (n:Int)))))=some true:=by simp [asBool,h]
theorem lv {n:Nat}:asBool (.lit (.bool (decide ((n:Int) < (n:Int)))))=some false:=by simp [asBool]
theorem ud {α:Type} {l m:List α} (h:l.length=m.length):l=m ↔ ∀ i,i < l.length->l[i]? = m[i]? := by
 rw [vY h,gJ]
end Go.Ab
namespace Go.Ab
theorem nW:∀ {zs:List Value} {e:List TV} {j:Nat},ak zs e j=true->dP zs e j=true
 | [],_,_,_=>rfl
 | z :: zs, e, j, h => by
  unfold ak at h
  unfold dP
  split at h
  ·rename_i c hc
   rw [CB] at h
   rw [CB]
   refine ⟨?_,nW h.2⟩
   have h1:=h.1
   cases hz:aR z with
   | true=>rw [hz] at h1; simp only [cond_true] at h1 ⊢; rw [h1]; rfl
   | false=>rw [hz] at h1; exact h1
  ·cases h
end Go.Ab
end
section
namespace Go.Ab
def Cu:List (Nat × eQ)->Nat->Option eQ
 | [],_=>none
 | (k,d) :: r,t=>bif k.beq t then some d else Cu r t
end Go.Ab
end
section
namespace Go.Ab.Q12
open Go.Ab Go.Proofs
def Jk:AV:=AV.one CA.junk
def Sr (i:Nat):AV:=AV.one (CA.sref i 0 [])
def Pt (i:Nat):AV:=AV.one (CA.ptr i 0)
def Tr (w:TV):Option BC:=some (BC.tree [w])
def Ct (y:TV):Option BC:=some (BC.cells [CA.t y])
def Rj (n:Nat):List AV:=List.replicate n (AV.one CA.junk)
def Rz (n:Nat):List (Option BC):=List.replicate n none
def ii:List (Nat × Ann)->Nat->Option Ann
 | [],_=>none
 | (k,d) :: r,t=>bif k.beq t then some d else ii r t
def z2:List Value:=[.int .i64 0]
def z3:List Value:=[.int .i64 0]
def z4:List Value:=[.bool false]
def z5:List Value:=[.int .u8 0]
def z6:List Value:=[.int .u8 0]
def z7:List Value:=[.int .i64 0,.int .i64 0,.bool false,.int .u8 0]
def z8:List Value:=[.int .i64 0,.int .i64 0,.bool false,.int .u8 0]
def z9:List Value:=[.string ⟨#[]⟩]
def z10:List Value:=[.string ⟨#[]⟩]
def z11:List Value:=[.string ⟨#[]⟩]
def z12:List Value:=[.int .u64 0]
def z13:List Value:=[.string ⟨#[]⟩,.int .u64 0]
def z14:List Value:=[.string ⟨#[]⟩,.int .u64 0]
def z15:List Value:=[.pointer none]
def z16:List Value:=[.pointer none]
def z17:List Value:=[.pointer none]
def z18:List Value:=[.pointer none]
def z19:List Value:=[.pointer none]
def z20:List Value:=[.nilIface]
def z21:List Value:=[.int .i32 0]
def z22:List Value:=[.slice none 0 0]
def z23:List Value:=[.int .i64 0,.int .i64 0,.slice none 0 0]
def z24:List Value:=[.int .i64 0,.int .i64 0,.slice none 0 0]
def z25:List Value:=[.nilFunc]
def z26:List Value:=[.nilFunc]
def z27:List Value:=[.slice none 0 0]
def z28:List Value:=[.nilFunc]
def z29:List Value:=[.nilFunc]
def z30:List Value:=[.slice none 0 0]
def z31:List Value:=[.nilFunc]
def z32:List Value:=[.nilFunc]
def z33:List Value:=[.nilFunc]
def z34:List Value:=[.nilFunc]
def z35:List Value:=[.nilFunc]
def z36:List Value:=[.slice none 0 0]
def z37:List Value:=[.slice none 0 0]
def z38:List Value:=[.slice none 0 0]
def z39:List Value:=[.slice none 0 0]
def z40:List Value:=[.nilFunc]
def z41:List Value:=[.slice none 0 0]
def z42:List Value:=[.int .u16 0]
def z43:List Value:=[.int .u16 0,.int .u16 0,.int .u16 0,.int .u16 0,.int .u16 0,.int .u16 0,.int .u16 0,.int .u16 0,.int .u16 0,.int .u16 0,.int .u16 0,.int .u16 0,.int .u16 0,.int .u16 0,.int .u16 0,.int .u16 0]
def z44:List Value:=[.slice none 0 0,.int .u16 0,.int .u16 0,.int .u16 0,.int .u16 0,.int .u16 0,.int .u16 0,.int .u16 0,.int .u16 0,.int .u16 0,.int .u16 0,.int .u16 0,.int .u16 0,.int .u16 0,.int .u16 0,.int .u16 0,.int .u16 0,.slice none 0 0,.slice none 0 0,.int .i64 0,.int .u16 0]
def z45:List Value:=[.slice none 0 0,.int .u16 0,.int .u16 0,.int .u16 0,.int .u16 0,.int .u16 0,.int .u16 0,.int .u16 0,.int .u16 0,.int .u16 0,.int .u16 0,.int .u16 0,.int .u16 0,.int .u16 0,.int .u16 0,.int .u16 0,.int .u16 0,.slice none 0 0,.slice none 0 0,.int .i64 0,.int .u16 0]
def z46:List Value:=[.int .i64 0]
def z48:List Value:=[.nilFunc]
def z49:List Value:=[.nilFunc]
def z50:List Value:=[.int .i64 0,.int .i64 0,.int .i64 0,.slice none 0 0,.int .u16 0]
def z51:List Value:=[.int .i64 0,.int .i64 0,.int .i64 0,.slice none 0 0,.int .u16 0]
def z52:List Value:=[.nilFunc]
def z53:List Value:=[.int .i64 0,.int .i64 0,.int .i64 0,.int .i64 0,.slice none 0 0,.int .i64 0,.int .i64 0,.int .i64 0]
def z54:List Value:=[.int .i64 0,.int .i64 0,.int .i64 0,.int .i64 0,.slice none 0 0,.int .i64 0,.int .i64 0,.int .i64 0]
def z55:List Value:=[.int .i64 0,.slice none 0 0,.bool false,.bool false]
def z56:List Value:=[.int .i64 0,.slice none 0 0,.bool false,.bool false]
def z57:List Value:=[.slice none 0 0]
def z58:List Value:=[.bool false,.int .i64 0,.slice none 0 0,.bool false,.bool false,.slice none 0 0,.int .i64 0,.int .i64 0,.int .i64 0,.int .i64 0,.slice none 0 0,.int .i64 0,.int .i64 0,.int .i64 0]
def z59:List Value:=[.bool false,.int .i64 0,.slice none 0 0,.bool false,.bool false,.slice none 0 0,.int .i64 0,.int .i64 0,.int .i64 0,.int .i64 0,.slice none 0 0,.int .i64 0,.int .i64 0,.int .i64 0]
def z60:List Value:=[.nilFunc]
def z61:List Value:=[.nilFunc]
def z62:List Value:=[.slice none 0 0]
def z63:List Value:=[.nilFunc]
def z64:List Value:=[.slice none 0 0]
def z65:List Value:=[.nilFunc]
def z66:List Value:=[.int .i64 0,.slice none 0 0]
def z67:List Value:=[.int .i64 0,.slice none 0 0]
def z68:List Value:=[.nilFunc]
def z69:List Value:=[.nilFunc]
def z70:List Value:=[.nilFunc]
def z71:List Value:=[.nilFunc]
def z72:List Value:=[.nilFunc]
def z73:List Value:=[.nilFunc]
def z74:List Value:=[.nilFunc]
def z75:List Value:=[.nilFunc]
def z76:List Value:=[.nilFunc]
def z77:List Value:=[.nilFunc]
def z78:List Value:=[.nilFunc]
def z79:List Value:=[.slice none 0 0,.int .u16 0,.int .u16 0,.int .u16 0,.int .u16 0,.int .u16 0,.int .u16 0,.int .u16 0,.int .u16 0,.int .u16 0,.int .u16 0,.int .u16 0,.int .u16 0,.int .u16 0,.int .u16 0,.int .u16 0,.int .u16 0,.slice none 0 0,.slice none 0 0,.int .i64 0,.int .u16 0,.slice none 0 0]
def z80:List Value:=[.slice none 0 0,.int .u16 0,.int .u16 0,.int .u16 0,.int .u16 0,.int .u16 0,.int .u16 0,.int .u16 0,.int .u16 0,.int .u16 0,.int .u16 0,.int .u16 0,.int .u16 0,.int .u16 0,.int .u16 0,.int .u16 0,.int .u16 0,.slice none 0 0,.slice none 0 0,.int .i64 0,.int .u16 0,.slice none 0 0]
def z81:List Value:=[.nilFunc]
def z82:List Value:=[.nilFunc]
def z83:List Value:=[.slice none 0 0]
def z84:List Value:=[.slice none 0 0,.slice none 0 0,.slice none 0 0]
def z85:List Value:=[.slice none 0 0,.slice none 0 0,.slice none 0 0]
def z86:List Value:=[.nilFunc]
def z87:List Value:=[.slice none 0 0]
def z88:List Value:=[.nilFunc]
def z89:List Value:=[.slice none 0 0,.slice none 0 0]
def z90:List Value:=[.slice none 0 0,.slice none 0 0]
def z91:List Value:=[.slice none 0 0,.slice none 0 0,.slice none 0 0,.slice none 0 0,.slice none 0 0,.slice none 0 0]
def z92:List Value:=[.slice none 0 0,.slice none 0 0,.slice none 0 0,.slice none 0 0,.slice none 0 0,.slice none 0 0]
def z93:List Value:=[.nilFunc]
def z94:List Value:=[.nilFunc]
def z95:List Value:=[.nilFunc]
def z96:List Value:=[.nilFunc]
def z97:List Value:=[.nilFunc]
def z98:List Value:=[.int .i64 0]
def z99:List Value:=[.nilFunc]
def z100:List Value:=[.nilFunc]
def z101:List Value:=[.nilFunc]
def z102:List Value:=[.nilFunc]
def z103:List Value:=[.slice none 0 0]
def z104:List Value:=[.nilFunc,.slice none 0 0,.slice none 0 0,.slice none 0 0]
def z105:List Value:=[.nilFunc,.slice none 0 0,.slice none 0 0,.slice none 0 0]
def z106:List Value:=[.nilFunc]
def z107:List Value:=[.int .i64 0,.int .i64 0,.int .i64 0,.int .i64 0,.int .u16 0,.int .i64 0,.slice none 0 0]
def z108:List Value:=[.int .i64 0,.int .i64 0,.int .i64 0,.int .i64 0,.int .u16 0,.int .i64 0,.slice none 0 0]
def z110:List Value:=[.nilFunc]
def z111:List Value:=[.nilFunc]
def z112:List Value:=[.pointer none]
def z113:List Value:=[.pointer none]
def z114:List Value:=[.nilFunc]
def z115:List Value:=[.nilFunc]
def z116:List Value:=[.nilFunc]
def z117:List Value:=[.nilFunc]
def z118:List Value:=[.nilFunc]
def z119:List Value:=[.nilFunc]
def z120:List Value:=[.nilFunc]
def z121:List Value:=[.nilFunc]
def z122:List Value:=[.nilFunc]
def z123:List Value:=[.nilFunc]
def z124:List Value:=[.pointer none]
def z125:List Value:=[.int .i64 0,.slice none 0 0]
def z126:List Value:=[.int .i64 0,.slice none 0 0]
def z127:List Value:=[.pointer none]
def z128:List Value:=[.nilFunc]
def z129:List Value:=[.nilFunc]
def z130:List Value:=[.nilFunc]
def z131:List Value:=[.nilFunc]
def z132:List Value:=[.nilFunc]
def z133:List Value:=[.nilFunc]
def z134:List Value:=[.nilFunc]
def z135:List Value:=[.pointer none]
def z136:List Value:=[.nilFunc]
def z137:List Value:=[.nilFunc]
def z139:List Value:=[.nilFunc]
def z140:List Value:=[.nilFunc]
def z141:List Value:=[.nilFunc]
def z143:List Value:=[.nilFunc]
def z144:List Value:=[.nilFunc]
def z145:List Value:=[.nilFunc]
def z146:List Value:=[.slice none 0 0,.int .i64 0,.int .i64 0,.slice none 0 0]
def z147:List Value:=[.slice none 0 0,.int .i64 0,.int .i64 0,.slice none 0 0]
def z148:List Value:=[.nilFunc]
def z150:List Value:=[.nilFunc]
def z151:List Value:=[.nilFunc]
def z152:List Value:=[.nilFunc]
def z153:List Value:=[.nilFunc]
def z154:List Value:=[.nilFunc]
def z155:List Value:=[.nilFunc]
def z156:List Value:=[.nilFunc]
def z157:List Value:=[.nilFunc]
def z158:List Value:=[.nilFunc]
def z159:List Value:=[.nilFunc]
def z160:List Value:=[.nilFunc]
def z161:List Value:=[.nilFunc]
def z162:List Value:=[.nilFunc]
def z163:List Value:=[.nilFunc]
def z164:List Value:=[.pointer none,.pointer none,.pointer none,.string ⟨#[]⟩]
def z165:List Value:=[.pointer none,.pointer none,.pointer none,.string ⟨#[]⟩]
def z166:List Value:=[]
def z167:List Value:=[]
def z168:List Value:=[]
def z169:List Value:=[.nilFunc]
def z170:List Value:=[.int .u32 0]
def z171:List Value:=[.int .u8 0]
def z172:List Value:=[.int .u8 0]
def z173:List Value:=[.nilFunc]
def z174:List Value:=[.pointer none]
def z175:List Value:=[.int .i32 0]
def z176:List Value:=[.int .i32 0]
def z177:List Value:=[.int .u64 0,.int .u64 0,.int .u32 0,.int .u8 0,.int .u8 0,.int .u8 0,.int .u8 0,.nilFunc,.pointer none,.int .i32 0,.int .i32 0]
def z178:List Value:=[.int .u64 0,.int .u64 0,.int .u32 0,.int .u8 0,.int .u8 0,.int .u8 0,.int .u8 0,.nilFunc,.pointer none,.int .i32 0,.int .i32 0]
def tab:Tab:=ri [
 (2,⟨1,8,.int .i64,z2,[]⟩),
 (3,⟨1,8,.int .i64,z3,[]⟩),
 (4,⟨1,1,.bool,z4,[]⟩),
 (5,⟨1,1,.int .u8,z5,[]⟩),
 (6,⟨1,1,.int .u8,z6,[]⟩),
 (7,⟨4,24,.struct,z7,[(0,2),(1,3),(2,4),(3,6)]⟩),
 (8,⟨4,24,.struct,z8,[(0,2),(1,3),(2,4),(3,6)]⟩),
 (9,⟨1,16,.str,z9,[]⟩),
 (10,⟨1,16,.str,z10,[]⟩),
 (11,⟨1,16,.str,z11,[]⟩),
 (12,⟨1,8,.int .u64,z12,[]⟩),
 (13,⟨2,24,.struct,z13,[(0,9),(1,12)]⟩),
 (14,⟨2,24,.struct,z14,[(0,9),(1,12)]⟩),
 (15,⟨1,8,.ptr,z15,[]⟩),
 (16,⟨1,8,.ptr,z16,[]⟩),
 (17,⟨1,8,.ptr,z17,[]⟩),
 (18,⟨1,8,.struct,z18,[(0,17)]⟩),
 (19,⟨1,8,.struct,z19,[(0,17)]⟩),
 (20,⟨1,16,.other,z20,[]⟩),
 (21,⟨1,4,.int .i32,z21,[]⟩),
 (22,⟨1,24,.slice 59,z22,[]⟩),
 (23,⟨3,40,.struct,z23,[(0,3),(1,3),(2,22)]⟩),
 (24,⟨3,40,.struct,z24,[(0,3),(1,3),(2,22)]⟩),
 (25,⟨1,8,.other,z25,[]⟩),
 (26,⟨1,8,.other,z26,[]⟩),
 (27,⟨1,24,.slice 3,z27,[]⟩),
 (28,⟨1,8,.other,z28,[]⟩),
 (29,⟨1,8,.other,z29,[]⟩),
 (30,⟨1,24,.slice 4,z30,[]⟩),
 (31,⟨1,8,.other,z31,[]⟩),
 (32,⟨1,8,.other,z32,[]⟩),
 (33,⟨1,8,.other,z33,[]⟩),
 (34,⟨1,8,.other,z34,[]⟩),
 (35,⟨1,8,.other,z35,[]⟩),
 (36,⟨1,24,.slice 24,z36,[]⟩),
 (37,⟨1,24,.struct,z37,[(0,36)]⟩),
 (38,⟨1,24,.struct,z38,[(0,36)]⟩),
 (39,⟨1,24,.slice 42,z39,[]⟩),
 (40,⟨1,8,.other,z40,[]⟩),
 (41,⟨1,24,.slice 51,z41,[]⟩),
 (42,⟨1,2,.int .u16,z42,[]⟩),
 (43,⟨16,32,.arr 16 42,z43,[]⟩),
 (44,⟨21,120,.struct,z44,[(0,41),(1,43),(17,39),(18,27),(19,3),(20,42)]⟩),
 (45,⟨21,120,.struct,z45,[(0,41),(1,43),(17,39),(18,27),(19,3),(20,42)]⟩),
 (46,⟨1,8,.int .i64,z46,[]⟩),
 (48,⟨1,8,.other,z48,[]⟩),
 (49,⟨1,8,.other,z49,[]⟩),
 (50,⟨5,56,.struct,z50,[(0,3),(1,3),(2,3),(3,39),(4,42)]⟩),
 (51,⟨5,56,.struct,z51,[(0,3),(1,3),(2,3),(3,39),(4,42)]⟩),
 (52,⟨1,8,.other,z52,[]⟩),
 (53,⟨8,80,.struct,z53,[(0,3),(1,3),(2,3),(3,3),(4,27),(5,3),(6,3),(7,3)]⟩),
 (54,⟨8,80,.struct,z54,[(0,3),(1,3),(2,3),(3,3),(4,27),(5,3),(6,3),(7,3)]⟩),
 (55,⟨4,40,.struct,z55,[(0,3),(1,39),(2,4),(3,4)]⟩),
 (56,⟨4,40,.struct,z56,[(0,3),(1,39),(2,4),(3,4)]⟩),
 (57,⟨1,24,.slice 108,z57,[]⟩),
 (58,⟨14,152,.struct,z58,[(0,4),(1,56),(5,57),(6,54)]⟩),
 (59,⟨14,152,.struct,z59,[(0,4),(1,56),(5,57),(6,54)]⟩),
 (60,⟨1,8,.other,z60,[]⟩),
 (61,⟨1,8,.other,z61,[]⟩),
 (62,⟨1,24,.slice 5,z62,[]⟩),
 (63,⟨1,8,.other,z63,[]⟩),
 (64,⟨1,24,.slice 67,z64,[]⟩),
 (65,⟨1,8,.other,z65,[]⟩),
 (66,⟨2,32,.struct,z66,[(0,3),(1,27)]⟩),
 (67,⟨2,32,.struct,z67,[(0,3),(1,27)]⟩),
 (68,⟨1,8,.other,z68,[]⟩),
 (69,⟨1,8,.other,z69,[]⟩),
 (70,⟨1,8,.other,z70,[]⟩),
 (71,⟨1,8,.other,z71,[]⟩),
 (72,⟨1,8,.other,z72,[]⟩),
 (73,⟨1,8,.other,z73,[]⟩),
 (74,⟨1,8,.other,z74,[]⟩),
 (75,⟨1,8,.other,z75,[]⟩),
 (76,⟨1,8,.other,z76,[]⟩),
 (77,⟨1,8,.other,z77,[]⟩),
 (78,⟨1,8,.other,z78,[]⟩),
 (79,⟨22,144,.struct,z79,[(0,45),(21,38)]⟩),
 (80,⟨22,144,.struct,z80,[(0,45),(21,38)]⟩),
 (81,⟨1,8,.other,z81,[]⟩),
 (82,⟨1,8,.other,z82,[]⟩),
 (83,⟨1,24,.slice 27,z83,[]⟩),
 (84,⟨3,72,.struct,z84,[(0,27),(1,83),(2,27)]⟩),
 (85,⟨3,72,.struct,z85,[(0,27),(1,83),(2,27)]⟩),
 (86,⟨1,8,.other,z86,[]⟩),
 (87,⟨1,24,.slice 30,z87,[]⟩),
 (88,⟨1,8,.other,z88,[]⟩),
 (89,⟨2,48,.struct,z89,[(0,27),(1,27)]⟩),
 (90,⟨2,48,.struct,z90,[(0,27),(1,27)]⟩),
 (91,⟨6,144,.struct,z91,[(0,83),(1,90),(3,30),(4,27),(5,27)]⟩),
 (92,⟨6,144,.struct,z92,[(0,83),(1,90),(3,30),(4,27),(5,27)]⟩),
 (93,⟨1,8,.other,z93,[]⟩),
 (94,⟨1,8,.other,z94,[]⟩),
 (95,⟨1,8,.other,z95,[]⟩),
 (96,⟨1,8,.other,z96,[]⟩),
 (97,⟨1,8,.other,z97,[]⟩),
 (98,⟨1,8,.int .i64,z98,[]⟩),
 (99,⟨1,8,.other,z99,[]⟩),
 (100,⟨1,8,.other,z100,[]⟩),
 (101,⟨1,8,.other,z101,[]⟩),
 (102,⟨1,8,.other,z102,[]⟩),
 (103,⟨1,24,.slice 126,z103,[]⟩),
 (104,⟨4,80,.struct,z104,[(0,75),(1,30),(2,103),(3,27)]⟩),
 (105,⟨4,80,.struct,z105,[(0,75),(1,30),(2,103),(3,27)]⟩),
 (106,⟨1,8,.other,z106,[]⟩),
 (107,⟨7,72,.struct,z107,[(0,3),(1,3),(2,3),(3,3),(4,42),(5,3),(6,27)]⟩),
 (108,⟨7,72,.struct,z108,[(0,3),(1,3),(2,3),(3,3),(4,42),(5,3),(6,27)]⟩),
 (110,⟨1,8,.other,z110,[]⟩),
 (111,⟨1,8,.other,z111,[]⟩),
 (112,⟨1,8,.ptr,z112,[]⟩),
 (113,⟨1,8,.ptr,z113,[]⟩),
 (114,⟨1,8,.other,z114,[]⟩),
 (115,⟨1,8,.other,z115,[]⟩),
 (116,⟨1,8,.other,z116,[]⟩),
 (117,⟨1,8,.other,z117,[]⟩),
 (118,⟨1,8,.other,z118,[]⟩),
 (119,⟨1,8,.other,z119,[]⟩),
 (120,⟨1,8,.other,z120,[]⟩),
 (121,⟨1,8,.other,z121,[]⟩),
 (122,⟨1,8,.other,z122,[]⟩),
 (123,⟨1,8,.other,z123,[]⟩),
 (124,⟨1,8,.ptr,z124,[]⟩),
 (125,⟨2,32,.struct,z125,[(0,3),(1,27)]⟩),
 (126,⟨2,32,.struct,z126,[(0,3),(1,27)]⟩),
 (127,⟨1,8,.ptr,z127,[]⟩),
 (128,⟨1,8,.other,z128,[]⟩),
 (129,⟨1,8,.other,z129,[]⟩),
 (130,⟨1,8,.other,z130,[]⟩),
 (131,⟨1,8,.other,z131,[]⟩),
 (132,⟨1,8,.other,z132,[]⟩),
 (133,⟨1,8,.other,z133,[]⟩),
 (134,⟨1,8,.other,z134,[]⟩),
 (135,⟨1,8,.ptr,z135,[]⟩),
 (136,⟨1,8,.other,z136,[]⟩),
 (137,⟨1,8,.other,z137,[]⟩),
 (139,⟨1,8,.other,z139,[]⟩),
 (140,⟨1,8,.other,z140,[]⟩),
 (141,⟨1,8,.other,z141,[]⟩),
 (143,⟨1,8,.other,z143,[]⟩),
 (144,⟨1,8,.other,z144,[]⟩),
 (145,⟨1,8,.other,z145,[]⟩),
 (146,⟨4,64,.struct,z146,[(0,36),(1,24)]⟩),
 (147,⟨4,64,.struct,z147,[(0,36),(1,24)]⟩),
 (148,⟨1,8,.other,z148,[]⟩),
 (150,⟨1,8,.other,z150,[]⟩),
 (151,⟨1,8,.other,z151,[]⟩),
 (152,⟨1,8,.other,z152,[]⟩),
 (153,⟨1,8,.other,z153,[]⟩),
 (154,⟨1,8,.other,z154,[]⟩),
 (155,⟨1,8,.other,z155,[]⟩),
 (156,⟨1,8,.other,z156,[]⟩),
 (157,⟨1,8,.other,z157,[]⟩),
 (158,⟨1,8,.other,z158,[]⟩),
 (159,⟨1,8,.other,z159,[]⟩),
 (160,⟨1,8,.other,z160,[]⟩),
 (161,⟨1,8,.other,z161,[]⟩),
 (162,⟨1,8,.other,z162,[]⟩),
 (163,⟨1,8,.other,z163,[]⟩),
 (164,⟨4,40,.struct,z164,[(0,17),(1,17),(2,17),(3,9)]⟩),
 (165,⟨4,40,.struct,z165,[(0,17),(1,17),(2,17),(3,9)]⟩),
 (166,⟨0,0,.arr 0 16,z166,[]⟩),
 (167,⟨0,0,.struct,z167,[(0,166)]⟩),
 (168,⟨0,0,.struct,z168,[(0,166)]⟩),
 (169,⟨1,8,.other,z169,[]⟩),
 (170,⟨1,4,.int .u32,z170,[]⟩),
 (171,⟨1,1,.int .u8,z171,[]⟩),
 (172,⟨1,1,.int .u8,z172,[]⟩),
 (173,⟨1,8,.other,z173,[]⟩),
 (174,⟨1,8,.ptr,z174,[]⟩),
 (175,⟨1,4,.int .i32,z175,[]⟩),
 (176,⟨1,4,.int .i32,z176,[]⟩),
 (177,⟨11,48,.struct,z177,[(0,12),(1,12),(2,170),(3,171),(4,5),(5,5),(6,172),(7,173),(8,174),(9,175),(10,176)]⟩),
 (178,⟨11,48,.struct,z178,[(0,12),(1,12),(2,170),(3,171),(4,5),(5,5),(6,172),(7,173),(8,174),(9,175),(10,176)]⟩)]
def pure (f:FuncId):Bool:=br f [93,35,31,74,55,58,19,17,24,89,68,98,100,69,38,59,76,51,28,42,47,48]
def Cj:List (Nat × List Nat)->Nat->List Nat
 | [],_=>[]
 | (k,d) :: r,t=>bif k.beq t then d else Cj r t
def rts:FuncId->List TypeId:=Cj [(6,[4]),(15,[4]),(16,[4]),(17,[27]),(19,[27]),(22,[30]),(24,[27]),(41,[4]),(42,[27]),(43,[27]),(44,[4]),(45,[4]),(47,[27]),(48,[27]),(49,[]),(62,[98]),(63,[4]),(64,[3]),(65,[3]),(66,[]),(67,[]),(80,[])]
def f6_ann:Nat->Option Ann:=ii [(17,⟨[9,12,13,14],[9,12,13],[],[],[]⟩)]
def f6_jn:Nat->Option Ann:=ii [(10,⟨[3,7,8,9,10],[9],[],[],[(10,2)]⟩),(17,⟨[9,12,13,14],[9,12,13],[],[],[]⟩)]
def f16_ann:Nat->Option Ann:=ii [(4,⟨[0,1,5],[],[],[],[]⟩)]
def f17_jn:Nat->Option Ann:=ii [(7,⟨[2,6],[6],[],[],[]⟩)]
def f19_ann:Nat->Option Ann:=ii [(3,⟨[1,2,5,9,10],[5],[],[],[]⟩)]
def f22_ann:Nat->Option Ann:=ii [(3,⟨[3,11,12,13],[3,11],[],[],[]⟩)]
def f42_jn:Nat->Option Ann:=ii [(6,⟨[1,4,18],[4],[],[],[]⟩)]
def f43_ann:Nat->Option Ann:=ii [(5,⟨[0,1,5,6],[],[],[],[]⟩)]
def f43_jn:Nat->Option Ann:=ii [(11,⟨[0,5],[],[],[],[]⟩)]
def f47_ann:Nat->Option Ann:=ii [(3,⟨[7,14,15,16],[],[(7,2),(7,3)],[],[(7,1002)]⟩),(6,⟨[7,14,15,16],[],[(7,2),(7,3)],[],[(7,1002)]⟩)]
def f47_jn:Nat->Option Ann:=ii [(2,⟨[1,7],[],[(7,2),(7,3)],[],[]⟩)]
def f49_ann:Nat->Option Ann:=ii [(1,⟨[0,2,3],[],[],[],[]⟩)]
def f64_ann:Nat->Option Ann:=ii [(2,⟨[0,1,7,8],[],[],[],[]⟩)]
def f65_ann:Nat->Option Ann:=ii [(2,⟨[0,1,7,8],[],[],[],[]⟩)]
noncomputable def fns:FuncId->Option Func:=fun f=>bif f.beq 6 then some Try.f6 else bif f.beq 15 then some Try.f15 else bif f.beq 16 then some Try.f16 else bif f.beq 17 then some Try.f17 else bif f.beq 19 then some Try.f19 else bif f.beq 22 then some Try.f22 else bif f.beq 24 then some Try.f24 else bif f.beq 41 then some Try.f41 else bif f.beq 42 then some Try.f42 else bif f.beq 43 then some Try.f43 else bif f.beq 44 then some Try.f44 else bif f.beq 45 then some Try.f45 else bif f.beq 47 then some Try.f47 else bif f.beq 48 then some Try.f48 else bif f.beq 49 then some Try.f49 else bif f.beq 62 then some Try.f62 else bif f.beq 63 then some Try.f63 else bif f.beq 64 then some Try.f64 else bif f.beq 65 then some Try.f65 else bif f.beq 66 then some Try.f66 else bif f.beq 67 then some Try.f67 else bif f.beq 80 then some Try.f80 else none
def anns:FuncId->Nat->Option Ann:=fun f=>bif f.beq 6 then f6_ann else bif f.beq 16 then f16_ann else bif f.beq 19 then f19_ann else bif f.beq 22 then f22_ann else bif f.beq 43 then f43_ann else bif f.beq 47 then f47_ann else bif f.beq 49 then f49_ann else bif f.beq 64 then f64_ann else bif f.beq 65 then f65_ann else fun _=>none
def jns:FuncId->Nat->Option Ann:=fun f=>bif f.beq 6 then f6_jn else bif f.beq 17 then f17_jn else bif f.beq 42 then f42_jn else bif f.beq 43 then f43_jn else bif f.beq 47 then f47_jn else fun _=>none
def lent:FuncId->Option eQ:=Cu [(52,⟨80,[.sl,.sc,.sc,.sc,.sc,.sc,.sc,.sc,.sc,.sc,.sc,.sc,.sc,.sc,.sc,.sc,.sc,.sl,.sl,.sc,.sc,.sl]⟩)]
def selfT (t:TypeId):Bool:=br t []
def ext:FuncId->Option (List TV->Option TV):=fun f=>none
def opn (f:FuncId):Bool:=br f [43,44,47,49,56,60,64,66,67,70,72,73,77,78,79,80,83,84,85,86,87,88,90,92,94,96,97,99,101,102,104]
def pC:List (Nat × List Nat)->Nat->Option (List Nat)
 | [],_=>none
 | (k,d) :: r,t=>bif k.beq t then some d else pC r t
def f17_kp:Nat->Option (List Nat):=pC [(7002,[])]
def f24_kp:Nat->Option (List Nat):=pC [(3005,[]),(4001,[3])]
def f43_kp:Nat->Option (List Nat):=pC [(1002,[0,1]),(8002,[0,1,5,6,7])]
def f47_kp:Nat->Option (List Nat):=pC [(5001,[7,14,15,16]),(7000,[7,14,15,16])]
def f64_kp:Nat->Option (List Nat):=pC [(4005,[0,1,5,7,8])]
def f66_kp:Nat->Option (List Nat):=pC [(2011,[18,21,22,23])]
def f67_kp:Nat->Option (List Nat):=pC [(2001,[]),(5002,[])]
def kps:FuncId->Nat->Option (List Nat):=fun f=>bif f.beq 17 then f17_kp else bif f.beq 24 then f24_kp else bif f.beq 43 then f43_kp else bif f.beq 47 then f47_kp else bif f.beq 64 then f64_kp else bif f.beq 66 then f66_kp else bif f.beq 67 then f67_kp else fun _=>none
def peek:FuncId->Option (Nat × Nat):=fun f=>bif f.beq 71 then some (21,22) else none
def turn (f:FuncId):Bool:=br f []
def mth:TypeId->String->Option (FuncId × Bool):=fun t s=>none
def eye (f:FuncId):Bool:=br f [48]
def cold (t:TypeId):Bool:=br t []
noncomputable def prog:AProg:=⟨tab,pure,rts,fns,anns,jns,lent,selfT,ext,opn,kps,peek,turn,mth,eye,cold⟩
end Go.Ab.Q12
end
section
set_option maxRecDepth 100000
namespace Go.Ab.Q12
open Go Go.Ab Go.Proofs
open Go.Ab.TV (hole cell comp isSl isSc isTup cellsL tup agg)
open Go.Ab.Prg (tv tvs rws nat chk call jmp ret)
def f6_0_S  (x0 x1 y2 y3 y4 w5 y6 y7 y8:TV):ASt:=⟨[Jk,Jk,Jk,Pt 0,Jk,Jk,Jk,AV.tv x0,AV.tv x1,Sr 1,Pt 2] ++ Rj 132,[some (BC.cells [CA.t y2,CA.t y3,CA.t y4]),Tr w5,some (BC.cells [CA.t y6,CA.t y7,CA.t y8])] ++ Rz 164,[]⟩
def f6_1_S  (x0 w1 w2 w3:TV):ASt:=⟨Rj 9 ++ [Sr 0,Jk,Jk,Sr 1,Sr 2,AV.tv x0] ++ Rj 128,[Tr w1,Tr w2,Tr w3] ++ Rz 164,[]⟩
def f6_2_S  (x0 w1 w2 w3:TV):ASt:=⟨Rj 9 ++ [Sr 0,Jk,Jk,Sr 1,Sr 2,AV.tv x0] ++ Rj 128,[Tr w1,Tr w2,Tr w3] ++ Rz 164,[]⟩
def f6_M (x0 x1 x2:TV):Prg TV :=
 chk (TV.isAgg x0 3) (
 call 15 [] fun v0 =>
 chk (ak dB [v0] 0) (
 tv (pun .not v0) fun v1 =>
 Prg.ite (asBool v1) (
 ret (B false)) (
 tv (plen (.slice 59) (cell x0 2)) fun v2 =>
 tv (pbin (.int .i64) .gtr v2 (I 70)) fun v3 =>
 Prg.ite (asBool v3) (
 ret (B true)) (
 tv (plen (.slice 59) (cell x0 2)) fun v4 =>
 tv (pbin (.int .i64) .eql v4 (I 0)) fun v5 =>
 Prg.ite (asBool v5) (
 ret (B true)) (
 tv (pconv (.int .i64) x1) fun v6 =>
 tv (plen (.slice 59) (cell x0 2)) fun v7 =>
 tv (pbin (.int .i64) .rem v6 v7) fun v8 =>
 tv (pconv (.int .i64) x2) fun v9 =>
 tv (plen (.slice 59) (cell x0 2)) fun v10 =>
 tv (pbin (.int .i64) .rem v9 v10) fun v11 =>
 call 22 [agg [cell x0 0,cell x0 1,cell x0 2]] fun v12 =>
 chk (ak zSl [v12] 0) (
 rws (pelems 14 (cell x0 2)) fun r13 =>
 tv (papp 14 (TV.sl true 14 (chunks 14 0 [])) r13) fun v14 =>
 nat (slLen v14) fun n15 =>
 nat (aB v8) fun n16 =>
 chk (Bool.and (slSize v14 14) (Nat.blt n16 n15)) (
 tvs (pel v14 n16) fun e17 =>
 chk (Bool.and (dP zEnd e17 6) true) (
 tv (lL [] v14 n16 6 [I 1,I 0,I 0,I 0,TV.lit bD,I 0,I 0,I 0]) fun v18 =>
 jmp [1,1,1,1,1,1,1,1] (f6_0_S v8 v11 (cell x0 0) (cell x0 1) (cell x0 2) v12 (cell x0 0) (cell x0 1) (frz v18))))))))))
def f6_0  (x0 x1 y2 y3 y4 w5 y6 y7 y8:TV):Prg TV :=
 rws (pelems 14 y8) fun r19 =>
 tv (papp 14 (TV.sl true 14 (chunks 14 0 [])) r19) fun v20 =>
 chk (TV.io x1) (
 nat (slLen v20) fun n21 =>
 nat (aB x0) fun n22 =>
 chk (Bool.and (slSize v20 14) (Nat.blt n22 n21)) (
 tvs (pel v20 n22) fun e23 =>
 chk (Bool.and (dP zEnd e23 6) (ak zEnd [I 2,I 0,I 0,I 0,TV.lit bD,x1,I 0,I 0] 0)) (
 tv (lL [] v20 n22 6 [I 2,I 0,I 0,I 0,TV.lit bD,x1,I 0,I 0]) fun v24 =>
 call 22 [agg [y6,y7,y8]] fun v25 =>
 chk (ak zSl [v25] 0) (
 call 22 [agg [y2,y3,frz v24]] fun v26 =>
 chk (ak zSl [v26] 0) (
 call 17 [agg [y6,y7,y8],x0] fun v27 =>
 chk (ak zSl [v27] 0) (
 tv (plen (.slice 3) v27) fun v28 =>
 tv (pbin (.int .i64) .neq v28 (I 0)) fun v29 =>
 Prg.ite (asBool v29) (
 ret (B false)) (
 call 17 [agg [y2,y3,frz (frz v24)],x0] fun v30 =>
 chk (ak zSl [v30] 0) (
 chk (TV.io x1) (
 call 16 [frz v30,frz (TV.sl true 1 (chunks 1 1 [x1]))] fun v31 =>
 chk (ak dB [v31] 0) (
 tv (pun .not v31) fun v32 =>
 Prg.ite (asBool v32) (
 ret (B false)) (
 nat (slLen v25) fun n33 =>
 nat (aB x0) fun n34 =>
 chk (Bool.and (slSize v25 1) (Nat.blt n34 n33)) (
 tvs (pel v25 n34) fun e35 =>
 chk (ak dB e35 0) (
 nat (slLen w5) fun n36 =>
 nat (aB x0) fun n37 =>
 chk (Bool.and (slSize w5 1) (Nat.blt n37 n36)) (
 tvs (pel w5 n37) fun e38 =>
 chk (ak dB e38 0) (
 tv (pbin Kd.bool .neq (nth hole e35 0) (nth hole e38 0)) fun v39 =>
 Prg.ite (asBool v39) (
 ret (B false)) (
 nat (slLen v26) fun n40 =>
 nat (aB x0) fun n41 =>
 chk (Bool.and (slSize v26 1) (Nat.blt n41 n40)) (
 tvs (pel v26 n41) fun e42 =>
 chk (ak dB e42 0) (
 nat (slLen w5) fun n43 =>
 nat (aB x0) fun n44 =>
 chk (Bool.and (slSize w5 1) (Nat.blt n44 n43)) (
 tvs (pel w5 n44) fun e45 =>
 chk (ak dB e45 0) (
 tv (pbin Kd.bool .neq (nth hole e42 0) (nth hole e45 0)) fun v46 =>
 Prg.ite (asBool v46) (
 ret (B false)) (
 nat (slLen w5) fun n47 =>
 nat (aB x0) fun n48 =>
 chk (Bool.and (slSize w5 1) (Nat.blt n48 n47)) (
 tvs (pel w5 n48) fun e49 =>
 chk (ak dB e49 0) (
 Prg.ite (asBool (nth hole e49 0)) (
 nat (slLen v26) fun n50 =>
 nat (aB x1) fun n51 =>
 chk (Bool.and (slSize v26 1) (Nat.blt n51 n50)) (
 tvs (pel v26 n51) fun e52 =>
 chk (ak dB e52 0) (
 tv (pun .not (nth hole e52 0)) fun v53 =>
 Prg.ite (asBool v53) (
 ret (B false)) (
 jmp [1,0,1,1,1,1,1,1,1,1,1,1,1,1,1] (f6_1_S (I 0) w5 v25 v26))))) (
 jmp [1,0,1,1,1,1,1,1,1,1,1,1,1,1,1] (f6_1_S (I 0) w5 v25 v26)))))))))))))))))))))))))
def f6_1  (x0 w1 w2 w3:TV):Prg TV :=
 jmp [0,0,1,0,1,1,1,1,1,1,1,1,1,1,1,1,1] (f6_2_S x0 w1 w2 w3)
def f6_2  (x0 w1 w2 w3:TV):Prg TV :=
 tv (plen (.slice 4) w1) fun v54 =>
 tv (pbin (.int .i64) .lss x0 v54) fun v55 =>
 Prg.ite (asBool v55) (
 nat (slLen w2) fun n56 =>
 nat (aB x0) fun n57 =>
 chk (Bool.and (slSize w2 1) (Nat.blt n57 n56)) (
 tvs (pel w2 n57) fun e58 =>
 chk (ak dB e58 0) (
 Prg.ite (asBool (nth hole e58 0)) (
 nat (slLen w1) fun n59 =>
 nat (aB x0) fun n60 =>
 chk (Bool.and (slSize w1 1) (Nat.blt n60 n59)) (
 tvs (pel w1 n60) fun e61 =>
 chk (ak dB e61 0) (
 tv (pun .not (nth hole e61 0)) fun v62 =>
 Prg.ite (asBool v62) (
 ret (B false)) (
 nat (slLen w3) fun n63 =>
 nat (aB x0) fun n64 =>
 chk (Bool.and (slSize w3 1) (Nat.blt n64 n63)) (
 tvs (pel w3 n64) fun e65 =>
 chk (ak dB e65 0) (
 tv (pun .not (nth hole e65 0)) fun v66 =>
 Prg.ite (asBool v66) (
 ret (B false)) (
 tv (pbin (.int .i64) .add x0 (I 1)) fun v67 =>
 jmp [0,0,1,0,1,1,1,1,1,1,1,1,1,1,1,1,1] (f6_2_S v67 w1 w2 w3)))))))) (
 tv (pbin (.int .i64) .add x0 (I 1)) fun v68 =>
 jmp [0,0,1,0,1,1,1,1,1,1,1,1,1,1,1,1,1] (f6_2_S v68 w1 w2 w3))))) (
 ret (B true))
theorem f6_MR (x0 x1 x2:TV):eE prog 6 [x0,x1,x2]=f6_M x0 x1 x2:=by kernel_rfl
theorem f6_0_J  {x0 x1 y2 y3 y4 w5 y6 y7 y8:TV} {r:TV} (h:aa prog 6 (f6_0 x0 x1 y2 y3 y4 w5 y6 y7 y8) r):aa prog 6 (.jmp [1,1,1,1,1,1,1,1] (f6_0_S x0 x1 y2 y3 y4 w5 y6 y7 y8)) r:=aa.jmp (by kernel_rfl) h
theorem f6_1_J  {x0 w1 w2 w3:TV} {r:TV} (h:aa prog 6 (f6_1 x0 w1 w2 w3) r):aa prog 6 (.jmp [1,0,1,1,1,1,1,1,1,1,1,1,1,1,1] (f6_1_S x0 w1 w2 w3)) r:=aa.jmp (by kernel_rfl) h
theorem f6_2_J  {x0 w1 w2 w3:TV} {r:TV} (h:aa prog 6 (f6_2 x0 w1 w2 w3) r):aa prog 6 (.jmp [0,0,1,0,1,1,1,1,1,1,1,1,1,1,1,1,1] (f6_2_S x0 w1 w2 w3)) r:=aa.jmp (by kernel_rfl) h
def f16_0_S  (x0 x1 x2:TV):ASt:=⟨[AV.tv x0,AV.tv x1,Jk,Jk,Jk,AV.tv x2] ++ Rj 20,Rz 50,[]⟩
def f16_M (x0 x1:TV):Prg TV :=
 tv (plen (.slice 3) x0) fun v0 =>
 tv (plen (.slice 3) x1) fun v1 =>
 tv (pbin (.int .i64) .neq v0 v1) fun v2 =>
 Prg.ite (asBool v2) (
 ret (B false)) (
 jmp [0,0,1,0,1,1] (f16_0_S x0 x1 (I 0)))
def f16_0  (x0 x1 x2:TV):Prg TV :=
 tv (plen (.slice 3) x0) fun v3 =>
 tv (pbin (.int .i64) .lss x2 v3) fun v4 =>
 Prg.ite (asBool v4) (
 tvs (pidx 1 x0 x2) fun e5 =>
 chk (Nat.blt 0 (List.length e5)) (
 tvs (pidx 1 x1 x2) fun e6 =>
 chk (Nat.blt 0 (List.length e6)) (
 tv (pbin (.int .i64) .neq (nth hole e5 0) (nth hole e6 0)) fun v7 =>
 Prg.ite (asBool v7) (
 ret (B false)) (
 tv (pbin (.int .i64) .add x2 (I 1)) fun v8 =>
 jmp [0,0,1,0,1,1] (f16_0_S x0 x1 v8))))) (
 ret (B true))
theorem f16_MR (x0 x1:TV):eE prog 16 [x0,x1]=f16_M x0 x1:=by kernel_rfl
theorem f16_0_J  {x0 x1 x2:TV} {r:TV} (h:aa prog 16 (f16_0 x0 x1 x2) r):aa prog 16 (.jmp [0,0,1,0,1,1] (f16_0_S x0 x1 x2)) r:=aa.jmp (by kernel_rfl) h
def f17_0_S  (y0 y1 y2 w3:TV):ASt:=⟨[Jk,Jk,Pt 0,Jk,Jk,Jk,Sr 1] ++ Rj 24,[some (BC.cells [CA.t y0,CA.t y1,CA.t y2]),Tr w3] ++ Rz 53,[]⟩
def f17_1_S  (x0 x1 w2 y3 y4 y5:TV):ASt:=⟨[Sr 0,AV.clo 44 [CA.ptr 1 0]] ++ Rj 5 ++ [AV.tv x0,AV.tv x1] ++ Rj 10,[Tr w2,some (BC.cells [CA.t y3,CA.t y4,CA.t y5])] ++ Rz 114,(Rj 31 ++ [Sr 0,AV.clo 44 [CA.ptr 1 0]] ++ Rj 40)⟩
def f17_2_S  (x0 x1 w2 y3 y4 y5:TV):ASt:=⟨[Sr 0,AV.clo 44 [CA.ptr 1 0],Jk,Jk,Jk,AV.tv x0,AV.tv x1] ++ Rj 35,[Tr w2,some (BC.cells [CA.t y3,CA.t y4,CA.t y5])] ++ Rz 95,Rj 31⟩
def f17_3_S  (x0 w1:TV):ASt:=⟨[Sr 0] ++ Rj 4 ++ [AV.tv x0] ++ Rj 36,[Tr w1] ++ Rz 96,Rj 31⟩
def f17_M (x0 x1:TV):Prg TV :=
 chk (TV.isAgg x0 3) (
 call 41 [agg [cell x0 0,cell x0 1,cell x0 2],x1] fun v0 =>
 chk (ak dB [v0] 0) (
 tv (pun .not v0) fun v1 =>
 Prg.ite (asBool v1) (
 chk true (
 ret (TV.lit bD))) (
 tvs (pidx 14 (cell x0 2) x1) fun e2 =>
 chk (Nat.ble 14 (List.length e2)) (
 call 42 [agg [nth hole e2 0,nth hole e2 1,nth hole e2 2,nth hole e2 3,nth hole e2 4,nth hole e2 5,nth hole e2 6,nth hole e2 7,nth hole e2 8,nth hole e2 9,nth hole e2 10,nth hole e2 11,nth hole e2 12,nth hole e2 13]] fun v3 =>
 chk (ak zSl [v3] 0) (
 tv (pbin (.int .i64) .eql (nth hole e2 6) (I 4)) fun v4 =>
 Prg.ite (asBool v4) (
 rws (pelems 1 (TV.sl true 1 (chunks 1 1 [nth hole e2 13]))) fun r5 =>
 tv (papp 1 v3 (uA r5)) fun v6 =>
 jmp [1,1,1,1,1] (f17_0_S (cell x0 0) (cell x0 1) (cell x0 2) v6)) (
 jmp [1,1,1,1,1] (f17_0_S (cell x0 0) (cell x0 1) (cell x0 2) v3)))))))
def f17_0  (y0 y1 y2 w3:TV):Prg TV :=
 tv (plen (.slice 3) w3) fun v7 =>
 jmp [0,0,1,0,1,6,0,1,6,0,1,1,1,1,1] (f17_1_S v7 (I 0) w3 y0 y1 y2)
def f17_1  (x0 x1 w2 y3 y4 y5:TV):Prg TV :=
 tv (pbin (.int .i64) .lss x1 x0) fun v8 =>
 Prg.ite (asBool v8) (
 nat (slLen w2) fun n9 =>
 nat (aB x1) fun n10 =>
 chk (Bool.and (slSize w2 1) (Nat.blt n10 n9)) (
 tvs (pel w2 n10) fun e11 =>
 chk (ak pE e11 0) (
 call 41 [agg [y3,y4,y5],nth hole e11 0] fun v12 =>
 chk (ak dB [v12] 0) (
 tv (pun .not v12) fun v13 =>
 Prg.ite (asBool v13) (
 tv (pbin (.int .i64) .eql x1 (TV.lit (Value.int IntKind.i64 (-1)))) fun v14 =>
 Prg.ite (asBool v14) (
 chk (cF w2) (
 ret w2)) (
 tv (pbin (.int .i64) .add x1 (I 1)) fun v15 =>
 jmp [0,0,1,0,1,1,1,6,0,1,1,1,1,1] (f17_2_S x1 v15 w2 y3 y4 y5))) (
 tv (pbin (.int .i64) .add x1 (I 1)) fun v16 =>
 jmp [0,0,1,0,1,6,0,1,6,0,1,1,1,1,1] (f17_1_S x0 v16 w2 y3 y4 y5)))))) (
 tv (pbin (.int .i64) .eql (TV.lit (Value.int IntKind.i64 (-1))) (TV.lit (Value.int IntKind.i64 (-1)))) fun v17 =>
 Prg.ite (asBool v17) (
 chk (cF w2) (
 ret w2)) (
 tv (pbin (.int .i64) .add (TV.lit (Value.int IntKind.i64 (-1))) (I 1)) fun v18 =>
 jmp [0,0,1,0,1,1,1,6,0,1,1,1,1,1] (f17_2_S (TV.lit (Value.int IntKind.i64 (-1))) v18 w2 y3 y4 y5)))
def f17_2  (x0 x1 w2 y3 y4 y5:TV):Prg TV :=
 tv (plen (.slice 3) w2) fun v19 =>
 tv (pbin (.int .i64) .lss x1 v19) fun v20 =>
 Prg.ite (asBool v20) (
 nat (slLen w2) fun n21 =>
 nat (aB x1) fun n22 =>
 chk (Bool.and (slSize w2 1) (Nat.blt n22 n21)) (
 tvs (pel w2 n22) fun e23 =>
 chk (ak pE e23 0) (
 call 41 [agg [y3,y4,y5],nth hole e23 0] fun v24 =>
 chk (ak dB [v24] 0) (
 tv (pun .not v24) fun v25 =>
 tv (pun .not v25) fun v26 =>
 Prg.ite (asBool v26) (
 nat (slLen w2) fun n27 =>
 nat (aB x0) fun n28 =>
 chk (Bool.and (slSize w2 1) (Nat.blt n28 n27)) (
 tvs (pel w2 n28) fun e29 =>
 chk (ak pE e29 0) (
 tv (lL [] w2 n28 0 [nth hole e23 0]) fun v30 =>
 tv (pbin (.int .i64) .add x0 (I 1)) fun v31 =>
 tv (pbin (.int .i64) .add x1 (I 1)) fun v32 =>
 jmp [0,0,1,0,1,1,1,6,0,1,1,1,1,1] (f17_2_S v31 v32 v30 y3 y4 y5)))) (
 tv (pbin (.int .i64) .add x1 (I 1)) fun v33 =>
 jmp [0,0,1,0,1,1,1,6,0,1,1,1,1,1] (f17_2_S x0 v33 w2 y3 y4 y5)))))) (
 jmp [1,1,1,1,6,0,1,1,1,1,1] (f17_3_S x0 w2))
def f17_3  (x0 w1:TV):Prg TV :=
 nat (slLen w1) fun n34 =>
 nat (aB x0) fun n35 =>
 chk (Bool.and (Bool.and (slSize w1 1) (Nat.ble (Option.getD (some n35) 0) (Option.getD none n34))) (Nat.ble (Option.getD none n34) n34)) (
 tv (pclear 1 [I 0] (Option.getD (some n35) 0) ((Option.getD none n34) - (Option.getD (some n35) 0)) w1) fun v36 =>
 nat (slLen v36) fun n37 =>
 nat (aB x0) fun n38 =>
 chk (Bool.and (Bool.and (slSize v36 1) (Nat.ble 0 (Option.getD (some n38) n37))) (Nat.ble (Option.getD (some n38) n37) n37)) (
 tv (eV 0 ((Option.getD (some n38) n37) - 0) v36) fun v39 =>
 chk (cF v39) (
 ret v39)))
theorem f17_MR (x0 x1:TV):eE prog 17 [x0,x1]=f17_M x0 x1:=by kernel_rfl
theorem f17_0_J  {y0 y1 y2 w3:TV} {r:TV} (h:aa prog 17 (f17_0 y0 y1 y2 w3) r):aa prog 17 (.jmp [1,1,1,1,1] (f17_0_S y0 y1 y2 w3)) r:=aa.jmp (by kernel_rfl) h
theorem f17_1_J  {x0 x1 w2 y3 y4 y5:TV} {r:TV} (h:aa prog 17 (f17_1 x0 x1 w2 y3 y4 y5) r):aa prog 17 (.jmp [0,0,1,0,1,6,0,1,6,0,1,1,1,1,1] (f17_1_S x0 x1 w2 y3 y4 y5)) r:=aa.jmp (by kernel_rfl) h
theorem f17_2_J  {x0 x1 w2 y3 y4 y5:TV} {r:TV} (h:aa prog 17 (f17_2 x0 x1 w2 y3 y4 y5) r):aa prog 17 (.jmp [0,0,1,0,1,1,1,6,0,1,1,1,1,1] (f17_2_S x0 x1 w2 y3 y4 y5)) r:=aa.jmp (by kernel_rfl) h
theorem f17_3_J  {x0 w1:TV} {r:TV} (h:aa prog 17 (f17_3 x0 w1) r):aa prog 17 (.jmp [1,1,1,1,6,0,1,1,1,1,1] (f17_3_S x0 w1)) r:=aa.jmp (by kernel_rfl) h
end Go.Ab.Q12
end

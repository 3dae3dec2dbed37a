import Derived.Test.YtjdjnejdjhfmcaaIM0
import Derived.IntWalk
import Derived.Lib.ItoaNum
import Derived.Test.YtjdjnejdjhfmcaaProg
set_option linter.all false
section
namespace Go.Ab
def fo:List Value:=[.int .i64 0]
def cU:List Value:=[.int .u16 0]
def au:List Value:=[.bool false]
def zSl:List Value:=[.slice none 0 0]
end Go.Ab
end
section
namespace Go.Ab
section
variable {R:Type} {C C':FuncId→List TV→Option TV} {J J':List Nat→ASt→Option R}
theorem Prg.dm (hC:∀ f xs v,C f xs=some v→C' f xs=some v) (hJ:∀ p st r,J p st=some r→J' p st=some r):∀ {p:Prg R} {r:R},p.run C J=some r→p.run C' J'=some r
 | .fail,r,h=>by simp [Prg.run] at h
 | .ret x,r,h=>h
 | .tv p k,r,h=>by
  cases p with
  | none=>simp [Prg.run] at h
  | some v=>exact Prg.dm hC hJ (p:=k v) h
 | .tvs p k,r,h=>by
  cases p with
  | none=>simp [Prg.run] at h
  | some v=>exact Prg.dm hC hJ (p:=k v) h
 | .rws p k,r,h=>by
  cases p with
  | none=>simp [Prg.run] at h
  | some v=>exact Prg.dm hC hJ (p:=k v) h
 | .nat p k,r,h=>by
  cases p with
  | none=>simp [Prg.run] at h
  | some v=>exact Prg.dm hC hJ (p:=k v) h
 | .chk b k,r,h=>by
  cases b with
  | false=>simp [Prg.run] at h
  | true=>exact Prg.dm hC hJ (p:=k) h
 | .ite b t e, r, h => by
  cases b with
  | none=>simp [Prg.run] at h
  | some b =>
   cases b with
   | true=>exact Prg.dm hC hJ (p:=t) h
   | false=>exact Prg.dm hC hJ (p:=e) h
 | .call f xs k, r, h => by
  simp only [Prg.run] at h ⊢
  cases hc:C f xs with
  | none=>rw [hc] at h; simp at h
  | some v =>
   rw [hc] at h
   rw [hC _ _ _ hc]
   exact Prg.dm hC hJ (p:=k v) h
 | .jmp p st,r,h=>hJ _ _ _ h
end
section
variable {A:AProg} {f g:FuncId}
theorem j3 {C C':FuncId→List TV→Option TV} (hC:∀ f xs v,C f xs=some v→C' f xs=some v):∀ {m m':Nat},m≤m'→∀ {p:List Nat} {st:ASt} {r:TV},iY A C f m p st=some r→iY A C' f m' p st=some r
 | 0,_,_,_,_,_,h=>by simp [iY] at h
 | m + 1,0,hle,_,_,_,_=>by omega
 | m + 1,m' + 1,hle,p,st,r,h=>by
  simp only [iY] at h ⊢
  exact Prg.dm hC (fun p st r h=>j3 hC (by omega) h) h
theorem gh:∀ {n n':Nat},n≤n'→∀ {f:FuncId} {args:List TV} {r:TV},acall A n f args=some r→acall A n' f args=some r
 | 0,_,_,_,_,_,h=>by simp [acall] at h
 | n + 1,0,hle,_,_,_,_=>by omega
 | n + 1, n' + 1, hle, f, args, r, h => by
  simp only [acall] at h ⊢
  have hC:∀ f xs v,acall A n f xs=some v→acall A n' f xs=some v:=fun f xs v h=>gh (by omega) h
  split at h
  ·rename_i g hg
   exact h
  ·exact Prg.dm hC (fun p st r h=>j3 hC (by omega) h) h
def ak (A:AProg) (f:FuncId) (args:List TV) (r:TV):Prop:=∃ n,acall A n f args=some r
def aa (A:AProg) (f:FuncId) (p:Prg TV) (r:TV):Prop:=∃ n,p.run (acall A n) (iY A (acall A n) f n)=some r
variable {r:TV}
theorem aa.up {p:Prg TV} {n n':Nat} (h:p.run (acall A n) (iY A (acall A n) f n)=some r) (hle:n≤n'):p.run (acall A n') (iY A (acall A n') f n')=some r :=
 Prg.dm (fun _ _ _ h=>gh hle h) (fun _ _ _ h=>j3 (fun _ _ _ h=>gh hle h) hle h) h
theorem aa.ret:aa A f (.ret r) r:=⟨0,rfl⟩
theorem d9 {x:TV}:aa A f (.ret x) r ↔ x=r:=⟨fun ⟨n,h⟩=>by simpa [Prg.run] using h,fun h=>h ▸ aa.ret⟩
theorem Ej {p:Option TV} {k:TV→Prg TV}:aa A f (.tv p k) r ↔ ∃ v,p=some v∧aa A f (k v) r:=by
 constructor
 ·rintro ⟨n,h⟩
  cases p with
  | none=>simp [Prg.run] at h
  | some v=>exact ⟨v,rfl,n,h⟩
 ·rintro ⟨v,rfl,n,h⟩; exact ⟨n,h⟩
theorem B8 {p:Option (List TV)} {k:List TV→Prg TV}:aa A f (.tvs p k) r ↔ ∃ v,p=some v∧aa A f (k v) r:=by
 constructor
 ·rintro ⟨n,h⟩
  cases p with
  | none=>simp [Prg.run] at h
  | some v=>exact ⟨v,rfl,n,h⟩
 ·rintro ⟨v,rfl,n,h⟩; exact ⟨n,h⟩
theorem BW {p:Option (List (List TV))} {k:List (List TV)→Prg TV}:aa A f (.rws p k) r ↔ ∃ v,p=some v∧aa A f (k v) r:=by
 constructor
 ·rintro ⟨n,h⟩
  cases p with
  | none=>simp [Prg.run] at h
  | some v=>exact ⟨v,rfl,n,h⟩
 ·rintro ⟨v,rfl,n,h⟩; exact ⟨n,h⟩
theorem C8 {p:Option Nat} {k:Nat→Prg TV}:aa A f (.nat p k) r ↔ ∃ v,p=some v∧aa A f (k v) r:=by
 constructor
 ·rintro ⟨n,h⟩
  cases p with
  | none=>simp [Prg.run] at h
  | some v=>exact ⟨v,rfl,n,h⟩
 ·rintro ⟨v,rfl,n,h⟩; exact ⟨n,h⟩
theorem BO {b:Bool} {k:Prg TV}:aa A f (.chk b k) r ↔ b=true∧aa A f k r:=by
 constructor
 ·rintro ⟨n,h⟩
  cases b with
  | false=>simp [Prg.run] at h
  | true=>exact ⟨rfl,n,h⟩
 ·rintro ⟨rfl,n,h⟩; exact ⟨n,h⟩
theorem Dt {b:Option Bool} {t e:Prg TV}:aa A f (.ite b t e) r ↔ ∃ v,b=some v∧aa A f (bif v then t else e) r:=by
 constructor
 ·rintro ⟨n,h⟩
  cases b with
  | none=>simp [Prg.run] at h
  | some v=>refine ⟨v,rfl,n,?_⟩; cases v <;> exact h
 ·rintro ⟨v,rfl,n,h⟩; refine ⟨n,?_⟩; cases v <;> exact h
theorem Bi {xs:List TV} {k:TV→Prg TV}:aa A f (.call g xs k) r ↔ ∃ v,ak A g xs v∧aa A f (k v) r:=by
 constructor
 ·rintro ⟨n,h⟩
  simp only [Prg.run] at h
  cases hc:acall A n g xs with
  | none=>rw [hc] at h; simp at h
  | some v=>rw [hc] at h; exact ⟨v,⟨n,hc⟩,n,h⟩
 ·rintro ⟨v,⟨n,hc⟩,m,h⟩
  refine ⟨max n m,?_⟩
  simp only [Prg.run]
  rw [gh (Nat.le_max_left n m) hc]
  exact aa.up h (Nat.le_max_right n m)
theorem Cz {p:List Nat} {st:ASt}:aa A f (.jmp p st) r ↔ aa A f (ft A f p st) r:=by
 constructor
 ·rintro ⟨n,h⟩
  cases n with
  | zero=>simp [Prg.run,iY] at h
  | succ n =>
   refine ⟨n + 1,?_⟩
   simp only [Prg.run,iY] at h
   exact Prg.dm (fun _ _ _ h=>h) (fun _ _ _ h=>j3 (fun _ _ _ h=>h) (Nat.le_succ n) h) h
 ·rintro ⟨n,h⟩
  refine ⟨n + 1,?_⟩
  simp only [Prg.run,iY]
  exact Prg.dm (fun _ _ _ h=>gh (Nat.le_succ n) h) (fun _ _ _ h=>j3 (fun _ _ _ h=>gh (Nat.le_succ n) h) (Nat.le_refl n) h) h
theorem CC {args:List TV} (hx:A.ext f=none):ak A f args r ↔ aa A f (aw A f args) r:=by
 constructor
 ·rintro ⟨n,h⟩
  cases n with
  | zero=>simp [acall] at h
  | succ n=>simp only [acall,hx] at h; exact ⟨n,h⟩
 ·rintro ⟨n,h⟩; exact ⟨n + 1,by simp only [acall,hx]; exact h⟩
theorem aa.tv {p:Option TV} {k:TV→Prg TV} {v:TV} (h:p=some v) (hk:aa A f (k v) r):aa A f (.tv p k) r:=Ej.2 ⟨v,h,hk⟩
theorem aa.tvs {p:Option (List TV)} {k:List TV→Prg TV} {v:List TV} (h:p=some v) (hk:aa A f (k v) r):aa A f (.tvs p k) r:=B8.2 ⟨v,h,hk⟩
theorem aa.rws {p:Option (List (List TV))} {k:List (List TV)→Prg TV} {v:List (List TV)} (h:p=some v) (hk:aa A f (k v) r):aa A f (.rws p k) r:=BW.2 ⟨v,h,hk⟩
theorem aa.nat {p:Option Nat} {k:Nat→Prg TV} {v:Nat} (h:p=some v) (hk:aa A f (k v) r):aa A f (.nat p k) r:=C8.2 ⟨v,h,hk⟩
theorem aa.chk {b:Bool} {k:Prg TV} (h:b=true) (hk:aa A f k r):aa A f (.chk b k) r:=BO.2 ⟨h,hk⟩
theorem aa.ite {b:Option Bool} {t e:Prg TV} {v:Bool} (h:b=some v) (ht:v=true→aa A f t r) (he:v=false→aa A f e r):aa A f (.ite b t e) r:=by
 refine Dt.2 ⟨v,h,?_⟩
 cases v with
 | true=>exact ht rfl
 | false=>exact he rfl
theorem aa.call {xs:List TV} {k:TV→Prg TV} {v:TV} (h:ak A g xs v) (hk:aa A f (k v) r):aa A f (.call g xs k) r:=Bi.2 ⟨v,h,hk⟩
theorem aa.jmp {p:List Nat} {st:ASt} {q:Prg TV} (h:ft A f p st=q) (hk:aa A f q r):aa A f (.jmp p st) r:=Cz.2 (h ▸ hk)
theorem ak.of {args:List TV} {q:Prg TV} (h:aw A f args=q) (hk:aa A f q r) (hx:A.ext f=none:=by rfl):ak A f args r:=(CC hx).2 (h ▸ hk)
end
end Go.Ab
end
section
namespace Go.Ab
inductive F2 {α β:Type} (R:α→β→Prop):List α→List β→Prop
 | nil:F2 R [] []
 | cons {a b l m}:R a b→F2 R l m→F2 R (a :: l) (b :: m)
section
variable {α β γ:Type} {R S:α→β→Prop}
theorem F2.length {xs:List α} {l:List β} (h:F2 R xs l):xs.length=l.length:=by
 induction h with
 | nil=>rfl
 | cons _ _ ih=>simp [ih]
theorem F2.get {xs:List α} {l:List β} (h:F2 R xs l):∀ {i:Nat} {a:β},l[i]? = some a→∃ e,xs[i]? = some e∧R e a:=by
 induction h with
 | nil=>intro i a h; simp at h
 | cons hr _ ih =>
  intro i a h
  cases i with
  | zero=>simp at h; subst h; exact ⟨_,rfl,hr⟩
  | succ i=>simp at h; simpa using ih h
theorem F2.getL {xs:List α} {l:List β} (h:F2 R xs l):∀ {i:Nat} {e:α},xs[i]? = some e→∃ a,l[i]? = some a∧R e a:=by
 induction h with
 | nil=>intro i a h; simp at h
 | cons hr _ ih =>
  intro i a h
  cases i with
  | zero=>simp at h; subst h; exact ⟨_,rfl,hr⟩
  | succ i=>simp at h; simpa using ih h
theorem F2.mono (hm:∀ e a,R e a→S e a) {xs:List α} {l:List β} (h:F2 R xs l):F2 S xs l:=by
 induction h with
 | nil=>exact .nil
 | cons hr _ ih=>exact .cons (hm _ _ hr) ih
theorem F2.append {xs ys:List α} {l m:List β} (h:F2 R xs l) (h':F2 R ys m):F2 R (xs ++ ys) (l ++ m):=by
 induction h with
 | nil=>exact h'
 | cons hr _ ih=>exact .cons hr ih
theorem F2.take {xs:List α} {l:List β} (h:F2 R xs l):∀ n,F2 R (xs.take n) (l.take n):=by
 induction h with
 | nil=>intro n; simp; exact .nil
 | cons hr _ ih=>intro n; cases n with
  | zero=>exact .nil
  | succ n=>exact .cons hr (ih n)
theorem F2.drop {xs:List α} {l:List β} (h:F2 R xs l):∀ n,F2 R (xs.drop n) (l.drop n):=by
 induction h with
 | nil=>intro n; simp; exact .nil
 | cons hr h ih=>intro n; cases n with
  | zero=>exact .cons hr h
  | succ n=>exact ih n
theorem F2.set {xs:List α} {l:List β} (h:F2 R xs l):∀ {i:Nat} {e:α} {a:β},R e a→F2 R (ao xs i e) (l.set i a):=by
 induction h with
 | nil=>intro i e a _; exact .nil
 | cons hr h ih=>intro i e a hea; cases i with
  | zero=>exact .cons hea h
  | succ i=>exact .cons hr (ih hea)
theorem F2.mapL {f:γ→α} {Q:γ→β→Prop} {xs:List γ} {l:List β} (h:F2 Q xs l) (hf:∀ x a,Q x a→R (f x) a):F2 R (xs.map f) l:=by
 induction h with
 | nil=>exact .nil
 | cons hr _ ih=>exact .cons (hf _ _ hr) ih
theorem F2.ns {xs:List α}:∀ {l:List β},xs.length=l.length→(∀ (i:Nat) e a,xs[i]? = some e→l[i]? = some a→R e a)→F2 R xs l:=by
 induction xs with
 | nil=>intro l h _; cases l with
  | nil=>exact .nil
  | cons _ _=>simp at h
 | cons x xs ih=>intro l h hg; cases l with
  | nil=>simp at h
  | cons a l=>exact .cons (hg 0 x a rfl rfl) (ih (by simpa using h) fun i e b he hb=>hg (i + 1) e b (by simpa using he) (by simpa using hb))
end
abbrev I (n:Int):TV:=.lit (.int .i64 n)
abbrev W (n:Int):TV:=.lit (.int .u16 n)
abbrev B (b:Bool):TV:=.lit (.bool b)
def inI (n:Int):Prop:=-9223372036854775808≤n∧n≤9223372036854775807
def inW (n:Int):Prop:=0≤n∧n≤65535
def RL {α:Type} (q:Option Bool) (s:Nat) (R:List TV→α→Prop) (x:TV) (l:List α):Prop :=
 (x=.lit aI∧l=[])∨∃ o xs,x=.sl o s xs∧(∀ b,q=some b→o=b)∧F2 R xs l∧xs.length≤9223372036854775807
theorem pC:∀ ys:List (List TV),sF ys=ys.map ms
 | []=>rfl
 | y :: ys=>by simp [sF,pC ys]
section
variable {α:Type} {q:Option Bool} {s:Nat} {R S:List TV→α→Prop} {x:TV} {l:List α}
theorem RL.nil:RL q s R (.lit aI) []:=.inl ⟨rfl,rfl⟩
theorem RL.sl {o:Bool} {xs:List (List TV)} (hq:∀ b,q=some b→o=b) (h:F2 R xs l) (hb:xs.length≤9223372036854775807):RL q s R (.sl o s xs) l:=.inr ⟨o,xs,rfl,hq,h,hb⟩
theorem RL.bnd (h:RL q s R x l):l.length≤9223372036854775807:=by
 rcases h with ⟨rfl,rfl⟩ | ⟨o,xs,rfl,hq,h,hb⟩
 ·simp
 ·rw [← h.length]; exact hb
theorem RL.weak (h:RL q s R x l) (hm:∀ e a,R e a→S e a):RL none s S x l:=by
 rcases h with ⟨rfl,rfl⟩ | ⟨o,xs,rfl,hq,h,hb⟩
 ·exact .nil
 ·exact .sl (by simp) (h.mono hm) hb
theorem RL.len {t:TypeId} (h:RL q s R x l):plen (.slice t) x=some (I l.length):=by
 rcases h with ⟨rfl,rfl⟩ | ⟨o,xs,rfl,hq,h,hb⟩
 ·rfl
 ·simp [plen,h.length]
theorem RL.slLen (h:RL q s R x l):Go.Ab.slLen x=some l.length:=by
 rcases h with ⟨rfl,rfl⟩ | ⟨o,xs,rfl,hq,h,hb⟩
 ·rfl
 ·simp [Go.Ab.slLen,h.length]
theorem RL.slSize (h:RL q s R x l):Go.Ab.slSize x s=true:=by
 rcases h with ⟨rfl,rfl⟩ | ⟨o,xs,rfl,hq,h,hb⟩
 ·rfl
 ·simp [Go.Ab.slSize]
theorem RL.isSl (h:RL q s R x l):x.isSl=true:=by
 rcases h with ⟨rfl,rfl⟩ | ⟨o,xs,rfl,hq,h,hb⟩ <;> rfl
theorem RL.idx (h:RL q s R x l) {k:IntKind} {i:Nat} {a:α} (hi:l[i]? = some a):∃ e,pidx s x (.lit (.int k i))=some e∧R e a:=by
 rcases h with ⟨rfl,rfl⟩ | ⟨o,xs,rfl,hq,h,hb⟩
 ·simp at hi
 ·obtain ⟨e,he,hr⟩:=h.get hi
  exact ⟨e,by simp [pidx,he],hr⟩
theorem RL.elems (h:RL q s R x l):∃ xs,pelems s x=some xs∧F2 R xs l:=by
 rcases h with ⟨rfl,rfl⟩ | ⟨o,xs,rfl,hq,h,hb⟩
 ·exact ⟨[],rfl,.nil⟩
 ·exact ⟨xs,by simp [pelems],h⟩
theorem RL.pel (h:RL q s R x l) {i:Nat} {a:α} (hi:l[i]? = some a):∃ e,Go.Ab.pel x i=some e∧R e a:=by
 rcases h with ⟨rfl,rfl⟩ | ⟨o,xs,rfl,hq,h,hb⟩
 ·simp at hi
 ·exact h.get hi
theorem RL.frz (h:RL q s R x l) (hm:∀ e a,R e a→S (ms e) a):RL (some false) s S (frz x) l:=by
 rcases h with ⟨rfl,rfl⟩ | ⟨o,xs,rfl,hq,h,hb⟩
 ·exact .nil
 ·refine .sl (by simp) ?_ ?_
  rotate_left
  ·rw [pC,List.length_map]; exact hb
  rw [pC]
  exact h.mapL hm
end
def RI1 (e:List TV) (n:Int):Prop:=e=[I n]∧inI n
def RW1 (e:List TV) (n:Int):Prop:=e=[W n]∧inW n
def RB1 (e:List TV) (b:Bool):Prop:=e=[B b]
abbrev RInts (q:Option Bool):TV→List Int→Prop:=RL q 1 RI1
abbrev RWords (q:Option Bool):TV→List Int→Prop:=RL q 1 RW1
abbrev RBools (q:Option Bool):TV→List Bool→Prop:=RL q 1 RB1
structure DIns where
 op:Int
 dst:Int
 a:Int
 b:Int
 k:Int
 f:Int
 args:List Int
structure DEnd where
 kind:Int
 a:Int
 dst:Int
 f:Int
 args:List Int
 to:Int
 els:Int
 pad:Int
structure DPad where
 dst:Int
 catches:List Int
 all:Bool
 cleanup:Bool
structure DBlock where
 landing:Bool
 pad:DPad
 ins:List DIns
 fin:DEnd
structure DFunc where
 params:Int
 regs:Int
 blocks:List DBlock
structure DMod where
 funcs:List DFunc
def DIns.ok (x:DIns):Prop:=inI x.op∧inI x.dst∧inI x.a∧inI x.b∧inW x.k∧inI x.f
def DEnd.ok (x:DEnd):Prop:=inI x.kind∧inI x.a∧inI x.dst∧inI x.f∧inI x.to∧inI x.els∧inI x.pad
def RIns (q:Option Bool) (e:List TV) (x:DIns):Prop:=∃ g,e=[I x.op,I x.dst,I x.a,I x.b,W x.k,I x.f,g]∧RInts q g x.args∧x.ok
def REnd (q:Option Bool) (e:List TV) (x:DEnd):Prop:=∃ g,e=[I x.kind,I x.a,I x.dst,I x.f,g,I x.to,I x.els,I x.pad]∧RInts q g x.args∧x.ok
def RPad (q:Option Bool) (e:List TV) (x:DPad):Prop:=∃ g,e=[I x.dst,g,B x.all,B x.cleanup]∧RWords q g x.catches∧inI x.dst
def RBlock (q:Option Bool) (e:List TV) (x:DBlock):Prop:=∃ c i g,e=[B x.landing,I x.pad.dst,c,B x.pad.all,B x.pad.cleanup,i,I x.fin.kind,I x.fin.a,I x.fin.dst,I x.fin.f,g,I x.fin.to,I x.fin.els,I x.fin.pad] ∧
 RWords q c x.pad.catches∧inI x.pad.dst∧RL q 7 (RIns q) i x.ins∧RInts q g x.fin.args∧x.fin.ok
def RFunc (q:Option Bool) (e:List TV) (x:DFunc):Prop:=∃ b,e=[I x.params,I x.regs,b]∧RL q 14 (RBlock q) b x.blocks∧inI x.params∧inI x.regs
def RMod (q:Option Bool) (e:List TV) (x:DMod):Prop:=∃ b,e=[b]∧RL q 3 (RFunc q) b x.funcs
theorem RI1.frz {e:List TV} {n:Int} (h:RI1 e n):RI1 (ms e) n:=by obtain ⟨rfl,h⟩:=h; exact ⟨rfl,h⟩
theorem RW1.frz {e:List TV} {n:Int} (h:RW1 e n):RW1 (ms e) n:=by obtain ⟨rfl,h⟩:=h; exact ⟨rfl,h⟩
theorem RB1.frz {e:List TV} {n:Bool} (h:RB1 e n):RB1 (ms e) n:=by cases h; exact rfl
theorem RIns.frz {q:Option Bool} {e:List TV} {x:DIns} (h:RIns q e x):RIns (some false) (ms e) x:=by
 obtain ⟨g,rfl,hg,ho⟩:=h
 exact ⟨Go.Ab.frz g,rfl,hg.frz fun _ _ h=>h.frz,ho⟩
theorem RBlock.frz {q:Option Bool} {e:List TV} {x:DBlock} (h:RBlock q e x):RBlock (some false) (ms e) x:=by
 obtain ⟨c,i,g,rfl,hc,hd,hi,hg,ho⟩:=h
 exact ⟨Go.Ab.frz c,Go.Ab.frz i,Go.Ab.frz g,rfl,hc.frz fun _ _ h=>h.frz,hd,hi.frz fun _ _ h=>h.frz,hg.frz fun _ _ h=>h.frz,ho⟩
theorem RFunc.frz {q:Option Bool} {e:List TV} {x:DFunc} (h:RFunc q e x):RFunc (some false) (ms e) x:=by
 obtain ⟨b,rfl,hb,ho⟩:=h
 exact ⟨Go.Ab.frz b,rfl,hb.frz fun _ _ h=>h.frz,ho⟩
theorem padd {a b:Int} (h:inI (a + b)):pbin (.int .i64) .add (I a) (I b)=some (I (a + b)):=by
 simp [pbin,nc,IntWalk.i64_in _ h]
theorem psub {a b:Int} (h:inI (a - b)):pbin (.int .i64) .sub (I a) (I b)=some (I (a - b)):=by
 simp [pbin,nc,IntWalk.i64_in _ h]
theorem inc {k n:Nat} (h:k < n) (hn:n≤9223372036854775807):pbin (.int .i64) .add (I (k:Int)) (I (1:Int))=some (I ((k + 1:Nat):Int)):=by
 rw [padd (by constructor <;> omega)]; rfl
open Classical in
noncomputable def tt (p:Prop):Bool:=decide p
theorem aP {p:Prop}:tt p=true ↔ p:=by simp [tt]
theorem xy {b:Bool} {p:Prop} (h:b=true ↔ p):b=tt p:=by
 cases b with
 | true=>exact (aP.2 (h.1 rfl)).symm
 | false =>
  cases hp:tt p with
  | false=>rfl
  | true=>exact absurd (h.2 (aP.1 hp)) (by simp)
theorem cE {p p':Prop} (h:p ↔ p'):tt p=tt p':=by rw [propext h]
theorem dg {p:Prop} (h:p):tt p=true:=aP.2 h
theorem dG {p:Prop} (h:¬ p):tt p=false:=by
 cases hp:tt p with
 | false=>rfl
 | true=>exact absurd (aP.1 hp) h
section
variable {A:AProg} {f:FuncId}
theorem dP {b:Bool} {p:Prop} (h:b=true ↔ p):aa A f (.ret (B b)) (B (tt p)):=by rw [← xy h]; exact aa.ret
theorem zu {p:Prop} (h:p):aa A f (.ret (B true)) (B (tt p)):=dP (by simp [h])
theorem a9 {p:Prop} (h:¬ p):aa A f (.ret (B false)) (B (tt p)):=dP (by simp [h])
end
def fQ (k n:Nat) (P:Nat→Prop):Prop:=∀ i,k≤i→i < n→P i
theorem wy {n:Nat} {P:Nat→Prop}:fQ n n P:=fun i h1 h2=>by omega
theorem kJ {k n:Nat} {P:Nat→Prop} (h:k < n):fQ k n P ↔ P k∧fQ (k + 1) n P:=by
 constructor
 ·intro ha; exact ⟨ha k (Nat.le_refl k) h,fun i h1 h2=>ha i (by omega) h2⟩
 ·rintro ⟨hp,ha⟩ i h1 h2
  by_cases hi:i=k
  ·subst hi; exact hp
  ·exact ha i (by omega) h2
theorem fL {n:Nat} {P:Nat→Prop}:fQ 0 n P ↔ ∀ i,i < n→P i:=⟨fun h i hi=>h i (Nat.zero_le i) hi,fun h i _ hi=>h i hi⟩
theorem wG {α:Type} {l m:List α} (h:l.length=m.length):l=m ↔ fQ 0 l.length fun i=>l[i]? = m[i]? := by
 rw [fL]
 constructor
 ·rintro rfl i _; rfl
 ·intro ha
  apply List.ext_getElem? 
  intro i
  by_cases hi:i < l.length
  ·exact ha i hi
  ·rw [EV (by omega),EV (by omega)]
end Go.Ab
namespace Go.Ab
theorem zA {A:AProg} {f:FuncId} {n:Nat} {P:Nat→Prop} {Q:Prop} {g:Nat→Prg TV} (hend:aa A f (g n) (B (tt Q)))
  (hstep:∀ k,k < n→∀ r,(¬ P k→r=B false)→(P k→aa A f (g (k + 1)) r)→aa A f (g k) r):∀ d k,k + d=n→aa A f (g k) (B (tt (fQ k n P∧Q))):=by
 intro d
 induction d with
 | zero =>
  intro k hk
  have hk:k=n:=by omega
  subst hk
  rw [show tt (fQ k k P∧Q)=tt Q from cE ⟨fun h=>h.2,fun h=>⟨wy,h⟩⟩]
  exact hend
 | succ d ih =>
  intro k hk
  have hlt:k < n:=by omega
  refine hstep k hlt _ (fun hp=>?_) (fun hp=>?_)
  ·rw [dG]
   intro h
   exact hp ((kJ hlt).1 h.1).1
  ·rw [show tt (fQ k n P∧Q)=tt (fQ (k + 1) n P∧Q) from cE ⟨fun h=>⟨((kJ hlt).1 h.1).2,h.2⟩,fun h=>⟨(kJ hlt).2 ⟨hp,h.1⟩,h.2⟩⟩]
   exact ih (k + 1) (by omega)
theorem jT {A:AProg} {f:FuncId} {n:Nat} {P:Nat→Prop} {g:Nat→Prg TV} (hend:aa A f (g n) (B true))
  (hstep:∀ k,k < n→∀ r,(¬ P k→r=B false)→(P k→aa A f (g (k + 1)) r)→aa A f (g k) r):aa A f (g 0) (B (tt (∀ i,i < n→P i))):=by
 have:=zA (Q:=True) (by rw [dg trivial]; exact hend) hstep n 0 (by omega)
 rw [show tt (∀ i,i < n→P i)=tt (fQ 0 n P∧True) from cE ⟨fun h=>⟨fL.2 h,trivial⟩,fun h=>fL.1 h.1⟩]
 exact this
theorem aK {k n:Nat} (h:k < n):asBool (.lit (.bool (decide ((k:Int) < (n:Int)))))=some true:=by simp [asBool,h]
theorem aZ {n:Nat}:asBool (.lit (.bool (decide ((n:Int) < (n:Int)))))=some false:=by simp [asBool]
theorem oD {α:Type} {l m:List α} (h:l.length=m.length):l=m ↔ ∀ i,i < l.length→l[i]? = m[i]? := by
 rw [wG h,fL]
end Go.Ab
namespace Go.Ab
theorem mp:∀ {zs:List Value} {e:List TV} {j:Nat},ab zs e j=true→a7 zs e j=true
 | [],_,_,_=>rfl
 | z :: zs, e, j, h => by
  unfold ab at h
  unfold a7
  split at h
  ·rename_i c hc
   rw [EM] at h
   rw [EM]
   refine ⟨?_,mp h.2⟩
   have h1:=h.1
   cases hz:aC z with
   | true=>rw [hz] at h1; simp only [cond_true] at h1 ⊢; rw [h1]; rfl
   | false=>rw [hz] at h1; exact h1
  ·cases h
end Go.Ab
end
section
namespace Go.Ab
def EA:List (Nat × fh)→Nat→Option fh
 | [],_=>none
 | (k,d) :: r,t=>bif k.beq t then some d else EA r t
end Go.Ab
end
section
namespace Go.Ab.A10
open Go.Ab Go.Proofs
def bD:List (Nat × Ann)→Nat→Option Ann
 | [],_=>none
 | (k,d) :: r,t=>bif k.beq t then some d else bD r t
def z2:List Value:=[.int .i64 0]
def z3:List Value:=[.int .i64 0]
def z4:List Value:=[.bool false]
def z5:List Value:=[.int .u8 0]
def z6:List Value:=[.int .u8 0]
def z7:List Value:=[.int .i64 0,.int .i64 0,.bool false,.int .u8 0]
def z8:List Value:=[.int .i64 0,.int .i64 0,.bool false,.int .u8 0]
def z9:List Value:=[.string ⟨#[]⟩]
def z10:List Value:=[.string ⟨#[]⟩]
def z11:List Value:=[.string ⟨#[]⟩]
def z12:List Value:=[.int .u64 0]
def z13:List Value:=[.string ⟨#[]⟩,.int .u64 0]
def z14:List Value:=[.string ⟨#[]⟩,.int .u64 0]
def z15:List Value:=[.pointer none]
def z16:List Value:=[.pointer none]
def z17:List Value:=[.pointer none]
def z18:List Value:=[.pointer none]
def z19:List Value:=[.pointer none]
def z20:List Value:=[.nilIface]
def z21:List Value:=[.int .i32 0]
def z22:List Value:=[.slice none 0 0]
def z23:List Value:=[.slice none 0 0]
def z24:List Value:=[.slice none 0 0]
def z25:List Value:=[.slice none 0 0]
def z26:List Value:=[.nilFunc]
def z27:List Value:=[.nilFunc]
def z28:List Value:=[.slice none 0 0]
def z29:List Value:=[.int .u16 0]
def z30:List Value:=[.int .u16 0,.int .u16 0,.int .u16 0,.int .u16 0,.int .u16 0,.int .u16 0,.int .u16 0,.int .u16 0,.int .u16 0,.int .u16 0,.int .u16 0,.int .u16 0,.int .u16 0,.int .u16 0,.int .u16 0,.int .u16 0]
def z31:List Value:=[.slice none 0 0]
def z32:List Value:=[.slice none 0 0,.int .u16 0,.int .u16 0,.int .u16 0,.int .u16 0,.int .u16 0,.int .u16 0,.int .u16 0,.int .u16 0,.int .u16 0,.int .u16 0,.int .u16 0,.int .u16 0,.int .u16 0,.int .u16 0,.int .u16 0,.int .u16 0,.slice none 0 0,.slice none 0 0,.int .i64 0,.int .u16 0]
def z33:List Value:=[.slice none 0 0,.int .u16 0,.int .u16 0,.int .u16 0,.int .u16 0,.int .u16 0,.int .u16 0,.int .u16 0,.int .u16 0,.int .u16 0,.int .u16 0,.int .u16 0,.int .u16 0,.int .u16 0,.int .u16 0,.int .u16 0,.int .u16 0,.slice none 0 0,.slice none 0 0,.int .i64 0,.int .u16 0]
def z34:List Value:=[.int .i64 0]
def z36:List Value:=[.nilFunc]
def z37:List Value:=[.int .i64 0,.int .i64 0,.int .i64 0,.slice none 0 0,.int .u16 0]
def z38:List Value:=[.int .i64 0,.int .i64 0,.int .i64 0,.slice none 0 0,.int .u16 0]
def z39:List Value:=[.slice none 0 0]
def z40:List Value:=[.nilFunc]
def z41:List Value:=[.slice none 0 0]
def z42:List Value:=[.int .i64 0,.int .i64 0,.slice none 0 0]
def z43:List Value:=[.int .i64 0,.int .i64 0,.slice none 0 0]
def z44:List Value:=[.nilFunc]
def z45:List Value:=[.slice none 0 0]
def z46:List Value:=[.nilFunc]
def z47:List Value:=[.nilFunc]
def z48:List Value:=[.nilFunc]
def z49:List Value:=[.int .i64 0,.slice none 0 0,.bool false,.bool false]
def z50:List Value:=[.int .i64 0,.slice none 0 0,.bool false,.bool false]
def z51:List Value:=[.slice none 0 0]
def z52:List Value:=[.int .i64 0,.int .i64 0,.int .i64 0,.int .i64 0,.slice none 0 0,.int .i64 0,.int .i64 0,.int .i64 0]
def z53:List Value:=[.int .i64 0,.int .i64 0,.int .i64 0,.int .i64 0,.slice none 0 0,.int .i64 0,.int .i64 0,.int .i64 0]
def z54:List Value:=[.bool false,.int .i64 0,.slice none 0 0,.bool false,.bool false,.slice none 0 0,.int .i64 0,.int .i64 0,.int .i64 0,.int .i64 0,.slice none 0 0,.int .i64 0,.int .i64 0,.int .i64 0]
def z55:List Value:=[.bool false,.int .i64 0,.slice none 0 0,.bool false,.bool false,.slice none 0 0,.int .i64 0,.int .i64 0,.int .i64 0,.int .i64 0,.slice none 0 0,.int .i64 0,.int .i64 0,.int .i64 0]
def z56:List Value:=[.nilFunc]
def z57:List Value:=[.int .i64 0,.int .i64 0,.int .i64 0,.int .i64 0,.int .u16 0,.int .i64 0,.slice none 0 0]
def z58:List Value:=[.int .i64 0,.int .i64 0,.int .i64 0,.int .i64 0,.int .u16 0,.int .i64 0,.slice none 0 0]
def z59:List Value:=[.nilFunc]
def z60:List Value:=[.nilFunc]
def z61:List Value:=[.nilFunc]
def z62:List Value:=[.slice none 0 0,.int .u16 0,.int .u16 0,.int .u16 0,.int .u16 0,.int .u16 0,.int .u16 0,.int .u16 0,.int .u16 0,.int .u16 0,.int .u16 0,.int .u16 0,.int .u16 0,.int .u16 0,.int .u16 0,.int .u16 0,.int .u16 0,.slice none 0 0,.slice none 0 0,.int .i64 0,.int .u16 0,.slice none 0 0]
def z63:List Value:=[.slice none 0 0,.int .u16 0,.int .u16 0,.int .u16 0,.int .u16 0,.int .u16 0,.int .u16 0,.int .u16 0,.int .u16 0,.int .u16 0,.int .u16 0,.int .u16 0,.int .u16 0,.int .u16 0,.int .u16 0,.int .u16 0,.int .u16 0,.slice none 0 0,.slice none 0 0,.int .i64 0,.int .u16 0,.slice none 0 0]
def z64:List Value:=[.int .i64 0,.int .i64 0,.slice none 0 0,.slice none 0 0,.slice none 0 0]
def z65:List Value:=[.int .i64 0,.int .i64 0,.slice none 0 0,.slice none 0 0,.slice none 0 0]
def z66:List Value:=[.nilFunc]
def z67:List Value:=[.nilFunc]
def z68:List Value:=[.nilFunc]
def z69:List Value:=[.nilFunc]
def z70:List Value:=[.nilFunc]
def z71:List Value:=[.nilFunc]
def z73:List Value:=[.nilFunc]
def z74:List Value:=[.pointer none]
def z75:List Value:=[.pointer none]
def z76:List Value:=[.nilFunc]
def z77:List Value:=[.nilFunc]
def z78:List Value:=[.nilFunc]
def z79:List Value:=[.nilFunc]
def z80:List Value:=[.nilFunc]
def z81:List Value:=[.nilFunc]
def z82:List Value:=[.nilFunc]
def z83:List Value:=[.nilFunc]
def z84:List Value:=[.nilFunc]
def z85:List Value:=[.nilFunc]
def z86:List Value:=[.nilFunc]
def z87:List Value:=[.nilFunc]
def z88:List Value:=[.nilFunc]
def z89:List Value:=[.nilFunc]
def z90:List Value:=[.nilFunc]
def z91:List Value:=[.nilFunc]
def z92:List Value:=[.nilFunc]
def z93:List Value:=[.nilFunc]
def z94:List Value:=[.nilFunc]
def z95:List Value:=[.pointer none]
def z96:List Value:=[.nilFunc]
def z97:List Value:=[.nilFunc]
def z99:List Value:=[.nilFunc]
def z100:List Value:=[.nilFunc]
def z101:List Value:=[.nilFunc]
def z103:List Value:=[.nilFunc]
def z104:List Value:=[.nilFunc]
def z105:List Value:=[.nilFunc]
def z106:List Value:=[.slice none 0 0,.int .i64 0,.int .i64 0,.slice none 0 0]
def z107:List Value:=[.slice none 0 0,.int .i64 0,.int .i64 0,.slice none 0 0]
def z108:List Value:=[.nilFunc]
def z109:List Value:=[.nilFunc]
def z110:List Value:=[.nilFunc]
def z111:List Value:=[.nilFunc]
def z112:List Value:=[.nilFunc]
def z113:List Value:=[.nilFunc]
def z114:List Value:=[.nilFunc]
def z116:List Value:=[.nilFunc]
def z117:List Value:=[.nilFunc]
def z118:List Value:=[.nilFunc]
def z119:List Value:=[.nilFunc]
def z121:List Value:=[.nilFunc]
def z122:List Value:=[.nilFunc]
def z123:List Value:=[.nilFunc]
def z124:List Value:=[.nilFunc]
def z125:List Value:=[.nilFunc]
def z126:List Value:=[.nilFunc]
def z127:List Value:=[.int .i64 0]
def z128:List Value:=[.nilFunc]
def z129:List Value:=[.nilFunc]
def z130:List Value:=[.nilFunc]
def z131:List Value:=[.nilFunc]
def z132:List Value:=[.nilFunc]
def z133:List Value:=[.nilFunc]
def z134:List Value:=[.nilFunc]
def z135:List Value:=[.nilFunc]
def z136:List Value:=[.nilFunc]
def z137:List Value:=[.nilFunc]
def z138:List Value:=[.nilFunc]
def z139:List Value:=[.nilFunc]
def z140:List Value:=[.pointer none,.pointer none,.pointer none,.string ⟨#[]⟩]
def z141:List Value:=[.pointer none,.pointer none,.pointer none,.string ⟨#[]⟩]
def z142:List Value:=[]
def z143:List Value:=[]
def z144:List Value:=[]
def z145:List Value:=[.nilFunc]
def z146:List Value:=[.int .u32 0]
def z147:List Value:=[.int .u8 0]
def z148:List Value:=[.int .u8 0]
def z149:List Value:=[.nilFunc]
def z150:List Value:=[.pointer none]
def z151:List Value:=[.int .i32 0]
def z152:List Value:=[.int .i32 0]
def z153:List Value:=[.int .u64 0,.int .u64 0,.int .u32 0,.int .u8 0,.int .u8 0,.int .u8 0,.int .u8 0,.nilFunc,.pointer none,.int .i32 0,.int .i32 0]
def z154:List Value:=[.int .u64 0,.int .u64 0,.int .u32 0,.int .u8 0,.int .u8 0,.int .u8 0,.int .u8 0,.nilFunc,.pointer none,.int .i32 0,.int .i32 0]
def tab:Tab:=sh [
 (2,⟨1,8,.int .i64,z2,[]⟩),
 (3,⟨1,8,.int .i64,z3,[]⟩),
 (4,⟨1,1,.bool,z4,[]⟩),
 (5,⟨1,1,.int .u8,z5,[]⟩),
 (6,⟨1,1,.int .u8,z6,[]⟩),
 (7,⟨4,24,.struct,z7,[(0,2),(1,3),(2,4),(3,6)]⟩),
 (8,⟨4,24,.struct,z8,[(0,2),(1,3),(2,4),(3,6)]⟩),
 (9,⟨1,16,.str,z9,[]⟩),
 (10,⟨1,16,.str,z10,[]⟩),
 (11,⟨1,16,.str,z11,[]⟩),
 (12,⟨1,8,.int .u64,z12,[]⟩),
 (13,⟨2,24,.struct,z13,[(0,9),(1,12)]⟩),
 (14,⟨2,24,.struct,z14,[(0,9),(1,12)]⟩),
 (15,⟨1,8,.ptr,z15,[]⟩),
 (16,⟨1,8,.ptr,z16,[]⟩),
 (17,⟨1,8,.ptr,z17,[]⟩),
 (18,⟨1,8,.struct,z18,[(0,17)]⟩),
 (19,⟨1,8,.struct,z19,[(0,17)]⟩),
 (20,⟨1,16,.other,z20,[]⟩),
 (21,⟨1,4,.int .i32,z21,[]⟩),
 (22,⟨1,24,.slice 43,z22,[]⟩),
 (23,⟨1,24,.struct,z23,[(0,22)]⟩),
 (24,⟨1,24,.struct,z24,[(0,22)]⟩),
 (25,⟨1,24,.slice 29,z25,[]⟩),
 (26,⟨1,8,.other,z26,[]⟩),
 (27,⟨1,8,.other,z27,[]⟩),
 (28,⟨1,24,.slice 38,z28,[]⟩),
 (29,⟨1,2,.int .u16,z29,[]⟩),
 (30,⟨16,32,.arr 16 29,z30,[]⟩),
 (31,⟨1,24,.slice 3,z31,[]⟩),
 (32,⟨21,120,.struct,z32,[(0,28),(1,30),(17,25),(18,31),(19,3),(20,29)]⟩),
 (33,⟨21,120,.struct,z33,[(0,28),(1,30),(17,25),(18,31),(19,3),(20,29)]⟩),
 (34,⟨1,8,.int .i64,z34,[]⟩),
 (36,⟨1,8,.other,z36,[]⟩),
 (37,⟨5,56,.struct,z37,[(0,3),(1,3),(2,3),(3,25),(4,29)]⟩),
 (38,⟨5,56,.struct,z38,[(0,3),(1,3),(2,3),(3,25),(4,29)]⟩),
 (39,⟨1,24,.slice 45,z39,[]⟩),
 (40,⟨1,8,.other,z40,[]⟩),
 (41,⟨1,24,.slice 55,z41,[]⟩),
 (42,⟨3,40,.struct,z42,[(0,3),(1,3),(2,41)]⟩),
 (43,⟨3,40,.struct,z43,[(0,3),(1,3),(2,41)]⟩),
 (44,⟨1,8,.other,z44,[]⟩),
 (45,⟨1,24,.slice 4,z45,[]⟩),
 (46,⟨1,8,.other,z46,[]⟩),
 (47,⟨1,8,.other,z47,[]⟩),
 (48,⟨1,8,.other,z48,[]⟩),
 (49,⟨4,40,.struct,z49,[(0,3),(1,25),(2,4),(3,4)]⟩),
 (50,⟨4,40,.struct,z50,[(0,3),(1,25),(2,4),(3,4)]⟩),
 (51,⟨1,24,.slice 58,z51,[]⟩),
 (52,⟨8,80,.struct,z52,[(0,3),(1,3),(2,3),(3,3),(4,31),(5,3),(6,3),(7,3)]⟩),
 (53,⟨8,80,.struct,z53,[(0,3),(1,3),(2,3),(3,3),(4,31),(5,3),(6,3),(7,3)]⟩),
 (54,⟨14,152,.struct,z54,[(0,4),(1,50),(5,51),(6,53)]⟩),
 (55,⟨14,152,.struct,z55,[(0,4),(1,50),(5,51),(6,53)]⟩),
 (56,⟨1,8,.other,z56,[]⟩),
 (57,⟨7,72,.struct,z57,[(0,3),(1,3),(2,3),(3,3),(4,29),(5,3),(6,31)]⟩),
 (58,⟨7,72,.struct,z58,[(0,3),(1,3),(2,3),(3,3),(4,29),(5,3),(6,31)]⟩),
 (59,⟨1,8,.other,z59,[]⟩),
 (60,⟨1,8,.other,z60,[]⟩),
 (61,⟨1,8,.other,z61,[]⟩),
 (62,⟨22,144,.struct,z62,[(0,33),(21,24)]⟩),
 (63,⟨22,144,.struct,z63,[(0,33),(21,24)]⟩),
 (64,⟨5,88,.struct,z64,[(0,43),(3,39),(4,39)]⟩),
 (65,⟨5,88,.struct,z65,[(0,43),(3,39),(4,39)]⟩),
 (66,⟨1,8,.other,z66,[]⟩),
 (67,⟨1,8,.other,z67,[]⟩),
 (68,⟨1,8,.other,z68,[]⟩),
 (69,⟨1,8,.other,z69,[]⟩),
 (70,⟨1,8,.other,z70,[]⟩),
 (71,⟨1,8,.other,z71,[]⟩),
 (73,⟨1,8,.other,z73,[]⟩),
 (74,⟨1,8,.ptr,z74,[]⟩),
 (75,⟨1,8,.ptr,z75,[]⟩),
 (76,⟨1,8,.other,z76,[]⟩),
 (77,⟨1,8,.other,z77,[]⟩),
 (78,⟨1,8,.other,z78,[]⟩),
 (79,⟨1,8,.other,z79,[]⟩),
 (80,⟨1,8,.other,z80,[]⟩),
 (81,⟨1,8,.other,z81,[]⟩),
 (82,⟨1,8,.other,z82,[]⟩),
 (83,⟨1,8,.other,z83,[]⟩),
 (84,⟨1,8,.other,z84,[]⟩),
 (85,⟨1,8,.other,z85,[]⟩),
 (86,⟨1,8,.other,z86,[]⟩),
 (87,⟨1,8,.other,z87,[]⟩),
 (88,⟨1,8,.other,z88,[]⟩),
 (89,⟨1,8,.other,z89,[]⟩),
 (90,⟨1,8,.other,z90,[]⟩),
 (91,⟨1,8,.other,z91,[]⟩),
 (92,⟨1,8,.other,z92,[]⟩),
 (93,⟨1,8,.other,z93,[]⟩),
 (94,⟨1,8,.other,z94,[]⟩),
 (95,⟨1,8,.ptr,z95,[]⟩),
 (96,⟨1,8,.other,z96,[]⟩),
 (97,⟨1,8,.other,z97,[]⟩),
 (99,⟨1,8,.other,z99,[]⟩),
 (100,⟨1,8,.other,z100,[]⟩),
 (101,⟨1,8,.other,z101,[]⟩),
 (103,⟨1,8,.other,z103,[]⟩),
 (104,⟨1,8,.other,z104,[]⟩),
 (105,⟨1,8,.other,z105,[]⟩),
 (106,⟨4,64,.struct,z106,[(0,22),(1,43)]⟩),
 (107,⟨4,64,.struct,z107,[(0,22),(1,43)]⟩),
 (108,⟨1,8,.other,z108,[]⟩),
 (109,⟨1,8,.other,z109,[]⟩),
 (110,⟨1,8,.other,z110,[]⟩),
 (111,⟨1,8,.other,z111,[]⟩),
 (112,⟨1,8,.other,z112,[]⟩),
 (113,⟨1,8,.other,z113,[]⟩),
 (114,⟨1,8,.other,z114,[]⟩),
 (116,⟨1,8,.other,z116,[]⟩),
 (117,⟨1,8,.other,z117,[]⟩),
 (118,⟨1,8,.other,z118,[]⟩),
 (119,⟨1,8,.other,z119,[]⟩),
 (121,⟨1,8,.other,z121,[]⟩),
 (122,⟨1,8,.other,z122,[]⟩),
 (123,⟨1,8,.other,z123,[]⟩),
 (124,⟨1,8,.other,z124,[]⟩),
 (125,⟨1,8,.other,z125,[]⟩),
 (126,⟨1,8,.other,z126,[]⟩),
 (127,⟨1,8,.int .i64,z127,[]⟩),
 (128,⟨1,8,.other,z128,[]⟩),
 (129,⟨1,8,.other,z129,[]⟩),
 (130,⟨1,8,.other,z130,[]⟩),
 (131,⟨1,8,.other,z131,[]⟩),
 (132,⟨1,8,.other,z132,[]⟩),
 (133,⟨1,8,.other,z133,[]⟩),
 (134,⟨1,8,.other,z134,[]⟩),
 (135,⟨1,8,.other,z135,[]⟩),
 (136,⟨1,8,.other,z136,[]⟩),
 (137,⟨1,8,.other,z137,[]⟩),
 (138,⟨1,8,.other,z138,[]⟩),
 (139,⟨1,8,.other,z139,[]⟩),
 (140,⟨4,40,.struct,z140,[(0,17),(1,17),(2,17),(3,9)]⟩),
 (141,⟨4,40,.struct,z141,[(0,17),(1,17),(2,17),(3,9)]⟩),
 (142,⟨0,0,.arr 0 16,z142,[]⟩),
 (143,⟨0,0,.struct,z143,[(0,142)]⟩),
 (144,⟨0,0,.struct,z144,[(0,142)]⟩),
 (145,⟨1,8,.other,z145,[]⟩),
 (146,⟨1,4,.int .u32,z146,[]⟩),
 (147,⟨1,1,.int .u8,z147,[]⟩),
 (148,⟨1,1,.int .u8,z148,[]⟩),
 (149,⟨1,8,.other,z149,[]⟩),
 (150,⟨1,8,.ptr,z150,[]⟩),
 (151,⟨1,4,.int .i32,z151,[]⟩),
 (152,⟨1,4,.int .i32,z152,[]⟩),
 (153,⟨11,48,.struct,z153,[(0,12),(1,12),(2,146),(3,147),(4,5),(5,5),(6,148),(7,149),(8,150),(9,151),(10,152)]⟩),
 (154,⟨11,48,.struct,z154,[(0,12),(1,12),(2,146),(3,147),(4,5),(5,5),(6,148),(7,149),(8,150),(9,151),(10,152)]⟩)]
def pure (f:FuncId):Bool:=cf f [41,23,51,53,20,19,9,15,7,10,66,8,12,13,61,45,47,59]
def EE:List (Nat × List Nat)→Nat→List Nat
 | [],_=>[]
 | (k,d) :: r,t=>bif k.beq t then d else EE r t
def rts:FuncId→List TypeId:=EE [(3,[4]),(5,[4]),(6,[4]),(7,[33,34]),(8,[39]),(9,[33]),(10,[33,34]),(11,[4]),(13,[31]),(14,[4]),(15,[33,34]),(16,[]),(17,[65]),(18,[28]),(19,[25]),(20,[31]),(21,[4]),(22,[4]),(23,[38,34]),(24,[75]),(25,[55]),(26,[]),(27,[]),(28,[4]),(29,[]),(30,[4]),(31,[4]),(32,[4]),(33,[4]),(34,[4]),(35,[]),(36,[]),(37,[]),(38,[]),(39,[]),(40,[]),(41,[38]),(42,[]),(43,[]),(44,[4]),(45,[45]),(46,[91]),(47,[45]),(48,[4]),(49,[95]),(50,[]),(51,[38,4]),(52,[]),(53,[38]),(54,[4]),(55,[50,4]),(56,[4]),(57,[]),(58,[4]),(59,[45]),(60,[]),(61,[31]),(62,[113]),(63,[3,4]),(64,[]),(65,[]),(66,[31]),(67,[29,4]),(68,[4]),(69,[4]),(70,[4]),(71,[4]),(72,[]),(73,[127]),(74,[4]),(75,[4]),(76,[29,4]),(77,[3]),(78,[4]),(79,[4]),(80,[127]),(81,[4]),(82,[4]),(83,[4]),(84,[29,4]),(85,[29])]
def f3_ann:Nat→Option Ann:=bD [(17,⟨[3,4,5,11,13,14,15,16,17],[15],[],[],[]⟩),(22,⟨[3,5,11,16,18],[],[(16,0),(16,17),(16,18)],[],[]⟩)]
def f3_jn:Nat→Option Ann:=bD [(21,⟨[3,5,11,16],[],[],[],[]⟩)]
def f7_ann:Nat→Option Ann:=bD [(5,⟨[2,6,10],[],[(10,21)],[6],[]⟩)]
def f7_jn:Nat→Option Ann:=bD [(8,⟨[6,10],[],[],[6],[]⟩)]
def f9_ann:Nat→Option Ann:=bD [(3,⟨[1,2,10,11],[],[],[2],[]⟩)]
def f9_jn:Nat→Option Ann:=bD [(7,⟨[1,2],[],[],[2],[]⟩)]
def f10_jn:Nat→Option Ann:=bD [(6,⟨[4,6],[],[(6,0),(6,17),(6,18),(6,21)],[4],[]⟩)]
def f13_jn:Nat→Option Ann:=bD [(5,⟨[1,4,5],[],[],[],[]⟩),(13,⟨[1,4,12],[],[],[],[]⟩)]
def f14_ann:Nat→Option Ann:=bD [(5,⟨[1,3,4],[],[],[],[]⟩),(10,⟨[1,3,4,5],[],[],[],[]⟩),(17,⟨[1,3,4,5,6,7],[],[],[],[]⟩)]
def f16_jn:Nat→Option Ann:=bD [(1,⟨[0,2],[],[],[],[(0,21)]⟩)]
def f17_ann:Nat→Option Ann:=bD [(5,⟨[1,2,3,21,22],[],[],[2],[]⟩),(9,⟨[2,3],[],[],[2],[]⟩)]
def f17_jn:Nat→Option Ann:=bD [(9,⟨[2,3],[],[],[2],[]⟩)]
def f21_ann:Nat→Option Ann:=bD [(6,⟨[2,3,36,37,38],[],[],[],[]⟩)]
def f21_jn:Nat→Option Ann:=bD [(5,⟨[2,3],[],[],[],[]⟩)]
def f22_ann:Nat→Option Ann:=bD [(4,⟨[0,1,5],[],[],[],[]⟩)]
def f27_jn:Nat→Option Ann:=bD [(9,⟨[1,5],[],[],[],[]⟩)]
def f28_ann:Nat→Option Ann:=bD [(3,⟨[1,3,10,11,12],[3],[],[],[]⟩),(6,⟨[1,3,5,10,11,12,17,18,19],[3],[],[],[]⟩)]
def f28_jn:Nat→Option Ann:=bD [(11,⟨[1,3,5,10,11,12],[3],[],[],[]⟩),(14,⟨[1,3],[3],[],[],[]⟩)]
def f31_ann:Nat→Option Ann:=bD [(4,⟨[1,24,25,26],[],[],[],[]⟩)]
def f37_ann:Nat→Option Ann:=bD [(4,⟨[0,1,2,8,30,31,32],[8],[],[],[]⟩)]
def f37_jn:Nat→Option Ann:=bD [(8,⟨[0,2,8],[8],[],[],[]⟩)]
def f42_ann:Nat→Option Ann:=bD [(3,⟨[0,1],[],[],[],[]⟩)]
def f42_jn:Nat→Option Ann:=bD [(6,⟨[0,1,4,5,35],[],[],[],[]⟩)]
def f44_ann:Nat→Option Ann:=bD [(7,⟨[5,50,51,52],[],[],[],[]⟩)]
def f45_jn:Nat→Option Ann:=bD [(8,⟨[5,7],[],[],[],[]⟩)]
def f47_ann:Nat→Option Ann:=bD [(7,⟨[2,5,43,44,45],[5,43],[],[],[]⟩)]
def f48_ann:Nat→Option Ann:=bD [(4,⟨[0,1,12,13],[],[],[],[]⟩)]
def f54_ann:Nat→Option Ann:=bD [(2,⟨[0,1,13,14,15],[],[],[],[]⟩)]
def f58_ann:Nat→Option Ann:=bD [(4,⟨[2,3,21,22,23],[],[],[],[]⟩)]
def f58_jn:Nat→Option Ann:=bD [(9,⟨[2,3],[],[],[],[]⟩)]
def f60_ann:Nat→Option Ann:=bD [(1,⟨[0,6,7,8],[],[],[],[]⟩)]
def f61_jn:Nat→Option Ann:=bD [(5,⟨[1,4,5],[],[],[],[]⟩)]
def f63_jn:Nat→Option Ann:=bD [(13,⟨[1,6],[],[],[],[]⟩)]
def f64_ann:Nat→Option Ann:=bD [(1,⟨[0,1,3],[],[],[],[]⟩)]
def f65_ann:Nat→Option Ann:=bD [(2,⟨[1,3,14,15,16],[],[],[],[]⟩)]
def f66_jn:Nat→Option Ann:=bD [(6,⟨[1,4,18],[4],[],[],[]⟩)]
def f72_ann:Nat→Option Ann:=bD [(1,⟨[0,1,3],[],[],[],[]⟩)]
def f77_ann:Nat→Option Ann:=bD [(2,⟨[0,1,7,8],[],[],[],[]⟩)]
def f79_ann:Nat→Option Ann:=bD [(2,⟨[0,5,6,7],[],[],[],[]⟩)]
def f81_ann:Nat→Option Ann:=bD [(6,⟨[4,40,41,42],[],[],[],[]⟩)]
noncomputable def fns:FuncId→Option Func:=fun f=>bif f.beq 3 then some Try.f3 else bif f.beq 5 then some Try.f5 else bif f.beq 6 then some Try.f6 else bif f.beq 7 then some Try.f7 else bif f.beq 8 then some Try.f8 else bif f.beq 9 then some Try.f9 else bif f.beq 10 then some Try.f10 else bif f.beq 11 then some Try.f11 else bif f.beq 13 then some Try.f13 else bif f.beq 14 then some Try.f14 else bif f.beq 15 then some Try.f15 else bif f.beq 16 then some Try.f16 else bif f.beq 17 then some Try.f17 else bif f.beq 18 then some Try.f18 else bif f.beq 19 then some Try.f19 else bif f.beq 20 then some Try.f20 else bif f.beq 21 then some Try.f21 else bif f.beq 22 then some Try.f22 else bif f.beq 23 then some Try.f23 else bif f.beq 24 then some Try.f24 else bif f.beq 25 then some Try.f25 else bif f.beq 26 then some Try.f26 else bif f.beq 27 then some Try.f27 else bif f.beq 28 then some Try.f28 else bif f.beq 29 then some Try.f29 else bif f.beq 30 then some Try.f30 else bif f.beq 31 then some Try.f31 else bif f.beq 32 then some Try.f32 else bif f.beq 33 then some Try.f33 else bif f.beq 34 then some Try.f34 else bif f.beq 35 then some Try.f35 else bif f.beq 36 then some Try.f36 else bif f.beq 37 then some Try.f37 else bif f.beq 38 then some Try.f38 else bif f.beq 39 then some Try.f39 else bif f.beq 40 then some Try.f40 else bif f.beq 41 then some Try.f41 else bif f.beq 42 then some Try.f42 else bif f.beq 43 then some Try.f43 else bif f.beq 44 then some Try.f44 else bif f.beq 45 then some Try.f45 else bif f.beq 46 then some Try.f46 else bif f.beq 47 then some Try.f47 else bif f.beq 48 then some Try.f48 else bif f.beq 49 then some Try.f49 else bif f.beq 50 then some Try.f50 else bif f.beq 51 then some Try.f51 else bif f.beq 52 then some Try.f52 else bif f.beq 53 then some Try.f53 else bif f.beq 54 then some Try.f54 else bif f.beq 55 then some Try.f55 else bif f.beq 56 then some Try.f56 else bif f.beq 57 then some Try.f57 else bif f.beq 58 then some Try.f58 else bif f.beq 59 then some Try.f59 else bif f.beq 60 then some Try.f60 else bif f.beq 61 then some Try.f61 else bif f.beq 62 then some Try.f62 else bif f.beq 63 then some Try.f63 else bif f.beq 64 then some Try.f64 else bif f.beq 65 then some Try.f65 else bif f.beq 66 then some Try.f66 else bif f.beq 67 then some Try.f67 else bif f.beq 68 then some Try.f68 else bif f.beq 69 then some Try.f69 else bif f.beq 70 then some Try.f70 else bif f.beq 71 then some Try.f71 else bif f.beq 72 then some Try.f72 else bif f.beq 73 then some Try.f73 else bif f.beq 74 then some Try.f74 else bif f.beq 75 then some Try.f75 else bif f.beq 76 then some Try.f76 else bif f.beq 77 then some Try.f77 else bif f.beq 78 then some Try.f78 else bif f.beq 79 then some Try.f79 else bif f.beq 80 then some Try.f80 else bif f.beq 81 then some Try.f81 else bif f.beq 82 then some Try.f82 else bif f.beq 83 then some Try.f83 else bif f.beq 84 then some Try.f84 else bif f.beq 85 then some Try.f85 else none
def anns:FuncId→Nat→Option Ann:=fun f=>bif f.beq 3 then f3_ann else bif f.beq 7 then f7_ann else bif f.beq 9 then f9_ann else bif f.beq 14 then f14_ann else bif f.beq 17 then f17_ann else bif f.beq 21 then f21_ann else bif f.beq 22 then f22_ann else bif f.beq 28 then f28_ann else bif f.beq 31 then f31_ann else bif f.beq 37 then f37_ann else bif f.beq 42 then f42_ann else bif f.beq 44 then f44_ann else bif f.beq 47 then f47_ann else bif f.beq 48 then f48_ann else bif f.beq 54 then f54_ann else bif f.beq 58 then f58_ann else bif f.beq 60 then f60_ann else bif f.beq 64 then f64_ann else bif f.beq 65 then f65_ann else bif f.beq 72 then f72_ann else bif f.beq 77 then f77_ann else bif f.beq 79 then f79_ann else bif f.beq 81 then f81_ann else fun _=>none
def jns:FuncId→Nat→Option Ann:=fun f=>bif f.beq 3 then f3_jn else bif f.beq 7 then f7_jn else bif f.beq 9 then f9_jn else bif f.beq 10 then f10_jn else bif f.beq 13 then f13_jn else bif f.beq 16 then f16_jn else bif f.beq 17 then f17_jn else bif f.beq 21 then f21_jn else bif f.beq 27 then f27_jn else bif f.beq 28 then f28_jn else bif f.beq 37 then f37_jn else bif f.beq 42 then f42_jn else bif f.beq 45 then f45_jn else bif f.beq 58 then f58_jn else bif f.beq 61 then f61_jn else bif f.beq 63 then f63_jn else bif f.beq 66 then f66_jn else fun _=>none
def lent:FuncId→Option fh:=EA [(16,⟨63,[.sl,.sc,.sc,.sc,.sc,.sc,.sc,.sc,.sc,.sc,.sc,.sc,.sc,.sc,.sc,.sc,.sc,.sl,.sl,.sc,.sc,.sl]⟩)]
def selfT (t:TypeId):Bool:=cf t []
def ext:FuncId→Option (List TV→Option TV):=fun f=>none
def opn (f:FuncId):Bool:=cf f [17,24,26,27,29,30,35,36,37,38,39,40,42,43,46,49,50,52,54,55,57,60,62,64,65,72]
def eK:List (Nat × List Nat)→Nat→Option (List Nat)
 | [],_=>none
 | (k,d) :: r,t=>bif k.beq t then some d else eK r t
def f8_kp:Nat→Option (List Nat):=eK [(1001,[])]
def f16_kp:Nat→Option (List Nat):=eK [(1,[0]),(3010,[]),(4004,[])]
def f17_kp:Nat→Option (List Nat):=eK [(7005,[1,2,3,21,22]),(9001,[2,3])]
def f26_kp:Nat→Option (List Nat):=eK [(2003,[]),(4003,[]),(6003,[]),(8006,[]),(13003,[])]
def f27_kp:Nat→Option (List Nat):=eK [(3009,[]),(11006,[]),(13009,[]),(15005,[])]
def f28_kp:Nat→Option (List Nat):=eK [(9005,[1,3,5,10,11,12,17,18,19]),(12007,[1,3,10,11,12])]
def f30_kp:Nat→Option (List Nat):=eK [(2003,[1,3]),(7003,[3])]
def f35_kp:Nat→Option (List Nat):=eK [(1009,[1,5])]
def f36_kp:Nat→Option (List Nat):=eK [(1009,[1,5])]
def f37_kp:Nat→Option (List Nat):=eK [(1001,[])]
def f38_kp:Nat→Option (List Nat):=eK [(2001,[])]
def f39_kp:Nat→Option (List Nat):=eK [(3001,[])]
def f40_kp:Nat→Option (List Nat):=eK [(1,[0,1]),(2002,[]),(3001,[0,1])]
def f42_kp:Nat→Option (List Nat):=eK [(1,[0,1]),(1002,[0,1]),(2002,[]),(3001,[0,1]),(4004,[0,1,4]),(6004,[]),(7001,[0,1])]
def f45_kp:Nat→Option (List Nat):=eK [(2004,[2,5]),(3002,[5]),(8003,[])]
def f47_kp:Nat→Option (List Nat):=eK [(3008,[2,3,5]),(4015,[5]),(9003,[2,5,43,44,45])]
def f49_kp:Nat→Option (List Nat):=eK [(2001,[])]
def f54_kp:Nat→Option (List Nat):=eK [(4002,[0,1,13,14,15])]
def f64_kp:Nat→Option (List Nat):=eK [(3006,[0,1,3])]
def f72_kp:Nat→Option (List Nat):=eK [(3006,[0,1,3])]
def kps:FuncId→Nat→Option (List Nat):=fun f=>bif f.beq 8 then f8_kp else bif f.beq 16 then f16_kp else bif f.beq 17 then f17_kp else bif f.beq 26 then f26_kp else bif f.beq 27 then f27_kp else bif f.beq 28 then f28_kp else bif f.beq 30 then f30_kp else bif f.beq 35 then f35_kp else bif f.beq 36 then f36_kp else bif f.beq 37 then f37_kp else bif f.beq 38 then f38_kp else bif f.beq 39 then f39_kp else bif f.beq 40 then f40_kp else bif f.beq 42 then f42_kp else bif f.beq 45 then f45_kp else bif f.beq 47 then f47_kp else bif f.beq 49 then f49_kp else bif f.beq 54 then f54_kp else bif f.beq 64 then f64_kp else bif f.beq 72 then f72_kp else fun _=>none
def peek:FuncId→Option (Nat × Nat):=fun f=>bif f.beq 25 then some (21,22) else none
noncomputable def prog:AProg:=⟨tab,pure,rts,fns,anns,jns,lent,selfT,ext,opn,kps,peek⟩
end Go.Ab.A10
end

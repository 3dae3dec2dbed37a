import Derived.Test.YthgejdenjmjkoaaDM0
import Derived.IntWalk
import Derived.Lib.ItoaNum
import Derived.Test.YthgejdenjmjkoaaProg
section
namespace Go.Ab
def zInt:List Value:=[.int .i64 0]
def zBool:List Value:=[.bool false]
def zSl:List Value:=[.slice none 0 0]
end Go.Ab
end
section
namespace Go.Ab
set_option linter.unusedVariables false
section
variable {R:Type} {C C':FuncId→List TV→Option TV} {J J':List Nat→ASt→Option R}
theorem Prg.run_mono (hC:∀ f xs v,C f xs=some v→C' f xs=some v) (hJ:∀ p st r,J p st=some r→J' p st=some r):∀ {p:Prg R} {r:R},p.run C J=some r→p.run C' J'=some r
 | .fail,r,h=>by simp [Prg.run] at h
 | .ret x,r,h=>h
 | .tv p k,r,h=>by
  cases p with
  | none=>simp [Prg.run] at h
  | some v=>exact Prg.run_mono hC hJ (p:=k v) h
 | .tvs p k,r,h=>by
  cases p with
  | none=>simp [Prg.run] at h
  | some v=>exact Prg.run_mono hC hJ (p:=k v) h
 | .rws p k,r,h=>by
  cases p with
  | none=>simp [Prg.run] at h
  | some v=>exact Prg.run_mono hC hJ (p:=k v) h
 | .nat p k,r,h=>by
  cases p with
  | none=>simp [Prg.run] at h
  | some v=>exact Prg.run_mono hC hJ (p:=k v) h
 | .chk b k,r,h=>by
  cases b with
  | false=>simp [Prg.run] at h
  | true=>exact Prg.run_mono hC hJ (p:=k) h
 | .ite b t e, r, h => by
  cases b with
  | none=>simp [Prg.run] at h
  | some b =>
   cases b with
   | true=>exact Prg.run_mono hC hJ (p:=t) h
   | false=>exact Prg.run_mono hC hJ (p:=e) h
 | .call f xs k, r, h => by
  simp only [Prg.run] at h ⊢
  cases hc:C f xs with
  | none=>rw [hc] at h; simp at h
  | some v =>
   rw [hc] at h
   rw [hC _ _ _ hc]
   exact Prg.run_mono hC hJ (p:=k v) h
 | .jmp p st,r,h=>hJ _ _ _ h
end
section
variable {A:AProg} {f g:FuncId}
theorem runN_mono {C C':FuncId→List TV→Option TV} (hC:∀ f xs v,C f xs=some v→C' f xs=some v):∀ {m m':Nat},m≤m'→∀ {p:List Nat} {st:ASt} {r:TV},runN A C f m p st=some r→runN A C' f m' p st=some r
 | 0,_,_,_,_,_,h=>by simp [runN] at h
 | m + 1,0,hle,_,_,_,_=>by omega
 | m + 1,m' + 1,hle,p,st,r,h=>by
  simp only [runN] at h ⊢
  exact Prg.run_mono hC (fun p st r h=>runN_mono hC (by omega) h) h
theorem acall_mono:∀ {n n':Nat},n≤n'→∀ {f:FuncId} {args:List TV} {r:TV},acall A n f args=some r→acall A n' f args=some r
 | 0,_,_,_,_,_,h=>by simp [acall] at h
 | n + 1,0,hle,_,_,_,_=>by omega
 | n + 1, n' + 1, hle, f, args, r, h => by
  simp only [acall] at h ⊢
  have hC:∀ f xs v,acall A n f xs=some v→acall A n' f xs=some v:=fun f xs v h=>acall_mono (by omega) h
  split at h
  ·rename_i g hg
   exact h
  ·exact Prg.run_mono hC (fun p st r h=>runN_mono hC (by omega) h) h
def Runs (A:AProg) (f:FuncId) (args:List TV) (r:TV):Prop:=∃ n,acall A n f args=some r
def Goes (A:AProg) (f:FuncId) (p:Prg TV) (r:TV):Prop:=∃ n,p.run (acall A n) (runN A (acall A n) f n)=some r
variable {r:TV}
theorem Goes.up {p:Prg TV} {n n':Nat} (h:p.run (acall A n) (runN A (acall A n) f n)=some r) (hle:n≤n'):p.run (acall A n') (runN A (acall A n') f n')=some r :=
 Prg.run_mono (fun _ _ _ h=>acall_mono hle h) (fun _ _ _ h=>runN_mono (fun _ _ _ h=>acall_mono hle h) hle h) h
theorem Goes.ret:Goes A f (.ret r) r:=⟨0,rfl⟩
theorem goes_ret {x:TV}:Goes A f (.ret x) r ↔ x=r:=⟨fun ⟨n,h⟩=>by simpa [Prg.run] using h,fun h=>h ▸ Goes.ret⟩
theorem goes_tv {p:Option TV} {k:TV→Prg TV}:Goes A f (.tv p k) r ↔ ∃ v,p=some v∧Goes A f (k v) r:=by
 constructor
 ·rintro ⟨n,h⟩
  cases p with
  | none=>simp [Prg.run] at h
  | some v=>exact ⟨v,rfl,n,h⟩
 ·rintro ⟨v,rfl,n,h⟩; exact ⟨n,h⟩
theorem goes_tvs {p:Option (List TV)} {k:List TV→Prg TV}:Goes A f (.tvs p k) r ↔ ∃ v,p=some v∧Goes A f (k v) r:=by
 constructor
 ·rintro ⟨n,h⟩
  cases p with
  | none=>simp [Prg.run] at h
  | some v=>exact ⟨v,rfl,n,h⟩
 ·rintro ⟨v,rfl,n,h⟩; exact ⟨n,h⟩
theorem goes_rws {p:Option (List (List TV))} {k:List (List TV)→Prg TV}:Goes A f (.rws p k) r ↔ ∃ v,p=some v∧Goes A f (k v) r:=by
 constructor
 ·rintro ⟨n,h⟩
  cases p with
  | none=>simp [Prg.run] at h
  | some v=>exact ⟨v,rfl,n,h⟩
 ·rintro ⟨v,rfl,n,h⟩; exact ⟨n,h⟩
theorem goes_nat {p:Option Nat} {k:Nat→Prg TV}:Goes A f (.nat p k) r ↔ ∃ v,p=some v∧Goes A f (k v) r:=by
 constructor
 ·rintro ⟨n,h⟩
  cases p with
  | none=>simp [Prg.run] at h
  | some v=>exact ⟨v,rfl,n,h⟩
 ·rintro ⟨v,rfl,n,h⟩; exact ⟨n,h⟩
theorem goes_chk {b:Bool} {k:Prg TV}:Goes A f (.chk b k) r ↔ b=true∧Goes A f k r:=by
 constructor
 ·rintro ⟨n,h⟩
  cases b with
  | false=>simp [Prg.run] at h
  | true=>exact ⟨rfl,n,h⟩
 ·rintro ⟨rfl,n,h⟩; exact ⟨n,h⟩
theorem goes_ite {b:Option Bool} {t e:Prg TV}:Goes A f (.ite b t e) r ↔ ∃ v,b=some v∧Goes A f (bif v then t else e) r:=by
 constructor
 ·rintro ⟨n,h⟩
  cases b with
  | none=>simp [Prg.run] at h
  | some v=>refine ⟨v,rfl,n,?_⟩; cases v <;> exact h
 ·rintro ⟨v,rfl,n,h⟩; refine ⟨n,?_⟩; cases v <;> exact h
theorem goes_call {xs:List TV} {k:TV→Prg TV}:Goes A f (.call g xs k) r ↔ ∃ v,Runs A g xs v∧Goes A f (k v) r:=by
 constructor
 ·rintro ⟨n,h⟩
  simp only [Prg.run] at h
  cases hc:acall A n g xs with
  | none=>rw [hc] at h; simp at h
  | some v=>rw [hc] at h; exact ⟨v,⟨n,hc⟩,n,h⟩
 ·rintro ⟨v,⟨n,hc⟩,m,h⟩
  refine ⟨max n m,?_⟩
  simp only [Prg.run]
  rw [acall_mono (Nat.le_max_left n m) hc]
  exact Goes.up h (Nat.le_max_right n m)
theorem goes_jmp {p:List Nat} {st:ASt}:Goes A f (.jmp p st) r ↔ Goes A f (pieceQ A f p st) r:=by
 constructor
 ·rintro ⟨n,h⟩
  cases n with
  | zero=>simp [Prg.run,runN] at h
  | succ n =>
   refine ⟨n + 1,?_⟩
   simp only [Prg.run,runN] at h
   exact Prg.run_mono (fun _ _ _ h=>h) (fun _ _ _ h=>runN_mono (fun _ _ _ h=>h) (Nat.le_succ n) h) h
 ·rintro ⟨n,h⟩
  refine ⟨n + 1,?_⟩
  simp only [Prg.run,runN]
  exact Prg.run_mono (fun _ _ _ h=>acall_mono (Nat.le_succ n) h) (fun _ _ _ h=>runN_mono (fun _ _ _ h=>acall_mono (Nat.le_succ n) h) (Nat.le_refl n) h) h
theorem runs_iff {args:List TV} (hx:A.ext f=none):Runs A f args r ↔ Goes A f (startQ A f args) r:=by
 constructor
 ·rintro ⟨n,h⟩
  cases n with
  | zero=>simp [acall] at h
  | succ n=>simp only [acall,hx] at h; exact ⟨n,h⟩
 ·rintro ⟨n,h⟩; exact ⟨n + 1,by simp only [acall,hx]; exact h⟩
theorem Runs.ext {args:List TV} {g:List TV→Option TV} (hx:A.ext f=some g) (h:g args=some r):Runs A f args r:=⟨1,by simp only [acall,hx]; exact h⟩
theorem Runs.det {args:List TV} {r r':TV} (h:Runs A f args r) (h':Runs A f args r'):r=r':=by
 obtain ⟨n,h⟩:=h
 obtain ⟨m,h'⟩:=h'
 have h1:=acall_mono (Nat.le_max_left n m) h
 have h2:=acall_mono (Nat.le_max_right n m) h'
 rw [h1] at h2
 exact Option.some.inj h2
theorem Goes.tv {p:Option TV} {k:TV→Prg TV} {v:TV} (h:p=some v) (hk:Goes A f (k v) r):Goes A f (.tv p k) r:=goes_tv.2 ⟨v,h,hk⟩
theorem Goes.tvs {p:Option (List TV)} {k:List TV→Prg TV} {v:List TV} (h:p=some v) (hk:Goes A f (k v) r):Goes A f (.tvs p k) r:=goes_tvs.2 ⟨v,h,hk⟩
theorem Goes.rws {p:Option (List (List TV))} {k:List (List TV)→Prg TV} {v:List (List TV)} (h:p=some v) (hk:Goes A f (k v) r):Goes A f (.rws p k) r:=goes_rws.2 ⟨v,h,hk⟩
theorem Goes.nat {p:Option Nat} {k:Nat→Prg TV} {v:Nat} (h:p=some v) (hk:Goes A f (k v) r):Goes A f (.nat p k) r:=goes_nat.2 ⟨v,h,hk⟩
theorem Goes.chk {b:Bool} {k:Prg TV} (h:b=true) (hk:Goes A f k r):Goes A f (.chk b k) r:=goes_chk.2 ⟨h,hk⟩
theorem Goes.ite {b:Option Bool} {t e:Prg TV} {v:Bool} (h:b=some v) (ht:v=true→Goes A f t r) (he:v=false→Goes A f e r):Goes A f (.ite b t e) r:=by
 refine goes_ite.2 ⟨v,h,?_⟩
 cases v with
 | true=>exact ht rfl
 | false=>exact he rfl
theorem Goes.call {xs:List TV} {k:TV→Prg TV} {v:TV} (h:Runs A g xs v) (hk:Goes A f (k v) r):Goes A f (.call g xs k) r:=goes_call.2 ⟨v,h,hk⟩
theorem Goes.jmp {p:List Nat} {st:ASt} {q:Prg TV} (h:pieceQ A f p st=q) (hk:Goes A f q r):Goes A f (.jmp p st) r:=goes_jmp.2 (h ▸ hk)
theorem Runs.of {args:List TV} {q:Prg TV} (h:startQ A f args=q) (hk:Goes A f q r) (hx:A.ext f=none:=by rfl):Runs A f args r:=(runs_iff hx).2 (h ▸ hk)
end
end Go.Ab
end
section
namespace Go.Ab
set_option linter.unusedVariables false
inductive F2 {α β:Type} (R:α→β→Prop):List α→List β→Prop
 | nil:F2 R [] []
 | cons {a b l m}:R a b→F2 R l m→F2 R (a :: l) (b :: m)
section
variable {α β γ:Type} {R S:α→β→Prop}
theorem F2.length {xs:List α} {l:List β} (h:F2 R xs l):xs.length=l.length:=by
 induction h with
 | nil=>rfl
 | cons _ _ ih=>simp [ih]
theorem F2.get {xs:List α} {l:List β} (h:F2 R xs l):∀ {i:Nat} {a:β},l[i]? = some a→∃ e,xs[i]? = some e∧R e a:=by
 induction h with
 | nil=>intro i a h; simp at h
 | cons hr _ ih =>
  intro i a h
  cases i with
  | zero=>simp at h; subst h; exact ⟨_,rfl,hr⟩
  | succ i=>simp at h; simpa using ih h
theorem F2.getL {xs:List α} {l:List β} (h:F2 R xs l):∀ {i:Nat} {e:α},xs[i]? = some e→∃ a,l[i]? = some a∧R e a:=by
 induction h with
 | nil=>intro i a h; simp at h
 | cons hr _ ih =>
  intro i a h
  cases i with
  | zero=>simp at h; subst h; exact ⟨_,rfl,hr⟩
  | succ i=>simp at h; simpa using ih h
theorem F2.mono (hm:∀ e a,R e a→S e a) {xs:List α} {l:List β} (h:F2 R xs l):F2 S xs l:=by
 induction h with
 | nil=>exact .nil
 | cons hr _ ih=>exact .cons (hm _ _ hr) ih
theorem F2.append {xs ys:List α} {l m:List β} (h:F2 R xs l) (h':F2 R ys m):F2 R (xs ++ ys) (l ++ m):=by
 induction h with
 | nil=>exact h'
 | cons hr _ ih=>exact .cons hr ih
theorem F2.take {xs:List α} {l:List β} (h:F2 R xs l):∀ n,F2 R (xs.take n) (l.take n):=by
 induction h with
 | nil=>intro n; simp; exact .nil
 | cons hr _ ih=>intro n; cases n with
  | zero=>exact .nil
  | succ n=>exact .cons hr (ih n)
theorem F2.drop {xs:List α} {l:List β} (h:F2 R xs l):∀ n,F2 R (xs.drop n) (l.drop n):=by
 induction h with
 | nil=>intro n; simp; exact .nil
 | cons hr h ih=>intro n; cases n with
  | zero=>exact .cons hr h
  | succ n=>exact ih n
theorem F2.set {xs:List α} {l:List β} (h:F2 R xs l):∀ {i:Nat} {e:α} {a:β},R e a→F2 R (setNth xs i e) (l.set i a):=by
 induction h with
 | nil=>intro i e a _; exact .nil
 | cons hr h ih=>intro i e a hea; cases i with
  | zero=>exact .cons hea h
  | succ i=>exact .cons hr (ih hea)
theorem F2.mapL {f:γ→α} {Q:γ→β→Prop} {xs:List γ} {l:List β} (h:F2 Q xs l) (hf:∀ x a,Q x a→R (f x) a):F2 R (xs.map f) l:=by
 induction h with
 | nil=>exact .nil
 | cons hr _ ih=>exact .cons (hf _ _ hr) ih
theorem F2.of_get {xs:List α}:∀ {l:List β},xs.length=l.length→(∀ (i:Nat) e a,xs[i]? = some e→l[i]? = some a→R e a)→F2 R xs l:=by
 induction xs with
 | nil=>intro l h _; cases l with
  | nil=>exact .nil
  | cons _ _=>simp at h
 | cons x xs ih=>intro l h hg; cases l with
  | nil=>simp at h
  | cons a l=>exact .cons (hg 0 x a rfl rfl) (ih (by simpa using h) fun i e b he hb=>hg (i + 1) e b (by simpa using he) (by simpa using hb))
end
abbrev I (n:Int):TV:=.lit (.int .i64 n)
abbrev W (n:Int):TV:=.lit (.int .u16 n)
abbrev B (b:Bool):TV:=.lit (.bool b)
def inI (n:Int):Prop:=-9223372036854775808≤n∧n≤9223372036854775807
def inW (n:Int):Prop:=0≤n∧n≤65535
def RL {α:Type} (q:Option Bool) (s:Nat) (R:List TV→α→Prop) (x:TV) (l:List α):Prop :=
 (x=.lit nilV∧l=[])∨∃ o xs,x=.sl o s xs∧(∀ b,q=some b→o=b)∧F2 R xs l∧xs.length≤9223372036854775807
theorem frzLL_map:∀ ys:List (List TV),frzLL ys=ys.map frzL
 | []=>rfl
 | y :: ys=>by simp [frzLL,frzLL_map ys]
section
variable {α:Type} {q:Option Bool} {s:Nat} {R S:List TV→α→Prop} {x:TV} {l:List α}
theorem RL.nil:RL q s R (.lit nilV) []:=.inl ⟨rfl,rfl⟩
theorem RL.sl {o:Bool} {xs:List (List TV)} (hq:∀ b,q=some b→o=b) (h:F2 R xs l) (hb:xs.length≤9223372036854775807):RL q s R (.sl o s xs) l:=.inr ⟨o,xs,rfl,hq,h,hb⟩
theorem RL.bnd (h:RL q s R x l):l.length≤9223372036854775807:=by
 rcases h with ⟨rfl,rfl⟩ | ⟨o,xs,rfl,hq,h,hb⟩
 ·simp
 ·rw [← h.length]; exact hb
theorem RL.weak (h:RL q s R x l) (hm:∀ e a,R e a→S e a):RL none s S x l:=by
 rcases h with ⟨rfl,rfl⟩ | ⟨o,xs,rfl,hq,h,hb⟩
 ·exact .nil
 ·exact .sl (by simp) (h.mono hm) hb
theorem RL.len {t:TypeId} (h:RL q s R x l):plen (.slice t) x=some (I l.length):=by
 rcases h with ⟨rfl,rfl⟩ | ⟨o,xs,rfl,hq,h,hb⟩
 ·rfl
 ·simp [plen,h.length]
theorem RL.slLen (h:RL q s R x l):Go.Ab.slLen x=some l.length:=by
 rcases h with ⟨rfl,rfl⟩ | ⟨o,xs,rfl,hq,h,hb⟩
 ·rfl
 ·simp [Go.Ab.slLen,h.length]
theorem RL.slSize (h:RL q s R x l):Go.Ab.slSize x s=true:=by
 rcases h with ⟨rfl,rfl⟩ | ⟨o,xs,rfl,hq,h,hb⟩
 ·rfl
 ·simp [Go.Ab.slSize]
theorem RL.isSl (h:RL q s R x l):x.isSl=true:=by
 rcases h with ⟨rfl,rfl⟩ | ⟨o,xs,rfl,hq,h,hb⟩ <;> rfl
theorem RL.idx (h:RL q s R x l) {k:IntKind} {i:Nat} {a:α} (hi:l[i]? = some a):∃ e,pidx s x (.lit (.int k i))=some e∧R e a:=by
 rcases h with ⟨rfl,rfl⟩ | ⟨o,xs,rfl,hq,h,hb⟩
 ·simp at hi
 ·obtain ⟨e,he,hr⟩:=h.get hi
  exact ⟨e,by simp [pidx,he],hr⟩
theorem RL.pel (h:RL q s R x l) {i:Nat} {a:α} (hi:l[i]? = some a):∃ e,Go.Ab.pel x i=some e∧R e a:=by
 rcases h with ⟨rfl,rfl⟩ | ⟨o,xs,rfl,hq,h,hb⟩
 ·simp at hi
 ·exact h.get hi
theorem RL.frz (h:RL q s R x l) (hm:∀ e a,R e a→S (frzL e) a):RL (some false) s S (frz x) l:=by
 rcases h with ⟨rfl,rfl⟩ | ⟨o,xs,rfl,hq,h,hb⟩
 ·exact .nil
 ·refine .sl (by simp) ?_ ?_
  rotate_left
  ·rw [frzLL_map,List.length_map]; exact hb
  rw [frzLL_map]
  exact h.mapL hm
end
def RI1 (e:List TV) (n:Int):Prop:=e=[I n]∧inI n
def RW1 (e:List TV) (n:Int):Prop:=e=[W n]∧inW n
def RB1 (e:List TV) (b:Bool):Prop:=e=[B b]
abbrev RInts (q:Option Bool):TV→List Int→Prop:=RL q 1 RI1
abbrev RWords (q:Option Bool):TV→List Int→Prop:=RL q 1 RW1
abbrev RBools (q:Option Bool):TV→List Bool→Prop:=RL q 1 RB1
structure DIns where
 op:Int
 dst:Int
 a:Int
 b:Int
 k:Int
 f:Int
 args:List Int
structure DEnd where
 kind:Int
 a:Int
 dst:Int
 f:Int
 args:List Int
 to:Int
 els:Int
 pad:Int
structure DPad where
 dst:Int
 catches:List Int
 all:Bool
 cleanup:Bool
structure DBlock where
 landing:Bool
 pad:DPad
 ins:List DIns
 fin:DEnd
structure DFunc where
 params:Int
 regs:Int
 blocks:List DBlock
structure DMod where
 funcs:List DFunc
def DIns.ok (x:DIns):Prop:=inI x.op∧inI x.dst∧inI x.a∧inI x.b∧inW x.k∧inI x.f
def DEnd.ok (x:DEnd):Prop:=inI x.kind∧inI x.a∧inI x.dst∧inI x.f∧inI x.to∧inI x.els∧inI x.pad
def RIns (q:Option Bool) (e:List TV) (x:DIns):Prop:=∃ g,e=[I x.op,I x.dst,I x.a,I x.b,W x.k,I x.f,g]∧RInts q g x.args∧x.ok
def REnd (q:Option Bool) (e:List TV) (x:DEnd):Prop:=∃ g,e=[I x.kind,I x.a,I x.dst,I x.f,g,I x.to,I x.els,I x.pad]∧RInts q g x.args∧x.ok
def RPad (q:Option Bool) (e:List TV) (x:DPad):Prop:=∃ g,e=[I x.dst,g,B x.all,B x.cleanup]∧RWords q g x.catches∧inI x.dst
def RBlock (q:Option Bool) (e:List TV) (x:DBlock):Prop:=∃ c i g,e=[B x.landing,I x.pad.dst,c,B x.pad.all,B x.pad.cleanup,i,I x.fin.kind,I x.fin.a,I x.fin.dst,I x.fin.f,g,I x.fin.to,I x.fin.els,I x.fin.pad] ∧
 RWords q c x.pad.catches∧inI x.pad.dst∧RL q 7 (RIns q) i x.ins∧RInts q g x.fin.args∧x.fin.ok
def RFunc (q:Option Bool) (e:List TV) (x:DFunc):Prop:=∃ b,e=[I x.params,I x.regs,b]∧RL q 14 (RBlock q) b x.blocks∧inI x.params∧inI x.regs
theorem RI1.frz {e:List TV} {n:Int} (h:RI1 e n):RI1 (frzL e) n:=by obtain ⟨rfl,h⟩:=h; exact ⟨rfl,h⟩
theorem padd {a b:Int} (h:inI (a + b)):pbin (.int .i64) .add (I a) (I b)=some (I (a + b)):=by
 simp [pbin,intBin,IntWalk.i64_in _ h]
theorem psub {a b:Int} (h:inI (a - b)):pbin (.int .i64) .sub (I a) (I b)=some (I (a - b)):=by
 simp [pbin,intBin,IntWalk.i64_in _ h]
theorem inc {k n:Nat} (h:k < n) (hn:n≤9223372036854775807):pbin (.int .i64) .add (I (k:Int)) (I (1:Int))=some (I ((k + 1:Nat):Int)):=by
 rw [padd (by constructor <;> omega)]; rfl
open Classical in
noncomputable def tt (p:Prop):Bool:=decide p
theorem tt_iff {p:Prop}:tt p=true ↔ p:=by simp [tt]
theorem tt_eq {b:Bool} {p:Prop} (h:b=true ↔ p):b=tt p:=by
 cases b with
 | true=>exact (tt_iff.2 (h.1 rfl)).symm
 | false =>
  cases hp:tt p with
  | false=>rfl
  | true=>exact absurd (h.2 (tt_iff.1 hp)) (by simp)
theorem tt_congr {p p':Prop} (h:p ↔ p'):tt p=tt p':=by rw [propext h]
theorem tt_true {p:Prop} (h:p):tt p=true:=tt_iff.2 h
theorem tt_false {p:Prop} (h:¬ p):tt p=false:=by
 cases hp:tt p with
 | false=>rfl
 | true=>exact absurd (tt_iff.1 hp) h
section
variable {A:AProg} {f:FuncId}
theorem ret_tt {b:Bool} {p:Prop} (h:b=true ↔ p):Goes A f (.ret (B b)) (B (tt p)):=by rw [← tt_eq h]; exact Goes.ret
theorem ret_no {p:Prop} (h:¬ p):Goes A f (.ret (B false)) (B (tt p)):=ret_tt (by simp [h])
end
def allFrom (k n:Nat) (P:Nat→Prop):Prop:=∀ i,k≤i→i < n→P i
theorem allFrom_end {n:Nat} {P:Nat→Prop}:allFrom n n P:=fun i h1 h2=>by omega
theorem allFrom_step {k n:Nat} {P:Nat→Prop} (h:k < n):allFrom k n P ↔ P k∧allFrom (k + 1) n P:=by
 constructor
 ·intro ha; exact ⟨ha k (Nat.le_refl k) h,fun i h1 h2=>ha i (by omega) h2⟩
 ·rintro ⟨hp,ha⟩ i h1 h2
  by_cases hi:i=k
  ·subst hi; exact hp
  ·exact ha i (by omega) h2
theorem allFrom_zero {n:Nat} {P:Nat→Prop}:allFrom 0 n P ↔ ∀ i,i < n→P i:=⟨fun h i hi=>h i (Nat.zero_le i) hi,fun h i _ hi=>h i hi⟩
theorem list_eq_iff {α:Type} {l m:List α} (h:l.length=m.length):l=m ↔ allFrom 0 l.length fun i=>l[i]? = m[i]? := by
 rw [allFrom_zero]
 constructor
 ·rintro rfl i _; rfl
 ·intro ha
  apply List.ext_getElem? 
  intro i
  by_cases hi:i < l.length
  ·exact ha i hi
  ·rw [List.getElem?_eq_none (by omega),List.getElem?_eq_none (by omega)]
end Go.Ab
namespace Go.Ab
theorem allLoop {A:AProg} {f:FuncId} {n:Nat} {P:Nat→Prop} {Q:Prop} {g:Nat→Prg TV} (hend:Goes A f (g n) (B (tt Q)))
  (hstep:∀ k,k < n→∀ r,(¬ P k→r=B false)→(P k→Goes A f (g (k + 1)) r)→Goes A f (g k) r):∀ d k,k + d=n→Goes A f (g k) (B (tt (allFrom k n P∧Q))):=by
 intro d
 induction d with
 | zero =>
  intro k hk
  have hk:k=n:=by omega
  subst hk
  rw [show tt (allFrom k k P∧Q)=tt Q from tt_congr ⟨fun h=>h.2,fun h=>⟨allFrom_end,h⟩⟩]
  exact hend
 | succ d ih =>
  intro k hk
  have hlt:k < n:=by omega
  refine hstep k hlt _ (fun hp=>?_) (fun hp=>?_)
  ·rw [tt_false]
   intro h
   exact hp ((allFrom_step hlt).1 h.1).1
  ·rw [show tt (allFrom k n P∧Q)=tt (allFrom (k + 1) n P∧Q) from tt_congr ⟨fun h=>⟨((allFrom_step hlt).1 h.1).2,h.2⟩,fun h=>⟨(allFrom_step hlt).2 ⟨hp,h.1⟩,h.2⟩⟩]
   exact ih (k + 1) (by omega)
theorem allLoop' {A:AProg} {f:FuncId} {n:Nat} {P:Nat→Prop} {g:Nat→Prg TV} (hend:Goes A f (g n) (B true))
  (hstep:∀ k,k < n→∀ r,(¬ P k→r=B false)→(P k→Goes A f (g (k + 1)) r)→Goes A f (g k) r):Goes A f (g 0) (B (tt (∀ i,i < n→P i))):=by
 have:=allLoop (Q:=True) (by rw [tt_true trivial]; exact hend) hstep n 0 (by omega)
 rw [show tt (∀ i,i < n→P i)=tt (allFrom 0 n P∧True) from tt_congr ⟨fun h=>⟨allFrom_zero.2 h,trivial⟩,fun h=>allFrom_zero.1 h.1⟩]
 exact this
theorem asB_lt {k n:Nat} (h:k < n):asBool (.lit (.bool (decide ((k:Int) < (n:Int)))))=some true:=by simp [asBool,h]
theorem asB_end {n:Nat}:asBool (.lit (.bool (decide ((n:Int) < (n:Int)))))=some false:=by simp [asBool]
theorem list_eq_iff' {α:Type} {l m:List α} (h:l.length=m.length):l=m ↔ ∀ i,i < l.length→l[i]? = m[i]? := by
 rw [list_eq_iff h,allFrom_zero]
end Go.Ab
namespace Go.Ab
end Go.Ab
end
section
namespace Go.Ab
def lookD:List (Nat × LentD)→Nat→Option LentD
 | [],_=>none
 | (k,d) :: r,t=>bif k.beq t then some d else lookD r t
end Go.Ab
end
section
set_option linter.unusedVariables false
set_option linter.unusedSectionVars false
namespace Go.Ab
inductive Both (o:List Int):Int→Int→Int→Prop
 | done {a:Int}:Both o a a a
 | left {a b a' r:Int}:a≠b→a > b→0≤a→o[a.toNat]? = some a'→Both o a' b r→Both o a b r
 | right {a b b' r:Int}:a≠b→¬ a > b→0≤b→o[b.toNat]? = some b'→Both o a b' r→Both o a b r
theorem Both.det {o:List Int} {a b r r':Int} (h:Both o a b r) (h':Both o a b r'):r=r':=by
 induction h with
 | done =>
  cases h' with
  | done=>rfl
  | left h=>exact absurd rfl h
  | right h=>exact absurd rfl h
 | left h1 h2 h3 h4 _ ih =>
  cases h' with
  | done=>exact absurd rfl h1
  | left _ _ _ h5 h6=>rw [h4] at h5; cases h5; exact ih h6
  | right _ h5=>exact absurd h2 h5
 | right h1 h2 h3 h4 _ ih =>
  cases h' with
  | done=>exact absurd rfl h1
  | left _ h5=>exact absurd h5 h2
  | right _ _ _ h5 h6=>rw [h4] at h5; cases h5; exact ih h6
inductive Bths (o:List Int):Int→List Int→Int→Prop
 | nil {v:Int}:Bths o v [] v
 | cons {v n v' r:Int} {l:List Int}:Both o v n v'→Bths o v' l r→Bths o v (n :: l) r
theorem Bths.det {o:List Int} {v r r':Int} {l:List Int} (h:Bths o v l r) (h':Bths o v l r'):r=r':=by
 induction h with
 | nil=>cases h'; rfl
 | cons h1 _ ih=>cases h' with | cons h2 h3=>cases h1.det h2; exact ih h3
def AllP (o l:List Int) (r:Int):Prop:=∃ v,l.getLast? = some v∧Bths o v l.reverse r
theorem AllP.det {o l:List Int} {r r':Int} (h:AllP o l r) (h':AllP o l r'):r=r':=by
 obtain ⟨v,h1,h2⟩:=h
 obtain ⟨v',h3,h4⟩:=h'
 rw [h1] at h3
 cases h3
 exact h2.det h4
theorem ints_det:∀ {xs:List (List TV)} {l l':List Int},F2 RI1 xs l→F2 RI1 xs l'→l=l'
 | _,_,_,.nil,.nil=>rfl
 | _,_,_,.cons h1 h2,.cons h3 h4=>by
  obtain ⟨e1,_⟩:=h1
  obtain ⟨e2,_⟩:=h3
  rw [e1] at e2
  cases e2
  rw [ints_det h2 h4]
inductive Up (T:Nat→Nat):Nat→Nat→Prop
 | refl {n:Nat}:Up T n n
 | step {n x:Nat}:n≠0→Up T (T n) x→Up T n x
def Low (N:Nat) (T:Nat→Nat):Prop:=∀ n,n≠0→n < N→T n < n
theorem Up.trans {T:Nat→Nat} {a b c:Nat} (h:Up T a b) (h':Up T b c):Up T a c:=by
 induction h with
 | refl=>exact h'
 | step h0 _ ih=>exact .step h0 (ih h')
theorem Up.le {N:Nat} {T:Nat→Nat} (hT:Low N T) {n x:Nat} (h:Up T n x):n < N→x≤n:=by
 induction h with
 | refl=>intro _; exact Nat.le_refl _
 | step h0 _ ih=>intro hn; have:=hT _ h0 hn; exact Nat.le_of_lt (Nat.lt_of_le_of_lt (ih (by omega)) this)
theorem Up.inv {T:Nat→Nat} {n x:Nat} (h:Up T n x) (hx:x≠n):n≠0∧Up T (T n) x:=by
 cases h with
 | refl=>exact absurd rfl hx
 | step h0 h=>exact ⟨h0,h⟩
theorem Up.zero {T:Nat→Nat} {x:Nat} (h:Up T 0 x):x=0:=by
 cases h with
 | refl=>rfl
 | step h0 _=>exact absurd rfl h0
def TreeL (N:Nat) (o:List Int) (T:Nat→Nat):Prop:=o.length=N∧∀ n,n < N→o[n]? = some ((T n:Nat):Int)
theorem both_ex {N:Nat} {o:List Int} {T:Nat→Nat} (ho:TreeL N o T) (hT:Low N T):∀ (d a b:Nat),a + b≤d→a < N→b < N→∃ r:Nat,Both o a b r∧r≤a∧∀ x,Up T r x ↔ Up T a x∧Up T b x:=by
 intro d
 induction d with
 | zero =>
  intro a b h ha hb
  have:a=0:=by omega
  subst this
  have:b=0:=by omega
  subst this
  exact ⟨0,.done,Nat.le_refl _,fun x=>⟨fun h=>⟨h,h⟩,fun h=>h.1⟩⟩
 | succ d ih =>
  intro a b h ha hb
  by_cases hab:a=b
  ·subst hab
   exact ⟨a,.done,Nat.le_refl _,fun x=>⟨fun h=>⟨h,h⟩,fun h=>h.1⟩⟩
  ·by_cases hgt:b < a
   ·have hl:=hT a (by omega) ha
    obtain ⟨r,h1,h2,h3⟩:=ih (T a) b (by omega) (by omega) hb
    refine ⟨r,.left (by omega) (by omega) (by omega) (by rw [Int.toNat_natCast]; exact ho.2 a ha) h1,by omega,fun x=>?_⟩
    rw [h3]
    constructor
    ·exact fun ⟨h4,h5⟩=>⟨.step (by omega) h4,h5⟩
    ·rintro ⟨h4,h5⟩
     refine ⟨(h4.inv fun e=>?_).2,h5⟩
     subst e
     have:=h5.le hT hb
     omega
   ·have hl:=hT b (by omega) hb
    obtain ⟨r,h1,h2,h3⟩:=ih a (T b) (by omega) ha (by omega)
    refine ⟨r,.right (by omega) (by omega) (by omega) (by rw [Int.toNat_natCast]; exact ho.2 b hb) h1,h2,fun x=>?_⟩
    rw [h3]
    constructor
    ·exact fun ⟨h4,h5⟩=>⟨h4,.step (by omega) h5⟩
    ·rintro ⟨h4,h5⟩
     refine ⟨h4,(h5.inv fun e=>?_).2⟩
     subst e
     have:=h4.le hT ha
     omega
theorem bths_ex {N:Nat} {o:List Int} {T:Nat→Nat} (ho:TreeL N o T) (hT:Low N T):∀ (l:List Nat) (v:Nat),v < N→(∀ p ∈ l,p < N)→∃ r:Nat,Bths o v (l.map fun p:Nat=>(p:Int)) r∧r≤v∧∀ x,Up T r x ↔ Up T v x∧∀ p ∈ l,Up T p x
 | [],v,hv,hl=>⟨v,.nil,Nat.le_refl _,fun x=>by simp⟩
 | p :: l,v,hv,hl=>by
  obtain ⟨r,h1,h2,h3⟩:=both_ex ho hT _ v p (Nat.le_refl _) hv (hl p List.mem_cons_self)
  obtain ⟨s,h4,h5,h6⟩:=bths_ex ho hT l r (by omega) (fun q hq=>hl q (List.mem_cons_of_mem _ hq))
  refine ⟨s,.cons h1 h4,by omega,fun x=>?_⟩
  rw [h6,h3]
  simp only [List.mem_cons,forall_eq_or_imp,and_assoc]
theorem all_ex {N:Nat} {o:List Int} {T:Nat→Nat} (ho:TreeL N o T) (hT:Low N T) {l:List Nat} (h0:l≠[]) (hl:∀ p ∈ l,p < N):∃ r:Nat,AllP o (l.map fun p:Nat=>(p:Int)) r∧r < N∧∀ x,Up T r x ↔ ∀ p ∈ l,Up T p x:=by
 have hm:=List.getLast_mem h0
 obtain ⟨r,h1,h2,h3⟩:=bths_ex ho hT l.reverse (l.getLast h0) (hl _ hm) (fun p hp=>hl p (List.mem_reverse.1 hp))
 have:=hl _ hm
 refine ⟨r,⟨((l.getLast h0:Nat):Int),?_,?_⟩,by omega,fun x=>?_⟩
 ·rw [List.getLast?_map,List.getLast?_eq_some_getLast h0]; rfl
 ·rw [← List.map_reverse]; exact h1
 ·rw [h3]
  constructor
  ·exact fun h p hp=>h.2 p (List.mem_reverse.2 hp)
  ·exact fun h=>⟨h _ hm,fun p hp=>h p (List.mem_reverse.1 hp)⟩
inductive Rv (pr:Nat→List Nat) (d:Nat):Nat→Prop
 | start:0≠d→Rv pr d 0
 | next {p n:Nat}:Rv pr d p→p ∈ pr n→n≠d→Rv pr d n
structure Grf (N:Nat) (pr:Nat→List Nat) (p0:Nat→Nat):Prop where
 in_:∀ n,n < N→∀ p ∈ pr n,p < N
 mem:∀ n,n≠0→n < N→p0 n ∈ pr n
 low:∀ n,n≠0→n < N→p0 n < n
structure TI (N:Nat) (pr:Nat→List Nat) (p0:Nat→Nat) (m:Nat) (T:Nat→Nat):Prop where
 low:Low N T
 meet:∀ n,n≠0→n < N→∀ c,(∀ p ∈ pr n,Up T p c)→Up T (T n) c
 way:∀ n,n≠0→n < N→∀ x,(n < m∨m≤x)→Up T (T n) x→Up T (p0 n) x
 dom:∀ n,n < N→∀ x,¬ Rv pr x n→Up T n x
theorem TI.start {N:Nat} {pr:Nat→List Nat} {p0:Nat→Nat} (hG:Grf N pr p0) (m:Nat):TI N pr p0 m p0:=by
 refine ⟨hG.low,fun n h0 hn c h=>h _ (hG.mem n h0 hn),fun n h0 hn x _ h=>h,?_⟩
 intro n
 induction n using Nat.strongRecOn with
 | _ n ih =>
  intro hn x hx
  by_cases h0:n=0
  ·subst h0
   by_cases hx0:x=0
   ·subst hx0; exact .refl
   ·exact absurd (Rv.start (Ne.symm hx0)) hx
  ·by_cases hxn:x=n
   ·subst hxn; exact .refl
   ·have hl:=hG.low n h0 hn
    exact .step h0 (ih _ hl (by omega) x fun h=>hx (.next h (hG.mem n h0 hn) (Ne.symm hxn)))
theorem TI.again {N m:Nat} {pr:Nat→List Nat} {p0:Nat→Nat} {T:Nat→Nat} (h:TI N pr p0 m T) (hm:N≤m):TI N pr p0 1 T :=
 ⟨h.low,h.meet,fun n h0 hn x _ hu=>h.way n h0 hn x (.inl (by omega)) hu,h.dom⟩
def updT (T:Nat→Nat) (m v:Nat) (n:Nat):Nat:=if n=m then v else T n
theorem updT_at {T:Nat→Nat} {m v:Nat}:updT T m v m=v:=by simp [updT]
theorem updT_ne {T:Nat→Nat} {m v n:Nat} (h:n≠m):updT T m v n=T n:=by simp [updT,h]
section
variable {N:Nat} {pr:Nat→List Nat} {p0:Nat→Nat} {m v:Nat} {T:Nat→Nat} (hG:Grf N pr p0) (h:TI N pr p0 m T) (hm0:m≠0) (hm:m < N) (hv:∀ x,Up T v x ↔ ∀ p ∈ pr m,Up T p x)
include hG h hm0 hm hv
theorem TI.lower:Up T (T m) v:=h.meet m hm0 hm v ((hv v).1 .refl)
theorem TI.lower_le:v≤T m:=(TI.lower hG h hm0 hm hv).le h.low (by have:=h.low m hm0 hm; omega)
theorem TI.s1 {n x:Nat} (hu:Up (updT T m v) n x):Up T n x:=by
 induction hu with
 | refl=>exact .refl
 | @step n x h0 _ ih =>
  by_cases hn:n=m
  ·subst hn
   rw [updT_at] at ih
   exact .step h0 ((TI.lower hG h hm0 hm hv).trans ih)
  ·rw [updT_ne hn] at ih
   exact .step h0 ih
theorem TI.s2 {n x:Nat} (hu:Up T n x):n < N→(¬ Up T n m∨m≤x)→Up (updT T m v) n x:=by
 induction hu with
 | refl=>exact fun _ _=>.refl
 | @step n x h0 hu ih =>
  intro hn hc
  have hl:=h.low n h0 hn
  by_cases hnm:n=m
  ·subst hnm
   exfalso
   rcases hc with hc | hc
   ·exact hc .refl
   ·have:=hu.le h.low (by omega)
    omega
  ·refine .step h0 ?_
   rw [updT_ne hnm]
   exact ih (by omega) (hc.imp (fun hc hu'=>hc (.step h0 hu')) id)
theorem TI.below {n:Nat} (hn:n < m):¬ Up T n m:=fun hu=>by
 have:=hu.le h.low (by omega)
 omega
theorem TI.v_lt:v < m:=by
 have h1:=TI.lower_le hG h hm0 hm hv
 have h2:=h.low m hm0 hm
 omega
theorem TI.s3 {n x:Nat} (hn:n < N) (hu:Up T n m) (hx:Up T v x):Up (updT T m v) n x:=by
 have hvl:=TI.v_lt hG h hm0 hm hv
 refine (TI.s2 hG h hm0 hm hv hu hn (.inr (Nat.le_refl _))).trans (.step hm0 ?_)
 rw [updT_at]
 exact TI.s2 hG h hm0 hm hv hx (by omega) (.inl (TI.below hG h hm0 hm hv hvl))
theorem TI.s4 {n c:Nat} (hu:Up T n m):n < N→Up (updT T m v) n c→c < m→Up T v c:=by
 have key:∀ {n x:Nat},Up T n x→x=m→n < N→Up (updT T m v) n c→c < m→Up T v c:=by
  intro n x hu
  induction hu with
  | @refl n =>
   rintro rfl hn hu' hc
   have:=(hu'.inv (by omega)).2
   rw [updT_at] at this
   exact TI.s1 hG h hm0 hm hv this
  | @step n x h0 hux ih =>
   rintro hxm hn hu' hc
   have hl:=h.low n h0 hn
   have hle:=hux.le h.low (by omega)
   have:=(hu'.inv (by omega)).2
   rw [updT_ne (by omega)] at this
   exact ih hxm (by omega) this hc
 exact key hu rfl
theorem TI.ways {x:Nat} (hx:x < m) (hr:Rv pr x m):∀ n,n < N→Up T n m→Rv pr x n:=by
 intro n
 induction n using Nat.strongRecOn with
 | _ n ih =>
  intro hn hu
  by_cases hnm:n=m
  ·subst hnm; exact hr
  ·obtain ⟨h0,hu'⟩:=hu.inv (Ne.symm hnm)
   have hl:=hG.low n h0 hn
   have hle:=hu.le h.low hn
   have:=ih (p0 n) hl (by omega) (h.way n h0 hn m (.inr (Nat.le_refl _)) hu')
   exact .next this (hG.mem n h0 hn) (by omega)
theorem TI.next:TI N pr p0 (m + 1) (updT T m v):=by
 have hvl:=TI.v_lt hG h hm0 hm hv
 have below:=fun {n:Nat} (hn:n < m)=>TI.below hG h hm0 hm hv hn
 refine ⟨fun n h0 hn=>?_,fun n h0 hn c hc=>?_,fun n h0 hn x hx hu=>?_,fun n hn x hx=>?_⟩
 ·by_cases hnm:n=m
  ·subst hnm; rw [updT_at]; exact hvl
  ·rw [updT_ne hnm]; exact h.low n h0 hn
 ·by_cases hnm:n=m
  ·subst hnm
   rw [updT_at]
   exact TI.s2 hG h hm0 hm hv ((hv c).2 fun p hp=>TI.s1 hG h hm0 hm hv (hc p hp)) (by omega) (.inl (below hvl))
  ·rw [updT_ne hnm]
   have hl:=h.low n h0 hn
   have hu:=h.meet n h0 hn c fun p hp=>TI.s1 hG h hm0 hm hv (hc p hp)
   by_cases h1:Up T (T n) m
   ·by_cases h2:m≤c
    ·exact TI.s2 hG h hm0 hm hv hu (by omega) (.inr h2)
    ·have h3:=h.way n h0 hn m (.inr (Nat.le_refl _)) h1
     have hl2:=hG.low n h0 hn
     exact TI.s3 hG h hm0 hm hv (by omega) h1 (TI.s4 hG h hm0 hm hv h3 (by omega) (hc _ (hG.mem n h0 hn)) (by omega))
   ·exact TI.s2 hG h hm0 hm hv hu (by omega) (.inl h1)
 ·have hl:=hG.low n h0 hn
  by_cases hnm:n=m
  ·subst hnm
   rw [updT_at] at hu
   exact TI.s2 hG h hm0 hm hv ((hv x).1 (TI.s1 hG h hm0 hm hv hu) _ (hG.mem n h0 hn)) (by omega) (.inl (below hl))
  ·rw [updT_ne hnm] at hu
   have hu:=TI.s1 hG h hm0 hm hv hu
   rcases Nat.lt_or_ge n m with h1 | h1
   ·exact TI.s2 hG h hm0 hm hv (h.way n h0 hn x (.inl h1) hu) (by omega) (.inl (below (by omega)))
   ·have hx:m≤x:=by omega
    exact TI.s2 hG h hm0 hm hv (h.way n h0 hn x (.inr hx) hu) (by omega) (.inr hx)
 ·have hu:=h.dom n hn x hx
  by_cases h1:Up T n m
  ·by_cases h2:m≤x
   ·exact TI.s2 hG h hm0 hm hv hu hn (.inr h2)
   ·have h3:¬ Rv pr x m:=fun hr=>hx (TI.ways hG h hm0 hm hv (by omega) hr n hn h1)
    refine TI.s3 hG h hm0 hm hv hn h1 ((hv x).2 fun p hp=>h.dom p (hG.in_ m hm p hp) x fun hr=>h3 (.next hr hp (by omega)))
  ·exact TI.s2 hG h hm0 hm hv hu hn (.inl h1)
end
theorem TI.last {N:Nat} {pr:Nat→List Nat} {p0:Nat→Nat} {T:Nat→Nat} {m:Nat} (hG:Grf N pr p0) (h:TI N pr p0 m T) (hf:∀ n,n≠0→n < N→∀ x,Up T (T n) x ↔ ∀ p ∈ pr n,Up T p x) {n x:Nat} (hn:n < N):Up T n x ↔ ¬ Rv pr x n:=by
 refine ⟨fun hu hr=>?_,h.dom n hn x⟩
 have key:∀ {n:Nat},Rv pr x n→n < N→¬ Up T n x:=by
  intro n hr
  induction hr with
  | start h0=>exact fun _ hu=>h0 hu.zero.symm
  | @next p n _ hp hne ih =>
   intro hn hu
   obtain ⟨h0,hu⟩:=hu.inv (Ne.symm hne)
   exact ih (hG.in_ n hn p hp) ((hf n h0 hn x).1 hu p hp)
 exact key hr hn hu
def high (T:Nat→Nat):Nat→Nat
 | 0=>0
 | n + 1=>high T n + T n
theorem high_upd {T:Nat→Nat} {m v:Nat}:∀ N,m < N→high (updT T m v) N + T m=high T N + v
 | 0,h=>absurd h (Nat.not_lt_zero _)
 | N + 1, h => by
  simp only [high]
  by_cases hm:m=N
  ·subst hm
   have:∀ k,k≤m→high (updT T m v) k=high T k:=by
    intro k
    induction k with
    | zero=>intro _; rfl
    | succ k ih=>intro hk; simp only [high,ih (by omega)]; rw [updT_ne (by omega)]
   rw [this m (Nat.le_refl _),updT_at]
   omega
  ·have:=high_upd (T:=T) (m:=m) (v:=v) N (by omega)
   rw [updT_ne (T:=T) (n:=N) (by omega)]
   omega
def castL (l:List Nat):List Int:=l.map fun p:Nat=>(p:Int)
def AllT (ov ls:List (List TV)) (r:Int):Prop:=∃ (N:Nat) (T:Nat→Nat) (o:List Int) (l:List Nat),TreeL N o T∧Low N T∧F2 RI1 ov o∧F2 RI1 ls (castL l)∧l≠[]∧(∀ p ∈ l,p < N)∧N≤1000000∧l.length≤1000000∧AllP o (castL l) r
theorem AllT.det {ov ls:List (List TV)} {r r':Int} (h:AllT ov ls r) (h':AllT ov ls r'):r=r':=by
 obtain ⟨_,_,o,l,_,_,h1,h2,_,_,_,_,h3⟩:=h
 obtain ⟨_,_,o',l',_,_,h4,h5,_,_,_,_,h6⟩:=h'
 cases ints_det h1 h4
 rw [ints_det h2 h5] at h3
 exact h3.det h6
open Classical in
noncomputable def xAll:List TV→Option TV
 | [.agg [x0,x1,.sl o 1 ov],.sl o' 1 ls]=>if h:∃ r,AllT ov ls r then some (I h.choose) else none
 | _=>none
theorem xAll_of {x0 x1:TV} {o o':Bool} {ov ls:List (List TV)} {r:Int} (h:AllT ov ls r):xAll [.agg [x0,x1,.sl o 1 ov],.sl o' 1 ls]=some (I r):=by
 have hx:∃ r,AllT ov ls r:=⟨r,h⟩
 simp only [xAll]
 rw [dif_pos hx,(hx.choose_spec).det h]
theorem xAll_some {xs:List TV} {v:TV} (h:xAll xs=some v):∃ x0 x1 o o' ov ls r,xs=[.agg [x0,x1,.sl o 1 ov],.sl o' 1 ls]∧v=I r∧AllT ov ls r:=by
 unfold xAll at h
 split at h
 ·rename_i x0 x1 o ov o' ls
  split at h
  ·rename_i hx
   cases h
   exact ⟨x0,x1,o,o',ov,ls,_,rfl,rfl,hx.choose_spec⟩
  ·cases h
 ·cases h
theorem Bths.snoc {o:List Int} {v s n s':Int} {l:List Int} (h:Bths o v l s) (h':Both o s n s'):Bths o v (l ++ [n]) s':=by
 induction h with
 | nil=>exact .cons h' .nil
 | cons h1 _ ih=>exact .cons h1 (ih h')
end Go.Ab
end
section
set_option linter.unusedVariables false
namespace Go.Ab.V8
open Go.Ab Go.Proofs
def lookA:List (Nat × Ann)→Nat→Option Ann
 | [],_=>none
 | (k,d) :: r,t=>bif k.beq t then some d else lookA r t
def z2:List Value:=[.int .i64 0]
def z3:List Value:=[.int .i64 0]
def z4:List Value:=[.bool false]
def z5:List Value:=[.int .u8 0]
def z6:List Value:=[.int .u8 0]
def z7:List Value:=[.int .i64 0,.int .i64 0,.bool false,.int .u8 0]
def z8:List Value:=[.int .i64 0,.int .i64 0,.bool false,.int .u8 0]
def z9:List Value:=[.string ⟨#[]⟩]
def z10:List Value:=[.string ⟨#[]⟩]
def z11:List Value:=[.string ⟨#[]⟩]
def z12:List Value:=[.int .u64 0]
def z13:List Value:=[.string ⟨#[]⟩,.int .u64 0]
def z14:List Value:=[.string ⟨#[]⟩,.int .u64 0]
def z15:List Value:=[.pointer none]
def z16:List Value:=[.pointer none]
def z17:List Value:=[.pointer none]
def z18:List Value:=[.pointer none]
def z19:List Value:=[.pointer none]
def z20:List Value:=[.nilIface]
def z21:List Value:=[.int .i32 0]
def z22:List Value:=[.slice none 0 0]
def z23:List Value:=[.int .i64 0,.int .i64 0,.slice none 0 0]
def z24:List Value:=[.int .i64 0,.int .i64 0,.slice none 0 0]
def z25:List Value:=[.nilFunc]
def z26:List Value:=[.nilFunc]
def z27:List Value:=[.slice none 0 0]
def z28:List Value:=[.nilFunc]
def z29:List Value:=[.nilFunc]
def z30:List Value:=[.nilFunc]
def z31:List Value:=[.slice none 0 0]
def z32:List Value:=[.slice none 0 0]
def z33:List Value:=[.nilFunc]
def z34:List Value:=[.nilFunc]
def z35:List Value:=[.nilFunc]
def z36:List Value:=[.nilFunc]
def z37:List Value:=[.int .i64 0,.int .i64 0,.int .i64 0,.int .i64 0,.slice none 0 0,.int .i64 0,.int .i64 0,.int .i64 0]
def z38:List Value:=[.int .i64 0,.int .i64 0,.int .i64 0,.int .i64 0,.slice none 0 0,.int .i64 0,.int .i64 0,.int .i64 0]
def z39:List Value:=[.slice none 0 0]
def z40:List Value:=[.int .i64 0,.slice none 0 0,.bool false,.bool false]
def z41:List Value:=[.int .i64 0,.slice none 0 0,.bool false,.bool false]
def z42:List Value:=[.slice none 0 0]
def z43:List Value:=[.bool false,.int .i64 0,.slice none 0 0,.bool false,.bool false,.slice none 0 0,.int .i64 0,.int .i64 0,.int .i64 0,.int .i64 0,.slice none 0 0,.int .i64 0,.int .i64 0,.int .i64 0]
def z44:List Value:=[.bool false,.int .i64 0,.slice none 0 0,.bool false,.bool false,.slice none 0 0,.int .i64 0,.int .i64 0,.int .i64 0,.int .i64 0,.slice none 0 0,.int .i64 0,.int .i64 0,.int .i64 0]
def z45:List Value:=[.slice none 0 0]
def z46:List Value:=[.slice none 0 0,.slice none 0 0,.slice none 0 0]
def z47:List Value:=[.slice none 0 0,.slice none 0 0,.slice none 0 0]
def z48:List Value:=[.nilFunc]
def z49:List Value:=[.slice none 0 0]
def z50:List Value:=[.nilFunc]
def z51:List Value:=[.nilFunc]
def z52:List Value:=[.nilFunc]
def z53:List Value:=[.nilFunc]
def z54:List Value:=[.nilFunc]
def z55:List Value:=[.nilFunc]
def z56:List Value:=[.nilFunc]
def z57:List Value:=[.nilFunc]
def z58:List Value:=[.slice none 0 0]
def z59:List Value:=[.int .i64 0,.int .i64 0,.slice none 0 0,.slice none 0 0,.slice none 0 0,.slice none 0 0]
def z60:List Value:=[.int .i64 0,.int .i64 0,.slice none 0 0,.slice none 0 0,.slice none 0 0,.slice none 0 0]
def z61:List Value:=[.nilFunc]
def z62:List Value:=[.nilFunc]
def z63:List Value:=[.int .i64 0]
def z64:List Value:=[.nilFunc]
def z65:List Value:=[.nilFunc]
def z66:List Value:=[.nilFunc]
def z67:List Value:=[.nilFunc]
def z68:List Value:=[.nilFunc]
def z69:List Value:=[.nilFunc]
def z70:List Value:=[.nilFunc]
def z71:List Value:=[.pointer none]
def z72:List Value:=[.int .i64 0,.slice none 0 0]
def z73:List Value:=[.int .i64 0,.slice none 0 0]
def z74:List Value:=[.pointer none]
def z75:List Value:=[.nilFunc]
def z76:List Value:=[.nilFunc]
def z77:List Value:=[.pointer none,.pointer none,.pointer none,.string ⟨#[]⟩]
def z78:List Value:=[.pointer none,.pointer none,.pointer none,.string ⟨#[]⟩]
def z79:List Value:=[]
def z80:List Value:=[]
def z81:List Value:=[]
def z82:List Value:=[.nilFunc]
def z83:List Value:=[.int .u32 0]
def z84:List Value:=[.int .u8 0]
def z85:List Value:=[.int .u8 0]
def z86:List Value:=[.nilFunc]
def z87:List Value:=[.pointer none]
def z88:List Value:=[.int .i32 0]
def z89:List Value:=[.int .i32 0]
def z90:List Value:=[.int .u64 0,.int .u64 0,.int .u32 0,.int .u8 0,.int .u8 0,.int .u8 0,.int .u8 0,.nilFunc,.pointer none,.int .i32 0,.int .i32 0]
def z91:List Value:=[.int .u64 0,.int .u64 0,.int .u32 0,.int .u8 0,.int .u8 0,.int .u8 0,.int .u8 0,.nilFunc,.pointer none,.int .i32 0,.int .i32 0]
def z92:List Value:=[.int .u16 0]
def z93:List Value:=[.int .i64 0,.int .i64 0,.int .i64 0,.int .i64 0,.int .u16 0,.int .i64 0,.slice none 0 0]
def z94:List Value:=[.int .i64 0,.int .i64 0,.int .i64 0,.int .i64 0,.int .u16 0,.int .i64 0,.slice none 0 0]
def tab:Tab:=lookT [
 (2,⟨1,8,.int .i64,z2,[]⟩),
 (3,⟨1,8,.int .i64,z3,[]⟩),
 (4,⟨1,1,.bool,z4,[]⟩),
 (5,⟨1,1,.int .u8,z5,[]⟩),
 (6,⟨1,1,.int .u8,z6,[]⟩),
 (7,⟨4,24,.struct,z7,[(0,2),(1,3),(2,4),(3,6)]⟩),
 (8,⟨4,24,.struct,z8,[(0,2),(1,3),(2,4),(3,6)]⟩),
 (9,⟨1,16,.str,z9,[]⟩),
 (10,⟨1,16,.str,z10,[]⟩),
 (11,⟨1,16,.str,z11,[]⟩),
 (12,⟨1,8,.int .u64,z12,[]⟩),
 (13,⟨2,24,.struct,z13,[(0,9),(1,12)]⟩),
 (14,⟨2,24,.struct,z14,[(0,9),(1,12)]⟩),
 (15,⟨1,8,.ptr,z15,[]⟩),
 (16,⟨1,8,.ptr,z16,[]⟩),
 (17,⟨1,8,.ptr,z17,[]⟩),
 (18,⟨1,8,.struct,z18,[(0,17)]⟩),
 (19,⟨1,8,.struct,z19,[(0,17)]⟩),
 (20,⟨1,16,.other,z20,[]⟩),
 (21,⟨1,4,.int .i32,z21,[]⟩),
 (22,⟨1,24,.slice 44,z22,[]⟩),
 (23,⟨3,40,.struct,z23,[(0,3),(1,3),(2,22)]⟩),
 (24,⟨3,40,.struct,z24,[(0,3),(1,3),(2,22)]⟩),
 (25,⟨1,8,.other,z25,[]⟩),
 (26,⟨1,8,.other,z26,[]⟩),
 (27,⟨1,24,.slice 3,z27,[]⟩),
 (28,⟨1,8,.other,z28,[]⟩),
 (29,⟨1,8,.other,z29,[]⟩),
 (30,⟨1,8,.other,z30,[]⟩),
 (31,⟨1,24,.slice 5,z31,[]⟩),
 (32,⟨1,24,.slice 4,z32,[]⟩),
 (33,⟨1,8,.other,z33,[]⟩),
 (34,⟨1,8,.other,z34,[]⟩),
 (35,⟨1,8,.other,z35,[]⟩),
 (36,⟨1,8,.other,z36,[]⟩),
 (37,⟨8,80,.struct,z37,[(0,3),(1,3),(2,3),(3,3),(4,27),(5,3),(6,3),(7,3)]⟩),
 (38,⟨8,80,.struct,z38,[(0,3),(1,3),(2,3),(3,3),(4,27),(5,3),(6,3),(7,3)]⟩),
 (39,⟨1,24,.slice 92,z39,[]⟩),
 (40,⟨4,40,.struct,z40,[(0,3),(1,39),(2,4),(3,4)]⟩),
 (41,⟨4,40,.struct,z41,[(0,3),(1,39),(2,4),(3,4)]⟩),
 (42,⟨1,24,.slice 94,z42,[]⟩),
 (43,⟨14,152,.struct,z43,[(0,4),(1,41),(5,42),(6,38)]⟩),
 (44,⟨14,152,.struct,z44,[(0,4),(1,41),(5,42),(6,38)]⟩),
 (45,⟨1,24,.slice 27,z45,[]⟩),
 (46,⟨3,72,.struct,z46,[(0,27),(1,45),(2,27)]⟩),
 (47,⟨3,72,.struct,z47,[(0,27),(1,45),(2,27)]⟩),
 (48,⟨1,8,.other,z48,[]⟩),
 (49,⟨1,24,.slice 32,z49,[]⟩),
 (50,⟨1,8,.other,z50,[]⟩),
 (51,⟨1,8,.other,z51,[]⟩),
 (52,⟨1,8,.other,z52,[]⟩),
 (53,⟨1,8,.other,z53,[]⟩),
 (54,⟨1,8,.other,z54,[]⟩),
 (55,⟨1,8,.other,z55,[]⟩),
 (56,⟨1,8,.other,z56,[]⟩),
 (57,⟨1,8,.other,z57,[]⟩),
 (58,⟨1,24,.slice 73,z58,[]⟩),
 (59,⟨6,112,.struct,z59,[(0,24),(3,32),(4,58),(5,27)]⟩),
 (60,⟨6,112,.struct,z60,[(0,24),(3,32),(4,58),(5,27)]⟩),
 (61,⟨1,8,.other,z61,[]⟩),
 (62,⟨1,8,.other,z62,[]⟩),
 (63,⟨1,8,.int .i64,z63,[]⟩),
 (64,⟨1,8,.other,z64,[]⟩),
 (65,⟨1,8,.other,z65,[]⟩),
 (66,⟨1,8,.other,z66,[]⟩),
 (67,⟨1,8,.other,z67,[]⟩),
 (68,⟨1,8,.other,z68,[]⟩),
 (69,⟨1,8,.other,z69,[]⟩),
 (70,⟨1,8,.other,z70,[]⟩),
 (71,⟨1,8,.ptr,z71,[]⟩),
 (72,⟨2,32,.struct,z72,[(0,3),(1,27)]⟩),
 (73,⟨2,32,.struct,z73,[(0,3),(1,27)]⟩),
 (74,⟨1,8,.ptr,z74,[]⟩),
 (75,⟨1,8,.other,z75,[]⟩),
 (76,⟨1,8,.other,z76,[]⟩),
 (77,⟨4,40,.struct,z77,[(0,17),(1,17),(2,17),(3,9)]⟩),
 (78,⟨4,40,.struct,z78,[(0,17),(1,17),(2,17),(3,9)]⟩),
 (79,⟨0,0,.arr 0 16,z79,[]⟩),
 (80,⟨0,0,.struct,z80,[(0,79)]⟩),
 (81,⟨0,0,.struct,z81,[(0,79)]⟩),
 (82,⟨1,8,.other,z82,[]⟩),
 (83,⟨1,4,.int .u32,z83,[]⟩),
 (84,⟨1,1,.int .u8,z84,[]⟩),
 (85,⟨1,1,.int .u8,z85,[]⟩),
 (86,⟨1,8,.other,z86,[]⟩),
 (87,⟨1,8,.ptr,z87,[]⟩),
 (88,⟨1,4,.int .i32,z88,[]⟩),
 (89,⟨1,4,.int .i32,z89,[]⟩),
 (90,⟨11,48,.struct,z90,[(0,12),(1,12),(2,83),(3,84),(4,5),(5,5),(6,85),(7,86),(8,87),(9,88),(10,89)]⟩),
 (91,⟨11,48,.struct,z91,[(0,12),(1,12),(2,83),(3,84),(4,5),(5,5),(6,85),(7,86),(8,87),(9,88),(10,89)]⟩),
 (92,⟨1,2,.int .u16,z92,[]⟩),
 (93,⟨7,72,.struct,z93,[(0,3),(1,3),(2,3),(3,3),(4,92),(5,3),(6,27)]⟩),
 (94,⟨7,72,.struct,z94,[(0,3),(1,3),(2,3),(3,3),(4,92),(5,3),(6,27)]⟩)]
def pure (f:FuncId):Bool:=memB f [13,9,30,18,21,16,25,27]
def lookL:List (Nat × List Nat)→Nat→List Nat
 | [],_=>[]
 | (k,d) :: r,t=>bif k.beq t then d else lookL r t
def rts:FuncId→List TypeId:=lookL [(4,[4]),(7,[4]),(8,[4]),(9,[27]),(11,[4]),(13,[27]),(15,[32]),(16,[27]),(18,[47]),(19,[4]),(20,[49]),(21,[32]),(22,[32]),(23,[32]),(24,[27]),(25,[27]),(26,[4]),(27,[27]),(28,[27]),(29,[4]),(30,[45]),(32,[]),(33,[]),(34,[]),(35,[63]),(36,[4]),(37,[3]),(40,[]),(31,[3])]
def f4_ann:Nat→Option Ann:=lookA [(13,⟨[4,5,12,15,16,17],[],[],[],[]⟩)]
def f4_jn:Nat→Option Ann:=lookA [(11,⟨[4,5,12],[],[],[],[]⟩),(17,⟨[4,5,12,15,16,17],[],[],[],[]⟩)]
def f8_ann:Nat→Option Ann:=lookA [(4,⟨[0,1,5],[],[],[],[]⟩)]
def f9_ann:Nat→Option Ann:=lookA [(2,⟨[1,3],[],[],[],[]⟩),(5,⟨[3,4,16,17],[4],[],[],[]⟩),(10,⟨[3,4,6],[4],[],[],[]⟩)]
def f9_jn:Nat→Option Ann:=lookA [(3,⟨[1,3],[],[],[],[]⟩),(9,⟨[3,4],[4],[],[],[]⟩)]
def f13_ann:Nat→Option Ann:=lookA [(4,⟨[1,2,5,6,21,22],[5,6],[],[],[]⟩),(8,⟨[1,2,5,6,21,22,32,33,34],[5,6,32],[],[],[]⟩),(15,⟨[6,10,54,55],[6,10],[],[],[]⟩)]
def f13_jn:Nat→Option Ann:=lookA [(13,⟨[6],[6],[],[],[]⟩)]
def f15_ann:Nat→Option Ann:=lookA [(3,⟨[3,11,12,13],[3,11],[],[],[]⟩)]
def f16_jn:Nat→Option Ann:=lookA [(7,⟨[2,6],[6],[],[],[]⟩)]
def f18_ann:Nat→Option Ann:=lookA [(4,⟨[2,3,4,5],[3],[],[2],[]⟩)]
def f19_ann:Nat→Option Ann:=lookA [(3,⟨[1,3,4],[],[],[],[]⟩)]
def f20_ann:Nat→Option Ann:=lookA [(4,⟨[1,3,4,5],[3,4],[],[],[]⟩),(9,⟨[1,3,4,5,6,7,8],[3,4,6,7],[],[],[]⟩)]
def f20_jn:Nat→Option Ann:=lookA [(12,⟨[1,3,4,5,7],[3,4,7],[],[],[]⟩)]
def f21_ann:Nat→Option Ann:=lookA [(4,⟨[1,5,6,16,17,18],[5,6,16],[],[],[]⟩)]
def f23_ann:Nat→Option Ann:=lookA [(6,⟨[1,2,5,6],[5],[],[],[]⟩),(9,⟨[1,2,5,6,7],[5],[],[],[]⟩),(13,⟨[1,2,5,6,7,8,9],[5,8],[],[],[]⟩)]
def f24_ann:Nat→Option Ann:=lookA [(13,⟨[2,6,7,8],[6,7],[],[],[]⟩)]
def f24_jn:Nat→Option Ann:=lookA [(6,⟨[2,5,6,36],[6],[],[],[]⟩),(8,⟨[2,5,6,44],[6],[],[],[]⟩),(10,⟨[2,5,6,52],[6],[],[],[]⟩),(13,⟨[2,6,7,8],[6,7],[],[],[]⟩)]
def f25_ann:Nat→Option Ann:=lookA [(5,⟨[3],[],[(3,5),(3,4)],[],[(3,1004)]⟩)]
def f27_jn:Nat→Option Ann:=lookA [(6,⟨[1,4,18],[4],[],[],[]⟩)]
def f28_ann:Nat→Option Ann:=lookA [(5,⟨[0,1,5,6],[],[],[],[]⟩)]
def f28_jn:Nat→Option Ann:=lookA [(11,⟨[0,5],[],[],[],[]⟩)]
def f30_ann:Nat→Option Ann:=lookA [(3,⟨[1,2,5,17,18,19],[5],[],[],[]⟩),(9,⟨[2,5,8,32,33,34],[5,8],[],[],[]⟩),(12,⟨[2,5,8,9,32,33,34,41,42,43],[5,8,41],[],[],[]⟩)]
def f30_jn:Nat→Option Ann:=lookA [(7,⟨[1,2,5],[5],[],[],[]⟩)]
def f34_ann:Nat→Option Ann:=lookA [(1,⟨[0,2,3],[],[],[],[]⟩)]
def f37_ann:Nat→Option Ann:=lookA [(2,⟨[0,1,7,8],[],[],[],[]⟩)]
noncomputable def fns:FuncId→Option Func:=fun f=>bif f.beq 4 then some Try.f4 else bif f.beq 7 then some Try.f7 else bif f.beq 8 then some Try.f8 else bif f.beq 9 then some Try.f9 else bif f.beq 11 then some Try.f11 else bif f.beq 13 then some Try.f13 else bif f.beq 15 then some Try.f15 else bif f.beq 16 then some Try.f16 else bif f.beq 18 then some Try.f18 else bif f.beq 19 then some Try.f19 else bif f.beq 20 then some Try.f20 else bif f.beq 21 then some Try.f21 else bif f.beq 22 then some Try.f22 else bif f.beq 23 then some Try.f23 else bif f.beq 24 then some Try.f24 else bif f.beq 25 then some Try.f25 else bif f.beq 26 then some Try.f26 else bif f.beq 27 then some Try.f27 else bif f.beq 28 then some Try.f28 else bif f.beq 29 then some Try.f29 else bif f.beq 30 then some Try.f30 else bif f.beq 32 then some Try.f32 else bif f.beq 33 then some Try.f33 else bif f.beq 34 then some Try.f34 else bif f.beq 35 then some Try.f35 else bif f.beq 36 then some Try.f36 else bif f.beq 37 then some Try.f37 else bif f.beq 40 then some Try.f40 else none
def anns:FuncId→Nat→Option Ann:=fun f=>bif f.beq 4 then f4_ann else bif f.beq 8 then f8_ann else bif f.beq 9 then f9_ann else bif f.beq 13 then f13_ann else bif f.beq 15 then f15_ann else bif f.beq 18 then f18_ann else bif f.beq 19 then f19_ann else bif f.beq 20 then f20_ann else bif f.beq 21 then f21_ann else bif f.beq 23 then f23_ann else bif f.beq 24 then f24_ann else bif f.beq 25 then f25_ann else bif f.beq 28 then f28_ann else bif f.beq 30 then f30_ann else bif f.beq 34 then f34_ann else bif f.beq 37 then f37_ann else fun _=>none
def jns:FuncId→Nat→Option Ann:=fun f=>bif f.beq 4 then f4_jn else bif f.beq 9 then f9_jn else bif f.beq 13 then f13_jn else bif f.beq 16 then f16_jn else bif f.beq 20 then f20_jn else bif f.beq 24 then f24_jn else bif f.beq 27 then f27_jn else bif f.beq 28 then f28_jn else bif f.beq 30 then f30_jn else fun _=>none
def lent:FuncId→Option LentD:=lookD []
def selfT (t:TypeId):Bool:=memB t []
noncomputable def ext:FuncId→Option (List TV→Option TV):=fun f=>bif f.beq 31 then some (xAll) else none
def opn (f:FuncId):Bool:=memB f [19,28,29,32,33,34,37,40]
def lookK:List (Nat × List Nat)→Nat→Option (List Nat)
 | [],_=>none
 | (k,d) :: r,t=>bif k.beq t then some d else lookK r t
def f9_kp:Nat→Option (List Nat):=lookK [(2001,[1,3])]
def f16_kp:Nat→Option (List Nat):=lookK [(7002,[])]
def f25_kp:Nat→Option (List Nat):=lookK [(4000,[3]),(6000,[3]),(7002,[3])]
def f28_kp:Nat→Option (List Nat):=lookK [(1002,[0,1]),(8002,[0,1,5,6,7])]
def f33_kp:Nat→Option (List Nat):=lookK [(2001,[]),(6002,[])]
def f37_kp:Nat→Option (List Nat):=lookK [(4005,[0,1,5,7,8])]
def kps:FuncId→Nat→Option (List Nat):=fun f=>bif f.beq 9 then f9_kp else bif f.beq 16 then f16_kp else bif f.beq 25 then f25_kp else bif f.beq 28 then f28_kp else bif f.beq 33 then f33_kp else bif f.beq 37 then f37_kp else fun _=>none
def peek:FuncId→Option (Nat × Nat):=fun f=>none
noncomputable def prog:AProg:=⟨tab,pure,rts,fns,anns,jns,lent,selfT,ext,opn,kps,peek⟩
end Go.Ab.V8
end

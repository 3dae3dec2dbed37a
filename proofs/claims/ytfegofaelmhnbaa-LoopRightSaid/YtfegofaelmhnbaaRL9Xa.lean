import Derived.Test.YtfegofaelmhnbaaRM0
import Derived.IntWalk
import Derived.Lib.ItoaNum
import Derived.Test.YtfegofaelmhnbaaProg
section
namespace Go.Ab
def zInt:List Value:=[.int .i64 0]
def zBool:List Value:=[.bool false]
def zSl:List Value:=[.slice none 0 0]
end Go.Ab
end
section
namespace Go.Ab
set_option linter.unusedVariables false
section
variable {R:Type} {C C':FuncId→List TV→Option TV} {J J':List Nat→ASt→Option R}
theorem Prg.run_mono (hC:∀ f xs v,C f xs=some v→C' f xs=some v) (hJ:∀ p st r,J p st=some r→J' p st=some r):∀ {p:Prg R} {r:R},p.run C J=some r→p.run C' J'=some r
 | .fail,r,h=>by simp [Prg.run] at h
 | .ret x,r,h=>h
 | .tv p k,r,h=>by
  cases p with
  | none=>simp [Prg.run] at h
  | some v=>exact Prg.run_mono hC hJ (p:=k v) h
 | .tvs p k,r,h=>by
  cases p with
  | none=>simp [Prg.run] at h
  | some v=>exact Prg.run_mono hC hJ (p:=k v) h
 | .rws p k,r,h=>by
  cases p with
  | none=>simp [Prg.run] at h
  | some v=>exact Prg.run_mono hC hJ (p:=k v) h
 | .nat p k,r,h=>by
  cases p with
  | none=>simp [Prg.run] at h
  | some v=>exact Prg.run_mono hC hJ (p:=k v) h
 | .chk b k,r,h=>by
  cases b with
  | false=>simp [Prg.run] at h
  | true=>exact Prg.run_mono hC hJ (p:=k) h
 | .ite b t e, r, h => by
  cases b with
  | none=>simp [Prg.run] at h
  | some b =>
   cases b with
   | true=>exact Prg.run_mono hC hJ (p:=t) h
   | false=>exact Prg.run_mono hC hJ (p:=e) h
 | .call f xs k, r, h => by
  simp only [Prg.run] at h ⊢
  cases hc:C f xs with
  | none=>rw [hc] at h; simp at h
  | some v =>
   rw [hc] at h
   rw [hC _ _ _ hc]
   exact Prg.run_mono hC hJ (p:=k v) h
 | .jmp p st,r,h=>hJ _ _ _ h
end
section
variable {A:AProg} {f g:FuncId}
theorem runN_mono {C C':FuncId→List TV→Option TV} (hC:∀ f xs v,C f xs=some v→C' f xs=some v):∀ {m m':Nat},m≤m'→∀ {p:List Nat} {st:ASt} {r:TV},runN A C f m p st=some r→runN A C' f m' p st=some r
 | 0,_,_,_,_,_,h=>by simp [runN] at h
 | m + 1,0,hle,_,_,_,_=>by omega
 | m + 1,m' + 1,hle,p,st,r,h=>by
  simp only [runN] at h ⊢
  exact Prg.run_mono hC (fun p st r h=>runN_mono hC (by omega) h) h
theorem acall_mono:∀ {n n':Nat},n≤n'→∀ {f:FuncId} {args:List TV} {r:TV},acall A n f args=some r→acall A n' f args=some r
 | 0,_,_,_,_,_,h=>by simp [acall] at h
 | n + 1,0,hle,_,_,_,_=>by omega
 | n + 1, n' + 1, hle, f, args, r, h => by
  simp only [acall] at h ⊢
  have hC:∀ f xs v,acall A n f xs=some v→acall A n' f xs=some v:=fun f xs v h=>acall_mono (by omega) h
  split at h
  ·rename_i g hg
   exact h
  ·exact Prg.run_mono hC (fun p st r h=>runN_mono hC (by omega) h) h
def Runs (A:AProg) (f:FuncId) (args:List TV) (r:TV):Prop:=∃ n,acall A n f args=some r
def Goes (A:AProg) (f:FuncId) (p:Prg TV) (r:TV):Prop:=∃ n,p.run (acall A n) (runN A (acall A n) f n)=some r
variable {r:TV}
theorem Goes.up {p:Prg TV} {n n':Nat} (h:p.run (acall A n) (runN A (acall A n) f n)=some r) (hle:n≤n'):p.run (acall A n') (runN A (acall A n') f n')=some r :=
 Prg.run_mono (fun _ _ _ h=>acall_mono hle h) (fun _ _ _ h=>runN_mono (fun _ _ _ h=>acall_mono hle h) hle h) h
theorem Goes.ret:Goes A f (.ret r) r:=⟨0,rfl⟩
theorem goes_ret {x:TV}:Goes A f (.ret x) r ↔ x=r:=⟨fun ⟨n,h⟩=>by simpa [Prg.run] using h,fun h=>h ▸ Goes.ret⟩
theorem goes_tv {p:Option TV} {k:TV→Prg TV}:Goes A f (.tv p k) r ↔ ∃ v,p=some v∧Goes A f (k v) r:=by
 constructor
 ·rintro ⟨n,h⟩
  cases p with
  | none=>simp [Prg.run] at h
  | some v=>exact ⟨v,rfl,n,h⟩
 ·rintro ⟨v,rfl,n,h⟩; exact ⟨n,h⟩
theorem goes_tvs {p:Option (List TV)} {k:List TV→Prg TV}:Goes A f (.tvs p k) r ↔ ∃ v,p=some v∧Goes A f (k v) r:=by
 constructor
 ·rintro ⟨n,h⟩
  cases p with
  | none=>simp [Prg.run] at h
  | some v=>exact ⟨v,rfl,n,h⟩
 ·rintro ⟨v,rfl,n,h⟩; exact ⟨n,h⟩
theorem goes_rws {p:Option (List (List TV))} {k:List (List TV)→Prg TV}:Goes A f (.rws p k) r ↔ ∃ v,p=some v∧Goes A f (k v) r:=by
 constructor
 ·rintro ⟨n,h⟩
  cases p with
  | none=>simp [Prg.run] at h
  | some v=>exact ⟨v,rfl,n,h⟩
 ·rintro ⟨v,rfl,n,h⟩; exact ⟨n,h⟩
theorem goes_nat {p:Option Nat} {k:Nat→Prg TV}:Goes A f (.nat p k) r ↔ ∃ v,p=some v∧Goes A f (k v) r:=by
 constructor
 ·rintro ⟨n,h⟩
  cases p with
  | none=>simp [Prg.run] at h
  | some v=>exact ⟨v,rfl,n,h⟩
 ·rintro ⟨v,rfl,n,h⟩; exact ⟨n,h⟩
theorem goes_chk {b:Bool} {k:Prg TV}:Goes A f (.chk b k) r ↔ b=true∧Goes A f k r:=by
 constructor
 ·rintro ⟨n,h⟩
  cases b with
  | false=>simp [Prg.run] at h
  | true=>exact ⟨rfl,n,h⟩
 ·rintro ⟨rfl,n,h⟩; exact ⟨n,h⟩
theorem goes_ite {b:Option Bool} {t e:Prg TV}:Goes A f (.ite b t e) r ↔ ∃ v,b=some v∧Goes A f (bif v then t else e) r:=by
 constructor
 ·rintro ⟨n,h⟩
  cases b with
  | none=>simp [Prg.run] at h
  | some v=>refine ⟨v,rfl,n,?_⟩; cases v <;> exact h
 ·rintro ⟨v,rfl,n,h⟩; refine ⟨n,?_⟩; cases v <;> exact h
theorem goes_call {xs:List TV} {k:TV→Prg TV}:Goes A f (.call g xs k) r ↔ ∃ v,Runs A g xs v∧Goes A f (k v) r:=by
 constructor
 ·rintro ⟨n,h⟩
  simp only [Prg.run] at h
  cases hc:acall A n g xs with
  | none=>rw [hc] at h; simp at h
  | some v=>rw [hc] at h; exact ⟨v,⟨n,hc⟩,n,h⟩
 ·rintro ⟨v,⟨n,hc⟩,m,h⟩
  refine ⟨max n m,?_⟩
  simp only [Prg.run]
  rw [acall_mono (Nat.le_max_left n m) hc]
  exact Goes.up h (Nat.le_max_right n m)
theorem goes_jmp {p:List Nat} {st:ASt}:Goes A f (.jmp p st) r ↔ Goes A f (pieceQ A f p st) r:=by
 constructor
 ·rintro ⟨n,h⟩
  cases n with
  | zero=>simp [Prg.run,runN] at h
  | succ n =>
   refine ⟨n + 1,?_⟩
   simp only [Prg.run,runN] at h
   exact Prg.run_mono (fun _ _ _ h=>h) (fun _ _ _ h=>runN_mono (fun _ _ _ h=>h) (Nat.le_succ n) h) h
 ·rintro ⟨n,h⟩
  refine ⟨n + 1,?_⟩
  simp only [Prg.run,runN]
  exact Prg.run_mono (fun _ _ _ h=>acall_mono (Nat.le_succ n) h) (fun _ _ _ h=>runN_mono (fun _ _ _ h=>acall_mono (Nat.le_succ n) h) (Nat.le_refl n) h) h
theorem runs_iff {args:List TV} (hx:A.ext f=none):Runs A f args r ↔ Goes A f (startQ A f args) r:=by
 constructor
 ·rintro ⟨n,h⟩
  cases n with
  | zero=>simp [acall] at h
  | succ n=>simp only [acall,hx] at h; exact ⟨n,h⟩
 ·rintro ⟨n,h⟩; exact ⟨n + 1,by simp only [acall,hx]; exact h⟩
theorem Goes.tv {p:Option TV} {k:TV→Prg TV} {v:TV} (h:p=some v) (hk:Goes A f (k v) r):Goes A f (.tv p k) r:=goes_tv.2 ⟨v,h,hk⟩
theorem Goes.tvs {p:Option (List TV)} {k:List TV→Prg TV} {v:List TV} (h:p=some v) (hk:Goes A f (k v) r):Goes A f (.tvs p k) r:=goes_tvs.2 ⟨v,h,hk⟩
theorem Goes.rws {p:Option (List (List TV))} {k:List (List TV)→Prg TV} {v:List (List TV)} (h:p=some v) (hk:Goes A f (k v) r):Goes A f (.rws p k) r:=goes_rws.2 ⟨v,h,hk⟩
theorem Goes.nat {p:Option Nat} {k:Nat→Prg TV} {v:Nat} (h:p=some v) (hk:Goes A f (k v) r):Goes A f (.nat p k) r:=goes_nat.2 ⟨v,h,hk⟩
theorem Goes.chk {b:Bool} {k:Prg TV} (h:b=true) (hk:Goes A f k r):Goes A f (.chk b k) r:=goes_chk.2 ⟨h,hk⟩
theorem Goes.ite {b:Option Bool} {t e:Prg TV} {v:Bool} (h:b=some v) (ht:v=true→Goes A f t r) (he:v=false→Goes A f e r):Goes A f (.ite b t e) r:=by
 refine goes_ite.2 ⟨v,h,?_⟩
 cases v with
 | true=>exact ht rfl
 | false=>exact he rfl
theorem Goes.call {xs:List TV} {k:TV→Prg TV} {v:TV} (h:Runs A g xs v) (hk:Goes A f (k v) r):Goes A f (.call g xs k) r:=goes_call.2 ⟨v,h,hk⟩
theorem Goes.jmp {p:List Nat} {st:ASt} {q:Prg TV} (h:pieceQ A f p st=q) (hk:Goes A f q r):Goes A f (.jmp p st) r:=goes_jmp.2 (h ▸ hk)
theorem Runs.of {args:List TV} {q:Prg TV} (h:startQ A f args=q) (hk:Goes A f q r) (hx:A.ext f=none:=by rfl):Runs A f args r:=(runs_iff hx).2 (h ▸ hk)
end
end Go.Ab
end
section
namespace Go.Ab
set_option linter.unusedVariables false
inductive F2 {α β:Type} (R:α→β→Prop):List α→List β→Prop
 | nil:F2 R [] []
 | cons {a b l m}:R a b→F2 R l m→F2 R (a :: l) (b :: m)
section
variable {α β γ:Type} {R S:α→β→Prop}
theorem F2.length {xs:List α} {l:List β} (h:F2 R xs l):xs.length=l.length:=by
 induction h with
 | nil=>rfl
 | cons _ _ ih=>simp [ih]
theorem F2.get {xs:List α} {l:List β} (h:F2 R xs l):∀ {i:Nat} {a:β},l[i]? = some a→∃ e,xs[i]? = some e∧R e a:=by
 induction h with
 | nil=>intro i a h; simp at h
 | cons hr _ ih =>
  intro i a h
  cases i with
  | zero=>simp at h; subst h; exact ⟨_,rfl,hr⟩
  | succ i=>simp at h; simpa using ih h
theorem F2.getL {xs:List α} {l:List β} (h:F2 R xs l):∀ {i:Nat} {e:α},xs[i]? = some e→∃ a,l[i]? = some a∧R e a:=by
 induction h with
 | nil=>intro i a h; simp at h
 | cons hr _ ih =>
  intro i a h
  cases i with
  | zero=>simp at h; subst h; exact ⟨_,rfl,hr⟩
  | succ i=>simp at h; simpa using ih h
theorem F2.mono (hm:∀ e a,R e a→S e a) {xs:List α} {l:List β} (h:F2 R xs l):F2 S xs l:=by
 induction h with
 | nil=>exact .nil
 | cons hr _ ih=>exact .cons (hm _ _ hr) ih
theorem F2.append {xs ys:List α} {l m:List β} (h:F2 R xs l) (h':F2 R ys m):F2 R (xs ++ ys) (l ++ m):=by
 induction h with
 | nil=>exact h'
 | cons hr _ ih=>exact .cons hr ih
theorem F2.take {xs:List α} {l:List β} (h:F2 R xs l):∀ n,F2 R (xs.take n) (l.take n):=by
 induction h with
 | nil=>intro n; simp; exact .nil
 | cons hr _ ih=>intro n; cases n with
  | zero=>exact .nil
  | succ n=>exact .cons hr (ih n)
theorem F2.drop {xs:List α} {l:List β} (h:F2 R xs l):∀ n,F2 R (xs.drop n) (l.drop n):=by
 induction h with
 | nil=>intro n; simp; exact .nil
 | cons hr h ih=>intro n; cases n with
  | zero=>exact .cons hr h
  | succ n=>exact ih n
theorem F2.set {xs:List α} {l:List β} (h:F2 R xs l):∀ {i:Nat} {e:α} {a:β},R e a→F2 R (setNth xs i e) (l.set i a):=by
 induction h with
 | nil=>intro i e a _; exact .nil
 | cons hr h ih=>intro i e a hea; cases i with
  | zero=>exact .cons hea h
  | succ i=>exact .cons hr (ih hea)
theorem F2.mapL {f:γ→α} {Q:γ→β→Prop} {xs:List γ} {l:List β} (h:F2 Q xs l) (hf:∀ x a,Q x a→R (f x) a):F2 R (xs.map f) l:=by
 induction h with
 | nil=>exact .nil
 | cons hr _ ih=>exact .cons (hf _ _ hr) ih
theorem F2.of_get {xs:List α}:∀ {l:List β},xs.length=l.length→(∀ (i:Nat) e a,xs[i]? = some e→l[i]? = some a→R e a)→F2 R xs l:=by
 induction xs with
 | nil=>intro l h _; cases l with
  | nil=>exact .nil
  | cons _ _=>simp at h
 | cons x xs ih=>intro l h hg; cases l with
  | nil=>simp at h
  | cons a l=>exact .cons (hg 0 x a rfl rfl) (ih (by simpa using h) fun i e b he hb=>hg (i + 1) e b (by simpa using he) (by simpa using hb))
end
abbrev I (n:Int):TV:=.lit (.int .i64 n)
abbrev W (n:Int):TV:=.lit (.int .u16 n)
abbrev B (b:Bool):TV:=.lit (.bool b)
def inI (n:Int):Prop:=-9223372036854775808≤n∧n≤9223372036854775807
def inW (n:Int):Prop:=0≤n∧n≤65535
def RL {α:Type} (q:Option Bool) (s:Nat) (R:List TV→α→Prop) (x:TV) (l:List α):Prop :=
 (x=.lit nilV∧l=[])∨∃ o xs,x=.sl o s xs∧(∀ b,q=some b→o=b)∧F2 R xs l∧xs.length≤9223372036854775807
theorem frzLL_map:∀ ys:List (List TV),frzLL ys=ys.map frzL
 | []=>rfl
 | y :: ys=>by simp [frzLL,frzLL_map ys]
section
variable {α:Type} {q:Option Bool} {s:Nat} {R S:List TV→α→Prop} {x:TV} {l:List α}
theorem RL.nil:RL q s R (.lit nilV) []:=.inl ⟨rfl,rfl⟩
theorem RL.sl {o:Bool} {xs:List (List TV)} (hq:∀ b,q=some b→o=b) (h:F2 R xs l) (hb:xs.length≤9223372036854775807):RL q s R (.sl o s xs) l:=.inr ⟨o,xs,rfl,hq,h,hb⟩
theorem RL.bnd (h:RL q s R x l):l.length≤9223372036854775807:=by
 rcases h with ⟨rfl,rfl⟩ | ⟨o,xs,rfl,hq,h,hb⟩
 ·simp
 ·rw [← h.length]; exact hb
theorem RL.weak (h:RL q s R x l) (hm:∀ e a,R e a→S e a):RL none s S x l:=by
 rcases h with ⟨rfl,rfl⟩ | ⟨o,xs,rfl,hq,h,hb⟩
 ·exact .nil
 ·exact .sl (by simp) (h.mono hm) hb
theorem RL.len {t:TypeId} (h:RL q s R x l):plen (.slice t) x=some (I l.length):=by
 rcases h with ⟨rfl,rfl⟩ | ⟨o,xs,rfl,hq,h,hb⟩
 ·rfl
 ·simp [plen,h.length]
theorem RL.slLen (h:RL q s R x l):Go.Ab.slLen x=some l.length:=by
 rcases h with ⟨rfl,rfl⟩ | ⟨o,xs,rfl,hq,h,hb⟩
 ·rfl
 ·simp [Go.Ab.slLen,h.length]
theorem RL.slSize (h:RL q s R x l):Go.Ab.slSize x s=true:=by
 rcases h with ⟨rfl,rfl⟩ | ⟨o,xs,rfl,hq,h,hb⟩
 ·rfl
 ·simp [Go.Ab.slSize]
theorem RL.isSl (h:RL q s R x l):x.isSl=true:=by
 rcases h with ⟨rfl,rfl⟩ | ⟨o,xs,rfl,hq,h,hb⟩ <;> rfl
theorem RL.idx (h:RL q s R x l) {k:IntKind} {i:Nat} {a:α} (hi:l[i]? = some a):∃ e,pidx s x (.lit (.int k i))=some e∧R e a:=by
 rcases h with ⟨rfl,rfl⟩ | ⟨o,xs,rfl,hq,h,hb⟩
 ·simp at hi
 ·obtain ⟨e,he,hr⟩:=h.get hi
  exact ⟨e,by simp [pidx,he],hr⟩
theorem RL.pel (h:RL q s R x l) {i:Nat} {a:α} (hi:l[i]? = some a):∃ e,Go.Ab.pel x i=some e∧R e a:=by
 rcases h with ⟨rfl,rfl⟩ | ⟨o,xs,rfl,hq,h,hb⟩
 ·simp at hi
 ·exact h.get hi
theorem RL.frz (h:RL q s R x l) (hm:∀ e a,R e a→S (frzL e) a):RL (some false) s S (frz x) l:=by
 rcases h with ⟨rfl,rfl⟩ | ⟨o,xs,rfl,hq,h,hb⟩
 ·exact .nil
 ·refine .sl (by simp) ?_ ?_
  rotate_left
  ·rw [frzLL_map,List.length_map]; exact hb
  rw [frzLL_map]
  exact h.mapL hm
end
def RI1 (e:List TV) (n:Int):Prop:=e=[I n]∧inI n
def RW1 (e:List TV) (n:Int):Prop:=e=[W n]∧inW n
def RB1 (e:List TV) (b:Bool):Prop:=e=[B b]
abbrev RInts (q:Option Bool):TV→List Int→Prop:=RL q 1 RI1
abbrev RWords (q:Option Bool):TV→List Int→Prop:=RL q 1 RW1
abbrev RBools (q:Option Bool):TV→List Bool→Prop:=RL q 1 RB1
structure DIns where
 op:Int
 dst:Int
 a:Int
 b:Int
 k:Int
 f:Int
 args:List Int
structure DEnd where
 kind:Int
 a:Int
 dst:Int
 f:Int
 args:List Int
 to:Int
 els:Int
 pad:Int
structure DPad where
 dst:Int
 catches:List Int
 all:Bool
 cleanup:Bool
structure DBlock where
 landing:Bool
 pad:DPad
 ins:List DIns
 fin:DEnd
structure DFunc where
 params:Int
 regs:Int
 blocks:List DBlock
structure DMod where
 funcs:List DFunc
def DIns.ok (x:DIns):Prop:=inI x.op∧inI x.dst∧inI x.a∧inI x.b∧inW x.k∧inI x.f
def DEnd.ok (x:DEnd):Prop:=inI x.kind∧inI x.a∧inI x.dst∧inI x.f∧inI x.to∧inI x.els∧inI x.pad
def RIns (q:Option Bool) (e:List TV) (x:DIns):Prop:=∃ g,e=[I x.op,I x.dst,I x.a,I x.b,W x.k,I x.f,g]∧RInts q g x.args∧x.ok
def REnd (q:Option Bool) (e:List TV) (x:DEnd):Prop:=∃ g,e=[I x.kind,I x.a,I x.dst,I x.f,g,I x.to,I x.els,I x.pad]∧RInts q g x.args∧x.ok
def RPad (q:Option Bool) (e:List TV) (x:DPad):Prop:=∃ g,e=[I x.dst,g,B x.all,B x.cleanup]∧RWords q g x.catches∧inI x.dst
def RBlock (q:Option Bool) (e:List TV) (x:DBlock):Prop:=∃ c i g,e=[B x.landing,I x.pad.dst,c,B x.pad.all,B x.pad.cleanup,i,I x.fin.kind,I x.fin.a,I x.fin.dst,I x.fin.f,g,I x.fin.to,I x.fin.els,I x.fin.pad] ∧
 RWords q c x.pad.catches∧inI x.pad.dst∧RL q 7 (RIns q) i x.ins∧RInts q g x.fin.args∧x.fin.ok
def RFunc (q:Option Bool) (e:List TV) (x:DFunc):Prop:=∃ b,e=[I x.params,I x.regs,b]∧RL q 14 (RBlock q) b x.blocks∧inI x.params∧inI x.regs
theorem RI1.frz {e:List TV} {n:Int} (h:RI1 e n):RI1 (frzL e) n:=by obtain ⟨rfl,h⟩:=h; exact ⟨rfl,h⟩
theorem padd {a b:Int} (h:inI (a + b)):pbin (.int .i64) .add (I a) (I b)=some (I (a + b)):=by
 simp [pbin,intBin,IntWalk.i64_in _ h]
theorem psub {a b:Int} (h:inI (a - b)):pbin (.int .i64) .sub (I a) (I b)=some (I (a - b)):=by
 simp [pbin,intBin,IntWalk.i64_in _ h]
theorem inc {k n:Nat} (h:k < n) (hn:n≤9223372036854775807):pbin (.int .i64) .add (I (k:Int)) (I (1:Int))=some (I ((k + 1:Nat):Int)):=by
 rw [padd (by constructor <;> omega)]; rfl
open Classical in
noncomputable def tt (p:Prop):Bool:=decide p
theorem tt_iff {p:Prop}:tt p=true ↔ p:=by simp [tt]
theorem tt_eq {b:Bool} {p:Prop} (h:b=true ↔ p):b=tt p:=by
 cases b with
 | true=>exact (tt_iff.2 (h.1 rfl)).symm
 | false =>
  cases hp:tt p with
  | false=>rfl
  | true=>exact absurd (h.2 (tt_iff.1 hp)) (by simp)
theorem tt_congr {p p':Prop} (h:p ↔ p'):tt p=tt p':=by rw [propext h]
theorem tt_true {p:Prop} (h:p):tt p=true:=tt_iff.2 h
theorem tt_false {p:Prop} (h:¬ p):tt p=false:=by
 cases hp:tt p with
 | false=>rfl
 | true=>exact absurd (tt_iff.1 hp) h
section
variable {A:AProg} {f:FuncId}
theorem ret_tt {b:Bool} {p:Prop} (h:b=true ↔ p):Goes A f (.ret (B b)) (B (tt p)):=by rw [← tt_eq h]; exact Goes.ret
theorem ret_no {p:Prop} (h:¬ p):Goes A f (.ret (B false)) (B (tt p)):=ret_tt (by simp [h])
end
def allFrom (k n:Nat) (P:Nat→Prop):Prop:=∀ i,k≤i→i < n→P i
theorem allFrom_end {n:Nat} {P:Nat→Prop}:allFrom n n P:=fun i h1 h2=>by omega
theorem allFrom_step {k n:Nat} {P:Nat→Prop} (h:k < n):allFrom k n P ↔ P k∧allFrom (k + 1) n P:=by
 constructor
 ·intro ha; exact ⟨ha k (Nat.le_refl k) h,fun i h1 h2=>ha i (by omega) h2⟩
 ·rintro ⟨hp,ha⟩ i h1 h2
  by_cases hi:i=k
  ·subst hi; exact hp
  ·exact ha i (by omega) h2
theorem allFrom_zero {n:Nat} {P:Nat→Prop}:allFrom 0 n P ↔ ∀ i,i < n→P i:=⟨fun h i hi=>h i (Nat.zero_le i) hi,fun h i _ hi=>h i hi⟩
theorem list_eq_iff {α:Type} {l m:List α} (h:l.length=m.length):l=m ↔ allFrom 0 l.length fun i=>l[i]? = m[i]? := by
 rw [allFrom_zero]
 constructor
 ·rintro rfl i _; rfl
 ·intro ha
  apply List.ext_getElem? 
  intro i
  by_cases hi:i < l.length
  ·exact ha i hi
  ·rw [List.getElem?_eq_none (by omega),List.getElem?_eq_none (by omega)]
end Go.Ab
namespace Go.Ab
theorem allLoop {A:AProg} {f:FuncId} {n:Nat} {P:Nat→Prop} {Q:Prop} {g:Nat→Prg TV} (hend:Goes A f (g n) (B (tt Q)))
  (hstep:∀ k,k < n→∀ r,(¬ P k→r=B false)→(P k→Goes A f (g (k + 1)) r)→Goes A f (g k) r):∀ d k,k + d=n→Goes A f (g k) (B (tt (allFrom k n P∧Q))):=by
 intro d
 induction d with
 | zero =>
  intro k hk
  have hk:k=n:=by omega
  subst hk
  rw [show tt (allFrom k k P∧Q)=tt Q from tt_congr ⟨fun h=>h.2,fun h=>⟨allFrom_end,h⟩⟩]
  exact hend
 | succ d ih =>
  intro k hk
  have hlt:k < n:=by omega
  refine hstep k hlt _ (fun hp=>?_) (fun hp=>?_)
  ·rw [tt_false]
   intro h
   exact hp ((allFrom_step hlt).1 h.1).1
  ·rw [show tt (allFrom k n P∧Q)=tt (allFrom (k + 1) n P∧Q) from tt_congr ⟨fun h=>⟨((allFrom_step hlt).1 h.1).2,h.2⟩,fun h=>⟨(allFrom_step hlt).2 ⟨hp,h.1⟩,h.2⟩⟩]
   exact ih (k + 1) (by omega)
theorem allLoop' {A:AProg} {f:FuncId} {n:Nat} {P:Nat→Prop} {g:Nat→Prg TV} (hend:Goes A f (g n) (B true))
  (hstep:∀ k,k < n→∀ r,(¬ P k→r=B false)→(P k→Goes A f (g (k + 1)) r)→Goes A f (g k) r):Goes A f (g 0) (B (tt (∀ i,i < n→P i))):=by
 have:=allLoop (Q:=True) (by rw [tt_true trivial]; exact hend) hstep n 0 (by omega)
 rw [show tt (∀ i,i < n→P i)=tt (allFrom 0 n P∧True) from tt_congr ⟨fun h=>⟨allFrom_zero.2 h,trivial⟩,fun h=>allFrom_zero.1 h.1⟩]
 exact this
theorem asB_lt {k n:Nat} (h:k < n):asBool (.lit (.bool (decide ((k:Int) < (n:Int)))))=some true:=by simp [asBool,h]
theorem asB_end {n:Nat}:asBool (.lit (.bool (decide ((n:Int) < (n:Int)))))=some false:=by simp [asBool]
theorem list_eq_iff' {α:Type} {l m:List α} (h:l.length=m.length):l=m ↔ ∀ i,i < l.length→l[i]? = m[i]? := by
 rw [list_eq_iff h,allFrom_zero]
end Go.Ab
namespace Go.Ab
end Go.Ab
end
section
namespace Go.Ab
def lookD:List (Nat × LentD)→Nat→Option LentD
 | [],_=>none
 | (k,d) :: r,t=>bif k.beq t then some d else lookD r t
end Go.Ab
end
section
set_option linter.unusedVariables false
namespace Go.Ab.L9
open Go.Ab Go.Proofs
def lookA:List (Nat × Ann)→Nat→Option Ann
 | [],_=>none
 | (k,d) :: r,t=>bif k.beq t then some d else lookA r t
def z2:List Value:=[.int .i64 0]
def z3:List Value:=[.int .i64 0]
def z4:List Value:=[.bool false]
def z5:List Value:=[.int .u8 0]
def z6:List Value:=[.int .u8 0]
def z7:List Value:=[.int .i64 0,.int .i64 0,.bool false,.int .u8 0]
def z8:List Value:=[.int .i64 0,.int .i64 0,.bool false,.int .u8 0]
def z9:List Value:=[.string ⟨#[]⟩]
def z10:List Value:=[.string ⟨#[]⟩]
def z11:List Value:=[.string ⟨#[]⟩]
def z12:List Value:=[.int .u64 0]
def z13:List Value:=[.string ⟨#[]⟩,.int .u64 0]
def z14:List Value:=[.string ⟨#[]⟩,.int .u64 0]
def z15:List Value:=[.pointer none]
def z16:List Value:=[.pointer none]
def z17:List Value:=[.pointer none]
def z18:List Value:=[.pointer none]
def z19:List Value:=[.pointer none]
def z20:List Value:=[.nilIface]
def z21:List Value:=[.int .i32 0]
def z22:List Value:=[.slice none 0 0]
def z23:List Value:=[.int .i64 0,.int .i64 0,.slice none 0 0]
def z24:List Value:=[.int .i64 0,.int .i64 0,.slice none 0 0]
def z25:List Value:=[.nilFunc]
def z26:List Value:=[.slice none 0 0]
def z27:List Value:=[.nilFunc]
def z28:List Value:=[.slice none 0 0]
def z29:List Value:=[.int .i64 0,.slice none 0 0]
def z30:List Value:=[.int .i64 0,.slice none 0 0]
def z31:List Value:=[.nilFunc]
def z32:List Value:=[.nilFunc]
def z33:List Value:=[.nilFunc]
def z34:List Value:=[.nilFunc]
def z35:List Value:=[.nilFunc]
def z36:List Value:=[.nilFunc]
def z37:List Value:=[.slice none 0 0]
def z38:List Value:=[.nilFunc]
def z39:List Value:=[.nilFunc]
def z40:List Value:=[.int .i64 0,.int .i64 0,.int .i64 0,.int .i64 0,.slice none 0 0,.int .i64 0,.int .i64 0,.int .i64 0]
def z41:List Value:=[.int .i64 0,.int .i64 0,.int .i64 0,.int .i64 0,.slice none 0 0,.int .i64 0,.int .i64 0,.int .i64 0]
def z42:List Value:=[.slice none 0 0]
def z43:List Value:=[.int .i64 0,.slice none 0 0,.bool false,.bool false]
def z44:List Value:=[.int .i64 0,.slice none 0 0,.bool false,.bool false]
def z45:List Value:=[.slice none 0 0]
def z46:List Value:=[.bool false,.int .i64 0,.slice none 0 0,.bool false,.bool false,.slice none 0 0,.int .i64 0,.int .i64 0,.int .i64 0,.int .i64 0,.slice none 0 0,.int .i64 0,.int .i64 0,.int .i64 0]
def z47:List Value:=[.bool false,.int .i64 0,.slice none 0 0,.bool false,.bool false,.slice none 0 0,.int .i64 0,.int .i64 0,.int .i64 0,.int .i64 0,.slice none 0 0,.int .i64 0,.int .i64 0,.int .i64 0]
def z48:List Value:=[.nilFunc]
def z49:List Value:=[.slice none 0 0]
def z50:List Value:=[.slice none 0 0,.slice none 0 0]
def z51:List Value:=[.slice none 0 0,.slice none 0 0]
def z52:List Value:=[.slice none 0 0,.slice none 0 0,.slice none 0 0,.slice none 0 0,.slice none 0 0,.slice none 0 0]
def z53:List Value:=[.slice none 0 0,.slice none 0 0,.slice none 0 0,.slice none 0 0,.slice none 0 0,.slice none 0 0]
def z54:List Value:=[.nilFunc]
def z55:List Value:=[.nilFunc]
def z56:List Value:=[.nilFunc]
def z57:List Value:=[.nilFunc]
def z58:List Value:=[.slice none 0 0]
def z59:List Value:=[.nilFunc]
def z60:List Value:=[.nilFunc]
def z61:List Value:=[.nilFunc]
def z62:List Value:=[.nilFunc]
def z63:List Value:=[.nilFunc]
def z64:List Value:=[.nilFunc]
def z65:List Value:=[.nilFunc]
def z66:List Value:=[.nilFunc]
def z67:List Value:=[.nilFunc]
def z68:List Value:=[.nilFunc]
def z69:List Value:=[.nilFunc]
def z70:List Value:=[.nilFunc]
def z71:List Value:=[.nilFunc]
def z72:List Value:=[.slice none 0 0]
def z73:List Value:=[.int .i64 0,.int .i64 0,.slice none 0 0,.slice none 0 0,.slice none 0 0,.slice none 0 0]
def z74:List Value:=[.int .i64 0,.int .i64 0,.slice none 0 0,.slice none 0 0,.slice none 0 0,.slice none 0 0]
def z75:List Value:=[.nilFunc]
def z76:List Value:=[.int .i64 0]
def z77:List Value:=[.nilFunc]
def z78:List Value:=[.nilFunc]
def z79:List Value:=[.nilFunc]
def z80:List Value:=[.nilFunc]
def z81:List Value:=[.nilFunc]
def z82:List Value:=[.nilFunc]
def z83:List Value:=[.slice none 0 0,.slice none 0 0,.slice none 0 0]
def z84:List Value:=[.slice none 0 0,.slice none 0 0,.slice none 0 0]
def z85:List Value:=[.nilFunc]
def z86:List Value:=[.pointer none]
def z87:List Value:=[.int .i64 0,.slice none 0 0]
def z88:List Value:=[.int .i64 0,.slice none 0 0]
def z89:List Value:=[.pointer none]
def z90:List Value:=[.nilFunc]
def z91:List Value:=[.nilFunc]
def z92:List Value:=[.nilFunc]
def z93:List Value:=[.nilFunc]
def z94:List Value:=[.pointer none,.pointer none,.pointer none,.string ⟨#[]⟩]
def z95:List Value:=[.pointer none,.pointer none,.pointer none,.string ⟨#[]⟩]
def z96:List Value:=[]
def z97:List Value:=[]
def z98:List Value:=[]
def z99:List Value:=[.nilFunc]
def z100:List Value:=[.int .u32 0]
def z101:List Value:=[.int .u8 0]
def z102:List Value:=[.int .u8 0]
def z103:List Value:=[.nilFunc]
def z104:List Value:=[.pointer none]
def z105:List Value:=[.int .i32 0]
def z106:List Value:=[.int .i32 0]
def z107:List Value:=[.int .u64 0,.int .u64 0,.int .u32 0,.int .u8 0,.int .u8 0,.int .u8 0,.int .u8 0,.nilFunc,.pointer none,.int .i32 0,.int .i32 0]
def z108:List Value:=[.int .u64 0,.int .u64 0,.int .u32 0,.int .u8 0,.int .u8 0,.int .u8 0,.int .u8 0,.nilFunc,.pointer none,.int .i32 0,.int .i32 0]
def z109:List Value:=[.int .u16 0]
def z110:List Value:=[.int .i64 0,.int .i64 0,.int .i64 0,.int .i64 0,.int .u16 0,.int .i64 0,.slice none 0 0]
def z111:List Value:=[.int .i64 0,.int .i64 0,.int .i64 0,.int .i64 0,.int .u16 0,.int .i64 0,.slice none 0 0]
def tab:Tab:=lookT [
 (2,⟨1,8,.int .i64,z2,[]⟩),
 (3,⟨1,8,.int .i64,z3,[]⟩),
 (4,⟨1,1,.bool,z4,[]⟩),
 (5,⟨1,1,.int .u8,z5,[]⟩),
 (6,⟨1,1,.int .u8,z6,[]⟩),
 (7,⟨4,24,.struct,z7,[(0,2),(1,3),(2,4),(3,6)]⟩),
 (8,⟨4,24,.struct,z8,[(0,2),(1,3),(2,4),(3,6)]⟩),
 (9,⟨1,16,.str,z9,[]⟩),
 (10,⟨1,16,.str,z10,[]⟩),
 (11,⟨1,16,.str,z11,[]⟩),
 (12,⟨1,8,.int .u64,z12,[]⟩),
 (13,⟨2,24,.struct,z13,[(0,9),(1,12)]⟩),
 (14,⟨2,24,.struct,z14,[(0,9),(1,12)]⟩),
 (15,⟨1,8,.ptr,z15,[]⟩),
 (16,⟨1,8,.ptr,z16,[]⟩),
 (17,⟨1,8,.ptr,z17,[]⟩),
 (18,⟨1,8,.struct,z18,[(0,17)]⟩),
 (19,⟨1,8,.struct,z19,[(0,17)]⟩),
 (20,⟨1,16,.other,z20,[]⟩),
 (21,⟨1,4,.int .i32,z21,[]⟩),
 (22,⟨1,24,.slice 47,z22,[]⟩),
 (23,⟨3,40,.struct,z23,[(0,3),(1,3),(2,22)]⟩),
 (24,⟨3,40,.struct,z24,[(0,3),(1,3),(2,22)]⟩),
 (25,⟨1,8,.other,z25,[]⟩),
 (26,⟨1,24,.slice 30,z26,[]⟩),
 (27,⟨1,8,.other,z27,[]⟩),
 (28,⟨1,24,.slice 3,z28,[]⟩),
 (29,⟨2,32,.struct,z29,[(0,3),(1,28)]⟩),
 (30,⟨2,32,.struct,z30,[(0,3),(1,28)]⟩),
 (31,⟨1,8,.other,z31,[]⟩),
 (32,⟨1,8,.other,z32,[]⟩),
 (33,⟨1,8,.other,z33,[]⟩),
 (34,⟨1,8,.other,z34,[]⟩),
 (35,⟨1,8,.other,z35,[]⟩),
 (36,⟨1,8,.other,z36,[]⟩),
 (37,⟨1,24,.slice 4,z37,[]⟩),
 (38,⟨1,8,.other,z38,[]⟩),
 (39,⟨1,8,.other,z39,[]⟩),
 (40,⟨8,80,.struct,z40,[(0,3),(1,3),(2,3),(3,3),(4,28),(5,3),(6,3),(7,3)]⟩),
 (41,⟨8,80,.struct,z41,[(0,3),(1,3),(2,3),(3,3),(4,28),(5,3),(6,3),(7,3)]⟩),
 (42,⟨1,24,.slice 109,z42,[]⟩),
 (43,⟨4,40,.struct,z43,[(0,3),(1,42),(2,4),(3,4)]⟩),
 (44,⟨4,40,.struct,z44,[(0,3),(1,42),(2,4),(3,4)]⟩),
 (45,⟨1,24,.slice 111,z45,[]⟩),
 (46,⟨14,152,.struct,z46,[(0,4),(1,44),(5,45),(6,41)]⟩),
 (47,⟨14,152,.struct,z47,[(0,4),(1,44),(5,45),(6,41)]⟩),
 (48,⟨1,8,.other,z48,[]⟩),
 (49,⟨1,24,.slice 28,z49,[]⟩),
 (50,⟨2,48,.struct,z50,[(0,28),(1,28)]⟩),
 (51,⟨2,48,.struct,z51,[(0,28),(1,28)]⟩),
 (52,⟨6,144,.struct,z52,[(0,49),(1,51),(3,37),(4,28),(5,28)]⟩),
 (53,⟨6,144,.struct,z53,[(0,49),(1,51),(3,37),(4,28),(5,28)]⟩),
 (54,⟨1,8,.other,z54,[]⟩),
 (55,⟨1,8,.other,z55,[]⟩),
 (56,⟨1,8,.other,z56,[]⟩),
 (57,⟨1,8,.other,z57,[]⟩),
 (58,⟨1,24,.slice 37,z58,[]⟩),
 (59,⟨1,8,.other,z59,[]⟩),
 (60,⟨1,8,.other,z60,[]⟩),
 (61,⟨1,8,.other,z61,[]⟩),
 (62,⟨1,8,.other,z62,[]⟩),
 (63,⟨1,8,.other,z63,[]⟩),
 (64,⟨1,8,.other,z64,[]⟩),
 (65,⟨1,8,.other,z65,[]⟩),
 (66,⟨1,8,.other,z66,[]⟩),
 (67,⟨1,8,.other,z67,[]⟩),
 (68,⟨1,8,.other,z68,[]⟩),
 (69,⟨1,8,.other,z69,[]⟩),
 (70,⟨1,8,.other,z70,[]⟩),
 (71,⟨1,8,.other,z71,[]⟩),
 (72,⟨1,24,.slice 88,z72,[]⟩),
 (73,⟨6,112,.struct,z73,[(0,24),(3,37),(4,72),(5,28)]⟩),
 (74,⟨6,112,.struct,z74,[(0,24),(3,37),(4,72),(5,28)]⟩),
 (75,⟨1,8,.other,z75,[]⟩),
 (76,⟨1,8,.int .i64,z76,[]⟩),
 (77,⟨1,8,.other,z77,[]⟩),
 (78,⟨1,8,.other,z78,[]⟩),
 (79,⟨1,8,.other,z79,[]⟩),
 (80,⟨1,8,.other,z80,[]⟩),
 (81,⟨1,8,.other,z81,[]⟩),
 (82,⟨1,8,.other,z82,[]⟩),
 (83,⟨3,72,.struct,z83,[(0,28),(1,49),(2,28)]⟩),
 (84,⟨3,72,.struct,z84,[(0,28),(1,49),(2,28)]⟩),
 (85,⟨1,8,.other,z85,[]⟩),
 (86,⟨1,8,.ptr,z86,[]⟩),
 (87,⟨2,32,.struct,z87,[(0,3),(1,28)]⟩),
 (88,⟨2,32,.struct,z88,[(0,3),(1,28)]⟩),
 (89,⟨1,8,.ptr,z89,[]⟩),
 (90,⟨1,8,.other,z90,[]⟩),
 (91,⟨1,8,.other,z91,[]⟩),
 (92,⟨1,8,.other,z92,[]⟩),
 (93,⟨1,8,.other,z93,[]⟩),
 (94,⟨4,40,.struct,z94,[(0,17),(1,17),(2,17),(3,9)]⟩),
 (95,⟨4,40,.struct,z95,[(0,17),(1,17),(2,17),(3,9)]⟩),
 (96,⟨0,0,.arr 0 16,z96,[]⟩),
 (97,⟨0,0,.struct,z97,[(0,96)]⟩),
 (98,⟨0,0,.struct,z98,[(0,96)]⟩),
 (99,⟨1,8,.other,z99,[]⟩),
 (100,⟨1,4,.int .u32,z100,[]⟩),
 (101,⟨1,1,.int .u8,z101,[]⟩),
 (102,⟨1,1,.int .u8,z102,[]⟩),
 (103,⟨1,8,.other,z103,[]⟩),
 (104,⟨1,8,.ptr,z104,[]⟩),
 (105,⟨1,4,.int .i32,z105,[]⟩),
 (106,⟨1,4,.int .i32,z106,[]⟩),
 (107,⟨11,48,.struct,z107,[(0,12),(1,12),(2,100),(3,101),(4,5),(5,5),(6,102),(7,103),(8,104),(9,105),(10,106)]⟩),
 (108,⟨11,48,.struct,z108,[(0,12),(1,12),(2,100),(3,101),(4,5),(5,5),(6,102),(7,103),(8,104),(9,105),(10,106)]⟩),
 (109,⟨1,2,.int .u16,z109,[]⟩),
 (110,⟨7,72,.struct,z110,[(0,3),(1,3),(2,3),(3,3),(4,109),(5,3),(6,28)]⟩),
 (111,⟨7,72,.struct,z111,[(0,3),(1,3),(2,3),(3,3),(4,109),(5,3),(6,28)]⟩)]
def pure (f:FuncId):Bool:=memB f [44,35,50,46,22,14,16,24,17,29,26]
def lookL:List (Nat × List Nat)→Nat→List Nat
 | [],_=>[]
 | (k,d) :: r,t=>bif k.beq t then d else lookL r t
def rts:FuncId→List TypeId:=lookL [(3,[4]),(7,[4]),(8,[26]),(9,[26]),(10,[4]),(11,[4]),(12,[3]),(16,[28]),(17,[53]),(18,[56]),(19,[58]),(20,[28]),(21,[37]),(24,[28]),(25,[4]),(26,[28]),(27,[28]),(28,[4]),(29,[51]),(30,[68]),(31,[]),(32,[]),(33,[37]),(34,[37]),(35,[28]),(37,[]),(38,[]),(39,[]),(40,[76]),(41,[4]),(42,[3]),(43,[]),(44,[28]),(45,[3]),(46,[84]),(47,[4]),(48,[]),(49,[4]),(50,[49]),(51,[3]),(52,[3])]
def f3_ann:Nat→Option Ann:=lookA [(10,⟨[1,2,5,6,7,8],[5,6],[],[],[]⟩)]
def f3_jn:Nat→Option Ann:=lookA [(16,⟨[1,2,7],[],[],[],[]⟩)]
def f8_ann:Nat→Option Ann:=lookA [(4,⟨[3,4,18,19],[],[],[],[]⟩),(12,⟨[7,37,38,39],[7],[],[],[]⟩)]
def f8_jn:Nat→Option Ann:=lookA [(10,⟨[4],[],[],[],[(4,1000)]⟩)]
def f9_ann:Nat→Option Ann:=lookA [(4,⟨[1,3,4,5],[3,4],[],[],[]⟩),(9,⟨[1,3,4,5,6,7,8],[3,4,6],[],[],[]⟩),(15,⟨[1,3,4,5,6,7,8,9,10],[3,4,6,9],[],[],[]⟩),(22,⟨[1,3,4,5,6,11,12],[3,4,6],[(11,1)],[],[]⟩)]
def f9_jn:Nat→Option Ann:=lookA [(18,⟨[1,3,4,5,6,7],[3,4,6],[],[],[]⟩),(26,⟨[1,3,4,5,11],[3,4],[],[],[]⟩)]
def f10_ann:Nat→Option Ann:=lookA [(4,⟨[0,1,5],[],[],[],[]⟩)]
def f11_ann:Nat→Option Ann:=lookA [(2,⟨[0,1,5],[],[],[],[]⟩)]
def f16_jn:Nat→Option Ann:=lookA [(7,⟨[2,6],[6],[],[],[]⟩)]
def f17_ann:Nat→Option Ann:=lookA [(4,⟨[1,2,3,5,32,33],[3],[],[2],[]⟩),(9,⟨[1,2,3,5,46,47,48],[3,46],[],[2],[]⟩),(12,⟨[1,2,3,5,8,46,47,48,54,55,56],[3,46,54],[],[2],[]⟩)]
def f17_jn:Nat→Option Ann:=lookA [(8,⟨[1,2,3,5],[3],[],[2],[]⟩),(17,⟨[2,3,5],[3],[],[2],[]⟩)]
def f19_ann:Nat→Option Ann:=lookA [(4,⟨[1,3,4,5],[3,4],[],[],[]⟩),(9,⟨[1,3,4,5,6,7,8],[3,4,6,7],[],[],[]⟩)]
def f19_jn:Nat→Option Ann:=lookA [(12,⟨[1,3,4,5,7],[3,4,7],[],[],[]⟩)]
def f20_ann:Nat→Option Ann:=lookA [(13,⟨[2,6,7,8],[6,7],[],[],[]⟩)]
def f20_jn:Nat→Option Ann:=lookA [(6,⟨[2,5,6,36],[6],[],[],[]⟩),(8,⟨[2,5,6,44],[6],[],[],[]⟩),(10,⟨[2,5,6,52],[6],[],[],[]⟩),(13,⟨[2,6,7,8],[6,7],[],[],[]⟩)]
def f21_ann:Nat→Option Ann:=lookA [(6,⟨[2,3,7,8],[7],[],[],[]⟩),(9,⟨[2,3,7,8,9],[7],[],[],[]⟩),(14,⟨[2,3,7,8,9,10,11],[7,10],[],[],[]⟩)]
def f24_ann:Nat→Option Ann:=lookA [(5,⟨[3],[],[(3,5),(3,4)],[],[(3,1004)]⟩)]
def f26_jn:Nat→Option Ann:=lookA [(6,⟨[1,4,18],[4],[],[],[]⟩)]
def f27_ann:Nat→Option Ann:=lookA [(5,⟨[0,1,5,6],[],[],[],[]⟩)]
def f27_jn:Nat→Option Ann:=lookA [(11,⟨[0,5],[],[],[],[]⟩)]
def f29_ann:Nat→Option Ann:=lookA [(10,⟨[4,5,7,10,53,54,55],[10],[],[4],[]⟩)]
def f29_jn:Nat→Option Ann:=lookA [(8,⟨[1,4,5,6,7],[],[],[4],[]⟩),(15,⟨[4,5,7,10,12,53,54,55],[10],[],[4],[]⟩)]
def f31_ann:Nat→Option Ann:=lookA [(3,⟨[1,2,4],[4],[],[],[]⟩)]
def f32_ann:Nat→Option Ann:=lookA [(3,⟨[0,1,4],[],[],[],[]⟩)]
def f32_jn:Nat→Option Ann:=lookA [(3,⟨[0,1,4],[],[],[],[]⟩)]
def f34_ann:Nat→Option Ann:=lookA [(6,⟨[1,2,5,6],[5],[],[],[]⟩),(9,⟨[1,2,5,6,7],[5],[],[],[]⟩),(13,⟨[1,2,5,6,7,8,9],[5,8],[],[],[]⟩)]
def f35_ann:Nat→Option Ann:=lookA [(2,⟨[1,3],[],[],[],[]⟩),(5,⟨[3,4,16,17],[4],[],[],[]⟩),(10,⟨[3,4,6],[4],[],[],[]⟩)]
def f35_jn:Nat→Option Ann:=lookA [(3,⟨[1,3],[],[],[],[]⟩),(9,⟨[3,4],[4],[],[],[]⟩)]
def f39_ann:Nat→Option Ann:=lookA [(1,⟨[0,2,3],[],[],[],[]⟩)]
def f42_ann:Nat→Option Ann:=lookA [(2,⟨[0,1,7,8],[],[],[],[]⟩)]
def f43_ann:Nat→Option Ann:=lookA [(1,⟨[0,1,3],[],[],[],[]⟩)]
def f44_ann:Nat→Option Ann:=lookA [(3,⟨[1,2,5,12,13,14],[5],[],[],[]⟩)]
def f45_ann:Nat→Option Ann:=lookA [(1,⟨[1,2],[],[],[],[]⟩)]
def f46_ann:Nat→Option Ann:=lookA [(4,⟨[2,3,4,5],[3],[],[2],[]⟩)]
def f47_ann:Nat→Option Ann:=lookA [(3,⟨[1,3,4],[],[],[],[]⟩)]
def f50_ann:Nat→Option Ann:=lookA [(3,⟨[1,2,5,17,18,19],[5],[],[],[]⟩),(9,⟨[2,5,8,32,33,34],[5,8],[],[],[]⟩),(12,⟨[2,5,8,9,32,33,34,41,42,43],[5,8,41],[],[],[]⟩)]
def f50_jn:Nat→Option Ann:=lookA [(7,⟨[1,2,5],[5],[],[],[]⟩)]
def f52_ann:Nat→Option Ann:=lookA [(1,⟨[1,2,3],[],[],[],[]⟩)]
noncomputable def fns:FuncId→Option Func:=fun f=>bif f.beq 3 then some Try.f3 else bif f.beq 7 then some Try.f7 else bif f.beq 8 then some Try.f8 else bif f.beq 9 then some Try.f9 else bif f.beq 10 then some Try.f10 else bif f.beq 11 then some Try.f11 else bif f.beq 12 then some Try.f12 else bif f.beq 16 then some Try.f16 else bif f.beq 17 then some Try.f17 else bif f.beq 18 then some Try.f18 else bif f.beq 19 then some Try.f19 else bif f.beq 20 then some Try.f20 else bif f.beq 21 then some Try.f21 else bif f.beq 24 then some Try.f24 else bif f.beq 25 then some Try.f25 else bif f.beq 26 then some Try.f26 else bif f.beq 27 then some Try.f27 else bif f.beq 28 then some Try.f28 else bif f.beq 29 then some Try.f29 else bif f.beq 30 then some Try.f30 else bif f.beq 31 then some Try.f31 else bif f.beq 32 then some Try.f32 else bif f.beq 33 then some Try.f33 else bif f.beq 34 then some Try.f34 else bif f.beq 35 then some Try.f35 else bif f.beq 37 then some Try.f37 else bif f.beq 38 then some Try.f38 else bif f.beq 39 then some Try.f39 else bif f.beq 40 then some Try.f40 else bif f.beq 41 then some Try.f41 else bif f.beq 42 then some Try.f42 else bif f.beq 43 then some Try.f43 else bif f.beq 44 then some Try.f44 else bif f.beq 45 then some Try.f45 else bif f.beq 46 then some Try.f46 else bif f.beq 47 then some Try.f47 else bif f.beq 48 then some Try.f48 else bif f.beq 49 then some Try.f49 else bif f.beq 50 then some Try.f50 else bif f.beq 51 then some Try.f51 else bif f.beq 52 then some Try.f52 else none
def anns:FuncId→Nat→Option Ann:=fun f=>bif f.beq 3 then f3_ann else bif f.beq 8 then f8_ann else bif f.beq 9 then f9_ann else bif f.beq 10 then f10_ann else bif f.beq 11 then f11_ann else bif f.beq 17 then f17_ann else bif f.beq 19 then f19_ann else bif f.beq 20 then f20_ann else bif f.beq 21 then f21_ann else bif f.beq 24 then f24_ann else bif f.beq 27 then f27_ann else bif f.beq 29 then f29_ann else bif f.beq 31 then f31_ann else bif f.beq 32 then f32_ann else bif f.beq 34 then f34_ann else bif f.beq 35 then f35_ann else bif f.beq 39 then f39_ann else bif f.beq 42 then f42_ann else bif f.beq 43 then f43_ann else bif f.beq 44 then f44_ann else bif f.beq 45 then f45_ann else bif f.beq 46 then f46_ann else bif f.beq 47 then f47_ann else bif f.beq 50 then f50_ann else bif f.beq 52 then f52_ann else fun _=>none
def jns:FuncId→Nat→Option Ann:=fun f=>bif f.beq 3 then f3_jn else bif f.beq 8 then f8_jn else bif f.beq 9 then f9_jn else bif f.beq 16 then f16_jn else bif f.beq 17 then f17_jn else bif f.beq 19 then f19_jn else bif f.beq 20 then f20_jn else bif f.beq 26 then f26_jn else bif f.beq 27 then f27_jn else bif f.beq 29 then f29_jn else bif f.beq 32 then f32_jn else bif f.beq 35 then f35_jn else bif f.beq 50 then f50_jn else fun _=>none
def lent:FuncId→Option LentD:=lookD []
def selfT (t:TypeId):Bool:=memB t []
def ext:FuncId→Option (List TV→Option TV):=fun f=>none
def opn (f:FuncId):Bool:=memB f [18,27,28,30,31,32,37,38,39,42,43,45,47,48]
def lookK:List (Nat × List Nat)→Nat→Option (List Nat)
 | [],_=>none
 | (k,d) :: r,t=>bif k.beq t then some d else lookK r t
def f8_kp:Nat→Option (List Nat):=lookK [(6002,[3,4,5,18,19])]
def f12_kp:Nat→Option (List Nat):=lookK [(4003,[5])]
def f16_kp:Nat→Option (List Nat):=lookK [(7002,[])]
def f17_kp:Nat→Option (List Nat):=lookK [(17001,[2,5]),(19002,[])]
def f24_kp:Nat→Option (List Nat):=lookK [(4000,[3]),(6000,[3]),(7002,[3])]
def f27_kp:Nat→Option (List Nat):=lookK [(1002,[0,1]),(8002,[0,1,5,6,7])]
def f29_kp:Nat→Option (List Nat):=lookK [(3001,[1,4,5,6,7])]
def f31_kp:Nat→Option (List Nat):=lookK [(5005,[1,2,4,5])]
def f32_kp:Nat→Option (List Nat):=lookK [(3005,[0,1,4,18])]
def f35_kp:Nat→Option (List Nat):=lookK [(2001,[1,3])]
def f38_kp:Nat→Option (List Nat):=lookK [(2001,[]),(6002,[])]
def f42_kp:Nat→Option (List Nat):=lookK [(4005,[0,1,5,7,8])]
def f43_kp:Nat→Option (List Nat):=lookK [(3006,[0,1,3])]
def f51_kp:Nat→Option (List Nat):=lookK [(2001,[2,5])]
def kps:FuncId→Nat→Option (List Nat):=fun f=>bif f.beq 8 then f8_kp else bif f.beq 12 then f12_kp else bif f.beq 16 then f16_kp else bif f.beq 17 then f17_kp else bif f.beq 24 then f24_kp else bif f.beq 27 then f27_kp else bif f.beq 29 then f29_kp else bif f.beq 31 then f31_kp else bif f.beq 32 then f32_kp else bif f.beq 35 then f35_kp else bif f.beq 38 then f38_kp else bif f.beq 42 then f42_kp else bif f.beq 43 then f43_kp else bif f.beq 51 then f51_kp else fun _=>none
def peek:FuncId→Option (Nat × Nat):=fun f=>none
noncomputable def prog:AProg:=⟨tab,pure,rts,fns,anns,jns,lent,selfT,ext,opn,kps,peek⟩
end Go.Ab.L9
end
section
set_option linter.unusedVariables false
set_option maxRecDepth 100000
namespace Go.Ab.L9
open Go Go.Ab Go.Proofs
open Go.Ab.TV (hole cell comp isSl isSc isTup cellsL tup agg)
open Go.Ab.Prg (tv tvs rws nat chk call jmp ret)
def f3_0_S  (x0 x1 x2 y3 y4 y5 w6 w7:TV):ASt:=⟨[AV.one CA.junk,AV.tv x0,AV.one (CA.ptr 0 0),AV.one CA.junk,AV.one CA.junk,AV.one (CA.sref 1 0 []),AV.one (CA.sref 2 0 []),AV.tv x1,AV.tv x2] ++ List.replicate 60 (AV.one CA.junk),[some (BC.cells [CA.t y3,CA.t y4,CA.t y5]),some (BC.tree [w6]),some (BC.tree [w7])] ++ List.replicate 90 (none),[]⟩
def f3_1_S  (x0 x1 y2 y3 y4:TV):ASt:=⟨[AV.one CA.junk,AV.tv x0,AV.one (CA.ptr 0 0)] ++ List.replicate 4 (AV.one CA.junk) ++ [AV.tv x1] ++ List.replicate 61 (AV.one CA.junk),[some (BC.cells [CA.t y2,CA.t y3,CA.t y4])] ++ List.replicate 92 (none),[]⟩
def f3_M (x0 x1:TV):Prg TV :=
 chk (TV.isAgg x0 3) (
 call 7 [] fun v0 =>
 chk (fitsAt zBool [v0] 0) (
 tv (pun .not v0) fun v1 =>
 Prg.ite (asBool v1) (
 ret (B false)) (
 tv (plen (.slice 47) (cell x0 2)) fun v2 =>
 tv (pbin (.int .i64) .gtr v2 (I 30)) fun v3 =>
 Prg.ite (asBool v3) (
 ret (B true)) (
 call 8 [agg [cell x0 0,cell x0 1,cell x0 2]] fun v4 =>
 chk (fitsAt zSl [v4] 0) (
 call 9 [agg [cell x0 0,cell x0 1,cell x0 2]] fun v5 =>
 chk (fitsAt zSl [v5] 0) (
 tv (plen (.slice 30) v4) fun v6 =>
 tv (plen (.slice 30) v5) fun v7 =>
 tv (pbin (.int .i64) .neq v6 v7) fun v8 =>
 Prg.ite (asBool v8) (
 ret (B false)) (
 jmp [0,0,1,0,1,1,1,1,1,1] (f3_0_S x1 (I 0) (I 0) (cell x0 0) (cell x0 1) (cell x0 2) v4 v5))))))))
def f3_0  (x0 x1 x2 y3 y4 y5 w6 w7:TV):Prg TV :=
 tv (plen (.slice 30) w6) fun v9 =>
 tv (pbin (.int .i64) .lss x2 v9) fun v10 =>
 Prg.ite (asBool v10) (
 nat (slLen w6) fun n11 =>
 nat (asNat x2) fun n12 =>
 chk (Bool.and (slSize w6 2) (Nat.blt n12 n11)) (
 tvs (pel w6 n12) fun e13 =>
 chk (fitsAt zInt e13 0) (
 nat (slLen w7) fun n14 =>
 nat (asNat x2) fun n15 =>
 chk (Bool.and (slSize w7 2) (Nat.blt n15 n14)) (
 tvs (pel w7 n15) fun e16 =>
 chk (fitsAt zInt e16 0) (
 tv (pbin (.int .i64) .neq (nth hole e13 0) (nth hole e16 0)) fun v17 =>
 Prg.ite (asBool v17) (
 ret (B false)) (
 nat (slLen w6) fun n18 =>
 nat (asNat x2) fun n19 =>
 chk (Bool.and (slSize w6 2) (Nat.blt n19 n18)) (
 tvs (pel w6 n19) fun e20 =>
 chk (fitsAt zSl e20 1) (
 nat (slLen w7) fun n21 =>
 nat (asNat x2) fun n22 =>
 chk (Bool.and (slSize w7 2) (Nat.blt n22 n21)) (
 tvs (pel w7 n22) fun e23 =>
 chk (fitsAt zSl e23 1) (
 tv (getP [(n19,1)] w6) fun v24 =>
 tv (getP [(n22,1)] w7) fun v25 =>
 call 10 [frz v24,frz v25] fun v26 =>
 chk (fitsAt zBool [v26] 0) (
 tv (pun .not v26) fun v27 =>
 Prg.ite (asBool v27) (
 ret (B false)) (
 nat (slLen w7) fun n28 =>
 nat (asNat x2) fun n29 =>
 chk (Bool.and (slSize w7 2) (Nat.blt n29 n28)) (
 tvs (pel w7 n29) fun e30 =>
 chk (fitsAt zSl e30 1) (
 tv (getP [(n29,1)] w7) fun v31 =>
 call 11 [frz v31,x0] fun v32 =>
 chk (fitsAt zBool [v32] 0) (
 Prg.ite (asBool v32) (
 tv (pbin (.int .i64) .add x1 (I 1)) fun v33 =>
 tv (pbin (.int .i64) .add x2 (I 1)) fun v34 =>
 jmp [0,0,1,0,1,1,1,1,1,1] (f3_0_S x0 v33 v34 y3 y4 y5 w6 w7)) (
 tv (pbin (.int .i64) .add x2 (I 1)) fun v35 =>
 jmp [0,0,1,0,1,1,1,1,1,1] (f3_0_S x0 x1 v35 y3 y4 y5 w6 w7))))))))))))))))) (
 jmp [1,1,1,1,1,1,1] (f3_1_S x0 x1 y3 y4 y5))
def f3_1  (x0 x1 y2 y3 y4:TV):Prg TV :=
 call 12 [agg [y2,y3,y4],x0] fun v36 =>
 chk (fitsAt zInt [v36] 0) (
 tv (pbin (.int .i64) .eql v36 x1) fun v37 =>
 ret v37)
theorem f3_MR (x0 x1:TV):startQ prog 3 [x0,x1]=f3_M x0 x1:=by kernel_rfl
theorem f3_0_J  {x0 x1 x2 y3 y4 y5 w6 w7:TV} {r:TV} (h:Goes prog 3 (f3_0 x0 x1 x2 y3 y4 y5 w6 w7) r):Goes prog 3 (.jmp [0,0,1,0,1,1,1,1,1,1] (f3_0_S x0 x1 x2 y3 y4 y5 w6 w7)) r:=Goes.jmp (by kernel_rfl) h
theorem f3_1_J  {x0 x1 y2 y3 y4:TV} {r:TV} (h:Goes prog 3 (f3_1 x0 x1 y2 y3 y4) r):Goes prog 3 (.jmp [1,1,1,1,1,1,1] (f3_1_S x0 x1 y2 y3 y4)) r:=Goes.jmp (by kernel_rfl) h
def f7_M:Prg TV :=
 call 8 [agg [I 0,I 1,frz (TV.sl true 14 (chunks 14 3 [B false,I 0,TV.lit nilV,B false,B false,TV.lit nilV,I 2,I 0,I 0,I 0,TV.lit nilV,I 1,I 0,I 0,B false,I 0,TV.lit nilV,B false,B false,TV.lit nilV,I 3,I 0,I 0,I 0,TV.lit nilV,I 1,I 2,I 0,B false,I 0,TV.lit nilV,B false,B false,TV.lit nilV,I 1,I 0,I 0,I 0,TV.lit nilV,I 0,I 0,I 0]))]] fun v0 =>
 chk (fitsAt zSl [v0] 0) (
 tv (plen (.slice 30) v0) fun v1 =>
 tv (pbin (.int .i64) .eql v1 (I 1)) fun v2 =>
 Prg.ite (asBool v2) (
 nat (slLen v0) fun n3 =>
 nat (asNat (I 0)) fun n4 =>
 chk (Bool.and (slSize v0 2) (Nat.blt n4 n3)) (
 tvs (pel v0 n4) fun e5 =>
 chk (fitsAt zInt e5 0) (
 tv (pbin (.int .i64) .eql (nth hole e5 0) (I 1)) fun v6 =>
 Prg.ite (asBool v6) (
 nat (slLen v0) fun n7 =>
 nat (asNat (I 0)) fun n8 =>
 chk (Bool.and (slSize v0 2) (Nat.blt n8 n7)) (
 tvs (pel v0 n8) fun e9 =>
 chk (fitsAt zSl e9 1) (
 tv (getP [(n8,1)] v0) fun v10 =>
 call 10 [frz v10,frz (TV.sl true 1 (chunks 1 1 [I 1]))] fun v11 =>
 chk (fitsAt zBool [v11] 0) (
 Prg.ite (asBool v11) (
 call 12 [agg [I 0,I 1,frz (TV.sl false 14 [[B false,I 0,TV.lit nilV,B false,B false,TV.lit nilV,I 2,I 0,I 0,I 0,TV.lit nilV,I 1,I 0,I 0],[B false,I 0,TV.lit nilV,B false,B false,TV.lit nilV,I 3,I 0,I 0,I 0,TV.lit nilV,I 1,I 2,I 0],[B false,I 0,TV.lit nilV,B false,B false,TV.lit nilV,I 1,I 0,I 0,I 0,TV.lit nilV,I 0,I 0,I 0]])],I 1] fun v12 =>
 chk (fitsAt zInt [v12] 0) (
 tv (pbin (.int .i64) .eql v12 (I 1)) fun v13 =>
 Prg.ite (asBool v13) (
 call 12 [agg [I 0,I 1,frz (TV.sl false 14 [[B false,I 0,TV.lit nilV,B false,B false,TV.lit nilV,I 2,I 0,I 0,I 0,TV.lit nilV,I 1,I 0,I 0],[B false,I 0,TV.lit nilV,B false,B false,TV.lit nilV,I 3,I 0,I 0,I 0,TV.lit nilV,I 1,I 2,I 0],[B false,I 0,TV.lit nilV,B false,B false,TV.lit nilV,I 1,I 0,I 0,I 0,TV.lit nilV,I 0,I 0,I 0]])],I 2] fun v14 =>
 chk (fitsAt zInt [v14] 0) (
 tv (pbin (.int .i64) .eql v14 (I 0)) fun v15 =>
 ret v15)) (
 ret (B false)))) (
 ret (B false)))))) (
 ret (B false))))) (
 ret (B false)))
theorem f7_MR:startQ prog 7 []=f7_M  := by kernel_rfl
def f8_0_S  (x0 x1 w2 w3 w4 w5 w6 w7 w8:TV):ASt:=⟨[AV.one CA.junk,AV.one CA.junk,AV.one CA.junk,AV.one (CA.ptr 0 0),AV.one (CA.ptr 1 0)] ++ List.replicate 13 (AV.one CA.junk) ++ [AV.tv x0,AV.tv x1] ++ List.replicate 35 (AV.one CA.junk),[some (BC.cells [CA.sref 2 0 [],CA.sref 2 1 [],CA.sref 2 2 [],CA.sref 2 3 [],CA.sref 2 4 [],CA.sref 2 5 []]),some (BC.cells [CA.sref 3 0 []]),some (BC.tree [w2,w3,w4,w5,w6,w7]),some (BC.tree [w8])] ++ List.replicate 75 (none),[]⟩
def f8_1_S  (x0 y1 y2 w3 w4 w5 w6 w7 w8 w9 x10 x11:TV):ASt:=⟨[AV.one (CA.yl 0),AV.one (CA.ptr 0 0),AV.one CA.junk,AV.one CA.junk,AV.tv x0] ++ List.replicate 23 (AV.one CA.junk),[some (BC.cells [CA.sref 5 0 [],CA.sref 5 1 [],CA.sref 5 2 [],CA.sref 5 3 [],CA.sref 5 4 [],CA.sref 5 5 []]),some (BC.cells [CA.sref 5 0 [],CA.sref 5 1 [],CA.sref 5 2 [],CA.sref 5 3 [],CA.sref 5 4 [],CA.sref 5 5 []]),some (BC.cells [CA.sref 6 0 []]),some (BC.cells [CA.t y1]),some (BC.cells [CA.t y2]),some (BC.tree [w3,w4,w5,w6,w7,w8]),some (BC.tree [w9])] ++ List.replicate 100 (none),([AV.one CA.junk,AV.one CA.junk,AV.one CA.junk,AV.one (CA.ptr 1 0),AV.one (CA.ptr 2 0),AV.one (CA.ptr 3 0)] ++ List.replicate 12 (AV.one CA.junk) ++ [AV.tv x10,AV.tv x11] ++ List.replicate 4 (AV.one CA.junk) ++ [AV.clo 32 [CA.ptr 0 0,CA.ptr 4 0]] ++ List.replicate 30 (AV.one CA.junk))⟩
def f8_2_S  (w0:TV):ASt:=⟨List.replicate 4 (AV.one CA.junk) ++ [AV.one (CA.ptr 0 0)] ++ List.replicate 50 (AV.one CA.junk),[some (BC.cells [CA.sref 1 0 []]),some (BC.tree [w0])] ++ List.replicate 77 (none),[]⟩
def f8_3_S  (x0 y1 y2 w3 w4 w5 w6 w7 w8 w9 x10 x11:TV):ASt:=⟨[AV.one (CA.yl 0),AV.one (CA.ptr 0 0),AV.one CA.junk,AV.one CA.junk,AV.tv x0] ++ List.replicate 23 (AV.one CA.junk),[some (BC.cells [CA.sref 5 0 [],CA.sref 5 1 [],CA.sref 5 2 [],CA.sref 5 3 [],CA.sref 5 4 [],CA.sref 5 5 []]),some (BC.cells [CA.sref 5 0 [],CA.sref 5 1 [],CA.sref 5 2 [],CA.sref 5 3 [],CA.sref 5 4 [],CA.sref 5 5 []]),some (BC.cells [CA.sref 6 0 []]),some (BC.cells [CA.t y1]),some (BC.cells [CA.t y2]),some (BC.tree [w3,w4,w5,w6,w7,w8]),some (BC.tree [w9])] ++ List.replicate 100 (none),([AV.one CA.junk,AV.one CA.junk,AV.one CA.junk,AV.one (CA.ptr 1 0),AV.one (CA.ptr 2 0),AV.one (CA.ptr 3 0)] ++ List.replicate 12 (AV.one CA.junk) ++ [AV.tv x10,AV.tv x11] ++ List.replicate 4 (AV.one CA.junk) ++ [AV.clo 32 [CA.ptr 0 0,CA.ptr 4 0]] ++ List.replicate 30 (AV.one CA.junk))⟩
def f8_4_S  (x0 x1 w2 w3:TV):ASt:=⟨List.replicate 7 (AV.one CA.junk) ++ [AV.one (CA.sref 0 0 [])] ++ List.replicate 29 (AV.one CA.junk) ++ [AV.one (CA.sref 1 0 []),AV.tv x0,AV.tv x1] ++ List.replicate 15 (AV.one CA.junk),[some (BC.tree [w2]),some (BC.tree [w3])] ++ List.replicate 77 (none),[]⟩
def f8_M (x0:TV):Prg TV :=
 chk (TV.isAgg x0 3) (
 call 17 [agg [cell x0 0,cell x0 1,cell x0 2]] fun v0 =>
 chk (Bool.and (TV.isAgg v0 6) (fitsAt z52 (cellsL true v0) 0)) (
 tv (plen (.slice 47) (cell x0 2)) fun v1 =>
 nat (asNat v1) fun n2 =>
 nat (asNat v1) fun n3 =>
 chk (Bool.and (Nat.ble n2 n3) (Nat.ble n3 4294967296)) (
 tv (plen (.slice 47) (cell x0 2)) fun v4 =>
 jmp [0,0,1,0,1,1,1] (f8_0_S v4 (I 0) (cell v0 0) (cell v0 1) (cell v0 2) (cell v0 3) (cell v0 4) (cell v0 5) (TV.sl true 1 (List.replicate n2 [TV.lit nilV]))))))
def f8_0  (x0 x1 w2 w3 w4 w5 w6 w7 w8:TV):Prg TV :=
 tv (pbin (.int .i64) .lss x1 x0) fun v5 =>
 Prg.ite (asBool v5) (
 chk (TV.isOne x1) (
 nat (slLen w6) fun n6 =>
 nat (asNat x1) fun n7 =>
 chk (Bool.and (slSize w6 1) (Nat.blt n7 n6)) (
 tvs (pel w6 n7) fun e8 =>
 chk (fitsAt zInt e8 0) (
 nat (slLen w5) fun n9 =>
 nat (asNat x1) fun n10 =>
 chk (Bool.and (slSize w5 1) (Nat.blt n10 n9)) (
 tvs (pel w5 n10) fun e11 =>
 chk (fitsAt zBool e11 0) (
 Prg.ite (asBool (nth hole e11 0)) (
 jmp [1,1,32,0,1,1,0,0,1,1,0,0,1,0,1,1,1] (f8_1_S x1 x1 x1 w2 w3 w4 w5 w6 w7 w8 x0 x1)) (
 jmp [1,1,32,0,1,1,0,0,1,1,0,0,1,0,1,1,1] (f8_1_S (nth hole e8 0) x1 x1 w2 w3 w4 w5 w6 w7 w8 x0 x1)))))))) (
 jmp [1,1,1,1] (f8_2_S (coolT w8)))
def f8_1  (x0 y1 y2 w3 w4 w5 w6 w7 w8 w9 x10 x11:TV):Prg TV :=
 jmp [0,0,1,1,32,0,1,1,0,0,1,1,0,0,1,0,1,1,1] (f8_3_S x0 y1 y2 w3 w4 w5 w6 w7 w8 w9 x10 x11)
def f8_2  (w0:TV):Prg TV :=
 tv (plen (.slice 28) w0) fun v12 =>
 chk true (
 jmp [0,0,1,0,1,1,1,1,1] (f8_4_S v12 (I 0) (TV.lit nilV) w0))
def f8_3  (x0 y1 y2 w3 w4 w5 w6 w7 w8 w9 x10 x11:TV):Prg TV :=
 tv (pbin (.int .i64) .geq x0 (I 0)) fun v13 =>
 Prg.ite (asBool v13) (
 nat (slLen w9) fun n14 =>
 nat (asNat x0) fun n15 =>
 chk (Bool.and (slSize w9 1) (Nat.blt n15 n14)) (
 tvs (pel w9 n15) fun e16 =>
 chk (fitsAt zSl e16 0) (
 rws (pelems 1 (TV.sl true 1 (chunks 1 1 [y1]))) fun r17 =>
 tv (getP [(n15,0)] w9) fun v18 =>
 tv (papp 1 v18 (lfLL r17)) fun v19 =>
 tv (setP [(n15,0)] w9 hole) fun v20 =>
 nat (slLen v20) fun n21 =>
 nat (asNat x0) fun n22 =>
 chk (Bool.and (slSize v20 1) (Nat.blt n22 n21)) (
 tvs (pel v20 n22) fun e23 =>
 chk (Bool.and (fitsOld zSl e23 0) (fitsAt zSl [v19] 0)) (
 tv (setC [] v20 n22 0 [v19]) fun v24 =>
 nat (slLen w7) fun n25 =>
 nat (asNat x0) fun n26 =>
 chk (Bool.and (slSize w7 1) (Nat.blt n26 n25)) (
 tvs (pel w7 n26) fun e27 =>
 chk (fitsAt zInt e27 0) (
 jmp [0,0,1,1,32,0,1,1,0,0,1,1,0,0,1,0,1,1,1] (f8_3_S (nth hole e27 0) y1 y2 w3 w4 w5 w6 w7 w8 v24 x10 x11)))))))) (
 tv (pbin (.int .i64) .add x11 (I 1)) fun v28 =>
 jmp [0,0,1,0,1,1,1] (f8_0_S x10 v28 w3 w4 w5 w6 w7 w8 w9))
def f8_4  (x0 x1 w2 w3:TV):Prg TV :=
 tv (pbin (.int .i64) .lss x1 x0) fun v29 =>
 Prg.ite (asBool v29) (
 nat (slLen w3) fun n30 =>
 nat (asNat x1) fun n31 =>
 chk (Bool.and (slSize w3 1) (Nat.blt n31 n30)) (
 tvs (pel w3 n31) fun e32 =>
 chk (fitsAt zSl e32 0) (
 tv (getP [(n31,0)] w3) fun v33 =>
 tv (plen (.slice 3) v33) fun v34 =>
 tv (pbin (.int .i64) .gtr v34 (I 0)) fun v35 =>
 Prg.ite (asBool v35) (
 chk (TV.isOne x1) (
 tv (getP [(n31,0)] w3) fun v36 =>
 chk (TV.isFr v36) (
 rws (pelems 2 (TV.sl true 2 (chunks 2 1 [x1,v36]))) fun r37 =>
 tv (papp 2 w2 r37) fun v38 =>
 tv (pbin (.int .i64) .add x1 (I 1)) fun v39 =>
 jmp [0,0,1,0,1,1,1,1,1] (f8_4_S x0 v39 v38 w3)))) (
 tv (pbin (.int .i64) .add x1 (I 1)) fun v40 =>
 jmp [0,0,1,0,1,1,1,1,1] (f8_4_S x0 v40 w2 w3))))) (
 ret w2)
theorem f8_MR (x0:TV):startQ prog 8 [x0]=f8_M x0:=by kernel_rfl
theorem f8_0_J  {x0 x1 w2 w3 w4 w5 w6 w7 w8:TV} {r:TV} (h:Goes prog 8 (f8_0 x0 x1 w2 w3 w4 w5 w6 w7 w8) r):Goes prog 8 (.jmp [0,0,1,0,1,1,1] (f8_0_S x0 x1 w2 w3 w4 w5 w6 w7 w8)) r:=Goes.jmp (by kernel_rfl) h
theorem f8_1_J  {x0 y1 y2 w3 w4 w5 w6 w7 w8 w9 x10 x11:TV} {r:TV} (h:Goes prog 8 (f8_1 x0 y1 y2 w3 w4 w5 w6 w7 w8 w9 x10 x11) r):Goes prog 8 (.jmp [1,1,32,0,1,1,0,0,1,1,0,0,1,0,1,1,1] (f8_1_S x0 y1 y2 w3 w4 w5 w6 w7 w8 w9 x10 x11)) r:=Goes.jmp (by kernel_rfl) h
theorem f8_2_J  {w0:TV} {r:TV} (h:Goes prog 8 (f8_2 w0) r):Goes prog 8 (.jmp [1,1,1,1] (f8_2_S w0)) r:=Goes.jmp (by kernel_rfl) h
theorem f8_3_J  {x0 y1 y2 w3 w4 w5 w6 w7 w8 w9 x10 x11:TV} {r:TV} (h:Goes prog 8 (f8_3 x0 y1 y2 w3 w4 w5 w6 w7 w8 w9 x10 x11) r):Goes prog 8 (.jmp [0,0,1,1,32,0,1,1,0,0,1,1,0,0,1,0,1,1,1] (f8_3_S x0 y1 y2 w3 w4 w5 w6 w7 w8 w9 x10 x11)) r:=Goes.jmp (by kernel_rfl) h
theorem f8_4_J  {x0 x1 w2 w3:TV} {r:TV} (h:Goes prog 8 (f8_4 x0 x1 w2 w3) r):Goes prog 8 (.jmp [0,0,1,0,1,1,1,1,1] (f8_4_S x0 x1 w2 w3)) r:=Goes.jmp (by kernel_rfl) h
end Go.Ab.L9
end

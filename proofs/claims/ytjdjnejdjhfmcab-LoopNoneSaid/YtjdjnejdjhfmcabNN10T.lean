import Derived.Test.YtjdjnejdjhfmcabNM0
import Derived.IntWalk
import Derived.Lib.ItoaNum
import Derived.Test.YtjdjnejdjhfmcabProg
section
namespace Go.Ab
def zInt:List Value:=[.int .i64 0]
def zBool:List Value:=[.bool false]
def zSl:List Value:=[.slice none 0 0]
def zEnd:List Value:=[.int .i64 0,.int .i64 0,.int .i64 0,.int .i64 0,.slice none 0 0,.int .i64 0,.int .i64 0,.int .i64 0]
end Go.Ab
end
section
namespace Go.Ab
set_option linter.unusedVariables false
section
variable {R:Type} {C C':FuncId→List TV→Option TV} {J J':List Nat→ASt→Option R}
theorem Prg.run_mono (hC:∀ f xs v,C f xs=some v→C' f xs=some v) (hJ:∀ p st r,J p st=some r→J' p st=some r):∀ {p:Prg R} {r:R},p.run C J=some r→p.run C' J'=some r
 | .fail,r,h=>by simp [Prg.run] at h
 | .ret x,r,h=>h
 | .tv p k,r,h=>by
  cases p with
  | none=>simp [Prg.run] at h
  | some v=>exact Prg.run_mono hC hJ (p:=k v) h
 | .tvs p k,r,h=>by
  cases p with
  | none=>simp [Prg.run] at h
  | some v=>exact Prg.run_mono hC hJ (p:=k v) h
 | .rws p k,r,h=>by
  cases p with
  | none=>simp [Prg.run] at h
  | some v=>exact Prg.run_mono hC hJ (p:=k v) h
 | .nat p k,r,h=>by
  cases p with
  | none=>simp [Prg.run] at h
  | some v=>exact Prg.run_mono hC hJ (p:=k v) h
 | .chk b k,r,h=>by
  cases b with
  | false=>simp [Prg.run] at h
  | true=>exact Prg.run_mono hC hJ (p:=k) h
 | .ite b t e, r, h => by
  cases b with
  | none=>simp [Prg.run] at h
  | some b =>
   cases b with
   | true=>exact Prg.run_mono hC hJ (p:=t) h
   | false=>exact Prg.run_mono hC hJ (p:=e) h
 | .call f xs k, r, h => by
  simp only [Prg.run] at h ⊢
  cases hc:C f xs with
  | none=>rw [hc] at h; simp at h
  | some v =>
   rw [hc] at h
   rw [hC _ _ _ hc]
   exact Prg.run_mono hC hJ (p:=k v) h
 | .jmp p st,r,h=>hJ _ _ _ h
end
section
variable {A:AProg} {f g:FuncId}
theorem runN_mono {C C':FuncId→List TV→Option TV} (hC:∀ f xs v,C f xs=some v→C' f xs=some v):∀ {m m':Nat},m≤m'→∀ {p:List Nat} {st:ASt} {r:TV},runN A C f m p st=some r→runN A C' f m' p st=some r
 | 0,_,_,_,_,_,h=>by simp [runN] at h
 | m + 1,0,hle,_,_,_,_=>by omega
 | m + 1,m' + 1,hle,p,st,r,h=>by
  simp only [runN] at h ⊢
  exact Prg.run_mono hC (fun p st r h=>runN_mono hC (by omega) h) h
theorem acall_mono:∀ {n n':Nat},n≤n'→∀ {f:FuncId} {args:List TV} {r:TV},acall A n f args=some r→acall A n' f args=some r
 | 0,_,_,_,_,_,h=>by simp [acall] at h
 | n + 1,0,hle,_,_,_,_=>by omega
 | n + 1, n' + 1, hle, f, args, r, h => by
  simp only [acall] at h ⊢
  have hC:∀ f xs v,acall A n f xs=some v→acall A n' f xs=some v:=fun f xs v h=>acall_mono (by omega) h
  split at h
  ·rename_i g hg
   exact h
  ·exact Prg.run_mono hC (fun p st r h=>runN_mono hC (by omega) h) h
def Runs (A:AProg) (f:FuncId) (args:List TV) (r:TV):Prop:=∃ n,acall A n f args=some r
def Goes (A:AProg) (f:FuncId) (p:Prg TV) (r:TV):Prop:=∃ n,p.run (acall A n) (runN A (acall A n) f n)=some r
variable {r:TV}
theorem Goes.up {p:Prg TV} {n n':Nat} (h:p.run (acall A n) (runN A (acall A n) f n)=some r) (hle:n≤n'):p.run (acall A n') (runN A (acall A n') f n')=some r :=
 Prg.run_mono (fun _ _ _ h=>acall_mono hle h) (fun _ _ _ h=>runN_mono (fun _ _ _ h=>acall_mono hle h) hle h) h
theorem Goes.ret:Goes A f (.ret r) r:=⟨0,rfl⟩
theorem goes_ret {x:TV}:Goes A f (.ret x) r ↔ x=r:=⟨fun ⟨n,h⟩=>by simpa [Prg.run] using h,fun h=>h ▸ Goes.ret⟩
theorem goes_tv {p:Option TV} {k:TV→Prg TV}:Goes A f (.tv p k) r ↔ ∃ v,p=some v∧Goes A f (k v) r:=by
 constructor
 ·rintro ⟨n,h⟩
  cases p with
  | none=>simp [Prg.run] at h
  | some v=>exact ⟨v,rfl,n,h⟩
 ·rintro ⟨v,rfl,n,h⟩; exact ⟨n,h⟩
theorem goes_tvs {p:Option (List TV)} {k:List TV→Prg TV}:Goes A f (.tvs p k) r ↔ ∃ v,p=some v∧Goes A f (k v) r:=by
 constructor
 ·rintro ⟨n,h⟩
  cases p with
  | none=>simp [Prg.run] at h
  | some v=>exact ⟨v,rfl,n,h⟩
 ·rintro ⟨v,rfl,n,h⟩; exact ⟨n,h⟩
theorem goes_rws {p:Option (List (List TV))} {k:List (List TV)→Prg TV}:Goes A f (.rws p k) r ↔ ∃ v,p=some v∧Goes A f (k v) r:=by
 constructor
 ·rintro ⟨n,h⟩
  cases p with
  | none=>simp [Prg.run] at h
  | some v=>exact ⟨v,rfl,n,h⟩
 ·rintro ⟨v,rfl,n,h⟩; exact ⟨n,h⟩
theorem goes_nat {p:Option Nat} {k:Nat→Prg TV}:Goes A f (.nat p k) r ↔ ∃ v,p=some v∧Goes A f (k v) r:=by
 constructor
 ·rintro ⟨n,h⟩
  cases p with
  | none=>simp [Prg.run] at h
  | some v=>exact ⟨v,rfl,n,h⟩
 ·rintro ⟨v,rfl,n,h⟩; exact ⟨n,h⟩
theorem goes_chk {b:Bool} {k:Prg TV}:Goes A f (.chk b k) r ↔ b=true∧Goes A f k r:=by
 constructor
 ·rintro ⟨n,h⟩
  cases b with
  | false=>simp [Prg.run] at h
  | true=>exact ⟨rfl,n,h⟩
 ·rintro ⟨rfl,n,h⟩; exact ⟨n,h⟩
theorem goes_ite {b:Option Bool} {t e:Prg TV}:Goes A f (.ite b t e) r ↔ ∃ v,b=some v∧Goes A f (bif v then t else e) r:=by
 constructor
 ·rintro ⟨n,h⟩
  cases b with
  | none=>simp [Prg.run] at h
  | some v=>refine ⟨v,rfl,n,?_⟩; cases v <;> exact h
 ·rintro ⟨v,rfl,n,h⟩; refine ⟨n,?_⟩; cases v <;> exact h
theorem goes_call {xs:List TV} {k:TV→Prg TV}:Goes A f (.call g xs k) r ↔ ∃ v,Runs A g xs v∧Goes A f (k v) r:=by
 constructor
 ·rintro ⟨n,h⟩
  simp only [Prg.run] at h
  cases hc:acall A n g xs with
  | none=>rw [hc] at h; simp at h
  | some v=>rw [hc] at h; exact ⟨v,⟨n,hc⟩,n,h⟩
 ·rintro ⟨v,⟨n,hc⟩,m,h⟩
  refine ⟨max n m,?_⟩
  simp only [Prg.run]
  rw [acall_mono (Nat.le_max_left n m) hc]
  exact Goes.up h (Nat.le_max_right n m)
theorem goes_jmp {p:List Nat} {st:ASt}:Goes A f (.jmp p st) r ↔ Goes A f (pieceQ A f p st) r:=by
 constructor
 ·rintro ⟨n,h⟩
  cases n with
  | zero=>simp [Prg.run,runN] at h
  | succ n =>
   refine ⟨n + 1,?_⟩
   simp only [Prg.run,runN] at h
   exact Prg.run_mono (fun _ _ _ h=>h) (fun _ _ _ h=>runN_mono (fun _ _ _ h=>h) (Nat.le_succ n) h) h
 ·rintro ⟨n,h⟩
  refine ⟨n + 1,?_⟩
  simp only [Prg.run,runN]
  exact Prg.run_mono (fun _ _ _ h=>acall_mono (Nat.le_succ n) h) (fun _ _ _ h=>runN_mono (fun _ _ _ h=>acall_mono (Nat.le_succ n) h) (Nat.le_refl n) h) h
theorem runs_iff {args:List TV} (hx:A.ext f=none):Runs A f args r ↔ Goes A f (startQ A f args) r:=by
 constructor
 ·rintro ⟨n,h⟩
  cases n with
  | zero=>simp [acall] at h
  | succ n=>simp only [acall,hx] at h; exact ⟨n,h⟩
 ·rintro ⟨n,h⟩; exact ⟨n + 1,by simp only [acall,hx]; exact h⟩
theorem Goes.tv {p:Option TV} {k:TV→Prg TV} {v:TV} (h:p=some v) (hk:Goes A f (k v) r):Goes A f (.tv p k) r:=goes_tv.2 ⟨v,h,hk⟩
theorem Goes.tvs {p:Option (List TV)} {k:List TV→Prg TV} {v:List TV} (h:p=some v) (hk:Goes A f (k v) r):Goes A f (.tvs p k) r:=goes_tvs.2 ⟨v,h,hk⟩
theorem Goes.rws {p:Option (List (List TV))} {k:List (List TV)→Prg TV} {v:List (List TV)} (h:p=some v) (hk:Goes A f (k v) r):Goes A f (.rws p k) r:=goes_rws.2 ⟨v,h,hk⟩
theorem Goes.nat {p:Option Nat} {k:Nat→Prg TV} {v:Nat} (h:p=some v) (hk:Goes A f (k v) r):Goes A f (.nat p k) r:=goes_nat.2 ⟨v,h,hk⟩
theorem Goes.chk {b:Bool} {k:Prg TV} (h:b=true) (hk:Goes A f k r):Goes A f (.chk b k) r:=goes_chk.2 ⟨h,hk⟩
theorem Goes.ite {b:Option Bool} {t e:Prg TV} {v:Bool} (h:b=some v) (ht:v=true→Goes A f t r) (he:v=false→Goes A f e r):Goes A f (.ite b t e) r:=by
 refine goes_ite.2 ⟨v,h,?_⟩
 cases v with
 | true=>exact ht rfl
 | false=>exact he rfl
theorem Goes.call {xs:List TV} {k:TV→Prg TV} {v:TV} (h:Runs A g xs v) (hk:Goes A f (k v) r):Goes A f (.call g xs k) r:=goes_call.2 ⟨v,h,hk⟩
theorem Goes.jmp {p:List Nat} {st:ASt} {q:Prg TV} (h:pieceQ A f p st=q) (hk:Goes A f q r):Goes A f (.jmp p st) r:=goes_jmp.2 (h ▸ hk)
theorem Runs.of {args:List TV} {q:Prg TV} (h:startQ A f args=q) (hk:Goes A f q r) (hx:A.ext f=none:=by rfl):Runs A f args r:=(runs_iff hx).2 (h ▸ hk)
end
end Go.Ab
end
section
namespace Go.Ab
set_option linter.unusedVariables false
inductive F2 {α β:Type} (R:α→β→Prop):List α→List β→Prop
 | nil:F2 R [] []
 | cons {a b l m}:R a b→F2 R l m→F2 R (a :: l) (b :: m)
section
variable {α β γ:Type} {R S:α→β→Prop}
theorem F2.length {xs:List α} {l:List β} (h:F2 R xs l):xs.length=l.length:=by
 induction h with
 | nil=>rfl
 | cons _ _ ih=>simp [ih]
theorem F2.get {xs:List α} {l:List β} (h:F2 R xs l):∀ {i:Nat} {a:β},l[i]? = some a→∃ e,xs[i]? = some e∧R e a:=by
 induction h with
 | nil=>intro i a h; simp at h
 | cons hr _ ih =>
  intro i a h
  cases i with
  | zero=>simp at h; subst h; exact ⟨_,rfl,hr⟩
  | succ i=>simp at h; simpa using ih h
theorem F2.getL {xs:List α} {l:List β} (h:F2 R xs l):∀ {i:Nat} {e:α},xs[i]? = some e→∃ a,l[i]? = some a∧R e a:=by
 induction h with
 | nil=>intro i a h; simp at h
 | cons hr _ ih =>
  intro i a h
  cases i with
  | zero=>simp at h; subst h; exact ⟨_,rfl,hr⟩
  | succ i=>simp at h; simpa using ih h
theorem F2.mono (hm:∀ e a,R e a→S e a) {xs:List α} {l:List β} (h:F2 R xs l):F2 S xs l:=by
 induction h with
 | nil=>exact .nil
 | cons hr _ ih=>exact .cons (hm _ _ hr) ih
theorem F2.append {xs ys:List α} {l m:List β} (h:F2 R xs l) (h':F2 R ys m):F2 R (xs ++ ys) (l ++ m):=by
 induction h with
 | nil=>exact h'
 | cons hr _ ih=>exact .cons hr ih
theorem F2.take {xs:List α} {l:List β} (h:F2 R xs l):∀ n,F2 R (xs.take n) (l.take n):=by
 induction h with
 | nil=>intro n; simp; exact .nil
 | cons hr _ ih=>intro n; cases n with
  | zero=>exact .nil
  | succ n=>exact .cons hr (ih n)
theorem F2.drop {xs:List α} {l:List β} (h:F2 R xs l):∀ n,F2 R (xs.drop n) (l.drop n):=by
 induction h with
 | nil=>intro n; simp; exact .nil
 | cons hr h ih=>intro n; cases n with
  | zero=>exact .cons hr h
  | succ n=>exact ih n
theorem F2.set {xs:List α} {l:List β} (h:F2 R xs l):∀ {i:Nat} {e:α} {a:β},R e a→F2 R (setNth xs i e) (l.set i a):=by
 induction h with
 | nil=>intro i e a _; exact .nil
 | cons hr h ih=>intro i e a hea; cases i with
  | zero=>exact .cons hea h
  | succ i=>exact .cons hr (ih hea)
theorem F2.mapL {f:γ→α} {Q:γ→β→Prop} {xs:List γ} {l:List β} (h:F2 Q xs l) (hf:∀ x a,Q x a→R (f x) a):F2 R (xs.map f) l:=by
 induction h with
 | nil=>exact .nil
 | cons hr _ ih=>exact .cons (hf _ _ hr) ih
theorem F2.of_get {xs:List α}:∀ {l:List β},xs.length=l.length→(∀ (i:Nat) e a,xs[i]? = some e→l[i]? = some a→R e a)→F2 R xs l:=by
 induction xs with
 | nil=>intro l h _; cases l with
  | nil=>exact .nil
  | cons _ _=>simp at h
 | cons x xs ih=>intro l h hg; cases l with
  | nil=>simp at h
  | cons a l=>exact .cons (hg 0 x a rfl rfl) (ih (by simpa using h) fun i e b he hb=>hg (i + 1) e b (by simpa using he) (by simpa using hb))
end
abbrev I (n:Int):TV:=.lit (.int .i64 n)
abbrev W (n:Int):TV:=.lit (.int .u16 n)
abbrev B (b:Bool):TV:=.lit (.bool b)
def inI (n:Int):Prop:=-9223372036854775808≤n∧n≤9223372036854775807
def inW (n:Int):Prop:=0≤n∧n≤65535
def RL {α:Type} (q:Option Bool) (s:Nat) (R:List TV→α→Prop) (x:TV) (l:List α):Prop :=
 (x=.lit nilV∧l=[])∨∃ o xs,x=.sl o s xs∧(∀ b,q=some b→o=b)∧F2 R xs l∧xs.length≤9223372036854775807
theorem frzLL_map:∀ ys:List (List TV),frzLL ys=ys.map frzL
 | []=>rfl
 | y :: ys=>by simp [frzLL,frzLL_map ys]
section
variable {α:Type} {q:Option Bool} {s:Nat} {R S:List TV→α→Prop} {x:TV} {l:List α}
theorem RL.nil:RL q s R (.lit nilV) []:=.inl ⟨rfl,rfl⟩
theorem RL.sl {o:Bool} {xs:List (List TV)} (hq:∀ b,q=some b→o=b) (h:F2 R xs l) (hb:xs.length≤9223372036854775807):RL q s R (.sl o s xs) l:=.inr ⟨o,xs,rfl,hq,h,hb⟩
theorem RL.bnd (h:RL q s R x l):l.length≤9223372036854775807:=by
 rcases h with ⟨rfl,rfl⟩ | ⟨o,xs,rfl,hq,h,hb⟩
 ·simp
 ·rw [← h.length]; exact hb
theorem RL.weak (h:RL q s R x l) (hm:∀ e a,R e a→S e a):RL none s S x l:=by
 rcases h with ⟨rfl,rfl⟩ | ⟨o,xs,rfl,hq,h,hb⟩
 ·exact .nil
 ·exact .sl (by simp) (h.mono hm) hb
theorem RL.len {t:TypeId} (h:RL q s R x l):plen (.slice t) x=some (I l.length):=by
 rcases h with ⟨rfl,rfl⟩ | ⟨o,xs,rfl,hq,h,hb⟩
 ·rfl
 ·simp [plen,h.length]
theorem RL.slLen (h:RL q s R x l):Go.Ab.slLen x=some l.length:=by
 rcases h with ⟨rfl,rfl⟩ | ⟨o,xs,rfl,hq,h,hb⟩
 ·rfl
 ·simp [Go.Ab.slLen,h.length]
theorem RL.slSize (h:RL q s R x l):Go.Ab.slSize x s=true:=by
 rcases h with ⟨rfl,rfl⟩ | ⟨o,xs,rfl,hq,h,hb⟩
 ·rfl
 ·simp [Go.Ab.slSize]
theorem RL.isSl (h:RL q s R x l):x.isSl=true:=by
 rcases h with ⟨rfl,rfl⟩ | ⟨o,xs,rfl,hq,h,hb⟩ <;> rfl
theorem RL.idx (h:RL q s R x l) {k:IntKind} {i:Nat} {a:α} (hi:l[i]? = some a):∃ e,pidx s x (.lit (.int k i))=some e∧R e a:=by
 rcases h with ⟨rfl,rfl⟩ | ⟨o,xs,rfl,hq,h,hb⟩
 ·simp at hi
 ·obtain ⟨e,he,hr⟩:=h.get hi
  exact ⟨e,by simp [pidx,he],hr⟩
theorem RL.pel (h:RL q s R x l) {i:Nat} {a:α} (hi:l[i]? = some a):∃ e,Go.Ab.pel x i=some e∧R e a:=by
 rcases h with ⟨rfl,rfl⟩ | ⟨o,xs,rfl,hq,h,hb⟩
 ·simp at hi
 ·exact h.get hi
theorem RL.frz (h:RL q s R x l) (hm:∀ e a,R e a→S (frzL e) a):RL (some false) s S (frz x) l:=by
 rcases h with ⟨rfl,rfl⟩ | ⟨o,xs,rfl,hq,h,hb⟩
 ·exact .nil
 ·refine .sl (by simp) ?_ ?_
  rotate_left
  ·rw [frzLL_map,List.length_map]; exact hb
  rw [frzLL_map]
  exact h.mapL hm
end
def RI1 (e:List TV) (n:Int):Prop:=e=[I n]∧inI n
def RW1 (e:List TV) (n:Int):Prop:=e=[W n]∧inW n
def RB1 (e:List TV) (b:Bool):Prop:=e=[B b]
abbrev RInts (q:Option Bool):TV→List Int→Prop:=RL q 1 RI1
abbrev RWords (q:Option Bool):TV→List Int→Prop:=RL q 1 RW1
abbrev RBools (q:Option Bool):TV→List Bool→Prop:=RL q 1 RB1
structure DIns where
 op:Int
 dst:Int
 a:Int
 b:Int
 k:Int
 f:Int
 args:List Int
structure DEnd where
 kind:Int
 a:Int
 dst:Int
 f:Int
 args:List Int
 to:Int
 els:Int
 pad:Int
structure DPad where
 dst:Int
 catches:List Int
 all:Bool
 cleanup:Bool
structure DBlock where
 landing:Bool
 pad:DPad
 ins:List DIns
 fin:DEnd
structure DFunc where
 params:Int
 regs:Int
 blocks:List DBlock
structure DMod where
 funcs:List DFunc
def DIns.ok (x:DIns):Prop:=inI x.op∧inI x.dst∧inI x.a∧inI x.b∧inW x.k∧inI x.f
def DEnd.ok (x:DEnd):Prop:=inI x.kind∧inI x.a∧inI x.dst∧inI x.f∧inI x.to∧inI x.els∧inI x.pad
def RIns (q:Option Bool) (e:List TV) (x:DIns):Prop:=∃ g,e=[I x.op,I x.dst,I x.a,I x.b,W x.k,I x.f,g]∧RInts q g x.args∧x.ok
def RBlock (q:Option Bool) (e:List TV) (x:DBlock):Prop:=∃ c i g,e=[B x.landing,I x.pad.dst,c,B x.pad.all,B x.pad.cleanup,i,I x.fin.kind,I x.fin.a,I x.fin.dst,I x.fin.f,g,I x.fin.to,I x.fin.els,I x.fin.pad] ∧
 RWords q c x.pad.catches∧inI x.pad.dst∧RL q 7 (RIns q) i x.ins∧RInts q g x.fin.args∧x.fin.ok
def RFunc (q:Option Bool) (e:List TV) (x:DFunc):Prop:=∃ b,e=[I x.params,I x.regs,b]∧RL q 14 (RBlock q) b x.blocks∧inI x.params∧inI x.regs
theorem RI1.frz {e:List TV} {n:Int} (h:RI1 e n):RI1 (frzL e) n:=by obtain ⟨rfl,h⟩:=h; exact ⟨rfl,h⟩
theorem RW1.frz {e:List TV} {n:Int} (h:RW1 e n):RW1 (frzL e) n:=by obtain ⟨rfl,h⟩:=h; exact ⟨rfl,h⟩
theorem RIns.frz {q:Option Bool} {e:List TV} {x:DIns} (h:RIns q e x):RIns (some false) (frzL e) x:=by
 obtain ⟨g,rfl,hg,ho⟩:=h
 exact ⟨Go.Ab.frz g,rfl,hg.frz fun _ _ h=>h.frz,ho⟩
theorem RBlock.frz {q:Option Bool} {e:List TV} {x:DBlock} (h:RBlock q e x):RBlock (some false) (frzL e) x:=by
 obtain ⟨c,i,g,rfl,hc,hd,hi,hg,ho⟩:=h
 exact ⟨Go.Ab.frz c,Go.Ab.frz i,Go.Ab.frz g,rfl,hc.frz fun _ _ h=>h.frz,hd,hi.frz fun _ _ h=>h.frz,hg.frz fun _ _ h=>h.frz,ho⟩
theorem padd {a b:Int} (h:inI (a + b)):pbin (.int .i64) .add (I a) (I b)=some (I (a + b)):=by
 simp [pbin,intBin,IntWalk.i64_in _ h]
theorem psub {a b:Int} (h:inI (a - b)):pbin (.int .i64) .sub (I a) (I b)=some (I (a - b)):=by
 simp [pbin,intBin,IntWalk.i64_in _ h]
theorem inc {k n:Nat} (h:k < n) (hn:n≤9223372036854775807):pbin (.int .i64) .add (I (k:Int)) (I (1:Int))=some (I ((k + 1:Nat):Int)):=by
 rw [padd (by constructor <;> omega)]; rfl
open Classical in
noncomputable def tt (p:Prop):Bool:=decide p
theorem tt_iff {p:Prop}:tt p=true ↔ p:=by simp [tt]
theorem tt_eq {b:Bool} {p:Prop} (h:b=true ↔ p):b=tt p:=by
 cases b with
 | true=>exact (tt_iff.2 (h.1 rfl)).symm
 | false =>
  cases hp:tt p with
  | false=>rfl
  | true=>exact absurd (h.2 (tt_iff.1 hp)) (by simp)
theorem tt_congr {p p':Prop} (h:p ↔ p'):tt p=tt p':=by rw [propext h]
theorem tt_true {p:Prop} (h:p):tt p=true:=tt_iff.2 h
theorem tt_false {p:Prop} (h:¬ p):tt p=false:=by
 cases hp:tt p with
 | false=>rfl
 | true=>exact absurd (tt_iff.1 hp) h
section
variable {A:AProg} {f:FuncId}
theorem ret_tt {b:Bool} {p:Prop} (h:b=true ↔ p):Goes A f (.ret (B b)) (B (tt p)):=by rw [← tt_eq h]; exact Goes.ret
theorem ret_no {p:Prop} (h:¬ p):Goes A f (.ret (B false)) (B (tt p)):=ret_tt (by simp [h])
end
def allFrom (k n:Nat) (P:Nat→Prop):Prop:=∀ i,k≤i→i < n→P i
theorem allFrom_end {n:Nat} {P:Nat→Prop}:allFrom n n P:=fun i h1 h2=>by omega
theorem allFrom_step {k n:Nat} {P:Nat→Prop} (h:k < n):allFrom k n P ↔ P k∧allFrom (k + 1) n P:=by
 constructor
 ·intro ha; exact ⟨ha k (Nat.le_refl k) h,fun i h1 h2=>ha i (by omega) h2⟩
 ·rintro ⟨hp,ha⟩ i h1 h2
  by_cases hi:i=k
  ·subst hi; exact hp
  ·exact ha i (by omega) h2
theorem allFrom_zero {n:Nat} {P:Nat→Prop}:allFrom 0 n P ↔ ∀ i,i < n→P i:=⟨fun h i hi=>h i (Nat.zero_le i) hi,fun h i _ hi=>h i hi⟩
theorem list_eq_iff {α:Type} {l m:List α} (h:l.length=m.length):l=m ↔ allFrom 0 l.length fun i=>l[i]? = m[i]? := by
 rw [allFrom_zero]
 constructor
 ·rintro rfl i _; rfl
 ·intro ha
  apply List.ext_getElem? 
  intro i
  by_cases hi:i < l.length
  ·exact ha i hi
  ·rw [List.getElem?_eq_none (by omega),List.getElem?_eq_none (by omega)]
end Go.Ab
namespace Go.Ab
theorem allLoop {A:AProg} {f:FuncId} {n:Nat} {P:Nat→Prop} {Q:Prop} {g:Nat→Prg TV} (hend:Goes A f (g n) (B (tt Q)))
  (hstep:∀ k,k < n→∀ r,(¬ P k→r=B false)→(P k→Goes A f (g (k + 1)) r)→Goes A f (g k) r):∀ d k,k + d=n→Goes A f (g k) (B (tt (allFrom k n P∧Q))):=by
 intro d
 induction d with
 | zero =>
  intro k hk
  have hk:k=n:=by omega
  subst hk
  rw [show tt (allFrom k k P∧Q)=tt Q from tt_congr ⟨fun h=>h.2,fun h=>⟨allFrom_end,h⟩⟩]
  exact hend
 | succ d ih =>
  intro k hk
  have hlt:k < n:=by omega
  refine hstep k hlt _ (fun hp=>?_) (fun hp=>?_)
  ·rw [tt_false]
   intro h
   exact hp ((allFrom_step hlt).1 h.1).1
  ·rw [show tt (allFrom k n P∧Q)=tt (allFrom (k + 1) n P∧Q) from tt_congr ⟨fun h=>⟨((allFrom_step hlt).1 h.1).2,h.2⟩,fun h=>⟨(allFrom_step hlt).2 ⟨hp,h.1⟩,h.2⟩⟩]
   exact ih (k + 1) (by omega)
theorem allLoop' {A:AProg} {f:FuncId} {n:Nat} {P:Nat→Prop} {g:Nat→Prg TV} (hend:Goes A f (g n) (B true))
  (hstep:∀ k,k < n→∀ r,(¬ P k→r=B false)→(P k→Goes A f (g (k + 1)) r)→Goes A f (g k) r):Goes A f (g 0) (B (tt (∀ i,i < n→P i))):=by
 have:=allLoop (Q:=True) (by rw [tt_true trivial]; exact hend) hstep n 0 (by omega)
 rw [show tt (∀ i,i < n→P i)=tt (allFrom 0 n P∧True) from tt_congr ⟨fun h=>⟨allFrom_zero.2 h,trivial⟩,fun h=>allFrom_zero.1 h.1⟩]
 exact this
theorem asB_lt {k n:Nat} (h:k < n):asBool (.lit (.bool (decide ((k:Int) < (n:Int)))))=some true:=by simp [asBool,h]
theorem asB_end {n:Nat}:asBool (.lit (.bool (decide ((n:Int) < (n:Int)))))=some false:=by simp [asBool]
theorem list_eq_iff' {α:Type} {l m:List α} (h:l.length=m.length):l=m ↔ ∀ i,i < l.length→l[i]? = m[i]? := by
 rw [list_eq_iff h,allFrom_zero]
end Go.Ab
namespace Go.Ab
theorem fitsOldOf:∀ {zs:List Value} {e:List TV} {j:Nat},fitsAt zs e j=true→fitsOld zs e j=true
 | [],_,_,_=>rfl
 | z :: zs, e, j, h => by
  unfold fitsAt at h
  unfold fitsOld
  split at h
  ·rename_i c hc
   rw [Bool.and_eq_true] at h
   rw [Bool.and_eq_true]
   refine ⟨?_,fitsOldOf h.2⟩
   have h1:=h.1
   cases hz:isSlV z with
   | true=>rw [hz] at h1; simp only [cond_true] at h1 ⊢; rw [h1]; rfl
   | false=>rw [hz] at h1; exact h1
  ·cases h
end Go.Ab
end
section
namespace Go.Ab
def lookD:List (Nat × LentD)→Nat→Option LentD
 | [],_=>none
 | (k,d) :: r,t=>bif k.beq t then some d else lookD r t
end Go.Ab
end
section
set_option linter.unusedVariables false
namespace Go.Ab.N10
open Go.Ab Go.Proofs
def lookA:List (Nat × Ann)→Nat→Option Ann
 | [],_=>none
 | (k,d) :: r,t=>bif k.beq t then some d else lookA r t
def z2:List Value:=[.int .i64 0]
def z3:List Value:=[.int .i64 0]
def z4:List Value:=[.bool false]
def z5:List Value:=[.int .u8 0]
def z6:List Value:=[.int .u8 0]
def z7:List Value:=[.int .i64 0,.int .i64 0,.bool false,.int .u8 0]
def z8:List Value:=[.int .i64 0,.int .i64 0,.bool false,.int .u8 0]
def z9:List Value:=[.string ⟨#[]⟩]
def z10:List Value:=[.string ⟨#[]⟩]
def z11:List Value:=[.string ⟨#[]⟩]
def z12:List Value:=[.int .u64 0]
def z13:List Value:=[.string ⟨#[]⟩,.int .u64 0]
def z14:List Value:=[.string ⟨#[]⟩,.int .u64 0]
def z15:List Value:=[.pointer none]
def z16:List Value:=[.pointer none]
def z17:List Value:=[.pointer none]
def z18:List Value:=[.pointer none]
def z19:List Value:=[.pointer none]
def z20:List Value:=[.nilIface]
def z21:List Value:=[.int .i32 0]
def z22:List Value:=[.nilFunc]
def z23:List Value:=[.slice none 0 0]
def z24:List Value:=[.int .i64 0,.int .i64 0,.slice none 0 0]
def z25:List Value:=[.int .i64 0,.int .i64 0,.slice none 0 0]
def z26:List Value:=[.slice none 0 0]
def z27:List Value:=[.int .i64 0,.int .i64 0,.int .i64 0,.int .i64 0,.slice none 0 0,.int .i64 0,.int .i64 0,.int .i64 0]
def z28:List Value:=[.int .i64 0,.int .i64 0,.int .i64 0,.int .i64 0,.slice none 0 0,.int .i64 0,.int .i64 0,.int .i64 0]
def z29:List Value:=[.slice none 0 0]
def z30:List Value:=[.int .i64 0,.slice none 0 0,.bool false,.bool false]
def z31:List Value:=[.int .i64 0,.slice none 0 0,.bool false,.bool false]
def z32:List Value:=[.slice none 0 0]
def z33:List Value:=[.bool false,.int .i64 0,.slice none 0 0,.bool false,.bool false,.slice none 0 0,.int .i64 0,.int .i64 0,.int .i64 0,.int .i64 0,.slice none 0 0,.int .i64 0,.int .i64 0,.int .i64 0]
def z34:List Value:=[.bool false,.int .i64 0,.slice none 0 0,.bool false,.bool false,.slice none 0 0,.int .i64 0,.int .i64 0,.int .i64 0,.int .i64 0,.slice none 0 0,.int .i64 0,.int .i64 0,.int .i64 0]
def z35:List Value:=[.slice none 0 0]
def z36:List Value:=[.nilFunc]
def z37:List Value:=[.int .i64 0,.slice none 0 0]
def z38:List Value:=[.int .i64 0,.slice none 0 0]
def z39:List Value:=[.nilFunc]
def z40:List Value:=[.nilFunc]
def z41:List Value:=[.nilFunc]
def z42:List Value:=[.slice none 0 0]
def z43:List Value:=[.slice none 0 0,.slice none 0 0]
def z44:List Value:=[.slice none 0 0,.slice none 0 0]
def z45:List Value:=[.slice none 0 0]
def z46:List Value:=[.slice none 0 0,.slice none 0 0,.slice none 0 0,.slice none 0 0,.slice none 0 0,.slice none 0 0]
def z47:List Value:=[.slice none 0 0,.slice none 0 0,.slice none 0 0,.slice none 0 0,.slice none 0 0,.slice none 0 0]
def z48:List Value:=[.nilFunc]
def z49:List Value:=[.nilFunc]
def z50:List Value:=[.nilFunc]
def z51:List Value:=[.nilFunc]
def z52:List Value:=[.nilFunc]
def z53:List Value:=[.nilFunc]
def z54:List Value:=[.nilFunc]
def z55:List Value:=[.nilFunc]
def z56:List Value:=[.nilFunc]
def z57:List Value:=[.nilFunc]
def z58:List Value:=[.nilFunc]
def z59:List Value:=[.nilFunc]
def z60:List Value:=[.slice none 0 0]
def z61:List Value:=[.int .i64 0,.int .i64 0,.slice none 0 0,.slice none 0 0,.slice none 0 0,.slice none 0 0]
def z62:List Value:=[.int .i64 0,.int .i64 0,.slice none 0 0,.slice none 0 0,.slice none 0 0,.slice none 0 0]
def z63:List Value:=[.nilFunc]
def z64:List Value:=[.nilFunc]
def z65:List Value:=[.nilFunc]
def z66:List Value:=[.nilFunc]
def z67:List Value:=[.nilFunc]
def z68:List Value:=[.nilFunc]
def z69:List Value:=[.nilFunc]
def z70:List Value:=[.pointer none]
def z71:List Value:=[.int .i64 0,.slice none 0 0]
def z72:List Value:=[.int .i64 0,.slice none 0 0]
def z73:List Value:=[.pointer none]
def z74:List Value:=[.slice none 0 0,.slice none 0 0,.slice none 0 0]
def z75:List Value:=[.slice none 0 0,.slice none 0 0,.slice none 0 0]
def z76:List Value:=[.nilFunc]
def z77:List Value:=[.int .i64 0]
def z78:List Value:=[.nilFunc]
def z79:List Value:=[.nilFunc]
def z80:List Value:=[.nilFunc]
def z81:List Value:=[.nilFunc]
def z82:List Value:=[.nilFunc]
def z83:List Value:=[.nilFunc]
def z84:List Value:=[.nilFunc]
def z85:List Value:=[.pointer none,.pointer none,.pointer none,.string ⟨#[]⟩]
def z86:List Value:=[.pointer none,.pointer none,.pointer none,.string ⟨#[]⟩]
def z87:List Value:=[]
def z88:List Value:=[]
def z89:List Value:=[]
def z90:List Value:=[.nilFunc]
def z91:List Value:=[.int .u32 0]
def z92:List Value:=[.int .u8 0]
def z93:List Value:=[.int .u8 0]
def z94:List Value:=[.nilFunc]
def z95:List Value:=[.pointer none]
def z96:List Value:=[.int .i32 0]
def z97:List Value:=[.int .i32 0]
def z98:List Value:=[.int .u64 0,.int .u64 0,.int .u32 0,.int .u8 0,.int .u8 0,.int .u8 0,.int .u8 0,.nilFunc,.pointer none,.int .i32 0,.int .i32 0]
def z99:List Value:=[.int .u64 0,.int .u64 0,.int .u32 0,.int .u8 0,.int .u8 0,.int .u8 0,.int .u8 0,.nilFunc,.pointer none,.int .i32 0,.int .i32 0]
def z100:List Value:=[.int .u16 0]
def z101:List Value:=[.int .i64 0,.int .i64 0,.int .i64 0,.int .i64 0,.int .u16 0,.int .i64 0,.slice none 0 0]
def z102:List Value:=[.int .i64 0,.int .i64 0,.int .i64 0,.int .i64 0,.int .u16 0,.int .i64 0,.slice none 0 0]
def tab:Tab:=lookT [
 (2,⟨1,8,.int .i64,z2,[]⟩),
 (3,⟨1,8,.int .i64,z3,[]⟩),
 (4,⟨1,1,.bool,z4,[]⟩),
 (5,⟨1,1,.int .u8,z5,[]⟩),
 (6,⟨1,1,.int .u8,z6,[]⟩),
 (7,⟨4,24,.struct,z7,[(0,2),(1,3),(2,4),(3,6)]⟩),
 (8,⟨4,24,.struct,z8,[(0,2),(1,3),(2,4),(3,6)]⟩),
 (9,⟨1,16,.str,z9,[]⟩),
 (10,⟨1,16,.str,z10,[]⟩),
 (11,⟨1,16,.str,z11,[]⟩),
 (12,⟨1,8,.int .u64,z12,[]⟩),
 (13,⟨2,24,.struct,z13,[(0,9),(1,12)]⟩),
 (14,⟨2,24,.struct,z14,[(0,9),(1,12)]⟩),
 (15,⟨1,8,.ptr,z15,[]⟩),
 (16,⟨1,8,.ptr,z16,[]⟩),
 (17,⟨1,8,.ptr,z17,[]⟩),
 (18,⟨1,8,.struct,z18,[(0,17)]⟩),
 (19,⟨1,8,.struct,z19,[(0,17)]⟩),
 (20,⟨1,16,.other,z20,[]⟩),
 (21,⟨1,4,.int .i32,z21,[]⟩),
 (22,⟨1,8,.other,z22,[]⟩),
 (23,⟨1,24,.slice 34,z23,[]⟩),
 (24,⟨3,40,.struct,z24,[(0,3),(1,3),(2,23)]⟩),
 (25,⟨3,40,.struct,z25,[(0,3),(1,3),(2,23)]⟩),
 (26,⟨1,24,.slice 3,z26,[]⟩),
 (27,⟨8,80,.struct,z27,[(0,3),(1,3),(2,3),(3,3),(4,26),(5,3),(6,3),(7,3)]⟩),
 (28,⟨8,80,.struct,z28,[(0,3),(1,3),(2,3),(3,3),(4,26),(5,3),(6,3),(7,3)]⟩),
 (29,⟨1,24,.slice 100,z29,[]⟩),
 (30,⟨4,40,.struct,z30,[(0,3),(1,29),(2,4),(3,4)]⟩),
 (31,⟨4,40,.struct,z31,[(0,3),(1,29),(2,4),(3,4)]⟩),
 (32,⟨1,24,.slice 102,z32,[]⟩),
 (33,⟨14,152,.struct,z33,[(0,4),(1,31),(5,32),(6,28)]⟩),
 (34,⟨14,152,.struct,z34,[(0,4),(1,31),(5,32),(6,28)]⟩),
 (35,⟨1,24,.slice 38,z35,[]⟩),
 (36,⟨1,8,.other,z36,[]⟩),
 (37,⟨2,32,.struct,z37,[(0,3),(1,26)]⟩),
 (38,⟨2,32,.struct,z38,[(0,3),(1,26)]⟩),
 (39,⟨1,8,.other,z39,[]⟩),
 (40,⟨1,8,.other,z40,[]⟩),
 (41,⟨1,8,.other,z41,[]⟩),
 (42,⟨1,24,.slice 26,z42,[]⟩),
 (43,⟨2,48,.struct,z43,[(0,26),(1,26)]⟩),
 (44,⟨2,48,.struct,z44,[(0,26),(1,26)]⟩),
 (45,⟨1,24,.slice 4,z45,[]⟩),
 (46,⟨6,144,.struct,z46,[(0,42),(1,44),(3,45),(4,26),(5,26)]⟩),
 (47,⟨6,144,.struct,z47,[(0,42),(1,44),(3,45),(4,26),(5,26)]⟩),
 (48,⟨1,8,.other,z48,[]⟩),
 (49,⟨1,8,.other,z49,[]⟩),
 (50,⟨1,8,.other,z50,[]⟩),
 (51,⟨1,8,.other,z51,[]⟩),
 (52,⟨1,8,.other,z52,[]⟩),
 (53,⟨1,8,.other,z53,[]⟩),
 (54,⟨1,8,.other,z54,[]⟩),
 (55,⟨1,8,.other,z55,[]⟩),
 (56,⟨1,8,.other,z56,[]⟩),
 (57,⟨1,8,.other,z57,[]⟩),
 (58,⟨1,8,.other,z58,[]⟩),
 (59,⟨1,8,.other,z59,[]⟩),
 (60,⟨1,24,.slice 72,z60,[]⟩),
 (61,⟨6,112,.struct,z61,[(0,25),(3,45),(4,60),(5,26)]⟩),
 (62,⟨6,112,.struct,z62,[(0,25),(3,45),(4,60),(5,26)]⟩),
 (63,⟨1,8,.other,z63,[]⟩),
 (64,⟨1,8,.other,z64,[]⟩),
 (65,⟨1,8,.other,z65,[]⟩),
 (66,⟨1,8,.other,z66,[]⟩),
 (67,⟨1,8,.other,z67,[]⟩),
 (68,⟨1,8,.other,z68,[]⟩),
 (69,⟨1,8,.other,z69,[]⟩),
 (70,⟨1,8,.ptr,z70,[]⟩),
 (71,⟨2,32,.struct,z71,[(0,3),(1,26)]⟩),
 (72,⟨2,32,.struct,z72,[(0,3),(1,26)]⟩),
 (73,⟨1,8,.ptr,z73,[]⟩),
 (74,⟨3,72,.struct,z74,[(0,26),(1,42),(2,26)]⟩),
 (75,⟨3,72,.struct,z75,[(0,26),(1,42),(2,26)]⟩),
 (76,⟨1,8,.other,z76,[]⟩),
 (77,⟨1,8,.int .i64,z77,[]⟩),
 (78,⟨1,8,.other,z78,[]⟩),
 (79,⟨1,8,.other,z79,[]⟩),
 (80,⟨1,8,.other,z80,[]⟩),
 (81,⟨1,8,.other,z81,[]⟩),
 (82,⟨1,8,.other,z82,[]⟩),
 (83,⟨1,8,.other,z83,[]⟩),
 (84,⟨1,8,.other,z84,[]⟩),
 (85,⟨4,40,.struct,z85,[(0,17),(1,17),(2,17),(3,9)]⟩),
 (86,⟨4,40,.struct,z86,[(0,17),(1,17),(2,17),(3,9)]⟩),
 (87,⟨0,0,.arr 0 16,z87,[]⟩),
 (88,⟨0,0,.struct,z88,[(0,87)]⟩),
 (89,⟨0,0,.struct,z89,[(0,87)]⟩),
 (90,⟨1,8,.other,z90,[]⟩),
 (91,⟨1,4,.int .u32,z91,[]⟩),
 (92,⟨1,1,.int .u8,z92,[]⟩),
 (93,⟨1,1,.int .u8,z93,[]⟩),
 (94,⟨1,8,.other,z94,[]⟩),
 (95,⟨1,8,.ptr,z95,[]⟩),
 (96,⟨1,4,.int .i32,z96,[]⟩),
 (97,⟨1,4,.int .i32,z97,[]⟩),
 (98,⟨11,48,.struct,z98,[(0,12),(1,12),(2,91),(3,92),(4,5),(5,5),(6,93),(7,94),(8,95),(9,96),(10,97)]⟩),
 (99,⟨11,48,.struct,z99,[(0,12),(1,12),(2,91),(3,92),(4,5),(5,5),(6,93),(7,94),(8,95),(9,96),(10,97)]⟩),
 (100,⟨1,2,.int .u16,z100,[]⟩),
 (101,⟨7,72,.struct,z101,[(0,3),(1,3),(2,3),(3,3),(4,100),(5,3),(6,26)]⟩),
 (102,⟨7,72,.struct,z102,[(0,3),(1,3),(2,3),(3,3),(4,100),(5,3),(6,26)]⟩)]
def pure (f:FuncId):Bool:=memB f [25,19,34,28,12,10,8,11,21,5]
def lookL:List (Nat × List Nat)→Nat→List Nat
 | [],_=>[]
 | (k,d) :: r,t=>bif k.beq t then d else lookL r t
def rts:FuncId→List TypeId:=lookL [(3,[4]),(4,[4]),(5,[35]),(6,[3]),(7,[4]),(8,[47]),(9,[50]),(10,[26]),(11,[44]),(12,[26]),(13,[56]),(14,[]),(15,[]),(16,[]),(17,[]),(18,[]),(19,[26]),(20,[4]),(21,[26]),(22,[26]),(23,[4]),(24,[]),(25,[26]),(26,[3]),(27,[]),(28,[75]),(29,[4]),(30,[77]),(31,[4]),(32,[3]),(33,[4]),(34,[42]),(35,[3]),(36,[3])]
def f3_ann:Nat→Option Ann:=lookA [(6,⟨[1,5,6,7],[],[(6,2)],[],[]⟩),(18,⟨[5,6,8,10],[],[],[],[]⟩)]
def f3_jn:Nat→Option Ann:=lookA [(9,⟨[1,5,6],[],[],[],[]⟩),(23,⟨[5,6,8,10,11],[],[],[],[]⟩)]
def f5_ann:Nat→Option Ann:=lookA [(4,⟨[3,4,18,19],[],[],[],[]⟩),(12,⟨[7,37,38,39],[7],[],[],[]⟩)]
def f5_jn:Nat→Option Ann:=lookA [(10,⟨[4],[],[],[],[]⟩)]
def f7_ann:Nat→Option Ann:=lookA [(4,⟨[0,1,5],[],[],[],[]⟩)]
def f8_ann:Nat→Option Ann:=lookA [(4,⟨[1,2,3,5,32,33],[3],[],[2],[]⟩),(9,⟨[1,2,3,5,46,47,48],[3,46],[],[2],[]⟩),(12,⟨[1,2,3,5,8,46,47,48,54,55,56],[3,46,54],[],[2],[]⟩)]
def f8_jn:Nat→Option Ann:=lookA [(8,⟨[1,2,3,5],[3],[],[2],[]⟩),(17,⟨[2,3,5],[3],[],[2],[]⟩)]
def f10_ann:Nat→Option Ann:=lookA [(5,⟨[3],[],[(3,5),(3,4)],[],[(3,1004)]⟩)]
def f11_ann:Nat→Option Ann:=lookA [(10,⟨[4,5,7,10,53,54,55],[10],[],[4],[]⟩)]
def f11_jn:Nat→Option Ann:=lookA [(8,⟨[1,4,5,6,7],[],[],[4],[]⟩),(15,⟨[4,5,7,10,12,53,54,55],[10],[],[4],[]⟩)]
def f12_jn:Nat→Option Ann:=lookA [(7,⟨[2,6],[6],[],[],[]⟩)]
def f14_ann:Nat→Option Ann:=lookA [(3,⟨[1,2,4],[4],[],[],[]⟩)]
def f15_ann:Nat→Option Ann:=lookA [(3,⟨[0,1,4],[],[],[],[]⟩)]
def f15_jn:Nat→Option Ann:=lookA [(3,⟨[0,1,4],[],[],[],[]⟩)]
def f18_ann:Nat→Option Ann:=lookA [(1,⟨[0,2,3],[],[],[],[]⟩)]
def f19_ann:Nat→Option Ann:=lookA [(2,⟨[1,3],[],[],[],[]⟩),(5,⟨[3,4,16,17],[4],[],[],[]⟩),(10,⟨[3,4,6],[4],[],[],[]⟩)]
def f19_jn:Nat→Option Ann:=lookA [(3,⟨[1,3],[],[],[],[]⟩),(9,⟨[3,4],[4],[],[],[]⟩)]
def f21_jn:Nat→Option Ann:=lookA [(6,⟨[1,4,18],[4],[],[],[]⟩)]
def f22_ann:Nat→Option Ann:=lookA [(5,⟨[0,1,5,6],[],[],[],[]⟩)]
def f22_jn:Nat→Option Ann:=lookA [(11,⟨[0,5],[],[],[],[]⟩)]
def f24_ann:Nat→Option Ann:=lookA [(1,⟨[0,1,3],[],[],[],[]⟩)]
def f25_ann:Nat→Option Ann:=lookA [(3,⟨[1,2,5,12,13,14],[5],[],[],[]⟩)]
def f26_ann:Nat→Option Ann:=lookA [(1,⟨[1,2],[],[],[],[]⟩)]
def f28_ann:Nat→Option Ann:=lookA [(4,⟨[2,3,4,5],[3],[],[2],[]⟩)]
def f29_ann:Nat→Option Ann:=lookA [(3,⟨[1,3,4],[],[],[],[]⟩)]
def f32_ann:Nat→Option Ann:=lookA [(2,⟨[0,1,7,8],[],[],[],[]⟩)]
def f34_ann:Nat→Option Ann:=lookA [(3,⟨[1,2,5,17,18,19],[5],[],[],[]⟩),(9,⟨[2,5,8,32,33,34],[5,8],[],[],[]⟩),(12,⟨[2,5,8,9,32,33,34,41,42,43],[5,8,41],[],[],[]⟩)]
def f34_jn:Nat→Option Ann:=lookA [(7,⟨[1,2,5],[5],[],[],[]⟩)]
def f36_ann:Nat→Option Ann:=lookA [(1,⟨[1,2,3],[],[],[],[]⟩)]
noncomputable def fns:FuncId→Option Func:=fun f=>bif f.beq 3 then some Try.f3 else bif f.beq 4 then some Try.f4 else bif f.beq 5 then some Try.f5 else bif f.beq 6 then some Try.f6 else bif f.beq 7 then some Try.f7 else bif f.beq 8 then some Try.f8 else bif f.beq 9 then some Try.f9 else bif f.beq 10 then some Try.f10 else bif f.beq 11 then some Try.f11 else bif f.beq 12 then some Try.f12 else bif f.beq 13 then some Try.f13 else bif f.beq 14 then some Try.f14 else bif f.beq 15 then some Try.f15 else bif f.beq 16 then some Try.f16 else bif f.beq 17 then some Try.f17 else bif f.beq 18 then some Try.f18 else bif f.beq 19 then some Try.f19 else bif f.beq 20 then some Try.f20 else bif f.beq 21 then some Try.f21 else bif f.beq 22 then some Try.f22 else bif f.beq 23 then some Try.f23 else bif f.beq 24 then some Try.f24 else bif f.beq 25 then some Try.f25 else bif f.beq 26 then some Try.f26 else bif f.beq 27 then some Try.f27 else bif f.beq 28 then some Try.f28 else bif f.beq 29 then some Try.f29 else bif f.beq 30 then some Try.f30 else bif f.beq 31 then some Try.f31 else bif f.beq 32 then some Try.f32 else bif f.beq 33 then some Try.f33 else bif f.beq 34 then some Try.f34 else bif f.beq 35 then some Try.f35 else bif f.beq 36 then some Try.f36 else none
def anns:FuncId→Nat→Option Ann:=fun f=>bif f.beq 3 then f3_ann else bif f.beq 5 then f5_ann else bif f.beq 7 then f7_ann else bif f.beq 8 then f8_ann else bif f.beq 10 then f10_ann else bif f.beq 11 then f11_ann else bif f.beq 14 then f14_ann else bif f.beq 15 then f15_ann else bif f.beq 18 then f18_ann else bif f.beq 19 then f19_ann else bif f.beq 22 then f22_ann else bif f.beq 24 then f24_ann else bif f.beq 25 then f25_ann else bif f.beq 26 then f26_ann else bif f.beq 28 then f28_ann else bif f.beq 29 then f29_ann else bif f.beq 32 then f32_ann else bif f.beq 34 then f34_ann else bif f.beq 36 then f36_ann else fun _=>none
def jns:FuncId→Nat→Option Ann:=fun f=>bif f.beq 3 then f3_jn else bif f.beq 5 then f5_jn else bif f.beq 8 then f8_jn else bif f.beq 11 then f11_jn else bif f.beq 12 then f12_jn else bif f.beq 15 then f15_jn else bif f.beq 19 then f19_jn else bif f.beq 21 then f21_jn else bif f.beq 22 then f22_jn else bif f.beq 34 then f34_jn else fun _=>none
def lent:FuncId→Option LentD:=lookD []
def selfT (t:TypeId):Bool:=memB t []
def ext:FuncId→Option (List TV→Option TV):=fun f=>none
def opn (f:FuncId):Bool:=memB f [9,13,14,15,16,17,18,22,23,24,26,27,29,32]
def lookK:List (Nat × List Nat)→Nat→Option (List Nat)
 | [],_=>none
 | (k,d) :: r,t=>bif k.beq t then some d else lookK r t
def f5_kp:Nat→Option (List Nat):=lookK [(6002,[3,4,5,18,19])]
def f6_kp:Nat→Option (List Nat):=lookK [(4003,[5])]
def f8_kp:Nat→Option (List Nat):=lookK [(17001,[2,5]),(19002,[])]
def f10_kp:Nat→Option (List Nat):=lookK [(4000,[3]),(6000,[3]),(7002,[3])]
def f11_kp:Nat→Option (List Nat):=lookK [(3001,[1,4,5,6,7])]
def f12_kp:Nat→Option (List Nat):=lookK [(7002,[])]
def f14_kp:Nat→Option (List Nat):=lookK [(5005,[1,2,4,5])]
def f15_kp:Nat→Option (List Nat):=lookK [(3005,[0,1,4,18])]
def f17_kp:Nat→Option (List Nat):=lookK [(2001,[]),(6002,[])]
def f19_kp:Nat→Option (List Nat):=lookK [(2001,[1,3])]
def f22_kp:Nat→Option (List Nat):=lookK [(1002,[0,1]),(8002,[0,1,5,6,7])]
def f24_kp:Nat→Option (List Nat):=lookK [(3006,[0,1,3])]
def f32_kp:Nat→Option (List Nat):=lookK [(4005,[0,1,5,7,8])]
def f35_kp:Nat→Option (List Nat):=lookK [(2001,[2,5])]
def kps:FuncId→Nat→Option (List Nat):=fun f=>bif f.beq 5 then f5_kp else bif f.beq 6 then f6_kp else bif f.beq 8 then f8_kp else bif f.beq 10 then f10_kp else bif f.beq 11 then f11_kp else bif f.beq 12 then f12_kp else bif f.beq 14 then f14_kp else bif f.beq 15 then f15_kp else bif f.beq 17 then f17_kp else bif f.beq 19 then f19_kp else bif f.beq 22 then f22_kp else bif f.beq 24 then f24_kp else bif f.beq 32 then f32_kp else bif f.beq 35 then f35_kp else fun _=>none
def peek:FuncId→Option (Nat × Nat):=fun f=>none
noncomputable def prog:AProg:=⟨tab,pure,rts,fns,anns,jns,lent,selfT,ext,opn,kps,peek⟩
end Go.Ab.N10
end

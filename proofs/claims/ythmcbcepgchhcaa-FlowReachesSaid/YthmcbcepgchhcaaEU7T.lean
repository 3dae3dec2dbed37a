import Derived.Test.YthmcbcepgchhcaaEZ
import Derived.IntWalk
import Derived.Lib.ItoaNum
import Derived.Test.YthmcbcepgchhcaaProg
section
namespace Go.Ab
set_option linter.unusedVariables false
section
variable {R:Type} {C C':FuncId→List TV→Option TV} {J J':List Nat→ASt→Option R}
theorem Prg.run_mono (hC:∀ f xs v,C f xs=some v→C' f xs=some v) (hJ:∀ p st r,J p st=some r→J' p st=some r):∀ {p:Prg R} {r:R},p.run C J=some r→p.run C' J'=some r
 | .fail,r,h=>by simp [Prg.run] at h
 | .ret x,r,h=>h
 | .tv p k,r,h=>by
  cases p with
  | none=>simp [Prg.run] at h
  | some v=>exact Prg.run_mono hC hJ (p:=k v) h
 | .tvs p k,r,h=>by
  cases p with
  | none=>simp [Prg.run] at h
  | some v=>exact Prg.run_mono hC hJ (p:=k v) h
 | .rws p k,r,h=>by
  cases p with
  | none=>simp [Prg.run] at h
  | some v=>exact Prg.run_mono hC hJ (p:=k v) h
 | .nat p k,r,h=>by
  cases p with
  | none=>simp [Prg.run] at h
  | some v=>exact Prg.run_mono hC hJ (p:=k v) h
 | .chk b k,r,h=>by
  cases b with
  | false=>simp [Prg.run] at h
  | true=>exact Prg.run_mono hC hJ (p:=k) h
 | .ite b t e, r, h => by
  cases b with
  | none=>simp [Prg.run] at h
  | some b =>
   cases b with
   | true=>exact Prg.run_mono hC hJ (p:=t) h
   | false=>exact Prg.run_mono hC hJ (p:=e) h
 | .call f xs k, r, h => by
  simp only [Prg.run] at h ⊢
  cases hc:C f xs with
  | none=>rw [hc] at h; simp at h
  | some v =>
   rw [hc] at h
   rw [hC _ _ _ hc]
   exact Prg.run_mono hC hJ (p:=k v) h
 | .jmp p st,r,h=>hJ _ _ _ h
end
section
variable {A:AProg} {f g:FuncId}
theorem runN_mono {C C':FuncId→List TV→Option TV} (hC:∀ f xs v,C f xs=some v→C' f xs=some v):∀ {m m':Nat},m≤m'→∀ {p:List Nat} {st:ASt} {r:TV},runN A C f m p st=some r→runN A C' f m' p st=some r
 | 0,_,_,_,_,_,h=>by simp [runN] at h
 | m + 1,0,hle,_,_,_,_=>by omega
 | m + 1,m' + 1,hle,p,st,r,h=>by
  simp only [runN] at h ⊢
  exact Prg.run_mono hC (fun p st r h=>runN_mono hC (by omega) h) h
theorem acall_mono:∀ {n n':Nat},n≤n'→∀ {f:FuncId} {args:List TV} {r:TV},acall A n f args=some r→acall A n' f args=some r
 | 0,_,_,_,_,_,h=>by simp [acall] at h
 | n + 1,0,hle,_,_,_,_=>by omega
 | n + 1, n' + 1, hle, f, args, r, h => by
  simp only [acall] at h ⊢
  have hC:∀ f xs v,acall A n f xs=some v→acall A n' f xs=some v:=fun f xs v h=>acall_mono (by omega) h
  split at h
  ·rename_i g hg
   exact h
  ·exact Prg.run_mono hC (fun p st r h=>runN_mono hC (by omega) h) h
def Runs (A:AProg) (f:FuncId) (args:List TV) (r:TV):Prop:=∃ n,acall A n f args=some r
def Goes (A:AProg) (f:FuncId) (p:Prg TV) (r:TV):Prop:=∃ n,p.run (acall A n) (runN A (acall A n) f n)=some r
variable {r:TV}
theorem Goes.up {p:Prg TV} {n n':Nat} (h:p.run (acall A n) (runN A (acall A n) f n)=some r) (hle:n≤n'):p.run (acall A n') (runN A (acall A n') f n')=some r :=
 Prg.run_mono (fun _ _ _ h=>acall_mono hle h) (fun _ _ _ h=>runN_mono (fun _ _ _ h=>acall_mono hle h) hle h) h
theorem Goes.ret:Goes A f (.ret r) r:=⟨0,rfl⟩
theorem goes_ret {x:TV}:Goes A f (.ret x) r ↔ x=r:=⟨fun ⟨n,h⟩=>by simpa [Prg.run] using h,fun h=>h ▸ Goes.ret⟩
theorem goes_tv {p:Option TV} {k:TV→Prg TV}:Goes A f (.tv p k) r ↔ ∃ v,p=some v∧Goes A f (k v) r:=by
 constructor
 ·rintro ⟨n,h⟩
  cases p with
  | none=>simp [Prg.run] at h
  | some v=>exact ⟨v,rfl,n,h⟩
 ·rintro ⟨v,rfl,n,h⟩; exact ⟨n,h⟩
theorem goes_tvs {p:Option (List TV)} {k:List TV→Prg TV}:Goes A f (.tvs p k) r ↔ ∃ v,p=some v∧Goes A f (k v) r:=by
 constructor
 ·rintro ⟨n,h⟩
  cases p with
  | none=>simp [Prg.run] at h
  | some v=>exact ⟨v,rfl,n,h⟩
 ·rintro ⟨v,rfl,n,h⟩; exact ⟨n,h⟩
theorem goes_rws {p:Option (List (List TV))} {k:List (List TV)→Prg TV}:Goes A f (.rws p k) r ↔ ∃ v,p=some v∧Goes A f (k v) r:=by
 constructor
 ·rintro ⟨n,h⟩
  cases p with
  | none=>simp [Prg.run] at h
  | some v=>exact ⟨v,rfl,n,h⟩
 ·rintro ⟨v,rfl,n,h⟩; exact ⟨n,h⟩
theorem goes_nat {p:Option Nat} {k:Nat→Prg TV}:Goes A f (.nat p k) r ↔ ∃ v,p=some v∧Goes A f (k v) r:=by
 constructor
 ·rintro ⟨n,h⟩
  cases p with
  | none=>simp [Prg.run] at h
  | some v=>exact ⟨v,rfl,n,h⟩
 ·rintro ⟨v,rfl,n,h⟩; exact ⟨n,h⟩
theorem goes_chk {b:Bool} {k:Prg TV}:Goes A f (.chk b k) r ↔ b=true∧Goes A f k r:=by
 constructor
 ·rintro ⟨n,h⟩
  cases b with
  | false=>simp [Prg.run] at h
  | true=>exact ⟨rfl,n,h⟩
 ·rintro ⟨rfl,n,h⟩; exact ⟨n,h⟩
theorem goes_ite {b:Option Bool} {t e:Prg TV}:Goes A f (.ite b t e) r ↔ ∃ v,b=some v∧Goes A f (bif v then t else e) r:=by
 constructor
 ·rintro ⟨n,h⟩
  cases b with
  | none=>simp [Prg.run] at h
  | some v=>refine ⟨v,rfl,n,?_⟩; cases v <;> exact h
 ·rintro ⟨v,rfl,n,h⟩; refine ⟨n,?_⟩; cases v <;> exact h
theorem goes_call {xs:List TV} {k:TV→Prg TV}:Goes A f (.call g xs k) r ↔ ∃ v,Runs A g xs v∧Goes A f (k v) r:=by
 constructor
 ·rintro ⟨n,h⟩
  simp only [Prg.run] at h
  cases hc:acall A n g xs with
  | none=>rw [hc] at h; simp at h
  | some v=>rw [hc] at h; exact ⟨v,⟨n,hc⟩,n,h⟩
 ·rintro ⟨v,⟨n,hc⟩,m,h⟩
  refine ⟨max n m,?_⟩
  simp only [Prg.run]
  rw [acall_mono (Nat.le_max_left n m) hc]
  exact Goes.up h (Nat.le_max_right n m)
theorem goes_jmp {p:List Nat} {st:ASt}:Goes A f (.jmp p st) r ↔ Goes A f (pieceQ A f p st) r:=by
 constructor
 ·rintro ⟨n,h⟩
  cases n with
  | zero=>simp [Prg.run,runN] at h
  | succ n =>
   refine ⟨n + 1,?_⟩
   simp only [Prg.run,runN] at h
   exact Prg.run_mono (fun _ _ _ h=>h) (fun _ _ _ h=>runN_mono (fun _ _ _ h=>h) (Nat.le_succ n) h) h
 ·rintro ⟨n,h⟩
  refine ⟨n + 1,?_⟩
  simp only [Prg.run,runN]
  exact Prg.run_mono (fun _ _ _ h=>acall_mono (Nat.le_succ n) h) (fun _ _ _ h=>runN_mono (fun _ _ _ h=>acall_mono (Nat.le_succ n) h) (Nat.le_refl n) h) h
theorem runs_iff {args:List TV} (hx:A.ext f=none):Runs A f args r ↔ Goes A f (startQ A f args) r:=by
 constructor
 ·rintro ⟨n,h⟩
  cases n with
  | zero=>simp [acall] at h
  | succ n=>simp only [acall,hx] at h; exact ⟨n,h⟩
 ·rintro ⟨n,h⟩; exact ⟨n + 1,by simp only [acall,hx]; exact h⟩
theorem Goes.tv {p:Option TV} {k:TV→Prg TV} {v:TV} (h:p=some v) (hk:Goes A f (k v) r):Goes A f (.tv p k) r:=goes_tv.2 ⟨v,h,hk⟩
theorem Goes.tvs {p:Option (List TV)} {k:List TV→Prg TV} {v:List TV} (h:p=some v) (hk:Goes A f (k v) r):Goes A f (.tvs p k) r:=goes_tvs.2 ⟨v,h,hk⟩
theorem Goes.rws {p:Option (List (List TV))} {k:List (List TV)→Prg TV} {v:List (List TV)} (h:p=some v) (hk:Goes A f (k v) r):Goes A f (.rws p k) r:=goes_rws.2 ⟨v,h,hk⟩
theorem Goes.nat {p:Option Nat} {k:Nat→Prg TV} {v:Nat} (h:p=some v) (hk:Goes A f (k v) r):Goes A f (.nat p k) r:=goes_nat.2 ⟨v,h,hk⟩
theorem Goes.chk {b:Bool} {k:Prg TV} (h:b=true) (hk:Goes A f k r):Goes A f (.chk b k) r:=goes_chk.2 ⟨h,hk⟩
theorem Goes.ite {b:Option Bool} {t e:Prg TV} {v:Bool} (h:b=some v) (ht:v=true→Goes A f t r) (he:v=false→Goes A f e r):Goes A f (.ite b t e) r:=by
 refine goes_ite.2 ⟨v,h,?_⟩
 cases v with
 | true=>exact ht rfl
 | false=>exact he rfl
theorem Goes.call {xs:List TV} {k:TV→Prg TV} {v:TV} (h:Runs A g xs v) (hk:Goes A f (k v) r):Goes A f (.call g xs k) r:=goes_call.2 ⟨v,h,hk⟩
theorem Goes.jmp {p:List Nat} {st:ASt} {q:Prg TV} (h:pieceQ A f p st=q) (hk:Goes A f q r):Goes A f (.jmp p st) r:=goes_jmp.2 (h ▸ hk)
theorem Runs.of {args:List TV} {q:Prg TV} (h:startQ A f args=q) (hk:Goes A f q r) (hx:A.ext f=none:=by rfl):Runs A f args r:=(runs_iff hx).2 (h ▸ hk)
end
end Go.Ab
end
section
namespace Go.Ab
set_option linter.unusedVariables false
inductive F2 {α β:Type} (R:α→β→Prop):List α→List β→Prop
 | nil:F2 R [] []
 | cons {a b l m}:R a b→F2 R l m→F2 R (a :: l) (b :: m)
section
variable {α β γ:Type} {R S:α→β→Prop}
theorem F2.length {xs:List α} {l:List β} (h:F2 R xs l):xs.length=l.length:=by
 induction h with
 | nil=>rfl
 | cons _ _ ih=>simp [ih]
theorem F2.get {xs:List α} {l:List β} (h:F2 R xs l):∀ {i:Nat} {a:β},l[i]? = some a→∃ e,xs[i]? = some e∧R e a:=by
 induction h with
 | nil=>intro i a h; simp at h
 | cons hr _ ih =>
  intro i a h
  cases i with
  | zero=>simp at h; subst h; exact ⟨_,rfl,hr⟩
  | succ i=>simp at h; simpa using ih h
theorem F2.getL {xs:List α} {l:List β} (h:F2 R xs l):∀ {i:Nat} {e:α},xs[i]? = some e→∃ a,l[i]? = some a∧R e a:=by
 induction h with
 | nil=>intro i a h; simp at h
 | cons hr _ ih =>
  intro i a h
  cases i with
  | zero=>simp at h; subst h; exact ⟨_,rfl,hr⟩
  | succ i=>simp at h; simpa using ih h
theorem F2.mono (hm:∀ e a,R e a→S e a) {xs:List α} {l:List β} (h:F2 R xs l):F2 S xs l:=by
 induction h with
 | nil=>exact .nil
 | cons hr _ ih=>exact .cons (hm _ _ hr) ih
theorem F2.append {xs ys:List α} {l m:List β} (h:F2 R xs l) (h':F2 R ys m):F2 R (xs ++ ys) (l ++ m):=by
 induction h with
 | nil=>exact h'
 | cons hr _ ih=>exact .cons hr ih
theorem F2.take {xs:List α} {l:List β} (h:F2 R xs l):∀ n,F2 R (xs.take n) (l.take n):=by
 induction h with
 | nil=>intro n; simp; exact .nil
 | cons hr _ ih=>intro n; cases n with
  | zero=>exact .nil
  | succ n=>exact .cons hr (ih n)
theorem F2.drop {xs:List α} {l:List β} (h:F2 R xs l):∀ n,F2 R (xs.drop n) (l.drop n):=by
 induction h with
 | nil=>intro n; simp; exact .nil
 | cons hr h ih=>intro n; cases n with
  | zero=>exact .cons hr h
  | succ n=>exact ih n
theorem F2.set {xs:List α} {l:List β} (h:F2 R xs l):∀ {i:Nat} {e:α} {a:β},R e a→F2 R (setNth xs i e) (l.set i a):=by
 induction h with
 | nil=>intro i e a _; exact .nil
 | cons hr h ih=>intro i e a hea; cases i with
  | zero=>exact .cons hea h
  | succ i=>exact .cons hr (ih hea)
theorem F2.mapL {f:γ→α} {Q:γ→β→Prop} {xs:List γ} {l:List β} (h:F2 Q xs l) (hf:∀ x a,Q x a→R (f x) a):F2 R (xs.map f) l:=by
 induction h with
 | nil=>exact .nil
 | cons hr _ ih=>exact .cons (hf _ _ hr) ih
theorem F2.of_get {xs:List α}:∀ {l:List β},xs.length=l.length→(∀ (i:Nat) e a,xs[i]? = some e→l[i]? = some a→R e a)→F2 R xs l:=by
 induction xs with
 | nil=>intro l h _; cases l with
  | nil=>exact .nil
  | cons _ _=>simp at h
 | cons x xs ih=>intro l h hg; cases l with
  | nil=>simp at h
  | cons a l=>exact .cons (hg 0 x a rfl rfl) (ih (by simpa using h) fun i e b he hb=>hg (i + 1) e b (by simpa using he) (by simpa using hb))
end
abbrev I (n:Int):TV:=.lit (.int .i64 n)
abbrev W (n:Int):TV:=.lit (.int .u16 n)
abbrev B (b:Bool):TV:=.lit (.bool b)
def inI (n:Int):Prop:=-9223372036854775808≤n∧n≤9223372036854775807
def inW (n:Int):Prop:=0≤n∧n≤65535
def RL {α:Type} (q:Option Bool) (s:Nat) (R:List TV→α→Prop) (x:TV) (l:List α):Prop :=
 (x=.lit nilV∧l=[])∨∃ o xs,x=.sl o s xs∧(∀ b,q=some b→o=b)∧F2 R xs l∧xs.length≤9223372036854775807
theorem frzLL_map:∀ ys:List (List TV),frzLL ys=ys.map frzL
 | []=>rfl
 | y :: ys=>by simp [frzLL,frzLL_map ys]
section
variable {α:Type} {q:Option Bool} {s:Nat} {R S:List TV→α→Prop} {x:TV} {l:List α}
theorem RL.nil:RL q s R (.lit nilV) []:=.inl ⟨rfl,rfl⟩
theorem RL.sl {o:Bool} {xs:List (List TV)} (hq:∀ b,q=some b→o=b) (h:F2 R xs l) (hb:xs.length≤9223372036854775807):RL q s R (.sl o s xs) l:=.inr ⟨o,xs,rfl,hq,h,hb⟩
theorem RL.bnd (h:RL q s R x l):l.length≤9223372036854775807:=by
 rcases h with ⟨rfl,rfl⟩ | ⟨o,xs,rfl,hq,h,hb⟩
 ·simp
 ·rw [← h.length]; exact hb
theorem RL.weak (h:RL q s R x l) (hm:∀ e a,R e a→S e a):RL none s S x l:=by
 rcases h with ⟨rfl,rfl⟩ | ⟨o,xs,rfl,hq,h,hb⟩
 ·exact .nil
 ·exact .sl (by simp) (h.mono hm) hb
theorem RL.len {t:TypeId} (h:RL q s R x l):plen (.slice t) x=some (I l.length):=by
 rcases h with ⟨rfl,rfl⟩ | ⟨o,xs,rfl,hq,h,hb⟩
 ·rfl
 ·simp [plen,h.length]
theorem RL.slLen (h:RL q s R x l):Go.Ab.slLen x=some l.length:=by
 rcases h with ⟨rfl,rfl⟩ | ⟨o,xs,rfl,hq,h,hb⟩
 ·rfl
 ·simp [Go.Ab.slLen,h.length]
theorem RL.slSize (h:RL q s R x l):Go.Ab.slSize x s=true:=by
 rcases h with ⟨rfl,rfl⟩ | ⟨o,xs,rfl,hq,h,hb⟩
 ·rfl
 ·simp [Go.Ab.slSize]
theorem RL.isSl (h:RL q s R x l):x.isSl=true:=by
 rcases h with ⟨rfl,rfl⟩ | ⟨o,xs,rfl,hq,h,hb⟩ <;> rfl
theorem RL.idx (h:RL q s R x l) {k:IntKind} {i:Nat} {a:α} (hi:l[i]? = some a):∃ e,pidx s x (.lit (.int k i))=some e∧R e a:=by
 rcases h with ⟨rfl,rfl⟩ | ⟨o,xs,rfl,hq,h,hb⟩
 ·simp at hi
 ·obtain ⟨e,he,hr⟩:=h.get hi
  exact ⟨e,by simp [pidx,he],hr⟩
theorem RL.elems (h:RL q s R x l):∃ xs,pelems s x=some xs∧F2 R xs l:=by
 rcases h with ⟨rfl,rfl⟩ | ⟨o,xs,rfl,hq,h,hb⟩
 ·exact ⟨[],rfl,.nil⟩
 ·exact ⟨xs,by simp [pelems],h⟩
theorem RL.pel (h:RL q s R x l) {i:Nat} {a:α} (hi:l[i]? = some a):∃ e,Go.Ab.pel x i=some e∧R e a:=by
 rcases h with ⟨rfl,rfl⟩ | ⟨o,xs,rfl,hq,h,hb⟩
 ·simp at hi
 ·exact h.get hi
theorem RL.frz (h:RL q s R x l) (hm:∀ e a,R e a→S (frzL e) a):RL (some false) s S (frz x) l:=by
 rcases h with ⟨rfl,rfl⟩ | ⟨o,xs,rfl,hq,h,hb⟩
 ·exact .nil
 ·refine .sl (by simp) ?_ ?_
  rotate_left
  ·rw [frzLL_map,List.length_map]; exact hb
  rw [frzLL_map]
  exact h.mapL hm
end
def RI1 (e:List TV) (n:Int):Prop:=e=[I n]∧inI n
def RW1 (e:List TV) (n:Int):Prop:=e=[W n]∧inW n
def RB1 (e:List TV) (b:Bool):Prop:=e=[B b]
abbrev RInts (q:Option Bool):TV→List Int→Prop:=RL q 1 RI1
abbrev RWords (q:Option Bool):TV→List Int→Prop:=RL q 1 RW1
abbrev RBools (q:Option Bool):TV→List Bool→Prop:=RL q 1 RB1
structure DIns where
 op:Int
 dst:Int
 a:Int
 b:Int
 k:Int
 f:Int
 args:List Int
structure DEnd where
 kind:Int
 a:Int
 dst:Int
 f:Int
 args:List Int
 to:Int
 els:Int
 pad:Int
structure DPad where
 dst:Int
 catches:List Int
 all:Bool
 cleanup:Bool
structure DBlock where
 landing:Bool
 pad:DPad
 ins:List DIns
 fin:DEnd
structure DFunc where
 params:Int
 regs:Int
 blocks:List DBlock
structure DMod where
 funcs:List DFunc
def DIns.ok (x:DIns):Prop:=inI x.op∧inI x.dst∧inI x.a∧inI x.b∧inW x.k∧inI x.f
def DEnd.ok (x:DEnd):Prop:=inI x.kind∧inI x.a∧inI x.dst∧inI x.f∧inI x.to∧inI x.els∧inI x.pad
def RIns (q:Option Bool) (e:List TV) (x:DIns):Prop:=∃ g,e=[I x.op,I x.dst,I x.a,I x.b,W x.k,I x.f,g]∧RInts q g x.args∧x.ok
def REnd (q:Option Bool) (e:List TV) (x:DEnd):Prop:=∃ g,e=[I x.kind,I x.a,I x.dst,I x.f,g,I x.to,I x.els,I x.pad]∧RInts q g x.args∧x.ok
def RPad (q:Option Bool) (e:List TV) (x:DPad):Prop:=∃ g,e=[I x.dst,g,B x.all,B x.cleanup]∧RWords q g x.catches∧inI x.dst
def RBlock (q:Option Bool) (e:List TV) (x:DBlock):Prop:=∃ c i g,e=[B x.landing,I x.pad.dst,c,B x.pad.all,B x.pad.cleanup,i,I x.fin.kind,I x.fin.a,I x.fin.dst,I x.fin.f,g,I x.fin.to,I x.fin.els,I x.fin.pad] ∧
 RWords q c x.pad.catches∧inI x.pad.dst∧RL q 7 (RIns q) i x.ins∧RInts q g x.fin.args∧x.fin.ok
def RFunc (q:Option Bool) (e:List TV) (x:DFunc):Prop:=∃ b,e=[I x.params,I x.regs,b]∧RL q 14 (RBlock q) b x.blocks∧inI x.params∧inI x.regs
def RMod (q:Option Bool) (e:List TV) (x:DMod):Prop:=∃ b,e=[b]∧RL q 3 (RFunc q) b x.funcs
theorem RI1.frz {e:List TV} {n:Int} (h:RI1 e n):RI1 (frzL e) n:=by obtain ⟨rfl,h⟩:=h; exact ⟨rfl,h⟩
theorem RW1.frz {e:List TV} {n:Int} (h:RW1 e n):RW1 (frzL e) n:=by obtain ⟨rfl,h⟩:=h; exact ⟨rfl,h⟩
theorem RIns.frz {q:Option Bool} {e:List TV} {x:DIns} (h:RIns q e x):RIns (some false) (frzL e) x:=by
 obtain ⟨g,rfl,hg,ho⟩:=h
 exact ⟨Go.Ab.frz g,rfl,hg.frz fun _ _ h=>h.frz,ho⟩
theorem RBlock.frz {q:Option Bool} {e:List TV} {x:DBlock} (h:RBlock q e x):RBlock (some false) (frzL e) x:=by
 obtain ⟨c,i,g,rfl,hc,hd,hi,hg,ho⟩:=h
 exact ⟨Go.Ab.frz c,Go.Ab.frz i,Go.Ab.frz g,rfl,hc.frz fun _ _ h=>h.frz,hd,hi.frz fun _ _ h=>h.frz,hg.frz fun _ _ h=>h.frz,ho⟩
theorem RFunc.frz {q:Option Bool} {e:List TV} {x:DFunc} (h:RFunc q e x):RFunc (some false) (frzL e) x:=by
 obtain ⟨b,rfl,hb,ho⟩:=h
 exact ⟨Go.Ab.frz b,rfl,hb.frz fun _ _ h=>h.frz,ho⟩
theorem padd {a b:Int} (h:inI (a + b)):pbin (.int .i64) .add (I a) (I b)=some (I (a + b)):=by
 simp [pbin,intBin,IntWalk.i64_in _ h]
theorem psub {a b:Int} (h:inI (a - b)):pbin (.int .i64) .sub (I a) (I b)=some (I (a - b)):=by
 simp [pbin,intBin,IntWalk.i64_in _ h]
theorem inc {k n:Nat} (h:k < n) (hn:n≤9223372036854775807):pbin (.int .i64) .add (I (k:Int)) (I (1:Int))=some (I ((k + 1:Nat):Int)):=by
 rw [padd (by constructor <;> omega)]; rfl
open Classical in
noncomputable def tt (p:Prop):Bool:=decide p
theorem tt_iff {p:Prop}:tt p=true ↔ p:=by simp [tt]
theorem tt_eq {b:Bool} {p:Prop} (h:b=true ↔ p):b=tt p:=by
 cases b with
 | true=>exact (tt_iff.2 (h.1 rfl)).symm
 | false =>
  cases hp:tt p with
  | false=>rfl
  | true=>exact absurd (h.2 (tt_iff.1 hp)) (by simp)
theorem tt_congr {p p':Prop} (h:p ↔ p'):tt p=tt p':=by rw [propext h]
theorem tt_true {p:Prop} (h:p):tt p=true:=tt_iff.2 h
theorem tt_false {p:Prop} (h:¬ p):tt p=false:=by
 cases hp:tt p with
 | false=>rfl
 | true=>exact absurd (tt_iff.1 hp) h
section
variable {A:AProg} {f:FuncId}
theorem ret_tt {b:Bool} {p:Prop} (h:b=true ↔ p):Goes A f (.ret (B b)) (B (tt p)):=by rw [← tt_eq h]; exact Goes.ret
theorem ret_yes {p:Prop} (h:p):Goes A f (.ret (B true)) (B (tt p)):=ret_tt (by simp [h])
theorem ret_no {p:Prop} (h:¬ p):Goes A f (.ret (B false)) (B (tt p)):=ret_tt (by simp [h])
end
def allFrom (k n:Nat) (P:Nat→Prop):Prop:=∀ i,k≤i→i < n→P i
theorem allFrom_end {n:Nat} {P:Nat→Prop}:allFrom n n P:=fun i h1 h2=>by omega
theorem allFrom_step {k n:Nat} {P:Nat→Prop} (h:k < n):allFrom k n P ↔ P k∧allFrom (k + 1) n P:=by
 constructor
 ·intro ha; exact ⟨ha k (Nat.le_refl k) h,fun i h1 h2=>ha i (by omega) h2⟩
 ·rintro ⟨hp,ha⟩ i h1 h2
  by_cases hi:i=k
  ·subst hi; exact hp
  ·exact ha i (by omega) h2
theorem allFrom_zero {n:Nat} {P:Nat→Prop}:allFrom 0 n P ↔ ∀ i,i < n→P i:=⟨fun h i hi=>h i (Nat.zero_le i) hi,fun h i _ hi=>h i hi⟩
theorem list_eq_iff {α:Type} {l m:List α} (h:l.length=m.length):l=m ↔ allFrom 0 l.length fun i=>l[i]? = m[i]? := by
 rw [allFrom_zero]
 constructor
 ·rintro rfl i _; rfl
 ·intro ha
  apply List.ext_getElem? 
  intro i
  by_cases hi:i < l.length
  ·exact ha i hi
  ·rw [List.getElem?_eq_none (by omega),List.getElem?_eq_none (by omega)]
end Go.Ab
namespace Go.Ab
theorem allLoop {A:AProg} {f:FuncId} {n:Nat} {P:Nat→Prop} {Q:Prop} {g:Nat→Prg TV} (hend:Goes A f (g n) (B (tt Q)))
  (hstep:∀ k,k < n→∀ r,(¬ P k→r=B false)→(P k→Goes A f (g (k + 1)) r)→Goes A f (g k) r):∀ d k,k + d=n→Goes A f (g k) (B (tt (allFrom k n P∧Q))):=by
 intro d
 induction d with
 | zero =>
  intro k hk
  have hk:k=n:=by omega
  subst hk
  rw [show tt (allFrom k k P∧Q)=tt Q from tt_congr ⟨fun h=>h.2,fun h=>⟨allFrom_end,h⟩⟩]
  exact hend
 | succ d ih =>
  intro k hk
  have hlt:k < n:=by omega
  refine hstep k hlt _ (fun hp=>?_) (fun hp=>?_)
  ·rw [tt_false]
   intro h
   exact hp ((allFrom_step hlt).1 h.1).1
  ·rw [show tt (allFrom k n P∧Q)=tt (allFrom (k + 1) n P∧Q) from tt_congr ⟨fun h=>⟨((allFrom_step hlt).1 h.1).2,h.2⟩,fun h=>⟨(allFrom_step hlt).2 ⟨hp,h.1⟩,h.2⟩⟩]
   exact ih (k + 1) (by omega)
theorem allLoop' {A:AProg} {f:FuncId} {n:Nat} {P:Nat→Prop} {g:Nat→Prg TV} (hend:Goes A f (g n) (B true))
  (hstep:∀ k,k < n→∀ r,(¬ P k→r=B false)→(P k→Goes A f (g (k + 1)) r)→Goes A f (g k) r):Goes A f (g 0) (B (tt (∀ i,i < n→P i))):=by
 have:=allLoop (Q:=True) (by rw [tt_true trivial]; exact hend) hstep n 0 (by omega)
 rw [show tt (∀ i,i < n→P i)=tt (allFrom 0 n P∧True) from tt_congr ⟨fun h=>⟨allFrom_zero.2 h,trivial⟩,fun h=>allFrom_zero.1 h.1⟩]
 exact this
theorem asB_lt {k n:Nat} (h:k < n):asBool (.lit (.bool (decide ((k:Int) < (n:Int)))))=some true:=by simp [asBool,h]
theorem asB_end {n:Nat}:asBool (.lit (.bool (decide ((n:Int) < (n:Int)))))=some false:=by simp [asBool]
theorem list_eq_iff' {α:Type} {l m:List α} (h:l.length=m.length):l=m ↔ ∀ i,i < l.length→l[i]? = m[i]? := by
 rw [list_eq_iff h,allFrom_zero]
end Go.Ab
namespace Go.Ab
end Go.Ab
end
section
namespace Go.Ab
def lookD:List (Nat × LentD)→Nat→Option LentD
 | [],_=>none
 | (k,d) :: r,t=>bif k.beq t then some d else lookD r t
end Go.Ab
end
section
set_option linter.unusedVariables false
namespace Go.Ab.U7
open Go.Ab Go.Proofs
def lookA:List (Nat × Ann)→Nat→Option Ann
 | [],_=>none
 | (k,d) :: r,t=>bif k.beq t then some d else lookA r t
def z2:List Value:=[.int .i64 0]
def z3:List Value:=[.int .i64 0]
def z4:List Value:=[.bool false]
def z5:List Value:=[.int .u8 0]
def z6:List Value:=[.int .u8 0]
def z7:List Value:=[.int .i64 0,.int .i64 0,.bool false,.int .u8 0]
def z8:List Value:=[.int .i64 0,.int .i64 0,.bool false,.int .u8 0]
def z9:List Value:=[.string ⟨#[]⟩]
def z10:List Value:=[.string ⟨#[]⟩]
def z11:List Value:=[.string ⟨#[]⟩]
def z12:List Value:=[.int .u64 0]
def z13:List Value:=[.string ⟨#[]⟩,.int .u64 0]
def z14:List Value:=[.string ⟨#[]⟩,.int .u64 0]
def z15:List Value:=[.pointer none]
def z16:List Value:=[.pointer none]
def z17:List Value:=[.pointer none]
def z18:List Value:=[.pointer none]
def z19:List Value:=[.pointer none]
def z20:List Value:=[.nilIface]
def z21:List Value:=[.int .i32 0]
def z22:List Value:=[.slice none 0 0]
def z23:List Value:=[.slice none 0 0]
def z24:List Value:=[.slice none 0 0]
def z25:List Value:=[.slice none 0 0]
def z26:List Value:=[.nilFunc]
def z27:List Value:=[.nilFunc]
def z28:List Value:=[.slice none 0 0]
def z29:List Value:=[.int .u16 0]
def z30:List Value:=[.int .u16 0,.int .u16 0,.int .u16 0,.int .u16 0,.int .u16 0,.int .u16 0,.int .u16 0,.int .u16 0,.int .u16 0,.int .u16 0,.int .u16 0,.int .u16 0,.int .u16 0,.int .u16 0,.int .u16 0,.int .u16 0]
def z31:List Value:=[.slice none 0 0]
def z32:List Value:=[.slice none 0 0,.int .u16 0,.int .u16 0,.int .u16 0,.int .u16 0,.int .u16 0,.int .u16 0,.int .u16 0,.int .u16 0,.int .u16 0,.int .u16 0,.int .u16 0,.int .u16 0,.int .u16 0,.int .u16 0,.int .u16 0,.int .u16 0,.slice none 0 0,.slice none 0 0,.int .i64 0,.int .u16 0]
def z33:List Value:=[.slice none 0 0,.int .u16 0,.int .u16 0,.int .u16 0,.int .u16 0,.int .u16 0,.int .u16 0,.int .u16 0,.int .u16 0,.int .u16 0,.int .u16 0,.int .u16 0,.int .u16 0,.int .u16 0,.int .u16 0,.int .u16 0,.int .u16 0,.slice none 0 0,.slice none 0 0,.int .i64 0,.int .u16 0]
def z34:List Value:=[.int .i64 0]
def z36:List Value:=[.nilFunc]
def z37:List Value:=[.nilFunc]
def z38:List Value:=[.nilFunc]
def z39:List Value:=[.nilFunc]
def z40:List Value:=[.nilFunc]
def z41:List Value:=[.nilFunc]
def z42:List Value:=[.nilFunc]
def z43:List Value:=[.nilFunc]
def z44:List Value:=[.nilFunc]
def z45:List Value:=[.nilFunc]
def z46:List Value:=[.int .i64 0,.int .i64 0,.int .i64 0,.slice none 0 0,.int .u16 0]
def z47:List Value:=[.int .i64 0,.int .i64 0,.int .i64 0,.slice none 0 0,.int .u16 0]
def z48:List Value:=[.int .i64 0,.slice none 0 0,.bool false,.bool false]
def z49:List Value:=[.int .i64 0,.slice none 0 0,.bool false,.bool false]
def z50:List Value:=[.slice none 0 0]
def z51:List Value:=[.int .i64 0,.int .i64 0,.int .i64 0,.int .i64 0,.slice none 0 0,.int .i64 0,.int .i64 0,.int .i64 0]
def z52:List Value:=[.int .i64 0,.int .i64 0,.int .i64 0,.int .i64 0,.slice none 0 0,.int .i64 0,.int .i64 0,.int .i64 0]
def z53:List Value:=[.bool false,.int .i64 0,.slice none 0 0,.bool false,.bool false,.slice none 0 0,.int .i64 0,.int .i64 0,.int .i64 0,.int .i64 0,.slice none 0 0,.int .i64 0,.int .i64 0,.int .i64 0]
def z54:List Value:=[.bool false,.int .i64 0,.slice none 0 0,.bool false,.bool false,.slice none 0 0,.int .i64 0,.int .i64 0,.int .i64 0,.int .i64 0,.slice none 0 0,.int .i64 0,.int .i64 0,.int .i64 0]
def z55:List Value:=[.slice none 0 0]
def z56:List Value:=[.int .i64 0,.int .i64 0,.slice none 0 0]
def z57:List Value:=[.int .i64 0,.int .i64 0,.slice none 0 0]
def z58:List Value:=[.nilFunc]
def z59:List Value:=[.nilFunc]
def z60:List Value:=[.nilFunc]
def z61:List Value:=[.nilFunc]
def z62:List Value:=[.slice none 0 0]
def z63:List Value:=[.nilFunc]
def z64:List Value:=[.nilFunc]
def z65:List Value:=[.nilFunc]
def z66:List Value:=[.nilFunc]
def z67:List Value:=[.nilFunc]
def z68:List Value:=[.nilFunc]
def z69:List Value:=[.int .i64 0,.int .i64 0,.int .i64 0,.int .i64 0,.int .u16 0,.int .i64 0,.slice none 0 0]
def z70:List Value:=[.int .i64 0,.int .i64 0,.int .i64 0,.int .i64 0,.int .u16 0,.int .i64 0,.slice none 0 0]
def z71:List Value:=[.nilFunc]
def z72:List Value:=[.slice none 0 0,.int .u16 0,.int .u16 0,.int .u16 0,.int .u16 0,.int .u16 0,.int .u16 0,.int .u16 0,.int .u16 0,.int .u16 0,.int .u16 0,.int .u16 0,.int .u16 0,.int .u16 0,.int .u16 0,.int .u16 0,.int .u16 0,.slice none 0 0,.slice none 0 0,.int .i64 0,.int .u16 0,.slice none 0 0]
def z73:List Value:=[.slice none 0 0,.int .u16 0,.int .u16 0,.int .u16 0,.int .u16 0,.int .u16 0,.int .u16 0,.int .u16 0,.int .u16 0,.int .u16 0,.int .u16 0,.int .u16 0,.int .u16 0,.int .u16 0,.int .u16 0,.int .u16 0,.int .u16 0,.slice none 0 0,.slice none 0 0,.int .i64 0,.int .u16 0,.slice none 0 0]
def z74:List Value:=[.nilFunc]
def z75:List Value:=[.nilFunc]
def z76:List Value:=[.nilFunc]
def z77:List Value:=[.nilFunc]
def z78:List Value:=[.nilFunc]
def z79:List Value:=[.nilFunc]
def z80:List Value:=[.nilFunc]
def z81:List Value:=[.nilFunc]
def z82:List Value:=[.nilFunc]
def z83:List Value:=[.nilFunc]
def z84:List Value:=[.nilFunc]
def z85:List Value:=[.slice none 0 0]
def z86:List Value:=[.int .i64 0,.int .i64 0,.slice none 0 0,.slice none 0 0,.slice none 0 0,.slice none 0 0]
def z87:List Value:=[.int .i64 0,.int .i64 0,.slice none 0 0,.slice none 0 0,.slice none 0 0,.slice none 0 0]
def z88:List Value:=[.nilFunc]
def z89:List Value:=[.nilFunc]
def z91:List Value:=[.nilFunc]
def z92:List Value:=[.nilFunc]
def z93:List Value:=[.pointer none]
def z94:List Value:=[.pointer none]
def z95:List Value:=[.nilFunc]
def z96:List Value:=[.nilFunc]
def z97:List Value:=[.nilFunc]
def z98:List Value:=[.nilFunc]
def z99:List Value:=[.nilFunc]
def z100:List Value:=[.nilFunc]
def z101:List Value:=[.nilFunc]
def z103:List Value:=[.nilFunc]
def z105:List Value:=[.nilFunc]
def z106:List Value:=[.nilFunc]
def z107:List Value:=[.nilFunc]
def z108:List Value:=[.nilFunc]
def z109:List Value:=[.nilFunc]
def z110:List Value:=[.nilFunc]
def z111:List Value:=[.nilFunc]
def z112:List Value:=[.nilFunc]
def z113:List Value:=[.int .i64 0]
def z114:List Value:=[.nilFunc]
def z115:List Value:=[.nilFunc]
def z116:List Value:=[.nilFunc]
def z117:List Value:=[.nilFunc]
def z118:List Value:=[.pointer none]
def z119:List Value:=[.int .i64 0,.slice none 0 0]
def z120:List Value:=[.int .i64 0,.slice none 0 0]
def z121:List Value:=[.pointer none]
def z122:List Value:=[.nilFunc]
def z123:List Value:=[.nilFunc]
def z124:List Value:=[.nilFunc]
def z125:List Value:=[.nilFunc]
def z126:List Value:=[.nilFunc]
def z128:List Value:=[.nilFunc]
def z129:List Value:=[.nilFunc]
def z130:List Value:=[.nilFunc]
def z131:List Value:=[.nilFunc]
def z132:List Value:=[.nilFunc]
def z133:List Value:=[.slice none 0 0,.int .i64 0,.int .i64 0,.slice none 0 0]
def z134:List Value:=[.slice none 0 0,.int .i64 0,.int .i64 0,.slice none 0 0]
def z135:List Value:=[.nilFunc]
def z136:List Value:=[.pointer none]
def z137:List Value:=[.nilFunc]
def z138:List Value:=[.nilFunc]
def z139:List Value:=[.nilFunc]
def z140:List Value:=[.nilFunc]
def z142:List Value:=[.nilFunc]
def z143:List Value:=[.nilFunc]
def z144:List Value:=[.nilFunc]
def z145:List Value:=[.nilFunc]
def z147:List Value:=[.nilFunc]
def z148:List Value:=[.nilFunc]
def z149:List Value:=[.nilFunc]
def z150:List Value:=[.nilFunc]
def z151:List Value:=[.nilFunc]
def z152:List Value:=[.nilFunc]
def z153:List Value:=[.int .u64 0]
def z154:List Value:=[.nilFunc]
def z155:List Value:=[.nilFunc]
def z156:List Value:=[.nilFunc]
def z157:List Value:=[.nilFunc]
def z158:List Value:=[.nilFunc]
def z159:List Value:=[.nilFunc]
def z160:List Value:=[.nilFunc]
def z161:List Value:=[.nilFunc]
def z162:List Value:=[.pointer none,.pointer none,.pointer none,.string ⟨#[]⟩]
def z163:List Value:=[.pointer none,.pointer none,.pointer none,.string ⟨#[]⟩]
def z164:List Value:=[]
def z165:List Value:=[]
def z166:List Value:=[]
def z167:List Value:=[.nilFunc]
def z168:List Value:=[.int .u32 0]
def z169:List Value:=[.int .u8 0]
def z170:List Value:=[.int .u8 0]
def z171:List Value:=[.nilFunc]
def z172:List Value:=[.pointer none]
def z173:List Value:=[.int .i32 0]
def z174:List Value:=[.int .i32 0]
def z175:List Value:=[.int .u64 0,.int .u64 0,.int .u32 0,.int .u8 0,.int .u8 0,.int .u8 0,.int .u8 0,.nilFunc,.pointer none,.int .i32 0,.int .i32 0]
def z176:List Value:=[.int .u64 0,.int .u64 0,.int .u32 0,.int .u8 0,.int .u8 0,.int .u8 0,.int .u8 0,.nilFunc,.pointer none,.int .i32 0,.int .i32 0]
def tab:Tab:=lookT [
 (2,⟨1,8,.int .i64,z2,[]⟩),
 (3,⟨1,8,.int .i64,z3,[]⟩),
 (4,⟨1,1,.bool,z4,[]⟩),
 (5,⟨1,1,.int .u8,z5,[]⟩),
 (6,⟨1,1,.int .u8,z6,[]⟩),
 (7,⟨4,24,.struct,z7,[(0,2),(1,3),(2,4),(3,6)]⟩),
 (8,⟨4,24,.struct,z8,[(0,2),(1,3),(2,4),(3,6)]⟩),
 (9,⟨1,16,.str,z9,[]⟩),
 (10,⟨1,16,.str,z10,[]⟩),
 (11,⟨1,16,.str,z11,[]⟩),
 (12,⟨1,8,.int .u64,z12,[]⟩),
 (13,⟨2,24,.struct,z13,[(0,9),(1,12)]⟩),
 (14,⟨2,24,.struct,z14,[(0,9),(1,12)]⟩),
 (15,⟨1,8,.ptr,z15,[]⟩),
 (16,⟨1,8,.ptr,z16,[]⟩),
 (17,⟨1,8,.ptr,z17,[]⟩),
 (18,⟨1,8,.struct,z18,[(0,17)]⟩),
 (19,⟨1,8,.struct,z19,[(0,17)]⟩),
 (20,⟨1,16,.other,z20,[]⟩),
 (21,⟨1,4,.int .i32,z21,[]⟩),
 (22,⟨1,24,.slice 57,z22,[]⟩),
 (23,⟨1,24,.struct,z23,[(0,22)]⟩),
 (24,⟨1,24,.struct,z24,[(0,22)]⟩),
 (25,⟨1,24,.slice 29,z25,[]⟩),
 (26,⟨1,8,.other,z26,[]⟩),
 (27,⟨1,8,.other,z27,[]⟩),
 (28,⟨1,24,.slice 47,z28,[]⟩),
 (29,⟨1,2,.int .u16,z29,[]⟩),
 (30,⟨16,32,.arr 16 29,z30,[]⟩),
 (31,⟨1,24,.slice 3,z31,[]⟩),
 (32,⟨21,120,.struct,z32,[(0,28),(1,30),(17,25),(18,31),(19,3),(20,29)]⟩),
 (33,⟨21,120,.struct,z33,[(0,28),(1,30),(17,25),(18,31),(19,3),(20,29)]⟩),
 (34,⟨1,8,.int .i64,z34,[]⟩),
 (36,⟨1,8,.other,z36,[]⟩),
 (37,⟨1,8,.other,z37,[]⟩),
 (38,⟨1,8,.other,z38,[]⟩),
 (39,⟨1,8,.other,z39,[]⟩),
 (40,⟨1,8,.other,z40,[]⟩),
 (41,⟨1,8,.other,z41,[]⟩),
 (42,⟨1,8,.other,z42,[]⟩),
 (43,⟨1,8,.other,z43,[]⟩),
 (44,⟨1,8,.other,z44,[]⟩),
 (45,⟨1,8,.other,z45,[]⟩),
 (46,⟨5,56,.struct,z46,[(0,3),(1,3),(2,3),(3,25),(4,29)]⟩),
 (47,⟨5,56,.struct,z47,[(0,3),(1,3),(2,3),(3,25),(4,29)]⟩),
 (48,⟨4,40,.struct,z48,[(0,3),(1,25),(2,4),(3,4)]⟩),
 (49,⟨4,40,.struct,z49,[(0,3),(1,25),(2,4),(3,4)]⟩),
 (50,⟨1,24,.slice 70,z50,[]⟩),
 (51,⟨8,80,.struct,z51,[(0,3),(1,3),(2,3),(3,3),(4,31),(5,3),(6,3),(7,3)]⟩),
 (52,⟨8,80,.struct,z52,[(0,3),(1,3),(2,3),(3,3),(4,31),(5,3),(6,3),(7,3)]⟩),
 (53,⟨14,152,.struct,z53,[(0,4),(1,49),(5,50),(6,52)]⟩),
 (54,⟨14,152,.struct,z54,[(0,4),(1,49),(5,50),(6,52)]⟩),
 (55,⟨1,24,.slice 54,z55,[]⟩),
 (56,⟨3,40,.struct,z56,[(0,3),(1,3),(2,55)]⟩),
 (57,⟨3,40,.struct,z57,[(0,3),(1,3),(2,55)]⟩),
 (58,⟨1,8,.other,z58,[]⟩),
 (59,⟨1,8,.other,z59,[]⟩),
 (60,⟨1,8,.other,z60,[]⟩),
 (61,⟨1,8,.other,z61,[]⟩),
 (62,⟨1,24,.slice 4,z62,[]⟩),
 (63,⟨1,8,.other,z63,[]⟩),
 (64,⟨1,8,.other,z64,[]⟩),
 (65,⟨1,8,.other,z65,[]⟩),
 (66,⟨1,8,.other,z66,[]⟩),
 (67,⟨1,8,.other,z67,[]⟩),
 (68,⟨1,8,.other,z68,[]⟩),
 (69,⟨7,72,.struct,z69,[(0,3),(1,3),(2,3),(3,3),(4,29),(5,3),(6,31)]⟩),
 (70,⟨7,72,.struct,z70,[(0,3),(1,3),(2,3),(3,3),(4,29),(5,3),(6,31)]⟩),
 (71,⟨1,8,.other,z71,[]⟩),
 (72,⟨22,144,.struct,z72,[(0,33),(21,24)]⟩),
 (73,⟨22,144,.struct,z73,[(0,33),(21,24)]⟩),
 (74,⟨1,8,.other,z74,[]⟩),
 (75,⟨1,8,.other,z75,[]⟩),
 (76,⟨1,8,.other,z76,[]⟩),
 (77,⟨1,8,.other,z77,[]⟩),
 (78,⟨1,8,.other,z78,[]⟩),
 (79,⟨1,8,.other,z79,[]⟩),
 (80,⟨1,8,.other,z80,[]⟩),
 (81,⟨1,8,.other,z81,[]⟩),
 (82,⟨1,8,.other,z82,[]⟩),
 (83,⟨1,8,.other,z83,[]⟩),
 (84,⟨1,8,.other,z84,[]⟩),
 (85,⟨1,24,.slice 120,z85,[]⟩),
 (86,⟨6,112,.struct,z86,[(0,57),(3,62),(4,85),(5,31)]⟩),
 (87,⟨6,112,.struct,z87,[(0,57),(3,62),(4,85),(5,31)]⟩),
 (88,⟨1,8,.other,z88,[]⟩),
 (89,⟨1,8,.other,z89,[]⟩),
 (91,⟨1,8,.other,z91,[]⟩),
 (92,⟨1,8,.other,z92,[]⟩),
 (93,⟨1,8,.ptr,z93,[]⟩),
 (94,⟨1,8,.ptr,z94,[]⟩),
 (95,⟨1,8,.other,z95,[]⟩),
 (96,⟨1,8,.other,z96,[]⟩),
 (97,⟨1,8,.other,z97,[]⟩),
 (98,⟨1,8,.other,z98,[]⟩),
 (99,⟨1,8,.other,z99,[]⟩),
 (100,⟨1,8,.other,z100,[]⟩),
 (101,⟨1,8,.other,z101,[]⟩),
 (103,⟨1,8,.other,z103,[]⟩),
 (105,⟨1,8,.other,z105,[]⟩),
 (106,⟨1,8,.other,z106,[]⟩),
 (107,⟨1,8,.other,z107,[]⟩),
 (108,⟨1,8,.other,z108,[]⟩),
 (109,⟨1,8,.other,z109,[]⟩),
 (110,⟨1,8,.other,z110,[]⟩),
 (111,⟨1,8,.other,z111,[]⟩),
 (112,⟨1,8,.other,z112,[]⟩),
 (113,⟨1,8,.int .i64,z113,[]⟩),
 (114,⟨1,8,.other,z114,[]⟩),
 (115,⟨1,8,.other,z115,[]⟩),
 (116,⟨1,8,.other,z116,[]⟩),
 (117,⟨1,8,.other,z117,[]⟩),
 (118,⟨1,8,.ptr,z118,[]⟩),
 (119,⟨2,32,.struct,z119,[(0,3),(1,31)]⟩),
 (120,⟨2,32,.struct,z120,[(0,3),(1,31)]⟩),
 (121,⟨1,8,.ptr,z121,[]⟩),
 (122,⟨1,8,.other,z122,[]⟩),
 (123,⟨1,8,.other,z123,[]⟩),
 (124,⟨1,8,.other,z124,[]⟩),
 (125,⟨1,8,.other,z125,[]⟩),
 (126,⟨1,8,.other,z126,[]⟩),
 (128,⟨1,8,.other,z128,[]⟩),
 (129,⟨1,8,.other,z129,[]⟩),
 (130,⟨1,8,.other,z130,[]⟩),
 (131,⟨1,8,.other,z131,[]⟩),
 (132,⟨1,8,.other,z132,[]⟩),
 (133,⟨4,64,.struct,z133,[(0,22),(1,57)]⟩),
 (134,⟨4,64,.struct,z134,[(0,22),(1,57)]⟩),
 (135,⟨1,8,.other,z135,[]⟩),
 (136,⟨1,8,.ptr,z136,[]⟩),
 (137,⟨1,8,.other,z137,[]⟩),
 (138,⟨1,8,.other,z138,[]⟩),
 (139,⟨1,8,.other,z139,[]⟩),
 (140,⟨1,8,.other,z140,[]⟩),
 (142,⟨1,8,.other,z142,[]⟩),
 (143,⟨1,8,.other,z143,[]⟩),
 (144,⟨1,8,.other,z144,[]⟩),
 (145,⟨1,8,.other,z145,[]⟩),
 (147,⟨1,8,.other,z147,[]⟩),
 (148,⟨1,8,.other,z148,[]⟩),
 (149,⟨1,8,.other,z149,[]⟩),
 (150,⟨1,8,.other,z150,[]⟩),
 (151,⟨1,8,.other,z151,[]⟩),
 (152,⟨1,8,.other,z152,[]⟩),
 (153,⟨1,8,.int .u64,z153,[]⟩),
 (154,⟨1,8,.other,z154,[]⟩),
 (155,⟨1,8,.other,z155,[]⟩),
 (156,⟨1,8,.other,z156,[]⟩),
 (157,⟨1,8,.other,z157,[]⟩),
 (158,⟨1,8,.other,z158,[]⟩),
 (159,⟨1,8,.other,z159,[]⟩),
 (160,⟨1,8,.other,z160,[]⟩),
 (161,⟨1,8,.other,z161,[]⟩),
 (162,⟨4,40,.struct,z162,[(0,17),(1,17),(2,17),(3,9)]⟩),
 (163,⟨4,40,.struct,z163,[(0,17),(1,17),(2,17),(3,9)]⟩),
 (164,⟨0,0,.arr 0 16,z164,[]⟩),
 (165,⟨0,0,.struct,z165,[(0,164)]⟩),
 (166,⟨0,0,.struct,z166,[(0,164)]⟩),
 (167,⟨1,8,.other,z167,[]⟩),
 (168,⟨1,4,.int .u32,z168,[]⟩),
 (169,⟨1,1,.int .u8,z169,[]⟩),
 (170,⟨1,1,.int .u8,z170,[]⟩),
 (171,⟨1,8,.other,z171,[]⟩),
 (172,⟨1,8,.ptr,z172,[]⟩),
 (173,⟨1,4,.int .i32,z173,[]⟩),
 (174,⟨1,4,.int .i32,z174,[]⟩),
 (175,⟨11,48,.struct,z175,[(0,12),(1,12),(2,168),(3,169),(4,5),(5,5),(6,170),(7,171),(8,172),(9,173),(10,174)]⟩),
 (176,⟨11,48,.struct,z176,[(0,12),(1,12),(2,168),(3,169),(4,5),(5,5),(6,170),(7,171),(8,172),(9,173),(10,174)]⟩)]
def pure (f:FuncId):Bool:=memB f [63,93,26,24,31,85,54,99,101,73,55,44,35,13,19,46]
def lookL:List (Nat × List Nat)→Nat→List Nat
 | [],_=>[]
 | (k,d) :: r,t=>bif k.beq t then d else lookL r t
def rts:FuncId→List TypeId:=lookL [(9,[4]),(12,[4]),(13,[33,34]),(15,[4]),(21,[4]),(22,[4]),(23,[4]),(24,[31]),(26,[31]),(29,[62]),(31,[31]),(34,[4]),(35,[33,34]),(36,[]),(38,[4]),(41,[4]),(45,[4]),(46,[31]),(47,[31]),(48,[4]),(49,[4]),(51,[]),(52,[]),(53,[]),(54,[47,34]),(55,[25]),(56,[94]),(57,[54]),(58,[]),(59,[]),(70,[4]),(71,[4]),(74,[113]),(75,[4]),(76,[3]),(77,[3]),(78,[]),(79,[]),(80,[]),(81,[]),(82,[]),(83,[]),(84,[]),(85,[47]),(86,[]),(96,[4]),(97,[136]),(98,[]),(99,[47,4]),(100,[]),(101,[47]),(102,[4]),(103,[49,4]),(104,[4]),(105,[]),(109,[4]),(110,[4]),(111,[4]),(112,[29,4]),(113,[4]),(114,[4]),(115,[4]),(116,[113]),(117,[4]),(118,[4]),(119,[4]),(120,[29,4]),(121,[3]),(122,[4]),(123,[29,4]),(124,[29])]
def f9_ann:Nat→Option Ann:=lookA [(9,⟨[3,7,9],[],[],[],[]⟩)]
def f13_ann:Nat→Option Ann:=lookA [(5,⟨[2,6,10],[],[(10,21)],[6],[]⟩)]
def f13_jn:Nat→Option Ann:=lookA [(8,⟨[6,10],[],[],[6],[]⟩)]
def f15_ann:Nat→Option Ann:=lookA [(4,⟨[2,3,5],[],[],[],[]⟩)]
def f21_ann:Nat→Option Ann:=lookA [(4,⟨[2,3,5],[],[],[],[]⟩)]
def f23_ann:Nat→Option Ann:=lookA [(4,⟨[0,1,5],[],[],[],[]⟩)]
def f24_jn:Nat→Option Ann:=lookA [(7,⟨[2,6],[6],[],[],[]⟩)]
def f26_ann:Nat→Option Ann:=lookA [(3,⟨[1,2,5,9,10],[5],[],[],[]⟩)]
def f29_ann:Nat→Option Ann:=lookA [(3,⟨[3,11,12,13],[3,11],[],[],[]⟩)]
def f31_ann:Nat→Option Ann:=lookA [(5,⟨[3],[],[(3,5),(3,4)],[],[(3,1004)]⟩)]
def f34_ann:Nat→Option Ann:=lookA [(5,⟨[1,3,4],[],[],[],[]⟩),(10,⟨[1,3,4,5],[],[],[],[]⟩),(17,⟨[1,3,4,5,6,7],[],[],[],[]⟩)]
def f36_jn:Nat→Option Ann:=lookA [(1,⟨[0,2],[],[],[],[(0,21)]⟩)]
def f38_ann:Nat→Option Ann:=lookA [(4,⟨[0,1,5],[],[],[],[]⟩)]
def f41_ann:Nat→Option Ann:=lookA [(4,⟨[1,24,25,26],[],[],[],[]⟩)]
def f46_jn:Nat→Option Ann:=lookA [(6,⟨[1,4,18],[4],[],[],[]⟩)]
def f47_ann:Nat→Option Ann:=lookA [(5,⟨[0,1,5,6],[],[],[],[]⟩)]
def f47_jn:Nat→Option Ann:=lookA [(11,⟨[0,5],[],[],[],[]⟩)]
def f53_ann:Nat→Option Ann:=lookA [(1,⟨[0,2,3],[],[],[],[]⟩)]
def f59_jn:Nat→Option Ann:=lookA [(9,⟨[1,5],[],[],[],[]⟩)]
def f70_ann:Nat→Option Ann:=lookA [(7,⟨[5,50,51,52],[],[],[],[]⟩)]
def f76_ann:Nat→Option Ann:=lookA [(2,⟨[0,1,7,8],[],[],[],[]⟩)]
def f77_ann:Nat→Option Ann:=lookA [(2,⟨[0,1,7,8],[],[],[],[]⟩)]
def f81_ann:Nat→Option Ann:=lookA [(4,⟨[0,1,2,8,30,31,32],[8],[],[],[]⟩)]
def f81_jn:Nat→Option Ann:=lookA [(8,⟨[0,2,8],[8],[],[],[]⟩)]
def f86_ann:Nat→Option Ann:=lookA [(3,⟨[0,1],[],[],[],[]⟩)]
def f86_jn:Nat→Option Ann:=lookA [(6,⟨[0,1,4,5,35],[],[],[],[]⟩)]
def f96_ann:Nat→Option Ann:=lookA [(4,⟨[2,3,21,22,23],[],[],[],[]⟩)]
def f96_jn:Nat→Option Ann:=lookA [(9,⟨[2,3],[],[],[],[]⟩)]
def f102_ann:Nat→Option Ann:=lookA [(2,⟨[0,1,13,14,15],[],[],[],[]⟩)]
def f115_ann:Nat→Option Ann:=lookA [(2,⟨[0,5,6,7],[],[],[],[]⟩)]
def f117_ann:Nat→Option Ann:=lookA [(6,⟨[4,40,41,42],[],[],[],[]⟩)]
def f121_ann:Nat→Option Ann:=lookA [(2,⟨[0,1,7,8],[],[],[],[]⟩)]
noncomputable def fns:FuncId→Option Func:=fun f=>bif f.beq 9 then some Try.f9 else bif f.beq 12 then some Try.f12 else bif f.beq 13 then some Try.f13 else bif f.beq 15 then some Try.f15 else bif f.beq 21 then some Try.f21 else bif f.beq 22 then some Try.f22 else bif f.beq 23 then some Try.f23 else bif f.beq 24 then some Try.f24 else bif f.beq 26 then some Try.f26 else bif f.beq 29 then some Try.f29 else bif f.beq 31 then some Try.f31 else bif f.beq 34 then some Try.f34 else bif f.beq 35 then some Try.f35 else bif f.beq 36 then some Try.f36 else bif f.beq 38 then some Try.f38 else bif f.beq 41 then some Try.f41 else bif f.beq 45 then some Try.f45 else bif f.beq 46 then some Try.f46 else bif f.beq 47 then some Try.f47 else bif f.beq 48 then some Try.f48 else bif f.beq 49 then some Try.f49 else bif f.beq 51 then some Try.f51 else bif f.beq 52 then some Try.f52 else bif f.beq 53 then some Try.f53 else bif f.beq 54 then some Try.f54 else bif f.beq 55 then some Try.f55 else bif f.beq 56 then some Try.f56 else bif f.beq 57 then some Try.f57 else bif f.beq 58 then some Try.f58 else bif f.beq 59 then some Try.f59 else bif f.beq 70 then some Try.f70 else bif f.beq 71 then some Try.f71 else bif f.beq 74 then some Try.f74 else bif f.beq 75 then some Try.f75 else bif f.beq 76 then some Try.f76 else bif f.beq 77 then some Try.f77 else bif f.beq 78 then some Try.f78 else bif f.beq 79 then some Try.f79 else bif f.beq 80 then some Try.f80 else bif f.beq 81 then some Try.f81 else bif f.beq 82 then some Try.f82 else bif f.beq 83 then some Try.f83 else bif f.beq 84 then some Try.f84 else bif f.beq 85 then some Try.f85 else bif f.beq 86 then some Try.f86 else bif f.beq 96 then some Try.f96 else bif f.beq 97 then some Try.f97 else bif f.beq 98 then some Try.f98 else bif f.beq 99 then some Try.f99 else bif f.beq 100 then some Try.f100 else bif f.beq 101 then some Try.f101 else bif f.beq 102 then some Try.f102 else bif f.beq 103 then some Try.f103 else bif f.beq 104 then some Try.f104 else bif f.beq 105 then some Try.f105 else bif f.beq 109 then some Try.f109 else bif f.beq 110 then some Try.f110 else bif f.beq 111 then some Try.f111 else bif f.beq 112 then some Try.f112 else bif f.beq 113 then some Try.f113 else bif f.beq 114 then some Try.f114 else bif f.beq 115 then some Try.f115 else bif f.beq 116 then some Try.f116 else bif f.beq 117 then some Try.f117 else bif f.beq 118 then some Try.f118 else bif f.beq 119 then some Try.f119 else bif f.beq 120 then some Try.f120 else bif f.beq 121 then some Try.f121 else bif f.beq 122 then some Try.f122 else bif f.beq 123 then some Try.f123 else bif f.beq 124 then some Try.f124 else none
def anns:FuncId→Nat→Option Ann:=fun f=>bif f.beq 9 then f9_ann else bif f.beq 13 then f13_ann else bif f.beq 15 then f15_ann else bif f.beq 21 then f21_ann else bif f.beq 23 then f23_ann else bif f.beq 26 then f26_ann else bif f.beq 29 then f29_ann else bif f.beq 31 then f31_ann else bif f.beq 34 then f34_ann else bif f.beq 38 then f38_ann else bif f.beq 41 then f41_ann else bif f.beq 47 then f47_ann else bif f.beq 53 then f53_ann else bif f.beq 70 then f70_ann else bif f.beq 76 then f76_ann else bif f.beq 77 then f77_ann else bif f.beq 81 then f81_ann else bif f.beq 86 then f86_ann else bif f.beq 96 then f96_ann else bif f.beq 102 then f102_ann else bif f.beq 115 then f115_ann else bif f.beq 117 then f117_ann else bif f.beq 121 then f121_ann else fun _=>none
def jns:FuncId→Nat→Option Ann:=fun f=>bif f.beq 13 then f13_jn else bif f.beq 24 then f24_jn else bif f.beq 36 then f36_jn else bif f.beq 46 then f46_jn else bif f.beq 47 then f47_jn else bif f.beq 59 then f59_jn else bif f.beq 81 then f81_jn else bif f.beq 86 then f86_jn else bif f.beq 96 then f96_jn else fun _=>none
def lent:FuncId→Option LentD:=lookD [(36,⟨73,[.sl,.sc,.sc,.sc,.sc,.sc,.sc,.sc,.sc,.sc,.sc,.sc,.sc,.sc,.sc,.sc,.sc,.sl,.sl,.sc,.sc,.sl]⟩)]
def selfT (t:TypeId):Bool:=memB t []
def ext:FuncId→Option (List TV→Option TV):=fun f=>none
def opn (f:FuncId):Bool:=memB f [47,48,51,52,53,56,58,59,76,78,79,80,81,82,83,84,86,97,98,100,102,103,105]
def lookK:List (Nat × List Nat)→Nat→Option (List Nat)
 | [],_=>none
 | (k,d) :: r,t=>bif k.beq t then some d else lookK r t
def f24_kp:Nat→Option (List Nat):=lookK [(7002,[])]
def f31_kp:Nat→Option (List Nat):=lookK [(4000,[3]),(6000,[3]),(7002,[3])]
def f36_kp:Nat→Option (List Nat):=lookK [(1,[0]),(3010,[]),(4004,[])]
def f47_kp:Nat→Option (List Nat):=lookK [(1002,[0,1]),(8002,[0,1,5,6,7])]
def f52_kp:Nat→Option (List Nat):=lookK [(2001,[]),(6002,[])]
def f58_kp:Nat→Option (List Nat):=lookK [(2003,[]),(4003,[]),(6003,[]),(8006,[]),(13003,[])]
def f59_kp:Nat→Option (List Nat):=lookK [(3009,[]),(11006,[]),(13009,[]),(15005,[])]
def f76_kp:Nat→Option (List Nat):=lookK [(4005,[0,1,5,7,8])]
def f79_kp:Nat→Option (List Nat):=lookK [(1009,[1,5])]
def f80_kp:Nat→Option (List Nat):=lookK [(1009,[1,5])]
def f81_kp:Nat→Option (List Nat):=lookK [(1001,[])]
def f82_kp:Nat→Option (List Nat):=lookK [(2001,[])]
def f83_kp:Nat→Option (List Nat):=lookK [(3001,[])]
def f84_kp:Nat→Option (List Nat):=lookK [(1,[0,1]),(2002,[]),(3001,[0,1])]
def f86_kp:Nat→Option (List Nat):=lookK [(1,[0,1]),(1002,[0,1]),(2002,[]),(3001,[0,1]),(4004,[0,1,4]),(6004,[]),(7001,[0,1])]
def f97_kp:Nat→Option (List Nat):=lookK [(2001,[])]
def f102_kp:Nat→Option (List Nat):=lookK [(4002,[0,1,13,14,15])]
def kps:FuncId→Nat→Option (List Nat):=fun f=>bif f.beq 24 then f24_kp else bif f.beq 31 then f31_kp else bif f.beq 36 then f36_kp else bif f.beq 47 then f47_kp else bif f.beq 52 then f52_kp else bif f.beq 58 then f58_kp else bif f.beq 59 then f59_kp else bif f.beq 76 then f76_kp else bif f.beq 79 then f79_kp else bif f.beq 80 then f80_kp else bif f.beq 81 then f81_kp else bif f.beq 82 then f82_kp else bif f.beq 83 then f83_kp else bif f.beq 84 then f84_kp else bif f.beq 86 then f86_kp else bif f.beq 97 then f97_kp else bif f.beq 102 then f102_kp else fun _=>none
def peek:FuncId→Option (Nat × Nat):=fun f=>bif f.beq 57 then some (21,22) else none
noncomputable def prog:AProg:=⟨tab,pure,rts,fns,anns,jns,lent,selfT,ext,opn,kps,peek⟩
end Go.Ab.U7
end

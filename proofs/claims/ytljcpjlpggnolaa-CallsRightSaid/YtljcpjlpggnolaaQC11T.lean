import Derived.Test.YtljcpjlpggnolaaQM0
import Derived.IntWalk
import Derived.Lib.ItoaNum
import Derived.Test.YtljcpjlpggnolaaProg
set_option linter.all false
section
namespace Go.Ab
def bF:List Value:=[.int .i64 0]
def cF:List Value:=[.bool false]
def zSl:List Value:=[.slice none 0 0]
end Go.Ab
end
section
namespace Go.Ab
section
variable {R:Type} {C C':FuncId→List TV→Option TV} {J J':List Nat→ASt→Option R}
theorem Prg.dn (hC:∀ f xs v,C f xs=some v→C' f xs=some v) (hJ:∀ p st r,J p st=some r→J' p st=some r):∀ {p:Prg R} {r:R},p.run C J=some r→p.run C' J'=some r
 | .fail,r,h=>by simp [Prg.run] at h
 | .ret x,r,h=>h
 | .tv p k,r,h=>by
  cases p with
  | none=>simp [Prg.run] at h
  | some v=>exact Prg.dn hC hJ (p:=k v) h
 | .tvs p k,r,h=>by
  cases p with
  | none=>simp [Prg.run] at h
  | some v=>exact Prg.dn hC hJ (p:=k v) h
 | .rws p k,r,h=>by
  cases p with
  | none=>simp [Prg.run] at h
  | some v=>exact Prg.dn hC hJ (p:=k v) h
 | .nat p k,r,h=>by
  cases p with
  | none=>simp [Prg.run] at h
  | some v=>exact Prg.dn hC hJ (p:=k v) h
 | .chk b k,r,h=>by
  cases b with
  | false=>simp [Prg.run] at h
  | true=>exact Prg.dn hC hJ (p:=k) h
 | .ite b t e, r, h => by
  cases b with
  | none=>simp [Prg.run] at h
  | some b =>
   cases b with
   | true=>exact Prg.dn hC hJ (p:=t) h
   | false=>exact Prg.dn hC hJ (p:=e) h
 | .call f xs k, r, h => by
  simp only [Prg.run] at h ⊢
  cases hc:C f xs with
  | none=>rw [hc] at h; simp at h
  | some v =>
   rw [hc] at h
   rw [hC _ _ _ hc]
   exact Prg.dn hC hJ (p:=k v) h
 | .jmp p st,r,h=>hJ _ _ _ h
end
section
variable {A:AProg} {f g:FuncId}
theorem ky {C C':FuncId→List TV→Option TV} (hC:∀ f xs v,C f xs=some v→C' f xs=some v):∀ {m m':Nat},m≤m'→∀ {p:List Nat} {st:ASt} {r:TV},jp A C f m p st=some r→jp A C' f m' p st=some r
 | 0,_,_,_,_,_,h=>by simp [jp] at h
 | m + 1,0,hle,_,_,_,_=>by omega
 | m + 1,m' + 1,hle,p,st,r,h=>by
  simp only [jp] at h ⊢
  exact Prg.dn hC (fun p st r h=>ky hC (by omega) h) h
theorem gR:∀ {n n':Nat},n≤n'→∀ {f:FuncId} {args:List TV} {r:TV},acall A n f args=some r→acall A n' f args=some r
 | 0,_,_,_,_,_,h=>by simp [acall] at h
 | n + 1,0,hle,_,_,_,_=>by omega
 | n + 1, n' + 1, hle, f, args, r, h => by
  simp only [acall] at h ⊢
  have hC:∀ f xs v,acall A n f xs=some v→acall A n' f xs=some v:=fun f xs v h=>gR (by omega) h
  split at h
  ·rename_i g hg
   exact h
  ·exact Prg.dn hC (fun p st r h=>ky hC (by omega) h) h
def bu (A:AProg) (f:FuncId) (args:List TV) (r:TV):Prop:=∃ n,acall A n f args=some r
def aa (A:AProg) (f:FuncId) (p:Prg TV) (r:TV):Prop:=∃ n,p.run (acall A n) (jp A (acall A n) f n)=some r
variable {r:TV}
theorem aa.up {p:Prg TV} {n n':Nat} (h:p.run (acall A n) (jp A (acall A n) f n)=some r) (hle:n≤n'):p.run (acall A n') (jp A (acall A n') f n')=some r :=
 Prg.dn (fun _ _ _ h=>gR hle h) (fun _ _ _ h=>ky (fun _ _ _ h=>gR hle h) hle h) h
theorem aa.ret:aa A f (.ret r) r:=⟨0,rfl⟩
theorem pB {x:TV}:aa A f (.ret x) r ↔ x=r:=⟨fun ⟨n,h⟩=>by simpa [Prg.run] using h,fun h=>h ▸ aa.ret⟩
theorem Fg {p:Option TV} {k:TV→Prg TV}:aa A f (.tv p k) r ↔ ∃ v,p=some v∧aa A f (k v) r:=by
 constructor
 ·rintro ⟨n,h⟩
  cases p with
  | none=>simp [Prg.run] at h
  | some v=>exact ⟨v,rfl,n,h⟩
 ·rintro ⟨v,rfl,n,h⟩; exact ⟨n,h⟩
theorem Du {p:Option (List TV)} {k:List TV→Prg TV}:aa A f (.tvs p k) r ↔ ∃ v,p=some v∧aa A f (k v) r:=by
 constructor
 ·rintro ⟨n,h⟩
  cases p with
  | none=>simp [Prg.run] at h
  | some v=>exact ⟨v,rfl,n,h⟩
 ·rintro ⟨v,rfl,n,h⟩; exact ⟨n,h⟩
theorem EJ {p:Option (List (List TV))} {k:List (List TV)→Prg TV}:aa A f (.rws p k) r ↔ ∃ v,p=some v∧aa A f (k v) r:=by
 constructor
 ·rintro ⟨n,h⟩
  cases p with
  | none=>simp [Prg.run] at h
  | some v=>exact ⟨v,rfl,n,h⟩
 ·rintro ⟨v,rfl,n,h⟩; exact ⟨n,h⟩
theorem DH {p:Option Nat} {k:Nat→Prg TV}:aa A f (.nat p k) r ↔ ∃ v,p=some v∧aa A f (k v) r:=by
 constructor
 ·rintro ⟨n,h⟩
  cases p with
  | none=>simp [Prg.run] at h
  | some v=>exact ⟨v,rfl,n,h⟩
 ·rintro ⟨v,rfl,n,h⟩; exact ⟨n,h⟩
theorem EK {b:Bool} {k:Prg TV}:aa A f (.chk b k) r ↔ b=true∧aa A f k r:=by
 constructor
 ·rintro ⟨n,h⟩
  cases b with
  | false=>simp [Prg.run] at h
  | true=>exact ⟨rfl,n,h⟩
 ·rintro ⟨rfl,n,h⟩; exact ⟨n,h⟩
theorem Er {b:Option Bool} {t e:Prg TV}:aa A f (.ite b t e) r ↔ ∃ v,b=some v∧aa A f (bif v then t else e) r:=by
 constructor
 ·rintro ⟨n,h⟩
  cases b with
  | none=>simp [Prg.run] at h
  | some v=>refine ⟨v,rfl,n,?_⟩; cases v <;> exact h
 ·rintro ⟨v,rfl,n,h⟩; refine ⟨n,?_⟩; cases v <;> exact h
theorem BX {xs:List TV} {k:TV→Prg TV}:aa A f (.call g xs k) r ↔ ∃ v,bu A g xs v∧aa A f (k v) r:=by
 constructor
 ·rintro ⟨n,h⟩
  simp only [Prg.run] at h
  cases hc:acall A n g xs with
  | none=>rw [hc] at h; simp at h
  | some v=>rw [hc] at h; exact ⟨v,⟨n,hc⟩,n,h⟩
 ·rintro ⟨v,⟨n,hc⟩,m,h⟩
  refine ⟨max n m,?_⟩
  simp only [Prg.run]
  rw [gR (Nat.le_max_left n m) hc]
  exact aa.up h (Nat.le_max_right n m)
theorem C6 {p:List Nat} {st:ASt}:aa A f (.jmp p st) r ↔ aa A f (fL A f p st) r:=by
 constructor
 ·rintro ⟨n,h⟩
  cases n with
  | zero=>simp [Prg.run,jp] at h
  | succ n =>
   refine ⟨n + 1,?_⟩
   simp only [Prg.run,jp] at h
   exact Prg.dn (fun _ _ _ h=>h) (fun _ _ _ h=>ky (fun _ _ _ h=>h) (Nat.le_succ n) h) h
 ·rintro ⟨n,h⟩
  refine ⟨n + 1,?_⟩
  simp only [Prg.run,jp]
  exact Prg.dn (fun _ _ _ h=>gR (Nat.le_succ n) h) (fun _ _ _ h=>ky (fun _ _ _ h=>gR (Nat.le_succ n) h) (Nat.le_refl n) h) h
theorem Db {args:List TV} (hx:A.ext f=none):bu A f args r ↔ aa A f (cb A f args) r:=by
 constructor
 ·rintro ⟨n,h⟩
  cases n with
  | zero=>simp [acall] at h
  | succ n=>simp only [acall,hx] at h; exact ⟨n,h⟩
 ·rintro ⟨n,h⟩; exact ⟨n + 1,by simp only [acall,hx]; exact h⟩
theorem aa.tv {p:Option TV} {k:TV→Prg TV} {v:TV} (h:p=some v) (hk:aa A f (k v) r):aa A f (.tv p k) r:=Fg.2 ⟨v,h,hk⟩
theorem aa.tvs {p:Option (List TV)} {k:List TV→Prg TV} {v:List TV} (h:p=some v) (hk:aa A f (k v) r):aa A f (.tvs p k) r:=Du.2 ⟨v,h,hk⟩
theorem aa.rws {p:Option (List (List TV))} {k:List (List TV)→Prg TV} {v:List (List TV)} (h:p=some v) (hk:aa A f (k v) r):aa A f (.rws p k) r:=EJ.2 ⟨v,h,hk⟩
theorem aa.nat {p:Option Nat} {k:Nat→Prg TV} {v:Nat} (h:p=some v) (hk:aa A f (k v) r):aa A f (.nat p k) r:=DH.2 ⟨v,h,hk⟩
theorem aa.chk {b:Bool} {k:Prg TV} (h:b=true) (hk:aa A f k r):aa A f (.chk b k) r:=EK.2 ⟨h,hk⟩
theorem aa.ite {b:Option Bool} {t e:Prg TV} {v:Bool} (h:b=some v) (ht:v=true→aa A f t r) (he:v=false→aa A f e r):aa A f (.ite b t e) r:=by
 refine Er.2 ⟨v,h,?_⟩
 cases v with
 | true=>exact ht rfl
 | false=>exact he rfl
theorem aa.call {xs:List TV} {k:TV→Prg TV} {v:TV} (h:bu A g xs v) (hk:aa A f (k v) r):aa A f (.call g xs k) r:=BX.2 ⟨v,h,hk⟩
theorem aa.jmp {p:List Nat} {st:ASt} {q:Prg TV} (h:fL A f p st=q) (hk:aa A f q r):aa A f (.jmp p st) r:=C6.2 (h ▸ hk)
theorem bu.of {args:List TV} {q:Prg TV} (h:cb A f args=q) (hk:aa A f q r) (hx:A.ext f=none:=by rfl):bu A f args r:=(Db hx).2 (h ▸ hk)
end
end Go.Ab
end
section
namespace Go.Ab
inductive F2 {α β:Type} (R:α→β→Prop):List α→List β→Prop
 | nil:F2 R [] []
 | cons {a b l m}:R a b→F2 R l m→F2 R (a :: l) (b :: m)
section
variable {α β γ:Type} {R S:α→β→Prop}
theorem F2.length {xs:List α} {l:List β} (h:F2 R xs l):xs.length=l.length:=by
 induction h with
 | nil=>rfl
 | cons _ _ ih=>simp [ih]
theorem F2.get {xs:List α} {l:List β} (h:F2 R xs l):∀ {i:Nat} {a:β},l[i]? = some a→∃ e,xs[i]? = some e∧R e a:=by
 induction h with
 | nil=>intro i a h; simp at h
 | cons hr _ ih =>
  intro i a h
  cases i with
  | zero=>simp at h; subst h; exact ⟨_,rfl,hr⟩
  | succ i=>simp at h; simpa using ih h
theorem F2.getL {xs:List α} {l:List β} (h:F2 R xs l):∀ {i:Nat} {e:α},xs[i]? = some e→∃ a,l[i]? = some a∧R e a:=by
 induction h with
 | nil=>intro i a h; simp at h
 | cons hr _ ih =>
  intro i a h
  cases i with
  | zero=>simp at h; subst h; exact ⟨_,rfl,hr⟩
  | succ i=>simp at h; simpa using ih h
theorem F2.append {xs ys:List α} {l m:List β} (h:F2 R xs l) (h':F2 R ys m):F2 R (xs ++ ys) (l ++ m):=by
 induction h with
 | nil=>exact h'
 | cons hr _ ih=>exact .cons hr ih
theorem F2.take {xs:List α} {l:List β} (h:F2 R xs l):∀ n,F2 R (xs.take n) (l.take n):=by
 induction h with
 | nil=>intro n; simp; exact .nil
 | cons hr _ ih=>intro n; cases n with
  | zero=>exact .nil
  | succ n=>exact .cons hr (ih n)
theorem F2.drop {xs:List α} {l:List β} (h:F2 R xs l):∀ n,F2 R (xs.drop n) (l.drop n):=by
 induction h with
 | nil=>intro n; simp; exact .nil
 | cons hr h ih=>intro n; cases n with
  | zero=>exact .cons hr h
  | succ n=>exact ih n
theorem F2.set {xs:List α} {l:List β} (h:F2 R xs l):∀ {i:Nat} {e:α} {a:β},R e a→F2 R (ao xs i e) (l.set i a):=by
 induction h with
 | nil=>intro i e a _; exact .nil
 | cons hr h ih=>intro i e a hea; cases i with
  | zero=>exact .cons hea h
  | succ i=>exact .cons hr (ih hea)
theorem F2.mapL {f:γ→α} {Q:γ→β→Prop} {xs:List γ} {l:List β} (h:F2 Q xs l) (hf:∀ x a,Q x a→R (f x) a):F2 R (xs.map f) l:=by
 induction h with
 | nil=>exact .nil
 | cons hr _ ih=>exact .cons (hf _ _ hr) ih
end
abbrev I (n:Int):TV:=.lit (.int .i64 n)
abbrev W (n:Int):TV:=.lit (.int .u16 n)
abbrev B (b:Bool):TV:=.lit (.bool b)
def inI (n:Int):Prop:=-9223372036854775808≤n∧n≤9223372036854775807
def inW (n:Int):Prop:=0≤n∧n≤65535
def RL {α:Type} (q:Option Bool) (s:Nat) (R:List TV→α→Prop) (x:TV) (l:List α):Prop :=
 (x=.lit aK∧l=[])∨∃ o xs,x=.sl o s xs∧(∀ b,q=some b→o=b)∧F2 R xs l∧xs.length≤9223372036854775807
theorem kB:∀ ys:List (List TV),sY ys=ys.map uF
 | []=>rfl
 | y :: ys=>by simp [sY,kB ys]
section
variable {α:Type} {q:Option Bool} {s:Nat} {R S:List TV→α→Prop} {x:TV} {l:List α}
theorem RL.nil:RL q s R (.lit aK) []:=.inl ⟨rfl,rfl⟩
theorem RL.sl {o:Bool} {xs:List (List TV)} (hq:∀ b,q=some b→o=b) (h:F2 R xs l) (hb:xs.length≤9223372036854775807):RL q s R (.sl o s xs) l:=.inr ⟨o,xs,rfl,hq,h,hb⟩
theorem RL.bnd (h:RL q s R x l):l.length≤9223372036854775807:=by
 rcases h with ⟨rfl,rfl⟩ | ⟨o,xs,rfl,hq,h,hb⟩
 ·simp
 ·rw [← h.length]; exact hb
theorem RL.len {t:TypeId} (h:RL q s R x l):plen (.slice t) x=some (I l.length):=by
 rcases h with ⟨rfl,rfl⟩ | ⟨o,xs,rfl,hq,h,hb⟩
 ·rfl
 ·simp [plen,h.length]
theorem RL.slLen (h:RL q s R x l):Go.Ab.slLen x=some l.length:=by
 rcases h with ⟨rfl,rfl⟩ | ⟨o,xs,rfl,hq,h,hb⟩
 ·rfl
 ·simp [Go.Ab.slLen,h.length]
theorem RL.slSize (h:RL q s R x l):Go.Ab.slSize x s=true:=by
 rcases h with ⟨rfl,rfl⟩ | ⟨o,xs,rfl,hq,h,hb⟩
 ·rfl
 ·simp [Go.Ab.slSize]
theorem RL.isSl (h:RL q s R x l):x.isSl=true:=by
 rcases h with ⟨rfl,rfl⟩ | ⟨o,xs,rfl,hq,h,hb⟩ <;> rfl
theorem RL.idx (h:RL q s R x l) {k:IntKind} {i:Nat} {a:α} (hi:l[i]? = some a):∃ e,pidx s x (.lit (.int k i))=some e∧R e a:=by
 rcases h with ⟨rfl,rfl⟩ | ⟨o,xs,rfl,hq,h,hb⟩
 ·simp at hi
 ·obtain ⟨e,he,hr⟩:=h.get hi
  exact ⟨e,by simp [pidx,he],hr⟩
theorem RL.elems (h:RL q s R x l):∃ xs,pelems s x=some xs∧F2 R xs l:=by
 rcases h with ⟨rfl,rfl⟩ | ⟨o,xs,rfl,hq,h,hb⟩
 ·exact ⟨[],rfl,.nil⟩
 ·exact ⟨xs,by simp [pelems],h⟩
theorem RL.pel (h:RL q s R x l) {i:Nat} {a:α} (hi:l[i]? = some a):∃ e,Go.Ab.pel x i=some e∧R e a:=by
 rcases h with ⟨rfl,rfl⟩ | ⟨o,xs,rfl,hq,h,hb⟩
 ·simp at hi
 ·exact h.get hi
theorem RL.frz (h:RL q s R x l) (hm:∀ e a,R e a→S (uF e) a):RL (some false) s S (frz x) l:=by
 rcases h with ⟨rfl,rfl⟩ | ⟨o,xs,rfl,hq,h,hb⟩
 ·exact .nil
 ·refine .sl (by simp) ?_ ?_
  rotate_left
  ·rw [kB,List.length_map]; exact hb
  rw [kB]
  exact h.mapL hm
end
def RI1 (e:List TV) (n:Int):Prop:=e=[I n]∧inI n
def RW1 (e:List TV) (n:Int):Prop:=e=[W n]∧inW n
def RB1 (e:List TV) (b:Bool):Prop:=e=[B b]
abbrev RInts (q:Option Bool):TV→List Int→Prop:=RL q 1 RI1
abbrev RWords (q:Option Bool):TV→List Int→Prop:=RL q 1 RW1
abbrev RBools (q:Option Bool):TV→List Bool→Prop:=RL q 1 RB1
structure DIns where
 op:Int
 dst:Int
 a:Int
 b:Int
 k:Int
 f:Int
 args:List Int
structure DEnd where
 kind:Int
 a:Int
 dst:Int
 f:Int
 args:List Int
 to:Int
 els:Int
 pad:Int
structure DPad where
 dst:Int
 catches:List Int
 all:Bool
 cleanup:Bool
structure DBlock where
 landing:Bool
 pad:DPad
 ins:List DIns
 fin:DEnd
structure DFunc where
 params:Int
 regs:Int
 blocks:List DBlock
structure DMod where
 funcs:List DFunc
def DIns.ok (x:DIns):Prop:=inI x.op∧inI x.dst∧inI x.a∧inI x.b∧inW x.k∧inI x.f
def DEnd.ok (x:DEnd):Prop:=inI x.kind∧inI x.a∧inI x.dst∧inI x.f∧inI x.to∧inI x.els∧inI x.pad
def RIns (q:Option Bool) (e:List TV) (x:DIns):Prop:=∃ g,e=[I x.op,I x.dst,I x.a,I x.b,W x.k,I x.f,g]∧RInts q g x.args∧x.ok
def REnd (q:Option Bool) (e:List TV) (x:DEnd):Prop:=∃ g,e=[I x.kind,I x.a,I x.dst,I x.f,g,I x.to,I x.els,I x.pad]∧RInts q g x.args∧x.ok
def RPad (q:Option Bool) (e:List TV) (x:DPad):Prop:=∃ g,e=[I x.dst,g,B x.all,B x.cleanup]∧RWords q g x.catches∧inI x.dst
def RBlock (q:Option Bool) (e:List TV) (x:DBlock):Prop:=∃ c i g,e=[B x.landing,I x.pad.dst,c,B x.pad.all,B x.pad.cleanup,i,I x.fin.kind,I x.fin.a,I x.fin.dst,I x.fin.f,g,I x.fin.to,I x.fin.els,I x.fin.pad] ∧
 RWords q c x.pad.catches∧inI x.pad.dst∧RL q 7 (RIns q) i x.ins∧RInts q g x.fin.args∧x.fin.ok
def RFunc (q:Option Bool) (e:List TV) (x:DFunc):Prop:=∃ b,e=[I x.params,I x.regs,b]∧RL q 14 (RBlock q) b x.blocks∧inI x.params∧inI x.regs
def RMod (q:Option Bool) (e:List TV) (x:DMod):Prop:=∃ b,e=[b]∧RL q 3 (RFunc q) b x.funcs
theorem padd {a b:Int} (h:inI (a + b)):pbin (.int .i64) .add (I a) (I b)=some (I (a + b)):=by
 simp [pbin,wx,IntWalk.i64_in _ h]
theorem inc {k n:Nat} (h:k < n) (hn:n≤9223372036854775807):pbin (.int .i64) .add (I (k:Int)) (I (1:Int))=some (I ((k + 1:Nat):Int)):=by
 rw [padd (by constructor <;> omega)]; rfl
open Classical in
noncomputable def tt (p:Prop):Bool:=decide p
theorem wQ {p:Prop}:tt p=true ↔ p:=by simp [tt]
theorem tt_eq {b:Bool} {p:Prop} (h:b=true ↔ p):b=tt p:=by
 cases b with
 | true=>exact (wQ.2 (h.1 rfl)).symm
 | false =>
  cases hp:tt p with
  | false=>rfl
  | true=>exact absurd (h.2 (wQ.1 hp)) (by simp)
theorem pa {p p':Prop} (h:p ↔ p'):tt p=tt p':=by rw [propext h]
theorem By {p:Prop} (h:p):tt p=true:=wQ.2 h
theorem Df {p:Prop} (h:¬ p):tt p=false:=by
 cases hp:tt p with
 | false=>rfl
 | true=>exact absurd (wQ.1 hp) h
section
variable {A:AProg} {f:FuncId}
theorem ret_tt {b:Bool} {p:Prop} (h:b=true ↔ p):aa A f (.ret (B b)) (B (tt p)):=by rw [← tt_eq h]; exact aa.ret
theorem ret_no {p:Prop} (h:¬ p):aa A f (.ret (B false)) (B (tt p)):=ret_tt (by simp [h])
end
def gW (k n:Nat) (P:Nat→Prop):Prop:=∀ i,k≤i→i < n→P i
theorem yZ {n:Nat} {P:Nat→Prop}:gW n n P:=fun i h1 h2=>by omega
theorem li {k n:Nat} {P:Nat→Prop} (h:k < n):gW k n P ↔ P k∧gW (k + 1) n P:=by
 constructor
 ·intro ha; exact ⟨ha k (Nat.le_refl k) h,fun i h1 h2=>ha i (by omega) h2⟩
 ·rintro ⟨hp,ha⟩ i h1 h2
  by_cases hi:i=k
  ·subst hi; exact hp
  ·exact ha i (by omega) h2
theorem iQ {n:Nat} {P:Nat→Prop}:gW 0 n P ↔ ∀ i,i < n→P i:=⟨fun h i hi=>h i (Nat.zero_le i) hi,fun h i _ hi=>h i hi⟩
theorem zf {α:Type} {l m:List α} (h:l.length=m.length):l=m ↔ gW 0 l.length fun i=>l[i]? = m[i]? := by
 rw [iQ]
 constructor
 ·rintro rfl i _; rfl
 ·intro ha
  apply List.ext_getElem? 
  intro i
  by_cases hi:i < l.length
  ·exact ha i hi
  ·rw [GG (by omega),GG (by omega)]
end Go.Ab
namespace Go.Ab
theorem Fw {A:AProg} {f:FuncId} {n:Nat} {P:Nat→Prop} {Q:Prop} {g:Nat→Prg TV} (hend:aa A f (g n) (B (tt Q)))
  (hstep:∀ k,k < n→∀ r,(¬ P k→r=B false)→(P k→aa A f (g (k + 1)) r)→aa A f (g k) r):∀ d k,k + d=n→aa A f (g k) (B (tt (gW k n P∧Q))):=by
 intro d
 induction d with
 | zero =>
  intro k hk
  have hk:k=n:=by omega
  subst hk
  rw [show tt (gW k k P∧Q)=tt Q from pa ⟨fun h=>h.2,fun h=>⟨yZ,h⟩⟩]
  exact hend
 | succ d ih =>
  intro k hk
  have hlt:k < n:=by omega
  refine hstep k hlt _ (fun hp=>?_) (fun hp=>?_)
  ·rw [Df]
   intro h
   exact hp ((li hlt).1 h.1).1
  ·rw [show tt (gW k n P∧Q)=tt (gW (k + 1) n P∧Q) from pa ⟨fun h=>⟨((li hlt).1 h.1).2,h.2⟩,fun h=>⟨(li hlt).2 ⟨hp,h.1⟩,h.2⟩⟩]
   exact ih (k + 1) (by omega)
theorem DA {A:AProg} {f:FuncId} {n:Nat} {P:Nat→Prop} {g:Nat→Prg TV} (hend:aa A f (g n) (B true))
  (hstep:∀ k,k < n→∀ r,(¬ P k→r=B false)→(P k→aa A f (g (k + 1)) r)→aa A f (g k) r):aa A f (g 0) (B (tt (∀ i,i < n→P i))):=by
 have:=Fw (Q:=True) (by rw [By trivial]; exact hend) hstep n 0 (by omega)
 rw [show tt (∀ i,i < n→P i)=tt (gW 0 n P∧True) from pa ⟨fun h=>⟨iQ.2 h,trivial⟩,fun h=>iQ.1 h.1⟩]
 exact this
theorem aF {k n:Nat} (h:k < n):asBool (.lit (.bool (decide ((k:Int) < (n:Int)))))=some true:=by simp [asBool,h]
theorem aJ {n:Nat}:asBool (.lit (.bool (decide ((n:Int) < (n:Int)))))=some false:=by simp [asBool]
theorem xg {α:Type} {l m:List α} (h:l.length=m.length):l=m ↔ ∀ i,i < l.length→l[i]? = m[i]? := by
 rw [zf h,iQ]
end Go.Ab
namespace Go.Ab
end Go.Ab
end
section
namespace Go.Ab
def Gj:List (Nat × fO)→Nat→Option fO
 | [],_=>none
 | (k,d) :: r,t=>bif k.beq t then some d else Gj r t
end Go.Ab
end
section
namespace Go.Ab
def ya {α:Type} (le:α→α→Bool) (x:α):List α→List α
 | []=>[x]
 | y :: l=>bif le x y then x :: y :: l else y :: ya le x l
def isB {α:Type} (le:α→α→Bool):List α→List α
 | []=>[]
 | x :: l=>ya le x (isB le l)
def leI (a b:Int):Bool:=decide (a≤b)
def rx:List (List TV)→Option (List Int)
 | []=>some []
 | [.lit (.int .i64 n)] :: l=>match rx l with
  | some r=>some (n :: r)
  | none=>none
 | _=>none
def bC (l:List Int):List (List TV):=l.map fun n=>[.lit (.int .i64 n)]
def mI {α:Type} (l:List α):Bool:=l.length.blt 4611686018427387904
def uR:List TV→Option TV
 | [.lit (.slice none 0 0)]=>some (.lit aK)
 | [.sl true 1 rows]=>match rx rows with
  | some l=>bif mI l then some (.sl true 1 (bC (isB leI l))) else none
  | none=>none
 | _=>none
def FK:TV→Option (List Int)
 | .sl true 1 rows=>rx rows
 | _=>none
def dJ:List Int→List Int→Int
 | [],[]=>0
 | [],_ :: _=>-1
 | _ :: _,[]=>1
 | a :: l,b :: m=>if a < b then -1 else if b < a then 1 else dJ l m
def yH:List (List TV)→Option (List (List Int))
 | []=>some []
 | [x] :: l=>match FK x,yH l with
  | some k,some r=>some (k :: r)
  | _,_=>none
 | _=>none
def leL (a b:List Int):Bool:=decide (dJ a b≤0)
def gH (l:List (List Int)):List (List TV):=l.map fun k=>[.sl true 1 (bC k)]
def oj (cmp:FuncId):List TV→Option TV
 | [.lit (.slice none 0 0),.lit (.func (.func f) us ws)]=>bif f.beq cmp && us.toList.isEmpty && ws.toList.isEmpty then some (.lit aK) else none
 | [.sl true 1 rows, .lit (.func (.func f) us ws)] =>
  bif f.beq cmp && us.toList.isEmpty && ws.toList.isEmpty then
   match yH rows with
   | some l=>bif mI l then some (.sl true 1 (gH (isB leL l))) else none
   | none=>none
  else none
 | _=>none
end Go.Ab
end
section
namespace Go.Ab.C11
open Go.Ab Go.Proofs
def Jk:AV:=AV.one CA.junk
def Sr (i:Nat):AV:=AV.one (CA.sref i 0 [])
def Pt (i:Nat):AV:=AV.one (CA.ptr i 0)
def Tr (w:TV):Option BC:=some (BC.tree [w])
def Ct (y:TV):Option BC:=some (BC.cells [CA.t y])
def Rj (n:Nat):List AV:=List.replicate n (AV.one CA.junk)
def Rz (n:Nat):List (Option BC):=List.replicate n none
def bO:List (Nat × Ann)→Nat→Option Ann
 | [],_=>none
 | (k,d) :: r,t=>bif k.beq t then some d else bO r t
def z2:List Value:=[.int .i64 0]
def z3:List Value:=[.int .i64 0]
def z4:List Value:=[.bool false]
def z5:List Value:=[.int .u8 0]
def z6:List Value:=[.int .u8 0]
def z7:List Value:=[.int .i64 0,.int .i64 0,.bool false,.int .u8 0]
def z8:List Value:=[.int .i64 0,.int .i64 0,.bool false,.int .u8 0]
def z9:List Value:=[.string ⟨#[]⟩]
def z10:List Value:=[.string ⟨#[]⟩]
def z11:List Value:=[.string ⟨#[]⟩]
def z12:List Value:=[.int .u64 0]
def z13:List Value:=[.string ⟨#[]⟩,.int .u64 0]
def z14:List Value:=[.string ⟨#[]⟩,.int .u64 0]
def z15:List Value:=[.pointer none]
def z16:List Value:=[.pointer none]
def z17:List Value:=[.pointer none]
def z18:List Value:=[.pointer none]
def z19:List Value:=[.pointer none]
def z20:List Value:=[.nilIface]
def z21:List Value:=[.int .i32 0]
def z22:List Value:=[.slice none 0 0]
def z23:List Value:=[.slice none 0 0]
def z24:List Value:=[.slice none 0 0]
def z25:List Value:=[.nilFunc]
def z26:List Value:=[.nilFunc]
def z27:List Value:=[.nilFunc]
def z28:List Value:=[.slice none 0 0]
def z29:List Value:=[.nilFunc]
def z30:List Value:=[.nilFunc]
def z31:List Value:=[.nilFunc]
def z32:List Value:=[.slice none 0 0]
def z33:List Value:=[.nilFunc]
def z34:List Value:=[.slice none 0 0]
def z35:List Value:=[.nilFunc]
def z36:List Value:=[.slice none 0 0]
def z37:List Value:=[.int .i64 0,.int .i64 0,.slice none 0 0]
def z38:List Value:=[.int .i64 0,.int .i64 0,.slice none 0 0]
def z39:List Value:=[.int .u16 0]
def z40:List Value:=[.int .i64 0,.int .i64 0,.int .i64 0,.int .i64 0,.int .u16 0,.int .i64 0,.slice none 0 0]
def z41:List Value:=[.int .i64 0,.int .i64 0,.int .i64 0,.int .i64 0,.int .u16 0,.int .i64 0,.slice none 0 0]
def z42:List Value:=[.slice none 0 0]
def z43:List Value:=[.slice none 0 0]
def z44:List Value:=[.int .i64 0,.slice none 0 0,.bool false,.bool false]
def z45:List Value:=[.int .i64 0,.slice none 0 0,.bool false,.bool false]
def z46:List Value:=[.int .i64 0,.int .i64 0,.int .i64 0,.int .i64 0,.slice none 0 0,.int .i64 0,.int .i64 0,.int .i64 0]
def z47:List Value:=[.int .i64 0,.int .i64 0,.int .i64 0,.int .i64 0,.slice none 0 0,.int .i64 0,.int .i64 0,.int .i64 0]
def z48:List Value:=[.bool false,.int .i64 0,.slice none 0 0,.bool false,.bool false,.slice none 0 0,.int .i64 0,.int .i64 0,.int .i64 0,.int .i64 0,.slice none 0 0,.int .i64 0,.int .i64 0,.int .i64 0]
def z49:List Value:=[.bool false,.int .i64 0,.slice none 0 0,.bool false,.bool false,.slice none 0 0,.int .i64 0,.int .i64 0,.int .i64 0,.int .i64 0,.slice none 0 0,.int .i64 0,.int .i64 0,.int .i64 0]
def z50:List Value:=[.nilFunc]
def z51:List Value:=[.nilFunc]
def z52:List Value:=[.nilFunc]
def z53:List Value:=[.nilFunc]
def z54:List Value:=[.nilFunc]
def z55:List Value:=[.nilFunc]
def z56:List Value:=[.nilFunc]
def z57:List Value:=[.nilFunc]
def z58:List Value:=[.nilFunc]
def z59:List Value:=[.nilFunc]
def z60:List Value:=[.slice none 0 0,.slice none 0 0]
def z61:List Value:=[.slice none 0 0,.slice none 0 0]
def z62:List Value:=[.nilFunc]
def z63:List Value:=[.nilFunc]
def z64:List Value:=[.nilFunc]
def z65:List Value:=[.nilFunc]
def z66:List Value:=[.nilFunc]
def z67:List Value:=[.nilFunc]
def z68:List Value:=[.int .u64 0]
def z69:List Value:=[.slice none 0 0]
def z70:List Value:=[.nilFunc]
def z71:List Value:=[.pointer none]
def z72:List Value:=[.nilFunc]
def z73:List Value:=[.nilFunc]
def z74:List Value:=[.nilFunc]
def z75:List Value:=[.nilFunc]
def z76:List Value:=[.nilFunc]
def z77:List Value:=[.nilFunc]
def z78:List Value:=[.nilFunc]
def z79:List Value:=[.nilFunc]
def z80:List Value:=[.nilFunc]
def z81:List Value:=[.int .i64 0]
def z83:List Value:=[.nilFunc]
def z84:List Value:=[.nilFunc]
def z85:List Value:=[.nilFunc]
def z86:List Value:=[.nilFunc]
def z88:List Value:=[.nilFunc]
def z89:List Value:=[.nilFunc]
def z90:List Value:=[.int .u32 0]
def z91:List Value:=[.nilFunc]
def z92:List Value:=[.int .u64 0]
def z93:List Value:=[.nilIface]
def z94:List Value:=[.nilIface]
def z95:List Value:=[.nilFunc]
def z96:List Value:=[.nilFunc]
def z97:List Value:=[.nilFunc]
def z98:List Value:=[.nilFunc]
def z99:List Value:=[.nilFunc]
def z100:List Value:=[.nilFunc]
def z101:List Value:=[.nilFunc]
def z102:List Value:=[.nilFunc]
def z103:List Value:=[.nilFunc]
def z104:List Value:=[.nilFunc]
def z105:List Value:=[.int .u64 0]
def z106:List Value:=[.nilFunc]
def z107:List Value:=[.nilFunc]
def z108:List Value:=[.nilFunc]
def z109:List Value:=[.pointer none]
def z110:List Value:=[.nilFunc]
def z111:List Value:=[.slice none 0 0]
def z112:List Value:=[.nilFunc,.slice none 0 0,.slice none 0 0,.slice none 0 0]
def z113:List Value:=[.nilFunc,.slice none 0 0,.slice none 0 0,.slice none 0 0]
def z114:List Value:=[.nilFunc]
def z115:List Value:=[.nilFunc]
def z116:List Value:=[.nilFunc]
def z117:List Value:=[.nilFunc]
def z118:List Value:=[.nilFunc]
def z119:List Value:=[.nilFunc]
def z120:List Value:=[.pointer none]
def z122:List Value:=[.nilFunc]
def z123:List Value:=[.pointer none]
def z124:List Value:=[.int .i64 0,.slice none 0 0]
def z125:List Value:=[.int .i64 0,.slice none 0 0]
def z126:List Value:=[.pointer none]
def z127:List Value:=[.nilFunc]
def z128:List Value:=[.nilFunc]
def z129:List Value:=[.nilFunc]
def z130:List Value:=[.nilFunc]
def z131:List Value:=[.pointer none,.pointer none,.pointer none,.string ⟨#[]⟩]
def z132:List Value:=[.pointer none,.pointer none,.pointer none,.string ⟨#[]⟩]
def z133:List Value:=[]
def z134:List Value:=[]
def z135:List Value:=[]
def z136:List Value:=[.int .u8 0]
def z137:List Value:=[.int .u8 0]
def z138:List Value:=[.nilFunc]
def z139:List Value:=[.pointer none]
def z140:List Value:=[.int .i32 0]
def z141:List Value:=[.int .i32 0]
def z142:List Value:=[.int .u64 0,.int .u64 0,.int .u32 0,.int .u8 0,.int .u8 0,.int .u8 0,.int .u8 0,.nilFunc,.pointer none,.int .i32 0,.int .i32 0]
def z143:List Value:=[.int .u64 0,.int .u64 0,.int .u32 0,.int .u8 0,.int .u8 0,.int .u8 0,.int .u8 0,.nilFunc,.pointer none,.int .i32 0,.int .i32 0]
def tab:Tab:=ux [
 (2,⟨1,8,.int .i64,z2,[]⟩),
 (3,⟨1,8,.int .i64,z3,[]⟩),
 (4,⟨1,1,.bool,z4,[]⟩),
 (5,⟨1,1,.int .u8,z5,[]⟩),
 (6,⟨1,1,.int .u8,z6,[]⟩),
 (7,⟨4,24,.struct,z7,[(0,2),(1,3),(2,4),(3,6)]⟩),
 (8,⟨4,24,.struct,z8,[(0,2),(1,3),(2,4),(3,6)]⟩),
 (9,⟨1,16,.str,z9,[]⟩),
 (10,⟨1,16,.str,z10,[]⟩),
 (11,⟨1,16,.str,z11,[]⟩),
 (12,⟨1,8,.int .u64,z12,[]⟩),
 (13,⟨2,24,.struct,z13,[(0,9),(1,12)]⟩),
 (14,⟨2,24,.struct,z14,[(0,9),(1,12)]⟩),
 (15,⟨1,8,.ptr,z15,[]⟩),
 (16,⟨1,8,.ptr,z16,[]⟩),
 (17,⟨1,8,.ptr,z17,[]⟩),
 (18,⟨1,8,.struct,z18,[(0,17)]⟩),
 (19,⟨1,8,.struct,z19,[(0,17)]⟩),
 (20,⟨1,16,.other,z20,[]⟩),
 (21,⟨1,4,.int .i32,z21,[]⟩),
 (22,⟨1,24,.slice 38,z22,[]⟩),
 (23,⟨1,24,.struct,z23,[(0,22)]⟩),
 (24,⟨1,24,.struct,z24,[(0,22)]⟩),
 (25,⟨1,8,.other,z25,[]⟩),
 (26,⟨1,8,.other,z26,[]⟩),
 (27,⟨1,8,.other,z27,[]⟩),
 (28,⟨1,24,.slice 3,z28,[]⟩),
 (29,⟨1,8,.other,z29,[]⟩),
 (30,⟨1,8,.other,z30,[]⟩),
 (31,⟨1,8,.other,z31,[]⟩),
 (32,⟨1,24,.slice 4,z32,[]⟩),
 (33,⟨1,8,.other,z33,[]⟩),
 (34,⟨1,24,.slice 28,z34,[]⟩),
 (35,⟨1,8,.other,z35,[]⟩),
 (36,⟨1,24,.slice 49,z36,[]⟩),
 (37,⟨3,40,.struct,z37,[(0,3),(1,3),(2,36)]⟩),
 (38,⟨3,40,.struct,z38,[(0,3),(1,3),(2,36)]⟩),
 (39,⟨1,2,.int .u16,z39,[]⟩),
 (40,⟨7,72,.struct,z40,[(0,3),(1,3),(2,3),(3,3),(4,39),(5,3),(6,28)]⟩),
 (41,⟨7,72,.struct,z41,[(0,3),(1,3),(2,3),(3,3),(4,39),(5,3),(6,28)]⟩),
 (42,⟨1,24,.slice 41,z42,[]⟩),
 (43,⟨1,24,.slice 39,z43,[]⟩),
 (44,⟨4,40,.struct,z44,[(0,3),(1,43),(2,4),(3,4)]⟩),
 (45,⟨4,40,.struct,z45,[(0,3),(1,43),(2,4),(3,4)]⟩),
 (46,⟨8,80,.struct,z46,[(0,3),(1,3),(2,3),(3,3),(4,28),(5,3),(6,3),(7,3)]⟩),
 (47,⟨8,80,.struct,z47,[(0,3),(1,3),(2,3),(3,3),(4,28),(5,3),(6,3),(7,3)]⟩),
 (48,⟨14,152,.struct,z48,[(0,4),(1,45),(5,42),(6,47)]⟩),
 (49,⟨14,152,.struct,z49,[(0,4),(1,45),(5,42),(6,47)]⟩),
 (50,⟨1,8,.other,z50,[]⟩),
 (51,⟨1,8,.other,z51,[]⟩),
 (52,⟨1,8,.other,z52,[]⟩),
 (53,⟨1,8,.other,z53,[]⟩),
 (54,⟨1,8,.other,z54,[]⟩),
 (55,⟨1,8,.other,z55,[]⟩),
 (56,⟨1,8,.other,z56,[]⟩),
 (57,⟨1,8,.other,z57,[]⟩),
 (58,⟨1,8,.other,z58,[]⟩),
 (59,⟨1,8,.other,z59,[]⟩),
 (60,⟨2,48,.struct,z60,[(0,34),(1,34)]⟩),
 (61,⟨2,48,.struct,z61,[(0,34),(1,34)]⟩),
 (62,⟨1,8,.other,z62,[]⟩),
 (63,⟨1,8,.other,z63,[]⟩),
 (64,⟨1,8,.other,z64,[]⟩),
 (65,⟨1,8,.other,z65,[]⟩),
 (66,⟨1,8,.other,z66,[]⟩),
 (67,⟨1,8,.other,z67,[]⟩),
 (68,⟨1,8,.int .u64,z68,[]⟩),
 (69,⟨1,24,.slice 3,z69,[]⟩),
 (70,⟨1,8,.other,z70,[]⟩),
 (71,⟨1,8,.ptr,z71,[]⟩),
 (72,⟨1,8,.other,z72,[]⟩),
 (73,⟨1,8,.other,z73,[]⟩),
 (74,⟨1,8,.other,z74,[]⟩),
 (75,⟨1,8,.other,z75,[]⟩),
 (76,⟨1,8,.other,z76,[]⟩),
 (77,⟨1,8,.other,z77,[]⟩),
 (78,⟨1,8,.other,z78,[]⟩),
 (79,⟨1,8,.other,z79,[]⟩),
 (80,⟨1,8,.other,z80,[]⟩),
 (81,⟨1,8,.int .i64,z81,[]⟩),
 (83,⟨1,8,.other,z83,[]⟩),
 (84,⟨1,8,.other,z84,[]⟩),
 (85,⟨1,8,.other,z85,[]⟩),
 (86,⟨1,8,.other,z86,[]⟩),
 (88,⟨1,8,.other,z88,[]⟩),
 (89,⟨1,8,.other,z89,[]⟩),
 (90,⟨1,4,.int .u32,z90,[]⟩),
 (91,⟨1,8,.other,z91,[]⟩),
 (92,⟨1,8,.int .u64,z92,[]⟩),
 (93,⟨1,16,.other,z93,[]⟩),
 (94,⟨1,16,.other,z94,[]⟩),
 (95,⟨1,8,.other,z95,[]⟩),
 (96,⟨1,8,.other,z96,[]⟩),
 (97,⟨1,8,.other,z97,[]⟩),
 (98,⟨1,8,.other,z98,[]⟩),
 (99,⟨1,8,.other,z99,[]⟩),
 (100,⟨1,8,.other,z100,[]⟩),
 (101,⟨1,8,.other,z101,[]⟩),
 (102,⟨1,8,.other,z102,[]⟩),
 (103,⟨1,8,.other,z103,[]⟩),
 (104,⟨1,8,.other,z104,[]⟩),
 (105,⟨1,8,.int .u64,z105,[]⟩),
 (106,⟨1,8,.other,z106,[]⟩),
 (107,⟨1,8,.other,z107,[]⟩),
 (108,⟨1,8,.other,z108,[]⟩),
 (109,⟨1,8,.ptr,z109,[]⟩),
 (110,⟨1,8,.other,z110,[]⟩),
 (111,⟨1,24,.slice 125,z111,[]⟩),
 (112,⟨4,80,.struct,z112,[(0,102),(1,32),(2,111),(3,28)]⟩),
 (113,⟨4,80,.struct,z113,[(0,102),(1,32),(2,111),(3,28)]⟩),
 (114,⟨1,8,.other,z114,[]⟩),
 (115,⟨1,8,.other,z115,[]⟩),
 (116,⟨1,8,.other,z116,[]⟩),
 (117,⟨1,8,.other,z117,[]⟩),
 (118,⟨1,8,.other,z118,[]⟩),
 (119,⟨1,8,.other,z119,[]⟩),
 (120,⟨1,8,.ptr,z120,[]⟩),
 (122,⟨1,8,.other,z122,[]⟩),
 (123,⟨1,8,.ptr,z123,[]⟩),
 (124,⟨2,32,.struct,z124,[(0,3),(1,28)]⟩),
 (125,⟨2,32,.struct,z125,[(0,3),(1,28)]⟩),
 (126,⟨1,8,.ptr,z126,[]⟩),
 (127,⟨1,8,.other,z127,[]⟩),
 (128,⟨1,8,.other,z128,[]⟩),
 (129,⟨1,8,.other,z129,[]⟩),
 (130,⟨1,8,.other,z130,[]⟩),
 (131,⟨4,40,.struct,z131,[(0,17),(1,17),(2,17),(3,9)]⟩),
 (132,⟨4,40,.struct,z132,[(0,17),(1,17),(2,17),(3,9)]⟩),
 (133,⟨0,0,.arr 0 16,z133,[]⟩),
 (134,⟨0,0,.struct,z134,[(0,133)]⟩),
 (135,⟨0,0,.struct,z135,[(0,133)]⟩),
 (136,⟨1,1,.int .u8,z136,[]⟩),
 (137,⟨1,1,.int .u8,z137,[]⟩),
 (138,⟨1,8,.other,z138,[]⟩),
 (139,⟨1,8,.ptr,z139,[]⟩),
 (140,⟨1,4,.int .i32,z140,[]⟩),
 (141,⟨1,4,.int .i32,z141,[]⟩),
 (142,⟨11,48,.struct,z142,[(0,12),(1,12),(2,90),(3,136),(4,5),(5,5),(6,137),(7,138),(8,139),(9,140),(10,141)]⟩),
 (143,⟨11,48,.struct,z143,[(0,12),(1,12),(2,90),(3,136),(4,5),(5,5),(6,137),(7,138),(8,139),(9,140),(10,141)]⟩)]
def pure (f:FuncId):Bool:=bN f [9,20,25,14,26,32,36,54,10,13,28]
def F4:List (Nat × List Nat)→Nat→List Nat
 | [],_=>[]
 | (k,d) :: r,t=>bif k.beq t then d else F4 r t
def rts:FuncId→List TypeId:=F4 [(3,[4]),(6,[4]),(7,[4]),(8,[4]),(9,[28]),(10,[28]),(11,[4]),(12,[4]),(13,[28]),(14,[32]),(15,[34]),(16,[34]),(17,[38]),(18,[4]),(19,[28]),(20,[28]),(21,[4]),(23,[28]),(24,[4]),(25,[32]),(26,[61]),(27,[34]),(28,[34]),(29,[3]),(32,[34]),(33,[]),(34,[20]),(35,[74]),(36,[28]),(37,[28]),(39,[3]),(51,[]),(52,[4]),(53,[]),(54,[28]),(55,[28]),(57,[3]),(63,[4]),(64,[]),(65,[]),(75,[]),(96,[3]),(97,[4]),(98,[]),(99,[20]),(100,[]),(22,[]),(38,[])]
def f3_ann:Nat→Option Ann:=bO [(11,⟨[3,7,8],[7],[],[],[]⟩),(19,⟨[9,10,11],[9,10],[],[],[]⟩)]
def f3_jn:Nat→Option Ann:=bO [(15,⟨[3],[],[],[],[]⟩)]
def f6_jn:Nat→Option Ann:=bO [(2,⟨[1],[],[],[],[(1,2)]⟩)]
def f7_ann:Nat→Option Ann:=bO [(5,⟨[1,3,4],[],[],[],[]⟩),(10,⟨[1,3,4,5],[],[],[],[]⟩),(17,⟨[1,3,4,5,6,7],[],[],[],[]⟩)]
def f8_ann:Nat→Option Ann:=bO [(4,⟨[0,1,5],[],[],[],[]⟩)]
def f10_ann:Nat→Option Ann:=bO [(3,⟨[1,2,5,6],[5],[],[],[]⟩)]
def f12_ann:Nat→Option Ann:=bO [(2,⟨[0,1,5],[],[],[],[]⟩)]
def f13_ann:Nat→Option Ann:=bO [(3,⟨[2,5,6],[5],[],[],[]⟩),(7,⟨[2,5,6,7,8],[5,7],[],[],[]⟩)]
def f16_ann:Nat→Option Ann:=bO [(3,⟨[1,3,4],[3],[],[],[]⟩),(8,⟨[3,5,6],[3,5,6],[],[],[]⟩),(10,⟨[3,5,6,7],[3,5,6],[],[],[]⟩),(16,⟨[3,5,6,7,8,9,10],[3,5,6,8],[],[],[]⟩)]
def f16_jn:Nat→Option Ann:=bO [(6,⟨[3],[3],[],[],[]⟩),(20,⟨[3,5,6,7,8,9,10,64],[3,5,6,8],[],[],[]⟩),(23,⟨[3,5,6,7,8,9],[3,5,6,8],[],[],[]⟩),(24,⟨[3,5,6,7,8,81],[3,5,6,8],[],[],[(8,0)]⟩)]
def f19_ann:Nat→Option Ann:=bO [(5,⟨[0,1,5,6],[],[],[],[]⟩)]
def f19_jn:Nat→Option Ann:=bO [(11,⟨[0,5],[],[],[],[]⟩)]
def f20_ann:Nat→Option Ann:=bO [(3,⟨[3,9,10,11],[3],[],[],[]⟩),(6,⟨[3,5,9,10,11,16,17,18],[3],[],[],[]⟩)]
def f20_jn:Nat→Option Ann:=bO [(11,⟨[3,5,9,10,11],[3],[],[],[]⟩)]
def f23_ann:Nat→Option Ann:=bO [(4,⟨[0,3],[0],[],[],[]⟩),(9,⟨[0,3,4,5],[],[],[],[]⟩)]
def f23_jn:Nat→Option Ann:=bO [(14,⟨[0,3],[],[],[],[]⟩)]
def f24_ann:Nat→Option Ann:=bO [(2,⟨[1,2,5],[],[],[],[]⟩),(5,⟨[1,2,5,6],[],[],[],[]⟩)]
def f24_jn:Nat→Option Ann:=bO [(9,⟨[1,2,5],[],[],[],[]⟩)]
def f25_ann:Nat→Option Ann:=bO [(3,⟨[2,5,6],[5,6],[],[],[]⟩)]
def f26_ann:Nat→Option Ann:=bO [(3,⟨[1,2,3,18,19],[],[],[2],[]⟩),(7,⟨[1,2,3,4,18,19,33,34,35],[],[],[2],[]⟩)]
def f27_ann:Nat→Option Ann:=bO [(4,⟨[1,5,6,24,25,26],[5,6,24],[],[],[]⟩),(7,⟨[1,5,6,24,25,26,30,31,32],[5,6,24],[],[],[]⟩),(14,⟨[1,5,6,11,44,45,46],[5,6,44],[],[],[]⟩),(20,⟨[1,5,6,11,14],[5,6,14],[(11,0)],[],[]⟩),(24,⟨[1,5,6,11,14,74,75,76],[5,6,14],[(11,0)],[],[]⟩)]
def f27_jn:Nat→Option Ann:=bO [(12,⟨[1,5,6],[5,6],[],[],[]⟩),(13,⟨[1,5,6,11],[5,6],[(11,0)],[],[]⟩),(19,⟨[1,5,6,11],[5,6],[],[],[]⟩)]
def f28_jn:Nat→Option Ann:=bO [(3,⟨[1,3,4],[],[(3,0)],[],[]⟩)]
def f29_ann:Nat→Option Ann:=bO [(2,⟨[0,1,7,8],[],[],[],[]⟩)]
def f32_ann:Nat→Option Ann:=bO [(3,⟨[1,2,5,19,20,21],[5],[],[],[]⟩),(6,⟨[1,2,5,6,19,20,21,26,27,28],[5],[],[],[]⟩),(13,⟨[5,10,42,43,44],[5,10],[],[],[]⟩),(16,⟨[5,10,11,42,43,44,49,50,51],[5,10],[],[],[]⟩)]
def f32_jn:Nat→Option Ann:=bO [(11,⟨[1,2,5],[5],[],[],[]⟩)]
def f36_ann:Nat→Option Ann:=bO [(3,⟨[1,3,10,11],[3],[],[],[]⟩)]
def f36_jn:Nat→Option Ann:=bO [(7,⟨[1,3],[3],[],[],[]⟩)]
def f37_ann:Nat→Option Ann:=bO [(4,⟨[2,3,7,8],[7],[],[],[]⟩),(7,⟨[2,3,7,8,29,30,31],[7],[],[],[]⟩)]
def f39_ann:Nat→Option Ann:=bO [(2,⟨[0,1,9,10,11],[],[],[],[]⟩)]
def f39_jn:Nat→Option Ann:=bO [(11,⟨[0,1],[],[],[],[]⟩)]
def f51_ann:Nat→Option Ann:=bO [(0,⟨[0,1],[],[],[],[]⟩)]
def f52_ann:Nat→Option Ann:=bO [(2,⟨[0,1,2,7],[],[],[],[]⟩)]
def f52_jn:Nat→Option Ann:=bO [(8,⟨[0,1,2,7,9],[],[],[],[]⟩),(11,⟨[1,7],[],[],[],[]⟩)]
def f53_ann:Nat→Option Ann:=bO [(1,⟨[0,1,3],[],[],[],[]⟩)]
def f54_ann:Nat→Option Ann:=bO [(3,⟨[7,14,15,16],[],[(7,2),(7,3)],[],[(7,1002)]⟩),(6,⟨[7,14,15,16],[],[(7,2),(7,3)],[],[(7,1002)]⟩)]
def f54_jn:Nat→Option Ann:=bO [(2,⟨[1,7],[],[(7,2),(7,3)],[],[]⟩)]
noncomputable def fns:FuncId→Option Func:=fun f=>bif f.beq 3 then some Try.f3 else bif f.beq 6 then some Try.f6 else bif f.beq 7 then some Try.f7 else bif f.beq 8 then some Try.f8 else bif f.beq 9 then some Try.f9 else bif f.beq 10 then some Try.f10 else bif f.beq 11 then some Try.f11 else bif f.beq 12 then some Try.f12 else bif f.beq 13 then some Try.f13 else bif f.beq 14 then some Try.f14 else bif f.beq 15 then some Try.f15 else bif f.beq 16 then some Try.f16 else bif f.beq 17 then some Try.f17 else bif f.beq 18 then some Try.f18 else bif f.beq 19 then some Try.f19 else bif f.beq 20 then some Try.f20 else bif f.beq 21 then some Try.f21 else bif f.beq 23 then some Try.f23 else bif f.beq 24 then some Try.f24 else bif f.beq 25 then some Try.f25 else bif f.beq 26 then some Try.f26 else bif f.beq 27 then some Try.f27 else bif f.beq 28 then some Try.f28 else bif f.beq 29 then some Try.f29 else bif f.beq 32 then some Try.f32 else bif f.beq 33 then some Try.f33 else bif f.beq 34 then some Try.f34 else bif f.beq 35 then some Try.f35 else bif f.beq 36 then some Try.f36 else bif f.beq 37 then some Try.f37 else bif f.beq 39 then some Try.f39 else bif f.beq 51 then some Try.f51 else bif f.beq 52 then some Try.f52 else bif f.beq 53 then some Try.f53 else bif f.beq 54 then some Try.f54 else bif f.beq 55 then some Try.f55 else bif f.beq 57 then some Try.f57 else bif f.beq 63 then some Try.f63 else bif f.beq 64 then some Try.f64 else bif f.beq 65 then some Try.f65 else bif f.beq 75 then some Try.f75 else bif f.beq 96 then some Try.f96 else bif f.beq 97 then some Try.f97 else bif f.beq 98 then some Try.f98 else bif f.beq 99 then some Try.f99 else bif f.beq 100 then some Try.f100 else none
def anns:FuncId→Nat→Option Ann:=fun f=>bif f.beq 3 then f3_ann else bif f.beq 7 then f7_ann else bif f.beq 8 then f8_ann else bif f.beq 10 then f10_ann else bif f.beq 12 then f12_ann else bif f.beq 13 then f13_ann else bif f.beq 16 then f16_ann else bif f.beq 19 then f19_ann else bif f.beq 20 then f20_ann else bif f.beq 23 then f23_ann else bif f.beq 24 then f24_ann else bif f.beq 25 then f25_ann else bif f.beq 26 then f26_ann else bif f.beq 27 then f27_ann else bif f.beq 29 then f29_ann else bif f.beq 32 then f32_ann else bif f.beq 36 then f36_ann else bif f.beq 37 then f37_ann else bif f.beq 39 then f39_ann else bif f.beq 51 then f51_ann else bif f.beq 52 then f52_ann else bif f.beq 53 then f53_ann else bif f.beq 54 then f54_ann else fun _=>none
def jns:FuncId→Nat→Option Ann:=fun f=>bif f.beq 3 then f3_jn else bif f.beq 6 then f6_jn else bif f.beq 16 then f16_jn else bif f.beq 19 then f19_jn else bif f.beq 20 then f20_jn else bif f.beq 23 then f23_jn else bif f.beq 24 then f24_jn else bif f.beq 27 then f27_jn else bif f.beq 28 then f28_jn else bif f.beq 32 then f32_jn else bif f.beq 36 then f36_jn else bif f.beq 39 then f39_jn else bif f.beq 52 then f52_jn else bif f.beq 54 then f54_jn else fun _=>none
def lent:FuncId→Option fO:=Gj []
def selfT (t:TypeId):Bool:=bN t []
def ext:FuncId→Option (List TV→Option TV):=fun f=>bif f.beq 22 then some (uR) else bif f.beq 38 then some (oj 39) else none
def opn (f:FuncId):Bool:=bN f [19,21,23,29,33,34,35,37,51,52,53,54,64,65,75,96,97,98,99,100]
def jl:List (Nat × List Nat)→Nat→Option (List Nat)
 | [],_=>none
 | (k,d) :: r,t=>bif k.beq t then some d else jl r t
def f9_kp:Nat→Option (List Nat):=jl [(3007,[]),(5001,[])]
def f19_kp:Nat→Option (List Nat):=jl [(1002,[0,1]),(8002,[0,1,5,6,7])]
def f27_kp:Nat→Option (List Nat):=jl [(17003,[1,5,6,11,44,45,46]),(21001,[1,5,6,11,14]),(28003,[1,5,6,11,14,74,75,76])]
def f28_kp:Nat→Option (List Nat):=jl [(3002,[1,3,4]),(6004,[3,21])]
def f29_kp:Nat→Option (List Nat):=jl [(4005,[0,1,5,7,8])]
def f33_kp:Nat→Option (List Nat):=jl [(2,[0]),(1002,[7]),(1004,[])]
def f34_kp:Nat→Option (List Nat):=jl [(1001,[0]),(2002,[0,3]),(3002,[0]),(4001,[])]
def f36_kp:Nat→Option (List Nat):=jl [(7004,[])]
def f51_kp:Nat→Option (List Nat):=jl [(1007,[0,1,4,11]),(2003,[0,4])]
def f52_kp:Nat→Option (List Nat):=jl [(6007,[0,1,2,7,9,10,28]),(8003,[0,1,2,7,9]),(9003,[0,1,2,9])]
def f53_kp:Nat→Option (List Nat):=jl [(3006,[0,1,3])]
def f54_kp:Nat→Option (List Nat):=jl [(5001,[7,14,15,16]),(7000,[7,14,15,16])]
def f64_kp:Nat→Option (List Nat):=jl [(2011,[18,22,23])]
def f65_kp:Nat→Option (List Nat):=jl [(2001,[]),(5002,[])]
def kps:FuncId→Nat→Option (List Nat):=fun f=>bif f.beq 9 then f9_kp else bif f.beq 19 then f19_kp else bif f.beq 27 then f27_kp else bif f.beq 28 then f28_kp else bif f.beq 29 then f29_kp else bif f.beq 33 then f33_kp else bif f.beq 34 then f34_kp else bif f.beq 36 then f36_kp else bif f.beq 51 then f51_kp else bif f.beq 52 then f52_kp else bif f.beq 53 then f53_kp else bif f.beq 54 then f54_kp else bif f.beq 64 then f64_kp else bif f.beq 65 then f65_kp else fun _=>none
def peek:FuncId→Option (Nat × Nat):=fun f=>none
def turn (f:FuncId):Bool:=bN f [22,38]
def mth : TypeId → String → Option (FuncId × Bool) := fun t s => if t.beq 71 ∧ s = "Len" then some (96, true) else if t.beq 71 ∧ s = "Less" then some (97, true) else if t.beq 71 ∧ s = "Swap" then some (98, true) else if t.beq 71 ∧ s = "Pop" then some (99, false) else if t.beq 71 ∧ s = "Push" then some (100, false) else none
def eye (f:FuncId):Bool:=bN f [55]
def cold (t:TypeId):Bool:=bN t [36,42]
noncomputable def prog:AProg:=⟨tab,pure,rts,fns,anns,jns,lent,selfT,ext,opn,kps,peek,turn,mth,eye,cold⟩
end Go.Ab.C11
end

import Derived.Test.YtdfmiamebejhoaaJM0
import Derived.IntWalk
import Derived.Lib.ItoaNum
import Derived.Test.YtdfmiamebejhoaaProg
set_option linter.all false
section
namespace Go.Ab
def iW:List Value:=[.int .i64 0]
def cU:List Value:=[.int .u16 0]
def al:List Value:=[.bool false]
def zSl:List Value:=[.slice none 0 0]
end Go.Ab
end
section
namespace Go.Ab
section
variable {R:Type} {C C':FuncId->List TV->Option TV} {J J':List Nat->ASt->Option R}
theorem Prg.dh (hC:∀ f xs v,C f xs=some v->C' f xs=some v) (hJ:∀ p st r,J p st=some r->J' p st=some r):∀ {p:Prg R} {r:R},p.run C J=some r->p.run C' J'=some r
 | .fail,r,h=>by simp [Prg.run] at h
 | .ret x,r,h=>h
 | .tv p k,r,h=>by
  cases p with
  | none=>simp [Prg.run] at h
  | some v=>exact Prg.dh hC hJ (p:=k v) h
 | .tvs p k,r,h=>by
  cases p with
  | none=>simp [Prg.run] at h
  | some v=>exact Prg.dh hC hJ (p:=k v) h
 | .rws p k,r,h=>by
  cases p with
  | none=>simp [Prg.run] at h
  | some v=>exact Prg.dh hC hJ (p:=k v) h
 | .nat p k,r,h=>by
  cases p with
  | none=>simp [Prg.run] at h
  | some v=>exact Prg.dh hC hJ (p:=k v) h
 | .chk b k,r,h=>by
  cases b with
  | false=>simp [Prg.run] at h
  | true=>exact Prg.dh hC hJ (p:=k) h
 | .ite b t e, r, h => by
  cases b with
  | none=>simp [Prg.run] at h
  | some b =>
   cases b with
   | true=>exact Prg.dh hC hJ (p:=t) h
   | false=>exact Prg.dh hC hJ (p:=e) h
 | .call f xs k, r, h => by
  simp only [Prg.run] at h ⊢
  cases hc:C f xs with
  | none=>rw [hc] at h; simp at h
  | some v =>
   rw [hc] at h
   rw [hC _ _ _ hc]
   exact Prg.dh hC hJ (p:=k v) h
 | .jmp p st,r,h=>hJ _ _ _ h
end
section
variable {A:AProg} {f g:FuncId}
theorem jH {C C':FuncId->List TV->Option TV} (hC:∀ f xs v,C f xs=some v->C' f xs=some v):∀ {m m':Nat},m<=m'->∀ {p:List Nat} {st:ASt} {r:TV},iQ A C f m p st=some r->iQ A C' f m' p st=some r
 | 0,_,_,_,_,_,h=>by simp [iQ] at h
 | m + 1,0,hle,_,_,_,_=>by omega
 | m + 1,m' + 1,hle,p,st,r,h=>by
  simp only [iQ] at h ⊢
  exact Prg.dh hC (fun p st r h=>jH hC (by omega) h) h
theorem gf:∀ {n n':Nat},n<=n'->∀ {f:FuncId} {args:List TV} {r:TV},acall A n f args=some r->acall A n' f args=some r
 | 0,_,_,_,_,_,h=>by simp [acall] at h
 | n + 1,0,hle,_,_,_,_=>by omega
 | n + 1, n' + 1, hle, f, args, r, h => by
  simp only [acall] at h ⊢
  have hC:∀ f xs v,acall A n f xs=some v->acall A n' f xs=some v:=fun f xs v h=>gf (by omega) h
  split at h
  ·rename_i g hg
   exact h
  ·exact Prg.dh hC (fun p st r h=>jH hC (by omega) h) h
def ap (A:AProg) (f:FuncId) (args:List TV) (r:TV):Prop:=∃ n,acall A n f args=some r
def aa (A:AProg) (f:FuncId) (p:Prg TV) (r:TV):Prop:=∃ n,p.run (acall A n) (iQ A (acall A n) f n)=some r
variable {r:TV}
theorem aa.up {p:Prg TV} {n n':Nat} (h:p.run (acall A n) (iQ A (acall A n) f n)=some r) (hle:n<=n'):p.run (acall A n') (iQ A (acall A n') f n')=some r :=
 Prg.dh (fun _ _ _ h=>gf hle h) (fun _ _ _ h=>jH (fun _ _ _ h=>gf hle h) hle h) h
theorem aa.ret:aa A f (.ret r) r:=⟨0,rfl⟩
theorem dC {x:TV}:aa A f (.ret x) r ↔ x=r:=⟨fun ⟨n,h⟩=>by simpa [Prg.run] using h,fun h=>h ▸ aa.ret⟩
theorem DS {p:Option TV} {k:TV->Prg TV}:aa A f (.tv p k) r ↔ ∃ v,p=some v/\aa A f (k v) r:=by
 constructor
 ·rintro ⟨n,h⟩
  cases p with
  | none=>simp [Prg.run] at h
  | some v=>exact ⟨v,rfl,n,h⟩
 ·rintro ⟨v,rfl,n,h⟩; exact ⟨n,h⟩
theorem Bw {p:Option (List TV)} {k:List TV->Prg TV}:aa A f (.tvs p k) r ↔ ∃ v,p=some v/\aa A f (k v) r:=by
 constructor
 ·rintro ⟨n,h⟩
  cases p with
  | none=>simp [Prg.run] at h
  | some v=>exact ⟨v,rfl,n,h⟩
 ·rintro ⟨v,rfl,n,h⟩; exact ⟨n,h⟩
theorem BU {p:Option (List (List TV))} {k:List (List TV)->Prg TV}:aa A f (.rws p k) r ↔ ∃ v,p=some v/\aa A f (k v) r:=by
 constructor
 ·rintro ⟨n,h⟩
  cases p with
  | none=>simp [Prg.run] at h
  | some v=>exact ⟨v,rfl,n,h⟩
 ·rintro ⟨v,rfl,n,h⟩; exact ⟨n,h⟩
theorem Ci {p:Option Nat} {k:Nat->Prg TV}:aa A f (.nat p k) r ↔ ∃ v,p=some v/\aa A f (k v) r:=by
 constructor
 ·rintro ⟨n,h⟩
  cases p with
  | none=>simp [Prg.run] at h
  | some v=>exact ⟨v,rfl,n,h⟩
 ·rintro ⟨v,rfl,n,h⟩; exact ⟨n,h⟩
theorem CV {b:Bool} {k:Prg TV}:aa A f (.chk b k) r ↔ b=true/\aa A f k r:=by
 constructor
 ·rintro ⟨n,h⟩
  cases b with
  | false=>simp [Prg.run] at h
  | true=>exact ⟨rfl,n,h⟩
 ·rintro ⟨rfl,n,h⟩; exact ⟨n,h⟩
theorem Dh {b:Option Bool} {t e:Prg TV}:aa A f (.ite b t e) r ↔ ∃ v,b=some v/\aa A f (bif v then t else e) r:=by
 constructor
 ·rintro ⟨n,h⟩
  cases b with
  | none=>simp [Prg.run] at h
  | some v=>refine ⟨v,rfl,n,?_⟩; cases v <;> exact h
 ·rintro ⟨v,rfl,n,h⟩; refine ⟨n,?_⟩; cases v <;> exact h
theorem AJ {xs:List TV} {k:TV->Prg TV}:aa A f (.call g xs k) r ↔ ∃ v,ap A g xs v/\aa A f (k v) r:=by
 constructor
 ·rintro ⟨n,h⟩
  simp only [Prg.run] at h
  cases hc:acall A n g xs with
  | none=>rw [hc] at h; simp at h
  | some v=>rw [hc] at h; exact ⟨v,⟨n,hc⟩,n,h⟩
 ·rintro ⟨v,⟨n,hc⟩,m,h⟩
  refine ⟨max n m,?_⟩
  simp only [Prg.run]
  rw [gf (Nat.le_max_left n m) hc]
  exact aa.up h (Nat.le_max_right n m)
theorem B6 {p:List Nat} {st:ASt}:aa A f (.jmp p st) r ↔ aa A f (fd A f p st) r:=by
 constructor
 ·rintro ⟨n,h⟩
  cases n with
  | zero=>simp [Prg.run,iQ] at h
  | succ n =>
   refine ⟨n + 1,?_⟩
   simp only [Prg.run,iQ] at h
   exact Prg.dh (fun _ _ _ h=>h) (fun _ _ _ h=>jH (fun _ _ _ h=>h) (Nat.le_succ n) h) h
 ·rintro ⟨n,h⟩
  refine ⟨n + 1,?_⟩
  simp only [Prg.run,iQ]
  exact Prg.dh (fun _ _ _ h=>gf (Nat.le_succ n) h) (fun _ _ _ h=>jH (fun _ _ _ h=>gf (Nat.le_succ n) h) (Nat.le_refl n) h) h
theorem B5 {args:List TV} (hx:A.ext f=none):ap A f args r ↔ aa A f (aA A f args) r:=by
 constructor
 ·rintro ⟨n,h⟩
  cases n with
  | zero=>simp [acall] at h
  | succ n=>simp only [acall,hx] at h; exact ⟨n,h⟩
 ·rintro ⟨n,h⟩; exact ⟨n + 1,by simp only [acall,hx]; exact h⟩
theorem aa.tv {p:Option TV} {k:TV->Prg TV} {v:TV} (h:p=some v) (hk:aa A f (k v) r):aa A f (.tv p k) r:=DS.2 ⟨v,h,hk⟩
theorem aa.tvs {p:Option (List TV)} {k:List TV->Prg TV} {v:List TV} (h:p=some v) (hk:aa A f (k v) r):aa A f (.tvs p k) r:=Bw.2 ⟨v,h,hk⟩
theorem aa.rws {p:Option (List (List TV))} {k:List (List TV)->Prg TV} {v:List (List TV)} (h:p=some v) (hk:aa A f (k v) r):aa A f (.rws p k) r:=BU.2 ⟨v,h,hk⟩
theorem aa.nat {p:Option Nat} {k:Nat->Prg TV} {v:Nat} (h:p=some v) (hk:aa A f (k v) r):aa A f (.nat p k) r:=Ci.2 ⟨v,h,hk⟩
theorem aa.chk {b:Bool} {k:Prg TV} (h:b=true) (hk:aa A f k r):aa A f (.chk b k) r:=CV.2 ⟨h,hk⟩
theorem aa.ite {b:Option Bool} {t e:Prg TV} {v:Bool} (h:b=some v) (ht:v=true->aa A f t r) (he:v=false->aa A f e r):aa A f (.ite b t e) r:=by
 refine Dh.2 ⟨v,h,?_⟩
 cases v with
 | true=>exact ht rfl
 | false=>exact he rfl
theorem aa.call {xs:List TV} {k:TV->Prg TV} {v:TV} (h:ap A g xs v) (hk:aa A f (k v) r):aa A f (.call g xs k) r:=AJ.2 ⟨v,h,hk⟩
theorem aa.jmp {p:List Nat} {st:ASt} {q:Prg TV} (h:fd A f p st=q) (hk:aa A f q r):aa A f (.jmp p st) r:=B6.2 (h ▸ hk)
theorem ap.of {args:List TV} {q:Prg TV} (h:aA A f args=q) (hk:aa A f q r) (hx:A.ext f=none:=by rfl):ap A f args r:=(B5 hx).2 (h ▸ hk)
end
end Go.Ab
end
section
namespace Go.Ab
inductive F2 {α β:Type} (R:α->β->Prop):List α->List β->Prop
 | nil:F2 R [] []
 | cons {a b l m}:R a b->F2 R l m->F2 R (a :: l) (b :: m)
section
variable {α β γ:Type} {R S:α->β->Prop}
theorem F2.length {xs:List α} {l:List β} (h:F2 R xs l):xs.length=l.length:=by
 induction h with
 | nil=>rfl
 | cons _ _ ih=>simp [ih]
theorem F2.get {xs:List α} {l:List β} (h:F2 R xs l):∀ {i:Nat} {a:β},l[i]? = some a->∃ e,xs[i]? = some e/\R e a:=by
 induction h with
 | nil=>intro i a h; simp at h
 | cons hr _ ih =>
  intro i a h
  cases i with
  | zero=>simp at h; subst h; exact ⟨_,rfl,hr⟩
  | succ i=>simp at h; simpa using ih h
theorem F2.getL {xs:List α} {l:List β} (h:F2 R xs l):∀ {i:Nat} {e:α},xs[i]? = some e->∃ a,l[i]? = some a/\R e a:=by
 induction h with
 | nil=>intro i a h; simp at h
 | cons hr _ ih =>
  intro i a h
  cases i with
  | zero=>simp at h; subst h; exact ⟨_,rfl,hr⟩
  | succ i=>simp at h; simpa using ih h
theorem F2.mono (hm:∀ e a,R e a->S e a) {xs:List α} {l:List β} (h:F2 R xs l):F2 S xs l:=by
 induction h with
 | nil=>exact .nil
 | cons hr _ ih=>exact .cons (hm _ _ hr) ih
theorem F2.append {xs ys:List α} {l m:List β} (h:F2 R xs l) (h':F2 R ys m):F2 R (xs ++ ys) (l ++ m):=by
 induction h with
 | nil=>exact h'
 | cons hr _ ih=>exact .cons hr ih
theorem F2.take {xs:List α} {l:List β} (h:F2 R xs l):∀ n,F2 R (xs.take n) (l.take n):=by
 induction h with
 | nil=>intro n; simp; exact .nil
 | cons hr _ ih=>intro n; cases n with
  | zero=>exact .nil
  | succ n=>exact .cons hr (ih n)
theorem F2.drop {xs:List α} {l:List β} (h:F2 R xs l):∀ n,F2 R (xs.drop n) (l.drop n):=by
 induction h with
 | nil=>intro n; simp; exact .nil
 | cons hr h ih=>intro n; cases n with
  | zero=>exact .cons hr h
  | succ n=>exact ih n
theorem F2.set {xs:List α} {l:List β} (h:F2 R xs l):∀ {i:Nat} {e:α} {a:β},R e a->F2 R (ao xs i e) (l.set i a):=by
 induction h with
 | nil=>intro i e a _; exact .nil
 | cons hr h ih=>intro i e a hea; cases i with
  | zero=>exact .cons hea h
  | succ i=>exact .cons hr (ih hea)
theorem F2.mapL {f:γ->α} {Q:γ->β->Prop} {xs:List γ} {l:List β} (h:F2 Q xs l) (hf:∀ x a,Q x a->R (f x) a):F2 R (xs.map f) l:=by
 induction h with
 | nil=>exact .nil
 | cons hr _ ih=>exact .cons (hf _ _ hr) ih
theorem F2.yL {xs:List α}:∀ {l:List β},xs.length=l.length->(∀ (i:Nat) e a,xs[i]? = some e->l[i]? = some a->R e a)->F2 R xs l:=by
 induction xs with
 | nil=>intro l h _; cases l with
  | nil=>exact .nil
  | cons _ _=>simp at h
 | cons x xs ih=>intro l h hg; cases l with
  | nil=>simp at h
  | cons a l=>exact .cons (hg 0 x a rfl rfl) (ih (by simpa using h) fun i e b he hb=>hg (i + 1) e b (by simpa using he) (by simpa using hb))
end
abbrev I (n:Int):TV:=.lit (.int .i64 n)
abbrev W (n:Int):TV:=.lit (.int .u16 n)
abbrev B (b:Bool):TV:=.lit (.bool b)
def inI (n:Int):Prop:=-9223372036854775808<=n/\n<=9223372036854775807
def inW (n:Int):Prop:=0<=n/\n<=65535
def RL {α:Type} (q:Option Bool) (s:Nat) (R:List TV->α->Prop) (x:TV) (l:List α):Prop :=
 (x=.lit aV/\l=[])\/∃ o xs,x=.sl o s xs/\(∀ b,q=some b->o=b)/\F2 R xs l/\xs.length<=9223372036854775807
theorem oP:∀ ys:List (List TV),sR ys=ys.map m7
 | []=>rfl
 | y :: ys=>by simp [sR,oP ys]
section
variable {α:Type} {q:Option Bool} {s:Nat} {R S:List TV->α->Prop} {x:TV} {l:List α}
theorem RL.nil:RL q s R (.lit aV) []:=.inl ⟨rfl,rfl⟩
theorem RL.sl {o:Bool} {xs:List (List TV)} (hq:∀ b,q=some b->o=b) (h:F2 R xs l) (hb:xs.length<=9223372036854775807):RL q s R (.sl o s xs) l:=.inr ⟨o,xs,rfl,hq,h,hb⟩
theorem RL.bnd (h:RL q s R x l):l.length<=9223372036854775807:=by
 rcases h with ⟨rfl,rfl⟩ | ⟨o,xs,rfl,hq,h,hb⟩
 ·simp
 ·rw [<- h.length]; exact hb
theorem RL.weak (h:RL q s R x l) (hm:∀ e a,R e a->S e a):RL none s S x l:=by
 rcases h with ⟨rfl,rfl⟩ | ⟨o,xs,rfl,hq,h,hb⟩
 ·exact .nil
 ·exact .sl (by simp) (h.mono hm) hb
theorem RL.len {t:TypeId} (h:RL q s R x l):plen (.slice t) x=some (I l.length):=by
 rcases h with ⟨rfl,rfl⟩ | ⟨o,xs,rfl,hq,h,hb⟩
 ·rfl
 ·simp [plen,h.length]
theorem RL.slLen (h:RL q s R x l):Go.Ab.slLen x=some l.length:=by
 rcases h with ⟨rfl,rfl⟩ | ⟨o,xs,rfl,hq,h,hb⟩
 ·rfl
 ·simp [Go.Ab.slLen,h.length]
theorem RL.slSize (h:RL q s R x l):Go.Ab.slSize x s=true:=by
 rcases h with ⟨rfl,rfl⟩ | ⟨o,xs,rfl,hq,h,hb⟩
 ·rfl
 ·simp [Go.Ab.slSize]
theorem RL.isSl (h:RL q s R x l):x.isSl=true:=by
 rcases h with ⟨rfl,rfl⟩ | ⟨o,xs,rfl,hq,h,hb⟩ <;> rfl
theorem RL.idx (h:RL q s R x l) {k:IntKind} {i:Nat} {a:α} (hi:l[i]? = some a):∃ e,pidx s x (.lit (.int k i))=some e/\R e a:=by
 rcases h with ⟨rfl,rfl⟩ | ⟨o,xs,rfl,hq,h,hb⟩
 ·simp at hi
 ·obtain ⟨e,he,hr⟩:=h.get hi
  exact ⟨e,by simp [pidx,he],hr⟩
theorem RL.elems (h:RL q s R x l):∃ xs,pelems s x=some xs/\F2 R xs l:=by
 rcases h with ⟨rfl,rfl⟩ | ⟨o,xs,rfl,hq,h,hb⟩
 ·exact ⟨[],rfl,.nil⟩
 ·exact ⟨xs,by simp [pelems],h⟩
theorem RL.pel (h:RL q s R x l) {i:Nat} {a:α} (hi:l[i]? = some a):∃ e,Go.Ab.pel x i=some e/\R e a:=by
 rcases h with ⟨rfl,rfl⟩ | ⟨o,xs,rfl,hq,h,hb⟩
 ·simp at hi
 ·exact h.get hi
theorem RL.frz (h:RL q s R x l) (hm:∀ e a,R e a->S (m7 e) a):RL (some false) s S (frz x) l:=by
 rcases h with ⟨rfl,rfl⟩ | ⟨o,xs,rfl,hq,h,hb⟩
 ·exact .nil
 ·refine .sl (by simp) ?_ ?_
  rotate_left
  ·rw [oP,List.length_map]; exact hb
  rw [oP]
  exact h.mapL hm
end
def RI1 (e:List TV) (n:Int):Prop:=e=[I n]/\inI n
def RW1 (e:List TV) (n:Int):Prop:=e=[W n]/\inW n
def RB1 (e:List TV) (b:Bool):Prop:=e=[B b]
abbrev RInts (q:Option Bool):TV->List Int->Prop:=RL q 1 RI1
abbrev RWords (q:Option Bool):TV->List Int->Prop:=RL q 1 RW1
abbrev RBools (q:Option Bool):TV->List Bool->Prop:=RL q 1 RB1
structure DIns where
 op:Int
 dst:Int
 a:Int
 b:Int
 k:Int
 f:Int
 args:List Int
structure DEnd where
 kind:Int
 a:Int
 dst:Int
 f:Int
 args:List Int
 to:Int
 els:Int
 pad:Int
structure DPad where
 dst:Int
 catches:List Int
 all:Bool
 cleanup:Bool
structure DBlock where
 landing:Bool
 pad:DPad
 ins:List DIns
 fin:DEnd
structure DFunc where
 params:Int
 regs:Int
 blocks:List DBlock
structure DMod where
 funcs:List DFunc
def DIns.ok (x:DIns):Prop:=inI x.op/\inI x.dst/\inI x.a/\inI x.b/\inW x.k/\inI x.f
def DEnd.ok (x:DEnd):Prop:=inI x.kind/\inI x.a/\inI x.dst/\inI x.f/\inI x.to/\inI x.els/\inI x.pad
def RIns (q:Option Bool) (e:List TV) (x:DIns):Prop:=∃ g,e=[I x.op,I x.dst,I x.a,I x.b,W x.k,I x.f,g]/\RInts q g x.args/\x.ok
def REnd (q:Option Bool) (e:List TV) (x:DEnd):Prop:=∃ g,e=[I x.kind,I x.a,I x.dst,I x.f,g,I x.to,I x.els,I x.pad]/\RInts q g x.args/\x.ok
def RPad (q:Option Bool) (e:List TV) (x:DPad):Prop:=∃ g,e=[I x.dst,g,B x.all,B x.cleanup]/\RWords q g x.catches/\inI x.dst
def RBlock (q:Option Bool) (e:List TV) (x:DBlock):Prop:=∃ c i g,e=[B x.landing,I x.pad.dst,c,B x.pad.all,B x.pad.cleanup,i,I x.fin.kind,I x.fin.a,I x.fin.dst,I x.fin.f,g,I x.fin.to,I x.fin.els,I x.fin.pad] /\
 RWords q c x.pad.catches/\inI x.pad.dst/\RL q 7 (RIns q) i x.ins/\RInts q g x.fin.args/\x.fin.ok
def RFunc (q:Option Bool) (e:List TV) (x:DFunc):Prop:=∃ b,e=[I x.params,I x.regs,b]/\RL q 14 (RBlock q) b x.blocks/\inI x.params/\inI x.regs
def RMod (q:Option Bool) (e:List TV) (x:DMod):Prop:=∃ b,e=[b]/\RL q 3 (RFunc q) b x.funcs
theorem RI1.frz {e:List TV} {n:Int} (h:RI1 e n):RI1 (m7 e) n:=by obtain ⟨rfl,h⟩:=h; exact ⟨rfl,h⟩
theorem RW1.frz {e:List TV} {n:Int} (h:RW1 e n):RW1 (m7 e) n:=by obtain ⟨rfl,h⟩:=h; exact ⟨rfl,h⟩
theorem RB1.frz {e:List TV} {n:Bool} (h:RB1 e n):RB1 (m7 e) n:=by cases h; exact rfl
theorem RIns.frz {q:Option Bool} {e:List TV} {x:DIns} (h:RIns q e x):RIns (some false) (m7 e) x:=by
 obtain ⟨g,rfl,hg,ho⟩:=h
 exact ⟨Go.Ab.frz g,rfl,hg.frz fun _ _ h=>h.frz,ho⟩
theorem RBlock.frz {q:Option Bool} {e:List TV} {x:DBlock} (h:RBlock q e x):RBlock (some false) (m7 e) x:=by
 obtain ⟨c,i,g,rfl,hc,hd,hi,hg,ho⟩:=h
 exact ⟨Go.Ab.frz c,Go.Ab.frz i,Go.Ab.frz g,rfl,hc.frz fun _ _ h=>h.frz,hd,hi.frz fun _ _ h=>h.frz,hg.frz fun _ _ h=>h.frz,ho⟩
theorem RFunc.frz {q:Option Bool} {e:List TV} {x:DFunc} (h:RFunc q e x):RFunc (some false) (m7 e) x:=by
 obtain ⟨b,rfl,hb,ho⟩:=h
 exact ⟨Go.Ab.frz b,rfl,hb.frz fun _ _ h=>h.frz,ho⟩
theorem padd {a b:Int} (h:inI (a + b)):pbin (.int .i64) .add (I a) (I b)=some (I (a + b)):=by
 simp [pbin,pA,IntWalk.i64_in _ h]
theorem psub {a b:Int} (h:inI (a - b)):pbin (.int .i64) .sub (I a) (I b)=some (I (a - b)):=by
 simp [pbin,pA,IntWalk.i64_in _ h]
theorem inc {k n:Nat} (h:k < n) (hn:n<=9223372036854775807):pbin (.int .i64) .add (I (k:Int)) (I (1:Int))=some (I ((k + 1:Nat):Int)):=by
 rw [padd (by constructor <;> omega)]; rfl
open Classical in
noncomputable def tt (p:Prop):Bool:=decide p
theorem bu {p:Prop}:tt p=true ↔ p:=by simp [tt]
theorem tt_eq {b:Bool} {p:Prop} (h:b=true ↔ p):b=tt p:=by
 cases b with
 | true=>exact (bu.2 (h.1 rfl)).symm
 | false =>
  cases hp:tt p with
  | false=>rfl
  | true=>exact absurd (h.2 (bu.1 hp)) (by simp)
theorem bZ {p p':Prop} (h:p ↔ p'):tt p=tt p':=by rw [propext h]
theorem cg {p:Prop} (h:p):tt p=true:=bu.2 h
theorem eF {p:Prop} (h:¬ p):tt p=false:=by
 cases hp:tt p with
 | false=>rfl
 | true=>exact absurd (bu.1 hp) h
section
variable {A:AProg} {f:FuncId}
theorem dN {b:Bool} {p:Prop} (h:b=true ↔ p):aa A f (.ret (B b)) (B (tt p)):=by rw [<- tt_eq h]; exact aa.ret
theorem yS {p:Prop} (h:p):aa A f (.ret (B true)) (B (tt p)):=dN (by simp [h])
theorem bk {p:Prop} (h:¬ p):aa A f (.ret (B false)) (B (tt p)):=dN (by simp [h])
end
def gm (k n:Nat) (P:Nat->Prop):Prop:=∀ i,k<=i->i < n->P i
theorem wv {n:Nat} {P:Nat->Prop}:gm n n P:=fun i h1 h2=>by omega
theorem kq {k n:Nat} {P:Nat->Prop} (h:k < n):gm k n P ↔ P k/\gm (k + 1) n P:=by
 constructor
 ·intro ha; exact ⟨ha k (Nat.le_refl k) h,fun i h1 h2=>ha i (by omega) h2⟩
 ·rintro ⟨hp,ha⟩ i h1 h2
  by_cases hi:i=k
  ·subst hi; exact hp
  ·exact ha i (by omega) h2
theorem kn {n:Nat} {P:Nat->Prop}:gm 0 n P ↔ ∀ i,i < n->P i:=⟨fun h i hi=>h i (Nat.zero_le i) hi,fun h i _ hi=>h i hi⟩
end Go.Ab
namespace Go.Ab
theorem zE {A:AProg} {f:FuncId} {n:Nat} {P:Nat->Prop} {Q:Prop} {g:Nat->Prg TV} (hend:aa A f (g n) (B (tt Q)))
  (hstep:∀ k,k < n->∀ r,(¬ P k->r=B false)->(P k->aa A f (g (k + 1)) r)->aa A f (g k) r):∀ d k,k + d=n->aa A f (g k) (B (tt (gm k n P/\Q))):=by
 intro d
 induction d with
 | zero =>
  intro k hk
  have hk:k=n:=by omega
  subst hk
  rw [show tt (gm k k P/\Q)=tt Q from bZ ⟨fun h=>h.2,fun h=>⟨wv,h⟩⟩]
  exact hend
 | succ d ih =>
  intro k hk
  have hlt:k < n:=by omega
  refine hstep k hlt _ (fun hp=>?_) (fun hp=>?_)
  ·rw [eF]
   intro h
   exact hp ((kq hlt).1 h.1).1
  ·rw [show tt (gm k n P/\Q)=tt (gm (k + 1) n P/\Q) from bZ ⟨fun h=>⟨((kq hlt).1 h.1).2,h.2⟩,fun h=>⟨(kq hlt).2 ⟨hp,h.1⟩,h.2⟩⟩]
   exact ih (k + 1) (by omega)
theorem nT {A:AProg} {f:FuncId} {n:Nat} {P:Nat->Prop} {g:Nat->Prg TV} (hend:aa A f (g n) (B true))
  (hstep:∀ k,k < n->∀ r,(¬ P k->r=B false)->(P k->aa A f (g (k + 1)) r)->aa A f (g k) r):aa A f (g 0) (B (tt (∀ i,i < n->P i))):=by
 have:=zE (Q:=True) (by rw [cg trivial]; exact hend) hstep n 0 (by omega)
 rw [show tt (∀ i,i < n->P i)=tt (gm 0 n P/\True) from bZ ⟨fun h=>⟨kn.2 h,trivial⟩,fun h=>kn.1 h.1⟩]
 exact this
theorem a7 {k n:Nat} (h:k < n):asBool (.lit (.bool (decide ((k:Int) < (n:Int)))))=some true:=by simp [asBool,h]
theorem bg {n:Nat}:asBool (.lit (.bool (decide ((n:Int) < (n:Int)))))=some false:=by simp [asBool]
end Go.Ab
namespace Go.Ab
theorem lX:∀ {zs:List Value} {e:List TV} {j:Nat},ab zs e j=true->bP zs e j=true
 | [],_,_,_=>rfl
 | z :: zs, e, j, h => by
  unfold ab at h
  unfold bP
  split at h
  ·rename_i c hc
   rw [EJ] at h
   rw [EJ]
   refine ⟨?_,lX h.2⟩
   have h1:=h.1
   cases hz:aI z with
   | true=>rw [hz] at h1; simp only [cond_true] at h1 ⊢; rw [h1]; rfl
   | false=>rw [hz] at h1; exact h1
  ·cases h
end Go.Ab
end
section
namespace Go.Ab
def Ek:List (Nat × fo)->Nat->Option fo
 | [],_=>none
 | (k,d) :: r,t=>bif k.beq t then some d else Ek r t
end Go.Ab
end
section
namespace Go.Ab.T12
open Go.Ab Go.Proofs
def Jk:AV:=AV.one CA.junk
def Sr (i:Nat):AV:=AV.one (CA.sref i 0 [])
def Pt (i:Nat):AV:=AV.one (CA.ptr i 0)
def Tr (w:TV):Option BC:=some (BC.tree [w])
def Ct (y:TV):Option BC:=some (BC.cells [CA.t y])
def Rj (n:Nat):List AV:=List.replicate n (AV.one CA.junk)
def Rz (n:Nat):List (Option BC):=List.replicate n none
def cW:List (Nat × Ann)->Nat->Option Ann
 | [],_=>none
 | (k,d) :: r,t=>bif k.beq t then some d else cW r t
def z2:List Value:=[.int .i64 0]
def z3:List Value:=[.int .i64 0]
def z4:List Value:=[.bool false]
def z5:List Value:=[.int .u8 0]
def z6:List Value:=[.int .u8 0]
def z7:List Value:=[.int .i64 0,.int .i64 0,.bool false,.int .u8 0]
def z8:List Value:=[.int .i64 0,.int .i64 0,.bool false,.int .u8 0]
def z9:List Value:=[.string ⟨#[]⟩]
def z10:List Value:=[.string ⟨#[]⟩]
def z11:List Value:=[.string ⟨#[]⟩]
def z12:List Value:=[.int .u64 0]
def z13:List Value:=[.string ⟨#[]⟩,.int .u64 0]
def z14:List Value:=[.string ⟨#[]⟩,.int .u64 0]
def z15:List Value:=[.pointer none]
def z16:List Value:=[.pointer none]
def z17:List Value:=[.pointer none]
def z18:List Value:=[.pointer none]
def z19:List Value:=[.pointer none]
def z20:List Value:=[.nilIface]
def z21:List Value:=[.int .i32 0]
def z22:List Value:=[.slice none 0 0]
def z23:List Value:=[.slice none 0 0]
def z24:List Value:=[.slice none 0 0]
def z25:List Value:=[.nilFunc]
def z26:List Value:=[.nilFunc]
def z27:List Value:=[.slice none 0 0]
def z28:List Value:=[.nilFunc]
def z29:List Value:=[.nilFunc]
def z30:List Value:=[.nilFunc]
def z31:List Value:=[.slice none 0 0]
def z32:List Value:=[.slice none 0 0]
def z33:List Value:=[.nilFunc]
def z34:List Value:=[.slice none 0 0]
def z35:List Value:=[.int .u16 0]
def z36:List Value:=[.int .u16 0,.int .u16 0,.int .u16 0,.int .u16 0,.int .u16 0,.int .u16 0,.int .u16 0,.int .u16 0,.int .u16 0,.int .u16 0,.int .u16 0,.int .u16 0,.int .u16 0,.int .u16 0,.int .u16 0,.int .u16 0]
def z37:List Value:=[.slice none 0 0,.int .u16 0,.int .u16 0,.int .u16 0,.int .u16 0,.int .u16 0,.int .u16 0,.int .u16 0,.int .u16 0,.int .u16 0,.int .u16 0,.int .u16 0,.int .u16 0,.int .u16 0,.int .u16 0,.int .u16 0,.int .u16 0,.slice none 0 0,.slice none 0 0,.int .i64 0,.int .u16 0]
def z38:List Value:=[.slice none 0 0,.int .u16 0,.int .u16 0,.int .u16 0,.int .u16 0,.int .u16 0,.int .u16 0,.int .u16 0,.int .u16 0,.int .u16 0,.int .u16 0,.int .u16 0,.int .u16 0,.int .u16 0,.int .u16 0,.int .u16 0,.int .u16 0,.slice none 0 0,.slice none 0 0,.int .i64 0,.int .u16 0]
def z39:List Value:=[.int .i64 0]
def z41:List Value:=[.nilFunc]
def z42:List Value:=[.int .i64 0,.int .i64 0,.int .i64 0,.slice none 0 0,.int .u16 0]
def z43:List Value:=[.int .i64 0,.int .i64 0,.int .i64 0,.slice none 0 0,.int .u16 0]
def z44:List Value:=[.int .i64 0,.slice none 0 0,.bool false,.bool false]
def z45:List Value:=[.int .i64 0,.slice none 0 0,.bool false,.bool false]
def z46:List Value:=[.slice none 0 0]
def z47:List Value:=[.int .i64 0,.int .i64 0,.int .i64 0,.int .i64 0,.slice none 0 0,.int .i64 0,.int .i64 0,.int .i64 0]
def z48:List Value:=[.int .i64 0,.int .i64 0,.int .i64 0,.int .i64 0,.slice none 0 0,.int .i64 0,.int .i64 0,.int .i64 0]
def z49:List Value:=[.bool false,.int .i64 0,.slice none 0 0,.bool false,.bool false,.slice none 0 0,.int .i64 0,.int .i64 0,.int .i64 0,.int .i64 0,.slice none 0 0,.int .i64 0,.int .i64 0,.int .i64 0]
def z50:List Value:=[.bool false,.int .i64 0,.slice none 0 0,.bool false,.bool false,.slice none 0 0,.int .i64 0,.int .i64 0,.int .i64 0,.int .i64 0,.slice none 0 0,.int .i64 0,.int .i64 0,.int .i64 0]
def z51:List Value:=[.slice none 0 0]
def z52:List Value:=[.int .i64 0,.int .i64 0,.slice none 0 0]
def z53:List Value:=[.int .i64 0,.int .i64 0,.slice none 0 0]
def z54:List Value:=[.nilFunc]
def z55:List Value:=[.nilFunc]
def z56:List Value:=[.int .i64 0,.int .i64 0,.int .i64 0,.int .i64 0,.int .u16 0,.int .i64 0,.slice none 0 0]
def z57:List Value:=[.int .i64 0,.int .i64 0,.int .i64 0,.int .i64 0,.int .u16 0,.int .i64 0,.slice none 0 0]
def z58:List Value:=[.nilFunc]
def z59:List Value:=[.nilFunc]
def z60:List Value:=[.nilFunc]
def z61:List Value:=[.nilFunc]
def z62:List Value:=[.nilFunc]
def z63:List Value:=[.nilFunc]
def z64:List Value:=[.nilFunc]
def z66:List Value:=[.nilFunc]
def z67:List Value:=[.nilFunc]
def z68:List Value:=[.nilFunc]
def z69:List Value:=[.nilFunc]
def z70:List Value:=[.slice none 0 0,.int .u16 0,.int .u16 0,.int .u16 0,.int .u16 0,.int .u16 0,.int .u16 0,.int .u16 0,.int .u16 0,.int .u16 0,.int .u16 0,.int .u16 0,.int .u16 0,.int .u16 0,.int .u16 0,.int .u16 0,.int .u16 0,.slice none 0 0,.slice none 0 0,.int .i64 0,.int .u16 0,.slice none 0 0]
def z71:List Value:=[.slice none 0 0,.int .u16 0,.int .u16 0,.int .u16 0,.int .u16 0,.int .u16 0,.int .u16 0,.int .u16 0,.int .u16 0,.int .u16 0,.int .u16 0,.int .u16 0,.int .u16 0,.int .u16 0,.int .u16 0,.int .u16 0,.int .u16 0,.slice none 0 0,.slice none 0 0,.int .i64 0,.int .u16 0,.slice none 0 0]
def z72:List Value:=[.nilFunc]
def z73:List Value:=[.nilFunc]
def z74:List Value:=[.nilFunc]
def z75:List Value:=[.nilFunc]
def z76:List Value:=[.nilFunc]
def z77:List Value:=[.nilFunc]
def z78:List Value:=[.nilFunc]
def z79:List Value:=[.nilFunc]
def z80:List Value:=[.nilFunc]
def z81:List Value:=[.nilFunc]
def z82:List Value:=[.nilFunc]
def z83:List Value:=[.nilFunc]
def z84:List Value:=[.pointer none]
def z85:List Value:=[.pointer none]
def z86:List Value:=[.nilFunc]
def z87:List Value:=[.nilFunc]
def z88:List Value:=[.nilFunc]
def z89:List Value:=[.nilFunc]
def z90:List Value:=[.nilFunc]
def z91:List Value:=[.nilFunc]
def z92:List Value:=[.nilFunc]
def z93:List Value:=[.nilFunc]
def z94:List Value:=[.nilFunc]
def z95:List Value:=[.nilFunc]
def z96:List Value:=[.nilFunc]
def z97:List Value:=[.nilFunc]
def z98:List Value:=[.nilFunc]
def z99:List Value:=[.slice none 0 0,.int .i64 0,.int .i64 0,.slice none 0 0]
def z100:List Value:=[.slice none 0 0,.int .i64 0,.int .i64 0,.slice none 0 0]
def z101:List Value:=[.pointer none]
def z102:List Value:=[.nilFunc]
def z103:List Value:=[.nilFunc]
def z105:List Value:=[.nilFunc]
def z106:List Value:=[.nilFunc]
def z107:List Value:=[.nilFunc]
def z109:List Value:=[.nilFunc]
def z110:List Value:=[.nilFunc]
def z111:List Value:=[.nilFunc]
def z112:List Value:=[.nilFunc]
def z113:List Value:=[.nilFunc]
def z115:List Value:=[.nilFunc]
def z116:List Value:=[.nilFunc]
def z117:List Value:=[.nilFunc]
def z118:List Value:=[.nilFunc]
def z119:List Value:=[.int .i64 0]
def z120:List Value:=[.nilFunc]
def z121:List Value:=[.nilFunc]
def z122:List Value:=[.nilFunc]
def z123:List Value:=[.nilFunc]
def z124:List Value:=[.nilFunc]
def z125:List Value:=[.nilFunc]
def z126:List Value:=[.nilFunc]
def z127:List Value:=[.nilFunc]
def z128:List Value:=[.nilFunc]
def z129:List Value:=[.nilFunc]
def z130:List Value:=[.pointer none,.pointer none,.pointer none,.string ⟨#[]⟩]
def z131:List Value:=[.pointer none,.pointer none,.pointer none,.string ⟨#[]⟩]
def z132:List Value:=[]
def z133:List Value:=[]
def z134:List Value:=[]
def z135:List Value:=[.nilFunc]
def z136:List Value:=[.int .u32 0]
def z137:List Value:=[.int .u8 0]
def z138:List Value:=[.int .u8 0]
def z139:List Value:=[.nilFunc]
def z140:List Value:=[.pointer none]
def z141:List Value:=[.int .i32 0]
def z142:List Value:=[.int .i32 0]
def z143:List Value:=[.int .u64 0,.int .u64 0,.int .u32 0,.int .u8 0,.int .u8 0,.int .u8 0,.int .u8 0,.nilFunc,.pointer none,.int .i32 0,.int .i32 0]
def z144:List Value:=[.int .u64 0,.int .u64 0,.int .u32 0,.int .u8 0,.int .u8 0,.int .u8 0,.int .u8 0,.nilFunc,.pointer none,.int .i32 0,.int .i32 0]
def tab:Tab:=sm [
 (2,⟨1,8,.int .i64,z2,[]⟩),
 (3,⟨1,8,.int .i64,z3,[]⟩),
 (4,⟨1,1,.bool,z4,[]⟩),
 (5,⟨1,1,.int .u8,z5,[]⟩),
 (6,⟨1,1,.int .u8,z6,[]⟩),
 (7,⟨4,24,.struct,z7,[(0,2),(1,3),(2,4),(3,6)]⟩),
 (8,⟨4,24,.struct,z8,[(0,2),(1,3),(2,4),(3,6)]⟩),
 (9,⟨1,16,.str,z9,[]⟩),
 (10,⟨1,16,.str,z10,[]⟩),
 (11,⟨1,16,.str,z11,[]⟩),
 (12,⟨1,8,.int .u64,z12,[]⟩),
 (13,⟨2,24,.struct,z13,[(0,9),(1,12)]⟩),
 (14,⟨2,24,.struct,z14,[(0,9),(1,12)]⟩),
 (15,⟨1,8,.ptr,z15,[]⟩),
 (16,⟨1,8,.ptr,z16,[]⟩),
 (17,⟨1,8,.ptr,z17,[]⟩),
 (18,⟨1,8,.struct,z18,[(0,17)]⟩),
 (19,⟨1,8,.struct,z19,[(0,17)]⟩),
 (20,⟨1,16,.other,z20,[]⟩),
 (21,⟨1,4,.int .i32,z21,[]⟩),
 (22,⟨1,24,.slice 53,z22,[]⟩),
 (23,⟨1,24,.struct,z23,[(0,22)]⟩),
 (24,⟨1,24,.struct,z24,[(0,22)]⟩),
 (25,⟨1,8,.other,z25,[]⟩),
 (26,⟨1,8,.other,z26,[]⟩),
 (27,⟨1,24,.slice 4,z27,[]⟩),
 (28,⟨1,8,.other,z28,[]⟩),
 (29,⟨1,8,.other,z29,[]⟩),
 (30,⟨1,8,.other,z30,[]⟩),
 (31,⟨1,24,.slice 3,z31,[]⟩),
 (32,⟨1,24,.slice 35,z32,[]⟩),
 (33,⟨1,8,.other,z33,[]⟩),
 (34,⟨1,24,.slice 43,z34,[]⟩),
 (35,⟨1,2,.int .u16,z35,[]⟩),
 (36,⟨16,32,.arr 16 35,z36,[]⟩),
 (37,⟨21,120,.struct,z37,[(0,34),(1,36),(17,32),(18,31),(19,3),(20,35)]⟩),
 (38,⟨21,120,.struct,z38,[(0,34),(1,36),(17,32),(18,31),(19,3),(20,35)]⟩),
 (39,⟨1,8,.int .i64,z39,[]⟩),
 (41,⟨1,8,.other,z41,[]⟩),
 (42,⟨5,56,.struct,z42,[(0,3),(1,3),(2,3),(3,32),(4,35)]⟩),
 (43,⟨5,56,.struct,z43,[(0,3),(1,3),(2,3),(3,32),(4,35)]⟩),
 (44,⟨4,40,.struct,z44,[(0,3),(1,32),(2,4),(3,4)]⟩),
 (45,⟨4,40,.struct,z45,[(0,3),(1,32),(2,4),(3,4)]⟩),
 (46,⟨1,24,.slice 57,z46,[]⟩),
 (47,⟨8,80,.struct,z47,[(0,3),(1,3),(2,3),(3,3),(4,31),(5,3),(6,3),(7,3)]⟩),
 (48,⟨8,80,.struct,z48,[(0,3),(1,3),(2,3),(3,3),(4,31),(5,3),(6,3),(7,3)]⟩),
 (49,⟨14,152,.struct,z49,[(0,4),(1,45),(5,46),(6,48)]⟩),
 (50,⟨14,152,.struct,z50,[(0,4),(1,45),(5,46),(6,48)]⟩),
 (51,⟨1,24,.slice 50,z51,[]⟩),
 (52,⟨3,40,.struct,z52,[(0,3),(1,3),(2,51)]⟩),
 (53,⟨3,40,.struct,z53,[(0,3),(1,3),(2,51)]⟩),
 (54,⟨1,8,.other,z54,[]⟩),
 (55,⟨1,8,.other,z55,[]⟩),
 (56,⟨7,72,.struct,z56,[(0,3),(1,3),(2,3),(3,3),(4,35),(5,3),(6,31)]⟩),
 (57,⟨7,72,.struct,z57,[(0,3),(1,3),(2,3),(3,3),(4,35),(5,3),(6,31)]⟩),
 (58,⟨1,8,.other,z58,[]⟩),
 (59,⟨1,8,.other,z59,[]⟩),
 (60,⟨1,8,.other,z60,[]⟩),
 (61,⟨1,8,.other,z61,[]⟩),
 (62,⟨1,8,.other,z62,[]⟩),
 (63,⟨1,8,.other,z63,[]⟩),
 (64,⟨1,8,.other,z64,[]⟩),
 (66,⟨1,8,.other,z66,[]⟩),
 (67,⟨1,8,.other,z67,[]⟩),
 (68,⟨1,8,.other,z68,[]⟩),
 (69,⟨1,8,.other,z69,[]⟩),
 (70,⟨22,144,.struct,z70,[(0,38),(21,24)]⟩),
 (71,⟨22,144,.struct,z71,[(0,38),(21,24)]⟩),
 (72,⟨1,8,.other,z72,[]⟩),
 (73,⟨1,8,.other,z73,[]⟩),
 (74,⟨1,8,.other,z74,[]⟩),
 (75,⟨1,8,.other,z75,[]⟩),
 (76,⟨1,8,.other,z76,[]⟩),
 (77,⟨1,8,.other,z77,[]⟩),
 (78,⟨1,8,.other,z78,[]⟩),
 (79,⟨1,8,.other,z79,[]⟩),
 (80,⟨1,8,.other,z80,[]⟩),
 (81,⟨1,8,.other,z81,[]⟩),
 (82,⟨1,8,.other,z82,[]⟩),
 (83,⟨1,8,.other,z83,[]⟩),
 (84,⟨1,8,.ptr,z84,[]⟩),
 (85,⟨1,8,.ptr,z85,[]⟩),
 (86,⟨1,8,.other,z86,[]⟩),
 (87,⟨1,8,.other,z87,[]⟩),
 (88,⟨1,8,.other,z88,[]⟩),
 (89,⟨1,8,.other,z89,[]⟩),
 (90,⟨1,8,.other,z90,[]⟩),
 (91,⟨1,8,.other,z91,[]⟩),
 (92,⟨1,8,.other,z92,[]⟩),
 (93,⟨1,8,.other,z93,[]⟩),
 (94,⟨1,8,.other,z94,[]⟩),
 (95,⟨1,8,.other,z95,[]⟩),
 (96,⟨1,8,.other,z96,[]⟩),
 (97,⟨1,8,.other,z97,[]⟩),
 (98,⟨1,8,.other,z98,[]⟩),
 (99,⟨4,64,.struct,z99,[(0,22),(1,53)]⟩),
 (100,⟨4,64,.struct,z100,[(0,22),(1,53)]⟩),
 (101,⟨1,8,.ptr,z101,[]⟩),
 (102,⟨1,8,.other,z102,[]⟩),
 (103,⟨1,8,.other,z103,[]⟩),
 (105,⟨1,8,.other,z105,[]⟩),
 (106,⟨1,8,.other,z106,[]⟩),
 (107,⟨1,8,.other,z107,[]⟩),
 (109,⟨1,8,.other,z109,[]⟩),
 (110,⟨1,8,.other,z110,[]⟩),
 (111,⟨1,8,.other,z111,[]⟩),
 (112,⟨1,8,.other,z112,[]⟩),
 (113,⟨1,8,.other,z113,[]⟩),
 (115,⟨1,8,.other,z115,[]⟩),
 (116,⟨1,8,.other,z116,[]⟩),
 (117,⟨1,8,.other,z117,[]⟩),
 (118,⟨1,8,.other,z118,[]⟩),
 (119,⟨1,8,.int .i64,z119,[]⟩),
 (120,⟨1,8,.other,z120,[]⟩),
 (121,⟨1,8,.other,z121,[]⟩),
 (122,⟨1,8,.other,z122,[]⟩),
 (123,⟨1,8,.other,z123,[]⟩),
 (124,⟨1,8,.other,z124,[]⟩),
 (125,⟨1,8,.other,z125,[]⟩),
 (126,⟨1,8,.other,z126,[]⟩),
 (127,⟨1,8,.other,z127,[]⟩),
 (128,⟨1,8,.other,z128,[]⟩),
 (129,⟨1,8,.other,z129,[]⟩),
 (130,⟨4,40,.struct,z130,[(0,17),(1,17),(2,17),(3,9)]⟩),
 (131,⟨4,40,.struct,z131,[(0,17),(1,17),(2,17),(3,9)]⟩),
 (132,⟨0,0,.arr 0 16,z132,[]⟩),
 (133,⟨0,0,.struct,z133,[(0,132)]⟩),
 (134,⟨0,0,.struct,z134,[(0,132)]⟩),
 (135,⟨1,8,.other,z135,[]⟩),
 (136,⟨1,4,.int .u32,z136,[]⟩),
 (137,⟨1,1,.int .u8,z137,[]⟩),
 (138,⟨1,1,.int .u8,z138,[]⟩),
 (139,⟨1,8,.other,z139,[]⟩),
 (140,⟨1,8,.ptr,z140,[]⟩),
 (141,⟨1,4,.int .i32,z141,[]⟩),
 (142,⟨1,4,.int .i32,z142,[]⟩),
 (143,⟨11,48,.struct,z143,[(0,12),(1,12),(2,136),(3,137),(4,5),(5,5),(6,138),(7,139),(8,140),(9,141),(10,142)]⟩),
 (144,⟨11,48,.struct,z144,[(0,12),(1,12),(2,136),(3,137),(4,5),(5,5),(6,138),(7,139),(8,140),(9,141),(10,142)]⟩)]
def pure (f:FuncId):Bool:=bU f [64,25,69,71,45,26,28,16,17,8,9,10,13,14]
def Ev:List (Nat × List Nat)->Nat->List Nat
 | [],_=>[]
 | (k,d) :: r,t=>bif k.beq t then d else Ev r t
def rts:FuncId->List TypeId:=Ev [(4,[4]),(6,[4]),(7,[4]),(8,[27]),(9,[27]),(10,[27]),(15,[4]),(16,[38,39]),(17,[38,39]),(18,[27]),(19,[4]),(20,[4]),(21,[4]),(22,[61]),(25,[43,39]),(26,[32]),(27,[4]),(28,[38]),(29,[]),(30,[4]),(31,[4]),(32,[4]),(33,[4]),(34,[4]),(35,[4]),(36,[4]),(37,[4]),(41,[4]),(42,[4]),(43,[4]),(44,[34]),(45,[31]),(46,[85]),(47,[50]),(48,[]),(49,[]),(50,[4]),(51,[3]),(52,[3]),(53,[3]),(58,[]),(59,[]),(60,[]),(61,[]),(62,[]),(63,[]),(64,[43]),(65,[]),(66,[4]),(67,[101]),(68,[]),(69,[43,4]),(70,[]),(71,[43]),(72,[4]),(73,[45,4]),(74,[4]),(75,[]),(76,[4]),(77,[4]),(78,[4]),(79,[35,4]),(80,[4]),(81,[4]),(82,[4]),(83,[119]),(84,[4]),(85,[4]),(86,[119]),(87,[4]),(88,[4]),(89,[35,4]),(90,[3]),(91,[4]),(92,[35,4]),(93,[35])]
def f4_ann:Nat->Option Ann:=cW [(12,⟨[2,5,7,8,9,10],[7,8,9],[],[],[]⟩),(21,⟨[2,5,7,8,9,10,13,14,16],[7,8,9],[],[],[]⟩)]
def f4_jn:Nat->Option Ann:=cW [(17,⟨[2,5,7,8,9,10,13],[7,8,9],[],[],[]⟩)]
def f7_ann:Nat->Option Ann:=cW [(5,⟨[1,3,4],[],[],[],[]⟩),(10,⟨[1,3,4,5],[],[],[],[]⟩),(17,⟨[1,3,4,5,6,7],[],[],[],[]⟩)]
def f17_jn:Nat->Option Ann:=cW [(6,⟨[4,6],[],[(6,0),(6,17),(6,18),(6,21)],[4],[]⟩)]
def f18_ann:Nat->Option Ann:=cW [(5,⟨[2,3,5,6],[],[],[],[]⟩),(8,⟨[2,3,5,6,18,19,20],[],[],[],[]⟩)]
def f19_jn:Nat->Option Ann:=cW [(2,⟨[2,3,4,7],[],[],[],[]⟩)]
def f27_ann:Nat->Option Ann:=cW [(6,⟨[2,3,36,37,38],[],[],[],[]⟩)]
def f27_jn:Nat->Option Ann:=cW [(5,⟨[2,3],[],[],[],[]⟩)]
def f28_ann:Nat->Option Ann:=cW [(3,⟨[1,2,10,11],[],[],[2],[]⟩)]
def f28_jn:Nat->Option Ann:=cW [(7,⟨[1,2],[],[],[2],[]⟩)]
def f29_jn:Nat->Option Ann:=cW [(1,⟨[0,2],[],[],[],[(0,21)]⟩)]
def f30_ann:Nat->Option Ann:=cW [(4,⟨[1,24,25,26],[],[],[],[]⟩)]
def f49_jn:Nat->Option Ann:=cW [(9,⟨[1,5],[],[],[],[]⟩)]
def f50_ann:Nat->Option Ann:=cW [(7,⟨[5,50,51,52],[],[],[],[]⟩)]
def f51_ann:Nat->Option Ann:=cW [(2,⟨[0,1,7,8],[],[],[],[]⟩)]
def f52_ann:Nat->Option Ann:=cW [(2,⟨[0,1,7,8],[],[],[],[]⟩)]
def f53_ann:Nat->Option Ann:=cW [(2,⟨[0,1,7,8],[],[],[],[]⟩)]
def f60_ann:Nat->Option Ann:=cW [(4,⟨[0,1,2,8,30,31,32],[8],[],[],[]⟩)]
def f60_jn:Nat->Option Ann:=cW [(8,⟨[0,2,8],[8],[],[],[]⟩)]
def f65_ann:Nat->Option Ann:=cW [(3,⟨[0,1],[],[],[],[]⟩)]
def f65_jn:Nat->Option Ann:=cW [(6,⟨[0,1,4,5,35],[],[],[],[]⟩)]
def f66_ann:Nat->Option Ann:=cW [(4,⟨[2,3,21,22,23],[],[],[],[]⟩)]
def f66_jn:Nat->Option Ann:=cW [(9,⟨[2,3],[],[],[],[]⟩)]
def f72_ann:Nat->Option Ann:=cW [(2,⟨[0,1,13,14,15],[],[],[],[]⟩)]
def f82_ann:Nat->Option Ann:=cW [(2,⟨[0,5,6,7],[],[],[],[]⟩)]
def f85_ann:Nat->Option Ann:=cW [(6,⟨[4,40,41,42],[],[],[],[]⟩)]
def f90_ann:Nat->Option Ann:=cW [(2,⟨[0,1,7,8],[],[],[],[]⟩)]
noncomputable def fns:FuncId->Option Func:=fun f=>bif f.beq 4 then some Try.f4 else bif f.beq 6 then some Try.f6 else bif f.beq 7 then some Try.f7 else bif f.beq 8 then some Try.f8 else bif f.beq 9 then some Try.f9 else bif f.beq 10 then some Try.f10 else bif f.beq 15 then some Try.f15 else bif f.beq 16 then some Try.f16 else bif f.beq 17 then some Try.f17 else bif f.beq 18 then some Try.f18 else bif f.beq 19 then some Try.f19 else bif f.beq 20 then some Try.f20 else bif f.beq 21 then some Try.f21 else bif f.beq 22 then some Try.f22 else bif f.beq 25 then some Try.f25 else bif f.beq 26 then some Try.f26 else bif f.beq 27 then some Try.f27 else bif f.beq 28 then some Try.f28 else bif f.beq 29 then some Try.f29 else bif f.beq 30 then some Try.f30 else bif f.beq 31 then some Try.f31 else bif f.beq 32 then some Try.f32 else bif f.beq 33 then some Try.f33 else bif f.beq 34 then some Try.f34 else bif f.beq 35 then some Try.f35 else bif f.beq 36 then some Try.f36 else bif f.beq 37 then some Try.f37 else bif f.beq 41 then some Try.f41 else bif f.beq 42 then some Try.f42 else bif f.beq 43 then some Try.f43 else bif f.beq 44 then some Try.f44 else bif f.beq 45 then some Try.f45 else bif f.beq 46 then some Try.f46 else bif f.beq 47 then some Try.f47 else bif f.beq 48 then some Try.f48 else bif f.beq 49 then some Try.f49 else bif f.beq 50 then some Try.f50 else bif f.beq 51 then some Try.f51 else bif f.beq 52 then some Try.f52 else bif f.beq 53 then some Try.f53 else bif f.beq 58 then some Try.f58 else bif f.beq 59 then some Try.f59 else bif f.beq 60 then some Try.f60 else bif f.beq 61 then some Try.f61 else bif f.beq 62 then some Try.f62 else bif f.beq 63 then some Try.f63 else bif f.beq 64 then some Try.f64 else bif f.beq 65 then some Try.f65 else bif f.beq 66 then some Try.f66 else bif f.beq 67 then some Try.f67 else bif f.beq 68 then some Try.f68 else bif f.beq 69 then some Try.f69 else bif f.beq 70 then some Try.f70 else bif f.beq 71 then some Try.f71 else bif f.beq 72 then some Try.f72 else bif f.beq 73 then some Try.f73 else bif f.beq 74 then some Try.f74 else bif f.beq 75 then some Try.f75 else bif f.beq 76 then some Try.f76 else bif f.beq 77 then some Try.f77 else bif f.beq 78 then some Try.f78 else bif f.beq 79 then some Try.f79 else bif f.beq 80 then some Try.f80 else bif f.beq 81 then some Try.f81 else bif f.beq 82 then some Try.f82 else bif f.beq 83 then some Try.f83 else bif f.beq 84 then some Try.f84 else bif f.beq 85 then some Try.f85 else bif f.beq 86 then some Try.f86 else bif f.beq 87 then some Try.f87 else bif f.beq 88 then some Try.f88 else bif f.beq 89 then some Try.f89 else bif f.beq 90 then some Try.f90 else bif f.beq 91 then some Try.f91 else bif f.beq 92 then some Try.f92 else bif f.beq 93 then some Try.f93 else none
def anns:FuncId->Nat->Option Ann:=fun f=>bif f.beq 4 then f4_ann else bif f.beq 7 then f7_ann else bif f.beq 18 then f18_ann else bif f.beq 27 then f27_ann else bif f.beq 28 then f28_ann else bif f.beq 30 then f30_ann else bif f.beq 50 then f50_ann else bif f.beq 51 then f51_ann else bif f.beq 52 then f52_ann else bif f.beq 53 then f53_ann else bif f.beq 60 then f60_ann else bif f.beq 65 then f65_ann else bif f.beq 66 then f66_ann else bif f.beq 72 then f72_ann else bif f.beq 82 then f82_ann else bif f.beq 85 then f85_ann else bif f.beq 90 then f90_ann else fun _=>none
def jns:FuncId->Nat->Option Ann:=fun f=>bif f.beq 4 then f4_jn else bif f.beq 17 then f17_jn else bif f.beq 19 then f19_jn else bif f.beq 27 then f27_jn else bif f.beq 28 then f28_jn else bif f.beq 29 then f29_jn else bif f.beq 49 then f49_jn else bif f.beq 60 then f60_jn else bif f.beq 65 then f65_jn else bif f.beq 66 then f66_jn else fun _=>none
def lent:FuncId->Option fo:=Ek [(29,⟨71,[.sl,.sc,.sc,.sc,.sc,.sc,.sc,.sc,.sc,.sc,.sc,.sc,.sc,.sc,.sc,.sc,.sc,.sl,.sl,.sc,.sc,.sl]⟩)]
def selfT (t:TypeId):Bool:=bU t []
def ext:FuncId->Option (List TV->Option TV):=fun f=>none
def opn (f:FuncId):Bool:=bU f [18,19,22,31,32,33,34,35,36,46,48,49,51,52,58,59,60,61,62,63,65,67,68,70,72,73,75]
def dT:List (Nat × List Nat)->Nat->Option (List Nat)
 | [],_=>none
 | (k,d) :: r,t=>bif k.beq t then some d else dT r t
def f8_kp:Nat->Option (List Nat):=dT [(1001,[])]
def f9_kp:Nat->Option (List Nat):=dT [(1002,[1,3]),(1003,[])]
def f10_kp:Nat->Option (List Nat):=dT [(1002,[1,3]),(1003,[])]
def f18_kp:Nat->Option (List Nat):=dT [(10009,[2,3,5,6,7,18,19,20,30])]
def f20_kp:Nat->Option (List Nat):=dT [(1003,[])]
def f29_kp:Nat->Option (List Nat):=dT [(1,[0]),(3010,[]),(4004,[])]
def f31_kp:Nat->Option (List Nat):=dT [(1002,[])]
def f32_kp:Nat->Option (List Nat):=dT [(1004,[])]
def f33_kp:Nat->Option (List Nat):=dT [(1002,[])]
def f35_kp:Nat->Option (List Nat):=dT [(1003,[2,5])]
def f48_kp:Nat->Option (List Nat):=dT [(2003,[]),(4003,[]),(6003,[]),(8006,[]),(13003,[])]
def f49_kp:Nat->Option (List Nat):=dT [(3009,[]),(11006,[]),(13009,[]),(15005,[])]
def f51_kp:Nat->Option (List Nat):=dT [(4005,[0,1,5,7,8])]
def f52_kp:Nat->Option (List Nat):=dT [(4005,[0,1,5,7,8])]
def f58_kp:Nat->Option (List Nat):=dT [(1009,[1,5])]
def f59_kp:Nat->Option (List Nat):=dT [(1009,[1,5])]
def f60_kp:Nat->Option (List Nat):=dT [(1001,[])]
def f61_kp:Nat->Option (List Nat):=dT [(2001,[])]
def f62_kp:Nat->Option (List Nat):=dT [(3001,[])]
def f63_kp:Nat->Option (List Nat):=dT [(1,[0,1]),(2002,[]),(3001,[0,1])]
def f65_kp:Nat->Option (List Nat):=dT [(1,[0,1]),(1002,[0,1]),(2002,[]),(3001,[0,1]),(4004,[0,1,4]),(6004,[]),(7001,[0,1])]
def f67_kp:Nat->Option (List Nat):=dT [(2001,[])]
def f72_kp:Nat->Option (List Nat):=dT [(4002,[0,1,13,14,15])]
def kps:FuncId->Nat->Option (List Nat):=fun f=>bif f.beq 8 then f8_kp else bif f.beq 9 then f9_kp else bif f.beq 10 then f10_kp else bif f.beq 18 then f18_kp else bif f.beq 20 then f20_kp else bif f.beq 29 then f29_kp else bif f.beq 31 then f31_kp else bif f.beq 32 then f32_kp else bif f.beq 33 then f33_kp else bif f.beq 35 then f35_kp else bif f.beq 48 then f48_kp else bif f.beq 49 then f49_kp else bif f.beq 51 then f51_kp else bif f.beq 52 then f52_kp else bif f.beq 58 then f58_kp else bif f.beq 59 then f59_kp else bif f.beq 60 then f60_kp else bif f.beq 61 then f61_kp else bif f.beq 62 then f62_kp else bif f.beq 63 then f63_kp else bif f.beq 65 then f65_kp else bif f.beq 67 then f67_kp else bif f.beq 72 then f72_kp else fun _=>none
def peek:FuncId->Option (Nat × Nat):=fun f=>bif f.beq 47 then some (21,22) else none
def turn (f:FuncId):Bool:=bU f []
def mth:TypeId->String->Option (FuncId × Bool):=fun t s=>none
def eye (f:FuncId):Bool:=bU f []
def cold (t:TypeId):Bool:=bU t []
noncomputable def prog:AProg:=⟨tab,pure,rts,fns,anns,jns,lent,selfT,ext,opn,kps,peek,turn,mth,eye,cold⟩
end Go.Ab.T12
end

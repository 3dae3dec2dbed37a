import Derived.Test.YtfnpejmlcbkepaaUM0
import Derived.IntWalk
import Derived.Lib.ItoaNum
import Derived.Test.YtfnpejmlcbkepaaProg
set_option linter.all false
section
namespace Go.Ab
def bm:List Value:=[.int .i64 0]
def gG:List Value:=[.bool false]
def zSl:List Value:=[.slice none 0 0]
def Du:List Value:=[.int .i64 0,.int .i64 0,.int .i64 0,.int .i64 0,.slice none 0 0,.int .i64 0,.int .i64 0,.int .i64 0]
end Go.Ab
end
section
namespace Go.Ab
section
variable {R:Type} {C C':FuncId->List TV->Option TV} {J J':List Nat->ASt->Option R}
theorem Prg.cY (hC:∀ f xs v,C f xs=some v->C' f xs=some v) (hJ:∀ p st r,J p st=some r->J' p st=some r):∀ {p:Prg R} {r:R},p.run C J=some r->p.run C' J'=some r
 | .fail,r,h=>by simp [Prg.run] at h
 | .ret x,r,h=>h
 | .tv p k,r,h=>by
  cases p with
  | none=>simp [Prg.run] at h
  | some v=>exact Prg.cY hC hJ (p:=k v) h
 | .tvs p k,r,h=>by
  cases p with
  | none=>simp [Prg.run] at h
  | some v=>exact Prg.cY hC hJ (p:=k v) h
 | .rws p k,r,h=>by
  cases p with
  | none=>simp [Prg.run] at h
  | some v=>exact Prg.cY hC hJ (p:=k v) h
 | .nat p k,r,h=>by
  cases p with
  | none=>simp [Prg.run] at h
  | some v=>exact Prg.cY hC hJ (p:=k v) h
 | .chk b k,r,h=>by
  cases b with
  | false=>simp [Prg.run] at h
  | true=>exact Prg.cY hC hJ (p:=k) h
 | .ite b t e, r, h => by
  cases b with
  | none=>simp [Prg.run] at h
  | some b =>
   cases b with
   | true=>exact Prg.cY hC hJ (p:=t) h
   | false=>exact Prg.cY hC hJ (p:=e) h
 | .call f xs k, r, h => by
  simp only [Prg.run] at h ⊢
  cases hc:C f xs with
  | none=>rw [hc] at h; simp at h
  | some v =>
   rw [hc] at h
   rw [hC _ _ _ hc]
   exact Prg.cY hC hJ (p:=k v) h
 | .jmp p st,r,h=>hJ _ _ _ h
end
section
variable {A:AProg} {f g:FuncId}
theorem jJ {C C':FuncId->List TV->Option TV} (hC:∀ f xs v,C f xs=some v->C' f xs=some v):∀ {m m':Nat},m<=m'->∀ {p:List Nat} {st:ASt} {r:TV},iK A C f m p st=some r->iK A C' f m' p st=some r
 | 0,_,_,_,_,_,h=>by simp [iK] at h
 | m + 1,0,hle,_,_,_,_=>by omega
 | m + 1,m' + 1,hle,p,st,r,h=>by
  simp only [iK] at h ⊢
  exact Prg.cY hC (fun p st r h=>jJ hC (by omega) h) h
theorem fR:∀ {n n':Nat},n<=n'->∀ {f:FuncId} {args:List TV} {r:TV},acall A n f args=some r->acall A n' f args=some r
 | 0,_,_,_,_,_,h=>by simp [acall] at h
 | n + 1,0,hle,_,_,_,_=>by omega
 | n + 1, n' + 1, hle, f, args, r, h => by
  simp only [acall] at h ⊢
  have hC:∀ f xs v,acall A n f xs=some v->acall A n' f xs=some v:=fun f xs v h=>fR (by omega) h
  split at h
  ·rename_i g hg
   exact h
  ·exact Prg.cY hC (fun p st r h=>jJ hC (by omega) h) h
def bQ (A:AProg) (f:FuncId) (args:List TV) (r:TV):Prop:=∃ n,acall A n f args=some r
def aa (A:AProg) (f:FuncId) (p:Prg TV) (r:TV):Prop:=∃ n,p.run (acall A n) (iK A (acall A n) f n)=some r
variable {r:TV}
theorem aa.up {p:Prg TV} {n n':Nat} (h:p.run (acall A n) (iK A (acall A n) f n)=some r) (hle:n<=n'):p.run (acall A n') (iK A (acall A n') f n')=some r :=
 Prg.cY (fun _ _ _ h=>fR hle h) (fun _ _ _ h=>jJ (fun _ _ _ h=>fR hle h) hle h) h
theorem aa.ret:aa A f (.ret r) r:=⟨0,rfl⟩
theorem ni {x:TV}:aa A f (.ret x) r ↔ x=r:=⟨fun ⟨n,h⟩=>by simpa [Prg.run] using h,fun h=>h ▸ aa.ret⟩
theorem Dp {p:Option TV} {k:TV->Prg TV}:aa A f (.tv p k) r ↔ ∃ v,p=some v/\aa A f (k v) r:=by
 constructor
 ·rintro ⟨n,h⟩
  cases p with
  | none=>simp [Prg.run] at h
  | some v=>exact ⟨v,rfl,n,h⟩
 ·rintro ⟨v,rfl,n,h⟩; exact ⟨n,h⟩
theorem CQ {p:Option (List TV)} {k:List TV->Prg TV}:aa A f (.tvs p k) r ↔ ∃ v,p=some v/\aa A f (k v) r:=by
 constructor
 ·rintro ⟨n,h⟩
  cases p with
  | none=>simp [Prg.run] at h
  | some v=>exact ⟨v,rfl,n,h⟩
 ·rintro ⟨v,rfl,n,h⟩; exact ⟨n,h⟩
theorem BZ {p:Option (List (List TV))} {k:List (List TV)->Prg TV}:aa A f (.rws p k) r ↔ ∃ v,p=some v/\aa A f (k v) r:=by
 constructor
 ·rintro ⟨n,h⟩
  cases p with
  | none=>simp [Prg.run] at h
  | some v=>exact ⟨v,rfl,n,h⟩
 ·rintro ⟨v,rfl,n,h⟩; exact ⟨n,h⟩
theorem A8 {p:Option Nat} {k:Nat->Prg TV}:aa A f (.nat p k) r ↔ ∃ v,p=some v/\aa A f (k v) r:=by
 constructor
 ·rintro ⟨n,h⟩
  cases p with
  | none=>simp [Prg.run] at h
  | some v=>exact ⟨v,rfl,n,h⟩
 ·rintro ⟨v,rfl,n,h⟩; exact ⟨n,h⟩
theorem Cf {b:Bool} {k:Prg TV}:aa A f (.chk b k) r ↔ b=true/\aa A f k r:=by
 constructor
 ·rintro ⟨n,h⟩
  cases b with
  | false=>simp [Prg.run] at h
  | true=>exact ⟨rfl,n,h⟩
 ·rintro ⟨rfl,n,h⟩; exact ⟨n,h⟩
theorem Ci {b:Option Bool} {t e:Prg TV}:aa A f (.ite b t e) r ↔ ∃ v,b=some v/\aa A f (bif v then t else e) r:=by
 constructor
 ·rintro ⟨n,h⟩
  cases b with
  | none=>simp [Prg.run] at h
  | some v=>refine ⟨v,rfl,n,?_⟩; cases v <;> exact h
 ·rintro ⟨v,rfl,n,h⟩; refine ⟨n,?_⟩; cases v <;> exact h
theorem Ac {xs:List TV} {k:TV->Prg TV}:aa A f (.call g xs k) r ↔ ∃ v,bQ A g xs v/\aa A f (k v) r:=by
 constructor
 ·rintro ⟨n,h⟩
  simp only [Prg.run] at h
  cases hc:acall A n g xs with
  | none=>rw [hc] at h; simp at h
  | some v=>rw [hc] at h; exact ⟨v,⟨n,hc⟩,n,h⟩
 ·rintro ⟨v,⟨n,hc⟩,m,h⟩
  refine ⟨max n m,?_⟩
  simp only [Prg.run]
  rw [fR (Nat.le_max_left n m) hc]
  exact aa.up h (Nat.le_max_right n m)
theorem Ba {p:List Nat} {st:ASt}:aa A f (.jmp p st) r ↔ aa A f (eP A f p st) r:=by
 constructor
 ·rintro ⟨n,h⟩
  cases n with
  | zero=>simp [Prg.run,iK] at h
  | succ n =>
   refine ⟨n + 1,?_⟩
   simp only [Prg.run,iK] at h
   exact Prg.cY (fun _ _ _ h=>h) (fun _ _ _ h=>jJ (fun _ _ _ h=>h) (Nat.le_succ n) h) h
 ·rintro ⟨n,h⟩
  refine ⟨n + 1,?_⟩
  simp only [Prg.run,iK]
  exact Prg.cY (fun _ _ _ h=>fR (Nat.le_succ n) h) (fun _ _ _ h=>jJ (fun _ _ _ h=>fR (Nat.le_succ n) h) (Nat.le_refl n) h) h
theorem BN {args:List TV} (hx:A.ext f=none):bQ A f args r ↔ aa A f (bT A f args) r:=by
 constructor
 ·rintro ⟨n,h⟩
  cases n with
  | zero=>simp [acall] at h
  | succ n=>simp only [acall,hx] at h; exact ⟨n,h⟩
 ·rintro ⟨n,h⟩; exact ⟨n + 1,by simp only [acall,hx]; exact h⟩
theorem aa.tv {p:Option TV} {k:TV->Prg TV} {v:TV} (h:p=some v) (hk:aa A f (k v) r):aa A f (.tv p k) r:=Dp.2 ⟨v,h,hk⟩
theorem aa.tvs {p:Option (List TV)} {k:List TV->Prg TV} {v:List TV} (h:p=some v) (hk:aa A f (k v) r):aa A f (.tvs p k) r:=CQ.2 ⟨v,h,hk⟩
theorem aa.rws {p:Option (List (List TV))} {k:List (List TV)->Prg TV} {v:List (List TV)} (h:p=some v) (hk:aa A f (k v) r):aa A f (.rws p k) r:=BZ.2 ⟨v,h,hk⟩
theorem aa.nat {p:Option Nat} {k:Nat->Prg TV} {v:Nat} (h:p=some v) (hk:aa A f (k v) r):aa A f (.nat p k) r:=A8.2 ⟨v,h,hk⟩
theorem aa.chk {b:Bool} {k:Prg TV} (h:b=true) (hk:aa A f k r):aa A f (.chk b k) r:=Cf.2 ⟨h,hk⟩
theorem aa.ite {b:Option Bool} {t e:Prg TV} {v:Bool} (h:b=some v) (ht:v=true->aa A f t r) (he:v=false->aa A f e r):aa A f (.ite b t e) r:=by
 refine Ci.2 ⟨v,h,?_⟩
 cases v with
 | true=>exact ht rfl
 | false=>exact he rfl
theorem aa.call {xs:List TV} {k:TV->Prg TV} {v:TV} (h:bQ A g xs v) (hk:aa A f (k v) r):aa A f (.call g xs k) r:=Ac.2 ⟨v,h,hk⟩
theorem aa.jmp {p:List Nat} {st:ASt} {q:Prg TV} (h:eP A f p st=q) (hk:aa A f q r):aa A f (.jmp p st) r:=Ba.2 (h ▸ hk)
theorem bQ.of {args:List TV} {q:Prg TV} (h:bT A f args=q) (hk:aa A f q r) (hx:A.ext f=none:=by rfl):bQ A f args r:=(BN hx).2 (h ▸ hk)
end
end Go.Ab
end
section
namespace Go.Ab
inductive F2 {α β:Type} (R:α->β->Prop):List α->List β->Prop
 | nil:F2 R [] []
 | cons {a b l m}:R a b->F2 R l m->F2 R (a :: l) (b :: m)
section
variable {α β γ:Type} {R S:α->β->Prop}
theorem F2.length {xs:List α} {l:List β} (h:F2 R xs l):xs.length=l.length:=by
 induction h with
 | nil=>rfl
 | cons _ _ ih=>simp [ih]
theorem F2.get {xs:List α} {l:List β} (h:F2 R xs l):∀ {i:Nat} {a:β},l[i]? = some a->∃ e,xs[i]? = some e/\R e a:=by
 induction h with
 | nil=>intro i a h; simp at h
 | cons hr _ ih =>
  intro i a h
  cases i with
  | zero=>simp at h; subst h; exact ⟨_,rfl,hr⟩
  | succ i=>simp at h; simpa using ih h
theorem F2.getL {xs:List α} {l:List β} (h:F2 R xs l):∀ {i:Nat} {e:α},xs[i]? = some e->∃ a,l[i]? = some a/\R e a:=by
 induction h with
 | nil=>intro i a h; simp at h
 | cons hr _ ih =>
  intro i a h
  cases i with
  | zero=>simp at h; subst h; exact ⟨_,rfl,hr⟩
  | succ i=>simp at h; simpa using ih h
theorem F2.mono (hm:∀ e a,R e a->S e a) {xs:List α} {l:List β} (h:F2 R xs l):F2 S xs l:=by
 induction h with
 | nil=>exact .nil
 | cons hr _ ih=>exact .cons (hm _ _ hr) ih
theorem F2.append {xs ys:List α} {l m:List β} (h:F2 R xs l) (h':F2 R ys m):F2 R (xs ++ ys) (l ++ m):=by
 induction h with
 | nil=>exact h'
 | cons hr _ ih=>exact .cons hr ih
theorem F2.take {xs:List α} {l:List β} (h:F2 R xs l):∀ n,F2 R (xs.take n) (l.take n):=by
 induction h with
 | nil=>intro n; simp; exact .nil
 | cons hr _ ih=>intro n; cases n with
  | zero=>exact .nil
  | succ n=>exact .cons hr (ih n)
theorem F2.drop {xs:List α} {l:List β} (h:F2 R xs l):∀ n,F2 R (xs.drop n) (l.drop n):=by
 induction h with
 | nil=>intro n; simp; exact .nil
 | cons hr h ih=>intro n; cases n with
  | zero=>exact .cons hr h
  | succ n=>exact ih n
theorem F2.set {xs:List α} {l:List β} (h:F2 R xs l):∀ {i:Nat} {e:α} {a:β},R e a->F2 R (al xs i e) (l.set i a):=by
 induction h with
 | nil=>intro i e a _; exact .nil
 | cons hr h ih=>intro i e a hea; cases i with
  | zero=>exact .cons hea h
  | succ i=>exact .cons hr (ih hea)
theorem F2.mapL {f:γ->α} {Q:γ->β->Prop} {xs:List γ} {l:List β} (h:F2 Q xs l) (hf:∀ x a,Q x a->R (f x) a):F2 R (xs.map f) l:=by
 induction h with
 | nil=>exact .nil
 | cons hr _ ih=>exact .cons (hf _ _ hr) ih
theorem F2.tj {xs:List α}:∀ {l:List β},xs.length=l.length->(∀ (i:Nat) e a,xs[i]? = some e->l[i]? = some a->R e a)->F2 R xs l:=by
 induction xs with
 | nil=>intro l h _; cases l with
  | nil=>exact .nil
  | cons _ _=>simp at h
 | cons x xs ih=>intro l h hg; cases l with
  | nil=>simp at h
  | cons a l=>exact .cons (hg 0 x a rfl rfl) (ih (by simpa using h) fun i e b he hb=>hg (i + 1) e b (by simpa using he) (by simpa using hb))
end
abbrev I (n:Int):TV:=.lit (.int .i64 n)
abbrev W (n:Int):TV:=.lit (.int .u16 n)
abbrev B (b:Bool):TV:=.lit (.bool b)
def inI (n:Int):Prop:=-9223372036854775808<=n/\n<=9223372036854775807
def inW (n:Int):Prop:=0<=n/\n<=65535
def RL {α:Type} (q:Option Bool) (s:Nat) (R:List TV->α->Prop) (x:TV) (l:List α):Prop :=
 (x=.lit aD/\l=[])\/∃ o xs,x=.sl o s xs/\(∀ b,q=some b->o=b)/\F2 R xs l/\xs.length<=9223372036854775807
theorem jN:∀ ys:List (List TV),s9 ys=ys.map pc
 | []=>rfl
 | y :: ys=>by simp [s9,jN ys]
section
variable {α:Type} {q:Option Bool} {s:Nat} {R S:List TV->α->Prop} {x:TV} {l:List α}
theorem RL.nil:RL q s R (.lit aD) []:=.inl ⟨rfl,rfl⟩
theorem RL.sl {o:Bool} {xs:List (List TV)} (hq:∀ b,q=some b->o=b) (h:F2 R xs l) (hb:xs.length<=9223372036854775807):RL q s R (.sl o s xs) l:=.inr ⟨o,xs,rfl,hq,h,hb⟩
theorem RL.bnd (h:RL q s R x l):l.length<=9223372036854775807:=by
 rcases h with ⟨rfl,rfl⟩ | ⟨o,xs,rfl,hq,h,hb⟩
 ·simp
 ·rw [<- h.length]; exact hb
theorem RL.weak (h:RL q s R x l) (hm:∀ e a,R e a->S e a):RL none s S x l:=by
 rcases h with ⟨rfl,rfl⟩ | ⟨o,xs,rfl,hq,h,hb⟩
 ·exact .nil
 ·exact .sl (by simp) (h.mono hm) hb
theorem RL.len {t:TypeId} (h:RL q s R x l):plen (.slice t) x=some (I l.length):=by
 rcases h with ⟨rfl,rfl⟩ | ⟨o,xs,rfl,hq,h,hb⟩
 ·rfl
 ·simp [plen,h.length]
theorem RL.slLen (h:RL q s R x l):Go.Ab.slLen x=some l.length:=by
 rcases h with ⟨rfl,rfl⟩ | ⟨o,xs,rfl,hq,h,hb⟩
 ·rfl
 ·simp [Go.Ab.slLen,h.length]
theorem RL.slSize (h:RL q s R x l):Go.Ab.slSize x s=true:=by
 rcases h with ⟨rfl,rfl⟩ | ⟨o,xs,rfl,hq,h,hb⟩
 ·rfl
 ·simp [Go.Ab.slSize]
theorem RL.isSl (h:RL q s R x l):x.isSl=true:=by
 rcases h with ⟨rfl,rfl⟩ | ⟨o,xs,rfl,hq,h,hb⟩ <;> rfl
theorem RL.idx (h:RL q s R x l) {k:IntKind} {i:Nat} {a:α} (hi:l[i]? = some a):∃ e,pidx s x (.lit (.int k i))=some e/\R e a:=by
 rcases h with ⟨rfl,rfl⟩ | ⟨o,xs,rfl,hq,h,hb⟩
 ·simp at hi
 ·obtain ⟨e,he,hr⟩:=h.get hi
  exact ⟨e,by simp [pidx,he],hr⟩
theorem RL.pel (h:RL q s R x l) {i:Nat} {a:α} (hi:l[i]? = some a):∃ e,Go.Ab.pel x i=some e/\R e a:=by
 rcases h with ⟨rfl,rfl⟩ | ⟨o,xs,rfl,hq,h,hb⟩
 ·simp at hi
 ·exact h.get hi
theorem RL.frz (h:RL q s R x l) (hm:∀ e a,R e a->S (pc e) a):RL (some false) s S (frz x) l:=by
 rcases h with ⟨rfl,rfl⟩ | ⟨o,xs,rfl,hq,h,hb⟩
 ·exact .nil
 ·refine .sl (by simp) ?_ ?_
  rotate_left
  ·rw [jN,List.length_map]; exact hb
  rw [jN]
  exact h.mapL hm
end
def RI1 (e:List TV) (n:Int):Prop:=e=[I n]/\inI n
def RW1 (e:List TV) (n:Int):Prop:=e=[W n]/\inW n
def RB1 (e:List TV) (b:Bool):Prop:=e=[B b]
abbrev RInts (q:Option Bool):TV->List Int->Prop:=RL q 1 RI1
abbrev RWords (q:Option Bool):TV->List Int->Prop:=RL q 1 RW1
abbrev RBools (q:Option Bool):TV->List Bool->Prop:=RL q 1 RB1
structure DIns where
 op:Int
 dst:Int
 a:Int
 b:Int
 k:Int
 f:Int
 args:List Int
structure DEnd where
 kind:Int
 a:Int
 dst:Int
 f:Int
 args:List Int
 to:Int
 els:Int
 pad:Int
structure DPad where
 dst:Int
 catches:List Int
 all:Bool
 cleanup:Bool
structure DBlock where
 landing:Bool
 pad:DPad
 ins:List DIns
 fin:DEnd
structure DFunc where
 params:Int
 regs:Int
 blocks:List DBlock
structure DMod where
 funcs:List DFunc
def DIns.ok (x:DIns):Prop:=inI x.op/\inI x.dst/\inI x.a/\inI x.b/\inW x.k/\inI x.f
def DEnd.ok (x:DEnd):Prop:=inI x.kind/\inI x.a/\inI x.dst/\inI x.f/\inI x.to/\inI x.els/\inI x.pad
def RIns (q:Option Bool) (e:List TV) (x:DIns):Prop:=∃ g,e=[I x.op,I x.dst,I x.a,I x.b,W x.k,I x.f,g]/\RInts q g x.args/\x.ok
def RBlock (q:Option Bool) (e:List TV) (x:DBlock):Prop:=∃ c i g,e=[B x.landing,I x.pad.dst,c,B x.pad.all,B x.pad.cleanup,i,I x.fin.kind,I x.fin.a,I x.fin.dst,I x.fin.f,g,I x.fin.to,I x.fin.els,I x.fin.pad] /\
 RWords q c x.pad.catches/\inI x.pad.dst/\RL q 7 (RIns q) i x.ins/\RInts q g x.fin.args/\x.fin.ok
def RFunc (q:Option Bool) (e:List TV) (x:DFunc):Prop:=∃ b,e=[I x.params,I x.regs,b]/\RL q 14 (RBlock q) b x.blocks/\inI x.params/\inI x.regs
theorem RI1.frz {e:List TV} {n:Int} (h:RI1 e n):RI1 (pc e) n:=by obtain ⟨rfl,h⟩:=h; exact ⟨rfl,h⟩
theorem RW1.frz {e:List TV} {n:Int} (h:RW1 e n):RW1 (pc e) n:=by obtain ⟨rfl,h⟩:=h; exact ⟨rfl,h⟩
theorem RIns.frz {q:Option Bool} {e:List TV} {x:DIns} (h:RIns q e x):RIns (some false) (pc e) x:=by
 obtain ⟨g,rfl,hg,ho⟩:=h
 exact ⟨Go.Ab.frz g,rfl,hg.frz fun _ _ h=>h.frz,ho⟩
theorem RBlock.frz {q:Option Bool} {e:List TV} {x:DBlock} (h:RBlock q e x):RBlock (some false) (pc e) x:=by
 obtain ⟨c,i,g,rfl,hc,hd,hi,hg,ho⟩:=h
 exact ⟨Go.Ab.frz c,Go.Ab.frz i,Go.Ab.frz g,rfl,hc.frz fun _ _ h=>h.frz,hd,hi.frz fun _ _ h=>h.frz,hg.frz fun _ _ h=>h.frz,ho⟩
theorem padd {a b:Int} (h:inI (a + b)):pbin (.int .i64) .add (I a) (I b)=some (I (a + b)):=by
 simp [pbin,so,IntWalk.i64_in _ h]
theorem psub {a b:Int} (h:inI (a - b)):pbin (.int .i64) .sub (I a) (I b)=some (I (a - b)):=by
 simp [pbin,so,IntWalk.i64_in _ h]
theorem inc {k n:Nat} (h:k < n) (hn:n<=9223372036854775807):pbin (.int .i64) .add (I (k:Int)) (I (1:Int))=some (I ((k + 1:Nat):Int)):=by
 rw [padd (by constructor <;> omega)]; rfl
open Classical in
noncomputable def tt (p:Prop):Bool:=decide p
theorem vK {p:Prop}:tt p=true ↔ p:=by simp [tt]
theorem tt_eq {b:Bool} {p:Prop} (h:b=true ↔ p):b=tt p:=by
 cases b with
 | true=>exact (vK.2 (h.1 rfl)).symm
 | false =>
  cases hp:tt p with
  | false=>rfl
  | true=>exact absurd (h.2 (vK.1 hp)) (by simp)
theorem nv {p p':Prop} (h:p ↔ p'):tt p=tt p':=by rw [propext h]
theorem gX {p:Prop} (h:p):tt p=true:=vK.2 h
theorem ft {p:Prop} (h:¬ p):tt p=false:=by
 cases hp:tt p with
 | false=>rfl
 | true=>exact absurd (vK.1 hp) h
section
variable {A:AProg} {f:FuncId}
theorem ret_tt {b:Bool} {p:Prop} (h:b=true ↔ p):aa A f (.ret (B b)) (B (tt p)):=by rw [<- tt_eq h]; exact aa.ret
theorem ret_no {p:Prop} (h:¬ p):aa A f (.ret (B false)) (B (tt p)):=ret_tt (by simp [h])
end
def fZ (k n:Nat) (P:Nat->Prop):Prop:=∀ i,k<=i->i < n->P i
theorem vU {n:Nat} {P:Nat->Prop}:fZ n n P:=fun i h1 h2=>by omega
theorem kH {k n:Nat} {P:Nat->Prop} (h:k < n):fZ k n P ↔ P k/\fZ (k + 1) n P:=by
 constructor
 ·intro ha; exact ⟨ha k (Nat.le_refl k) h,fun i h1 h2=>ha i (by omega) h2⟩
 ·rintro ⟨hp,ha⟩ i h1 h2
  by_cases hi:i=k
  ·subst hi; exact hp
  ·exact ha i (by omega) h2
theorem gZ {n:Nat} {P:Nat->Prop}:fZ 0 n P ↔ ∀ i,i < n->P i:=⟨fun h i hi=>h i (Nat.zero_le i) hi,fun h i _ hi=>h i hi⟩
theorem vR {α:Type} {l m:List α} (h:l.length=m.length):l=m ↔ fZ 0 l.length fun i=>l[i]? = m[i]? := by
 rw [gZ]
 constructor
 ·rintro rfl i _; rfl
 ·intro ha
  apply List.ext_getElem? 
  intro i
  by_cases hi:i < l.length
  ·exact ha i hi
  ·rw [Ex (by omega),Ex (by omega)]
end Go.Ab
namespace Go.Ab
theorem C6 {A:AProg} {f:FuncId} {n:Nat} {P:Nat->Prop} {Q:Prop} {g:Nat->Prg TV} (hend:aa A f (g n) (B (tt Q)))
  (hstep:∀ k,k < n->∀ r,(¬ P k->r=B false)->(P k->aa A f (g (k + 1)) r)->aa A f (g k) r):∀ d k,k + d=n->aa A f (g k) (B (tt (fZ k n P/\Q))):=by
 intro d
 induction d with
 | zero =>
  intro k hk
  have hk:k=n:=by omega
  subst hk
  rw [show tt (fZ k k P/\Q)=tt Q from nv ⟨fun h=>h.2,fun h=>⟨vU,h⟩⟩]
  exact hend
 | succ d ih =>
  intro k hk
  have hlt:k < n:=by omega
  refine hstep k hlt _ (fun hp=>?_) (fun hp=>?_)
  ·rw [ft]
   intro h
   exact hp ((kH hlt).1 h.1).1
  ·rw [show tt (fZ k n P/\Q)=tt (fZ (k + 1) n P/\Q) from nv ⟨fun h=>⟨((kH hlt).1 h.1).2,h.2⟩,fun h=>⟨(kH hlt).2 ⟨hp,h.1⟩,h.2⟩⟩]
   exact ih (k + 1) (by omega)
theorem CE {A:AProg} {f:FuncId} {n:Nat} {P:Nat->Prop} {g:Nat->Prg TV} (hend:aa A f (g n) (B true))
  (hstep:∀ k,k < n->∀ r,(¬ P k->r=B false)->(P k->aa A f (g (k + 1)) r)->aa A f (g k) r):aa A f (g 0) (B (tt (∀ i,i < n->P i))):=by
 have:=C6 (Q:=True) (by rw [gX trivial]; exact hend) hstep n 0 (by omega)
 rw [show tt (∀ i,i < n->P i)=tt (fZ 0 n P/\True) from nv ⟨fun h=>⟨gZ.2 h,trivial⟩,fun h=>gZ.1 h.1⟩]
 exact this
theorem cO {k n:Nat} (h:k < n):asBool (.lit (.bool (decide ((k:Int) < (n:Int)))))=some true:=by simp [asBool,h]
theorem cM {n:Nat}:asBool (.lit (.bool (decide ((n:Int) < (n:Int)))))=some false:=by simp [asBool]
theorem vy {α:Type} {l m:List α} (h:l.length=m.length):l=m ↔ ∀ i,i < l.length->l[i]? = m[i]? := by
 rw [vR h,gZ]
end Go.Ab
namespace Go.Ab
theorem tU:∀ {zs:List Value} {e:List TV} {j:Nat},ac zs e j=true->du zs e j=true
 | [],_,_,_=>rfl
 | z :: zs, e, j, h => by
  unfold ac at h
  unfold du
  split at h
  ·rename_i c hc
   rw [En] at h
   rw [En]
   refine ⟨?_,tU h.2⟩
   have h1:=h.1
   cases hz:aW z with
   | true=>rw [hz] at h1; simp only [cond_true] at h1 ⊢; rw [h1]; rfl
   | false=>rw [hz] at h1; exact h1
  ·cases h
end Go.Ab
end
section
namespace Go.Ab
def DZ:List (Nat × eW)->Nat->Option eW
 | [],_=>none
 | (k,d) :: r,t=>bif k.beq t then some d else DZ r t
end Go.Ab
end
section
namespace Go.Ab.Q12
open Go.Ab Go.Proofs
def Jk:AV:=AV.one CA.junk
def Sr (i:Nat):AV:=AV.one (CA.sref i 0 [])
def Pt (i:Nat):AV:=AV.one (CA.ptr i 0)
def Tr (w:TV):Option BC:=some (BC.tree [w])
def Ct (y:TV):Option BC:=some (BC.cells [CA.t y])
def Rj (n:Nat):List AV:=List.replicate n (AV.one CA.junk)
def Rz (n:Nat):List (Option BC):=List.replicate n none
def bq:List (Nat × Ann)->Nat->Option Ann
 | [],_=>none
 | (k,d) :: r,t=>bif k.beq t then some d else bq r t
def z2:List Value:=[.int .i64 0]
def z3:List Value:=[.int .i64 0]
def z4:List Value:=[.bool false]
def z5:List Value:=[.int .u8 0]
def z6:List Value:=[.int .u8 0]
def z7:List Value:=[.int .i64 0,.int .i64 0,.bool false,.int .u8 0]
def z8:List Value:=[.int .i64 0,.int .i64 0,.bool false,.int .u8 0]
def z9:List Value:=[.string ⟨#[]⟩]
def z10:List Value:=[.string ⟨#[]⟩]
def z11:List Value:=[.string ⟨#[]⟩]
def z12:List Value:=[.int .u64 0]
def z13:List Value:=[.string ⟨#[]⟩,.int .u64 0]
def z14:List Value:=[.string ⟨#[]⟩,.int .u64 0]
def z15:List Value:=[.pointer none]
def z16:List Value:=[.pointer none]
def z17:List Value:=[.pointer none]
def z18:List Value:=[.pointer none]
def z19:List Value:=[.pointer none]
def z20:List Value:=[.nilIface]
def z21:List Value:=[.int .i32 0]
def z22:List Value:=[.slice none 0 0]
def z23:List Value:=[.int .i64 0,.int .i64 0,.slice none 0 0]
def z24:List Value:=[.int .i64 0,.int .i64 0,.slice none 0 0]
def z25:List Value:=[.nilFunc]
def z26:List Value:=[.nilFunc]
def z27:List Value:=[.slice none 0 0]
def z28:List Value:=[.nilFunc]
def z29:List Value:=[.nilFunc]
def z30:List Value:=[.slice none 0 0]
def z31:List Value:=[.nilFunc]
def z32:List Value:=[.nilFunc]
def z33:List Value:=[.nilFunc]
def z34:List Value:=[.nilFunc]
def z35:List Value:=[.nilFunc]
def z36:List Value:=[.slice none 0 0]
def z37:List Value:=[.slice none 0 0]
def z38:List Value:=[.slice none 0 0]
def z39:List Value:=[.slice none 0 0]
def z40:List Value:=[.nilFunc]
def z41:List Value:=[.slice none 0 0]
def z42:List Value:=[.int .u16 0]
def z43:List Value:=[.int .u16 0,.int .u16 0,.int .u16 0,.int .u16 0,.int .u16 0,.int .u16 0,.int .u16 0,.int .u16 0,.int .u16 0,.int .u16 0,.int .u16 0,.int .u16 0,.int .u16 0,.int .u16 0,.int .u16 0,.int .u16 0]
def z44:List Value:=[.slice none 0 0,.int .u16 0,.int .u16 0,.int .u16 0,.int .u16 0,.int .u16 0,.int .u16 0,.int .u16 0,.int .u16 0,.int .u16 0,.int .u16 0,.int .u16 0,.int .u16 0,.int .u16 0,.int .u16 0,.int .u16 0,.int .u16 0,.slice none 0 0,.slice none 0 0,.int .i64 0,.int .u16 0]
def z45:List Value:=[.slice none 0 0,.int .u16 0,.int .u16 0,.int .u16 0,.int .u16 0,.int .u16 0,.int .u16 0,.int .u16 0,.int .u16 0,.int .u16 0,.int .u16 0,.int .u16 0,.int .u16 0,.int .u16 0,.int .u16 0,.int .u16 0,.int .u16 0,.slice none 0 0,.slice none 0 0,.int .i64 0,.int .u16 0]
def z46:List Value:=[.int .i64 0]
def z48:List Value:=[.nilFunc]
def z49:List Value:=[.nilFunc]
def z50:List Value:=[.int .i64 0,.int .i64 0,.int .i64 0,.slice none 0 0,.int .u16 0]
def z51:List Value:=[.int .i64 0,.int .i64 0,.int .i64 0,.slice none 0 0,.int .u16 0]
def z52:List Value:=[.nilFunc]
def z53:List Value:=[.int .i64 0,.int .i64 0,.int .i64 0,.int .i64 0,.slice none 0 0,.int .i64 0,.int .i64 0,.int .i64 0]
def z54:List Value:=[.int .i64 0,.int .i64 0,.int .i64 0,.int .i64 0,.slice none 0 0,.int .i64 0,.int .i64 0,.int .i64 0]
def z55:List Value:=[.int .i64 0,.slice none 0 0,.bool false,.bool false]
def z56:List Value:=[.int .i64 0,.slice none 0 0,.bool false,.bool false]
def z57:List Value:=[.slice none 0 0]
def z58:List Value:=[.bool false,.int .i64 0,.slice none 0 0,.bool false,.bool false,.slice none 0 0,.int .i64 0,.int .i64 0,.int .i64 0,.int .i64 0,.slice none 0 0,.int .i64 0,.int .i64 0,.int .i64 0]
def z59:List Value:=[.bool false,.int .i64 0,.slice none 0 0,.bool false,.bool false,.slice none 0 0,.int .i64 0,.int .i64 0,.int .i64 0,.int .i64 0,.slice none 0 0,.int .i64 0,.int .i64 0,.int .i64 0]
def z60:List Value:=[.nilFunc]
def z61:List Value:=[.nilFunc]
def z62:List Value:=[.slice none 0 0]
def z63:List Value:=[.nilFunc]
def z64:List Value:=[.slice none 0 0]
def z65:List Value:=[.nilFunc]
def z66:List Value:=[.int .i64 0,.slice none 0 0]
def z67:List Value:=[.int .i64 0,.slice none 0 0]
def z68:List Value:=[.nilFunc]
def z69:List Value:=[.nilFunc]
def z70:List Value:=[.nilFunc]
def z71:List Value:=[.nilFunc]
def z72:List Value:=[.nilFunc]
def z73:List Value:=[.nilFunc]
def z74:List Value:=[.nilFunc]
def z75:List Value:=[.nilFunc]
def z76:List Value:=[.nilFunc]
def z77:List Value:=[.nilFunc]
def z78:List Value:=[.nilFunc]
def z79:List Value:=[.slice none 0 0,.int .u16 0,.int .u16 0,.int .u16 0,.int .u16 0,.int .u16 0,.int .u16 0,.int .u16 0,.int .u16 0,.int .u16 0,.int .u16 0,.int .u16 0,.int .u16 0,.int .u16 0,.int .u16 0,.int .u16 0,.int .u16 0,.slice none 0 0,.slice none 0 0,.int .i64 0,.int .u16 0,.slice none 0 0]
def z80:List Value:=[.slice none 0 0,.int .u16 0,.int .u16 0,.int .u16 0,.int .u16 0,.int .u16 0,.int .u16 0,.int .u16 0,.int .u16 0,.int .u16 0,.int .u16 0,.int .u16 0,.int .u16 0,.int .u16 0,.int .u16 0,.int .u16 0,.int .u16 0,.slice none 0 0,.slice none 0 0,.int .i64 0,.int .u16 0,.slice none 0 0]
def z81:List Value:=[.nilFunc]
def z82:List Value:=[.nilFunc]
def z83:List Value:=[.slice none 0 0]
def z84:List Value:=[.slice none 0 0,.slice none 0 0,.slice none 0 0]
def z85:List Value:=[.slice none 0 0,.slice none 0 0,.slice none 0 0]
def z86:List Value:=[.nilFunc]
def z87:List Value:=[.slice none 0 0]
def z88:List Value:=[.nilFunc]
def z89:List Value:=[.slice none 0 0,.slice none 0 0]
def z90:List Value:=[.slice none 0 0,.slice none 0 0]
def z91:List Value:=[.slice none 0 0,.slice none 0 0,.slice none 0 0,.slice none 0 0,.slice none 0 0,.slice none 0 0]
def z92:List Value:=[.slice none 0 0,.slice none 0 0,.slice none 0 0,.slice none 0 0,.slice none 0 0,.slice none 0 0]
def z93:List Value:=[.nilFunc]
def z94:List Value:=[.nilFunc]
def z95:List Value:=[.nilFunc]
def z96:List Value:=[.nilFunc]
def z97:List Value:=[.nilFunc]
def z98:List Value:=[.int .i64 0]
def z99:List Value:=[.nilFunc]
def z100:List Value:=[.nilFunc]
def z101:List Value:=[.nilFunc]
def z102:List Value:=[.nilFunc]
def z103:List Value:=[.slice none 0 0]
def z104:List Value:=[.nilFunc,.slice none 0 0,.slice none 0 0,.slice none 0 0]
def z105:List Value:=[.nilFunc,.slice none 0 0,.slice none 0 0,.slice none 0 0]
def z106:List Value:=[.nilFunc]
def z107:List Value:=[.int .i64 0,.int .i64 0,.int .i64 0,.int .i64 0,.int .u16 0,.int .i64 0,.slice none 0 0]
def z108:List Value:=[.int .i64 0,.int .i64 0,.int .i64 0,.int .i64 0,.int .u16 0,.int .i64 0,.slice none 0 0]
def z110:List Value:=[.nilFunc]
def z111:List Value:=[.nilFunc]
def z112:List Value:=[.pointer none]
def z113:List Value:=[.pointer none]
def z114:List Value:=[.nilFunc]
def z115:List Value:=[.nilFunc]
def z116:List Value:=[.nilFunc]
def z117:List Value:=[.nilFunc]
def z118:List Value:=[.nilFunc]
def z119:List Value:=[.nilFunc]
def z120:List Value:=[.nilFunc]
def z121:List Value:=[.nilFunc]
def z122:List Value:=[.nilFunc]
def z123:List Value:=[.nilFunc]
def z124:List Value:=[.pointer none]
def z125:List Value:=[.int .i64 0,.slice none 0 0]
def z126:List Value:=[.int .i64 0,.slice none 0 0]
def z127:List Value:=[.pointer none]
def z128:List Value:=[.nilFunc]
def z129:List Value:=[.nilFunc]
def z130:List Value:=[.nilFunc]
def z131:List Value:=[.nilFunc]
def z132:List Value:=[.nilFunc]
def z133:List Value:=[.nilFunc]
def z134:List Value:=[.nilFunc]
def z135:List Value:=[.pointer none]
def z136:List Value:=[.nilFunc]
def z137:List Value:=[.nilFunc]
def z139:List Value:=[.nilFunc]
def z140:List Value:=[.nilFunc]
def z141:List Value:=[.nilFunc]
def z143:List Value:=[.nilFunc]
def z144:List Value:=[.nilFunc]
def z145:List Value:=[.nilFunc]
def z146:List Value:=[.slice none 0 0,.int .i64 0,.int .i64 0,.slice none 0 0]
def z147:List Value:=[.slice none 0 0,.int .i64 0,.int .i64 0,.slice none 0 0]
def z148:List Value:=[.nilFunc]
def z150:List Value:=[.nilFunc]
def z151:List Value:=[.nilFunc]
def z152:List Value:=[.nilFunc]
def z153:List Value:=[.nilFunc]
def z154:List Value:=[.nilFunc]
def z155:List Value:=[.nilFunc]
def z156:List Value:=[.nilFunc]
def z157:List Value:=[.nilFunc]
def z158:List Value:=[.nilFunc]
def z159:List Value:=[.nilFunc]
def z160:List Value:=[.nilFunc]
def z161:List Value:=[.nilFunc]
def z162:List Value:=[.nilFunc]
def z163:List Value:=[.nilFunc]
def z164:List Value:=[.pointer none,.pointer none,.pointer none,.string ⟨#[]⟩]
def z165:List Value:=[.pointer none,.pointer none,.pointer none,.string ⟨#[]⟩]
def z166:List Value:=[]
def z167:List Value:=[]
def z168:List Value:=[]
def z169:List Value:=[.nilFunc]
def z170:List Value:=[.int .u32 0]
def z171:List Value:=[.int .u8 0]
def z172:List Value:=[.int .u8 0]
def z173:List Value:=[.nilFunc]
def z174:List Value:=[.pointer none]
def z175:List Value:=[.int .i32 0]
def z176:List Value:=[.int .i32 0]
def z177:List Value:=[.int .u64 0,.int .u64 0,.int .u32 0,.int .u8 0,.int .u8 0,.int .u8 0,.int .u8 0,.nilFunc,.pointer none,.int .i32 0,.int .i32 0]
def z178:List Value:=[.int .u64 0,.int .u64 0,.int .u32 0,.int .u8 0,.int .u8 0,.int .u8 0,.int .u8 0,.nilFunc,.pointer none,.int .i32 0,.int .i32 0]
def tab:Tab:=qV [
 (2,⟨1,8,.int .i64,z2,[]⟩),
 (3,⟨1,8,.int .i64,z3,[]⟩),
 (4,⟨1,1,.bool,z4,[]⟩),
 (5,⟨1,1,.int .u8,z5,[]⟩),
 (6,⟨1,1,.int .u8,z6,[]⟩),
 (7,⟨4,24,.struct,z7,[(0,2),(1,3),(2,4),(3,6)]⟩),
 (8,⟨4,24,.struct,z8,[(0,2),(1,3),(2,4),(3,6)]⟩),
 (9,⟨1,16,.str,z9,[]⟩),
 (10,⟨1,16,.str,z10,[]⟩),
 (11,⟨1,16,.str,z11,[]⟩),
 (12,⟨1,8,.int .u64,z12,[]⟩),
 (13,⟨2,24,.struct,z13,[(0,9),(1,12)]⟩),
 (14,⟨2,24,.struct,z14,[(0,9),(1,12)]⟩),
 (15,⟨1,8,.ptr,z15,[]⟩),
 (16,⟨1,8,.ptr,z16,[]⟩),
 (17,⟨1,8,.ptr,z17,[]⟩),
 (18,⟨1,8,.struct,z18,[(0,17)]⟩),
 (19,⟨1,8,.struct,z19,[(0,17)]⟩),
 (20,⟨1,16,.other,z20,[]⟩),
 (21,⟨1,4,.int .i32,z21,[]⟩),
 (22,⟨1,24,.slice 59,z22,[]⟩),
 (23,⟨3,40,.struct,z23,[(0,3),(1,3),(2,22)]⟩),
 (24,⟨3,40,.struct,z24,[(0,3),(1,3),(2,22)]⟩),
 (25,⟨1,8,.other,z25,[]⟩),
 (26,⟨1,8,.other,z26,[]⟩),
 (27,⟨1,24,.slice 3,z27,[]⟩),
 (28,⟨1,8,.other,z28,[]⟩),
 (29,⟨1,8,.other,z29,[]⟩),
 (30,⟨1,24,.slice 4,z30,[]⟩),
 (31,⟨1,8,.other,z31,[]⟩),
 (32,⟨1,8,.other,z32,[]⟩),
 (33,⟨1,8,.other,z33,[]⟩),
 (34,⟨1,8,.other,z34,[]⟩),
 (35,⟨1,8,.other,z35,[]⟩),
 (36,⟨1,24,.slice 24,z36,[]⟩),
 (37,⟨1,24,.struct,z37,[(0,36)]⟩),
 (38,⟨1,24,.struct,z38,[(0,36)]⟩),
 (39,⟨1,24,.slice 42,z39,[]⟩),
 (40,⟨1,8,.other,z40,[]⟩),
 (41,⟨1,24,.slice 51,z41,[]⟩),
 (42,⟨1,2,.int .u16,z42,[]⟩),
 (43,⟨16,32,.arr 16 42,z43,[]⟩),
 (44,⟨21,120,.struct,z44,[(0,41),(1,43),(17,39),(18,27),(19,3),(20,42)]⟩),
 (45,⟨21,120,.struct,z45,[(0,41),(1,43),(17,39),(18,27),(19,3),(20,42)]⟩),
 (46,⟨1,8,.int .i64,z46,[]⟩),
 (48,⟨1,8,.other,z48,[]⟩),
 (49,⟨1,8,.other,z49,[]⟩),
 (50,⟨5,56,.struct,z50,[(0,3),(1,3),(2,3),(3,39),(4,42)]⟩),
 (51,⟨5,56,.struct,z51,[(0,3),(1,3),(2,3),(3,39),(4,42)]⟩),
 (52,⟨1,8,.other,z52,[]⟩),
 (53,⟨8,80,.struct,z53,[(0,3),(1,3),(2,3),(3,3),(4,27),(5,3),(6,3),(7,3)]⟩),
 (54,⟨8,80,.struct,z54,[(0,3),(1,3),(2,3),(3,3),(4,27),(5,3),(6,3),(7,3)]⟩),
 (55,⟨4,40,.struct,z55,[(0,3),(1,39),(2,4),(3,4)]⟩),
 (56,⟨4,40,.struct,z56,[(0,3),(1,39),(2,4),(3,4)]⟩),
 (57,⟨1,24,.slice 108,z57,[]⟩),
 (58,⟨14,152,.struct,z58,[(0,4),(1,56),(5,57),(6,54)]⟩),
 (59,⟨14,152,.struct,z59,[(0,4),(1,56),(5,57),(6,54)]⟩),
 (60,⟨1,8,.other,z60,[]⟩),
 (61,⟨1,8,.other,z61,[]⟩),
 (62,⟨1,24,.slice 5,z62,[]⟩),
 (63,⟨1,8,.other,z63,[]⟩),
 (64,⟨1,24,.slice 67,z64,[]⟩),
 (65,⟨1,8,.other,z65,[]⟩),
 (66,⟨2,32,.struct,z66,[(0,3),(1,27)]⟩),
 (67,⟨2,32,.struct,z67,[(0,3),(1,27)]⟩),
 (68,⟨1,8,.other,z68,[]⟩),
 (69,⟨1,8,.other,z69,[]⟩),
 (70,⟨1,8,.other,z70,[]⟩),
 (71,⟨1,8,.other,z71,[]⟩),
 (72,⟨1,8,.other,z72,[]⟩),
 (73,⟨1,8,.other,z73,[]⟩),
 (74,⟨1,8,.other,z74,[]⟩),
 (75,⟨1,8,.other,z75,[]⟩),
 (76,⟨1,8,.other,z76,[]⟩),
 (77,⟨1,8,.other,z77,[]⟩),
 (78,⟨1,8,.other,z78,[]⟩),
 (79,⟨22,144,.struct,z79,[(0,45),(21,38)]⟩),
 (80,⟨22,144,.struct,z80,[(0,45),(21,38)]⟩),
 (81,⟨1,8,.other,z81,[]⟩),
 (82,⟨1,8,.other,z82,[]⟩),
 (83,⟨1,24,.slice 27,z83,[]⟩),
 (84,⟨3,72,.struct,z84,[(0,27),(1,83),(2,27)]⟩),
 (85,⟨3,72,.struct,z85,[(0,27),(1,83),(2,27)]⟩),
 (86,⟨1,8,.other,z86,[]⟩),
 (87,⟨1,24,.slice 30,z87,[]⟩),
 (88,⟨1,8,.other,z88,[]⟩),
 (89,⟨2,48,.struct,z89,[(0,27),(1,27)]⟩),
 (90,⟨2,48,.struct,z90,[(0,27),(1,27)]⟩),
 (91,⟨6,144,.struct,z91,[(0,83),(1,90),(3,30),(4,27),(5,27)]⟩),
 (92,⟨6,144,.struct,z92,[(0,83),(1,90),(3,30),(4,27),(5,27)]⟩),
 (93,⟨1,8,.other,z93,[]⟩),
 (94,⟨1,8,.other,z94,[]⟩),
 (95,⟨1,8,.other,z95,[]⟩),
 (96,⟨1,8,.other,z96,[]⟩),
 (97,⟨1,8,.other,z97,[]⟩),
 (98,⟨1,8,.int .i64,z98,[]⟩),
 (99,⟨1,8,.other,z99,[]⟩),
 (100,⟨1,8,.other,z100,[]⟩),
 (101,⟨1,8,.other,z101,[]⟩),
 (102,⟨1,8,.other,z102,[]⟩),
 (103,⟨1,24,.slice 126,z103,[]⟩),
 (104,⟨4,80,.struct,z104,[(0,75),(1,30),(2,103),(3,27)]⟩),
 (105,⟨4,80,.struct,z105,[(0,75),(1,30),(2,103),(3,27)]⟩),
 (106,⟨1,8,.other,z106,[]⟩),
 (107,⟨7,72,.struct,z107,[(0,3),(1,3),(2,3),(3,3),(4,42),(5,3),(6,27)]⟩),
 (108,⟨7,72,.struct,z108,[(0,3),(1,3),(2,3),(3,3),(4,42),(5,3),(6,27)]⟩),
 (110,⟨1,8,.other,z110,[]⟩),
 (111,⟨1,8,.other,z111,[]⟩),
 (112,⟨1,8,.ptr,z112,[]⟩),
 (113,⟨1,8,.ptr,z113,[]⟩),
 (114,⟨1,8,.other,z114,[]⟩),
 (115,⟨1,8,.other,z115,[]⟩),
 (116,⟨1,8,.other,z116,[]⟩),
 (117,⟨1,8,.other,z117,[]⟩),
 (118,⟨1,8,.other,z118,[]⟩),
 (119,⟨1,8,.other,z119,[]⟩),
 (120,⟨1,8,.other,z120,[]⟩),
 (121,⟨1,8,.other,z121,[]⟩),
 (122,⟨1,8,.other,z122,[]⟩),
 (123,⟨1,8,.other,z123,[]⟩),
 (124,⟨1,8,.ptr,z124,[]⟩),
 (125,⟨2,32,.struct,z125,[(0,3),(1,27)]⟩),
 (126,⟨2,32,.struct,z126,[(0,3),(1,27)]⟩),
 (127,⟨1,8,.ptr,z127,[]⟩),
 (128,⟨1,8,.other,z128,[]⟩),
 (129,⟨1,8,.other,z129,[]⟩),
 (130,⟨1,8,.other,z130,[]⟩),
 (131,⟨1,8,.other,z131,[]⟩),
 (132,⟨1,8,.other,z132,[]⟩),
 (133,⟨1,8,.other,z133,[]⟩),
 (134,⟨1,8,.other,z134,[]⟩),
 (135,⟨1,8,.ptr,z135,[]⟩),
 (136,⟨1,8,.other,z136,[]⟩),
 (137,⟨1,8,.other,z137,[]⟩),
 (139,⟨1,8,.other,z139,[]⟩),
 (140,⟨1,8,.other,z140,[]⟩),
 (141,⟨1,8,.other,z141,[]⟩),
 (143,⟨1,8,.other,z143,[]⟩),
 (144,⟨1,8,.other,z144,[]⟩),
 (145,⟨1,8,.other,z145,[]⟩),
 (146,⟨4,64,.struct,z146,[(0,36),(1,24)]⟩),
 (147,⟨4,64,.struct,z147,[(0,36),(1,24)]⟩),
 (148,⟨1,8,.other,z148,[]⟩),
 (150,⟨1,8,.other,z150,[]⟩),
 (151,⟨1,8,.other,z151,[]⟩),
 (152,⟨1,8,.other,z152,[]⟩),
 (153,⟨1,8,.other,z153,[]⟩),
 (154,⟨1,8,.other,z154,[]⟩),
 (155,⟨1,8,.other,z155,[]⟩),
 (156,⟨1,8,.other,z156,[]⟩),
 (157,⟨1,8,.other,z157,[]⟩),
 (158,⟨1,8,.other,z158,[]⟩),
 (159,⟨1,8,.other,z159,[]⟩),
 (160,⟨1,8,.other,z160,[]⟩),
 (161,⟨1,8,.other,z161,[]⟩),
 (162,⟨1,8,.other,z162,[]⟩),
 (163,⟨1,8,.other,z163,[]⟩),
 (164,⟨4,40,.struct,z164,[(0,17),(1,17),(2,17),(3,9)]⟩),
 (165,⟨4,40,.struct,z165,[(0,17),(1,17),(2,17),(3,9)]⟩),
 (166,⟨0,0,.arr 0 16,z166,[]⟩),
 (167,⟨0,0,.struct,z167,[(0,166)]⟩),
 (168,⟨0,0,.struct,z168,[(0,166)]⟩),
 (169,⟨1,8,.other,z169,[]⟩),
 (170,⟨1,4,.int .u32,z170,[]⟩),
 (171,⟨1,1,.int .u8,z171,[]⟩),
 (172,⟨1,1,.int .u8,z172,[]⟩),
 (173,⟨1,8,.other,z173,[]⟩),
 (174,⟨1,8,.ptr,z174,[]⟩),
 (175,⟨1,4,.int .i32,z175,[]⟩),
 (176,⟨1,4,.int .i32,z176,[]⟩),
 (177,⟨11,48,.struct,z177,[(0,12),(1,12),(2,170),(3,171),(4,5),(5,5),(6,172),(7,173),(8,174),(9,175),(10,176)]⟩),
 (178,⟨11,48,.struct,z178,[(0,12),(1,12),(2,170),(3,171),(4,5),(5,5),(6,172),(7,173),(8,174),(9,175),(10,176)]⟩)]
def pure (f:FuncId):Bool:=bD f [93,35,31,74,55,58,19,17,24,89,68,98,100,69,38,59,76,51,28,42,47,48]
def D7:List (Nat × List Nat)->Nat->List Nat
 | [],_=>[]
 | (k,d) :: r,t=>bif k.beq t then d else D7 r t
def rts:FuncId->List TypeId:=D7 [(14,[4]),(16,[4]),(17,[27]),(18,[27]),(23,[30]),(24,[27]),(26,[4]),(31,[27]),(37,[4]),(38,[64]),(39,[64]),(40,[3]),(41,[4]),(42,[27]),(43,[27]),(44,[4]),(46,[30]),(47,[27]),(48,[27]),(49,[]),(55,[85]),(56,[4]),(57,[87]),(59,[92]),(60,[95]),(61,[30]),(62,[98]),(63,[4]),(64,[3]),(66,[]),(67,[]),(74,[83]),(75,[3]),(76,[90]),(77,[122]),(78,[]),(79,[]),(80,[]),(91,[3]),(92,[]),(93,[27]),(94,[3]),(105,[4])]
def f14_ann:Nat->Option Ann:=bq [(6,⟨[1,5,6,7],[],[(6,2)],[],[]⟩),(18,⟨[5,6,8,10],[],[],[],[]⟩)]
def f14_jn:Nat->Option Ann:=bq [(9,⟨[1,5,6],[],[],[],[]⟩),(23,⟨[5,6,8,10,11],[],[],[],[]⟩)]
def f16_ann:Nat->Option Ann:=bq [(4,⟨[0,1,5],[],[],[],[]⟩)]
def f17_jn:Nat->Option Ann:=bq [(7,⟨[2,6],[6],[],[],[]⟩)]
def f18_ann:Nat->Option Ann:=bq [(13,⟨[2,6,7,8],[6,7],[],[],[]⟩)]
def f18_jn:Nat->Option Ann:=bq [(6,⟨[2,5,6,36],[6],[],[],[]⟩),(8,⟨[2,5,6,44],[6],[],[],[]⟩),(10,⟨[2,5,6,52],[6],[],[],[]⟩),(13,⟨[2,6,7,8],[6,7],[],[],[]⟩)]
def f26_ann:Nat->Option Ann:=bq [(2,⟨[0,1,5],[],[],[],[]⟩)]
def f31_ann:Nat->Option Ann:=bq [(2,⟨[1,3],[],[],[],[]⟩),(5,⟨[3,4,16,17],[4],[],[],[]⟩),(10,⟨[3,4,6],[4],[],[],[]⟩)]
def f31_jn:Nat->Option Ann:=bq [(3,⟨[1,3],[],[],[],[]⟩),(9,⟨[3,4],[4],[],[],[]⟩)]
def f38_ann:Nat->Option Ann:=bq [(4,⟨[3,4,18,19],[],[],[],[]⟩),(12,⟨[7,37,38,39],[7],[],[],[]⟩)]
def f38_jn:Nat->Option Ann:=bq [(10,⟨[4],[],[],[],[]⟩)]
def f39_ann:Nat->Option Ann:=bq [(4,⟨[1,3,4,5],[3,4],[],[],[]⟩),(9,⟨[1,3,4,5,6,7,8],[3,4,6],[],[],[]⟩),(15,⟨[1,3,4,5,6,7,8,9,10],[3,4,6,9],[],[],[]⟩),(22,⟨[1,3,4,5,6,11,12],[3,4,6],[(11,1)],[],[]⟩)]
def f39_jn:Nat->Option Ann:=bq [(18,⟨[1,3,4,5,6,7],[3,4,6],[],[],[]⟩),(26,⟨[1,3,4,5,11],[3,4],[],[],[]⟩)]
def f42_jn:Nat->Option Ann:=bq [(6,⟨[1,4,18],[4],[],[],[]⟩)]
def f43_ann:Nat->Option Ann:=bq [(5,⟨[0,1,5,6],[],[],[],[]⟩)]
def f43_jn:Nat->Option Ann:=bq [(11,⟨[0,5],[],[],[],[]⟩)]
def f46_ann:Nat->Option Ann:=bq [(6,⟨[1,2,5,6],[5],[],[],[]⟩),(9,⟨[1,2,5,6,7],[5],[],[],[]⟩),(13,⟨[1,2,5,6,7,8,9],[5,8],[],[],[]⟩)]
def f47_ann:Nat->Option Ann:=bq [(3,⟨[7,14,15,16],[],[(7,2),(7,3)],[],[(7,1002)]⟩),(6,⟨[7,14,15,16],[],[(7,2),(7,3)],[],[(7,1002)]⟩)]
def f47_jn:Nat->Option Ann:=bq [(2,⟨[1,7],[],[(7,2),(7,3)],[],[]⟩)]
def f49_ann:Nat->Option Ann:=bq [(1,⟨[0,2,3],[],[],[],[]⟩)]
def f55_ann:Nat->Option Ann:=bq [(4,⟨[2,3,4,5],[3],[],[2],[]⟩)]
def f56_ann:Nat->Option Ann:=bq [(3,⟨[1,3,4],[],[],[],[]⟩)]
def f57_ann:Nat->Option Ann:=bq [(4,⟨[1,3,4,5],[3,4],[],[],[]⟩),(9,⟨[1,3,4,5,6,7,8],[3,4,6,7],[],[],[]⟩)]
def f57_jn:Nat->Option Ann:=bq [(12,⟨[1,3,4,5,7],[3,4,7],[],[],[]⟩)]
def f59_ann:Nat->Option Ann:=bq [(4,⟨[1,2,3,5,32,33],[3],[],[2],[]⟩),(9,⟨[1,2,3,5,46,47,48],[3,46],[],[2],[]⟩),(12,⟨[1,2,3,5,8,46,47,48,54,55,56],[3,46,54],[],[2],[]⟩)]
def f59_jn:Nat->Option Ann:=bq [(8,⟨[1,2,3,5],[3],[],[2],[]⟩),(17,⟨[2,3,5],[3],[],[2],[]⟩)]
def f61_ann:Nat->Option Ann:=bq [(6,⟨[2,3,7,8],[7],[],[],[]⟩),(9,⟨[2,3,7,8,9],[7],[],[],[]⟩),(14,⟨[2,3,7,8,9,10,11],[7,10],[],[],[]⟩)]
def f64_ann:Nat->Option Ann:=bq [(2,⟨[0,1,7,8],[],[],[],[]⟩)]
def f74_ann:Nat->Option Ann:=bq [(3,⟨[1,2,5,17,18,19],[5],[],[],[]⟩),(9,⟨[2,5,8,32,33,34],[5,8],[],[],[]⟩),(12,⟨[2,5,8,9,32,33,34,41,42,43],[5,8,41],[],[],[]⟩)]
def f74_jn:Nat->Option Ann:=bq [(7,⟨[1,2,5],[5],[],[],[]⟩)]
def f76_ann:Nat->Option Ann:=bq [(10,⟨[4,5,7,10,53,54,55],[10],[],[4],[]⟩)]
def f76_jn:Nat->Option Ann:=bq [(8,⟨[1,4,5,6,7],[],[],[4],[]⟩),(15,⟨[4,5,7,10,12,53,54,55],[10],[],[4],[]⟩)]
def f78_ann:Nat->Option Ann:=bq [(3,⟨[1,2,4],[4],[],[],[]⟩)]
def f79_ann:Nat->Option Ann:=bq [(3,⟨[0,1,4],[],[],[],[]⟩)]
def f79_jn:Nat->Option Ann:=bq [(3,⟨[0,1,4],[],[],[],[]⟩)]
def f91_ann:Nat->Option Ann:=bq [(1,⟨[1,2,3],[],[],[],[]⟩)]
def f92_ann:Nat->Option Ann:=bq [(1,⟨[0,1,3],[],[],[],[]⟩)]
def f93_ann:Nat->Option Ann:=bq [(3,⟨[1,2,5,12,13,14],[5],[],[],[]⟩)]
def f94_ann:Nat->Option Ann:=bq [(1,⟨[1,2],[],[],[],[]⟩)]
noncomputable def fns:FuncId->Option Func:=fun f=>bif f.beq 14 then some Try.f14 else bif f.beq 16 then some Try.f16 else bif f.beq 17 then some Try.f17 else bif f.beq 18 then some Try.f18 else bif f.beq 23 then some Try.f23 else bif f.beq 24 then some Try.f24 else bif f.beq 26 then some Try.f26 else bif f.beq 31 then some Try.f31 else bif f.beq 37 then some Try.f37 else bif f.beq 38 then some Try.f38 else bif f.beq 39 then some Try.f39 else bif f.beq 40 then some Try.f40 else bif f.beq 41 then some Try.f41 else bif f.beq 42 then some Try.f42 else bif f.beq 43 then some Try.f43 else bif f.beq 44 then some Try.f44 else bif f.beq 46 then some Try.f46 else bif f.beq 47 then some Try.f47 else bif f.beq 48 then some Try.f48 else bif f.beq 49 then some Try.f49 else bif f.beq 55 then some Try.f55 else bif f.beq 56 then some Try.f56 else bif f.beq 57 then some Try.f57 else bif f.beq 59 then some Try.f59 else bif f.beq 60 then some Try.f60 else bif f.beq 61 then some Try.f61 else bif f.beq 62 then some Try.f62 else bif f.beq 63 then some Try.f63 else bif f.beq 64 then some Try.f64 else bif f.beq 66 then some Try.f66 else bif f.beq 67 then some Try.f67 else bif f.beq 74 then some Try.f74 else bif f.beq 75 then some Try.f75 else bif f.beq 76 then some Try.f76 else bif f.beq 77 then some Try.f77 else bif f.beq 78 then some Try.f78 else bif f.beq 79 then some Try.f79 else bif f.beq 80 then some Try.f80 else bif f.beq 91 then some Try.f91 else bif f.beq 92 then some Try.f92 else bif f.beq 93 then some Try.f93 else bif f.beq 94 then some Try.f94 else bif f.beq 105 then some Try.f105 else none
def anns:FuncId->Nat->Option Ann:=fun f=>bif f.beq 14 then f14_ann else bif f.beq 16 then f16_ann else bif f.beq 18 then f18_ann else bif f.beq 26 then f26_ann else bif f.beq 31 then f31_ann else bif f.beq 38 then f38_ann else bif f.beq 39 then f39_ann else bif f.beq 43 then f43_ann else bif f.beq 46 then f46_ann else bif f.beq 47 then f47_ann else bif f.beq 49 then f49_ann else bif f.beq 55 then f55_ann else bif f.beq 56 then f56_ann else bif f.beq 57 then f57_ann else bif f.beq 59 then f59_ann else bif f.beq 61 then f61_ann else bif f.beq 64 then f64_ann else bif f.beq 74 then f74_ann else bif f.beq 76 then f76_ann else bif f.beq 78 then f78_ann else bif f.beq 79 then f79_ann else bif f.beq 91 then f91_ann else bif f.beq 92 then f92_ann else bif f.beq 93 then f93_ann else bif f.beq 94 then f94_ann else fun _=>none
def jns:FuncId->Nat->Option Ann:=fun f=>bif f.beq 14 then f14_jn else bif f.beq 17 then f17_jn else bif f.beq 18 then f18_jn else bif f.beq 31 then f31_jn else bif f.beq 38 then f38_jn else bif f.beq 39 then f39_jn else bif f.beq 42 then f42_jn else bif f.beq 43 then f43_jn else bif f.beq 47 then f47_jn else bif f.beq 57 then f57_jn else bif f.beq 59 then f59_jn else bif f.beq 74 then f74_jn else bif f.beq 76 then f76_jn else bif f.beq 79 then f79_jn else fun _=>none
def lent:FuncId->Option eW:=DZ [(52,⟨80,[.sl,.sc,.sc,.sc,.sc,.sc,.sc,.sc,.sc,.sc,.sc,.sc,.sc,.sc,.sc,.sc,.sc,.sl,.sl,.sc,.sc,.sl]⟩)]
def selfT (t:TypeId):Bool:=bD t []
def ext:FuncId->Option (List TV->Option TV):=fun f=>none
def opn (f:FuncId):Bool:=bD f [43,44,47,49,56,60,64,66,67,70,72,73,77,78,79,80,83,84,85,86,87,88,90,92,94,96,97,99,101,102,104]
def gq:List (Nat × List Nat)->Nat->Option (List Nat)
 | [],_=>none
 | (k,d) :: r,t=>bif k.beq t then some d else gq r t
def f17_kp:Nat->Option (List Nat):=gq [(7002,[])]
def f24_kp:Nat->Option (List Nat):=gq [(3005,[]),(4001,[3])]
def f31_kp:Nat->Option (List Nat):=gq [(2001,[1,3])]
def f38_kp:Nat->Option (List Nat):=gq [(6002,[3,4,5,18,19])]
def f40_kp:Nat->Option (List Nat):=gq [(4003,[5])]
def f43_kp:Nat->Option (List Nat):=gq [(1002,[0,1]),(8002,[0,1,5,6,7])]
def f47_kp:Nat->Option (List Nat):=gq [(5001,[7,14,15,16]),(7000,[7,14,15,16])]
def f59_kp:Nat->Option (List Nat):=gq [(17001,[2,5]),(19002,[])]
def f64_kp:Nat->Option (List Nat):=gq [(4005,[0,1,5,7,8])]
def f66_kp:Nat->Option (List Nat):=gq [(2011,[18,21,22,23])]
def f67_kp:Nat->Option (List Nat):=gq [(2001,[]),(5002,[])]
def f75_kp:Nat->Option (List Nat):=gq [(2001,[2,5])]
def f76_kp:Nat->Option (List Nat):=gq [(3001,[1,4,5,6,7])]
def f78_kp:Nat->Option (List Nat):=gq [(5005,[1,2,4,5])]
def f79_kp:Nat->Option (List Nat):=gq [(3005,[0,1,4,18])]
def f92_kp:Nat->Option (List Nat):=gq [(3006,[0,1,3])]
def kps:FuncId->Nat->Option (List Nat):=fun f=>bif f.beq 17 then f17_kp else bif f.beq 24 then f24_kp else bif f.beq 31 then f31_kp else bif f.beq 38 then f38_kp else bif f.beq 40 then f40_kp else bif f.beq 43 then f43_kp else bif f.beq 47 then f47_kp else bif f.beq 59 then f59_kp else bif f.beq 64 then f64_kp else bif f.beq 66 then f66_kp else bif f.beq 67 then f67_kp else bif f.beq 75 then f75_kp else bif f.beq 76 then f76_kp else bif f.beq 78 then f78_kp else bif f.beq 79 then f79_kp else bif f.beq 92 then f92_kp else fun _=>none
def peek:FuncId->Option (Nat × Nat):=fun f=>bif f.beq 71 then some (21,22) else none
def turn (f:FuncId):Bool:=bD f []
def mth:TypeId->String->Option (FuncId × Bool):=fun t s=>none
def eye (f:FuncId):Bool:=bD f [48]
def cold (t:TypeId):Bool:=bD t []
noncomputable def prog:AProg:=⟨tab,pure,rts,fns,anns,jns,lent,selfT,ext,opn,kps,peek,turn,mth,eye,cold⟩
end Go.Ab.Q12
end

import Derived.Test.YtpkpckdealhkhaaAM13e
set_option linter.all false
namespace Go.Ab
open Go.RowKit
theorem j9 {acc:List Nat} {j:Nat}:∀{es:List Edge},(gw acc es).testBit j=true->∃e∈es,Region.binds .any e=true/\(e.on=j\/(nth 0 acc e.on).testBit j=true)
 | [],h=>by simp[gw]at h
 | e :: es, h => by
  simp only[gw]at h
  cases hb:Region.binds .any e with
  | false =>
   simp only[hb,cond_false]at h
   obtain⟨e',he,r⟩:=j9 h
   exact⟨e',FY _ he,r⟩
  | true =>
   simp only[hb,cond_true,Nat.testBit_or,Bool.or_eq_true]at h
   rcases h with(h|h)|h
   ·obtain⟨e',he,r⟩:=j9 h
    exact⟨e',FY _ he,r⟩
   ·rw[Nat.testBit_two_pow]at h
    exact⟨e,FX,hb,.inl (by simpa using h)⟩
   ·exact⟨e,FX,hb,.inr h⟩
theorem lc:∀(ops:List Oper) (acc:List Nat),(bK acc ops).length=acc.length+ops.length/\(bK acc ops).take acc.length=acc /\
  ∀(k:Nat) (o:Oper),ops[k]? = some o->(bK acc ops)[acc.length+k]? = some (gw ((bK acc ops).take (acc.length+k)) o.after.toList)
 | [],acc=>⟨by simp[bK],by simp[bK],by simp⟩
 | o :: ops, acc => by
  obtain⟨h1,h2,h3⟩:=lc ops (acc ++ [gw acc o.after.toList])
  simp only[List.length_append,List.length_cons,List.length_nil]at h1 h2 h3
  have hpre:(bK acc (o::ops)).take acc.length=acc:=by
   simp only[bK]
   have:=congrArg (List.take acc.length) h2
   rw[List.take_take]at this
   rw[show min acc.length (acc.length+(0+1))=acc.length by omega]at this
   rw[this];simp
  refine⟨by simp only[bK];rw[h1];simp;omega,hpre,fun k o' hk=>?_⟩
  cases k with
  | zero =>
   simp at hk
   subst hk
   simp only[Nat.add_zero]
   rw[hpre]
   simp only[bK]
   have:((bK (acc ++ [gw acc o.after.toList]) ops).take (acc.length+(0+1)))[acc.length]? = (acc ++ [gw acc o.after.toList])[acc.length]? := by rw[h2]
   rw[List.getElem?_take_of_lt (by omega)]at this
   rw[this];simp
  | succ k =>
   simp at hk
   have:=h3 k o' hk
   simp only[bK]
   rw[show acc.length+(k+1)=acc.length+(0+1)+k by omega]
   exact this
theorem mo {ops:List Oper} {k:Nat} {o:Oper} (h:ops[k]? = some o):nth 0 (behind ops) k=gw ((behind ops).take k) o.after.toList:=by
 have:=(lc ops []).2.2 k o h
 simp only[List.length_nil,Nat.zero_add]at this
 exact b7 this
theorem bw {i:Nat}:∀{es:List Edge},fm i es=true->∀e∈es,Region.binds .any e=true->e.on<i
 | [],_,e,he,_=>by cases he
 | e' :: es, h, e, he, hb => by
  simp only[fm]at h
  rcases List.mem_cons.1 he with rfl|he
  ·simp only[hb,cond_true]at h
   cases hl:e.on.blt i with
   | false=>simp[hl]at h
   | true=>simpa using hl
  ·cases hb':Region.binds .any e' with
   | false=>simp only[hb',cond_false]at h;exact bw h e he hb
   | true =>
    simp only[hb',cond_true]at h
    cases hl:e'.on.blt i with
    | false=>simp[hl]at h
    | true=>simp only[hl,cond_true]at h;exact bw h e he hb
theorem oH {ops:List Oper} {m:Nat} {y:Oper} {j:Nat}:∀(l:List Oper) (i:Nat),mz ops m y j i l=true->∀(k:Nat) (x:Oper),l[k]? = some x->i+k<j->m.testBit (i+k)=true\/cH ops x y=true
 | [],i,_,k,x,hx,_=>by simp at hx
 | o :: l, i, h, k, x, hx, hlt => by
  simp only[mz]at h
  have hi:i.blt j=true:=by simp;omega
  simp only[hi,cond_true]at h
  cases hc:m.testBit i||cH ops o y with
  | false=>simp[hc]at h
  | true =>
   simp only[hc,cond_true]at h
   cases k with
   | zero=>simp at hx;subst hx;simpa[Bool.or_eq_true]using hc
   | succ k =>
    simp at hx
    have:=oH l (i+1) h k x hx (by omega)
    rwa[show i+1+k=i+(k+1) by omega]at this
theorem cY {ops:List Oper} {bs:List Nat}:∀(l:List Oper) (j:Nat),Au ops bs j l=true->∀(k:Nat) (y:Oper),l[k]? = some y->fm (j+k) y.after.toList=true/\mz ops (nth 0 bs (j+k)) y (j+k) 0 ops=true
 | [],j,_,k,y,hy=>by simp at hy
 | o :: l, j, h, k, y, hy => by
  simp only[Au]at h
  cases hc:fm j o.after.toList&&mz ops (nth 0 bs j) o j 0 ops with
  | false=>simp[hc]at h
  | true =>
   simp only[hc,cond_true]at h
   cases k with
   | zero=>simp at hy;subst hy;simpa[FS]using hc
   | succ k =>
    simp at hy
    have:=cY l (j+1) h k y hy
    rwa[show j+1+k=j+(k+1) by omega]at this
theorem dQ {bs:List Nat} {j:Nat} {all:List Oper}:∀(l:List Oper) (i k d:Nat) (o:Oper),l[k]? = some o->d∈pJ all o->i+k≠j->(nth 0 bs j).testBit (i+k)=false->(nth 0 bs (i+k)).testBit j=false->d∈kZ bs j all i l
 | [],i,k,d,o,h,_,_,_,_=>by simp at h
 | o' :: l, i, k, d, o, h, hd, hne, h1, h2 => by
  simp only[kZ]
  cases k with
  | zero =>
   simp at h
   subst h
   have hb:i.beq j=false:=by
    cases hb:i.beq j with
    | false=>rfl
    | true=>exact absurd ((az _ _).1 hb) hne
   simp only[Nat.add_zero]at h1 h2
   simp[hd,hb,h1,h2]
  | succ k =>
   simp at h
   have:=dQ (bs:=bs) (j:=j) (all:=all) l (i+1) k d o h hd (by omega) (by rwa[show i+1+k=i+(k+1) by omega]) (by rwa[show i+1+k=i+(k+1) by omega])
   cases !(i.beq j) && !((nth 0 bs j).testBit i) && !((nth 0 bs i).testBit j)with
   | true=>exact List.mem_append_right _ this
   | false=>exact this
theorem kV {bs:List Nat} {j:Nat} {all:List Oper}:∀(l:List Oper) (i k d:Nat) (o:Oper),l[k]? = some o->gR all o=some d->i+k≠j->(nth 0 bs j).testBit (i+k)=false->(nth 0 bs (i+k)).testBit j=false->d∈jQ bs j all i l
 | [],i,k,d,o,h,_,_,_,_=>by simp at h
 | o' :: l, i, k, d, o, h, hd, hne, h1, h2 => by
  simp only[jQ]
  cases k with
  | zero =>
   simp at h
   subst h
   have hb:i.beq j=false:=by
    cases hb:i.beq j with
    | false=>rfl
    | true=>exact absurd ((az _ _).1 hb) hne
   simp only[Nat.add_zero]at h1 h2
   simp[hd,hb,h1,h2]
  | succ k =>
   simp at h
   have:=kV (bs:=bs) (j:=j) (all:=all) l (i+1) k d o h hd (by omega) (by rwa[show i+1+k=i+(k+1) by omega]) (by rwa[show i+1+k=i+(k+1) by omega])
   cases !(i.beq j) && !((nth 0 bs j).testBit i) && !((nth 0 bs i).testBit j)with
   | true =>
    simp only[cond_true]
    split
    ·exact FY _ this
    ·exact this
   | false=>exact this
theorem fx {all:List Oper} {o:Oper} {d:Nat} (hm:(ao o.op).makes=true) (hd:o.dst=some d):d∈pJ all o:=by
 unfold pJ
 rw[hd,hm]
 exact List.mem_append_left _ FX
theorem p9 {all:List Oper} {o:Oper} {s:Nat} (hs:gR all o=some s):s∈pJ all o:=by
 unfold pJ
 rw[hs]
 exact List.mem_append_right _ FX
theorem iF {ex:List (List Nat)} {ops:List Oper} {bs:List Nat} {j s:Nat} {o:Oper} (hs:au o.op=some s):gR ops o=some (af ex ops bs j o).root/\(af ex ops bs j o).root=kn ops 20 s:=by
 have h:gR ops o=some (kn ops 20 s):=by unfold gR;rw[hs]
 simp only[af,h,and_self]
theorem kF {ex:List (List Nat)} {bs:List Nat} {j:Nat} {all:List Oper}:∀(l:List Oper) (i k:Nat) (o:Oper),l[k]? = some o->(ao o.op).reads=true->i+k≠j->(nth 0 bs j).testBit (i+k)=false->(nth 0 bs (i+k)).testBit j=false->(kZ bs (i+k) all 0 all,nth [] ex (i+k))∈gP ex bs j all i l
 | [],i,k,o,h,_,_,_,_=>by simp at h
 | o' :: l, i, k, o, h, hm, hne, h1, h2 => by
  cases k with
  | zero =>
   simp at h
   subst h
   have hb:i.beq j=false:=by
    cases hb:i.beq j with
    | false=>rfl
    | true=>exact absurd ((az _ _).1 hb) hne
   simp only[Nat.add_zero]at h1 h2
   simp[gP,hm,hb,h1,h2]
  | succ k =>
   simp at h
   have:=kF (ex:=ex) (bs:=bs) (j:=j) (all:=all) l (i+1) k o h hm (by omega) (by rwa[show i+1+k=i+(k+1) by omega]) (by rwa[show i+1+k=i+(k+1) by omega])
   rw[show i+1+k=i+(k+1) by omega]at this
   simp only[gP]
   cases(ao o'.op).reads && !(i.beq j) && !((nth 0 bs j).testBit i) && !((nth 0 bs i).testBit j)with
   | true=>exact FY _ this
   | false=>exact this
theorem bN {bs:List Nat} {j:Nat}:∀(l:List Oper) (i k:Nat),k<l.length->i+k≠j->(nth 0 bs j).testBit (i+k)=false->(nth 0 bs (i+k)).testBit j=false->besides bs j i l=true
 | [],i,k,h,_,_,_=>by simp at h
 | o :: l, i, k, h, hne, h1, h2 => by
  simp only[besides]
  cases hc:!(i.beq j) && !((nth 0 bs j).testBit i) && !((nth 0 bs i).testBit j)with
  | true=>rfl
  | false =>
   simp only[cond_false]
   cases k with
   | zero =>
    have hb:i.beq j=false:=by
     cases hb:i.beq j with
     | false=>rfl
     | true=>exact absurd ((az _ _).1 hb) hne
    simp only[Nat.add_zero]at h1 h2
    simp[hb,h1,h2]at hc
   | succ k=>exact bN l (i+1) k (by simpa using h) (by omega) (by rwa[show i+1+k=i+(k+1) by omega]) (by rwa[show i+1+k=i+(k+1) by omega])
section
variable {P:Program} {E:Env} {C:Cal} {w0:Bs} {w w':World} {I0:Nat->Prop} {st st' s1 s2:ASt} {a:Act} {ov:List Value} {Q:Exit->Act->World->Prop}
inductive da (E:Env) (C:Cal) (ex:List (List Nat)) (ops:List Oper):List Nat->ASt->ASt->Prop
 | nil (s:ASt):da E C ex ops [] s s
 | cons {i:Nat} {o:Oper} {l:List Nat} {s s1 s':ASt} (ho:ops[i]? = some o) (h:OpN E C ops (af ex ops (behind ops) i o) s s1) (r:da E C ex ops l s1 s'):da E C ex ops (i::l) s s'
theorem u9 (ex:List (List Nat)) (ops:List Oper):∀(l:List Oper) (k:Nat) (s s':ASt),(∀j,l[j]? = ops[k+j]?)->BL E C ops (mq ex ops (behind ops) k l) s s'->da E C ex ops (List.range' k l.length) s s'
 | [],k,s,s',h,hr=>by cases hr;exact .nil _
 | o :: l, k, s, s', h, hr => by
  have h0:ops[k]? = some o:=by have:=h 0;simpa using this.symm
  simp only[mq]at hr
  cases hr with
  | cons h1 h2 =>
   simp only[List.length_cons,List.range'_succ]
   exact .cons h0 h1 (u9 ex ops l (k+1) _ s' (fun j=>by have:=h (j+1);simp at this;rw[this];congr 1;omega) h2)
variable {ops:List Oper} {ex:List (List Nat)}
theorem ni {bs:List Nat} {j:Nat}:∀(l:List Oper) (i:Nat),b9 bs j i l=true->∀(k:Nat) (y:Oper),l[k]? = some y->i+k≠j->(nth 0 bs j).testBit (i+k)=false->(nth 0 bs (i+k)).testBit j=false->fp y=true
 | [],i,_,k,y,hy,_,_,_=>by simp at hy
 | o :: l, i, h, k, y, hy, hne, h1, h2 => by
  simp only[b9]at h
  cases k with
  | zero =>
   simp at hy
   subst hy
   have hb:i.beq j=false:=by
    cases hb:i.beq j with
    | false=>rfl
    | true=>exact absurd ((az _ _).1 hb) hne
   simp only[Nat.add_zero]at h1 h2
   simp only[hb,h1,h2,Bool.not_false,Bool.and_self,cond_true,FS]at h
   exact h.1
  | succ k =>
   have hl:b9 bs j (i+1) l=true:=by
    cases hc:!(i.beq j) && !((nth 0 bs j).testBit i) && !((nth 0 bs i).testBit j)with
    | true=>simp only[hc,cond_true,FS]at h;exact h.2
    | false=>simp only[hc,cond_false]at h;exact h
   simp at hy
   exact ni l (i+1) hl k y hy (by omega) (by rw[show i+1+k=i+(k+1) by omega];exact h1) (by rw[show i+1+k=i+(k+1) by omega];exact h2)
theorem rf {bs:List Nat} {all:List Oper}:∀(l:List Oper) (j:Nat),i6 bs all j l=true->∀(k:Nat) (y:Oper),l[k]? = some y->(au y.op).isSome=true->b9 bs (j+k) 0 all=true\/nh bs (j+k) all y=true
 | [],j,h,k,y,hy,_=>by simp at hy
 | o :: l, j, h, k, y, hy, hp => by
  simp only[i6,FS]at h
  cases k with
  | zero =>
   simp at hy
   subst hy
   have h1:=h.1
   cases hps:au o.op with
   | none=>rw[hps]at hp;cases hp
   | some s=>rw[hps]at h1;simpa using h1
  | succ k =>
   simp at hy
   have:=rf l (j+1) h.2 k y hy hp
   rwa[show j+1+k=j+(k+1) by omega]at this
theorem gV (s:ASt) {d:Option Nat} {m:Nat} (hd:d≠some m) (u v:AV):(s.put (some m) u).put d v=(s.put d v).put (some m) u:=by
 cases d with
 | none=>rfl
 | some d =>
  simp only[ASt.put,ah]
  rw[List.set_comm]
  intro e
  exact hd (by rw[e])
def mvA (s:ASt) (x:Operand):AV:=(s.ev x).nf
theorem kt {s:ASt} {d:Option Nat} {v:AV} {x:Operand} (hx:∀t,x=.tmp t->d≠some t):(s.put d v).ev x=s.ev x:=by
 cases x with
 | tmp t=>exact eY s d v t (hx t rfl)
 | const u=>cases u<;>rfl
 | _=>rfl
theorem qQ {s:ASt} {f:CA->CA} (hf:∀x,f (.t x)=.t x) (hj:f .junk=.junk) (x:Operand):(s.aE f).ev x=(s.ev x).b8 f:=by
 have hnth:∀(l:List AV) (t:Nat),nth (.one .junk) (cg f l) t=(nth (.one .junk) l t).b8 f:=by
  intro l
  induction l with
  | nil=>intro t;simp[cg,nth,AV.b8,hj]
  | cons v l ih=>intro t;cases t with
   | zero=>rfl
   | succ t=>exact ih t
 cases x with
 | tmp t=>exact hnth s.slots t
 | const v =>
  cases v<;>first|rfl|(simp only[ASt.ev];cases Value.oneCell' _<;>simp[AV.b8,hf])
 | global g=>rfl
 | func g=>rfl
theorem uB (f:CA->CA):∀(l:List AV) (m:Nat) (u:AV),cg f (ai l m u)=ai (cg f l) m (u.b8 f)
 | [],m,u=>rfl
 | v::l,0,u=>rfl
 | v::l,m+1,u=>by simp[ai,cg,uB f l m u]
theorem l7 (s:ASt) (f:CA->CA) (m:Nat) (u:AV):(s.put (some m) u).aE f=(s.aE f).put (some m) (u.b8 f):=by
 simp only[ASt.put,ASt.aE,uB]
theorem Ay (p:Prim) (s:ASt) (d:Option Nat) (m:Nat) (x:Operand):p.app (s.put (some m) (mvA s x)) d=(p.app s d).map fun s'=>s'.put (some m) (mvA s' x):=by
 have hlk:(s.put (some m) (mvA s x)).look=s.look:=rfl
 have hsb:∀(i:Nat) (b:Option BC),(s.put (some m) (mvA s x)).ac i b=(s.ac i b).put (some m) (mvA (s.ac i b) x):=fun i b=>by
  have:mvA (s.ac i b) x=mvA s x:=by cases x<;>rfl
  rw[this];rfl
 cases p with
 | drop i r js b =>
  simp only[Prim.app,F6,l7]
  congr 2
  unfold mvA
  rw[qQ (fun _=>rfl) rfl,nx]
 | unmay i =>
  simp only[Prim.app,F6,l7]
  congr 2
  unfold mvA
  rw[qQ (fun _=>rfl) rfl,p8]
 | root i r y =>
  simp only[Prim.app,hlk]
  cases co s.look i r y with
  | none=>rfl
  | some b=>simp only[F6,hsb]
 | frz i r =>
  simp only[Prim.app,hlk]
  cases cj s.look i r with
  | none=>rfl
  | some y =>
   simp only[]
   cases co s.look i r (frz y)with
   | none=>rfl
   | some b=>simp only[F6,hsb]
 | newB b =>
  cases d with
  | none=>rfl
  | some d =>
   simp only[Prim.app]
   have hn:(s.put (some m) (mvA s x)).nid (some d)=s.nid (some d):=rfl
   rw[hn]
   simp only[ASt.bC,hlk]
   cases s.look (s.nid (some d))with
   | some _=>rfl
   | none =>
    simp only[]
    have hbx:(s.put (some m) (mvA s x)).boxes=s.boxes:=rfl
    rw[hbx]
    cases(s.nid (some d)).blt s.boxes.length with
    | false=>rfl
    | true=>simp only[cond_true,F6,hsb]
 | setB i cs =>
  simp only[Prim.app,hlk]
  cases s.look i with
  | none=>rfl
  | some b=>cases b with
   | cells c=>simp only[F6,hsb]
   | tree xs=>rfl
theorem yC (d:Option Nat) (m:Nat) (x:Operand):∀(ps:List Prim) (s:ASt),ae d ps (s.put (some m) (mvA s x))=(ae d ps s).map fun s'=>s'.put (some m) (mvA s' x)
 | [],s=>rfl
 | p::ps,s=>by
  simp only[ae,Ay]
  cases p.app s d with
  | none=>rfl
  | some s1=>exact yC d m x ps s1
theorem De (e:Eff) (s:ASt) {d:Option Nat} {m:Nat} (hd:d≠some m) {x:Operand} (hx:∀t,x=.tmp t->d≠some t):e.app (s.put (some m) (mvA s x)) d=(e.app s d).map fun s'=>s'.put (some m) (mvA s' x):=by
 have fin:∀(s1:ASt) (v:AV),(s1.put (some m) (mvA s1 x)).put d v=(s1.put d v).put (some m) (mvA (s1.put d v) x):=fun s1 v=>by
  have:mvA (s1.put d v) x=mvA s1 x:=by unfold mvA;rw[kt hx]
  rw[gV _ hd,this]
 cases e with
 | val v=>simp only[Eff.app,F6,fin]
 | new b v =>
  cases d with
  | none=>rfl
  | some d =>
   have:=Ay (.newB b) s (some d) m x
   simp only[Prim.app]at this
   simp only[Eff.app,this]
   cases s.bC (s.nid (some d)) b with
   | none=>rfl
   | some s1=>simp only[F6,fin]
 | upd i b v =>
  have hsb:(s.put (some m) (mvA s x)).ac i (some b)=(s.ac i (some b)).put (some m) (mvA (s.ac i (some b)) x):=by
   have:mvA (s.ac i (some b)) x=mvA s x:=by cases x<;>rfl
   rw[this];rfl
  simp only[Eff.app,F6,hsb,fin]
 | gen ps v =>
  simp only[Eff.app,yC]
  cases ae d ps s with
  | none=>rfl
  | some s1=>simp only[F6,fin]
theorem OpN.mv {x:Item} (hm:fp x.o=true) {s s':ASt} (h:OpN E C ops x s s'):∃src m,x.o.op=.move src/\x.o.dst=some m/\x.o.guard=none/\s'=s.put (some m) (mvA s src)/\(x.dr=true->okE x s (.val (s.ev src))=true):=by
 unfold fp at hm
 split at hm
 ·rename_i src hop
  simp only[FS]at hm
  have hg:=Option.isNone_iff_eq_none.1 hm.1
  obtain⟨m,hd⟩:=Option.isSome_iff_exists.1 hm.2
  refine⟨src,m,hop,hd,hg,?_⟩
  rcases h with⟨_,e,h1,h2,h3⟩|⟨b,hb,hne,_⟩
  ·rw[hop]at h1
   have h1:Eff.val (s.ev src)=e:=h1
   subst h1
   rw[hd]at h3
   simp only[Eff.nfE,Eff.app,FR]at h3
   exact⟨h3.symm,h2⟩
  ·rw[aN (by rw[hg];rfl)]at hb
   exact absurd (Option.some.inj hb).symm hne
 ·cases hm
theorem OpN.ofMv {x:Item} {src:Operand} {m:Nat} (hop:x.o.op=.move src) (hd:x.o.dst=some m) (hg:x.o.guard=none) (s:ASt) (hok:x.dr=true->okE x s (.val (s.ev src))=true):OpN E C ops x s (s.put (some m) (mvA s src)):=by
 refine .inl ⟨aN (by rw[hg];rfl) _,.val (s.ev src),?_,hok,?_⟩
 ·rw[hop];rfl
 ·rw[hd];rfl
theorem iE {y:Item} (h:y.loose=true) (h2:y.lds=[]) (s:ASt) (e:Eff):okE y s e=true:=by
 have:cD y s e=true:=by unfold cD;rw[h2];rfl
 simp only[okE,h,this,Bool.and_self,Bool.true_or]
theorem jm {y:Item} (hsh:y.shut=false) (hr:∀s,au y.o.op=some s->∀l∈y.lds,y.root∈l.1) {s:ASt} {e:Eff} (hnu:∀i b v,e=.upd i b v->([],[])∈y.own) (h:okE y s e=true):cD y s e=true:=by
 unfold okE at h
 rw[hsh,Bool.or_eq_true]at h
 rcases h with h|h
 ·rw[FS]at h;exact h.2
 rw[Bool.or_eq_true]at h
 rcases h with h|h
 ·simp only[cond_false,FS]at h
  have hp:=h.1.1
  unfold cD
  rw[List.all_eq_true]
  intro l _
  cases e with
  | val v=>rfl
  | new b v=>rfl
  | upd i b v =>
   have ho:=h.1.2
   simp only[Eff.mT,List.all_eq_true]at ho
   have:=ho _ (hnu i b v rfl)
   cases this
  | gen ps v=>cases hp
 ·obtain⟨s',z,hs',rfl,pu⟩:=fE h
  unfold cD
  rw[List.all_eq_true]
  intro l hl
  have hm:bF (s.base+y.root) (l.1.map (s.base + ·))=true:=(bL _ _).2 (List.mem_map.2 ⟨_,hr s' hs' l hl,rfl⟩)
  have hf:dT (s.base+y.root) s.boxes=true:=cZ.2 pu.boxes
  show(true&&_)=true
  simp only[l6,pp,List.all_cons,List.all_nil,hm,hf,Bool.and_self,Bool.true_or]
def PtI (y:Item):Prop:=y.loose=true/\y.shut=false/\(∀s,au y.o.op=some s->∀l∈y.lds,y.root∈l.1)/\(au y.o.op).isSome=true
theorem PtI.A1 {y:Item} (h:PtI y) {id:Nat} {ban:List Nat} {s:ASt} {vs:List AV} {e:Eff} (hh:(opL E id (banned ban s.look) y.o.op vs).hits C e):∀i b v,e≠.upd i b v:=by
 rintro i b v rfl
 obtain⟨s0,hs0⟩:=Option.isSome_iff_exists.1 h.2.2.2
 have hP:=(cQ hs0).1
 have:=re (st:=s) (by rw[hP];rfl) rfl hh
 cases this with
 | upd _ _ _ hc _=>rw[hP]at hc;cases hc
theorem xR {y:Item} (hl:(y.loose=true/\y.lds=[])\/au y.o.op=none) {s:ASt} {m:Nat} {v:AV} {e:Eff} (hev:y.o.op.operands.toList.map (s.put (some m) v).ev=y.o.op.operands.toList.map s.ev) (hne:y.o.dst≠some m):okE y (s.put (some m) v) e=okE y s e:=by
 rcases hl with⟨h1,h2⟩|hl
 ·rw[iE h1 h2,iE h1 h2]
 ·have e1:ct y.push (s.put (some m) v) y.o.dst e=ct y.push s y.o.dst e:=by
   unfold ct
   have hb:(s.put (some m) v).base=s.base:=rfl
   rw[hb]
   cases hd:y.o.dst with
   | none=>rfl
   | some d =>
    have:nth (.one .junk) (s.put (some m) v).slots d=nth (.one .junk) s.slots d:=eY s (some m) v d (fun e=>hne (by rw[hd,<-e]))
    simp only[this]
  have e2:hH y (s.put (some m) v) e=hH y s e:=by unfold hH;rw[hev,a7]
  have e3:di y (s.put (some m) v) e=di y s e:=iK rfl (fun k hk=>eY s (some m) v k (fun e=>hne (by rw[hk,<-e]))) hev
  have e4:dj y (s.put (some m) v) e=dj y s e:=by unfold dj;rw[hl]
  have e5:cD y (s.put (some m) v) e=cD y s e:=rfl
  unfold okE
  rw[e1,e2,e3,e4,e5]
  rfl
theorem ER {y:Item} (hl:((y.loose=true/\y.lds=[])\/au y.o.op=none)\/PtI y) {s:ASt} {m:Nat} {v:AV} {e:Eff} (hnu:PtI y->∀i b v,e≠.upd i b v) (hev:y.o.op.operands.toList.map (s.put (some m) v).ev=y.o.op.operands.toList.map s.ev) (hne:y.o.dst≠some m) (h:okE y (s.put (some m) v) e=true):okE y s e=true:=by
 rcases hl with hl|hl
 ·rw[xR hl hev hne]at h;exact h
 ·have h1:cD y (s.put (some m) v) e=true:=jm hl.2.1 hl.2.2.1 (fun i b v e=>absurd e (hnu hl i b v)) h
  have:cD y s e=true:=h1
  simp only[okE,hl.1,this,Bool.and_self,Bool.true_or]
theorem D3 {y:Item} (hl:((y.loose=true/\y.lds=[])\/au y.o.op=none)\/PtI y) {s:ASt} {m:Nat} {v:AV} {e:Eff} (hnu:PtI y->∀i b v,e≠.upd i b v) (hev:y.o.op.operands.toList.map (s.put (some m) v).ev=y.o.op.operands.toList.map s.ev) (hne:y.o.dst≠some m) (h:okE y s e=true):okE y (s.put (some m) v) e=true:=by
 rcases hl with hl|hl
 ·rw[xR hl hev hne];exact h
 ·have h1:cD y s e=true:=jm hl.2.1 hl.2.2.1 (fun i b v e=>absurd e (hnu hl i b v)) h
  have:cD y (s.put (some m) v) e=true:=h1
  simp only[okE,hl.1,this,Bool.and_self,Bool.true_or]
theorem Fe {x y:Item} (hm:fp x.o=true) (hl:((y.loose=true/\y.lds=[])\/au y.o.op=none)\/PtI y) (hlx:x.loose=true) (hlx2:x.lds=[]) (hap:cH ops x.o y.o=true) {st s1 s2:ASt} (h1:OpN E C ops x st s1) (h2:OpN E C ops y s1 s2):∃s1',OpN E C ops y st s1'/\OpN E C ops x s1' s2:=by
 simp only[cH,FS]at hap
 obtain⟨⟨⟨⟨_,hfx⟩,hfy⟩,hu⟩,_⟩:=hap
 obtain⟨src,m,hop,hd,hg,rfl,_⟩:=h1.mv hm
 have hsb:jr (some m) (st.put (some m) (mvA st src)) st:=⟨by simp[ASt.put,ah],fun k hk=>eY st (some m) _ k hk⟩
 rw[hd]at hfx hu
 obtain⟨f1,f2⟩:=aA hfx
 have hgd:bh ops y.o (st.put (some m) (mvA st src))=bh ops y.o st:=kB hsb f1
 have hev:=eG hsb f2
 have hne:y.o.dst≠some m:=fun e=>by rw[e]at hu;simp[unlike]at hu
 have hx:∀t,src=.tmp t->y.o.dst≠some t:=fun t ht e=>by
  have:=bn (aA hfy).2 t e
  exact this (cu (by rw[hop,ht];exact FX))
 have okx:∀s,x.dr=true->okE x s (.val (s.ev src))=true:=fun s _=>iE hlx hlx2 _ _
 rcases h2 with⟨hgy,e,k1,k2,k3⟩|⟨b,hgy,hb,rfl⟩
 ·rw[hgd]at hgy
  rw[hev]at k1
  rw[De e.nfE st hne hx]at k3
  cases hs:e.nfE.app st y.o.dst with
  | none=>rw[hs]at k3;cases k3
  | some s1' =>
   rw[hs]at k3
   simp only[F6,FR]at k3
   subst k3
   exact⟨s1',.inl ⟨hgy,e,k1,fun hdr=>ER hl (fun hp=>hp.A1 k1) hev hne (k2 hdr),hs⟩,OpN.ofMv hop hd hg s1' (okx s1')⟩
 ·rw[hgd]at hgy
  refine⟨dU y.o st,.inr ⟨b,hgy,hb,rfl⟩,?_⟩
  have:dU y.o (st.put (some m) (mvA st src))=(dU y.o st).put (some m) (mvA (dU y.o st) src):=by
   unfold dU
   have e1:mvA (st.put y.o.dst (.one .undef)) src=mvA st src:=by unfold mvA;rw[kt hx]
   rw[gV _ hne,e1]
  rw[this]
  exact OpN.ofMv hop hd hg _ (okx _)
theorem CB {x y:Item} (hm:fp y.o=true) (hl:((x.loose=true/\x.lds=[])\/au x.o.op=none)\/PtI x) (hly:y.loose=true) (hly2:y.lds=[]) (hap:cH ops x.o y.o=true) {st s1 s2:ASt} (h1:OpN E C ops x st s1) (h2:OpN E C ops y s1 s2):∃s1',OpN E C ops y st s1'/\OpN E C ops x s1' s2:=by
 simp only[cH,FS]at hap
 obtain⟨⟨⟨⟨_,hfx⟩,hfy⟩,hu⟩,_⟩:=hap
 obtain⟨src,m,hop,hd,hg,rfl,_⟩:=h2.mv hm
 have hsb:jr (some m) (st.put (some m) (mvA st src)) st:=⟨by simp[ASt.put,ah],fun k hk=>eY st (some m) _ k hk⟩
 rw[hd]at hfy hu
 obtain⟨f1,f2⟩:=aA hfy
 have hgd:bh ops x.o (st.put (some m) (mvA st src))=bh ops x.o st:=kB hsb f1
 have hev:=eG hsb f2
 have hne:x.o.dst≠some m:=fun e=>by rw[e]at hu;simp[unlike]at hu
 have hx:∀t,src=.tmp t->x.o.dst≠some t:=fun t ht e=>by
  have:=bn (aA hfx).2 t e
  exact this (cu (by rw[hop,ht];exact FX))
 refine⟨st.put (some m) (mvA st src),OpN.ofMv hop hd hg st (fun _=>iE hly hly2 _ _),?_⟩
 rcases h1 with⟨hgx,e,k1,k2,k3⟩|⟨b,hgx,hb,rfl⟩
 ·rw[<-hgd]at hgx
  have hnu:PtI x->∀i b v,e≠.upd i b v:=fun hp=>hp.A1 k1
  rw[<-hev]at k1
  refine .inl ⟨hgx,e,k1,fun hdr=>D3 hl hnu hev hne (k2 hdr),?_⟩
  rw[De e.nfE st hne hx,k3]
  rfl
 ·rw[<-hgd]at hgx
  refine .inr ⟨b,hgx,hb,?_⟩
  unfold dU
  have e1:mvA (st.put x.o.dst (.one .undef)) src=mvA st src:=by unfold mvA;rw[kt hx]
  rw[gV _ hne,e1]
section
variable {look:Look} {id:Nat}
def xb (look:Look) (p:Prim):Prop:=∃i r js z,(p=.drop i r js false\/p=.root i r z)/\∃b,look i=some b
theorem vp {i r:Nat} {x:TV} (h:cj look i r=some x):∃b,look i=some b:=by
 unfold cj at h
 split at h
 ·exact⟨_,by assumption⟩
 ·cases h
theorem dD {R:Type} {e:R}:∀{cs:List CA} {k:List TV->List Prim->List (Nat × Nat)->Prg R},(cm look cs k).hits C e->∃xs ps ts,(k xs ps ts).hits C e/\∀p∈ps,xb look p
 | [],k,h=>⟨[],[],[],h,fun p hp=>by cases hp⟩
 | .t x::l,k,h=>by
  obtain⟨xs,ps,ts,h1,h2⟩:=dD (cs:=l) h
  exact⟨_,_,_,h1,h2⟩
 | .sref i r p :: l, k, h => by
  simp only[cm]at h
  split at h
  ·rename_i x hr
   have hb:=vp hr
   split at h
   ·obtain⟨xs,ps,ts,h1,h2⟩:=dD (cs:=l) h
    refine⟨_,_,_,h1,fun q hq=>?_⟩
    rcases List.mem_cons.1 hq with rfl|hq
    ·exact⟨i,r,[],.hole,.inl rfl,hb⟩
    rcases List.mem_cons.1 hq with rfl|hq
    ·exact⟨i,r,[],.hole,.inr rfl,hb⟩
    exact h2 q hq
   ·obtain⟨y,_,b,_,⟨_,h⟩|⟨_,h⟩⟩:=h
    ·obtain⟨xs,ps,ts,h1,h2⟩:=dD (cs:=l) h
     exact⟨_,_,_,h1,h2⟩
    ·obtain⟨x',_,h⟩:=h
     obtain⟨xs,ps,ts,h1,h2⟩:=dD (cs:=l) h
     refine⟨_,_,_,h1,fun q hq=>?_⟩
     rcases List.mem_cons.1 hq with rfl|hq
     ·exact⟨i,r,_,.hole,.inl rfl,hb⟩
     rcases List.mem_cons.1 hq with rfl|hq
     ·exact⟨i,r,[],x',.inr rfl,hb⟩
     exact h2 q hq
  ·exact h.elim
 | .swin i r p lo len :: l, k, h => by
  simp only[cm]at h
  split at h
  ·rename_i x hr
   have hb:=vp hr
   split at h
   ·obtain⟨z,_,h⟩:=h
    obtain⟨xs,ps,ts,h1,h2⟩:=dD (cs:=l) h
    refine⟨_,_,_,h1,fun q hq=>?_⟩
    rcases List.mem_cons.1 hq with rfl|hq
    ·exact⟨i,r,[],.hole,.inl rfl,hb⟩
    rcases List.mem_cons.1 hq with rfl|hq
    ·exact⟨i,r,[],.hole,.inr rfl,hb⟩
    exact h2 q hq
   ·obtain⟨y,_,z,_,_,h⟩:=h
    obtain⟨xs,ps,ts,h1,h2⟩:=dD (cs:=l) h
    exact⟨_,_,_,h1,h2⟩
  ·exact h.elim
 | .ptr _ _::l,k,h=>h.elim
 | .ref _ _::l,k,h=>h.elim
 | .tptr _ _ _ _ _::l,k,h=>h.elim
 | .may _ _::l,k,h=>h.elim
 | .aptr _ _ _ _::l,k,h=>h.elim
 | .ifp _ _::l,k,h=>h.elim
 | .fn1 _ _::l,k,h=>h.elim
 | .psl _ _::l,k,h=>h.elim
 | .yl _::l,k,h=>h.elim
 | .undef::l,k,h=>h.elim
 | .junk::l,k,h=>h.elim
theorem xS {R:Type} {e:R} {agg:Bool} {n:Nat} {x:AV} {k:List CA->Prg R} (h:(x.bd agg n k).hits C e):∃cs,(k cs).hits C e:=by
 unfold AV.bd at h
 split at h
 ·rename_i c
  cases hc:c.kept with
  | true=>rw[hc]at h;exact⟨_,h⟩
  | false=>rw[hc]at h;exact h.elim
 ·exact⟨_,h.2⟩
 ·exact⟨_,h⟩
 ·exact⟨_,h⟩
 ·rename_i cs
  cases hc:cs.length.beq n with
  | true=>rw[hc]at h;exact⟨_,h⟩
  | false=>rw[hc]at h;exact h.elim
 ·exact⟨_,h.2⟩
 ·exact h.elim
theorem uv {R:Type} {e:R} {at_:Nat->Option (Nat × Bool × Nat)} {k:List CA->Prg R}:∀{is:List Nat} {vs:List AV} {cs:List CA},(cp at_ is vs cs k).hits C e->∃cs',(k cs').hits C e
 | [],[],cs,h=>⟨cs,h⟩
 | i :: is, x :: rest, cs, h => by
  simp only[cp]at h
  split at h
  ·rename_i off agg n _
   obtain⟨ps,h⟩:=xS h
   cases hc:(off+ps.length).ble cs.length&&ps.length.beq n with
   | true=>rw[hc]at h;exact uv (is:=is) (vs:=rest) h
   | false=>rw[hc]at h;exact h.elim
  ·exact h.elim
 | [],_::_,cs,h=>h.elim
 | _::_,[],cs,h=>h.elim
theorem zF {op:Op} (hb:∃(t:TypeId) (len:Nat) (parts:Array (Nat × Operand)),op=.buildSlice t len parts) {vs:List AV} {e:Eff} (h:(opL E id look op vs).hits C e):∃qs x v,e=cU qs x v/\v.nf=v/\∀p∈qs,xb look p:=by
 obtain⟨t,len,parts,rfl⟩:=hb
 have h:(bif E.cold t && !(len.beq 0)then CH E t len parts vs else iV E id look t len parts vs).hits C e:=by
  cases vs<;>exact h
 cases hc:E.cold t && !(len.beq 0)with
 | true =>
  rw[hc]at h
  simp only[cond_true]at h
  exact h.elim
 | false =>
 rw[hc]at h
 simp only[cond_false]at h
 unfold iV at h
 split at h
 ·rename_i d _
  obtain⟨cs,h⟩:=uv h
  cases hp:wa cs&&(!(len.beq 0)&&(d.size.beq 1&&len.ble 16777216))with
  | true =>
   rw[hp]at h
   have h:Eff.new (.cells cs) (.one (.psl id len))=e:=h
   exact⟨[],_,_,h.symm,rfl,fun p hp=>by cases hp⟩
  | false =>
  rw[hp]at h
  simp only[cond_false]at h
  obtain⟨ys,qs,ts,h,hg⟩:=dD h
  cases hc:gk ts&&(len*d.size).ble 16777216&&ys.length.beq (len*d.size)&&Nat.blt 0 d.size with
  | true =>
   rw[hc]at h
   have h:cU qs (.tree [.sl true d.size (chunks d.size len ys)]) (.one (.sref id 0 []))=e:=h
   exact⟨qs,_,_,h.symm,rfl,hg⟩
  | false=>rw[hc]at h;exact h.elim
 ·exact h.elim
theorem kN (qs:List Prim) (b:BC) (v:AV) (s:ASt) (d:Tmp):(cU qs b v).app s (some d)=(ae (some d) (qs ++ [.newB b]) s).map fun s'=>s'.put (some d) v:=by
 cases qs with
 | nil =>
  simp only[cU,Eff.app,List.nil_append,ae,Prim.app]
  cases s.bC (s.nid (some d)) b<;>rfl
 | cons q qs =>
  simp only[cU,Eff.app]
  cases ae (some d) ((q::qs) ++ [.newB b]) s<;>rfl
theorem sG (qs:List Prim) (b:BC) {v:AV} (hv:v.nf=v):(cU qs b v).nfE=cU qs b v:=by
 cases qs<;>simp only[cU,Eff.nfE,hv]
theorem lq {i r:Nat} {js:List Nat} {b:Bool} {c:CA} (h:i∉nN c):CA.drop i r js b c=c:=by
 have key:∀{i' r':Nat} {p:Way},i≠i'->dz i r js b i' r' p=false:=fun{i' r' p} hne=>by
  have:i.beq i'=false:=by
   cases hb:i.beq i' with
   | false=>rfl
   | true=>exact absurd ((az _ _).1 hb) hne
  simp only[dz,this,Bool.false_and]
 cases c with
 | tptr i' r' p k j =>
  have hne:i≠i':=fun e=>h (by simp[nN,e])
  simp only[CA.drop,key hne,cond_false]
 | sref i' r' p =>
  have hne:i≠i':=fun e=>h (by simp[nN,e])
  simp only[CA.drop,key hne,cond_false]
 | swin i' r' p lo len =>
  have hne:i≠i':=fun e=>h (by simp[nN,e])
  simp only[CA.drop,key hne,cond_false]
 | _=>rfl
theorem jX {i r:Nat} {js:List Nat} {b:Bool}:∀{cs:List CA},i∉lg cs->mapC (CA.drop i r js b) cs=cs
 | [],_=>rfl
 | c::cs,h=>by
  simp only[lg,List.mem_append,not_or]at h
  simp only[mapC,lq h.1,jX h.2]
theorem vm {i r:Nat} {js:List Nat} {b:Bool}:∀{l:List (Bool × List CA)},i∉qb l->jD (CA.drop i r js b) l=l
 | [],_=>rfl
 | (_,cs)::l,h=>by
  simp only[qb,List.mem_append,not_or]at h
  simp only[jD,jX h.1,vm h.2]
theorem po {i r:Nat} {js:List Nat} {b:Bool} {v:AV} (h:i∉v.d9):v.b8 (CA.drop i r js b)=v:=by
 cases v with
 | one c=>simp only[AV.b8,lq h]
 | agg cs=>simp only[AV.b8,jX h]
 | tups l=>simp only[AV.b8,vm h]
 | clo _ l=>simp only[AV.b8,jX h]
 | _=>rfl
theorem s7 {n:Nat}:∀{l:List Nat},um n l=true->∀k∈l,k=n
 | [],_,k,hk=>by cases hk
 | a::l,h,k,hk=>by
  simp only[um,FS]at h
  rcases List.mem_cons.1 hk with rfl|hk
  ·exact(az _ _).1 h.1
  ·exact s7 h.2 k hk
theorem pI (f:CA->CA):∀(l:List (Option BC)) (m:Nat) (u:Option BC),eg f (ai l m u)=ai (eg f l) m (u.map (BC.bS f))
 | [],m,u=>rfl
 | some v::l,0,u=>by cases u<;>rfl
 | none::l,0,u=>by cases u<;>rfl
 | some v::l,m+1,u=>by simp[ai,eg,pI f l m u]
 | none::l,m+1,u=>by simp[ai,eg,pI f l m u]
theorem wV (s:ASt) (f:CA->CA) (i:Nat) (u:Option BC):(s.ac i u).aE f=(s.aE f).ac i (u.map (BC.bS f)):=by
 simp only[ASt.ac,ASt.aE,pI]
theorem rG (s:ASt) (f:CA->CA) (d:Option Tmp):(s.aE f).nid d=s.nid d:=by
 cases d with
 | none=>rfl
 | some d=>simp only[ASt.nid,ASt.aE,bT]
structure ClE (n:Nat) (e:Eff):Prop where
 form:iH e=true
 refs:∀k∈dC e,k=n
theorem ClE.nr {n:Nat} {e:Eff} (he:ClE n e) {s s':ASt} {d:Tmp} (hn:s.nid (some d)=n) (ha:e.app s (some d)=some s') {i:Nat} (hi:i≠n):s'.look i=s.look i:=by
 cases e with
 | val v=>simp only[Eff.app,FR]at ha;subst ha;rfl
 | new b v =>
  obtain⟨_,_,_,_,rfl⟩:=cC ha
  rw[bo,ag,if_neg (fun h=>hi (by rw[<-hn];exact h.1.symm))]
 | upd i b v=>cases he.form
 | gen ps v=>cases he.form
theorem ClE.nid {n:Nat} {e:Eff} (he:ClE n e) {s s':ASt} {d:Tmp} (ha:e.app s (some d)=some s') (d':Option Tmp):s'.nid d'=s.nid d':=by
 cases e with
 | val v=>simp only[Eff.app,FR]at ha;subst ha;rw[a7]
 | new b v =>
  obtain⟨_,_,_,_,rfl⟩:=cC ha
  rw[a7,bm]
 | upd i b v=>cases he.form
 | gen ps v=>cases he.form
theorem ClE.box {n:Nat} {e:Eff} (he:ClE n e) {s:ASt} {d:Tmp} (hn:s.nid (some d)=n) {i:Nat} (hi:i≠n) (b:BC):e.app (s.ac i (some b)) (some d)=(e.app s (some d)).map fun s'=>s'.ac i (some b):=by
 cases e with
 | val v=>simp only[Eff.app,F6,aO]
 | new c v =>
  simp only[Eff.app,ASt.bC,bm,hn,ag,if_neg (fun h:i=n/\i<s.boxes.length=>hi h.1)]
  have hl:(s.ac i (some b)).boxes.length=s.boxes.length:=by simp[ASt.ac,ah]
  rw[hl]
  cases s.look n with
  | some _=>rfl
  | none =>
   simp only[]
   cases n.blt s.boxes.length with
   | false=>rfl
   | true=>simp only[cond_true,F6,aO,fF s hi]
 | upd i b v=>cases he.form
 | gen ps v=>cases he.form
theorem ClE.dropP {n:Nat} {e:Eff} (he:ClE n e) {s:ASt} {d:Tmp} (hn:s.nid (some d)=n) {i r:Nat} {js:List Nat} {b:Bool} (hi:i≠n):e.app (s.aE (CA.drop i r js b)) (some d)=(e.app s (some d)).map (ASt.aE (CA.drop i r js b)):=by
 cases e with
 | val v =>
  have hv:v.b8 (CA.drop i r js b)=v:=po fun h=>hi (he.refs i h)
  simp only[Eff.app,F6,l7,hv]
 | new c v =>
  cases c with
  | cells cs=>cases he.form
  | tree xs =>
   have hv:v.b8 (CA.drop i r js b)=v:=po fun h=>hi (he.refs i (by simp only[dC,List.mem_append];exact .inr h))
   simp only[Eff.app,ASt.bC,rG,hn,aS,fk]
   cases s.look n with
   | some _=>rfl
   | none =>
    simp only[Option.map_none]
    cases n.blt s.boxes.length with
    | false=>rfl
    | true=>simp only[cond_true,F6,l7,wV,hv,BC.bS]
 | upd i b v=>cases he.form
 | gen ps v=>cases he.form
theorem ClE.prim {n:Nat} {e:Eff} (he:ClE n e) {s:ASt} {d m:Tmp} (hn:s.nid (some d)=n) (hm:s.nid (some m)≠n) {p:Prim} (hp:(∃i r js z,(p=.drop i r js false\/p=.root i r z)/\i≠n)\/∃xs,p=.newB xs) :
  (p.app s (some m)).bind (fun s1=>e.app s1 (some d))=(e.app s (some d)).bind fun s1=>p.app s1 (some m):=by
 rcases hp with⟨i,r,js,z,rfl|rfl,hi⟩|⟨xs,rfl⟩
 ·simp only[Prim.app,Option.bind_some,he.dropP hn hi]
  cases e.app s (some d)<;>rfl
 ·simp only[Prim.app]
  cases ha:e.app s (some d)with
  | none =>
   cases hr:co s.look i r z with
   | none=>rfl
   | some b=>simp only[Option.bind_some,he.box hn hi,ha,Option.map_none,Option.bind_none]
  | some s1 =>
   have hl:co s1.look i r z=co s.look i r z:=by unfold co;rw[he.nr hn ha hi]
   simp only[Option.bind_some,hl]
   cases co s.look i r z with
   | none=>rfl
   | some b=>simp only[Option.bind_some,he.box hn hi,ha,F6]
 ·simp only[Prim.app]
  have hs:∀{t:ASt},s.bC (s.nid (some m)) xs=some t->t=s.ac (s.nid (some m)) (some xs):=fun h=>(bu h).2.2
  cases hb:s.bC (s.nid (some m)) xs with
  | none =>
   cases ha:e.app s (some d)with
   | none=>rfl
   | some s1 =>
    simp only[Option.bind_none,Option.bind_some,he.nid ha]
    unfold ASt.bC at hb ⊢
    have hlen:s1.boxes.length=s.boxes.length:=by
     cases e with
     | val v=>simp only[Eff.app,FR]at ha;subst ha;rfl
     | new b v=>obtain⟨_,_,_,_,rfl⟩:=cC ha;simp[bU,ASt.ac,ah]
     | upd i b v=>cases he.form
     | gen ps v=>cases he.form
    rw[he.nr hn ha hm,hlen]
    cases hl:s.look (s.nid (some m))with
    | some _=>rfl
    | none =>
     rw[hl]at hb
     simp only[]at hb ⊢
     cases hc:(s.nid (some m)).blt s.boxes.length with
     | false=>rfl
     | true=>rw[hc]at hb;cases hb
  | some t =>
   have ht:=hs hb
   subst ht
   simp only[Option.bind_some,he.box hn hm]
   cases ha:e.app s (some d)with
   | none=>rfl
   | some s1 =>
    simp only[F6,Option.bind_some,he.nid ha]
    obtain⟨h1,h2,_⟩:=bu hb
    have hlen:s1.boxes.length=s.boxes.length:=by
     cases e with
     | val v=>simp only[Eff.app,FR]at ha;subst ha;rfl
     | new b v=>obtain⟨_,_,_,_,rfl⟩:=cC ha;simp[bU,ASt.ac,ah]
     | upd i b v=>cases he.form
     | gen ps v=>cases he.form
    have h2':(s.nid (some m)).blt s1.boxes.length=true:=by rw[hlen];simpa using h2
    simp only[ASt.bC,he.nr hn ha hm,h1,h2',cond_true]
theorem iP {p:Prim} {s s':ASt} {m:Option Tmp} (h:p.app s m=some s') (d:Option Tmp):s'.nid d=s.nid d:=by
 cases p with
 | drop i r js b=>simp only[Prim.app,FR]at h;subst h;exact rG s _ d
 | unmay i=>simp only[Prim.app,FR]at h;subst h;exact rG s _ d
 | root i r x =>
  simp only[Prim.app]at h
  split at h
  ·simp only[FR]at h;subst h;exact bm s _ _ d
  ·cases h
 | frz i r =>
  simp only[Prim.app]at h
  split at h
  ·split at h
   ·simp only[FR]at h;subst h;exact bm s _ _ d
   ·cases h
  ·cases h
 | newB b =>
  cases m with
  | none=>cases h
  | some m =>
   obtain⟨_,_,rfl⟩:=bu (show s.bC (s.nid (some m)) b=some s' from h)
   exact bm s _ _ d
 | setB i cs =>
  simp only[Prim.app]at h
  split at h
  ·simp only[FR]at h;subst h;exact bm s _ _ d
  ·cases h
theorem ClE.prims {n:Nat} {e:Eff} (he:ClE n e) {d m:Tmp}:∀{ps:List Prim} {s:ASt},s.nid (some d)=n->s.nid (some m)≠n->(∀p∈ps,(∃i r js z,(p=.drop i r js false\/p=.root i r z)/\i≠n)\/∃xs,p=.newB xs) ->
  (ae (some m) ps s).bind (fun s1=>e.app s1 (some d))=(e.app s (some d)).bind fun s1=>ae (some m) ps s1
 | [],s,_,_,_=>by
  simp only[ae,Option.bind_some]
  cases e.app s (some d)<;>rfl
 | p :: ps, s, hn, hm, hp => by
  have h1:=he.prim hn hm (hp p FX)
  simp only[ae]
  cases hps:p.app s (some m)with
  | none =>
   rw[hps]at h1
   simp only[Option.bind_none]at h1 ⊢
   cases ha:e.app s (some d)with
   | none=>rfl
   | some s1 =>
    rw[ha]at h1
    simp only[Option.bind_some]at h1 ⊢
    rw[<-h1]
  | some s2 =>
   rw[hps]at h1
   simp only[Option.bind_some]at h1 ⊢
   rw[he.prims (by rw[iP hps];exact hn) (by rw[iP hps];exact hm) (fun q hq=>hp q (FY _ hq)),h1]
   cases e.app s (some d)with
   | none=>rfl
   | some s1 =>
    simp only[Option.bind_some]
    cases p.app s1 (some m)<;>rfl
theorem ClE.build {n:Nat} {e:Eff} (he:ClE n e) {d m:Tmp} (hdm:d≠m) {s:ASt} (hn:s.nid (some d)=n) (hm:s.nid (some m)≠n) {qs:List Prim} {xs:BC} {v:AV} (hq:∀p∈qs,∃i r js z,(p=.drop i r js false\/p=.root i r z)/\i≠n) :
  ((cU qs xs v).app s (some m)).bind (fun s1=>e.app s1 (some d))=(e.app s (some d)).bind fun s1=>(cU qs xs v).app s1 (some m):=by
 have hp:=he.prims (d:=d) (m:=m) (ps:=qs ++ [.newB xs]) (s:=s) hn hm (fun p hp=>by
  rcases List.mem_append.1 hp with h|h
  ·exact .inl (hq p h)
  ·exact .inr ⟨xs,List.mem_singleton.1 h⟩)
 have hput:∀s1:ASt,s1.nid (some d)=n->e.app (s1.put (some m) v) (some d)=(e.app s1 (some d)).map fun s2=>s2.put (some m) v:=fun s1 h1=>by
  cases e with
  | val u=>simp only[Eff.app,F6];rw[gV _ (fun h=>hdm (Option.some.inj h))]
  | new b u =>
   simp only[Eff.app,a7,ASt.bC,bo,bU]
   cases s1.look (s1.nid (some d))with
   | some _=>rfl
   | none =>
    simp only[]
    cases(s1.nid (some d)).blt s1.boxes.length with
    | false=>rfl
    | true=>simp only[cond_true,F6,aO];rw[gV _ (fun h=>hdm (Option.some.inj h))]
  | upd i b v=>cases he.form
  | gen ps v=>cases he.form
 have hnid:∀{ps:List Prim} {s s':ASt},ae (some m) ps s=some s'->s'.nid (some d)=s.nid (some d):=fun{ps}=>by
  induction ps with
  | nil=>intro s s' h;simp only[ae,FR]at h;rw[h]
  | cons p ps ih =>
   intro s s' h
   simp only[ae]at h
   split at h
   ·rename_i s1 h1
    rw[ih h,iP h1]
   ·cases h
 simp only[kN]
 cases hA:ae (some m) (qs ++ [.newB xs]) s with
 | none =>
  rw[hA]at hp
  simp only[Option.bind_none,Option.map_none]at hp ⊢
  cases ha:e.app s (some d)with
  | none=>rfl
  | some s1 =>
   rw[ha]at hp
   simp only[Option.bind_some]at hp ⊢
   rw[<-hp]
   rfl
 | some s2 =>
  rw[hA]at hp
  simp only[Option.bind_some,F6]at hp ⊢
  rw[hput s2 (by rw[hnid hA];exact hn),hp]
  cases e.app s (some d)<;>rfl
theorem gp:∀{l:List AV},cX l=true->∀v∈l,∃x,v.tv? = some x
 | [],_,v,hv=>by cases hv
 | a :: l, h, v, hv => by
  simp only[cX,FS]at h
  rcases List.mem_cons.1 hv with rfl|hv
  ·cases hx:v.tv? with
   | none=>rw[hx]at h;cases h.1
   | some x=>exact⟨x,rfl⟩
  ·exact gp h.2 v hv
theorem Fc {v:AV} {x:TV} {i r:Nat} {js:List Nat} {b:Bool} (h:v.tv? = some x):v.b8 (CA.drop i r js b)=v:=by
 cases v with
 | one c=>cases c<;>first|rfl|cases h
 | agg cs=>cases h
 | tups l=>cases h
 | clo _ l=>cases h
 | _=>rfl
theorem E3 {v:AV} {x:TV} {i r:Nat} {js:List Nat} {b:Bool} (h:(v.b8 (CA.drop i r js b)).tv? = some x):v.b8 (CA.drop i r js b)=v:=by
 cases v with
 | one c =>
  cases c with
  | tptr i' r' p k j =>
   simp only[AV.b8,CA.drop]at h
   cases hc:dz i r js b i' r' p<;>rw[hc]at h<;>cases h
  | sref i' r' p =>
   simp only[AV.b8,CA.drop]at h
   cases hc:dz i r js b i' r' p<;>rw[hc]at h<;>cases h
  | swin i' r' p lo len =>
   simp only[AV.b8,CA.drop]at h
   cases hc:dz i r js b i' r' p<;>rw[hc]at h<;>cases h
  | _=>rfl
 | agg cs=>cases h
 | tups l=>cases h
 | clo _ l=>cases h
 | _=>rfl
theorem AS {p:Prim} (hp:(∃i r js z,p=.drop i r js false\/p=.root i r z)\/∃xs,p=.newB xs) {s s':ASt} {m:Option Tmp} (h:p.app s m=some s') (x:Operand):((∃y,(s.ev x).tv? = some y)\/∃y,(s'.ev x).tv? = some y)->s'.ev x=s.ev x:=by
 have sb:∀(s:ASt) (i:Nat) (b:Option BC),(s.ac i b).ev x=s.ev x:=fun s i b=>by cases x<;>rfl
 intro hc
 rcases hp with⟨i,r,js,z,rfl|rfl⟩|⟨b,rfl⟩
 ·simp only[Prim.app,FR]at h
  subst h
  rw[qQ (fun _=>rfl) rfl]at hc ⊢
  rcases hc with⟨y,hc⟩|⟨y,hc⟩
  ·exact Fc hc
  ·exact E3 hc
 ·simp only[Prim.app]at h
  split at h
  ·simp only[FR]at h;subst h;exact sb _ _ _
  ·cases h
 ·cases m with
  | none=>cases h
  | some m =>
   obtain⟨_,_,rfl⟩:=bu (show s.bC (s.nid (some m)) b=some s' from h)
   exact sb _ _ _
theorem nZ {m:Option Tmp} (x:Operand):∀{ps:List Prim} {s s':ASt},(∀p∈ps,(∃i r js z,p=.drop i r js false\/p=.root i r z)\/∃xs,p=.newB xs)->ae m ps s=some s'->((∃y,(s.ev x).tv? = some y)\/∃y,(s'.ev x).tv? = some y)->s'.ev x=s.ev x
 | [],s,s',_,h,_=>by simp only[ae,FR]at h;rw[h]
 | p :: ps, s, s', hp, h, hc => by
  simp only[ae]at h
  split at h
  ·rename_i s1 h1
   have hp1:=hp p FX
   have hp2:=fun q hq=>hp q (FY _ hq)
   rcases hc with hc|hc
   ·have e1:=AS hp1 h1 x (.inl hc)
    rw[nZ x hp2 h (.inl (by rw[e1];exact hc)),e1]
   ·have e2:=nZ x hp2 h (.inr hc)
    rw[e2,AS hp1 h1 x (.inr (by rw[<-e2];exact hc))]
  ·cases h
theorem fV {o:Oper} (h:gK o=true):∃f args tys d,o.op=.call ⟨.value (.func f),args,tys⟩/\o.guard=none/\o.dst=some d:=by
 unfold gK at h
 split at h
 ·rename_i hop
  simp only[FS]at h
  obtain⟨d,hd⟩:=Option.isSome_iff_exists.1 h.2
  exact⟨_,_,_,d,hop,Option.isNone_iff_eq_none.1 h.1,hd⟩
 ·cases h
theorem qe {o:Oper} (h:eT o=true):(∃(t:TypeId) (len:Nat) (parts:Array (Nat × Operand)),o.op=.buildSlice t len parts)/\o.guard=none/\∃d,o.dst=some d:=by
 unfold eT at h
 split at h
 ·rename_i hop
  simp only[FS]at h
  obtain⟨d,hd⟩:=Option.isSome_iff_exists.1 h.2
  exact⟨⟨_,_,_,hop⟩,Option.isNone_iff_eq_none.1 h.1,d,hd⟩
 ·cases h
theorem wt {R:Type} {v:AV} {x:TV} {k:TV->Prg R} (h:v.tv? = some x):rC look v k=k x:=by
 cases v with
 | one c=>cases c<;>first|(cases h;rfl)|cases h
 | agg cs=>cases h
 | tups l=>cases h
 | clo _ l=>cases h
 | tv y=>cases h;rfl
 | bl b=>cases h;rfl
theorem vV {R:Type} {v:AV} {x:TV} {k:TV->List (Nat × Nat)->Prg R} (h:v.tv? = some x):tr look v k=k x []:=by
 cases v with
 | one c=>cases c<;>first|(cases h;rfl)|cases h
 | agg cs=>cases h
 | tups l=>cases h
 | clo _ l=>cases h
 | tv y=>cases h;rfl
 | bl b=>cases h;rfl
theorem nL {R:Type} {look':Look}:∀{vs:List AV} {k:List TV->Prg R},cX vs=true->lends look vs k=lends look' vs k
 | [],k,_=>rfl
 | v::l,k,h=>by
  obtain⟨x,hx⟩:=gp h v FX
  simp only[cX,FS]at h
  simp only[lends,wt hx,nL (look':=look') h.2]
theorem oh {R:Type} {look':Look}:∀{vs:List AV} {k:List TV->List (Nat × Nat)->Prg R},cX vs=true->hands look vs k=hands look' vs k
 | [],k,_=>rfl
 | v::l,k,h=>by
  obtain⟨x,hx⟩:=gp h v FX
  simp only[cX,FS]at h
  simp only[hands,vV hx,oh (look':=look') h.2]
theorem vE {look':Look} {f:FuncId} {vs:List AV} (h:cX vs=true):mO E id look f vs=mO E id look' f vs:=by
 have hno:∀i o rest,vs≠.one (.ptr i o)::rest:=fun i o rest e=>by
  subst e
  obtain⟨x,hx⟩:=gp h _ FX
  cases hx
 unfold mO
 cases E.peek f with
 | some c =>
  rfl
 | none =>
  simp only[]
  cases E.lent f with
  | some ld =>
   rfl
  | none =>
   simp only[]
   cases oP E.T (E.rts f)with
   | none=>rfl
   | some ds=>simp only[nL (look':=look') h,oh (look':=look') h]
theorem we {look':Look} {f:FuncId} {vs:List AV} (h:cX vs=true):th look f vs=th look' f vs:=by
 rfl
theorem jc {look':Look} {f:FuncId} {args:Array Operand} {tys:Array TypeId} {vs:List AV} (h:cX vs=true):opL E id look (.call ⟨.value (.func f),args,tys⟩) vs=opL E id look' (.call ⟨.value (.func f),args,tys⟩) vs:=by
 cases vs with
 | nil=>rfl
 | cons v vs =>
  simp only[cX,FS]at h
  simp only[opL]
  rw[vE (look':=look') h.2,we (look':=look') h.2]
theorem pz {l:List Operand} {s s':ASt} (h:∀x∈l,s'.ev x=s.ev x):l.map s'.ev=l.map s.ev:=List.map_congr_left h
theorem kC {x:Item} (hcx:gK x.o=true) (hsh:x.shut=true) (hdx:x.dr=true) (hlx:x.loose=false) {st s1:ASt} (h:OpN E C ops x st s1) :
  ∃f args tys d e,x.o.op=.call ⟨.value (.func f),args,tys⟩/\x.o.guard=none/\x.o.dst=some d/\(opL E (st.nid (some d)) (banned (aZ x.ban st.base) st.look) x.o.op (x.o.op.operands.toList.map st.ev)).hits C e /\
   cX (x.o.op.operands.toList.map st.ev)=true/\ClE (st.nid (some d)) e.nfE/\e.nfE.app st (some d)=some s1/\iH e=true/\um (st.nid (some d)) (dC e)=true:=by
 obtain⟨f,args,tys,d,hop,hg,hd⟩:=fV hcx
 rcases h with⟨_,e,h1,h2,h3⟩|⟨b,hb,hne,_⟩
 ·have h2:=h2 hdx
  have hpush:dj x st e=false:=by
   cases hp:dj x st e with
   | false=>rfl
   | true =>
    unfold dj at hp
    have:au x.o.op=none:=by rw[hop];rfl
    rw[this]at hp
    cases hp
  simp only[okE,hlx,hsh,hpush,Bool.false_and,Bool.false_or,Bool.or_false,cond_true,hH,FS,hd]at h2
  rw[hd]at h1 h3
  exact⟨f,args,tys,d,e,hop,hg,hd,h1,h2.1,⟨by rw[kE];exact h2.2.1,fun k hk=>by rw[cr]at hk;exact s7 h2.2.2 k hk⟩,h3,h2.2.1,h2.2.2⟩
 ·rw[aN (by rw[hg];rfl)]at hb
  exact absurd (Option.some.inj hb).symm hne
theorem wm {y:Item} (hby:eT y.o=true) {st s1:ASt} (h:OpN E C ops y st s1):∃m e qs x v,v.nf=v/\(∃(t:TypeId) (len:Nat) (parts:Array (Nat × Operand)),y.o.op=.buildSlice t len parts)/\y.o.guard=none/\y.o.dst=some m /\
  (opL E (st.nid (some m)) (banned (aZ y.ban st.base) st.look) y.o.op (y.o.op.operands.toList.map st.ev)).hits C e/\e=cU qs x v/\(∀p∈qs,xb (banned (aZ y.ban st.base) st.look) p)/\e.app st (some m)=some s1/\(y.dr=true->okE y st e=true):=by
 obtain⟨hop,hg,m,hd⟩:=qe hby
 rcases h with⟨_,e,h1,h2,h3⟩|⟨b,hb,hne,_⟩
 ·rw[hd]at h1 h3
  obtain⟨qs,x,v,he,hv,hq⟩:=zF hop h1
  rw[he,sG _ _ hv]at h3
  exact⟨m,e,qs,x,v,hv,hop,hg,hd,h1,he,hq,by rw[he];exact h3,h2⟩
 ·rw[aN (by rw[hg];rfl)]at hb
  exact absurd (Option.some.inj hb).symm hne
theorem qw {y:Item} (hby:eT y.o=true) {st s1:ASt} (h:OpN E C ops y st s1):∃m e qs x v,v.nf=v/\(∃(t:TypeId) (len:Nat) (parts:Array (Nat × Operand)),y.o.op=.buildSlice t len parts)/\y.o.guard=none/\y.o.dst=some m /\
  (opL E (st.nid (some m)) (banned (aZ y.ban st.base) st.look) y.o.op (y.o.op.operands.toList.map st.ev)).hits C e/\e=cU qs x v/\(∀p∈qs,xb (banned (aZ y.ban st.base) st.look) p)/\e.app st (some m)=some s1:=by
 obtain⟨m,e,qs,x,v,hv,h1,h2,h3,h4,h5,h6,h7,_⟩:=wm hby h
 exact⟨m,e,qs,x,v,hv,h1,h2,h3,h4,h5,h6,h7⟩
theorem OpN.wH {x:Item} {d:Tmp} {e:Eff} (hg:x.o.guard=none) (hd:x.o.dst=some d) (hsh:x.shut=true) {s s':ASt} (h1:(opL E (s.nid (some d)) (banned (aZ x.ban s.base) s.look) x.o.op (x.o.op.operands.toList.map s.ev)).hits C e)
  (h2:cX (x.o.op.operands.toList.map s.ev)=true) (h3:iH e=true) (h4:um (s.nid (some d)) (dC e)=true) (ha:e.nfE.app s (some d)=some s'):OpN E C ops x s s':=by
 refine .inl ⟨aN (by rw[hg];rfl) _,e,by rw[hd];exact h1,fun _=>?_,by rw[hd];exact ha⟩
 simp only[okE,hsh,cond_true,hH,h2,h3,hd,h4,Bool.and_self,Bool.true_or,Bool.or_true]
theorem jV {B:List Nat} {l l':Look} (h:∀i,bF i B=false->l' i=l i):banned B l'=banned B l:=by
 funext i
 unfold banned
 cases hb:bF i B with
 | true=>rfl
 | false=>exact h i hb
theorem xK {B:List Nat} {l:Look} {p:Prim} (h:xb (banned B l) p) {n:Nat} (hn:bF n B=true):∃i r js z,(p=.drop i r js false\/p=.root i r z)/\i≠n:=by
 obtain⟨i,r,js,z,hp,b,hb⟩:=h
 refine⟨i,r,js,z,hp,fun e=>?_⟩
 subst e
 unfold banned at hb
 rw[hn]at hb
 cases hb
theorem fT {n:Nat}:∀{l:List Nat},n∈l->bF n l=true
 | a :: l, h => by
  simp only[bF]
  cases hb:a.beq n with
  | true=>rfl
  | false =>
   rcases List.mem_cons.1 h with e|h
   ·subst e;simp at hb
   ·exact fT h
theorem Bg {x y:Item} (hcx:gK x.o=true) (hsh:x.shut=true) (hdx:x.dr=true) (hlx:x.loose=false) (hby:eT y.o=true) (hly:y.loose=true) (hly2:y.lds=[]) (hap:cH ops x.o y.o=true) (hbx:∀d,x.o.dst=some d->d∈y.ban.1)
  {st s1 s2:ASt} (h1:OpN E C ops x st s1) (h2:OpN E C ops y s1 s2):∃s1',OpN E C ops y st s1'/\OpN E C ops x s1' s2:=by
 simp only[cH,FS]at hap
 obtain⟨⟨⟨⟨_,hfx⟩,hfy⟩,hu⟩,_⟩:=hap
 obtain⟨f,args,tys,d,e,hop,hg,hd,k1,k2,k3,k4,k5,k6⟩:=kC hcx hsh hdx hlx h1
 obtain⟨m,e2,qs,xx,v2,hv2,hop2,hg2,hm,m1,m2,m3,m4⟩:=qw hby h2
 have hdm:d≠m:=fun e=>by rw[hd,hm,e]at hu;simp[unlike]at hu
 rw[hd]at hfx
 rw[hm]at hfy
 have hpl:e.nfE.plain=true:=by
  have:=k3.form
  cases he:e.nfE with
  | val v=>rfl
  | new b v=>rfl
  | upd i b v=>rw[he]at this;cases this
  | gen ps v=>rw[he]at this;cases this
 obtain⟨hsb,hbl,hou⟩:=gB hpl k4
 have hbase:s1.base=st.base:=by simp[ASt.base,hou]
 have hnid:∀d',s1.nid d'=st.nid d':=fun d'=>k3.nid k4 d'
 have hnm:st.nid (some m)≠st.nid (some d):=fun e=>hdm (Nat.add_left_cancel (n:=dY+st.out.length) e.symm)
 have hban:bF (st.nid (some d)) (aZ y.ban st.base)=true:=fT (List.mem_append_left _ (List.mem_map.2 ⟨d,hbx d hd,rfl⟩))
 have hev:=eG hsb (aA hfx).2
 have hlook:banned (aZ y.ban s1.base) s1.look=banned (aZ y.ban st.base) st.look:=by
  rw[hbase]
  exact jV fun i hi=>k3.nr rfl k4 fun e=>by rw[e,hban]at hi;cases hi
 rw[hev,hlook,hnid]at m1
 rw[hlook]at m3
 have hq:∀p∈qs,∃i r js z,(p=.drop i r js false\/p=.root i r z)/\i≠st.nid (some d):=fun p hp=>xK (m3 p hp) hban
 have hc:=k3.build (d:=d) (m:=m) hdm (s:=st) rfl hnm (qs:=qs) (xs:=xx) (v:=v2) hq
 rw[k4]at hc
 simp only[Option.bind_some]at hc
 rw[m2]at m4
 rw[m4]at hc
 cases hA:(cU qs xx v2).app st (some m)with
 | none=>rw[hA]at hc;cases hc
 | some s1' =>
  rw[hA]at hc
  simp only[Option.bind_some]at hc
  refine⟨s1',.inl ⟨aN (by rw[hg2];rfl) _,e2,by rw[hm];exact m1,fun _=>iE hly hly2 _ _,by rw[hm,m2,sG _ _ hv2];exact hA⟩,?_⟩
  rw[kN]at hA
  cases hP:ae (some m) (qs ++ [.newB xx]) st with
  | none=>rw[hP]at hA;cases hA
  | some s0 =>
   rw[hP]at hA
   simp only[F6,FR]at hA
   have hpq:∀p∈qs ++ [.newB xx],(∃i r js z,p=.drop i r js false\/p=.root i r z)\/∃xs,p=.newB xs:=fun p hp=>by
    rcases List.mem_append.1 hp with h|h
    ·obtain⟨i,r,js,z,h,_⟩:=hq p h;exact .inl ⟨i,r,js,z,h⟩
    ·exact .inr ⟨_,List.mem_singleton.1 h⟩
   have hn0:s1'.nid (some d)=st.nid (some d):=by
    rw[<-hA,a7]
    have:∀{ps:List Prim} {s s':ASt},ae (some m) ps s=some s'->s'.nid (some d)=s.nid (some d):=fun{ps}=>by
     induction ps with
     | nil=>intro s s' h;simp only[ae,FR]at h;rw[h]
     | cons p ps ih =>
      intro s s' h
      simp only[ae]at h
      split at h
      ·rename_i s1 h1
       rw[ih h,iP h1]
      ·cases h
    exact this hP
   have hev2:x.o.op.operands.toList.map s1'.ev=x.o.op.operands.toList.map st.ev:=pz fun o ho=>by
    obtain⟨z,hz⟩:=gp k2 _ (List.mem_map.2 ⟨o,ho,rfl⟩)
    rw[<-hA,kt (fun t ht e=>by
     have:=bn (aA hfy).2 t (by rw[<-e])
     exact this (cu (by rw[<-ht];exact ho)))]
    exact nZ o hpq hP (.inl ⟨z,hz⟩)
   exact OpN.wH hg hd hsh (e:=e) (by rw[hev2,hn0,hop];rw[hop]at k1 k2;rw[jc k2 (look':=banned (aZ x.ban st.base) st.look)];exact k1) (by rw[hev2];exact k2) k5 (by rw[hn0];exact k6) hc
theorem zH {x y:Item} (hby:eT x.o=true) (hly:x.loose=true) (hly2:x.lds=[]) (hcx:gK y.o=true) (hsh:y.shut=true) (hdx:y.dr=true) (hlx:y.loose=false) (hap:cH ops x.o y.o=true) (hbx:∀d,y.o.dst=some d->d∈x.ban.1)
  {st s1 s2:ASt} (h1:OpN E C ops x st s1) (h2:OpN E C ops y s1 s2):∃s1',OpN E C ops y st s1'/\OpN E C ops x s1' s2:=by
 simp only[cH,FS]at hap
 obtain⟨⟨⟨⟨_,hfx⟩,hfy⟩,hu⟩,_⟩:=hap
 obtain⟨m,e2,qs,xx,v2,hv2,hop2,hg2,hm,m1,m2,m3,m4⟩:=qw hby h1
 obtain⟨f,args,tys,d,e,hop,hg,hd,k1,k2,k3,k4,k5,k6⟩:=kC hcx hsh hdx hlx h2
 have hdm:d≠m:=fun e=>by rw[hd,hm,e]at hu;simp[unlike]at hu
 rw[hm]at hfx
 rw[hd]at hfy
 rw[m2,kN]at m4
 cases hP:ae (some m) (qs ++ [.newB xx]) st with
 | none=>rw[hP]at m4;cases m4
 | some s0 =>
  rw[hP]at m4
  simp only[F6,FR]at m4
  have hpn:∀{ps:List Prim} {s s':ASt} (d':Option Tmp),ae (some m) ps s=some s'->s'.nid d'=s.nid d':=fun{ps}=>by
   induction ps with
   | nil=>intro s s' d' h;simp only[ae,FR]at h;rw[h]
   | cons p ps ih =>
    intro s s' d' h
    simp only[ae]at h
    split at h
    ·rename_i s1 h1
     rw[ih d' h,iP h1]
    ·cases h
  have hn0:s1.nid (some d)=st.nid (some d):=by rw[<-m4,a7];exact hpn _ hP
  have hpq:∀p∈qs ++ [.newB xx],(∃i r js z,p=.drop i r js false\/p=.root i r z)\/∃xs,p=.newB xs:=fun p hp=>by
   rcases List.mem_append.1 hp with h|h
   ·obtain⟨i,r,js,z,h,_⟩:=m3 p h;exact .inl ⟨i,r,js,z,h⟩
   ·exact .inr ⟨_,List.mem_singleton.1 h⟩
  have hev2:y.o.op.operands.toList.map s1.ev=y.o.op.operands.toList.map st.ev:=pz fun o ho=>by
   obtain⟨z,hz⟩:=gp k2 _ (List.mem_map.2 ⟨o,ho,rfl⟩)
   have hp1:s1.ev o=s0.ev o:=by
    rw[<-m4,kt (fun t ht e=>by
     have:=bn (aA hfx).2 t (by rw[<-e])
     exact this (cu (by rw[<-ht];exact ho)))]
   rw[hp1]
   exact nZ o hpq hP (.inr ⟨z,by rw[<-hp1];exact hz⟩)
  rw[hev2]at k1 k2
  rw[hn0]at k1 k3 k6
  have hnm:st.nid (some m)≠st.nid (some d):=fun e=>hdm (Nat.add_left_cancel (n:=dY+st.out.length) e.symm)
  have hban:bF (st.nid (some d)) (aZ x.ban st.base)=true:=fT (List.mem_append_left _ (List.mem_map.2 ⟨d,hbx d hd,rfl⟩))
  have hq:∀p∈qs,∃i r js z,(p=.drop i r js false\/p=.root i r z)/\i≠st.nid (some d):=fun p hp=>xK (m3 p hp) hban
  have hc:=k3.build (d:=d) (m:=m) hdm (s:=st) rfl hnm (qs:=qs) (xs:=xx) (v:=v2) hq
  have hA:(cU qs xx v2).app st (some m)=some s1:=by rw[kN,hP,<-m4];rfl
  rw[hA]at hc
  simp only[Option.bind_some]at hc
  rw[k4]at hc
  cases hY:e.nfE.app st (some d)with
  | none=>rw[hY]at hc;cases hc
  | some s1' =>
   rw[hY]at hc
   simp only[Option.bind_some]at hc
   have hop':=hop
   refine⟨s1',OpN.wH hg hd hsh (e:=e) (by rw[hop];rw[hop]at k1 k2;rw[jc k2 (look':=banned (aZ y.ban s1.base) s1.look)];exact k1) k2 k5 k6 hY,?_⟩
   have hpl:e.nfE.plain=true:=by
    have:=k3.form
    cases he:e.nfE with
    | val v=>rfl
    | new b v=>rfl
    | upd i b v=>rw[he]at this;cases this
    | gen ps v=>rw[he]at this;cases this
   obtain⟨hsb,hbl,hou⟩:=gB hpl hY
   have hbase:s1'.base=st.base:=by simp[ASt.base,hou]
   have hev:=eG hsb (aA hfy).2
   have hlook:banned (aZ x.ban s1'.base) s1'.look=banned (aZ x.ban st.base) st.look:=by
    rw[hbase]
    exact jV fun i hi=>k3.nr rfl hY fun e=>by rw[e,hban]at hi;cases hi
   refine .inl ⟨aN (by rw[hg2];rfl) _,e2,by rw[hm,hev,hlook,k3.nid hY];exact m1,fun _=>iE hly hly2 _ _,?_⟩
   rw[hm,m2,sG _ _ hv2]
   exact hc.symm
theorem yZ {o:Oper} (h:iy o=true):o.guard=none/\(∃d,o.dst=some d)/\au o.op=none/\∀{id:Nat} {look:Look} {vs:List AV} {e:Eff},(opL E id look o.op vs).hits C e->∃v,e=.val v:=by
 unfold iy at h
 cases hc:ao o.op<;>rw[hc]at h<;>first|cases h|skip
 all_goals
  simp only[FS]at h
  obtain⟨d,hd⟩:=Option.isSome_iff_exists.1 h.2
  refine⟨Option.isNone_iff_eq_none.1 h.1,⟨d,hd⟩,by unfold au;rw[hc],fun{id look vs e} hh=>?_⟩
 ·exact(Am hc vs).hits hh
 ·exact(Dp hc vs).hits hh
theorem ClE.put {n:Nat} {e:Eff} (he:ClE n e) {d m:Tmp} (hdm:d≠m) (s1:ASt) (v:AV):e.app (s1.put (some m) v) (some d)=(e.app s1 (some d)).map fun s2=>s2.put (some m) v:=by
 cases e with
 | val u=>simp only[Eff.app,F6];rw[gV _ (fun h=>hdm (Option.some.inj h))]
 | new b u =>
  simp only[Eff.app,a7,ASt.bC,bo,bU]
  cases s1.look (s1.nid (some d))with
  | some _=>rfl
  | none =>
   simp only[]
   cases(s1.nid (some d)).blt s1.boxes.length with
   | false=>rfl
   | true=>simp only[cond_true,F6,aO];rw[gV _ (fun h=>hdm (Option.some.inj h))]
 | upd i b v=>cases he.form
 | gen ps v=>cases he.form
theorem vL {y:Item} (hp:au y.o.op=none) {s s':ASt} {v:AV} (hsh:y.shut=false) (hb:s'.base=s.base) (hev:y.o.op.operands.toList.map s'.ev=y.o.op.operands.toList.map s.ev) (hd:∀d,y.o.dst=some d->nth (.one .junk) s'.slots d=nth (.one .junk) s.slots d) (h:okE y s (.val v)=true):okE y s' (.val v)=true:=by
 have hpush:∀s,dj y s (.val v)=false:=fun s=>by unfold dj;rw[hp]
 have hc:ct y.push s' y.o.dst (.val v)=ct y.push s y.o.dst (.val v):=by
  unfold ct
  rw[hb]
  cases hy:y.o.dst with
  | none=>rfl
  | some d=>simp only[hd d hy]
 have hdu:di y s' (.val v)=di y s (.val v):=iK hb hd hev
 have ht:∀s,cD y s (.val v)=true:=fun s=>by
  unfold cD
  rw[List.all_eq_true]
  exact fun _ _=>rfl
 simp only[okE,hpush,hsh,cond_false,Bool.or_false,hc,hdu,ht]at h ⊢
 exact h
theorem Fg {x y:Item} (hcx:gK x.o=true) (hsh:x.shut=true) (hdx:x.dr=true) (hlx:x.loose=false) (hby:iy y.o=true) (hys:y.shut=false) (hap:cH ops x.o y.o=true) (hbx:∀d,x.o.dst=some d->d∈y.ban.1)
  {st s1 s2:ASt} (h1:OpN E C ops x st s1) (h2:OpN E C ops y s1 s2):∃s1',OpN E C ops y st s1'/\OpN E C ops x s1' s2:=by
 simp only[cH,FS]at hap
 obtain⟨⟨⟨⟨_,hfx⟩,hfy⟩,hu⟩,_⟩:=hap
 obtain⟨f,args,tys,d,e,hop,hg,hd,k1,k2,k3,k4,k5,k6⟩:=kC hcx hsh hdx hlx h1
 obtain⟨hg2,⟨m,hm⟩,hps,hval⟩:=yZ (E:=E) (C:=C) hby
 have hdm:d≠m:=fun e=>by rw[hd,hm,e]at hu;simp[unlike]at hu
 rw[hd]at hfx
 rw[hm]at hfy
 have hpl:e.nfE.plain=true:=by
  have:=k3.form
  cases he:e.nfE with
  | val v=>rfl
  | new b v=>rfl
  | upd i b v=>rw[he]at this;cases this
  | gen ps v=>rw[he]at this;cases this
 obtain⟨hsb,hbl,hou⟩:=gB hpl k4
 have hbase:s1.base=st.base:=by simp[ASt.base,hou]
 have hban:bF (st.nid (some d)) (aZ y.ban st.base)=true:=fT (List.mem_append_left _ (List.mem_map.2 ⟨d,hbx d hd,rfl⟩))
 have hev:=eG hsb (aA hfx).2
 have hlook:banned (aZ y.ban s1.base) s1.look=banned (aZ y.ban st.base) st.look:=by
  rw[hbase]
  exact jV fun i hi=>k3.nr rfl k4 fun e=>by rw[e,hban]at hi;cases hi
 rcases h2 with⟨_,e2,m1,m2,m3⟩|⟨b,hb,hne,_⟩
 ·obtain⟨v,rfl⟩:=hval m1
  rw[hev,hlook,hm,k3.nid k4]at m1
  rw[hm]at m3
  have m3:some (s1.put (some m) v.nf)=some s2:=m3
  simp only[FR]at m3
  subst m3
  have hok:y.dr=true->okE y st (.val v)=true:=fun hdr=>vL hps hys hbase.symm hev.symm (fun d' hd'=>(hsb.2 d' (fun e=>by
   rw[hm]at hd'
   exact hdm (Option.some.inj (e.trans hd'.symm)▸rfl))).symm) (m2 hdr)
  refine⟨st.put (some m) v.nf,.inl ⟨aN (by rw[hg2];rfl) _,.val v,by rw[hm];exact m1,hok,by rw[hm];rfl⟩,?_⟩
  have hev2:x.o.op.operands.toList.map (st.put (some m) v.nf).ev=x.o.op.operands.toList.map st.ev:=pz fun o ho=>kt (fun t ht e=>by
   have:=bn (aA hfy).2 t (by rw[<-e])
   exact this (cu (by rw[<-ht];exact ho)))
  exact OpN.wH hg hd hsh (e:=e) (by rw[hev2,a7,hop];rw[hop]at k1 k2;rw[jc k2 (look':=banned (aZ x.ban st.base) st.look)];exact k1) (by rw[hev2];exact k2) k5 (by rw[a7];exact k6) (by rw[k3.put hdm,k4];rfl)
 ·rw[aN (by rw[hg2];rfl)]at hb
  exact absurd (Option.some.inj hb).symm hne
theorem Dg {x y:Item} (hby:iy x.o=true) (hys:x.shut=false) (hcx:gK y.o=true) (hsh:y.shut=true) (hdx:y.dr=true) (hlx:y.loose=false) (hap:cH ops x.o y.o=true) (hbx:∀d,y.o.dst=some d->d∈x.ban.1)
  {st s1 s2:ASt} (h1:OpN E C ops x st s1) (h2:OpN E C ops y s1 s2):∃s1',OpN E C ops y st s1'/\OpN E C ops x s1' s2:=by
 simp only[cH,FS]at hap
 obtain⟨⟨⟨⟨_,hfx⟩,hfy⟩,hu⟩,_⟩:=hap
 obtain⟨hg2,⟨m,hm⟩,hps,hval⟩:=yZ (E:=E) (C:=C) hby
 obtain⟨f,args,tys,d,e,hop,hg,hd,k1,k2,k3,k4,k5,k6⟩:=kC hcx hsh hdx hlx h2
 have hdm:d≠m:=fun e=>by rw[hd,hm,e]at hu;simp[unlike]at hu
 rw[hm]at hfx
 rw[hd]at hfy
 rcases h1 with⟨_,e2,m1,m2,m3⟩|⟨b,hb,hne,_⟩
 ·obtain⟨v,rfl⟩:=hval m1
  rw[hm]at m3 m1
  have m3:some (st.put (some m) v.nf)=some s1:=m3
  simp only[FR]at m3
  subst m3
  have hev2:y.o.op.operands.toList.map (st.put (some m) v.nf).ev=y.o.op.operands.toList.map st.ev:=pz fun o ho=>kt (fun t ht e=>by
   have:=bn (aA hfx).2 t (by rw[<-e])
   exact this (cu (by rw[<-ht];exact ho)))
  rw[hev2]at k1 k2
  rw[a7]at k1 k3 k6
  rw[k3.put hdm]at k4
  cases hY:e.nfE.app st (some d)with
  | none=>rw[hY]at k4;cases k4
  | some s1' =>
   rw[hY]at k4
   simp only[F6,FR]at k4
   subst k4
   refine⟨s1',OpN.wH hg hd hsh (e:=e) (by rw[hop];rw[hop]at k1 k2;rw[jc k2 (look':=banned (aZ y.ban st.base) st.look)];exact k1) k2 k5 k6 hY,?_⟩
   have hpl:e.nfE.plain=true:=by
    have:=k3.form
    cases he:e.nfE with
    | val v=>rfl
    | new b v=>rfl
    | upd i b v=>rw[he]at this;cases this
    | gen ps v=>rw[he]at this;cases this
   obtain⟨hsb,hbl,hou⟩:=gB hpl hY
   have hbase:s1'.base=st.base:=by simp[ASt.base,hou]
   have hban:bF (st.nid (some d)) (aZ x.ban st.base)=true:=fT (List.mem_append_left _ (List.mem_map.2 ⟨d,hbx d hd,rfl⟩))
   have hev:=eG hsb (aA hfy).2
   have hlook:banned (aZ x.ban s1'.base) s1'.look=banned (aZ x.ban st.base) st.look:=by
    rw[hbase]
    exact jV fun i hi=>k3.nr rfl hY fun e=>by rw[e,hban]at hi;cases hi
   refine .inl ⟨aN (by rw[hg2];rfl) _,.val v,by rw[hm,hev,hlook,k3.nid hY];exact m1,fun hdr=>?_,by rw[hm];rfl⟩
   exact vL hps hys hbase hev (fun d' hd'=>hsb.2 d' (fun e=>by
    rw[hm]at hd'
    exact hdm (Option.some.inj (e.trans hd'.symm)▸rfl))) (m2 hdr)
 ·rw[aN (by rw[hg2];rfl)]at hb
  exact absurd (Option.some.inj hb).symm hne
end
theorem BK {i r:Nat} {js:List Nat} {b:Bool} {c:BC} (h:i∉c.lk):c.bS (CA.drop i r js b)=c:=by
 cases c with
 | cells cs=>simp only[BC.bS,jX h]
 | tree xs=>rfl
def DM (Z D:Nat->Prop) (p:Prim):Prop:=(∃i r js b x,(p=.drop i r js b\/p=.root i r x)/\(Z i\/(D i/\(p=.drop i r js b->js≠[]))))\/∃b,p=.newB b
def vb (Z D:Nat->Prop) (v:AV):Prop:=∀i,(Z i->i∉v.d9)/\(D i->i∉(v.b8 CA.deep).d9)
def Cj (Z D:Nat->Prop) (c:BC):Prop:=∀i,(Z i->i∉c.lk)/\(D i->i∉(c.bS CA.deep).lk)
theorem sL {i r:Nat} {js:List Nat} {b:Bool} {c:CA} (h:i∉nN c.deep) (hj:js≠[]):c.drop i r js b=c:=by
 have hl:leads b js []=false:=by
  cases js with
  | nil=>exact absurd rfl hj
  | cons a l=>rfl
 cases c with
 | tptr i' r' p k j =>
  cases p with
  | nil=>simp only[CA.drop,dz,hl,Bool.and_false,cond_false]
  | cons a p=>exact lq (by simpa[CA.deep,nN]using h)
 | sref i' r' p =>
  cases p with
  | nil=>simp only[CA.drop,dz,hl,Bool.and_false,cond_false]
  | cons a p=>exact lq (by simpa[CA.deep,nN]using h)
 | swin i' r' p lo len =>
  cases p with
  | nil=>simp only[CA.drop,dz,hl,Bool.and_false,cond_false]
  | cons a p=>exact lq (by simpa[CA.deep,nN]using h)
 | _=>rfl
theorem jM {i r:Nat} {js:List Nat} {b:Bool} (hj:js≠[]):∀{cs:List CA},i∉lg (mapC CA.deep cs)->mapC (CA.drop i r js b) cs=cs
 | [],_=>rfl
 | c::cs,h=>by
  simp only[mapC,lg,List.mem_append,not_or]at h
  simp only[mapC,sL h.1 hj,jM hj h.2]
theorem vy {i r:Nat} {js:List Nat} {b:Bool} (hj:js≠[]):∀{l:List (Bool × List CA)},i∉qb (jD CA.deep l)->jD (CA.drop i r js b) l=l
 | [],_=>rfl
 | (_,cs)::l,h=>by
  simp only[jD,qb,List.mem_append,not_or]at h
  simp only[jD,jM hj h.1,vy hj h.2]
theorem A9 {i r:Nat} {js:List Nat} {b:Bool} {v:AV} (h:i∉(v.b8 CA.deep).d9) (hj:js≠[]):v.b8 (CA.drop i r js b)=v:=by
 cases v with
 | one c=>simp only[AV.b8,sL h hj]
 | agg cs=>simp only[AV.b8,jM hj h]
 | tups l=>simp only[AV.b8,vy hj h]
 | clo _ l=>simp only[AV.b8,jM hj h]
 | _=>rfl
theorem A7 {i r:Nat} {js:List Nat} {b:Bool} {c:BC} (h:i∉(c.bS CA.deep).lk) (hj:js≠[]):c.bS (CA.drop i r js b)=c:=by
 cases c with
 | cells cs=>simp only[BC.bS,jM hj h]
 | tree xs=>rfl
theorem xQ {Z D:Nat->Prop} {i r:Nat} {js:List Nat} {b:Bool} {p:Prim} (hp:p=.drop i r js b) (h:Z i\/(D i/\(p=.drop i r js b->js≠[]))) {v:AV} (hv:vb Z D v):v.b8 (CA.drop i r js b)=v:=by
 rcases h with h|⟨h,hj⟩
 ·exact po ((hv i).1 h)
 ·exact A9 ((hv i).2 h) (hj hp)
theorem Cb {Z D:Nat->Prop} {i r:Nat} {js:List Nat} {b:Bool} {p:Prim} (hp:p=.drop i r js b) (h:Z i\/(D i/\(p=.drop i r js b->js≠[]))) {c:BC} (hv:Cj Z D c):c.bS (CA.drop i r js b)=c:=by
 rcases h with h|⟨h,hj⟩
 ·exact BK ((hv i).1 h)
 ·exact A7 ((hv i).2 h) (hj hp)
theorem Eh {Z D:Nat->Prop} {p:Prim} (hp:DM Z D p) {u:AV} (hu:vb Z D u) (s:ASt) (d:Option Nat) (m:Nat):p.app (s.put (some m) u) d=(p.app s d).map fun s'=>s'.put (some m) u:=by
 rcases hp with⟨i,r,js,b,x,rfl|rfl,hz⟩|⟨b,rfl⟩
 ·simp only[Prim.app,F6,l7,xQ rfl hz hu]
 ·simp only[Prim.app,bo]
  cases co s.look i r x with
  | none=>rfl
  | some b=>simp only[F6,aO]
 ·cases d with
  | none=>rfl
  | some d =>
   simp only[Prim.app,a7,ASt.bC,bo,bU]
   cases s.look (s.nid (some d))with
   | some _=>rfl
   | none =>
    simp only[]
    cases(s.nid (some d)).blt s.boxes.length with
    | false=>rfl
    | true=>simp only[cond_true,F6,aO]
theorem uz {Z D:Nat->Prop} {u:AV} (hu:vb Z D u) (d:Option Nat) (m:Nat):∀(ps:List Prim) (s:ASt),(∀p∈ps,DM Z D p)->ae d ps (s.put (some m) u)=(ae d ps s).map fun s'=>s'.put (some m) u
 | [],s,_=>rfl
 | p::ps,s,h=>by
  simp only[ae,Eh (h p FX) hu]
  cases p.app s d with
  | none=>rfl
  | some s1=>exact uz hu d m ps s1 (fun q hq=>h q (FY _ hq))
theorem mC {Z D:Nat->Prop} {d:Option Nat} (x:Operand):∀{ps:List Prim} {s s':ASt},(∀p∈ps,DM Z D p)->vb Z D (s.ev x)->ae d ps s=some s'->s'.ev x=s.ev x
 | [],s,s',_,_,h=>by simp only[ae,FR]at h;rw[h]
 | p :: ps, s, s', hp, hz, h => by
  have sb:∀(s:ASt) (i:Nat) (b:Option BC),(s.ac i b).ev x=s.ev x:=fun s i b=>by cases x<;>rfl
  simp only[ae]at h
  split at h
  ·rename_i s1 h1
   have e1:s1.ev x=s.ev x:=by
    rcases hp p FX with⟨i,r,js,b,y,rfl|rfl,hi⟩|⟨b,rfl⟩
    ·simp only[Prim.app,FR]at h1
     subst h1
     rw[qQ (fun _=>rfl) rfl]
     exact xQ rfl hi hz
    ·simp only[Prim.app]at h1
     split at h1
     ·simp only[FR]at h1;subst h1;exact sb _ _ _
     ·cases h1
    ·cases d with
     | none=>cases h1
     | some m =>
      obtain⟨_,_,rfl⟩:=bu (show s.bC (s.nid (some m)) b=some s1 from h1)
      exact sb _ _ _
   rw[mC x (fun q hq=>hp q (FY _ hq)) (by rw[e1];exact hz) h,e1]
  ·cases h
theorem sC {d:Option Nat} (d':Option Nat):∀{ps:List Prim} {s s':ASt},ae d ps s=some s'->s'.nid d'=s.nid d'
 | [],s,s',h=>by simp only[ae,FR]at h;rw[h]
 | p :: ps, s, s', h => by
  simp only[ae]at h
  split at h
  ·rename_i s1 h1
   rw[sC d' h,iP h1]
  ·cases h
theorem qm {Z D:Nat->Prop} {d:Option Nat} {N:Nat} (i:Nat) (c:Option BC) (hc:∀b,c=some b->Cj Z D b) (hi:¬Z i/\¬D i) (hn:d.isSome=true->i≠N):∀{ps:List Prim} {s s':ASt},s.nid d=N->(∀p∈ps,DM Z D p)->s.look i=c->ae d ps s=some s'->s'.look i=c
 | [],s,s',_,_,hl,h=>by simp only[ae,FR]at h;rw[<-h];exact hl
 | p :: ps, s, s', hN, hp, hl, h => by
  simp only[ae]at h
  split at h
  ·rename_i s1 h1
   have e1:s1.look i=c:=by
    rcases hp p FX with⟨k,r,js,b',y,rfl|rfl,hk⟩|⟨b,rfl⟩
    ·simp only[Prim.app,FR]at h1
     subst h1
     rw[aS,hl]
     cases c with
     | none=>rfl
     | some b=>simp only[F6,Cb rfl hk (hc b rfl)]
    ·simp only[Prim.app]at h1
     split at h1
     ·simp only[FR]at h1
      subst h1
      rw[ag,if_neg (by rintro⟨rfl,_⟩;exact hk.elim hi.1 (fun h=>hi.2 h.1))]
      exact hl
     ·cases h1
    ·cases d with
     | none=>cases h1
     | some m =>
      obtain⟨_,_,rfl⟩:=bu (show s.bC (s.nid (some m)) b=some s1 from h1)
      rw[ag,if_neg (fun h=>hn rfl (by rw[<-h.1,hN]))]
      exact hl
   exact qm i c hc hi hn (by rw[iP h1];exact hN) (fun q hq=>hp q (FY _ hq)) e1 h
  ·cases h
theorem pR:∀{ps:List Prim} {p:Prim} {i r:Nat} {js:List Nat} {b:Bool} {x:TV},p∈ps->(p=.drop i r js b\/p=.root i r x)->i∈pp ps
 | q :: ps, p, i, r, js, b, x, hp, h => by
  rcases List.mem_cons.1 hp with rfl|hp
  ·rcases h with rfl|rfl<;>exact FX
  ·have:=pR hp h
   cases q<;>first|exact FY _ this|exact this
theorem mD {i:Nat} {v:AV}:∀{l:List AV},v∈l->i∈v.d9->i∈gf l
 | a::l,h,hi=>by
  simp only[gf,List.mem_append]
  rcases List.mem_cons.1 h with rfl|h
  ·exact .inl hi
  ·exact .inr (mD h hi)
theorem dr_app {e:Eff} (h:drE e=true):∃ps W,(∀(s:ASt) (d:Option Nat),e.app s d=(ae d ps s).map fun s'=>s'.put d W)/\∀p∈ps,(∃i r js b x,(p=.drop i r js b\/p=.root i r x)/\i∈l6 e/\(p=.drop i r js b->uq i e=true->js≠[]))\/∃b,p=.newB b:=by
 cases e with
 | val v=>exact⟨[],v,fun s d=>rfl,fun p hp=>by cases hp⟩
 | new b v =>
  refine⟨[.newB b],v,fun s d=>?_,fun p hp=>.inr ⟨_,List.mem_singleton.1 hp⟩⟩
  cases d with
  | none=>rfl
  | some d =>
   simp only[Eff.app,ae,Prim.app]
   cases s.bC (s.nid (some d)) b<;>rfl
 | upd i b v=>cases h
 | gen ps v =>
  refine⟨ps,v,fun s d=>?_,fun p hp=>?_⟩
  ·simp only[Eff.app]
   cases ae d ps s<;>rfl
  ·have:=List.all_eq_true.1 h p hp
   cases p with
   | drop i r js b =>
    refine .inl ⟨i,r,js,b,.hole,.inl rfl,pR hp (.inl rfl:Prim.drop i r js b=.drop i r js b\/Prim.drop i r js b=.root i r .hole),fun _ hd=>?_⟩
    have:=List.all_eq_true.1 hd _ hp
    simp only[FH,Nat.beq_refl,Bool.not_true,Bool.false_or]at this
    rintro rfl
    cases this
   | root i r x=>exact .inl ⟨i,r,[],false,x,.inr rfl,pR hp (.inr rfl:Prim.root i r x=.drop i r [] false\/Prim.root i r x=.root i r x),fun h=>by cases h⟩
   | newB b=>exact .inr ⟨b,rfl⟩
   | frz i r=>cases this
   | unmay i=>cases this
   | setB i cs=>cases this
theorem iR {k:Nat}:∀{l:List (Option BC)},fh k l=true ↔ ∀i b,nth none l i=some b->k∉(b.bS CA.deep).lk
 | []=>by simp[fh,nth]
 | some b::l=>by
  simp only[fh,FS,iR (l:=l),iB]
  refine⟨fun⟨h1,h2⟩ i c hc=>?_,fun h=>⟨h 0 b rfl,fun i c hc=>h (i+1) c hc⟩⟩
  cases i with
  | zero=>simp only[nth,FR]at hc;subst hc;exact h1
  | succ i=>exact h2 i c hc
 | none::l=>by
  simp only[fh,iR (l:=l)]
  refine⟨fun h2 i c hc=>?_,fun h i c hc=>h (i+1) c hc⟩
  cases i with
  | zero=>cases hc
  | succ i=>exact h2 i c hc
theorem vA {x y:Item} (hlx:iy x.o=true) (hxs:x.shut=false) (hxl:x.loose=false) (hxd:x.dr=true) (hxdull:x.dull=x.ban.1) (hxd2:nc y.o=true->x.dull2=x.ban.2) (hxp:∀s∈x.ban.1,s∈x.push) (hg2:y.o.guard=none) {d2:Option Nat} (hm2:y.o.dst=d2)
  (hly:y.loose=true) (hyd:y.dr=true) (hyt:∀(s:ASt) (e:Eff),(opL E (s.nid d2) (banned (aZ y.ban s.base) s.look) y.o.op (y.o.op.operands.toList.map s.ev)).hits C e->okE y s e=true->cD y s e=true) (hmem:x.ban∈y.lds)
  (hap:cH ops x.o y.o=true) (hbx:∀m2,d2=some m2->m2∈x.ban.1) {st s1 s2:ASt} (h1:OpN E C ops x st s1) (h2:OpN E C ops y s1 s2):∃s1',OpN E C ops y st s1'/\OpN E C ops x s1' s2:=by
 simp only[cH,FS]at hap
 obtain⟨⟨⟨⟨_,hfx⟩,hfy⟩,hu⟩,_⟩:=hap
 obtain⟨hg,⟨m,hm⟩,hps,hval⟩:=yZ (E:=E) (C:=C) hlx
 rcases h1 with⟨_,e,k1,k2,k3⟩|⟨b,hb,hne,_⟩
 case inr=>rw[aN (by rw[hg];rfl)]at hb;exact absurd (Option.some.inj hb).symm hne
 obtain⟨v,rfl⟩:=hval k1
 rw[hm]at k3
 have k3:some (st.put (some m) v.nf)=some s1:=k3
 simp only[FR]at k3
 subst k3
 have ok1:=k2 hxd
 have hpush:dj x st (.val v)=false:=by unfold dj;rw[hps]
 have ok0:=ok1
 simp only[okE,hxl,hxs,hpush,Bool.false_and,Bool.false_or,Bool.or_false,cond_false,FS]at ok0
 obtain⟨_,hclean,hdull⟩:=ok0
 unfold di at hdull
 rw[FS]at hdull
 obtain⟨hdull,hdull2⟩:=hdull
 rcases h2 with⟨_,e2,n1,n5,n4⟩|⟨b,hb,hne,_⟩
 case inr=>rw[aN (by rw[hg2];rfl)]at hb;exact absurd (Option.some.inj hb).symm hne
 rw[hm2]at n1 n4
 have hdm:d2≠some m:=fun e=>by rw[hm,hm2,e]at hu;simp[unlike]at hu
 rw[hm]at hfx
 rw[hm2]at hfy
 have htk:cD y (st.put (some m) v.nf) e2=true:=hyt _ _ n1 (n5 hyd)
 have htk0:=htk
 unfold cD at htk0
 rw[List.all_eq_true]at htk0
 have htk1:=htk0 x.ban hmem
 rw[FS]at htk1
 obtain⟨hdr,htk1⟩:=htk1
 rw[List.all_eq_true]at htk1
 obtain⟨Z,hZd⟩:∃Z:Nat->Prop,Z=fun k=>k∈l6 e2/\(((∃s∈x.ban.1,k=st.base+s)\/(nc y.o=true/\2*k∈x.ban.2))/\∀i b,st.look i=some b->k∉b.lk):=⟨_,rfl⟩
 obtain⟨D,hDd⟩:∃D:Nat->Prop,D=fun k=>k∈l6 e2/\(nc y.o=true/\2*k+1∈x.ban.2)/\uq k e2=true/\∀i b,st.look i=some b->k∉(b.bS CA.deep).lk:=⟨_,rfl⟩
 have hZD:∀k,k∈l6 e2->Z k\/D k:=fun k hk=>by
  rw[hZd,hDd]
  have:=htk1 k hk
  simp only[Bool.or_eq_true,FS,bL]at this
  rcases this with⟨h1,h2⟩|⟨hp,⟨h1,h2⟩|⟨h1,h2,h3⟩⟩
  ·obtain⟨s,hs,e⟩:=List.mem_map.1 h1
   exact .inl ⟨hk,.inl ⟨s,hs,e.symm⟩,cZ.1 h2⟩
  ·exact .inl ⟨hk,.inr ⟨hp,h1⟩,cZ.1 h2⟩
  ·exact .inr ⟨hk,⟨hp,h1⟩,h2,iR.1 h3⟩
 have hZ:∀k,Z k->((∃s∈x.ban.1,k=st.base+s)\/(nc y.o=true/\2*k∈x.ban.2))/\∀i b,st.look i=some b->k∉b.lk:=fun k hk=>by
  rw[hZd]at hk
  exact hk.2
 have hD:∀k,D k->(nc y.o=true/\2*k+1∈x.ban.2)/\uq k e2=true/\∀i b,st.look i=some b->k∉(b.bS CA.deep).lk:=fun k hk=>by
  rw[hDd]at hk
  exact hk.2
 obtain⟨qs,W,happ,hfar0⟩:=dr_app (e:=e2.nfE) (by rw[zo];exact hdr)
 rw[pM]at hfar0
 have hfar:∀p∈qs,DM Z D p:=fun p hp=>by
  rcases hfar0 p hp with⟨i,r,js,b,y,h1,h2,h3⟩|h
  ·refine .inl ⟨i,r,js,b,y,h1,?_⟩
   rcases hZD i h2 with h|h
   ·exact .inl h
   ·exact .inr ⟨h,fun e=>h3 e (by rw[sU];exact(hD i h).2.1)⟩
  ·exact .inr h
 have h2k:∀k,((2*k)%2).beq 0=true/\(2*k) / 2=k:=fun k=>by
  have h0:(2*k)%2=0:=by omega
  rw[h0]
  exact⟨rfl,by omega⟩
 have h2k1:∀k,((2*k+1)%2).beq 0=false/\(2*k+1) / 2=k:=fun k=>by
  have h0:(2*k+1)%2=1:=by omega
  rw[h0]
  exact⟨rfl,by omega⟩
 have hclZ:∀k,Z k->k∉v.d9/\k∉(nth (.one .junk) st.slots m).d9:=fun k hk=>by
  rcases(hZ k hk).1 with⟨s,hs,rfl⟩|⟨hp,hk2⟩
  ·obtain⟨c1,c2⟩:=oR hclean (hxp s hs)
   exact⟨c1,c2 m hm⟩
  ·rw[hxd2 hp,List.all_eq_true]at hdull2
   have:=hdull2 _ hk2
   rw[(h2k k).1,(h2k k).2,hm]at this
   simp only[cond_true,jw,FS,Bool.not_eq_true',<-Bool.not_eq_true,bL]at this
   exact⟨this.1,this.2.1⟩
 have hclD:∀k,D k->k∉(v.b8 CA.deep).d9/\k∉((nth (.one .junk) st.slots m).b8 CA.deep).d9:=fun k hk=>by
  obtain⟨hp,hk2⟩:=(hD k hk).1
  rw[hxd2 hp,List.all_eq_true]at hdull2
  have:=hdull2 _ hk2
  rw[(h2k1 k).1,(h2k1 k).2,hm]at this
  simp only[cond_false,gU,nD,FS,Bool.not_eq_true',<-Bool.not_eq_true,bL]at this
  exact⟨this.1,this.2.1⟩
 have hop:∀o∈x.o.op.operands.toList,vb Z D (st.ev o):=fun o ho k=>by
  refine⟨fun hk hin=>?_,fun hk hin=>?_⟩
  ·rcases(hZ k hk).1 with⟨s,hs,rfl⟩|⟨hp,hk2⟩
   ·rw[hxdull,List.all_eq_true]at hdull
    have:=hdull s hs
    rw[Bool.not_eq_true',<-Bool.not_eq_true,bL]at this
    exact this (mD (List.mem_map.2 ⟨o,ho,rfl⟩) hin)
   ·rw[hxd2 hp,List.all_eq_true]at hdull2
    have:=hdull2 _ hk2
    rw[(h2k k).1,(h2k k).2]at this
    simp only[cond_true,FS,Bool.not_eq_true',<-Bool.not_eq_true,bL]at this
    exact this.2.2 (mD (List.mem_map.2 ⟨o,ho,rfl⟩) hin)
  ·obtain⟨hp,hk2⟩:=(hD k hk).1
   rw[hxd2 hp,List.all_eq_true]at hdull2
   have:=hdull2 _ hk2
   rw[(h2k1 k).1,(h2k1 k).2]at this
   simp only[cond_false,FS,Bool.not_eq_true',<-Bool.not_eq_true,bL]at this
   refine this.2.2 (mD (v:=(st.ev o).b8 CA.deep) ?_ hin)
   obtain⟨n,hn⟩:=List.getElem?_of_mem ho
   refine FZ (i:=n) ?_
   rw[mG,FW,hn]
   rfl
 have hnf:vb Z D v.nf:=fun k=>⟨fun hk=>by rw[mi];exact(hclZ k hk).1,fun hk=>by rw[rj];exact(hclD k hk).1⟩
 rw[happ,uz hnf _ _ _ _ hfar]at n4
 cases hA:ae d2 qs st with
 | none=>rw[hA]at n4;cases n4
 | some s0 =>
  rw[hA]at n4
  simp only[F6,FR]at n4
  have hnid:∀d,s0.nid d=st.nid d:=fun d=>sC d hA
  have hbase0:s0.base=st.base:=hnid (some 0)
  have hbase:(s0.put d2 W).base=st.base:=by
   have:(s0.put d2 W).base=s0.base:=by unfold ASt.base;rw[ki]
   rw[this];exact hbase0
  have hsb:jr (some m) (st.put (some m) v.nf) st:=⟨by simp[ASt.put,ah],fun k hk=>eY st (some m) _ k hk⟩
  have hevy:=eG hsb (aA hfx).2
  refine⟨s0.put d2 W,.inl ⟨aN (by rw[hg2];rfl) _,e2,?_,fun _=>?_,?_⟩,.inl ⟨aN (by rw[hg];rfl) _,.val v,?_,fun _=>?_,?_⟩⟩
  ·rw[hm2]
   rw[hevy]at n1
   exact n1
  ·have:cD y st e2=true:=htk
   simp only[okE,hly,this,Bool.and_self,Bool.true_or]
  ·rw[hm2,happ,hA]
   rfl
  ·have hevx:x.o.op.operands.toList.map (s0.put d2 W).ev=x.o.op.operands.toList.map st.ev:=pz fun o ho=>by
    rw[kt (fun t ht e=>by
     have:=bn (aA hfy).2 t (by rw[<-e])
     exact this (cu (by rw[<-ht];exact ho)))]
    exact mC o hfar (hop o ho) hA
   have hlook:banned (aZ x.ban (s0.put d2 W).base) (s0.put d2 W).look=banned (aZ x.ban st.base) st.look:=by
    have:(s0.put d2 W).base=st.base:=hbase
    rw[this]
    refine jV fun i hi=>?_
    rw[bo]
    refine qm i (st.look i) (fun b hb k=>⟨fun hk=>(hZ k hk).2 i b hb,fun hk=>(hD k hk).2.2 i b hb⟩) ⟨fun hz=>?_,fun hz=>?_⟩ (fun hd2 e=>?_) (rfl:st.nid d2=st.nid d2) hfar rfl hA
    ·have:bF i (aZ x.ban st.base)=true:=by
      rcases(hZ i hz).1 with⟨s,hs,rfl⟩|⟨_,hk2⟩
      ·exact fT (List.mem_append_left _ (List.mem_map.2 ⟨s,hs,rfl⟩))
      ·exact fT (List.mem_append_right _ (List.mem_map.2 ⟨_,hk2,(h2k i).2⟩))
     rw[this]at hi
     cases hi
    ·have:bF i (aZ x.ban st.base)=true:=fT (List.mem_append_right _ (List.mem_map.2 ⟨_,(hD i hz).1.2,(h2k1 i).2⟩))
     rw[this]at hi
     cases hi
    ·obtain⟨m2,rfl⟩:=Option.isSome_iff_exists.1 hd2
     rw[e]at hi
     have:bF (st.nid (some m2)) (aZ x.ban st.base)=true:=fT (List.mem_append_left _ (List.mem_map.2 ⟨m2,hbx m2 rfl,rfl⟩))
     rw[this]at hi
     cases hi
   rw[hevx,hlook,a7,hnid]
   exact k1
  ·have hevx:x.o.op.operands.toList.map (s0.put d2 W).ev=x.o.op.operands.toList.map st.ev:=pz fun o ho=>by
    rw[kt (fun t ht e=>by
     have:=bn (aA hfy).2 t (by rw[<-e])
     exact this (cu (by rw[<-ht];exact ho)))]
    exact mC o hfar (hop o ho) hA
   refine vL hps hxs (s:=st) hbase hevx (fun d hd=>?_) ok1
   rw[hm]at hd
   cases hd
   rw[eY s0 d2 W m hdm]
   exact mC (.tmp m) hfar (fun k=>⟨fun hk=>(hclZ k hk).2,fun hk=>(hclD k hk).2⟩) hA
  ·rw[hm]
   show some ((s0.put d2 W).put (some m) v.nf)=some s2
   rw[<-n4,gV s0 (d:=d2) (m:=m) hdm]
theorem iD {bs:List Nat} {j:Nat}:∀(l:List Oper) (k:Nat),ek bs j k l=true->∀(i:Nat) (o:Oper),l[i]? = some o->beB bs j (k+i)=true->fp o=true\/(iy o=true/\k+i<j)
 | [],k,h,i,o,ho,hb=>by cases ho
 | a::l,k,h,0,o,ho,hb=>by
  simp only[List.getElem?_cons_zero,FR]at ho
  subst ho
  simp only[ek]at h
  rw[Nat.add_zero]at hb ⊢
  rw[hb]at h
  simp only[cond_true,FS,Bool.or_eq_true]at h
  rcases h.1 with h|h
  ·exact .inl h
  ·exact .inr ⟨h.1,by simpa using h.2⟩
 | a :: l, k, h, i + 1, o, ho, hb => by
  simp only[List.getElem?_cons_succ]at ho
  have h2:ek bs j (k+1) l=true:=by
   simp only[ek]at h
   cases hc:beB bs j k with
   | true=>rw[hc]at h;simp only[cond_true,FS]at h;exact h.2
   | false=>rw[hc]at h;exact h
  rw[show k+(i+1)=(k+1)+i by omega]at hb ⊢
  exact iD l (k+1) h2 i o ho hb
theorem mY {ex:List (List Nat)} {bs:List Nat} {j:Nat} {all:List Oper}:∀(l:List Oper) (k i:Nat) (o:Oper),l[i]? = some o->beB bs j (k+i)=true->iy o=true->fp o=false->(kZ bs (k+i) all 0 all,nth [] ex (k+i))∈pi ex bs j all k l
 | [],k,i,o,ho,_,_,_=>by cases ho
 | a::l,k,0,o,ho,hb,h1,h2=>by
  simp only[List.getElem?_cons_zero,FR]at ho
  subst ho
  rw[Nat.add_zero]at hb ⊢
  simp only[pi,hb,h1,h2,Bool.not_false,Bool.and_self,cond_true]
  exact FX
 | a::l,k,i+1,o,ho,hb,h1,h2=>by
  simp only[List.getElem?_cons_succ]at ho
  rw[show k+(i+1)=(k+1)+i by omega]at hb ⊢
  have:=mY (ex:=ex) (all:=all) l (k+1) i o ho hb h1 h2
  simp only[pi]
  cases beB bs j k&&(iy a && !fp a)with
  | true=>exact FY _ this
  | false=>exact this
theorem CP {bs:List Nat} {j i:Nat} (hne:i≠j) (h1:(nth 0 bs j).testBit i=false) (h2:(nth 0 bs i).testBit j=false):beB bs j i=true:=by
 have:i.beq j=false:=by
  cases hb:i.beq j with
  | false=>rfl
  | true=>exact absurd ((az _ _).1 hb) hne
 simp only[beB,this,h1,h2,Bool.not_false,Bool.and_self]
theorem mE {bs:List Nat} {all:List Oper} {j:Nat}:∀(l:List Oper) (k:Nat),eo bs all j k l=true->∀(i:Nat) (o:Oper),l[i]? = some o->beB bs j (k+i)=true->fp o=true\/(gK o=true/\fJ bs (k+i) 0 all=true)
 | [],k,h,i,o,ho,hb=>by cases ho
 | a::l,k,h,0,o,ho,hb=>by
  simp only[List.getElem?_cons_zero,FR]at ho
  subst ho
  simp only[eo]at h
  rw[Nat.add_zero]at hb ⊢
  rw[hb]at h
  simp only[cond_true,FS,Bool.or_eq_true]at h
  exact h.1
 | a :: l, k, h, i + 1, o, ho, hb => by
  simp only[List.getElem?_cons_succ]at ho
  have h2:eo bs all j (k+1) l=true:=by
   simp only[eo]at h
   cases hc:beB bs j k with
   | true=>rw[hc]at h;simp only[cond_true,FS]at h;exact h.2
   | false=>rw[hc]at h;exact h
  rw[show k+(i+1)=(k+1)+i by omega]at hb ⊢
  exact mE l (k+1) h2 i o ho hb
theorem sX {bs:List Nat} {j:Nat}:∀(l:List Oper) (k:Nat),fJ bs j k l=true->∀(i:Nat) (o:Oper),l[i]? = some o->beB bs j (k+i)=true->(fp o=true\/eT o=true)\/iy o=true
 | [],k,h,i,o,ho,hb=>by cases ho
 | a::l,k,h,0,o,ho,hb=>by
  simp only[List.getElem?_cons_zero,FR]at ho
  subst ho
  simp only[fJ]at h
  rw[Nat.add_zero]at hb
  rw[hb]at h
  simp only[cond_true,FS,Bool.or_eq_true]at h
  exact h.1
 | a :: l, k, h, i + 1, o, ho, hb => by
  simp only[List.getElem?_cons_succ]at ho
  have h2:fJ bs j (k+1) l=true:=by
   simp only[fJ]at h
   cases hc:beB bs j k with
   | true=>rw[hc]at h;simp only[cond_true,FS]at h;exact h.2
   | false=>rw[hc]at h;exact h
  rw[show k+(i+1)=(k+1)+i by omega]at hb
  exact sX l (k+1) h2 i o ho hb
theorem q0 {bs:List Nat} {all:List Oper}:∀(l:List Oper) (k:Nat),lw bs all k l=true->∀(i:Nat) (o:Oper),l[i]? = some o->eT o=true->eo bs all (k+i) 0 all=true\/ek bs (k+i) 0 all=true
 | [],k,h,i,o,ho,hb=>by cases ho
 | a::l,k,h,0,o,ho,hb=>by
  simp only[List.getElem?_cons_zero,FR]at ho
  subst ho
  simp only[lw,hb,Bool.not_true,Bool.false_or,FS,Bool.or_eq_true]at h
  exact h.1
 | a::l,k,h,i+1,o,ho,hb=>by
  simp only[List.getElem?_cons_succ]at ho
  simp only[lw,FS]at h
  rw[show k+(i+1)=(k+1)+i by omega]
  exact q0 l (k+1) h.2 i o ho hb
theorem gE {bs:List Nat} {j:Nat}:∀(l:List Oper) (k i:Nat) (o:Oper),l[i]? = some o->beB bs j (k+i)=true->eT o=true->gZ bs j k l=true
 | [],k,i,o,ho,hb,h=>by cases ho
 | a::l,k,0,o,ho,hb,h=>by
  simp only[List.getElem?_cons_zero,FR]at ho
  subst ho
  rw[Nat.add_zero]at hb
  simp only[gZ,hb,h,Bool.and_self,cond_true]
 | a::l,k,i+1,o,ho,hb,h=>by
  simp only[List.getElem?_cons_succ]at ho
  rw[show k+(i+1)=(k+1)+i by omega]at hb
  have:=gE l (k+1) i o ho hb h
  simp only[gZ,this]
  cases beB bs j k&&eT a<;>rfl
theorem qn {bs:List Nat} {j:Nat}:∀(l:List Oper) (k:Nat),gZ bs j k l=true->∃(i:Nat) (o:Oper),l[i]? = some o/\beB bs j (k+i)=true/\eT o=true
 | [],k,h=>by cases h
 | a :: l, k, h => by
  simp only[gZ]at h
  cases hc:beB bs j k&&eT a with
  | true =>
   simp only[FS]at hc
   exact⟨0,a,rfl,hc.1,hc.2⟩
  | false =>
   rw[hc]at h
   obtain⟨i,o,h1,h2,h3⟩:=qn l (k+1) h
   exact⟨i+1,o,by simpa using h1,by rw[show k+(i+1)=(k+1)+i by omega];exact h2,h3⟩
theorem mJ {sl bs:List Nat} {all:List Oper} {j:Nat}:∀(l:List Oper) (k i:Nat) (o:Oper),l[i]? = some o->beB bs j (k+i)=true->(nh bs (k+i) all o||lj sl bs (k+i) all o)=true->jR sl bs all j k l=true
 | [],k,i,o,ho,_,_=>by cases ho
 | a::l,k,0,o,ho,hb,h=>by
  simp only[List.getElem?_cons_zero,FR]at ho
  subst ho
  rw[Nat.add_zero]at hb h
  simp only[jR,hb,h,Bool.and_self,cond_true]
 | a::l,k,i+1,o,ho,hb,h=>by
  simp only[List.getElem?_cons_succ]at ho
  rw[show k+(i+1)=(k+1)+i by omega]at hb h
  have:=mJ (all:=all) l (k+1) i o ho hb h
  simp only[jR,this]
  cases beB bs j k&&(nh bs k all a||lj sl bs k all a)<;>rfl
theorem C5 {sl bs:List Nat} {all:List Oper} {j:Nat} {o:Oper} (h:lj sl bs j all o=true):(∃t a x,o.op=.store t a x)/\o.guard=none/\o.dst=none/\ek bs j 0 all=true:=by
 simp only[lj,FS]at h
 obtain⟨⟨_,h1⟩,_,h2⟩:=h
 unfold A0 at h1
 split at h1
 ·rename_i t a x hop
  simp only[FS]at h1
  exact⟨⟨t,a,x,hop⟩,Option.isNone_iff_eq_none.1 h1.1,Option.isNone_iff_eq_none.1 h1.2,h2⟩
 ·cases h1
theorem Dh {sl bs:List Nat} {all:List Oper} {j:Nat} {o:Oper} (h:b9 bs j 0 all=true):lj sl bs j all o=false:=by simp[lj,h]
theorem Ek {sl bs:List Nat} {all:List Oper} {j:Nat} {o:Oper} (h:o.dst.isSome=true):lj sl bs j all o=false:=by
 cases hs:lj sl bs j all o with
 | false=>rfl
 | true=>rw[(C5 hs).2.2.1]at h;cases h
theorem Cq {bs:List Nat} {all:List Oper} {j:Nat} {o:Oper} (h:nh bs j all o=true):False:=nomatch h
theorem EA {o:Oper} (h:(au o.op).isSome=true):gK o=false/\eT o=false/\fp o=false/\iy o=false:=by
 obtain⟨s,hs⟩:=Option.isSome_iff_exists.1 h
 have hP:=(cQ hs).1
 refine⟨?_,?_,?_,?_⟩
 ·cases hz:gK o with
  | false=>rfl
  | true =>
   obtain⟨f,args,tys,d,hop,_,_⟩:=fV hz
   rw[hop]at hP
   cases hP
 ·cases hz:eT o with
  | false=>rfl
  | true =>
   obtain⟨⟨t,len,parts,hop⟩,_⟩:=qe hz
   rw[hop]at hP
   cases hP
 ·unfold fp
  cases hop:o.op<;>rw[hop]at hP<;>first|rfl|cases hP
 ·unfold iy
  rw[hP]
theorem AU {bs:List Nat} {all:List Oper} {j:Nat} {o:Oper} (h:au o.op=none):nh bs j all o=false:=rfl
theorem Da {bs:List Nat} {all:List Oper} {j:Nat} {o:Oper} (h:b9 bs j 0 all=true):nh bs j all o=false:=rfl
theorem tH (bs:List Nat) (i j:Nat):beB bs i j=beB bs j i:=by
 have:j.beq i=i.beq j:=by
  cases h:i.beq j with
  | true=>rw[(az _ _).1 h];simp
  | false =>
   cases h2:j.beq i with
   | false=>rfl
   | true=>rw[(az _ _).1 h2]at h;simp at h
 unfold beB
 rw[this]
 cases i.beq j<;>cases(nth 0 bs j).testBit i<;>cases(nth 0 bs i).testBit j<;>rfl
theorem ut {j i:Nat} {x y:Oper} (hpz:i6 (behind ops) ops 0 ops=true) (hx:ops[j]? = some x) (hy:ops[i]? = some y) (hs:(af ex ops (behind ops) j x).shut=true) (hb:beB (behind ops) j i=true):(fp y=true\/eT y=true)\/iy y=true:=by
 simp only[af,FS]at hs
 obtain⟨⟨⟨_,hsz⟩,hcl⟩,hbd⟩:=hs
 obtain⟨k,o,h1,h2,h3⟩:=qn ops 0 hbd
 rw[Nat.zero_add]at h2
 have hcm:=q0 ops 0 hsz k o h1 h3
 rw[Nat.zero_add]at hcm
 rcases hcm with hcm|hcm
 case inr =>
  exfalso
  obtain⟨f,args,tys,d,hop,_,_⟩:=fV hcl
  rcases iD ops 0 hcm j x hx (by rw[Nat.zero_add,tH];exact h2)with h|⟨h,_⟩
  ·unfold fp at h;rw[hop]at h;cases h
  ·unfold iy at h;rw[hop]at h;cases h
 rcases mE ops 0 hcm j x hx (by rw[Nat.zero_add,tH];exact h2)with h|⟨_,h⟩
 ·exfalso
  unfold gK at hcl
  unfold fp at h
  cases hop:x.op<;>rw[hop]at hcl h<;>first|cases hcl|cases h
 ·rw[Nat.zero_add]at h
  exact sX ops 0 h i y hy (by rw[Nat.zero_add];exact hb)
theorem m6 : ∀ (pre : List Nat) (i : Nat) (y : Oper) (post : List Nat) (st fin : ASt), ops[i]? = some y →
  (∀j∈pre,j<i/\(nth 0 (behind ops) i).testBit j=false)->bB ops=true->da E C ex ops (pre++i::post) st fin ->
  ∃s1,OpN E C ops (af ex ops (behind ops) i y) st s1/\da E C ex ops (pre++post) s1 fin
 | [], i, y, post, st, fin, hy, hpre, hok, h => by
  simp only[List.nil_append]at h
  cases h with
  | cons ho h1 h2 =>
   rw[hy]at ho
   cases ho
   exact⟨_,h1,h2⟩
 | j :: pre, i, y, post, st, fin, hy, hpre, hok, h => by
  simp only[List.cons_append]at h
  cases h with
  | @cons _ x _ _ sj _ hx h1 h =>
   obtain⟨s',h2,h3⟩:=m6 pre i y post sj fin hy (fun k hk=>hpre k (FY _ hk)) hok h
   obtain⟨hji,hbit⟩:=hpre j FX
   obtain⟨hei,hpi⟩:=cY ops 0 hok i y hy
   obtain⟨hej,hpj⟩:=cY ops 0 hok j x hx
   simp only[Nat.zero_add]at hei hpi hej hpj
   have hap:cH ops x y=true:=by
    rcases oH ops 0 hpi j x hx (by omega)with h|h
    ·simp only[Nat.zero_add]at h;rw[hbit]at h;cases h
    ·exact h
   have hg:ke (ao x.op) (ao y.op)=true:=by
    simp only[cH,FS]at hap;exact hap.1.1.1.1
   have hxx:(ao x.op).isX=false:=by cases hc:ao x.op<;>first|rfl|(rw[hc]at hg;simp[ke]at hg)
   have hyx:(ao y.op).isX=false:=by cases hc:ao y.op<;>first|rfl|(rw[hc]at hg;cases hc2:ao x.op<;>rw[hc2]at hg<;>simp[ke]at hg)
   have hbit2 : (nth 0 (behind ops) j).testBit i = false := by
    cases hb:(nth 0 (behind ops) j).testBit i with
    | false=>rfl
    | true =>
     exfalso
     have below:∀(k:Nat) (o:Oper),ops[k]? = some o->∀q,(nth 0 (behind ops) k).testBit q=true->q<k:=by
      intro k
      induction k using Nat.strongRecOn with
      | _ k ih =>
       intro o ho q hq
       rw[mo ho]at hq
       obtain⟨e,he,hbn,hor⟩:=j9 hq
       have hlt:=bw ((cY ops 0 hok k o ho).1) e he hbn
       simp only[Nat.zero_add]at hlt
       rcases hor with h|h
       ·omega
       ·have hlt2:e.on<ops.length:=by have:=(FP.1 ho).1;omega
        have hnt:nth 0 ((behind ops).take k) e.on=nth 0 (behind ops) e.on:=by rw[bi,bi,List.getElem?_take_of_lt hlt]
        rw[hnt]at h
        have:=ih e.on hlt _ (FQ hlt2) q h
        omega
     have:=below j x hx i hb
     omega
   have hil:i<ops.length:=(FP.1 hy).1
   have hjl:j<ops.length:=(FP.1 hx).1
   have hne:i≠j:=by omega
   have noLds:∀(k:Nat) (z:Oper),eT z=false->nh (behind ops) k ops z=false->lj (nth [] ex ops.length) (behind ops) k ops z=false->(af ex ops (behind ops) k z).lds=[]:=fun k z h h2 h3=>by simp only[af,h,h2,h3,Bool.false_and,Bool.or_self,cond_false]
   have calmLds:∀(k:Nat) (z:Oper),eo (behind ops) ops k 0 ops=true->nh (behind ops) k ops z=false->lj (nth [] ex ops.length) (behind ops) k ops z=false->(af ex ops (behind ops) k z).lds=[]:=fun k z h h2 h3=>by simp only[af,h,h2,h3,Bool.not_true,Bool.and_false,Bool.or_self,cond_false]
   have mvPs:∀(z:Oper),fp z=true->au z.op=none:=fun z h=>by
    unfold fp at h
    unfold au
    cases hop:z.op<;>rw[hop]at h<;>first|rfl|cases h
   have bdPs:∀(z:Oper),eT z=true->au z.op=none:=fun z h=>by
    obtain⟨⟨t,len,parts,hop⟩,_⟩:=qe h
    rw[hop];rfl
   have ptI:∀(k:Nat) (z:Oper),ops[k]? = some z->i6 (behind ops) ops 0 ops=true->nh (behind ops) k ops z=true->PtI (af ex ops (behind ops) k z):=fun k z hz hpz hpt=>(Cq hpt).elim
   have mvBd:∀(z:Oper),fp z=true->eT z=false:=fun z h=>by
    unfold fp at h
    unfold eT
    cases hop:z.op<;>rw[hop]at h<;>first|rfl|cases h
   have mvDst:∀(z:Oper),fp z=true->z.dst.isSome=true:=fun z h=>by
    unfold fp at h
    split at h
    ·simp only[FS]at h;exact h.2
    ·cases h
   have bdDst:∀(z:Oper),eT z=true->z.dst.isSome=true:=fun z h=>by
    obtain⟨_,_,m2,hm2⟩:=qe h
    rw[hm2];rfl
   have hpush:∀(k:Nat) (z:Oper),ops[k]? = some z->i6 (behind ops) ops 0 ops=true->(((af ex ops (behind ops) k z).loose=true/\(af ex ops (behind ops) k z).lds=[])\/au z.op=none)\/PtI (af ex ops (behind ops) k z):=fun k z hz hpz=>by
    cases hps:au z.op with
    | none=>exact .inl (.inr rfl)
    | some s =>
     have hp1:(au z.op).isSome=true:=by rw[hps];rfl
     have:=rf ops 0 hpz k z hz hp1
     rw[Nat.zero_add]at this
     rcases this with this|this
     ·exact .inl (.inl ⟨by simp only[af,hpz,this,Bool.or_true,Bool.true_or,Bool.and_self],noLds k z (EA hp1).2.1 (Da this) (Dh this)⟩)
     ·exact .inr (ptI k z hz hpz this)
   have ownIn:∀(k:Nat) (z:Oper) (q:List Nat × List Nat),q∈gP ex (behind ops) k ops 0 ops->q∈(af ex ops (behind ops) k z).own:=fun k z q h=>by
    simp only[af]
    cases lj (nth [] ex ops.length) (behind ops) k ops z with
    | true=>exact FY _ h
    | false=>exact h
   have old:(af ex ops (behind ops) j x).shut=false->(af ex ops (behind ops) i y).shut=false->(af ex ops (behind ops) j x).loose=false->(af ex ops (behind ops) i y).loose=false->∃s1',OpN E C ops (af ex ops (behind ops) i y) st s1'/\OpN E C ops (af ex ops (behind ops) j x) s1' s':=fun hsx hsy hlx hly=>by
    exact Cy (x:=af ex ops (behind ops) j x) (y:=af ex ops (behind ops) i y) hap hsx hsy hlx hly
      (by simp only[af];exact bN ops 0 i hil (by omega) (by simpa using hbit2) (by simpa using hbit)) (by simp only[af];exact bN ops 0 j hjl (by omega) (by simpa using hbit) (by simpa using hbit2)) hxx hyx
      (fun hm d hd=>dQ ops 0 j d x hx (fx hm hd) (by omega) (by simpa using hbit) (by simpa using hbit2))
      (fun hm d hd=>dQ ops 0 i d y hy (fx hm hd) (by omega) (by simpa using hbit2) (by simpa using hbit))
      (fun hm=>by have:=kF (ex:=ex) (bs:=behind ops) (j:=j) (all:=ops) ops 0 i y hy hm (by omega) (by simpa using hbit2) (by simpa using hbit);exact ownIn j x _ (by rw[Nat.zero_add]at this;exact this))
      (fun hm=>by have:=kF (ex:=ex) (bs:=behind ops) (j:=i) (all:=ops) ops 0 j x hx hm (by omega) (by simpa using hbit) (by simpa using hbit2);exact ownIn i y _ (by rw[Nat.zero_add]at this;exact this))
      (fun s hs=>⟨(iF hs).2,dQ ops 0 i _ y hy (p9 (iF hs).1) (by omega) (by simpa using hbit2) (by simpa using hbit),List.mem_append_left _ (kV ops 0 i _ y hy (iF hs).1 (by omega) (by simpa using hbit2) (by simpa using hbit))⟩)
      (fun s hs=>⟨(iF hs).2,dQ ops 0 j _ x hx (p9 (iF hs).1) (by omega) (by simpa using hbit) (by simpa using hbit2),List.mem_append_left _ (kV ops 0 j _ x hx (iF hs).1 (by omega) (by simpa using hbit) (by simpa using hbit2))⟩) h1 h2
   have hmv : ∃ s1', OpN E C ops (af ex ops (behind ops) i y) st s1' ∧ OpN E C ops (af ex ops (behind ops) j x) s1' s' := by
    cases hpz:i6 (behind ops) ops 0 ops with
    | true =>
     cases hmx:fp x with
     | true=>exact Fe (x:=af ex ops (behind ops) j x) hmx (hpush i y hy hpz) (by simp only[af,hpz,hmx,Bool.true_or,Bool.and_self]) (noLds j x (mvBd x hmx) (AU (mvPs x hmx)) (Ek (mvDst x hmx))) hap h1 h2
     | false =>
      cases hmy:fp y with
      | true=>exact CB (y:=af ex ops (behind ops) i y) hmy (hpush j x hx hpz) (by simp only[af,hpz,hmy,Bool.true_or,Bool.and_self]) (noLds i y (mvBd y hmy) (AU (mvPs y hmy)) (Ek (mvDst y hmy))) hap h1 h2
      | false =>
       have lox:b9 (behind ops) j 0 ops=false:=by
        cases hlo:b9 (behind ops) j 0 ops with
        | false=>rfl
        | true=>have:=ni ops 0 hlo i y hy (by omega) (by simpa using hbit2) (by simpa using hbit);rw[hmy]at this;cases this
       have loy:b9 (behind ops) i 0 ops=false:=by
        cases hlo:b9 (behind ops) i 0 ops with
        | false=>rfl
        | true=>have:=ni ops 0 hlo j x hx (by omega) (by simpa using hbit) (by simpa using hbit2);rw[hmx]at this;cases this
       have hbe:beB (behind ops) j i=true:=CP (by omega) (by simpa using hbit2) (by simpa using hbit)
       have hbe':beB (behind ops) i j=true:=by rw[tH];exact hbe
       cases hpsx:au x.op with
       | some sx =>
        exfalso
        have:=rf ops 0 hpz j x hx (by rw[hpsx];rfl)
        rw[Nat.zero_add,lox]at this
        rcases this with this|this
        ·cases this
        ·exact Cq this
       | none =>
       have ptx:nh (behind ops) j ops x=false:=AU hpsx
       have stx:lj (nth [] ex ops.length) (behind ops) j ops x=false:=by
        cases hst:lj (nth [] ex ops.length) (behind ops) j ops x with
        | false=>rfl
        | true =>
         rcases iD ops 0 (C5 hst).2.2.2 i y hy (by rw[Nat.zero_add];exact hbe)with h|⟨_,h⟩
         ·rw[hmy]at h;cases h
         ·omega
       cases hpsy:au y.op with
       | some sy =>
        have hpt:=rf ops 0 hpz i y hy (by rw[hpsy];rfl)
        rw[Nat.zero_add,loy]at hpt
        rcases hpt with h|hpt
        ·cases h
        exact(Cq hpt).elim
       | none =>
       have pty:nh (behind ops) i ops y=false:=AU hpsy
       cases sty:lj (nth [] ex ops.length) (behind ops) i ops y with
       | true =>
        obtain⟨⟨t0,a0,x0,hop0⟩,p2,p3,p4⟩:=C5 sty
        rcases iD ops 0 p4 j x hx (by rw[Nat.zero_add];exact hbe')with h|⟨hldx,_⟩
        ·rw[hmx]at h;cases h
        have hbx:eT x=false:=by
         cases hb:eT x with
         | false=>rfl
         | true =>
          obtain⟨⟨t,len,parts,hop⟩,_⟩:=qe hb
          unfold iy at hldx
          rw[hop]at hldx
          cases hldx
        have hclx:gK x=false:=by
         cases hz:gK x with
         | false=>rfl
         | true =>
          obtain⟨f,args,tys,d,hop,_,_⟩:=fV hz
          unfold iy at hldx
          rw[hop]at hldx
          cases hldx
        have hcly:gK y=false:=by unfold gK;rw[hop0]
        have hbb:=mJ (sl:=nth [] ex ops.length) (all:=ops) ops 0 i y hy (by rw[Nat.zero_add];exact hbe) (by rw[Nat.zero_add,sty,Bool.or_true])
        have hdul:pP ex ops (behind ops) j x=kZ (behind ops) j ops 0 ops:=by simp only[pP,hpz,hldx,hmx,hbb,Bool.not_false,Bool.and_self,Bool.or_true,cond_true]
        have hdul2:dull2At ex ops (behind ops) j x=nth [] ex j:=by simp only[dull2At,hpz,hldx,hmx,hbb,Bool.not_false,Bool.and_self,cond_true]
        have hbans:=mY (ex:=ex) (bs:=behind ops) (j:=i) (all:=ops) ops 0 j x hx (by rw[Nat.zero_add];exact hbe') hldx hmx
        rw[Nat.zero_add]at hbans
        exact vA (x:=af ex ops (behind ops) j x) (y:=af ex ops (behind ops) i y) hldx (by simp only[af,hclx,Bool.and_false,Bool.false_and]) (by simp only[af,hmx,lox,hbx,ptx,stx,Bool.or_self,Bool.and_false])
         (by simp only[af];exact bN ops 0 i hil (by omega) (by simpa using hbit2) (by simpa using hbit)) (by simp only[af,hdul]) (fun _=>by simp only[af,hdul2]) (fun s hs=>by simp only[af,hdul]at hs ⊢;exact List.mem_append_right _ hs)
         p2 p3 (by simp only[af,hpz,sty,Bool.or_true,Bool.and_self]) (by simp only[af];exact bN ops 0 j hjl (by omega) (by simpa using hbit) (by simpa using hbit2))
         (fun s e hh ho=>jm (by simp only[af,hcly,Bool.and_false,Bool.false_and]) (fun s hs=>by simp only[af,hpsy]at hs;cases hs) (fun _ _ _ _=>by simp only[af,sty,cond_true];exact FX) ho)
         (by simp only[af,sty,Bool.or_true,cond_true];exact hbans) hap
         (fun m2 hm2=>by cases hm2) h1 h2
       | false =>
       cases hsz:lw (behind ops) ops 0 ops with
       | false=>exact old (by simp only[af,hsz,Bool.and_false,Bool.false_and]) (by simp only[af,hsz,Bool.and_false,Bool.false_and]) (by simp only[af,hmx,lox,hsz,ptx,stx,Bool.or_self,Bool.false_and,Bool.and_false]) (by simp only[af,hmy,loy,hsz,pty,sty,Bool.or_self,Bool.false_and,Bool.and_false])
       | true =>
        cases hby:eT y with
        | true =>
         have hcm0:=q0 ops 0 hsz i y hy hby
         rw[Nat.zero_add]at hcm0
         cases hcm:eo (behind ops) ops i 0 ops with
         | false =>
          rw[hcm]at hcm0
          have hcm0:ek (behind ops) i 0 ops=true:=by
           rcases hcm0 with h|h
           ·cases h
           ·exact h
          rcases iD ops 0 hcm0 j x hx (by rw[Nat.zero_add];exact hbe')with h|⟨hldx,_⟩
          ·rw[hmx]at h;cases h
          have hbx:eT x=false:=by
           cases hb:eT x with
           | false=>rfl
           | true =>
            obtain⟨⟨t,len,parts,hop⟩,_⟩:=qe hb
            unfold iy at hldx
            rw[hop]at hldx
            cases hldx
          have hclx:gK x=false:=by
           cases hz:gK x with
           | false=>rfl
           | true =>
            obtain⟨f,args,tys,d,hop,_,_⟩:=fV hz
            unfold iy at hldx
            rw[hop]at hldx
            cases hldx
          have hcly:gK y=false:=by
           cases hz:gK y with
           | false=>rfl
           | true =>
            obtain⟨f,args,tys,d,hop,_,_⟩:=fV hz
            obtain⟨⟨t,len,parts,hop2⟩,_⟩:=qe hby
            rw[hop]at hop2
            cases hop2
          have hbb:=gE ops 0 i y hy (by rw[Nat.zero_add];exact hbe) hby
          have hdul:pP ex ops (behind ops) j x=kZ (behind ops) j ops 0 ops:=by simp only[pP,hpz,hsz,hldx,hmx,hbb,Bool.not_false,Bool.and_self,Bool.true_or,cond_true]
          obtain⟨⟨_,_,_,hopy⟩,hgy,m2,hm2⟩:=qe hby
          have hbans:=mY (ex:=ex) (bs:=behind ops) (j:=i) (all:=ops) ops 0 j x hx (by rw[Nat.zero_add];exact hbe') hldx hmx
          rw[Nat.zero_add]at hbans
          exact vA (x:=af ex ops (behind ops) j x) (y:=af ex ops (behind ops) i y) hldx (by simp only[af,hclx,Bool.and_false,Bool.false_and]) (by simp only[af,hmx,lox,hbx,ptx,stx,Bool.or_self,Bool.and_false])
           (by simp only[af];exact bN ops 0 i hil (by omega) (by simpa using hbit2) (by simpa using hbit)) (by simp only[af,hdul]) (fun h=>by simp only[af,nc,A0,hopy]at h;cases h) (fun s hs=>by simp only[af,hdul]at hs ⊢;exact List.mem_append_right _ hs)
           hgy hm2 (by simp only[af,hpz,hsz,hby,Bool.or_true,Bool.true_or,Bool.and_self]) (by simp only[af];exact bN ops 0 j hjl (by omega) (by simpa using hbit) (by simpa using hbit2))
           (fun s e hh ho => jm (by simp only [af, hcly, Bool.and_false, Bool.false_and]) (fun s hs => by simp only [af, hpsy] at hs; cases hs) (by
            rintro i b v rfl
            exfalso
            have:=re (st:=s) (by simp only[af,hopy];rfl) rfl hh
            simp only[af,hopy]at this
            cases this with
            | upd _ _ _ hc _=>cases hc) ho)
           (by simp only[af,hby,hcm,Bool.not_false,Bool.and_self,Bool.true_or,cond_true];exact hbans) hap
           (fun d2 hd2=>dQ ops 0 i d2 y hy (fx (by rw[hopy];rfl) (hm2.trans hd2)) (by omega) (by simpa using hbit2) (by simpa using hbit)) h1 h2
         | true =>
         rcases mE ops 0 hcm j x hx (by rw[Nat.zero_add];exact hbe')with h|⟨hclx,_⟩
         ·rw[hmx]at h;cases h
         have hsh:(af ex ops (behind ops) j x).shut=true:=by simp only[af,hpz,hsz,hclx,gE ops 0 i y hy (by rw[Nat.zero_add];exact hbe) hby,Bool.and_self]
         have hbx:eT x=false:=by
          unfold gK at hclx
          unfold eT
          cases hop:x.op<;>rw[hop]at hclx<;>first|rfl|cases hclx
         exact Bg (x:=af ex ops (behind ops) j x) (y:=af ex ops (behind ops) i y) hclx hsh (by simp only[af];exact bN ops 0 i hil (by omega) (by simpa using hbit2) (by simpa using hbit))
          (by simp only[af,hmx,lox,hbx,ptx,stx,Bool.or_self,Bool.and_false]) hby (by simp only[af,hpz,hsz,hby,Bool.or_true,Bool.true_or,Bool.and_self]) (calmLds i y hcm pty sty) hap
          (fun d hd => dQ ops 0 j d x hx (fx (by
           obtain⟨f,args,tys,d,hop,_,_⟩:=fV hclx
           rw[hop];rfl) hd) (by omega) (by simpa using hbit) (by simpa using hbit2)) h1 h2
        | false =>
         cases hbx:eT x with
         | true =>
          have hcm:=q0 ops 0 hsz j x hx hbx
          rw[Nat.zero_add]at hcm
          rcases hcm with hcm|hcm
          case inr =>
           rcases iD ops 0 hcm i y hy (by rw[Nat.zero_add];exact hbe)with h|⟨_,h⟩
           ·rw[hmy]at h;cases h
           ·omega
          rcases mE ops 0 hcm i y hy (by rw[Nat.zero_add];exact hbe)with h|⟨hcly,_⟩
          ·rw[hmy]at h;cases h
          have hsh:(af ex ops (behind ops) i y).shut=true:=by simp only[af,hpz,hsz,hcly,gE ops 0 j x hx (by rw[Nat.zero_add];exact hbe') hbx,Bool.and_self]
          exact zH (x:=af ex ops (behind ops) j x) (y:=af ex ops (behind ops) i y) hbx (by simp only[af,hpz,hsz,hbx,Bool.or_true,Bool.true_or,Bool.and_self]) (calmLds j x hcm ptx stx) hcly hsh
           (by simp only[af];exact bN ops 0 j hjl (by omega) (by simpa using hbit) (by simpa using hbit2))
           (by simp only[af,hmy,loy,hby,pty,sty,Bool.or_self,Bool.and_false]) hap
           (fun d hd => dQ ops 0 i d y hy (fx (by
            obtain⟨f,args,tys,d,hop,_,_⟩:=fV hcly
            rw[hop];rfl) hd) (by omega) (by simpa using hbit2) (by simpa using hbit)) h1 h2
         | false =>
          have ldsh:∀{k:Nat} {z:Oper},iy z=true->(af ex ops (behind ops) k z).shut=false:=fun{k z} h=>by
           have:gK z=false:=by
            cases hz:gK z with
            | false=>rfl
            | true =>
             obtain⟨f,args,tys,d,hop,_,_⟩:=fV hz
             unfold iy at h
             rw[hop]at h
             cases h
           simp only[af,this,Bool.and_false,Bool.false_and]
          cases shx:(af ex ops (behind ops) j x).shut with
          | true =>
           rcases ut hpz hx hy shx hbe with(h|h)|h
           ·rw[hmy]at h;cases h
           ·rw[hby]at h;cases h
           ·have hclx:gK x=true:=by simp only[af,FS]at shx;exact shx.1.2
            exact Fg (x:=af ex ops (behind ops) j x) (y:=af ex ops (behind ops) i y) hclx shx (by simp only[af];exact bN ops 0 i hil (by omega) (by simpa using hbit2) (by simpa using hbit))
             (by simp only[af,hmx,lox,hbx,ptx,stx,Bool.or_self,Bool.and_false]) h (ldsh h) hap
             (fun d hd => dQ ops 0 j d x hx (fx (by
              obtain⟨f,args,tys,d,hop,_,_⟩:=fV hclx
              rw[hop];rfl) hd) (by omega) (by simpa using hbit) (by simpa using hbit2)) h1 h2
          | false =>
          cases shy:(af ex ops (behind ops) i y).shut with
          | true =>
           rcases ut hpz hy hx shy hbe' with(h|h)|h
           ·rw[hmx]at h;cases h
           ·rw[hbx]at h;cases h
           ·have hcly:gK y=true:=by simp only[af,FS]at shy;exact shy.1.2
            exact Dg (x:=af ex ops (behind ops) j x) (y:=af ex ops (behind ops) i y) h (ldsh h) hcly shy (by simp only[af];exact bN ops 0 j hjl (by omega) (by simpa using hbit) (by simpa using hbit2))
             (by simp only[af,hmy,loy,hby,pty,sty,Bool.or_self,Bool.and_false]) hap
             (fun d hd => dQ ops 0 i d y hy (fx (by
              obtain⟨f,args,tys,d,hop,_,_⟩:=fV hcly
              rw[hop];rfl) hd) (by omega) (by simpa using hbit2) (by simpa using hbit)) h1 h2
          | false =>
          exact old shx shy (by simp only[af,hmx,lox,hbx,ptx,stx,Bool.or_self,Bool.and_false]) (by simp only[af,hmy,loy,hby,pty,sty,Bool.or_self,Bool.and_false])
    | false=>exact old (by simp only[af,hpz,Bool.false_and]) (by simp only[af,hpz,Bool.false_and]) (by simp only[af,hpz,Bool.false_and]) (by simp only[af,hpz,Bool.false_and])
   obtain⟨s1,k1,k2⟩:=hmv
   exact⟨s1,k1,.cons hx k2 h3⟩
theorem pX {ro:Option Nat} (hE:gh P w0.G E C) {ops:Array Oper} {fin:ASt} (hQ:∀a w,Sim w0 I0 fin a ov w->Q .normal a w) :
  ∀(l:List Item) (k:Nat) (st:ASt) (a:Act) (w:World),(∀j,(l[j]?).map (·.o)=ops[k+j]?)->BL E C ops.toList l st fin->Sim w0 I0 st a ov w->wpOpsIn (Rd ro) 0 P ops Q (List.range' k l.length) a w
 | [],k,st,a,w,hl,h,hs=>by
  cases h
  simpa[wpOpsIn]using hQ a w hs
 | i :: l, k, st, a, w, hl, h, hs => by
  simp only[List.length_cons,List.range'_succ,wpOpsIn_cons]
  cases h with
  | @cons _ _ _ st1 _ h1 h2 =>
   have hk:ops[k]? = some i.o:=by have:=hl 0;simpa using this.symm
   refine wpOpIn_mono (fun a' w' hs'=>?_) (mA hE hk hs h1)
   exact pX hE hQ l (k+1) st1 a' w' (fun j=>by have:=hl (j+1);simp at this;rw[this];congr 1;omega) h2 hs'
def unlisted (n:Nat) (listed:Array Bool):List Nat:=(List.range n).filter fun i=>!listed.getD i true
theorem zL {ro:Option Nat} (hE:gh P w0.G E C) {ops:Array Oper} (hok:bB ops.toList=true) {fin:ASt} (hQ:∀a w,Sim w0 I0 fin a ov w->Q .normal a w) :
  ∀(fuel:Nat) (listed:Array Bool) (st:ASt) (a:Act) (w:World),listed.size=ops.size->(unlisted ops.size listed).length<=fuel ->
   (∀(k:Nat) (o:Oper),ops[k]? = some o->listed.getD k true=true->∀e∈o.after,Region.binds .any e=true->listed.getD e.on false=true) ->
   da E C ex ops.toList (unlisted ops.size listed) st fin->Sim w0 I0 st a ov w->wpAnyIn (Rd ro) 0 P .any ops Q fuel listed a w:=by
 have first_ready : ∀ (listed : Array Bool), listed.size = ops.size → Region.ready .any ops listed = [] → unlisted ops.size listed = [] := by
  intro listed hsz hr
  cases hu:unlisted ops.size listed with
  | nil=>rfl
  | cons i l =>
   exfalso
   have hmem:i∈unlisted ops.size listed:=by rw[hu];exact FX
   simp only[unlisted,List.mem_filter,List.mem_range,Bool.not_eq_true']at hmem
   have hmin:∀j,j<i->listed.getD j true=true:=by
    intro j hj
    cases hb:listed.getD j true with
    | true=>rfl
    | false =>
     exfalso
     have hjm:j∈unlisted ops.size listed:=by
      simp only[unlisted,List.mem_filter,List.mem_range,Bool.not_eq_true']
      exact⟨by omega,hb⟩
     rw[hu]at hjm
     have hsorted:(unlisted ops.size listed).Pairwise (· < ·):=List.Pairwise.filter _ List.pairwise_lt_range
     rw[hu]at hsorted
     rcases List.mem_cons.1 hjm with h|h
     ·omega
     ·have:=(List.pairwise_cons.1 hsorted).1 j h
      omega
   have hready:i∈Region.ready .any ops listed:=by
    rw[mem_ready]
    refine⟨hmem.2,ops[i]'hmem.1,Array.getElem?_eq_getElem hmem.1,fun e he hb=>?_⟩
    have hlt:=bw ((cY ops.toList 0 hok i _ (by rw[FU];exact Array.getElem?_eq_getElem hmem.1)).1) e (by simpa using he) hb
    simp only[Nat.zero_add]at hlt
    have:=hmin e.on hlt
    have hlt2:e.on<listed.size:=by omega
    simpa[hlt2]using this
   rw[hr]at hready
   cases hready
 intro fuel
 induction fuel with
 | zero =>
  intro listed st a w hsz hlen hcl h hs
  have hnil:unlisted ops.size listed=[]:=List.eq_nil_of_length_eq_zero (by omega)
  rw[hnil]at h
  cases h
  refine⟨?_,hQ a w hs⟩
  cases hr:Region.ready .any ops listed with
  | nil=>rfl
  | cons i l =>
   exfalso
   have:i∈Region.ready .any ops listed:=by rw[hr];exact FX
   rw[mem_ready]at this
   obtain⟨h0,o,ho,_⟩:=this
   have:i∈unlisted ops.size listed:=by
    simp only[unlisted,List.mem_filter,List.mem_range,Bool.not_eq_true']
    exact⟨(FV.1 ho).1,h0⟩
   rw[hnil]at this
   cases this
 | succ fuel ih =>
  intro listed st a w hsz hlen hcl h hs
  refine⟨fun hr=>?_,fun i hi=>?_⟩
  ·have hnil:=first_ready listed hsz hr
   rw[hnil]at h
   cases h
   exact hQ a w hs
  ·rw [mem_ready] at hi
   obtain⟨h0,o,ho,hedges⟩:=hi
   have hlt:i<ops.size:=(FV.1 ho).1
   have hmem:i∈unlisted ops.size listed:=by
    simp only[unlisted,List.mem_filter,List.mem_range,Bool.not_eq_true']
    exact⟨hlt,h0⟩
   obtain⟨pre,post,hsplit⟩:=List.append_of_mem hmem
   have hsorted:(unlisted ops.size listed).Pairwise (· < ·):=List.Pairwise.filter _ List.pairwise_lt_range
   rw[hsplit]at hsorted h
   have hpre:∀j∈pre,j<i/\(nth 0 (behind ops.toList) i).testBit j=false:=by
    intro j hj
    refine⟨(List.pairwise_append.1 hsorted).2.2 j hj i FX,?_⟩
    have ahead:∀(k:Nat) (ok_:Oper),ops[k]? = some ok_->(∀e∈ok_.after,Region.binds .any e=true->listed.getD e.on false=true)->∀q,(nth 0 (behind ops.toList) k).testBit q=true->listed.getD q true=true:=by
     intro k
     induction k using Nat.strongRecOn with
     | _ k ihk =>
      intro ok_ hk hed q hq
      rw[mo (by rw[FU];exact hk)]at hq
      obtain⟨e,he,hbn,hor⟩:=j9 hq
      have hl:=hed e (by simpa using he) hbn
      have hlt2:=bw ((cY ops.toList 0 hok k ok_ (by rw[FU];exact hk)).1) e he hbn
      simp only[Nat.zero_add]at hlt2
      have hks:k<ops.size:=(FV.1 hk).1
      have hl':listed.getD e.on true=true:=by
       have:e.on<listed.size:=by omega
       simpa[this]using hl
      rcases hor with h|h
      ·rw[<-h];exact hl'
      ·have hnt:nth 0 ((behind ops.toList).take k) e.on=nth 0 (behind ops.toList) e.on:=by rw[bi,bi,List.getElem?_take_of_lt hlt2]
       rw[hnt]at h
       have hon:ops[e.on]? = some (ops[e.on]'(by omega)):=Array.getElem?_eq_getElem (by omega)
       exact ihk e.on hlt2 _ hon (hcl e.on _ hon hl') q h
    cases hb:(nth 0 (behind ops.toList) i).testBit j with
    | false=>rfl
    | true =>
     exfalso
     have h1:=ahead i o ho hedges j hb
     have:j∈unlisted ops.size listed:=by rw[hsplit];exact List.mem_append_left _ hj
     simp only[unlisted,List.mem_filter,List.mem_range,Bool.not_eq_true']at this
     rw[this.2]at h1
     cases h1
   obtain⟨s1,k1,k2⟩:=m6 pre i o post st fin (by rw[FU];exact ho) hpre hok h
   refine wpOpIn_mono (fun a' w' hs'=>?_) (mA hE (i:=af ex ops.toList (behind ops.toList) i o) ho hs k1)
   have hil:i<listed.size:=by omega
   have hnew:unlisted ops.size (listed.setIfInBounds i true)=pre++post:=by
    have hnd:(pre++i::post).Nodup:=hsorted.imp (fun h=>Nat.ne_of_lt h)
    have:unlisted ops.size (listed.setIfInBounds i true)=(unlisted ops.size listed).filter (fun j=>j≠i):=by
     simp only[unlisted,List.filter_filter]
     apply List.filter_congr
     intro j hj
     by_cases hji:j=i
     ·subst hji
      simp[hil]
     ·have:(listed.setIfInBounds i true).getD j true=listed.getD j true:=getD_set_ne true (fun e=>hji e.symm)
      rw[this]
      simp[hji]
    rw[this,hsplit,List.filter_append,List.filter_cons]
    have hni:i∉pre/\i∉post:=by
     rw[List.nodup_append]at hnd
     refine⟨fun hm=>hnd.2.2 i hm i FX rfl,(List.nodup_cons.1 hnd.2.1).1⟩
    simp only[ne_eq,not_true_eq_false,decide_false,Bool.false_eq_true,if_false]
    rw[List.filter_eq_self.2 (fun j hj=>by simp;rintro rfl;exact hni.1 hj),List.filter_eq_self.2 (fun j hj=>by simp;rintro rfl;exact hni.2 hj)]
   refine ih (listed.setIfInBounds i true) s1 a' w' (by simpa using hsz) ?_ ?_ (by rw[hnew];exact k2) hs'
   ·rw[hnew]
    rw[hsplit]at hlen
    simp at hlen ⊢
    omega
   ·intro k ok_ hk hl e he hb
    by_cases hki:k=i
    ·subst hki
     rw[ho]at hk
     cases hk
     exact getD_set_true (hedges e he hb)
    ·rw[getD_set_ne true (fun e=>hki e.symm)]at hl
     exact getD_set_true (hcl k ok_ hk hl e he hb)
theorem vI {ro:Option Nat} (hE:gh P w0.G E C) (hm:P.follows .mixedOrders=true) {T:Type} {J:List Nat->ASt->T->Prop} {id:Nat} {ops:Array Oper} {draw:Bool} {K:ASt->Prg T} {r:T} (hs:Sim w0 I0 st a ov w) (h:(kH E ops.toList draw K st).goes C J r)
  (hQ:∀st' a w,(K st').goes C J r->Sim w0 I0 st' a ov w->Q .normal a w):(Code.region id ops draw).wpIn (Rd ro) 0 P Q a w:=by
 unfold kH at h
 replace hs:=ww hs
 cases draw with
 | false =>
  simp only[cond_false]at h
  obtain⟨fin,h1,h⟩:=jE h
  refine wpIn_region ?_
  have hlen:(dE ops.toList).length=ops.size:=by
   have:∀l:List Oper,(dE l).length=l.length:=fun l=>by induction l with
    | nil=>rfl
    | cons o l ih=>simp[dE,ih]
   rw[this];simp
  have hget:∀(l:List Oper) (k:Nat),(dE l)[k]? = (l[k]?).map fun o=>⟨o,([],[]),false,[],[],0,false,false,[],[],[]⟩:=by
   intro l
   induction l with
   | nil=>intro k;simp[dE]
   | cons o l ih=>intro k;cases k with
    | zero=>rfl
    | succ k=>simp[dE,ih k]
  have:=pX (ro:=ro) hE (ops:=ops) (fin:=fin.nfS) (Q:=Q) (fun a w hs=>hQ fin a w h (eM hs)) (dE ops.toList) 0 st.nfS a w (fun j=>by rw[hget];simp;cases ops[j]? <;> rfl) h1 hs
  rw[hlen]at this
  rwa[List.range_eq_range']
 | true =>
  simp only[cond_true]at h
  cases hok:bB ops.toList with
  | false=>simp[hok,Prg.goes]at h
  | true =>
   simp only[hok,cond_true]at h
   obtain⟨fin,h1,h⟩:=jE h
   replace h1:=u9 (exQ E.T st ops.toList) ops.toList ops.toList 0 st.nfS fin.nfS (fun j=>by simp) h1
   refine wpIn_region_any hm ?_
   have hun:unlisted ops.size (Array.replicate ops.size false)=List.range ops.size:=by
    unfold unlisted
    rw[List.filter_eq_self]
    intro i hi
    have:i<ops.size:=by simpa using hi
    simp[this]
   have hs':Sim w0 I0 st.nfS a ov { w with drawn:=w.drawn+1 }:=by
    obtain⟨g,hs⟩:=hs
    exact⟨_,hs.grow (w':={ w with drawn:=w.drawn+1 }) (I':=g.I) (R':=NoR) ⟨rfl,rfl,rfl,Nat.le_refl _,fun _ _=>rfl⟩ (fun _ h=>h) hs.lt (fun _ _ h=>h) (fun _ h=>h.elim)⟩
   refine zL (ex:=exQ E.T st ops.toList) hE hok (fin:=fin.nfS) (fun a w hs=>hQ fin a w h (eM hs)) ops.size _ st.nfS a _ (by simp) (by rw[hun];simp) (fun k o hk hl=>?_) ?_ hs'
   ·have:k<ops.size:=(FV.1 hk).1
    simp[this]at hl
   ·rw[hun,List.range_eq_range']
    simpa using h1
end
end Go.Ab

import Derived.Calls
import Derived.Laws.Sem
import Derived.KernelRfl
set_option linter.all false
namespace Go.Ab
theorem FE {α : Type} {i : Nat} {a : α} {l : List α} : l[i]? = some a ↔ ∃ h : i < l.length, l[i] = a := List.getElem?_eq_some_iff
theorem FF {α : Type} {l : List α} {i : Nat} (h : i < l.length) : l[i]? = some l[i] := List.getElem?_eq_getElem h
theorem FG {α : Type} (a b : α) : (some a = some b) = (a = b) := Option.some.injEq a b
theorem FH (a b : Bool) : ((a && b) = true) = (a = true ∧ b = true) := Bool.and_eq_true a b
theorem FI {α : Type} {xs : Array α} {i : Nat} : xs.toList[i]? = xs[i]? := Array.getElem?_toList
theorem FJ {α : Type} {i : Nat} {b : α} {xs : Array α} : xs[i]? = some b ↔ ∃ h : i < xs.size, xs[i] = b := Array.getElem?_eq_some_iff
theorem FK {α : Type} {β : Type} {f : α → β} {l : List α} {i : Nat} : (List.map f l)[i]? = Option.map f l[i]? := List.getElem?_map
theorem FL {α : Type} {a : α} {l : List α} : a ∈ a :: l := List.mem_cons_self
theorem FM {α : Type} (y : α) {a : α} {l : List α} : a ∈ l → a ∈ y :: l := List.mem_cons_of_mem y
theorem FN {α : Type} {l : List α} {i : Nat} {a : α} : l[i]? = some a → a ∈ l := List.mem_of_getElem?
theorem FO {α : Type} {l m : List α} {i : Nat} : i < l.length → (l ++ m)[i]? = l[i]? := List.getElem?_append_left
theorem FP {α : Type} {l m : List α} {i : Nat} : l.length ≤ i → (l ++ m)[i]? = m[i - l.length]? := List.getElem?_append_right
theorem FQ {α : Type} {l : List α} {i : Nat} : l.length ≤ i → l[i]? = none := List.getElem?_eq_none
theorem FR {α : Type} {β : Type} (a : α) (f : α → β) : Option.map f (some a) = some (f a) := Option.map_some a f
theorem FS {α : Type} {l : List α} {i : Nat} {a : α} : l.getD i a = l[i]?.getD a := List.getD_eq_getElem?_getD
theorem FU {α : Type} {xs : Array α} {i : Nat} {d : α} : xs.getD i d = xs[i]?.getD d := Array.getD_eq_getD_getElem?
inductive TV where
 | lit (v:Value)
 | sl (own:Bool) (size:Nat) (xs:List (List TV))
 | agg (cs:List TV)
 | tup (vs:List TV)
 | buf (s:ByteArray) (e:Nat)
 | hole
abbrev Way:=List (Nat × Nat)
inductive CA where
 | t (x:TV)
 | ptr (i off:Nat)
 | ref (x:List TV) (off:Nat)
 | tptr (i r:Nat) (p:Way) (k j:Nat)
 | sref (i r:Nat) (p:Way)
 | swin (i r:Nat) (p:Way) (lo len:Nat)
 | may (i:Nat) (ty:TypeId)
 | aptr (i off len n:Nat)
 | yl (n:Nat)
 | ifp (t:TypeId) (i:Nat)
 | fn1 (f:FuncId) (i:Nat)
 | undef
 | junk
inductive AV where
 | one (c:CA)
 | agg (cs:List CA)
 | tv (x:TV)
 | tups (cs:List (Bool × List CA))
 | bl (b:Bool)
 | clo (f:FuncId) (cs:List CA)
inductive BC where
 | cells (cs:List CA)
 | tree (xs:List TV)
structure ASt where
 slots:List AV
 boxes:List (Option BC)
 out:List AV
inductive Kd where
 | bool | int (k:IntKind) | str | slice (e:TypeId) | struct | arr (n:Nat) (e:TypeId) | other | ptr
structure TyD where
 size:Nat
 bytes:Nat
 kd:Kd
 zero:List Value
 fields:List (Nat × TypeId)
def Kd.isAgg:Kd→Bool
 | .struct=>true
 | .arr _ _=>true
 | _=>false
abbrev Tab:=TypeId→Option TyD
def nth {α:Type} (d:α):List α→Nat→α
 | [],_=>d
 | a :: _,0=>a
 | _ :: l,n + 1=>nth d l n
def ao {α:Type}:List α→Nat→α→List α
 | [],_,_=>[]
 | _ :: l,0,b=>b :: l
 | a :: l,n + 1,b=>a :: ao l n b
def bN (n:Nat):List Nat→Bool
 | []=>false
 | a :: l=>bif a.beq n then true else bN n l
def tK:List (Nat × TyD)→Tab
 | [],_=>none
 | (k,d) :: r,t=>bif k.beq t then some d else tK r t
def cb {α:Type} (l:List α) (off:Nat):List α→List α
 | []=>l
 | a :: r=>cb (ao l off a) (off + 1) r
def lA {α:Type}:List α→Nat→Nat→Option (List α)
 | _,_,0=>some []
 | [],_,_ + 1=>none
 | a :: l,0,n + 1=>match lA l 0 n with
  | some r=>some (a :: r)
  | none=>none
 | _ :: l,o + 1,n + 1=>lA l o (n + 1)
def aV:Value:=.slice none 0 0
def TV.cell (x:TV) (j:Nat):TV:=match x with | .agg cs=>nth .hole cs j | _=>.hole
def TV.comp (x:TV) (j:Nat):TV:=match x with | .tup cs=>nth .hole cs j | _=>.hole
def TV.isAgg (x:TV) (n:Nat):Bool:=match x with | .agg cs=>cs.length.beq n | _=>false
def TV.isTup (x:TV) (n:Nat):Bool:=match x with | .tup cs=>cs.length.beq n | _=>false
def aW:Value→Bool
 | .slice none 0 0=>true
 | _=>false
def scV:Value→Bool
 | .slice _ _ _=>false
 | .agg _=>false
 | .tuple _=>false
 | _=>true
def TV.isSc (x:TV):Bool:=match x with | .lit v=>scV v | _=>false
def TV.isSl (x:TV):Bool:=match x with | .lit v=>aW v | .sl _ _ _=>true | _=>false
def TV.iC (x:TV):Bool:=match x with | .lit _=>true | .sl o _ _=>!o | _=>false
def TV.ip (x:TV):Bool:=match x with | .lit v=>v.oneCell' | .sl _ _ _=>true | _=>false
def TV.lf (x:TV):TV:=match x with | .lit v=>.lit v | _=>.hole
def lfL:List TV→List TV
 | []=>[]
 | x :: l=>x.lf :: lfL l
def lN:List (List TV)→List (List TV)
 | []=>[]
 | x :: l=>lfL x :: lN l
mutual
def frz:TV→TV
 | .lit v=>.lit v
 | .sl _ s xs=>.sl false s (s6 xs)
 | .agg cs=>.agg (ul cs)
 | .tup cs=>.tup (ul cs)
 | .buf _ _=>.hole
 | .hole=>.hole
def ul:List TV→List TV
 | []=>[]
 | x :: l=>frz x :: ul l
def s6:List (List TV)→List (List TV)
 | []=>[]
 | x :: l=>ul x :: s6 l
end
mutual
def cw:TV→Bool
 | .lit _=>true
 | .sl o _ xs=>o && mE xs
 | .agg cs=>gc cs
 | .tup cs=>gc cs
 | .buf _ _=>true
 | .hole=>true
def gc:List TV→Bool
 | []=>true
 | x :: l=>cw x && gc l
def mE:List (List TV)→Bool
 | []=>true
 | x :: l=>gc x && mE l
end
def asBool:TV→Option Bool
 | .lit (.bool b)=>some b
 | _=>none
def fnOf:TV→Option Nat
 | .lit (.func (.func f) ts fs)=>bif ts.size.beq 0 && fs.size.beq 0 then some f else none
 | _=>none
def ab:TV→Option Nat
 | .lit (.int _ n)=>if 0≤n∧n≤9223372036854775807 then some n.toNat else none
 | _=>none
def bp:Way→TV→Option TV
 | [],x=>some x
 | (k, j) :: p, .sl _ _ xs => match xs[k]? with
  | some e=>match e[j]? with
   | some y=>bp p y
   | none=>none
  | none=>none
 | _ :: _,_=>none
def jg : Way → TV → TV → Option TV
 | [],_,y=>some y
 | (k, j) :: p, .sl true s xs, y => match xs[k]? with
  | some e => match e[j]? with
   | some z=>match jg p z y with
    | some z'=>some (.sl true s (ao xs k (ao e j z')))
    | none=>none
   | none=>none
  | none=>none
 | _ :: _,_,_=>none
def pel (x:TV) (k:Nat):Option (List TV):=match x with | .sl _ _ xs=>xs[k]? | _=>none
def wZ (x:TV) (k j:Nat) (ys:List TV):Option TV :=
 match x with
 | .sl true s xs=>match xs[k]? with
  | some e=>some (.sl true s (ao xs k (cb e j ys)))
  | none=>none
 | _=>none
def dI (p:Way) (x:TV) (k j:Nat) (ys:List TV):Option TV :=
 match bp p x with
 | some s=>match wZ s k j ys with
  | some s'=>jg p x s'
  | none=>none
 | none=>none
def cV (lo len:Nat) (x:TV):Option TV :=
 match x with
 | .sl o s xs=>if lo + len≤xs.length then some (.sl o s ((xs.drop lo).take len)) else none
 | .lit (.slice none 0 0)=>if lo=0∧len=0 then some (.lit aV) else none
 | _=>none
def room:Nat:=4294967296
def CN (size:Nat) (xs:List (List TV)):TV:=match xs with | []=>.lit aV | x :: l=>.sl true size (x :: l)
def papp (size:Nat) (x:TV) (news:List (List TV)):Option TV :=
 match x with
 | .lit (.slice none 0 0)=>if news.length≤room then some (CN size news) else none
 | .sl true s xs=>if s=size∧xs.length + news.length≤room then some (.sl true s (xs ++ news)) else none
 | _=>none
def pcopy (size:Nat) (x:TV) (news:List (List TV)):Option TV :=
 match x with
 | .sl true s xs=>if s=size then some (.sl true s (news.take xs.length ++ xs.drop news.length)) else none
 | .lit (.slice none 0 0)=>some (.lit aV)
 | _=>none
def slLen (x:TV):Option Nat:=match x with | .sl _ _ xs=>some xs.length | .lit (.slice none 0 0)=>some 0 | _=>none
def slSize (x:TV) (size:Nat):Bool:=match x with | .sl _ s _=>s.beq size | .lit (.slice none 0 0)=>true | _=>false
def ae:List Value→List TV→Nat→Bool
 | [],_,_=>true
 | z :: zs,e,j=>match e[j]? with
  | some c=>(bif aW z then c.isSl else c.isSc) && ae zs e (j + 1)
  | none=>false
def TV.Ei (x:TV):Bool:=match x with | .hole=>true | _=>false
def eh:List Value→List TV→Nat→Bool
 | [],_,_=>true
 | z :: zs,e,j=>match e[j]? with
  | some c=>(bif aW z then c.isSl || c.Ei else c.isSc) && eh zs e (j + 1)
  | none=>false
def wC (op:BinOp) (k:IntKind) (a b:Int):Option TV :=
 match op with
 | .add=>some (.lit (.int k (k.wrap (a + b))))
 | .sub=>some (.lit (.int k (k.wrap (a - b))))
 | .mul=>some (.lit (.int k (k.wrap (a * b))))
 | .quo=>if b=0 then none else some (.lit (.int k (k.wrap (a.tdiv b))))
 | .rem=>if b=0 then none else some (.lit (.int k (a.tmod b)))
 | .eql=>some (.lit (.bool (a == b)))
 | .neq=>some (.lit (.bool (a != b)))
 | .lss=>some (.lit (.bool (decide (a < b))))
 | .leq=>some (.lit (.bool (decide (a≤b))))
 | .gtr=>some (.lit (.bool (decide (a > b))))
 | .geq=>some (.lit (.bool (decide (a ≥ b))))
 | .and=>some (.lit (.int k (k.wrap ((BitVec.ofInt k.bits a &&& BitVec.ofInt k.bits b).toNat))))
 | .or=>some (.lit (.int k (k.wrap ((BitVec.ofInt k.bits a ||| BitVec.ofInt k.bits b).toNat))))
 | _=>none
def yP (op:BinOp) (a b:ByteArray):Option TV :=
 match op with
 | .eql=>some (.lit (.bool (a.toList == b.toList)))
 | .neq=>some (.lit (.bool (!(a.toList == b.toList))))
 | .lss=>some (.lit (.bool (Op.bytesLess a.toList b.toList)))
 | .add=>if ((a.size + b.size:Nat):Int) > IntKind.i64.max then none else some (.lit (.string (a ++ b)))
 | _=>none
def zJ (op:BinOp) (b:Bool):Option TV :=
 match op with
 | .eql=>some (.lit (.bool b))
 | .neq=>some (.lit (.bool !b))
 | _=>none
def pbin (kd:Kd) (op:BinOp) (x y:TV):Option TV :=
 match kd,x,y with
 | .int _,.lit (.int k a),.lit (.int k' b)=>if k=k' then wC op k a b else none
 | .bool,.lit (.bool a),.lit (.bool b)=>zJ op (a == b)
 | .str,.lit (.string a),.lit (.string b)=>yP op a b
 | .slice _,.lit (.slice none _ _),.lit (.slice none _ _)=>zJ op true
 | .slice _,.sl _ _ _,.lit (.slice none _ _)=>zJ op false
 | _,_,_=>none
def pun (op:UnOp) (x:TV):Option TV :=
 match op,x with
 | .not,.lit (.bool b)=>some (.lit (.bool !b))
 | .neg,.lit (.int k n)=>some (.lit (.int k (k.wrap (0 - n))))
 | _,_=>none
def pconv (kd:Kd) (x:TV):Option TV :=
 match kd,x with
 | .int k,.lit (.int _ n)=>some (.lit (.int k (k.wrap n)))
 | .str,.lit (.string s)=>some (.lit (.string s))
 | .str,.lit (.int _ n)=>some (.lit (.string (Utf8.encode n)))
 | _,_=>none
def mB (d:TyD):Bool:=match d.kd,d.zero with
 | .int .u8,[.int .u8 0]=>d.size.beq 1 && d.bytes.beq 1
 | _,_=>false
def jS (s:ByteArray):List (List TV):=s.data.toList.map fun b=>[.lit (.int .u8 b.toNat)]
def pbytes (x:TV):Option (List (List TV)):=match x with | .lit (.string s)=>some (jS s) | _=>none
def oh:List (List TV)→Option (List Int)
 | []=>some []
 | [.lit (.int .u8 n)] :: l=>match oh l with
  | some r=>some (n :: r)
  | none=>none
 | _=>none
def FA (l:List Int):ByteArray:=l.foldl (fun r n=>r.push (UInt8.ofNat n.toNat)) ByteArray.empty
def Fy (rows:List (List TV)):Option TV:=match oh rows with | some l=>some (.lit (.string (FA l))) | none=>none
def plen (kd:Kd) (x:TV):Option TV :=
 match kd,x with
 | .slice _,.lit (.slice none 0 _)=>some (.lit (.int .i64 0))
 | .str,.lit (.string s)=>some (.lit (.int .i64 s.size))
 | .slice _,.sl _ _ xs=>some (.lit (.int .i64 xs.length))
 | _,_=>none
def pidx (size:Nat) (x i:TV):Option (List TV) :=
 match x,i with
 | .sl _ s xs,.lit (.int _ n)=>if s=size∧0≤n then xs[n.toNat]? else none
 | _,_=>none
def pslice (kd:Kd) (sz:Nat) (x:TV) (lo hi:Option Nat):Option TV :=
 match kd,x with
 | .slice _,.sl o s xs =>
  if s=sz∧lo.getD 0≤hi.getD xs.length∧hi.getD xs.length≤xs.length then some (.sl o s ((xs.drop (lo.getD 0)).take (hi.getD xs.length - lo.getD 0))) else none
 | .slice _,.lit (.slice none 0 0)=>if lo.getD 0=0∧hi.getD 0=0 then some (.lit aV) else none
 | .str,.lit (.string s) =>
  if lo.getD 0≤hi.getD s.size∧hi.getD s.size≤s.size then some (.lit (.string (s.extract (lo.getD 0) (hi.getD s.size)))) else none
 | _,_=>none
def pstr (x i:TV):Option TV :=
 match x,i with
 | .lit (.string s),.lit (.int _ n)=>if 0≤n then (s[n.toNat]?).map fun b=>.lit (.int .u8 b.toNat) else none
 | _,_=>none
def pelems (size:Nat):TV→Option (List (List TV))
 | .lit (.slice none 0 _)=>some []
 | .sl _ s xs=>if s=size then some xs else none
 | _=>none
inductive Prg (R:Type) where
 | fail
 | ret (r:R)
 | tv (p:Option TV) (k:TV→Prg R)
 | tvs (p:Option (List TV)) (k:List TV→Prg R)
 | rws (p:Option (List (List TV))) (k:List (List TV)→Prg R)
 | nat (p:Option Nat) (k:Nat→Prg R)
 | chk (b:Bool) (k:Prg R)
 | ite (b:Option Bool) (t e:Prg R)
 | call (f:FuncId) (xs:List TV) (k:TV→Prg R)
 | jmp (p:List Nat) (st:ASt)
def Prg.bind {R S:Type} (f:R→Prg S):Prg R→Prg S
 | .fail=>.fail
 | .ret r=>f r
 | .tv p k=>.tv p fun v=>(k v).bind f
 | .tvs p k=>.tvs p fun v=>(k v).bind f
 | .rws p k=>.rws p fun v=>(k v).bind f
 | .nat p k=>.nat p fun v=>(k v).bind f
 | .chk b k=>.chk b (k.bind f)
 | .ite b t e=>.ite b (t.bind f) (e.bind f)
 | .call g xs k=>.call g xs fun v=>(k v).bind f
 | .jmp _ _=>.fail
def Prg.run {R:Type} (C:FuncId→List TV→Option TV) (J:List Nat→ASt→Option R):Prg R→Option R
 | .fail=>none
 | .ret r=>some r
 | .tv p k=>p.bind fun v=>(k v).run C J
 | .tvs p k=>p.bind fun v=>(k v).run C J
 | .rws p k=>p.bind fun v=>(k v).run C J
 | .nat p k=>p.bind fun v=>(k v).run C J
 | .chk b k=>bif b then k.run C J else none
 | .ite b t e=>b.bind fun b=>bif b then t.run C J else e.run C J
 | .call f xs k=>(C f xs).bind fun v=>(k v).run C J
 | .jmp p st=>J p st
inductive Prim where
 | drop (i r:Nat) (js:List Nat) (strict:Bool)
 | root (i r:Nat) (x:TV)
 | frz (i r:Nat)
 | unmay (i:Nat)
 | newB (b:BC)
 | setB (i:Nat) (cs:List CA)
inductive Eff where
 | val (v:AV)
 | new (b:BC) (v:AV)
 | upd (i:Nat) (b:BC) (v:AV)
 | gen (ps:List Prim) (v:AV)
abbrev Out:=Prg Eff
def ASt.ev (st:ASt):Operand→AV
 | .tmp t=>nth (.one .junk) st.slots t
 | .const (.bool b)=>.bl b
 | .const v=>bif v.oneCell' then .one (.t (.lit v)) else .tv (.lit v)
 | .global g=>.tv (.lit (.pointer (some ⟨g,0,none⟩)))
 | .func f=>.tv (.lit (.func (.func f) #[] #[]))
def AV.tv? : AV→Option TV
 | .one (.t x)=>some x
 | .tv x=>some x
 | .bl b=>some (.lit (.bool b))
 | _=>none
abbrev Look:=Nat→Option BC
def CA.kept:CA→Bool
 | .undef=>false
 | .junk=>false
 | _=>true
def AV.aX {R:Type} (agg:Bool) (n:Nat) (v:AV) (k:List CA→Prg R):Prg R :=
 match agg,v with
 | false,.one c=>bif c.kept then k [c] else .fail
 | false,.tv x=>.chk x.ip (k [.t x])
 | false,.bl b=>k [.t (.lit (.bool b))]
 | false,.clo f [.ptr i 0]=>k [.fn1 f i]
 | true,.agg cs=>bif cs.length.beq n then k cs else .fail
 | true,.tv x=>.chk (x.isAgg n) (k ((List.range n).map fun j=>.t (x.cell j)))
 | _,_=>.fail
def kT {R:Type}:List AV→(List CA→Prg R)→Prg R
 | [],k=>k []
 | v :: l,k=>v.aX false 1 fun cs=>kT l fun cs'=>k (cs ++ cs')
def cM (agg:Bool):List CA→Option AV
 | []=>bif agg then some (.agg []) else none
 | c :: cs=>bif agg then some (.agg (c :: cs)) else (match cs with | []=>some (.one c) | _=>none)
def nI {R:Type} (p:Way) (x:TV) (k:TV→Prg R):Prg R :=
 match p with
 | []=>k x
 | _=>.tv (bp p x) k
def yz {R:Type} (p:Way) (x y:TV) (k:TV→Prg R):Prg R :=
 match p with
 | []=>k y
 | _=>.tv (jg p x y) k
def bG (look:Look) (i r:Nat):Option TV :=
 match look i with
 | some (.tree xs)=>bif r.blt xs.length then some (nth .hole xs r) else none
 | _=>none
def i7 {R:Type} (look:Look) (c:CA) (k:TV→Prg R):Prg R :=
 match c with
 | .t x=>k x
 | .sref i r p=>match bG look i r with
  | some x=>nI p x k
  | none=>.fail
 | .swin i r p lo len=>match bG look i r with
  | some x=>nI p x fun y=>.tv (cV lo len y) k
  | none=>.fail
 | _=>.fail
def uq {R:Type} (look:Look) (v:AV) (k:TV→Prg R):Prg R :=
 match v with
 | .one c=>i7 look c k
 | .tv x=>k x
 | .bl b=>k (.lit (.bool b))
 | _=>.fail
def uc {R:Type} (look:Look) (c:CA) (k:TV→Prg R):Prg R :=
 match c with
 | .t x=>k x
 | .sref i r p=>i7 look (.sref i r p) fun x=>k (frz x)
 | .swin i r p lo len=>i7 look (.swin i r p lo len) fun x=>k (frz x)
 | _=>.fail
def Ap {R:Type} (look:Look):List CA→(List TV→Prg R)→Prg R
 | [],k=>k []
 | c :: l,k=>uc look c fun x=>Ap look l fun xs=>k (x :: xs)
def sL {R:Type} (look:Look) (v:AV) (k:TV→Prg R):Prg R :=
 match v with
 | .one c=>uc look c k
 | .tv x=>k x
 | .agg cs=>Ap look cs fun xs=>k (.agg xs)
 | .tups _=>.fail
 | .clo _ _=>.fail
 | .bl b=>k (.lit (.bool b))
def lends {R:Type} (look:Look):List AV→(List TV→Prg R)→Prg R
 | [],k=>k []
 | v :: l,k=>sL look v fun x=>lends look l fun xs=>k (x :: xs)
def tI {R:Type} (look:Look) (c:CA) (k:TV→List (Nat × Nat)→Prg R):Prg R :=
 match c with
 | .t x=>k x []
 | .sref i r p => match bG look i r with
  | some x=>(match p with
   | []=>k (frz x) [(i,r)]
   | _=>.tv (bp p x) fun y=>.chk y.iC (k y []))
  | none=>.fail
 | .swin i r p lo len => match bG look i r with
  | some x=>(match p with
   | []=>.tv (cV lo len x) fun y=>k (frz y) [(i,r)]
   | _=>.tv (bp p x) fun z=>.tv (cV lo len z) fun y=>.chk y.iC (k y []))
  | none=>.fail
 | _=>.fail
def AC {R:Type} (look:Look):List CA→(List TV→List (Nat × Nat)→Prg R)→Prg R
 | [],k=>k [] []
 | c :: l,k=>tI look c fun x r=>AC look l fun xs rs=>k (x :: xs) (r ++ rs)
def th {R:Type} (look:Look) (v:AV) (k:TV→List (Nat × Nat)→Prg R):Prg R :=
 match v with
 | .one c=>tI look c k
 | .tv x=>k x []
 | .agg cs=>AC look cs fun xs rs=>k (.agg xs) rs
 | .tups _=>.fail
 | .clo _ _=>.fail
 | .bl b=>k (.lit (.bool b)) []
def hands {R:Type} (look:Look):List AV→(List TV→List (Nat × Nat)→Prg R)→Prg R
 | [],k=>k [] []
 | v :: l,k=>th look v fun x r=>hands look l fun xs rs=>k (x :: xs) (r ++ rs)
def vc:List (Nat × Nat)→List Prim
 | []=>[]
 | (i,r) :: l=>.frz i r :: vc l
inductive Fl where
 | sc | sl | may | bf (e:Nat) | any
structure fL where
 ty:TypeId
 fl:List Fl
structure Env where
 T:Tab
 pure:FuncId→Bool
 rts:FuncId→List TypeId
 lent:FuncId→Option fL
 selfT:TypeId→Bool
 peek:FuncId→Option (Nat × Nat)
 turn:FuncId→Bool
 eye:FuncId→Bool
 cold:TypeId→Bool
def CA.add:CA→Nat→Option CA
 | .ptr i off,n=>some (.ptr i (off + n))
 | .ref x off,n=>some (.ref x (off + n))
 | .tptr i r p k j,n=>some (.tptr i r p k (j + n))
 | _,_=>none
def bT {R:Type} (at_:Nat→Option (Nat × Bool × Nat)):List Nat→List AV→List CA→(List CA→Prg R)→Prg R
 | [],[],cs,k=>k cs
 | i :: is,x :: rest,cs,k=>match at_ i with
  | some (off,agg,n)=>x.aX agg n fun ps=>bif (off + ps.length).ble cs.length && ps.length.beq n then bT at_ is rest (cb cs off ps) k else .fail
  | none=>.fail
 | _,_,_,_=>.fail
def places (T:Tab) (d:TyD) (i:Nat):Option (Nat × Bool × Nat) :=
 match d.kd with
 | .struct => match d.fields[i]? with
  | some (off,ty)=>match T ty with
   | some e=>some (off,e.kd.isAgg,e.size)
   | none=>none
  | none=>none
 | .arr _ e=>match T e with
  | some e=>some (i * e.size,e.kd.isAgg,e.size)
  | none=>none
 | _=>none
def chunks {α:Type} (size:Nat):Nat→List α→List (List α)
 | 0,_=>[]
 | n + 1,l=>l.take size :: chunks size n (l.drop size)
def vt (x:TV):Out:=.ret (.val (.one (.t x)))
def kD:TV→Bool
 | .lit (.slice none 0 0)=>true
 | _=>false
def aG:Way→List Nat
 | []=>[]
 | (_,j) :: p=>j :: aG p
def gX:List Value→Bool
 | []=>false
 | z :: l=>bif aW z then true else gX l
def cF {R:Type} (look:Look):List CA→(List TV→List Prim→List (Nat × Nat)→Prg R)→Prg R
 | [],k=>k [] [] []
 | .t x :: l,k=>cF look l fun xs ps ts=>k (x :: xs) ps ts
 | .sref i r p :: l, k => match bG look i r with
  | some x=>(match p with
   | []=>cF look l fun xs ps ts=>k (x :: xs) (.drop i r [] false :: .root i r .hole :: ps) ((i,r) :: ts)
   | _=>.tv (bp p x) fun y=>.chk y.iC (cF look l fun xs ps ts=>k (y :: xs) ps ts))
  | none=>.fail
 | .swin i r p lo len :: l, k => match bG look i r with
  | some x=>(match p with
   | []=>.tv (cV lo len x) fun y=>cF look l fun xs ps ts=>k (y :: xs) (.drop i r [] false :: .root i r .hole :: ps) ((i,r) :: ts)
   | _=>.tv (bp p x) fun z=>.tv (cV lo len z) fun y=>.chk y.iC (cF look l fun xs ps ts=>k (y :: xs) ps ts))
  | none=>.fail
 | _,_=>.fail
def frB (y:TV):Option Bool:=some y.iC
def cg {R:Type} (look:Look):List CA→(List TV→List Prim→List (Nat × Nat)→Prg R)→Prg R
 | [],k=>k [] [] []
 | .t x :: l,k=>cg look l fun xs ps ts=>k (x :: xs) ps ts
 | .sref i r p :: l, k => match bG look i r with
  | some x=>(match p with
   | []=>cg look l fun xs ps ts=>k (x :: xs) (.drop i r [] false :: .root i r .hole :: ps) ((i,r) :: ts)
   | _ => .tv (bp p x) fun y => .ite (frB y) (cg look l fun xs ps ts => k (y :: xs) ps ts)
     (.tv (jg p x .hole) fun x'=>cg look l fun xs ps ts=>k (y :: xs) (.drop i r (aG p) false :: .root i r x' :: ps) ((i,r) :: ts)))
  | none=>.fail
 | .swin i r p lo len :: l, k => match bG look i r with
  | some x=>(match p with
   | []=>.tv (cV lo len x) fun y=>cg look l fun xs ps ts=>k (y :: xs) (.drop i r [] false :: .root i r .hole :: ps) ((i,r) :: ts)
   | _=>.tv (bp p x) fun z=>.tv (cV lo len z) fun y=>.chk y.iC (cg look l fun xs ps ts=>k (y :: xs) ps ts))
  | none=>.fail
 | _,_=>.fail
def gS (i r:Nat):List (Nat × Nat)→Bool
 | []=>false
 | (a,b) :: l=>bif a.beq i && b.beq r then true else gS i r l
def df:List (Nat × Nat)→Bool
 | []=>true
 | (a,b) :: l=>!gS a b l && df l
def xf (i:Nat):List (Nat × Nat)→Bool
 | []=>true
 | (a,_) :: l=>bif a.beq i then false else xf i l
def qb (i:Nat):Option Nat→Bool
 | some j=>i.beq j
 | none=>false
def yo {R : Type} (look : Look) (d : TyD) (dest : Option Nat) (x : AV) (k : List (List TV) → List Prim → Prg R) : Prg R :=
 match x.tv? with
 | some x=>.rws (pelems d.size x) fun xs=>k xs []
 | none => match x with
  | .one c => bif gX d.zero then
    (match c with
    | .sref i r p => match bG look i r with
     | some x=>(match p with
      | []=>bif qb i dest then .fail else .rws (pelems d.size x) fun xs=>k xs [.drop i r [] false,.root i r .hole]
      | _=>.tv (bp p x) fun y=>.chk y.iC (.rws (pelems d.size y) fun xs=>k xs []))
     | none=>.fail
    | .swin i r p lo len => match bG look i r with
     | some x=>(match p with
      | []=>bif qb i dest then .fail else .tv (cV lo len x) fun y=>.rws (pelems d.size y) fun xs=>k xs [.drop i r [] false,.root i r .hole]
      | _=>.tv (bp p x) fun z=>.tv (cV lo len z) fun y=>.chk y.iC (.rws (pelems d.size y) fun xs=>k xs []))
     | none=>.fail
    | _=>.fail)
   else i7 look c fun s=>.rws (pelems d.size s) fun xs=>k (lN xs) []
  | _=>.fail
def zN (look:Look) (kd:Kd) (x:AV):Out :=
 match kd with
 | .arr n _=>vt (.lit (.int .i64 n))
 | kd=>uq look x fun s=>.tv (plen kd s) vt
def cO (ps:List Prim) (b:BC) (v:AV):Eff:=match ps with | []=>.new b v | _=>.gen (ps ++ [.newB b]) v
def sG:AV→Option Nat
 | .one (.sref i _ _)=>some i
 | .one (.swin i _ _ _ _)=>some i
 | _=>none
def mZ (id : Nat) (look : Look) (d : TyD) (s : AV) (news : List (List TV)) (ps : List Prim) : Out :=
 match s.tv? with
 | some s=>bif kD s then .tv (papp d.size s news) fun y=>.ret (cO ps (.tree [y]) (.one (.sref id 0 []))) else .fail
 | none => match s with
  | .one (.sref i r p) => match bG look i r with
   | some x=>(match p with
    | []=>.tv (papp d.size x news) fun y=>.ret (.gen (ps ++ [.drop i r [] false,.root i r y]) (.one (.sref i r [])))
    | _=>.tv (bp p x) fun z=>.tv (papp d.size z news) fun y=>.tv (jg p x .hole) fun x'=>.ret (.gen (ps ++ [.drop i r (aG p) false,.root i r x',.newB (.tree [y])]) (.one (.sref id 0 []))))
   | none=>.fail
  | .one (.swin i r p lo len) => match bG look i r with
   | some x=>(match p with
    | []=>.tv (cV lo len x) fun z=>.tv (papp d.size z news) fun y=>.ret (.gen (ps ++ [.drop i r [] false,.root i r y]) (.one (.sref i r [])))
    | _=>.tv (bp p x) fun z0=>.tv (cV lo len z0) fun z=>.tv (papp d.size z news) fun y=>.tv (jg p x .hole) fun x'=>.ret (.gen (ps ++ [.drop i r (aG p) false,.root i r x',.newB (.tree [y])]) (.one (.sref id 0 []))))
   | none=>.fail
  | _=>.fail
def pd (id:Nat) (look:Look) (d:TyD) (s x:AV):Out :=
 bif d.bytes.ble 4096 && Nat.blt 0 d.size then yo look d (sG s) x fun news ps=>mZ id look d s news ps else .fail
def mb (id:Nat) (look:Look) (d:TyD) (s x:AV):Out :=
 bif mB d then (match x.tv? with
  | some x=>.rws (pbytes x) fun news=>mZ id look d s news []
  | none=>.fail) else .fail
def zS (look : Look) (d : TyD) (s x : AV) : Out :=
 yo look d (sG s) x fun news ps =>
 match s with
 | .one (.sref i r p)=>match bG look i r with
  | some x => nI p x fun z => .tv (pcopy d.size z news) fun y => yz p x y fun x' => .nat (slLen z) fun n =>
    .ret (.gen (ps ++ [.drop i r (aG p) true,.root i r x']) (.one (.t (.lit (.int .i64 (Nat.min news.length n))))))
  | none=>.fail
 | _=>.fail
def pclear (size:Nat) (z:List TV) (lo len:Nat) (x:TV):Option TV :=
 match x with
 | .sl true s xs=>if s=size∧lo + len≤xs.length then some (.sl true s (xs.take lo ++ (List.replicate len z ++ xs.drop (lo + len)))) else none
 | .lit (.slice none 0 0)=>if len=0 then some (.lit aV) else none
 | _=>none
def vZ (look:Look) (d:TyD) (s:AV):Out :=
 bif Nat.blt 0 d.size then (match s with
 | .one (.swin i r p lo len)=>match bG look i r with
  | some x=>nI p x fun z=>.tv (pclear d.size (d.zero.map .lit) lo len z) fun y=>yz p x y fun x'=>.ret (.gen [.drop i r (aG p) true,.root i r x'] (.tups []))
  | none=>.fail
 | _=>.fail) else .fail
def gH (T:Tab) (t:TypeId):Option (TypeId × TyD) :=
 match T t with
 | some ⟨_,_,.slice e,_,_⟩=>match T e with
  | some d=>some (e,d)
  | none=>none
 | _=>none
def pmin (mx:Bool) (x y:TV):Option TV :=
 match x,y with
 | .lit (.int k a),.lit (.int _ b)=>some (.lit (.int k (bif mx then (if b > a then b else a) else (if b < a then b else a))))
 | _,_=>none
def yD (mx:Bool) (x y:AV):Out :=
 match x.tv?,y.tv? with
 | some x,some y=>.tv (pmin mx x y) vt
 | _,_=>.fail
def eN (E:Env) (id:Nat) (look:Look) (b:Builtin) (tys:List TypeId) (args:List AV):Out :=
 match b,args,tys with
 | .len,[x],[ty]=>match E.T ty with
  | some d=>zN look d.kd x
  | none=>.fail
 | .append, [s, x], [ty, ty'] => match gH E.T ty with
  | some (_,d)=>bif ty.beq ty' then pd id look d s x else (match E.T ty' with
   | some ⟨_,_,.str,_,_⟩=>mb id look d s x
   | _=>.fail)
  | none=>.fail
 | .copy,[s,x],[ty,ty']=>match gH E.T ty with
  | some (_,d)=>bif ty.beq ty' then zS look d s x else .fail
  | none=>.fail
 | .clear,[s],[ty]=>match gH E.T ty with
  | some (_,d)=>vZ look d s
  | none=>.fail
 | .min,[x,y],_=>yD false x y
 | .max,[x,y],_=>yD true x y
 | _,_,_=>.fail
def ef:List CA→Option (List TV)
 | []=>some []
 | .t x :: l=>match ef l with
  | some r=>some (x :: r)
  | none=>none
 | _=>none
def gh {R:Type} (v:Option AV) (k:Option Nat→Prg R):Prg R :=
 match v with
 | none=>k none
 | some v=>match v.tv? with
  | some x=>.nat (ab x) fun n=>k (some n)
  | none=>.fail
def kB (d:TyD) (x:List TV) (off:Nat):Out :=
 bif d.kd.isAgg then .chk ((off + d.size).ble x.length) (.ret (.val (.agg ((List.range d.size).map fun j=>.t (nth .hole x (off + j))))))
 else .chk (off.blt x.length) (vt (nth .hole x off))
def gN (i r:Nat) (p:Way) (k:Nat) (e:List TV):List Value→Nat→List CA
 | [],_=>[]
 | z :: zs,j=>(bif aW z then .sref i r (p ++ [(k,j)]) else .t (nth .hole e j)) :: gN i r p k e zs (j + 1)
def pnth (n:Nat) (xs:List TV):Option TV:=xs[n]?
def ET (n j:Nat) (y x:TV):TV:=bif n.beq j then y else x
def iq (n:Nat) (y:TV):Nat→List TV→List CA
 | _,[]=>[]
 | j,x :: l=>.t (ET n j y x) :: iq n y (j + 1) l
def wN (look:Look) (i off len:Nat):Option (List CA × List TV) :=
 match look i with
 | some (.cells cs) => match lA cs off len with
  | some cs1=>match ef cs1 with
   | some xs=>some (cs,xs)
   | none=>none
  | none=>none
 | _=>none
def Ae (look : Look) (d : TyD) (a : AV) : Out :=
 match a with
 | .one (.aptr i off len n)=>bif d.kd.isAgg then .fail else (match wN look i off len with
  | some (_,xs)=>.tv (pnth n xs) vt
  | none=>.fail)
 | .one (.ptr i off) => match look i with
  | some (.cells cs) => match lA cs off (bif d.kd.isAgg then d.size else 1) with
   | some cs=>match cM d.kd.isAgg cs with
    | some v=>.ret (.val v)
    | none=>.fail
   | none=>.fail
  | _=>.fail
 | .one (.ref x off)=>kB d x off
 | .one (.tptr i r p k j) => match bG look i r with
  | some x=>nI p x fun s=>.tvs (pel s k) fun e=>.chk (ae d.zero e j) (match cM d.kd.isAgg (gN i r p k e d.zero j) with
   | some v=>.ret (.val v)
   | none=>.fail)
  | none=>.fail
 | _=>.fail
def kS (i r:Nat) (js:List Nat):List Value→Nat→List Prim
 | [],_=>[]
 | z :: zs,j=>bif aW z then .drop i r (js ++ [j]) false :: kS i r js zs (j + 1) else kS i r js zs (j + 1)
def cf (look:Look) (i r:Nat) (x:TV):Option BC :=
 match look i with
 | some (.tree xs)=>some (.tree (ao xs r x))
 | _=>none
def vN (look : Look) (d : TyD) (a x : AV) : Out :=
 match a with
 | .one (.aptr i off len n) => bif d.kd.isAgg then .fail else (match wN look i off len with
  | some (cs,xs)=>x.aX false 1 fun ps=>(match ps with
   | [.t y]=>.ret (.upd i (.cells (cb cs off (iq n y 0 xs))) (.one .undef))
   | _=>.fail)
  | none=>.fail)
 | .one (.ptr i off)=>x.aX d.kd.isAgg d.size fun ps=>match look i with
  | some (.cells cs)=>bif (off + ps.length).ble cs.length && ps.length.beq d.size then .ret (.upd i (.cells (cb cs off ps)) (.one .undef)) else .fail
  | _=>.fail
 | .one (.tptr i r p k j) => x.aX d.kd.isAgg d.size fun ps => match bG look i r with
  | some x => bif !(Nat.blt 0 d.size) then .fail else bif gX d.zero then
    cF look ps fun ys qs ts=>bif df ts && xf i ts && ys.length.beq d.size then
     nI p x fun s=>.tvs (pel s k) fun e=>.chk (eh d.zero e j && ae d.zero ys 0) (.tv (dI p x k j ys) fun x' =>
      .ret (.gen (qs ++ kS i r (aG p) d.zero j ++ [.root i r x']) (.one .undef))) else .fail
   else cF look ps fun ys qs _=>(match qs with
    | []=>bif ys.length.beq d.size then nI p x fun s=>.tvs (pel s k) fun e=>.chk (ae d.zero e j) (.tv (dI p x k j ys) fun x'=>(match cf look i r x' with
     | some b=>.ret (.upd i b (.one .undef))
     | none=>.fail)) else .fail
    | _=>.fail)
  | none=>.fail
 | _=>.fail
def Kd.A4:Kd→Bool
 | .slice _=>true
 | _=>false
def Eo (look:Look) (kd:Kd) (op:BinOp) (x y:AV):Out :=
 bif kd.A4 then uq look x fun x=>uq look y fun y=>.tv (pbin kd op x y) vt
 else match x.tv?,y.tv? with
 | some x,some y=>.tv (pbin kd op x y) vt
 | _,_=>.fail
def nT (k:IntKind):List TV→Option (List Int)
 | []=>some []
 | .lit (.int k' n) :: l=>if k=k' then (match nT k l with
  | some r=>some (n :: r)
  | none=>none) else none
 | _=>none
def peqL (k:IntKind) (op:BinOp) (xs ys:List TV):Option TV :=
 match nT k xs,nT k ys with
 | some a,some b=>zJ op (a == b)
 | _,_=>none
def vv:AV→Option Bool
 | .one (.ptr _ _)=>some true
 | .one (.ref _ _)=>some true
 | .one (.tptr _ _ _ _ _)=>some true
 | .one (.aptr _ _ _ _)=>some true
 | .one (.t (.lit (.pointer none)))=>some false
 | .tv (.lit (.pointer none))=>some false
 | _=>none
def EY (op:BinOp) (x y:AV):Out :=
 match op,vv x,vv y with
 | .eql,some a,some false=>.ret (.val (.bl !a))
 | .neq,some a,some false=>.ret (.val (.bl a))
 | _,_,_=>.fail
def E2 (T:Tab) (look:Look) (kd:Kd) (op:BinOp) (x y:AV):Out :=
 match kd with
 | .arr len e => match T e with
  | some ⟨1,_,.int k,_,_⟩=>x.aX true len fun cs=>y.aX true len fun cs'=>(match ef cs,ef cs' with
   | some xs,some ys=>.tv (peqL k op xs ys) vt
   | _,_=>.fail)
  | _=>.fail
 | .ptr=>EY op x y
 | kd=>Eo look kd op x y
def jf (look : Look) (kd : Kd) (sz : Nat) (x : AV) (lo hi : Option AV) : Out :=
 match x.tv? with
 | some x=>gh lo fun lo=>gh hi fun hi=>.tv (pslice kd sz x lo hi) vt
 | none => match kd, x with
  | .slice _, .one (.sref i r p) => i7 look (.sref i r p) fun s => .nat (slLen s) fun n => gh lo fun lo => gh hi fun hi =>
    .chk (slSize s sz && (lo.getD 0).ble (hi.getD n) && (hi.getD n).ble n) (.ret (.val (.one (.swin i r p (lo.getD 0) (hi.getD n - lo.getD 0)))))
  | .slice _, .one (.swin i r p lo0 n) => match lo with
   | none=>i7 look (.sref i r p) fun s=>gh hi fun hi=>.chk (slSize s sz && (hi.getD n).ble n) (.ret (.val (.one (.swin i r p lo0 (hi.getD n)))))
   | some _=>i7 look (.sref i r p) fun s=>gh lo fun lo=>gh hi fun hi =>
    .chk (lo0.beq 0 && slSize s sz && (lo.getD 0).ble (hi.getD n) && (hi.getD n).ble n) (.ret (.val (.one (.swin i r p (lo.getD 0) (hi.getD n - lo.getD 0)))))
  | _,_=>.fail
def qh (look:Look) (d:TyD) (x i:AV):Out :=
 match i.tv? with
 | some i => match x.tv? with
  | some x=>.tvs (pidx d.size x i) fun el=>.ret (.val (.one (.ref el 0)))
  | none=>match x with
   | .one (.sref b r p)=>i7 look (.sref b r p) fun s=>.nat (slLen s) fun n=>.nat (ab i) fun k=>.chk (slSize s d.size && k.blt n) (.ret (.val (.one (.tptr b r p k 0))))
   | .one (.swin b r p lo n)=>i7 look (.sref b r p) fun s=>.nat (ab i) fun k=>.chk (slSize s d.size && k.blt n) (.ret (.val (.one (.tptr b r p (lo + k) 0))))
   | _=>.fail
 | none=>.fail
def rn (T:Tab) (t:TypeId) (x i:AV):Out :=
 match T t with
 | some ⟨_,_,.arr len e,_,_⟩=>match T e,x,i.tv? with
  | some d,.one (.ptr b off),some i=>bif !d.kd.isAgg && d.size.beq 1 then .nat (ab i) fun k=>.chk (k.blt len) (.ret (.val (.one (.aptr b off len k)))) else .fail
  | _,_,_=>.fail
 | _=>.fail
def rk (T:Tab) (t:TypeId) (x i:AV):Out :=
 match T t with
 | some ⟨_, _, .arr len e, _, _⟩ => match T e, x, i.tv? with
  | some d,.agg cs,some i=>bif !d.kd.isAgg && d.size.beq 1 then (match ef cs with
   | some xs=>.nat (ab i) fun k=>.chk (k.blt len) (.tv (pnth k xs) vt)
   | none=>.fail) else .fail
  | _,_,_=>.fail
 | _=>.fail
def ww (d:TyD) (off:Nat) (agg:Bool) (n:Nat) (x:AV):Out :=
 match x with
 | .agg cs => match lA cs off (bif agg then n else 1) with
  | some cs=>match cM agg cs with
   | some v=>.ret (.val v)
   | none=>.fail
  | none=>.fail
 | .tv x => .chk (x.isAgg d.size && (off + n).ble d.size && Nat.blt 0 n)
   (.ret (.val (bif agg then .agg ((List.range n).map fun j=>.t (x.cell (off + j))) else .one (.t (x.cell off)))))
 | _=>.fail
def lH (T:Tab):Kd→Bool
 | .struct=>true
 | .arr _ e=>(T e).isSome
 | _=>false
def rh (T:Tab):Kd→Option Nat
 | .slice e=>match T e with
  | some d=>some d.size
  | none=>none
 | _=>some 0
def TV.cellsL (agg:Bool) (x:TV):List TV:=match agg,x with
 | true,.agg cs=>cs
 | true,_=>[]
 | false,x=>[x]
def eF (id r0:Nat):List Value→TV→Bool→Nat→List CA
 | [],_,_,_=>[]
 | z :: zs,x,agg,j=>(bif aW z then .sref id (r0 + j) [] else .t (bif agg then x.cell j else x)) :: eF id r0 zs x agg (j + 1)
def dJ:List Value→TV→Bool→Nat→List TV
 | [],_,_,_=>[]
 | z :: zs,x,agg,j=>(bif aW z then (bif agg then x.cell j else x) else .hole) :: dJ zs x agg (j + 1)
def jI {R:Type} (d:TyD) (x:TV) (k:Prg R):Prg R :=
 bif d.kd.isAgg then .chk (x.isAgg d.size && ae d.zero (x.cellsL true) 0) k else .chk (ae d.zero (x.cellsL false) 0) k
def lS (T:Tab):List TypeId→Option (List TyD)
 | []=>some []
 | t :: l=>match T t,lS T l with
  | some d,some ds=>some (d :: ds)
  | _,_=>none
def gQ {R:Type} (x:TV):List TyD→Nat→Prg R→Prg R
 | [],_,k=>k
 | d :: l,j,k=>jI d (x.comp j) (gQ x l (j + 1) k)
def dV (id:Nat) (x:TV):List TyD→Nat→Nat→List (Bool × List CA)
 | [],_,_=>[]
 | d :: l,j,r0=>(d.kd.isAgg,eF id r0 d.zero (x.comp j) d.kd.isAgg 0) :: dV id x l (j + 1) (r0 + d.zero.length)
def bo (x:TV):List TyD→Nat→List TV
 | [],_=>[]
 | d :: l,j=>dJ d.zero (x.comp j) d.kd.isAgg 0 ++ bo x l (j + 1)
def ij:List TyD→Bool
 | []=>false
 | d :: l=>bif gX d.zero then true else ij l
def ui (id:Nat) (ds:List TyD) (v:TV) (ps:List Prim):Out :=
 match ds with
 | [d]=>jI d v (match cM d.kd.isAgg (eF id 0 d.zero v d.kd.isAgg 0) with
  | some av=>bif gX d.zero then .ret (cO ps (.tree (dJ d.zero v d.kd.isAgg 0)) av) else .ret (match ps with | []=>.val av | _=>.gen ps av)
  | none=>.fail)
 | ds => .chk (v.isTup ds.length) (gQ v ds 0 (bif ij ds then .ret (cO ps (.tree (bo v ds 0)) (.tups (dV id v ds 0 0)))
   else .ret (match ps with | []=>.val (.tups (dV id v ds 0 0)) | _=>.gen ps (.tups (dV id v ds 0 0)))))
def TV.yH (x:TV) (e:Nat):Bool:=match x with | .buf _ e'=>e'.beq e | _=>false
def TV.eZ (x:TV):Bool:=match x with | .tup []=>true | _=>false
def EA:TV:=.tup []
def ol:List Fl→List TV→Bool
 | [],[]=>true
 | f :: fl,x :: xs=>(match f with | .sc=>x.isSc | .sl=>x.isSl | .may=>x.eZ | .bf e=>x.yH e | .any=>x.iC) && ol fl xs
 | _,_=>false
def gq (i t:Nat) (ty:TypeId):List Fl→List TV→Nat→List CA
 | f :: fl,x :: xs,r=>(match f with | .sc=>.t x | .sl=>.sref t r [] | .may=>.may i ty | .bf _=>.sref t r [] | .any=>.t x) :: gq i t ty fl xs (r + 1)
 | _,_,_=>[]
def cW:List Fl→List TV→List TV
 | f :: fl,x :: xs=>(match f with | .sl=>x | .bf _=>x | _=>.hole) :: cW fl xs
 | _,_=>[]
def lk (self:Bool) (id:Nat) (e:TypeId) (zs:List Value):List CA :=
 match self,zs with
 | true,.pointer none :: l=>.may id e :: l.map fun v=>.t (.lit v)
 | _,zs=>zs.map fun v=>.t (.lit v)
def CA.FC:CA→CA
 | .may _ _=>.t .hole
 | c=>c
def unMays:List CA→List CA
 | []=>[]
 | c :: l=>c.FC :: unMays l
def nO (i:Nat) (ty:TypeId):List Fl→List CA→Bool
 | [],[]=>true
 | f :: fl,c :: cs=>(match f,c with | .may,.may j t=>j.beq i && t.beq ty | .may,_=>false | _,.may _ _=>false | _,_=>true) && nO i ty fl cs
 | _,_=>false
def Fx (e:Nat) (x:TV):TV:=bif kD x then .buf .empty e else x
def jE:List Fl→List TV→List TV
 | f :: fl,x :: xs=>(match f with | .may=>EA | .bf e=>Fx e x | _=>x) :: jE fl xs
 | _,_=>[]
def junks:List CA→List CA
 | []=>[]
 | _ :: l=>.junk :: junks l
def gP (v:TV):Nat→Nat→List TV
 | 0,_=>[]
 | n + 1,j=>v.comp j :: gP v n (j + 1)
def Eb (id:Nat) (ds:List TyD) (v:TV) (k:AV→Out):Out :=
 match ds with
 | [d]=>jI d v (match cM d.kd.isAgg (eF id 0 d.zero v d.kd.isAgg 0) with | some av=>k av | none=>.fail)
 | ds=>.chk (v.isTup ds.length) (gQ v ds 0 (k (.tups (dV id v ds 0 0))))
def o0 (E : Env) (id : Nat) (look : Look) (f : FuncId) (ld : fL) (vs : List AV) : Out :=
 match vs with
 | .one (.ptr i 0) :: rest => match look i, lS E.T (E.rts f) with
  | some (.cells cs), some ds => bif ij ds || !nO i ld.ty ld.fl cs then .fail else
   hands look rest fun xs rs=>cF look (unMays cs) fun ys qs ts=>bif df (ts ++ rs) then
    .chk (ol ld.fl (jE ld.fl ys)) (.call f (.tup (jE ld.fl ys) :: xs) fun v=>.chk (v.isTup 2 && (v.comp 1).isTup ld.fl.length && ol ld.fl (gP (v.comp 1) ld.fl.length 0))
     (Eb id ds (v.comp 0) fun av => .ret (.gen (qs ++ (vc rs ++ [.setB i (junks cs), .unmay i, .newB (.tree (cW ld.fl (gP (v.comp 1) ld.fl.length 0))),
      .setB i (gq i id ld.ty ld.fl (gP (v.comp 1) ld.fl.length 0) 0)])) av)))
   else .fail
  | _,_=>.fail
 | _=>.fail
def xr:TV→TV
 | .lit v=>.lit v
 | .agg cs=>.agg (lfL cs)
 | _=>.hole
def iE:List TV→List TV
 | []=>[]
 | x :: l=>xr x :: iE l
def o6 (look:Look) (f:FuncId) (c:Nat × Nat) (vs:List AV):Out :=
 match vs with
 | .one (.ptr i 0) :: rest => match look i with
  | some (.cells cs)=>match nth .junk cs c.1 with
   | .t x=>bif cs.length.beq c.2 then lends look rest fun xs=>.call f (x :: iE xs) fun v=>.ret (.val (.tv v)) else .fail
   | _=>.fail
  | _=>.fail
 | _=>.fail
def pput (lo:Nat) (y z:TV):Option TV :=
 match y,z with
 | .sl true s xs,.sl true s' ws=>if s=s'∧lo + ws.length≤xs.length then some (.sl true s (xs.take lo ++ (ws ++ xs.drop (lo + ws.length)))) else none
 | .lit (.slice none 0 0),.lit (.slice none 0 0)=>if lo=0 then some (.lit aV) else none
 | _,_=>none
def md (look:Look) (f:FuncId) (vs:List AV):Out :=
 match vs with
 | .one (.sref i r p) :: rest=>match bG look i r with
  | some x=>nI p x fun z=>lends look rest fun xs=>.call f (z :: iE xs) fun v=>.tv (pput 0 z v) fun y=>yz p x y fun x'=>.ret (.gen [.drop i r (aG p) true,.root i r x'] (.tups []))
  | none=>.fail
 | .one (.swin i r p lo len) :: rest=>match bG look i r with
  | some x=>nI p x fun z=>.tv (cV lo len z) fun z1=>lends look rest fun xs=>.call f (z1 :: iE xs) fun v=>.tv (pput lo z v) fun y=>yz p x y fun x'=>.ret (.gen [.drop i r (aG p) true,.root i r x'] (.tups []))
  | none=>.fail
 | _=>.fail
def pifc (t:TypeId) (x:TV):Option TV:=match x with | .lit v=>if scV v=true then some (.lit (.iface t v)) else none | _=>none
def pasrt (t:TypeId) (x:TV):Option TV:=match x with | .lit (.iface t' v)=>if t'=t∧scV v=true then some (.lit v) else none | _=>none
def Kd.ln:Kd→Bool
 | .bool=>true
 | .int _=>true
 | .str=>true
 | .ptr=>true
 | _=>false
def DA (d:TyD) (t:TypeId) (x:AV):Out :=
 bif d.kd.ln then (match x with
 | .one (.ptr i 0)=>.ret (.val (.one (.ifp t i)))
 | x=>match x.tv? with
  | some x=>.tv (pifc t x) vt
  | none=>.fail) else .fail
def vE (d:TyD) (t:TypeId) (x:AV):Out :=
 bif d.kd.ln then (match x.tv? with
  | some x=>.tv (pasrt t x) vt
  | none=>.fail) else .fail
def nq (E:Env) (id:Nat) (look:Look) (f:FuncId) (vs:List AV):Out :=
 match E.peek f with
 | some c=>o6 look f c vs
 | none=>match E.lent f with
 | some ld=>o0 E id look f ld vs
 | none=>match lS E.T (E.rts f) with
 | some ds=>bif E.pure f || !ij ds then lends look vs fun xs=>.call f xs fun v=>ui id ds v []
  else hands look vs fun xs rs=>bif df rs then .call f xs fun v=>ui id ds v (vc rs) else .fail
 | none=>.fail
def xZ (E:Env) (id:Nat) (look:Look) (f:FuncId) (i:Nat) (vs:List AV):Out :=
 bif E.eye f && !E.turn f then (match look i,lS E.T (E.rts f) with
 | some (.cells cs),some ds=>(match ef cs with
  | some xs=>lends look vs fun ys=>.call f (iE ys ++ [.agg xs]) fun v=>ui id ds v []
  | none=>.fail)
 | _,_=>.fail) else .fail
def AI (T:Tab) (look:Look) (ds d:TyD) (x:AV):Out :=
 match ds.kd,d.kd with
 | .slice e,.str=>match T e with
  | some de=>bif mB de then uq look x fun y=>.rws (pelems 1 y) fun rows=>.tv (Fy rows) vt else .fail
  | none=>.fail
 | _,kd=>match x.tv? with
  | some x=>.tv (pconv kd x) vt
  | none=>.fail
def sO (E:Env) (t:TypeId) (len:Nat) (parts:Array (Nat × Operand)) (vs:List AV):Out :=
 match gH E.T t with
 | some (_, d) =>
  bT (fun i=>some (i * d.size,d.kd.isAgg,d.size)) (parts.toList.map (·.1)) vs ((List.replicate len d.zero).flatten.map fun v=>.t (.lit v)) fun cs =>
   (match ef cs with
   | some ys=>bif (len * d.size).ble 16777216 && ys.length.beq (len * d.size) && Nat.blt 0 d.size then .ret (.new (.tree [.hole]) (.one (.t (.sl false d.size (chunks d.size len ys))))) else .fail
   | none=>.fail)
 | none=>.fail
def jb (E : Env) (id : Nat) (look : Look) (t : TypeId) (len : Nat) (parts : Array (Nat × Operand)) (vs : List AV) : Out :=
 match gH E.T t with
  | some (_, d) =>
   bT (fun i=>some (i * d.size,d.kd.isAgg,d.size)) (parts.toList.map (·.1)) vs ((List.replicate len d.zero).flatten.map fun v=>.t (.lit v)) fun cs =>
    cg look cs fun ys qs ts=>bif df ts && (len * d.size).ble 16777216 && ys.length.beq (len * d.size) && Nat.blt 0 d.size then
     .ret (cO qs (.tree [.sl true d.size (chunks d.size len ys)]) (.one (.sref id 0 []))) else .fail
  | none=>.fail
def opL (E : Env) (id : Nat) (look : Look) (op : Op) (vs : List AV) : Out :=
 match op,vs with
 | .move _,[x]=>.ret (.val x)
 | .assign _,[x]=>.ret (.val x)
 | .pick _ _ _,[c,a,b]=>match c with
  | .bl c=>.ret (.val (bif c then a else b))
  | _=>.fail
 | .alloc e,[]=>match E.T e with
  | some d=>.ret (.new (.cells (lk (E.selfT e) id e d.zero)) (.one (.ptr id 0)))
  | none=>.fail
 | .box e _,[x]=>match E.T e with
  | some d=>x.aX d.kd.isAgg d.size fun cs=>.ret (.new (.cells cs) (.one (.ptr id 0)))
  | none=>.fail
 | .build t parts,vs=>match E.T t with
  | some d=>bif lH E.T d.kd then bT (places E.T d) (parts.toList.map (·.1)) vs (d.zero.map fun v=>.t (.lit v)) fun cs=>.ret (.val (.agg cs)) else .fail
  | none=>.fail
 | .buildSlice t len parts,vs=>bif E.cold t && !(len.beq 0) then sO E t len parts vs else jb E id look t len parts vs
 | .load t _,[a]=>match E.T t with
  | some d=>Ae look d a
  | none=>.fail
 | .store t _ _,[a,x]=>match E.T t with
  | some d=>vN look d a x
  | none=>.fail
 | .nilCheck _,[x]=>match x with
  | .one (.ptr i off)=>.ret (.val (.one (.ptr i off)))
  | .one (.ref x off)=>.ret (.val (.one (.ref x off)))
  | .one (.tptr i r p k j)=>.ret (.val (.one (.tptr i r p k j)))
  | .one (.aptr i off len n)=>.ret (.val (.one (.aptr i off len n)))
  | _=>.fail
 | .binOp op xt _ _ _,[x,y]=>match E.T xt with
  | some d=>E2 E.T look d.kd op x y
  | none=>.fail
 | .unOp op _ _, [x] => match op, x with
  | .not,.bl b=>.ret (.val (.bl (!b)))
  | op,x=>match x.tv? with
   | some x=>.tv (pun op x) vt
   | none=>.fail
 | .convert sty dt _,[x]=>match E.T sty,E.T dt with
  | some ds,some d=>AI E.T look ds d x
  | _,_=>.fail
 | .makeSlice t _ _,[l,c]=>match gH E.T t,l.tv?,c.tv? with
  | some (_,d),some l,some c=>bif d.bytes.ble 4096 then .nat (ab l) fun n=>.nat (ab c) fun m=>.chk (n.ble m && m.ble room)
     (.ret (.new (.tree [.sl true d.size (List.replicate n (d.zero.map .lit))]) (.one (.sref id 0 [])))) else .fail
  | _,_,_=>.fail
 | .slice t _ lo hi none, x :: rest => match E.T t with
  | some d => match rh E.T d.kd with
   | some sz=>match lo,hi,rest with
    | none,none,[]=>jf look d.kd sz x none none
    | some _,none,[l]=>jf look d.kd sz x (some l) none
    | none,some _,[h]=>jf look d.kd sz x none (some h)
    | some _,some _,[l,h]=>jf look d.kd sz x (some l) (some h)
    | _,_,_=>.fail
   | none=>.fail
  | none=>.fail
 | .fieldAddr s _ f, [x] => match E.T s, x with
  | some d,.one c=>match d.kd,places E.T d f with
   | .struct,some (off,_,n)=>bif Nat.blt 0 n then (match c.add off with | some c=>.ret (.val (.one c)) | none=>.fail) else .fail
   | _,_=>.fail
  | _,_=>.fail
 | .field s _ f, [x] => match E.T s with
  | some d=>match d.kd,places E.T d f with
   | .struct,some (off,agg,n)=>ww d off agg n x
   | _,_=>.fail
  | none=>.fail
 | .indexAddr t _ _,[x,i]=>match gH E.T t with
  | some (_,d)=>qh look d x i
  | none=>rn E.T t x i
 | .index t _ _,[x,i]=>match E.T t,x.tv?,i.tv? with
  | some ⟨_,_,.str,_,_⟩,some x,some i=>.tv (pstr x i) vt
  | _,_,_=>rk E.T t x i
 | .extract _ j, [x] => match x with
  | .tups cs => match cs[j]? with
   | some (agg,c)=>match cM agg c with
    | some v=>.ret (.val v)
    | none=>.fail
   | none=>.fail
  | _=>.fail
 | .makeFunc (.func f) first _,vs=>bif first.size.beq 0 then kT vs fun cs=>.ret (.val (.clo f cs)) else .fail
 | .call ⟨.builtin b,_,tys⟩,vs=>eN E id look b tys.toList vs
 | .makeInterface t _,[x]=>match E.T t with
  | some d=>DA d t x
  | none=>.fail
 | .typeAssert _ _ t false,[x]=>match E.T t with
  | some d=>vE d t x
  | none=>.fail
 | .call ⟨.value (.func f),_,_⟩,_ :: vs=>bif E.turn f then md look f vs else bif E.eye f then .fail else nq E id look f vs
 | .call ⟨.value (.tmp _), _, _⟩, fv :: vs => match fv.tv? with
  | some x=>.nat (fnOf x) fun f=>.chk ((E.lent f).isNone && (E.peek f).isNone && !(E.turn f || E.eye f)) (lends look vs fun xs=>.call f xs fun v=>.chk v.isSc (vt v))
  | none=>match fv with
   | .one (.fn1 f i)=>xZ E id look f i vs
   | _=>.fail
 | _,_=>.fail
def cZ:Nat:=24
def ASt.nid (st:ASt) (d:Option Tmp):Nat:=match d with | some d=>cZ + st.out.length + d | none=>0
def ASt.put (st:ASt) (d:Option Tmp) (v:AV):ASt :=
 match d with
 | some d=>⟨ao st.slots d v,st.boxes,st.out⟩
 | none=>st
def ASt.look (st:ASt):Look:=fun i=>nth none st.boxes i
def ASt.ac (st:ASt) (i:Nat) (b:Option BC):ASt:=⟨st.slots,ao st.boxes i b,st.out⟩
def leads:Bool→List Nat→Way→Bool
 | strict,[],p=>match p with | []=>!strict | _=>true
 | _,_ :: _,[]=>false
 | strict,a :: l,(_,j) :: p=>a.beq j && leads strict l p
def dv (i r:Nat) (js:List Nat) (strict:Bool) (i' r':Nat) (p:Way):Bool:=i.beq i' && r.beq r' && leads strict js p
def CA.drop (i r:Nat) (js:List Nat) (strict:Bool) (c:CA):CA :=
 match c with
 | .tptr i' r' p _ _=>bif dv i r js strict i' r' p then .junk else c
 | .sref i' r' p=>bif dv i r js strict i' r' p then .junk else c
 | .swin i' r' p _ _=>bif dv i r js strict i' r' p then .junk else c
 | c=>c
def mapC (f:CA→CA):List CA→List CA
 | []=>[]
 | c :: l=>f c :: mapC f l
def jH (f:CA→CA):List (Bool × List CA)→List (Bool × List CA)
 | []=>[]
 | (b,cs) :: l=>(b,mapC f cs) :: jH f l
def AV.bS (f:CA→CA):AV→AV
 | .one c=>.one (f c)
 | .agg cs=>.agg (mapC f cs)
 | .tups cs=>.tups (jH f cs)
 | .tv x=>.tv x
 | .bl b=>.bl b
 | .clo n cs=>.clo n (mapC f cs)
def bW (f:CA→CA):List AV→List AV
 | []=>[]
 | v :: l=>v.bS f :: bW f l
def BC.bu (f:CA→CA):BC→BC
 | .cells cs=>.cells (mapC f cs)
 | b=>b
def dY (f:CA→CA):List (Option BC)→List (Option BC)
 | []=>[]
 | some b :: l=>some (b.bu f) :: dY f l
 | none :: l=>none :: dY f l
def ASt.au (f:CA→CA) (st:ASt):ASt:=⟨bW f st.slots,dY f st.boxes,bW f st.out⟩
def CA.unM (i:Nat):CA→CA
 | .may j ty=>bif j.beq i then .junk else .may j ty
 | c=>c
def ASt.bz (st:ASt) (i:Nat) (b:BC):Option ASt :=
 match st.look i with
 | some _=>none
 | none=>bif i.blt st.boxes.length then some (st.ac i (some b)) else none
def Prim.app (st:ASt) (d:Option Tmp):Prim→Option ASt
 | .drop i r js strict=>some (st.au (CA.drop i r js strict))
 | .root i r x=>match cf st.look i r x with
  | some b=>some (st.ac i (some b))
  | none=>none
 | .frz i r => match bG st.look i r with
  | some x=>match cf st.look i r (Ab.frz x) with
   | some b=>some (st.ac i (some b))
   | none=>none
  | none=>none
 | .unmay i=>some (st.au (CA.unM i))
 | .newB b=>match d with
  | some d=>st.bz (st.nid (some d)) b
  | none=>none
 | .setB i cs=>match st.look i with
  | some (.cells _)=>some (st.ac i (some (.cells cs)))
  | _=>none
def af (d:Option Tmp):List Prim→ASt→Option ASt
 | [],st=>some st
 | p :: l,st=>match p.app st d with
  | some st=>af d l st
  | none=>none
def Eff.app (st:ASt) (d:Option Tmp):Eff→Option ASt
 | .val v=>some (st.put d v)
 | .new b v => match d with
  | none=>none
  | some d=>match st.bz (st.nid (some d)) b with
   | some st=>some (st.put (some d) v)
   | none=>none
 | .upd i b v=>some ((st.ac i (some b)).put d v)
 | .gen ps v=>match af d ps st with
  | some st=>some (st.put d v)
  | none=>none
def banned (ban:List Nat) (look:Look):Look:=fun i=>bif bN i ban then none else look i
inductive Cls where
 | N | R | A | B | W | P | X
def ap:Op→Cls
 | .move _ | .assign _ | .pick _ _ _ | .build _ _ | .nilCheck _ | .unOp _ _ _ | .fieldAddr _ _ _ | .field _ _ _ | .index _ _ _ | .extract _ _ | .makeFunc _ _ _ | .makeInterface _ _ | .typeAssert _ _ _ _=>.N
 | .load _ _ | .binOp _ _ _ _ _ | .slice _ _ _ _ _ | .indexAddr _ _ _ | .convert _ _ _=>.R
 | .alloc _ | .box _ _ | .makeSlice _ _ _=>.A
 | .call ⟨.builtin .len,_,_⟩=>.R
 | .call ⟨.builtin .min,_,_⟩=>.R
 | .call ⟨.builtin .max,_,_⟩=>.R
 | .call ⟨.value (.func _),_,_⟩=>.B
 | .call ⟨.value (.tmp _),_,_⟩=>.B
 | .buildSlice _ _ _=>.B
 | .store _ _ _=>.W
 | .call ⟨.builtin .append,_,_⟩=>.P
 | _=>.X
def Cls.isX:Cls→Bool
 | .X=>true
 | _=>false
def Cls.makes:Cls→Bool
 | .A=>true
 | .B=>true
 | .P=>true
 | _=>false
def Cls.reads:Cls→Bool
 | .R=>true
 | .B=>true
 | .W=>true
 | .P=>true
 | _=>false
def kV:Cls→Cls→Bool
 | .X,_=>false
 | _,.X=>false
 | .P,.P=>false
 | .P,.W=>false
 | .W,.P=>false
 | _,_=>true
def cU:List Operand→List Nat
 | []=>[]
 | .tmp t :: l=>t :: cU l
 | _ :: l=>cU l
def pZ (ops:List Oper) (o:Oper):List Nat :=
 match o.guard with
 | some (j,_)=>(match (ops[j]?).bind (·.dst) with | some g=>[g] | none=>[])
 | none=>[]
def looks (ops:List Oper) (o:Oper):List Nat:=pZ ops o ++ cU o.op.operands.toList
def dU (d:Option Nat) (l:List Nat):Bool :=
 match d with
 | some d=>!bN d l
 | none=>true
def ar (o:Op):Option Nat:=match ap o,o.operands.toList with
 | .P,.tmp s :: _=>some s
 | _,_=>none
def Eff.plain:Eff→Bool
 | .val _=>true
 | .new _ _=>true
 | .upd _ _ _=>true
 | _=>false
structure Item where
 o:Oper
 ban:List Nat × List Nat
 dr:Bool
 own:List (List Nat × List Nat)
 push:List Nat
 root:Nat
 loose:Bool
 shut:Bool
 lds:List (List Nat × List Nat)
 dull:List Nat
 dull2:List Nat
def aS (b:List Nat × List Nat) (base:Nat):List Nat:=b.1.map (base + ·) ++ b.2.map (· / 2)
def Eff.nr (base:Nat) (own:List (List Nat × List Nat)):Eff→Bool
 | .upd i _ _=>own.all fun l=>bN i (aS l base)
 | _=>true
def ASt.base (st:ASt):Nat:=cZ + st.out.length
def oL:CA→List Nat
 | .ptr i _=>[i]
 | .tptr i _ _ _ _=>[i]
 | .sref i _ _=>[i]
 | .swin i _ _ _ _=>[i]
 | .may i _=>[i]
 | .aptr i _ _ _=>[i]
 | .ifp _ i=>[i]
 | .fn1 _ i=>[i]
 | _=>[]
def ls:List CA→List Nat
 | []=>[]
 | c :: l=>oL c ++ ls l
def q9:List (Bool × List CA)→List Nat
 | []=>[]
 | (_,cs) :: l=>ls cs ++ q9 l
def AV.dX:AV→List Nat
 | .one c=>oL c
 | .agg cs=>ls cs
 | .tups cs=>q9 cs
 | .tv _=>[]
 | .bl _=>[]
 | .clo _ cs=>ls cs
def gp:List AV→List Nat
 | []=>[]
 | v :: l=>v.dX ++ gp l
def BC.lE:BC→List Nat
 | .cells cs=>ls cs
 | .tree _=>[]
def dB:Eff→List Nat
 | .val v=>v.dX
 | .new b v=>b.lE ++ v.dX
 | .upd _ b v=>b.lE ++ v.dX
 | .gen _ v=>v.dX
def ck (ps:List Nat) (st:ASt) (d:Option Nat) (e:Eff):Bool :=
 ps.all fun s=>!bN (st.base + s) (dB e) && (match d with | some d=>!bN (st.base + s) (nth (.one .junk) st.slots d).dX | none=>true)
def jQ:Eff→Option (Nat × TV)
 | .gen [.drop i 0 [] false,.root j 0 y] (.one (.sref k 0 []))=>bif i.beq j && i.beq k then some (i,y) else none
 | _=>none
def jU (k:Nat):AV→Bool
 | .one (.sref j 0 [])=>j.beq k
 | _=>false
def wB:Option BC→Bool
 | some (.tree [_])=>true
 | _=>false
def fM (k s:Nat):Nat→List AV→Bool
 | _,[]=>true
 | n,v :: l=>(n.beq s || !bN k v.dX) && fM k s (n + 1) l
def dQ (k:Nat):List (Option BC)→Bool
 | []=>true
 | some b :: l=>!bN k b.lE && dQ k l
 | none :: l=>dQ k l
def db (it:Item) (st:ASt) (e:Eff):Bool :=
 match ar it.o.op,jQ e with
 | some s,some (i,_)=>i.beq (st.base + it.root) && jU i (nth (.one .junk) st.slots s) && wB (st.look i) && fM i s 0 st.slots && dQ i st.boxes && !bN i (gp st.out)
 | _,_=>false
def co:List AV→Bool
 | []=>true
 | v :: l=>(match v.tv? with | some _=>true | none=>false) && co l
def iU:Eff→Bool
 | .val _=>true
 | .new (.tree _) _=>true
 | _=>false
def vu (n:Nat):List Nat→Bool
 | []=>true
 | k :: l=>k.beq n && vu n l
def iz (i:Item) (st:ASt) (e:Eff):Bool:=co (i.o.op.operands.toList.map st.ev) && (iU e && vu (st.nid i.o.dst) (dB e))
def pL:List Prim→List Nat
 | []=>[]
 | .drop i _ _ _ :: l=>i :: pL l
 | .root i _ _ :: l=>i :: pL l
 | _ :: l=>pL l
def mo:Eff→List Nat
 | .gen ps _=>pL ps
 | _=>[]
def drP:Prim→Bool
 | .drop _ _ _ _=>true
 | .root _ _ _=>true
 | .newB _=>true
 | _=>false
def drE:Eff→Bool
 | .gen ps _=>ps.all drP
 | .upd _ _ _=>false
 | _=>true
def CA.deep:CA→CA
 | .tptr i r p k j=>match p with | []=>.junk | _=>.tptr i r p k j
 | .sref i r p=>match p with | []=>.junk | _=>.sref i r p
 | .swin i r p lo len=>match p with | []=>.junk | _=>.swin i r p lo len
 | c=>c
def ft (k:Nat):List (Option BC)→Bool
 | []=>true
 | some b :: l=>!bN k (b.bu CA.deep).lE && ft k l
 | none :: l=>ft k l
def Fj (k:Nat):Prim→Bool
 | .drop i _ js _=>!(i.beq k) || !js.isEmpty
 | _=>true
def uP (k:Nat):Eff→Bool
 | .gen ps _=>ps.all (Fj k)
 | _=>true
def Aj (o:Oper):Bool:=match o.op with
 | .store _ _ _=>o.guard.isNone && o.dst.isNone
 | _=>false
def nR (o:Oper):Bool:=(ar o.op).isSome || Aj o
def ct (i:Item) (st:ASt) (e:Eff):Bool:=i.lds.all fun l=>drE e && (mo e).all fun k =>
 (bN k (l.1.map (st.base + ·)) && dQ k st.boxes) || (nR i.o && ((bN (2 * k) l.2 && dQ k st.boxes) || (bN (2 * k + 1) l.2 && (uP k e && ft k st.boxes))))
def jq (st:ASt) (d:Option Nat) (b:Nat):Bool:=match d with | some d=>!bN b (nth (.one .junk) st.slots d).dX | none=>true
def g9 (st:ASt) (d:Option Nat) (b:Nat):Bool:=match d with | some d=>!bN b ((nth (.one .junk) st.slots d).bS CA.deep).dX | none=>true
def oE:Eff→List Nat
 | .val v=>(v.bS CA.deep).dX
 | e=>dB e
def dh (i:Item) (st:ASt) (e:Eff):Bool:=(i.dull.all fun s=>!bN (st.base + s) (gp (i.o.op.operands.toList.map st.ev))) &&
 (i.dull2.all fun b => bif (b % 2).beq 0 then !bN (b / 2) (dB e) && (jq st i.o.dst (b / 2) && !bN (b / 2) (gp (i.o.op.operands.toList.map st.ev)))
  else !bN (b / 2) (oE e) && (g9 st i.o.dst (b / 2) && !bN (b / 2) (gp (bW CA.deep (i.o.op.operands.toList.map st.ev)))))
def okE (i:Item) (st:ASt) (e:Eff):Bool:=(i.loose && ct i st e) || ((bif i.shut then iz i st e else e.plain && e.nr st.base i.own && (ck i.push st i.o.dst e && dh i st e)) || db i st e)
def effQ {R:Type} (i:Item) (st:ASt) (K:ASt→Prg R) (e:Eff):Prg R :=
 bif i.dr && !(okE i st e) then .fail else
 match e.app st i.o.dst with
 | some st=>K st
 | none=>.fail
def ni {R:Type} (E:Env) (i:Item) (K:ASt→Prg R) (st:ASt):Prg R :=
 (opL E (st.nid i.o.dst) (banned (aS i.ban st.base) st.look) i.o.op (i.o.op.operands.toList.map st.ev)).bind (effQ i st K)
def dS (o:Oper) (st:ASt):ASt:=st.put o.dst (.one .undef)
def opQ {R:Type} (E:Env) (ops:List Oper) (i:Item) (K:ASt→Prg R) (st:ASt):Prg R :=
 match i.o.guard with
 | none=>ni E i K st
 | some (j, want) => match ((ops[j]?).bind (·.dst)) with
  | none=>.fail
  | some g=>match nth (.one .junk) st.slots g with
   | .one .undef=>K (dS i.o st)
   | .bl b=>bif b then (bif want then ni E i K st else K (dS i.o st)) else (bif want then K (dS i.o st) else ni E i K st)
   | .one (.t v) => .ite (asBool v)
     (bif want then ni E i K (st.put (some g) (.bl true)) else K (dS i.o (st.put (some g) (.bl true))))
     (bif want then K (dS i.o (st.put (some g) (.bl false))) else ni E i K (st.put (some g) (.bl false)))
   | .tv v => .ite (asBool v)
     (bif want then ni E i K (st.put (some g) (.bl true)) else K (dS i.o (st.put (some g) (.bl true))))
     (bif want then K (dS i.o (st.put (some g) (.bl false))) else ni E i K (st.put (some g) (.bl false)))
   | _=>.fail
def l9 {α R:Type}:List α→(List α→R)→R
 | [],k=>k []
 | a :: l,k=>l9 l (fun l'=>k (a :: l'))
theorem mP {α R:Type}:∀ (l:List α) (k:List α→R),l9 l k=k l
 | [],_=>rfl
 | a :: l,k=>mP l (fun l'=>k (a :: l'))
def iH {R:Type} (K:ASt→R) (st:ASt):R:=l9 st.slots fun sl=>l9 st.boxes fun bx=>K ⟨sl,bx,st.out⟩
theorem kH {R:Type} (K:ASt→R):iH K=K:=by
 funext st
 simp only [iH,mP]
def zu {R:Type} (K:ASt→R) (st:ASt):R:=l9 st.slots fun sl=>l9 st.boxes fun bx=>l9 st.out fun ou=>K ⟨sl,bx,ou⟩
theorem uS {R:Type} (K:ASt→R):zu K=K:=by
 funext st
 simp only [zu,mP]
def fN {R:Type} (n:Nat) (k:Nat→R):R:=match n with | 0=>k 0 | m + 1=>k (m + 1)
theorem AD {R:Type} (n:Nat) (k:Nat→R):fN n k=k n:=by cases n <;> rfl
def fNs {R:Type}:List Nat→(List Nat→R)→R
 | [],k=>k []
 | n :: l,k=>fN n fun n=>fNs l fun l=>k (n :: l)
theorem tO {R:Type}:∀ (l:List Nat) (k:List Nat→R),fNs l k=k l
 | [],_=>rfl
 | n :: l,k=>by simp only [fNs,AD,tO l]
def fW {R:Type}:Way→(Way→R)→R
 | [],k=>k []
 | (a,j) :: l,k=>fN j fun j=>fW l fun l=>k ((a,j) :: l)
theorem Fp {R:Type}:∀ (l:Way) (k:Way→R),fW l k=k l
 | [],_=>rfl
 | (a,j) :: l,k=>by simp only [fW,AD,Fp l]
def fC {R:Type} (c:CA) (k:CA→R):R :=
 match c with
 | .t x=>k (.t x)
 | .ptr i off=>fN i fun i=>fN off fun off=>k (.ptr i off)
 | .ref x off=>fN off fun off=>k (.ref x off)
 | .tptr i r p n j=>fN i fun i=>fN r fun r=>fW p fun p=>fN j fun j=>k (.tptr i r p n j)
 | .sref i r p=>fN i fun i=>fN r fun r=>fW p fun p=>k (.sref i r p)
 | .swin i r p lo len=>fN i fun i=>fN r fun r=>fW p fun p=>k (.swin i r p lo len)
 | .may i ty=>fN i fun i=>k (.may i ty)
 | .aptr i off len n=>fN i fun i=>fN off fun off=>k (.aptr i off len n)
 | .yl n=>fN n fun n=>k (.yl n)
 | .ifp t i=>fN i fun i=>k (.ifp t i)
 | .fn1 f i=>fN f fun f=>fN i fun i=>k (.fn1 f i)
 | .undef=>k .undef
 | .junk=>k .junk
theorem Fz {R:Type} (c:CA) (k:CA→R):fC c k=k c:=by cases c <;> simp only [fC,AD,Fp]
def fCs {R:Type}:List CA→(List CA→R)→R
 | [],k=>k []
 | c :: l,k=>fC c fun c=>fCs l fun l=>k (c :: l)
theorem wi {R:Type}:∀ (l:List CA) (k:List CA→R),fCs l k=k l
 | [],_=>rfl
 | c :: l,k=>by simp only [fCs,Fz,wi l]
def fTs {R:Type}:List (Bool × List CA)→(List (Bool × List CA)→R)→R
 | [],k=>k []
 | (b,c) :: l,k=>fCs c fun c=>fTs l fun l=>k ((b,c) :: l)
theorem DT {R:Type}:∀ (l:List (Bool × List CA)) (k:List (Bool × List CA)→R),fTs l k=k l
 | [],_=>rfl
 | (b,c) :: l,k=>by simp only [fTs,wi,DT l]
def fA {R:Type} (v:AV) (k:AV→R):R :=
 match v with
 | .one c=>fC c fun c=>k (.one c)
 | .agg cs=>fCs cs fun cs=>k (.agg cs)
 | .tv x=>k (.tv x)
 | .tups l=>fTs l fun l=>k (.tups l)
 | .bl b=>k (.bl b)
 | .clo n cs=>fN n fun n=>fCs cs fun cs=>k (.clo n cs)
theorem fA_eq {R:Type} (v:AV) (k:AV→R):fA v k=k v:=by cases v <;> simp only [fA,Fz,wi,DT,AD]
def fAs {R:Type}:List AV→(List AV→R)→R
 | [],k=>k []
 | c :: l,k=>fA c fun c=>fAs l fun l=>k (c :: l)
theorem Ct {R:Type}:∀ (l:List AV) (k:List AV→R),fAs l k=k l
 | [],_=>rfl
 | c :: l,k=>by simp only [fAs,fA_eq,Ct l]
def fB {R:Type} (b:Option BC) (k:Option BC→R):R :=
 match b with
 | none=>k none
 | some (.cells cs)=>fCs cs fun cs=>k (some (.cells cs))
 | some (.tree xs)=>l9 xs fun xs=>k (some (.tree xs))
theorem fB_eq {R:Type} (b:Option BC) (k:Option BC→R):fB b k=k b:=by
 match b with
 | none=>rfl
 | some (.cells cs)=>simp only [fB,wi]
 | some (.tree xs)=>simp only [fB,mP]
def fBs {R:Type}:List (Option BC)→(List (Option BC)→R)→R
 | [],k=>k []
 | c :: l,k=>fB c fun c=>fBs l fun l=>k (c :: l)
theorem D6 {R:Type}:∀ (l:List (Option BC)) (k:List (Option BC)→R),fBs l k=k l
 | [],_=>rfl
 | c :: l,k=>by simp only [fBs,fB_eq,D6 l]
def lR {R:Type} (K:ASt→R) (st:ASt):R:=fAs st.slots fun sl=>fBs st.boxes fun bx=>fAs st.out fun ou=>K ⟨sl,bx,ou⟩
theorem dP {R:Type} (K:ASt→R):lR K=K:=by
 funext st
 simp only [lR,Ct,D6]
def D4 {R:Type} (E:Env) (ops:List Oper):List Item→(ASt→Prg R)→ASt→Prg R
 | [],K,st=>K st
 | i :: rest,K,st=>opQ E ops i (iH (D4 E ops rest K)) st
def unlike (a b:Option Nat):Bool :=
 match a,b with
 | some a,some b=>!a.beq b
 | _,_=>true
def uy (s:Nat):List Oper→Option Oper
 | []=>none
 | o :: l=>match o.dst with
  | some d=>bif d.beq s then some o else uy s l
  | none=>uy s l
def kq (ops:List Oper):Nat→Nat→Nat
 | 0,s=>s
 | n + 1,s=>match uy s ops with
  | some o=>(match ar o.op with | some s'=>kq ops n s' | none=>s)
  | none=>s
def gW (ops:List Oper) (o:Oper):Option Nat:=match ar o.op with
 | some s=>some (kq ops 20 s)
 | none=>none
def mL (ops:List Oper) (x y:Oper):Bool :=
 match ar x.op with
 | some s=>x.guard.isNone && y.guard.isNone && !bN s (looks ops y) && dU y.dst [kq ops 20 s]
 | none=>true
def cD (ops:List Oper) (x y:Oper):Bool :=
 kV (ap x.op) (ap y.op) && dU x.dst (looks ops y) && dU y.dst (looks ops x) && unlike x.dst y.dst && (mL ops x y && mL ops y x)
def gJ (acc:List Nat):List Edge→Nat
 | []=>0
 | e :: es=>bif Region.binds .any e then (gJ acc es ||| 2 ^ e.on) ||| nth 0 acc e.on else gJ acc es
def bI (acc:List Nat):List Oper→List Nat
 | []=>acc
 | o :: rest=>bI (acc ++ [gJ acc o.after.toList]) rest
def behind (ops:List Oper):List Nat:=bI [] ops
def fx (i:Nat):List Edge→Bool
 | []=>true
 | e :: es=>bif Region.binds .any e then (bif e.on.blt i then fx i es else false) else fx i es
def pJ (all:List Oper) (o:Oper):List Nat :=
 (match o.dst with | some d=>bif (ap o.op).makes then [d] else [] | none=>[]) ++ (match gW all o with | some s=>[s] | none=>[])
def jw (bs:List Nat) (j:Nat) (all:List Oper):Nat→List Oper→List Nat
 | _,[]=>[]
 | i,o :: rest=>bif !(i.beq j) && !((nth 0 bs j).testBit i) && !((nth 0 bs i).testBit j) then pJ all o ++ jw bs j all (i + 1) rest else jw bs j all (i + 1) rest
def kf (bs:List Nat) (j:Nat) (all:List Oper):Nat→List Oper→List Nat
 | _,[]=>[]
 | i,o :: rest=>bif !(i.beq j) && !((nth 0 bs j).testBit i) && !((nth 0 bs i).testBit j) then (match gW all o with | some s=>s :: kf bs j all (i + 1) rest | none=>kf bs j all (i + 1) rest) else kf bs j all (i + 1) rest
def ie (ex:List (List Nat)) (bs:List Nat) (j:Nat) (all:List Oper):Nat→List Oper→List (List Nat × List Nat)
 | _,[]=>[]
 | k,o :: rest=>bif (ap o.op).reads && !(k.beq j) && !((nth 0 bs j).testBit k) && !((nth 0 bs k).testBit j) then (jw bs k all 0 all,nth [] ex k) :: ie ex bs j all (k + 1) rest else ie ex bs j all (k + 1) rest
def EG (st:ASt) (o:Oper):List Nat :=
 match o.op with
 | .store _ a _=>(match st.ev a with | .one (.ptr i _)=>[2 * i] | _=>[])
 | _=>[]
def mU (ops:List Oper):Nat→Nat→Nat
 | 0,s=>s
 | n + 1, s => match uy s ops with
  | some o=>(match ap o.op,o.op.operands.toList with
   | .N,.tmp a :: _=>mU ops n a
   | .R,.tmp a :: _=>mU ops n a
   | _,_=>s)
  | none=>s
def xq (ops : List Oper) : Nat → Nat → Bool
 | 0,_=>false
 | n + 1, s => match uy s ops with
  | some o => (match o.op with
   | .indexAddr _ _ _=>true
   | _=>match ap o.op,o.op.operands.toList with
    | .N,.tmp a :: _=>xq ops n a
    | .R,.tmp a :: _=>xq ops n a
    | _,_=>false)
  | none=>false
def Ax (look:Look):List Nat→List Nat
 | []=>[]
 | j :: l=>(match look j with
  | some (.cells cs)=>ls cs
  | _=>[j]) ++ Ax look l
def zR (st:ASt) (s:Nat):List Nat:=Ax st.look (nth (.one .junk) st.slots s).dX
def B8 (st:ASt) (all:List Oper) (o:Oper):List Nat :=
 match ar o.op with
 | some s=>(match uy (mU all 20 s) all with
  | none=>bif xq all 20 s then (zR st (mU all 20 s)).map (fun i=>2 * i + 1) else (nth (.one .junk) st.slots (mU all 20 s)).dX.map (2 * ·)
  | some _=>[])
 | none=>[]
def zy (st:ASt) (all:List Oper) (o:Oper):List Nat :=
 match o.op with
 | .store _ (.tmp a) _=>bif xq all 20 a then (zR st (mU all 20 a)).map (fun i=>2 * i + 1) else []
 | _=>[]
def xz (T:Tab) (all:List Oper):Nat→List Oper→List Nat
 | _,[]=>[]
 | j,o :: rest=>(match o.op with
  | .store t (.tmp a) _=>(match T t with | some d=>bif gX d.zero && xq all 20 a then [j] else [] | none=>[])
  | _=>[]) ++ xz T all (j + 1) rest
def exAt (st:ASt) (all:List Oper) (bs:List Nat) (j:Nat):Nat→List Oper→List Nat
 | _,[]=>[]
 | k,o :: rest=>bif !(k.beq j) && !((nth 0 bs j).testBit k) && !((nth 0 bs k).testBit j) then EG st o ++ (zy st all o ++ (B8 st all o ++ exAt st all bs j (k + 1) rest)) else exAt st all bs j (k + 1) rest
def DW (st:ASt) (bs:List Nat) (all:List Oper):Nat→List Oper→List (List Nat)
 | _,[]=>[]
 | j,_ :: rest=>exAt st all bs j 0 all :: DW st bs all (j + 1) rest
def exQ (T:Tab) (st:ASt) (ops:List Oper):List (List Nat):=DW st (behind ops) ops 0 ops ++ [xz T ops 0 ops]
def besides (bs:List Nat) (j:Nat):Nat→List Oper→Bool
 | _,[]=>false
 | i,_ :: rest=>bif !(i.beq j) && !((nth 0 bs j).testBit i) && !((nth 0 bs i).testBit j) then true else besides bs j (i + 1) rest
def fd (o:Oper):Bool:=match o.op with
 | .move _=>o.guard.isNone && o.dst.isSome
 | _=>false
def bK (bs:List Nat) (j:Nat):Nat→List Oper→Bool
 | _,[]=>true
 | i,o :: rest=>bif !(i.beq j) && !((nth 0 bs j).testBit i) && !((nth 0 bs i).testBit j) then fd o && bK bs j (i + 1) rest else bK bs j (i + 1) rest
def go (o:Oper):Bool:=match o.op with
 | .call ⟨.value (.func _),_,_⟩=>o.guard.isNone && o.dst.isSome
 | _=>false
def eM (o:Oper):Bool:=match o.op with
 | .buildSlice _ _ _=>o.guard.isNone && o.dst.isSome
 | _=>false
def gI (o:Oper):Bool:=match ap o.op with
 | .N=>o.guard.isNone && o.dst.isSome
 | .R=>o.guard.isNone && o.dst.isSome
 | _=>false
def beB (bs:List Nat) (j i:Nat):Bool:=!(i.beq j) && !((nth 0 bs j).testBit i) && !((nth 0 bs i).testBit j)
def fQ (bs:List Nat) (j:Nat):Nat→List Oper→Bool
 | _,[]=>true
 | i,o :: rest=>bif beB bs j i then (fd o || eM o || gI o) && fQ bs j (i + 1) rest else fQ bs j (i + 1) rest
def er (bs:List Nat) (all:List Oper) (j:Nat):Nat→List Oper→Bool
 | _,[]=>true
 | i,o :: rest=>bif beB bs j i then (fd o || (go o && fQ bs i 0 all)) && er bs all j (i + 1) rest else er bs all j (i + 1) rest
def da (bs:List Nat) (j:Nat):Nat→List Oper→Bool
 | _,[]=>true
 | i,o :: rest=>bif beB bs j i then (fd o || (gI o && i.blt j)) && da bs j (i + 1) rest else da bs j (i + 1) rest
def lC (bs:List Nat) (j:Nat) (all:List Oper) (o:Oper):Bool:=(ar o.op).isSome && (o.guard.isNone && o.dst.isSome) && (!bK bs j 0 all && da bs j 0 all)
def je (bs:List Nat) (all:List Oper):Nat→List Oper→Bool
 | _,[]=>true
 | j,o :: rest=>(match ar o.op with | some _=>bK bs j 0 all || lC bs j all o | none=>true) && je bs all (j + 1) rest
def lD (sl:List Nat) (bs:List Nat) (j:Nat) (all:List Oper) (o:Oper):Bool:=bN j sl && Aj o && (!bK bs j 0 all && da bs j 0 all)
def j9 (sl:List Nat) (bs:List Nat) (all:List Oper) (j:Nat):Nat→List Oper→Bool
 | _,[]=>false
 | i,o :: rest=>bif beB bs j i && (lC bs i all o || lD sl bs i all o) then true else j9 sl bs all j (i + 1) rest
def lQ (bs:List Nat) (all:List Oper):Nat→List Oper→Bool
 | _,[]=>true
 | j,o :: rest=>(!eM o || (er bs all j 0 all || da bs j 0 all)) && lQ bs all (j + 1) rest
def lT (ex:List (List Nat)) (bs:List Nat) (j:Nat) (all:List Oper):Nat→List Oper→List (List Nat × List Nat)
 | _,[]=>[]
 | k,o :: rest=>bif beB bs j k && (gI o && !fd o) then (jw bs k all 0 all,nth [] ex k) :: lT ex bs j all (k + 1) rest else lT ex bs j all (k + 1) rest
def gR (bs:List Nat) (j:Nat):Nat→List Oper→Bool
 | _,[]=>false
 | i,o :: rest=>bif beB bs j i && eM o then true else gR bs j (i + 1) rest
def lO (ex:List (List Nat)) (ops:List Oper) (bs:List Nat) (j:Nat) (o:Oper):List Nat:=bif je bs ops 0 ops && (gI o && !fd o) && ((lQ bs ops 0 ops && gR bs j 0 ops) || j9 (nth [] ex ops.length) bs ops j 0 ops) then jw bs j ops 0 ops else []
def dull2At (ex:List (List Nat)) (ops:List Oper) (bs:List Nat) (j:Nat) (o:Oper):List Nat:=bif je bs ops 0 ops && (gI o && !fd o) && j9 (nth [] ex ops.length) bs ops j 0 ops then nth [] ex j else []
def ag (ex:List (List Nat)) (ops:List Oper) (bs:List Nat) (j:Nat) (o:Oper):Item:=⟨o,(jw bs j ops 0 ops,nth [] ex j),besides bs j 0 ops,bif lD (nth [] ex ops.length) bs j ops o then ([],[]) :: ie ex bs j ops 0 ops else ie ex bs j ops 0 ops,kf bs j ops 0 ops ++ lO ex ops bs j o,match gW ops o with | some m=>m | none=>0,je bs ops 0 ops && (fd o || bK bs j 0 ops || (lQ bs ops 0 ops && eM o) || lC bs j ops o || lD (nth [] ex ops.length) bs j ops o),je bs ops 0 ops && lQ bs ops 0 ops && go o && gR bs j 0 ops,bif (eM o && !er bs ops j 0 ops) || lC bs j ops o || lD (nth [] ex ops.length) bs j ops o then lT ex bs j ops 0 ops else [],lO ex ops bs j o,dull2At ex ops bs j o⟩
def mW (ex:List (List Nat)) (ops:List Oper) (bs:List Nat):Nat→List Oper→List Item
 | _,[]=>[]
 | j,o :: rest=>ag ex ops bs j o :: mW ex ops bs (j + 1) rest
def mV (ops:List Oper) (m:Nat) (y:Oper) (j:Nat):Nat→List Oper→Bool
 | _,[]=>true
 | i,x :: rest=>bif i.blt j then (bif m.testBit i || cD ops x y then mV ops m y j (i + 1) rest else false) else true
def AU (ops:List Oper) (bs:List Nat):Nat→List Oper→Bool
 | _,[]=>true
 | j,y :: rest=>bif fx j y.after.toList && mV ops (nth 0 bs j) y j 0 ops then AU ops bs (j + 1) rest else false
def bw (ops:List Oper):Bool:=AU ops (behind ops) 0 ops
def dE:List Oper→List Item
 | []=>[]
 | o :: rest=>⟨o,([],[]),false,[],[],0,false,false,[],[],[]⟩ :: dE rest
def kO {R:Type} (E:Env) (ops:List Oper) (draw:Bool) (K:ASt→Prg R) (st:ASt):Prg R :=
 bif draw then (bif bw ops then D4 E ops (mW (exQ E.T st ops) ops (behind ops) 0 ops) K st else .fail)
 else D4 E ops (dE ops) K st
structure Ann where
 keep:List Nat
 own:List Nat
 ownB:List (Nat × Nat)
 kill:List Nat
 frz:List (Nat × Nat)
def ib {α:Type} (d:α) (ks:List Nat):Nat→List α→List α
 | _,[]=>[]
 | n,a :: l=>(bif bN n ks then a else d) :: ib d ks (n + 1) l
def i8 (n:Nat):List (Option BC)→Nat
 | []=>n
 | none :: _=>n
 | some _ :: l=>i8 (n + 1) l
def dg:Nat→List TV→List TV
 | 0,l=>l
 | n + 1,l=>.hole :: dg n l
def uG (xs:List TV) (r idx:Nat):Bool:=r.beq idx && xs.length.beq (idx + 1)
def ka (st:ASt) (i r idx:Nat):Option ASt :=
 match st.look i with
 | some (.tree xs)=>bif uG xs r idx then none else match xs[r]? with
  | some x=>((st.au (CA.drop i r [] false)).ac i (some (.tree (ao xs r .hole)))).bz (i8 0 st.boxes) (.tree (dg idx [x]))
  | none=>none
 | _=>none
def Ai {R:Type} (st:ASt) (s:Nat) (k:ASt→Prg R):Prg R :=
 match nth (.one .junk) st.slots s with
 | .one (.sref i r [])=>(match ka st i r 0 with
  | some st'=>k (st'.put (some s) (.one (.sref (i8 0 st.boxes) 0 [])))
  | none=>k st)
 | .one (.sref _ _ (_ :: _))=>k st
 | .one (.swin i r [] lo len) => match bG st.look i r with
  | some x=>.tv (cV lo len x) fun y=>(match cf (st.au (CA.drop i r [] false)).look i r y with
   | some b=>k (((st.au (CA.drop i r [] false)).ac i (some b)).put (some s) (.one (.sref i r [])))
   | none=>.fail)
  | none=>.fail
 | v => match v.tv? with
  | some x=>.chk x.isSl (match st.bz (i8 0 st.boxes) (.tree [x]) with
   | some st'=>k (st'.put (some s) (.one (.sref (i8 0 st.boxes) 0 [])))
   | none=>.fail)
  | none=>.fail
def pP {R:Type}:List Nat→ASt→(ASt→Prg R)→Prg R
 | [],st,k=>k st
 | s :: l,st,k=>Ai st s fun st=>pP l st k
def yn (cs:List CA) (c:Nat):Nat:=match cs with | .may _ _ :: _=>c | _=>0
def vK {R : Type} (st : ASt) (i c : Nat) (k : ASt → Prg R) : Prg R :=
 match st.look i with
 | some (.cells cs) => match nth .junk cs c with
  | .sref i' r [] => (match ka st i' r (yn cs c) with
   | some st'=>(match st'.look i with
    | some (.cells cs')=>k (st'.ac i (some (.cells (ao cs' c (.sref (i8 0 st.boxes) (yn cs c) [])))))
    | _=>k st)
   | none=>k st)
  | _=>k st
 | _=>k st
def Ak {R : Type} (st : ASt) (s c : Nat) (k : ASt → Prg R) : Prg R :=
 match nth (.one .junk) st.slots s with
 | .one (.ptr i _) => match st.look i with
  | some (.cells cs) => match nth .junk cs c with
   | .sref _ _ []=>vK st i c k
   | .sref _ _ (_ :: _)=>k st
   | .swin i' r [] lo len => match bG st.look i' r with
    | some x => .tv (cV lo len x) fun y => (match cf (st.au (CA.drop i' r [] false)).look i' r y with
     | some b=>(match ((st.au (CA.drop i' r [] false)).ac i' (some b)).look i with
      | some (.cells cs')=>vK (((st.au (CA.drop i' r [] false)).ac i' (some b)).ac i (some (.cells (ao cs' c (.sref i' r []))))) i c k
      | _=>.fail)
     | none=>.fail)
    | none=>.fail
   | .t x=>.chk x.isSl (match st.bz (i8 0 st.boxes) (.tree (dg (yn cs c) [x])) with
    | some st'=>k (st'.ac i (some (.cells (ao cs c (.sref (i8 0 st.boxes) (yn cs c) [])))))
    | none=>.fail)
   | _=>.fail
  | _=>.fail
 | _=>.fail
def lF {R:Type}:List (Nat × Nat)→ASt→(ASt→Prg R)→Prg R
 | [],st,k=>k st
 | (s,c) :: l,st,k=>Ak st s c fun st=>lF l st k
def cG:TV→TV
 | .sl o s xs=>.sl o s (s6 xs)
 | x=>x
def CE (st : ASt) (s c : Nat) : ASt :=
 match nth (.one .junk) st.slots s with
 | .one (.ptr i _) => match st.look i with
  | some (.cells cs) => match nth .junk cs (c % 1000) with
   | .sref i' r [] => match st.look i' with
    | some (.tree xs)=>match xs[r]? with
     | some x=>bif Nat.ble 1000 c then st.ac i' (some (.tree (ao xs r (cG x)))) else (st.ac i' (some (.tree (ao xs r (frz x))))).ac i (some (.cells (ao cs (c % 1000) (.t (frz x)))))
     | none=>st
    | _=>st
   | _=>st
  | _=>st
 | .one (.sref i' r []) => match st.look i' with
  | some (.tree xs)=>match xs[r]? with
   | some x=>bif Nat.ble 1000 c then st else (st.ac i' (some (.tree (ao xs r (frz x))))).put (some s) (.one (.t (frz x)))
   | none=>st
  | _=>st
 | _=>st
def kJ:List (Nat × Nat)→ASt→ASt
 | [],st=>st
 | (s,c) :: l,st=>kJ l (CE st s c)
def iv (st:ASt):List Nat→ASt
 | []=>st
 | s :: l => match nth (.one .junk) st.slots s with
  | .one (.ptr i _)=>(match st.look i with
   | some (.cells cs)=>iv (st.ac i (some (.cells (mapC (fun _=>.junk) cs)))) l
   | _=>iv st l)
  | _=>iv st l
def visit (look:Look):Nat→List Nat→List Nat→List Nat
 | 0,_,seen=>seen
 | _ + 1,[],seen=>seen
 | n + 1,i :: l,seen=>bif bN i seen then visit look n l seen else match look i with
  | some b=>visit look n (l ++ b.lE) (seen ++ [i])
  | none=>visit look n l seen
def lq (i:Nat):Nat→List Nat→Option Nat
 | _,[]=>none
 | n,a :: l=>bif a.beq i then some n else lq i (n + 1) l
def CA.ren (L:List Nat) (c:CA):CA :=
 match c with
 | .ptr i off=>match lq i 0 L with | some k=>.ptr k off | none=>.junk
 | .tptr i r p k j=>match lq i 0 L with | some m=>.tptr m r p k j | none=>.junk
 | .sref i r p=>match lq i 0 L with | some m=>.sref m r p | none=>.junk
 | .swin i r p lo len=>match lq i 0 L with | some m=>.swin m r p lo len | none=>.junk
 | .may i ty=>match lq i 0 L with | some k=>.may k ty | none=>.junk
 | .aptr i off len n=>match lq i 0 L with | some k=>.aptr k off len n | none=>.junk
 | .ifp ty i=>match lq i 0 L with | some k=>.ifp ty k | none=>.junk
 | .fn1 f i=>match lq i 0 L with | some k=>.fn1 f k | none=>.junk
 | c=>c
def iy:List Nat→Bool
 | []=>true
 | a :: l=>!bN a l && iy l
def ot (look:Look) (f:CA→CA):List Nat→List (Option BC)
 | []=>[]
 | i :: l=>(match look i with | some b=>some (b.bu f) | none=>none) :: ot look f l
def AV.asTV:AV→AV
 | .one (.t x)=>.tv x
 | .bl b=>.tv (.lit (.bool b))
 | v=>v
def ra:List AV→List AV
 | []=>[]
 | v :: l=>v.asTV :: ra l
def jp (L:List Nat) (st:ASt):ASt :=
 ⟨ra (bW (CA.ren L) st.slots),ot st.look (CA.ren L) L ++ List.replicate (st.boxes.length - L.length) none,ra (bW (CA.ren L) st.out)⟩
def iA (ks:List Nat) (st:ASt):ASt:=⟨ib (.one .junk) ks 0 st.slots,st.boxes,st.out⟩
def ir (st:ASt):List Nat:=visit st.look 1000 (gp st.slots ++ gp st.out) []
def zC {R:Type} (st:ASt) (k:ASt→Prg R):Prg R :=
 bif iy (ir st) && (ir st).length.ble cZ && cZ.ble st.boxes.length then k (jp (ir st) st) else .fail
def ur {R:Type} (an:Ann) (st:ASt) (k:ASt→Prg R):Prg R :=
 pP an.own st fun st=>lF an.ownB st fun st=>zC (iA an.keep (iv (kJ an.frz st) an.kill)) k
inductive AEx where
 | normal | ret | exit (id:Nat)
def first:Code→Option Nat
 | .region id _ _=>some id
 | .seq a b=>match first a with
  | some n=>some n
  | none=>first b
 | .cond _ a b=>match first a with
  | some n=>some n
  | none=>first b
 | .block _ c=>first c
 | .loop c=>first c
 | _=>none
def iD (ann:Nat→Option Ann) (c:Code):Option Ann :=
 match first c with
 | some n=>ann n
 | none=>none
def qD {R:Type} (an:Option Ann) (rp:List Nat) (next:ASt→Prg R) (K:AEx→ASt→Prg R):AEx→ASt→Prg R
 | .normal,st=>match an with
  | none=>next st
  | some an=>ur an st fun st=>.jmp rp st
 | e,st=>K e st
def mr {R:Type} (id:Nat) (K:AEx→ASt→Prg R):AEx→ASt→Prg R
 | .exit i,st=>bif i.beq id then K .normal st else K (.exit i) st
 | e,st=>K e st
def u6 {R:Type} (an:Option Ann) (rp:List Nat) (st:ASt):Prg R :=
 match an with
 | none=>.fail
 | some an=>ur an st fun st=>.jmp rp st
def tG {R:Type} (an:Option Ann) (rp:List Nat) (K:AEx→ASt→Prg R):AEx→ASt→Prg R
 | .normal,st=>u6 an rp st
 | e,st=>K e st
structure Opn where
 fns:FuncId→Option Func
 ann:FuncId→Nat→Option Ann
 jn:FuncId→Nat→Option Ann
 kp:FuncId→Nat→Option (List Nat)
 mth:TypeId→String→Option (FuncId × Bool)
def AV.vL:AV→Option (FuncId × List CA)
 | .clo f cs=>some (f,cs)
 | .one (.fn1 f i)=>some (f,[.ptr i 0])
 | _=>none
def wb (st:ASt) (i:Nat):Bool→Option AV
 | false=>some (.one (.ptr i 0))
 | true=>match st.look i with
  | some (.cells [c])=>bif c.kept then some (.one c) else none
  | _=>none
def Fg (L:Opn) (st:ASt) (v:AV) (name:String):Option (FuncId × AV) :=
 match v with
 | .one (.ifp t i) => match L.mth t name with
  | some (f,d)=>match wb st i d with
   | some r=>some (f,r)
   | none=>none
  | none=>none
 | _=>none
def rQ (L:Opn) (st:ASt) (j:Nat):Op→Option (Nat × FuncId × Func × List AV × List CA)
 | .call ⟨.value (.func f),_,_⟩=>match L.fns f with
  | some fn=>some (j,f,fn,[],[])
  | none=>none
 | .call ⟨.value (.tmp t), _, _⟩ => match (nth (.one .junk) st.slots t).vL with
  | some (f,cs)=>match L.fns f with
   | some fn=>some ((f + 1) * 1000 + j,f,fn,[],cs)
   | none=>none
  | none=>none
 | .call ⟨.invoke (.tmp t) name, _, _⟩ => match Fg L st (nth (.one .junk) st.slots t) name with
  | some (f,r)=>match L.fns f with
   | some fn=>some ((f + 1) * 1000 + j,f,fn,[r],[])
   | none=>none
  | none=>none
 | _=>none
def E1 (L:Opn):Op→Bool
 | .call ⟨.value (.func f),_,_⟩=>(L.fns f).isSome
 | .call ⟨.value (.tmp _),_,_⟩=>true
 | .call ⟨.invoke _ _,_,_⟩=>true
 | _=>false
def rI (L:Opn):List Oper→Bool
 | []=>false
 | o :: l=>bif E1 L o.op then true else rI L l
def qR (L:Opn) (y:Nat):Op→Option (FuncId × Func)
 | .call ⟨.value (.func f),_,_⟩=>bif y.blt 1000 then (match L.fns f with
  | some fn=>some (f,fn)
  | none=>none) else none
 | .call ⟨.value (.tmp _), _, _⟩ => match y / 1000 with
  | f + 1=>(match L.fns f with
   | some fn=>some (f,fn)
   | none=>none)
  | 0=>none
 | .call ⟨.invoke (.tmp _) _, _, _⟩ => match y / 1000 with
  | f + 1=>(match L.fns f with
   | some fn=>some (f,fn)
   | none=>none)
  | 0=>none
 | _=>none
def oN (bs:List Nat) (k:Nat):Nat→List Oper→Bool
 | _,[]=>true
 | i,_ :: rest=>bif i.blt k then oN bs k (i + 1) rest else (Nat.land (nth 0 bs i) (2 ^ k - 1)).beq (2 ^ k - 1) && oN bs k (i + 1) rest
def oa (ops:List Oper) (k:Nat):Bool:=oN (behind ops) k 0 ops
def dq {R:Type} (E:Env) (reg:Nat→List Nat→List Oper→Bool→(ASt→Prg R)→ASt→Prg R) (rg:List Nat→Operand→Array Tmp→Code→Code→(ASt→Prg R)→ASt→Prg R) (ann jn:Nat→Option Ann):List Nat→Code→(AEx→ASt→Prg R)→ASt→Prg R
 | _,.skip,K,st=>K .normal st
 | rp,.region id ops draw,K,st=>reg id rp ops.toList draw (K .normal) st
 | rp,.seq a b,K,st=>dq E reg rg ann jn (0 :: rp) a (qD (iD jn b) (1 :: rp) (dq E reg rg ann jn (1 :: rp) b K) K) st
 | rp, .cond c a b, K, st => match st.ev c with
  | .bl v=>bif v then dq E reg rg ann jn (0 :: rp) a K st else dq E reg rg ann jn (1 :: rp) b K st
  | x=>match x.tv? with
   | some v=>.ite (asBool v) (dq E reg rg ann jn (0 :: rp) a K st) (dq E reg rg ann jn (1 :: rp) b K st)
   | none=>.fail
 | rp,.block id c,K,st=>dq E reg rg ann jn (0 :: rp) c (mr id K) st
 | rp,.loop c,_,st=>u6 (iD ann c) (0 :: rp) st
 | _,.exit id,K,st=>K (.exit id) st
 | _,.ret,K,st=>K .ret st
 | rp,.rangeFunc g ps a c,K,st=>rg rp g ps a c (K .normal) st
 | _,_,_,_=>.fail
def cj (fn:Func):Code:=match fn.body with | some c=>c | none=>.skip
def yp (T : Tab) (st : ASt) : ResultVar → Option AV
 | .tmp t=>some (nth (.one .junk) st.slots t)
 | .cell a ty => match nth (.one .junk) st.slots a, T ty with
  | .one (.ptr i 0), some d => match st.look i with
   | some (.cells cs)=>match lA cs 0 (bif d.kd.isAgg then d.size else 1) with
    | some cs=>cM d.kd.isAgg cs
    | none=>none
   | _=>none
  | _,_=>none
def jc (T:Tab) (st:ASt):List ResultVar→Option (List AV)
 | []=>some []
 | r :: l=>match yp T st r,jc T st l with
  | some x,some xs=>some (x :: xs)
  | _,_=>none
def s8 {R:Type}:List TyD→List AV→(List (Bool × List CA)→Prg R)→Prg R
 | [],[],k=>k []
 | d :: ds,v :: vs,k=>v.aX d.kd.isAgg d.size fun cs=>s8 ds vs fun l=>k ((d.kd.isAgg,cs) :: l)
 | _,_,_=>.fail
def wP {R:Type} (ds:List TyD) (vs:List AV) (k:AV→Prg R):Prg R :=
 match vs with
 | [v]=>k v
 | vs=>s8 ds vs fun l=>k (.tups l)
def pj (L:List Nat) (m:Nat) (st:ASt):ASt :=
 ⟨bW (CA.ren L) st.slots,ot st.look (CA.ren L) L ++ List.replicate (st.boxes.length - m - L.length) none,bW (CA.ren L) st.out⟩
def gz {R:Type} (m:Nat) (st:ASt) (k:ASt→Prg R):Prg R :=
 lR (fun st=>fNs (ir st) fun L=>bif iy L && L.length.ble cZ && cZ.ble st.boxes.length then lR k (pj L m st) else .fail) st
def u5 {R : Type} (E : Env) (f : FuncId) (fn : Func) (nt : Nat) (d : Option Tmp) (K : ASt → Prg R) : AEx → ASt → Prg R
 | .exit _,_=>.fail
 | _,st=>match jc E.T st fn.results.toList,lS E.T (E.rts f) with
  | some vs, some ds => bif nt.ble st.out.length then wP ds vs fun v =>
    gz fn.ntmps (ASt.put ⟨st.out.drop (st.out.length - nt),st.boxes,st.out.take (st.out.length - nt)⟩ d v) K else .fail
  | _,_=>.fail
def jD (ntmps:Nat) (vs:List AV) (st:ASt):ASt :=
 ⟨vs ++ List.replicate (ntmps - vs.length) (.one .undef),st.boxes ++ List.replicate ntmps none,st.out ++ st.slots⟩
def ke:Option (List Nat)→ASt→ASt
 | none,st=>st
 | some ks,st=>iA ks st
def AN (id j:Nat):Nat:=id * 1000 + j
structure Rng where
 off:Nat
 nt:Nat
 fi:FuncId
 ps:Array Tmp
 assign:Code
 body:Code
 busy:Bool
def aR:List Rng→Nat→List Rng
 | [],_=>[]
 | y :: l,0=>{ y with busy:=true } :: l
 | y :: l,m + 1=>y :: aR l m
def CA.unY (n:Nat) (c:CA):CA :=
 match c with
 | .yl k=>bif k.blt n then .yl k else .junk
 | c=>c
def AV.ylOf:AV→Option Nat
 | .one (.yl m)=>some m
 | _=>none
def kz (z m j:Nat):Nat:=2 * ((2 * m + z) * 1000 + j) + 3
def ki:List Tmp→List AV→List AV→List AV
 | t :: ts,v :: vs,l=>ki ts vs (ao l t v)
 | _,_,l=>l
abbrev BZ (R:Type):=Nat→FuncId→List Rng→Nat→List Nat→List Oper→Bool→(ASt→Prg R)→ASt→Prg R
abbrev Bm (R:Type):=Nat→FuncId→List Rng→List Nat→Operand→Array Tmp→Code→Code→(ASt→Prg R)→ASt→Prg R
def sD {R:Type} (E:Env) (L:Opn) (reg:BZ R) (rg:Bm R) (nt:Nat) (fi:FuncId) (ys:List Rng) (id:Nat) (rp:List Nat) (j y:Nat) (o:Oper) (f:FuncId) (fn:Func) (rv:List AV) (cap:List CA) (K:ASt→Prg R) (st:ASt):Prg R :=
 match o.op.operands.toList with
 | _ :: xs => bif (rv.length + xs.length).beq fn.params.size && (rv.length + xs.length + cap.length).ble fn.ntmps && (st.slots.length.beq nt && j.blt 1000) then
   lR (dq E (reg fn.ntmps f ys) (rg fn.ntmps f ys) (L.ann f) (L.jn f) ((2 * y + 2) :: rp) (cj fn) (u5 E f fn nt o.dst K)) (jD fn.ntmps (rv ++ xs.map st.ev ++ cap.map AV.one) (ke (L.kp fi (AN id j)) st)) else .fail
 | _=>.fail
def ASt.cut (nt:Nat) (st:ASt):ASt:=⟨st.out.drop (st.out.length - nt),st.boxes,st.out.take (st.out.length - nt)⟩
def fm {R:Type} (y:Rng) (nt:Nat) (d:Option Tmp) (K:ASt→Prg R):AEx→ASt→Prg R
 | .normal,st=>bif nt.ble st.out.length then gz y.nt ((st.cut nt).put d (.bl true)) K else .fail
 | _,_=>.fail
def pK {R:Type} (k:ASt→Prg R):AEx→ASt→Prg R
 | .normal,st=>k st
 | _,_=>.fail
def so {R : Type} (E : Env) (L : Opn) (reg : BZ R) (rg : Bm R) (nt : Nat) (fi : FuncId) (ys : List Rng) (id : Nat) (rp : List Nat) (j m : Nat) (y : Rng) (o : Oper) (K : ASt → Prg R) (st : ASt) : Prg R :=
 match o.op.operands.toList with
 | _ :: xs => bif xs.length.beq y.ps.size && (st.slots.length.beq nt && (j.blt 1000 && (!y.busy && (y.off + y.nt).ble st.out.length))) then
   lR (dq E (reg y.nt y.fi (aR ys m)) (rg y.nt y.fi (aR ys m)) (L.ann y.fi) (L.jn y.fi) (kz 0 m j :: rp) y.assign
    (pK (dq E (reg y.nt y.fi (aR ys m)) (rg y.nt y.fi (aR ys m)) (L.ann y.fi) (L.jn y.fi) (kz 1 m j :: rp) y.body (fm y nt o.dst K))))
    (jD y.nt (ki y.ps.toList (xs.map st.ev) ((st.out.drop y.off).take y.nt)) (ke (L.kp fi (AN id j)) st)) else .fail
 | _=>.fail
def kw (draw:Bool) (ex:List (List Nat)) (all:List Oper) (j:Nat) (o:Oper):Item:=bif draw then ag ex all (behind all) j o else ⟨o,([],[]),false,[],[],0,false,false,[],[],[]⟩
def jX (T:Tab) (draw:Bool) (st:ASt) (all:List Oper):List (List Nat):=bif draw then exQ T st all else []
def aY (ops:List Oper) (o:Oper) (s:ASt):Option (Option Bool) :=
 match o.guard with
 | none=>some (some true)
 | some (j, want) => match ((ops[j]?).bind (·.dst)) with
  | none=>none
  | some g=>match nth (.one .junk) s.slots g with
   | .one .undef=>some none
   | .bl b=>some (some (b == want))
   | _=>none
def iu (ops:List Oper) (o:Oper) (s:ASt):Bool:=match aY ops o s with
 | some (some true)=>true
 | _=>false
def tf (ys:List Rng) (st:ASt):Op→Option (Nat × Rng)
 | .call ⟨.value (.tmp t), _, _⟩ => match (nth (.one .junk) st.slots t).ylOf with
  | some m=>match ys[m]? with
   | some y=>some (m,y)
   | none=>none
  | none=>none
 | _=>none
def eqCA:CA→CA→Bool
 | .ptr i a,.ptr j b=>i.beq j && a.beq b
 | .sref i r [],.sref j k []=>i.beq j && r.beq k
 | _,_=>false
def eqAV:AV→AV→Bool
 | .one a,.one b=>eqCA a b
 | _,_=>false
def rH (u m:Nat):Nat→Bool
 | 0=>true
 | k + 1=>(k.beq u || m.testBit k) && rH u m k
def mc (bs:List Nat) (u k:Nat):Nat→List Oper→Bool
 | _,[]=>true
 | i,_ :: rest=>bif i.blt k then mc bs u k (i + 1) rest else rH u (nth 0 bs i) k && mc bs u k (i + 1) rest
def su (ops:List Oper) (u k:Nat):Bool:=mc (behind ops) u k 0 ops
def og (bs:List Nat) (u k:Nat):Nat→List Oper→Bool
 | _,[]=>true
 | i,_ :: rest=>bif i.blt k then !((nth 0 bs i).testBit u) && og bs u k (i + 1) rest else true
def po (o:Oper):Bool:=match o.op with
 | .load _ _=>o.guard.isNone && o.dst.isSome
 | _=>false
def yM (all:List Oper) (j u:Nat) (o c:Oper):Bool :=
 po o && (su all u j && su all u (j + 1)) && (og (behind all) u (j + 1) 0 all && (c.guard.isNone && (match o.dst with
  | some d=>dU (some d) (cU c.op.operands.toList) && unlike (some d) c.dst
  | none=>false)))
def oO (all:List Oper) (j:Nat) (c:Oper):Nat→List Oper→Option Nat
 | _,[]=>none
 | u,o :: rest=>bif u.blt j then (bif yM all j u o c then some u else oO all j c (u + 1) rest) else none
def iM (all:List Oper) (j:Nat):Option Nat:=match all[j]? with
 | some c=>oO all j c 0 all
 | none=>none
def dW (draw:Bool) (all:List Oper) (j:Nat):Bool:=!draw || (oa all j && oa all (j + 1))
def swapL (n a b:Nat):List Nat:=(List.range n).map fun k=>bif k.beq a then b else bif k.beq b then a else k
def Fu (d:Option Nat) (st:ASt):List Nat :=
 match d with
 | some d=>(match nth (.one .junk) st.slots d with
  | .one (.sref i 0 [])=>swapL st.boxes.length i (st.nid (some d))
  | _=>List.range st.boxes.length)
 | none=>List.range st.boxes.length
def Dl {R:Type} (d:Option Nat) (k:ASt→Prg R) (st:ASt):Prg R:=fNs (Fu d st) fun L=>bif iy L then lR k (pj L 0 st) else .fail
def nc {R:Type} (E:Env) (draw:Bool) (all:List Oper) (j:Nat) (k:ASt→Prg R) (st:ASt):Prg R :=
 bif dW draw all j then k st else match iM all j with
 | some u => (match all[u]?, all[j]? with
  | some o,some c=>(match o.dst with
   | some d=>Dl c.dst (fun st=>opQ E all (kw draw (jX E.T draw st all) all u o) (fun st'=>bif eqAV (nth (.one .junk) st'.slots d) (nth (.one .junk) st.slots d) then k st else .fail) (st.put (some d) (.one .junk))) st
   | none=>.fail)
  | _,_=>.fail)
 | none=>.fail
def fb {R : Type} (E : Env) (L : Opn) (reg : BZ R) (rg : Bm R) (nt : Nat) (fi : FuncId) (ys : List Rng) (id : Nat) (rp : List Nat) (draw : Bool) (all : List Oper) (K : ASt → Prg R) : Nat → List Oper → List (List Nat) → ASt → Prg R
 | _,[],_,st=>K st
 | j, o :: rest, ex, st => match rQ L st j o.op with
  | some (y, f, fn, rv, cap) => bif iu all o st then (bif dW draw all j || (iM all j).isSome then
    sD E L reg rg nt fi ys id rp j y o f fn rv cap (nc E draw all j fun st'=>fb E L reg rg nt fi ys id rp draw all K (j + 1) rest (jX E.T draw st' all) st') st else .fail)
   else opQ E all (kw draw ex all j o) (iH (fb E L reg rg nt fi ys id rp draw all K (j + 1) rest ex)) st
  | none => match tf ys st o.op with
   | some (m, y) => bif iu all o st then (bif !draw || (oa all j && oa all (j + 1)) then
     so E L reg rg nt fi ys id rp j m y o (fun st'=>fb E L reg rg nt fi ys id rp draw all K (j + 1) rest (jX E.T draw st' all) st') st else .fail)
    else opQ E all (kw draw ex all j o) (iH (fb E L reg rg nt fi ys id rp draw all K (j + 1) rest ex)) st
   | none=>opQ E all (kw draw ex all j o) (iH (fb E L reg rg nt fi ys id rp draw all K (j + 1) rest ex)) st
def xl {R:Type} (fn:Func) (n nt:Nat) (K:ASt→Prg R):AEx→ASt→Prg R
 | .exit _,_=>.fail
 | _,st=>bif fn.results.size.beq 0 && nt.ble st.out.length then gz fn.ntmps ((st.au (CA.unY n)).cut nt) K else .fail
mutual
def dw {R:Type} (E:Env) (L:Opn):Nat→BZ R
 | 0,_,_,_,_,_,ops,draw,K,st=>kO E ops draw K st
 | n + 1,nt,fi,ys,id,rp,ops,draw,K,st=>bif rI L ops then (bif !draw || bw ops then fb E L (dw E L n) (dz E L n) nt fi ys id rp draw ops K 0 ops (jX E.T draw st ops) st else .fail) else kO E ops draw K st
def dz {R:Type} (E:Env) (L:Opn):Nat→Bm R
 | 0,_,_,_,_,_,_,_,_,_,_=>.fail
 | n + 1, nt, fi, ys, rp, g, ps, assign, body, K, st => zu (fun st => match (st.ev g).vL with
  | some (f,cs)=>(match L.fns f with
   | some fn => bif Nat.beq fn.params.size 1 && ((cs.length + 1).ble fn.ntmps && st.slots.length.beq nt) then
     lR (dq E (dw E L n fn.ntmps f (ys ++ [⟨st.out.length,nt,fi,ps,assign,body,false⟩])) (dz E L n fn.ntmps f (ys ++ [⟨st.out.length,nt,fi,ps,assign,body,false⟩])) (L.ann f) (L.jn f) (f :: rp) (cj fn) (xl fn ys.length nt K))
      (jD fn.ntmps (.one (.yl ys.length) :: cs.map AV.one) st) else .fail
   | none=>.fail)
  | none=>.fail) (st.au (CA.unY ys.length))
end
def goQ {R : Type} (E : Env) (L : Opn) : List Nat → Nat → Nat → Nat → FuncId → List Rng → List Nat → Code → (AEx → ASt → Prg R) → ASt → Prg R
 | [],n,_,nt,fi,ys,rp,c,K=>dq E (dw E L n nt fi ys) (dz E L n nt fi ys) (L.ann fi) (L.jn fi) rp c K
 | x :: p, n, no, nt, fi, ys, rp, c, K => match c with
  | .seq a b=>match x with
   | 0=>goQ E L p n no nt fi ys (0 :: rp) a (qD (iD (L.jn fi) b) (1 :: rp) (dq E (dw E L n nt fi ys) (dz E L n nt fi ys) (L.ann fi) (L.jn fi) (1 :: rp) b K) K)
   | _=>goQ E L p n no nt fi ys (1 :: rp) b K
  | .cond _ a b=>match x with
   | 0=>goQ E L p n no nt fi ys (0 :: rp) a K
   | _=>goQ E L p n no nt fi ys (1 :: rp) b K
  | .block id c=>goQ E L p n no nt fi ys (0 :: rp) c (mr id K)
  | .loop c=>goQ E L p n no nt fi ys (0 :: rp) c (tG (iD (L.ann fi) c) (0 :: rp) K)
  | .rangeFunc _ ps assign body => match n with
   | n + 1=>(match L.fns x with
    | some fn=>goQ E L p n (no + nt) fn.ntmps x (ys ++ [⟨no,nt,fi,ps,assign,body,false⟩]) (x :: rp) (cj fn) (xl fn ys.length nt (K .normal))
    | none=>fun _=>.fail)
   | 0=>fun _=>.fail
  | .region id ops draw => match n with
   | n + 1 => bif (x % 2).beq 0 then (match ops.toList[(x / 2 - 1) % 1000]? with
    | some o=>(match qR L (x / 2 - 1) o.op with
     | some (f, fn) => bif !draw || bw ops.toList then goQ E L p n (no + nt) fn.ntmps f ys (x :: rp) (cj fn)
       (u5 E f fn nt o.dst (nc E draw ops.toList ((x / 2 - 1) % 1000) fun st'=>fb E L (dw E L n) (dz E L n) nt fi ys id rp draw ops.toList (K .normal) ((x / 2 - 1) % 1000 + 1) (ops.toList.drop ((x / 2 - 1) % 1000 + 1)) (jX E.T draw st' ops.toList) st')) else fun _=>.fail
     | none=>fun _=>.fail)
    | none=>fun _=>.fail)
    else (match ops.toList[((x - 3) / 2) % 1000]? with
    | some o=>(match ys[(x - 3) / 2 / 1000 / 2]? with
     | some r => bif !draw || bw ops.toList then (bif ((x - 3) / 2 / 1000 % 2).beq 0 then
       goQ E L p n (no + nt) r.nt r.fi (aR ys ((x - 3) / 2 / 1000 / 2)) (x :: rp) r.assign
        (pK (dq E (dw E L n r.nt r.fi (aR ys ((x - 3) / 2 / 1000 / 2))) (dz E L n r.nt r.fi (aR ys ((x - 3) / 2 / 1000 / 2))) (L.ann r.fi) (L.jn r.fi) (kz 1 ((x - 3) / 2 / 1000 / 2) (((x - 3) / 2) % 1000) :: rp) r.body
         (fm r nt o.dst (fun st'=>fb E L (dw E L n) (dz E L n) nt fi ys id rp draw ops.toList (K .normal) (((x - 3) / 2) % 1000 + 1) (ops.toList.drop (((x - 3) / 2) % 1000 + 1)) (jX E.T draw st' ops.toList) st'))))
       else goQ E L p n (no + nt) r.nt r.fi (aR ys ((x - 3) / 2 / 1000 / 2)) (x :: rp) r.body
        (fm r nt o.dst (fun st'=>fb E L (dw E L n) (dz E L n) nt fi ys id rp draw ops.toList (K .normal) (((x - 3) / 2) % 1000 + 1) (ops.toList.drop (((x - 3) / 2) % 1000 + 1)) (jX E.T draw st' ops.toList) st'))) else fun _=>.fail
     | none=>fun _=>.fail)
    | none=>fun _=>.fail)
   | 0=>fun _=>.fail
  | _=>fun _=>.fail
theorem Am {R:Type} (E:Env) (L:Opn) (n no nt:Nat) (fi:FuncId) (ys:List Rng) (rp:List Nat) (K:AEx→ASt→Prg R) (c:Code):goQ E L [] n no nt fi ys rp c K=dq E (dw E L n nt fi ys) (dz E L n nt fi ys) (L.ann fi) (L.jn fi) rp c K:=rfl
theorem Dd {R:Type} (E:Env) (L:Opn) (p:List Nat) (n no nt:Nat) (fi:FuncId) (ys:List Rng) (rp:List Nat) (K:AEx→ASt→Prg R) (a b:Code):goQ E L (0 :: p) n no nt fi ys rp (.seq a b) K=goQ E L p n no nt fi ys (0 :: rp) a (qD (iD (L.jn fi) b) (1 :: rp) (dq E (dw E L n nt fi ys) (dz E L n nt fi ys) (L.ann fi) (L.jn fi) (1 :: rp) b K) K):=rfl
theorem DK {R:Type} (E:Env) (L:Opn) (p:List Nat) (n no nt:Nat) (fi:FuncId) (ys:List Rng) (rp:List Nat) (K:AEx→ASt→Prg R) (a b:Code):goQ E L (1 :: p) n no nt fi ys rp (.seq a b) K=goQ E L p n no nt fi ys (1 :: rp) b K:=rfl
theorem BW {R:Type} (E:Env) (L:Opn) (p:List Nat) (n no nt:Nat) (fi:FuncId) (ys:List Rng) (rp:List Nat) (K:AEx→ASt→Prg R) (c:Operand) (a b:Code):goQ E L (0 :: p) n no nt fi ys rp (.cond c a b) K=goQ E L p n no nt fi ys (0 :: rp) a K:=rfl
theorem Bf {R:Type} (E:Env) (L:Opn) (p:List Nat) (n no nt:Nat) (fi:FuncId) (ys:List Rng) (rp:List Nat) (K:AEx→ASt→Prg R) (c:Operand) (a b:Code):goQ E L (1 :: p) n no nt fi ys rp (.cond c a b) K=goQ E L p n no nt fi ys (1 :: rp) b K:=rfl
theorem B4 {R:Type} (E:Env) (L:Opn) (p:List Nat) (n no nt:Nat) (fi:FuncId) (ys:List Rng) (rp:List Nat) (K:AEx→ASt→Prg R) (id:Nat) (c:Code) (x:Nat):goQ E L (x :: p) n no nt fi ys rp (.block id c) K=goQ E L p n no nt fi ys (0 :: rp) c (mr id K):=rfl
theorem Cv {R:Type} (E:Env) (L:Opn) (p:List Nat) (n no nt:Nat) (fi:FuncId) (ys:List Rng) (rp:List Nat) (K:AEx→ASt→Prg R) (c:Code) (x:Nat):goQ E L (x :: p) n no nt fi ys rp (.loop c) K=goQ E L p n no nt fi ys (0 :: rp) c (tG (iD (L.ann fi) c) (0 :: rp) K):=rfl
theorem Cl {R:Type} (E:Env) (L:Opn) (p:List Nat) (no nt:Nat) (fi:FuncId) (ys:List Rng) (rp:List Nat) (K:AEx→ASt→Prg R) (g:Operand) (ps:Array Tmp) (assign body:Code) (x:Nat):goQ E L (x :: p) 0 no nt fi ys rp (.rangeFunc g ps assign body) K=fun _=>.fail:=rfl
theorem zZ {R:Type} (E:Env) (L:Opn) (p:List Nat) (n no nt:Nat) (fi:FuncId) (ys:List Rng) (rp:List Nat) (K:AEx→ASt→Prg R) (g:Operand) (ps:Array Tmp) (assign body:Code) (x:Nat):goQ E L (x :: p) (n + 1) no nt fi ys rp (.rangeFunc g ps assign body) K=match L.fns x with
 | some fn=>goQ E L p n (no + nt) fn.ntmps x (ys ++ [⟨no,nt,fi,ps,assign,body,false⟩]) (x :: rp) (cj fn) (xl fn ys.length nt (K .normal))
 | none=>fun _=>.fail:=rfl
theorem tj {R:Type} (E:Env) (L:Opn) (p:List Nat) (no nt:Nat) (fi:FuncId) (ys:List Rng) (rp:List Nat) (K:AEx→ASt→Prg R) (id:Nat) (ops:Array Oper) (draw:Bool) (x:Nat):goQ E L (x :: p) 0 no nt fi ys rp (.region id ops draw) K=fun _=>.fail:=rfl
theorem rr {R : Type} (E : Env) (L : Opn) (p : List Nat) (n no nt : Nat) (fi : FuncId) (ys : List Rng) (rp : List Nat) (K : AEx → ASt → Prg R) (id : Nat) (ops : Array Oper) (draw : Bool) (x : Nat) : goQ E L (x :: p) (n + 1) no nt fi ys rp (.region id ops draw) K = bif (x % 2).beq 0 then (match ops.toList[(x / 2 - 1) % 1000]? with
    | some o=>(match qR L (x / 2 - 1) o.op with
     | some (f, fn) => bif !draw || bw ops.toList then goQ E L p n (no + nt) fn.ntmps f ys (x :: rp) (cj fn)
       (u5 E f fn nt o.dst (nc E draw ops.toList ((x / 2 - 1) % 1000) fun st'=>fb E L (dw E L n) (dz E L n) nt fi ys id rp draw ops.toList (K .normal) ((x / 2 - 1) % 1000 + 1) (ops.toList.drop ((x / 2 - 1) % 1000 + 1)) (jX E.T draw st' ops.toList) st')) else fun _=>.fail
     | none=>fun _=>.fail)
    | none=>fun _=>.fail)
    else (match ops.toList[((x - 3) / 2) % 1000]? with
    | some o=>(match ys[(x - 3) / 2 / 1000 / 2]? with
     | some r => bif !draw || bw ops.toList then (bif ((x - 3) / 2 / 1000 % 2).beq 0 then
       goQ E L p n (no + nt) r.nt r.fi (aR ys ((x - 3) / 2 / 1000 / 2)) (x :: rp) r.assign
        (pK (dq E (dw E L n r.nt r.fi (aR ys ((x - 3) / 2 / 1000 / 2))) (dz E L n r.nt r.fi (aR ys ((x - 3) / 2 / 1000 / 2))) (L.ann r.fi) (L.jn r.fi) (kz 1 ((x - 3) / 2 / 1000 / 2) (((x - 3) / 2) % 1000) :: rp) r.body
         (fm r nt o.dst (fun st'=>fb E L (dw E L n) (dz E L n) nt fi ys id rp draw ops.toList (K .normal) (((x - 3) / 2) % 1000 + 1) (ops.toList.drop (((x - 3) / 2) % 1000 + 1)) (jX E.T draw st' ops.toList) st'))))
       else goQ E L p n (no + nt) r.nt r.fi (aR ys ((x - 3) / 2 / 1000 / 2)) (x :: rp) r.body
        (fm r nt o.dst (fun st'=>fb E L (dw E L n) (dz E L n) nt fi ys id rp draw ops.toList (K .normal) (((x - 3) / 2) % 1000 + 1) (ops.toList.drop (((x - 3) / 2) % 1000 + 1)) (jX E.T draw st' ops.toList) st'))) else fun _=>.fail
     | none=>fun _=>.fail)
    | none=>fun _=>.fail):=rfl
def dR:List CA→List (Nat × Nat)
 | []=>[]
 | .sref i r _ :: l=>(i,r) :: dR l
 | .swin i r _ _ _ :: l=>(i,r) :: dR l
 | _ :: l=>dR l
def cJ (i r:Nat):List (Nat × Nat)→Nat
 | []=>0
 | (a,b) :: l=>bif a.beq i && b.beq r then cJ i r l + 1 else cJ i r l
def nh (rs:List (Nat × Nat)) (i r:Nat):Bool:=(cJ i r rs).ble 1
def nb (look:Look) (rs:List (Nat × Nat)) (c:CA) (k:TV→Prg TV):Prg TV :=
 match c with
 | .t x=>k x
 | .sref i r p=>i7 look (.sref i r p) fun x=>k (bif nh rs i r then x else frz x)
 | .swin i r p lo len=>i7 look (.swin i r p lo len) fun x=>k (bif nh rs i r then x else frz x)
 | _=>.fail
def Af (look:Look) (rs:List (Nat × Nat)):List CA→(List TV→Prg TV)→Prg TV
 | [],k=>k []
 | c :: l,k=>nb look rs c fun x=>Af look rs l fun xs=>k (x :: xs)
def Ag (look:Look) (rs:List (Nat × Nat)) (v:AV) (k:TV→Prg TV):Prg TV :=
 match v with
 | .one c=>nb look rs c k
 | .tv x=>k x
 | .agg cs=>Af look rs cs fun xs=>k (.agg xs)
 | .tups _=>.fail
 | .clo _ _=>.fail
 | .bl b=>k (.lit (.bool b))
def gives (look:Look) (rs:List (Nat × Nat)):List AV→(List TV→Prg TV)→Prg TV
 | [],k=>k []
 | v :: l,k=>Ag look rs v fun x=>gives look rs l fun xs=>k (x :: xs)
def AV.FD:AV→List (Nat × Nat)
 | .one c=>dR [c]
 | .agg cs=>dR cs
 | _=>[]
def cN:List AV→List (Nat × Nat)
 | []=>[]
 | v :: l=>v.FD ++ cN l
def Cd (T:Tab) (pure:Bool) (rs:List ResultVar) (st:ASt):Prg TV :=
 match jc T st rs with
 | some vs=>gives st.look (cN vs) vs fun xs=>(match xs with
  | [x]=>bif pure then .chk (cw x) (.ret x) else .ret x
  | xs=>bif pure then .chk (gc xs) (.ret (.tup xs)) else .ret (.tup xs))
 | none=>.fail
def nn (look:Look) (rs:List (Nat × Nat)) (i:Nat) (ty:TypeId):List CA→(List TV→Prg TV)→Prg TV
 | [],k=>k []
 | .may j t :: l,k=>bif j.beq i && t.beq ty then nn look rs i ty l (fun xs=>k (EA :: xs)) else .fail
 | c :: l,k=>nb look rs c fun x=>nn look rs i ty l fun xs=>k (x :: xs)
def qt (xs:List TV):TV:=match xs with | [x]=>x | xs=>.tup xs
def Dp (T:Tab) (ld:fL) (rs:List ResultVar) (st:ASt):Prg TV :=
 match jc T st rs,st.out with
 | some vs,[.one (.ptr i 0)]=>match st.look i with
  | some (.cells cs)=>gives st.look (cN vs ++ dR cs) vs fun xs=>nn st.look (cN vs ++ dR cs) i ld.ty cs fun ys=>.ret (.tup [qt xs,.tup ys])
  | _=>.fail
 | _,_=>.fail
def resP (T : Tab) (rs : List ResultVar) (st : ASt) : Prg TV :=
 match jc T st rs with
 | some [v] => (match v.tv? with
  | some x=>.ret x
  | none => match v with
   | .agg cs=>(match ef cs with
    | some xs=>.ret (.agg xs)
    | none=>.fail)
   | _=>.fail)
 | _=>.fail
def EK (T:Tab) (ld:Option fL) (pk pure:Bool) (rs:List ResultVar) (st:ASt):Prg TV :=
 bif pk then resP T rs st else match ld with
 | none=>Cd T pure rs st
 | some ld=>Dp T ld rs st
def ga (ld:fL) (ntmps:Nat) (cs args:List TV):ASt :=
 ⟨.one (.ptr 0 0) :: (args.map (fun x => .tv x) ++ List.replicate (ntmps - (args.length + 1)) (.one .undef)),
  some (.cells (gq 0 1 ld.ty ld.fl cs 0)) :: some (.tree (cW ld.fl cs)) :: List.replicate (cZ + ntmps) none,[.one (.ptr 0 0)]⟩
def kG (ntmps:Nat) (cs args:List TV):ASt :=
 ⟨args.map (fun x=>.tv x) ++ (.one (.ref cs 0) :: List.replicate (ntmps - (args.length + 1)) (.one .undef)),List.replicate (cZ + ntmps) none,[]⟩
def jx (ntmps:Nat) (args:List TV):ASt :=
 ⟨args.map (fun x=>.tv x) ++ List.replicate (ntmps - args.length) (.one .undef),List.replicate (cZ + ntmps) none,[]⟩
def vY (c:Nat × Nat) (x:TV):List TV:=ao (List.replicate c.2 .hole) c.1 x
def jj (c:Nat × Nat) (ntmps:Nat) (x:TV) (args:List TV):ASt :=
 ⟨.one (.ref (vY c x) 0) :: (args.map (fun x=>.tv x) ++ List.replicate (ntmps - (args.length + 1)) (.one .undef)),List.replicate (cZ + ntmps) none,[]⟩
def Cj (T:Tab) (ld:Option fL) (pk pure:Bool) (rs:List ResultVar):AEx→ASt→Prg TV
 | .normal,st=>EK T ld pk pure rs st
 | .ret,st=>EK T ld pk pure rs st
 | _,_=>.fail
structure AProg where
 T:Tab
 pure:FuncId→Bool
 rts:FuncId→List TypeId
 fns:FuncId→Option Func
 ann:FuncId→Nat→Option Ann
 jn:FuncId→Nat→Option Ann
 lent:FuncId→Option fL
 selfT:TypeId→Bool
 ext:FuncId→Option (List TV→Option TV)
 opn:FuncId→Bool
 kp:FuncId→Nat→Option (List Nat)
 peek:FuncId→Option (Nat × Nat)
 turn:FuncId→Bool
 mth:TypeId→String→Option (FuncId × Bool)
 eye:FuncId→Bool
 cold:TypeId→Bool
def AProg.env (A:AProg):Env:=⟨A.T,A.pure,A.rts,A.lent,A.selfT,A.peek,A.turn,A.eye,A.cold⟩
def AProg.opens (A:AProg):Opn:=⟨fun f=>bif A.opn f then A.fns f else none,A.ann,A.jn,A.kp,A.mth⟩
def vf:Nat:=8
def qc (A:AProg) (f:FuncId):Nat:=match A.peek f with | some _=>0 | none=>bif (A.lent f).isSome then 1 else 0
def fD (A:AProg) (f:FuncId) (rp:List Nat) (st:ASt):Prg TV :=
 match A.fns f with
 | some fn=>goQ A.env A.opens rp.reverse vf (qc A f) fn.ntmps f [] [] (cj fn) (Cj A.T (A.lent f) (A.peek f).isSome (A.pure f) fn.results.toList) st
 | none=>.fail
def rP:List TV→Option (List TV × TV)
 | []=>none
 | [x]=>some ([],x)
 | x :: y :: l=>match rP (y :: l) with
  | some (asz,z)=>some (x :: asz,z)
  | none=>none
def dC (A:AProg) (f:FuncId) (args:List TV):Prg TV :=
 bif A.turn f || (A.eye f && ((A.peek f).isSome || (A.lent f).isSome)) then .fail else match A.peek f with
 | some c=>(match A.fns f,args with
  | some fn,x :: rest=>bif (rest.length + 1).beq fn.params.size && (rest.length + 1).ble fn.ntmps && c.1.blt c.2 then fD A f [] (jj c fn.ntmps x rest) else .fail
  | _,_=>.fail)
 | none=>match A.fns f with
 | some fn => match A.lent f with
  | none=>bif A.eye f then (match rP args with
   | some (asz,.agg cs)=>bif asz.length.beq fn.params.size && (asz.length + 1).ble fn.ntmps then fD A f [] (kG fn.ntmps cs asz) else .fail
   | _=>.fail) else bif args.length.beq fn.params.size && args.length.ble fn.ntmps then fD A f [] (jx fn.ntmps args) else .fail
  | some ld=>match args with
   | .tup cs :: rest=>bif (rest.length + 1).beq fn.params.size && (rest.length + 1).ble fn.ntmps then .chk (ol ld.fl cs) (fD A f [] (ga ld fn.ntmps cs rest)) else .fail
   | _=>.fail
 | none=>.fail
def jk (A:AProg) (C:FuncId→List TV→Option TV) (f:FuncId):Nat→List Nat→ASt→Option TV
 | 0,_,_=>none
 | n + 1,p,st=>(fD A f p st).run C (jk A C f n)
def acall (A:AProg):Nat→FuncId→List TV→Option TV
 | 0,_,_=>none
 | n + 1,f,args=>match A.ext f with
  | some g=>g args
  | none=>(dC A f args).run (acall A n) (jk A (acall A n) f n)
end Go.Ab

import Derived.Calls
import Derived.Laws.Sem
import Derived.KernelRfl
set_option linter.all false
namespace Go.Ab
theorem EJ {α : Type} {i : Nat} {a : α} {l : List α} : l[i]? = some a ↔ ∃ h : i < l.length, l[i] = a := List.getElem?_eq_some_iff
theorem EK {α : Type} {l : List α} {i : Nat} (h : i < l.length) : l[i]? = some l[i] := List.getElem?_eq_getElem h
theorem EL {α : Type} (a b : α) : (some a = some b) = (a = b) := Option.some.injEq a b
theorem EM (a b : Bool) : ((a && b) = true) = (a = true ∧ b = true) := Bool.and_eq_true a b
theorem EN {α : Type} {xs : Array α} {i : Nat} : xs.toList[i]? = xs[i]? := Array.getElem?_toList
theorem EO {α : Type} {i : Nat} {b : α} {xs : Array α} : xs[i]? = some b ↔ ∃ h : i < xs.size, xs[i] = b := Array.getElem?_eq_some_iff
theorem EP {α : Type} {β : Type} {f : α → β} {l : List α} {i : Nat} : (List.map f l)[i]? = Option.map f l[i]? := List.getElem?_map
theorem EQ {α : Type} {a : α} {l : List α} : a ∈ a :: l := List.mem_cons_self
theorem ER {α : Type} (y : α) {a : α} {l : List α} : a ∈ l → a ∈ y :: l := List.mem_cons_of_mem y
theorem ES {α : Type} {l : List α} {i : Nat} {a : α} : l[i]? = some a → a ∈ l := List.mem_of_getElem?
theorem ET {α : Type} {l m : List α} {i : Nat} : i < l.length → (l ++ m)[i]? = l[i]? := List.getElem?_append_left
theorem EU {α : Type} {l m : List α} {i : Nat} : l.length ≤ i → (l ++ m)[i]? = m[i - l.length]? := List.getElem?_append_right
theorem EV {α : Type} {l : List α} {i : Nat} : l.length ≤ i → l[i]? = none := List.getElem?_eq_none
theorem EW {α : Type} {β : Type} (a : α) (f : α → β) : Option.map f (some a) = some (f a) := Option.map_some a f
theorem EX {α : Type} {l : List α} {i : Nat} {a : α} : l.getD i a = l[i]?.getD a := List.getD_eq_getElem?_getD
theorem EY {α : Type} {xs : Array α} {i : Nat} {d : α} : xs.getD i d = xs[i]?.getD d := Array.getD_eq_getD_getElem?
inductive TV where
 | lit (v:Value)
 | sl (own:Bool) (size:Nat) (xs:List (List TV))
 | agg (cs:List TV)
 | tup (vs:List TV)
 | buf (s:ByteArray) (e:Nat)
 | hole
abbrev Way:=List (Nat × Nat)
inductive CA where
 | t (x:TV)
 | ptr (i off:Nat)
 | ref (x:List TV) (off:Nat)
 | tptr (i r:Nat) (p:Way) (k j:Nat)
 | sref (i r:Nat) (p:Way)
 | swin (i r:Nat) (p:Way) (lo len:Nat)
 | may (i:Nat) (ty:TypeId)
 | aptr (i off len n:Nat)
 | yl (n:Nat)
 | undef
 | junk
inductive AV where
 | one (c:CA)
 | agg (cs:List CA)
 | tv (x:TV)
 | tups (cs:List (Bool × List CA))
 | bl (b:Bool)
 | clo (f:FuncId) (cs:List CA)
inductive BC where
 | cells (cs:List CA)
 | tree (xs:List TV)
structure ASt where
 slots:List AV
 boxes:List (Option BC)
 out:List AV
inductive Kd where
 | bool | int (k:IntKind) | str | slice (e:TypeId) | struct | arr (n:Nat) (e:TypeId) | other | ptr
structure TyD where
 size:Nat
 bytes:Nat
 kd:Kd
 zero:List Value
 fields:List (Nat × TypeId)
def Kd.isAgg:Kd→Bool
 | .struct=>true
 | .arr _ _=>true
 | _=>false
abbrev Tab:=TypeId→Option TyD
def nth {α:Type} (d:α):List α→Nat→α
 | [],_=>d
 | a :: _,0=>a
 | _ :: l,n + 1=>nth d l n
def ao {α:Type}:List α→Nat→α→List α
 | [],_,_=>[]
 | _ :: l,0,b=>b :: l
 | a :: l,n + 1,b=>a :: ao l n b
def cf (n:Nat):List Nat→Bool
 | []=>false
 | a :: l=>bif a.beq n then true else cf n l
def sh:List (Nat × TyD)→Tab
 | [],_=>none
 | (k,d) :: r,t=>bif k.beq t then some d else sh r t
def bo {α:Type} (l:List α) (off:Nat):List α→List α
 | []=>l
 | a :: r=>bo (ao l off a) (off + 1) r
def lc {α:Type}:List α→Nat→Nat→Option (List α)
 | _,_,0=>some []
 | [],_,_ + 1=>none
 | a :: l,0,n + 1=>match lc l 0 n with
  | some r=>some (a :: r)
  | none=>none
 | _ :: l,o + 1,n + 1=>lc l o (n + 1)
def aI:Value:=.slice none 0 0
def TV.cell (x:TV) (j:Nat):TV:=match x with | .agg cs=>nth .hole cs j | _=>.hole
def TV.comp (x:TV) (j:Nat):TV:=match x with | .tup cs=>nth .hole cs j | _=>.hole
def TV.isAgg (x:TV) (n:Nat):Bool:=match x with | .agg cs=>cs.length.beq n | _=>false
def TV.isTup (x:TV) (n:Nat):Bool:=match x with | .tup cs=>cs.length.beq n | _=>false
def aC:Value→Bool
 | .slice none 0 0=>true
 | _=>false
def scV:Value→Bool
 | .slice _ _ _=>false
 | .agg _=>false
 | .tuple _=>false
 | _=>true
def TV.isSc (x:TV):Bool:=match x with | .lit v=>scV v | _=>false
def TV.isSl (x:TV):Bool:=match x with | .lit v=>aC v | .sl _ _ _=>true | _=>false
def TV.la (x:TV):Bool:=match x with | .lit _=>true | .sl o _ _=>!o | _=>false
def TV.ej (x:TV):Bool:=match x with | .lit v=>v.oneCell' | .sl _ _ _=>true | _=>false
def TV.lf (x:TV):TV:=match x with | .lit v=>.lit v | _=>.hole
def lfL:List TV→List TV
 | []=>[]
 | x :: l=>x.lf :: lfL l
def vF:List (List TV)→List (List TV)
 | []=>[]
 | x :: l=>lfL x :: vF l
mutual
def frz:TV→TV
 | .lit v=>.lit v
 | .sl _ s xs=>.sl false s (sF xs)
 | .agg cs=>.agg (ms cs)
 | .tup cs=>.tup (ms cs)
 | .buf _ _=>.hole
 | .hole=>.hole
def ms:List TV→List TV
 | []=>[]
 | x :: l=>frz x :: ms l
def sF:List (List TV)→List (List TV)
 | []=>[]
 | x :: l=>ms x :: sF l
end
mutual
def isOwn:TV→Bool
 | .lit _=>true
 | .sl o _ xs=>o && mc xs
 | .agg cs=>aV cs
 | .tup cs=>aV cs
 | .buf _ _=>true
 | .hole=>true
def aV:List TV→Bool
 | []=>true
 | x :: l=>isOwn x && aV l
def mc:List (List TV)→Bool
 | []=>true
 | x :: l=>aV x && mc l
end
def asBool:TV→Option Bool
 | .lit (.bool b)=>some b
 | _=>none
def fnOf:TV→Option Nat
 | .lit (.func (.func f) ts fs)=>bif ts.size.beq 0 && fs.size.beq 0 then some f else none
 | _=>none
def aj:TV→Option Nat
 | .lit (.int _ n)=>if 0≤n∧n≤9223372036854775807 then some n.toNat else none
 | _=>none
def aF:Way→TV→Option TV
 | [],x=>some x
 | (k, j) :: p, .sl _ _ xs => match xs[k]? with
  | some e=>match e[j]? with
   | some y=>aF p y
   | none=>none
  | none=>none
 | _ :: _,_=>none
def kC : Way → TV → TV → Option TV
 | [],_,y=>some y
 | (k, j) :: p, .sl true s xs, y => match xs[k]? with
  | some e => match e[j]? with
   | some z=>match kC p z y with
    | some z'=>some (.sl true s (ao xs k (ao e j z')))
    | none=>none
   | none=>none
  | none=>none
 | _ :: _,_,_=>none
def pel (x:TV) (k:Nat):Option (List TV):=match x with | .sl _ _ xs=>xs[k]? | _=>none
def mG (x:TV) (k j:Nat) (ys:List TV):Option TV :=
 match x with
 | .sl true s xs=>match xs[k]? with
  | some e=>some (.sl true s (ao xs k (bo e j ys)))
  | none=>none
 | _=>none
def bI (p:Way) (x:TV) (k j:Nat) (ys:List TV):Option TV :=
 match aF p x with
 | some s=>match mG s k j ys with
  | some s'=>kC p x s'
  | none=>none
 | none=>none
def dS (lo len:Nat) (x:TV):Option TV :=
 match x with
 | .sl o s xs=>if lo + len≤xs.length then some (.sl o s ((xs.drop lo).take len)) else none
 | .lit (.slice none 0 0)=>if lo=0∧len=0 then some (.lit aI) else none
 | _=>none
def room:Nat:=4294967296
def Ck (size:Nat) (xs:List (List TV)):TV:=match xs with | []=>.lit aI | x :: l=>.sl true size (x :: l)
def papp (size:Nat) (x:TV) (news:List (List TV)):Option TV :=
 match x with
 | .lit (.slice none 0 0)=>if news.length≤room then some (Ck size news) else none
 | .sl true s xs=>if s=size∧xs.length + news.length≤room then some (.sl true s (xs ++ news)) else none
 | _=>none
def pcopy (size:Nat) (x:TV) (news:List (List TV)):Option TV :=
 match x with
 | .sl true s xs=>if s=size then some (.sl true s (news.take xs.length ++ xs.drop news.length)) else none
 | .lit (.slice none 0 0)=>some (.lit aI)
 | _=>none
def slLen (x:TV):Option Nat:=match x with | .sl _ _ xs=>some xs.length | .lit (.slice none 0 0)=>some 0 | _=>none
def slSize (x:TV) (size:Nat):Bool:=match x with | .sl _ s _=>s.beq size | .lit (.slice none 0 0)=>true | _=>false
def ab:List Value→List TV→Nat→Bool
 | [],_,_=>true
 | z :: zs,e,j=>match e[j]? with
  | some c=>(bif aC z then c.isSl else c.isSc) && ab zs e (j + 1)
  | none=>false
def TV.isHole (x:TV):Bool:=match x with | .hole=>true | _=>false
def a7:List Value→List TV→Nat→Bool
 | [],_,_=>true
 | z :: zs,e,j=>match e[j]? with
  | some c=>(bif aC z then c.isSl || c.isHole else c.isSc) && a7 zs e (j + 1)
  | none=>false
def nc (op:BinOp) (k:IntKind) (a b:Int):Option TV :=
 match op with
 | .add=>some (.lit (.int k (k.wrap (a + b))))
 | .sub=>some (.lit (.int k (k.wrap (a - b))))
 | .mul=>some (.lit (.int k (k.wrap (a * b))))
 | .quo=>if b=0 then none else some (.lit (.int k (k.wrap (a.tdiv b))))
 | .rem=>if b=0 then none else some (.lit (.int k (a.tmod b)))
 | .eql=>some (.lit (.bool (a == b)))
 | .neq=>some (.lit (.bool (a != b)))
 | .lss=>some (.lit (.bool (decide (a < b))))
 | .leq=>some (.lit (.bool (decide (a≤b))))
 | .gtr=>some (.lit (.bool (decide (a > b))))
 | .geq=>some (.lit (.bool (decide (a ≥ b))))
 | .and=>some (.lit (.int k (k.wrap ((BitVec.ofInt k.bits a &&& BitVec.ofInt k.bits b).toNat))))
 | .or=>some (.lit (.int k (k.wrap ((BitVec.ofInt k.bits a ||| BitVec.ofInt k.bits b).toNat))))
 | _=>none
def yH (op:BinOp) (a b:ByteArray):Option TV :=
 match op with
 | .eql=>some (.lit (.bool (a.toList == b.toList)))
 | .neq=>some (.lit (.bool (!(a.toList == b.toList))))
 | .lss=>some (.lit (.bool (Op.bytesLess a.toList b.toList)))
 | .add=>if ((a.size + b.size:Nat):Int) > IntKind.i64.max then none else some (.lit (.string (a ++ b)))
 | _=>none
def ym (op:BinOp) (b:Bool):Option TV :=
 match op with
 | .eql=>some (.lit (.bool b))
 | .neq=>some (.lit (.bool !b))
 | _=>none
def pbin (kd:Kd) (op:BinOp) (x y:TV):Option TV :=
 match kd,x,y with
 | .int _,.lit (.int k a),.lit (.int k' b)=>if k=k' then nc op k a b else none
 | .bool,.lit (.bool a),.lit (.bool b)=>ym op (a == b)
 | .str,.lit (.string a),.lit (.string b)=>yH op a b
 | .slice _,.lit (.slice none _ _),.lit (.slice none _ _)=>ym op true
 | .slice _,.sl _ _ _,.lit (.slice none _ _)=>ym op false
 | _,_,_=>none
def pun (op:UnOp) (x:TV):Option TV :=
 match op,x with
 | .not,.lit (.bool b)=>some (.lit (.bool !b))
 | .neg,.lit (.int k n)=>some (.lit (.int k (k.wrap (0 - n))))
 | _,_=>none
def pconv (kd:Kd) (x:TV):Option TV :=
 match kd,x with
 | .int k,.lit (.int _ n)=>some (.lit (.int k (k.wrap n)))
 | .str,.lit (.string s)=>some (.lit (.string s))
 | .str,.lit (.int _ n)=>some (.lit (.string (Utf8.encode n)))
 | _,_=>none
def isByteD (d:TyD):Bool:=match d.kd,d.zero with
 | .int .u8,[.int .u8 0]=>d.size.beq 1 && d.bytes.beq 1
 | _,_=>false
def Em:List (List TV)→Option (List Int)
 | []=>some []
 | [.lit (.int .u8 n)] :: l=>match Em l with
  | some r=>some (n :: r)
  | none=>none
 | _=>none
def plen (kd:Kd) (x:TV):Option TV :=
 match kd,x with
 | .slice _,.lit (.slice none 0 _)=>some (.lit (.int .i64 0))
 | .str,.lit (.string s)=>some (.lit (.int .i64 s.size))
 | .slice _,.sl _ _ xs=>some (.lit (.int .i64 xs.length))
 | _,_=>none
def pidx (size:Nat) (x i:TV):Option (List TV) :=
 match x,i with
 | .sl _ s xs,.lit (.int _ n)=>if s=size∧0≤n then xs[n.toNat]? else none
 | _,_=>none
def pslice (kd:Kd) (sz:Nat) (x:TV) (lo hi:Option Nat):Option TV :=
 match kd,x with
 | .slice _,.sl o s xs =>
  if s=sz∧lo.getD 0≤hi.getD xs.length∧hi.getD xs.length≤xs.length then some (.sl o s ((xs.drop (lo.getD 0)).take (hi.getD xs.length - lo.getD 0))) else none
 | .slice _,.lit (.slice none 0 0)=>if lo.getD 0=0∧hi.getD 0=0 then some (.lit aI) else none
 | .str,.lit (.string s) =>
  if lo.getD 0≤hi.getD s.size∧hi.getD s.size≤s.size then some (.lit (.string (s.extract (lo.getD 0) (hi.getD s.size)))) else none
 | _,_=>none
def pstr (x i:TV):Option TV :=
 match x,i with
 | .lit (.string s),.lit (.int _ n)=>if 0≤n then (s[n.toNat]?).map fun b=>.lit (.int .u8 b.toNat) else none
 | _,_=>none
def pelems (size:Nat):TV→Option (List (List TV))
 | .lit (.slice none 0 _)=>some []
 | .sl _ s xs=>if s=size then some xs else none
 | _=>none
inductive Prg (R:Type) where
 | fail
 | ret (r:R)
 | tv (p:Option TV) (k:TV→Prg R)
 | tvs (p:Option (List TV)) (k:List TV→Prg R)
 | rws (p:Option (List (List TV))) (k:List (List TV)→Prg R)
 | nat (p:Option Nat) (k:Nat→Prg R)
 | chk (b:Bool) (k:Prg R)
 | ite (b:Option Bool) (t e:Prg R)
 | call (f:FuncId) (xs:List TV) (k:TV→Prg R)
 | jmp (p:List Nat) (st:ASt)
def Prg.bind {R S:Type} (f:R→Prg S):Prg R→Prg S
 | .fail=>.fail
 | .ret r=>f r
 | .tv p k=>.tv p fun v=>(k v).bind f
 | .tvs p k=>.tvs p fun v=>(k v).bind f
 | .rws p k=>.rws p fun v=>(k v).bind f
 | .nat p k=>.nat p fun v=>(k v).bind f
 | .chk b k=>.chk b (k.bind f)
 | .ite b t e=>.ite b (t.bind f) (e.bind f)
 | .call g xs k=>.call g xs fun v=>(k v).bind f
 | .jmp _ _=>.fail
def Prg.run {R:Type} (C:FuncId→List TV→Option TV) (J:List Nat→ASt→Option R):Prg R→Option R
 | .fail=>none
 | .ret r=>some r
 | .tv p k=>p.bind fun v=>(k v).run C J
 | .tvs p k=>p.bind fun v=>(k v).run C J
 | .rws p k=>p.bind fun v=>(k v).run C J
 | .nat p k=>p.bind fun v=>(k v).run C J
 | .chk b k=>bif b then k.run C J else none
 | .ite b t e=>b.bind fun b=>bif b then t.run C J else e.run C J
 | .call f xs k=>(C f xs).bind fun v=>(k v).run C J
 | .jmp p st=>J p st
inductive Prim where
 | drop (i r:Nat) (js:List Nat) (strict:Bool)
 | root (i r:Nat) (x:TV)
 | frz (i r:Nat)
 | unmay (i:Nat)
 | newB (b:BC)
 | setB (i:Nat) (cs:List CA)
inductive Eff where
 | val (v:AV)
 | new (b:BC) (v:AV)
 | upd (i:Nat) (b:BC) (v:AV)
 | gen (ps:List Prim) (v:AV)
abbrev Out:=Prg Eff
def ASt.ev (st:ASt):Operand→AV
 | .tmp t=>nth (.one .junk) st.slots t
 | .const (.bool b)=>.bl b
 | .const v=>bif v.oneCell' then .one (.t (.lit v)) else .tv (.lit v)
 | .global g=>.tv (.lit (.pointer (some ⟨g,0,none⟩)))
 | .func f=>.tv (.lit (.func (.func f) #[] #[]))
def AV.tv? : AV→Option TV
 | .one (.t x)=>some x
 | .tv x=>some x
 | .bl b=>some (.lit (.bool b))
 | _=>none
abbrev Look:=Nat→Option BC
def CA.kept:CA→Bool
 | .undef=>false
 | .junk=>false
 | _=>true
def AV.bd {R:Type} (agg:Bool) (n:Nat) (v:AV) (k:List CA→Prg R):Prg R :=
 match agg,v with
 | false,.one c=>bif c.kept then k [c] else .fail
 | false,.tv x=>.chk x.ej (k [.t x])
 | false,.bl b=>k [.t (.lit (.bool b))]
 | true,.agg cs=>bif cs.length.beq n then k cs else .fail
 | true,.tv x=>.chk (x.isAgg n) (k ((List.range n).map fun j=>.t (x.cell j)))
 | _,_=>.fail
def kR {R:Type}:List AV→(List CA→Prg R)→Prg R
 | [],k=>k []
 | v :: l,k=>v.bd false 1 fun cs=>kR l fun cs'=>k (cs ++ cs')
def dv (agg:Bool):List CA→Option AV
 | []=>bif agg then some (.agg []) else none
 | c :: cs=>bif agg then some (.agg (c :: cs)) else (match cs with | []=>some (.one c) | _=>none)
def qP {R:Type} (p:Way) (x:TV) (k:TV→Prg R):Prg R :=
 match p with
 | []=>k x
 | _=>.tv (aF p x) k
def setO {R:Type} (p:Way) (x y:TV) (k:TV→Prg R):Prg R :=
 match p with
 | []=>k y
 | _=>.tv (kC p x y) k
def cA (look:Look) (i r:Nat):Option TV :=
 match look i with
 | some (.tree xs)=>bif r.blt xs.length then some (nth .hole xs r) else none
 | _=>none
def jg {R:Type} (look:Look) (c:CA) (k:TV→Prg R):Prg R :=
 match c with
 | .t x=>k x
 | .sref i r p=>match cA look i r with
  | some x=>qP p x k
  | none=>.fail
 | .swin i r p lo len=>match cA look i r with
  | some x=>qP p x fun y=>.tv (dS lo len y) k
  | none=>.fail
 | _=>.fail
def vW {R:Type} (look:Look) (v:AV) (k:TV→Prg R):Prg R :=
 match v with
 | .one c=>jg look c k
 | .tv x=>k x
 | .bl b=>k (.lit (.bool b))
 | _=>.fail
def rV {R:Type} (look:Look) (c:CA) (k:TV→Prg R):Prg R :=
 match c with
 | .t x=>k x
 | .sref i r p=>jg look (.sref i r p) fun x=>k (frz x)
 | .swin i r p lo len=>jg look (.swin i r p lo len) fun x=>k (frz x)
 | _=>.fail
def Ac {R:Type} (look:Look):List CA→(List TV→Prg R)→Prg R
 | [],k=>k []
 | c :: l,k=>rV look c fun x=>Ac look l fun xs=>k (x :: xs)
def sf {R:Type} (look:Look) (v:AV) (k:TV→Prg R):Prg R :=
 match v with
 | .one c=>rV look c k
 | .tv x=>k x
 | .agg cs=>Ac look cs fun xs=>k (.agg xs)
 | .tups _=>.fail
 | .clo _ _=>.fail
 | .bl b=>k (.lit (.bool b))
def lends {R:Type} (look:Look):List AV→(List TV→Prg R)→Prg R
 | [],k=>k []
 | v :: l,k=>sf look v fun x=>lends look l fun xs=>k (x :: xs)
def tE {R:Type} (look:Look) (c:CA) (k:TV→List (Nat × Nat)→Prg R):Prg R :=
 match c with
 | .t x=>k x []
 | .sref i r p => match cA look i r with
  | some x=>(match p with
   | []=>k (frz x) [(i,r)]
   | _=>.tv (aF p x) fun y=>.chk y.la (k y []))
  | none=>.fail
 | .swin i r p lo len => match cA look i r with
  | some x=>(match p with
   | []=>.tv (dS lo len x) fun y=>k (frz y) [(i,r)]
   | _=>.tv (aF p x) fun z=>.tv (dS lo len z) fun y=>.chk y.la (k y []))
  | none=>.fail
 | _=>.fail
def zy {R:Type} (look:Look):List CA→(List TV→List (Nat × Nat)→Prg R)→Prg R
 | [],k=>k [] []
 | c :: l,k=>tE look c fun x r=>zy look l fun xs rs=>k (x :: xs) (r ++ rs)
def tj {R:Type} (look:Look) (v:AV) (k:TV→List (Nat × Nat)→Prg R):Prg R :=
 match v with
 | .one c=>tE look c k
 | .tv x=>k x []
 | .agg cs=>zy look cs fun xs rs=>k (.agg xs) rs
 | .tups _=>.fail
 | .clo _ _=>.fail
 | .bl b=>k (.lit (.bool b)) []
def hands {R:Type} (look:Look):List AV→(List TV→List (Nat × Nat)→Prg R)→Prg R
 | [],k=>k [] []
 | v :: l,k=>tj look v fun x r=>hands look l fun xs rs=>k (x :: xs) (r ++ rs)
def uc:List (Nat × Nat)→List Prim
 | []=>[]
 | (i,r) :: l=>.frz i r :: uc l
inductive Fl where
 | sc | sl | may | bf (e:Nat) | any
structure fh where
 ty:TypeId
 fl:List Fl
structure Env where
 T:Tab
 pure:FuncId→Bool
 rts:FuncId→List TypeId
 lent:FuncId→Option fh
 selfT:TypeId→Bool
 peek:FuncId→Option (Nat × Nat)
def CA.add:CA→Nat→Option CA
 | .ptr i off,n=>some (.ptr i (off + n))
 | .ref x off,n=>some (.ref x (off + n))
 | .tptr i r p k j,n=>some (.tptr i r p k (j + n))
 | _,_=>none
def bW {R:Type} (at_:Nat→Option (Nat × Bool × Nat)):List Nat→List AV→List CA→(List CA→Prg R)→Prg R
 | [],[],cs,k=>k cs
 | i :: is,x :: rest,cs,k=>match at_ i with
  | some (off,agg,n)=>x.bd agg n fun ps=>bif (off + ps.length).ble cs.length && ps.length.beq n then bW at_ is rest (bo cs off ps) k else .fail
  | none=>.fail
 | _,_,_,_=>.fail
def places (T:Tab) (d:TyD) (i:Nat):Option (Nat × Bool × Nat) :=
 match d.kd with
 | .struct => match d.fields[i]? with
  | some (off,ty)=>match T ty with
   | some e=>some (off,e.kd.isAgg,e.size)
   | none=>none
  | none=>none
 | .arr _ e=>match T e with
  | some e=>some (i * e.size,e.kd.isAgg,e.size)
  | none=>none
 | _=>none
def chunks {α:Type} (size:Nat):Nat→List α→List (List α)
 | 0,_=>[]
 | n + 1,l=>l.take size :: chunks size n (l.drop size)
def vt (x:TV):Out:=.ret (.val (.one (.t x)))
def kw:TV→Bool
 | .lit (.slice none 0 0)=>true
 | _=>false
def cb:Way→List Nat
 | []=>[]
 | (_,j) :: p=>j :: cb p
def gH:List Value→Bool
 | []=>false
 | z :: l=>bif aC z then true else gH l
def bH {R:Type} (look:Look):List CA→(List TV→List Prim→List (Nat × Nat)→Prg R)→Prg R
 | [],k=>k [] [] []
 | .t x :: l,k=>bH look l fun xs ps ts=>k (x :: xs) ps ts
 | .sref i r p :: l, k => match cA look i r with
  | some x=>(match p with
   | []=>bH look l fun xs ps ts=>k (x :: xs) (.drop i r [] false :: .root i r .hole :: ps) ((i,r) :: ts)
   | _=>.tv (aF p x) fun y=>.chk y.la (bH look l fun xs ps ts=>k (y :: xs) ps ts))
  | none=>.fail
 | .swin i r p lo len :: l, k => match cA look i r with
  | some x=>(match p with
   | []=>.tv (dS lo len x) fun y=>bH look l fun xs ps ts=>k (y :: xs) (.drop i r [] false :: .root i r .hole :: ps) ((i,r) :: ts)
   | _=>.tv (aF p x) fun z=>.tv (dS lo len z) fun y=>.chk y.la (bH look l fun xs ps ts=>k (y :: xs) ps ts))
  | none=>.fail
 | _,_=>.fail
def ie (i r:Nat):List (Nat × Nat)→Bool
 | []=>false
 | (a,b) :: l=>bif a.beq i && b.beq r then true else ie i r l
def dl:List (Nat × Nat)→Bool
 | []=>true
 | (a,b) :: l=>!ie a b l && dl l
def xa (i:Nat):List (Nat × Nat)→Bool
 | []=>true
 | (a,_) :: l=>bif a.beq i then false else xa i l
def pP (i:Nat):Option Nat→Bool
 | some j=>i.beq j
 | none=>false
def xi {R : Type} (look : Look) (d : TyD) (dest : Option Nat) (x : AV) (k : List (List TV) → List Prim → Prg R) : Prg R :=
 match x.tv? with
 | some x=>.rws (pelems d.size x) fun xs=>k xs []
 | none => match x with
  | .one c => bif gH d.zero then
    (match c with
    | .sref i r p => match cA look i r with
     | some x=>(match p with
      | []=>bif pP i dest then .fail else .rws (pelems d.size x) fun xs=>k xs [.drop i r [] false,.root i r .hole]
      | _=>.tv (aF p x) fun y=>.chk y.la (.rws (pelems d.size y) fun xs=>k xs []))
     | none=>.fail
    | .swin i r p lo len => match cA look i r with
     | some x=>(match p with
      | []=>bif pP i dest then .fail else .tv (dS lo len x) fun y=>.rws (pelems d.size y) fun xs=>k xs [.drop i r [] false,.root i r .hole]
      | _=>.tv (aF p x) fun z=>.tv (dS lo len z) fun y=>.chk y.la (.rws (pelems d.size y) fun xs=>k xs []))
     | none=>.fail
    | _=>.fail)
   else jg look c fun s=>.rws (pelems d.size s) fun xs=>k (vF xs) []
  | _=>.fail
def yA (look:Look) (kd:Kd) (x:AV):Out :=
 match kd with
 | .arr n _=>vt (.lit (.int .i64 n))
 | kd=>vW look x fun s=>.tv (plen kd s) vt
def cV (ps:List Prim) (b:BC) (v:AV):Eff:=match ps with | []=>.new b v | _=>.gen (ps ++ [.newB b]) v
def rU:AV→Option Nat
 | .one (.sref i _ _)=>some i
 | .one (.swin i _ _ _ _)=>some i
 | _=>none
def nD (id : Nat) (look : Look) (d : TyD) (s : AV) (news : List (List TV)) (ps : List Prim) : Out :=
 match s.tv? with
 | some s=>bif kw s then .tv (papp d.size s news) fun y=>.ret (cV ps (.tree [y]) (.one (.sref id 0 []))) else .fail
 | none => match s with
  | .one (.sref i r p) => match cA look i r with
   | some x=>(match p with
    | []=>.tv (papp d.size x news) fun y=>.ret (.gen (ps ++ [.drop i r [] false,.root i r y]) (.one (.sref i r [])))
    | _=>.tv (aF p x) fun z=>.tv (papp d.size z news) fun y=>.tv (kC p x .hole) fun x'=>.ret (.gen (ps ++ [.drop i r (cb p) false,.root i r x',.newB (.tree [y])]) (.one (.sref id 0 []))))
   | none=>.fail
  | .one (.swin i r p lo len) => match cA look i r with
   | some x=>(match p with
    | []=>.tv (dS lo len x) fun z=>.tv (papp d.size z news) fun y=>.ret (.gen (ps ++ [.drop i r [] false,.root i r y]) (.one (.sref i r [])))
    | _=>.tv (aF p x) fun z0=>.tv (dS lo len z0) fun z=>.tv (papp d.size z news) fun y=>.tv (kC p x .hole) fun x'=>.ret (.gen (ps ++ [.drop i r (cb p) false,.root i r x',.newB (.tree [y])]) (.one (.sref id 0 []))))
   | none=>.fail
  | _=>.fail
def nB (id:Nat) (look:Look) (d:TyD) (s x:AV):Out :=
 bif d.bytes.ble 4096 && Nat.blt 0 d.size then xi look d (rU s) x fun news ps=>nD id look d s news ps else .fail
def zj (look : Look) (d : TyD) (s x : AV) : Out :=
 xi look d (rU s) x fun news ps =>
 match s with
 | .one (.sref i r p)=>match cA look i r with
  | some x => qP p x fun z => .tv (pcopy d.size z news) fun y => setO p x y fun x' => .nat (slLen z) fun n =>
    .ret (.gen (ps ++ [.drop i r (cb p) true,.root i r x']) (.one (.t (.lit (.int .i64 (Nat.min news.length n))))))
  | none=>.fail
 | _=>.fail
def i9 (T:Tab) (t:TypeId):Option (TypeId × TyD) :=
 match T t with
 | some ⟨_,_,.slice e,_,_⟩=>match T e with
  | some d=>some (e,d)
  | none=>none
 | _=>none
def pmin (mx:Bool) (x y:TV):Option TV :=
 match x,y with
 | .lit (.int k a),.lit (.int _ b)=>some (.lit (.int k (bif mx then (if b > a then b else a) else (if b < a then b else a))))
 | _,_=>none
def wr (mx:Bool) (x y:AV):Out :=
 match x.tv?,y.tv? with
 | some x,some y=>.tv (pmin mx x y) vt
 | _,_=>.fail
def d8 (E:Env) (id:Nat) (look:Look) (b:Builtin) (tys:List TypeId) (args:List AV):Out :=
 match b,args,tys with
 | .len,[x],[ty]=>match E.T ty with
  | some d=>yA look d.kd x
  | none=>.fail
 | .append, [s, x], [ty, ty'] => match i9 E.T ty with
  | some (_,d)=>bif ty.beq ty' then nB id look d s x else (match E.T ty' with
   | some ⟨_,_,.str,_,_⟩=>.fail
   | _=>.fail)
  | none=>.fail
 | .copy,[s,x],[ty,ty']=>match i9 E.T ty with
  | some (_,d)=>bif ty.beq ty' then zj look d s x else .fail
  | none=>.fail
 | .clear,[s],[ty]=>match i9 E.T ty with
  | some (_,d)=>.fail
  | none=>.fail
 | .min,[x,y],_=>wr false x y
 | .max,[x,y],_=>wr true x y
 | _,_,_=>.fail
def fI:List CA→Option (List TV)
 | []=>some []
 | .t x :: l=>match fI l with
  | some r=>some (x :: r)
  | none=>none
 | _=>none
def im {R:Type} (v:Option AV) (k:Option Nat→Prg R):Prg R :=
 match v with
 | none=>k none
 | some v=>match v.tv? with
  | some x=>.nat (aj x) fun n=>k (some n)
  | none=>.fail
def nz (d:TyD) (x:List TV) (off:Nat):Out :=
 bif d.kd.isAgg then .chk ((off + d.size).ble x.length) (.ret (.val (.agg ((List.range d.size).map fun j=>.t (nth .hole x (off + j))))))
 else .chk (off.blt x.length) (vt (nth .hole x off))
def iC (i r:Nat) (p:Way) (k:Nat) (e:List TV):List Value→Nat→List CA
 | [],_=>[]
 | z :: zs,j=>(bif aC z then .sref i r (p ++ [(k,j)]) else .t (nth .hole e j)) :: iC i r p k e zs (j + 1)
def pnth (n:Nat) (xs:List TV):Option TV:=xs[n]?
def iG (n j:Nat) (y x:TV):TV:=bif n.beq j then y else x
def ik (n:Nat) (y:TV):Nat→List TV→List CA
 | _,[]=>[]
 | j,x :: l=>.t (iG n j y x) :: ik n y (j + 1) l
def vU (look:Look) (i off len:Nat):Option (List CA × List TV) :=
 match look i with
 | some (.cells cs) => match lc cs off len with
  | some cs1=>match fI cs1 with
   | some xs=>some (cs,xs)
   | none=>none
  | none=>none
 | _=>none
def Ds (look : Look) (d : TyD) (a : AV) : Out :=
 match a with
 | .one (.aptr i off len n)=>bif d.kd.isAgg then .fail else (match vU look i off len with
  | some (_,xs)=>.tv (pnth n xs) vt
  | none=>.fail)
 | .one (.ptr i off) => match look i with
  | some (.cells cs) => match lc cs off (bif d.kd.isAgg then d.size else 1) with
   | some cs=>match dv d.kd.isAgg cs with
    | some v=>.ret (.val v)
    | none=>.fail
   | none=>.fail
  | _=>.fail
 | .one (.ref x off)=>nz d x off
 | .one (.tptr i r p k j) => match cA look i r with
  | some x=>qP p x fun s=>.tvs (pel s k) fun e=>.chk (ab d.zero e j) (match dv d.kd.isAgg (iC i r p k e d.zero j) with
   | some v=>.ret (.val v)
   | none=>.fail)
  | none=>.fail
 | _=>.fail
def kQ (i r:Nat) (js:List Nat):List Value→Nat→List Prim
 | [],_=>[]
 | z :: zs,j=>bif aC z then .drop i r (js ++ [j]) false :: kQ i r js zs (j + 1) else kQ i r js zs (j + 1)
def ct (look:Look) (i r:Nat) (x:TV):Option BC :=
 match look i with
 | some (.tree xs)=>some (.tree (ao xs r x))
 | _=>none
def vy (look : Look) (d : TyD) (a x : AV) : Out :=
 match a with
 | .one (.aptr i off len n) => bif d.kd.isAgg then .fail else (match vU look i off len with
  | some (cs,xs)=>x.bd false 1 fun ps=>(match ps with
   | [.t y]=>.ret (.upd i (.cells (bo cs off (ik n y 0 xs))) (.one .undef))
   | _=>.fail)
  | none=>.fail)
 | .one (.ptr i off)=>x.bd d.kd.isAgg d.size fun ps=>match look i with
  | some (.cells cs)=>bif (off + ps.length).ble cs.length && ps.length.beq d.size then .ret (.upd i (.cells (bo cs off ps)) (.one .undef)) else .fail
  | _=>.fail
 | .one (.tptr i r p k j) => x.bd d.kd.isAgg d.size fun ps => match cA look i r with
  | some x => bif !(Nat.blt 0 d.size) then .fail else bif gH d.zero then
    bH look ps fun ys qs ts=>bif dl ts && xa i ts && ys.length.beq d.size then
     qP p x fun s=>.tvs (pel s k) fun e=>.chk (a7 d.zero e j && ab d.zero ys 0) (.tv (bI p x k j ys) fun x' =>
      .ret (.gen (qs ++ kQ i r (cb p) d.zero j ++ [.root i r x']) (.one .undef))) else .fail
   else bH look ps fun ys qs _=>(match qs with
    | []=>bif ys.length.beq d.size then qP p x fun s=>.tvs (pel s k) fun e=>.chk (ab d.zero e j) (.tv (bI p x k j ys) fun x'=>(match ct look i r x' with
     | some b=>.ret (.upd i b (.one .undef))
     | none=>.fail)) else .fail
    | _=>.fail)
  | none=>.fail
 | _=>.fail
def Kd.Ae:Kd→Bool
 | .slice _=>true
 | _=>false
def DV (look:Look) (kd:Kd) (op:BinOp) (x y:AV):Out :=
 bif kd.Ae then vW look x fun x=>vW look y fun y=>.tv (pbin kd op x y) vt
 else match x.tv?,y.tv? with
 | some x,some y=>.tv (pbin kd op x y) vt
 | _,_=>.fail
def lP (k:IntKind):List TV→Option (List Int)
 | []=>some []
 | .lit (.int k' n) :: l=>if k=k' then (match lP k l with
  | some r=>some (n :: r)
  | none=>none) else none
 | _=>none
def A4 (k:IntKind) (op:BinOp) (xs ys:List TV):Option TV :=
 match lP k xs,lP k ys with
 | some a,some b=>ym op (a == b)
 | _,_=>none
def ub:AV→Option Bool
 | .one (.ptr _ _)=>some true
 | .one (.ref _ _)=>some true
 | .one (.tptr _ _ _ _ _)=>some true
 | .one (.aptr _ _ _ _)=>some true
 | .one (.t (.lit (.pointer none)))=>some false
 | .tv (.lit (.pointer none))=>some false
 | _=>none
def DG (op:BinOp) (x y:AV):Out :=
 match op,ub x,ub y with
 | .eql,some a,some false=>.ret (.val (.bl !a))
 | .neq,some a,some false=>.ret (.val (.bl a))
 | _,_,_=>.fail
def Ec (T:Tab) (look:Look) (kd:Kd) (op:BinOp) (x y:AV):Out :=
 match kd with
 | .arr len e => match T e with
  | some ⟨1,_,.int k,_,_⟩=>x.bd true len fun cs=>y.bd true len fun cs'=>(match fI cs,fI cs' with
   | some xs,some ys=>.tv (A4 k op xs ys) vt
   | _,_=>.fail)
  | _=>.fail
 | .ptr=>DG op x y
 | kd=>DV look kd op x y
def jd (look : Look) (kd : Kd) (sz : Nat) (x : AV) (lo hi : Option AV) : Out :=
 match x.tv? with
 | some x=>im lo fun lo=>im hi fun hi=>.tv (pslice kd sz x lo hi) vt
 | none => match kd, x with
  | .slice _, .one (.sref i r p) => jg look (.sref i r p) fun s => .nat (slLen s) fun n => im lo fun lo => im hi fun hi =>
    .chk (slSize s sz && (lo.getD 0).ble (hi.getD n) && (hi.getD n).ble n) (.ret (.val (.one (.swin i r p (lo.getD 0) (hi.getD n - lo.getD 0)))))
  | .slice _,.one (.swin i r p lo0 n)=>match lo with
   | none=>jg look (.sref i r p) fun s=>im hi fun hi=>.chk (slSize s sz && (hi.getD n).ble n) (.ret (.val (.one (.swin i r p lo0 (hi.getD n)))))
   | some _=>.fail
  | _,_=>.fail
def pz (look:Look) (d:TyD) (x i:AV):Out :=
 match i.tv? with
 | some i => match x.tv? with
  | some x=>.tvs (pidx d.size x i) fun el=>.ret (.val (.one (.ref el 0)))
  | none=>match x with
   | .one (.sref b r p)=>jg look (.sref b r p) fun s=>.nat (slLen s) fun n=>.nat (aj i) fun k=>.chk (slSize s d.size && k.blt n) (.ret (.val (.one (.tptr b r p k 0))))
   | .one (.swin b r p lo n)=>jg look (.sref b r p) fun s=>.nat (aj i) fun k=>.chk (slSize s d.size && k.blt n) (.ret (.val (.one (.tptr b r p (lo + k) 0))))
   | _=>.fail
 | none=>.fail
def rf (T:Tab) (t:TypeId) (x i:AV):Out :=
 match T t with
 | some ⟨_,_,.arr len e,_,_⟩=>match T e,x,i.tv? with
  | some d,.one (.ptr b off),some i=>bif !d.kd.isAgg && d.size.beq 1 then .nat (aj i) fun k=>.chk (k.blt len) (.ret (.val (.one (.aptr b off len k)))) else .fail
  | _,_,_=>.fail
 | _=>.fail
def vQ (d:TyD) (off:Nat) (agg:Bool) (n:Nat) (x:AV):Out :=
 match x with
 | .agg cs => match lc cs off (bif agg then n else 1) with
  | some cs=>match dv agg cs with
   | some v=>.ret (.val v)
   | none=>.fail
  | none=>.fail
 | .tv x => .chk (x.isAgg d.size && (off + n).ble d.size && Nat.blt 0 n)
   (.ret (.val (bif agg then .agg ((List.range n).map fun j=>.t (x.cell (off + j))) else .one (.t (x.cell off)))))
 | _=>.fail
def ls (T:Tab):Kd→Bool
 | .struct=>true
 | .arr _ e=>(T e).isSome
 | _=>false
def rj (T:Tab):Kd→Option Nat
 | .slice e=>match T e with
  | some d=>some d.size
  | none=>none
 | _=>some 0
def TV.cellsL (agg:Bool) (x:TV):List TV:=match agg,x with
 | true,.agg cs=>cs
 | true,_=>[]
 | false,x=>[x]
def eh (id r0:Nat):List Value→TV→Bool→Nat→List CA
 | [],_,_,_=>[]
 | z :: zs,x,agg,j=>(bif aC z then .sref id (r0 + j) [] else .t (bif agg then x.cell j else x)) :: eh id r0 zs x agg (j + 1)
def dH:List Value→TV→Bool→Nat→List TV
 | [],_,_,_=>[]
 | z :: zs,x,agg,j=>(bif aC z then (bif agg then x.cell j else x) else .hole) :: dH zs x agg (j + 1)
def jF {R:Type} (d:TyD) (x:TV) (k:Prg R):Prg R :=
 bif d.kd.isAgg then .chk (x.isAgg d.size && ab d.zero (x.cellsL true) 0) k else .chk (ab d.zero (x.cellsL false) 0) k
def mu (T:Tab):List TypeId→Option (List TyD)
 | []=>some []
 | t :: l=>match T t,mu T l with
  | some d,some ds=>some (d :: ds)
  | _,_=>none
def gA {R:Type} (x:TV):List TyD→Nat→Prg R→Prg R
 | [],_,k=>k
 | d :: l,j,k=>jF d (x.comp j) (gA x l (j + 1) k)
def dK (id:Nat) (x:TV):List TyD→Nat→Nat→List (Bool × List CA)
 | [],_,_=>[]
 | d :: l,j,r0=>(d.kd.isAgg,eh id r0 d.zero (x.comp j) d.kd.isAgg 0) :: dK id x l (j + 1) (r0 + d.zero.length)
def bn (x:TV):List TyD→Nat→List TV
 | [],_=>[]
 | d :: l,j=>dH d.zero (x.comp j) d.kd.isAgg 0 ++ bn x l (j + 1)
def gN:List TyD→Bool
 | []=>false
 | d :: l=>bif gH d.zero then true else gN l
def wd (id:Nat) (ds:List TyD) (v:TV) (ps:List Prim):Out :=
 match ds with
 | [d]=>jF d v (match dv d.kd.isAgg (eh id 0 d.zero v d.kd.isAgg 0) with
  | some av=>bif gH d.zero then .ret (cV ps (.tree (dH d.zero v d.kd.isAgg 0)) av) else .ret (match ps with | []=>.val av | _=>.gen ps av)
  | none=>.fail)
 | ds => .chk (v.isTup ds.length) (gA v ds 0 (bif gN ds then .ret (cV ps (.tree (bn v ds 0)) (.tups (dK id v ds 0 0)))
   else .ret (match ps with | []=>.val (.tups (dK id v ds 0 0)) | _=>.gen ps (.tups (dK id v ds 0 0)))))
def TV.xU (x:TV) (e:Nat):Bool:=match x with | .buf _ e'=>e'.beq e | _=>false
def TV.eF (x:TV):Bool:=match x with | .tup []=>true | _=>false
def Ef:TV:=.tup []
def oc:List Fl→List TV→Bool
 | [],[]=>true
 | f :: fl,x :: xs=>(match f with | .sc=>x.isSc | .sl=>x.isSl | .may=>x.eF | .bf e=>x.xU e | .any=>x.la) && oc fl xs
 | _,_=>false
def gc (i t:Nat) (ty:TypeId):List Fl→List TV→Nat→List CA
 | f :: fl,x :: xs,r=>(match f with | .sc=>.t x | .sl=>.sref t r [] | .may=>.may i ty | .bf _=>.sref t r [] | .any=>.t x) :: gc i t ty fl xs (r + 1)
 | _,_,_=>[]
def cY:List Fl→List TV→List TV
 | f :: fl,x :: xs=>(match f with | .sl=>x | .bf _=>x | _=>.hole) :: cY fl xs
 | _,_=>[]
def kW (self:Bool) (id:Nat) (e:TypeId) (zs:List Value):List CA :=
 match self,zs with
 | true,.pointer none :: l=>.may id e :: l.map fun v=>.t (.lit v)
 | _,zs=>zs.map fun v=>.t (.lit v)
def CA.EG:CA→CA
 | .may _ _=>.t .hole
 | c=>c
def unMays:List CA→List CA
 | []=>[]
 | c :: l=>c.EG :: unMays l
def mP (i:Nat) (ty:TypeId):List Fl→List CA→Bool
 | [],[]=>true
 | f :: fl,c :: cs=>(match f,c with | .may,.may j t=>j.beq i && t.beq ty | .may,_=>false | _,.may _ _=>false | _,_=>true) && mP i ty fl cs
 | _,_=>false
def Eu (e:Nat) (x:TV):TV:=bif kw x then .buf .empty e else x
def jz:List Fl→List TV→List TV
 | f :: fl,x :: xs=>(match f with | .may=>Ef | .bf e=>Eu e x | _=>x) :: jz fl xs
 | _,_=>[]
def junks:List CA→List CA
 | []=>[]
 | _ :: l=>.junk :: junks l
def gB (v:TV):Nat→Nat→List TV
 | 0,_=>[]
 | n + 1,j=>v.comp j :: gB v n (j + 1)
def C7 (id:Nat) (ds:List TyD) (v:TV) (k:AV→Out):Out :=
 match ds with
 | [d]=>jF d v (match dv d.kd.isAgg (eh id 0 d.zero v d.kd.isAgg 0) with | some av=>k av | none=>.fail)
 | ds=>.chk (v.isTup ds.length) (gA v ds 0 (k (.tups (dK id v ds 0 0))))
def ow (E : Env) (id : Nat) (look : Look) (f : FuncId) (ld : fh) (vs : List AV) : Out :=
 match vs with
 | .one (.ptr i 0) :: rest => match look i, mu E.T (E.rts f) with
  | some (.cells cs), some ds => bif gN ds || !mP i ld.ty ld.fl cs then .fail else
   hands look rest fun xs rs=>bH look (unMays cs) fun ys qs ts=>bif dl (ts ++ rs) then
    .chk (oc ld.fl (jz ld.fl ys)) (.call f (.tup (jz ld.fl ys) :: xs) fun v=>.chk (v.isTup 2 && (v.comp 1).isTup ld.fl.length && oc ld.fl (gB (v.comp 1) ld.fl.length 0))
     (C7 id ds (v.comp 0) fun av => .ret (.gen (qs ++ (uc rs ++ [.setB i (junks cs), .unmay i, .newB (.tree (cY ld.fl (gB (v.comp 1) ld.fl.length 0))),
      .setB i (gc i id ld.ty ld.fl (gB (v.comp 1) ld.fl.length 0) 0)])) av)))
   else .fail
  | _,_=>.fail
 | _=>.fail
def Cs:TV→TV
 | .lit v=>.lit v
 | .agg cs=>.agg (lfL cs)
 | _=>.hole
def qp:List TV→List TV
 | []=>[]
 | x :: l=>Cs x :: qp l
def nN (look:Look) (f:FuncId) (c:Nat × Nat) (vs:List AV):Out :=
 match vs with
 | .one (.ptr i 0) :: rest => match look i with
  | some (.cells cs)=>match nth .junk cs c.1 with
   | .t x=>bif cs.length.beq c.2 then lends look rest fun xs=>.call f (x :: qp xs) fun v=>.ret (.val (.tv v)) else .fail
   | _=>.fail
  | _=>.fail
 | _=>.fail
def mI (E:Env) (id:Nat) (look:Look) (f:FuncId) (vs:List AV):Out :=
 match E.peek f with
 | some c=>nN look f c vs
 | none=>match E.lent f with
 | some ld=>ow E id look f ld vs
 | none=>match mu E.T (E.rts f) with
 | some ds=>bif E.pure f || !gN ds then lends look vs fun xs=>.call f xs fun v=>wd id ds v []
  else hands look vs fun xs rs=>bif dl rs then .call f xs fun v=>wd id ds v (uc rs) else .fail
 | none=>.fail
def zF (T:Tab) (look:Look) (ds d:TyD) (x:AV):Out :=
 match ds.kd,d.kd with
 | .slice e,.str=>.fail
 | _,kd=>match x.tv? with
  | some x=>.tv (pconv kd x) vt
  | none=>.fail
def opL (E : Env) (id : Nat) (look : Look) (op : Op) (vs : List AV) : Out :=
 match op,vs with
 | .move _,[x]=>.ret (.val x)
 | .assign _,[x]=>.ret (.val x)
 | .pick _ _ _,[c,a,b]=>match c with
  | .bl c=>.ret (.val (bif c then a else b))
  | _=>.fail
 | .alloc e,[]=>match E.T e with
  | some d=>.ret (.new (.cells (kW (E.selfT e) id e d.zero)) (.one (.ptr id 0)))
  | none=>.fail
 | .box e _,[x]=>match E.T e with
  | some d=>x.bd d.kd.isAgg d.size fun cs=>.ret (.new (.cells cs) (.one (.ptr id 0)))
  | none=>.fail
 | .build t parts,vs=>match E.T t with
  | some d=>bif ls E.T d.kd then bW (places E.T d) (parts.toList.map (·.1)) vs (d.zero.map fun v=>.t (.lit v)) fun cs=>.ret (.val (.agg cs)) else .fail
  | none=>.fail
 | .buildSlice t len parts, vs => match i9 E.T t with
  | some (_, d) =>
   bW (fun i=>some (i * d.size,d.kd.isAgg,d.size)) (parts.toList.map (·.1)) vs ((List.replicate len d.zero).flatten.map fun v=>.t (.lit v)) fun cs =>
    bH look cs fun ys qs ts=>bif dl ts && (len * d.size).ble 16777216 && ys.length.beq (len * d.size) && Nat.blt 0 d.size then
     .ret (cV qs (.tree [.sl true d.size (chunks d.size len ys)]) (.one (.sref id 0 []))) else .fail
  | none=>.fail
 | .load t _,[a]=>match E.T t with
  | some d=>Ds look d a
  | none=>.fail
 | .store t _ _,[a,x]=>match E.T t with
  | some d=>vy look d a x
  | none=>.fail
 | .nilCheck _,[x]=>match x with
  | .one (.ptr i off)=>.ret (.val (.one (.ptr i off)))
  | .one (.ref x off)=>.ret (.val (.one (.ref x off)))
  | .one (.tptr i r p k j)=>.ret (.val (.one (.tptr i r p k j)))
  | .one (.aptr i off len n)=>.ret (.val (.one (.aptr i off len n)))
  | _=>.fail
 | .binOp op xt _ _ _,[x,y]=>match E.T xt with
  | some d=>Ec E.T look d.kd op x y
  | none=>.fail
 | .unOp op _ _, [x] => match op, x with
  | .not,.bl b=>.ret (.val (.bl (!b)))
  | op,x=>match x.tv? with
   | some x=>.tv (pun op x) vt
   | none=>.fail
 | .convert sty dt _,[x]=>match E.T sty,E.T dt with
  | some ds,some d=>zF E.T look ds d x
  | _,_=>.fail
 | .makeSlice t _ _,[l,c]=>match i9 E.T t,l.tv?,c.tv? with
  | some (_,d),some l,some c=>bif d.bytes.ble 4096 then .nat (aj l) fun n=>.nat (aj c) fun m=>.chk (n.ble m && m.ble room)
     (.ret (.new (.tree [.sl true d.size (List.replicate n (d.zero.map .lit))]) (.one (.sref id 0 [])))) else .fail
  | _,_,_=>.fail
 | .slice t _ lo hi none, x :: rest => match E.T t with
  | some d => match rj E.T d.kd with
   | some sz=>match lo,hi,rest with
    | none,none,[]=>jd look d.kd sz x none none
    | some _,none,[l]=>jd look d.kd sz x (some l) none
    | none,some _,[h]=>jd look d.kd sz x none (some h)
    | some _,some _,[l,h]=>jd look d.kd sz x (some l) (some h)
    | _,_,_=>.fail
   | none=>.fail
  | none=>.fail
 | .fieldAddr s _ f, [x] => match E.T s, x with
  | some d,.one c=>match d.kd,places E.T d f with
   | .struct,some (off,_,n)=>bif Nat.blt 0 n then (match c.add off with | some c=>.ret (.val (.one c)) | none=>.fail) else .fail
   | _,_=>.fail
  | _,_=>.fail
 | .field s _ f, [x] => match E.T s with
  | some d=>match d.kd,places E.T d f with
   | .struct,some (off,agg,n)=>vQ d off agg n x
   | _,_=>.fail
  | none=>.fail
 | .indexAddr t _ _,[x,i]=>match i9 E.T t with
  | some (_,d)=>pz look d x i
  | none=>rf E.T t x i
 | .index t _ _,[x,i]=>match E.T t,x.tv?,i.tv? with
  | some ⟨_,_,.str,_,_⟩,some x,some i=>.tv (pstr x i) vt
  | _,_,_=>.fail
 | .extract _ j, [x] => match x with
  | .tups cs => match cs[j]? with
   | some (agg,c)=>match dv agg c with
    | some v=>.ret (.val v)
    | none=>.fail
   | none=>.fail
  | _=>.fail
 | .makeFunc (.func f) first _,vs=>bif first.size.beq 0 then kR vs fun cs=>.ret (.val (.clo f cs)) else .fail
 | .call ⟨.builtin b,_,tys⟩,vs=>d8 E id look b tys.toList vs
 | .call ⟨.value (.func f),_,_⟩,_ :: vs=>mI E id look f vs
 | _,_=>.fail
def dB:Nat:=24
def ASt.nid (st:ASt) (d:Option Tmp):Nat:=match d with | some d=>dB + st.out.length + d | none=>0
def ASt.put (st:ASt) (d:Option Tmp) (v:AV):ASt :=
 match d with
 | some d=>⟨ao st.slots d v,st.boxes,st.out⟩
 | none=>st
def ASt.look (st:ASt):Look:=fun i=>nth none st.boxes i
def ASt.ac (st:ASt) (i:Nat) (b:Option BC):ASt:=⟨st.slots,ao st.boxes i b,st.out⟩
def leads:Bool→List Nat→Way→Bool
 | strict,[],p=>match p with | []=>!strict | _=>true
 | _,_ :: _,[]=>false
 | strict,a :: l,(_,j) :: p=>a.beq j && leads strict l p
def eH (i r:Nat) (js:List Nat) (strict:Bool) (i' r':Nat) (p:Way):Bool:=i.beq i' && r.beq r' && leads strict js p
def CA.drop (i r:Nat) (js:List Nat) (strict:Bool) (c:CA):CA :=
 match c with
 | .tptr i' r' p _ _=>bif eH i r js strict i' r' p then .junk else c
 | .sref i' r' p=>bif eH i r js strict i' r' p then .junk else c
 | .swin i' r' p _ _=>bif eH i r js strict i' r' p then .junk else c
 | c=>c
def mapC (f:CA→CA):List CA→List CA
 | []=>[]
 | c :: l=>f c :: mapC f l
def kz (f:CA→CA):List (Bool × List CA)→List (Bool × List CA)
 | []=>[]
 | (b,cs) :: l=>(b,mapC f cs) :: kz f l
def AV.ce (f:CA→CA):AV→AV
 | .one c=>.one (f c)
 | .agg cs=>.agg (mapC f cs)
 | .tups cs=>.tups (kz f cs)
 | .tv x=>.tv x
 | .bl b=>.bl b
 | .clo n cs=>.clo n (mapC f cs)
def cF (f:CA→CA):List AV→List AV
 | []=>[]
 | v :: l=>v.ce f :: cF f l
def BC.bu (f:CA→CA):BC→BC
 | .cells cs=>.cells (mapC f cs)
 | b=>b
def eL (f:CA→CA):List (Option BC)→List (Option BC)
 | []=>[]
 | some b :: l=>some (b.bu f) :: eL f l
 | none :: l=>none :: eL f l
def ASt.az (f:CA→CA) (st:ASt):ASt:=⟨cF f st.slots,eL f st.boxes,cF f st.out⟩
def CA.unM (i:Nat):CA→CA
 | .may j ty=>bif j.beq i then .junk else .may j ty
 | c=>c
def ASt.bB (st:ASt) (i:Nat) (b:BC):Option ASt :=
 match st.look i with
 | some _=>none
 | none=>bif i.blt st.boxes.length then some (st.ac i (some b)) else none
def Prim.app (st:ASt) (d:Option Tmp):Prim→Option ASt
 | .drop i r js strict=>some (st.az (CA.drop i r js strict))
 | .root i r x=>match ct st.look i r x with
  | some b=>some (st.ac i (some b))
  | none=>none
 | .frz i r => match cA st.look i r with
  | some x=>match ct st.look i r (Ab.frz x) with
   | some b=>some (st.ac i (some b))
   | none=>none
  | none=>none
 | .unmay i=>some (st.az (CA.unM i))
 | .newB b=>match d with
  | some d=>st.bB (st.nid (some d)) b
  | none=>none
 | .setB i cs=>match st.look i with
  | some (.cells _)=>some (st.ac i (some (.cells cs)))
  | _=>none
def ae (d:Option Tmp):List Prim→ASt→Option ASt
 | [],st=>some st
 | p :: l,st=>match p.app st d with
  | some st=>ae d l st
  | none=>none
def Eff.app (st:ASt) (d:Option Tmp):Eff→Option ASt
 | .val v=>some (st.put d v)
 | .new b v => match d with
  | none=>none
  | some d=>match st.bB (st.nid (some d)) b with
   | some st=>some (st.put (some d) v)
   | none=>none
 | .upd i b v=>some ((st.ac i (some b)).put d v)
 | .gen ps v=>match ae d ps st with
  | some st=>some (st.put d v)
  | none=>none
def banned (ban:List Nat) (look:Look):Look:=fun i=>bif cf i ban then none else look i
inductive Cls where
 | N | R | A | B | W | P | X
def aq:Op→Cls
 | .move _ | .assign _ | .pick _ _ _ | .build _ _ | .nilCheck _ | .unOp _ _ _ | .fieldAddr _ _ _ | .field _ _ _ | .index _ _ _ | .extract _ _ | .makeFunc _ _ _=>.N
 | .load _ _ | .binOp _ _ _ _ _ | .slice _ _ _ _ _ | .indexAddr _ _ _ | .convert _ _ _=>.R
 | .alloc _ | .box _ _ | .makeSlice _ _ _=>.A
 | .call ⟨.builtin .len,_,_⟩=>.R
 | .call ⟨.builtin .min,_,_⟩=>.R
 | .call ⟨.builtin .max,_,_⟩=>.R
 | .call ⟨.value (.func _),_,_⟩=>.B
 | .call ⟨.value (.tmp _),_,_⟩=>.B
 | .buildSlice _ _ _=>.B
 | .store _ _ _=>.W
 | .call ⟨.builtin .append,_,_⟩=>.P
 | _=>.X
def Cls.isX:Cls→Bool
 | .X=>true
 | _=>false
def Cls.makes:Cls→Bool
 | .A=>true
 | .B=>true
 | .P=>true
 | _=>false
def Cls.reads:Cls→Bool
 | .R=>true
 | .B=>true
 | .W=>true
 | .P=>true
 | _=>false
def kY:Cls→Cls→Bool
 | .X,_=>false
 | _,.X=>false
 | .P,.P=>false
 | .P,.W=>false
 | .W,.P=>false
 | _,_=>true
def lJ:List Operand→List Nat
 | []=>[]
 | .tmp t :: l=>t :: lJ l
 | _ :: l=>lJ l
def pJ (ops:List Oper) (o:Oper):List Nat :=
 match o.guard with
 | some (j,_)=>(match (ops[j]?).bind (·.dst) with | some g=>[g] | none=>[])
 | none=>[]
def looks (ops:List Oper) (o:Oper):List Nat:=pJ ops o ++ lJ o.op.operands.toList
def iZ (d:Option Nat) (l:List Nat):Bool :=
 match d with
 | some d=>!cf d l
 | none=>true
def aB (o:Op):Option Nat:=match aq o,o.operands.toList with
 | .P,.tmp s :: _=>some s
 | _,_=>none
def Eff.plain:Eff→Bool
 | .val _=>true
 | .new _ _=>true
 | .upd _ _ _=>true
 | _=>false
structure Item where
 o:Oper
 ban:List Nat × List Nat
 dr:Bool
 own:List (List Nat × List Nat)
 push:List Nat
 root:Nat
 loose:Bool
 shut:Bool
 lds:List (List Nat × List Nat)
 dull:List Nat
 dull2:List Nat
def bG (b:List Nat × List Nat) (base:Nat):List Nat:=b.1.map (base + ·) ++ b.2.map (· / 2)
def Eff.qI (base:Nat) (own:List (List Nat × List Nat)):Eff→Bool
 | .upd i _ _=>own.all fun l=>cf i (bG l base)
 | _=>true
def ASt.base (st:ASt):Nat:=dB + st.out.length
def tM:CA→List Nat
 | .ptr i _=>[i]
 | .tptr i _ _ _ _=>[i]
 | .sref i _ _=>[i]
 | .swin i _ _ _ _=>[i]
 | .may i _=>[i]
 | .aptr i _ _ _=>[i]
 | _=>[]
def mz:List CA→List Nat
 | []=>[]
 | c :: l=>tM c ++ mz l
def uo:List (Bool × List CA)→List Nat
 | []=>[]
 | (_,cs) :: l=>mz cs ++ uo l
def AV.ip:AV→List Nat
 | .one c=>tM c
 | .agg cs=>mz cs
 | .tups cs=>uo cs
 | .tv _=>[]
 | .bl _=>[]
 | .clo _ cs=>mz cs
def jo:List AV→List Nat
 | []=>[]
 | v :: l=>v.ip ++ jo l
def BC.nr:BC→List Nat
 | .cells cs=>mz cs
 | .tree _=>[]
def eN:Eff→List Nat
 | .val v=>v.ip
 | .new b v=>b.nr ++ v.ip
 | .upd _ b v=>b.nr ++ v.ip
 | .gen _ v=>v.ip
def cL (ps:List Nat) (st:ASt) (d:Option Nat) (e:Eff):Bool :=
 ps.all fun s=>!cf (st.base + s) (eN e) && (match d with | some d=>!cf (st.base + s) (nth (.one .junk) st.slots d).ip | none=>true)
def pushParts:Eff→Option (Nat × TV)
 | .gen [.drop i 0 [] false,.root j 0 y] (.one (.sref k 0 []))=>bif i.beq j && i.beq k then some (i,y) else none
 | _=>none
def fb (k:Nat):List (Option BC)→Bool
 | []=>true
 | some b :: l=>!cf k b.nr && fb k l
 | none :: l=>fb k l
def ko (it:Item) (st:ASt) (e:Eff):Bool:=false
def dh:List AV→Bool
 | []=>true
 | v :: l=>(match v.tv? with | some _=>true | none=>false) && dh l
def iK:Eff→Bool
 | .val _=>true
 | .new (.tree _) _=>true
 | _=>false
def ur (n:Nat):List Nat→Bool
 | []=>true
 | k :: l=>k.beq n && ur n l
def ic (i:Item) (st:ASt) (e:Eff):Bool:=dh (i.o.op.operands.toList.map st.ev) && (iK e && ur (st.nid i.o.dst) (eN e))
def tq:List Prim→List Nat
 | []=>[]
 | .drop i _ _ _ :: l=>i :: tq l
 | .root i _ _ :: l=>i :: tq l
 | _ :: l=>tq l
def mT:Eff→List Nat
 | .gen ps _=>tq ps
 | _=>[]
def drP:Prim→Bool
 | .drop _ _ _ _=>true
 | .root _ _ _=>true
 | .newB _=>true
 | _=>false
def drE:Eff→Bool
 | .gen ps _=>ps.all drP
 | .upd _ _ _=>false
 | _=>true
def CA.deep:CA→CA
 | .tptr i r p k j=>match p with | []=>.junk | _=>.tptr i r p k j
 | .sref i r p=>match p with | []=>.junk | _=>.sref i r p
 | .swin i r p lo len=>match p with | []=>.junk | _=>.swin i r p lo len
 | c=>c
def eR (k:Nat):List (Option BC)→Bool
 | []=>true
 | some b :: l=>!cf k (b.bu CA.deep).nr && eR k l
 | none :: l=>eR k l
def EC (k:Nat):Prim→Bool
 | .drop i _ js _=>!(i.beq k) || !js.isEmpty
 | _=>true
def uf (k:Nat):Eff→Bool
 | .gen ps _=>ps.all (EC k)
 | _=>true
def zp (o:Oper):Bool:=match o.op with
 | .store _ _ _=>o.guard.isNone && o.dst.isNone
 | _=>false
def mV (o:Oper):Bool:=(aB o.op).isSome || zp o
def cH (i:Item) (st:ASt) (e:Eff):Bool:=i.lds.all fun l=>drE e && (mT e).all fun k =>
 (cf k (l.1.map (st.base + ·)) && fb k st.boxes) || (mV i.o && ((cf (2 * k) l.2 && fb k st.boxes) || (cf (2 * k + 1) l.2 && (uf k e && eR k st.boxes))))
def ju (st:ASt) (d:Option Nat) (b:Nat):Bool:=match d with | some d=>!cf b (nth (.one .junk) st.slots d).ip | none=>true
def gT (st:ASt) (d:Option Nat) (b:Nat):Bool:=match d with | some d=>!cf b ((nth (.one .junk) st.slots d).ce CA.deep).ip | none=>true
def nI:Eff→List Nat
 | .val v=>(v.ce CA.deep).ip
 | e=>eN e
def dz (i:Item) (st:ASt) (e:Eff):Bool:=(i.dull.all fun s=>!cf (st.base + s) (jo (i.o.op.operands.toList.map st.ev))) &&
 (i.dull2.all fun b => bif (b % 2).beq 0 then !cf (b / 2) (eN e) && (ju st i.o.dst (b / 2) && !cf (b / 2) (jo (i.o.op.operands.toList.map st.ev)))
  else !cf (b / 2) (nI e) && (gT st i.o.dst (b / 2) && !cf (b / 2) (jo (cF CA.deep (i.o.op.operands.toList.map st.ev)))))
def okE (i:Item) (st:ASt) (e:Eff):Bool:=(i.loose && cH i st e) || ((bif i.shut then ic i st e else e.plain && e.qI st.base i.own && (cL i.push st i.o.dst e && dz i st e)) || ko i st e)
def effQ {R:Type} (i:Item) (st:ASt) (K:ASt→Prg R) (e:Eff):Prg R :=
 bif i.dr && !(okE i st e) then .fail else
 match e.app st i.o.dst with
 | some st=>K st
 | none=>.fail
def mE {R:Type} (E:Env) (i:Item) (K:ASt→Prg R) (st:ASt):Prg R :=
 (opL E (st.nid i.o.dst) (banned (bG i.ban st.base) st.look) i.o.op (i.o.op.operands.toList.map st.ev)).bind (effQ i st K)
def dO (o:Oper) (st:ASt):ASt:=st.put o.dst (.one .undef)
def opQ {R:Type} (E:Env) (ops:List Oper) (i:Item) (K:ASt→Prg R) (st:ASt):Prg R :=
 match i.o.guard with
 | none=>mE E i K st
 | some (j, want) => match ((ops[j]?).bind (·.dst)) with
  | none=>.fail
  | some g=>match nth (.one .junk) st.slots g with
   | .one .undef=>K (dO i.o st)
   | .bl b=>bif b then (bif want then mE E i K st else K (dO i.o st)) else (bif want then K (dO i.o st) else mE E i K st)
   | .one (.t v) => .ite (asBool v)
     (bif want then mE E i K (st.put (some g) (.bl true)) else K (dO i.o (st.put (some g) (.bl true))))
     (bif want then K (dO i.o (st.put (some g) (.bl false))) else mE E i K (st.put (some g) (.bl false)))
   | .tv v => .ite (asBool v)
     (bif want then mE E i K (st.put (some g) (.bl true)) else K (dO i.o (st.put (some g) (.bl true))))
     (bif want then K (dO i.o (st.put (some g) (.bl false))) else mE E i K (st.put (some g) (.bl false)))
   | _=>.fail
def ly {α R:Type}:List α→(List α→R)→R
 | [],k=>k []
 | a :: l,k=>ly l (fun l'=>k (a :: l'))
theorem mo {α R:Type}:∀ (l:List α) (k:List α→R),ly l k=k l
 | [],_=>rfl
 | a :: l,k=>mo l (fun l'=>k (a :: l'))
def iA {R:Type} (K:ASt→R) (st:ASt):R:=ly st.slots fun sl=>ly st.boxes fun bx=>K ⟨sl,bx,st.out⟩
theorem kZ {R:Type} (K:ASt→R):iA K=K:=by
 funext st
 simp only [iA,mo]
def yp {R:Type} (K:ASt→R) (st:ASt):R:=ly st.slots fun sl=>ly st.boxes fun bx=>ly st.out fun ou=>K ⟨sl,bx,ou⟩
theorem uA {R:Type} (K:ASt→R):yp K=K:=by
 funext st
 simp only [yp,mo]
def fN {R:Type} (n:Nat) (k:Nat→R):R:=match n with | 0=>k 0 | m + 1=>k (m + 1)
theorem zf {R:Type} (n:Nat) (k:Nat→R):fN n k=k n:=by cases n <;> rfl
def fNs {R:Type}:List Nat→(List Nat→R)→R
 | [],k=>k []
 | n :: l,k=>fN n fun n=>fNs l fun l=>k (n :: l)
theorem yB {R:Type}:∀ (l:List Nat) (k:List Nat→R),fNs l k=k l
 | [],_=>rfl
 | n :: l,k=>by simp only [fNs,zf,yB l]
def fW {R:Type}:Way→(Way→R)→R
 | [],k=>k []
 | (a,j) :: l,k=>fN j fun j=>fW l fun l=>k ((a,j) :: l)
theorem Es {R:Type}:∀ (l:Way) (k:Way→R),fW l k=k l
 | [],_=>rfl
 | (a,j) :: l,k=>by simp only [fW,zf,Es l]
def fC {R:Type} (c:CA) (k:CA→R):R :=
 match c with
 | .t x=>k (.t x)
 | .ptr i off=>fN i fun i=>fN off fun off=>k (.ptr i off)
 | .ref x off=>fN off fun off=>k (.ref x off)
 | .tptr i r p n j=>fN i fun i=>fN r fun r=>fW p fun p=>fN j fun j=>k (.tptr i r p n j)
 | .sref i r p=>fN i fun i=>fN r fun r=>fW p fun p=>k (.sref i r p)
 | .swin i r p lo len=>fN i fun i=>fN r fun r=>fW p fun p=>k (.swin i r p lo len)
 | .may i ty=>fN i fun i=>k (.may i ty)
 | .aptr i off len n=>fN i fun i=>fN off fun off=>k (.aptr i off len n)
 | .yl n=>fN n fun n=>k (.yl n)
 | .undef=>k .undef
 | .junk=>k .junk
theorem Ev {R:Type} (c:CA) (k:CA→R):fC c k=k c:=by cases c <;> simp only [fC,zf,Es]
def fCs {R:Type}:List CA→(List CA→R)→R
 | [],k=>k []
 | c :: l,k=>fC c fun c=>fCs l fun l=>k (c :: l)
theorem vp {R:Type}:∀ (l:List CA) (k:List CA→R),fCs l k=k l
 | [],_=>rfl
 | c :: l,k=>by simp only [fCs,Ev,vp l]
def fTs {R:Type}:List (Bool × List CA)→(List (Bool × List CA)→R)→R
 | [],k=>k []
 | (b,c) :: l,k=>fCs c fun c=>fTs l fun l=>k ((b,c) :: l)
theorem CW {R:Type}:∀ (l:List (Bool × List CA)) (k:List (Bool × List CA)→R),fTs l k=k l
 | [],_=>rfl
 | (b,c) :: l,k=>by simp only [fTs,vp,CW l]
def fA {R:Type} (v:AV) (k:AV→R):R :=
 match v with
 | .one c=>fC c fun c=>k (.one c)
 | .agg cs=>fCs cs fun cs=>k (.agg cs)
 | .tv x=>k (.tv x)
 | .tups l=>fTs l fun l=>k (.tups l)
 | .bl b=>k (.bl b)
 | .clo n cs=>fN n fun n=>fCs cs fun cs=>k (.clo n cs)
theorem fA_eq {R:Type} (v:AV) (k:AV→R):fA v k=k v:=by cases v <;> simp only [fA,Ev,vp,CW,zf]
def fAs {R:Type}:List AV→(List AV→R)→R
 | [],k=>k []
 | c :: l,k=>fA c fun c=>fAs l fun l=>k (c :: l)
theorem CY {R:Type}:∀ (l:List AV) (k:List AV→R),fAs l k=k l
 | [],_=>rfl
 | c :: l,k=>by simp only [fAs,fA_eq,CY l]
def fB {R:Type} (b:Option BC) (k:Option BC→R):R :=
 match b with
 | none=>k none
 | some (.cells cs)=>fCs cs fun cs=>k (some (.cells cs))
 | some (.tree xs)=>ly xs fun xs=>k (some (.tree xs))
theorem fB_eq {R:Type} (b:Option BC) (k:Option BC→R):fB b k=k b:=by
 match b with
 | none=>rfl
 | some (.cells cs)=>simp only [fB,vp]
 | some (.tree xs)=>simp only [fB,mo]
def fBs {R:Type}:List (Option BC)→(List (Option BC)→R)→R
 | [],k=>k []
 | c :: l,k=>fB c fun c=>fBs l fun l=>k (c :: l)
theorem CZ {R:Type}:∀ (l:List (Option BC)) (k:List (Option BC)→R),fBs l k=k l
 | [],_=>rfl
 | c :: l,k=>by simp only [fBs,fB_eq,CZ l]
def mK {R:Type} (K:ASt→R) (st:ASt):R:=fAs st.slots fun sl=>fBs st.boxes fun bx=>fAs st.out fun ou=>K ⟨sl,bx,ou⟩
theorem fm {R:Type} (K:ASt→R):mK K=K:=by
 funext st
 simp only [mK,CY,CZ]
def Cy {R:Type} (E:Env) (ops:List Oper):List Item→(ASt→Prg R)→ASt→Prg R
 | [],K,st=>K st
 | i :: rest,K,st=>opQ E ops i (iA (Cy E ops rest K)) st
def unlike (a b:Option Nat):Bool :=
 match a,b with
 | some a,some b=>!a.beq b
 | _,_=>true
def uj (s:Nat):List Oper→Option Oper
 | []=>none
 | o :: l=>match o.dst with
  | some d=>bif d.beq s then some o else uj s l
  | none=>uj s l
def kA (ops:List Oper):Nat→Nat→Nat
 | 0,s=>s
 | n + 1,s=>match uj s ops with
  | some o=>(match aB o.op with | some s'=>kA ops n s' | none=>s)
  | none=>s
def gY (ops:List Oper) (o:Oper):Option Nat:=match aB o.op with
 | some s=>some (kA ops 20 s)
 | none=>none
def tU (ops:List Oper) (x y:Oper):Bool :=
 match aB x.op with
 | some s=>x.guard.isNone && y.guard.isNone && !cf s (looks ops y) && iZ y.dst [kA ops 20 s]
 | none=>true
def cG (ops:List Oper) (x y:Oper):Bool :=
 kY (aq x.op) (aq y.op) && iZ x.dst (looks ops y) && iZ y.dst (looks ops x) && unlike x.dst y.dst && (tU ops x y && tU ops y x)
def iT (acc:List Nat):List Edge→Nat
 | []=>0
 | e :: es=>bif Region.binds .any e then (iT acc es ||| 2 ^ e.on) ||| nth 0 acc e.on else iT acc es
def bL (acc:List Nat):List Oper→List Nat
 | []=>acc
 | o :: rest=>bL (acc ++ [iT acc o.after.toList]) rest
def behind (ops:List Oper):List Nat:=bL [] ops
def eX (i:Nat):List Edge→Bool
 | []=>true
 | e :: es=>bif Region.binds .any e then (bif e.on.blt i then eX i es else false) else eX i es
def pQ (all:List Oper) (o:Oper):List Nat :=
 (match o.dst with | some d=>bif (aq o.op).makes then [d] else [] | none=>[]) ++ (match gY all o with | some s=>[s] | none=>[])
def lb (bs:List Nat) (j:Nat) (all:List Oper):Nat→List Oper→List Nat
 | _,[]=>[]
 | i,o :: rest=>bif !(i.beq j) && !((nth 0 bs j).testBit i) && !((nth 0 bs i).testBit j) then pQ all o ++ lb bs j all (i + 1) rest else lb bs j all (i + 1) rest
def jZ (bs:List Nat) (j:Nat) (all:List Oper):Nat→List Oper→List Nat
 | _,[]=>[]
 | i,o :: rest=>bif !(i.beq j) && !((nth 0 bs j).testBit i) && !((nth 0 bs i).testBit j) then (match gY all o with | some s=>s :: jZ bs j all (i + 1) rest | none=>jZ bs j all (i + 1) rest) else jZ bs j all (i + 1) rest
def gJ (ex:List (List Nat)) (bs:List Nat) (j:Nat) (all:List Oper):Nat→List Oper→List (List Nat × List Nat)
 | _,[]=>[]
 | k,o :: rest=>bif (aq o.op).reads && !(k.beq j) && !((nth 0 bs j).testBit k) && !((nth 0 bs k).testBit j) then (lb bs k all 0 all,nth [] ex k) :: gJ ex bs j all (k + 1) rest else gJ ex bs j all (k + 1) rest
def DF (st:ASt) (o:Oper):List Nat :=
 match o.op with
 | .store _ a _=>(match st.ev a with | .one (.ptr i _)=>[2 * i] | _=>[])
 | _=>[]
def lX (ops:List Oper):Nat→Nat→Nat
 | 0,s=>s
 | n + 1, s => match uj s ops with
  | some o=>(match aq o.op,o.op.operands.toList with
   | .N,.tmp a :: _=>lX ops n a
   | .R,.tmp a :: _=>lX ops n a
   | _,_=>s)
  | none=>s
def wU (ops : List Oper) : Nat → Nat → Bool
 | 0,_=>false
 | n + 1, s => match uj s ops with
  | some o => (match o.op with
   | .indexAddr _ _ _=>true
   | _=>match aq o.op,o.op.operands.toList with
    | .N,.tmp a :: _=>wU ops n a
    | .R,.tmp a :: _=>wU ops n a
    | _,_=>false)
  | none=>false
def zM (look:Look):List Nat→List Nat
 | []=>[]
 | j :: l=>(match look j with
  | some (.cells cs)=>mz cs
  | _=>[j]) ++ zM look l
def zP (st:ASt) (s:Nat):List Nat:=zM st.look (nth (.one .junk) st.slots s).ip
def Av (st:ASt) (all:List Oper) (o:Oper):List Nat :=
 match aB o.op with
 | some s=>(match uj (lX all 20 s) all with
  | none=>bif wU all 20 s then (zP st (lX all 20 s)).map (fun i=>2 * i + 1) else (nth (.one .junk) st.slots (lX all 20 s)).ip.map (2 * ·)
  | some _=>[])
 | none=>[]
def yD (st:ASt) (all:List Oper) (o:Oper):List Nat :=
 match o.op with
 | .store _ (.tmp a) _=>bif wU all 20 a then (zP st (lX all 20 a)).map (fun i=>2 * i + 1) else []
 | _=>[]
def xw (T:Tab) (all:List Oper):Nat→List Oper→List Nat
 | _,[]=>[]
 | j,o :: rest=>(match o.op with
  | .store t (.tmp a) _=>(match T t with | some d=>bif gH d.zero && wU all 20 a then [j] else [] | none=>[])
  | _=>[]) ++ xw T all (j + 1) rest
def exAt (st:ASt) (all:List Oper) (bs:List Nat) (j:Nat):Nat→List Oper→List Nat
 | _,[]=>[]
 | k,o :: rest=>bif !(k.beq j) && !((nth 0 bs j).testBit k) && !((nth 0 bs k).testBit j) then DF st o ++ (yD st all o ++ (Av st all o ++ exAt st all bs j (k + 1) rest)) else exAt st all bs j (k + 1) rest
def BE (st:ASt) (bs:List Nat) (all:List Oper):Nat→List Oper→List (List Nat)
 | _,[]=>[]
 | j,_ :: rest=>exAt st all bs j 0 all :: BE st bs all (j + 1) rest
def exQ (T:Tab) (st:ASt) (ops:List Oper):List (List Nat):=BE st (behind ops) ops 0 ops ++ [xw T ops 0 ops]
def besides (bs:List Nat) (j:Nat):Nat→List Oper→Bool
 | _,[]=>false
 | i,_ :: rest=>bif !(i.beq j) && !((nth 0 bs j).testBit i) && !((nth 0 bs i).testBit j) then true else besides bs j (i + 1) rest
def eT (o:Oper):Bool:=match o.op with
 | .move _=>o.guard.isNone && o.dst.isSome
 | _=>false
def bX (bs:List Nat) (j:Nat):Nat→List Oper→Bool
 | _,[]=>true
 | i,o :: rest=>bif !(i.beq j) && !((nth 0 bs j).testBit i) && !((nth 0 bs i).testBit j) then eT o && bX bs j (i + 1) rest else bX bs j (i + 1) rest
def gL (o:Oper):Bool:=match o.op with
 | .call ⟨.value (.func _),_,_⟩=>o.guard.isNone && o.dst.isSome
 | _=>false
def eG (o:Oper):Bool:=match o.op with
 | .buildSlice _ _ _=>o.guard.isNone && o.dst.isSome
 | _=>false
def iD (o:Oper):Bool:=match aq o.op with
 | .N=>o.guard.isNone && o.dst.isSome
 | .R=>o.guard.isNone && o.dst.isSome
 | _=>false
def beB (bs:List Nat) (j i:Nat):Bool:=!(i.beq j) && !((nth 0 bs j).testBit i) && !((nth 0 bs i).testBit j)
def fd (bs:List Nat) (j:Nat):Nat→List Oper→Bool
 | _,[]=>true
 | i,o :: rest=>bif beB bs j i then (eT o || eG o || iD o) && fd bs j (i + 1) rest else fd bs j (i + 1) rest
def dU (bs:List Nat) (all:List Oper) (j:Nat):Nat→List Oper→Bool
 | _,[]=>true
 | i,o :: rest=>bif beB bs j i then (eT o || (gL o && fd bs i 0 all)) && dU bs all j (i + 1) rest else dU bs all j (i + 1) rest
def dY (bs:List Nat) (j:Nat):Nat→List Oper→Bool
 | _,[]=>true
 | i,o :: rest=>bif beB bs j i then (eT o || (iD o && i.blt j)) && dY bs j (i + 1) rest else dY bs j (i + 1) rest
def nb (bs:List Nat) (j:Nat) (all:List Oper) (o:Oper):Bool:=false
def jc (bs:List Nat) (all:List Oper):Nat→List Oper→Bool
 | _,[]=>true
 | j,o :: rest=>(match aB o.op with | some _=>bX bs j 0 all || nb bs j all o | none=>true) && jc bs all (j + 1) rest
def li (sl:List Nat) (bs:List Nat) (j:Nat) (all:List Oper) (o:Oper):Bool:=cf j sl && zp o && (!bX bs j 0 all && dY bs j 0 all)
def jJ (sl:List Nat) (bs:List Nat) (all:List Oper) (j:Nat):Nat→List Oper→Bool
 | _,[]=>false
 | i,o :: rest=>bif beB bs j i && (nb bs i all o || li sl bs i all o) then true else jJ sl bs all j (i + 1) rest
def lC (bs:List Nat) (all:List Oper):Nat→List Oper→Bool
 | _,[]=>true
 | j,o :: rest=>(!eG o || (dU bs all j 0 all || dY bs j 0 all)) && lC bs all (j + 1) rest
def pB (ex:List (List Nat)) (bs:List Nat) (j:Nat) (all:List Oper):Nat→List Oper→List (List Nat × List Nat)
 | _,[]=>[]
 | k,o :: rest=>bif beB bs j k && (iD o && !eT o) then (lb bs k all 0 all,nth [] ex k) :: pB ex bs j all (k + 1) rest else pB ex bs j all (k + 1) rest
def gG (bs:List Nat) (j:Nat):Nat→List Oper→Bool
 | _,[]=>false
 | i,o :: rest=>bif beB bs j i && eG o then true else gG bs j (i + 1) rest
def pi (ex:List (List Nat)) (ops:List Oper) (bs:List Nat) (j:Nat) (o:Oper):List Nat:=bif jc bs ops 0 ops && (iD o && !eT o) && ((lC bs ops 0 ops && gG bs j 0 ops) || jJ (nth [] ex ops.length) bs ops j 0 ops) then lb bs j ops 0 ops else []
def dull2At (ex:List (List Nat)) (ops:List Oper) (bs:List Nat) (j:Nat) (o:Oper):List Nat:=bif jc bs ops 0 ops && (iD o && !eT o) && jJ (nth [] ex ops.length) bs ops j 0 ops then nth [] ex j else []
def af (ex:List (List Nat)) (ops:List Oper) (bs:List Nat) (j:Nat) (o:Oper):Item:=⟨o,(lb bs j ops 0 ops,nth [] ex j),besides bs j 0 ops,bif li (nth [] ex ops.length) bs j ops o then ([],[]) :: gJ ex bs j ops 0 ops else gJ ex bs j ops 0 ops,jZ bs j ops 0 ops ++ pi ex ops bs j o,match gY ops o with | some m=>m | none=>0,jc bs ops 0 ops && (eT o || bX bs j 0 ops || (lC bs ops 0 ops && eG o) || nb bs j ops o || li (nth [] ex ops.length) bs j ops o),jc bs ops 0 ops && lC bs ops 0 ops && gL o && gG bs j 0 ops,bif (eG o && !dU bs ops j 0 ops) || nb bs j ops o || li (nth [] ex ops.length) bs j ops o then pB ex bs j ops 0 ops else [],pi ex ops bs j o,dull2At ex ops bs j o⟩
def mb (ex:List (List Nat)) (ops:List Oper) (bs:List Nat):Nat→List Oper→List Item
 | _,[]=>[]
 | j,o :: rest=>af ex ops bs j o :: mb ex ops bs (j + 1) rest
def lV (ops:List Oper) (m:Nat) (y:Oper) (j:Nat):Nat→List Oper→Bool
 | _,[]=>true
 | i,x :: rest=>bif i.blt j then (bif m.testBit i || cG ops x y then lV ops m y j (i + 1) rest else false) else true
def zk (ops:List Oper) (bs:List Nat):Nat→List Oper→Bool
 | _,[]=>true
 | j,y :: rest=>bif eX j y.after.toList && lV ops (nth 0 bs j) y j 0 ops then zk ops bs (j + 1) rest else false
def bJ (ops:List Oper):Bool:=zk ops (behind ops) 0 ops
def dw:List Oper→List Item
 | []=>[]
 | o :: rest=>⟨o,([],[]),false,[],[],0,false,false,[],[],[]⟩ :: dw rest
def kq {R:Type} (E:Env) (ops:List Oper) (draw:Bool) (K:ASt→Prg R) (st:ASt):Prg R :=
 bif draw then (bif bJ ops then Cy E ops (mb (exQ E.T st ops) ops (behind ops) 0 ops) K st else .fail)
 else Cy E ops (dw ops) K st
structure Ann where
 keep:List Nat
 own:List Nat
 ownB:List (Nat × Nat)
 kill:List Nat
 frz:List (Nat × Nat)
def gK {α:Type} (d:α) (ks:List Nat):Nat→List α→List α
 | _,[]=>[]
 | n,a :: l=>(bif cf n ks then a else d) :: gK d ks (n + 1) l
def jf (n:Nat):List (Option BC)→Nat
 | []=>n
 | none :: _=>n
 | some _ :: l=>jf (n + 1) l
def dj:Nat→List TV→List TV
 | 0,l=>l
 | n + 1,l=>.hole :: dj n l
def vc (xs:List TV) (r idx:Nat):Bool:=r.beq idx && xs.length.beq (idx + 1)
def jK (st:ASt) (i r idx:Nat):Option ASt :=
 match st.look i with
 | some (.tree xs)=>bif vc xs r idx then none else match xs[r]? with
  | some x=>((st.az (CA.drop i r [] false)).ac i (some (.tree (ao xs r .hole)))).bB (jf 0 st.boxes) (.tree (dj idx [x]))
  | none=>none
 | _=>none
def zL {R:Type} (st:ASt) (s:Nat) (k:ASt→Prg R):Prg R :=
 match nth (.one .junk) st.slots s with
 | .one (.sref i r [])=>(match jK st i r 0 with
  | some st'=>k (st'.put (some s) (.one (.sref (jf 0 st.boxes) 0 [])))
  | none=>k st)
 | .one (.sref _ _ (_ :: _))=>k st
 | .one (.swin i r [] lo len) => match cA st.look i r with
  | some x=>.tv (dS lo len x) fun y=>(match ct (st.az (CA.drop i r [] false)).look i r y with
   | some b=>k (((st.az (CA.drop i r [] false)).ac i (some b)).put (some s) (.one (.sref i r [])))
   | none=>.fail)
  | none=>.fail
 | v => match v.tv? with
  | some x=>.chk x.isSl (match st.bB (jf 0 st.boxes) (.tree [x]) with
   | some st'=>k (st'.put (some s) (.one (.sref (jf 0 st.boxes) 0 [])))
   | none=>.fail)
  | none=>.fail
def pM {R:Type}:List Nat→ASt→(ASt→Prg R)→Prg R
 | [],st,k=>k st
 | s :: l,st,k=>zL st s fun st=>pM l st k
def xD (cs:List CA) (c:Nat):Nat:=match cs with | .may _ _ :: _=>c | _=>0
def tV {R : Type} (st : ASt) (i c : Nat) (k : ASt → Prg R) : Prg R :=
 match st.look i with
 | some (.cells cs) => match nth .junk cs c with
  | .sref i' r [] => (match jK st i' r (xD cs c) with
   | some st'=>(match st'.look i with
    | some (.cells cs')=>k (st'.ac i (some (.cells (ao cs' c (.sref (jf 0 st.boxes) (xD cs c) [])))))
    | _=>k st)
   | none=>k st)
  | _=>k st
 | _=>k st
def zi {R : Type} (st : ASt) (s c : Nat) (k : ASt → Prg R) : Prg R :=
 match nth (.one .junk) st.slots s with
 | .one (.ptr i _) => match st.look i with
  | some (.cells cs) => match nth .junk cs c with
   | .sref _ _ []=>tV st i c k
   | .sref _ _ (_ :: _)=>k st
   | .swin i' r [] lo len => match cA st.look i' r with
    | some x => .tv (dS lo len x) fun y => (match ct (st.az (CA.drop i' r [] false)).look i' r y with
     | some b=>(match ((st.az (CA.drop i' r [] false)).ac i' (some b)).look i with
      | some (.cells cs')=>tV (((st.az (CA.drop i' r [] false)).ac i' (some b)).ac i (some (.cells (ao cs' c (.sref i' r []))))) i c k
      | _=>.fail)
     | none=>.fail)
    | none=>.fail
   | .t x=>.chk x.isSl (match st.bB (jf 0 st.boxes) (.tree (dj (xD cs c) [x])) with
    | some st'=>k (st'.ac i (some (.cells (ao cs c (.sref (jf 0 st.boxes) (xD cs c) [])))))
    | none=>.fail)
   | _=>.fail
  | _=>.fail
 | _=>.fail
def lD {R:Type}:List (Nat × Nat)→ASt→(ASt→Prg R)→Prg R
 | [],st,k=>k st
 | (s,c) :: l,st,k=>zi st s c fun st=>lD l st k
def lG:TV→TV
 | .sl o s xs=>.sl o s (sF xs)
 | x=>x
def Dr (st : ASt) (s c : Nat) : ASt :=
 match nth (.one .junk) st.slots s with
 | .one (.ptr i _) => match st.look i with
  | some (.cells cs) => match nth .junk cs (c % 1000) with
   | .sref i' r [] => match st.look i' with
    | some (.tree xs)=>match xs[r]? with
     | some x=>bif Nat.ble 1000 c then st.ac i' (some (.tree (ao xs r (lG x)))) else (st.ac i' (some (.tree (ao xs r (frz x))))).ac i (some (.cells (ao cs (c % 1000) (.t (frz x)))))
     | none=>st
    | _=>st
   | _=>st
  | _=>st
 | _=>st
def kr:List (Nat × Nat)→ASt→ASt
 | [],st=>st
 | (s,c) :: l,st=>kr l (Dr st s c)
def ii (st:ASt):List Nat→ASt
 | []=>st
 | s :: l => match nth (.one .junk) st.slots s with
  | .one (.ptr i _)=>(match st.look i with
   | some (.cells cs)=>ii (st.ac i (some (.cells (mapC (fun _=>.junk) cs)))) l
   | _=>ii st l)
  | _=>ii st l
def visit (look:Look):Nat→List Nat→List Nat→List Nat
 | 0,_,seen=>seen
 | _ + 1,[],seen=>seen
 | n + 1,i :: l,seen=>bif cf i seen then visit look n l seen else match look i with
  | some b=>visit look n (l ++ b.nr) (seen ++ [i])
  | none=>visit look n l seen
def mC (i:Nat):Nat→List Nat→Option Nat
 | _,[]=>none
 | n,a :: l=>bif a.beq i then some n else mC i (n + 1) l
def CA.ren (L:List Nat) (c:CA):CA :=
 match c with
 | .ptr i off=>match mC i 0 L with | some k=>.ptr k off | none=>.junk
 | .tptr i r p k j=>match mC i 0 L with | some m=>.tptr m r p k j | none=>.junk
 | .sref i r p=>match mC i 0 L with | some m=>.sref m r p | none=>.junk
 | .swin i r p lo len=>match mC i 0 L with | some m=>.swin m r p lo len | none=>.junk
 | .may i ty=>match mC i 0 L with | some k=>.may k ty | none=>.junk
 | .aptr i off len n=>match mC i 0 L with | some k=>.aptr k off len n | none=>.junk
 | c=>c
def i7:List Nat→Bool
 | []=>true
 | a :: l=>!cf a l && i7 l
def oq (look:Look) (f:CA→CA):List Nat→List (Option BC)
 | []=>[]
 | i :: l=>(match look i with | some b=>some (b.bu f) | none=>none) :: oq look f l
def AV.asTV:AV→AV
 | .one (.t x)=>.tv x
 | .bl b=>.tv (.lit (.bool b))
 | v=>v
def qz:List AV→List AV
 | []=>[]
 | v :: l=>v.asTV :: qz l
def jv (L:List Nat) (st:ASt):ASt :=
 ⟨qz (cF (CA.ren L) st.slots),oq st.look (CA.ren L) L ++ List.replicate (st.boxes.length - L.length) none,qz (cF (CA.ren L) st.out)⟩
def io (ks:List Nat) (st:ASt):ASt:=⟨gK (.one .junk) ks 0 st.slots,st.boxes,st.out⟩
def il (st:ASt):List Nat:=visit st.look 1000 (jo st.slots ++ jo st.out) []
def yE {R:Type} (st:ASt) (k:ASt→Prg R):Prg R :=
 bif i7 (il st) && (il st).length.ble dB && dB.ble st.boxes.length then k (jv (il st) st) else .fail
def uI {R:Type} (an:Ann) (st:ASt) (k:ASt→Prg R):Prg R :=
 pM an.own st fun st=>lD an.ownB st fun st=>yE (io an.keep (ii (kr an.frz st) an.kill)) k
inductive AEx where
 | normal | ret | exit (id:Nat)
def first:Code→Option Nat
 | .region id _ _=>some id
 | .seq a b=>match first a with
  | some n=>some n
  | none=>first b
 | .cond _ a b=>match first a with
  | some n=>some n
  | none=>first b
 | .block _ c=>first c
 | .loop c=>first c
 | _=>none
def ir (ann:Nat→Option Ann) (c:Code):Option Ann :=
 match first c with
 | some n=>ann n
 | none=>none
def qy {R:Type} (an:Option Ann) (rp:List Nat) (next:ASt→Prg R) (K:AEx→ASt→Prg R):AEx→ASt→Prg R
 | .normal,st=>match an with
  | none=>next st
  | some an=>uI an st fun st=>.jmp rp st
 | e,st=>K e st
def lA {R:Type} (id:Nat) (K:AEx→ASt→Prg R):AEx→ASt→Prg R
 | .exit i,st=>bif i.beq id then K .normal st else K (.exit i) st
 | e,st=>K e st
def uH {R:Type} (an:Option Ann) (rp:List Nat) (st:ASt):Prg R :=
 match an with
 | none=>.fail
 | some an=>uI an st fun st=>.jmp rp st
def rn {R:Type} (an:Option Ann) (rp:List Nat) (K:AEx→ASt→Prg R):AEx→ASt→Prg R
 | .normal,st=>uH an rp st
 | e,st=>K e st
structure Opn where
 fns:FuncId→Option Func
 ann:FuncId→Nat→Option Ann
 jn:FuncId→Nat→Option Ann
 kp:FuncId→Nat→Option (List Nat)
def AV.Ad:AV→Option (FuncId × List CA)
 | .clo f cs=>some (f,cs)
 | _=>none
def uL (L:Opn) (st:ASt) (j:Nat):Op→Option (Nat × FuncId × Func × List CA)
 | .call ⟨.value (.func f),_,_⟩=>match L.fns f with
  | some fn=>some (j,f,fn,[])
  | none=>none
 | .call ⟨.value (.tmp t), _, _⟩ => match (nth (.one .junk) st.slots t).Ad with
  | some (f,cs)=>match L.fns f with
   | some fn=>some ((f + 1) * 1000 + j,f,fn,cs)
   | none=>none
  | none=>none
 | _=>none
def D4 (L:Opn):Op→Bool
 | .call ⟨.value (.func f),_,_⟩=>(L.fns f).isSome
 | .call ⟨.value (.tmp _),_,_⟩=>true
 | _=>false
def q0 (L:Opn):List Oper→Bool
 | []=>false
 | o :: l=>bif D4 L o.op then true else q0 L l
def sH (L:Opn) (y:Nat):Op→Option (FuncId × Func)
 | .call ⟨.value (.func f),_,_⟩=>bif y.blt 1000 then (match L.fns f with
  | some fn=>some (f,fn)
  | none=>none) else none
 | .call ⟨.value (.tmp _), _, _⟩ => match y / 1000 with
  | f + 1=>(match L.fns f with
   | some fn=>some (f,fn)
   | none=>none)
  | 0=>none
 | _=>none
def oH (bs:List Nat) (k:Nat):Nat→List Oper→Bool
 | _,[]=>true
 | i,_ :: rest=>bif i.blt k then oH bs k (i + 1) rest else (Nat.land (nth 0 bs i) (2 ^ k - 1)).beq (2 ^ k - 1) && oH bs k (i + 1) rest
def jb (ops:List Oper) (k:Nat):Bool:=oH (behind ops) k 0 ops
def dp {R:Type} (E:Env) (reg:Nat→List Nat→List Oper→Bool→(ASt→Prg R)→ASt→Prg R) (rg:List Nat→Operand→Array Tmp→Code→Code→(ASt→Prg R)→ASt→Prg R) (ann jn:Nat→Option Ann):List Nat→Code→(AEx→ASt→Prg R)→ASt→Prg R
 | _,.skip,K,st=>K .normal st
 | rp,.region id ops draw,K,st=>reg id rp ops.toList draw (K .normal) st
 | rp,.seq a b,K,st=>dp E reg rg ann jn (0 :: rp) a (qy (ir jn b) (1 :: rp) (dp E reg rg ann jn (1 :: rp) b K) K) st
 | rp, .cond c a b, K, st => match st.ev c with
  | .bl v=>bif v then dp E reg rg ann jn (0 :: rp) a K st else dp E reg rg ann jn (1 :: rp) b K st
  | x=>match x.tv? with
   | some v=>.ite (asBool v) (dp E reg rg ann jn (0 :: rp) a K st) (dp E reg rg ann jn (1 :: rp) b K st)
   | none=>.fail
 | rp,.block id c,K,st=>dp E reg rg ann jn (0 :: rp) c (lA id K) st
 | rp,.loop c,_,st=>uH (ir ann c) (0 :: rp) st
 | _,.exit id,K,st=>K (.exit id) st
 | _,.ret,K,st=>K .ret st
 | rp,.rangeFunc g ps a c,K,st=>rg rp g ps a c (K .normal) st
 | _,_,_,_=>.fail
def cn (fn:Func):Code:=match fn.body with | some c=>c | none=>.skip
def wk (T : Tab) (st : ASt) : ResultVar → Option AV
 | .tmp t=>some (nth (.one .junk) st.slots t)
 | .cell a ty => match nth (.one .junk) st.slots a, T ty with
  | .one (.ptr i 0), some d => match st.look i with
   | some (.cells cs)=>match lc cs 0 (bif d.kd.isAgg then d.size else 1) with
    | some cs=>dv d.kd.isAgg cs
    | none=>none
   | _=>none
  | _,_=>none
def i5 (T:Tab) (st:ASt):List ResultVar→Option (List AV)
 | []=>some []
 | r :: l=>match wk T st r,i5 T st l with
  | some x,some xs=>some (x :: xs)
  | _,_=>none
def rO {R:Type}:List TyD→List AV→(List (Bool × List CA)→Prg R)→Prg R
 | [],[],k=>k []
 | d :: ds,v :: vs,k=>v.bd d.kd.isAgg d.size fun cs=>rO ds vs fun l=>k ((d.kd.isAgg,cs) :: l)
 | _,_,_=>.fail
def vD {R:Type} (ds:List TyD) (vs:List AV) (k:AV→Prg R):Prg R :=
 match vs with
 | [v]=>k v
 | vs=>rO ds vs fun l=>k (.tups l)
def qN (L:List Nat) (m:Nat) (st:ASt):ASt :=
 ⟨cF (CA.ren L) st.slots,oq st.look (CA.ren L) L ++ List.replicate (st.boxes.length - m - L.length) none,cF (CA.ren L) st.out⟩
def fY {R:Type} (m:Nat) (st:ASt) (k:ASt→Prg R):Prg R :=
 mK (fun st=>fNs (il st) fun L=>bif i7 L && L.length.ble dB && dB.ble st.boxes.length then mK k (qN L m st) else .fail) st
def uK {R : Type} (E : Env) (f : FuncId) (fn : Func) (nt : Nat) (d : Option Tmp) (K : ASt → Prg R) : AEx → ASt → Prg R
 | .exit _,_=>.fail
 | _,st=>match i5 E.T st fn.results.toList,mu E.T (E.rts f) with
  | some vs, some ds => bif nt.ble st.out.length then vD ds vs fun v =>
    fY fn.ntmps (ASt.put ⟨st.out.drop (st.out.length - nt),st.boxes,st.out.take (st.out.length - nt)⟩ d v) K else .fail
  | _,_=>.fail
def jD (ntmps:Nat) (vs:List AV) (st:ASt):ASt :=
 ⟨vs ++ List.replicate (ntmps - vs.length) (.one .undef),st.boxes ++ List.replicate ntmps none,st.out ++ st.slots⟩
def jG:Option (List Nat)→ASt→ASt
 | none,st=>st
 | some ks,st=>io ks st
def zV (id j:Nat):Nat:=id * 1000 + j
structure Rng where
 off:Nat
 nt:Nat
 fi:FuncId
 ps:Array Tmp
 assign:Code
 body:Code
 busy:Bool
def aO:List Rng→Nat→List Rng
 | [],_=>[]
 | y :: l,0=>{ y with busy:=true } :: l
 | y :: l,m + 1=>y :: aO l m
def CA.unY (n:Nat) (c:CA):CA :=
 match c with
 | .yl k=>bif k.blt n then .yl k else .junk
 | c=>c
def AV.ylOf:AV→Option Nat
 | .one (.yl m)=>some m
 | _=>none
def kG (z m j:Nat):Nat:=2 * ((2 * m + z) * 1000 + j) + 3
def jP:List Tmp→List AV→List AV→List AV
 | t :: ts,v :: vs,l=>jP ts vs (ao l t v)
 | _,_,l=>l
abbrev An (R:Type):=Nat→FuncId→List Rng→Nat→List Nat→List Oper→Bool→(ASt→Prg R)→ASt→Prg R
abbrev Al (R:Type):=Nat→FuncId→List Rng→List Nat→Operand→Array Tmp→Code→Code→(ASt→Prg R)→ASt→Prg R
def tA {R:Type} (E:Env) (L:Opn) (reg:An R) (rg:Al R) (nt:Nat) (fi:FuncId) (ys:List Rng) (id:Nat) (rp:List Nat) (j y:Nat) (o:Oper) (f:FuncId) (fn:Func) (cap:List CA) (K:ASt→Prg R) (st:ASt):Prg R :=
 match o.op.operands.toList with
 | _ :: xs => bif xs.length.beq fn.params.size && (xs.length + cap.length).ble fn.ntmps && (st.slots.length.beq nt && j.blt 1000) then
   mK (dp E (reg fn.ntmps f ys) (rg fn.ntmps f ys) (L.ann f) (L.jn f) ((2 * y + 2) :: rp) (cn fn) (uK E f fn nt o.dst K)) (jD fn.ntmps (xs.map st.ev ++ cap.map AV.one) (jG (L.kp fi (zV id j)) st)) else .fail
 | _=>.fail
def ASt.cut (nt:Nat) (st:ASt):ASt:=⟨st.out.drop (st.out.length - nt),st.boxes,st.out.take (st.out.length - nt)⟩
def eQ {R:Type} (y:Rng) (nt:Nat) (d:Option Tmp) (K:ASt→Prg R):AEx→ASt→Prg R
 | .normal,st=>bif nt.ble st.out.length then fY y.nt ((st.cut nt).put d (.bl true)) K else .fail
 | _,_=>.fail
def pr {R:Type} (k:ASt→Prg R):AEx→ASt→Prg R
 | .normal,st=>k st
 | _,_=>.fail
def s7 {R : Type} (E : Env) (L : Opn) (reg : An R) (rg : Al R) (nt : Nat) (fi : FuncId) (ys : List Rng) (id : Nat) (rp : List Nat) (j m : Nat) (y : Rng) (o : Oper) (K : ASt → Prg R) (st : ASt) : Prg R :=
 match o.op.operands.toList with
 | _ :: xs => bif xs.length.beq y.ps.size && (st.slots.length.beq nt && (j.blt 1000 && (!y.busy && (y.off + y.nt).ble st.out.length))) then
   mK (dp E (reg y.nt y.fi (aO ys m)) (rg y.nt y.fi (aO ys m)) (L.ann y.fi) (L.jn y.fi) (kG 0 m j :: rp) y.assign
    (pr (dp E (reg y.nt y.fi (aO ys m)) (rg y.nt y.fi (aO ys m)) (L.ann y.fi) (L.jn y.fi) (kG 1 m j :: rp) y.body (eQ y nt o.dst K))))
    (jD y.nt (jP y.ps.toList (xs.map st.ev) ((st.out.drop y.off).take y.nt)) (jG (L.kp fi (zV id j)) st)) else .fail
 | _=>.fail
def mZ (draw:Bool) (ex:List (List Nat)) (all:List Oper) (j:Nat) (o:Oper):Item:=bif draw then af ex all (behind all) j o else ⟨o,([],[]),false,[],[],0,false,false,[],[],[]⟩
def om (T:Tab) (draw:Bool) (st:ASt) (all:List Oper):List (List Nat):=bif draw then exQ T st all else []
def aW (ops:List Oper) (o:Oper) (s:ASt):Option (Option Bool) :=
 match o.guard with
 | none=>some (some true)
 | some (j, want) => match ((ops[j]?).bind (·.dst)) with
  | none=>none
  | some g=>match nth (.one .junk) s.slots g with
   | .one .undef=>some none
   | .bl b=>some (some (b == want))
   | _=>none
def fZ (ops:List Oper) (o:Oper) (s:ASt):Bool:=match aW ops o s with
 | some (some true)=>true
 | _=>false
def rS (ys:List Rng) (st:ASt):Op→Option (Nat × Rng)
 | .call ⟨.value (.tmp t), _, _⟩ => match (nth (.one .junk) st.slots t).ylOf with
  | some m=>match ys[m]? with
   | some y=>some (m,y)
   | none=>none
  | none=>none
 | _=>none
def fS {R : Type} (E : Env) (L : Opn) (reg : An R) (rg : Al R) (nt : Nat) (fi : FuncId) (ys : List Rng) (id : Nat) (rp : List Nat) (draw : Bool) (all : List Oper) (K : ASt → Prg R) : Nat → List Oper → List (List Nat) → ASt → Prg R
 | _,[],_,st=>K st
 | j, o :: rest, ex, st => match uL L st j o.op with
  | some (y, f, fn, cap) => bif fZ all o st then (bif !draw || (jb all j && jb all (j + 1)) then
    tA E L reg rg nt fi ys id rp j y o f fn cap (fun st'=>fS E L reg rg nt fi ys id rp draw all K (j + 1) rest (om E.T draw st' all) st') st else .fail)
   else opQ E all (mZ draw ex all j o) (iA (fS E L reg rg nt fi ys id rp draw all K (j + 1) rest ex)) st
  | none => match rS ys st o.op with
   | some (m, y) => bif fZ all o st then (bif !draw || (jb all j && jb all (j + 1)) then
     s7 E L reg rg nt fi ys id rp j m y o (fun st'=>fS E L reg rg nt fi ys id rp draw all K (j + 1) rest (om E.T draw st' all) st') st else .fail)
    else opQ E all (mZ draw ex all j o) (iA (fS E L reg rg nt fi ys id rp draw all K (j + 1) rest ex)) st
   | none=>opQ E all (mZ draw ex all j o) (iA (fS E L reg rg nt fi ys id rp draw all K (j + 1) rest ex)) st
def xb {R:Type} (fn:Func) (n nt:Nat) (K:ASt→Prg R):AEx→ASt→Prg R
 | .exit _,_=>.fail
 | _,st=>bif fn.results.size.beq 0 && nt.ble st.out.length then fY fn.ntmps ((st.az (CA.unY n)).cut nt) K else .fail
mutual
def ek {R:Type} (E:Env) (L:Opn):Nat→An R
 | 0,_,_,_,_,_,ops,draw,K,st=>kq E ops draw K st
 | n + 1,nt,fi,ys,id,rp,ops,draw,K,st=>bif q0 L ops then (bif !draw || bJ ops then fS E L (ek E L n) (er E L n) nt fi ys id rp draw ops K 0 ops (om E.T draw st ops) st else .fail) else kq E ops draw K st
def er {R:Type} (E:Env) (L:Opn):Nat→Al R
 | 0,_,_,_,_,_,_,_,_,_,_=>.fail
 | n + 1, nt, fi, ys, rp, g, ps, assign, body, K, st => yp (fun st => match (st.ev g).Ad with
  | some (f,cs)=>(match L.fns f with
   | some fn => bif Nat.beq fn.params.size 1 && ((cs.length + 1).ble fn.ntmps && st.slots.length.beq nt) then
     mK (dp E (ek E L n fn.ntmps f (ys ++ [⟨st.out.length,nt,fi,ps,assign,body,false⟩])) (er E L n fn.ntmps f (ys ++ [⟨st.out.length,nt,fi,ps,assign,body,false⟩])) (L.ann f) (L.jn f) (f :: rp) (cn fn) (xb fn ys.length nt K))
      (jD fn.ntmps (.one (.yl ys.length) :: cs.map AV.one) st) else .fail
   | none=>.fail)
  | none=>.fail) (st.az (CA.unY ys.length))
end
def goQ {R : Type} (E : Env) (L : Opn) : List Nat → Nat → Nat → Nat → FuncId → List Rng → List Nat → Code → (AEx → ASt → Prg R) → ASt → Prg R
 | [],n,_,nt,fi,ys,rp,c,K=>dp E (ek E L n nt fi ys) (er E L n nt fi ys) (L.ann fi) (L.jn fi) rp c K
 | x :: p, n, no, nt, fi, ys, rp, c, K => match c with
  | .seq a b=>match x with
   | 0=>goQ E L p n no nt fi ys (0 :: rp) a (qy (ir (L.jn fi) b) (1 :: rp) (dp E (ek E L n nt fi ys) (er E L n nt fi ys) (L.ann fi) (L.jn fi) (1 :: rp) b K) K)
   | _=>goQ E L p n no nt fi ys (1 :: rp) b K
  | .cond _ a b=>match x with
   | 0=>goQ E L p n no nt fi ys (0 :: rp) a K
   | _=>goQ E L p n no nt fi ys (1 :: rp) b K
  | .block id c=>goQ E L p n no nt fi ys (0 :: rp) c (lA id K)
  | .loop c=>goQ E L p n no nt fi ys (0 :: rp) c (rn (ir (L.ann fi) c) (0 :: rp) K)
  | .rangeFunc _ ps assign body => match n with
   | n + 1=>(match L.fns x with
    | some fn=>goQ E L p n (no + nt) fn.ntmps x (ys ++ [⟨no,nt,fi,ps,assign,body,false⟩]) (x :: rp) (cn fn) (xb fn ys.length nt (K .normal))
    | none=>fun _=>.fail)
   | 0=>fun _=>.fail
  | .region id ops draw => match n with
   | n + 1 => bif (x % 2).beq 0 then (match ops.toList[(x / 2 - 1) % 1000]? with
    | some o=>(match sH L (x / 2 - 1) o.op with
     | some (f, fn) => bif !draw || bJ ops.toList then goQ E L p n (no + nt) fn.ntmps f ys (x :: rp) (cn fn)
       (uK E f fn nt o.dst (fun st'=>fS E L (ek E L n) (er E L n) nt fi ys id rp draw ops.toList (K .normal) ((x / 2 - 1) % 1000 + 1) (ops.toList.drop ((x / 2 - 1) % 1000 + 1)) (om E.T draw st' ops.toList) st')) else fun _=>.fail
     | none=>fun _=>.fail)
    | none=>fun _=>.fail)
    else (match ops.toList[((x - 3) / 2) % 1000]? with
    | some o=>(match ys[(x - 3) / 2 / 1000 / 2]? with
     | some r => bif !draw || bJ ops.toList then (bif ((x - 3) / 2 / 1000 % 2).beq 0 then
       goQ E L p n (no + nt) r.nt r.fi (aO ys ((x - 3) / 2 / 1000 / 2)) (x :: rp) r.assign
        (pr (dp E (ek E L n r.nt r.fi (aO ys ((x - 3) / 2 / 1000 / 2))) (er E L n r.nt r.fi (aO ys ((x - 3) / 2 / 1000 / 2))) (L.ann r.fi) (L.jn r.fi) (kG 1 ((x - 3) / 2 / 1000 / 2) (((x - 3) / 2) % 1000) :: rp) r.body
         (eQ r nt o.dst (fun st'=>fS E L (ek E L n) (er E L n) nt fi ys id rp draw ops.toList (K .normal) (((x - 3) / 2) % 1000 + 1) (ops.toList.drop (((x - 3) / 2) % 1000 + 1)) (om E.T draw st' ops.toList) st'))))
       else goQ E L p n (no + nt) r.nt r.fi (aO ys ((x - 3) / 2 / 1000 / 2)) (x :: rp) r.body
        (eQ r nt o.dst (fun st'=>fS E L (ek E L n) (er E L n) nt fi ys id rp draw ops.toList (K .normal) (((x - 3) / 2) % 1000 + 1) (ops.toList.drop (((x - 3) / 2) % 1000 + 1)) (om E.T draw st' ops.toList) st'))) else fun _=>.fail
     | none=>fun _=>.fail)
    | none=>fun _=>.fail)
   | 0=>fun _=>.fail
  | _=>fun _=>.fail
theorem zq {R:Type} (E:Env) (L:Opn) (n no nt:Nat) (fi:FuncId) (ys:List Rng) (rp:List Nat) (K:AEx→ASt→Prg R) (c:Code):goQ E L [] n no nt fi ys rp c K=dp E (ek E L n nt fi ys) (er E L n nt fi ys) (L.ann fi) (L.jn fi) rp c K:=rfl
theorem BD {R:Type} (E:Env) (L:Opn) (p:List Nat) (n no nt:Nat) (fi:FuncId) (ys:List Rng) (rp:List Nat) (K:AEx→ASt→Prg R) (a b:Code):goQ E L (0 :: p) n no nt fi ys rp (.seq a b) K=goQ E L p n no nt fi ys (0 :: rp) a (qy (ir (L.jn fi) b) (1 :: rp) (dp E (ek E L n nt fi ys) (er E L n nt fi ys) (L.ann fi) (L.jn fi) (1 :: rp) b K) K):=rfl
theorem Co {R:Type} (E:Env) (L:Opn) (p:List Nat) (n no nt:Nat) (fi:FuncId) (ys:List Rng) (rp:List Nat) (K:AEx→ASt→Prg R) (a b:Code):goQ E L (1 :: p) n no nt fi ys rp (.seq a b) K=goQ E L p n no nt fi ys (1 :: rp) b K:=rfl
theorem As {R:Type} (E:Env) (L:Opn) (p:List Nat) (n no nt:Nat) (fi:FuncId) (ys:List Rng) (rp:List Nat) (K:AEx→ASt→Prg R) (c:Operand) (a b:Code):goQ E L (0 :: p) n no nt fi ys rp (.cond c a b) K=goQ E L p n no nt fi ys (0 :: rp) a K:=rfl
theorem AD {R:Type} (E:Env) (L:Opn) (p:List Nat) (n no nt:Nat) (fi:FuncId) (ys:List Rng) (rp:List Nat) (K:AEx→ASt→Prg R) (c:Operand) (a b:Code):goQ E L (1 :: p) n no nt fi ys rp (.cond c a b) K=goQ E L p n no nt fi ys (1 :: rp) b K:=rfl
theorem AC {R:Type} (E:Env) (L:Opn) (p:List Nat) (n no nt:Nat) (fi:FuncId) (ys:List Rng) (rp:List Nat) (K:AEx→ASt→Prg R) (id:Nat) (c:Code) (x:Nat):goQ E L (x :: p) n no nt fi ys rp (.block id c) K=goQ E L p n no nt fi ys (0 :: rp) c (lA id K):=rfl
theorem B4 {R:Type} (E:Env) (L:Opn) (p:List Nat) (n no nt:Nat) (fi:FuncId) (ys:List Rng) (rp:List Nat) (K:AEx→ASt→Prg R) (c:Code) (x:Nat):goQ E L (x :: p) n no nt fi ys rp (.loop c) K=goQ E L p n no nt fi ys (0 :: rp) c (rn (ir (L.ann fi) c) (0 :: rp) K):=rfl
theorem Bo {R:Type} (E:Env) (L:Opn) (p:List Nat) (no nt:Nat) (fi:FuncId) (ys:List Rng) (rp:List Nat) (K:AEx→ASt→Prg R) (g:Operand) (ps:Array Tmp) (assign body:Code) (x:Nat):goQ E L (x :: p) 0 no nt fi ys rp (.rangeFunc g ps assign body) K=fun _=>.fail:=rfl
theorem zK {R:Type} (E:Env) (L:Opn) (p:List Nat) (n no nt:Nat) (fi:FuncId) (ys:List Rng) (rp:List Nat) (K:AEx→ASt→Prg R) (g:Operand) (ps:Array Tmp) (assign body:Code) (x:Nat):goQ E L (x :: p) (n + 1) no nt fi ys rp (.rangeFunc g ps assign body) K=match L.fns x with
 | some fn=>goQ E L p n (no + nt) fn.ntmps x (ys ++ [⟨no,nt,fi,ps,assign,body,false⟩]) (x :: rp) (cn fn) (xb fn ys.length nt (K .normal))
 | none=>fun _=>.fail:=rfl
theorem s6 {R:Type} (E:Env) (L:Opn) (p:List Nat) (no nt:Nat) (fi:FuncId) (ys:List Rng) (rp:List Nat) (K:AEx→ASt→Prg R) (id:Nat) (ops:Array Oper) (draw:Bool) (x:Nat):goQ E L (x :: p) 0 no nt fi ys rp (.region id ops draw) K=fun _=>.fail:=rfl
theorem qR {R : Type} (E : Env) (L : Opn) (p : List Nat) (n no nt : Nat) (fi : FuncId) (ys : List Rng) (rp : List Nat) (K : AEx → ASt → Prg R) (id : Nat) (ops : Array Oper) (draw : Bool) (x : Nat) : goQ E L (x :: p) (n + 1) no nt fi ys rp (.region id ops draw) K = bif (x % 2).beq 0 then (match ops.toList[(x / 2 - 1) % 1000]? with
    | some o=>(match sH L (x / 2 - 1) o.op with
     | some (f, fn) => bif !draw || bJ ops.toList then goQ E L p n (no + nt) fn.ntmps f ys (x :: rp) (cn fn)
       (uK E f fn nt o.dst (fun st'=>fS E L (ek E L n) (er E L n) nt fi ys id rp draw ops.toList (K .normal) ((x / 2 - 1) % 1000 + 1) (ops.toList.drop ((x / 2 - 1) % 1000 + 1)) (om E.T draw st' ops.toList) st')) else fun _=>.fail
     | none=>fun _=>.fail)
    | none=>fun _=>.fail)
    else (match ops.toList[((x - 3) / 2) % 1000]? with
    | some o=>(match ys[(x - 3) / 2 / 1000 / 2]? with
     | some r => bif !draw || bJ ops.toList then (bif ((x - 3) / 2 / 1000 % 2).beq 0 then
       goQ E L p n (no + nt) r.nt r.fi (aO ys ((x - 3) / 2 / 1000 / 2)) (x :: rp) r.assign
        (pr (dp E (ek E L n r.nt r.fi (aO ys ((x - 3) / 2 / 1000 / 2))) (er E L n r.nt r.fi (aO ys ((x - 3) / 2 / 1000 / 2))) (L.ann r.fi) (L.jn r.fi) (kG 1 ((x - 3) / 2 / 1000 / 2) (((x - 3) / 2) % 1000) :: rp) r.body
         (eQ r nt o.dst (fun st'=>fS E L (ek E L n) (er E L n) nt fi ys id rp draw ops.toList (K .normal) (((x - 3) / 2) % 1000 + 1) (ops.toList.drop (((x - 3) / 2) % 1000 + 1)) (om E.T draw st' ops.toList) st'))))
       else goQ E L p n (no + nt) r.nt r.fi (aO ys ((x - 3) / 2 / 1000 / 2)) (x :: rp) r.body
        (eQ r nt o.dst (fun st'=>fS E L (ek E L n) (er E L n) nt fi ys id rp draw ops.toList (K .normal) (((x - 3) / 2) % 1000 + 1) (ops.toList.drop (((x - 3) / 2) % 1000 + 1)) (om E.T draw st' ops.toList) st'))) else fun _=>.fail
     | none=>fun _=>.fail)
    | none=>fun _=>.fail):=rfl
def dM:List CA→List (Nat × Nat)
 | []=>[]
 | .sref i r _ :: l=>(i,r) :: dM l
 | .swin i r _ _ _ :: l=>(i,r) :: dM l
 | _ :: l=>dM l
def cN (i r:Nat):List (Nat × Nat)→Nat
 | []=>0
 | (a,b) :: l=>bif a.beq i && b.beq r then cN i r l + 1 else cN i r l
def mJ (rs:List (Nat × Nat)) (i r:Nat):Bool:=(cN i r rs).ble 1
def mF (look:Look) (rs:List (Nat × Nat)) (c:CA) (k:TV→Prg TV):Prg TV :=
 match c with
 | .t x=>k x
 | .sref i r p=>jg look (.sref i r p) fun x=>k (bif mJ rs i r then x else frz x)
 | .swin i r p lo len=>jg look (.swin i r p lo len) fun x=>k (bif mJ rs i r then x else frz x)
 | _=>.fail
def zW (look:Look) (rs:List (Nat × Nat)):List CA→(List TV→Prg TV)→Prg TV
 | [],k=>k []
 | c :: l,k=>mF look rs c fun x=>zW look rs l fun xs=>k (x :: xs)
def zJ (look:Look) (rs:List (Nat × Nat)) (v:AV) (k:TV→Prg TV):Prg TV :=
 match v with
 | .one c=>mF look rs c k
 | .tv x=>k x
 | .agg cs=>zW look rs cs fun xs=>k (.agg xs)
 | .tups _=>.fail
 | .clo _ _=>.fail
 | .bl b=>k (.lit (.bool b))
def gives (look:Look) (rs:List (Nat × Nat)):List AV→(List TV→Prg TV)→Prg TV
 | [],k=>k []
 | v :: l,k=>zJ look rs v fun x=>gives look rs l fun xs=>k (x :: xs)
def AV.EH:AV→List (Nat × Nat)
 | .one c=>dM [c]
 | .agg cs=>dM cs
 | _=>[]
def cR:List AV→List (Nat × Nat)
 | []=>[]
 | v :: l=>v.EH ++ cR l
def Br (T:Tab) (pure:Bool) (rs:List ResultVar) (st:ASt):Prg TV :=
 match i5 T st rs with
 | some vs=>gives st.look (cR vs) vs fun xs=>(match xs with
  | [x]=>bif pure then .chk (isOwn x) (.ret x) else .ret x
  | xs=>bif pure then .chk (aV xs) (.ret (.tup xs)) else .ret (.tup xs))
 | none=>.fail
def mw (look:Look) (rs:List (Nat × Nat)) (i:Nat) (ty:TypeId):List CA→(List TV→Prg TV)→Prg TV
 | [],k=>k []
 | .may j t :: l,k=>bif j.beq i && t.beq ty then mw look rs i ty l (fun xs=>k (Ef :: xs)) else .fail
 | c :: l,k=>mF look rs c fun x=>mw look rs i ty l fun xs=>k (x :: xs)
def qG (xs:List TV):TV:=match xs with | [x]=>x | xs=>.tup xs
def CI (T:Tab) (ld:fh) (rs:List ResultVar) (st:ASt):Prg TV :=
 match i5 T st rs,st.out with
 | some vs,[.one (.ptr i 0)]=>match st.look i with
  | some (.cells cs)=>gives st.look (cR vs ++ dM cs) vs fun xs=>mw st.look (cR vs ++ dM cs) i ld.ty cs fun ys=>.ret (.tup [qG xs,.tup ys])
  | _=>.fail
 | _,_=>.fail
def resP (T : Tab) (rs : List ResultVar) (st : ASt) : Prg TV :=
 match i5 T st rs with
 | some [v] => (match v.tv? with
  | some x=>.ret x
  | none => match v with
   | .agg cs=>(match fI cs with
    | some xs=>.ret (.agg xs)
    | none=>.fail)
   | _=>.fail)
 | _=>.fail
def Eg (T:Tab) (ld:Option fh) (pk pure:Bool) (rs:List ResultVar) (st:ASt):Prg TV :=
 bif pk then resP T rs st else match ld with
 | none=>Br T pure rs st
 | some ld=>CI T ld rs st
def fw (ld:fh) (ntmps:Nat) (cs args:List TV):ASt :=
 ⟨.one (.ptr 0 0) :: (args.map (fun x => .tv x) ++ List.replicate (ntmps - (args.length + 1)) (.one .undef)),
  some (.cells (gc 0 1 ld.ty ld.fl cs 0)) :: some (.tree (cY ld.fl cs)) :: List.replicate (dB + ntmps) none,[.one (.ptr 0 0)]⟩
def jh (ntmps:Nat) (args:List TV):ASt :=
 ⟨args.map (fun x=>.tv x) ++ List.replicate (ntmps - args.length) (.one .undef),List.replicate (dB + ntmps) none,[]⟩
def vn (c:Nat × Nat) (x:TV):List TV:=ao (List.replicate c.2 .hole) c.1 x
def iX (c:Nat × Nat) (ntmps:Nat) (x:TV) (args:List TV):ASt :=
 ⟨.one (.ref (vn c x) 0) :: (args.map (fun x=>.tv x) ++ List.replicate (ntmps - (args.length + 1)) (.one .undef)),List.replicate (dB + ntmps) none,[]⟩
def Ch (T:Tab) (ld:Option fh) (pk pure:Bool) (rs:List ResultVar):AEx→ASt→Prg TV
 | .normal,st=>Eg T ld pk pure rs st
 | .ret,st=>Eg T ld pk pure rs st
 | _,_=>.fail
structure AProg where
 T:Tab
 pure:FuncId→Bool
 rts:FuncId→List TypeId
 fns:FuncId→Option Func
 ann:FuncId→Nat→Option Ann
 jn:FuncId→Nat→Option Ann
 lent:FuncId→Option fh
 selfT:TypeId→Bool
 ext:FuncId→Option (List TV→Option TV)
 opn:FuncId→Bool
 kp:FuncId→Nat→Option (List Nat)
 peek:FuncId→Option (Nat × Nat)
def AProg.env (A:AProg):Env:=⟨A.T,A.pure,A.rts,A.lent,A.selfT,A.peek⟩
def AProg.opens (A:AProg):Opn:=⟨fun f=>bif A.opn f then A.fns f else none,A.ann,A.jn,A.kp⟩
def ug:Nat:=8
def sA (A:AProg) (f:FuncId):Nat:=match A.peek f with | some _=>0 | none=>bif (A.lent f).isSome then 1 else 0
def ft (A:AProg) (f:FuncId) (rp:List Nat) (st:ASt):Prg TV :=
 match A.fns f with
 | some fn=>goQ A.env A.opens rp.reverse ug (sA A f) fn.ntmps f [] [] (cn fn) (Ch A.T (A.lent f) (A.peek f).isSome (A.pure f) fn.results.toList) st
 | none=>.fail
def aw (A:AProg) (f:FuncId) (args:List TV):Prg TV :=
 match A.peek f with
 | some c=>(match A.fns f,args with
  | some fn,x :: rest=>bif (rest.length + 1).beq fn.params.size && (rest.length + 1).ble fn.ntmps && c.1.blt c.2 then ft A f [] (iX c fn.ntmps x rest) else .fail
  | _,_=>.fail)
 | none=>match A.fns f with
 | some fn => match A.lent f with
  | none=>bif args.length.beq fn.params.size && args.length.ble fn.ntmps then ft A f [] (jh fn.ntmps args) else .fail
  | some ld=>match args with
   | .tup cs :: rest=>bif (rest.length + 1).beq fn.params.size && (rest.length + 1).ble fn.ntmps then .chk (oc ld.fl cs) (ft A f [] (fw ld fn.ntmps cs rest)) else .fail
   | _=>.fail
 | none=>.fail
def iY (A:AProg) (C:FuncId→List TV→Option TV) (f:FuncId):Nat→List Nat→ASt→Option TV
 | 0,_,_=>none
 | n + 1,p,st=>(ft A f p st).run C (iY A C f n)
def acall (A:AProg):Nat→FuncId→List TV→Option TV
 | 0,_,_=>none
 | n + 1,f,args=>match A.ext f with
  | some g=>g args
  | none=>(aw A f args).run (acall A n) (iY A (acall A n) f n)
end Go.Ab

import Derived.Calls
import Derived.Laws.Sem
import Derived.KernelRfl
set_option linter.all false
namespace Go.Ab
theorem FP {α : Type} {i : Nat} {a : α} {l : List α} : l[i]? = some a ↔ ∃ h : i < l.length, l[i] = a := List.getElem?_eq_some_iff
theorem FQ {α : Type} {l : List α} {i : Nat} (h : i < l.length) : l[i]? = some l[i] := List.getElem?_eq_getElem h
theorem FR {α : Type} (a b : α) : (some a = some b) = (a = b) := Option.some.injEq a b
theorem FS (a b : Bool) : ((a && b) = true) = (a = true ∧ b = true) := Bool.and_eq_true a b
theorem FU {α : Type} {xs : Array α} {i : Nat} : xs.toList[i]? = xs[i]? := Array.getElem?_toList
theorem FV {α : Type} {i : Nat} {b : α} {xs : Array α} : xs[i]? = some b ↔ ∃ h : i < xs.size, xs[i] = b := Array.getElem?_eq_some_iff
theorem FW {α : Type} {β : Type} {f : α → β} {l : List α} {i : Nat} : (List.map f l)[i]? = Option.map f l[i]? := List.getElem?_map
theorem FX {α : Type} {a : α} {l : List α} : a ∈ a :: l := List.mem_cons_self
theorem FY {α : Type} (y : α) {a : α} {l : List α} : a ∈ l → a ∈ y :: l := List.mem_cons_of_mem y
theorem FZ {α : Type} {l : List α} {i : Nat} {a : α} : l[i]? = some a → a ∈ l := List.mem_of_getElem?
theorem F3 {α : Type} {l m : List α} {i : Nat} : i < l.length → (l ++ m)[i]? = l[i]? := List.getElem?_append_left
theorem F4 {α : Type} {l m : List α} {i : Nat} : l.length ≤ i → (l ++ m)[i]? = m[i - l.length]? := List.getElem?_append_right
theorem F5 {α : Type} {l : List α} {i : Nat} : l.length ≤ i → l[i]? = none := List.getElem?_eq_none
theorem F6 {α : Type} {β : Type} (a : α) (f : α → β) : Option.map f (some a) = some (f a) := Option.map_some a f
theorem F7 {α : Type} {l : List α} {i : Nat} {a : α} : l.getD i a = l[i]?.getD a := List.getD_eq_getElem?_getD
theorem F8 {α : Type} {xs : Array α} {i : Nat} {d : α} : xs.getD i d = xs[i]?.getD d := Array.getD_eq_getD_getElem?
inductive TV where
 | lit (v:Value)
 | sl (own:Bool) (size:Nat) (xs:List (List TV))
 | agg (cs:List TV)
 | tup (vs:List TV)
 | buf (s:ByteArray) (e:Nat)
 | hole
abbrev Way:=List (Nat × Nat)
inductive CA where
 | t (x:TV)
 | ptr (i off:Nat)
 | ref (x:List TV) (off:Nat)
 | tptr (i r:Nat) (p:Way) (k j:Nat)
 | sref (i r:Nat) (p:Way)
 | swin (i r:Nat) (p:Way) (lo len:Nat)
 | may (i:Nat) (ty:TypeId)
 | aptr (i off len n:Nat)
 | psl (i len:Nat)
 | yl (n:Nat)
 | ifp (t:TypeId) (i:Nat)
 | fn1 (f:FuncId) (i:Nat)
 | undef
 | junk
inductive AV where
 | one (c:CA)
 | agg (cs:List CA)
 | tv (x:TV)
 | tups (cs:List (Bool × List CA))
 | bl (b:Bool)
 | clo (f:FuncId) (cs:List CA)
inductive BC where
 | cells (cs:List CA)
 | tree (xs:List TV)
structure ASt where
 slots:List AV
 boxes:List (Option BC)
 out:List AV
inductive Kd where
 | bool|int (k:IntKind)|str|slice (e:TypeId)|struct|arr (n:Nat) (e:TypeId)|other|ptr
structure TyD where
 size:Nat
 bytes:Nat
 kd:Kd
 zero:List Value
 fields:List (Nat × TypeId)
def Kd.isAgg:Kd->Bool
 | .struct=>true
 | .arr _ _=>true
 | _=>false
abbrev Tab:=TypeId->Option TyD
def nth {α:Type} (d:α):List α->Nat->α
 | [],_=>d
 | a::_,0=>a
 | _::l,n+1=>nth d l n
def ai {α:Type}:List α->Nat->α->List α
 | [],_,_=>[]
 | _::l,0,b=>b::l
 | a::l,n+1,b=>a::ai l n b
def bF (n:Nat):List Nat->Bool
 | []=>false
 | a::l=>bif a.beq n then true else bF n l
def sO:List (Nat × TyD)->Tab
 | [],_=>none
 | (k,d)::r,t=>bif k.beq t then some d else sO r t
def bH {α:Type} (l:List α) (off:Nat):List α->List α
 | []=>l
 | a::r=>bH (ai l off a) (off+1) r
def lb {α:Type}:List α->Nat->Nat->Option (List α)
 | _,_,0=>some []
 | [],_,_+1=>none
 | a::l,0,n+1=>match lb l 0 n with
  | some r=>some (a::r)
  | none=>none
 | _::l,o+1,n+1=>lb l o (n+1)
def bc:Value:=.slice none 0 0
def TV.cell (x:TV) (j:Nat):TV:=match x with | .agg cs=>nth .hole cs j|_=>.hole
def TV.comp (x:TV) (j:Nat):TV:=match x with | .tup cs=>nth .hole cs j|_=>.hole
def TV.isAgg (x:TV) (n:Nat):Bool:=match x with | .agg cs=>cs.length.beq n|_=>false
def TV.isTup (x:TV) (n:Nat):Bool:=match x with | .tup cs=>cs.length.beq n|_=>false
def aF:Value->Bool
 | .slice none 0 0=>true
 | _=>false
def scV:Value->Bool
 | .slice _ _ _=>false
 | .agg _=>false
 | .tuple _=>false
 | _=>true
def TV.isSc (x:TV):Bool:=match x with | .lit v=>scV v|_=>false
def TV.isSl (x:TV):Bool:=match x with | .lit v=>aF v | .sl _ _ _=>true|_=>false
def TV.jb (x:TV):Bool:=match x with | .lit _=>true | .sl o _ _=>!o|_=>false
def TV.eS (x:TV):Bool:=match x with | .lit v=>v.oneCell' | .sl _ _ _=>true|_=>false
def TV.lf (x:TV):TV:=match x with | .lit v=>.lit v|_=>.hole
def lfL:List TV->List TV
 | []=>[]
 | x::l=>x.lf::lfL l
def qK:List (List TV)->List (List TV)
 | []=>[]
 | x::l=>lfL x::qK l
mutual
def frz:TV->TV
 | .lit v=>.lit v
 | .sl _ s xs=>.sl false s (sd xs)
 | .agg cs=>.agg (nq cs)
 | .tup cs=>.tup (nq cs)
 | .buf _ _=>.hole
 | .hole=>.hole
def nq:List TV->List TV
 | []=>[]
 | x::l=>frz x::nq l
def sd:List (List TV)->List (List TV)
 | []=>[]
 | x::l=>nq x::sd l
end
mutual
def isOwn:TV->Bool
 | .lit _=>true
 | .sl o _ xs=>o&&mc xs
 | .agg cs=>bE cs
 | .tup cs=>bE cs
 | .buf _ _=>true
 | .hole=>true
def bE:List TV->Bool
 | []=>true
 | x::l=>isOwn x&&bE l
def mc:List (List TV)->Bool
 | []=>true
 | x::l=>bE x&&mc l
end
def asBool:TV->Option Bool
 | .lit (.bool b)=>some b
 | _=>none
def fnOf:TV->Option Nat
 | .lit (.func (.func f) ts fs)=>bif ts.size.beq 0&&fs.size.beq 0 then some f else none
 | _=>none
def aJ:TV->Option Nat
 | .lit (.int _ n)=>if 0<=n/\n<=9223372036854775807 then some n.toNat else none
 | _=>none
def a8:Way->TV->Option TV
 | [],x=>some x
 | (k, j) :: p, .sl _ _ xs => match xs[k]? with
  | some e=>match e[j]? with
   | some y=>a8 p y
   | none=>none
  | none=>none
 | _::_,_=>none
def iA : Way → TV → TV → Option TV
 | [],_,y=>some y
 | (k, j) :: p, .sl true s xs, y => match xs[k]? with
  | some e => match e[j]? with
   | some z=>match iA p z y with
    | some z'=>some (.sl true s (ai xs k (ai e j z')))
    | none=>none
   | none=>none
  | none=>none
 | _::_,_,_=>none
def pel (x:TV) (k:Nat):Option (List TV):=match x with | .sl _ _ xs=>xs[k]? | _=>none
def uR (x:TV) (k j:Nat) (ys:List TV):Option TV :=
 match x with
 | .sl true s xs=>match xs[k]? with
  | some e=>some (.sl true s (ai xs k (bH e j ys)))
  | none=>none
 | _=>none
def ja (p:Way) (x:TV) (k j:Nat) (ys:List TV):Option TV :=
 match a8 p x with
 | some s=>match uR s k j ys with
  | some s'=>iA p x s'
  | none=>none
 | none=>none
def lh (lo len:Nat) (x:TV):Option TV :=
 match x with
 | .sl o s xs=>if lo+len<=xs.length then some (.sl o s ((xs.drop lo).take len))else none
 | .lit (.slice none 0 0)=>if lo=0/\len=0 then some (.lit bc)else none
 | _=>none
def room:Nat:=4294967296
def Bc (size:Nat) (xs:List (List TV)):TV:=match xs with | []=>.lit bc|x::l=>.sl true size (x::l)
def papp (size:Nat) (x:TV) (news:List (List TV)):Option TV :=
 match x with
 | .lit (.slice none 0 0)=>if news.length<=room then some (Bc size news)else none
 | .sl true s xs=>if s=size/\xs.length+news.length<=room then some (.sl true s (xs++news))else none
 | _=>none
def pcopy (size:Nat) (x:TV) (news:List (List TV)):Option TV :=
 match x with
 | .sl true s xs=>if s=size then some (.sl true s (news.take xs.length++xs.drop news.length))else none
 | .lit (.slice none 0 0)=>some (.lit bc)
 | _=>none
def slLen (x:TV):Option Nat:=match x with | .sl _ _ xs=>some xs.length | .lit (.slice none 0 0)=>some 0|_=>none
def slSize (x:TV) (size:Nat):Bool:=match x with | .sl _ s _=>s.beq size | .lit (.slice none 0 0)=>true|_=>false
def ab:List Value->List TV->Nat->Bool
 | [],_,_=>true
 | z::zs,e,j=>match e[j]? with
  | some c=>(bif aF z then c.isSl else c.isSc)&&ab zs e (j+1)
  | none=>false
def TV.isHole (x:TV):Bool:=match x with | .hole=>true|_=>false
def cL:List Value->List TV->Nat->Bool
 | [],_,_=>true
 | z::zs,e,j=>match e[j]? with
  | some c=>(bif aF z then c.isSl||c.isHole else c.isSc)&&cL zs e (j+1)
  | none=>false
def kM (op:BinOp) (k:IntKind) (a b:Int):Option TV :=
 match op with
 | .add=>some (.lit (.int k (k.wrap (a+b))))
 | .sub=>some (.lit (.int k (k.wrap (a-b))))
 | .mul=>some (.lit (.int k (k.wrap (a*b))))
 | .quo=>if b=0 then none else some (.lit (.int k (k.wrap (a.tdiv b))))
 | .rem=>if b=0 then none else some (.lit (.int k (a.tmod b)))
 | .eql=>some (.lit (.bool (a==b)))
 | .neq=>some (.lit (.bool (a != b)))
 | .lss=>some (.lit (.bool (decide (a<b))))
 | .leq=>some (.lit (.bool (decide (a<=b))))
 | .gtr=>some (.lit (.bool (decide (a > b))))
 | .geq=>some (.lit (.bool (decide (a >= b))))
 | .and=>some (.lit (.int k (k.wrap ((BitVec.ofInt k.bits a &&& BitVec.ofInt k.bits b).toNat))))
 | .or=>some (.lit (.int k (k.wrap ((BitVec.ofInt k.bits a ||| BitVec.ofInt k.bits b).toNat))))
 | _=>none
def yL (op:BinOp) (a b:ByteArray):Option TV :=
 match op with
 | .eql=>some (.lit (.bool (a.toList==b.toList)))
 | .neq=>some (.lit (.bool (!(a.toList==b.toList))))
 | .lss=>some (.lit (.bool (Op.bytesLess a.toList b.toList)))
 | .add=>if((a.size+b.size:Nat):Int) > IntKind.i64.max then none else some (.lit (.string (a++b)))
 | _=>none
def yS (op:BinOp) (b:Bool):Option TV :=
 match op with
 | .eql=>some (.lit (.bool b))
 | .neq=>some (.lit (.bool !b))
 | _=>none
def pbin (kd:Kd) (op:BinOp) (x y:TV):Option TV :=
 match kd,x,y with
 | .int _,.lit (.int k a),.lit (.int k' b)=>if k=k' then kM op k a b else none
 | .bool,.lit (.bool a),.lit (.bool b)=>yS op (a==b)
 | .str,.lit (.string a),.lit (.string b)=>yL op a b
 | .slice _,.lit (.slice none _ _),.lit (.slice none _ _)=>yS op true
 | .slice _,.sl _ _ _,.lit (.slice none _ _)=>yS op false
 | _,_,_=>none
def pun (op:UnOp) (x:TV):Option TV :=
 match op,x with
 | .not,.lit (.bool b)=>some (.lit (.bool !b))
 | .neg,.lit (.int k n)=>some (.lit (.int k (k.wrap (0-n))))
 | _,_=>none
def pconv (kd:Kd) (x:TV):Option TV :=
 match kd,x with
 | .int k,.lit (.int _ n)=>some (.lit (.int k (k.wrap n)))
 | .str,.lit (.string s)=>some (.lit (.string s))
 | .str,.lit (.int _ n)=>some (.lit (.string (Utf8.encode n)))
 | _,_=>none
def plen (kd:Kd) (x:TV):Option TV :=
 match kd,x with
 | .slice _,.lit (.slice none 0 _)=>some (.lit (.int .i64 0))
 | .str,.lit (.string s)=>some (.lit (.int .i64 s.size))
 | .slice _,.sl _ _ xs=>some (.lit (.int .i64 xs.length))
 | _,_=>none
def pidx (size:Nat) (x i:TV):Option (List TV) :=
 match x,i with
 | .sl _ s xs,.lit (.int _ n)=>if s=size/\0<=n then xs[n.toNat]? else none
 | _,_=>none
def pslice (kd:Kd) (sz:Nat) (x:TV) (lo hi:Option Nat):Option TV :=
 match kd,x with
 | .slice _,.sl o s xs =>
  if s=sz/\lo.getD 0<=hi.getD xs.length/\hi.getD xs.length<=xs.length then some (.sl o s ((xs.drop (lo.getD 0)).take (hi.getD xs.length-lo.getD 0)))else none
 | .slice _,.lit (.slice none 0 0)=>if lo.getD 0=0/\hi.getD 0=0 then some (.lit bc)else none
 | .str,.lit (.string s) =>
  if lo.getD 0<=hi.getD s.size/\hi.getD s.size<=s.size then some (.lit (.string (s.extract (lo.getD 0) (hi.getD s.size))))else none
 | _,_=>none
def pstr (x i:TV):Option TV :=
 match x,i with
 | .lit (.string s),.lit (.int _ n)=>if 0<=n then(s[n.toNat]?).map fun b=>.lit (.int .u8 b.toNat)else none
 | _,_=>none
def pelems (size:Nat):TV->Option (List (List TV))
 | .lit (.slice none 0 _)=>some []
 | .sl _ s xs=>if s=size then some xs else none
 | _=>none
inductive Prg (R:Type) where
 | fail
 | ret (r:R)
 | tv (p:Option TV) (k:TV->Prg R)
 | tvs (p:Option (List TV)) (k:List TV->Prg R)
 | rws (p:Option (List (List TV))) (k:List (List TV)->Prg R)
 | nat (p:Option Nat) (k:Nat->Prg R)
 | chk (b:Bool) (k:Prg R)
 | ite (b:Option Bool) (t e:Prg R)
 | call (f:FuncId) (xs:List TV) (k:TV->Prg R)
 | jmp (p:List Nat) (st:ASt)
def Prg.bind {R S:Type} (f:R->Prg S):Prg R->Prg S
 | .fail=>.fail
 | .ret r=>f r
 | .tv p k=>.tv p fun v=>(k v).bind f
 | .tvs p k=>.tvs p fun v=>(k v).bind f
 | .rws p k=>.rws p fun v=>(k v).bind f
 | .nat p k=>.nat p fun v=>(k v).bind f
 | .chk b k=>.chk b (k.bind f)
 | .ite b t e=>.ite b (t.bind f) (e.bind f)
 | .call g xs k=>.call g xs fun v=>(k v).bind f
 | .jmp _ _=>.fail
def Prg.run {R:Type} (C:FuncId->List TV->Option TV) (J:List Nat->ASt->Option R):Prg R->Option R
 | .fail=>none
 | .ret r=>some r
 | .tv p k=>p.bind fun v=>(k v).run C J
 | .tvs p k=>p.bind fun v=>(k v).run C J
 | .rws p k=>p.bind fun v=>(k v).run C J
 | .nat p k=>p.bind fun v=>(k v).run C J
 | .chk b k=>bif b then k.run C J else none
 | .ite b t e=>b.bind fun b=>bif b then t.run C J else e.run C J
 | .call f xs k=>(C f xs).bind fun v=>(k v).run C J
 | .jmp p st=>J p st
inductive Prim where
 | drop (i r:Nat) (js:List Nat) (strict:Bool)
 | root (i r:Nat) (x:TV)
 | frz (i r:Nat)
 | unmay (i:Nat)
 | newB (b:BC)
 | setB (i:Nat) (cs:List CA)
inductive Eff where
 | val (v:AV)
 | new (b:BC) (v:AV)
 | upd (i:Nat) (b:BC) (v:AV)
 | gen (ps:List Prim) (v:AV)
abbrev Out:=Prg Eff
def ASt.ev (st:ASt):Operand->AV
 | .tmp t=>nth (.one .junk) st.slots t
 | .const (.bool b)=>.bl b
 | .const v=>bif v.oneCell' then .one (.t (.lit v))else .tv (.lit v)
 | .global g=>.tv (.lit (.pointer (some ⟨g,0,none⟩)))
 | .func f=>.tv (.lit (.func (.func f) #[] #[]))
def AV.tv? : AV->Option TV
 | .one (.t x)=>some x
 | .tv x=>some x
 | .bl b=>some (.lit (.bool b))
 | _=>none
abbrev Look:=Nat->Option BC
def CA.kept:CA->Bool
 | .undef=>false
 | .junk=>false
 | _=>true
def AV.bd {R:Type} (agg:Bool) (n:Nat) (v:AV) (k:List CA->Prg R):Prg R :=
 match agg,v with
 | false,.one c=>bif c.kept then k [c]else .fail
 | false,.tv x=>.chk x.eS (k [.t x])
 | false,.bl b=>k [.t (.lit (.bool b))]
 | false,.clo f [.ptr i 0]=>k [.fn1 f i]
 | true,.agg cs=>bif cs.length.beq n then k cs else .fail
 | true,.tv x=>.chk (x.isAgg n) (k ((List.range n).map fun j=>.t (x.cell j)))
 | _,_=>.fail
def kx {R:Type}:List AV->(List CA->Prg R)->Prg R
 | [],k=>k []
 | v::l,k=>v.bd false 1 fun cs=>kx l fun cs'=>k (cs++cs')
def dh (agg:Bool):List CA->Option AV
 | []=>bif agg then some (.agg [])else none
 | c::cs=>bif agg then some (.agg (c::cs))else(match cs with | []=>some (.one c)|_=>none)
def qJ {R:Type} (p:Way) (x:TV) (k:TV->Prg R):Prg R :=
 match p with
 | []=>k x
 | _=>.tv (a8 p x) k
def setO {R:Type} (p:Way) (x y:TV) (k:TV->Prg R):Prg R :=
 match p with
 | []=>k y
 | _=>.tv (iA p x y) k
def cj (look:Look) (i r:Nat):Option TV :=
 match look i with
 | some (.tree xs)=>bif r.blt xs.length then some (nth .hole xs r)else none
 | _=>none
def iZ {R:Type} (look:Look) (c:CA) (k:TV->Prg R):Prg R :=
 match c with
 | .t x=>k x
 | .sref i r p=>match cj look i r with
  | some x=>qJ p x k
  | none=>.fail
 | .swin i r p lo len=>match cj look i r with
  | some x=>qJ p x fun y=>.tv (lh lo len y) k
  | none=>.fail
 | _=>.fail
def tC {R:Type} (look:Look) (v:AV) (k:TV->Prg R):Prg R :=
 match v with
 | .one c=>iZ look c k
 | .tv x=>k x
 | .bl b=>k (.lit (.bool b))
 | _=>.fail
def tQ {R:Type} (look:Look) (c:CA) (k:TV->Prg R):Prg R :=
 match c with
 | .t x=>k x
 | .sref i r p=>iZ look (.sref i r p) fun x=>k (frz x)
 | .swin i r p lo len=>iZ look (.swin i r p lo len) fun x=>k (frz x)
 | _=>.fail
def AJ {R:Type} (look:Look):List CA->(List TV->Prg R)->Prg R
 | [],k=>k []
 | c::l,k=>tQ look c fun x=>AJ look l fun xs=>k (x::xs)
def rC {R:Type} (look:Look) (v:AV) (k:TV->Prg R):Prg R :=
 match v with
 | .one c=>tQ look c k
 | .tv x=>k x
 | .agg cs=>AJ look cs fun xs=>k (.agg xs)
 | .tups _=>.fail
 | .clo _ _=>.fail
 | .bl b=>k (.lit (.bool b))
def lends {R:Type} (look:Look):List AV->(List TV->Prg R)->Prg R
 | [],k=>k []
 | v::l,k=>rC look v fun x=>lends look l fun xs=>k (x::xs)
def sA {R:Type} (look:Look) (c:CA) (k:TV->List (Nat × Nat)->Prg R):Prg R :=
 match c with
 | .t x=>k x []
 | .sref i r p => match cj look i r with
  | some x=>(match p with
   | []=>k (frz x) [(i,r)]
   | _=>.tv (a8 p x) fun y=>.chk y.jb (k y []))
  | none=>.fail
 | .swin i r p lo len => match cj look i r with
  | some x=>(match p with
   | []=>.tv (lh lo len x) fun y=>k (frz y) [(i,r)]
   | _=>.tv (a8 p x) fun z=>.tv (lh lo len z) fun y=>.chk y.jb (k y []))
  | none=>.fail
 | _=>.fail
def Av {R:Type} (look:Look):List CA->(List TV->List (Nat × Nat)->Prg R)->Prg R
 | [],k=>k [] []
 | c::l,k=>sA look c fun x r=>Av look l fun xs rs=>k (x::xs) (r++rs)
def tr {R:Type} (look:Look) (v:AV) (k:TV->List (Nat × Nat)->Prg R):Prg R :=
 match v with
 | .one c=>sA look c k
 | .tv x=>k x []
 | .agg cs=>Av look cs fun xs rs=>k (.agg xs) rs
 | .tups _=>.fail
 | .clo _ _=>.fail
 | .bl b=>k (.lit (.bool b)) []
def hands {R:Type} (look:Look):List AV->(List TV->List (Nat × Nat)->Prg R)->Prg R
 | [],k=>k [] []
 | v::l,k=>tr look v fun x r=>hands look l fun xs rs=>k (x::xs) (r++rs)
def yc:List (Nat × Nat)->List Prim
 | []=>[]
 | (i,r)::l=>.frz i r::yc l
inductive Fl where
 | sc|sl|may|bf (e:Nat)|any
structure jq where
 ty:TypeId
 fl:List Fl
structure Env where
 T:Tab
 pure:FuncId->Bool
 rts:FuncId->List TypeId
 lent:FuncId->Option jq
 selfT:TypeId->Bool
 peek:FuncId->Option (Nat × Nat)
 turn:FuncId->Bool
 eye:FuncId->Bool
 cold:TypeId->Bool
def CA.add:CA->Nat->Option CA
 | .ptr i off,n=>some (.ptr i (off+n))
 | .ref x off,n=>some (.ref x (off+n))
 | .tptr i r p k j,n=>some (.tptr i r p k (j+n))
 | _,_=>none
def cp {R:Type} (at_:Nat->Option (Nat × Bool × Nat)):List Nat->List AV->List CA->(List CA->Prg R)->Prg R
 | [],[],cs,k=>k cs
 | i::is,x::rest,cs,k=>match at_ i with
  | some (off,agg,n)=>x.bd agg n fun ps=>bif (off+ps.length).ble cs.length&&ps.length.beq n then cp at_ is rest (bH cs off ps) k else .fail
  | none=>.fail
 | _,_,_,_=>.fail
def places (T:Tab) (d:TyD) (i:Nat):Option (Nat × Bool × Nat) :=
 match d.kd with
 | .struct => match d.fields[i]? with
  | some (off,ty)=>match T ty with
   | some e=>some (off,e.kd.isAgg,e.size)
   | none=>none
  | none=>none
 | .arr _ e=>match T e with
  | some e=>some (i*e.size,e.kd.isAgg,e.size)
  | none=>none
 | _=>none
def chunks {α:Type} (size:Nat):Nat->List α->List (List α)
 | 0,_=>[]
 | n+1,l=>l.take size::chunks size n (l.drop size)
def vt (x:TV):Out:=.ret (.val (.one (.t x)))
def ra:TV->Bool
 | .lit (.slice none 0 0)=>true
 | _=>false
def bv:Way->List Nat
 | []=>[]
 | (_,j)::p=>j::bv p
def ir:List Value->Bool
 | []=>false
 | z::l=>bif aF z then true else ir l
def cP {R:Type} (look:Look):List CA->(List TV->List Prim->List (Nat × Nat)->Prg R)->Prg R
 | [],k=>k [] [] []
 | .t x::l,k=>cP look l fun xs ps ts=>k (x::xs) ps ts
 | .sref i r p :: l, k => match cj look i r with
  | some x=>(match p with
   | []=>cP look l fun xs ps ts=>k (x::xs) (.drop i r [] false :: .root i r .hole::ps) ((i,r)::ts)
   | _=>.tv (a8 p x) fun y=>.chk y.jb (cP look l fun xs ps ts=>k (y::xs) ps ts))
  | none=>.fail
 | .swin i r p lo len :: l, k => match cj look i r with
  | some x=>(match p with
   | []=>.tv (lh lo len x) fun y=>cP look l fun xs ps ts=>k (y::xs) (.drop i r [] false :: .root i r .hole::ps) ((i,r)::ts)
   | _=>.tv (a8 p x) fun z=>.tv (lh lo len z) fun y=>.chk y.jb (cP look l fun xs ps ts=>k (y::xs) ps ts))
  | none=>.fail
 | _,_=>.fail
def frB (y:TV):Option Bool:=some y.jb
def cm {R:Type} (look:Look):List CA->(List TV->List Prim->List (Nat × Nat)->Prg R)->Prg R
 | [],k=>k [] [] []
 | .t x::l,k=>cm look l fun xs ps ts=>k (x::xs) ps ts
 | .sref i r p :: l, k => match cj look i r with
  | some x=>(match p with
   | []=>cm look l fun xs ps ts=>k (x::xs) (.drop i r [] false :: .root i r .hole::ps) ((i,r)::ts)
   | _ => .tv (a8 p x) fun y => .ite (frB y) (cm look l fun xs ps ts => k (y :: xs) ps ts)
     (.tv (iA p x .hole) fun x'=>cm look l fun xs ps ts=>k (y::xs) (.drop i r (bv p) false :: .root i r x'::ps) ((i,r)::ts)))
  | none=>.fail
 | .swin i r p lo len :: l, k => match cj look i r with
  | some x=>(match p with
   | []=>.tv (lh lo len x) fun y=>cm look l fun xs ps ts=>k (y::xs) (.drop i r [] false :: .root i r .hole::ps) ((i,r)::ts)
   | _=>.tv (a8 p x) fun z=>.tv (lh lo len z) fun y=>.chk y.jb (cm look l fun xs ps ts=>k (y::xs) ps ts))
  | none=>.fail
 | _,_=>.fail
def ic (i r:Nat):List (Nat × Nat)->Bool
 | []=>false
 | (a,b)::l=>bif a.beq i&&b.beq r then true else ic i r l
def gk:List (Nat × Nat)->Bool
 | []=>true
 | (a,b)::l=>!ic a b l&&gk l
def wK (i:Nat):List (Nat × Nat)->Bool
 | []=>true
 | (a,_)::l=>bif a.beq i then false else wK i l
def pd (i:Nat):Option Nat->Bool
 | some j=>i.beq j
 | none=>false
def yi {R : Type} (look : Look) (d : TyD) (dest : Option Nat) (x : AV) (k : List (List TV) → List Prim → Prg R) : Prg R :=
 match x.tv? with
 | some x=>.rws (pelems d.size x) fun xs=>k xs []
 | none => match x with
  | .one c => bif ir d.zero then
    (match c with
    | .sref i r p => match cj look i r with
     | some x=>(match p with
      | []=>bif pd i dest then .fail else .rws (pelems d.size x) fun xs=>k xs [.drop i r [] false,.root i r .hole]
      | _=>.tv (a8 p x) fun y=>.chk y.jb (.rws (pelems d.size y) fun xs=>k xs []))
     | none=>.fail
    | .swin i r p lo len => match cj look i r with
     | some x=>(match p with
      | []=>bif pd i dest then .fail else .tv (lh lo len x) fun y=>.rws (pelems d.size y) fun xs=>k xs [.drop i r [] false,.root i r .hole]
      | _=>.tv (a8 p x) fun z=>.tv (lh lo len z) fun y=>.chk y.jb (.rws (pelems d.size y) fun xs=>k xs []))
     | none=>.fail
    | _=>.fail)
   else iZ look c fun s=>.rws (pelems d.size s) fun xs=>k (qK xs) []
  | _=>.fail
def wZ (look:Look) (kd:Kd) (x:AV):Out :=
 match kd with
 | .arr n _=>vt (.lit (.int .i64 n))
 | .slice e=>(match x with
  | .one (.psl _ n)=>vt (.lit (.int .i64 n))
  | x=>tC look x fun s=>.tv (plen (.slice e) s) vt)
 | kd=>tC look x fun s=>.tv (plen kd s) vt
def cU (ps:List Prim) (b:BC) (v:AV):Eff:=match ps with | []=>.new b v|_=>.gen (ps ++ [.newB b]) v
def rJ:AV->Option Nat
 | .one (.sref i _ _)=>some i
 | .one (.swin i _ _ _ _)=>some i
 | _=>none
def nC (id : Nat) (look : Look) (d : TyD) (s : AV) (news : List (List TV)) (ps : List Prim) : Out :=
 match s.tv? with
 | some s=>bif ra s then .tv (papp d.size s news) fun y=>.ret (cU ps (.tree [y]) (.one (.sref id 0 [])))else .fail
 | none => match s with
  | .one (.sref i r p) => match cj look i r with
   | some x=>(match p with
    | []=>.tv (papp d.size x news) fun y=>.ret (.gen (ps ++ [.drop i r [] false,.root i r y]) (.one (.sref i r [])))
    | _=>.tv (a8 p x) fun z=>.tv (papp d.size z news) fun y=>.tv (iA p x .hole) fun x'=>.ret (.gen (ps ++ [.drop i r (bv p) false,.root i r x',.newB (.tree [y])]) (.one (.sref id 0 []))))
   | none=>.fail
  | .one (.swin i r p lo len) => match cj look i r with
   | some x=>(match p with
    | []=>.tv (lh lo len x) fun z=>.tv (papp d.size z news) fun y=>.ret (.gen (ps ++ [.drop i r [] false,.root i r y]) (.one (.sref i r [])))
    | _=>.tv (a8 p x) fun z0=>.tv (lh lo len z0) fun z=>.tv (papp d.size z news) fun y=>.tv (iA p x .hole) fun x'=>.ret (.gen (ps ++ [.drop i r (bv p) false,.root i r x',.newB (.tree [y])]) (.one (.sref id 0 []))))
   | none=>.fail
  | _=>.fail
def nM (id:Nat) (look:Look) (d:TyD) (s x:AV):Out :=
 bif d.bytes.ble 4096&&Nat.blt 0 d.size then yi look d (rJ s) x fun news ps=>nC id look d s news ps else .fail
def Aw (look : Look) (d : TyD) (s x : AV) : Out :=
 yi look d (rJ s) x fun news ps =>
 match s with
 | .one (.sref i r p)=>match cj look i r with
  | some x => qJ p x fun z => .tv (pcopy d.size z news) fun y => setO p x y fun x' => .nat (slLen z) fun n =>
    .ret (.gen (ps ++ [.drop i r (bv p) true,.root i r x']) (.one (.t (.lit (.int .i64 (Nat.min news.length n))))))
  | none=>.fail
 | _=>.fail
def jx (T:Tab) (t:TypeId):Option (TypeId × TyD) :=
 match T t with
 | some ⟨_,_,.slice e,_,_⟩=>match T e with
  | some d=>some (e,d)
  | none=>none
 | _=>none
def pmin (mx:Bool) (x y:TV):Option TV :=
 match x,y with
 | .lit (.int k a),.lit (.int _ b)=>some (.lit (.int k (bif mx then(if b > a then b else a)else(if b<a then b else a))))
 | _,_=>none
def wR (mx:Bool) (x y:AV):Out :=
 match x.tv?,y.tv? with
 | some x,some y=>.tv (pmin mx x y) vt
 | _,_=>.fail
def eD (E:Env) (id:Nat) (look:Look) (b:Builtin) (tys:List TypeId) (args:List AV):Out :=
 match b,args,tys with
 | .len,[x],[ty]=>match E.T ty with
  | some d=>wZ look d.kd x
  | none=>.fail
 | .append, [s, x], [ty, ty'] => match jx E.T ty with
  | some (_,d)=>bif ty.beq ty' then nM id look d s x else(match E.T ty' with
   | some ⟨_,_,.str,_,_⟩=>.fail
   | _=>.fail)
  | none=>.fail
 | .copy,[s,x],[ty,ty']=>match jx E.T ty with
  | some (_,d)=>bif ty.beq ty' then Aw look d s x else .fail
  | none=>.fail
 | .clear,[s],[ty]=>match jx E.T ty with
  | some (_,d)=>.fail
  | none=>.fail
 | .min,[x,y],_=>wR false x y
 | .max,[x,y],_=>wR true x y
 | _,_,_=>.fail
def fS:List CA->Option (List TV)
 | []=>some []
 | .t x::l=>match fS l with
  | some r=>some (x::r)
  | none=>none
 | _=>none
def fU {R:Type} (v:Option AV) (k:Option Nat->Prg R):Prg R :=
 match v with
 | none=>k none
 | some v=>match v.tv? with
  | some x=>.nat (aJ x) fun n=>k (some n)
  | none=>.fail
def kT (d:TyD) (x:List TV) (off:Nat):Out :=
 bif d.kd.isAgg then .chk ((off+d.size).ble x.length) (.ret (.val (.agg ((List.range d.size).map fun j=>.t (nth .hole x (off+j))))))
 else .chk (off.blt x.length) (vt (nth .hole x off))
def gD (i r:Nat) (p:Way) (k:Nat) (e:List TV):List Value->Nat->List CA
 | [],_=>[]
 | z::zs,j=>(bif aF z then .sref i r (p ++ [(k,j)])else .t (nth .hole e j))::gD i r p k e zs (j+1)
def pnth (n:Nat) (xs:List TV):Option TV:=xs[n]?
def dq (n j:Nat) (y x:TV):TV:=bif n.beq j then y else x
def ib (n:Nat) (y:TV):Nat->List TV->List CA
 | _,[]=>[]
 | j,x::l=>.t (dq n j y x)::ib n y (j+1) l
def vM (look:Look) (i off len:Nat):Option (List CA × List TV) :=
 match look i with
 | some (.cells cs) => match lb cs off len with
  | some cs1=>match fS cs1 with
   | some xs=>some (cs,xs)
   | none=>none
  | none=>none
 | _=>none
def AT (look : Look) (d : TyD) (a : AV) : Out :=
 match a with
 | .one (.aptr i off len n)=>bif d.kd.isAgg then .fail else(match vM look i off len with
  | some (_,xs)=>.tv (pnth n xs) vt
  | none=>.fail)
 | .one (.ptr i off) => match look i with
  | some (.cells cs) => match lb cs off (bif d.kd.isAgg then d.size else 1) with
   | some cs=>match dh d.kd.isAgg cs with
    | some v=>.ret (.val v)
    | none=>.fail
   | none=>.fail
  | _=>.fail
 | .one (.ref x off)=>kT d x off
 | .one (.tptr i r p k j) => match cj look i r with
  | some x=>qJ p x fun s=>.tvs (pel s k) fun e=>.chk (ab d.zero e j) (match dh d.kd.isAgg (gD i r p k e d.zero j)with
   | some v=>.ret (.val v)
   | none=>.fail)
  | none=>.fail
 | _=>.fail
def kv (i r:Nat) (js:List Nat):List Value->Nat->List Prim
 | [],_=>[]
 | z::zs,j=>bif aF z then .drop i r (js ++ [j]) false::kv i r js zs (j+1)else kv i r js zs (j+1)
def co (look:Look) (i r:Nat) (x:TV):Option BC :=
 match look i with
 | some (.tree xs)=>some (.tree (ai xs r x))
 | _=>none
def wc (look : Look) (d : TyD) (a x : AV) : Out :=
 match a with
 | .one (.aptr i off len n) => bif d.kd.isAgg then .fail else (match vM look i off len with
  | some (cs,xs)=>x.bd false 1 fun ps=>(match ps with
   | [.t y]=>.ret (.upd i (.cells (bH cs off (ib n y 0 xs))) (.one .undef))
   | _=>.fail)
  | none=>.fail)
 | .one (.ptr i off)=>x.bd d.kd.isAgg d.size fun ps=>match look i with
  | some (.cells cs)=>bif (off+ps.length).ble cs.length&&ps.length.beq d.size then .ret (.upd i (.cells (bH cs off ps)) (.one .undef))else .fail
  | _=>.fail
 | .one (.tptr i r p k j) => x.bd d.kd.isAgg d.size fun ps => match cj look i r with
  | some x => bif !(Nat.blt 0 d.size) then .fail else bif ir d.zero then
    cP look ps fun ys qs ts=>bif gk ts&&wK i ts&&ys.length.beq d.size then
     qJ p x fun s=>.tvs (pel s k) fun e=>.chk (cL d.zero e j&&ab d.zero ys 0) (.tv (ja p x k j ys) fun x' =>
      .ret (.gen (qs++kv i r (bv p) d.zero j ++ [.root i r x']) (.one .undef)))else .fail
   else cP look ps fun ys qs _=>(match qs with
    | []=>bif ys.length.beq d.size then qJ p x fun s=>.tvs (pel s k) fun e=>.chk (ab d.zero e j) (.tv (ja p x k j ys) fun x'=>(match co look i r x' with
     | some b=>.ret (.upd i b (.one .undef))
     | none=>.fail))else .fail
    | _=>.fail)
  | none=>.fail
 | _=>.fail
def Kd.A2:Kd->Bool
 | .slice _=>true
 | _=>false
def E6 (look:Look) (kd:Kd) (op:BinOp) (x y:AV):Out :=
 bif kd.A2 then tC look x fun x=>tC look y fun y=>.tv (pbin kd op x y) vt
 else match x.tv?,y.tv? with
 | some x,some y=>.tv (pbin kd op x y) vt
 | _,_=>.fail
def mZ (k:IntKind):List TV->Option (List Int)
 | []=>some []
 | .lit (.int k' n)::l=>if k=k' then(match mZ k l with
  | some r=>some (n::r)
  | none=>none)else none
 | _=>none
def peqL (k:IntKind) (op:BinOp) (xs ys:List TV):Option TV :=
 match mZ k xs,mZ k ys with
 | some a,some b=>yS op (a==b)
 | _,_=>none
def uh:AV->Option Bool
 | .one (.ptr _ _)=>some true
 | .one (.ref _ _)=>some true
 | .one (.tptr _ _ _ _ _)=>some true
 | .one (.aptr _ _ _ _)=>some true
 | .one (.t (.lit (.pointer none)))=>some false
 | .tv (.lit (.pointer none))=>some false
 | _=>none
def E9 (op:BinOp) (x y:AV):Out :=
 match op,uh x,uh y with
 | .eql,some a,some false=>.ret (.val (.bl !a))
 | .neq,some a,some false=>.ret (.val (.bl a))
 | _,_,_=>.fail
def EH (T:Tab) (look:Look) (kd:Kd) (op:BinOp) (x y:AV):Out :=
 match kd with
 | .arr len e => match T e with
  | some ⟨1,_,.int k,_,_⟩=>x.bd true len fun cs=>y.bd true len fun cs'=>(match fS cs,fS cs' with
   | some xs,some ys=>.tv (peqL k op xs ys) vt
   | _,_=>.fail)
  | _=>.fail
 | .ptr=>E9 op x y
 | kd=>E6 look kd op x y
def iQ (look : Look) (kd : Kd) (sz : Nat) (x : AV) (lo hi : Option AV) : Out :=
 match x.tv? with
 | some x=>fU lo fun lo=>fU hi fun hi=>.tv (pslice kd sz x lo hi) vt
 | none => match kd, x with
  | .slice _, .one (.sref i r p) => iZ look (.sref i r p) fun s => .nat (slLen s) fun n => fU lo fun lo => fU hi fun hi =>
    .chk (slSize s sz&&(lo.getD 0).ble (hi.getD n)&&(hi.getD n).ble n) (.ret (.val (.one (.swin i r p (lo.getD 0) (hi.getD n-lo.getD 0)))))
  | .slice _, .one (.swin i r p lo0 n) => match lo with
   | none=>iZ look (.sref i r p) fun s=>fU hi fun hi=>.chk (slSize s sz&&(hi.getD n).ble n) (.ret (.val (.one (.swin i r p lo0 (hi.getD n)))))
   | some _=>iZ look (.sref i r p) fun s=>fU lo fun lo=>fU hi fun hi =>
    .chk (lo0.beq 0&&slSize s sz&&(lo.getD 0).ble (hi.getD n)&&(hi.getD n).ble n) (.ret (.val (.one (.swin i r p (lo.getD 0) (hi.getD n-lo.getD 0)))))
  | _,_=>.fail
def AY (b k:Nat):Nat->Out
 | 0=>.fail
 | m+1=>.ite (some (k.beq m)) (.ret (.val (.one (.ptr b m)))) (AY b k m)
def pH (look:Look) (d:TyD) (x i:AV):Out :=
 match i.tv? with
 | some i => match x.tv? with
  | some x=>.tvs (pidx d.size x i) fun el=>.ret (.val (.one (.ref el 0)))
  | none=>match x with
   | .one (.sref b r p)=>iZ look (.sref b r p) fun s=>.nat (slLen s) fun n=>.nat (aJ i) fun k=>.chk (slSize s d.size&&k.blt n) (.ret (.val (.one (.tptr b r p k 0))))
   | .one (.swin b r p lo n)=>iZ look (.sref b r p) fun s=>.nat (aJ i) fun k=>.chk (slSize s d.size&&k.blt n) (.ret (.val (.one (.tptr b r p (lo+k) 0))))
   | .one (.psl b n)=>bif d.size.beq 1 then .nat (aJ i) fun k=>AY b k n else .fail
   | _=>.fail
 | none=>.fail
def qY (T:Tab) (t:TypeId) (x i:AV):Out :=
 match T t with
 | some ⟨_,_,.arr len e,_,_⟩=>match T e,x,i.tv? with
  | some d,.one (.ptr b off),some i=>bif !d.kd.isAgg&&d.size.beq 1 then .nat (aJ i) fun k=>.chk (k.blt len) (.ret (.val (.one (.aptr b off len k))))else .fail
  | _,_,_=>.fail
 | _=>.fail
def rn (T:Tab) (t:TypeId) (x i:AV):Out :=
 match T t with
 | some ⟨_, _, .arr len e, _, _⟩ => match T e, x, i.tv? with
  | some d,.agg cs,some i=>bif !d.kd.isAgg&&d.size.beq 1 then(match fS cs with
   | some xs=>.nat (aJ i) fun k=>.chk (k.blt len) (.tv (pnth k xs) vt)
   | none=>.fail)else .fail
  | _,_,_=>.fail
 | _=>.fail
def vY (d:TyD) (off:Nat) (agg:Bool) (n:Nat) (x:AV):Out :=
 match x with
 | .agg cs => match lb cs off (bif agg then n else 1) with
  | some cs=>match dh agg cs with
   | some v=>.ret (.val v)
   | none=>.fail
  | none=>.fail
 | .tv x => .chk (x.isAgg d.size && (off + n).ble d.size && Nat.blt 0 n)
   (.ret (.val (bif agg then .agg ((List.range n).map fun j=>.t (x.cell (off+j)))else .one (.t (x.cell off)))))
 | _=>.fail
def lQ (T:Tab):Kd->Bool
 | .struct=>true
 | .arr _ e=>(T e).isSome
 | _=>false
def rd (T:Tab):Kd->Option Nat
 | .slice e=>match T e with
  | some d=>some d.size
  | none=>none
 | _=>some 0
def TV.cellsL (agg:Bool) (x:TV):List TV:=match agg,x with
 | true,.agg cs=>cs
 | true,_=>[]
 | false,x=>[x]
def eW (id r0:Nat):List Value->TV->Bool->Nat->List CA
 | [],_,_,_=>[]
 | z::zs,x,agg,j=>(bif aF z then .sref id (r0+j) []else .t (bif agg then x.cell j else x))::eW id r0 zs x agg (j+1)
def dO:List Value->TV->Bool->Nat->List TV
 | [],_,_,_=>[]
 | z::zs,x,agg,j=>(bif aF z then(bif agg then x.cell j else x)else .hole)::dO zs x agg (j+1)
def pt {R:Type} (d:TyD) (x:TV) (k:Prg R):Prg R :=
 bif d.kd.isAgg then .chk (x.isAgg d.size&&ab d.zero (x.cellsL true) 0) k else .chk (ab d.zero (x.cellsL false) 0) k
def oP (T:Tab):List TypeId->Option (List TyD)
 | []=>some []
 | t::l=>match T t,oP T l with
  | some d,some ds=>some (d::ds)
  | _,_=>none
def me {R:Type} (x:TV):List TyD->Nat->Prg R->Prg R
 | [],_,k=>k
 | d::l,j,k=>pt d (x.comp j) (me x l (j+1) k)
def ew (id:Nat) (x:TV):List TyD->Nat->Nat->List (Bool × List CA)
 | [],_,_=>[]
 | d::l,j,r0=>(d.kd.isAgg,eW id r0 d.zero (x.comp j) d.kd.isAgg 0)::ew id x l (j+1) (r0+d.zero.length)
def br (x:TV):List TyD->Nat->List TV
 | [],_=>[]
 | d::l,j=>dO d.zero (x.comp j) d.kd.isAgg 0++br x l (j+1)
def j5:List TyD->Bool
 | []=>false
 | d::l=>bif ir d.zero then true else j5 l
def Bt (id:Nat) (ds:List TyD) (v:TV) (ps:List Prim):Out :=
 match ds with
 | [d]=>pt d v (match dh d.kd.isAgg (eW id 0 d.zero v d.kd.isAgg 0)with
  | some av=>bif ir d.zero then .ret (cU ps (.tree (dO d.zero v d.kd.isAgg 0)) av)else .ret (match ps with | []=>.val av|_=>.gen ps av)
  | none=>.fail)
 | ds => .chk (v.isTup ds.length) (me v ds 0 (bif j5 ds then .ret (cU ps (.tree (br v ds 0)) (.tups (ew id v ds 0 0)))
   else .ret (match ps with | []=>.val (.tups (ew id v ds 0 0))|_=>.gen ps (.tups (ew id v ds 0 0)))))
def TV.Ep (x:TV):Bool:=match x with | .tup []=>true|_=>false
def kq (self:Bool) (id:Nat) (e:TypeId) (zs:List Value):List CA :=
 match self,zs with
 | true,.pointer none::l=>.may id e::l.map fun v=>.t (.lit v)
 | _,zs=>zs.map fun v=>.t (.lit v)
def CA.FM:CA->CA
 | .may _ _=>.t .hole
 | c=>c
def unMays:List CA->List CA
 | []=>[]
 | c::l=>c.FM::unMays l
def xq (E:Env) (id:Nat) (look:Look) (f:FuncId) (ld:jq) (vs:List AV):Out:=.fail
def wM (look:Look) (f:FuncId) (c:Nat × Nat) (vs:List AV):Out:=.fail
def th (look:Look) (f:FuncId) (vs:List AV):Out:=.fail
def pifc (t:TypeId) (x:TV):Option TV:=match x with | .lit v=>if scV v=true then some (.lit (.iface t v))else none|_=>none
def pasrt (t:TypeId) (x:TV):Option TV:=match x with | .lit (.iface t' v)=>if t'=t/\scV v=true then some (.lit v)else none|_=>none
def Kd.kY:Kd->Bool
 | .bool=>true
 | .int _=>true
 | .str=>true
 | .ptr=>true
 | _=>false
def DT (d:TyD) (t:TypeId) (x:AV):Out :=
 bif d.kd.kY then(match x with
 | .one (.ptr i 0)=>.ret (.val (.one (.ifp t i)))
 | x=>match x.tv? with
  | some x=>.tv (pifc t x) vt
  | none=>.fail)else .fail
def ue (d:TyD) (t:TypeId) (x:AV):Out :=
 bif d.kd.kY then(match x.tv? with
  | some x=>.tv (pasrt t x) vt
  | none=>.fail)else .fail
def mO (E:Env) (id:Nat) (look:Look) (f:FuncId) (vs:List AV):Out :=
 match E.peek f with
 | some c=>wM look f c vs
 | none=>match E.lent f with
 | some ld=>xq E id look f ld vs
 | none=>match oP E.T (E.rts f)with
 | some ds=>bif E.pure f || !j5 ds then lends look vs fun xs=>.call f xs fun v=>Bt id ds v []
  else hands look vs fun xs rs=>bif gk rs then .call f xs fun v=>Bt id ds v (yc rs)else .fail
 | none=>.fail
def El (E:Env) (id:Nat) (look:Look) (f:FuncId) (i:Nat) (vs:List AV):Out:=.fail
def As (T:Tab) (look:Look) (ds d:TyD) (x:AV):Out :=
 match ds.kd,d.kd with
 | .slice e,.str=>.fail
 | _,kd=>match x.tv? with
  | some x=>.tv (pconv kd x) vt
  | none=>.fail
def CH (E:Env) (t:TypeId) (len:Nat) (parts:Array (Nat × Operand)) (vs:List AV):Out:=.fail
def wa:List CA->Bool
 | []=>true
 | .ptr _ _::l=>wa l
 | _=>false
def iV (E : Env) (id : Nat) (look : Look) (t : TypeId) (len : Nat) (parts : Array (Nat × Operand)) (vs : List AV) : Out :=
 match jx E.T t with
  | some (_, d) =>
   cp (fun i=>some (i*d.size,d.kd.isAgg,d.size)) (parts.toList.map (·.1)) vs ((List.replicate len d.zero).flatten.map fun v=>.t (.lit v)) fun cs =>
    bif wa cs&&(!(len.beq 0)&&(d.size.beq 1&&len.ble 16777216))then .ret (.new (.cells cs) (.one (.psl id len)))else
    cm look cs fun ys qs ts=>bif gk ts&&(len*d.size).ble 16777216&&ys.length.beq (len*d.size)&&Nat.blt 0 d.size then
     .ret (cU qs (.tree [.sl true d.size (chunks d.size len ys)]) (.one (.sref id 0 [])))else .fail
  | none=>.fail
def opL (E : Env) (id : Nat) (look : Look) (op : Op) (vs : List AV) : Out :=
 match op,vs with
 | .move _,[x]=>.ret (.val x)
 | .assign _,[x]=>.ret (.val x)
 | .pick _ _ _,[c,a,b]=>match c with
  | .bl c=>.ret (.val (bif c then a else b))
  | .tv v=>.ite (asBool v) (.ret (.val a)) (.ret (.val b))
  | .one (.t v)=>.ite (asBool v) (.ret (.val a)) (.ret (.val b))
  | _=>.fail
 | .alloc e,[]=>match E.T e with
  | some d=>.ret (.new (.cells (kq (E.selfT e) id e d.zero)) (.one (.ptr id 0)))
  | none=>.fail
 | .box e _,[x]=>match E.T e with
  | some d=>x.bd d.kd.isAgg d.size fun cs=>.ret (.new (.cells cs) (.one (.ptr id 0)))
  | none=>.fail
 | .build t parts,vs=>match E.T t with
  | some d=>bif lQ E.T d.kd then cp (places E.T d) (parts.toList.map (·.1)) vs (d.zero.map fun v=>.t (.lit v)) fun cs=>.ret (.val (.agg cs))else .fail
  | none=>.fail
 | .buildSlice t len parts,vs=>bif E.cold t && !(len.beq 0)then CH E t len parts vs else iV E id look t len parts vs
 | .load t _,[a]=>match E.T t with
  | some d=>AT look d a
  | none=>.fail
 | .store t _ _,[a,x]=>match E.T t with
  | some d=>wc look d a x
  | none=>.fail
 | .nilCheck _,[x]=>match x with
  | .one (.ptr i off)=>.ret (.val (.one (.ptr i off)))
  | .one (.ref x off)=>.ret (.val (.one (.ref x off)))
  | .one (.tptr i r p k j)=>.ret (.val (.one (.tptr i r p k j)))
  | .one (.aptr i off len n)=>.ret (.val (.one (.aptr i off len n)))
  | _=>.fail
 | .binOp op xt _ _ _,[x,y]=>match E.T xt with
  | some d=>EH E.T look d.kd op x y
  | none=>.fail
 | .unOp op _ _, [x] => match op, x with
  | .not,.bl b=>.ret (.val (.bl (!b)))
  | op,x=>match x.tv? with
   | some x=>.tv (pun op x) vt
   | none=>.fail
 | .convert sty dt _,[x]=>match E.T sty,E.T dt with
  | some ds,some d=>As E.T look ds d x
  | _,_=>.fail
 | .makeSlice t _ _,[l,c]=>match jx E.T t,l.tv?,c.tv? with
  | some (_,d),some l,some c=>bif d.bytes.ble 4096 then .nat (aJ l) fun n=>.nat (aJ c) fun m=>.chk (n.ble m&&m.ble room)
     (.ret (.new (.tree [.sl true d.size (List.replicate n (d.zero.map .lit))]) (.one (.sref id 0 []))))else .fail
  | _,_,_=>.fail
 | .slice t _ lo hi none, x :: rest => match E.T t with
  | some d => match rd E.T d.kd with
   | some sz=>match lo,hi,rest with
    | none,none,[]=>iQ look d.kd sz x none none
    | some _,none,[l]=>iQ look d.kd sz x (some l) none
    | none,some _,[h]=>iQ look d.kd sz x none (some h)
    | some _,some _,[l,h]=>iQ look d.kd sz x (some l) (some h)
    | _,_,_=>.fail
   | none=>.fail
  | none=>.fail
 | .fieldAddr s _ f, [x] => match E.T s, x with
  | some d,.one c=>match d.kd,places E.T d f with
   | .struct,some (off,_,n)=>bif Nat.blt 0 n then(match c.add off with|some c=>.ret (.val (.one c))|none=>.fail)else .fail
   | _,_=>.fail
  | _,_=>.fail
 | .field s _ f, [x] => match E.T s with
  | some d=>match d.kd,places E.T d f with
   | .struct,some (off,agg,n)=>vY d off agg n x
   | _,_=>.fail
  | none=>.fail
 | .indexAddr t _ _,[x,i]=>match jx E.T t with
  | some (_,d)=>pH look d x i
  | none=>qY E.T t x i
 | .index t _ _,[x,i]=>match E.T t,x.tv?,i.tv? with
  | some ⟨_,_,.str,_,_⟩,some x,some i=>.tv (pstr x i) vt
  | _,_,_=>rn E.T t x i
 | .extract _ j, [x] => match x with
  | .tups cs => match cs[j]? with
   | some (agg,c)=>match dh agg c with
    | some v=>.ret (.val v)
    | none=>.fail
   | none=>.fail
  | _=>.fail
 | .makeFunc (.func f) first _,vs=>bif first.size.beq 0 then kx vs fun cs=>.ret (.val (.clo f cs))else .fail
 | .call ⟨.builtin b,_,tys⟩,vs=>eD E id look b tys.toList vs
 | .makeInterface t _,[x]=>match E.T t with
  | some d=>DT d t x
  | none=>.fail
 | .typeAssert _ _ t false,[x]=>match E.T t with
  | some d=>ue d t x
  | none=>.fail
 | .call ⟨.value (.func f),_,_⟩,_::vs=>bif E.turn f then th look f vs else bif E.eye f then .fail else mO E id look f vs
 | .call ⟨.value (.tmp _), _, _⟩, fv :: vs => match fv.tv? with
  | some x=>.nat (fnOf x) fun f=>.chk ((E.lent f).isNone&&(E.peek f).isNone && !(E.turn f||E.eye f)) (lends look vs fun xs=>.call f xs fun v=>.chk v.isSc (vt v))
  | none=>match fv with
   | .one (.fn1 f i)=>El E id look f i vs
   | _=>.fail
 | _,_=>.fail
def dY:Nat:=24
def ASt.nid (st:ASt) (d:Option Tmp):Nat:=match d with|some d=>dY+st.out.length+d|none=>0
def ASt.put (st:ASt) (d:Option Tmp) (v:AV):ASt :=
 match d with
 | some d=>⟨ai st.slots d v,st.boxes,st.out⟩
 | none=>st
def ASt.look (st:ASt):Look:=fun i=>nth none st.boxes i
def ASt.ac (st:ASt) (i:Nat) (b:Option BC):ASt:=⟨st.slots,ai st.boxes i b,st.out⟩
def leads:Bool->List Nat->Way->Bool
 | strict,[],p=>match p with | []=>!strict|_=>true
 | _,_::_,[]=>false
 | strict,a::l,(_,j)::p=>a.beq j&&leads strict l p
def dz (i r:Nat) (js:List Nat) (strict:Bool) (i' r':Nat) (p:Way):Bool:=i.beq i'&&r.beq r'&&leads strict js p
def CA.drop (i r:Nat) (js:List Nat) (strict:Bool) (c:CA):CA :=
 match c with
 | .tptr i' r' p _ _=>bif dz i r js strict i' r' p then .junk else c
 | .sref i' r' p=>bif dz i r js strict i' r' p then .junk else c
 | .swin i' r' p _ _=>bif dz i r js strict i' r' p then .junk else c
 | c=>c
def mapC (f:CA->CA):List CA->List CA
 | []=>[]
 | c::l=>f c::mapC f l
def jD (f:CA->CA):List (Bool × List CA)->List (Bool × List CA)
 | []=>[]
 | (b,cs)::l=>(b,mapC f cs)::jD f l
def AV.b8 (f:CA->CA):AV->AV
 | .one c=>.one (f c)
 | .agg cs=>.agg (mapC f cs)
 | .tups cs=>.tups (jD f cs)
 | .tv x=>.tv x
 | .bl b=>.bl b
 | .clo n cs=>.clo n (mapC f cs)
def cg (f:CA->CA):List AV->List AV
 | []=>[]
 | v::l=>v.b8 f::cg f l
def BC.bS (f:CA->CA):BC->BC
 | .cells cs=>.cells (mapC f cs)
 | b=>b
def eg (f:CA->CA):List (Option BC)->List (Option BC)
 | []=>[]
 | some b::l=>some (b.bS f)::eg f l
 | none::l=>none::eg f l
def ASt.aE (f:CA->CA) (st:ASt):ASt:=⟨cg f st.slots,eg f st.boxes,cg f st.out⟩
def CA.unM (i:Nat):CA->CA
 | .may j ty=>bif j.beq i then .junk else .may j ty
 | c=>c
def ASt.bC (st:ASt) (i:Nat) (b:BC):Option ASt :=
 match st.look i with
 | some _=>none
 | none=>bif i.blt st.boxes.length then some (st.ac i (some b))else none
def Prim.app (st:ASt) (d:Option Tmp):Prim->Option ASt
 | .drop i r js strict=>some (st.aE (CA.drop i r js strict))
 | .root i r x=>match co st.look i r x with
  | some b=>some (st.ac i (some b))
  | none=>none
 | .frz i r => match cj st.look i r with
  | some x=>match co st.look i r (Ab.frz x)with
   | some b=>some (st.ac i (some b))
   | none=>none
  | none=>none
 | .unmay i=>some (st.aE (CA.unM i))
 | .newB b=>match d with
  | some d=>st.bC (st.nid (some d)) b
  | none=>none
 | .setB i cs=>match st.look i with
  | some (.cells _)=>some (st.ac i (some (.cells cs)))
  | _=>none
def ae (d:Option Tmp):List Prim->ASt->Option ASt
 | [],st=>some st
 | p::l,st=>match p.app st d with
  | some st=>ae d l st
  | none=>none
def Eff.app (st:ASt) (d:Option Tmp):Eff->Option ASt
 | .val v=>some (st.put d v)
 | .new b v => match d with
  | none=>none
  | some d=>match st.bC (st.nid (some d)) b with
   | some st=>some (st.put (some d) v)
   | none=>none
 | .upd i b v=>some ((st.ac i (some b)).put d v)
 | .gen ps v=>match ae d ps st with
  | some st=>some (st.put d v)
  | none=>none
def banned (ban:List Nat) (look:Look):Look:=fun i=>bif bF i ban then none else look i
inductive Cls where
 | N|R|A|B|W|P|X
def ao:Op->Cls
 | .move _ | .assign _ | .pick _ _ _ | .build _ _ | .nilCheck _ | .unOp _ _ _ | .fieldAddr _ _ _ | .field _ _ _ | .index _ _ _ | .extract _ _ | .makeFunc _ _ _ | .makeInterface _ _ | .typeAssert _ _ _ _=>.N
 | .load _ _ | .binOp _ _ _ _ _ | .slice _ _ _ _ _ | .indexAddr _ _ _ | .convert _ _ _=>.R
 | .alloc _ | .box _ _ | .makeSlice _ _ _=>.A
 | .call ⟨.builtin .len,_,_⟩=>.R
 | .call ⟨.builtin .min,_,_⟩=>.R
 | .call ⟨.builtin .max,_,_⟩=>.R
 | .call ⟨.value (.func _),_,_⟩=>.B
 | .call ⟨.value (.tmp _),_,_⟩=>.B
 | .buildSlice _ _ _=>.B
 | .store _ _ _=>.W
 | .call ⟨.builtin .append,_,_⟩=>.P
 | _=>.X
def Cls.isX:Cls->Bool
 | .X=>true
 | _=>false
def Cls.makes:Cls->Bool
 | .A=>true
 | .B=>true
 | .P=>true
 | _=>false
def Cls.reads:Cls->Bool
 | .R=>true
 | .B=>true
 | .W=>true
 | .P=>true
 | _=>false
def ke:Cls->Cls->Bool
 | .X,_=>false
 | _,.X=>false
 | .P,.P=>false
 | .P,.W=>false
 | .W,.P=>false
 | _,_=>true
def dZ:List Operand->List Nat
 | []=>[]
 | .tmp t::l=>t::dZ l
 | _::l=>dZ l
def oT (ops:List Oper) (o:Oper):List Nat :=
 match o.guard with
 | some (j,_)=>(match (ops[j]?).bind (·.dst)with|some g=>[g]|none=>[])
 | none=>[]
def looks (ops:List Oper) (o:Oper):List Nat:=oT ops o++dZ o.op.operands.toList
def dV (d:Option Nat) (l:List Nat):Bool :=
 match d with
 | some d=>!bF d l
 | none=>true
def au (o:Op):Option Nat:=match ao o,o.operands.toList with
 | .P,.tmp s::_=>some s
 | _,_=>none
def Eff.plain:Eff->Bool
 | .val _=>true
 | .new _ _=>true
 | .upd _ _ _=>true
 | _=>false
structure Item where
 o:Oper
 ban:List Nat × List Nat
 dr:Bool
 own:List (List Nat × List Nat)
 push:List Nat
 root:Nat
 loose:Bool
 shut:Bool
 lds:List (List Nat × List Nat)
 dull:List Nat
 dull2:List Nat
def aZ (b:List Nat × List Nat) (base:Nat):List Nat:=b.1.map (base + ·)++b.2.map (· / 2)
def Eff.mT (base:Nat) (own:List (List Nat × List Nat)):Eff->Bool
 | .upd i _ _=>own.all fun l=>bF i (aZ l base)
 | _=>true
def ASt.base (st:ASt):Nat:=dY+st.out.length
def nN:CA->List Nat
 | .ptr i _=>[i]
 | .tptr i _ _ _ _=>[i]
 | .sref i _ _=>[i]
 | .swin i _ _ _ _=>[i]
 | .may i _=>[i]
 | .aptr i _ _ _=>[i]
 | .ifp _ i=>[i]
 | .fn1 _ i=>[i]
 | .psl i _=>[i]
 | _=>[]
def lg:List CA->List Nat
 | []=>[]
 | c::l=>nN c++lg l
def qb:List (Bool × List CA)->List Nat
 | []=>[]
 | (_,cs)::l=>lg cs++qb l
def AV.d9:AV->List Nat
 | .one c=>nN c
 | .agg cs=>lg cs
 | .tups cs=>qb cs
 | .tv _=>[]
 | .bl _=>[]
 | .clo _ cs=>lg cs
def gf:List AV->List Nat
 | []=>[]
 | v::l=>v.d9++gf l
def BC.lk:BC->List Nat
 | .cells cs=>lg cs
 | .tree _=>[]
def dC:Eff->List Nat
 | .val v=>v.d9
 | .new b v=>b.lk++v.d9
 | .upd _ b v=>b.lk++v.d9
 | .gen _ v=>v.d9
def ct (ps:List Nat) (st:ASt) (d:Option Nat) (e:Eff):Bool :=
 ps.all fun s=>!bF (st.base+s) (dC e)&&(match d with|some d=>!bF (st.base+s) (nth (.one .junk) st.slots d).d9|none=>true)
def jP:Eff->Option (Nat × TV)
 | .gen [.drop i 0 [] false,.root j 0 y] (.one (.sref k 0 []))=>bif i.beq j&&i.beq k then some (i,y)else none
 | _=>none
def jJ (k:Nat):AV->Bool
 | .one (.sref j 0 [])=>j.beq k
 | _=>false
def ws:Option BC->Bool
 | some (.tree [_])=>true
 | _=>false
def fL (k s:Nat):Nat->List AV->Bool
 | _,[]=>true
 | n,v::l=>(n.beq s || !bF k v.d9)&&fL k s (n+1) l
def dT (k:Nat):List (Option BC)->Bool
 | []=>true
 | some b::l=>!bF k b.lk&&dT k l
 | none::l=>dT k l
def dj (it:Item) (st:ASt) (e:Eff):Bool :=
 match au it.o.op,jP e with
 | some s,some (i,_)=>i.beq (st.base+it.root)&&jJ i (nth (.one .junk) st.slots s)&&ws (st.look i)&&fL i s 0 st.slots&&dT i st.boxes && !bF i (gf st.out)
 | _,_=>false
def cX:List AV->Bool
 | []=>true
 | v::l=>(match v.tv? with|some _=>true|none=>false)&&cX l
def iH:Eff->Bool
 | .val _=>true
 | .new (.tree _) _=>true
 | _=>false
def um (n:Nat):List Nat->Bool
 | []=>true
 | k::l=>k.beq n&&um n l
def hH (i:Item) (st:ASt) (e:Eff):Bool:=cX (i.o.op.operands.toList.map st.ev)&&(iH e&&um (st.nid i.o.dst) (dC e))
def pp:List Prim->List Nat
 | []=>[]
 | .drop i _ _ _::l=>i::pp l
 | .root i _ _::l=>i::pp l
 | _::l=>pp l
def l6:Eff->List Nat
 | .gen ps _=>pp ps
 | _=>[]
def drP:Prim->Bool
 | .drop _ _ _ _=>true
 | .root _ _ _=>true
 | .newB _=>true
 | _=>false
def drE:Eff->Bool
 | .gen ps _=>ps.all drP
 | .upd _ _ _=>false
 | _=>true
def CA.deep:CA->CA
 | .tptr i r p k j=>match p with | []=>.junk|_=>.tptr i r p k j
 | .sref i r p=>match p with | []=>.junk|_=>.sref i r p
 | .swin i r p lo len=>match p with | []=>.junk|_=>.swin i r p lo len
 | c=>c
def fh (k:Nat):List (Option BC)->Bool
 | []=>true
 | some b::l=>!bF k (b.bS CA.deep).lk&&fh k l
 | none::l=>fh k l
def FH (k:Nat):Prim->Bool
 | .drop i _ js _=>!(i.beq k) || !js.isEmpty
 | _=>true
def uq (k:Nat):Eff->Bool
 | .gen ps _=>ps.all (FH k)
 | _=>true
def A0 (o:Oper):Bool:=match o.op with
 | .store _ _ _=>o.guard.isNone&&o.dst.isNone
 | _=>false
def nc (o:Oper):Bool:=(au o.op).isSome||A0 o
def cD (i:Item) (st:ASt) (e:Eff):Bool:=i.lds.all fun l=>drE e&&(l6 e).all fun k =>
 (bF k (l.1.map (st.base + ·))&&dT k st.boxes)||(nc i.o&&((bF (2*k) l.2&&dT k st.boxes)||(bF (2*k+1) l.2&&(uq k e&&fh k st.boxes))))
def jw (st:ASt) (d:Option Nat) (b:Nat):Bool:=match d with|some d=>!bF b (nth (.one .junk) st.slots d).d9|none=>true
def gU (st:ASt) (d:Option Nat) (b:Nat):Bool:=match d with|some d=>!bF b ((nth (.one .junk) st.slots d).b8 CA.deep).d9|none=>true
def nD:Eff->List Nat
 | .val v=>(v.b8 CA.deep).d9
 | e=>dC e
def di (i:Item) (st:ASt) (e:Eff):Bool:=(i.dull.all fun s=>!bF (st.base+s) (gf (i.o.op.operands.toList.map st.ev))) &&
 (i.dull2.all fun b => bif (b % 2).beq 0 then !bF (b / 2) (dC e) && (jw st i.o.dst (b / 2) && !bF (b / 2) (gf (i.o.op.operands.toList.map st.ev)))
  else !bF (b / 2) (nD e)&&(gU st i.o.dst (b / 2) && !bF (b / 2) (gf (cg CA.deep (i.o.op.operands.toList.map st.ev)))))
def okE (i:Item) (st:ASt) (e:Eff):Bool:=(i.loose&&cD i st e)||((bif i.shut then hH i st e else e.plain&&e.mT st.base i.own&&(ct i.push st i.o.dst e&&di i st e))||dj i st e)
def effQ {R:Type} (i:Item) (st:ASt) (K:ASt->Prg R) (e:Eff):Prg R :=
 bif i.dr && !(okE i st e)then .fail else
 match e.app st i.o.dst with
 | some st=>K st
 | none=>.fail
def mM {R:Type} (E:Env) (i:Item) (K:ASt->Prg R) (st:ASt):Prg R :=
 (opL E (st.nid i.o.dst) (banned (aZ i.ban st.base) st.look) i.o.op (i.o.op.operands.toList.map st.ev)).bind (effQ i st K)
def dU (o:Oper) (st:ASt):ASt:=st.put o.dst (.one .undef)
def opQ {R:Type} (E:Env) (ops:List Oper) (i:Item) (K:ASt->Prg R) (st:ASt):Prg R :=
 match i.o.guard with
 | none=>mM E i K st
 | some (j, want) => match ((ops[j]?).bind (·.dst)) with
  | none=>.fail
  | some g=>match nth (.one .junk) st.slots g with
   | .one .undef=>K (dU i.o st)
   | .bl b=>bif b then(bif want then mM E i K st else K (dU i.o st))else(bif want then K (dU i.o st)else mM E i K st)
   | .one (.t v) => .ite (asBool v)
     (bif want then mM E i K (st.put (some g) (.bl true))else K (dU i.o (st.put (some g) (.bl true))))
     (bif want then K (dU i.o (st.put (some g) (.bl false)))else mM E i K (st.put (some g) (.bl false)))
   | .tv v => .ite (asBool v)
     (bif want then mM E i K (st.put (some g) (.bl true))else K (dU i.o (st.put (some g) (.bl true))))
     (bif want then K (dU i.o (st.put (some g) (.bl false)))else mM E i K (st.put (some g) (.bl false)))
   | _=>.fail
def lR {α R:Type}:List α->(List α->R)->R
 | [],k=>k []
 | a::l,k=>lR l (fun l'=>k (a::l'))
theorem ma {α R:Type}:∀(l:List α) (k:List α->R),lR l k=k l
 | [],_=>rfl
 | a::l,k=>ma l (fun l'=>k (a::l'))
def iw {R:Type} (K:ASt->R) (st:ASt):R:=lR st.slots fun sl=>lR st.boxes fun bx=>K ⟨sl,bx,st.out⟩
theorem kg {R:Type} (K:ASt->R):iw K=K:=by
 funext st
 simp only[iw,ma]
def zG {R:Type} (K:ASt->R) (st:ASt):R:=lR st.slots fun sl=>lR st.boxes fun bx=>lR st.out fun ou=>K ⟨sl,bx,ou⟩
theorem uG {R:Type} (K:ASt->R):zG K=K:=by
 funext st
 simp only[zG,ma]
def fN {R:Type} (n:Nat) (k:Nat->R):R:=match n with|0=>k 0|m+1=>k (m+1)
theorem zR {R:Type} (n:Nat) (k:Nat->R):fN n k=k n:=by cases n<;>rfl
def fNs {R:Type}:List Nat->(List Nat->R)->R
 | [],k=>k []
 | n::l,k=>fN n fun n=>fNs l fun l=>k (n::l)
theorem o0 {R:Type}:∀(l:List Nat) (k:List Nat->R),fNs l k=k l
 | [],_=>rfl
 | n::l,k=>by simp only[fNs,zR,o0 l]
def fW {R:Type}:Way->(Way->R)->R
 | [],k=>k []
 | (a,j)::l,k=>fN j fun j=>fW l fun l=>k ((a,j)::l)
theorem Fp {R:Type}:∀(l:Way) (k:Way->R),fW l k=k l
 | [],_=>rfl
 | (a,j)::l,k=>by simp only[fW,zR,Fp l]
def fC {R:Type} (c:CA) (k:CA->R):R :=
 match c with
 | .t x=>k (.t x)
 | .ptr i off=>fN i fun i=>fN off fun off=>k (.ptr i off)
 | .ref x off=>fN off fun off=>k (.ref x off)
 | .tptr i r p n j=>fN i fun i=>fN r fun r=>fW p fun p=>fN j fun j=>k (.tptr i r p n j)
 | .sref i r p=>fN i fun i=>fN r fun r=>fW p fun p=>k (.sref i r p)
 | .swin i r p lo len=>fN i fun i=>fN r fun r=>fW p fun p=>k (.swin i r p lo len)
 | .may i ty=>fN i fun i=>k (.may i ty)
 | .aptr i off len n=>fN i fun i=>fN off fun off=>k (.aptr i off len n)
 | .yl n=>fN n fun n=>k (.yl n)
 | .ifp t i=>fN i fun i=>k (.ifp t i)
 | .fn1 f i=>fN f fun f=>fN i fun i=>k (.fn1 f i)
 | .psl i n=>fN i fun i=>fN n fun n=>k (.psl i n)
 | .undef=>k .undef
 | .junk=>k .junk
theorem FC {R:Type} (c:CA) (k:CA->R):fC c k=k c:=by cases c<;>simp only[fC,zR,Fp]
def fCs {R:Type}:List CA->(List CA->R)->R
 | [],k=>k []
 | c::l,k=>fC c fun c=>fCs l fun l=>k (c::l)
theorem wd {R:Type}:∀(l:List CA) (k:List CA->R),fCs l k=k l
 | [],_=>rfl
 | c::l,k=>by simp only[fCs,FC,wd l]
def fTs {R:Type}:List (Bool × List CA)->(List (Bool × List CA)->R)->R
 | [],k=>k []
 | (b,c)::l,k=>fCs c fun c=>fTs l fun l=>k ((b,c)::l)
theorem CM {R:Type}:∀(l:List (Bool × List CA)) (k:List (Bool × List CA)->R),fTs l k=k l
 | [],_=>rfl
 | (b,c)::l,k=>by simp only[fTs,wd,CM l]
def fA {R:Type} (v:AV) (k:AV->R):R :=
 match v with
 | .one c=>fC c fun c=>k (.one c)
 | .agg cs=>fCs cs fun cs=>k (.agg cs)
 | .tv x=>k (.tv x)
 | .tups l=>fTs l fun l=>k (.tups l)
 | .bl b=>k (.bl b)
 | .clo n cs=>fN n fun n=>fCs cs fun cs=>k (.clo n cs)
theorem fA_eq {R:Type} (v:AV) (k:AV->R):fA v k=k v:=by cases v<;>simp only[fA,FC,wd,CM,zR]
def fAs {R:Type}:List AV->(List AV->R)->R
 | [],k=>k []
 | c::l,k=>fA c fun c=>fAs l fun l=>k (c::l)
theorem CV {R:Type}:∀(l:List AV) (k:List AV->R),fAs l k=k l
 | [],_=>rfl
 | c::l,k=>by simp only[fAs,fA_eq,CV l]
def fB {R:Type} (b:Option BC) (k:Option BC->R):R :=
 match b with
 | none=>k none
 | some (.cells cs)=>fCs cs fun cs=>k (some (.cells cs))
 | some (.tree xs)=>lR xs fun xs=>k (some (.tree xs))
theorem fB_eq {R:Type} (b:Option BC) (k:Option BC->R):fB b k=k b:=by
 match b with
 | none=>rfl
 | some (.cells cs)=>simp only[fB,wd]
 | some (.tree xs)=>simp only[fB,ma]
def fBs {R:Type}:List (Option BC)->(List (Option BC)->R)->R
 | [],k=>k []
 | c::l,k=>fB c fun c=>fBs l fun l=>k (c::l)
theorem D0 {R:Type}:∀(l:List (Option BC)) (k:List (Option BC)->R),fBs l k=k l
 | [],_=>rfl
 | c::l,k=>by simp only[fBs,fB_eq,D0 l]
def lE {R:Type} (K:ASt->R) (st:ASt):R:=fAs st.slots fun sl=>fBs st.boxes fun bx=>fAs st.out fun ou=>K ⟨sl,bx,ou⟩
theorem dR {R:Type} (K:ASt->R):lE K=K:=by
 funext st
 simp only[lE,CV,D0]
def DB {R:Type} (E:Env) (ops:List Oper):List Item->(ASt->Prg R)->ASt->Prg R
 | [],K,st=>K st
 | i::rest,K,st=>opQ E ops i (iw (DB E ops rest K)) st
def unlike (a b:Option Nat):Bool :=
 match a,b with
 | some a,some b=>!a.beq b
 | _,_=>true
def rr (s:Nat):List Oper->Option Oper
 | []=>none
 | o::l=>match o.dst with
  | some d=>bif d.beq s then some o else rr s l
  | none=>rr s l
def kn (ops:List Oper):Nat->Nat->Nat
 | 0,s=>s
 | n+1,s=>match rr s ops with
  | some o=>(match au o.op with|some s'=>kn ops n s'|none=>s)
  | none=>s
def gR (ops:List Oper) (o:Oper):Option Nat:=match au o.op with
 | some s=>some (kn ops 20 s)
 | none=>none
def mH (ops:List Oper) (x y:Oper):Bool :=
 match au x.op with
 | some s=>x.guard.isNone&&y.guard.isNone && !bF s (looks ops y)&&dV y.dst [kn ops 20 s]
 | none=>true
def cH (ops:List Oper) (x y:Oper):Bool :=
 ke (ao x.op) (ao y.op)&&dV x.dst (looks ops y)&&dV y.dst (looks ops x)&&unlike x.dst y.dst&&(mH ops x y&&mH ops y x)
def gw (acc:List Nat):List Edge->Nat
 | []=>0
 | e::es=>bif Region.binds .any e then(gw acc es ||| 2 ^ e.on) ||| nth 0 acc e.on else gw acc es
def bK (acc:List Nat):List Oper->List Nat
 | []=>acc
 | o::rest=>bK (acc ++ [gw acc o.after.toList]) rest
def behind (ops:List Oper):List Nat:=bK [] ops
def fm (i:Nat):List Edge->Bool
 | []=>true
 | e::es=>bif Region.binds .any e then(bif e.on.blt i then fm i es else false)else fm i es
def pJ (all:List Oper) (o:Oper):List Nat :=
 (match o.dst with|some d=>bif (ao o.op).makes then [d]else []|none=>[])++(match gR all o with|some s=>[s]|none=>[])
def kZ (bs:List Nat) (j:Nat) (all:List Oper):Nat->List Oper->List Nat
 | _,[]=>[]
 | i,o::rest=>bif !(i.beq j) && !((nth 0 bs j).testBit i) && !((nth 0 bs i).testBit j)then pJ all o++kZ bs j all (i+1) rest else kZ bs j all (i+1) rest
def jQ (bs:List Nat) (j:Nat) (all:List Oper):Nat->List Oper->List Nat
 | _,[]=>[]
 | i,o::rest=>bif !(i.beq j) && !((nth 0 bs j).testBit i) && !((nth 0 bs i).testBit j)then(match gR all o with|some s=>s::jQ bs j all (i+1) rest|none=>jQ bs j all (i+1) rest)else jQ bs j all (i+1) rest
def gP (ex:List (List Nat)) (bs:List Nat) (j:Nat) (all:List Oper):Nat->List Oper->List (List Nat × List Nat)
 | _,[]=>[]
 | k,o::rest=>bif (ao o.op).reads && !(k.beq j) && !((nth 0 bs j).testBit k) && !((nth 0 bs k).testBit j)then(kZ bs k all 0 all,nth [] ex k)::gP ex bs j all (k+1) rest else gP ex bs j all (k+1) rest
def FD (st:ASt) (ops:List Oper):Nat->Nat->List Nat
 | 0,_=>[]
 | n + 1, s => match rr s ops with
  | some o=>(match o.op,o.op.operands.toList with
   | .fieldAddr _ _ _,.tmp a::_=>FD st ops n a
   | _,_=>[])
  | none=>(match nth (.one .junk) st.slots s with | .one (.ptr i _)=>[2*i]|_=>[])
def E1 (st:ASt) (ops:List Oper) (o:Oper):List Nat :=
 match o.op with
 | .store _ (.tmp a) _=>FD st ops 20 a
 | _=>[]
def mf (ops:List Oper):Nat->Nat->Nat
 | 0,s=>s
 | n + 1, s => match rr s ops with
  | some o=>(match ao o.op,o.op.operands.toList with
   | .N,.tmp a::_=>mf ops n a
   | .R,.tmp a::_=>mf ops n a
   | _,_=>s)
  | none=>s
def xI (ops : List Oper) : Nat → Nat → Bool
 | 0,_=>false
 | n + 1, s => match rr s ops with
  | some o => (match o.op with
   | .indexAddr _ _ _=>true
   | _=>match ao o.op,o.op.operands.toList with
    | .N,.tmp a::_=>xI ops n a
    | .R,.tmp a::_=>xI ops n a
    | _,_=>false)
  | none=>false
def zQ (look:Look):List Nat->List Nat
 | []=>[]
 | j::l=>(match look j with
  | some (.cells cs)=>lg cs
  | _=>[j])++zQ look l
def AW (st:ASt) (s:Nat):List Nat:=zQ st.look (nth (.one .junk) st.slots s).d9
def Ba (st:ASt) (all:List Oper) (o:Oper):List Nat :=
 match au o.op with
 | some s=>(match rr (mf all 20 s) all with
  | none=>bif xI all 20 s then(AW st (mf all 20 s)).map (fun i=>2*i+1)else(nth (.one .junk) st.slots (mf all 20 s)).d9.map (2 * ·)
  | some _=>[])
 | none=>[]
def zE (st:ASt) (all:List Oper) (o:Oper):List Nat :=
 match o.op with
 | .store _ (.tmp a) _=>bif xI all 20 a then(AW st (mf all 20 a)).map (fun i=>2*i+1)else []
 | _=>[]
def yy (T:Tab) (all:List Oper):Nat->List Oper->List Nat
 | _,[]=>[]
 | j,o::rest=>(match o.op with
  | .store t (.tmp a) _=>(match T t with|some d=>bif ir d.zero&&xI all 20 a then [j]else []|none=>[])
  | _=>[])++yy T all (j+1) rest
def exAt (st:ASt) (all:List Oper) (bs:List Nat) (j:Nat):Nat->List Oper->List Nat
 | _,[]=>[]
 | k,o::rest=>bif !(k.beq j) && !((nth 0 bs j).testBit k) && !((nth 0 bs k).testBit j)then E1 st all o++(zE st all o++(Ba st all o++exAt st all bs j (k+1) rest))else exAt st all bs j (k+1) rest
def CW (st:ASt) (bs:List Nat) (all:List Oper):Nat->List Oper->List (List Nat)
 | _,[]=>[]
 | j,_::rest=>exAt st all bs j 0 all::CW st bs all (j+1) rest
def exQ (T:Tab) (st:ASt) (ops:List Oper):List (List Nat):=CW st (behind ops) ops 0 ops ++ [yy T ops 0 ops]
def besides (bs:List Nat) (j:Nat):Nat->List Oper->Bool
 | _,[]=>false
 | i,_::rest=>bif !(i.beq j) && !((nth 0 bs j).testBit i) && !((nth 0 bs i).testBit j)then true else besides bs j (i+1) rest
def fp (o:Oper):Bool:=match o.op with
 | .move _=>o.guard.isNone&&o.dst.isSome
 | _=>false
def b9 (bs:List Nat) (j:Nat):Nat->List Oper->Bool
 | _,[]=>true
 | i,o::rest=>bif !(i.beq j) && !((nth 0 bs j).testBit i) && !((nth 0 bs i).testBit j)then fp o&&b9 bs j (i+1) rest else b9 bs j (i+1) rest
def gK (o:Oper):Bool:=match o.op with
 | .call ⟨.value (.func _),_,_⟩=>o.guard.isNone&&o.dst.isSome
 | _=>false
def eT (o:Oper):Bool:=match o.op with
 | .buildSlice _ _ _=>o.guard.isNone&&o.dst.isSome
 | _=>false
def iy (o:Oper):Bool:=match ao o.op with
 | .N=>o.guard.isNone&&o.dst.isSome
 | .R=>o.guard.isNone&&o.dst.isSome
 | _=>false
def beB (bs:List Nat) (j i:Nat):Bool:=!(i.beq j) && !((nth 0 bs j).testBit i) && !((nth 0 bs i).testBit j)
def fJ (bs:List Nat) (j:Nat):Nat->List Oper->Bool
 | _,[]=>true
 | i,o::rest=>bif beB bs j i then(fp o||eT o||iy o)&&fJ bs j (i+1) rest else fJ bs j (i+1) rest
def eo (bs:List Nat) (all:List Oper) (j:Nat):Nat->List Oper->Bool
 | _,[]=>true
 | i,o::rest=>bif beB bs j i then(fp o||(gK o&&fJ bs i 0 all))&&eo bs all j (i+1) rest else eo bs all j (i+1) rest
def ek (bs:List Nat) (j:Nat):Nat->List Oper->Bool
 | _,[]=>true
 | i,o::rest=>bif beB bs j i then(fp o||(iy o&&i.blt j))&&ek bs j (i+1) rest else ek bs j (i+1) rest
def nh (bs:List Nat) (j:Nat) (all:List Oper) (o:Oper):Bool:=false
def i6 (bs:List Nat) (all:List Oper):Nat->List Oper->Bool
 | _,[]=>true
 | j,o::rest=>(match au o.op with|some _=>b9 bs j 0 all||nh bs j all o|none=>true)&&i6 bs all (j+1) rest
def lj (sl:List Nat) (bs:List Nat) (j:Nat) (all:List Oper) (o:Oper):Bool:=bF j sl&&A0 o&&(!b9 bs j 0 all&&ek bs j 0 all)
def jR (sl:List Nat) (bs:List Nat) (all:List Oper) (j:Nat):Nat->List Oper->Bool
 | _,[]=>false
 | i,o::rest=>bif beB bs j i&&(nh bs i all o||lj sl bs i all o)then true else jR sl bs all j (i+1) rest
def lw (bs:List Nat) (all:List Oper):Nat->List Oper->Bool
 | _,[]=>true
 | j,o::rest=>(!eT o||(eo bs all j 0 all||ek bs j 0 all))&&lw bs all (j+1) rest
def pi (ex:List (List Nat)) (bs:List Nat) (j:Nat) (all:List Oper):Nat->List Oper->List (List Nat × List Nat)
 | _,[]=>[]
 | k,o::rest=>bif beB bs j k&&(iy o && !fp o)then(kZ bs k all 0 all,nth [] ex k)::pi ex bs j all (k+1) rest else pi ex bs j all (k+1) rest
def gZ (bs:List Nat) (j:Nat):Nat->List Oper->Bool
 | _,[]=>false
 | i,o::rest=>bif beB bs j i&&eT o then true else gZ bs j (i+1) rest
def pP (ex:List (List Nat)) (ops:List Oper) (bs:List Nat) (j:Nat) (o:Oper):List Nat:=bif i6 bs ops 0 ops&&(iy o && !fp o)&&((lw bs ops 0 ops&&gZ bs j 0 ops)||jR (nth [] ex ops.length) bs ops j 0 ops)then kZ bs j ops 0 ops else []
def dull2At (ex:List (List Nat)) (ops:List Oper) (bs:List Nat) (j:Nat) (o:Oper):List Nat:=bif i6 bs ops 0 ops&&(iy o && !fp o)&&jR (nth [] ex ops.length) bs ops j 0 ops then nth [] ex j else []
def af (ex:List (List Nat)) (ops:List Oper) (bs:List Nat) (j:Nat) (o:Oper):Item:=⟨o,(kZ bs j ops 0 ops,nth [] ex j),besides bs j 0 ops,bif lj (nth [] ex ops.length) bs j ops o then([],[])::gP ex bs j ops 0 ops else gP ex bs j ops 0 ops,jQ bs j ops 0 ops++pP ex ops bs j o,match gR ops o with|some m=>m|none=>0,i6 bs ops 0 ops&&(fp o||b9 bs j 0 ops||(lw bs ops 0 ops&&eT o)||nh bs j ops o||lj (nth [] ex ops.length) bs j ops o),i6 bs ops 0 ops&&lw bs ops 0 ops&&gK o&&gZ bs j 0 ops,bif (eT o && !eo bs ops j 0 ops)||nh bs j ops o||lj (nth [] ex ops.length) bs j ops o then pi ex bs j ops 0 ops else [],pP ex ops bs j o,dull2At ex ops bs j o⟩
def mq (ex:List (List Nat)) (ops:List Oper) (bs:List Nat):Nat->List Oper->List Item
 | _,[]=>[]
 | j,o::rest=>af ex ops bs j o::mq ex ops bs (j+1) rest
def mz (ops:List Oper) (m:Nat) (y:Oper) (j:Nat):Nat->List Oper->Bool
 | _,[]=>true
 | i,x::rest=>bif i.blt j then(bif m.testBit i||cH ops x y then mz ops m y j (i+1) rest else false)else true
def Au (ops:List Oper) (bs:List Nat):Nat->List Oper->Bool
 | _,[]=>true
 | j,y::rest=>bif fm j y.after.toList&&mz ops (nth 0 bs j) y j 0 ops then Au ops bs (j+1) rest else false
def bB (ops:List Oper):Bool:=Au ops (behind ops) 0 ops
def dE:List Oper->List Item
 | []=>[]
 | o::rest=>⟨o,([],[]),false,[],[],0,false,false,[],[],[]⟩::dE rest
def kH {R:Type} (E:Env) (ops:List Oper) (draw:Bool) (K:ASt->Prg R) (st:ASt):Prg R :=
 bif draw then(bif bB ops then DB E ops (mq (exQ E.T st ops) ops (behind ops) 0 ops) K st else .fail)
 else DB E ops (dE ops) K st
structure Ann where
 keep:List Nat
 own:List Nat
 ownB:List (Nat × Nat)
 kill:List Nat
 frz:List (Nat × Nat)
def gW {α:Type} (d:α) (ks:List Nat):Nat->List α->List α
 | _,[]=>[]
 | n,a::l=>(bif bF n ks then a else d)::gW d ks (n+1) l
def eU (n:Nat):List (Option BC)->Nat
 | []=>n
 | none::_=>n
 | some _::l=>eU (n+1) l
def cE:Nat->List TV->List TV
 | 0,l=>l
 | n+1,l=>.hole::cE n l
def va (xs:List TV) (r idx:Nat):Bool:=r.beq idx&&xs.length.beq (idx+1)
def jK (st:ASt) (i r idx:Nat):Option ASt :=
 match st.look i with
 | some (.tree xs)=>bif va xs r idx then none else match xs[r]? with
  | some x=>((st.aE (CA.drop i r [] false)).ac i (some (.tree (ai xs r .hole)))).bC (eU 0 st.boxes) (.tree (cE idx [x]))
  | none=>none
 | _=>none
def Ac {R:Type} (st:ASt) (s:Nat) (k:ASt->Prg R):Prg R :=
 match nth (.one .junk) st.slots s with
 | .one (.sref i r [])=>(match jK st i r 0 with
  | some st'=>k (st'.put (some s) (.one (.sref (eU 0 st.boxes) 0 [])))
  | none=>k st)
 | .one (.sref _ _ (_::_))=>k st
 | .one (.swin i r [] lo len) => match cj st.look i r with
  | some x=>.tv (lh lo len x) fun y=>(match co (st.aE (CA.drop i r [] false)).look i r y with
   | some b=>k (((st.aE (CA.drop i r [] false)).ac i (some b)).put (some s) (.one (.sref i r [])))
   | none=>.fail)
  | none=>.fail
 | v => match v.tv? with
  | some x=>.chk x.isSl (match st.bC (eU 0 st.boxes) (.tree [x])with
   | some st'=>k (st'.put (some s) (.one (.sref (eU 0 st.boxes) 0 [])))
   | none=>.fail)
  | none=>.fail
def pK {R:Type}:List Nat->ASt->(ASt->Prg R)->Prg R
 | [],st,k=>k st
 | s::l,st,k=>Ac st s fun st=>pK l st k
def m7 (cs:List CA) (c:Nat):Nat:=match cs with | .may _ _::_=>c|_=>0
def uF {R : Type} (st : ASt) (i c : Nat) (k : ASt → Prg R) : Prg R :=
 match st.look i with
 | some (.cells cs) => match nth .junk cs c with
  | .sref i' r [] => (match jK st i' r (m7 cs c) with
   | some st'=>(match st'.look i with
    | some (.cells cs')=>k (st'.ac i (some (.cells (ai cs' c (.sref (eU 0 st.boxes) (m7 cs c) [])))))
    | _=>k st)
   | none=>k st)
  | _=>k st
 | _=>k st
def Ah {R : Type} (st : ASt) (s c : Nat) (k : ASt → Prg R) : Prg R :=
 match nth (.one .junk) st.slots s with
 | .one (.ptr i _) => match st.look i with
  | some (.cells cs) => match nth .junk cs c with
   | .sref _ _ []=>uF st i c k
   | .sref _ _ (_::_)=>k st
   | .swin i' r [] lo len => match cj st.look i' r with
    | some x => .tv (lh lo len x) fun y => (match co (st.aE (CA.drop i' r [] false)).look i' r y with
     | some b=>(match ((st.aE (CA.drop i' r [] false)).ac i' (some b)).look i with
      | some (.cells cs')=>uF (((st.aE (CA.drop i' r [] false)).ac i' (some b)).ac i (some (.cells (ai cs' c (.sref i' r []))))) i c k
      | _=>.fail)
     | none=>.fail)
    | none=>.fail
   | .t x=>.chk x.isSl (match st.bC (eU 0 st.boxes) (.tree (cE (m7 cs c) [x]))with
    | some st'=>k (st'.ac i (some (.cells (ai cs c (.sref (eU 0 st.boxes) (m7 cs c) [])))))
    | none=>.fail)
   | _=>.fail
  | _=>.fail
 | _=>.fail
def An {R : Type} (st : ASt) (i c : Nat) (k : ASt → Prg R) : Prg R :=
 match st.look i with
 | some (.cells cs) => match nth .junk cs c with
  | .sref i' r (q :: p) => match cj st.look i' r with
   | some x => .tv (a8 (q :: p) x) fun y => .tv (iA (q :: p) x .hole) fun x' => (match ae none [.drop i' r (bv (q :: p)) false, .root i' r x'] st with
    | some st1=>(match st1.look i,st1.bC (eU 0 st.boxes) (.tree (cE (m7 cs c) [y]))with
     | some (.cells cs1),some st2=>k (st2.ac i (some (.cells (ai cs1 c (.sref (eU 0 st.boxes) (m7 cs c) [])))))
     | _,_=>.fail)
    | none=>.fail)
   | none=>.fail
  | _=>k st
 | _=>k st
def vU {R:Type} (st:ASt) (s c:Nat) (k:ASt->Prg R):Prg R :=
 match nth (.one .junk) st.slots s with
 | .one (.ptr i _)=>An st i c k
 | _=>k st
def iT {R:Type}:List (Nat × Nat)->ASt->(ASt->Prg R)->Prg R
 | [],st,k=>k st
 | (s,c)::l,st,k=>bif Nat.ble 2000 c then vU st s (c-2000) fun st=>iT l st k else Ah st s c fun st=>iT l st k
def lr:TV->TV
 | .sl o s xs=>.sl o s (sd xs)
 | x=>x
def Cz (st : ASt) (s c : Nat) : ASt :=
 match nth (.one .junk) st.slots s with
 | .one (.ptr i _) => match st.look i with
  | some (.cells cs) => match nth .junk cs (c % 1000) with
   | .sref i' r [] => match st.look i' with
    | some (.tree xs)=>match xs[r]? with
     | some x=>bif Nat.ble 1000 c then st.ac i' (some (.tree (ai xs r (lr x))))else(st.ac i' (some (.tree (ai xs r (frz x))))).ac i (some (.cells (ai cs (c%1000) (.t (frz x)))))
     | none=>st
    | _=>st
   | _=>st
  | _=>st
 | .one (.sref i' r []) => match st.look i' with
  | some (.tree xs)=>match xs[r]? with
   | some x=>bif Nat.ble 1000 c then st else(st.ac i' (some (.tree (ai xs r (frz x))))).put (some s) (.one (.t (frz x)))
   | none=>st
  | _=>st
 | _=>st
def ko:List (Nat × Nat)->ASt->ASt
 | [],st=>st
 | (s,c)::l,st=>ko l (Cz st s c)
def ia (st:ASt):List Nat->ASt
 | []=>st
 | s :: l => match nth (.one .junk) st.slots s with
  | .one (.ptr i _)=>(match st.look i with
   | some (.cells cs)=>ia (st.ac i (some (.cells (mapC (fun _=>.junk) cs)))) l
   | _=>ia st l)
  | _=>ia st l
def visit (look:Look):Nat->List Nat->List Nat->List Nat
 | 0,_,seen=>seen
 | _+1,[],seen=>seen
 | n+1,i::l,seen=>bif bF i seen then visit look n l seen else match look i with
  | some b=>visit look n (l++b.lk) (seen ++ [i])
  | none=>visit look n l seen
def j4 (i:Nat):Nat->List Nat->Option Nat
 | _,[]=>none
 | n,a::l=>bif a.beq i then some n else j4 i (n+1) l
def CA.ren (L:List Nat) (c:CA):CA :=
 match c with
 | .ptr i off=>match j4 i 0 L with|some k=>.ptr k off|none=>.junk
 | .tptr i r p k j=>match j4 i 0 L with|some m=>.tptr m r p k j|none=>.junk
 | .sref i r p=>match j4 i 0 L with|some m=>.sref m r p|none=>.junk
 | .swin i r p lo len=>match j4 i 0 L with|some m=>.swin m r p lo len|none=>.junk
 | .may i ty=>match j4 i 0 L with|some k=>.may k ty|none=>.junk
 | .aptr i off len n=>match j4 i 0 L with|some k=>.aptr k off len n|none=>.junk
 | .ifp ty i=>match j4 i 0 L with|some k=>.ifp ty k|none=>.junk
 | .fn1 f i=>match j4 i 0 L with|some k=>.fn1 f k|none=>.junk
 | .psl i n=>match j4 i 0 L with|some k=>.psl k n|none=>.junk
 | c=>c
def ie:List Nat->Bool
 | []=>true
 | a::l=>!bF a l&&ie l
def oG (look:Look) (f:CA->CA):List Nat->List (Option BC)
 | []=>[]
 | i::l=>(match look i with|some b=>some (b.bS f)|none=>none)::oG look f l
def AV.asTV:AV->AV
 | .one (.t x)=>.tv x
 | .bl b=>.tv (.lit (.bool b))
 | v=>v
def qh:List AV->List AV
 | []=>[]
 | v::l=>v.asTV::qh l
def jd (L:List Nat) (st:ASt):ASt :=
 ⟨qh (cg (CA.ren L) st.slots),oG st.look (CA.ren L) L++List.replicate (st.boxes.length-L.length) none,qh (cg (CA.ren L) st.out)⟩
def g9 (ks:List Nat) (st:ASt):ASt:=⟨gW (.one .junk) ks 0 st.slots,st.boxes,st.out⟩
def g8 (st:ASt):List Nat:=visit st.look 1000 (gf st.slots++gf st.out) []
def yN {R:Type} (st:ASt) (k:ASt->Prg R):Prg R :=
 bif ie (g8 st)&&(g8 st).length.ble dY&&dY.ble st.boxes.length then k (jd (g8 st) st)else .fail
def u5 {R:Type} (an:Ann) (st:ASt) (k:ASt->Prg R):Prg R :=
 pK an.own st fun st=>iT an.ownB st fun st=>yN (g9 an.keep (ia (ko an.frz st) an.kill)) k
inductive AEx where
 | normal|ret|exit (id:Nat)
def first:Code->Option Nat
 | .region id _ _=>some id
 | .seq a b=>match first a with
  | some n=>some n
  | none=>first b
 | .cond _ a b=>match first a with
  | some n=>some n
  | none=>first b
 | .block _ c=>first c
 | .loop c=>first c
 | _=>none
def io (ann:Nat->Option Ann) (c:Code):Option Ann :=
 match first c with
 | some n=>ann n
 | none=>none
def qq {R:Type} (an:Option Ann) (rp:List Nat) (next:ASt->Prg R) (K:AEx->ASt->Prg R):AEx->ASt->Prg R
 | .normal,st=>match an with
  | none=>next st
  | some an=>u5 an st fun st=>.jmp rp st
 | e,st=>K e st
def lJ {R:Type} (id:Nat) (K:AEx->ASt->Prg R):AEx->ASt->Prg R
 | .exit i,st=>bif i.beq id then K .normal st else K (.exit i) st
 | e,st=>K e st
def uQ {R:Type} (an:Option Ann) (rp:List Nat) (st:ASt):Prg R :=
 match an with
 | none=>.fail
 | some an=>u5 an st fun st=>.jmp rp st
def rq {R:Type} (an:Option Ann) (rp:List Nat) (K:AEx->ASt->Prg R):AEx->ASt->Prg R
 | .normal,st=>uQ an rp st
 | e,st=>K e st
structure Opn where
 fns:FuncId->Option Func
 ann:FuncId->Nat->Option Ann
 jn:FuncId->Nat->Option Ann
 kp:FuncId->Nat->Option (List Nat)
 mth:TypeId->String->Option (FuncId × Bool)
def vQ (v:Value):Option (FuncId × List CA):=match v with
 | .func (.func f) ts cs=>bif ts.size.beq 0&&cs.size.beq 0 then some (f,[])else none
 | _=>none
def AV.vD:AV->Option (FuncId × List CA)
 | .clo f cs=>some (f,cs)
 | .one (.fn1 f i)=>some (f,[.ptr i 0])
 | .one (.t (.lit v))=>vQ v
 | .tv (.lit v)=>vQ v
 | _=>none
def vT (st:ASt) (i:Nat):Bool->Option AV
 | false=>some (.one (.ptr i 0))
 | true=>match st.look i with
  | some (.cells [c])=>bif c.kept then some (.one c)else none
  | _=>none
def FG (L:Opn) (st:ASt) (v:AV) (name:String):Option (FuncId × AV) :=
 match v with
 | .one (.ifp t i) => match L.mth t name with
  | some (f,d)=>match vT st i d with
   | some r=>some (f,r)
   | none=>none
  | none=>none
 | _=>none
def ss (L:Opn) (st:ASt) (j:Nat):Op->Option (Nat × FuncId × Func × List AV × List CA)
 | .call ⟨.value (.func f),_,_⟩=>match L.fns f with
  | some fn=>some (j,f,fn,[],[])
  | none=>none
 | .call ⟨.value (.tmp t), _, _⟩ => match (nth (.one .junk) st.slots t).vD with
  | some (f,cs)=>match L.fns f with
   | some fn=>some ((f+1)*1000+j,f,fn,[],cs)
   | none=>none
  | none=>none
 | .call ⟨.invoke (.tmp t) name, _, _⟩ => match FG L st (nth (.one .junk) st.slots t) name with
  | some (f,r)=>match L.fns f with
   | some fn=>some ((f+1)*1000+j,f,fn,[r],[])
   | none=>none
  | none=>none
 | _=>none
def EF (L:Opn):Op->Bool
 | .call ⟨.value (.func f),_,_⟩=>(L.fns f).isSome
 | .call ⟨.value (.tmp _),_,_⟩=>true
 | .call ⟨.invoke _ _,_,_⟩=>true
 | _=>false
def rl (L:Opn):List Oper->Bool
 | []=>false
 | o::l=>bif EF L o.op then true else rl L l
def qo (L:Opn) (y:Nat):Op->Option (FuncId × Func)
 | .call ⟨.value (.func f),_,_⟩=>bif y.blt 1000 then(match L.fns f with
  | some fn=>some (f,fn)
  | none=>none)else none
 | .call ⟨.value (.tmp _), _, _⟩ => match y / 1000 with
  | f+1=>(match L.fns f with
   | some fn=>some (f,fn)
   | none=>none)
  | 0=>none
 | .call ⟨.invoke (.tmp _) _, _, _⟩ => match y / 1000 with
  | f+1=>(match L.fns f with
   | some fn=>some (f,fn)
   | none=>none)
  | 0=>none
 | _=>none
def preQ {R:Type} (an:Option Ann) (k:ASt->Prg R) (st:ASt):Prg R:=match an with
 | some an=>iT an.ownB st k
 | none=>k st
def nA (bs:List Nat) (k:Nat):Nat->List Oper->Bool
 | _,[]=>true
 | i,_::rest=>bif i.blt k then nA bs k (i+1) rest else(Nat.land (nth 0 bs i) (2 ^ k-1)).beq (2 ^ k-1)&&nA bs k (i+1) rest
def oq (ops:List Oper) (k:Nat):Bool:=nA (behind ops) k 0 ops
def dv {R:Type} (E:Env) (reg:Nat->List Nat->List Oper->Bool->(ASt->Prg R)->ASt->Prg R) (rg:List Nat->Operand->Array Tmp->Code->Code->(ASt->Prg R)->ASt->Prg R) (ann jn:Nat->Option Ann):List Nat->Code->(AEx->ASt->Prg R)->ASt->Prg R
 | _,.skip,K,st=>K .normal st
 | rp,.region id ops draw,K,st=>preQ (jn (100000+id)) (reg id rp ops.toList draw (K .normal)) st
 | rp,.seq a b,K,st=>dv E reg rg ann jn (0::rp) a (qq (io jn b) (1::rp) (dv E reg rg ann jn (1::rp) b K) K) st
 | rp, .cond c a b, K, st => match st.ev c with
  | .bl v=>bif v then dv E reg rg ann jn (0::rp) a K st else dv E reg rg ann jn (1::rp) b K st
  | x=>match x.tv? with
   | some v=>.ite (asBool v) (dv E reg rg ann jn (0::rp) a K st) (dv E reg rg ann jn (1::rp) b K st)
   | none=>.fail
 | rp,.block id c,K,st=>dv E reg rg ann jn (0::rp) c (lJ id K) st
 | rp,.loop c,_,st=>uQ (io ann c) (0::rp) st
 | _,.exit id,K,st=>K (.exit id) st
 | _,.ret,K,st=>K .ret st
 | rp,.rangeFunc g ps a c,K,st=>rg rp g ps a c (K .normal) st
 | _,_,_,_=>.fail
def cq (fn:Func):Code:=match fn.body with|some c=>c|none=>.skip
def yj (T : Tab) (st : ASt) : ResultVar → Option AV
 | .tmp t=>some (nth (.one .junk) st.slots t)
 | .cell a ty => match nth (.one .junk) st.slots a, T ty with
  | .one (.ptr i 0), some d => match st.look i with
   | some (.cells cs)=>match lb cs 0 (bif d.kd.isAgg then d.size else 1)with
    | some cs=>dh d.kd.isAgg cs
    | none=>none
   | _=>none
  | _,_=>none
def kf (T:Tab) (st:ASt):List ResultVar->Option (List AV)
 | []=>some []
 | r::l=>match yj T st r,kf T st l with
  | some x,some xs=>some (x::xs)
  | _,_=>none
def tA {R:Type}:List TyD->List AV->(List (Bool × List CA)->Prg R)->Prg R
 | [],[],k=>k []
 | d::ds,v::vs,k=>v.bd d.kd.isAgg d.size fun cs=>tA ds vs fun l=>k ((d.kd.isAgg,cs)::l)
 | _,_,_=>.fail
def wg {R:Type} (ds:List TyD) (vs:List AV) (k:AV->Prg R):Prg R :=
 match vs with
 | [v]=>k v
 | vs=>tA ds vs fun l=>k (.tups l)
def nu (L:List Nat) (m:Nat) (st:ASt):ASt :=
 ⟨cg (CA.ren L) st.slots,oG st.look (CA.ren L) L++List.replicate (st.boxes.length-m-L.length) none,cg (CA.ren L) st.out⟩
def gi {R:Type} (m:Nat) (st:ASt) (k:ASt->Prg R):Prg R :=
 lE (fun st=>fNs (g8 st) fun L=>bif ie L&&L.length.ble dY&&dY.ble st.boxes.length then lE k (nu L m st)else .fail) st
def uM {R : Type} (E : Env) (f : FuncId) (fn : Func) (nt : Nat) (d : Option Tmp) (K : ASt → Prg R) : AEx → ASt → Prg R
 | .exit _,_=>.fail
 | _,st=>match kf E.T st fn.results.toList,oP E.T (E.rts f)with
  | some vs, some ds => bif nt.ble st.out.length then wg ds vs fun v =>
    gi fn.ntmps (ASt.put ⟨st.out.drop (st.out.length-nt),st.boxes,st.out.take (st.out.length-nt)⟩ d v) K else .fail
  | _,_=>.fail
def jC (ntmps:Nat) (vs:List AV) (st:ASt):ASt :=
 ⟨vs++List.replicate (ntmps-vs.length) (.one .undef),st.boxes++List.replicate ntmps none,st.out++st.slots⟩
def j7:Option (List Nat)->ASt->ASt
 | none,st=>st
 | some ks,st=>g9 ks st
def AF (id j:Nat):Nat:=id*1000+j
structure Rng where
 off:Nat
 nt:Nat
 fi:FuncId
 ps:Array Tmp
 assign:Code
 body:Code
 busy:Bool
def aY:List Rng->Nat->List Rng
 | [],_=>[]
 | y::l,0=>{ y with busy:=true }::l
 | y::l,m+1=>y::aY l m
def CA.unY (n:Nat) (c:CA):CA :=
 match c with
 | .yl k=>bif k.blt n then .yl k else .junk
 | c=>c
def AV.ylOf:AV->Option Nat
 | .one (.yl m)=>some m
 | _=>none
def kL (z m j:Nat):Nat:=2*((2*m+z)*1000+j)+3
def jH:List Tmp->List AV->List AV->List AV
 | t::ts,v::vs,l=>jH ts vs (ai l t v)
 | _,_,l=>l
abbrev A3 (R:Type):=Nat->FuncId->List Rng->Nat->List Nat->List Oper->Bool->(ASt->Prg R)->ASt->Prg R
abbrev Bi (R:Type):=Nat->FuncId->List Rng->List Nat->Operand->Array Tmp->Code->Code->(ASt->Prg R)->ASt->Prg R
def tL {R:Type} (E:Env) (L:Opn) (reg:A3 R) (rg:Bi R) (nt:Nat) (fi:FuncId) (ys:List Rng) (id:Nat) (rp:List Nat) (j y:Nat) (o:Oper) (f:FuncId) (fn:Func) (rv:List AV) (cap:List CA) (K:ASt->Prg R) (st:ASt):Prg R :=
 match o.op.operands.toList with
 | _ :: xs => bif (rv.length + xs.length).beq fn.params.size && (rv.length + xs.length + cap.length).ble fn.ntmps && (st.slots.length.beq nt && j.blt 1000) then
   lE (dv E (reg fn.ntmps f ys) (rg fn.ntmps f ys) (L.ann f) (L.jn f) ((2*y+2)::rp) (cq fn) (uM E f fn nt o.dst K)) (jC fn.ntmps (rv++xs.map st.ev++cap.map AV.one) (j7 (L.kp fi (AF id j)) st))else .fail
 | _=>.fail
def ASt.cut (nt:Nat) (st:ASt):ASt:=⟨st.out.drop (st.out.length-nt),st.boxes,st.out.take (st.out.length-nt)⟩
def eZ {R:Type} (y:Rng) (nt:Nat) (d:Option Tmp) (K:ASt->Prg R):AEx->ASt->Prg R
 | .normal,st=>bif nt.ble st.out.length then gi y.nt ((st.cut nt).put d (.bl true)) K else .fail
 | _,_=>.fail
def ph {R:Type} (k:ASt->Prg R):AEx->ASt->Prg R
 | .normal,st=>k st
 | _,_=>.fail
def tM {R : Type} (E : Env) (L : Opn) (reg : A3 R) (rg : Bi R) (nt : Nat) (fi : FuncId) (ys : List Rng) (id : Nat) (rp : List Nat) (j m : Nat) (y : Rng) (o : Oper) (K : ASt → Prg R) (st : ASt) : Prg R :=
 match o.op.operands.toList with
 | _ :: xs => bif xs.length.beq y.ps.size && (st.slots.length.beq nt && (j.blt 1000 && (!y.busy && (y.off + y.nt).ble st.out.length))) then
   lE (dv E (reg y.nt y.fi (aY ys m)) (rg y.nt y.fi (aY ys m)) (L.ann y.fi) (L.jn y.fi) (kL 0 m j::rp) y.assign
    (ph (dv E (reg y.nt y.fi (aY ys m)) (rg y.nt y.fi (aY ys m)) (L.ann y.fi) (L.jn y.fi) (kL 1 m j::rp) y.body (eZ y nt o.dst K))))
    (jC y.nt (jH y.ps.toList (xs.map st.ev) ((st.out.drop y.off).take y.nt)) (j7 (L.kp fi (AF id j)) st))else .fail
 | _=>.fail
def lx (draw:Bool) (ex:List (List Nat)) (all:List Oper) (j:Nat) (o:Oper):Item:=bif draw then af ex all (behind all) j o else⟨o,([],[]),false,[],[],0,false,false,[],[],[]⟩
def kU (T:Tab) (draw:Bool) (st:ASt) (all:List Oper):List (List Nat):=bif draw then exQ T st all else []
def bh (ops:List Oper) (o:Oper) (s:ASt):Option (Option Bool) :=
 match o.guard with
 | none=>some (some true)
 | some (j, want) => match ((ops[j]?).bind (·.dst)) with
  | none=>none
  | some g=>match nth (.one .junk) s.slots g with
   | .one .undef=>some none
   | .bl b=>some (some (b==want))
   | _=>none
def ik (ops:List Oper) (o:Oper) (s:ASt):Bool:=match bh ops o s with
 | some (some true)=>true
 | _=>false
def te (ys:List Rng) (st:ASt):Op->Option (Nat × Rng)
 | .call ⟨.value (.tmp t), _, _⟩ => match (nth (.one .junk) st.slots t).ylOf with
  | some m=>match ys[m]? with
   | some y=>some (m,y)
   | none=>none
  | none=>none
 | _=>none
noncomputable def eqV:Value->Value->Bool
 | .int .i64 a,.int .i64 b=>bif Int.beq' a b then true else false
 | .int .u16 a,.int .u16 b=>bif Int.beq' a b then true else false
 | .int .u8 a,.int .u8 b=>bif Int.beq' a b then true else false
 | .bool a,.bool b=>a==b
 | .slice none 0 0,.slice none 0 0=>true
 | _,_=>false
mutual
noncomputable def eqT:TV->TV->Bool
 | .lit v,.lit u=>eqV v u
 | .sl o s xs,.sl o' s' xs'=>o==o'&&(s.beq s'&&Ar xs xs')
 | .agg cs,.agg cs'=>C4 cs cs'
 | .hole,.hole=>true
 | _,_=>false
noncomputable def C4:List TV->List TV->Bool
 | [],[]=>true
 | x::l,y::r=>eqT x y&&C4 l r
 | _,_=>false
noncomputable def Ar:List (List TV)->List (List TV)->Bool
 | [],[]=>true
 | x::l,y::r=>C4 x y&&Ar l r
 | _,_=>false
end
open Classical in
noncomputable def t9 (x y:TV):Bool:=eqT x y||decide (x=y)
def EK:List (Nat × Nat)->List (Nat × Nat)->Bool
 | [],[]=>true
 | a::p,b::q=>a.1.beq b.1&&(a.2.beq b.2&&EK p q)
 | _,_=>false
noncomputable def Es:CA->CA->Bool
 | .ptr i a,.ptr j b=>i.beq j&&a.beq b
 | .sref i r p,.sref j k q=>i.beq j&&(r.beq k&&EK p q)
 | .t x,.t y=>t9 x y
 | _,_=>false
noncomputable def EO:List CA->List CA->Bool
 | [],[]=>true
 | a::l,b::r=>Es a b&&EO l r
 | _,_=>false
noncomputable def eqAV:AV->AV->Bool
 | .one a,.one b=>Es a b
 | .agg l,.agg r=>EO l r
 | .tv x,.tv y=>t9 x y
 | _,_=>false
def qP (U:List Nat) (m:Nat):Nat->Bool
 | 0=>true
 | k+1=>(bF k U||m.testBit k)&&qP U m k
def lI (bs U:List Nat) (k:Nat):Nat->List Oper->Bool
 | _,[]=>true
 | i,_::rest=>bif i.blt k then lI bs U k (i+1) rest else qP U (nth 0 bs i) k&&lI bs U k (i+1) rest
def tf (ops:List Oper) (U:List Nat) (k:Nat):Bool:=lI (behind ops) U k 0 ops
def nH (bs U:List Nat) (k:Nat):Nat->List Oper->Bool
 | _,[]=>true
 | i,_::rest=>bif i.blt k then(bF i U||U.all fun u=>!((nth 0 bs i).testBit u))&&nH bs U k (i+1) rest else true
def lv (o:Oper):Bool:=o.guard.isNone&&(match o.op with
 | .load _ _=>true
 | .fieldAddr _ _ _=>true
 | .move _=>true
 | _=>false)
def yW (all:List Oper) (j:Nat) (U:List Nat) (c:Oper):Bool :=
 (tf all U j && tf all U (j + 1)) && (nH (behind all) U (j + 1) 0 all && (c.guard.isNone && U.all fun u => match all[u]? with
  | some o=>lv o&&(match o.dst with
   | some d=>dV (some d) (dZ c.op.operands.toList)&&unlike (some d) c.dst
   | none=>false)
  | none=>false))
def waited (bs:List Nat) (q k:Nat):Nat->List Oper->Bool
 | _,[]=>true
 | i,_::rest=>bif i.blt k then waited bs q k (i+1) rest else(nth 0 bs i).testBit q&&waited bs q k (i+1) rest
def ju (all:List Oper) (j:Nat):Option (List Nat):=match all[j]? with
 | some c=>fNs ((List.range j).filter fun q=>!(waited (behind all) q j 0 all)) fun U=>bif yW all j U c then some U else none
 | none=>none
def dW (draw:Bool) (all:List Oper) (j:Nat):Bool:=!draw||(oq all j&&oq all (j+1))
def swapL (n a b:Nat):List Nat:=(List.range n).map fun k=>bif k.beq a then b else bif k.beq b then a else k
def Fy (d:Option Nat) (st:ASt):List Nat :=
 match d with
 | some d=>(match nth (.one .junk) st.slots d with
  | .one (.sref i 0 [])=>swapL st.boxes.length i (st.nid (some d))
  | _=>List.range st.boxes.length)
 | none=>List.range st.boxes.length
def CK {R:Type} (d:Option Nat) (k:ASt->Prg R) (st:ASt):Prg R:=fNs (Fy d st) fun L=>bif ie L then lE k (nu L 0 st)else .fail
def tT:List Nat->List (List Nat)
 | []=>[[]]
 | u::U=>tT U++(tT U).map (u :: ·)
def d0 (all:List Oper) (S:List Nat):List (Option Tmp):=S.map fun u=>(all[u]?).bind (·.dst)
def gC (ds:List (Option Tmp)) (st:ASt):ASt:=ds.foldr (fun d s=>s.put d (.one .junk)) st
noncomputable def qT {R:Type} (E:Env) (all:List Oper) (ex:List (List Nat)):List Nat->(ASt->Prg R)->ASt->Prg R
 | [],k,st=>k st
 | u::S,k,st=>match all[u]? with
  | some o=>opQ E all (lx true ex all u o) (qT E all ex S k) st
  | none=>.fail
noncomputable def wy (ds:List (Option Tmp)) (st st':ASt):Bool:=ds.all fun d=>match d with
 | some d=>eqAV (nth (.one .junk) st'.slots d) (nth (.one .junk) st.slots d)
 | none=>false
noncomputable def rm {R:Type} (E:Env) (all:List Oper) (ex:List (List Nat)) (st:ASt) (k:Prg R):List (List Nat)->Prg R
 | []=>k
 | []::L=>rm E all ex st k L
 | (u::S)::L=>qT E all ex (u::S) (fun st'=>.chk (wy (d0 all (u::S)) st st') (rm E all ex st k L)) (gC (d0 all (u::S)) st)
noncomputable def mL {R:Type} (E:Env) (draw:Bool) (all:List Oper) (j:Nat) (k:ASt->Prg R) (st:ASt):Prg R :=
 bif dW draw all j then k st else match ju all j,all[j]? with
 | some U,some c=>CK c.dst (fun st=>rm E all (kU E.T draw st all) st (k st) (tT U)) st
 | _,_=>.fail
noncomputable def eV {R:Type} (E:Env) (L:Opn) (reg:A3 R) (rg:Bi R) (nt:Nat) (fi:FuncId) (ys:List Rng) (id:Nat) (rp:List Nat) (draw:Bool) (all:List Oper) (K:ASt->Prg R):Nat->List Oper->List (List Nat)->ASt->Prg R
 | _,[],_,st=>K st
 | j, o :: rest, ex, st => match ss L st j o.op with
  | some (y, f, fn, rv, cap) => bif ik all o st then (bif dW draw all j || (ju all j).isSome then
    tL E L reg rg nt fi ys id rp j y o f fn rv cap (mL E draw all j fun st'=>eV E L reg rg nt fi ys id rp draw all K (j+1) rest (kU E.T draw st' all) st') st else .fail)
   else opQ E all (lx draw ex all j o) (iw (eV E L reg rg nt fi ys id rp draw all K (j+1) rest ex)) st
  | none => match te ys st o.op with
   | some (m, y) => bif ik all o st then (bif !draw || (oq all j && oq all (j + 1)) then
     tM E L reg rg nt fi ys id rp j m y o (fun st'=>eV E L reg rg nt fi ys id rp draw all K (j+1) rest (kU E.T draw st' all) st') st else .fail)
    else opQ E all (lx draw ex all j o) (iw (eV E L reg rg nt fi ys id rp draw all K (j+1) rest ex)) st
   | none=>opQ E all (lx draw ex all j o) (iw (eV E L reg rg nt fi ys id rp draw all K (j+1) rest ex)) st
def yh {R:Type} (fn:Func) (n nt:Nat) (K:ASt->Prg R):AEx->ASt->Prg R
 | .exit _,_=>.fail
 | _,st=>bif fn.results.size.beq 0&&nt.ble st.out.length then gi fn.ntmps ((st.aE (CA.unY n)).cut nt) K else .fail
mutual
noncomputable def dJ {R:Type} (E:Env) (L:Opn):Nat->A3 R
 | 0,_,_,_,_,_,ops,draw,K,st=>kH E ops draw K st
 | n+1,nt,fi,ys,id,rp,ops,draw,K,st=>bif rl L ops then(bif !draw||bB ops then eV E L (dJ E L n) (dA E L n) nt fi ys id rp draw ops K 0 ops (kU E.T draw st ops) st else .fail)else kH E ops draw K st
noncomputable def dA {R:Type} (E:Env) (L:Opn):Nat->Bi R
 | 0,_,_,_,_,_,_,_,_,_,_=>.fail
 | n + 1, nt, fi, ys, rp, g, ps, assign, body, K, st => zG (fun st => match (st.ev g).vD with
  | some (f,cs)=>(match L.fns f with
   | some fn => bif Nat.beq fn.params.size 1 && ((cs.length + 1).ble fn.ntmps && st.slots.length.beq nt) then
     lE (dv E (dJ E L n fn.ntmps f (ys ++ [⟨st.out.length,nt,fi,ps,assign,body,false⟩])) (dA E L n fn.ntmps f (ys ++ [⟨st.out.length,nt,fi,ps,assign,body,false⟩])) (L.ann f) (L.jn f) (f::rp) (cq fn) (yh fn ys.length nt K))
      (jC fn.ntmps (.one (.yl ys.length)::cs.map AV.one) st)else .fail
   | none=>.fail)
  | none=>.fail) (st.aE (CA.unY ys.length))
end
noncomputable def goQ {R:Type} (E:Env) (L:Opn):List Nat->Nat->Nat->Nat->FuncId->List Rng->List Nat->Code->(AEx->ASt->Prg R)->ASt->Prg R
 | [],n,_,nt,fi,ys,rp,c,K=>dv E (dJ E L n nt fi ys) (dA E L n nt fi ys) (L.ann fi) (L.jn fi) rp c K
 | x :: p, n, no, nt, fi, ys, rp, c, K => match c with
  | .seq a b=>match x with
   | 0=>goQ E L p n no nt fi ys (0::rp) a (qq (io (L.jn fi) b) (1::rp) (dv E (dJ E L n nt fi ys) (dA E L n nt fi ys) (L.ann fi) (L.jn fi) (1::rp) b K) K)
   | _=>goQ E L p n no nt fi ys (1::rp) b K
  | .cond _ a b=>match x with
   | 0=>goQ E L p n no nt fi ys (0::rp) a K
   | _=>goQ E L p n no nt fi ys (1::rp) b K
  | .block id c=>goQ E L p n no nt fi ys (0::rp) c (lJ id K)
  | .loop c=>goQ E L p n no nt fi ys (0::rp) c (rq (io (L.ann fi) c) (0::rp) K)
  | .rangeFunc _ ps assign body => match n with
   | n+1=>(match L.fns x with
    | some fn=>goQ E L p n (no+nt) fn.ntmps x (ys ++ [⟨no,nt,fi,ps,assign,body,false⟩]) (x::rp) (cq fn) (yh fn ys.length nt (K .normal))
    | none=>fun _=>.fail)
   | 0=>fun _=>.fail
  | .region id ops draw => match n with
   | n + 1 => bif (x % 2).beq 0 then (match ops.toList[(x / 2 - 1) % 1000]? with
    | some o=>(match qo L (x / 2-1) o.op with
     | some (f, fn) => bif !draw || bB ops.toList then goQ E L p n (no + nt) fn.ntmps f ys (x :: rp) (cq fn)
       (uM E f fn nt o.dst (mL E draw ops.toList ((x / 2-1)%1000) fun st'=>eV E L (dJ E L n) (dA E L n) nt fi ys id rp draw ops.toList (K .normal) ((x / 2-1)%1000+1) (ops.toList.drop ((x / 2-1)%1000+1)) (kU E.T draw st' ops.toList) st'))else fun _=>.fail
     | none=>fun _=>.fail)
    | none=>fun _=>.fail)
    else(match ops.toList[((x-3) / 2)%1000]? with
    | some o=>(match ys[(x-3) / 2 / 1000 / 2]? with
     | some r => bif !draw || bB ops.toList then (bif ((x - 3) / 2 / 1000 % 2).beq 0 then
       goQ E L p n (no+nt) r.nt r.fi (aY ys ((x-3) / 2 / 1000 / 2)) (x::rp) r.assign
        (ph (dv E (dJ E L n r.nt r.fi (aY ys ((x - 3) / 2 / 1000 / 2))) (dA E L n r.nt r.fi (aY ys ((x - 3) / 2 / 1000 / 2))) (L.ann r.fi) (L.jn r.fi) (kL 1 ((x - 3) / 2 / 1000 / 2) (((x - 3) / 2) % 1000) :: rp) r.body
         (eZ r nt o.dst (fun st'=>eV E L (dJ E L n) (dA E L n) nt fi ys id rp draw ops.toList (K .normal) (((x-3) / 2)%1000+1) (ops.toList.drop (((x-3) / 2)%1000+1)) (kU E.T draw st' ops.toList) st'))))
       else goQ E L p n (no+nt) r.nt r.fi (aY ys ((x-3) / 2 / 1000 / 2)) (x::rp) r.body
        (eZ r nt o.dst (fun st'=>eV E L (dJ E L n) (dA E L n) nt fi ys id rp draw ops.toList (K .normal) (((x-3) / 2)%1000+1) (ops.toList.drop (((x-3) / 2)%1000+1)) (kU E.T draw st' ops.toList) st')))else fun _=>.fail
     | none=>fun _=>.fail)
    | none=>fun _=>.fail)
   | 0=>fun _=>.fail
  | _=>fun _=>.fail
theorem AN {R:Type} (E:Env) (L:Opn) (n no nt:Nat) (fi:FuncId) (ys:List Rng) (rp:List Nat) (K:AEx->ASt->Prg R) (c:Code):goQ E L [] n no nt fi ys rp c K=dv E (dJ E L n nt fi ys) (dA E L n nt fi ys) (L.ann fi) (L.jn fi) rp c K:=rfl
theorem DU {R:Type} (E:Env) (L:Opn) (p:List Nat) (n no nt:Nat) (fi:FuncId) (ys:List Rng) (rp:List Nat) (K:AEx->ASt->Prg R) (a b:Code):goQ E L (0::p) n no nt fi ys rp (.seq a b) K=goQ E L p n no nt fi ys (0::rp) a (qq (io (L.jn fi) b) (1::rp) (dv E (dJ E L n nt fi ys) (dA E L n nt fi ys) (L.ann fi) (L.jn fi) (1::rp) b K) K):=rfl
theorem D4 {R:Type} (E:Env) (L:Opn) (p:List Nat) (n no nt:Nat) (fi:FuncId) (ys:List Rng) (rp:List Nat) (K:AEx->ASt->Prg R) (a b:Code):goQ E L (1::p) n no nt fi ys rp (.seq a b) K=goQ E L p n no nt fi ys (1::rp) b K:=rfl
theorem A6 {R:Type} (E:Env) (L:Opn) (p:List Nat) (n no nt:Nat) (fi:FuncId) (ys:List Rng) (rp:List Nat) (K:AEx->ASt->Prg R) (c:Operand) (a b:Code):goQ E L (0::p) n no nt fi ys rp (.cond c a b) K=goQ E L p n no nt fi ys (0::rp) a K:=rfl
theorem A4 {R:Type} (E:Env) (L:Opn) (p:List Nat) (n no nt:Nat) (fi:FuncId) (ys:List Rng) (rp:List Nat) (K:AEx->ASt->Prg R) (c:Operand) (a b:Code):goQ E L (1::p) n no nt fi ys rp (.cond c a b) K=goQ E L p n no nt fi ys (1::rp) b K:=rfl
theorem Bh {R:Type} (E:Env) (L:Opn) (p:List Nat) (n no nt:Nat) (fi:FuncId) (ys:List Rng) (rp:List Nat) (K:AEx->ASt->Prg R) (id:Nat) (c:Code) (x:Nat):goQ E L (x::p) n no nt fi ys rp (.block id c) K=goQ E L p n no nt fi ys (0::rp) c (lJ id K):=rfl
theorem Cr {R:Type} (E:Env) (L:Opn) (p:List Nat) (n no nt:Nat) (fi:FuncId) (ys:List Rng) (rp:List Nat) (K:AEx->ASt->Prg R) (c:Code) (x:Nat):goQ E L (x::p) n no nt fi ys rp (.loop c) K=goQ E L p n no nt fi ys (0::rp) c (rq (io (L.ann fi) c) (0::rp) K):=rfl
theorem Cm {R:Type} (E:Env) (L:Opn) (p:List Nat) (no nt:Nat) (fi:FuncId) (ys:List Rng) (rp:List Nat) (K:AEx->ASt->Prg R) (g:Operand) (ps:Array Tmp) (assign body:Code) (x:Nat):goQ E L (x::p) 0 no nt fi ys rp (.rangeFunc g ps assign body) K=fun _=>.fail:=rfl
theorem Ag {R:Type} (E:Env) (L:Opn) (p:List Nat) (n no nt:Nat) (fi:FuncId) (ys:List Rng) (rp:List Nat) (K:AEx->ASt->Prg R) (g:Operand) (ps:Array Tmp) (assign body:Code) (x:Nat):goQ E L (x::p) (n+1) no nt fi ys rp (.rangeFunc g ps assign body) K=match L.fns x with
 | some fn=>goQ E L p n (no+nt) fn.ntmps x (ys ++ [⟨no,nt,fi,ps,assign,body,false⟩]) (x::rp) (cq fn) (yh fn ys.length nt (K .normal))
 | none=>fun _=>.fail:=rfl
theorem rD {R:Type} (E:Env) (L:Opn) (p:List Nat) (no nt:Nat) (fi:FuncId) (ys:List Rng) (rp:List Nat) (K:AEx->ASt->Prg R) (id:Nat) (ops:Array Oper) (draw:Bool) (x:Nat):goQ E L (x::p) 0 no nt fi ys rp (.region id ops draw) K=fun _=>.fail:=rfl
theorem qS {R : Type} (E : Env) (L : Opn) (p : List Nat) (n no nt : Nat) (fi : FuncId) (ys : List Rng) (rp : List Nat) (K : AEx → ASt → Prg R) (id : Nat) (ops : Array Oper) (draw : Bool) (x : Nat) : goQ E L (x :: p) (n + 1) no nt fi ys rp (.region id ops draw) K = bif (x % 2).beq 0 then (match ops.toList[(x / 2 - 1) % 1000]? with
    | some o=>(match qo L (x / 2-1) o.op with
     | some (f, fn) => bif !draw || bB ops.toList then goQ E L p n (no + nt) fn.ntmps f ys (x :: rp) (cq fn)
       (uM E f fn nt o.dst (mL E draw ops.toList ((x / 2-1)%1000) fun st'=>eV E L (dJ E L n) (dA E L n) nt fi ys id rp draw ops.toList (K .normal) ((x / 2-1)%1000+1) (ops.toList.drop ((x / 2-1)%1000+1)) (kU E.T draw st' ops.toList) st'))else fun _=>.fail
     | none=>fun _=>.fail)
    | none=>fun _=>.fail)
    else(match ops.toList[((x-3) / 2)%1000]? with
    | some o=>(match ys[(x-3) / 2 / 1000 / 2]? with
     | some r => bif !draw || bB ops.toList then (bif ((x - 3) / 2 / 1000 % 2).beq 0 then
       goQ E L p n (no+nt) r.nt r.fi (aY ys ((x-3) / 2 / 1000 / 2)) (x::rp) r.assign
        (ph (dv E (dJ E L n r.nt r.fi (aY ys ((x - 3) / 2 / 1000 / 2))) (dA E L n r.nt r.fi (aY ys ((x - 3) / 2 / 1000 / 2))) (L.ann r.fi) (L.jn r.fi) (kL 1 ((x - 3) / 2 / 1000 / 2) (((x - 3) / 2) % 1000) :: rp) r.body
         (eZ r nt o.dst (fun st'=>eV E L (dJ E L n) (dA E L n) nt fi ys id rp draw ops.toList (K .normal) (((x-3) / 2)%1000+1) (ops.toList.drop (((x-3) / 2)%1000+1)) (kU E.T draw st' ops.toList) st'))))
       else goQ E L p n (no+nt) r.nt r.fi (aY ys ((x-3) / 2 / 1000 / 2)) (x::rp) r.body
        (eZ r nt o.dst (fun st'=>eV E L (dJ E L n) (dA E L n) nt fi ys id rp draw ops.toList (K .normal) (((x-3) / 2)%1000+1) (ops.toList.drop (((x-3) / 2)%1000+1)) (kU E.T draw st' ops.toList) st')))else fun _=>.fail
     | none=>fun _=>.fail)
    | none=>fun _=>.fail):=rfl
def fq:List CA->List (Nat × Nat)
 | []=>[]
 | .sref i r _::l=>(i,r)::fq l
 | .swin i r _ _ _::l=>(i,r)::fq l
 | _::l=>fq l
def cN (i r:Nat):List (Nat × Nat)->Nat
 | []=>0
 | (a,b)::l=>bif a.beq i&&b.beq r then cN i r l+1 else cN i r l
def qf (rs:List (Nat × Nat)) (i r:Nat):Bool:=(cN i r rs).ble 1
def sY (look:Look) (rs:List (Nat × Nat)) (c:CA) (k:TV->Prg TV):Prg TV :=
 match c with
 | .t x=>k x
 | .sref i r p=>iZ look (.sref i r p) fun x=>k (bif qf rs i r then x else frz x)
 | .swin i r p lo len=>iZ look (.swin i r p lo len) fun x=>k (bif qf rs i r then x else frz x)
 | _=>.fail
def AG (look:Look) (rs:List (Nat × Nat)):List CA->(List TV->Prg TV)->Prg TV
 | [],k=>k []
 | c::l,k=>sY look rs c fun x=>AG look rs l fun xs=>k (x::xs)
def AZ (look:Look) (rs:List (Nat × Nat)) (v:AV) (k:TV->Prg TV):Prg TV :=
 match v with
 | .one c=>sY look rs c k
 | .tv x=>k x
 | .agg cs=>AG look rs cs fun xs=>k (.agg xs)
 | .tups _=>.fail
 | .clo _ _=>.fail
 | .bl b=>k (.lit (.bool b))
def gives (look:Look) (rs:List (Nat × Nat)):List AV->(List TV->Prg TV)->Prg TV
 | [],k=>k []
 | v::l,k=>AZ look rs v fun x=>gives look rs l fun xs=>k (x::xs)
def AV.FL:AV->List (Nat × Nat)
 | .one c=>fq [c]
 | .agg cs=>fq cs
 | _=>[]
def ec:List AV->List (Nat × Nat)
 | []=>[]
 | v::l=>v.FL++ec l
def D5 (T:Tab) (pure:Bool) (rs:List ResultVar) (st:ASt):Prg TV :=
 match kf T st rs with
 | some vs=>gives st.look (ec vs) vs fun xs=>(match xs with
  | [x]=>bif pure then .chk (isOwn x) (.ret x)else .ret x
  | xs=>bif pure then .chk (bE xs) (.ret (.tup xs))else .ret (.tup xs))
 | none=>.fail
def E4 (T:Tab) (ld:Option jq) (pk pure:Bool) (rs:List ResultVar) (st:ASt):Prg TV :=
 bif pk then .fail else match ld with
 | none=>D5 T pure rs st
 | some ld=>.fail
def kD (ntmps:Nat) (cs args:List TV):ASt :=
 ⟨args.map (fun x=>.tv x)++(.one (.ref cs 0)::List.replicate (ntmps-(args.length+1)) (.one .undef)),List.replicate (dY+ntmps) none,[]⟩
def jt (ntmps:Nat) (args:List TV):ASt :=
 ⟨args.map (fun x=>.tv x)++List.replicate (ntmps-args.length) (.one .undef),List.replicate (dY+ntmps) none,[]⟩
def Ew (T:Tab) (ld:Option jq) (pk pure:Bool) (rs:List ResultVar):AEx->ASt->Prg TV
 | .normal,st=>E4 T ld pk pure rs st
 | .ret,st=>E4 T ld pk pure rs st
 | _,_=>.fail
structure AProg where
 T:Tab
 pure:FuncId->Bool
 rts:FuncId->List TypeId
 fns:FuncId->Option Func
 ann:FuncId->Nat->Option Ann
 jn:FuncId->Nat->Option Ann
 lent:FuncId->Option jq
 selfT:TypeId->Bool
 ext:FuncId->Option (List TV->Option TV)
 opn:FuncId->Bool
 kp:FuncId->Nat->Option (List Nat)
 peek:FuncId->Option (Nat × Nat)
 turn:FuncId->Bool
 mth:TypeId->String->Option (FuncId × Bool)
 eye:FuncId->Bool
 cold:TypeId->Bool
def AProg.env (A:AProg):Env:=⟨A.T,A.pure,A.rts,A.lent,A.selfT,A.peek,A.turn,A.eye,A.cold⟩
def AProg.opens (A:AProg):Opn:=⟨fun f=>bif A.opn f then A.fns f else none,A.ann,A.jn,A.kp,A.mth⟩
def uc:Nat:=8
def wv (A:AProg) (f:FuncId):Nat:=match A.peek f with|some _=>0|none=>bif (A.lent f).isSome then 1 else 0
noncomputable def jz (A:AProg) (f:FuncId) (rp:List Nat) (st:ASt):Prg TV :=
 match A.fns f with
 | some fn=>goQ A.env A.opens rp.reverse uc (wv A f) fn.ntmps f [] [] (cq fn) (Ew A.T (A.lent f) (A.peek f).isSome (A.pure f) fn.results.toList) st
 | none=>.fail
def sV:List TV->Option (List TV × TV)
 | []=>none
 | [x]=>some ([],x)
 | x::y::l=>match sV (y::l)with
  | some (asz,z)=>some (x::asz,z)
  | none=>none
noncomputable def ap (A:AProg) (f:FuncId) (args:List TV):Prg TV :=
 bif A.turn f||(A.eye f&&((A.peek f).isSome||(A.lent f).isSome))then .fail else match A.peek f with
 | some c=>.fail
 | none=>match A.fns f with
 | some fn => match A.lent f with
  | none=>bif A.eye f then(match sV args with
   | some (asz,.agg cs)=>bif asz.length.beq fn.params.size&&(asz.length+1).ble fn.ntmps then jz A f [] (kD fn.ntmps cs asz)else .fail
   | _=>.fail)else bif args.length.beq fn.params.size&&args.length.ble fn.ntmps then jz A f [] (jt fn.ntmps args)else .fail
  | some ld=>.fail
 | none=>.fail
noncomputable def jG (A:AProg) (C:FuncId->List TV->Option TV) (f:FuncId):Nat->List Nat->ASt->Option TV
 | 0,_,_=>none
 | n+1,p,st=>(jz A f p st).run C (jG A C f n)
noncomputable def acall (A:AProg):Nat->FuncId->List TV->Option TV
 | 0,_,_=>none
 | n+1,f,args=>match A.ext f with
  | some g=>g args
  | none=>(ap A f args).run (acall A n) (jG A (acall A n) f n)
end Go.Ab

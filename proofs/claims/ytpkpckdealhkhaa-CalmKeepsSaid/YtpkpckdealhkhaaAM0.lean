import Derived.Calls
import Derived.Laws.Sem
import Derived.KernelRfl
set_option linter.all false
namespace Go.Ab
theorem Gg {α : Type} {i : Nat} {a : α} {l : List α} : l[i]? = some a ↔ ∃ h : i < l.length, l[i] = a := List.getElem?_eq_some_iff
theorem Gi {α : Type} {l : List α} {i : Nat} (h : i < l.length) : l[i]? = some l[i] := List.getElem?_eq_getElem h
theorem Gj {α : Type} (a b : α) : (some a = some b) = (a = b) := Option.some.injEq a b
theorem Gk (a b : Bool) : ((a && b) = true) = (a = true ∧ b = true) := Bool.and_eq_true a b
theorem Gl {α : Type} {xs : Array α} {i : Nat} : xs.toList[i]? = xs[i]? := Array.getElem?_toList
theorem Gm {α : Type} {i : Nat} {b : α} {xs : Array α} : xs[i]? = some b ↔ ∃ h : i < xs.size, xs[i] = b := Array.getElem?_eq_some_iff
theorem Gn {α : Type} {β : Type} {f : α → β} {l : List α} {i : Nat} : (List.map f l)[i]? = Option.map f l[i]? := List.getElem?_map
theorem Gp {α : Type} {a : α} {l : List α} : a ∈ a :: l := List.mem_cons_self
theorem Gq {α : Type} (y : α) {a : α} {l : List α} : a ∈ l → a ∈ y :: l := List.mem_cons_of_mem y
theorem Gr {α : Type} {l : List α} {i : Nat} {a : α} : l[i]? = some a → a ∈ l := List.mem_of_getElem?
theorem Gs {α : Type} {l m : List α} {i : Nat} : i < l.length → (l ++ m)[i]? = l[i]? := List.getElem?_append_left
theorem Gt {α : Type} {l m : List α} {i : Nat} : l.length ≤ i → (l ++ m)[i]? = m[i - l.length]? := List.getElem?_append_right
theorem Gu {α : Type} {l : List α} {i : Nat} : l.length ≤ i → l[i]? = none := List.getElem?_eq_none
theorem Gv {α : Type} {β : Type} (a : α) (f : α → β) : Option.map f (some a) = some (f a) := Option.map_some a f
theorem Gw {α : Type} {l : List α} {i : Nat} {a : α} : l.getD i a = l[i]?.getD a := List.getD_eq_getElem?_getD
theorem Gx {α : Type} {xs : Array α} {i : Nat} {d : α} : xs.getD i d = xs[i]?.getD d := Array.getD_eq_getD_getElem?
inductive TV where
 | lit (v:Value)
 | sl (own:Bool) (size:Nat) (xs:List (List TV))
 | agg (cs:List TV)
 | tup (vs:List TV)
 | buf (s:ByteArray) (e:Nat)
 | hole
abbrev Way:=List (Nat × Nat)
inductive CA where
 | t (x:TV)
 | ptr (i off:Nat)
 | ref (x:List TV) (off:Nat)
 | tptr (i r:Nat) (p:Way) (k j:Nat)
 | sref (i r:Nat) (p:Way)
 | swin (i r:Nat) (p:Way) (lo len:Nat)
 | may (i:Nat) (ty:TypeId)
 | aptr (i off len n:Nat)
 | psl (i len:Nat)
 | yl (n:Nat)
 | ifp (t:TypeId) (i:Nat)
 | fn1 (f:FuncId) (i:Nat)
 | undef
 | junk
inductive AV where
 | one (c:CA)
 | agg (cs:List CA)
 | tv (x:TV)
 | tups (cs:List (Bool × List CA))
 | bl (b:Bool)
 | clo (f:FuncId) (cs:List CA)
inductive BC where
 | cells (cs:List CA)
 | tree (xs:List TV)
structure ASt where
 slots:List AV
 boxes:List (Option BC)
 out:List AV
inductive Kd where
 | bool|int (k:IntKind)|str|slice (e:TypeId)|struct|arr (n:Nat) (e:TypeId)|other|ptr
structure TyD where
 size:Nat
 bytes:Nat
 kd:Kd
 zero:List Value
 fields:List (Nat × TypeId)
def Kd.isAgg:Kd->Bool
 | .struct=>true
 | .arr _ _=>true
 | _=>false
abbrev Tab:=TypeId->Option TyD
def nth {α:Type} (d:α):List α->Nat->α
 | [],_=>d
 | a::_,0=>a
 | _::l,n+1=>nth d l n
def ak {α:Type}:List α->Nat->α->List α
 | [],_,_=>[]
 | _::l,0,b=>b::l
 | a::l,n+1,b=>a::ak l n b
def bT (n:Nat):List Nat->Bool
 | []=>false
 | a::l=>bif a.beq n then true else bT n l
def tr:List (Nat × TyD)->Tab
 | [],_=>none
 | (k,d)::r,t=>bif k.beq t then some d else tr r t
def bH {α:Type} (l:List α) (off:Nat):List α->List α
 | []=>l
 | a::r=>bH (ak l off a) (off+1) r
def lg {α:Type}:List α->Nat->Nat->Option (List α)
 | _,_,0=>some []
 | [],_,_+1=>none
 | a::l,0,n+1=>match lg l 0 n with
  | some r=>some (a::r)
  | none=>none
 | _::l,o+1,n+1=>lg l o (n+1)
def a9:Value:=.slice none 0 0
def TV.cell (x:TV) (j:Nat):TV:=match x with | .agg cs=>nth .hole cs j|_=>.hole
def TV.comp (x:TV) (j:Nat):TV:=match x with | .tup cs=>nth .hole cs j|_=>.hole
def TV.isAgg (x:TV) (n:Nat):Bool:=match x with | .agg cs=>cs.length.beq n|_=>false
def TV.isTup (x:TV) (n:Nat):Bool:=match x with | .tup cs=>cs.length.beq n|_=>false
def aD:Value->Bool
 | .slice none 0 0=>true
 | _=>false
def scV:Value->Bool
 | .slice _ _ _=>false
 | .agg _=>false
 | .tuple _=>false
 | _=>true
def TV.isSc (x:TV):Bool:=match x with | .lit v=>scV v|_=>false
def TV.isSl (x:TV):Bool:=match x with | .lit v=>aD v | .sl _ _ _=>true|_=>false
def TV.gx (x:TV):Bool:=match x with | .lit _=>true | .sl o _ _=>!o|_=>false
def TV.eL (x:TV):Bool:=match x with | .lit v=>v.oneCell' | .sl _ _ _=>true|_=>false
def TV.lf (x:TV):TV:=match x with | .lit v=>.lit v|_=>.hole
def lfL:List TV->List TV
 | []=>[]
 | x::l=>x.lf::lfL l
def qV:List (List TV)->List (List TV)
 | []=>[]
 | x::l=>lfL x::qV l
mutual
def frz:TV->TV
 | .lit v=>.lit v
 | .sl _ s xs=>.sl false s (th xs)
 | .agg cs=>.agg (m9 cs)
 | .tup cs=>.tup (m9 cs)
 | .buf _ _=>.hole
 | .hole=>.hole
def m9:List TV->List TV
 | []=>[]
 | x::l=>frz x::m9 l
def th:List (List TV)->List (List TV)
 | []=>[]
 | x::l=>m9 x::th l
end
mutual
def isOwn:TV->Bool
 | .lit _=>true
 | .sl o _ xs=>o&&mj xs
 | .agg cs=>bF cs
 | .tup cs=>bF cs
 | .buf _ _=>true
 | .hole=>true
def bF:List TV->Bool
 | []=>true
 | x::l=>isOwn x&&bF l
def mj:List (List TV)->Bool
 | []=>true
 | x::l=>bF x&&mj l
end
def asBool:TV->Option Bool
 | .lit (.bool b)=>some b
 | _=>none
def fnOf:TV->Option Nat
 | .lit (.func (.func f) ts fs)=>bif ts.size.beq 0&&fs.size.beq 0 then some f else none
 | _=>none
def aH:TV->Option Nat
 | .lit (.int _ n)=>if 0<=n/\n<=9223372036854775807 then some n.toNat else none
 | _=>none
def a7:Way->TV->Option TV
 | [],x=>some x
 | (k, j) :: p, .sl _ _ xs => match xs[k]? with
  | some e=>match e[j]? with
   | some y=>a7 p y
   | none=>none
  | none=>none
 | _::_,_=>none
def ix : Way → TV → TV → Option TV
 | [],_,y=>some y
 | (k, j) :: p, .sl true s xs, y => match xs[k]? with
  | some e => match e[j]? with
   | some z=>match ix p z y with
    | some z'=>some (.sl true s (ak xs k (ak e j z')))
    | none=>none
   | none=>none
  | none=>none
 | _::_,_,_=>none
def pel (x:TV) (k:Nat):Option (List TV):=match x with | .sl _ _ xs=>xs[k]? | _=>none
def ux (x:TV) (k j:Nat) (ys:List TV):Option TV :=
 match x with
 | .sl true s xs=>match xs[k]? with
  | some e=>some (.sl true s (ak xs k (bH e j ys)))
  | none=>none
 | _=>none
def ja (p:Way) (x:TV) (k j:Nat) (ys:List TV):Option TV :=
 match a7 p x with
 | some s=>match ux s k j ys with
  | some s'=>ix p x s'
  | none=>none
 | none=>none
def li (lo len:Nat) (x:TV):Option TV :=
 match x with
 | .sl o s xs=>if lo+len<=xs.length then some (.sl o s ((xs.drop lo).take len))else none
 | .lit (.slice none 0 0)=>if lo=0/\len=0 then some (.lit a9)else none
 | _=>none
def room:Nat:=4294967296
def BI (size:Nat) (xs:List (List TV)):TV:=match xs with | []=>.lit a9|x::l=>.sl true size (x::l)
def papp (size:Nat) (x:TV) (news:List (List TV)):Option TV :=
 match x with
 | .lit (.slice none 0 0)=>if news.length<=room then some (BI size news)else none
 | .sl true s xs=>if s=size/\xs.length+news.length<=room then some (.sl true s (xs++news))else none
 | _=>none
def pcopy (size:Nat) (x:TV) (news:List (List TV)):Option TV :=
 match x with
 | .sl true s xs=>if s=size then some (.sl true s (news.take xs.length++xs.drop news.length))else none
 | .lit (.slice none 0 0)=>some (.lit a9)
 | _=>none
def slLen (x:TV):Option Nat:=match x with | .sl _ _ xs=>some xs.length | .lit (.slice none 0 0)=>some 0|_=>none
def slSize (x:TV) (size:Nat):Bool:=match x with | .sl _ s _=>s.beq size | .lit (.slice none 0 0)=>true|_=>false
def ab:List Value->List TV->Nat->Bool
 | [],_,_=>true
 | z::zs,e,j=>match e[j]? with
  | some c=>(bif aD z then c.isSl else c.isSc)&&ab zs e (j+1)
  | none=>false
def TV.isHole (x:TV):Bool:=match x with | .hole=>true|_=>false
def cK:List Value->List TV->Nat->Bool
 | [],_,_=>true
 | z::zs,e,j=>match e[j]? with
  | some c=>(bif aD z then c.isSl||c.isHole else c.isSc)&&cK zs e (j+1)
  | none=>false
def kI (op:BinOp) (k:IntKind) (a b:Int):Option TV :=
 match op with
 | .add=>some (.lit (.int k (k.wrap (a+b))))
 | .sub=>some (.lit (.int k (k.wrap (a-b))))
 | .mul=>some (.lit (.int k (k.wrap (a*b))))
 | .quo=>if b=0 then none else some (.lit (.int k (k.wrap (a.tdiv b))))
 | .rem=>if b=0 then none else some (.lit (.int k (a.tmod b)))
 | .eql=>some (.lit (.bool (a==b)))
 | .neq=>some (.lit (.bool (a != b)))
 | .lss=>some (.lit (.bool (decide (a<b))))
 | .leq=>some (.lit (.bool (decide (a<=b))))
 | .gtr=>some (.lit (.bool (decide (a > b))))
 | .geq=>some (.lit (.bool (decide (a >= b))))
 | .and=>some (.lit (.int k (k.wrap ((BitVec.ofInt k.bits a &&& BitVec.ofInt k.bits b).toNat))))
 | .or=>some (.lit (.int k (k.wrap ((BitVec.ofInt k.bits a ||| BitVec.ofInt k.bits b).toNat))))
 | _=>none
def zo (op:BinOp) (a b:ByteArray):Option TV :=
 match op with
 | .eql=>some (.lit (.bool (a.toList==b.toList)))
 | .neq=>some (.lit (.bool (!(a.toList==b.toList))))
 | .lss=>some (.lit (.bool (Op.bytesLess a.toList b.toList)))
 | .add=>if((a.size+b.size:Nat):Int) > IntKind.i64.max then none else some (.lit (.string (a++b)))
 | _=>none
def zg (op:BinOp) (b:Bool):Option TV :=
 match op with
 | .eql=>some (.lit (.bool b))
 | .neq=>some (.lit (.bool !b))
 | _=>none
def pbin (kd:Kd) (op:BinOp) (x y:TV):Option TV :=
 match kd,x,y with
 | .int _,.lit (.int k a),.lit (.int k' b)=>if k=k' then kI op k a b else none
 | .bool,.lit (.bool a),.lit (.bool b)=>zg op (a==b)
 | .str,.lit (.string a),.lit (.string b)=>zo op a b
 | .slice _,.lit (.slice none _ _),.lit (.slice none _ _)=>zg op true
 | .slice _,.sl _ _ _,.lit (.slice none _ _)=>zg op false
 | _,_,_=>none
def pun (op:UnOp) (x:TV):Option TV :=
 match op,x with
 | .not,.lit (.bool b)=>some (.lit (.bool !b))
 | .neg,.lit (.int k n)=>some (.lit (.int k (k.wrap (0-n))))
 | _,_=>none
def pconv (kd:Kd) (x:TV):Option TV :=
 match kd,x with
 | .int k,.lit (.int _ n)=>some (.lit (.int k (k.wrap n)))
 | .str,.lit (.string s)=>some (.lit (.string s))
 | .str,.lit (.int _ n)=>some (.lit (.string (Utf8.encode n)))
 | _,_=>none
def plen (kd:Kd) (x:TV):Option TV :=
 match kd,x with
 | .slice _,.lit (.slice none 0 _)=>some (.lit (.int .i64 0))
 | .str,.lit (.string s)=>some (.lit (.int .i64 s.size))
 | .slice _,.sl _ _ xs=>some (.lit (.int .i64 xs.length))
 | _,_=>none
def pidx (size:Nat) (x i:TV):Option (List TV) :=
 match x,i with
 | .sl _ s xs,.lit (.int _ n)=>if s=size/\0<=n then xs[n.toNat]? else none
 | _,_=>none
def pslice (kd:Kd) (sz:Nat) (x:TV) (lo hi:Option Nat):Option TV :=
 match kd,x with
 | .slice _,.sl o s xs =>
  if s=sz/\lo.getD 0<=hi.getD xs.length/\hi.getD xs.length<=xs.length then some (.sl o s ((xs.drop (lo.getD 0)).take (hi.getD xs.length-lo.getD 0)))else none
 | .slice _,.lit (.slice none 0 0)=>if lo.getD 0=0/\hi.getD 0=0 then some (.lit a9)else none
 | .str,.lit (.string s) =>
  if lo.getD 0<=hi.getD s.size/\hi.getD s.size<=s.size then some (.lit (.string (s.extract (lo.getD 0) (hi.getD s.size))))else none
 | _,_=>none
def pstr (x i:TV):Option TV :=
 match x,i with
 | .lit (.string s),.lit (.int _ n)=>if 0<=n then(s[n.toNat]?).map fun b=>.lit (.int .u8 b.toNat)else none
 | _,_=>none
def pelems (size:Nat):TV->Option (List (List TV))
 | .lit (.slice none 0 _)=>some []
 | .sl _ s xs=>if s=size then some xs else none
 | _=>none
inductive Prg (R:Type) where
 | fail
 | ret (r:R)
 | tv (p:Option TV) (k:TV->Prg R)
 | tvs (p:Option (List TV)) (k:List TV->Prg R)
 | rws (p:Option (List (List TV))) (k:List (List TV)->Prg R)
 | nat (p:Option Nat) (k:Nat->Prg R)
 | chk (b:Bool) (k:Prg R)
 | ite (b:Option Bool) (t e:Prg R)
 | call (f:FuncId) (xs:List TV) (k:TV->Prg R)
 | jmp (p:List Nat) (st:ASt)
def Prg.bind {R S:Type} (f:R->Prg S):Prg R->Prg S
 | .fail=>.fail
 | .ret r=>f r
 | .tv p k=>.tv p fun v=>(k v).bind f
 | .tvs p k=>.tvs p fun v=>(k v).bind f
 | .rws p k=>.rws p fun v=>(k v).bind f
 | .nat p k=>.nat p fun v=>(k v).bind f
 | .chk b k=>.chk b (k.bind f)
 | .ite b t e=>.ite b (t.bind f) (e.bind f)
 | .call g xs k=>.call g xs fun v=>(k v).bind f
 | .jmp _ _=>.fail
def Prg.run {R:Type} (C:FuncId->List TV->Option TV) (J:List Nat->ASt->Option R):Prg R->Option R
 | .fail=>none
 | .ret r=>some r
 | .tv p k=>p.bind fun v=>(k v).run C J
 | .tvs p k=>p.bind fun v=>(k v).run C J
 | .rws p k=>p.bind fun v=>(k v).run C J
 | .nat p k=>p.bind fun v=>(k v).run C J
 | .chk b k=>bif b then k.run C J else none
 | .ite b t e=>b.bind fun b=>bif b then t.run C J else e.run C J
 | .call f xs k=>(C f xs).bind fun v=>(k v).run C J
 | .jmp p st=>J p st
inductive Prim where
 | drop (i r:Nat) (js:List Nat) (strict:Bool)
 | root (i r:Nat) (x:TV)
 | frz (i r:Nat)
 | unmay (i:Nat)
 | newB (b:BC)
 | setB (i:Nat) (cs:List CA)
inductive Eff where
 | val (v:AV)
 | new (b:BC) (v:AV)
 | upd (i:Nat) (b:BC) (v:AV)
 | gen (ps:List Prim) (v:AV)
abbrev Out:=Prg Eff
def ASt.ev (st:ASt):Operand->AV
 | .tmp t=>nth (.one .junk) st.slots t
 | .const (.bool b)=>.bl b
 | .const v=>bif v.oneCell' then .one (.t (.lit v))else .tv (.lit v)
 | .global g=>.tv (.lit (.pointer (some ⟨g,0,none⟩)))
 | .func f=>.tv (.lit (.func (.func f) #[] #[]))
def AV.tv? : AV->Option TV
 | .one (.t x)=>some x
 | .tv x=>some x
 | .bl b=>some (.lit (.bool b))
 | _=>none
abbrev Look:=Nat->Option BC
def CA.kept:CA->Bool
 | .undef=>false
 | .junk=>false
 | _=>true
def AV.ba {R:Type} (agg:Bool) (n:Nat) (v:AV) (k:List CA->Prg R):Prg R :=
 match agg,v with
 | false,.one c=>bif c.kept then k [c]else .fail
 | false,.tv x=>.chk x.eL (k [.t x])
 | false,.bl b=>k [.t (.lit (.bool b))]
 | false,.clo f [.ptr i 0]=>k [.fn1 f i]
 | true,.agg cs=>bif cs.length.beq n then k cs else .fail
 | true,.tv x=>.chk (x.isAgg n) (k ((List.range n).map fun j=>.t (x.cell j)))
 | _,_=>.fail
def kq {R:Type}:List AV->(List CA->Prg R)->Prg R
 | [],k=>k []
 | v::l,k=>v.ba false 1 fun cs=>kq l fun cs'=>k (cs++cs')
def cS (agg:Bool):List CA->Option AV
 | []=>bif agg then some (.agg [])else none
 | c::cs=>bif agg then some (.agg (c::cs))else(match cs with | []=>some (.one c)|_=>none)
def qW {R:Type} (p:Way) (x:TV) (k:TV->Prg R):Prg R :=
 match p with
 | []=>k x
 | _=>.tv (a7 p x) k
def setO {R:Type} (p:Way) (x y:TV) (k:TV->Prg R):Prg R :=
 match p with
 | []=>k y
 | _=>.tv (ix p x y) k
def ce (look:Look) (i r:Nat):Option TV :=
 match look i with
 | some (.tree xs)=>bif r.blt xs.length then some (nth .hole xs r)else none
 | _=>none
def i8 {R:Type} (look:Look) (c:CA) (k:TV->Prg R):Prg R :=
 match c with
 | .t x=>k x
 | .sref i r p=>match ce look i r with
  | some x=>qW p x k
  | none=>.fail
 | .swin i r p lo len=>match ce look i r with
  | some x=>qW p x fun y=>.tv (li lo len y) k
  | none=>.fail
 | _=>.fail
def sB {R:Type} (look:Look) (v:AV) (k:TV->Prg R):Prg R :=
 match v with
 | .one c=>i8 look c k
 | .tv x=>k x
 | .bl b=>k (.lit (.bool b))
 | _=>.fail
def sV {R:Type} (look:Look) (c:CA) (k:TV->Prg R):Prg R :=
 match c with
 | .t x=>k x
 | .sref i r p=>i8 look (.sref i r p) fun x=>k (frz x)
 | .swin i r p lo len=>i8 look (.swin i r p lo len) fun x=>k (frz x)
 | _=>.fail
def Ay {R:Type} (look:Look):List CA->(List TV->Prg R)->Prg R
 | [],k=>k []
 | c::l,k=>sV look c fun x=>Ay look l fun xs=>k (x::xs)
def rK {R:Type} (look:Look) (v:AV) (k:TV->Prg R):Prg R :=
 match v with
 | .one c=>sV look c k
 | .tv x=>k x
 | .agg cs=>Ay look cs fun xs=>k (.agg xs)
 | .tups _=>.fail
 | .clo _ _=>.fail
 | .bl b=>k (.lit (.bool b))
def lends {R:Type} (look:Look):List AV->(List TV->Prg R)->Prg R
 | [],k=>k []
 | v::l,k=>rK look v fun x=>lends look l fun xs=>k (x::xs)
def tN {R:Type} (look:Look) (c:CA) (k:TV->List (Nat × Nat)->Prg R):Prg R :=
 match c with
 | .t x=>k x []
 | .sref i r p => match ce look i r with
  | some x=>(match p with
   | []=>k (frz x) [(i,r)]
   | _=>.tv (a7 p x) fun y=>.chk y.gx (k y []))
  | none=>.fail
 | .swin i r p lo len => match ce look i r with
  | some x=>(match p with
   | []=>.tv (li lo len x) fun y=>k (frz y) [(i,r)]
   | _=>.tv (a7 p x) fun z=>.tv (li lo len z) fun y=>.chk y.gx (k y []))
  | none=>.fail
 | _=>.fail
def Ba {R:Type} (look:Look):List CA->(List TV->List (Nat × Nat)->Prg R)->Prg R
 | [],k=>k [] []
 | c::l,k=>tN look c fun x r=>Ba look l fun xs rs=>k (x::xs) (r++rs)
def tX {R:Type} (look:Look) (v:AV) (k:TV->List (Nat × Nat)->Prg R):Prg R :=
 match v with
 | .one c=>tN look c k
 | .tv x=>k x []
 | .agg cs=>Ba look cs fun xs rs=>k (.agg xs) rs
 | .tups _=>.fail
 | .clo _ _=>.fail
 | .bl b=>k (.lit (.bool b)) []
def hands {R:Type} (look:Look):List AV->(List TV->List (Nat × Nat)->Prg R)->Prg R
 | [],k=>k [] []
 | v::l,k=>tX look v fun x r=>hands look l fun xs rs=>k (x::xs) (r++rs)
def uL:List (Nat × Nat)->List Prim
 | []=>[]
 | (i,r)::l=>.frz i r::uL l
inductive Fl where
 | sc|sl|may|bf (e:Nat)|any
structure fx where
 ty:TypeId
 fl:List Fl
structure Env where
 T:Tab
 pure:FuncId->Bool
 rts:FuncId->List TypeId
 lent:FuncId->Option fx
 selfT:TypeId->Bool
 peek:FuncId->Option (Nat × Nat)
 turn:FuncId->Bool
 eye:FuncId->Bool
 cold:TypeId->Bool
def CA.add:CA->Nat->Option CA
 | .ptr i off,n=>some (.ptr i (off+n))
 | .ref x off,n=>some (.ref x (off+n))
 | .tptr i r p k j,n=>some (.tptr i r p k (j+n))
 | _,_=>none
def ck {R:Type} (at_:Nat->Option (Nat × Bool × Nat)):List Nat->List AV->List CA->(List CA->Prg R)->Prg R
 | [],[],cs,k=>k cs
 | i::is,x::rest,cs,k=>match at_ i with
  | some (off,agg,n)=>x.ba agg n fun ps=>bif (off+ps.length).ble cs.length&&ps.length.beq n then ck at_ is rest (bH cs off ps) k else .fail
  | none=>.fail
 | _,_,_,_=>.fail
def places (T:Tab) (d:TyD) (i:Nat):Option (Nat × Bool × Nat) :=
 match d.kd with
 | .struct => match d.fields[i]? with
  | some (off,ty)=>match T ty with
   | some e=>some (off,e.kd.isAgg,e.size)
   | none=>none
  | none=>none
 | .arr _ e=>match T e with
  | some e=>some (i*e.size,e.kd.isAgg,e.size)
  | none=>none
 | _=>none
def chunks {α:Type} (size:Nat):Nat->List α->List (List α)
 | 0,_=>[]
 | n+1,l=>l.take size::chunks size n (l.drop size)
def vt (x:TV):Out:=.ret (.val (.one (.t x)))
def kM:TV->Bool
 | .lit (.slice none 0 0)=>true
 | _=>false
def bu:Way->List Nat
 | []=>[]
 | (_,j)::p=>j::bu p
def gI:List Value->Bool
 | []=>false
 | z::l=>bif aD z then true else gI l
def cJ {R:Type} (look:Look):List CA->(List TV->List Prim->List (Nat × Nat)->Prg R)->Prg R
 | [],k=>k [] [] []
 | .t x::l,k=>cJ look l fun xs ps ts=>k (x::xs) ps ts
 | .sref i r p :: l, k => match ce look i r with
  | some x=>(match p with
   | []=>cJ look l fun xs ps ts=>k (x::xs) (.drop i r [] false :: .root i r .hole::ps) ((i,r)::ts)
   | _=>.tv (a7 p x) fun y=>.chk y.gx (cJ look l fun xs ps ts=>k (y::xs) ps ts))
  | none=>.fail
 | .swin i r p lo len :: l, k => match ce look i r with
  | some x=>(match p with
   | []=>.tv (li lo len x) fun y=>cJ look l fun xs ps ts=>k (y::xs) (.drop i r [] false :: .root i r .hole::ps) ((i,r)::ts)
   | _=>.tv (a7 p x) fun z=>.tv (li lo len z) fun y=>.chk y.gx (cJ look l fun xs ps ts=>k (y::xs) ps ts))
  | none=>.fail
 | _,_=>.fail
def frB (y:TV):Option Bool:=some y.gx
def cj {R:Type} (look:Look):List CA->(List TV->List Prim->List (Nat × Nat)->Prg R)->Prg R
 | [],k=>k [] [] []
 | .t x::l,k=>cj look l fun xs ps ts=>k (x::xs) ps ts
 | .sref i r p :: l, k => match ce look i r with
  | some x=>(match p with
   | []=>cj look l fun xs ps ts=>k (x::xs) (.drop i r [] false :: .root i r .hole::ps) ((i,r)::ts)
   | _ => .tv (a7 p x) fun y => .ite (frB y) (cj look l fun xs ps ts => k (y :: xs) ps ts)
     (.tv (ix p x .hole) fun x'=>cj look l fun xs ps ts=>k (y::xs) (.drop i r (bu p) false :: .root i r x'::ps) ((i,r)::ts)))
  | none=>.fail
 | .swin i r p lo len :: l, k => match ce look i r with
  | some x=>(match p with
   | []=>.tv (li lo len x) fun y=>cj look l fun xs ps ts=>k (y::xs) (.drop i r [] false :: .root i r .hole::ps) ((i,r)::ts)
   | _=>.tv (a7 p x) fun z=>.tv (li lo len z) fun y=>.chk y.gx (cj look l fun xs ps ts=>k (y::xs) ps ts))
  | none=>.fail
 | _,_=>.fail
def g9 (i r:Nat):List (Nat × Nat)->Bool
 | []=>false
 | (a,b)::l=>bif a.beq i&&b.beq r then true else g9 i r l
def dh:List (Nat × Nat)->Bool
 | []=>true
 | (a,b)::l=>!g9 a b l&&dh l
def xu (i:Nat):List (Nat × Nat)->Bool
 | []=>true
 | (a,_)::l=>bif a.beq i then false else xu i l
def o8 (i:Nat):Option Nat->Bool
 | some j=>i.beq j
 | none=>false
def xO {R : Type} (look : Look) (d : TyD) (dest : Option Nat) (x : AV) (k : List (List TV) → List Prim → Prg R) : Prg R :=
 match x.tv? with
 | some x=>.rws (pelems d.size x) fun xs=>k xs []
 | none => match x with
  | .one c => bif gI d.zero then
    (match c with
    | .sref i r p => match ce look i r with
     | some x=>(match p with
      | []=>bif o8 i dest then .fail else .rws (pelems d.size x) fun xs=>k xs [.drop i r [] false,.root i r .hole]
      | _=>.tv (a7 p x) fun y=>.chk y.gx (.rws (pelems d.size y) fun xs=>k xs []))
     | none=>.fail
    | .swin i r p lo len => match ce look i r with
     | some x=>(match p with
      | []=>bif o8 i dest then .fail else .tv (li lo len x) fun y=>.rws (pelems d.size y) fun xs=>k xs [.drop i r [] false,.root i r .hole]
      | _=>.tv (a7 p x) fun z=>.tv (li lo len z) fun y=>.chk y.gx (.rws (pelems d.size y) fun xs=>k xs []))
     | none=>.fail
    | _=>.fail)
   else i8 look c fun s=>.rws (pelems d.size s) fun xs=>k (qV xs) []
  | _=>.fail
def xW (look:Look) (kd:Kd) (x:AV):Out :=
 match kd with
 | .arr n _=>vt (.lit (.int .i64 n))
 | .slice e=>(match x with
  | .one (.psl _ n)=>vt (.lit (.int .i64 n))
  | x=>sB look x fun s=>.tv (plen (.slice e) s) vt)
 | kd=>sB look x fun s=>.tv (plen kd s) vt
def cV (ps:List Prim) (b:BC) (v:AV):Eff:=match ps with | []=>.new b v|_=>.gen (ps ++ [.newB b]) v
def sA:AV->Option Nat
 | .one (.sref i _ _)=>some i
 | .one (.swin i _ _ _ _)=>some i
 | _=>none
def nN (id : Nat) (look : Look) (d : TyD) (s : AV) (news : List (List TV)) (ps : List Prim) : Out :=
 match s.tv? with
 | some s=>bif kM s then .tv (papp d.size s news) fun y=>.ret (cV ps (.tree [y]) (.one (.sref id 0 [])))else .fail
 | none => match s with
  | .one (.sref i r p) => match ce look i r with
   | some x=>(match p with
    | []=>.tv (papp d.size x news) fun y=>.ret (.gen (ps ++ [.drop i r [] false,.root i r y]) (.one (.sref i r [])))
    | _=>.tv (a7 p x) fun z=>.tv (papp d.size z news) fun y=>.tv (ix p x .hole) fun x'=>.ret (.gen (ps ++ [.drop i r (bu p) false,.root i r x',.newB (.tree [y])]) (.one (.sref id 0 []))))
   | none=>.fail
  | .one (.swin i r p lo len) => match ce look i r with
   | some x=>(match p with
    | []=>.tv (li lo len x) fun z=>.tv (papp d.size z news) fun y=>.ret (.gen (ps ++ [.drop i r [] false,.root i r y]) (.one (.sref i r [])))
    | _=>.tv (a7 p x) fun z0=>.tv (li lo len z0) fun z=>.tv (papp d.size z news) fun y=>.tv (ix p x .hole) fun x'=>.ret (.gen (ps ++ [.drop i r (bu p) false,.root i r x',.newB (.tree [y])]) (.one (.sref id 0 []))))
   | none=>.fail
  | _=>.fail
def oF (id:Nat) (look:Look) (d:TyD) (s x:AV):Out :=
 bif d.bytes.ble 4096&&Nat.blt 0 d.size then xO look d (sA s) x fun news ps=>nN id look d s news ps else .fail
def AL (look : Look) (d : TyD) (s x : AV) : Out :=
 xO look d (sA s) x fun news ps =>
 match s with
 | .one (.sref i r p)=>match ce look i r with
  | some x => qW p x fun z => .tv (pcopy d.size z news) fun y => setO p x y fun x' => .nat (slLen z) fun n =>
    .ret (.gen (ps ++ [.drop i r (bu p) true,.root i r x']) (.one (.t (.lit (.int .i64 (Nat.min news.length n))))))
  | none=>.fail
 | _=>.fail
def jB (T:Tab) (t:TypeId):Option (TypeId × TyD) :=
 match T t with
 | some ⟨_,_,.slice e,_,_⟩=>match T e with
  | some d=>some (e,d)
  | none=>none
 | _=>none
def pmin (mx:Bool) (x y:TV):Option TV :=
 match x,y with
 | .lit (.int k a),.lit (.int _ b)=>some (.lit (.int k (bif mx then(if b > a then b else a)else(if b<a then b else a))))
 | _,_=>none
def yL (mx:Bool) (x y:AV):Out :=
 match x.tv?,y.tv? with
 | some x,some y=>.tv (pmin mx x y) vt
 | _,_=>.fail
def ek (E:Env) (id:Nat) (look:Look) (b:Builtin) (tys:List TypeId) (args:List AV):Out :=
 match b,args,tys with
 | .len,[x],[ty]=>match E.T ty with
  | some d=>xW look d.kd x
  | none=>.fail
 | .append, [s, x], [ty, ty'] => match jB E.T ty with
  | some (_,d)=>bif ty.beq ty' then oF id look d s x else(match E.T ty' with
   | some ⟨_,_,.str,_,_⟩=>.fail
   | _=>.fail)
  | none=>.fail
 | .copy,[s,x],[ty,ty']=>match jB E.T ty with
  | some (_,d)=>bif ty.beq ty' then AL look d s x else .fail
  | none=>.fail
 | .clear,[s],[ty]=>match jB E.T ty with
  | some (_,d)=>.fail
  | none=>.fail
 | .min,[x,y],_=>yL false x y
 | .max,[x,y],_=>yL true x y
 | _,_,_=>.fail
def eV:List CA->Option (List TV)
 | []=>some []
 | .t x::l=>match eV l with
  | some r=>some (x::r)
  | none=>none
 | _=>none
def fU {R:Type} (v:Option AV) (k:Option Nat->Prg R):Prg R :=
 match v with
 | none=>k none
 | some v=>match v.tv? with
  | some x=>.nat (aH x) fun n=>k (some n)
  | none=>.fail
def kK (d:TyD) (x:List TV) (off:Nat):Out :=
 bif d.kd.isAgg then .chk ((off+d.size).ble x.length) (.ret (.val (.agg ((List.range d.size).map fun j=>.t (nth .hole x (off+j))))))
 else .chk (off.blt x.length) (vt (nth .hole x off))
def gD (i r:Nat) (p:Way) (k:Nat) (e:List TV):List Value->Nat->List CA
 | [],_=>[]
 | z::zs,j=>(bif aD z then .sref i r (p ++ [(k,j)])else .t (nth .hole e j))::gD i r p k e zs (j+1)
def pnth (n:Nat) (xs:List TV):Option TV:=xs[n]?
def dp (n j:Nat) (y x:TV):TV:=bif n.beq j then y else x
def ig (n:Nat) (y:TV):Nat->List TV->List CA
 | _,[]=>[]
 | j,x::l=>.t (dp n j y x)::ig n y (j+1) l
def wg (look:Look) (i off len:Nat):Option (List CA × List TV) :=
 match look i with
 | some (.cells cs) => match lg cs off len with
  | some cs1=>match eV cs1 with
   | some xs=>some (cs,xs)
   | none=>none
  | none=>none
 | _=>none
def AJ (look : Look) (d : TyD) (a : AV) : Out :=
 match a with
 | .one (.aptr i off len n)=>bif d.kd.isAgg then .fail else(match wg look i off len with
  | some (_,xs)=>.tv (pnth n xs) vt
  | none=>.fail)
 | .one (.ptr i off) => match look i with
  | some (.cells cs) => match lg cs off (bif d.kd.isAgg then d.size else 1) with
   | some cs=>match cS d.kd.isAgg cs with
    | some v=>.ret (.val v)
    | none=>.fail
   | none=>.fail
  | _=>.fail
 | .one (.ref x off)=>kK d x off
 | .one (.tptr i r p k j) => match ce look i r with
  | some x=>qW p x fun s=>.tvs (pel s k) fun e=>.chk (ab d.zero e j) (match cS d.kd.isAgg (gD i r p k e d.zero j)with
   | some v=>.ret (.val v)
   | none=>.fail)
  | none=>.fail
 | _=>.fail
def kw (i r:Nat) (js:List Nat):List Value->Nat->List Prim
 | [],_=>[]
 | z::zs,j=>bif aD z then .drop i r (js ++ [j]) false::kw i r js zs (j+1)else kw i r js zs (j+1)
def ct (look:Look) (i r:Nat) (x:TV):Option BC :=
 match look i with
 | some (.tree xs)=>some (.tree (ak xs r x))
 | _=>none
def wa (look : Look) (d : TyD) (a x : AV) : Out :=
 match a with
 | .one (.aptr i off len n) => bif d.kd.isAgg then .fail else (match wg look i off len with
  | some (cs,xs)=>x.ba false 1 fun ps=>(match ps with
   | [.t y]=>.ret (.upd i (.cells (bH cs off (ig n y 0 xs))) (.one .undef))
   | _=>.fail)
  | none=>.fail)
 | .one (.ptr i off)=>x.ba d.kd.isAgg d.size fun ps=>match look i with
  | some (.cells cs)=>bif (off+ps.length).ble cs.length&&ps.length.beq d.size then .ret (.upd i (.cells (bH cs off ps)) (.one .undef))else .fail
  | _=>.fail
 | .one (.tptr i r p k j) => x.ba d.kd.isAgg d.size fun ps => match ce look i r with
  | some x => bif !(Nat.blt 0 d.size) then .fail else bif gI d.zero then
    cJ look ps fun ys qs ts=>bif dh ts&&xu i ts&&ys.length.beq d.size then
     qW p x fun s=>.tvs (pel s k) fun e=>.chk (cK d.zero e j&&ab d.zero ys 0) (.tv (ja p x k j ys) fun x' =>
      .ret (.gen (qs++kw i r (bu p) d.zero j ++ [.root i r x']) (.one .undef)))else .fail
   else cJ look ps fun ys qs _=>(match qs with
    | []=>bif ys.length.beq d.size then qW p x fun s=>.tvs (pel s k) fun e=>.chk (ab d.zero e j) (.tv (ja p x k j ys) fun x'=>(match ct look i r x' with
     | some b=>.ret (.upd i b (.one .undef))
     | none=>.fail))else .fail
    | _=>.fail)
  | none=>.fail
 | _=>.fail
def Kd.Bf:Kd->Bool
 | .slice _=>true
 | _=>false
def Fq (look:Look) (kd:Kd) (op:BinOp) (x y:AV):Out :=
 bif kd.Bf then sB look x fun x=>sB look y fun y=>.tv (pbin kd op x y) vt
 else match x.tv?,y.tv? with
 | some x,some y=>.tv (pbin kd op x y) vt
 | _,_=>.fail
def nl (k:IntKind):List TV->Option (List Int)
 | []=>some []
 | .lit (.int k' n)::l=>if k=k' then(match nl k l with
  | some r=>some (n::r)
  | none=>none)else none
 | _=>none
def peqL (k:IntKind) (op:BinOp) (xs ys:List TV):Option TV :=
 match nl k xs,nl k ys with
 | some a,some b=>zg op (a==b)
 | _,_=>none
def vG:AV->Option Bool
 | .one (.ptr _ _)=>some true
 | .one (.ref _ _)=>some true
 | .one (.tptr _ _ _ _ _)=>some true
 | .one (.aptr _ _ _ _)=>some true
 | .one (.t (.lit (.pointer none)))=>some false
 | .tv (.lit (.pointer none))=>some false
 | _=>none
def E7 (op:BinOp) (x y:AV):Out :=
 match op,vG x,vG y with
 | .eql,some a,some false=>.ret (.val (.bl !a))
 | .neq,some a,some false=>.ret (.val (.bl a))
 | _,_,_=>.fail
def E8 (T:Tab) (look:Look) (kd:Kd) (op:BinOp) (x y:AV):Out :=
 match kd with
 | .arr len e => match T e with
  | some ⟨1,_,.int k,_,_⟩=>x.ba true len fun cs=>y.ba true len fun cs'=>(match eV cs,eV cs' with
   | some xs,some ys=>.tv (peqL k op xs ys) vt
   | _,_=>.fail)
  | _=>.fail
 | .ptr=>E7 op x y
 | kd=>Fq look kd op x y
def iU (look : Look) (kd : Kd) (sz : Nat) (x : AV) (lo hi : Option AV) : Out :=
 match x.tv? with
 | some x=>fU lo fun lo=>fU hi fun hi=>.tv (pslice kd sz x lo hi) vt
 | none => match kd, x with
  | .slice _, .one (.sref i r p) => i8 look (.sref i r p) fun s => .nat (slLen s) fun n => fU lo fun lo => fU hi fun hi =>
    .chk (slSize s sz&&(lo.getD 0).ble (hi.getD n)&&(hi.getD n).ble n) (.ret (.val (.one (.swin i r p (lo.getD 0) (hi.getD n-lo.getD 0)))))
  | .slice _, .one (.swin i r p lo0 n) => match lo with
   | none=>i8 look (.sref i r p) fun s=>fU hi fun hi=>.chk (slSize s sz&&(hi.getD n).ble n) (.ret (.val (.one (.swin i r p lo0 (hi.getD n)))))
   | some _=>i8 look (.sref i r p) fun s=>fU lo fun lo=>fU hi fun hi =>
    .chk (lo0.beq 0&&slSize s sz&&(lo.getD 0).ble (hi.getD n)&&(hi.getD n).ble n) (.ret (.val (.one (.swin i r p (lo.getD 0) (hi.getD n-lo.getD 0)))))
  | _,_=>.fail
def AD (b k:Nat):Nat->Out
 | 0=>.fail
 | m+1=>.ite (some (k.beq m)) (.ret (.val (.one (.ptr b m)))) (AD b k m)
def pw (look:Look) (d:TyD) (x i:AV):Out :=
 match i.tv? with
 | some i => match x.tv? with
  | some x=>.tvs (pidx d.size x i) fun el=>.ret (.val (.one (.ref el 0)))
  | none=>match x with
   | .one (.sref b r p)=>i8 look (.sref b r p) fun s=>.nat (slLen s) fun n=>.nat (aH i) fun k=>.chk (slSize s d.size&&k.blt n) (.ret (.val (.one (.tptr b r p k 0))))
   | .one (.swin b r p lo n)=>i8 look (.sref b r p) fun s=>.nat (aH i) fun k=>.chk (slSize s d.size&&k.blt n) (.ret (.val (.one (.tptr b r p (lo+k) 0))))
   | .one (.psl b n)=>bif d.size.beq 1 then .nat (aH i) fun k=>AD b k n else .fail
   | _=>.fail
 | none=>.fail
def rh (T:Tab) (t:TypeId) (x i:AV):Out :=
 match T t with
 | some ⟨_,_,.arr len e,_,_⟩=>match T e,x,i.tv? with
  | some d,.one (.ptr b off),some i=>bif !d.kd.isAgg&&d.size.beq 1 then .nat (aH i) fun k=>.chk (k.blt len) (.ret (.val (.one (.aptr b off len k))))else .fail
  | _,_,_=>.fail
 | _=>.fail
def rC (T:Tab) (t:TypeId) (x i:AV):Out :=
 match T t with
 | some ⟨_, _, .arr len e, _, _⟩ => match T e, x, i.tv? with
  | some d,.agg cs,some i=>bif !d.kd.isAgg&&d.size.beq 1 then(match eV cs with
   | some xs=>.nat (aH i) fun k=>.chk (k.blt len) (.tv (pnth k xs) vt)
   | none=>.fail)else .fail
  | _,_,_=>.fail
 | _=>.fail
def wn (d:TyD) (off:Nat) (agg:Bool) (n:Nat) (x:AV):Out :=
 match x with
 | .agg cs => match lg cs off (bif agg then n else 1) with
  | some cs=>match cS agg cs with
   | some v=>.ret (.val v)
   | none=>.fail
  | none=>.fail
 | .tv x => .chk (x.isAgg d.size && (off + n).ble d.size && Nat.blt 0 n)
   (.ret (.val (bif agg then .agg ((List.range n).map fun j=>.t (x.cell (off+j)))else .one (.t (x.cell off)))))
 | _=>.fail
def lQ (T:Tab):Kd->Bool
 | .struct=>true
 | .arr _ e=>(T e).isSome
 | _=>false
def rf (T:Tab):Kd->Option Nat
 | .slice e=>match T e with
  | some d=>some d.size
  | none=>none
 | _=>some 0
def TV.cellsL (agg:Bool) (x:TV):List TV:=match agg,x with
 | true,.agg cs=>cs
 | true,_=>[]
 | false,x=>[x]
def ei (id r0:Nat):List Value->TV->Bool->Nat->List CA
 | [],_,_,_=>[]
 | z::zs,x,agg,j=>(bif aD z then .sref id (r0+j) []else .t (bif agg then x.cell j else x))::ei id r0 zs x agg (j+1)
def dL:List Value->TV->Bool->Nat->List TV
 | [],_,_,_=>[]
 | z::zs,x,agg,j=>(bif aD z then(bif agg then x.cell j else x)else .hole)::dL zs x agg (j+1)
def jA {R:Type} (d:TyD) (x:TV) (k:Prg R):Prg R :=
 bif d.kd.isAgg then .chk (x.isAgg d.size&&ab d.zero (x.cellsL true) 0) k else .chk (ab d.zero (x.cellsL false) 0) k
def mI (T:Tab):List TypeId->Option (List TyD)
 | []=>some []
 | t::l=>match T t,mI T l with
  | some d,some ds=>some (d::ds)
  | _,_=>none
def gG {R:Type} (x:TV):List TyD->Nat->Prg R->Prg R
 | [],_,k=>k
 | d::l,j,k=>jA d (x.comp j) (gG x l (j+1) k)
def d6 (id:Nat) (x:TV):List TyD->Nat->Nat->List (Bool × List CA)
 | [],_,_=>[]
 | d::l,j,r0=>(d.kd.isAgg,ei id r0 d.zero (x.comp j) d.kd.isAgg 0)::d6 id x l (j+1) (r0+d.zero.length)
def br (x:TV):List TyD->Nat->List TV
 | [],_=>[]
 | d::l,j=>dL d.zero (x.comp j) d.kd.isAgg 0++br x l (j+1)
def gZ:List TyD->Bool
 | []=>false
 | d::l=>bif gI d.zero then true else gZ l
def wI (id:Nat) (ds:List TyD) (v:TV) (ps:List Prim):Out :=
 match ds with
 | [d]=>jA d v (match cS d.kd.isAgg (ei id 0 d.zero v d.kd.isAgg 0)with
  | some av=>bif gI d.zero then .ret (cV ps (.tree (dL d.zero v d.kd.isAgg 0)) av)else .ret (match ps with | []=>.val av|_=>.gen ps av)
  | none=>.fail)
 | ds => .chk (v.isTup ds.length) (gG v ds 0 (bif gZ ds then .ret (cV ps (.tree (br v ds 0)) (.tups (d6 id v ds 0 0)))
   else .ret (match ps with | []=>.val (.tups (d6 id v ds 0 0))|_=>.gen ps (.tups (d6 id v ds 0 0)))))
def TV.yP (x:TV) (e:Nat):Bool:=match x with | .buf _ e'=>e'.beq e|_=>false
def TV.eK (x:TV):Bool:=match x with | .tup []=>true|_=>false
def Fg:TV:=.tup []
def oe:List Fl->List TV->Bool
 | [],[]=>true
 | f::fl,x::xs=>(match f with | .sc=>x.isSc | .sl=>x.isSl | .may=>x.eK | .bf e=>x.yP e | .any=>x.gx)&&oe fl xs
 | _,_=>false
def gq (i t:Nat) (ty:TypeId):List Fl->List TV->Nat->List CA
 | f::fl,x::xs,r=>(match f with | .sc=>.t x | .sl=>.sref t r [] | .may=>.may i ty | .bf _=>.sref t r [] | .any=>.t x)::gq i t ty fl xs (r+1)
 | _,_,_=>[]
def da:List Fl->List TV->List TV
 | f::fl,x::xs=>(match f with | .sl=>x | .bf _=>x|_=>.hole)::da fl xs
 | _,_=>[]
def kJ (self:Bool) (id:Nat) (e:TypeId) (zs:List Value):List CA :=
 match self,zs with
 | true,.pointer none::l=>.may id e::l.map fun v=>.t (.lit v)
 | _,zs=>zs.map fun v=>.t (.lit v)
def CA.Gf:CA->CA
 | .may _ _=>.t .hole
 | c=>c
def unMays:List CA->List CA
 | []=>[]
 | c::l=>c.Gf::unMays l
def ns (i:Nat) (ty:TypeId):List Fl->List CA->Bool
 | [],[]=>true
 | f::fl,c::cs=>(match f,c with | .may,.may j t=>j.beq i&&t.beq ty | .may,_=>false|_,.may _ _=>false|_,_=>true)&&ns i ty fl cs
 | _,_=>false
def FP (e:Nat) (x:TV):TV:=bif kM x then .buf .empty e else x
def jx:List Fl->List TV->List TV
 | f::fl,x::xs=>(match f with | .may=>Fg | .bf e=>FP e x|_=>x)::jx fl xs
 | _,_=>[]
def junks:List CA->List CA
 | []=>[]
 | _::l=>.junk::junks l
def gF (v:TV):Nat->Nat->List TV
 | 0,_=>[]
 | n+1,j=>v.comp j::gF v n (j+1)
def CE (id:Nat) (ds:List TyD) (v:TV) (k:AV->Out):Out :=
 match ds with
 | [d]=>jA d v (match cS d.kd.isAgg (ei id 0 d.zero v d.kd.isAgg 0)with|some av=>k av|none=>.fail)
 | ds=>.chk (v.isTup ds.length) (gG v ds 0 (k (.tups (d6 id v ds 0 0))))
def ow (E : Env) (id : Nat) (look : Look) (f : FuncId) (ld : fx) (vs : List AV) : Out :=
 match vs with
 | .one (.ptr i 0) :: rest => match look i, mI E.T (E.rts f) with
  | some (.cells cs), some ds => bif gZ ds || !ns i ld.ty ld.fl cs then .fail else
   hands look rest fun xs rs=>cJ look (unMays cs) fun ys qs ts=>bif dh (ts++rs)then
    .chk (oe ld.fl (jx ld.fl ys)) (.call f (.tup (jx ld.fl ys)::xs) fun v=>.chk (v.isTup 2&&(v.comp 1).isTup ld.fl.length&&oe ld.fl (gF (v.comp 1) ld.fl.length 0))
     (CE id ds (v.comp 0) fun av => .ret (.gen (qs ++ (uL rs ++ [.setB i (junks cs), .unmay i, .newB (.tree (da ld.fl (gF (v.comp 1) ld.fl.length 0))),
      .setB i (gq i id ld.ty ld.fl (gF (v.comp 1) ld.fl.length 0) 0)])) av)))
   else .fail
  | _,_=>.fail
 | _=>.fail
def Ea:TV->TV
 | .lit v=>.lit v
 | .agg cs=>.agg (lfL cs)
 | _=>.hole
def qf:List TV->List TV
 | []=>[]
 | x::l=>Ea x::qf l
def oj (look:Look) (f:FuncId) (c:Nat × Nat) (vs:List AV):Out :=
 match vs with
 | .one (.ptr i 0) :: rest => match look i with
  | some (.cells cs)=>match nth .junk cs c.1 with
   | .t x=>bif cs.length.beq c.2 then lends look rest fun xs=>.call f (x::qf xs) fun v=>.ret (.val (.tv v))else .fail
   | _=>.fail
  | _=>.fail
 | _=>.fail
def sK (look:Look) (f:FuncId) (vs:List AV):Out:=.fail
def pifc (t:TypeId) (x:TV):Option TV:=match x with | .lit v=>if scV v=true then some (.lit (.iface t v))else none|_=>none
def pasrt (t:TypeId) (x:TV):Option TV:=match x with | .lit (.iface t' v)=>if t'=t/\scV v=true then some (.lit v)else none|_=>none
def Kd.kV:Kd->Bool
 | .bool=>true
 | .int _=>true
 | .str=>true
 | .ptr=>true
 | _=>false
def Dq (d:TyD) (t:TypeId) (x:AV):Out :=
 bif d.kd.kV then(match x with
 | .one (.ptr i 0)=>.ret (.val (.one (.ifp t i)))
 | x=>match x.tv? with
  | some x=>.tv (pifc t x) vt
  | none=>.fail)else .fail
def vL (d:TyD) (t:TypeId) (x:AV):Out :=
 bif d.kd.kV then(match x.tv? with
  | some x=>.tv (pasrt t x) vt
  | none=>.fail)else .fail
def mN (E:Env) (id:Nat) (look:Look) (f:FuncId) (vs:List AV):Out :=
 match E.peek f with
 | some c=>oj look f c vs
 | none=>match E.lent f with
 | some ld=>ow E id look f ld vs
 | none=>match mI E.T (E.rts f)with
 | some ds=>bif E.pure f || !gZ ds then lends look vs fun xs=>.call f xs fun v=>wI id ds v []
  else hands look vs fun xs rs=>bif dh rs then .call f xs fun v=>wI id ds v (uL rs)else .fail
 | none=>.fail
def DP (E:Env) (id:Nat) (look:Look) (f:FuncId) (i:Nat) (vs:List AV):Out:=.fail
def Ak (T:Tab) (look:Look) (ds d:TyD) (x:AV):Out :=
 match ds.kd,d.kd with
 | .slice e,.str=>.fail
 | _,kd=>match x.tv? with
  | some x=>.tv (pconv kd x) vt
  | none=>.fail
def Dy (E:Env) (t:TypeId) (len:Nat) (parts:Array (Nat × Operand)) (vs:List AV):Out:=.fail
def wi:List CA->Bool
 | []=>true
 | .ptr _ _::l=>wi l
 | _=>false
def iS (E : Env) (id : Nat) (look : Look) (t : TypeId) (len : Nat) (parts : Array (Nat × Operand)) (vs : List AV) : Out :=
 match jB E.T t with
  | some (_, d) =>
   ck (fun i=>some (i*d.size,d.kd.isAgg,d.size)) (parts.toList.map (·.1)) vs ((List.replicate len d.zero).flatten.map fun v=>.t (.lit v)) fun cs =>
    bif wi cs&&(!(len.beq 0)&&(d.size.beq 1&&len.ble 16777216))then .ret (.new (.cells cs) (.one (.psl id len)))else
    cj look cs fun ys qs ts=>bif dh ts&&(len*d.size).ble 16777216&&ys.length.beq (len*d.size)&&Nat.blt 0 d.size then
     .ret (cV qs (.tree [.sl true d.size (chunks d.size len ys)]) (.one (.sref id 0 [])))else .fail
  | none=>.fail
def opL (E : Env) (id : Nat) (look : Look) (op : Op) (vs : List AV) : Out :=
 match op,vs with
 | .move _,[x]=>.ret (.val x)
 | .assign _,[x]=>.ret (.val x)
 | .pick _ _ _,[c,a,b]=>match c with
  | .bl c=>.ret (.val (bif c then a else b))
  | .tv v=>.ite (asBool v) (.ret (.val a)) (.ret (.val b))
  | .one (.t v)=>.ite (asBool v) (.ret (.val a)) (.ret (.val b))
  | _=>.fail
 | .alloc e,[]=>match E.T e with
  | some d=>.ret (.new (.cells (kJ (E.selfT e) id e d.zero)) (.one (.ptr id 0)))
  | none=>.fail
 | .box e _,[x]=>match E.T e with
  | some d=>x.ba d.kd.isAgg d.size fun cs=>.ret (.new (.cells cs) (.one (.ptr id 0)))
  | none=>.fail
 | .build t parts,vs=>match E.T t with
  | some d=>bif lQ E.T d.kd then ck (places E.T d) (parts.toList.map (·.1)) vs (d.zero.map fun v=>.t (.lit v)) fun cs=>.ret (.val (.agg cs))else .fail
  | none=>.fail
 | .buildSlice t len parts,vs=>bif E.cold t && !(len.beq 0)then Dy E t len parts vs else iS E id look t len parts vs
 | .load t _,[a]=>match E.T t with
  | some d=>AJ look d a
  | none=>.fail
 | .store t _ _,[a,x]=>match E.T t with
  | some d=>wa look d a x
  | none=>.fail
 | .nilCheck _,[x]=>match x with
  | .one (.ptr i off)=>.ret (.val (.one (.ptr i off)))
  | .one (.ref x off)=>.ret (.val (.one (.ref x off)))
  | .one (.tptr i r p k j)=>.ret (.val (.one (.tptr i r p k j)))
  | .one (.aptr i off len n)=>.ret (.val (.one (.aptr i off len n)))
  | _=>.fail
 | .binOp op xt _ _ _,[x,y]=>match E.T xt with
  | some d=>E8 E.T look d.kd op x y
  | none=>.fail
 | .unOp op _ _, [x] => match op, x with
  | .not,.bl b=>.ret (.val (.bl (!b)))
  | op,x=>match x.tv? with
   | some x=>.tv (pun op x) vt
   | none=>.fail
 | .convert sty dt _,[x]=>match E.T sty,E.T dt with
  | some ds,some d=>Ak E.T look ds d x
  | _,_=>.fail
 | .makeSlice t _ _,[l,c]=>match jB E.T t,l.tv?,c.tv? with
  | some (_,d),some l,some c=>bif d.bytes.ble 4096 then .nat (aH l) fun n=>.nat (aH c) fun m=>.chk (n.ble m&&m.ble room)
     (.ret (.new (.tree [.sl true d.size (List.replicate n (d.zero.map .lit))]) (.one (.sref id 0 []))))else .fail
  | _,_,_=>.fail
 | .slice t _ lo hi none, x :: rest => match E.T t with
  | some d => match rf E.T d.kd with
   | some sz=>match lo,hi,rest with
    | none,none,[]=>iU look d.kd sz x none none
    | some _,none,[l]=>iU look d.kd sz x (some l) none
    | none,some _,[h]=>iU look d.kd sz x none (some h)
    | some _,some _,[l,h]=>iU look d.kd sz x (some l) (some h)
    | _,_,_=>.fail
   | none=>.fail
  | none=>.fail
 | .fieldAddr s _ f, [x] => match E.T s, x with
  | some d,.one c=>match d.kd,places E.T d f with
   | .struct,some (off,_,n)=>bif Nat.blt 0 n then(match c.add off with|some c=>.ret (.val (.one c))|none=>.fail)else .fail
   | _,_=>.fail
  | _,_=>.fail
 | .field s _ f, [x] => match E.T s with
  | some d=>match d.kd,places E.T d f with
   | .struct,some (off,agg,n)=>wn d off agg n x
   | _,_=>.fail
  | none=>.fail
 | .indexAddr t _ _,[x,i]=>match jB E.T t with
  | some (_,d)=>pw look d x i
  | none=>rh E.T t x i
 | .index t _ _,[x,i]=>match E.T t,x.tv?,i.tv? with
  | some ⟨_,_,.str,_,_⟩,some x,some i=>.tv (pstr x i) vt
  | _,_,_=>rC E.T t x i
 | .extract _ j, [x] => match x with
  | .tups cs => match cs[j]? with
   | some (agg,c)=>match cS agg c with
    | some v=>.ret (.val v)
    | none=>.fail
   | none=>.fail
  | _=>.fail
 | .makeFunc (.func f) first _,vs=>bif first.size.beq 0 then kq vs fun cs=>.ret (.val (.clo f cs))else .fail
 | .call ⟨.builtin b,_,tys⟩,vs=>ek E id look b tys.toList vs
 | .makeInterface t _,[x]=>match E.T t with
  | some d=>Dq d t x
  | none=>.fail
 | .typeAssert _ _ t false,[x]=>match E.T t with
  | some d=>vL d t x
  | none=>.fail
 | .call ⟨.value (.func f),_,_⟩,_::vs=>bif E.turn f then sK look f vs else bif E.eye f then .fail else mN E id look f vs
 | .call ⟨.value (.tmp _), _, _⟩, fv :: vs => match fv.tv? with
  | some x=>.nat (fnOf x) fun f=>.chk ((E.lent f).isNone&&(E.peek f).isNone && !(E.turn f||E.eye f)) (lends look vs fun xs=>.call f xs fun v=>.chk v.isSc (vt v))
  | none=>match fv with
   | .one (.fn1 f i)=>DP E id look f i vs
   | _=>.fail
 | _,_=>.fail
def dl:Nat:=24
def ASt.nid (st:ASt) (d:Option Tmp):Nat:=match d with|some d=>dl+st.out.length+d|none=>0
def ASt.put (st:ASt) (d:Option Tmp) (v:AV):ASt :=
 match d with
 | some d=>⟨ak st.slots d v,st.boxes,st.out⟩
 | none=>st
def ASt.look (st:ASt):Look:=fun i=>nth none st.boxes i
def ASt.ac (st:ASt) (i:Nat) (b:Option BC):ASt:=⟨st.slots,ak st.boxes i b,st.out⟩
def leads:Bool->List Nat->Way->Bool
 | strict,[],p=>match p with | []=>!strict|_=>true
 | _,_::_,[]=>false
 | strict,a::l,(_,j)::p=>a.beq j&&leads strict l p
def eQ (i r:Nat) (js:List Nat) (strict:Bool) (i' r':Nat) (p:Way):Bool:=i.beq i'&&r.beq r'&&leads strict js p
def CA.drop (i r:Nat) (js:List Nat) (strict:Bool) (c:CA):CA :=
 match c with
 | .tptr i' r' p _ _=>bif eQ i r js strict i' r' p then .junk else c
 | .sref i' r' p=>bif eQ i r js strict i' r' p then .junk else c
 | .swin i' r' p _ _=>bif eQ i r js strict i' r' p then .junk else c
 | c=>c
def mapC (f:CA->CA):List CA->List CA
 | []=>[]
 | c::l=>f c::mapC f l
def kD (f:CA->CA):List (Bool × List CA)->List (Bool × List CA)
 | []=>[]
 | (b,cs)::l=>(b,mapC f cs)::kD f l
def AV.cf (f:CA->CA):AV->AV
 | .one c=>.one (f c)
 | .agg cs=>.agg (mapC f cs)
 | .tups cs=>.tups (kD f cs)
 | .tv x=>.tv x
 | .bl b=>.bl b
 | .clo n cs=>.clo n (mapC f cs)
def cH (f:CA->CA):List AV->List AV
 | []=>[]
 | v::l=>v.cf f::cH f l
def BC.bz (f:CA->CA):BC->BC
 | .cells cs=>.cells (mapC f cs)
 | b=>b
def eR (f:CA->CA):List (Option BC)->List (Option BC)
 | []=>[]
 | some b::l=>some (b.bz f)::eR f l
 | none::l=>none::eR f l
def ASt.aw (f:CA->CA) (st:ASt):ASt:=⟨cH f st.slots,eR f st.boxes,cH f st.out⟩
def CA.unM (i:Nat):CA->CA
 | .may j ty=>bif j.beq i then .junk else .may j ty
 | c=>c
def ASt.bv (st:ASt) (i:Nat) (b:BC):Option ASt :=
 match st.look i with
 | some _=>none
 | none=>bif i.blt st.boxes.length then some (st.ac i (some b))else none
def Prim.app (st:ASt) (d:Option Tmp):Prim->Option ASt
 | .drop i r js strict=>some (st.aw (CA.drop i r js strict))
 | .root i r x=>match ct st.look i r x with
  | some b=>some (st.ac i (some b))
  | none=>none
 | .frz i r => match ce st.look i r with
  | some x=>match ct st.look i r (Ab.frz x)with
   | some b=>some (st.ac i (some b))
   | none=>none
  | none=>none
 | .unmay i=>some (st.aw (CA.unM i))
 | .newB b=>match d with
  | some d=>st.bv (st.nid (some d)) b
  | none=>none
 | .setB i cs=>match st.look i with
  | some (.cells _)=>some (st.ac i (some (.cells cs)))
  | _=>none
def ae (d:Option Tmp):List Prim->ASt->Option ASt
 | [],st=>some st
 | p::l,st=>match p.app st d with
  | some st=>ae d l st
  | none=>none
def Eff.app (st:ASt) (d:Option Tmp):Eff->Option ASt
 | .val v=>some (st.put d v)
 | .new b v => match d with
  | none=>none
  | some d=>match st.bv (st.nid (some d)) b with
   | some st=>some (st.put (some d) v)
   | none=>none
 | .upd i b v=>some ((st.ac i (some b)).put d v)
 | .gen ps v=>match ae d ps st with
  | some st=>some (st.put d v)
  | none=>none
def banned (ban:List Nat) (look:Look):Look:=fun i=>bif bT i ban then none else look i
inductive Cls where
 | N|R|A|B|W|P|X
def aq:Op->Cls
 | .move _ | .assign _ | .pick _ _ _ | .build _ _ | .nilCheck _ | .unOp _ _ _ | .fieldAddr _ _ _ | .field _ _ _ | .index _ _ _ | .extract _ _ | .makeFunc _ _ _ | .makeInterface _ _ | .typeAssert _ _ _ _=>.N
 | .load _ _ | .binOp _ _ _ _ _ | .slice _ _ _ _ _ | .indexAddr _ _ _ | .convert _ _ _=>.R
 | .alloc _ | .box _ _ | .makeSlice _ _ _=>.A
 | .call ⟨.builtin .len,_,_⟩=>.R
 | .call ⟨.builtin .min,_,_⟩=>.R
 | .call ⟨.builtin .max,_,_⟩=>.R
 | .call ⟨.value (.func _),_,_⟩=>.B
 | .call ⟨.value (.tmp _),_,_⟩=>.B
 | .buildSlice _ _ _=>.B
 | .store _ _ _=>.W
 | .call ⟨.builtin .append,_,_⟩=>.P
 | _=>.X
def Cls.isX:Cls->Bool
 | .X=>true
 | _=>false
def Cls.makes:Cls->Bool
 | .A=>true
 | .B=>true
 | .P=>true
 | _=>false
def Cls.reads:Cls->Bool
 | .R=>true
 | .B=>true
 | .W=>true
 | .P=>true
 | _=>false
def kO:Cls->Cls->Bool
 | .X,_=>false
 | _,.X=>false
 | .P,.P=>false
 | .P,.W=>false
 | .W,.P=>false
 | _,_=>true
def jy:List Operand->List Nat
 | []=>[]
 | .tmp t::l=>t::jy l
 | _::l=>jy l
def o5 (ops:List Oper) (o:Oper):List Nat :=
 match o.guard with
 | some (j,_)=>(match (ops[j]?).bind (·.dst)with|some g=>[g]|none=>[])
 | none=>[]
def looks (ops:List Oper) (o:Oper):List Nat:=o5 ops o++jy o.op.operands.toList
def gk (d:Option Nat) (l:List Nat):Bool :=
 match d with
 | some d=>!bT d l
 | none=>true
def aE (o:Op):Option Nat:=match aq o,o.operands.toList with
 | .P,.tmp s::_=>some s
 | _,_=>none
def Eff.plain:Eff->Bool
 | .val _=>true
 | .new _ _=>true
 | .upd _ _ _=>true
 | _=>false
structure Item where
 o:Oper
 ban:List Nat × List Nat
 dr:Bool
 own:List (List Nat × List Nat)
 push:List Nat
 root:Nat
 loose:Bool
 shut:Bool
 lds:List (List Nat × List Nat)
 dull:List Nat
 dull2:List Nat
def bE (b:List Nat × List Nat) (base:Nat):List Nat:=b.1.map (base + ·)++b.2.map (· / 2)
def Eff.qU (base:Nat) (own:List (List Nat × List Nat)):Eff->Bool
 | .upd i _ _=>own.all fun l=>bT i (bE l base)
 | _=>true
def ASt.base (st:ASt):Nat:=dl+st.out.length
def uo:CA->List Nat
 | .ptr i _=>[i]
 | .tptr i _ _ _ _=>[i]
 | .sref i _ _=>[i]
 | .swin i _ _ _ _=>[i]
 | .may i _=>[i]
 | .aptr i _ _ _=>[i]
 | .ifp _ i=>[i]
 | .fn1 _ i=>[i]
 | .psl i _=>[i]
 | _=>[]
def mQ:List CA->List Nat
 | []=>[]
 | c::l=>uo c++mQ l
def vD:List (Bool × List CA)->List Nat
 | []=>[]
 | (_,cs)::l=>mQ cs++vD l
def AV.iq:AV->List Nat
 | .one c=>uo c
 | .agg cs=>mQ cs
 | .tups cs=>vD cs
 | .tv _=>[]
 | .bl _=>[]
 | .clo _ cs=>mQ cs
def ju:List AV->List Nat
 | []=>[]
 | v::l=>v.iq++ju l
def BC.ny:BC->List Nat
 | .cells cs=>mQ cs
 | .tree _=>[]
def eY:Eff->List Nat
 | .val v=>v.iq
 | .new b v=>b.ny++v.iq
 | .upd _ b v=>b.ny++v.iq
 | .gen _ v=>v.iq
def cO (ps:List Nat) (st:ASt) (d:Option Nat) (e:Eff):Bool :=
 ps.all fun s=>!bT (st.base+s) (eY e)&&(match d with|some d=>!bT (st.base+s) (nth (.one .junk) st.slots d).iq|none=>true)
def fu (k:Nat):List (Option BC)->Bool
 | []=>true
 | some b::l=>!bT k b.ny&&fu k l
 | none::l=>fu k l
def kU (it:Item) (st:ASt) (e:Eff):Bool:=false
def cX:List AV->Bool
 | []=>true
 | v::l=>(match v.tv? with|some _=>true|none=>false)&&cX l
def iL:Eff->Bool
 | .val _=>true
 | .new (.tree _) _=>true
 | _=>false
def vB (n:Nat):List Nat->Bool
 | []=>true
 | k::l=>k.beq n&&vB n l
def ie (i:Item) (st:ASt) (e:Eff):Bool:=cX (i.o.op.operands.toList.map st.ev)&&(iL e&&vB (st.nid i.o.dst) (eY e))
def se:List Prim->List Nat
 | []=>[]
 | .drop i _ _ _::l=>i::se l
 | .root i _ _::l=>i::se l
 | _::l=>se l
def m8:Eff->List Nat
 | .gen ps _=>se ps
 | _=>[]
def drP:Prim->Bool
 | .drop _ _ _ _=>true
 | .root _ _ _=>true
 | .newB _=>true
 | _=>false
def drE:Eff->Bool
 | .gen ps _=>ps.all drP
 | .upd _ _ _=>false
 | _=>true
def CA.deep:CA->CA
 | .tptr i r p k j=>match p with | []=>.junk|_=>.tptr i r p k j
 | .sref i r p=>match p with | []=>.junk|_=>.sref i r p
 | .swin i r p lo len=>match p with | []=>.junk|_=>.swin i r p lo len
 | c=>c
def fb (k:Nat):List (Option BC)->Bool
 | []=>true
 | some b::l=>!bT k (b.bz CA.deep).ny&&fb k l
 | none::l=>fb k l
def FU (k:Nat):Prim->Bool
 | .drop i _ js _=>!(i.beq k) || !js.isEmpty
 | _=>true
def uI (k:Nat):Eff->Bool
 | .gen ps _=>ps.all (FU k)
 | _=>true
def Aj (o:Oper):Bool:=match o.op with
 | .store _ _ _=>o.guard.isNone&&o.dst.isNone
 | _=>false
def mV (o:Oper):Bool:=(aE o.op).isSome||Aj o
def cC (i:Item) (st:ASt) (e:Eff):Bool:=i.lds.all fun l=>drE e&&(m8 e).all fun k =>
 (bT k (l.1.map (st.base + ·))&&fu k st.boxes)||(mV i.o&&((bT (2*k) l.2&&fu k st.boxes)||(bT (2*k+1) l.2&&(uI k e&&fb k st.boxes))))
def jc (st:ASt) (d:Option Nat) (b:Nat):Bool:=match d with|some d=>!bT b (nth (.one .junk) st.slots d).iq|none=>true
def gT (st:ASt) (d:Option Nat) (b:Nat):Bool:=match d with|some d=>!bT b ((nth (.one .junk) st.slots d).cf CA.deep).iq|none=>true
def nL:Eff->List Nat
 | .val v=>(v.cf CA.deep).iq
 | e=>eY e
def dD (i:Item) (st:ASt) (e:Eff):Bool:=(i.dull.all fun s=>!bT (st.base+s) (ju (i.o.op.operands.toList.map st.ev))) &&
 (i.dull2.all fun b => bif (b % 2).beq 0 then !bT (b / 2) (eY e) && (jc st i.o.dst (b / 2) && !bT (b / 2) (ju (i.o.op.operands.toList.map st.ev)))
  else !bT (b / 2) (nL e)&&(gT st i.o.dst (b / 2) && !bT (b / 2) (ju (cH CA.deep (i.o.op.operands.toList.map st.ev)))))
def okE (i:Item) (st:ASt) (e:Eff):Bool:=(i.loose&&cC i st e)||((bif i.shut then ie i st e else e.plain&&e.qU st.base i.own&&(cO i.push st i.o.dst e&&dD i st e))||kU i st e)
def effQ {R:Type} (i:Item) (st:ASt) (K:ASt->Prg R) (e:Eff):Prg R :=
 bif i.dr && !(okE i st e)then .fail else
 match e.app st i.o.dst with
 | some st=>K st
 | none=>.fail
def mO {R:Type} (E:Env) (i:Item) (K:ASt->Prg R) (st:ASt):Prg R :=
 (opL E (st.nid i.o.dst) (banned (bE i.ban st.base) st.look) i.o.op (i.o.op.operands.toList.map st.ev)).bind (effQ i st K)
def dZ (o:Oper) (st:ASt):ASt:=st.put o.dst (.one .undef)
def opQ {R:Type} (E:Env) (ops:List Oper) (i:Item) (K:ASt->Prg R) (st:ASt):Prg R :=
 match i.o.guard with
 | none=>mO E i K st
 | some (j, want) => match ((ops[j]?).bind (·.dst)) with
  | none=>.fail
  | some g=>match nth (.one .junk) st.slots g with
   | .one .undef=>K (dZ i.o st)
   | .bl b=>bif b then(bif want then mO E i K st else K (dZ i.o st))else(bif want then K (dZ i.o st)else mO E i K st)
   | .one (.t v) => .ite (asBool v)
     (bif want then mO E i K (st.put (some g) (.bl true))else K (dZ i.o (st.put (some g) (.bl true))))
     (bif want then K (dZ i.o (st.put (some g) (.bl false)))else mO E i K (st.put (some g) (.bl false)))
   | .tv v => .ite (asBool v)
     (bif want then mO E i K (st.put (some g) (.bl true))else K (dZ i.o (st.put (some g) (.bl true))))
     (bif want then K (dZ i.o (st.put (some g) (.bl false)))else mO E i K (st.put (some g) (.bl false)))
   | _=>.fail
def lG {α R:Type}:List α->(List α->R)->R
 | [],k=>k []
 | a::l,k=>lG l (fun l'=>k (a::l'))
theorem l6 {α R:Type}:∀(l:List α) (k:List α->R),lG l k=k l
 | [],_=>rfl
 | a::l,k=>l6 l (fun l'=>k (a::l'))
def iy {R:Type} (K:ASt->R) (st:ASt):R:=lG st.slots fun sl=>lG st.boxes fun bx=>K ⟨sl,bx,st.out⟩
theorem kN {R:Type} (K:ASt->R):iy K=K:=by
 funext st;simp only[iy,l6]
def yT {R:Type} (K:ASt->R) (st:ASt):R:=lG st.slots fun sl=>lG st.boxes fun bx=>lG st.out fun ou=>K ⟨sl,bx,ou⟩
theorem vb {R:Type} (K:ASt->R):yT K=K:=by
 funext st;simp only[yT,l6]
def fN {R:Type} (n:Nat) (k:Nat->R):R:=match n with|0=>k 0|m+1=>k (m+1)
theorem Aw {R:Type} (n:Nat) (k:Nat->R):fN n k=k n:=by cases n<;>rfl
def fNs {R:Type}:List Nat->(List Nat->R)->R
 | [],k=>k []
 | n::l,k=>fN n fun n=>fNs l fun l=>k (n::l)
theorem pD {R:Type}:∀(l:List Nat) (k:List Nat->R),fNs l k=k l
 | [],_=>rfl
 | n::l,k=>by simp only[fNs,Aw,pD l]
def fW {R:Type}:Way->(Way->R)->R
 | [],k=>k []
 | (a,j)::l,k=>fN j fun j=>fW l fun l=>k ((a,j)::l)
theorem F5 {R:Type}:∀(l:Way) (k:Way->R),fW l k=k l
 | [],_=>rfl
 | (a,j)::l,k=>by simp only[fW,Aw,F5 l]
def fC {R:Type} (c:CA) (k:CA->R):R :=
 match c with
 | .t x=>k (.t x)
 | .ptr i off=>fN i fun i=>fN off fun off=>k (.ptr i off)
 | .ref x off=>fN off fun off=>k (.ref x off)
 | .tptr i r p n j=>fN i fun i=>fN r fun r=>fW p fun p=>fN j fun j=>k (.tptr i r p n j)
 | .sref i r p=>fN i fun i=>fN r fun r=>fW p fun p=>k (.sref i r p)
 | .swin i r p lo len=>fN i fun i=>fN r fun r=>fW p fun p=>k (.swin i r p lo len)
 | .may i ty=>fN i fun i=>k (.may i ty)
 | .aptr i off len n=>fN i fun i=>fN off fun off=>k (.aptr i off len n)
 | .yl n=>fN n fun n=>k (.yl n)
 | .ifp t i=>fN i fun i=>k (.ifp t i)
 | .fn1 f i=>fN f fun f=>fN i fun i=>k (.fn1 f i)
 | .psl i n=>fN i fun i=>fN n fun n=>k (.psl i n)
 | .undef=>k .undef
 | .junk=>k .junk
theorem FQ {R:Type} (c:CA) (k:CA->R):fC c k=k c:=by cases c<;>simp only[fC,Aw,F5]
def fCs {R:Type}:List CA->(List CA->R)->R
 | [],k=>k []
 | c::l,k=>fC c fun c=>fCs l fun l=>k (c::l)
theorem wH {R:Type}:∀(l:List CA) (k:List CA->R),fCs l k=k l
 | [],_=>rfl
 | c::l,k=>by simp only[fCs,FQ,wH l]
def fTs {R:Type}:List (Bool × List CA)->(List (Bool × List CA)->R)->R
 | [],k=>k []
 | (b,c)::l,k=>fCs c fun c=>fTs l fun l=>k ((b,c)::l)
theorem Dv {R:Type}:∀(l:List (Bool × List CA)) (k:List (Bool × List CA)->R),fTs l k=k l
 | [],_=>rfl
 | (b,c)::l,k=>by simp only[fTs,wH,Dv l]
def fA {R:Type} (v:AV) (k:AV->R):R :=
 match v with
 | .one c=>fC c fun c=>k (.one c)
 | .agg cs=>fCs cs fun cs=>k (.agg cs)
 | .tv x=>k (.tv x)
 | .tups l=>fTs l fun l=>k (.tups l)
 | .bl b=>k (.bl b)
 | .clo n cs=>fN n fun n=>fCs cs fun cs=>k (.clo n cs)
theorem fA_eq {R:Type} (v:AV) (k:AV->R):fA v k=k v:=by cases v<;>simp only[fA,FQ,wH,Dv,Aw]
def fAs {R:Type}:List AV->(List AV->R)->R
 | [],k=>k []
 | c::l,k=>fA c fun c=>fAs l fun l=>k (c::l)
theorem C3 {R:Type}:∀(l:List AV) (k:List AV->R),fAs l k=k l
 | [],_=>rfl
 | c::l,k=>by simp only[fAs,fA_eq,C3 l]
def fB {R:Type} (b:Option BC) (k:Option BC->R):R :=
 match b with
 | none=>k none
 | some (.cells cs)=>fCs cs fun cs=>k (some (.cells cs))
 | some (.tree xs)=>lG xs fun xs=>k (some (.tree xs))
theorem fB_eq {R:Type} (b:Option BC) (k:Option BC->R):fB b k=k b:=by
 match b with
 | none=>rfl
 | some (.cells cs)=>simp only[fB,wH]
 | some (.tree xs)=>simp only[fB,l6]
def fBs {R:Type}:List (Option BC)->(List (Option BC)->R)->R
 | [],k=>k []
 | c::l,k=>fB c fun c=>fBs l fun l=>k (c::l)
theorem Dm {R:Type}:∀(l:List (Option BC)) (k:List (Option BC)->R),fBs l k=k l
 | [],_=>rfl
 | c::l,k=>by simp only[fBs,fB_eq,Dm l]
def lV {R:Type} (K:ASt->R) (st:ASt):R:=fAs st.slots fun sl=>fBs st.boxes fun bx=>fAs st.out fun ou=>K ⟨sl,bx,ou⟩
theorem dQ {R:Type} (K:ASt->R):lV K=K:=by
 funext st;simp only[lV,C3,Dm]
def Et {R:Type} (E:Env) (ops:List Oper):List Item->(ASt->Prg R)->ASt->Prg R
 | [],K,st=>K st
 | i::rest,K,st=>opQ E ops i (iy (Et E ops rest K)) st
def unlike (a b:Option Nat):Bool :=
 match a,b with
 | some a,some b=>!a.beq b
 | _,_=>true
def tP (s:Nat):List Oper->Option Oper
 | []=>none
 | o::l=>match o.dst with
  | some d=>bif d.beq s then some o else tP s l
  | none=>tP s l
def kL (ops:List Oper):Nat->Nat->Nat
 | 0,s=>s
 | n+1,s=>match tP s ops with
  | some o=>(match aE o.op with|some s'=>kL ops n s'|none=>s)
  | none=>s
def gQ (ops:List Oper) (o:Oper):Option Nat:=match aE o.op with
 | some s=>some (kL ops 20 s)
 | none=>none
def vE (ops:List Oper) (x y:Oper):Bool :=
 match aE x.op with
 | some s=>x.guard.isNone&&y.guard.isNone && !bT s (looks ops y)&&gk y.dst [kL ops 20 s]
 | none=>true
def cG (ops:List Oper) (x y:Oper):Bool :=
 kO (aq x.op) (aq y.op)&&gk x.dst (looks ops y)&&gk y.dst (looks ops x)&&unlike x.dst y.dst&&(vE ops x y&&vE ops y x)
def gh (acc:List Nat):List Edge->Nat
 | []=>0
 | e::es=>bif Region.binds .any e then(gh acc es ||| 2 ^ e.on) ||| nth 0 acc e.on else gh acc es
def bQ (acc:List Nat):List Oper->List Nat
 | []=>acc
 | o::rest=>bQ (acc ++ [gh acc o.after.toList]) rest
def behind (ops:List Oper):List Nat:=bQ [] ops
def fg (i:Nat):List Edge->Bool
 | []=>true
 | e::es=>bif Region.binds .any e then(bif e.on.blt i then fg i es else false)else fg i es
def pL (all:List Oper) (o:Oper):List Nat :=
 (match o.dst with|some d=>bif (aq o.op).makes then [d]else []|none=>[])++(match gQ all o with|some s=>[s]|none=>[])
def lc (bs:List Nat) (j:Nat) (all:List Oper):Nat->List Oper->List Nat
 | _,[]=>[]
 | i,o::rest=>bif !(i.beq j) && !((nth 0 bs j).testBit i) && !((nth 0 bs i).testBit j)then pL all o++lc bs j all (i+1) rest else lc bs j all (i+1) rest
def jW (bs:List Nat) (j:Nat) (all:List Oper):Nat->List Oper->List Nat
 | _,[]=>[]
 | i,o::rest=>bif !(i.beq j) && !((nth 0 bs j).testBit i) && !((nth 0 bs i).testBit j)then(match gQ all o with|some s=>s::jW bs j all (i+1) rest|none=>jW bs j all (i+1) rest)else jW bs j all (i+1) rest
def gS (ex:List (List Nat)) (bs:List Nat) (j:Nat) (all:List Oper):Nat->List Oper->List (List Nat × List Nat)
 | _,[]=>[]
 | k,o::rest=>bif (aq o.op).reads && !(k.beq j) && !((nth 0 bs j).testBit k) && !((nth 0 bs k).testBit j)then(lc bs k all 0 all,nth [] ex k)::gS ex bs j all (k+1) rest else gS ex bs j all (k+1) rest
def FS (st:ASt) (ops:List Oper):Nat->Nat->List Nat
 | 0,_=>[]
 | n + 1, s => match tP s ops with
  | some o=>(match o.op,o.op.operands.toList with
   | .fieldAddr _ _ _,.tmp a::_=>FS st ops n a
   | _,_=>[])
  | none=>(match nth (.one .junk) st.slots s with | .one (.ptr i _)=>[2*i]|_=>[])
def EO (st:ASt) (ops:List Oper) (o:Oper):List Nat :=
 match o.op with
 | .store _ (.tmp a) _=>FS st ops 20 a
 | _=>[]
def mm (ops:List Oper):Nat->Nat->Nat
 | 0,s=>s
 | n + 1, s => match tP s ops with
  | some o=>(match aq o.op,o.op.operands.toList with
   | .N,.tmp a::_=>mm ops n a
   | .R,.tmp a::_=>mm ops n a
   | _,_=>s)
  | none=>s
def xg (ops : List Oper) : Nat → Nat → Bool
 | 0,_=>false
 | n + 1, s => match tP s ops with
  | some o => (match o.op with
   | .indexAddr _ _ _=>true
   | _=>match aq o.op,o.op.operands.toList with
    | .N,.tmp a::_=>xg ops n a
    | .R,.tmp a::_=>xg ops n a
    | _,_=>false)
  | none=>false
def AY (look:Look):List Nat->List Nat
 | []=>[]
 | j::l=>(match look j with
  | some (.cells cs)=>mQ cs
  | _=>[j])++AY look l
def AR (st:ASt) (s:Nat):List Nat:=AY st.look (nth (.one .junk) st.slots s).iq
def Ce (st:ASt) (all:List Oper) (o:Oper):List Nat :=
 match aE o.op with
 | some s=>(match tP (mm all 20 s) all with
  | none=>bif xg all 20 s then(AR st (mm all 20 s)).map (fun i=>2*i+1)else(nth (.one .junk) st.slots (mm all 20 s)).iq.map (2 * ·)
  | some _=>[])
 | none=>[]
def zP (st:ASt) (all:List Oper) (o:Oper):List Nat :=
 match o.op with
 | .store _ (.tmp a) _=>bif xg all 20 a then(AR st (mm all 20 a)).map (fun i=>2*i+1)else []
 | _=>[]
def yr (T:Tab) (all:List Oper):Nat->List Oper->List Nat
 | _,[]=>[]
 | j,o::rest=>(match o.op with
  | .store t (.tmp a) _=>(match T t with|some d=>bif gI d.zero&&xg all 20 a then [j]else []|none=>[])
  | _=>[])++yr T all (j+1) rest
def exAt (st:ASt) (all:List Oper) (bs:List Nat) (j:Nat):Nat->List Oper->List Nat
 | _,[]=>[]
 | k,o::rest=>bif !(k.beq j) && !((nth 0 bs j).testBit k) && !((nth 0 bs k).testBit j)then EO st all o++(zP st all o++(Ce st all o++exAt st all bs j (k+1) rest))else exAt st all bs j (k+1) rest
def Ex (st:ASt) (bs:List Nat) (all:List Oper):Nat->List Oper->List (List Nat)
 | _,[]=>[]
 | j,_::rest=>exAt st all bs j 0 all::Ex st bs all (j+1) rest
def exQ (T:Tab) (st:ASt) (ops:List Oper):List (List Nat):=Ex st (behind ops) ops 0 ops ++ [yr T ops 0 ops]
def besides (bs:List Nat) (j:Nat):Nat->List Oper->Bool
 | _,[]=>false
 | i,_::rest=>bif !(i.beq j) && !((nth 0 bs j).testBit i) && !((nth 0 bs i).testBit j)then true else besides bs j (i+1) rest
def fp (o:Oper):Bool:=match o.op with
 | .move _=>o.guard.isNone&&o.dst.isSome
 | _=>false
def bY (bs:List Nat) (j:Nat):Nat->List Oper->Bool
 | _,[]=>true
 | i,o::rest=>bif !(i.beq j) && !((nth 0 bs j).testBit i) && !((nth 0 bs i).testBit j)then fp o&&bY bs j (i+1) rest else bY bs j (i+1) rest
def gN (o:Oper):Bool:=match o.op with
 | .call ⟨.value (.func _),_,_⟩=>o.guard.isNone&&o.dst.isSome
 | _=>false
def eM (o:Oper):Bool:=match o.op with
 | .buildSlice _ _ _=>o.guard.isNone&&o.dst.isSome
 | _=>false
def iz (o:Oper):Bool:=match aq o.op with
 | .N=>o.guard.isNone&&o.dst.isSome
 | .R=>o.guard.isNone&&o.dst.isSome
 | _=>false
def beB (bs:List Nat) (j i:Nat):Bool:=!(i.beq j) && !((nth 0 bs j).testBit i) && !((nth 0 bs i).testBit j)
def fq (bs:List Nat) (j:Nat):Nat->List Oper->Bool
 | _,[]=>true
 | i,o::rest=>bif beB bs j i then(fp o||eM o||iz o)&&fq bs j (i+1) rest else fq bs j (i+1) rest
def eo (bs:List Nat) (all:List Oper) (j:Nat):Nat->List Oper->Bool
 | _,[]=>true
 | i,o::rest=>bif beB bs j i then(fp o||(gN o&&fq bs i 0 all))&&eo bs all j (i+1) rest else eo bs all j (i+1) rest
def ew (bs:List Nat) (j:Nat):Nat->List Oper->Bool
 | _,[]=>true
 | i,o::rest=>bif beB bs j i then(fp o||(iz o&&i.blt j))&&ew bs j (i+1) rest else ew bs j (i+1) rest
def ng (bs:List Nat) (j:Nat) (all:List Oper) (o:Oper):Bool:=false
def iY (bs:List Nat) (all:List Oper):Nat->List Oper->Bool
 | _,[]=>true
 | j,o::rest=>(match aE o.op with|some _=>bY bs j 0 all||ng bs j all o|none=>true)&&iY bs all (j+1) rest
def lh (sl:List Nat) (bs:List Nat) (j:Nat) (all:List Oper) (o:Oper):Bool:=bT j sl&&Aj o&&(!bY bs j 0 all&&ew bs j 0 all)
def jD (sl:List Nat) (bs:List Nat) (all:List Oper) (j:Nat):Nat->List Oper->Bool
 | _,[]=>false
 | i,o::rest=>bif beB bs j i&&(ng bs i all o||lh sl bs i all o)then true else jD sl bs all j (i+1) rest
def lF (bs:List Nat) (all:List Oper):Nat->List Oper->Bool
 | _,[]=>true
 | j,o::rest=>(!eM o||(eo bs all j 0 all||ew bs j 0 all))&&lF bs all (j+1) rest
def pB (ex:List (List Nat)) (bs:List Nat) (j:Nat) (all:List Oper):Nat->List Oper->List (List Nat × List Nat)
 | _,[]=>[]
 | k,o::rest=>bif beB bs j k&&(iz o && !fp o)then(lc bs k all 0 all,nth [] ex k)::pB ex bs j all (k+1) rest else pB ex bs j all (k+1) rest
def gH (bs:List Nat) (j:Nat):Nat->List Oper->Bool
 | _,[]=>false
 | i,o::rest=>bif beB bs j i&&eM o then true else gH bs j (i+1) rest
def pp (ex:List (List Nat)) (ops:List Oper) (bs:List Nat) (j:Nat) (o:Oper):List Nat:=bif iY bs ops 0 ops&&(iz o && !fp o)&&((lF bs ops 0 ops&&gH bs j 0 ops)||jD (nth [] ex ops.length) bs ops j 0 ops)then lc bs j ops 0 ops else []
def dull2At (ex:List (List Nat)) (ops:List Oper) (bs:List Nat) (j:Nat) (o:Oper):List Nat:=bif iY bs ops 0 ops&&(iz o && !fp o)&&jD (nth [] ex ops.length) bs ops j 0 ops then nth [] ex j else []
def af (ex:List (List Nat)) (ops:List Oper) (bs:List Nat) (j:Nat) (o:Oper):Item:=⟨o,(lc bs j ops 0 ops,nth [] ex j),besides bs j 0 ops,bif lh (nth [] ex ops.length) bs j ops o then([],[])::gS ex bs j ops 0 ops else gS ex bs j ops 0 ops,jW bs j ops 0 ops++pp ex ops bs j o,match gQ ops o with|some m=>m|none=>0,iY bs ops 0 ops&&(fp o||bY bs j 0 ops||(lF bs ops 0 ops&&eM o)||ng bs j ops o||lh (nth [] ex ops.length) bs j ops o),iY bs ops 0 ops&&lF bs ops 0 ops&&gN o&&gH bs j 0 ops,bif (eM o && !eo bs ops j 0 ops)||ng bs j ops o||lh (nth [] ex ops.length) bs j ops o then pB ex bs j ops 0 ops else [],pp ex ops bs j o,dull2At ex ops bs j o⟩
def mC (ex:List (List Nat)) (ops:List Oper) (bs:List Nat):Nat->List Oper->List Item
 | _,[]=>[]
 | j,o::rest=>af ex ops bs j o::mC ex ops bs (j+1) rest
def mc (ops:List Oper) (m:Nat) (y:Oper) (j:Nat):Nat->List Oper->Bool
 | _,[]=>true
 | i,x::rest=>bif i.blt j then(bif m.testBit i||cG ops x y then mc ops m y j (i+1) rest else false)else true
def AE (ops:List Oper) (bs:List Nat):Nat->List Oper->Bool
 | _,[]=>true
 | j,y::rest=>bif fg j y.after.toList&&mc ops (nth 0 bs j) y j 0 ops then AE ops bs (j+1) rest else false
def bC (ops:List Oper):Bool:=AE ops (behind ops) 0 ops
def dw:List Oper->List Item
 | []=>[]
 | o::rest=>⟨o,([],[]),false,[],[],0,false,false,[],[],[]⟩::dw rest
def kb {R:Type} (E:Env) (ops:List Oper) (draw:Bool) (K:ASt->Prg R) (st:ASt):Prg R :=
 bif draw then(bif bC ops then Et E ops (mC (exQ E.T st ops) ops (behind ops) 0 ops) K st else .fail)
 else Et E ops (dw ops) K st
structure Ann where
 keep:List Nat
 own:List Nat
 ownB:List (Nat × Nat)
 kill:List Nat
 frz:List (Nat × Nat)
def gW {α:Type} (d:α) (ks:List Nat):Nat->List α->List α
 | _,[]=>[]
 | n,a::l=>(bif bT n ks then a else d)::gW d ks (n+1) l
def eP (n:Nat):List (Option BC)->Nat
 | []=>n
 | none::_=>n
 | some _::l=>eP (n+1) l
def cu:Nat->List TV->List TV
 | 0,l=>l
 | n+1,l=>.hole::cu n l
def uD (xs:List TV) (r idx:Nat):Bool:=r.beq idx&&xs.length.beq (idx+1)
def jT (st:ASt) (i r idx:Nat):Option ASt :=
 match st.look i with
 | some (.tree xs)=>bif uD xs r idx then none else match xs[r]? with
  | some x=>((st.aw (CA.drop i r [] false)).ac i (some (.tree (ak xs r .hole)))).bv (eP 0 st.boxes) (.tree (cu idx [x]))
  | none=>none
 | _=>none
def AF {R:Type} (st:ASt) (s:Nat) (k:ASt->Prg R):Prg R :=
 match nth (.one .junk) st.slots s with
 | .one (.sref i r [])=>(match jT st i r 0 with
  | some st'=>k (st'.put (some s) (.one (.sref (eP 0 st.boxes) 0 [])))
  | none=>k st)
 | .one (.sref _ _ (_::_))=>k st
 | .one (.swin i r [] lo len) => match ce st.look i r with
  | some x=>.tv (li lo len x) fun y=>(match ct (st.aw (CA.drop i r [] false)).look i r y with
   | some b=>k (((st.aw (CA.drop i r [] false)).ac i (some b)).put (some s) (.one (.sref i r [])))
   | none=>.fail)
  | none=>.fail
 | v => match v.tv? with
  | some x=>.chk x.isSl (match st.bv (eP 0 st.boxes) (.tree [x])with
   | some st'=>k (st'.put (some s) (.one (.sref (eP 0 st.boxes) 0 [])))
   | none=>.fail)
  | none=>.fail
def ph {R:Type}:List Nat->ASt->(ASt->Prg R)->Prg R
 | [],st,k=>k st
 | s::l,st,k=>AF st s fun st=>ph l st k
def nc (cs:List CA) (c:Nat):Nat:=match cs with | .may _ _::_=>c|_=>0
def vN {R : Type} (st : ASt) (i c : Nat) (k : ASt → Prg R) : Prg R :=
 match st.look i with
 | some (.cells cs) => match nth .junk cs c with
  | .sref i' r [] => (match jT st i' r (nc cs c) with
   | some st'=>(match st'.look i with
    | some (.cells cs')=>k (st'.ac i (some (.cells (ak cs' c (.sref (eP 0 st.boxes) (nc cs c) [])))))
    | _=>k st)
   | none=>k st)
  | _=>k st
 | _=>k st
def AX {R : Type} (st : ASt) (s c : Nat) (k : ASt → Prg R) : Prg R :=
 match nth (.one .junk) st.slots s with
 | .one (.ptr i _) => match st.look i with
  | some (.cells cs) => match nth .junk cs c with
   | .sref _ _ []=>vN st i c k
   | .sref _ _ (_::_)=>k st
   | .swin i' r [] lo len => match ce st.look i' r with
    | some x => .tv (li lo len x) fun y => (match ct (st.aw (CA.drop i' r [] false)).look i' r y with
     | some b=>(match ((st.aw (CA.drop i' r [] false)).ac i' (some b)).look i with
      | some (.cells cs')=>vN (((st.aw (CA.drop i' r [] false)).ac i' (some b)).ac i (some (.cells (ak cs' c (.sref i' r []))))) i c k
      | _=>.fail)
     | none=>.fail)
    | none=>.fail
   | .t x=>.chk x.isSl (match st.bv (eP 0 st.boxes) (.tree (cu (nc cs c) [x]))with
    | some st'=>k (st'.ac i (some (.cells (ak cs c (.sref (eP 0 st.boxes) (nc cs c) [])))))
    | none=>.fail)
   | _=>.fail
  | _=>.fail
 | _=>.fail
def As {R : Type} (st : ASt) (i c : Nat) (k : ASt → Prg R) : Prg R :=
 match st.look i with
 | some (.cells cs) => match nth .junk cs c with
  | .sref i' r (q :: p) => match ce st.look i' r with
   | some x => .tv (a7 (q :: p) x) fun y => .tv (ix (q :: p) x .hole) fun x' => (match ae none [.drop i' r (bu (q :: p)) false, .root i' r x'] st with
    | some st1=>(match st1.look i,st1.bv (eP 0 st.boxes) (.tree (cu (nc cs c) [y]))with
     | some (.cells cs1),some st2=>k (st2.ac i (some (.cells (ak cs1 c (.sref (eP 0 st.boxes) (nc cs c) [])))))
     | _,_=>.fail)
    | none=>.fail)
   | none=>.fail
  | _=>k st
 | _=>k st
def wG {R:Type} (st:ASt) (s c:Nat) (k:ASt->Prg R):Prg R :=
 match nth (.one .junk) st.slots s with
 | .one (.ptr i _)=>As st i c k
 | _=>k st
def iZ {R:Type}:List (Nat × Nat)->ASt->(ASt->Prg R)->Prg R
 | [],st,k=>k st
 | (s,c)::l,st,k=>bif Nat.ble 2000 c then wG st s (c-2000) fun st=>iZ l st k else AX st s c fun st=>iZ l st k
def lx:TV->TV
 | .sl o s xs=>.sl o s (th xs)
 | x=>x
def Eb (st : ASt) (s c : Nat) : ASt :=
 match nth (.one .junk) st.slots s with
 | .one (.ptr i _) => match st.look i with
  | some (.cells cs) => match nth .junk cs (c % 1000) with
   | .sref i' r [] => match st.look i' with
    | some (.tree xs)=>match xs[r]? with
     | some x=>bif Nat.ble 1000 c then st.ac i' (some (.tree (ak xs r (lx x))))else(st.ac i' (some (.tree (ak xs r (frz x))))).ac i (some (.cells (ak cs (c%1000) (.t (frz x)))))
     | none=>st
    | _=>st
   | _=>st
  | _=>st
 | .one (.sref i' r []) => match st.look i' with
  | some (.tree xs)=>match xs[r]? with
   | some x=>bif Nat.ble 1000 c then st else(st.ac i' (some (.tree (ak xs r (frz x))))).put (some s) (.one (.t (frz x)))
   | none=>st
  | _=>st
 | _=>st
def kH:List (Nat × Nat)->ASt->ASt
 | [],st=>st
 | (s,c)::l,st=>kH l (Eb st s c)
def io (st:ASt):List Nat->ASt
 | []=>st
 | s :: l => match nth (.one .junk) st.slots s with
  | .one (.ptr i _)=>(match st.look i with
   | some (.cells cs)=>io (st.ac i (some (.cells (mapC (fun _=>.junk) cs)))) l
   | _=>io st l)
  | _=>io st l
def visit (look:Look):Nat->List Nat->List Nat->List Nat
 | 0,_,seen=>seen
 | _+1,[],seen=>seen
 | n+1,i::l,seen=>bif bT i seen then visit look n l seen else match look i with
  | some b=>visit look n (l++b.ny) (seen ++ [i])
  | none=>visit look n l seen
def jX (i:Nat):Nat->List Nat->Option Nat
 | _,[]=>none
 | n,a::l=>bif a.beq i then some n else jX i (n+1) l
def CA.ren (L:List Nat) (c:CA):CA :=
 match c with
 | .ptr i off=>match jX i 0 L with|some k=>.ptr k off|none=>.junk
 | .tptr i r p k j=>match jX i 0 L with|some m=>.tptr m r p k j|none=>.junk
 | .sref i r p=>match jX i 0 L with|some m=>.sref m r p|none=>.junk
 | .swin i r p lo len=>match jX i 0 L with|some m=>.swin m r p lo len|none=>.junk
 | .may i ty=>match jX i 0 L with|some k=>.may k ty|none=>.junk
 | .aptr i off len n=>match jX i 0 L with|some k=>.aptr k off len n|none=>.junk
 | .ifp ty i=>match jX i 0 L with|some k=>.ifp ty k|none=>.junk
 | .fn1 f i=>match jX i 0 L with|some k=>.fn1 f k|none=>.junk
 | .psl i n=>match jX i 0 L with|some k=>.psl k n|none=>.junk
 | c=>c
def ic:List Nat->Bool
 | []=>true
 | a::l=>!bT a l&&ic l
def oh (look:Look) (f:CA->CA):List Nat->List (Option BC)
 | []=>[]
 | i::l=>(match look i with|some b=>some (b.bz f)|none=>none)::oh look f l
def AV.asTV:AV->AV
 | .one (.t x)=>.tv x
 | .bl b=>.tv (.lit (.bool b))
 | v=>v
def qi:List AV->List AV
 | []=>[]
 | v::l=>v.asTV::qi l
def jd (L:List Nat) (st:ASt):ASt :=
 ⟨qi (cH (CA.ren L) st.slots),oh st.look (CA.ren L) L++List.replicate (st.boxes.length-L.length) none,qi (cH (CA.ren L) st.out)⟩
def ia (ks:List Nat) (st:ASt):ASt:=⟨gW (.one .junk) ks 0 st.slots,st.boxes,st.out⟩
def ip (st:ASt):List Nat:=visit st.look 1000 (ju st.slots++ju st.out) []
def zW {R:Type} (st:ASt) (k:ASt->Prg R):Prg R :=
 bif ic (ip st)&&(ip st).length.ble dl&&dl.ble st.boxes.length then k (jd (ip st) st)else .fail
def uN {R:Type} (an:Ann) (st:ASt) (k:ASt->Prg R):Prg R :=
 ph an.own st fun st=>iZ an.ownB st fun st=>zW (ia an.keep (io (kH an.frz st) an.kill)) k
inductive AEx where
 | normal|ret|exit (id:Nat)
def first:Code->Option Nat
 | .region id _ _=>some id
 | .seq a b=>match first a with
  | some n=>some n
  | none=>first b
 | .cond _ a b=>match first a with
  | some n=>some n
  | none=>first b
 | .block _ c=>first c
 | .loop c=>first c
 | _=>none
def iu (ann:Nat->Option Ann) (c:Code):Option Ann :=
 match first c with
 | some n=>ann n
 | none=>none
def qd {R:Type} (an:Option Ann) (rp:List Nat) (next:ASt->Prg R) (K:AEx->ASt->Prg R):AEx->ASt->Prg R
 | .normal,st=>match an with
  | none=>next st
  | some an=>uN an st fun st=>.jmp rp st
 | e,st=>K e st
def lN {R:Type} (id:Nat) (K:AEx->ASt->Prg R):AEx->ASt->Prg R
 | .exit i,st=>bif i.beq id then K .normal st else K (.exit i) st
 | e,st=>K e st
def u6 {R:Type} (an:Option Ann) (rp:List Nat) (st:ASt):Prg R :=
 match an with
 | none=>.fail
 | some an=>uN an st fun st=>.jmp rp st
def s9 {R:Type} (an:Option Ann) (rp:List Nat) (K:AEx->ASt->Prg R):AEx->ASt->Prg R
 | .normal,st=>u6 an rp st
 | e,st=>K e st
structure Opn where
 fns:FuncId->Option Func
 ann:FuncId->Nat->Option Ann
 jn:FuncId->Nat->Option Ann
 kp:FuncId->Nat->Option (List Nat)
 mth:TypeId->String->Option (FuncId × Bool)
def wP (v:Value):Option (FuncId × List CA):=match v with
 | .func (.func f) ts cs=>bif ts.size.beq 0&&cs.size.beq 0 then some (f,[])else none
 | _=>none
def AV.vR:AV->Option (FuncId × List CA)
 | .clo f cs=>some (f,cs)
 | .one (.fn1 f i)=>some (f,[.ptr i 0])
 | .one (.t (.lit v))=>wP v
 | .tv (.lit v)=>wP v
 | _=>none
def wB (st:ASt) (i:Nat):Bool->Option AV
 | false=>some (.one (.ptr i 0))
 | true=>match st.look i with
  | some (.cells [c])=>bif c.kept then some (.one c)else none
  | _=>none
def F4 (L:Opn) (st:ASt) (v:AV) (name:String):Option (FuncId × AV) :=
 match v with
 | .one (.ifp t i) => match L.mth t name with
  | some (f,d)=>match wB st i d with
   | some r=>some (f,r)
   | none=>none
  | none=>none
 | _=>none
def sM (L:Opn) (st:ASt) (j:Nat):Op->Option (Nat × FuncId × Func × List AV × List CA)
 | .call ⟨.value (.func f),_,_⟩=>match L.fns f with
  | some fn=>some (j,f,fn,[],[])
  | none=>none
 | .call ⟨.value (.tmp t), _, _⟩ => match (nth (.one .junk) st.slots t).vR with
  | some (f,cs)=>match L.fns f with
   | some fn=>some ((f+1)*1000+j,f,fn,[],cs)
   | none=>none
  | none=>none
 | .call ⟨.invoke (.tmp t) name, _, _⟩ => match F4 L st (nth (.one .junk) st.slots t) name with
  | some (f,r)=>match L.fns f with
   | some fn=>some ((f+1)*1000+j,f,fn,[r],[])
   | none=>none
  | none=>none
 | _=>none
def EU (L:Opn):Op->Bool
 | .call ⟨.value (.func f),_,_⟩=>(L.fns f).isSome
 | .call ⟨.value (.tmp _),_,_⟩=>true
 | .call ⟨.invoke _ _,_,_⟩=>true
 | _=>false
def rx (L:Opn):List Oper->Bool
 | []=>false
 | o::l=>bif EU L o.op then true else rx L l
def qJ (L:Opn) (y:Nat):Op->Option (FuncId × Func)
 | .call ⟨.value (.func f),_,_⟩=>bif y.blt 1000 then(match L.fns f with
  | some fn=>some (f,fn)
  | none=>none)else none
 | .call ⟨.value (.tmp _), _, _⟩ => match y / 1000 with
  | f+1=>(match L.fns f with
   | some fn=>some (f,fn)
   | none=>none)
  | 0=>none
 | .call ⟨.invoke (.tmp _) _, _, _⟩ => match y / 1000 with
  | f+1=>(match L.fns f with
   | some fn=>some (f,fn)
   | none=>none)
  | 0=>none
 | _=>none
def preQ {R:Type} (an:Option Ann) (k:ASt->Prg R) (st:ASt):Prg R:=match an with
 | some an=>iZ an.ownB st k
 | none=>k st
def nR (bs:List Nat) (k:Nat):Nat->List Oper->Bool
 | _,[]=>true
 | i,_::rest=>bif i.blt k then nR bs k (i+1) rest else(Nat.land (nth 0 bs i) (2 ^ k-1)).beq (2 ^ k-1)&&nR bs k (i+1) rest
def oL (ops:List Oper) (k:Nat):Bool:=nR (behind ops) k 0 ops
def dq {R:Type} (E:Env) (reg:Nat->List Nat->List Oper->Bool->(ASt->Prg R)->ASt->Prg R) (rg:List Nat->Operand->Array Tmp->Code->Code->(ASt->Prg R)->ASt->Prg R) (ann jn:Nat->Option Ann):List Nat->Code->(AEx->ASt->Prg R)->ASt->Prg R
 | _,.skip,K,st=>K .normal st
 | rp,.region id ops draw,K,st=>preQ (jn (100000+id)) (reg id rp ops.toList draw (K .normal)) st
 | rp,.seq a b,K,st=>dq E reg rg ann jn (0::rp) a (qd (iu jn b) (1::rp) (dq E reg rg ann jn (1::rp) b K) K) st
 | rp, .cond c a b, K, st => match st.ev c with
  | .bl v=>bif v then dq E reg rg ann jn (0::rp) a K st else dq E reg rg ann jn (1::rp) b K st
  | x=>match x.tv? with
   | some v=>.ite (asBool v) (dq E reg rg ann jn (0::rp) a K st) (dq E reg rg ann jn (1::rp) b K st)
   | none=>.fail
 | rp,.block id c,K,st=>dq E reg rg ann jn (0::rp) c (lN id K) st
 | rp,.loop c,_,st=>u6 (iu ann c) (0::rp) st
 | _,.exit id,K,st=>K (.exit id) st
 | _,.ret,K,st=>K .ret st
 | rp,.rangeFunc g ps a c,K,st=>rg rp g ps a c (K .normal) st
 | _,_,_,_=>.fail
def cm (fn:Func):Code:=match fn.body with|some c=>c|none=>.skip
def xn (T : Tab) (st : ASt) : ResultVar → Option AV
 | .tmp t=>some (nth (.one .junk) st.slots t)
 | .cell a ty => match nth (.one .junk) st.slots a, T ty with
  | .one (.ptr i 0), some d => match st.look i with
   | some (.cells cs)=>match lg cs 0 (bif d.kd.isAgg then d.size else 1)with
    | some cs=>cS d.kd.isAgg cs
    | none=>none
   | _=>none
  | _,_=>none
def i6 (T:Tab) (st:ASt):List ResultVar->Option (List AV)
 | []=>some []
 | r::l=>match xn T st r,i6 T st l with
  | some x,some xs=>some (x::xs)
  | _,_=>none
def tS {R:Type}:List TyD->List AV->(List (Bool × List CA)->Prg R)->Prg R
 | [],[],k=>k []
 | d::ds,v::vs,k=>v.ba d.kd.isAgg d.size fun cs=>tS ds vs fun l=>k ((d.kd.isAgg,cs)::l)
 | _,_,_=>.fail
def wl {R:Type} (ds:List TyD) (vs:List AV) (k:AV->Prg R):Prg R :=
 match vs with
 | [v]=>k v
 | vs=>tS ds vs fun l=>k (.tups l)
def nz (L:List Nat) (m:Nat) (st:ASt):ASt :=
 ⟨cH (CA.ren L) st.slots,oh st.look (CA.ren L) L++List.replicate (st.boxes.length-m-L.length) none,cH (CA.ren L) st.out⟩
def gu {R:Type} (m:Nat) (st:ASt) (k:ASt->Prg R):Prg R :=
 lV (fun st=>fNs (ip st) fun L=>bif ic L&&L.length.ble dl&&dl.ble st.boxes.length then lV k (nz L m st)else .fail) st
def uB {R : Type} (E : Env) (f : FuncId) (fn : Func) (nt : Nat) (d : Option Tmp) (K : ASt → Prg R) : AEx → ASt → Prg R
 | .exit _,_=>.fail
 | _,st=>match i6 E.T st fn.results.toList,mI E.T (E.rts f)with
  | some vs, some ds => bif nt.ble st.out.length then wl ds vs fun v =>
    gu fn.ntmps (ASt.put ⟨st.out.drop (st.out.length-nt),st.boxes,st.out.take (st.out.length-nt)⟩ d v) K else .fail
  | _,_=>.fail
def jv (ntmps:Nat) (vs:List AV) (st:ASt):ASt :=
 ⟨vs++List.replicate (ntmps-vs.length) (.one .undef),st.boxes++List.replicate ntmps none,st.out++st.slots⟩
def jY:Option (List Nat)->ASt->ASt
 | none,st=>st
 | some ks,st=>ia ks st
def Am (id j:Nat):Nat:=id*1000+j
structure Rng where
 off:Nat
 nt:Nat
 fi:FuncId
 ps:Array Tmp
 assign:Code
 body:Code
 busy:Bool
def aX:List Rng->Nat->List Rng
 | [],_=>[]
 | y::l,0=>{ y with busy:=true }::l
 | y::l,m+1=>y::aX l m
def CA.unY (n:Nat) (c:CA):CA :=
 match c with
 | .yl k=>bif k.blt n then .yl k else .junk
 | c=>c
def AV.ylOf:AV->Option Nat
 | .one (.yl m)=>some m
 | _=>none
def kB (z m j:Nat):Nat:=2*((2*m+z)*1000+j)+3
def jM:List Tmp->List AV->List AV->List AV
 | t::ts,v::vs,l=>jM ts vs (ak l t v)
 | _,_,l=>l
abbrev BP (R:Type):=Nat->FuncId->List Rng->Nat->List Nat->List Oper->Bool->(ASt->Prg R)->ASt->Prg R
abbrev BR (R:Type):=Nat->FuncId->List Rng->List Nat->Operand->Array Tmp->Code->Code->(ASt->Prg R)->ASt->Prg R
def sY {R:Type} (E:Env) (L:Opn) (reg:BP R) (rg:BR R) (nt:Nat) (fi:FuncId) (ys:List Rng) (id:Nat) (rp:List Nat) (j y:Nat) (o:Oper) (f:FuncId) (fn:Func) (rv:List AV) (cap:List CA) (K:ASt->Prg R) (st:ASt):Prg R :=
 match o.op.operands.toList with
 | _ :: xs => bif (rv.length + xs.length).beq fn.params.size && (rv.length + xs.length + cap.length).ble fn.ntmps && (st.slots.length.beq nt && j.blt 1000) then
   lV (dq E (reg fn.ntmps f ys) (rg fn.ntmps f ys) (L.ann f) (L.jn f) ((2*y+2)::rp) (cm fn) (uB E f fn nt o.dst K)) (jv fn.ntmps (rv++xs.map st.ev++cap.map AV.one) (jY (L.kp fi (Am id j)) st))else .fail
 | _=>.fail
def ASt.cut (nt:Nat) (st:ASt):ASt:=⟨st.out.drop (st.out.length-nt),st.boxes,st.out.take (st.out.length-nt)⟩
def eS {R:Type} (y:Rng) (nt:Nat) (d:Option Tmp) (K:ASt->Prg R):AEx->ASt->Prg R
 | .normal,st=>bif nt.ble st.out.length then gu y.nt ((st.cut nt).put d (.bl true)) K else .fail
 | _,_=>.fail
def pj {R:Type} (k:ASt->Prg R):AEx->ASt->Prg R
 | .normal,st=>k st
 | _,_=>.fail
def rQ {R : Type} (E : Env) (L : Opn) (reg : BP R) (rg : BR R) (nt : Nat) (fi : FuncId) (ys : List Rng) (id : Nat) (rp : List Nat) (j m : Nat) (y : Rng) (o : Oper) (K : ASt → Prg R) (st : ASt) : Prg R :=
 match o.op.operands.toList with
 | _ :: xs => bif xs.length.beq y.ps.size && (st.slots.length.beq nt && (j.blt 1000 && (!y.busy && (y.off + y.nt).ble st.out.length))) then
   lV (dq E (reg y.nt y.fi (aX ys m)) (rg y.nt y.fi (aX ys m)) (L.ann y.fi) (L.jn y.fi) (kB 0 m j::rp) y.assign
    (pj (dq E (reg y.nt y.fi (aX ys m)) (rg y.nt y.fi (aX ys m)) (L.ann y.fi) (L.jn y.fi) (kB 1 m j::rp) y.body (eS y nt o.dst K))))
    (jv y.nt (jM y.ps.toList (xs.map st.ev) ((st.out.drop y.off).take y.nt)) (jY (L.kp fi (Am id j)) st))else .fail
 | _=>.fail
def lT (draw:Bool) (ex:List (List Nat)) (all:List Oper) (j:Nat) (o:Oper):Item:=bif draw then af ex all (behind all) j o else⟨o,([],[]),false,[],[],0,false,false,[],[],[]⟩
def ko (T:Tab) (draw:Bool) (st:ASt) (all:List Oper):List (List Nat):=bif draw then exQ T st all else []
def bd (ops:List Oper) (o:Oper) (s:ASt):Option (Option Bool) :=
 match o.guard with
 | none=>some (some true)
 | some (j, want) => match ((ops[j]?).bind (·.dst)) with
  | none=>none
  | some g=>match nth (.one .junk) s.slots g with
   | .one .undef=>some none
   | .bl b=>some (some (b==want))
   | _=>none
def ij (ops:List Oper) (o:Oper) (s:ASt):Bool:=match bd ops o s with
 | some (some true)=>true
 | _=>false
def sN (ys:List Rng) (st:ASt):Op->Option (Nat × Rng)
 | .call ⟨.value (.tmp t), _, _⟩ => match (nth (.one .junk) st.slots t).ylOf with
  | some m=>match ys[m]? with
   | some y=>some (m,y)
   | none=>none
  | none=>none
 | _=>none
noncomputable def eqV:Value->Value->Bool
 | .int .i64 a,.int .i64 b=>bif Int.beq' a b then true else false
 | .int .u16 a,.int .u16 b=>bif Int.beq' a b then true else false
 | .int .u8 a,.int .u8 b=>bif Int.beq' a b then true else false
 | .bool a,.bool b=>a==b
 | .slice none 0 0,.slice none 0 0=>true
 | _,_=>false
mutual
noncomputable def eqT:TV->TV->Bool
 | .lit v,.lit u=>eqV v u
 | .sl o s xs,.sl o' s' xs'=>o==o'&&(s.beq s'&&AQ xs xs')
 | .agg cs,.agg cs'=>Dz cs cs'
 | .hole,.hole=>true
 | _,_=>false
noncomputable def Dz:List TV->List TV->Bool
 | [],[]=>true
 | x::l,y::r=>eqT x y&&Dz l r
 | _,_=>false
noncomputable def AQ:List (List TV)->List (List TV)->Bool
 | [],[]=>true
 | x::l,y::r=>Dz x y&&AQ l r
 | _,_=>false
end
open Classical in
noncomputable def ut (x y:TV):Bool:=eqT x y||decide (x=y)
def Fz:List (Nat × Nat)->List (Nat × Nat)->Bool
 | [],[]=>true
 | a::p,b::q=>a.1.beq b.1&&(a.2.beq b.2&&Fz p q)
 | _,_=>false
noncomputable def EN:CA->CA->Bool
 | .ptr i a,.ptr j b=>i.beq j&&a.beq b
 | .sref i r p,.sref j k q=>i.beq j&&(r.beq k&&Fz p q)
 | .t x,.t y=>ut x y
 | _,_=>false
noncomputable def FC:List CA->List CA->Bool
 | [],[]=>true
 | a::l,b::r=>EN a b&&FC l r
 | _,_=>false
noncomputable def eqAV:AV->AV->Bool
 | .one a,.one b=>EN a b
 | .agg l,.agg r=>FC l r
 | .tv x,.tv y=>ut x y
 | _,_=>false
def q9 (U:List Nat) (m:Nat):Nat->Bool
 | 0=>true
 | k+1=>(bT k U||m.testBit k)&&q9 U m k
def ls (bs U:List Nat) (k:Nat):Nat->List Oper->Bool
 | _,[]=>true
 | i,_::rest=>bif i.blt k then ls bs U k (i+1) rest else q9 U (nth 0 bs i) k&&ls bs U k (i+1) rest
def tV (ops:List Oper) (U:List Nat) (k:Nat):Bool:=ls (behind ops) U k 0 ops
def nB (bs U:List Nat) (k:Nat):Nat->List Oper->Bool
 | _,[]=>true
 | i,_::rest=>bif i.blt k then(bT i U||U.all fun u=>!((nth 0 bs i).testBit u))&&nB bs U k (i+1) rest else true
def lH (o:Oper):Bool:=o.guard.isNone&&(match o.op with
 | .load _ _=>true
 | .fieldAddr _ _ _=>true
 | .move _=>true
 | _=>false)
def yV (all:List Oper) (j:Nat) (U:List Nat) (c:Oper):Bool :=
 (tV all U j && tV all U (j + 1)) && (nB (behind all) U (j + 1) 0 all && (c.guard.isNone && U.all fun u => match all[u]? with
  | some o=>lH o&&(match o.dst with
   | some d=>gk (some d) (jy c.op.operands.toList)&&unlike (some d) c.dst
   | none=>false)
  | none=>false))
def waited (bs:List Nat) (q k:Nat):Nat->List Oper->Bool
 | _,[]=>true
 | i,_::rest=>bif i.blt k then waited bs q k (i+1) rest else(nth 0 bs i).testBit q&&waited bs q k (i+1) rest
def jm (all:List Oper) (j:Nat):Option (List Nat):=match all[j]? with
 | some c=>fNs ((List.range j).filter fun q=>!(waited (behind all) q j 0 all)) fun U=>bif yV all j U c then some U else none
 | none=>none
def d0 (draw:Bool) (all:List Oper) (j:Nat):Bool:=!draw||(oL all j&&oL all (j+1))
def swapL (n a b:Nat):List Nat:=(List.range n).map fun k=>bif k.beq a then b else bif k.beq b then a else k
def Ga (d:Option Nat) (st:ASt):List Nat :=
 match d with
 | some d=>(match nth (.one .junk) st.slots d with
  | .one (.sref i 0 [])=>swapL st.boxes.length i (st.nid (some d))
  | _=>List.range st.boxes.length)
 | none=>List.range st.boxes.length
def DY {R:Type} (d:Option Nat) (k:ASt->Prg R) (st:ASt):Prg R:=fNs (Ga d st) fun L=>bif ic L then lV k (nz L 0 st)else .fail
def tq:List Nat->List (List Nat)
 | []=>[[]]
 | u::U=>tq U++(tq U).map (u :: ·)
def dW (all:List Oper) (S:List Nat):List (Option Tmp):=S.map fun u=>(all[u]?).bind (·.dst)
def gi (ds:List (Option Tmp)) (st:ASt):ASt:=ds.foldr (fun d s=>s.put d (.one .junk)) st
noncomputable def rr {R:Type} (E:Env) (all:List Oper) (ex:List (List Nat)):List Nat->(ASt->Prg R)->ASt->Prg R
 | [],k,st=>k st
 | u::S,k,st=>match all[u]? with
  | some o=>opQ E all (lT true ex all u o) (rr E all ex S k) st
  | none=>.fail
noncomputable def wK (ds:List (Option Tmp)) (st st':ASt):Bool:=ds.all fun d=>match d with
 | some d=>eqAV (nth (.one .junk) st'.slots d) (nth (.one .junk) st.slots d)
 | none=>false
noncomputable def rl {R:Type} (E:Env) (all:List Oper) (ex:List (List Nat)) (st:ASt) (k:Prg R):List (List Nat)->Prg R
 | []=>k
 | []::L=>rl E all ex st k L
 | (u::S)::L=>rr E all ex (u::S) (fun st'=>.chk (wK (dW all (u::S)) st st') (rl E all ex st k L)) (gi (dW all (u::S)) st)
noncomputable def mP {R:Type} (E:Env) (draw:Bool) (all:List Oper) (j:Nat) (k:ASt->Prg R) (st:ASt):Prg R :=
 bif d0 draw all j then k st else match jm all j,all[j]? with
 | some U,some c=>DY c.dst (fun st=>rl E all (ko E.T draw st all) st (k st) (tq U)) st
 | _,_=>.fail
noncomputable def eN {R:Type} (E:Env) (L:Opn) (reg:BP R) (rg:BR R) (nt:Nat) (fi:FuncId) (ys:List Rng) (id:Nat) (rp:List Nat) (draw:Bool) (all:List Oper) (K:ASt->Prg R):Nat->List Oper->List (List Nat)->ASt->Prg R
 | _,[],_,st=>K st
 | j, o :: rest, ex, st => match sM L st j o.op with
  | some (y, f, fn, rv, cap) => bif ij all o st then (bif d0 draw all j || (jm all j).isSome then
    sY E L reg rg nt fi ys id rp j y o f fn rv cap (mP E draw all j fun st'=>eN E L reg rg nt fi ys id rp draw all K (j+1) rest (ko E.T draw st' all) st') st else .fail)
   else opQ E all (lT draw ex all j o) (iy (eN E L reg rg nt fi ys id rp draw all K (j+1) rest ex)) st
  | none => match sN ys st o.op with
   | some (m, y) => bif ij all o st then (bif !draw || (oL all j && oL all (j + 1)) then
     rQ E L reg rg nt fi ys id rp j m y o (fun st'=>eN E L reg rg nt fi ys id rp draw all K (j+1) rest (ko E.T draw st' all) st') st else .fail)
    else opQ E all (lT draw ex all j o) (iy (eN E L reg rg nt fi ys id rp draw all K (j+1) rest ex)) st
   | none=>opQ E all (lT draw ex all j o) (iy (eN E L reg rg nt fi ys id rp draw all K (j+1) rest ex)) st
def xU {R:Type} (fn:Func) (n nt:Nat) (K:ASt->Prg R):AEx->ASt->Prg R
 | .exit _,_=>.fail
 | _,st=>bif fn.results.size.beq 0&&nt.ble st.out.length then gu fn.ntmps ((st.aw (CA.unY n)).cut nt) K else .fail
mutual
noncomputable def dE {R:Type} (E:Env) (L:Opn):Nat->BP R
 | 0,_,_,_,_,_,ops,draw,K,st=>kb E ops draw K st
 | n+1,nt,fi,ys,id,rp,ops,draw,K,st=>bif rx L ops then(bif !draw||bC ops then eN E L (dE E L n) (dF E L n) nt fi ys id rp draw ops K 0 ops (ko E.T draw st ops) st else .fail)else kb E ops draw K st
noncomputable def dF {R:Type} (E:Env) (L:Opn):Nat->BR R
 | 0,_,_,_,_,_,_,_,_,_,_=>.fail
 | n + 1, nt, fi, ys, rp, g, ps, assign, body, K, st => yT (fun st => match (st.ev g).vR with
  | some (f,cs)=>(match L.fns f with
   | some fn => bif Nat.beq fn.params.size 1 && ((cs.length + 1).ble fn.ntmps && st.slots.length.beq nt) then
     lV (dq E (dE E L n fn.ntmps f (ys ++ [⟨st.out.length,nt,fi,ps,assign,body,false⟩])) (dF E L n fn.ntmps f (ys ++ [⟨st.out.length,nt,fi,ps,assign,body,false⟩])) (L.ann f) (L.jn f) (f::rp) (cm fn) (xU fn ys.length nt K))
      (jv fn.ntmps (.one (.yl ys.length)::cs.map AV.one) st)else .fail
   | none=>.fail)
  | none=>.fail) (st.aw (CA.unY ys.length))
end
noncomputable def goQ {R:Type} (E:Env) (L:Opn):List Nat->Nat->Nat->Nat->FuncId->List Rng->List Nat->Code->(AEx->ASt->Prg R)->ASt->Prg R
 | [],n,_,nt,fi,ys,rp,c,K=>dq E (dE E L n nt fi ys) (dF E L n nt fi ys) (L.ann fi) (L.jn fi) rp c K
 | x :: p, n, no, nt, fi, ys, rp, c, K => match c with
  | .seq a b=>match x with
   | 0=>goQ E L p n no nt fi ys (0::rp) a (qd (iu (L.jn fi) b) (1::rp) (dq E (dE E L n nt fi ys) (dF E L n nt fi ys) (L.ann fi) (L.jn fi) (1::rp) b K) K)
   | _=>goQ E L p n no nt fi ys (1::rp) b K
  | .cond _ a b=>match x with
   | 0=>goQ E L p n no nt fi ys (0::rp) a K
   | _=>goQ E L p n no nt fi ys (1::rp) b K
  | .block id c=>goQ E L p n no nt fi ys (0::rp) c (lN id K)
  | .loop c=>goQ E L p n no nt fi ys (0::rp) c (s9 (iu (L.ann fi) c) (0::rp) K)
  | .rangeFunc _ ps assign body => match n with
   | n+1=>(match L.fns x with
    | some fn=>goQ E L p n (no+nt) fn.ntmps x (ys ++ [⟨no,nt,fi,ps,assign,body,false⟩]) (x::rp) (cm fn) (xU fn ys.length nt (K .normal))
    | none=>fun _=>.fail)
   | 0=>fun _=>.fail
  | .region id ops draw => match n with
   | n + 1 => bif (x % 2).beq 0 then (match ops.toList[(x / 2 - 1) % 1000]? with
    | some o=>(match qJ L (x / 2-1) o.op with
     | some (f, fn) => bif !draw || bC ops.toList then goQ E L p n (no + nt) fn.ntmps f ys (x :: rp) (cm fn)
       (uB E f fn nt o.dst (mP E draw ops.toList ((x / 2-1)%1000) fun st'=>eN E L (dE E L n) (dF E L n) nt fi ys id rp draw ops.toList (K .normal) ((x / 2-1)%1000+1) (ops.toList.drop ((x / 2-1)%1000+1)) (ko E.T draw st' ops.toList) st'))else fun _=>.fail
     | none=>fun _=>.fail)
    | none=>fun _=>.fail)
    else(match ops.toList[((x-3) / 2)%1000]? with
    | some o=>(match ys[(x-3) / 2 / 1000 / 2]? with
     | some r => bif !draw || bC ops.toList then (bif ((x - 3) / 2 / 1000 % 2).beq 0 then
       goQ E L p n (no+nt) r.nt r.fi (aX ys ((x-3) / 2 / 1000 / 2)) (x::rp) r.assign
        (pj (dq E (dE E L n r.nt r.fi (aX ys ((x - 3) / 2 / 1000 / 2))) (dF E L n r.nt r.fi (aX ys ((x - 3) / 2 / 1000 / 2))) (L.ann r.fi) (L.jn r.fi) (kB 1 ((x - 3) / 2 / 1000 / 2) (((x - 3) / 2) % 1000) :: rp) r.body
         (eS r nt o.dst (fun st'=>eN E L (dE E L n) (dF E L n) nt fi ys id rp draw ops.toList (K .normal) (((x-3) / 2)%1000+1) (ops.toList.drop (((x-3) / 2)%1000+1)) (ko E.T draw st' ops.toList) st'))))
       else goQ E L p n (no+nt) r.nt r.fi (aX ys ((x-3) / 2 / 1000 / 2)) (x::rp) r.body
        (eS r nt o.dst (fun st'=>eN E L (dE E L n) (dF E L n) nt fi ys id rp draw ops.toList (K .normal) (((x-3) / 2)%1000+1) (ops.toList.drop (((x-3) / 2)%1000+1)) (ko E.T draw st' ops.toList) st')))else fun _=>.fail
     | none=>fun _=>.fail)
    | none=>fun _=>.fail)
   | 0=>fun _=>.fail
  | _=>fun _=>.fail
theorem AP {R:Type} (E:Env) (L:Opn) (n no nt:Nat) (fi:FuncId) (ys:List Rng) (rp:List Nat) (K:AEx->ASt->Prg R) (c:Code):goQ E L [] n no nt fi ys rp c K=dq E (dE E L n nt fi ys) (dF E L n nt fi ys) (L.ann fi) (L.jn fi) rp c K:=rfl
theorem CS {R:Type} (E:Env) (L:Opn) (p:List Nat) (n no nt:Nat) (fi:FuncId) (ys:List Rng) (rp:List Nat) (K:AEx->ASt->Prg R) (a b:Code):goQ E L (0::p) n no nt fi ys rp (.seq a b) K=goQ E L p n no nt fi ys (0::rp) a (qd (iu (L.jn fi) b) (1::rp) (dq E (dE E L n nt fi ys) (dF E L n nt fi ys) (L.ann fi) (L.jn fi) (1::rp) b K) K):=rfl
theorem CX {R:Type} (E:Env) (L:Opn) (p:List Nat) (n no nt:Nat) (fi:FuncId) (ys:List Rng) (rp:List Nat) (K:AEx->ASt->Prg R) (a b:Code):goQ E L (1::p) n no nt fi ys rp (.seq a b) K=goQ E L p n no nt fi ys (1::rp) b K:=rfl
theorem BB {R:Type} (E:Env) (L:Opn) (p:List Nat) (n no nt:Nat) (fi:FuncId) (ys:List Rng) (rp:List Nat) (K:AEx->ASt->Prg R) (c:Operand) (a b:Code):goQ E L (0::p) n no nt fi ys rp (.cond c a b) K=goQ E L p n no nt fi ys (0::rp) a K:=rfl
theorem Bo {R:Type} (E:Env) (L:Opn) (p:List Nat) (n no nt:Nat) (fi:FuncId) (ys:List Rng) (rp:List Nat) (K:AEx->ASt->Prg R) (c:Operand) (a b:Code):goQ E L (1::p) n no nt fi ys rp (.cond c a b) K=goQ E L p n no nt fi ys (1::rp) b K:=rfl
theorem BV {R:Type} (E:Env) (L:Opn) (p:List Nat) (n no nt:Nat) (fi:FuncId) (ys:List Rng) (rp:List Nat) (K:AEx->ASt->Prg R) (id:Nat) (c:Code) (x:Nat):goQ E L (x::p) n no nt fi ys rp (.block id c) K=goQ E L p n no nt fi ys (0::rp) c (lN id K):=rfl
theorem EF {R:Type} (E:Env) (L:Opn) (p:List Nat) (n no nt:Nat) (fi:FuncId) (ys:List Rng) (rp:List Nat) (K:AEx->ASt->Prg R) (c:Code) (x:Nat):goQ E L (x::p) n no nt fi ys rp (.loop c) K=goQ E L p n no nt fi ys (0::rp) c (s9 (iu (L.ann fi) c) (0::rp) K):=rfl
theorem El {R:Type} (E:Env) (L:Opn) (p:List Nat) (no nt:Nat) (fi:FuncId) (ys:List Rng) (rp:List Nat) (K:AEx->ASt->Prg R) (g:Operand) (ps:Array Tmp) (assign body:Code) (x:Nat):goQ E L (x::p) 0 no nt fi ys rp (.rangeFunc g ps assign body) K=fun _=>.fail:=rfl
theorem A9 {R:Type} (E:Env) (L:Opn) (p:List Nat) (n no nt:Nat) (fi:FuncId) (ys:List Rng) (rp:List Nat) (K:AEx->ASt->Prg R) (g:Operand) (ps:Array Tmp) (assign body:Code) (x:Nat):goQ E L (x::p) (n+1) no nt fi ys rp (.rangeFunc g ps assign body) K=match L.fns x with
 | some fn=>goQ E L p n (no+nt) fn.ntmps x (ys ++ [⟨no,nt,fi,ps,assign,body,false⟩]) (x::rp) (cm fn) (xU fn ys.length nt (K .normal))
 | none=>fun _=>.fail:=rfl
theorem rI {R:Type} (E:Env) (L:Opn) (p:List Nat) (no nt:Nat) (fi:FuncId) (ys:List Rng) (rp:List Nat) (K:AEx->ASt->Prg R) (id:Nat) (ops:Array Oper) (draw:Bool) (x:Nat):goQ E L (x::p) 0 no nt fi ys rp (.region id ops draw) K=fun _=>.fail:=rfl
theorem rd {R : Type} (E : Env) (L : Opn) (p : List Nat) (n no nt : Nat) (fi : FuncId) (ys : List Rng) (rp : List Nat) (K : AEx → ASt → Prg R) (id : Nat) (ops : Array Oper) (draw : Bool) (x : Nat) : goQ E L (x :: p) (n + 1) no nt fi ys rp (.region id ops draw) K = bif (x % 2).beq 0 then (match ops.toList[(x / 2 - 1) % 1000]? with
    | some o=>(match qJ L (x / 2-1) o.op with
     | some (f, fn) => bif !draw || bC ops.toList then goQ E L p n (no + nt) fn.ntmps f ys (x :: rp) (cm fn)
       (uB E f fn nt o.dst (mP E draw ops.toList ((x / 2-1)%1000) fun st'=>eN E L (dE E L n) (dF E L n) nt fi ys id rp draw ops.toList (K .normal) ((x / 2-1)%1000+1) (ops.toList.drop ((x / 2-1)%1000+1)) (ko E.T draw st' ops.toList) st'))else fun _=>.fail
     | none=>fun _=>.fail)
    | none=>fun _=>.fail)
    else(match ops.toList[((x-3) / 2)%1000]? with
    | some o=>(match ys[(x-3) / 2 / 1000 / 2]? with
     | some r => bif !draw || bC ops.toList then (bif ((x - 3) / 2 / 1000 % 2).beq 0 then
       goQ E L p n (no+nt) r.nt r.fi (aX ys ((x-3) / 2 / 1000 / 2)) (x::rp) r.assign
        (pj (dq E (dE E L n r.nt r.fi (aX ys ((x - 3) / 2 / 1000 / 2))) (dF E L n r.nt r.fi (aX ys ((x - 3) / 2 / 1000 / 2))) (L.ann r.fi) (L.jn r.fi) (kB 1 ((x - 3) / 2 / 1000 / 2) (((x - 3) / 2) % 1000) :: rp) r.body
         (eS r nt o.dst (fun st'=>eN E L (dE E L n) (dF E L n) nt fi ys id rp draw ops.toList (K .normal) (((x-3) / 2)%1000+1) (ops.toList.drop (((x-3) / 2)%1000+1)) (ko E.T draw st' ops.toList) st'))))
       else goQ E L p n (no+nt) r.nt r.fi (aX ys ((x-3) / 2 / 1000 / 2)) (x::rp) r.body
        (eS r nt o.dst (fun st'=>eN E L (dE E L n) (dF E L n) nt fi ys id rp draw ops.toList (K .normal) (((x-3) / 2)%1000+1) (ops.toList.drop (((x-3) / 2)%1000+1)) (ko E.T draw st' ops.toList) st')))else fun _=>.fail
     | none=>fun _=>.fail)
    | none=>fun _=>.fail):=rfl
def dX:List CA->List (Nat × Nat)
 | []=>[]
 | .sref i r _::l=>(i,r)::dX l
 | .swin i r _ _ _::l=>(i,r)::dX l
 | _::l=>dX l
def cN (i r:Nat):List (Nat × Nat)->Nat
 | []=>0
 | (a,b)::l=>bif a.beq i&&b.beq r then cN i r l+1 else cN i r l
def mH (rs:List (Nat × Nat)) (i r:Nat):Bool:=(cN i r rs).ble 1
def mJ (look:Look) (rs:List (Nat × Nat)) (c:CA) (k:TV->Prg TV):Prg TV :=
 match c with
 | .t x=>k x
 | .sref i r p=>i8 look (.sref i r p) fun x=>k (bif mH rs i r then x else frz x)
 | .swin i r p lo len=>i8 look (.swin i r p lo len) fun x=>k (bif mH rs i r then x else frz x)
 | _=>.fail
def Bd (look:Look) (rs:List (Nat × Nat)):List CA->(List TV->Prg TV)->Prg TV
 | [],k=>k []
 | c::l,k=>mJ look rs c fun x=>Bd look rs l fun xs=>k (x::xs)
def Ax (look:Look) (rs:List (Nat × Nat)) (v:AV) (k:TV->Prg TV):Prg TV :=
 match v with
 | .one c=>mJ look rs c k
 | .tv x=>k x
 | .agg cs=>Bd look rs cs fun xs=>k (.agg xs)
 | .tups _=>.fail
 | .clo _ _=>.fail
 | .bl b=>k (.lit (.bool b))
def gives (look:Look) (rs:List (Nat × Nat)):List AV->(List TV->Prg TV)->Prg TV
 | [],k=>k []
 | v::l,k=>Ax look rs v fun x=>gives look rs l fun xs=>k (x::xs)
def AV.Gc:AV->List (Nat × Nat)
 | .one c=>dX [c]
 | .agg cs=>dX cs
 | _=>[]
def cU:List AV->List (Nat × Nat)
 | []=>[]
 | v::l=>v.Gc++cU l
def CQ (T:Tab) (pure:Bool) (rs:List ResultVar) (st:ASt):Prg TV :=
 match i6 T st rs with
 | some vs=>gives st.look (cU vs) vs fun xs=>(match xs with
  | [x]=>bif pure then .chk (isOwn x) (.ret x)else .ret x
  | xs=>bif pure then .chk (bF xs) (.ret (.tup xs))else .ret (.tup xs))
 | none=>.fail
def mR (look:Look) (rs:List (Nat × Nat)) (i:Nat) (ty:TypeId):List CA->(List TV->Prg TV)->Prg TV
 | [],k=>k []
 | .may j t::l,k=>bif j.beq i&&t.beq ty then mR look rs i ty l (fun xs=>k (Fg::xs))else .fail
 | c::l,k=>mJ look rs c fun x=>mR look rs i ty l fun xs=>k (x::xs)
def qp (xs:List TV):TV:=match xs with | [x]=>x|xs=>.tup xs
def CU (T:Tab) (ld:fx) (rs:List ResultVar) (st:ASt):Prg TV :=
 match i6 T st rs,st.out with
 | some vs,[.one (.ptr i 0)]=>match st.look i with
  | some (.cells cs)=>gives st.look (cU vs++dX cs) vs fun xs=>mR st.look (cU vs++dX cs) i ld.ty cs fun ys=>.ret (.tup [qp xs,.tup ys])
  | _=>.fail
 | _,_=>.fail
def resP (T : Tab) (rs : List ResultVar) (st : ASt) : Prg TV :=
 match i6 T st rs with
 | some [v] => (match v.tv? with
  | some x=>.ret x
  | none => match v with
   | .agg cs=>(match eV cs with
    | some xs=>.ret (.agg xs)
    | none=>.fail)
   | _=>.fail)
 | _=>.fail
def EX (T:Tab) (ld:Option fx) (pk pure:Bool) (rs:List ResultVar) (st:ASt):Prg TV :=
 bif pk then resP T rs st else match ld with
 | none=>CQ T pure rs st
 | some ld=>CU T ld rs st
def fS (ld:fx) (ntmps:Nat) (cs args:List TV):ASt :=
 ⟨.one (.ptr 0 0) :: (args.map (fun x => .tv x) ++ List.replicate (ntmps - (args.length + 1)) (.one .undef)),
  some (.cells (gq 0 1 ld.ty ld.fl cs 0))::some (.tree (da ld.fl cs))::List.replicate (dl+ntmps) none,[.one (.ptr 0 0)]⟩
def kf (ntmps:Nat) (cs args:List TV):ASt :=
 ⟨args.map (fun x=>.tv x)++(.one (.ref cs 0)::List.replicate (ntmps-(args.length+1)) (.one .undef)),List.replicate (dl+ntmps) none,[]⟩
def jo (ntmps:Nat) (args:List TV):ASt :=
 ⟨args.map (fun x=>.tv x)++List.replicate (ntmps-args.length) (.one .undef),List.replicate (dl+ntmps) none,[]⟩
def vY (c:Nat × Nat) (x:TV):List TV:=ak (List.replicate c.2 .hole) c.1 x
def iW (c:Nat × Nat) (ntmps:Nat) (x:TV) (args:List TV):ASt :=
 ⟨.one (.ref (vY c x) 0)::(args.map (fun x=>.tv x)++List.replicate (ntmps-(args.length+1)) (.one .undef)),List.replicate (dl+ntmps) none,[]⟩
def DX (T:Tab) (ld:Option fx) (pk pure:Bool) (rs:List ResultVar):AEx->ASt->Prg TV
 | .normal,st=>EX T ld pk pure rs st
 | .ret,st=>EX T ld pk pure rs st
 | _,_=>.fail
structure AProg where
 T:Tab
 pure:FuncId->Bool
 rts:FuncId->List TypeId
 fns:FuncId->Option Func
 ann:FuncId->Nat->Option Ann
 jn:FuncId->Nat->Option Ann
 lent:FuncId->Option fx
 selfT:TypeId->Bool
 ext:FuncId->Option (List TV->Option TV)
 opn:FuncId->Bool
 kp:FuncId->Nat->Option (List Nat)
 peek:FuncId->Option (Nat × Nat)
 turn:FuncId->Bool
 mth:TypeId->String->Option (FuncId × Bool)
 eye:FuncId->Bool
 cold:TypeId->Bool
def AProg.env (A:AProg):Env:=⟨A.T,A.pure,A.rts,A.lent,A.selfT,A.peek,A.turn,A.eye,A.cold⟩
def AProg.opens (A:AProg):Opn:=⟨fun f=>bif A.opn f then A.fns f else none,A.ann,A.jn,A.kp,A.mth⟩
def uX:Nat:=8
def pc (A:AProg) (f:FuncId):Nat:=match A.peek f with|some _=>0|none=>bif (A.lent f).isSome then 1 else 0
noncomputable def fh (A:AProg) (f:FuncId) (rp:List Nat) (st:ASt):Prg TV :=
 match A.fns f with
 | some fn=>goQ A.env A.opens rp.reverse uX (pc A f) fn.ntmps f [] [] (cm fn) (DX A.T (A.lent f) (A.peek f).isSome (A.pure f) fn.results.toList) st
 | none=>.fail
def tC:List TV->Option (List TV × TV)
 | []=>none
 | [x]=>some ([],x)
 | x::y::l=>match tC (y::l)with
  | some (asz,z)=>some (x::asz,z)
  | none=>none
noncomputable def ao (A:AProg) (f:FuncId) (args:List TV):Prg TV :=
 bif A.turn f||(A.eye f&&((A.peek f).isSome||(A.lent f).isSome))then .fail else match A.peek f with
 | some c=>(match A.fns f,args with
  | some fn,x::rest=>bif (rest.length+1).beq fn.params.size&&(rest.length+1).ble fn.ntmps&&c.1.blt c.2 then fh A f [] (iW c fn.ntmps x rest)else .fail
  | _,_=>.fail)
 | none=>match A.fns f with
 | some fn => match A.lent f with
  | none=>bif A.eye f then(match tC args with
   | some (asz,.agg cs)=>bif asz.length.beq fn.params.size&&(asz.length+1).ble fn.ntmps then fh A f [] (kf fn.ntmps cs asz)else .fail
   | _=>.fail)else bif args.length.beq fn.params.size&&args.length.ble fn.ntmps then fh A f [] (jo fn.ntmps args)else .fail
  | some ld=>match args with
   | .tup cs::rest=>bif (rest.length+1).beq fn.params.size&&(rest.length+1).ble fn.ntmps then .chk (oe ld.fl cs) (fh A f [] (fS ld fn.ntmps cs rest))else .fail
   | _=>.fail
 | none=>.fail
noncomputable def iN (A:AProg) (C:FuncId->List TV->Option TV) (f:FuncId):Nat->List Nat->ASt->Option TV
 | 0,_,_=>none
 | n+1,p,st=>(fh A f p st).run C (iN A C f n)
noncomputable def acall (A:AProg):Nat->FuncId->List TV->Option TV
 | 0,_,_=>none
 | n+1,f,args=>match A.ext f with
  | some g=>g args
  | none=>(ao A f args).run (acall A n) (iN A (acall A n) f n)
end Go.Ab

import Derived.Calls
import Derived.Laws.Sem
import Derived.KernelRfl
set_option linter.all false
namespace Go.Ab
theorem Cb {α : Type} {i : Nat} {a : α} {l : List α} : l[i]? = some a ↔ ∃ h : i < l.length, l[i] = a := List.getElem?_eq_some_iff
theorem Cc {α : Type} {l : List α} {i : Nat} (h : i < l.length) : l[i]? = some l[i] := List.getElem?_eq_getElem h
theorem Cd {α : Type} (a b : α) : (some a = some b) = (a = b) := Option.some.injEq a b
theorem Ce (a b : Bool) : ((a && b) = true) = (a = true ∧ b = true) := Bool.and_eq_true a b
theorem Cf {α : Type} {xs : Array α} {i : Nat} : xs.toList[i]? = xs[i]? := Array.getElem?_toList
theorem Cg {α : Type} {i : Nat} {b : α} {xs : Array α} : xs[i]? = some b ↔ ∃ h : i < xs.size, xs[i] = b := Array.getElem?_eq_some_iff
theorem Ch {α : Type} {β : Type} {f : α → β} {l : List α} {i : Nat} : (List.map f l)[i]? = Option.map f l[i]? := List.getElem?_map
theorem Ci {α : Type} {a : α} {l : List α} : a ∈ a :: l := List.mem_cons_self
theorem Cj {α : Type} (y : α) {a : α} {l : List α} : a ∈ l → a ∈ y :: l := List.mem_cons_of_mem y
theorem Ck {α : Type} {l : List α} {i : Nat} {a : α} : l[i]? = some a → a ∈ l := List.mem_of_getElem?
theorem Cl {α : Type} {l m : List α} {i : Nat} : i < l.length → (l ++ m)[i]? = l[i]? := List.getElem?_append_left
theorem Cm {α : Type} {l m : List α} {i : Nat} : l.length ≤ i → (l ++ m)[i]? = m[i - l.length]? := List.getElem?_append_right
theorem Cn {α : Type} {l : List α} {i : Nat} : l.length ≤ i → l[i]? = none := List.getElem?_eq_none
theorem Co {α : Type} {β : Type} (a : α) (f : α → β) : Option.map f (some a) = some (f a) := Option.map_some a f
theorem Cp {α : Type} {l : List α} {i : Nat} {a : α} : l.getD i a = l[i]?.getD a := List.getD_eq_getElem?_getD
theorem Cq {α : Type} {xs : Array α} {i : Nat} {d : α} : xs.getD i d = xs[i]?.getD d := Array.getD_eq_getD_getElem?
inductive TV where
 | lit (v:Value)
 | sl (own:Bool) (size:Nat) (xs:List (List TV))
 | agg (cs:List TV)
 | tup (vs:List TV)
 | buf (s:ByteArray) (e:Nat)
 | hole
abbrev Way:=List (Nat × Nat)
inductive CA where
 | t (x:TV)
 | ptr (i off:Nat)
 | ref (x:List TV) (off:Nat)
 | tptr (i r:Nat) (p:Way) (k j:Nat)
 | sref (i r:Nat) (p:Way)
 | swin (i r:Nat) (p:Way) (lo len:Nat)
 | may (i:Nat) (ty:TypeId)
 | aptr (i off len n:Nat)
 | yl (n:Nat)
 | ifp (t:TypeId) (i:Nat)
 | fn1 (f:FuncId) (i:Nat)
 | undef
 | junk
inductive AV where
 | one (c:CA)
 | agg (cs:List CA)
 | tv (x:TV)
 | tups (cs:List (Bool × List CA))
 | bl (b:Bool)
 | clo (f:FuncId) (cs:List CA)
inductive BC where
 | cells (cs:List CA)
 | tree (xs:List TV)
structure ASt where
 slots:List AV
 boxes:List (Option BC)
 out:List AV
inductive Kd where
 | bool | int (k:IntKind) | str | slice (e:TypeId) | struct | arr (n:Nat) (e:TypeId) | other | ptr
structure TyD where
 size:Nat
 bytes:Nat
 kd:Kd
 zero:List Value
 fields:List (Nat × TypeId)
def Kd.isAgg:Kd→Bool
 | .struct=>true
 | .arr _ _=>true
 | _=>false
abbrev Tab:=TypeId→Option TyD
def nth {α:Type} (d:α):List α→Nat→α
 | [],_=>d
 | a :: _,0=>a
 | _ :: l,n + 1=>nth d l n
def al {α:Type}:List α→Nat→α→List α
 | [],_,_=>[]
 | _ :: l,0,b=>b :: l
 | a :: l,n + 1,b=>a :: al l n b
def bu (n:Nat):List Nat→Bool
 | []=>false
 | a :: l=>bif a.beq n then true else bu n l
def qM:List (Nat × TyD)→Tab
 | [],_=>none
 | (k,d) :: r,t=>bif k.beq t then some d else qM r t
def bJ {α:Type} (l:List α) (off:Nat):List α→List α
 | []=>l
 | a :: r=>bJ (al l off a) (off + 1) r
def j6 {α:Type}:List α→Nat→Nat→Option (List α)
 | _,_,0=>some []
 | [],_,_ + 1=>none
 | a :: l,0,n + 1=>match j6 l 0 n with
  | some r=>some (a :: r)
  | none=>none
 | _ :: l,o + 1,n + 1=>j6 l o (n + 1)
def bL:Value:=.slice none 0 0
def TV.cell (x:TV) (j:Nat):TV:=match x with | .agg cs=>nth .hole cs j | _=>.hole
def TV.comp (x:TV) (j:Nat):TV:=match x with | .tup cs=>nth .hole cs j | _=>.hole
def TV.isAgg (x:TV) (n:Nat):Bool:=match x with | .agg cs=>cs.length.beq n | _=>false
def TV.isTup (x:TV) (n:Nat):Bool:=match x with | .tup cs=>cs.length.beq n | _=>false
def aX:Value→Bool
 | .slice none 0 0=>true
 | _=>false
def scV:Value→Bool
 | .slice _ _ _=>false
 | .agg _=>false
 | .tuple _=>false
 | _=>true
def TV.isSc (x:TV):Bool:=match x with | .lit v=>scV v | _=>false
def TV.isSl (x:TV):Bool:=match x with | .lit v=>aX v | .sl _ _ _=>true | _=>false
def TV.gu (x:TV):Bool:=match x with | .lit _=>true | .sl o _ _=>!o | _=>false
def TV.iA (x:TV):Bool:=match x with | .lit v=>v.oneCell' | .sl _ _ _=>true | _=>false
def TV.lf (x:TV):TV:=match x with | .lit v=>.lit v | _=>.hole
def lfL:List TV→List TV
 | []=>[]
 | x :: l=>x.lf :: lfL l
def rP:List (List TV)→List (List TV)
 | []=>[]
 | x :: l=>lfL x :: rP l
mutual
def frz:TV→TV
 | .lit v=>.lit v
 | .sl _ s xs=>.sl false s (q9 xs)
 | .agg cs=>.agg (tX cs)
 | .tup cs=>.tup (tX cs)
 | .buf _ _=>.hole
 | .hole=>.hole
def tX:List TV→List TV
 | []=>[]
 | x :: l=>frz x :: tX l
def q9:List (List TV)→List (List TV)
 | []=>[]
 | x :: l=>tX x :: q9 l
end
mutual
def ct:TV→Bool
 | .lit _=>true
 | .sl o _ xs=>o && kV xs
 | .agg cs=>ie cs
 | .tup cs=>ie cs
 | .buf _ _=>true
 | .hole=>true
def ie:List TV→Bool
 | []=>true
 | x :: l=>ct x && ie l
def kV:List (List TV)→Bool
 | []=>true
 | x :: l=>ie x && kV l
end
def asBool:TV→Option Bool
 | .lit (.bool b)=>some b
 | _=>none
def fnOf:TV→Option Nat
 | .lit (.func (.func f) ts fs)=>bif ts.size.beq 0 && fs.size.beq 0 then some f else none
 | _=>none
def aA:TV→Option Nat
 | .lit (.int _ n)=>if 0≤n∧n≤9223372036854775807 then some n.toNat else none
 | _=>none
def cu:Way→TV→Option TV
 | [],x=>some x
 | (k, j) :: p, .sl _ _ xs => match xs[k]? with
  | some e=>match e[j]? with
   | some y=>cu p y
   | none=>none
  | none=>none
 | _ :: _,_=>none
def kR : Way → TV → TV → Option TV
 | [],_,y=>some y
 | (k, j) :: p, .sl true s xs, y => match xs[k]? with
  | some e => match e[j]? with
   | some z=>match kR p z y with
    | some z'=>some (.sl true s (al xs k (al e j z')))
    | none=>none
   | none=>none
  | none=>none
 | _ :: _,_,_=>none
def pel (x:TV) (k:Nat):Option (List TV):=match x with | .sl _ _ xs=>xs[k]? | _=>none
def wK (x:TV) (k j:Nat) (ys:List TV):Option TV :=
 match x with
 | .sl true s xs=>match xs[k]? with
  | some e=>some (.sl true s (al xs k (bJ e j ys)))
  | none=>none
 | _=>none
def mG (p:Way) (x:TV) (k j:Nat) (ys:List TV):Option TV :=
 match cu p x with
 | some s=>match wK s k j ys with
  | some s'=>kR p x s'
  | none=>none
 | none=>none
def eo (lo len:Nat) (x:TV):Option TV :=
 match x with
 | .sl o s xs=>if lo + len≤xs.length then some (.sl o s ((xs.drop lo).take len)) else none
 | .lit (.slice none 0 0)=>if lo=0∧len=0 then some (.lit bL) else none
 | _=>none
def room:Nat:=4294967296
def Bt (size:Nat) (xs:List (List TV)):TV:=match xs with | []=>.lit bL | x :: l=>.sl true size (x :: l)
def papp (size:Nat) (x:TV) (news:List (List TV)):Option TV :=
 match x with
 | .lit (.slice none 0 0)=>if news.length≤room then some (Bt size news) else none
 | .sl true s xs=>if s=size∧xs.length + news.length≤room then some (.sl true s (xs ++ news)) else none
 | _=>none
def pcopy (size:Nat) (x:TV) (news:List (List TV)):Option TV :=
 match x with
 | .sl true s xs=>if s=size then some (.sl true s (news.take xs.length ++ xs.drop news.length)) else none
 | .lit (.slice none 0 0)=>some (.lit bL)
 | _=>none
def slLen (x:TV):Option Nat:=match x with | .sl _ _ xs=>some xs.length | .lit (.slice none 0 0)=>some 0 | _=>none
def slSize (x:TV) (size:Nat):Bool:=match x with | .sl _ s _=>s.beq size | .lit (.slice none 0 0)=>true | _=>false
def ak:List Value→List TV→Nat→Bool
 | [],_,_=>true
 | z :: zs,e,j=>match e[j]? with
  | some c=>(bif aX z then c.isSl else c.isSc) && ak zs e (j + 1)
  | none=>false
def TV.AT (x:TV):Bool:=match x with | .hole=>true | _=>false
def gE:List Value→List TV→Nat→Bool
 | [],_,_=>true
 | z :: zs,e,j=>match e[j]? with
  | some c=>(bif aX z then c.isSl || c.AT else c.isSc) && gE zs e (j + 1)
  | none=>false
def qG (op:BinOp) (k:IntKind) (a b:Int):Option TV :=
 match op with
 | .add=>some (.lit (.int k (k.wrap (a + b))))
 | .sub=>some (.lit (.int k (k.wrap (a - b))))
 | .mul=>some (.lit (.int k (k.wrap (a * b))))
 | .quo=>if b=0 then none else some (.lit (.int k (k.wrap (a.tdiv b))))
 | .rem=>if b=0 then none else some (.lit (.int k (a.tmod b)))
 | .eql=>some (.lit (.bool (a == b)))
 | .neq=>some (.lit (.bool (a != b)))
 | .lss=>some (.lit (.bool (decide (a < b))))
 | .leq=>some (.lit (.bool (decide (a≤b))))
 | .gtr=>some (.lit (.bool (decide (a > b))))
 | .geq=>some (.lit (.bool (decide (a ≥ b))))
 | .and=>some (.lit (.int k (k.wrap ((BitVec.ofInt k.bits a &&& BitVec.ofInt k.bits b).toNat))))
 | .or=>some (.lit (.int k (k.wrap ((BitVec.ofInt k.bits a ||| BitVec.ofInt k.bits b).toNat))))
 | _=>none
def vR (op:BinOp) (a b:ByteArray):Option TV :=
 match op with
 | .eql=>some (.lit (.bool (a.toList == b.toList)))
 | .neq=>some (.lit (.bool (!(a.toList == b.toList))))
 | .lss=>some (.lit (.bool (Op.bytesLess a.toList b.toList)))
 | .add=>if ((a.size + b.size:Nat):Int) > IntKind.i64.max then none else some (.lit (.string (a ++ b)))
 | _=>none
def wA (op:BinOp) (b:Bool):Option TV :=
 match op with
 | .eql=>some (.lit (.bool b))
 | .neq=>some (.lit (.bool !b))
 | _=>none
def pbin (kd:Kd) (op:BinOp) (x y:TV):Option TV :=
 match kd,x,y with
 | .int _,.lit (.int k a),.lit (.int k' b)=>if k=k' then qG op k a b else none
 | .bool,.lit (.bool a),.lit (.bool b)=>wA op (a == b)
 | .str,.lit (.string a),.lit (.string b)=>vR op a b
 | .slice _,.lit (.slice none _ _),.lit (.slice none _ _)=>wA op true
 | .slice _,.sl _ _ _,.lit (.slice none _ _)=>wA op false
 | _,_,_=>none
def pun (op:UnOp) (x:TV):Option TV :=
 match op,x with
 | .not,.lit (.bool b)=>some (.lit (.bool !b))
 | .neg,.lit (.int k n)=>some (.lit (.int k (k.wrap (0 - n))))
 | _,_=>none
def pconv (kd:Kd) (x:TV):Option TV :=
 match kd,x with
 | .int k,.lit (.int _ n)=>some (.lit (.int k (k.wrap n)))
 | .str,.lit (.string s)=>some (.lit (.string s))
 | .str,.lit (.int _ n)=>some (.lit (.string (Utf8.encode n)))
 | _,_=>none
def lx (d:TyD):Bool:=match d.kd,d.zero with
 | .int .u8,[.int .u8 0]=>d.size.beq 1 && d.bytes.beq 1
 | _,_=>false
def i5 (s:ByteArray):List (List TV):=s.data.toList.map fun b=>[.lit (.int .u8 b.toNat)]
def pbytes (x:TV):Option (List (List TV)):=match x with | .lit (.string s)=>some (i5 s) | _=>none
def mV:List (List TV)→Option (List Int)
 | []=>some []
 | [.lit (.int .u8 n)] :: l=>match mV l with
  | some r=>some (n :: r)
  | none=>none
 | _=>none
def BX (l:List Int):ByteArray:=l.foldl (fun r n=>r.push (UInt8.ofNat n.toNat)) ByteArray.empty
def B6 (rows:List (List TV)):Option TV:=match mV rows with | some l=>some (.lit (.string (BX l))) | none=>none
def plen (kd:Kd) (x:TV):Option TV :=
 match kd,x with
 | .slice _,.lit (.slice none 0 _)=>some (.lit (.int .i64 0))
 | .str,.lit (.string s)=>some (.lit (.int .i64 s.size))
 | .slice _,.sl _ _ xs=>some (.lit (.int .i64 xs.length))
 | _,_=>none
def pidx (size:Nat) (x i:TV):Option (List TV) :=
 match x,i with
 | .sl _ s xs,.lit (.int _ n)=>if s=size∧0≤n then xs[n.toNat]? else none
 | _,_=>none
def pslice (kd:Kd) (sz:Nat) (x:TV) (lo hi:Option Nat):Option TV :=
 match kd,x with
 | .slice _,.sl o s xs =>
  if s=sz∧lo.getD 0≤hi.getD xs.length∧hi.getD xs.length≤xs.length then some (.sl o s ((xs.drop (lo.getD 0)).take (hi.getD xs.length - lo.getD 0))) else none
 | .slice _,.lit (.slice none 0 0)=>if lo.getD 0=0∧hi.getD 0=0 then some (.lit bL) else none
 | .str,.lit (.string s) =>
  if lo.getD 0≤hi.getD s.size∧hi.getD s.size≤s.size then some (.lit (.string (s.extract (lo.getD 0) (hi.getD s.size)))) else none
 | _,_=>none
def pstr (x i:TV):Option TV :=
 match x,i with
 | .lit (.string s),.lit (.int _ n)=>if 0≤n then (s[n.toNat]?).map fun b=>.lit (.int .u8 b.toNat) else none
 | _,_=>none
def pelems (size:Nat):TV→Option (List (List TV))
 | .lit (.slice none 0 _)=>some []
 | .sl _ s xs=>if s=size then some xs else none
 | _=>none
inductive Prg (R:Type) where
 | fail
 | ret (r:R)
 | tv (p:Option TV) (k:TV→Prg R)
 | tvs (p:Option (List TV)) (k:List TV→Prg R)
 | rws (p:Option (List (List TV))) (k:List (List TV)→Prg R)
 | nat (p:Option Nat) (k:Nat→Prg R)
 | chk (b:Bool) (k:Prg R)
 | ite (b:Option Bool) (t e:Prg R)
 | call (f:FuncId) (xs:List TV) (k:TV→Prg R)
 | jmp (p:List Nat) (st:ASt)
def Prg.bind {R S:Type} (f:R→Prg S):Prg R→Prg S
 | .fail=>.fail
 | .ret r=>f r
 | .tv p k=>.tv p fun v=>(k v).bind f
 | .tvs p k=>.tvs p fun v=>(k v).bind f
 | .rws p k=>.rws p fun v=>(k v).bind f
 | .nat p k=>.nat p fun v=>(k v).bind f
 | .chk b k=>.chk b (k.bind f)
 | .ite b t e=>.ite b (t.bind f) (e.bind f)
 | .call g xs k=>.call g xs fun v=>(k v).bind f
 | .jmp _ _=>.fail
def Prg.run {R:Type} (C:FuncId→List TV→Option TV) (J:List Nat→ASt→Option R):Prg R→Option R
 | .fail=>none
 | .ret r=>some r
 | .tv p k=>p.bind fun v=>(k v).run C J
 | .tvs p k=>p.bind fun v=>(k v).run C J
 | .rws p k=>p.bind fun v=>(k v).run C J
 | .nat p k=>p.bind fun v=>(k v).run C J
 | .chk b k=>bif b then k.run C J else none
 | .ite b t e=>b.bind fun b=>bif b then t.run C J else e.run C J
 | .call f xs k=>(C f xs).bind fun v=>(k v).run C J
 | .jmp p st=>J p st
inductive Prim where
 | drop (i r:Nat) (js:List Nat) (strict:Bool)
 | root (i r:Nat) (x:TV)
 | frz (i r:Nat)
 | unmay (i:Nat)
 | newB (b:BC)
 | setB (i:Nat) (cs:List CA)
inductive Eff where
 | val (v:AV)
 | new (b:BC) (v:AV)
 | upd (i:Nat) (b:BC) (v:AV)
 | gen (ps:List Prim) (v:AV)
abbrev Out:=Prg Eff
def ASt.ev (st:ASt):Operand→AV
 | .tmp t=>nth (.one .junk) st.slots t
 | .const (.bool b)=>.bl b
 | .const v=>bif v.oneCell' then .one (.t (.lit v)) else .tv (.lit v)
 | .global g=>.tv (.lit (.pointer (some ⟨g,0,none⟩)))
 | .func f=>.tv (.lit (.func (.func f) #[] #[]))
def AV.tv? : AV→Option TV
 | .one (.t x)=>some x
 | .tv x=>some x
 | .bl b=>some (.lit (.bool b))
 | _=>none
abbrev Look:=Nat→Option BC
def CA.kept:CA→Bool
 | .undef=>false
 | .junk=>false
 | _=>true
def AV.aP {R:Type} (agg:Bool) (n:Nat) (v:AV) (k:List CA→Prg R):Prg R :=
 match agg,v with
 | false,.one c=>bif c.kept then k [c] else .fail
 | false,.tv x=>.chk x.iA (k [.t x])
 | false,.bl b=>k [.t (.lit (.bool b))]
 | false,.clo f [.ptr i 0]=>k [.fn1 f i]
 | true,.agg cs=>bif cs.length.beq n then k cs else .fail
 | true,.tv x=>.chk (x.isAgg n) (k ((List.range n).map fun j=>.t (x.cell j)))
 | _,_=>.fail
def jP {R:Type}:List AV→(List CA→Prg R)→Prg R
 | [],k=>k []
 | v :: l,k=>v.aP false 1 fun cs=>jP l fun cs'=>k (cs ++ cs')
def cm (agg:Bool):List CA→Option AV
 | []=>bif agg then some (.agg []) else none
 | c :: cs=>bif agg then some (.agg (c :: cs)) else (match cs with | []=>some (.one c) | _=>none)
def mc {R:Type} (p:Way) (x:TV) (k:TV→Prg R):Prg R :=
 match p with
 | []=>k x
 | _=>.tv (cu p x) k
def uR {R:Type} (p:Way) (x y:TV) (k:TV→Prg R):Prg R :=
 match p with
 | []=>k y
 | _=>.tv (kR p x y) k
def bn (look:Look) (i r:Nat):Option TV :=
 match look i with
 | some (.tree xs)=>bif r.blt xs.length then some (nth .hole xs r) else none
 | _=>none
def gZ {R:Type} (look:Look) (c:CA) (k:TV→Prg R):Prg R :=
 match c with
 | .t x=>k x
 | .sref i r p=>match bn look i r with
  | some x=>mc p x k
  | none=>.fail
 | .swin i r p lo len=>match bn look i r with
  | some x=>mc p x fun y=>.tv (eo lo len y) k
  | none=>.fail
 | _=>.fail
def rS {R:Type} (look:Look) (v:AV) (k:TV→Prg R):Prg R :=
 match v with
 | .one c=>gZ look c k
 | .tv x=>k x
 | .bl b=>k (.lit (.bool b))
 | _=>.fail
def qB {R:Type} (look:Look) (c:CA) (k:TV→Prg R):Prg R :=
 match c with
 | .t x=>k x
 | .sref i r p=>gZ look (.sref i r p) fun x=>k (frz x)
 | .swin i r p lo len=>gZ look (.swin i r p lo len) fun x=>k (frz x)
 | _=>.fail
def xd {R:Type} (look:Look):List CA→(List TV→Prg R)→Prg R
 | [],k=>k []
 | c :: l,k=>qB look c fun x=>xd look l fun xs=>k (x :: xs)
def qL {R:Type} (look:Look) (v:AV) (k:TV→Prg R):Prg R :=
 match v with
 | .one c=>qB look c k
 | .tv x=>k x
 | .agg cs=>xd look cs fun xs=>k (.agg xs)
 | .tups _=>.fail
 | .clo _ _=>.fail
 | .bl b=>k (.lit (.bool b))
def lends {R:Type} (look:Look):List AV→(List TV→Prg R)→Prg R
 | [],k=>k []
 | v :: l,k=>qL look v fun x=>lends look l fun xs=>k (x :: xs)
def qQ {R:Type} (look:Look) (c:CA) (k:TV→List (Nat × Nat)→Prg R):Prg R :=
 match c with
 | .t x=>k x []
 | .sref i r p => match bn look i r with
  | some x=>(match p with
   | []=>k (frz x) [(i,r)]
   | _=>.tv (cu p x) fun y=>.chk y.gu (k y []))
  | none=>.fail
 | .swin i r p lo len => match bn look i r with
  | some x=>(match p with
   | []=>.tv (eo lo len x) fun y=>k (frz y) [(i,r)]
   | _=>.tv (cu p x) fun z=>.tv (eo lo len z) fun y=>.chk y.gu (k y []))
  | none=>.fail
 | _=>.fail
def wT {R:Type} (look:Look):List CA→(List TV→List (Nat × Nat)→Prg R)→Prg R
 | [],k=>k [] []
 | c :: l,k=>qQ look c fun x r=>wT look l fun xs rs=>k (x :: xs) (r ++ rs)
def qj {R:Type} (look:Look) (v:AV) (k:TV→List (Nat × Nat)→Prg R):Prg R :=
 match v with
 | .one c=>qQ look c k
 | .tv x=>k x []
 | .agg cs=>wT look cs fun xs rs=>k (.agg xs) rs
 | .tups _=>.fail
 | .clo _ _=>.fail
 | .bl b=>k (.lit (.bool b)) []
def hands {R:Type} (look:Look):List AV→(List TV→List (Nat × Nat)→Prg R)→Prg R
 | [],k=>k [] []
 | v :: l,k=>qj look v fun x r=>hands look l fun xs rs=>k (x :: xs) (r ++ rs)
def sV:List (Nat × Nat)→List Prim
 | []=>[]
 | (i,r) :: l=>.frz i r :: sV l
inductive Fl where
 | sc | sl | may | bf (e:Nat) | any
structure eP where
 ty:TypeId
 fl:List Fl
structure Env where
 T:Tab
 pure:FuncId→Bool
 rts:FuncId→List TypeId
 lent:FuncId→Option eP
 selfT:TypeId→Bool
 peek:FuncId→Option (Nat × Nat)
 turn:FuncId→Bool
 eye:FuncId→Bool
 cold:TypeId→Bool
def CA.add:CA→Nat→Option CA
 | .ptr i off,n=>some (.ptr i (off + n))
 | .ref x off,n=>some (.ref x (off + n))
 | .tptr i r p k j,n=>some (.tptr i r p k (j + n))
 | _,_=>none
def bE {R:Type} (at_:Nat→Option (Nat × Bool × Nat)):List Nat→List AV→List CA→(List CA→Prg R)→Prg R
 | [],[],cs,k=>k cs
 | i :: is,x :: rest,cs,k=>match at_ i with
  | some (off,agg,n)=>x.aP agg n fun ps=>bif (off + ps.length).ble cs.length && ps.length.beq n then bE at_ is rest (bJ cs off ps) k else .fail
  | none=>.fail
 | _,_,_,_=>.fail
def places (T:Tab) (d:TyD) (i:Nat):Option (Nat × Bool × Nat) :=
 match d.kd with
 | .struct => match d.fields[i]? with
  | some (off,ty)=>match T ty with
   | some e=>some (off,e.kd.isAgg,e.size)
   | none=>none
  | none=>none
 | .arr _ e=>match T e with
  | some e=>some (i * e.size,e.kd.isAgg,e.size)
  | none=>none
 | _=>none
def chunks {α:Type} (size:Nat):Nat→List α→List (List α)
 | 0,_=>[]
 | n + 1,l=>l.take size :: chunks size n (l.drop size)
def vt (x:TV):Out:=.ret (.val (.one (.t x)))
def jy:TV→Bool
 | .lit (.slice none 0 0)=>true
 | _=>false
def aC:Way→List Nat
 | []=>[]
 | (_,j) :: p=>j :: aC p
def fL:List Value→Bool
 | []=>false
 | z :: l=>bif aX z then true else fL l
def ce {R:Type} (look:Look):List CA→(List TV→List Prim→List (Nat × Nat)→Prg R)→Prg R
 | [],k=>k [] [] []
 | .t x :: l,k=>ce look l fun xs ps ts=>k (x :: xs) ps ts
 | .sref i r p :: l, k => match bn look i r with
  | some x=>(match p with
   | []=>ce look l fun xs ps ts=>k (x :: xs) (.drop i r [] false :: .root i r .hole :: ps) ((i,r) :: ts)
   | _=>.tv (cu p x) fun y=>.chk y.gu (ce look l fun xs ps ts=>k (y :: xs) ps ts))
  | none=>.fail
 | .swin i r p lo len :: l, k => match bn look i r with
  | some x=>(match p with
   | []=>.tv (eo lo len x) fun y=>ce look l fun xs ps ts=>k (y :: xs) (.drop i r [] false :: .root i r .hole :: ps) ((i,r) :: ts)
   | _=>.tv (cu p x) fun z=>.tv (eo lo len z) fun y=>.chk y.gu (ce look l fun xs ps ts=>k (y :: xs) ps ts))
  | none=>.fail
 | _,_=>.fail
def frB (y:TV):Option Bool:=some y.gu
def bM {R:Type} (look:Look):List CA→(List TV→List Prim→List (Nat × Nat)→Prg R)→Prg R
 | [],k=>k [] [] []
 | .t x :: l,k=>bM look l fun xs ps ts=>k (x :: xs) ps ts
 | .sref i r p :: l, k => match bn look i r with
  | some x=>(match p with
   | []=>bM look l fun xs ps ts=>k (x :: xs) (.drop i r [] false :: .root i r .hole :: ps) ((i,r) :: ts)
   | _ => .tv (cu p x) fun y => .ite (frB y) (bM look l fun xs ps ts => k (y :: xs) ps ts)
     (.tv (kR p x .hole) fun x'=>bM look l fun xs ps ts=>k (y :: xs) (.drop i r (aC p) false :: .root i r x' :: ps) ((i,r) :: ts)))
  | none=>.fail
 | .swin i r p lo len :: l, k => match bn look i r with
  | some x=>(match p with
   | []=>.tv (eo lo len x) fun y=>bM look l fun xs ps ts=>k (y :: xs) (.drop i r [] false :: .root i r .hole :: ps) ((i,r) :: ts)
   | _=>.tv (cu p x) fun z=>.tv (eo lo len z) fun y=>.chk y.gu (bM look l fun xs ps ts=>k (y :: xs) ps ts))
  | none=>.fail
 | _,_=>.fail
def fS (i r:Nat):List (Nat × Nat)→Bool
 | []=>false
 | (a,b) :: l=>bif a.beq i && b.beq r then true else fS i r l
def cH:List (Nat × Nat)→Bool
 | []=>true
 | (a,b) :: l=>!fS a b l && cH l
def vr (i:Nat):List (Nat × Nat)→Bool
 | []=>true
 | (a,_) :: l=>bif a.beq i then false else vr i l
def nH (i:Nat):Option Nat→Bool
 | some j=>i.beq j
 | none=>false
def ur {R : Type} (look : Look) (d : TyD) (dest : Option Nat) (x : AV) (k : List (List TV) → List Prim → Prg R) : Prg R :=
 match x.tv? with
 | some x=>.rws (pelems d.size x) fun xs=>k xs []
 | none => match x with
  | .one c => bif fL d.zero then
    (match c with
    | .sref i r p => match bn look i r with
     | some x=>(match p with
      | []=>bif nH i dest then .fail else .rws (pelems d.size x) fun xs=>k xs [.drop i r [] false,.root i r .hole]
      | _=>.tv (cu p x) fun y=>.chk y.gu (.rws (pelems d.size y) fun xs=>k xs []))
     | none=>.fail
    | .swin i r p lo len => match bn look i r with
     | some x=>(match p with
      | []=>bif nH i dest then .fail else .tv (eo lo len x) fun y=>.rws (pelems d.size y) fun xs=>k xs [.drop i r [] false,.root i r .hole]
      | _=>.tv (cu p x) fun z=>.tv (eo lo len z) fun y=>.chk y.gu (.rws (pelems d.size y) fun xs=>k xs []))
     | none=>.fail
    | _=>.fail)
   else gZ look c fun s=>.rws (pelems d.size s) fun xs=>k (rP xs) []
  | _=>.fail
def vZ (look:Look) (kd:Kd) (x:AV):Out :=
 match kd with
 | .arr n _=>vt (.lit (.int .i64 n))
 | kd=>rS look x fun s=>.tv (plen kd s) vt
def cl (ps:List Prim) (b:BC) (v:AV):Eff:=match ps with | []=>.new b v | _=>.gen (ps ++ [.newB b]) v
def qc:AV→Option Nat
 | .one (.sref i _ _)=>some i
 | .one (.swin i _ _ _ _)=>some i
 | _=>none
def lC (id : Nat) (look : Look) (d : TyD) (s : AV) (news : List (List TV)) (ps : List Prim) : Out :=
 match s.tv? with
 | some s=>bif jy s then .tv (papp d.size s news) fun y=>.ret (cl ps (.tree [y]) (.one (.sref id 0 []))) else .fail
 | none => match s with
  | .one (.sref i r p) => match bn look i r with
   | some x=>(match p with
    | []=>.tv (papp d.size x news) fun y=>.ret (.gen (ps ++ [.drop i r [] false,.root i r y]) (.one (.sref i r [])))
    | _=>.tv (cu p x) fun z=>.tv (papp d.size z news) fun y=>.tv (kR p x .hole) fun x'=>.ret (.gen (ps ++ [.drop i r (aC p) false,.root i r x',.newB (.tree [y])]) (.one (.sref id 0 []))))
   | none=>.fail
  | .one (.swin i r p lo len) => match bn look i r with
   | some x=>(match p with
    | []=>.tv (eo lo len x) fun z=>.tv (papp d.size z news) fun y=>.ret (.gen (ps ++ [.drop i r [] false,.root i r y]) (.one (.sref i r [])))
    | _=>.tv (cu p x) fun z0=>.tv (eo lo len z0) fun z=>.tv (papp d.size z news) fun y=>.tv (kR p x .hole) fun x'=>.ret (.gen (ps ++ [.drop i r (aC p) false,.root i r x',.newB (.tree [y])]) (.one (.sref id 0 []))))
   | none=>.fail
  | _=>.fail
def mA (id:Nat) (look:Look) (d:TyD) (s x:AV):Out :=
 bif d.bytes.ble 4096 && Nat.blt 0 d.size then ur look d (qc s) x fun news ps=>lC id look d s news ps else .fail
def kM (id:Nat) (look:Look) (d:TyD) (s x:AV):Out :=
 bif lx d then (match x.tv? with
  | some x=>.rws (pbytes x) fun news=>lC id look d s news []
  | none=>.fail) else .fail
def xk (look : Look) (d : TyD) (s x : AV) : Out :=
 ur look d (qc s) x fun news ps =>
 match s with
 | .one (.sref i r p)=>match bn look i r with
  | some x => mc p x fun z => .tv (pcopy d.size z news) fun y => uR p x y fun x' => .nat (slLen z) fun n =>
    .ret (.gen (ps ++ [.drop i r (aC p) true,.root i r x']) (.one (.t (.lit (.int .i64 (Nat.min news.length n))))))
  | none=>.fail
 | _=>.fail
def pclear (size:Nat) (z:List TV) (lo len:Nat) (x:TV):Option TV :=
 match x with
 | .sl true s xs=>if s=size∧lo + len≤xs.length then some (.sl true s (xs.take lo ++ (List.replicate len z ++ xs.drop (lo + len)))) else none
 | .lit (.slice none 0 0)=>if len=0 then some (.lit bL) else none
 | _=>none
def tV (look:Look) (d:TyD) (s:AV):Out :=
 bif Nat.blt 0 d.size then (match s with
 | .one (.swin i r p lo len)=>match bn look i r with
  | some x=>mc p x fun z=>.tv (pclear d.size (d.zero.map .lit) lo len z) fun y=>uR p x y fun x'=>.ret (.gen [.drop i r (aC p) true,.root i r x'] (.tups []))
  | none=>.fail
 | _=>.fail) else .fail
def fh (T:Tab) (t:TypeId):Option (TypeId × TyD) :=
 match T t with
 | some ⟨_,_,.slice e,_,_⟩=>match T e with
  | some d=>some (e,d)
  | none=>none
 | _=>none
def pmin (mx:Bool) (x y:TV):Option TV :=
 match x,y with
 | .lit (.int k a),.lit (.int _ b)=>some (.lit (.int k (bif mx then (if b > a then b else a) else (if b < a then b else a))))
 | _,_=>none
def vu (mx:Bool) (x y:AV):Out :=
 match x.tv?,y.tv? with
 | some x,some y=>.tv (pmin mx x y) vt
 | _,_=>.fail
def dO (E:Env) (id:Nat) (look:Look) (b:Builtin) (tys:List TypeId) (args:List AV):Out :=
 match b,args,tys with
 | .len,[x],[ty]=>match E.T ty with
  | some d=>vZ look d.kd x
  | none=>.fail
 | .append, [s, x], [ty, ty'] => match fh E.T ty with
  | some (_,d)=>bif ty.beq ty' then mA id look d s x else (match E.T ty' with
   | some ⟨_,_,.str,_,_⟩=>kM id look d s x
   | _=>.fail)
  | none=>.fail
 | .copy,[s,x],[ty,ty']=>match fh E.T ty with
  | some (_,d)=>bif ty.beq ty' then xk look d s x else .fail
  | none=>.fail
 | .clear,[s],[ty]=>match fh E.T ty with
  | some (_,d)=>tV look d s
  | none=>.fail
 | .min,[x,y],_=>vu false x y
 | .max,[x,y],_=>vu true x y
 | _,_,_=>.fail
def dz:List CA→Option (List TV)
 | []=>some []
 | .t x :: l=>match dz l with
  | some r=>some (x :: r)
  | none=>none
 | _=>none
def eX {R:Type} (v:Option AV) (k:Option Nat→Prg R):Prg R :=
 match v with
 | none=>k none
 | some v=>match v.tv? with
  | some x=>.nat (aA x) fun n=>k (some n)
  | none=>.fail
def jE (d:TyD) (x:List TV) (off:Nat):Out :=
 bif d.kd.isAgg then .chk ((off + d.size).ble x.length) (.ret (.val (.agg ((List.range d.size).map fun j=>.t (nth .hole x (off + j))))))
 else .chk (off.blt x.length) (vt (nth .hole x off))
def fF (i r:Nat) (p:Way) (k:Nat) (e:List TV):List Value→Nat→List CA
 | [],_=>[]
 | z :: zs,j=>(bif aX z then .sref i r (p ++ [(k,j)]) else .t (nth .hole e j)) :: fF i r p k e zs (j + 1)
def pnth (n:Nat) (xs:List TV):Option TV:=xs[n]?
def BA (n j:Nat) (y x:TV):TV:=bif n.beq j then y else x
def gj (n:Nat) (y:TV):Nat→List TV→List CA
 | _,[]=>[]
 | j,x :: l=>.t (BA n j y x) :: gj n y (j + 1) l
def tD (look:Look) (i off len:Nat):Option (List CA × List TV) :=
 match look i with
 | some (.cells cs) => match j6 cs off len with
  | some cs1=>match dz cs1 with
   | some xs=>some (cs,xs)
   | none=>none
  | none=>none
 | _=>none
def xu (look : Look) (d : TyD) (a : AV) : Out :=
 match a with
 | .one (.aptr i off len n)=>bif d.kd.isAgg then .fail else (match tD look i off len with
  | some (_,xs)=>.tv (pnth n xs) vt
  | none=>.fail)
 | .one (.ptr i off) => match look i with
  | some (.cells cs) => match j6 cs off (bif d.kd.isAgg then d.size else 1) with
   | some cs=>match cm d.kd.isAgg cs with
    | some v=>.ret (.val v)
    | none=>.fail
   | none=>.fail
  | _=>.fail
 | .one (.ref x off)=>jE d x off
 | .one (.tptr i r p k j) => match bn look i r with
  | some x=>mc p x fun s=>.tvs (pel s k) fun e=>.chk (ak d.zero e j) (match cm d.kd.isAgg (fF i r p k e d.zero j) with
   | some v=>.ret (.val v)
   | none=>.fail)
  | none=>.fail
 | _=>.fail
def jz (i r:Nat) (js:List Nat):List Value→Nat→List Prim
 | [],_=>[]
 | z :: zs,j=>bif aX z then .drop i r (js ++ [j]) false :: jz i r js zs (j + 1) else jz i r js zs (j + 1)
def bO (look:Look) (i r:Nat) (x:TV):Option BC :=
 match look i with
 | some (.tree xs)=>some (.tree (al xs r x))
 | _=>none
def tB (look : Look) (d : TyD) (a x : AV) : Out :=
 match a with
 | .one (.aptr i off len n) => bif d.kd.isAgg then .fail else (match tD look i off len with
  | some (cs,xs)=>x.aP false 1 fun ps=>(match ps with
   | [.t y]=>.ret (.upd i (.cells (bJ cs off (gj n y 0 xs))) (.one .undef))
   | _=>.fail)
  | none=>.fail)
 | .one (.ptr i off)=>x.aP d.kd.isAgg d.size fun ps=>match look i with
  | some (.cells cs)=>bif (off + ps.length).ble cs.length && ps.length.beq d.size then .ret (.upd i (.cells (bJ cs off ps)) (.one .undef)) else .fail
  | _=>.fail
 | .one (.tptr i r p k j) => x.aP d.kd.isAgg d.size fun ps => match bn look i r with
  | some x => bif !(Nat.blt 0 d.size) then .fail else bif fL d.zero then
    ce look ps fun ys qs ts=>bif cH ts && vr i ts && ys.length.beq d.size then
     mc p x fun s=>.tvs (pel s k) fun e=>.chk (gE d.zero e j && ak d.zero ys 0) (.tv (mG p x k j ys) fun x' =>
      .ret (.gen (qs ++ jz i r (aC p) d.zero j ++ [.root i r x']) (.one .undef))) else .fail
   else ce look ps fun ys qs _=>(match qs with
    | []=>bif ys.length.beq d.size then mc p x fun s=>.tvs (pel s k) fun e=>.chk (ak d.zero e j) (.tv (mG p x k j ys) fun x'=>(match bO look i r x' with
     | some b=>.ret (.upd i b (.one .undef))
     | none=>.fail)) else .fail
    | _=>.fail)
  | none=>.fail
 | _=>.fail
def Kd.xL:Kd→Bool
 | .slice _=>true
 | _=>false
def A3 (look:Look) (kd:Kd) (op:BinOp) (x y:AV):Out :=
 bif kd.xL then rS look x fun x=>rS look y fun y=>.tv (pbin kd op x y) vt
 else match x.tv?,y.tv? with
 | some x,some y=>.tv (pbin kd op x y) vt
 | _,_=>.fail
def mg (k:IntKind):List TV→Option (List Int)
 | []=>some []
 | .lit (.int k' n) :: l=>if k=k' then (match mg k l with
  | some r=>some (n :: r)
  | none=>none) else none
 | _=>none
def peqL (k:IntKind) (op:BinOp) (xs ys:List TV):Option TV :=
 match mg k xs,mg k ys with
 | some a,some b=>wA op (a == b)
 | _,_=>none
def rW:AV→Option Bool
 | .one (.ptr _ _)=>some true
 | .one (.ref _ _)=>some true
 | .one (.tptr _ _ _ _ _)=>some true
 | .one (.aptr _ _ _ _)=>some true
 | .one (.t (.lit (.pointer none)))=>some false
 | .tv (.lit (.pointer none))=>some false
 | _=>none
def Ba (op:BinOp) (x y:AV):Out :=
 match op,rW x,rW y with
 | .eql,some a,some false=>.ret (.val (.bl !a))
 | .neq,some a,some false=>.ret (.val (.bl a))
 | _,_,_=>.fail
def Bp (T:Tab) (look:Look) (kd:Kd) (op:BinOp) (x y:AV):Out :=
 match kd with
 | .arr len e => match T e with
  | some ⟨1,_,.int k,_,_⟩=>x.aP true len fun cs=>y.aP true len fun cs'=>(match dz cs,dz cs' with
   | some xs,some ys=>.tv (peqL k op xs ys) vt
   | _,_=>.fail)
  | _=>.fail
 | .ptr=>Ba op x y
 | kd=>A3 look kd op x y
def ii (look : Look) (kd : Kd) (sz : Nat) (x : AV) (lo hi : Option AV) : Out :=
 match x.tv? with
 | some x=>eX lo fun lo=>eX hi fun hi=>.tv (pslice kd sz x lo hi) vt
 | none => match kd, x with
  | .slice _, .one (.sref i r p) => gZ look (.sref i r p) fun s => .nat (slLen s) fun n => eX lo fun lo => eX hi fun hi =>
    .chk (slSize s sz && (lo.getD 0).ble (hi.getD n) && (hi.getD n).ble n) (.ret (.val (.one (.swin i r p (lo.getD 0) (hi.getD n - lo.getD 0)))))
  | .slice _, .one (.swin i r p lo0 n) => match lo with
   | none=>gZ look (.sref i r p) fun s=>eX hi fun hi=>.chk (slSize s sz && (hi.getD n).ble n) (.ret (.val (.one (.swin i r p lo0 (hi.getD n)))))
   | some _=>gZ look (.sref i r p) fun s=>eX lo fun lo=>eX hi fun hi =>
    .chk (lo0.beq 0 && slSize s sz && (lo.getD 0).ble (hi.getD n) && (hi.getD n).ble n) (.ret (.val (.one (.swin i r p (lo.getD 0) (hi.getD n - lo.getD 0)))))
  | _,_=>.fail
def ow (look:Look) (d:TyD) (x i:AV):Out :=
 match i.tv? with
 | some i => match x.tv? with
  | some x=>.tvs (pidx d.size x i) fun el=>.ret (.val (.one (.ref el 0)))
  | none=>match x with
   | .one (.sref b r p)=>gZ look (.sref b r p) fun s=>.nat (slLen s) fun n=>.nat (aA i) fun k=>.chk (slSize s d.size && k.blt n) (.ret (.val (.one (.tptr b r p k 0))))
   | .one (.swin b r p lo n)=>gZ look (.sref b r p) fun s=>.nat (aA i) fun k=>.chk (slSize s d.size && k.blt n) (.ret (.val (.one (.tptr b r p (lo + k) 0))))
   | _=>.fail
 | none=>.fail
def pz (T:Tab) (t:TypeId) (x i:AV):Out :=
 match T t with
 | some ⟨_,_,.arr len e,_,_⟩=>match T e,x,i.tv? with
  | some d,.one (.ptr b off),some i=>bif !d.kd.isAgg && d.size.beq 1 then .nat (aA i) fun k=>.chk (k.blt len) (.ret (.val (.one (.aptr b off len k)))) else .fail
  | _,_,_=>.fail
 | _=>.fail
def pA (T:Tab) (t:TypeId) (x i:AV):Out :=
 match T t with
 | some ⟨_, _, .arr len e, _, _⟩ => match T e, x, i.tv? with
  | some d,.agg cs,some i=>bif !d.kd.isAgg && d.size.beq 1 then (match dz cs with
   | some xs=>.nat (aA i) fun k=>.chk (k.blt len) (.tv (pnth k xs) vt)
   | none=>.fail) else .fail
  | _,_,_=>.fail
 | _=>.fail
def tC (d:TyD) (off:Nat) (agg:Bool) (n:Nat) (x:AV):Out :=
 match x with
 | .agg cs => match j6 cs off (bif agg then n else 1) with
  | some cs=>match cm agg cs with
   | some v=>.ret (.val v)
   | none=>.fail
  | none=>.fail
 | .tv x => .chk (x.isAgg d.size && (off + n).ble d.size && Nat.blt 0 n)
   (.ret (.val (bif agg then .agg ((List.range n).map fun j=>.t (x.cell (off + j))) else .one (.t (x.cell off)))))
 | _=>.fail
def kt (T:Tab):Kd→Bool
 | .struct=>true
 | .arr _ e=>(T e).isSome
 | _=>false
def pE (T:Tab):Kd→Option Nat
 | .slice e=>match T e with
  | some d=>some d.size
  | none=>none
 | _=>some 0
def TV.cellsL (agg:Bool) (x:TV):List TV:=match agg,x with
 | true,.agg cs=>cs
 | true,_=>[]
 | false,x=>[x]
def dF (id r0:Nat):List Value→TV→Bool→Nat→List CA
 | [],_,_,_=>[]
 | z :: zs,x,agg,j=>(bif aX z then .sref id (r0 + j) [] else .t (bif agg then x.cell j else x)) :: dF id r0 zs x agg (j + 1)
def db:List Value→TV→Bool→Nat→List TV
 | [],_,_,_=>[]
 | z :: zs,x,agg,j=>(bif aX z then (bif agg then x.cell j else x) else .hole) :: db zs x agg (j + 1)
def iJ {R:Type} (d:TyD) (x:TV) (k:Prg R):Prg R :=
 bif d.kd.isAgg then .chk (x.isAgg d.size && ak d.zero (x.cellsL true) 0) k else .chk (ak d.zero (x.cellsL false) 0) k
def kS (T:Tab):List TypeId→Option (List TyD)
 | []=>some []
 | t :: l=>match T t,kS T l with
  | some d,some ds=>some (d :: ds)
  | _,_=>none
def fG {R:Type} (x:TV):List TyD→Nat→Prg R→Prg R
 | [],_,k=>k
 | d :: l,j,k=>iJ d (x.comp j) (fG x l (j + 1) k)
def dl (id:Nat) (x:TV):List TyD→Nat→Nat→List (Bool × List CA)
 | [],_,_=>[]
 | d :: l,j,r0=>(d.kd.isAgg,dF id r0 d.zero (x.comp j) d.kd.isAgg 0) :: dl id x l (j + 1) (r0 + d.zero.length)
def a7 (x:TV):List TyD→Nat→List TV
 | [],_=>[]
 | d :: l,j=>db d.zero (x.comp j) d.kd.isAgg 0 ++ a7 x l (j + 1)
def ga:List TyD→Bool
 | []=>false
 | d :: l=>bif fL d.zero then true else ga l
def rT (id:Nat) (ds:List TyD) (v:TV) (ps:List Prim):Out :=
 match ds with
 | [d]=>iJ d v (match cm d.kd.isAgg (dF id 0 d.zero v d.kd.isAgg 0) with
  | some av=>bif fL d.zero then .ret (cl ps (.tree (db d.zero v d.kd.isAgg 0)) av) else .ret (match ps with | []=>.val av | _=>.gen ps av)
  | none=>.fail)
 | ds => .chk (v.isTup ds.length) (fG v ds 0 (bif ga ds then .ret (cl ps (.tree (a7 v ds 0)) (.tups (dl id v ds 0 0)))
   else .ret (match ps with | []=>.val (.tups (dl id v ds 0 0)) | _=>.gen ps (.tups (dl id v ds 0 0)))))
def TV.vK (x:TV) (e:Nat):Bool:=match x with | .buf _ e'=>e'.beq e | _=>false
def TV.dY (x:TV):Bool:=match x with | .tup []=>true | _=>false
def Bq:TV:=.tup []
def mF:List Fl→List TV→Bool
 | [],[]=>true
 | f :: fl,x :: xs=>(match f with | .sc=>x.isSc | .sl=>x.isSl | .may=>x.dY | .bf e=>x.vK e | .any=>x.gu) && mF fl xs
 | _,_=>false
def fj (i t:Nat) (ty:TypeId):List Fl→List TV→Nat→List CA
 | f :: fl,x :: xs,r=>(match f with | .sc=>.t x | .sl=>.sref t r [] | .may=>.may i ty | .bf _=>.sref t r [] | .any=>.t x) :: fj i t ty fl xs (r + 1)
 | _,_,_=>[]
def cr:List Fl→List TV→List TV
 | f :: fl,x :: xs=>(match f with | .sl=>x | .bf _=>x | _=>.hole) :: cr fl xs
 | _,_=>[]
def jo (self:Bool) (id:Nat) (e:TypeId) (zs:List Value):List CA :=
 match self,zs with
 | true,.pointer none :: l=>.may id e :: l.map fun v=>.t (.lit v)
 | _,zs=>zs.map fun v=>.t (.lit v)
def CA.B9:CA→CA
 | .may _ _=>.t .hole
 | c=>c
def unMays:List CA→List CA
 | []=>[]
 | c :: l=>c.B9 :: unMays l
def ma (i:Nat) (ty:TypeId):List Fl→List CA→Bool
 | [],[]=>true
 | f :: fl,c :: cs=>(match f,c with | .may,.may j t=>j.beq i && t.beq ty | .may,_=>false | _,.may _ _=>false | _,_=>true) && ma i ty fl cs
 | _,_=>false
def BU (e:Nat) (x:TV):TV:=bif jy x then .buf .empty e else x
def iB:List Fl→List TV→List TV
 | f :: fl,x :: xs=>(match f with | .may=>Bq | .bf e=>BU e x | _=>x) :: iB fl xs
 | _,_=>[]
def junks:List CA→List CA
 | []=>[]
 | _ :: l=>.junk :: junks l
def fE (v:TV):Nat→Nat→List TV
 | 0,_=>[]
 | n + 1,j=>v.comp j :: fE v n (j + 1)
def Ay (id:Nat) (ds:List TyD) (v:TV) (k:AV→Out):Out :=
 match ds with
 | [d]=>iJ d v (match cm d.kd.isAgg (dF id 0 d.zero v d.kd.isAgg 0) with | some av=>k av | none=>.fail)
 | ds=>.chk (v.isTup ds.length) (fG v ds 0 (k (.tups (dl id v ds 0 0))))
def mD (E : Env) (id : Nat) (look : Look) (f : FuncId) (ld : eP) (vs : List AV) : Out :=
 match vs with
 | .one (.ptr i 0) :: rest => match look i, kS E.T (E.rts f) with
  | some (.cells cs), some ds => bif ga ds || !ma i ld.ty ld.fl cs then .fail else
   hands look rest fun xs rs=>ce look (unMays cs) fun ys qs ts=>bif cH (ts ++ rs) then
    .chk (mF ld.fl (iB ld.fl ys)) (.call f (.tup (iB ld.fl ys) :: xs) fun v=>.chk (v.isTup 2 && (v.comp 1).isTup ld.fl.length && mF ld.fl (fE (v.comp 1) ld.fl.length 0))
     (Ay id ds (v.comp 0) fun av => .ret (.gen (qs ++ (sV rs ++ [.setB i (junks cs), .unmay i, .newB (.tree (cr ld.fl (fE (v.comp 1) ld.fl.length 0))),
      .setB i (fj i id ld.ty ld.fl (fE (v.comp 1) ld.fl.length 0) 0)])) av)))
   else .fail
  | _,_=>.fail
 | _=>.fail
def sA:TV→TV
 | .lit v=>.lit v
 | .agg cs=>.agg (lfL cs)
 | _=>.hole
def gB:List TV→List TV
 | []=>[]
 | x :: l=>sA x :: gB l
def nh (look:Look) (f:FuncId) (c:Nat × Nat) (vs:List AV):Out :=
 match vs with
 | .one (.ptr i 0) :: rest => match look i with
  | some (.cells cs)=>match nth .junk cs c.1 with
   | .t x=>bif cs.length.beq c.2 then lends look rest fun xs=>.call f (x :: gB xs) fun v=>.ret (.val (.tv v)) else .fail
   | _=>.fail
  | _=>.fail
 | _=>.fail
def pput (lo:Nat) (y z:TV):Option TV :=
 match y,z with
 | .sl true s xs,.sl true s' ws=>if s=s'∧lo + ws.length≤xs.length then some (.sl true s (xs.take lo ++ (ws ++ xs.drop (lo + ws.length)))) else none
 | .lit (.slice none 0 0),.lit (.slice none 0 0)=>if lo=0 then some (.lit bL) else none
 | _,_=>none
def kJ (look:Look) (f:FuncId) (vs:List AV):Out :=
 match vs with
 | .one (.sref i r p) :: rest=>match bn look i r with
  | some x=>mc p x fun z=>lends look rest fun xs=>.call f (z :: gB xs) fun v=>.tv (pput 0 z v) fun y=>uR p x y fun x'=>.ret (.gen [.drop i r (aC p) true,.root i r x'] (.tups []))
  | none=>.fail
 | .one (.swin i r p lo len) :: rest=>match bn look i r with
  | some x=>mc p x fun z=>.tv (eo lo len z) fun z1=>lends look rest fun xs=>.call f (z1 :: gB xs) fun v=>.tv (pput lo z v) fun y=>uR p x y fun x'=>.ret (.gen [.drop i r (aC p) true,.root i r x'] (.tups []))
  | none=>.fail
 | _=>.fail
def pifc (t:TypeId) (x:TV):Option TV:=match x with | .lit v=>if scV v=true then some (.lit (.iface t v)) else none | _=>none
def pasrt (t:TypeId) (x:TV):Option TV:=match x with | .lit (.iface t' v)=>if t'=t∧scV v=true then some (.lit v) else none | _=>none
def Kd.j4:Kd→Bool
 | .bool=>true
 | .int _=>true
 | .str=>true
 | .ptr=>true
 | _=>false
def Aa (d:TyD) (t:TypeId) (x:AV):Out :=
 bif d.kd.j4 then (match x with
 | .one (.ptr i 0)=>.ret (.val (.one (.ifp t i)))
 | x=>match x.tv? with
  | some x=>.tv (pifc t x) vt
  | none=>.fail) else .fail
def rX (d:TyD) (t:TypeId) (x:AV):Out :=
 bif d.kd.j4 then (match x.tv? with
  | some x=>.tv (pasrt t x) vt
  | none=>.fail) else .fail
def lO (E:Env) (id:Nat) (look:Look) (f:FuncId) (vs:List AV):Out :=
 match E.peek f with
 | some c=>nh look f c vs
 | none=>match E.lent f with
 | some ld=>mD E id look f ld vs
 | none=>match kS E.T (E.rts f) with
 | some ds=>bif E.pure f || !ga ds then lends look vs fun xs=>.call f xs fun v=>rT id ds v []
  else hands look vs fun xs rs=>bif cH rs then .call f xs fun v=>rT id ds v (sV rs) else .fail
 | none=>.fail
def uB (E:Env) (id:Nat) (look:Look) (f:FuncId) (i:Nat) (vs:List AV):Out :=
 bif E.eye f && !E.turn f then (match look i,kS E.T (E.rts f) with
 | some (.cells cs),some ds=>(match dz cs with
  | some xs=>lends look vs fun ys=>.call f (gB ys ++ [.agg xs]) fun v=>rT id ds v []
  | none=>.fail)
 | _,_=>.fail) else .fail
def wQ (T:Tab) (look:Look) (ds d:TyD) (x:AV):Out :=
 match ds.kd,d.kd with
 | .slice e,.str=>match T e with
  | some de=>bif lx de then rS look x fun y=>.rws (pelems 1 y) fun rows=>.tv (B6 rows) vt else .fail
  | none=>.fail
 | _,kd=>match x.tv? with
  | some x=>.tv (pconv kd x) vt
  | none=>.fail
def qW (E:Env) (t:TypeId) (len:Nat) (parts:Array (Nat × Operand)) (vs:List AV):Out :=
 match fh E.T t with
 | some (_, d) =>
  bE (fun i=>some (i * d.size,d.kd.isAgg,d.size)) (parts.toList.map (·.1)) vs ((List.replicate len d.zero).flatten.map fun v=>.t (.lit v)) fun cs =>
   (match dz cs with
   | some ys=>bif (len * d.size).ble 16777216 && ys.length.beq (len * d.size) && Nat.blt 0 d.size then .ret (.new (.tree [.hole]) (.one (.t (.sl false d.size (chunks d.size len ys))))) else .fail
   | none=>.fail)
 | none=>.fail
def ic (E : Env) (id : Nat) (look : Look) (t : TypeId) (len : Nat) (parts : Array (Nat × Operand)) (vs : List AV) : Out :=
 match fh E.T t with
  | some (_, d) =>
   bE (fun i=>some (i * d.size,d.kd.isAgg,d.size)) (parts.toList.map (·.1)) vs ((List.replicate len d.zero).flatten.map fun v=>.t (.lit v)) fun cs =>
    bM look cs fun ys qs ts=>bif cH ts && (len * d.size).ble 16777216 && ys.length.beq (len * d.size) && Nat.blt 0 d.size then
     .ret (cl qs (.tree [.sl true d.size (chunks d.size len ys)]) (.one (.sref id 0 []))) else .fail
  | none=>.fail
def opL (E : Env) (id : Nat) (look : Look) (op : Op) (vs : List AV) : Out :=
 match op,vs with
 | .move _,[x]=>.ret (.val x)
 | .assign _,[x]=>.ret (.val x)
 | .pick _ _ _,[c,a,b]=>match c with
  | .bl c=>.ret (.val (bif c then a else b))
  | .tv v=>.ite (asBool v) (.ret (.val a)) (.ret (.val b))
  | .one (.t v)=>.ite (asBool v) (.ret (.val a)) (.ret (.val b))
  | _=>.fail
 | .alloc e,[]=>match E.T e with
  | some d=>.ret (.new (.cells (jo (E.selfT e) id e d.zero)) (.one (.ptr id 0)))
  | none=>.fail
 | .box e _,[x]=>match E.T e with
  | some d=>x.aP d.kd.isAgg d.size fun cs=>.ret (.new (.cells cs) (.one (.ptr id 0)))
  | none=>.fail
 | .build t parts,vs=>match E.T t with
  | some d=>bif kt E.T d.kd then bE (places E.T d) (parts.toList.map (·.1)) vs (d.zero.map fun v=>.t (.lit v)) fun cs=>.ret (.val (.agg cs)) else .fail
  | none=>.fail
 | .buildSlice t len parts,vs=>bif E.cold t && !(len.beq 0) then qW E t len parts vs else ic E id look t len parts vs
 | .load t _,[a]=>match E.T t with
  | some d=>xu look d a
  | none=>.fail
 | .store t _ _,[a,x]=>match E.T t with
  | some d=>tB look d a x
  | none=>.fail
 | .nilCheck _,[x]=>match x with
  | .one (.ptr i off)=>.ret (.val (.one (.ptr i off)))
  | .one (.ref x off)=>.ret (.val (.one (.ref x off)))
  | .one (.tptr i r p k j)=>.ret (.val (.one (.tptr i r p k j)))
  | .one (.aptr i off len n)=>.ret (.val (.one (.aptr i off len n)))
  | _=>.fail
 | .binOp op xt _ _ _,[x,y]=>match E.T xt with
  | some d=>Bp E.T look d.kd op x y
  | none=>.fail
 | .unOp op _ _, [x] => match op, x with
  | .not,.bl b=>.ret (.val (.bl (!b)))
  | op,x=>match x.tv? with
   | some x=>.tv (pun op x) vt
   | none=>.fail
 | .convert sty dt _,[x]=>match E.T sty,E.T dt with
  | some ds,some d=>wQ E.T look ds d x
  | _,_=>.fail
 | .makeSlice t _ _,[l,c]=>match fh E.T t,l.tv?,c.tv? with
  | some (_,d),some l,some c=>bif d.bytes.ble 4096 then .nat (aA l) fun n=>.nat (aA c) fun m=>.chk (n.ble m && m.ble room)
     (.ret (.new (.tree [.sl true d.size (List.replicate n (d.zero.map .lit))]) (.one (.sref id 0 [])))) else .fail
  | _,_,_=>.fail
 | .slice t _ lo hi none, x :: rest => match E.T t with
  | some d => match pE E.T d.kd with
   | some sz=>match lo,hi,rest with
    | none,none,[]=>ii look d.kd sz x none none
    | some _,none,[l]=>ii look d.kd sz x (some l) none
    | none,some _,[h]=>ii look d.kd sz x none (some h)
    | some _,some _,[l,h]=>ii look d.kd sz x (some l) (some h)
    | _,_,_=>.fail
   | none=>.fail
  | none=>.fail
 | .fieldAddr s _ f, [x] => match E.T s, x with
  | some d,.one c=>match d.kd,places E.T d f with
   | .struct,some (off,_,n)=>bif Nat.blt 0 n then (match c.add off with | some c=>.ret (.val (.one c)) | none=>.fail) else .fail
   | _,_=>.fail
  | _,_=>.fail
 | .field s _ f, [x] => match E.T s with
  | some d=>match d.kd,places E.T d f with
   | .struct,some (off,agg,n)=>tC d off agg n x
   | _,_=>.fail
  | none=>.fail
 | .indexAddr t _ _,[x,i]=>match fh E.T t with
  | some (_,d)=>ow look d x i
  | none=>pz E.T t x i
 | .index t _ _,[x,i]=>match E.T t,x.tv?,i.tv? with
  | some ⟨_,_,.str,_,_⟩,some x,some i=>.tv (pstr x i) vt
  | _,_,_=>pA E.T t x i
 | .extract _ j, [x] => match x with
  | .tups cs => match cs[j]? with
   | some (agg,c)=>match cm agg c with
    | some v=>.ret (.val v)
    | none=>.fail
   | none=>.fail
  | _=>.fail
 | .makeFunc (.func f) first _,vs=>bif first.size.beq 0 then jP vs fun cs=>.ret (.val (.clo f cs)) else .fail
 | .call ⟨.builtin b,_,tys⟩,vs=>dO E id look b tys.toList vs
 | .makeInterface t _,[x]=>match E.T t with
  | some d=>Aa d t x
  | none=>.fail
 | .typeAssert _ _ t false,[x]=>match E.T t with
  | some d=>rX d t x
  | none=>.fail
 | .call ⟨.value (.func f),_,_⟩,_ :: vs=>bif E.turn f then kJ look f vs else bif E.eye f then .fail else lO E id look f vs
 | .call ⟨.value (.tmp _), _, _⟩, fv :: vs => match fv.tv? with
  | some x=>.nat (fnOf x) fun f=>.chk ((E.lent f).isNone && (E.peek f).isNone && !(E.turn f || E.eye f)) (lends look vs fun xs=>.call f xs fun v=>.chk v.isSc (vt v))
  | none=>match fv with
   | .one (.fn1 f i)=>uB E id look f i vs
   | _=>.fail
 | _,_=>.fail
def cF:Nat:=24
def ASt.nid (st:ASt) (d:Option Tmp):Nat:=match d with | some d=>cF + st.out.length + d | none=>0
def ASt.put (st:ASt) (d:Option Tmp) (v:AV):ASt :=
 match d with
 | some d=>⟨al st.slots d v,st.boxes,st.out⟩
 | none=>st
def ASt.look (st:ASt):Look:=fun i=>nth none st.boxes i
def ASt.ab (st:ASt) (i:Nat) (b:Option BC):ASt:=⟨st.slots,al st.boxes i b,st.out⟩
def leads:Bool→List Nat→Way→Bool
 | strict,[],p=>match p with | []=>!strict | _=>true
 | _,_ :: _,[]=>false
 | strict,a :: l,(_,j) :: p=>a.beq j && leads strict l p
def cO (i r:Nat) (js:List Nat) (strict:Bool) (i' r':Nat) (p:Way):Bool:=i.beq i' && r.beq r' && leads strict js p
def CA.drop (i r:Nat) (js:List Nat) (strict:Bool) (c:CA):CA :=
 match c with
 | .tptr i' r' p _ _=>bif cO i r js strict i' r' p then .junk else c
 | .sref i' r' p=>bif cO i r js strict i' r' p then .junk else c
 | .swin i' r' p _ _=>bif cO i r js strict i' r' p then .junk else c
 | c=>c
def mapC (f:CA→CA):List CA→List CA
 | []=>[]
 | c :: l=>f c :: mapC f l
def iI (f:CA→CA):List (Bool × List CA)→List (Bool × List CA)
 | []=>[]
 | (b,cs) :: l=>(b,mapC f cs) :: iI f l
def AV.bC (f:CA→CA):AV→AV
 | .one c=>.one (f c)
 | .agg cs=>.agg (mapC f cs)
 | .tups cs=>.tups (iI f cs)
 | .tv x=>.tv x
 | .bl b=>.bl b
 | .clo n cs=>.clo n (mapC f cs)
def bG (f:CA→CA):List AV→List AV
 | []=>[]
 | v :: l=>v.bC f :: bG f l
def BC.a9 (f:CA→CA):BC→BC
 | .cells cs=>.cells (mapC f cs)
 | b=>b
def dv (f:CA→CA):List (Option BC)→List (Option BC)
 | []=>[]
 | some b :: l=>some (b.a9 f) :: dv f l
 | none :: l=>none :: dv f l
def ASt.ap (f:CA→CA) (st:ASt):ASt:=⟨bG f st.slots,dv f st.boxes,bG f st.out⟩
def CA.unM (i:Nat):CA→CA
 | .may j ty=>bif j.beq i then .junk else .may j ty
 | c=>c
def ASt.bc (st:ASt) (i:Nat) (b:BC):Option ASt :=
 match st.look i with
 | some _=>none
 | none=>bif i.blt st.boxes.length then some (st.ab i (some b)) else none
def Prim.app (st:ASt) (d:Option Tmp):Prim→Option ASt
 | .drop i r js strict=>some (st.ap (CA.drop i r js strict))
 | .root i r x=>match bO st.look i r x with
  | some b=>some (st.ab i (some b))
  | none=>none
 | .frz i r => match bn st.look i r with
  | some x=>match bO st.look i r (Ab.frz x) with
   | some b=>some (st.ab i (some b))
   | none=>none
  | none=>none
 | .unmay i=>some (st.ap (CA.unM i))
 | .newB b=>match d with
  | some d=>st.bc (st.nid (some d)) b
  | none=>none
 | .setB i cs=>match st.look i with
  | some (.cells _)=>some (st.ab i (some (.cells cs)))
  | _=>none
def ac (d:Option Tmp):List Prim→ASt→Option ASt
 | [],st=>some st
 | p :: l,st=>match p.app st d with
  | some st=>ac d l st
  | none=>none
def Eff.app (st:ASt) (d:Option Tmp):Eff→Option ASt
 | .val v=>some (st.put d v)
 | .new b v => match d with
  | none=>none
  | some d=>match st.bc (st.nid (some d)) b with
   | some st=>some (st.put (some d) v)
   | none=>none
 | .upd i b v=>some ((st.ab i (some b)).put d v)
 | .gen ps v=>match ac d ps st with
  | some st=>some (st.put d v)
  | none=>none
def banned (ban:List Nat) (look:Look):Look:=fun i=>bif bu i ban then none else look i
inductive Cls where
 | N | R | A | B | W | P | X
def aj:Op→Cls
 | .move _ | .assign _ | .pick _ _ _ | .build _ _ | .nilCheck _ | .unOp _ _ _ | .fieldAddr _ _ _ | .field _ _ _ | .index _ _ _ | .extract _ _ | .makeFunc _ _ _ | .makeInterface _ _ | .typeAssert _ _ _ _=>.N
 | .load _ _ | .binOp _ _ _ _ _ | .slice _ _ _ _ _ | .indexAddr _ _ _ | .convert _ _ _=>.R
 | .alloc _ | .box _ _ | .makeSlice _ _ _=>.A
 | .call ⟨.builtin .len,_,_⟩=>.R
 | .call ⟨.builtin .min,_,_⟩=>.R
 | .call ⟨.builtin .max,_,_⟩=>.R
 | .call ⟨.value (.func _),_,_⟩=>.B
 | .call ⟨.value (.tmp _),_,_⟩=>.B
 | .buildSlice _ _ _=>.B
 | .store _ _ _=>.W
 | .call ⟨.builtin .append,_,_⟩=>.P
 | _=>.X
def Cls.isX:Cls→Bool
 | .X=>true
 | _=>false
def Cls.makes:Cls→Bool
 | .A=>true
 | .B=>true
 | .P=>true
 | _=>false
def Cls.reads:Cls→Bool
 | .R=>true
 | .B=>true
 | .W=>true
 | .P=>true
 | _=>false
def jA:Cls→Cls→Bool
 | .X,_=>false
 | _,.X=>false
 | .P,.P=>false
 | .P,.W=>false
 | .W,.P=>false
 | _,_=>true
def co:List Operand→List Nat
 | []=>[]
 | .tmp t :: l=>t :: co l
 | _ :: l=>co l
def nX (ops:List Oper) (o:Oper):List Nat :=
 match o.guard with
 | some (j,_)=>(match (ops[j]?).bind (·.dst) with | some g=>[g] | none=>[])
 | none=>[]
def looks (ops:List Oper) (o:Oper):List Nat:=nX ops o ++ co o.op.operands.toList
def dj (d:Option Nat) (l:List Nat):Bool :=
 match d with
 | some d=>!bu d l
 | none=>true
def ao (o:Op):Option Nat:=match aj o,o.operands.toList with
 | .P,.tmp s :: _=>some s
 | _,_=>none
def Eff.plain:Eff→Bool
 | .val _=>true
 | .new _ _=>true
 | .upd _ _ _=>true
 | _=>false
structure Item where
 o:Oper
 ban:List Nat × List Nat
 dr:Bool
 own:List (List Nat × List Nat)
 push:List Nat
 root:Nat
 loose:Bool
 shut:Bool
 lds:List (List Nat × List Nat)
 dull:List Nat
 dull2:List Nat
def aK (b:List Nat × List Nat) (base:Nat):List Nat:=b.1.map (base + ·) ++ b.2.map (· / 2)
def Eff.lP (base:Nat) (own:List (List Nat × List Nat)):Eff→Bool
 | .upd i _ _=>own.all fun l=>bu i (aK l base)
 | _=>true
def ASt.base (st:ASt):Nat:=cF + st.out.length
def ng:CA→List Nat
 | .ptr i _=>[i]
 | .tptr i _ _ _ _=>[i]
 | .sref i _ _=>[i]
 | .swin i _ _ _ _=>[i]
 | .may i _=>[i]
 | .aptr i _ _ _=>[i]
 | .ifp _ i=>[i]
 | .fn1 _ i=>[i]
 | _=>[]
def ka:List CA→List Nat
 | []=>[]
 | c :: l=>ng c ++ ka l
def oG:List (Bool × List CA)→List Nat
 | []=>[]
 | (_,cs) :: l=>ka cs ++ oG l
def AV.dp:AV→List Nat
 | .one c=>ng c
 | .agg cs=>ka cs
 | .tups cs=>oG cs
 | .tv _=>[]
 | .bl _=>[]
 | .clo _ cs=>ka cs
def fd:List AV→List Nat
 | []=>[]
 | v :: l=>v.dp ++ fd l
def BC.kf:BC→List Nat
 | .cells cs=>ka cs
 | .tree _=>[]
def cR:Eff→List Nat
 | .val v=>v.dp
 | .new b v=>b.kf ++ v.dp
 | .upd _ b v=>b.kf ++ v.dp
 | .gen _ v=>v.dp
def bR (ps:List Nat) (st:ASt) (d:Option Nat) (e:Eff):Bool :=
 ps.all fun s=>!bu (st.base + s) (cR e) && (match d with | some d=>!bu (st.base + s) (nth (.one .junk) st.slots d).dp | none=>true)
def jb:Eff→Option (Nat × TV)
 | .gen [.drop i 0 [] false,.root j 0 y] (.one (.sref k 0 []))=>bif i.beq j && i.beq k then some (i,y) else none
 | _=>none
def ji (k:Nat):AV→Bool
 | .one (.sref j 0 [])=>j.beq k
 | _=>false
def tR:Option BC→Bool
 | some (.tree [_])=>true
 | _=>false
def eE (k s:Nat):Nat→List AV→Bool
 | _,[]=>true
 | n,v :: l=>(n.beq s || !bu k v.dp) && eE k s (n + 1) l
def dc (k:Nat):List (Option BC)→Bool
 | []=>true
 | some b :: l=>!bu k b.kf && dc k l
 | none :: l=>dc k l
def cE (it:Item) (st:ASt) (e:Eff):Bool :=
 match ao it.o.op,jb e with
 | some s,some (i,_)=>i.beq (st.base + it.root) && ji i (nth (.one .junk) st.slots s) && tR (st.look i) && eE i s 0 st.slots && dc i st.boxes && !bu i (fd st.out)
 | _,_=>false
def bW:List AV→Bool
 | []=>true
 | v :: l=>(match v.tv? with | some _=>true | none=>false) && bW l
def gM:Eff→Bool
 | .val _=>true
 | .new (.tree _) _=>true
 | _=>false
def sL (n:Nat):List Nat→Bool
 | []=>true
 | k :: l=>k.beq n && sL n l
def gf (i:Item) (st:ASt) (e:Eff):Bool:=bW (i.o.op.operands.toList.map st.ev) && (gM e && sL (st.nid i.o.dst) (cR e))
def nT:List Prim→List Nat
 | []=>[]
 | .drop i _ _ _ :: l=>i :: nT l
 | .root i _ _ :: l=>i :: nT l
 | _ :: l=>nT l
def ko:Eff→List Nat
 | .gen ps _=>nT ps
 | _=>[]
def drP:Prim→Bool
 | .drop _ _ _ _=>true
 | .root _ _ _=>true
 | .newB _=>true
 | _=>false
def drE:Eff→Bool
 | .gen ps _=>ps.all drP
 | .upd _ _ _=>false
 | _=>true
def CA.deep:CA→CA
 | .tptr i r p k j=>match p with | []=>.junk | _=>.tptr i r p k j
 | .sref i r p=>match p with | []=>.junk | _=>.sref i r p
 | .swin i r p lo len=>match p with | []=>.junk | _=>.swin i r p lo len
 | c=>c
def ew (k:Nat):List (Option BC)→Bool
 | []=>true
 | some b :: l=>!bu k (b.a9 CA.deep).kf && ew k l
 | none :: l=>ew k l
def B4 (k:Nat):Prim→Bool
 | .drop i _ js _=>!(i.beq k) || !js.isEmpty
 | _=>true
def sQ (k:Nat):Eff→Bool
 | .gen ps _=>ps.all (B4 k)
 | _=>true
def wS (o:Oper):Bool:=match o.op with
 | .store _ _ _=>o.guard.isNone && o.dst.isNone
 | _=>false
def lZ (o:Oper):Bool:=(ao o.op).isSome || wS o
def bV (i:Item) (st:ASt) (e:Eff):Bool:=i.lds.all fun l=>drE e && (ko e).all fun k =>
 (bu k (l.1.map (st.base + ·)) && dc k st.boxes) || (lZ i.o && ((bu (2 * k) l.2 && dc k st.boxes) || (bu (2 * k + 1) l.2 && (sQ k e && ew k st.boxes))))
def io (st:ASt) (d:Option Nat) (b:Nat):Bool:=match d with | some d=>!bu b (nth (.one .junk) st.slots d).dp | none=>true
def fI (st:ASt) (d:Option Nat) (b:Nat):Bool:=match d with | some d=>!bu b ((nth (.one .junk) st.slots d).bC CA.deep).dp | none=>true
def mK:Eff→List Nat
 | .val v=>(v.bC CA.deep).dp
 | e=>cR e
def cC (i:Item) (st:ASt) (e:Eff):Bool:=(i.dull.all fun s=>!bu (st.base + s) (fd (i.o.op.operands.toList.map st.ev))) &&
 (i.dull2.all fun b => bif (b % 2).beq 0 then !bu (b / 2) (cR e) && (io st i.o.dst (b / 2) && !bu (b / 2) (fd (i.o.op.operands.toList.map st.ev)))
  else !bu (b / 2) (mK e) && (fI st i.o.dst (b / 2) && !bu (b / 2) (fd (bG CA.deep (i.o.op.operands.toList.map st.ev)))))
def okE (i:Item) (st:ASt) (e:Eff):Bool:=(i.loose && bV i st e) || ((bif i.shut then gf i st e else e.plain && e.lP st.base i.own && (bR i.push st i.o.dst e && cC i st e)) || cE i st e)
def effQ {R:Type} (i:Item) (st:ASt) (K:ASt→Prg R) (e:Eff):Prg R :=
 bif i.dr && !(okE i st e) then .fail else
 match e.app st i.o.dst with
 | some st=>K st
 | none=>.fail
def lI {R:Type} (E:Env) (i:Item) (K:ASt→Prg R) (st:ASt):Prg R :=
 (opL E (st.nid i.o.dst) (banned (aK i.ban st.base) st.look) i.o.op (i.o.op.operands.toList.map st.ev)).bind (effQ i st K)
def di (o:Oper) (st:ASt):ASt:=st.put o.dst (.one .undef)
def opQ {R:Type} (E:Env) (ops:List Oper) (i:Item) (K:ASt→Prg R) (st:ASt):Prg R :=
 match i.o.guard with
 | none=>lI E i K st
 | some (j, want) => match ((ops[j]?).bind (·.dst)) with
  | none=>.fail
  | some g=>match nth (.one .junk) st.slots g with
   | .one .undef=>K (di i.o st)
   | .bl b=>bif b then (bif want then lI E i K st else K (di i.o st)) else (bif want then K (di i.o st) else lI E i K st)
   | .one (.t v) => .ite (asBool v)
     (bif want then lI E i K (st.put (some g) (.bl true)) else K (di i.o (st.put (some g) (.bl true))))
     (bif want then K (di i.o (st.put (some g) (.bl false))) else lI E i K (st.put (some g) (.bl false)))
   | .tv v => .ite (asBool v)
     (bif want then lI E i K (st.put (some g) (.bl true)) else K (di i.o (st.put (some g) (.bl true))))
     (bif want then K (di i.o (st.put (some g) (.bl false))) else lI E i K (st.put (some g) (.bl false)))
   | _=>.fail
def kx {α R:Type}:List α→(List α→R)→R
 | [],k=>k []
 | a :: l,k=>kx l (fun l'=>k (a :: l'))
theorem kZ {α R:Type}:∀ (l:List α) (k:List α→R),kx l k=k l
 | [],_=>rfl
 | a :: l,k=>kZ l (fun l'=>k (a :: l'))
def gC {R:Type} (K:ASt→R) (st:ASt):R:=kx st.slots fun sl=>kx st.boxes fun bx=>K ⟨sl,bx,st.out⟩
theorem jt {R:Type} (K:ASt→R):gC K=K:=by
 funext st
 simp only [gC,kZ]
def wq {R:Type} (K:ASt→R) (st:ASt):R:=kx st.slots fun sl=>kx st.boxes fun bx=>kx st.out fun ou=>K ⟨sl,bx,ou⟩
theorem rV {R:Type} (K:ASt→R):wq K=K:=by
 funext st
 simp only [wq,kZ]
def fN {R:Type} (n:Nat) (k:Nat→R):R:=match n with | 0=>k 0 | m + 1=>k (m + 1)
theorem xw {R:Type} (n:Nat) (k:Nat→R):fN n k=k n:=by cases n <;> rfl
def fNs {R:Type}:List Nat→(List Nat→R)→R
 | [],k=>k []
 | n :: l,k=>fN n fun n=>fNs l fun l=>k (n :: l)
theorem rj {R:Type}:∀ (l:List Nat) (k:List Nat→R),fNs l k=k l
 | [],_=>rfl
 | n :: l,k=>by simp only [fNs,xw,rj l]
def fW {R:Type}:Way→(Way→R)→R
 | [],k=>k []
 | (a,j) :: l,k=>fN j fun j=>fW l fun l=>k ((a,j) :: l)
theorem B0 {R:Type}:∀ (l:Way) (k:Way→R),fW l k=k l
 | [],_=>rfl
 | (a,j) :: l,k=>by simp only [fW,xw,B0 l]
def fC {R:Type} (c:CA) (k:CA→R):R :=
 match c with
 | .t x=>k (.t x)
 | .ptr i off=>fN i fun i=>fN off fun off=>k (.ptr i off)
 | .ref x off=>fN off fun off=>k (.ref x off)
 | .tptr i r p n j=>fN i fun i=>fN r fun r=>fW p fun p=>fN j fun j=>k (.tptr i r p n j)
 | .sref i r p=>fN i fun i=>fN r fun r=>fW p fun p=>k (.sref i r p)
 | .swin i r p lo len=>fN i fun i=>fN r fun r=>fW p fun p=>k (.swin i r p lo len)
 | .may i ty=>fN i fun i=>k (.may i ty)
 | .aptr i off len n=>fN i fun i=>fN off fun off=>k (.aptr i off len n)
 | .yl n=>fN n fun n=>k (.yl n)
 | .ifp t i=>fN i fun i=>k (.ifp t i)
 | .fn1 f i=>fN f fun f=>fN i fun i=>k (.fn1 f i)
 | .undef=>k .undef
 | .junk=>k .junk
theorem BS {R:Type} (c:CA) (k:CA→R):fC c k=k c:=by cases c <;> simp only [fC,xw,B0]
def fCs {R:Type}:List CA→(List CA→R)→R
 | [],k=>k []
 | c :: l,k=>fC c fun c=>fCs l fun l=>k (c :: l)
theorem tK {R:Type}:∀ (l:List CA) (k:List CA→R),fCs l k=k l
 | [],_=>rfl
 | c :: l,k=>by simp only [fCs,BS,tK l]
def fTs {R:Type}:List (Bool × List CA)→(List (Bool × List CA)→R)→R
 | [],k=>k []
 | (b,c) :: l,k=>fCs c fun c=>fTs l fun l=>k ((b,c) :: l)
theorem zU {R:Type}:∀ (l:List (Bool × List CA)) (k:List (Bool × List CA)→R),fTs l k=k l
 | [],_=>rfl
 | (b,c) :: l,k=>by simp only [fTs,tK,zU l]
def fA {R:Type} (v:AV) (k:AV→R):R :=
 match v with
 | .one c=>fC c fun c=>k (.one c)
 | .agg cs=>fCs cs fun cs=>k (.agg cs)
 | .tv x=>k (.tv x)
 | .tups l=>fTs l fun l=>k (.tups l)
 | .bl b=>k (.bl b)
 | .clo n cs=>fN n fun n=>fCs cs fun cs=>k (.clo n cs)
theorem fA_eq {R:Type} (v:AV) (k:AV→R):fA v k=k v:=by cases v <;> simp only [fA,BS,tK,zU,xw]
def fAs {R:Type}:List AV→(List AV→R)→R
 | [],k=>k []
 | c :: l,k=>fA c fun c=>fAs l fun l=>k (c :: l)
theorem Az {R:Type}:∀ (l:List AV) (k:List AV→R),fAs l k=k l
 | [],_=>rfl
 | c :: l,k=>by simp only [fAs,fA_eq,Az l]
def fB {R:Type} (b:Option BC) (k:Option BC→R):R :=
 match b with
 | none=>k none
 | some (.cells cs)=>fCs cs fun cs=>k (some (.cells cs))
 | some (.tree xs)=>kx xs fun xs=>k (some (.tree xs))
theorem fB_eq {R:Type} (b:Option BC) (k:Option BC→R):fB b k=k b:=by
 match b with
 | none=>rfl
 | some (.cells cs)=>simp only [fB,tK]
 | some (.tree xs)=>simp only [fB,kZ]
def fBs {R:Type}:List (Option BC)→(List (Option BC)→R)→R
 | [],k=>k []
 | c :: l,k=>fB c fun c=>fBs l fun l=>k (c :: l)
theorem zp {R:Type}:∀ (l:List (Option BC)) (k:List (Option BC)→R),fBs l k=k l
 | [],_=>rfl
 | c :: l,k=>by simp only [fBs,fB_eq,zp l]
def kv {R:Type} (K:ASt→R) (st:ASt):R:=fAs st.slots fun sl=>fBs st.boxes fun bx=>fAs st.out fun ou=>K ⟨sl,bx,ou⟩
theorem dg {R:Type} (K:ASt→R):kv K=K:=by
 funext st
 simp only [kv,Az,zp]
def zY {R:Type} (E:Env) (ops:List Oper):List Item→(ASt→Prg R)→ASt→Prg R
 | [],K,st=>K st
 | i :: rest,K,st=>opQ E ops i (gC (zY E ops rest K)) st
def unlike (a b:Option Nat):Bool :=
 match a,b with
 | some a,some b=>!a.beq b
 | _,_=>true
def sm (s:Nat):List Oper→Option Oper
 | []=>none
 | o :: l=>match o.dst with
  | some d=>bif d.beq s then some o else sm s l
  | none=>sm s l
def jT (ops:List Oper):Nat→Nat→Nat
 | 0,s=>s
 | n + 1,s=>match sm s ops with
  | some o=>(match ao o.op with | some s'=>jT ops n s' | none=>s)
  | none=>s
def fR (ops:List Oper) (o:Oper):Option Nat:=match ao o.op with
 | some s=>some (jT ops 20 s)
 | none=>none
def lv (ops:List Oper) (x y:Oper):Bool :=
 match ao x.op with
 | some s=>x.guard.isNone && y.guard.isNone && !bu s (looks ops y) && dj y.dst [jT ops 20 s]
 | none=>true
def cb (ops:List Oper) (x y:Oper):Bool :=
 jA (aj x.op) (aj y.op) && dj x.dst (looks ops y) && dj y.dst (looks ops x) && unlike x.dst y.dst && (lv ops x y && lv ops y x)
def fk (acc:List Nat):List Edge→Nat
 | []=>0
 | e :: es=>bif Region.binds .any e then (fk acc es ||| 2 ^ e.on) ||| nth 0 acc e.on else fk acc es
def bj (acc:List Nat):List Oper→List Nat
 | []=>acc
 | o :: rest=>bj (acc ++ [fk acc o.after.toList]) rest
def behind (ops:List Oper):List Nat:=bj [] ops
def eA (i:Nat):List Edge→Bool
 | []=>true
 | e :: es=>bif Region.binds .any e then (bif e.on.blt i then eA i es else false) else eA i es
def oe (all:List Oper) (o:Oper):List Nat :=
 (match o.dst with | some d=>bif (aj o.op).makes then [d] else [] | none=>[]) ++ (match fR all o with | some s=>[s] | none=>[])
def iu (bs:List Nat) (j:Nat) (all:List Oper):Nat→List Oper→List Nat
 | _,[]=>[]
 | i,o :: rest=>bif !(i.beq j) && !((nth 0 bs j).testBit i) && !((nth 0 bs i).testBit j) then oe all o ++ iu bs j all (i + 1) rest else iu bs j all (i + 1) rest
def iL (bs:List Nat) (j:Nat) (all:List Oper):Nat→List Oper→List Nat
 | _,[]=>[]
 | i,o :: rest=>bif !(i.beq j) && !((nth 0 bs j).testBit i) && !((nth 0 bs i).testBit j) then (match fR all o with | some s=>s :: iL bs j all (i + 1) rest | none=>iL bs j all (i + 1) rest) else iL bs j all (i + 1) rest
def fM (ex:List (List Nat)) (bs:List Nat) (j:Nat) (all:List Oper):Nat→List Oper→List (List Nat × List Nat)
 | _,[]=>[]
 | k,o :: rest=>bif (aj o.op).reads && !(k.beq j) && !((nth 0 bs j).testBit k) && !((nth 0 bs k).testBit j) then (iu bs k all 0 all,nth [] ex k) :: fM ex bs j all (k + 1) rest else fM ex bs j all (k + 1) rest
def Bo (st:ASt) (o:Oper):List Nat :=
 match o.op with
 | .store _ a _=>(match st.ev a with | .one (.ptr i _)=>[2 * i] | _=>[])
 | _=>[]
def li (ops:List Oper):Nat→Nat→Nat
 | 0,s=>s
 | n + 1, s => match sm s ops with
  | some o=>(match aj o.op,o.op.operands.toList with
   | .N,.tmp a :: _=>li ops n a
   | .R,.tmp a :: _=>li ops n a
   | _,_=>s)
  | none=>s
def vE (ops : List Oper) : Nat → Nat → Bool
 | 0,_=>false
 | n + 1, s => match sm s ops with
  | some o => (match o.op with
   | .indexAddr _ _ _=>true
   | _=>match aj o.op,o.op.operands.toList with
    | .N,.tmp a :: _=>vE ops n a
    | .R,.tmp a :: _=>vE ops n a
    | _,_=>false)
  | none=>false
def wW (look:Look):List Nat→List Nat
 | []=>[]
 | j :: l=>(match look j with
  | some (.cells cs)=>ka cs
  | _=>[j]) ++ wW look l
def xo (st:ASt) (s:Nat):List Nat:=wW st.look (nth (.one .junk) st.slots s).dp
def xO (st:ASt) (all:List Oper) (o:Oper):List Nat :=
 match ao o.op with
 | some s=>(match sm (li all 20 s) all with
  | none=>bif vE all 20 s then (xo st (li all 20 s)).map (fun i=>2 * i + 1) else (nth (.one .junk) st.slots (li all 20 s)).dp.map (2 * ·)
  | some _=>[])
 | none=>[]
def wJ (st:ASt) (all:List Oper) (o:Oper):List Nat :=
 match o.op with
 | .store _ (.tmp a) _=>bif vE all 20 a then (xo st (li all 20 a)).map (fun i=>2 * i + 1) else []
 | _=>[]
def vw (T:Tab) (all:List Oper):Nat→List Oper→List Nat
 | _,[]=>[]
 | j,o :: rest=>(match o.op with
  | .store t (.tmp a) _=>(match T t with | some d=>bif fL d.zero && vE all 20 a then [j] else [] | none=>[])
  | _=>[]) ++ vw T all (j + 1) rest
def exAt (st:ASt) (all:List Oper) (bs:List Nat) (j:Nat):Nat→List Oper→List Nat
 | _,[]=>[]
 | k,o :: rest=>bif !(k.beq j) && !((nth 0 bs j).testBit k) && !((nth 0 bs k).testBit j) then Bo st o ++ (wJ st all o ++ (xO st all o ++ exAt st all bs j (k + 1) rest)) else exAt st all bs j (k + 1) rest
def yW (st:ASt) (bs:List Nat) (all:List Oper):Nat→List Oper→List (List Nat)
 | _,[]=>[]
 | j,_ :: rest=>exAt st all bs j 0 all :: yW st bs all (j + 1) rest
def exQ (T:Tab) (st:ASt) (ops:List Oper):List (List Nat):=yW st (behind ops) ops 0 ops ++ [vw T ops 0 ops]
def besides (bs:List Nat) (j:Nat):Nat→List Oper→Bool
 | _,[]=>false
 | i,_ :: rest=>bif !(i.beq j) && !((nth 0 bs j).testBit i) && !((nth 0 bs i).testBit j) then true else besides bs j (i + 1) rest
def d0 (o:Oper):Bool:=match o.op with
 | .move _=>o.guard.isNone && o.dst.isSome
 | _=>false
def bq (bs:List Nat) (j:Nat):Nat→List Oper→Bool
 | _,[]=>true
 | i,o :: rest=>bif !(i.beq j) && !((nth 0 bs j).testBit i) && !((nth 0 bs i).testBit j) then d0 o && bq bs j (i + 1) rest else bq bs j (i + 1) rest
def fc (o:Oper):Bool:=match o.op with
 | .call ⟨.value (.func _),_,_⟩=>o.guard.isNone && o.dst.isSome
 | _=>false
def dA (o:Oper):Bool:=match o.op with
 | .buildSlice _ _ _=>o.guard.isNone && o.dst.isSome
 | _=>false
def ft (o:Oper):Bool:=match aj o.op with
 | .N=>o.guard.isNone && o.dst.isSome
 | .R=>o.guard.isNone && o.dst.isSome
 | _=>false
def beB (bs:List Nat) (j i:Nat):Bool:=!(i.beq j) && !((nth 0 bs j).testBit i) && !((nth 0 bs i).testBit j)
def eG (bs:List Nat) (j:Nat):Nat→List Oper→Bool
 | _,[]=>true
 | i,o :: rest=>bif beB bs j i then (d0 o || dA o || ft o) && eG bs j (i + 1) rest else eG bs j (i + 1) rest
def dE (bs:List Nat) (all:List Oper) (j:Nat):Nat→List Oper→Bool
 | _,[]=>true
 | i,o :: rest=>bif beB bs j i then (d0 o || (fc o && eG bs i 0 all)) && dE bs all j (i + 1) rest else dE bs all j (i + 1) rest
def cD (bs:List Nat) (j:Nat):Nat→List Oper→Bool
 | _,[]=>true
 | i,o :: rest=>bif beB bs j i then (d0 o || (ft o && i.blt j)) && cD bs j (i + 1) rest else cD bs j (i + 1) rest
def kb (bs:List Nat) (j:Nat) (all:List Oper) (o:Oper):Bool:=(ao o.op).isSome && (o.guard.isNone && o.dst.isSome) && (!bq bs j 0 all && cD bs j 0 all)
def hM (bs:List Nat) (all:List Oper):Nat→List Oper→Bool
 | _,[]=>true
 | j,o :: rest=>(match ao o.op with | some _=>bq bs j 0 all || kb bs j all o | none=>true) && hM bs all (j + 1) rest
def ke (sl:List Nat) (bs:List Nat) (j:Nat) (all:List Oper) (o:Oper):Bool:=bu j sl && wS o && (!bq bs j 0 all && cD bs j 0 all)
def iV (sl:List Nat) (bs:List Nat) (all:List Oper) (j:Nat):Nat→List Oper→Bool
 | _,[]=>false
 | i,o :: rest=>bif beB bs j i && (kb bs i all o || ke sl bs i all o) then true else iV sl bs all j (i + 1) rest
def kK (bs:List Nat) (all:List Oper):Nat→List Oper→Bool
 | _,[]=>true
 | j,o :: rest=>(!dA o || (dE bs all j 0 all || cD bs j 0 all)) && kK bs all (j + 1) rest
def kq (ex:List (List Nat)) (bs:List Nat) (j:Nat) (all:List Oper):Nat→List Oper→List (List Nat × List Nat)
 | _,[]=>[]
 | k,o :: rest=>bif beB bs j k && (ft o && !d0 o) then (iu bs k all 0 all,nth [] ex k) :: kq ex bs j all (k + 1) rest else kq ex bs j all (k + 1) rest
def fH (bs:List Nat) (j:Nat):Nat→List Oper→Bool
 | _,[]=>false
 | i,o :: rest=>bif beB bs j i && dA o then true else fH bs j (i + 1) rest
def kw (ex:List (List Nat)) (ops:List Oper) (bs:List Nat) (j:Nat) (o:Oper):List Nat:=bif hM bs ops 0 ops && (ft o && !d0 o) && ((kK bs ops 0 ops && fH bs j 0 ops) || iV (nth [] ex ops.length) bs ops j 0 ops) then iu bs j ops 0 ops else []
def dull2At (ex:List (List Nat)) (ops:List Oper) (bs:List Nat) (j:Nat) (o:Oper):List Nat:=bif hM bs ops 0 ops && (ft o && !d0 o) && iV (nth [] ex ops.length) bs ops j 0 ops then nth [] ex j else []
def ae (ex:List (List Nat)) (ops:List Oper) (bs:List Nat) (j:Nat) (o:Oper):Item:=⟨o,(iu bs j ops 0 ops,nth [] ex j),besides bs j 0 ops,bif ke (nth [] ex ops.length) bs j ops o then ([],[]) :: fM ex bs j ops 0 ops else fM ex bs j ops 0 ops,iL bs j ops 0 ops ++ kw ex ops bs j o,match fR ops o with | some m=>m | none=>0,hM bs ops 0 ops && (d0 o || bq bs j 0 ops || (kK bs ops 0 ops && dA o) || kb bs j ops o || ke (nth [] ex ops.length) bs j ops o),hM bs ops 0 ops && kK bs ops 0 ops && fc o && fH bs j 0 ops,bif (dA o && !dE bs ops j 0 ops) || kb bs j ops o || ke (nth [] ex ops.length) bs j ops o then kq ex bs j ops 0 ops else [],kw ex ops bs j o,dull2At ex ops bs j o⟩
def lq (ex:List (List Nat)) (ops:List Oper) (bs:List Nat):Nat→List Oper→List Item
 | _,[]=>[]
 | j,o :: rest=>ae ex ops bs j o :: lq ex ops bs (j + 1) rest
def lj (ops:List Oper) (m:Nat) (y:Oper) (j:Nat):Nat→List Oper→Bool
 | _,[]=>true
 | i,x :: rest=>bif i.blt j then (bif m.testBit i || cb ops x y then lj ops m y j (i + 1) rest else false) else true
def wY (ops:List Oper) (bs:List Nat):Nat→List Oper→Bool
 | _,[]=>true
 | j,y :: rest=>bif eA j y.after.toList && lj ops (nth 0 bs j) y j 0 ops then wY ops bs (j + 1) rest else false
def ba (ops:List Oper):Bool:=wY ops (behind ops) 0 ops
def cW:List Oper→List Item
 | []=>[]
 | o :: rest=>⟨o,([],[]),false,[],[],0,false,false,[],[],[]⟩ :: cW rest
def jV {R:Type} (E:Env) (ops:List Oper) (draw:Bool) (K:ASt→Prg R) (st:ASt):Prg R :=
 bif draw then (bif ba ops then zY E ops (lq (exQ E.T st ops) ops (behind ops) 0 ops) K st else .fail)
 else zY E ops (cW ops) K st
structure Ann where
 keep:List Nat
 own:List Nat
 ownB:List (Nat × Nat)
 kill:List Nat
 frz:List (Nat × Nat)
def fU {α:Type} (d:α) (ks:List Nat):Nat→List α→List α
 | _,[]=>[]
 | n,a :: l=>(bif bu n ks then a else d) :: fU d ks (n + 1) l
def g8 (n:Nat):List (Option BC)→Nat
 | []=>n
 | none :: _=>n
 | some _ :: l=>g8 (n + 1) l
def cG:Nat→List TV→List TV
 | 0,l=>l
 | n + 1,l=>.hole :: cG n l
def s9 (xs:List TV) (r idx:Nat):Bool:=r.beq idx && xs.length.beq (idx + 1)
def iO (st:ASt) (i r idx:Nat):Option ASt :=
 match st.look i with
 | some (.tree xs)=>bif s9 xs r idx then none else match xs[r]? with
  | some x=>((st.ap (CA.drop i r [] false)).ab i (some (.tree (al xs r .hole)))).bc (g8 0 st.boxes) (.tree (cG idx [x]))
  | none=>none
 | _=>none
def xA {R:Type} (st:ASt) (s:Nat) (k:ASt→Prg R):Prg R :=
 match nth (.one .junk) st.slots s with
 | .one (.sref i r [])=>(match iO st i r 0 with
  | some st'=>k (st'.put (some s) (.one (.sref (g8 0 st.boxes) 0 [])))
  | none=>k st)
 | .one (.sref _ _ (_ :: _))=>k st
 | .one (.swin i r [] lo len) => match bn st.look i r with
  | some x=>.tv (eo lo len x) fun y=>(match bO (st.ap (CA.drop i r [] false)).look i r y with
   | some b=>k (((st.ap (CA.drop i r [] false)).ab i (some b)).put (some s) (.one (.sref i r [])))
   | none=>.fail)
  | none=>.fail
 | v => match v.tv? with
  | some x=>.chk x.isSl (match st.bc (g8 0 st.boxes) (.tree [x]) with
   | some st'=>k (st'.put (some s) (.one (.sref (g8 0 st.boxes) 0 [])))
   | none=>.fail)
  | none=>.fail
def oC {R:Type}:List Nat→ASt→(ASt→Prg R)→Prg R
 | [],st,k=>k st
 | s :: l,st,k=>xA st s fun st=>oC l st k
def vD (cs:List CA) (c:Nat):Nat:=match cs with | .may _ _ :: _=>c | _=>0
def se {R : Type} (st : ASt) (i c : Nat) (k : ASt → Prg R) : Prg R :=
 match st.look i with
 | some (.cells cs) => match nth .junk cs c with
  | .sref i' r [] => (match iO st i' r (vD cs c) with
   | some st'=>(match st'.look i with
    | some (.cells cs')=>k (st'.ab i (some (.cells (al cs' c (.sref (g8 0 st.boxes) (vD cs c) [])))))
    | _=>k st)
   | none=>k st)
  | _=>k st
 | _=>k st
def xh {R : Type} (st : ASt) (s c : Nat) (k : ASt → Prg R) : Prg R :=
 match nth (.one .junk) st.slots s with
 | .one (.ptr i _) => match st.look i with
  | some (.cells cs) => match nth .junk cs c with
   | .sref _ _ []=>se st i c k
   | .sref _ _ (_ :: _)=>k st
   | .swin i' r [] lo len => match bn st.look i' r with
    | some x => .tv (eo lo len x) fun y => (match bO (st.ap (CA.drop i' r [] false)).look i' r y with
     | some b=>(match ((st.ap (CA.drop i' r [] false)).ab i' (some b)).look i with
      | some (.cells cs')=>se (((st.ap (CA.drop i' r [] false)).ab i' (some b)).ab i (some (.cells (al cs' c (.sref i' r []))))) i c k
      | _=>.fail)
     | none=>.fail)
    | none=>.fail
   | .t x=>.chk x.isSl (match st.bc (g8 0 st.boxes) (.tree (cG (vD cs c) [x])) with
    | some st'=>k (st'.ab i (some (.cells (al cs c (.sref (g8 0 st.boxes) (vD cs c) [])))))
    | none=>.fail)
   | _=>.fail
  | _=>.fail
 | _=>.fail
def kg {R:Type}:List (Nat × Nat)→ASt→(ASt→Prg R)→Prg R
 | [],st,k=>k st
 | (s,c) :: l,st,k=>xh st s c fun st=>kg l st k
def cY:TV→TV
 | .sl o s xs=>.sl o s (q9 xs)
 | x=>x
def zb (st : ASt) (s c : Nat) : ASt :=
 match nth (.one .junk) st.slots s with
 | .one (.ptr i _) => match st.look i with
  | some (.cells cs) => match nth .junk cs (c % 1000) with
   | .sref i' r [] => match st.look i' with
    | some (.tree xs)=>match xs[r]? with
     | some x=>bif Nat.ble 1000 c then st.ab i' (some (.tree (al xs r (cY x)))) else (st.ab i' (some (.tree (al xs r (frz x))))).ab i (some (.cells (al cs (c % 1000) (.t (frz x)))))
     | none=>st
    | _=>st
   | _=>st
  | _=>st
 | .one (.sref i' r []) => match st.look i' with
  | some (.tree xs)=>match xs[r]? with
   | some x=>bif Nat.ble 1000 c then st else (st.ab i' (some (.tree (al xs r (frz x))))).put (some s) (.one (.t (frz x)))
   | none=>st
  | _=>st
 | _=>st
def jJ:List (Nat × Nat)→ASt→ASt
 | [],st=>st
 | (s,c) :: l,st=>jJ l (zb st s c)
def gq (st:ASt):List Nat→ASt
 | []=>st
 | s :: l => match nth (.one .junk) st.slots s with
  | .one (.ptr i _)=>(match st.look i with
   | some (.cells cs)=>gq (st.ab i (some (.cells (mapC (fun _=>.junk) cs)))) l
   | _=>gq st l)
  | _=>gq st l
def visit (look:Look):Nat→List Nat→List Nat→List Nat
 | 0,_,seen=>seen
 | _ + 1,[],seen=>seen
 | n + 1,i :: l,seen=>bif bu i seen then visit look n l seen else match look i with
  | some b=>visit look n (l ++ b.kf) (seen ++ [i])
  | none=>visit look n l seen
def j9 (i:Nat):Nat→List Nat→Option Nat
 | _,[]=>none
 | n,a :: l=>bif a.beq i then some n else j9 i (n + 1) l
def CA.ren (L:List Nat) (c:CA):CA :=
 match c with
 | .ptr i off=>match j9 i 0 L with | some k=>.ptr k off | none=>.junk
 | .tptr i r p k j=>match j9 i 0 L with | some m=>.tptr m r p k j | none=>.junk
 | .sref i r p=>match j9 i 0 L with | some m=>.sref m r p | none=>.junk
 | .swin i r p lo len=>match j9 i 0 L with | some m=>.swin m r p lo len | none=>.junk
 | .may i ty=>match j9 i 0 L with | some k=>.may k ty | none=>.junk
 | .aptr i off len n=>match j9 i 0 L with | some k=>.aptr k off len n | none=>.junk
 | .ifp ty i=>match j9 i 0 L with | some k=>.ifp ty k | none=>.junk
 | .fn1 f i=>match j9 i 0 L with | some k=>.fn1 f k | none=>.junk
 | c=>c
def gp:List Nat→Bool
 | []=>true
 | a :: l=>!bu a l && gp l
def m9 (look:Look) (f:CA→CA):List Nat→List (Option BC)
 | []=>[]
 | i :: l=>(match look i with | some b=>some (b.a9 f) | none=>none) :: m9 look f l
def AV.asTV:AV→AV
 | .one (.t x)=>.tv x
 | .bl b=>.tv (.lit (.bool b))
 | v=>v
def ph:List AV→List AV
 | []=>[]
 | v :: l=>v.asTV :: ph l
def ip (L:List Nat) (st:ASt):ASt :=
 ⟨ph (bG (CA.ren L) st.slots),m9 st.look (CA.ren L) L ++ List.replicate (st.boxes.length - L.length) none,ph (bG (CA.ren L) st.out)⟩
def gk (ks:List Nat) (st:ASt):ASt:=⟨fU (.one .junk) ks 0 st.slots,st.boxes,st.out⟩
def gr (st:ASt):List Nat:=visit st.look 1000 (fd st.slots ++ fd st.out) []
def wd {R:Type} (st:ASt) (k:ASt→Prg R):Prg R :=
 bif gp (gr st) && (gr st).length.ble cF && cF.ble st.boxes.length then k (ip (gr st) st) else .fail
def sP {R:Type} (an:Ann) (st:ASt) (k:ASt→Prg R):Prg R :=
 oC an.own st fun st=>kg an.ownB st fun st=>wd (gk an.keep (gq (jJ an.frz st) an.kill)) k
inductive AEx where
 | normal | ret | exit (id:Nat)
def first:Code→Option Nat
 | .region id _ _=>some id
 | .seq a b=>match first a with
  | some n=>some n
  | none=>first b
 | .cond _ a b=>match first a with
  | some n=>some n
  | none=>first b
 | .block _ c=>first c
 | .loop c=>first c
 | _=>none
def gz (ann:Nat→Option Ann) (c:Code):Option Ann :=
 match first c with
 | some n=>ann n
 | none=>none
def pe {R:Type} (an:Option Ann) (rp:List Nat) (next:ASt→Prg R) (K:AEx→ASt→Prg R):AEx→ASt→Prg R
 | .normal,st=>match an with
  | none=>next st
  | some an=>sP an st fun st=>.jmp rp st
 | e,st=>K e st
def kF {R:Type} (id:Nat) (K:AEx→ASt→Prg R):AEx→ASt→Prg R
 | .exit i,st=>bif i.beq id then K .normal st else K (.exit i) st
 | e,st=>K e st
def tg {R:Type} (an:Option Ann) (rp:List Nat) (st:ASt):Prg R :=
 match an with
 | none=>.fail
 | some an=>sP an st fun st=>.jmp rp st
def qa {R:Type} (an:Option Ann) (rp:List Nat) (K:AEx→ASt→Prg R):AEx→ASt→Prg R
 | .normal,st=>tg an rp st
 | e,st=>K e st
structure Opn where
 fns:FuncId→Option Func
 ann:FuncId→Nat→Option Ann
 jn:FuncId→Nat→Option Ann
 kp:FuncId→Nat→Option (List Nat)
 mth:TypeId→String→Option (FuncId × Bool)
def t7 (v:Value):Option (FuncId × List CA):=match v with
 | .func (.func f) ts cs=>bif ts.size.beq 0 && cs.size.beq 0 then some (f,[]) else none
 | _=>none
def AV.tA:AV→Option (FuncId × List CA)
 | .clo f cs=>some (f,cs)
 | .one (.fn1 f i)=>some (f,[.ptr i 0])
 | .one (.t (.lit v))=>t7 v
 | .tv (.lit v)=>t7 v
 | _=>none
def ue (st:ASt) (i:Nat):Bool→Option AV
 | false=>some (.one (.ptr i 0))
 | true=>match st.look i with
  | some (.cells [c])=>bif c.kept then some (.one c) else none
  | _=>none
def BP (L:Opn) (st:ASt) (v:AV) (name:String):Option (FuncId × AV) :=
 match v with
 | .one (.ifp t i) => match L.mth t name with
  | some (f,d)=>match ue st i d with
   | some r=>some (f,r)
   | none=>none
  | none=>none
 | _=>none
def qy (L:Opn) (st:ASt) (j:Nat):Op→Option (Nat × FuncId × Func × List AV × List CA)
 | .call ⟨.value (.func f),_,_⟩=>match L.fns f with
  | some fn=>some (j,f,fn,[],[])
  | none=>none
 | .call ⟨.value (.tmp t), _, _⟩ => match (nth (.one .junk) st.slots t).tA with
  | some (f,cs)=>match L.fns f with
   | some fn=>some ((f + 1) * 1000 + j,f,fn,[],cs)
   | none=>none
  | none=>none
 | .call ⟨.invoke (.tmp t) name, _, _⟩ => match BP L st (nth (.one .junk) st.slots t) name with
  | some (f,r)=>match L.fns f with
   | some fn=>some ((f + 1) * 1000 + j,f,fn,[r],[])
   | none=>none
  | none=>none
 | _=>none
def A7 (L:Opn):Op→Bool
 | .call ⟨.value (.func f),_,_⟩=>(L.fns f).isSome
 | .call ⟨.value (.tmp _),_,_⟩=>true
 | .call ⟨.invoke _ _,_,_⟩=>true
 | _=>false
def pC (L:Opn):List Oper→Bool
 | []=>false
 | o :: l=>bif A7 L o.op then true else pC L l
def oX (L:Opn) (y:Nat):Op→Option (FuncId × Func)
 | .call ⟨.value (.func f),_,_⟩=>bif y.blt 1000 then (match L.fns f with
  | some fn=>some (f,fn)
  | none=>none) else none
 | .call ⟨.value (.tmp _), _, _⟩ => match y / 1000 with
  | f + 1=>(match L.fns f with
   | some fn=>some (f,fn)
   | none=>none)
  | 0=>none
 | .call ⟨.invoke (.tmp _) _, _, _⟩ => match y / 1000 with
  | f + 1=>(match L.fns f with
   | some fn=>some (f,fn)
   | none=>none)
  | 0=>none
 | _=>none
def nq (bs:List Nat) (k:Nat):Nat→List Oper→Bool
 | _,[]=>true
 | i,_ :: rest=>bif i.blt k then nq bs k (i + 1) rest else (Nat.land (nth 0 bs i) (2 ^ k - 1)).beq (2 ^ k - 1) && nq bs k (i + 1) rest
def nv (ops:List Oper) (k:Nat):Bool:=nq (behind ops) k 0 ops
def cM {R:Type} (E:Env) (reg:Nat→List Nat→List Oper→Bool→(ASt→Prg R)→ASt→Prg R) (rg:List Nat→Operand→Array Tmp→Code→Code→(ASt→Prg R)→ASt→Prg R) (ann jn:Nat→Option Ann):List Nat→Code→(AEx→ASt→Prg R)→ASt→Prg R
 | _,.skip,K,st=>K .normal st
 | rp,.region id ops draw,K,st=>reg id rp ops.toList draw (K .normal) st
 | rp,.seq a b,K,st=>cM E reg rg ann jn (0 :: rp) a (pe (gz jn b) (1 :: rp) (cM E reg rg ann jn (1 :: rp) b K) K) st
 | rp, .cond c a b, K, st => match st.ev c with
  | .bl v=>bif v then cM E reg rg ann jn (0 :: rp) a K st else cM E reg rg ann jn (1 :: rp) b K st
  | x=>match x.tv? with
   | some v=>.ite (asBool v) (cM E reg rg ann jn (0 :: rp) a K st) (cM E reg rg ann jn (1 :: rp) b K st)
   | none=>.fail
 | rp,.block id c,K,st=>cM E reg rg ann jn (0 :: rp) c (kF id K) st
 | rp,.loop c,_,st=>tg (gz ann c) (0 :: rp) st
 | _,.exit id,K,st=>K (.exit id) st
 | _,.ret,K,st=>K .ret st
 | rp,.rangeFunc g ps a c,K,st=>rg rp g ps a c (K .normal) st
 | _,_,_,_=>.fail
def bP (fn:Func):Code:=match fn.body with | some c=>c | none=>.skip
def ut (T : Tab) (st : ASt) : ResultVar → Option AV
 | .tmp t=>some (nth (.one .junk) st.slots t)
 | .cell a ty => match nth (.one .junk) st.slots a, T ty with
  | .one (.ptr i 0), some d => match st.look i with
   | some (.cells cs)=>match j6 cs 0 (bif d.kd.isAgg then d.size else 1) with
    | some cs=>cm d.kd.isAgg cs
    | none=>none
   | _=>none
  | _,_=>none
def gW (T:Tab) (st:ASt):List ResultVar→Option (List AV)
 | []=>some []
 | r :: l=>match ut T st r,gW T st l with
  | some x,some xs=>some (x :: xs)
  | _,_=>none
def pZ {R:Type}:List TyD→List AV→(List (Bool × List CA)→Prg R)→Prg R
 | [],[],k=>k []
 | d :: ds,v :: vs,k=>v.aP d.kd.isAgg d.size fun cs=>pZ ds vs fun l=>k ((d.kd.isAgg,cs) :: l)
 | _,_,_=>.fail
def tU {R:Type} (ds:List TyD) (vs:List AV) (k:AV→Prg R):Prg R :=
 match vs with
 | [v]=>k v
 | vs=>pZ ds vs fun l=>k (.tups l)
def m8 (L:List Nat) (m:Nat) (st:ASt):ASt :=
 ⟨bG (CA.ren L) st.slots,m9 st.look (CA.ren L) L ++ List.replicate (st.boxes.length - m - L.length) none,bG (CA.ren L) st.out⟩
def fx {R:Type} (m:Nat) (st:ASt) (k:ASt→Prg R):Prg R :=
 kv (fun st=>fNs (gr st) fun L=>bif gp L && L.length.ble cF && cF.ble st.boxes.length then kv k (m8 L m st) else .fail) st
def sw {R : Type} (E : Env) (f : FuncId) (fn : Func) (nt : Nat) (d : Option Tmp) (K : ASt → Prg R) : AEx → ASt → Prg R
 | .exit _,_=>.fail
 | _,st=>match gW E.T st fn.results.toList,kS E.T (E.rts f) with
  | some vs, some ds => bif nt.ble st.out.length then tU ds vs fun v =>
    fx fn.ntmps (ASt.put ⟨st.out.drop (st.out.length - nt),st.boxes,st.out.take (st.out.length - nt)⟩ d v) K else .fail
  | _,_=>.fail
def iD (ntmps:Nat) (vs:List AV) (st:ASt):ASt :=
 ⟨vs ++ List.replicate (ntmps - vs.length) (.one .undef),st.boxes ++ List.replicate ntmps none,st.out ++ st.slots⟩
def iN:Option (List Nat)→ASt→ASt
 | none,st=>st
 | some ks,st=>gk ks st
def xg (id j:Nat):Nat:=id * 1000 + j
structure Rng where
 off:Nat
 nt:Nat
 fi:FuncId
 ps:Array Tmp
 assign:Code
 body:Code
 busy:Bool
def aL:List Rng→Nat→List Rng
 | [],_=>[]
 | y :: l,0=>{ y with busy:=true } :: l
 | y :: l,m + 1=>y :: aL l m
def CA.unY (n:Nat) (c:CA):CA :=
 match c with
 | .yl k=>bif k.blt n then .yl k else .junk
 | c=>c
def AV.ylOf:AV→Option Nat
 | .one (.yl m)=>some m
 | _=>none
def jN (z m j:Nat):Nat:=2 * ((2 * m + z) * 1000 + j) + 3
def jg:List Tmp→List AV→List AV→List AV
 | t :: ts,v :: vs,l=>jg ts vs (al l t v)
 | _,_,l=>l
abbrev xW (R:Type):=Nat→FuncId→List Rng→Nat→List Nat→List Oper→Bool→(ASt→Prg R)→ASt→Prg R
abbrev xQ (R:Type):=Nat→FuncId→List Rng→List Nat→Operand→Array Tmp→Code→Code→(ASt→Prg R)→ASt→Prg R
def p0 {R:Type} (E:Env) (L:Opn) (reg:xW R) (rg:xQ R) (nt:Nat) (fi:FuncId) (ys:List Rng) (id:Nat) (rp:List Nat) (j y:Nat) (o:Oper) (f:FuncId) (fn:Func) (rv:List AV) (cap:List CA) (K:ASt→Prg R) (st:ASt):Prg R :=
 match o.op.operands.toList with
 | _ :: xs => bif (rv.length + xs.length).beq fn.params.size && (rv.length + xs.length + cap.length).ble fn.ntmps && (st.slots.length.beq nt && j.blt 1000) then
   kv (cM E (reg fn.ntmps f ys) (rg fn.ntmps f ys) (L.ann f) (L.jn f) ((2 * y + 2) :: rp) (bP fn) (sw E f fn nt o.dst K)) (iD fn.ntmps (rv ++ xs.map st.ev ++ cap.map AV.one) (iN (L.kp fi (xg id j)) st)) else .fail
 | _=>.fail
def ASt.cut (nt:Nat) (st:ASt):ASt:=⟨st.out.drop (st.out.length - nt),st.boxes,st.out.take (st.out.length - nt)⟩
def d7 {R:Type} (y:Rng) (nt:Nat) (d:Option Tmp) (K:ASt→Prg R):AEx→ASt→Prg R
 | .normal,st=>bif nt.ble st.out.length then fx y.nt ((st.cut nt).put d (.bl true)) K else .fail
 | _,_=>.fail
def nQ {R:Type} (k:ASt→Prg R):AEx→ASt→Prg R
 | .normal,st=>k st
 | _,_=>.fail
def pP {R : Type} (E : Env) (L : Opn) (reg : xW R) (rg : xQ R) (nt : Nat) (fi : FuncId) (ys : List Rng) (id : Nat) (rp : List Nat) (j m : Nat) (y : Rng) (o : Oper) (K : ASt → Prg R) (st : ASt) : Prg R :=
 match o.op.operands.toList with
 | _ :: xs => bif xs.length.beq y.ps.size && (st.slots.length.beq nt && (j.blt 1000 && (!y.busy && (y.off + y.nt).ble st.out.length))) then
   kv (cM E (reg y.nt y.fi (aL ys m)) (rg y.nt y.fi (aL ys m)) (L.ann y.fi) (L.jn y.fi) (jN 0 m j :: rp) y.assign
    (nQ (cM E (reg y.nt y.fi (aL ys m)) (rg y.nt y.fi (aL ys m)) (L.ann y.fi) (L.jn y.fi) (jN 1 m j :: rp) y.body (d7 y nt o.dst K))))
    (iD y.nt (jg y.ps.toList (xs.map st.ev) ((st.out.drop y.off).take y.nt)) (iN (L.kp fi (xg id j)) st)) else .fail
 | _=>.fail
def jO (draw:Bool) (ex:List (List Nat)) (all:List Oper) (j:Nat) (o:Oper):Item:=bif draw then ae ex all (behind all) j o else ⟨o,([],[]),false,[],[],0,false,false,[],[],[]⟩
def iM (T:Tab) (draw:Bool) (st:ASt) (all:List Oper):List (List Nat):=bif draw then exQ T st all else []
def aQ (ops:List Oper) (o:Oper) (s:ASt):Option (Option Bool) :=
 match o.guard with
 | none=>some (some true)
 | some (j, want) => match ((ops[j]?).bind (·.dst)) with
  | none=>none
  | some g=>match nth (.one .junk) s.slots g with
   | .one .undef=>some none
   | .bl b=>some (some (b == want))
   | _=>none
def gh (ops:List Oper) (o:Oper) (s:ASt):Bool:=match aQ ops o s with
 | some (some true)=>true
 | _=>false
def pO (ys:List Rng) (st:ASt):Op→Option (Nat × Rng)
 | .call ⟨.value (.tmp t), _, _⟩ => match (nth (.one .junk) st.slots t).ylOf with
  | some m=>match ys[m]? with
   | some y=>some (m,y)
   | none=>none
  | none=>none
 | _=>none
noncomputable def eqV:Value→Value→Bool
 | .int .i64 a,.int .i64 b=>bif Int.beq' a b then true else false
 | .int .u16 a,.int .u16 b=>bif Int.beq' a b then true else false
 | .int .u8 a,.int .u8 b=>bif Int.beq' a b then true else false
 | .bool a,.bool b=>a == b
 | .slice none 0 0,.slice none 0 0=>true
 | _,_=>false
mutual
noncomputable def eqT:TV→TV→Bool
 | .lit v,.lit u=>eqV v u
 | .sl o s xs,.sl o' s' xs'=>o == o' && (s.beq s' && xK xs xs')
 | .agg cs,.agg cs'=>Av cs cs'
 | .hole,.hole=>true
 | _,_=>false
noncomputable def Av:List TV→List TV→Bool
 | [],[]=>true
 | x :: l,y :: r=>eqT x y && Av l r
 | _,_=>false
noncomputable def xK:List (List TV)→List (List TV)→Bool
 | [],[]=>true
 | x :: l,y :: r=>Av x y && xK l r
 | _,_=>false
end
open Classical in
noncomputable def eqTV (x y:TV):Bool:=eqT x y || decide (x=y)
noncomputable def Bh:CA→CA→Bool
 | .ptr i a,.ptr j b=>i.beq j && a.beq b
 | .sref i r [],.sref j k []=>i.beq j && r.beq k
 | .t x,.t y=>eqTV x y
 | _,_=>false
noncomputable def AY:List CA→List CA→Bool
 | [],[]=>true
 | a :: l,b :: r=>Bh a b && AY l r
 | _,_=>false
noncomputable def Be:AV→AV→Bool
 | .one a,.one b=>Bh a b
 | .agg l,.agg r=>AY l r
 | _,_=>false
def pB (u m:Nat):Nat→Bool
 | 0=>true
 | k + 1=>(k.beq u || m.testBit k) && pB u m k
def kC (bs:List Nat) (u k:Nat):Nat→List Oper→Bool
 | _,[]=>true
 | i,_ :: rest=>bif i.blt k then kC bs u k (i + 1) rest else pB u (nth 0 bs i) k && kC bs u k (i + 1) rest
def qg (ops:List Oper) (u k:Nat):Bool:=kC (behind ops) u k 0 ops
def mT (bs:List Nat) (u k:Nat):Nat→List Oper→Bool
 | _,[]=>true
 | i,_ :: rest=>bif i.blt k then !((nth 0 bs i).testBit u) && mT bs u k (i + 1) rest else true
def nW (o:Oper):Bool:=match o.op with
 | .load _ _=>o.guard.isNone && o.dst.isSome
 | _=>false
def ww (all:List Oper) (j u:Nat) (o c:Oper):Bool :=
 nW o && (qg all u j && qg all u (j + 1)) && (mT (behind all) u (j + 1) 0 all && (c.guard.isNone && (match o.dst with
  | some d=>dj (some d) (co c.op.operands.toList) && unlike (some d) c.dst
  | none=>false)))
def nn (all:List Oper) (j:Nat) (c:Oper):Nat→List Oper→Option Nat
 | _,[]=>none
 | u,o :: rest=>bif u.blt j then (bif ww all j u o c then some u else nn all j c (u + 1) rest) else none
def gF (all:List Oper) (j:Nat):Option Nat:=match all[j]? with
 | some c=>nn all j c 0 all
 | none=>none
def dn (draw:Bool) (all:List Oper) (j:Nat):Bool:=!draw || (nv all j && nv all (j + 1))
def swapL (n a b:Nat):List Nat:=(List.range n).map fun k=>bif k.beq a then b else bif k.beq b then a else k
def BL (d:Option Nat) (st:ASt):List Nat :=
 match d with
 | some d=>(match nth (.one .junk) st.slots d with
  | .one (.sref i 0 [])=>swapL st.boxes.length i (st.nid (some d))
  | _=>List.range st.boxes.length)
 | none=>List.range st.boxes.length
def Ak {R:Type} (d:Option Nat) (k:ASt→Prg R) (st:ASt):Prg R:=fNs (BL d st) fun L=>bif gp L then kv k (m8 L 0 st) else .fail
noncomputable def lM {R:Type} (E:Env) (draw:Bool) (all:List Oper) (j:Nat) (k:ASt→Prg R) (st:ASt):Prg R :=
 bif dn draw all j then k st else match gF all j with
 | some u => (match all[u]?, all[j]? with
  | some o,some c=>(match o.dst with
   | some d=>Ak c.dst (fun st=>opQ E all (jO draw (iM E.T draw st all) all u o) (fun st'=>.chk (Be (nth (.one .junk) st'.slots d) (nth (.one .junk) st.slots d)) (k st)) (st.put (some d) (.one .junk))) st
   | none=>.fail)
  | _,_=>.fail)
 | none=>.fail
noncomputable def dZ {R:Type} (E:Env) (L:Opn) (reg:xW R) (rg:xQ R) (nt:Nat) (fi:FuncId) (ys:List Rng) (id:Nat) (rp:List Nat) (draw:Bool) (all:List Oper) (K:ASt→Prg R):Nat→List Oper→List (List Nat)→ASt→Prg R
 | _,[],_,st=>K st
 | j, o :: rest, ex, st => match qy L st j o.op with
  | some (y, f, fn, rv, cap) => bif gh all o st then (bif dn draw all j || (gF all j).isSome then
    p0 E L reg rg nt fi ys id rp j y o f fn rv cap (lM E draw all j fun st'=>dZ E L reg rg nt fi ys id rp draw all K (j + 1) rest (iM E.T draw st' all) st') st else .fail)
   else opQ E all (jO draw ex all j o) (gC (dZ E L reg rg nt fi ys id rp draw all K (j + 1) rest ex)) st
  | none => match pO ys st o.op with
   | some (m, y) => bif gh all o st then (bif !draw || (nv all j && nv all (j + 1)) then
     pP E L reg rg nt fi ys id rp j m y o (fun st'=>dZ E L reg rg nt fi ys id rp draw all K (j + 1) rest (iM E.T draw st' all) st') st else .fail)
    else opQ E all (jO draw ex all j o) (gC (dZ E L reg rg nt fi ys id rp draw all K (j + 1) rest ex)) st
   | none=>opQ E all (jO draw ex all j o) (gC (dZ E L reg rg nt fi ys id rp draw all K (j + 1) rest ex)) st
def uX {R:Type} (fn:Func) (n nt:Nat) (K:ASt→Prg R):AEx→ASt→Prg R
 | .exit _,_=>.fail
 | _,st=>bif fn.results.size.beq 0 && nt.ble st.out.length then fx fn.ntmps ((st.ap (CA.unY n)).cut nt) K else .fail
mutual
noncomputable def cS {R:Type} (E:Env) (L:Opn):Nat→xW R
 | 0,_,_,_,_,_,ops,draw,K,st=>jV E ops draw K st
 | n + 1,nt,fi,ys,id,rp,ops,draw,K,st=>bif pC L ops then (bif !draw || ba ops then dZ E L (cS E L n) (cV E L n) nt fi ys id rp draw ops K 0 ops (iM E.T draw st ops) st else .fail) else jV E ops draw K st
noncomputable def cV {R:Type} (E:Env) (L:Opn):Nat→xQ R
 | 0,_,_,_,_,_,_,_,_,_,_=>.fail
 | n + 1, nt, fi, ys, rp, g, ps, assign, body, K, st => wq (fun st => match (st.ev g).tA with
  | some (f,cs)=>(match L.fns f with
   | some fn => bif Nat.beq fn.params.size 1 && ((cs.length + 1).ble fn.ntmps && st.slots.length.beq nt) then
     kv (cM E (cS E L n fn.ntmps f (ys ++ [⟨st.out.length,nt,fi,ps,assign,body,false⟩])) (cV E L n fn.ntmps f (ys ++ [⟨st.out.length,nt,fi,ps,assign,body,false⟩])) (L.ann f) (L.jn f) (f :: rp) (bP fn) (uX fn ys.length nt K))
      (iD fn.ntmps (.one (.yl ys.length) :: cs.map AV.one) st) else .fail
   | none=>.fail)
  | none=>.fail) (st.ap (CA.unY ys.length))
end
noncomputable def goQ {R:Type} (E:Env) (L:Opn):List Nat→Nat→Nat→Nat→FuncId→List Rng→List Nat→Code→(AEx→ASt→Prg R)→ASt→Prg R
 | [],n,_,nt,fi,ys,rp,c,K=>cM E (cS E L n nt fi ys) (cV E L n nt fi ys) (L.ann fi) (L.jn fi) rp c K
 | x :: p, n, no, nt, fi, ys, rp, c, K => match c with
  | .seq a b=>match x with
   | 0=>goQ E L p n no nt fi ys (0 :: rp) a (pe (gz (L.jn fi) b) (1 :: rp) (cM E (cS E L n nt fi ys) (cV E L n nt fi ys) (L.ann fi) (L.jn fi) (1 :: rp) b K) K)
   | _=>goQ E L p n no nt fi ys (1 :: rp) b K
  | .cond _ a b=>match x with
   | 0=>goQ E L p n no nt fi ys (0 :: rp) a K
   | _=>goQ E L p n no nt fi ys (1 :: rp) b K
  | .block id c=>goQ E L p n no nt fi ys (0 :: rp) c (kF id K)
  | .loop c=>goQ E L p n no nt fi ys (0 :: rp) c (qa (gz (L.ann fi) c) (0 :: rp) K)
  | .rangeFunc _ ps assign body => match n with
   | n + 1=>(match L.fns x with
    | some fn=>goQ E L p n (no + nt) fn.ntmps x (ys ++ [⟨no,nt,fi,ps,assign,body,false⟩]) (x :: rp) (bP fn) (uX fn ys.length nt (K .normal))
    | none=>fun _=>.fail)
   | 0=>fun _=>.fail
  | .region id ops draw => match n with
   | n + 1 => bif (x % 2).beq 0 then (match ops.toList[(x / 2 - 1) % 1000]? with
    | some o=>(match oX L (x / 2 - 1) o.op with
     | some (f, fn) => bif !draw || ba ops.toList then goQ E L p n (no + nt) fn.ntmps f ys (x :: rp) (bP fn)
       (sw E f fn nt o.dst (lM E draw ops.toList ((x / 2 - 1) % 1000) fun st'=>dZ E L (cS E L n) (cV E L n) nt fi ys id rp draw ops.toList (K .normal) ((x / 2 - 1) % 1000 + 1) (ops.toList.drop ((x / 2 - 1) % 1000 + 1)) (iM E.T draw st' ops.toList) st')) else fun _=>.fail
     | none=>fun _=>.fail)
    | none=>fun _=>.fail)
    else (match ops.toList[((x - 3) / 2) % 1000]? with
    | some o=>(match ys[(x - 3) / 2 / 1000 / 2]? with
     | some r => bif !draw || ba ops.toList then (bif ((x - 3) / 2 / 1000 % 2).beq 0 then
       goQ E L p n (no + nt) r.nt r.fi (aL ys ((x - 3) / 2 / 1000 / 2)) (x :: rp) r.assign
        (nQ (cM E (cS E L n r.nt r.fi (aL ys ((x - 3) / 2 / 1000 / 2))) (cV E L n r.nt r.fi (aL ys ((x - 3) / 2 / 1000 / 2))) (L.ann r.fi) (L.jn r.fi) (jN 1 ((x - 3) / 2 / 1000 / 2) (((x - 3) / 2) % 1000) :: rp) r.body
         (d7 r nt o.dst (fun st'=>dZ E L (cS E L n) (cV E L n) nt fi ys id rp draw ops.toList (K .normal) (((x - 3) / 2) % 1000 + 1) (ops.toList.drop (((x - 3) / 2) % 1000 + 1)) (iM E.T draw st' ops.toList) st'))))
       else goQ E L p n (no + nt) r.nt r.fi (aL ys ((x - 3) / 2 / 1000 / 2)) (x :: rp) r.body
        (d7 r nt o.dst (fun st'=>dZ E L (cS E L n) (cV E L n) nt fi ys id rp draw ops.toList (K .normal) (((x - 3) / 2) % 1000 + 1) (ops.toList.drop (((x - 3) / 2) % 1000 + 1)) (iM E.T draw st' ops.toList) st'))) else fun _=>.fail
     | none=>fun _=>.fail)
    | none=>fun _=>.fail)
   | 0=>fun _=>.fail
  | _=>fun _=>.fail
theorem w9 {R:Type} (E:Env) (L:Opn) (n no nt:Nat) (fi:FuncId) (ys:List Rng) (rp:List Nat) (K:AEx→ASt→Prg R) (c:Code):goQ E L [] n no nt fi ys rp c K=cM E (cS E L n nt fi ys) (cV E L n nt fi ys) (L.ann fi) (L.jn fi) rp c K:=rfl
theorem zf {R:Type} (E:Env) (L:Opn) (p:List Nat) (n no nt:Nat) (fi:FuncId) (ys:List Rng) (rp:List Nat) (K:AEx→ASt→Prg R) (a b:Code):goQ E L (0 :: p) n no nt fi ys rp (.seq a b) K=goQ E L p n no nt fi ys (0 :: rp) a (pe (gz (L.jn fi) b) (1 :: rp) (cM E (cS E L n nt fi ys) (cV E L n nt fi ys) (L.ann fi) (L.jn fi) (1 :: rp) b K) K):=rfl
theorem zn {R:Type} (E:Env) (L:Opn) (p:List Nat) (n no nt:Nat) (fi:FuncId) (ys:List Rng) (rp:List Nat) (K:AEx→ASt→Prg R) (a b:Code):goQ E L (1 :: p) n no nt fi ys rp (.seq a b) K=goQ E L p n no nt fi ys (1 :: rp) b K:=rfl
theorem yp {R:Type} (E:Env) (L:Opn) (p:List Nat) (n no nt:Nat) (fi:FuncId) (ys:List Rng) (rp:List Nat) (K:AEx→ASt→Prg R) (c:Operand) (a b:Code):goQ E L (0 :: p) n no nt fi ys rp (.cond c a b) K=goQ E L p n no nt fi ys (0 :: rp) a K:=rfl
theorem x5 {R:Type} (E:Env) (L:Opn) (p:List Nat) (n no nt:Nat) (fi:FuncId) (ys:List Rng) (rp:List Nat) (K:AEx→ASt→Prg R) (c:Operand) (a b:Code):goQ E L (1 :: p) n no nt fi ys rp (.cond c a b) K=goQ E L p n no nt fi ys (1 :: rp) b K:=rfl
theorem x9 {R:Type} (E:Env) (L:Opn) (p:List Nat) (n no nt:Nat) (fi:FuncId) (ys:List Rng) (rp:List Nat) (K:AEx→ASt→Prg R) (id:Nat) (c:Code) (x:Nat):goQ E L (x :: p) n no nt fi ys rp (.block id c) K=goQ E L p n no nt fi ys (0 :: rp) c (kF id K):=rfl
theorem zF {R:Type} (E:Env) (L:Opn) (p:List Nat) (n no nt:Nat) (fi:FuncId) (ys:List Rng) (rp:List Nat) (K:AEx→ASt→Prg R) (c:Code) (x:Nat):goQ E L (x :: p) n no nt fi ys rp (.loop c) K=goQ E L p n no nt fi ys (0 :: rp) c (qa (gz (L.ann fi) c) (0 :: rp) K):=rfl
theorem AA {R:Type} (E:Env) (L:Opn) (p:List Nat) (no nt:Nat) (fi:FuncId) (ys:List Rng) (rp:List Nat) (K:AEx→ASt→Prg R) (g:Operand) (ps:Array Tmp) (assign body:Code) (x:Nat):goQ E L (x :: p) 0 no nt fi ys rp (.rangeFunc g ps assign body) K=fun _=>.fail:=rfl
theorem xz {R:Type} (E:Env) (L:Opn) (p:List Nat) (n no nt:Nat) (fi:FuncId) (ys:List Rng) (rp:List Nat) (K:AEx→ASt→Prg R) (g:Operand) (ps:Array Tmp) (assign body:Code) (x:Nat):goQ E L (x :: p) (n + 1) no nt fi ys rp (.rangeFunc g ps assign body) K=match L.fns x with
 | some fn=>goQ E L p n (no + nt) fn.ntmps x (ys ++ [⟨no,nt,fi,ps,assign,body,false⟩]) (x :: rp) (bP fn) (uX fn ys.length nt (K .normal))
 | none=>fun _=>.fail:=rfl
theorem qm {R:Type} (E:Env) (L:Opn) (p:List Nat) (no nt:Nat) (fi:FuncId) (ys:List Rng) (rp:List Nat) (K:AEx→ASt→Prg R) (id:Nat) (ops:Array Oper) (draw:Bool) (x:Nat):goQ E L (x :: p) 0 no nt fi ys rp (.region id ops draw) K=fun _=>.fail:=rfl
theorem pN {R : Type} (E : Env) (L : Opn) (p : List Nat) (n no nt : Nat) (fi : FuncId) (ys : List Rng) (rp : List Nat) (K : AEx → ASt → Prg R) (id : Nat) (ops : Array Oper) (draw : Bool) (x : Nat) : goQ E L (x :: p) (n + 1) no nt fi ys rp (.region id ops draw) K = bif (x % 2).beq 0 then (match ops.toList[(x / 2 - 1) % 1000]? with
    | some o=>(match oX L (x / 2 - 1) o.op with
     | some (f, fn) => bif !draw || ba ops.toList then goQ E L p n (no + nt) fn.ntmps f ys (x :: rp) (bP fn)
       (sw E f fn nt o.dst (lM E draw ops.toList ((x / 2 - 1) % 1000) fun st'=>dZ E L (cS E L n) (cV E L n) nt fi ys id rp draw ops.toList (K .normal) ((x / 2 - 1) % 1000 + 1) (ops.toList.drop ((x / 2 - 1) % 1000 + 1)) (iM E.T draw st' ops.toList) st')) else fun _=>.fail
     | none=>fun _=>.fail)
    | none=>fun _=>.fail)
    else (match ops.toList[((x - 3) / 2) % 1000]? with
    | some o=>(match ys[(x - 3) / 2 / 1000 / 2]? with
     | some r => bif !draw || ba ops.toList then (bif ((x - 3) / 2 / 1000 % 2).beq 0 then
       goQ E L p n (no + nt) r.nt r.fi (aL ys ((x - 3) / 2 / 1000 / 2)) (x :: rp) r.assign
        (nQ (cM E (cS E L n r.nt r.fi (aL ys ((x - 3) / 2 / 1000 / 2))) (cV E L n r.nt r.fi (aL ys ((x - 3) / 2 / 1000 / 2))) (L.ann r.fi) (L.jn r.fi) (jN 1 ((x - 3) / 2 / 1000 / 2) (((x - 3) / 2) % 1000) :: rp) r.body
         (d7 r nt o.dst (fun st'=>dZ E L (cS E L n) (cV E L n) nt fi ys id rp draw ops.toList (K .normal) (((x - 3) / 2) % 1000 + 1) (ops.toList.drop (((x - 3) / 2) % 1000 + 1)) (iM E.T draw st' ops.toList) st'))))
       else goQ E L p n (no + nt) r.nt r.fi (aL ys ((x - 3) / 2 / 1000 / 2)) (x :: rp) r.body
        (d7 r nt o.dst (fun st'=>dZ E L (cS E L n) (cV E L n) nt fi ys id rp draw ops.toList (K .normal) (((x - 3) / 2) % 1000 + 1) (ops.toList.drop (((x - 3) / 2) % 1000 + 1)) (iM E.T draw st' ops.toList) st'))) else fun _=>.fail
     | none=>fun _=>.fail)
    | none=>fun _=>.fail):=rfl
def dk:List CA→List (Nat × Nat)
 | []=>[]
 | .sref i r _ :: l=>(i,r) :: dk l
 | .swin i r _ _ _ :: l=>(i,r) :: dk l
 | _ :: l=>dk l
def cg (i r:Nat):List (Nat × Nat)→Nat
 | []=>0
 | (a,b) :: l=>bif a.beq i && b.beq r then cg i r l + 1 else cg i r l
def lK (rs:List (Nat × Nat)) (i r:Nat):Bool:=(cg i r rs).ble 1
def lJ (look:Look) (rs:List (Nat × Nat)) (c:CA) (k:TV→Prg TV):Prg TV :=
 match c with
 | .t x=>k x
 | .sref i r p=>gZ look (.sref i r p) fun x=>k (bif lK rs i r then x else frz x)
 | .swin i r p lo len=>gZ look (.swin i r p lo len) fun x=>k (bif lK rs i r then x else frz x)
 | _=>.fail
def xC (look:Look) (rs:List (Nat × Nat)):List CA→(List TV→Prg TV)→Prg TV
 | [],k=>k []
 | c :: l,k=>lJ look rs c fun x=>xC look rs l fun xs=>k (x :: xs)
def xl (look:Look) (rs:List (Nat × Nat)) (v:AV) (k:TV→Prg TV):Prg TV :=
 match v with
 | .one c=>lJ look rs c k
 | .tv x=>k x
 | .agg cs=>xC look rs cs fun xs=>k (.agg xs)
 | .tups _=>.fail
 | .clo _ _=>.fail
 | .bl b=>k (.lit (.bool b))
def gives (look:Look) (rs:List (Nat × Nat)):List AV→(List TV→Prg TV)→Prg TV
 | [],k=>k []
 | v :: l,k=>xl look rs v fun x=>gives look rs l fun xs=>k (x :: xs)
def AV.Ca:AV→List (Nat × Nat)
 | .one c=>dk [c]
 | .agg cs=>dk cs
 | _=>[]
def cn:List AV→List (Nat × Nat)
 | []=>[]
 | v :: l=>v.Ca ++ cn l
def yR (T:Tab) (pure:Bool) (rs:List ResultVar) (st:ASt):Prg TV :=
 match gW T st rs with
 | some vs=>gives st.look (cn vs) vs fun xs=>(match xs with
  | [x]=>bif pure then .chk (ct x) (.ret x) else .ret x
  | xs=>bif pure then .chk (ie xs) (.ret (.tup xs)) else .ret (.tup xs))
 | none=>.fail
def lF (look:Look) (rs:List (Nat × Nat)) (i:Nat) (ty:TypeId):List CA→(List TV→Prg TV)→Prg TV
 | [],k=>k []
 | .may j t :: l,k=>bif j.beq i && t.beq ty then lF look rs i ty l (fun xs=>k (Bq :: xs)) else .fail
 | c :: l,k=>lJ look rs c fun x=>lF look rs i ty l fun xs=>k (x :: xs)
def pn (xs:List TV):TV:=match xs with | [x]=>x | xs=>.tup xs
def yU (T:Tab) (ld:eP) (rs:List ResultVar) (st:ASt):Prg TV :=
 match gW T st rs,st.out with
 | some vs,[.one (.ptr i 0)]=>match st.look i with
  | some (.cells cs)=>gives st.look (cn vs ++ dk cs) vs fun xs=>lF st.look (cn vs ++ dk cs) i ld.ty cs fun ys=>.ret (.tup [pn xs,.tup ys])
  | _=>.fail
 | _,_=>.fail
def resP (T : Tab) (rs : List ResultVar) (st : ASt) : Prg TV :=
 match gW T st rs with
 | some [v] => (match v.tv? with
  | some x=>.ret x
  | none => match v with
   | .agg cs=>(match dz cs with
    | some xs=>.ret (.agg xs)
    | none=>.fail)
   | _=>.fail)
 | _=>.fail
def AX (T:Tab) (ld:Option eP) (pk pure:Bool) (rs:List ResultVar) (st:ASt):Prg TV :=
 bif pk then resP T rs st else match ld with
 | none=>yR T pure rs st
 | some ld=>yU T ld rs st
def eZ (ld:eP) (ntmps:Nat) (cs args:List TV):ASt :=
 ⟨.one (.ptr 0 0) :: (args.map (fun x => .tv x) ++ List.replicate (ntmps - (args.length + 1)) (.one .undef)),
  some (.cells (fj 0 1 ld.ty ld.fl cs 0)) :: some (.tree (cr ld.fl cs)) :: List.replicate (cF + ntmps) none,[.one (.ptr 0 0)]⟩
def jW (ntmps:Nat) (cs args:List TV):ASt :=
 ⟨args.map (fun x=>.tv x) ++ (.one (.ref cs 0) :: List.replicate (ntmps - (args.length + 1)) (.one .undef)),List.replicate (cF + ntmps) none,[]⟩
def iq (ntmps:Nat) (args:List TV):ASt :=
 ⟨args.map (fun x=>.tv x) ++ List.replicate (ntmps - args.length) (.one .undef),List.replicate (cF + ntmps) none,[]⟩
def tO (c:Nat × Nat) (x:TV):List TV:=al (List.replicate c.2 .hole) c.1 x
def gS (c:Nat × Nat) (ntmps:Nat) (x:TV) (args:List TV):ASt :=
 ⟨.one (.ref (tO c x) 0) :: (args.map (fun x=>.tv x) ++ List.replicate (ntmps - (args.length + 1)) (.one .undef)),List.replicate (cF + ntmps) none,[]⟩
def AD (T:Tab) (ld:Option eP) (pk pure:Bool) (rs:List ResultVar):AEx→ASt→Prg TV
 | .normal,st=>AX T ld pk pure rs st
 | .ret,st=>AX T ld pk pure rs st
 | _,_=>.fail
structure AProg where
 T:Tab
 pure:FuncId→Bool
 rts:FuncId→List TypeId
 fns:FuncId→Option Func
 ann:FuncId→Nat→Option Ann
 jn:FuncId→Nat→Option Ann
 lent:FuncId→Option eP
 selfT:TypeId→Bool
 ext:FuncId→Option (List TV→Option TV)
 opn:FuncId→Bool
 kp:FuncId→Nat→Option (List Nat)
 peek:FuncId→Option (Nat × Nat)
 turn:FuncId→Bool
 mth:TypeId→String→Option (FuncId × Bool)
 eye:FuncId→Bool
 cold:TypeId→Bool
def AProg.env (A:AProg):Env:=⟨A.T,A.pure,A.rts,A.lent,A.selfT,A.peek,A.turn,A.eye,A.cold⟩
def AProg.opens (A:AProg):Opn:=⟨fun f=>bif A.opn f then A.fns f else none,A.ann,A.jn,A.kp,A.mth⟩
def sJ:Nat:=8
def oA (A:AProg) (f:FuncId):Nat:=match A.peek f with | some _=>0 | none=>bif (A.lent f).isSome then 1 else 0
noncomputable def eC (A:AProg) (f:FuncId) (rp:List Nat) (st:ASt):Prg TV :=
 match A.fns f with
 | some fn=>goQ A.env A.opens rp.reverse sJ (oA A f) fn.ntmps f [] [] (bP fn) (AD A.T (A.lent f) (A.peek f).isSome (A.pure f) fn.results.toList) st
 | none=>.fail
def rH:List TV→Option (List TV × TV)
 | []=>none
 | [x]=>some ([],x)
 | x :: y :: l=>match rH (y :: l) with
  | some (asz,z)=>some (x :: asz,z)
  | none=>none
noncomputable def dm (A:AProg) (f:FuncId) (args:List TV):Prg TV :=
 bif A.turn f || (A.eye f && ((A.peek f).isSome || (A.lent f).isSome)) then .fail else match A.peek f with
 | some c=>(match A.fns f,args with
  | some fn,x :: rest=>bif (rest.length + 1).beq fn.params.size && (rest.length + 1).ble fn.ntmps && c.1.blt c.2 then eC A f [] (gS c fn.ntmps x rest) else .fail
  | _,_=>.fail)
 | none=>match A.fns f with
 | some fn => match A.lent f with
  | none=>bif A.eye f then (match rH args with
   | some (asz,.agg cs)=>bif asz.length.beq fn.params.size && (asz.length + 1).ble fn.ntmps then eC A f [] (jW fn.ntmps cs asz) else .fail
   | _=>.fail) else bif args.length.beq fn.params.size && args.length.ble fn.ntmps then eC A f [] (iq fn.ntmps args) else .fail
  | some ld=>match args with
   | .tup cs :: rest=>bif (rest.length + 1).beq fn.params.size && (rest.length + 1).ble fn.ntmps then .chk (mF ld.fl cs) (eC A f [] (eZ ld fn.ntmps cs rest)) else .fail
   | _=>.fail
 | none=>.fail
noncomputable def ib (A:AProg) (C:FuncId→List TV→Option TV) (f:FuncId):Nat→List Nat→ASt→Option TV
 | 0,_,_=>none
 | n + 1,p,st=>(eC A f p st).run C (ib A C f n)
noncomputable def acall (A:AProg):Nat→FuncId→List TV→Option TV
 | 0,_,_=>none
 | n + 1,f,args=>match A.ext f with
  | some g=>g args
  | none=>(dm A f args).run (acall A n) (ib A (acall A n) f n)
end Go.Ab

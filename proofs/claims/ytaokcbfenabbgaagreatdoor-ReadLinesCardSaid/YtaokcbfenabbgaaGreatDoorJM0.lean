import Derived.Calls
import Derived.Laws.Sem
import Derived.KernelRfl
set_option linter.all false
namespace Go.Ab
theorem DS {α : Type} {i : Nat} {a : α} {l : List α} : l[i]? = some a ↔ ∃ h : i < l.length, l[i] = a := List.getElem?_eq_some_iff
theorem DT {α : Type} {l : List α} {i : Nat} (h : i < l.length) : l[i]? = some l[i] := List.getElem?_eq_getElem h
theorem DU {α : Type} (a b : α) : (some a = some b) = (a = b) := Option.some.injEq a b
theorem DV (a b : Bool) : ((a && b) = true) = (a = true ∧ b = true) := Bool.and_eq_true a b
theorem DW {α : Type} {xs : Array α} {i : Nat} : xs.toList[i]? = xs[i]? := Array.getElem?_toList
theorem DX {α : Type} {i : Nat} {b : α} {xs : Array α} : xs[i]? = some b ↔ ∃ h : i < xs.size, xs[i] = b := Array.getElem?_eq_some_iff
theorem DY {α : Type} {β : Type} {f : α → β} {l : List α} {i : Nat} : (List.map f l)[i]? = Option.map f l[i]? := List.getElem?_map
theorem DZ {α : Type} {a : α} {l : List α} : a ∈ a :: l := List.mem_cons_self
theorem D0 {α : Type} (y : α) {a : α} {l : List α} : a ∈ l → a ∈ y :: l := List.mem_cons_of_mem y
theorem D1 {α : Type} {l : List α} {i : Nat} {a : α} : l[i]? = some a → a ∈ l := List.mem_of_getElem?
theorem D3 {α : Type} {l m : List α} {i : Nat} : i < l.length → (l ++ m)[i]? = l[i]? := List.getElem?_append_left
theorem D4 {α : Type} {l m : List α} {i : Nat} : l.length ≤ i → (l ++ m)[i]? = m[i - l.length]? := List.getElem?_append_right
theorem D5 {α : Type} {l : List α} {i : Nat} : l.length ≤ i → l[i]? = none := List.getElem?_eq_none
theorem D6 {α : Type} {β : Type} (a : α) (f : α → β) : Option.map f (some a) = some (f a) := Option.map_some a f
theorem D7 {α : Type} {l : List α} {i : Nat} {a : α} : l.getD i a = l[i]?.getD a := List.getD_eq_getElem?_getD
theorem D8 {α : Type} {xs : Array α} {i : Nat} {d : α} : xs.getD i d = xs[i]?.getD d := Array.getD_eq_getD_getElem?
inductive TV where
 | lit (v:Value)
 | sl (own:Bool) (size:Nat) (xs:List (List TV))
 | agg (cs:List TV)
 | tup (vs:List TV)
 | buf (s:ByteArray) (e:Nat)
 | hole
abbrev Way:=List (Nat × Nat)
inductive CA where
 | t (x:TV)
 | ptr (i off:Nat)
 | ref (x:List TV) (off:Nat)
 | tptr (i r:Nat) (p:Way) (k j:Nat)
 | sref (i r:Nat) (p:Way)
 | swin (i r:Nat) (p:Way) (lo len:Nat)
 | may (i:Nat) (ty:TypeId)
 | aptr (i off len n:Nat)
 | psl (i len:Nat)
 | yl (n:Nat)
 | ifp (t:TypeId) (i:Nat)
 | fn1 (f:FuncId) (i:Nat)
 | undef
 | junk
inductive AV where
 | one (c:CA)
 | agg (cs:List CA)
 | tv (x:TV)
 | tups (cs:List (Bool × List CA))
 | bl (b:Bool)
 | clo (f:FuncId) (cs:List CA)
inductive BC where
 | cells (cs:List CA)
 | tree (xs:List TV)
structure ASt where
 slots:List AV
 boxes:List (Option BC)
 out:List AV
inductive Kd where
 | bool | int (k:IntKind) | str | slice (e:TypeId) | struct | arr (n:Nat) (e:TypeId) | other | ptr
structure TyD where
 size:Nat
 bytes:Nat
 kd:Kd
 zero:List Value
 fields:List (Nat × TypeId)
def Kd.isAgg:Kd->Bool
 | .struct=>true
 | .arr _ _=>true
 | _=>false
abbrev Tab:=TypeId->Option TyD
def nth {α:Type} (d:α):List α->Nat->α
 | [],_=>d
 | a :: _,0=>a
 | _ :: l,n + 1=>nth d l n
def au {α:Type}:List α->Nat->α->List α
 | [],_,_=>[]
 | _ :: l,0,b=>b :: l
 | a :: l,n + 1,b=>a :: au l n b
def bD (n:Nat):List Nat->Bool
 | []=>false
 | a :: l=>bif a.beq n then true else bD n l
def qm:List (Nat × TyD)->Tab
 | [],_=>none
 | (k,d) :: r,t=>bif k.beq t then some d else qm r t
def bF {α:Type} (l:List α) (off:Nat):List α->List α
 | []=>l
 | a :: r=>bF (au l off a) (off + 1) r
def jY {α:Type}:List α->Nat->Nat->Option (List α)
 | _,_,0=>some []
 | [],_,_ + 1=>none
 | a :: l,0,n + 1=>match jY l 0 n with
  | some r=>some (a :: r)
  | none=>none
 | _ :: l,o + 1,n + 1=>jY l o (n + 1)
def af:Value:=.slice none 0 0
def TV.cell (x:TV) (j:Nat):TV:=match x with | .agg cs=>nth .hole cs j | _=>.hole
def TV.comp (x:TV) (j:Nat):TV:=match x with | .tup cs=>nth .hole cs j | _=>.hole
def TV.isAgg (x:TV) (n:Nat):Bool:=match x with | .agg cs=>cs.length.beq n | _=>false
def TV.isTup (x:TV) (n:Nat):Bool:=match x with | .tup cs=>cs.length.beq n | _=>false
def aG:Value->Bool
 | .slice none 0 0=>true
 | _=>false
def scV:Value->Bool
 | .slice _ _ _=>false
 | .agg _=>false
 | .tuple _=>false
 | _=>true
def TV.isSc (x:TV):Bool:=match x with | .lit v=>scV v | _=>false
def TV.isSl (x:TV):Bool:=match x with | .lit v=>aG v | .sl _ _ _=>true | _=>false
def TV.iz (x:TV):Bool:=match x with | .lit _=>true | .sl o _ _=>!o | _=>false
def TV.fS (x:TV):Bool:=match x with | .lit v=>v.oneCell' | .sl _ _ _=>true | _=>false
def TV.lf (x:TV):TV:=match x with | .lit v=>.lit v | _=>.hole
def lfL:List TV->List TV
 | []=>[]
 | x :: l=>x.lf :: lfL l
def iU:List (List TV)->List (List TV)
 | []=>[]
 | x :: l=>lfL x :: iU l
mutual
def frz:TV->TV
 | .lit v=>.lit v
 | .sl _ s xs=>.sl false s (qQ xs)
 | .agg cs=>.agg (uh cs)
 | .tup cs=>.tup (uh cs)
 | .buf _ _=>.hole
 | .hole=>.hole
def uh:List TV->List TV
 | []=>[]
 | x :: l=>frz x :: uh l
def qQ:List (List TV)->List (List TV)
 | []=>[]
 | x :: l=>uh x :: qQ l
end
mutual
def aD:TV->Bool
 | .lit _=>true
 | .sl o _ xs=>o && lc xs
 | .agg cs=>bR cs
 | .tup cs=>bR cs
 | .buf _ _=>true
 | .hole=>true
def bR:List TV->Bool
 | []=>true
 | x :: l=>aD x && bR l
def lc:List (List TV)->Bool
 | []=>true
 | x :: l=>bR x && lc l
end
def asBool:TV->Option Bool
 | .lit (.bool b)=>some b
 | _=>none
def fnOf:TV->Option Nat
 | .lit (.func (.func f) ts fs)=>bif ts.size.beq 0 && fs.size.beq 0 then some f else none
 | _=>none
def al:TV->Option Nat
 | .lit (.int _ n)=>if 0<=n/\n<=9223372036854775807 then some n.toNat else none
 | _=>none
def dC:Way->TV->Option TV
 | [],x=>some x
 | (k, j) :: p, .sl _ _ xs => match xs[k]? with
  | some e=>match e[j]? with
   | some y=>dC p y
   | none=>none
  | none=>none
 | _ :: _,_=>none
def lj : Way → TV → TV → Option TV
 | [],_,y=>some y
 | (k, j) :: p, .sl true s xs, y => match xs[k]? with
  | some e => match e[j]? with
   | some z=>match lj p z y with
    | some z'=>some (.sl true s (au xs k (au e j z')))
    | none=>none
   | none=>none
  | none=>none
 | _ :: _,_,_=>none
def pel (x:TV) (k:Nat):Option (List TV):=match x with | .sl _ _ xs=>xs[k]? | _=>none
def yA (x:TV) (k j:Nat) (ys:List TV):Option TV :=
 match x with
 | .sl true s xs=>match xs[k]? with
  | some e=>some (.sl true s (au xs k (bF e j ys)))
  | none=>none
 | _=>none
def xH (p:Way) (x:TV) (k j:Nat) (ys:List TV):Option TV :=
 match dC p x with
 | some s=>match yA s k j ys with
  | some s'=>lj p x s'
  | none=>none
 | none=>none
def fX (lo len:Nat) (x:TV):Option TV :=
 match x with
 | .sl o s xs=>if lo + len<=xs.length then some (.sl o s ((xs.drop lo).take len)) else none
 | .lit (.slice none 0 0)=>if lo=0/\len=0 then some (.lit af) else none
 | _=>none
def room:Nat:=4294967296
def CY (size:Nat) (xs:List (List TV)):TV:=match xs with | []=>.lit af | x :: l=>.sl true size (x :: l)
def papp (size:Nat) (x:TV) (news:List (List TV)):Option TV :=
 match x with
 | .lit (.slice none 0 0)=>if news.length<=room then some (CY size news) else none
 | .sl true s xs=>if s=size/\xs.length + news.length<=room then some (.sl true s (xs ++ news)) else none
 | _=>none
def pcopy (size:Nat) (x:TV) (news:List (List TV)):Option TV :=
 match x with
 | .sl true s xs=>if s=size then some (.sl true s (news.take xs.length ++ xs.drop news.length)) else none
 | .lit (.slice none 0 0)=>some (.lit af)
 | _=>none
def slLen (x:TV):Option Nat:=match x with | .sl _ _ xs=>some xs.length | .lit (.slice none 0 0)=>some 0 | _=>none
def slSize (x:TV) (size:Nat):Bool:=match x with | .sl _ s _=>s.beq size | .lit (.slice none 0 0)=>true | _=>false
def ab:List Value->List TV->Nat->Bool
 | [],_,_=>true
 | z :: zs,e,j=>match e[j]? with
  | some c=>(bif aG z then c.isSl else c.isSc) && ab zs e (j + 1)
  | none=>false
def TV.isHole (x:TV):Bool:=match x with | .hole=>true | _=>false
def jJ:List Value->List TV->Nat->Bool
 | [],_,_=>true
 | z :: zs,e,j=>match e[j]? with
  | some c=>(bif aG z then c.isSl || c.isHole else c.isSc) && jJ zs e (j + 1)
  | none=>false
def fV (op:BinOp) (k:IntKind) (a b:Int):Option TV :=
 match op with
 | .add=>some (.lit (.int k (k.wrap (a + b))))
 | .sub=>some (.lit (.int k (k.wrap (a - b))))
 | .mul=>some (.lit (.int k (k.wrap (a * b))))
 | .quo=>if b=0 then none else some (.lit (.int k (k.wrap (a.tdiv b))))
 | .rem=>if b=0 then none else some (.lit (.int k (a.tmod b)))
 | .eql=>some (.lit (.bool (a == b)))
 | .neq=>some (.lit (.bool (a != b)))
 | .lss=>some (.lit (.bool (decide (a < b))))
 | .leq=>some (.lit (.bool (decide (a<=b))))
 | .gtr=>some (.lit (.bool (decide (a > b))))
 | .geq=>some (.lit (.bool (decide (a >= b))))
 | .and=>some (.lit (.int k (k.wrap ((BitVec.ofInt k.bits a &&& BitVec.ofInt k.bits b).toNat))))
 | .or=>some (.lit (.int k (k.wrap ((BitVec.ofInt k.bits a ||| BitVec.ofInt k.bits b).toNat))))
 | _=>none
def kr (op:BinOp) (a b:ByteArray):Option TV :=
 match op with
 | .eql=>some (.lit (.bool (a.toList == b.toList)))
 | .neq=>some (.lit (.bool (!(a.toList == b.toList))))
 | .lss=>some (.lit (.bool (Op.bytesLess a.toList b.toList)))
 | .add=>if ((a.size + b.size:Nat):Int) > IntKind.i64.max then none else some (.lit (.string (a ++ b)))
 | _=>none
def xq (op:BinOp) (b:Bool):Option TV :=
 match op with
 | .eql=>some (.lit (.bool b))
 | .neq=>some (.lit (.bool !b))
 | _=>none
def pbin (kd:Kd) (op:BinOp) (x y:TV):Option TV :=
 match kd,x,y with
 | .int _,.lit (.int k a),.lit (.int k' b)=>if k=k' then fV op k a b else none
 | .bool,.lit (.bool a),.lit (.bool b)=>xq op (a == b)
 | .str,.lit (.string a),.lit (.string b)=>kr op a b
 | .slice _,.lit (.slice none _ _),.lit (.slice none _ _)=>xq op true
 | .slice _,.sl _ _ _,.lit (.slice none _ _)=>xq op false
 | _,_,_=>none
def pun (op:UnOp) (x:TV):Option TV :=
 match op,x with
 | .not,.lit (.bool b)=>some (.lit (.bool !b))
 | .neg,.lit (.int k n)=>some (.lit (.int k (k.wrap (0 - n))))
 | _,_=>none
def pconv (kd:Kd) (x:TV):Option TV :=
 match kd,x with
 | .int k,.lit (.int _ n)=>some (.lit (.int k (k.wrap n)))
 | .str,.lit (.string s)=>some (.lit (.string s))
 | .str,.lit (.int _ n)=>some (.lit (.string (Utf8.encode n)))
 | _,_=>none
def plen (kd:Kd) (x:TV):Option TV :=
 match kd,x with
 | .slice _,.lit (.slice none 0 _)=>some (.lit (.int .i64 0))
 | .str,.lit (.string s)=>some (.lit (.int .i64 s.size))
 | .slice _,.sl _ _ xs=>some (.lit (.int .i64 xs.length))
 | _,_=>none
def pidx (size:Nat) (x i:TV):Option (List TV) :=
 match x,i with
 | .sl _ s xs,.lit (.int _ n)=>if s=size/\0<=n then xs[n.toNat]? else none
 | _,_=>none
def pslice (kd:Kd) (sz:Nat) (x:TV) (lo hi:Option Nat):Option TV :=
 match kd,x with
 | .slice _,.sl o s xs =>
  if s=sz/\lo.getD 0<=hi.getD xs.length/\hi.getD xs.length<=xs.length then some (.sl o s ((xs.drop (lo.getD 0)).take (hi.getD xs.length - lo.getD 0))) else none
 | .slice _,.lit (.slice none 0 0)=>if lo.getD 0=0/\hi.getD 0=0 then some (.lit af) else none
 | .str,.lit (.string s) =>
  if lo.getD 0<=hi.getD s.size/\hi.getD s.size<=s.size then some (.lit (.string (s.extract (lo.getD 0) (hi.getD s.size)))) else none
 | _,_=>none
def pstr (x i:TV):Option TV :=
 match x,i with
 | .lit (.string s),.lit (.int _ n)=>if 0<=n then (s[n.toNat]?).map fun b=>.lit (.int .u8 b.toNat) else none
 | _,_=>none
def pelems (size:Nat):TV->Option (List (List TV))
 | .lit (.slice none 0 _)=>some []
 | .sl _ s xs=>if s=size then some xs else none
 | _=>none
inductive Prg (R:Type) where
 | fail
 | ret (r:R)
 | tv (p:Option TV) (k:TV->Prg R)
 | tvs (p:Option (List TV)) (k:List TV->Prg R)
 | rws (p:Option (List (List TV))) (k:List (List TV)->Prg R)
 | nat (p:Option Nat) (k:Nat->Prg R)
 | chk (b:Bool) (k:Prg R)
 | ite (b:Option Bool) (t e:Prg R)
 | call (f:FuncId) (xs:List TV) (k:TV->Prg R)
 | jmp (p:List Nat) (st:ASt)
def Prg.bind {R S:Type} (f:R->Prg S):Prg R->Prg S
 | .fail=>.fail
 | .ret r=>f r
 | .tv p k=>.tv p fun v=>(k v).bind f
 | .tvs p k=>.tvs p fun v=>(k v).bind f
 | .rws p k=>.rws p fun v=>(k v).bind f
 | .nat p k=>.nat p fun v=>(k v).bind f
 | .chk b k=>.chk b (k.bind f)
 | .ite b t e=>.ite b (t.bind f) (e.bind f)
 | .call g xs k=>.call g xs fun v=>(k v).bind f
 | .jmp _ _=>.fail
def Prg.run {R:Type} (C:FuncId->List TV->Option TV) (J:List Nat->ASt->Option R):Prg R->Option R
 | .fail=>none
 | .ret r=>some r
 | .tv p k=>p.bind fun v=>(k v).run C J
 | .tvs p k=>p.bind fun v=>(k v).run C J
 | .rws p k=>p.bind fun v=>(k v).run C J
 | .nat p k=>p.bind fun v=>(k v).run C J
 | .chk b k=>bif b then k.run C J else none
 | .ite b t e=>b.bind fun b=>bif b then t.run C J else e.run C J
 | .call f xs k=>(C f xs).bind fun v=>(k v).run C J
 | .jmp p st=>J p st
inductive Prim where
 | drop (i r:Nat) (js:List Nat) (strict:Bool)
 | root (i r:Nat) (x:TV)
 | frz (i r:Nat)
 | unmay (i:Nat)
 | newB (b:BC)
 | setB (i:Nat) (cs:List CA)
inductive Eff where
 | val (v:AV)
 | new (b:BC) (v:AV)
 | upd (i:Nat) (b:BC) (v:AV)
 | gen (ps:List Prim) (v:AV)
abbrev Out:=Prg Eff
def ASt.ev (st:ASt):Operand->AV
 | .tmp t=>nth (.one .junk) st.slots t
 | .const (.bool b)=>.bl b
 | .const v=>bif v.oneCell' then .one (.t (.lit v)) else .tv (.lit v)
 | .global g=>.tv (.lit (.pointer (some ⟨g,0,none⟩)))
 | .func f=>.tv (.lit (.func (.func f) #[] #[]))
def AV.tv? : AV->Option TV
 | .one (.t x)=>some x
 | .tv x=>some x
 | .bl b=>some (.lit (.bool b))
 | _=>none
abbrev Look:=Nat->Option BC
def CA.kept:CA->Bool
 | .undef=>false
 | .junk=>false
 | _=>true
def AV.aS {R:Type} (agg:Bool) (n:Nat) (v:AV) (k:List CA->Prg R):Prg R :=
 match agg,v with
 | false,.one c=>bif c.kept then k [c] else .fail
 | false,.tv x=>.chk x.fS (k [.t x])
 | false,.bl b=>k [.t (.lit (.bool b))]
 | false,.clo f [.ptr i 0]=>k [.fn1 f i]
 | true,.agg cs=>bif cs.length.beq n then k cs else .fail
 | true,.tv x=>.chk (x.isAgg n) (k ((List.range n).map fun j=>.t (x.cell j)))
 | _,_=>.fail
def jj {R:Type}:List AV->(List CA->Prg R)->Prg R
 | [],k=>k []
 | v :: l,k=>v.aS false 1 fun cs=>jj l fun cs'=>k (cs ++ cs')
def ck (agg:Bool):List CA->Option AV
 | []=>bif agg then some (.agg []) else none
 | c :: cs=>bif agg then some (.agg (c :: cs)) else (match cs with | []=>some (.one c) | _=>none)
def pE {R:Type} (p:Way) (x:TV) (k:TV->Prg R):Prg R :=
 match p with
 | []=>k x
 | _=>.tv (dC p x) k
def setO {R:Type} (p:Way) (x y:TV) (k:TV->Prg R):Prg R :=
 match p with
 | []=>k y
 | _=>.tv (lj p x y) k
def bL (look:Look) (i r:Nat):Option TV :=
 match look i with
 | some (.tree xs)=>bif r.blt xs.length then some (nth .hole xs r) else none
 | _=>none
def gK {R:Type} (look:Look) (c:CA) (k:TV->Prg R):Prg R :=
 match c with
 | .t x=>k x
 | .sref i r p=>match bL look i r with
  | some x=>pE p x k
  | none=>.fail
 | .swin i r p lo len=>match bL look i r with
  | some x=>pE p x fun y=>.tv (fX lo len y) k
  | none=>.fail
 | _=>.fail
def rh {R:Type} (look:Look) (v:AV) (k:TV->Prg R):Prg R :=
 match v with
 | .one c=>gK look c k
 | .tv x=>k x
 | .bl b=>k (.lit (.bool b))
 | _=>.fail
def rE {R:Type} (look:Look) (c:CA) (k:TV->Prg R):Prg R :=
 match c with
 | .t x=>k x
 | .sref i r p=>gK look (.sref i r p) fun x=>k (frz x)
 | .swin i r p lo len=>gK look (.swin i r p lo len) fun x=>k (frz x)
 | _=>.fail
def yh {R:Type} (look:Look):List CA->(List TV->Prg R)->Prg R
 | [],k=>k []
 | c :: l,k=>rE look c fun x=>yh look l fun xs=>k (x :: xs)
def qW {R:Type} (look:Look) (v:AV) (k:TV->Prg R):Prg R :=
 match v with
 | .one c=>rE look c k
 | .tv x=>k x
 | .agg cs=>yh look cs fun xs=>k (.agg xs)
 | .tups _=>.fail
 | .clo _ _=>.fail
 | .bl b=>k (.lit (.bool b))
def lends {R:Type} (look:Look):List AV->(List TV->Prg R)->Prg R
 | [],k=>k []
 | v :: l,k=>qW look v fun x=>lends look l fun xs=>k (x :: xs)
def rU {R:Type} (look:Look) (c:CA) (k:TV->List (Nat × Nat)->Prg R):Prg R :=
 match c with
 | .t x=>k x []
 | .sref i r p => match bL look i r with
  | some x=>(match p with
   | []=>k (frz x) [(i,r)]
   | _=>.tv (dC p x) fun y=>.chk y.iz (k y []))
  | none=>.fail
 | .swin i r p lo len => match bL look i r with
  | some x=>(match p with
   | []=>.tv (fX lo len x) fun y=>k (frz y) [(i,r)]
   | _=>.tv (dC p x) fun z=>.tv (fX lo len z) fun y=>.chk y.iz (k y []))
  | none=>.fail
 | _=>.fail
def yT {R:Type} (look:Look):List CA->(List TV->List (Nat × Nat)->Prg R)->Prg R
 | [],k=>k [] []
 | c :: l,k=>rU look c fun x r=>yT look l fun xs rs=>k (x :: xs) (r ++ rs)
def qC {R:Type} (look:Look) (v:AV) (k:TV->List (Nat × Nat)->Prg R):Prg R :=
 match v with
 | .one c=>rU look c k
 | .tv x=>k x []
 | .agg cs=>yT look cs fun xs rs=>k (.agg xs) rs
 | .tups _=>.fail
 | .clo _ _=>.fail
 | .bl b=>k (.lit (.bool b)) []
def hands {R:Type} (look:Look):List AV->(List TV->List (Nat × Nat)->Prg R)->Prg R
 | [],k=>k [] []
 | v :: l,k=>qC look v fun x r=>hands look l fun xs rs=>k (x :: xs) (r ++ rs)
def t8:List (Nat × Nat)->List Prim
 | []=>[]
 | (i,r) :: l=>.frz i r :: t8 l
inductive Fl where
 | sc | sl | may | bf (e:Nat) | any
structure dn where
 ty:TypeId
 fl:List Fl
structure Env where
 T:Tab
 pure:FuncId->Bool
 rts:FuncId->List TypeId
 lent:FuncId->Option dn
 selfT:TypeId->Bool
 peek:FuncId->Option (Nat × Nat)
 turn:FuncId->Bool
 eye:FuncId->Bool
 cold:TypeId->Bool
def CA.add:CA->Nat->Option CA
 | .ptr i off,n=>some (.ptr i (off + n))
 | .ref x off,n=>some (.ref x (off + n))
 | .tptr i r p k j,n=>some (.tptr i r p k (j + n))
 | _,_=>none
def bK {R:Type} (at_:Nat->Option (Nat × Bool × Nat)):List Nat->List AV->List CA->(List CA->Prg R)->Prg R
 | [],[],cs,k=>k cs
 | i :: is,x :: rest,cs,k=>match at_ i with
  | some (off,agg,n)=>x.aS agg n fun ps=>bif (off + ps.length).ble cs.length && ps.length.beq n then bK at_ is rest (bF cs off ps) k else .fail
  | none=>.fail
 | _,_,_,_=>.fail
def places (T:Tab) (d:TyD) (i:Nat):Option (Nat × Bool × Nat) :=
 match d.kd with
 | .struct => match d.fields[i]? with
  | some (off,ty)=>match T ty with
   | some e=>some (off,e.kd.isAgg,e.size)
   | none=>none
  | none=>none
 | .arr _ e=>match T e with
  | some e=>some (i * e.size,e.kd.isAgg,e.size)
  | none=>none
 | _=>none
def chunks {α:Type} (size:Nat):Nat->List α->List (List α)
 | 0,_=>[]
 | n + 1,l=>l.take size :: chunks size n (l.drop size)
def vt (x:TV):Out:=.ret (.val (.one (.t x)))
def jA:TV->Bool
 | .lit (.slice none 0 0)=>true
 | _=>false
def bg:Way->List Nat
 | []=>[]
 | (_,j) :: p=>j :: bg p
def fH:List Value->Bool
 | []=>false
 | z :: l=>bif aG z then true else fH l
def b9 {R:Type} (look:Look):List CA->(List TV->List Prim->List (Nat × Nat)->Prg R)->Prg R
 | [],k=>k [] [] []
 | .t x :: l,k=>b9 look l fun xs ps ts=>k (x :: xs) ps ts
 | .sref i r p :: l, k => match bL look i r with
  | some x=>(match p with
   | []=>b9 look l fun xs ps ts=>k (x :: xs) (.drop i r [] false :: .root i r .hole :: ps) ((i,r) :: ts)
   | _=>.tv (dC p x) fun y=>.chk y.iz (b9 look l fun xs ps ts=>k (y :: xs) ps ts))
  | none=>.fail
 | .swin i r p lo len :: l, k => match bL look i r with
  | some x=>(match p with
   | []=>.tv (fX lo len x) fun y=>b9 look l fun xs ps ts=>k (y :: xs) (.drop i r [] false :: .root i r .hole :: ps) ((i,r) :: ts)
   | _=>.tv (dC p x) fun z=>.tv (fX lo len z) fun y=>.chk y.iz (b9 look l fun xs ps ts=>k (y :: xs) ps ts))
  | none=>.fail
 | _,_=>.fail
def frB (y:TV):Option Bool:=some y.iz
def bJ {R:Type} (look:Look):List CA->(List TV->List Prim->List (Nat × Nat)->Prg R)->Prg R
 | [],k=>k [] [] []
 | .t x :: l,k=>bJ look l fun xs ps ts=>k (x :: xs) ps ts
 | .sref i r p :: l, k => match bL look i r with
  | some x=>(match p with
   | []=>bJ look l fun xs ps ts=>k (x :: xs) (.drop i r [] false :: .root i r .hole :: ps) ((i,r) :: ts)
   | _ => .tv (dC p x) fun y => .ite (frB y) (bJ look l fun xs ps ts => k (y :: xs) ps ts)
     (.tv (lj p x .hole) fun x'=>bJ look l fun xs ps ts=>k (y :: xs) (.drop i r (bg p) false :: .root i r x' :: ps) ((i,r) :: ts)))
  | none=>.fail
 | .swin i r p lo len :: l, k => match bL look i r with
  | some x=>(match p with
   | []=>.tv (fX lo len x) fun y=>bJ look l fun xs ps ts=>k (y :: xs) (.drop i r [] false :: .root i r .hole :: ps) ((i,r) :: ts)
   | _=>.tv (dC p x) fun z=>.tv (fX lo len z) fun y=>.chk y.iz (bJ look l fun xs ps ts=>k (y :: xs) ps ts))
  | none=>.fail
 | _,_=>.fail
def fI (i r:Nat):List (Nat × Nat)->Bool
 | []=>false
 | (a,b) :: l=>bif a.beq i && b.beq r then true else fI i r l
def cu:List (Nat × Nat)->Bool
 | []=>true
 | (a,b) :: l=>!fI a b l && cu l
def wO (i:Nat):List (Nat × Nat)->Bool
 | []=>true
 | (a,_) :: l=>bif a.beq i then false else wO i l
def nE (i:Nat):Option Nat->Bool
 | some j=>i.beq j
 | none=>false
def vZ {R : Type} (look : Look) (d : TyD) (dest : Option Nat) (x : AV) (k : List (List TV) → List Prim → Prg R) : Prg R :=
 match x.tv? with
 | some x=>.rws (pelems d.size x) fun xs=>k xs []
 | none => match x with
  | .one c => bif fH d.zero then
    (match c with
    | .sref i r p => match bL look i r with
     | some x=>(match p with
      | []=>bif nE i dest then .fail else .rws (pelems d.size x) fun xs=>k xs [.drop i r [] false,.root i r .hole]
      | _=>.tv (dC p x) fun y=>.chk y.iz (.rws (pelems d.size y) fun xs=>k xs []))
     | none=>.fail
    | .swin i r p lo len => match bL look i r with
     | some x=>(match p with
      | []=>bif nE i dest then .fail else .tv (fX lo len x) fun y=>.rws (pelems d.size y) fun xs=>k xs [.drop i r [] false,.root i r .hole]
      | _=>.tv (dC p x) fun z=>.tv (fX lo len z) fun y=>.chk y.iz (.rws (pelems d.size y) fun xs=>k xs []))
     | none=>.fail
    | _=>.fail)
   else gK look c fun s=>.rws (pelems d.size s) fun xs=>k (iU xs) []
  | _=>.fail
def vf (look:Look) (kd:Kd) (x:AV):Out :=
 match kd with
 | .arr n _=>vt (.lit (.int .i64 n))
 | .slice e=>(match x with
  | .one (.psl _ n)=>vt (.lit (.int .i64 n))
  | x=>rh look x fun s=>.tv (plen (.slice e) s) vt)
 | kd=>rh look x fun s=>.tv (plen kd s) vt
def ci (ps:List Prim) (b:BC) (v:AV):Eff:=match ps with | []=>.new b v | _=>.gen (ps ++ [.newB b]) v
def rq:AV->Option Nat
 | .one (.sref i _ _)=>some i
 | .one (.swin i _ _ _ _)=>some i
 | _=>none
def nl (id : Nat) (look : Look) (d : TyD) (s : AV) (news : List (List TV)) (ps : List Prim) : Out :=
 match s.tv? with
 | some s=>bif jA s then .tv (papp d.size s news) fun y=>.ret (ci ps (.tree [y]) (.one (.sref id 0 []))) else .fail
 | none => match s with
  | .one (.sref i r p) => match bL look i r with
   | some x=>(match p with
    | []=>.tv (papp d.size x news) fun y=>.ret (.gen (ps ++ [.drop i r [] false,.root i r y]) (.one (.sref i r [])))
    | _=>.tv (dC p x) fun z=>.tv (papp d.size z news) fun y=>.tv (lj p x .hole) fun x'=>.ret (.gen (ps ++ [.drop i r (bg p) false,.root i r x',.newB (.tree [y])]) (.one (.sref id 0 []))))
   | none=>.fail
  | .one (.swin i r p lo len) => match bL look i r with
   | some x=>(match p with
    | []=>.tv (fX lo len x) fun z=>.tv (papp d.size z news) fun y=>.ret (.gen (ps ++ [.drop i r [] false,.root i r y]) (.one (.sref i r [])))
    | _=>.tv (dC p x) fun z0=>.tv (fX lo len z0) fun z=>.tv (papp d.size z news) fun y=>.tv (lj p x .hole) fun x'=>.ret (.gen (ps ++ [.drop i r (bg p) false,.root i r x',.newB (.tree [y])]) (.one (.sref id 0 []))))
   | none=>.fail
  | _=>.fail
def mP (id:Nat) (look:Look) (d:TyD) (s x:AV):Out :=
 bif d.bytes.ble 4096 && Nat.blt 0 d.size then vZ look d (rq s) x fun news ps=>nl id look d s news ps else .fail
def yS (look : Look) (d : TyD) (s x : AV) : Out :=
 vZ look d (rq s) x fun news ps =>
 match s with
 | .one (.sref i r p)=>match bL look i r with
  | some x => pE p x fun z => .tv (pcopy d.size z news) fun y => setO p x y fun x' => .nat (slLen z) fun n =>
    .ret (.gen (ps ++ [.drop i r (bg p) true,.root i r x']) (.one (.t (.lit (.int .i64 (Nat.min news.length n))))))
  | none=>.fail
 | _=>.fail
def iw (T:Tab) (t:TypeId):Option (TypeId × TyD) :=
 match T t with
 | some ⟨_,_,.slice e,_,_⟩=>match T e with
  | some d=>some (e,d)
  | none=>none
 | _=>none
def pmin (mx:Bool) (x y:TV):Option TV :=
 match x,y with
 | .lit (.int k a),.lit (.int _ b)=>some (.lit (.int k (bif mx then (if b > a then b else a) else (if b < a then b else a))))
 | _,_=>none
def wz (mx:Bool) (x y:AV):Out :=
 match x.tv?,y.tv? with
 | some x,some y=>.tv (pmin mx x y) vt
 | _,_=>.fail
def dm (E:Env) (id:Nat) (look:Look) (b:Builtin) (tys:List TypeId) (args:List AV):Out :=
 match b,args,tys with
 | .len,[x],[ty]=>match E.T ty with
  | some d=>vf look d.kd x
  | none=>.fail
 | .append, [s, x], [ty, ty'] => match iw E.T ty with
  | some (_,d)=>bif ty.beq ty' then mP id look d s x else (match E.T ty' with
   | some ⟨_,_,.str,_,_⟩=>.fail
   | _=>.fail)
  | none=>.fail
 | .copy,[s,x],[ty,ty']=>match iw E.T ty with
  | some (_,d)=>bif ty.beq ty' then yS look d s x else .fail
  | none=>.fail
 | .clear,[s],[ty]=>match iw E.T ty with
  | some (_,d)=>.fail
  | none=>.fail
 | .min,[x,y],_=>wz false x y
 | .max,[x,y],_=>wz true x y
 | _,_,_=>.fail
def ek:List CA->Option (List TV)
 | []=>some []
 | .t x :: l=>match ek l with
  | some r=>some (x :: r)
  | none=>none
 | _=>none
def eB {R:Type} (v:Option AV) (k:Option Nat->Prg R):Prg R :=
 match v with
 | none=>k none
 | some v=>match v.tv? with
  | some x=>.nat (al x) fun n=>k (some n)
  | none=>.fail
def jp (d:TyD) (x:List TV) (off:Nat):Out :=
 bif d.kd.isAgg then .chk ((off + d.size).ble x.length) (.ret (.val (.agg ((List.range d.size).map fun j=>.t (nth .hole x (off + j))))))
 else .chk (off.blt x.length) (vt (nth .hole x off))
def fg (i r:Nat) (p:Way) (k:Nat) (e:List TV):List Value->Nat->List CA
 | [],_=>[]
 | z :: zs,j=>(bif aG z then .sref i r (p ++ [(k,j)]) else .t (nth .hole e j)) :: fg i r p k e zs (j + 1)
def pnth (n:Nat) (xs:List TV):Option TV:=xs[n]?
def CI (n j:Nat) (y x:TV):TV:=bif n.beq j then y else x
def ga (n:Nat) (y:TV):Nat->List TV->List CA
 | _,[]=>[]
 | j,x :: l=>.t (CI n j y x) :: ga n y (j + 1) l
def uk (look:Look) (i off len:Nat):Option (List CA × List TV) :=
 match look i with
 | some (.cells cs) => match jY cs off len with
  | some cs1=>match ek cs1 with
   | some xs=>some (cs,xs)
   | none=>none
  | none=>none
 | _=>none
def yk (look : Look) (d : TyD) (a : AV) : Out :=
 match a with
 | .one (.aptr i off len n)=>bif d.kd.isAgg then .fail else (match uk look i off len with
  | some (_,xs)=>.tv (pnth n xs) vt
  | none=>.fail)
 | .one (.ptr i off) => match look i with
  | some (.cells cs) => match jY cs off (bif d.kd.isAgg then d.size else 1) with
   | some cs=>match ck d.kd.isAgg cs with
    | some v=>.ret (.val v)
    | none=>.fail
   | none=>.fail
  | _=>.fail
 | .one (.ref x off)=>jp d x off
 | .one (.tptr i r p k j) => match bL look i r with
  | some x=>pE p x fun s=>.tvs (pel s k) fun e=>.chk (ab d.zero e j) (match ck d.kd.isAgg (fg i r p k e d.zero j) with
   | some v=>.ret (.val v)
   | none=>.fail)
  | none=>.fail
 | _=>.fail
def je (i r:Nat) (js:List Nat):List Value->Nat->List Prim
 | [],_=>[]
 | z :: zs,j=>bif aG z then .drop i r (js ++ [j]) false :: je i r js zs (j + 1) else je i r js zs (j + 1)
def bS (look:Look) (i r:Nat) (x:TV):Option BC :=
 match look i with
 | some (.tree xs)=>some (.tree (au xs r x))
 | _=>none
def uH (look : Look) (d : TyD) (a x : AV) : Out :=
 match a with
 | .one (.aptr i off len n) => bif d.kd.isAgg then .fail else (match uk look i off len with
  | some (cs,xs)=>x.aS false 1 fun ps=>(match ps with
   | [.t y]=>.ret (.upd i (.cells (bF cs off (ga n y 0 xs))) (.one .undef))
   | _=>.fail)
  | none=>.fail)
 | .one (.ptr i off)=>x.aS d.kd.isAgg d.size fun ps=>match look i with
  | some (.cells cs)=>bif (off + ps.length).ble cs.length && ps.length.beq d.size then .ret (.upd i (.cells (bF cs off ps)) (.one .undef)) else .fail
  | _=>.fail
 | .one (.tptr i r p k j) => x.aS d.kd.isAgg d.size fun ps => match bL look i r with
  | some x => bif !(Nat.blt 0 d.size) then .fail else bif fH d.zero then
    b9 look ps fun ys qs ts=>bif cu ts && wO i ts && ys.length.beq d.size then
     pE p x fun s=>.tvs (pel s k) fun e=>.chk (jJ d.zero e j && ab d.zero ys 0) (.tv (xH p x k j ys) fun x' =>
      .ret (.gen (qs ++ je i r (bg p) d.zero j ++ [.root i r x']) (.one .undef))) else .fail
   else b9 look ps fun ys qs _=>(match qs with
    | []=>bif ys.length.beq d.size then pE p x fun s=>.tvs (pel s k) fun e=>.chk (ab d.zero e j) (.tv (xH p x k j ys) fun x'=>(match bS look i r x' with
     | some b=>.ret (.upd i b (.one .undef))
     | none=>.fail)) else .fail
    | _=>.fail)
  | none=>.fail
 | _=>.fail
def Kd.za:Kd->Bool
 | .slice _=>true
 | _=>false
def CG (look:Look) (kd:Kd) (op:BinOp) (x y:AV):Out :=
 bif kd.za then rh look x fun x=>rh look y fun y=>.tv (pbin kd op x y) vt
 else match x.tv?,y.tv? with
 | some x,some y=>.tv (pbin kd op x y) vt
 | _,_=>.fail
def lX (k:IntKind):List TV->Option (List Int)
 | []=>some []
 | .lit (.int k' n) :: l=>if k=k' then (match lX k l with
  | some r=>some (n :: r)
  | none=>none) else none
 | _=>none
def peqL (k:IntKind) (op:BinOp) (xs ys:List TV):Option TV :=
 match lX k xs,lX k ys with
 | some a,some b=>xq op (a == b)
 | _,_=>none
def th:AV->Option Bool
 | .one (.ptr _ _)=>some true
 | .one (.ref _ _)=>some true
 | .one (.tptr _ _ _ _ _)=>some true
 | .one (.aptr _ _ _ _)=>some true
 | .one (.t (.lit (.pointer none)))=>some false
 | .tv (.lit (.pointer none))=>some false
 | _=>none
def C3 (op:BinOp) (x y:AV):Out :=
 match op,th x,th y with
 | .eql,some a,some false=>.ret (.val (.bl !a))
 | .neq,some a,some false=>.ret (.val (.bl a))
 | _,_,_=>.fail
def Dh (T:Tab) (look:Look) (kd:Kd) (op:BinOp) (x y:AV):Out :=
 match kd with
 | .arr len e => match T e with
  | some ⟨1,_,.int k,_,_⟩=>x.aS true len fun cs=>y.aS true len fun cs'=>(match ek cs,ek cs' with
   | some xs,some ys=>.tv (peqL k op xs ys) vt
   | _,_=>.fail)
  | _=>.fail
 | .ptr=>C3 op x y
 | kd=>CG look kd op x y
def gT (look : Look) (kd : Kd) (sz : Nat) (x : AV) (lo hi : Option AV) : Out :=
 match x.tv? with
 | some x=>eB lo fun lo=>eB hi fun hi=>.tv (pslice kd sz x lo hi) vt
 | none => match kd, x with
  | .slice _, .one (.sref i r p) => gK look (.sref i r p) fun s => .nat (slLen s) fun n => eB lo fun lo => eB hi fun hi =>
    .chk (slSize s sz && (lo.getD 0).ble (hi.getD n) && (hi.getD n).ble n) (.ret (.val (.one (.swin i r p (lo.getD 0) (hi.getD n - lo.getD 0)))))
  | .slice _, .one (.swin i r p lo0 n) => match lo with
   | none=>gK look (.sref i r p) fun s=>eB hi fun hi=>.chk (slSize s sz && (hi.getD n).ble n) (.ret (.val (.one (.swin i r p lo0 (hi.getD n)))))
   | some _=>gK look (.sref i r p) fun s=>eB lo fun lo=>eB hi fun hi =>
    .chk (lo0.beq 0 && slSize s sz && (lo.getD 0).ble (hi.getD n) && (hi.getD n).ble n) (.ret (.val (.one (.swin i r p (lo.getD 0) (hi.getD n - lo.getD 0)))))
  | _,_=>.fail
def yu (b k:Nat):Nat->Out
 | 0=>.fail
 | m + 1=>.ite (some (k.beq m)) (.ret (.val (.one (.ptr b m)))) (yu b k m)
def oa (look:Look) (d:TyD) (x i:AV):Out :=
 match i.tv? with
 | some i => match x.tv? with
  | some x=>.tvs (pidx d.size x i) fun el=>.ret (.val (.one (.ref el 0)))
  | none=>match x with
   | .one (.sref b r p)=>gK look (.sref b r p) fun s=>.nat (slLen s) fun n=>.nat (al i) fun k=>.chk (slSize s d.size && k.blt n) (.ret (.val (.one (.tptr b r p k 0))))
   | .one (.swin b r p lo n)=>gK look (.sref b r p) fun s=>.nat (al i) fun k=>.chk (slSize s d.size && k.blt n) (.ret (.val (.one (.tptr b r p (lo + k) 0))))
   | .one (.psl b n)=>bif d.size.beq 1 then .nat (al i) fun k=>yu b k n else .fail
   | _=>.fail
 | none=>.fail
def pK (T:Tab) (t:TypeId) (x i:AV):Out :=
 match T t with
 | some ⟨_,_,.arr len e,_,_⟩=>match T e,x,i.tv? with
  | some d,.one (.ptr b off),some i=>bif !d.kd.isAgg && d.size.beq 1 then .nat (al i) fun k=>.chk (k.blt len) (.ret (.val (.one (.aptr b off len k)))) else .fail
  | _,_,_=>.fail
 | _=>.fail
def pX (T:Tab) (t:TypeId) (x i:AV):Out :=
 match T t with
 | some ⟨_, _, .arr len e, _, _⟩ => match T e, x, i.tv? with
  | some d,.agg cs,some i=>bif !d.kd.isAgg && d.size.beq 1 then (match ek cs with
   | some xs=>.nat (al i) fun k=>.chk (k.blt len) (.tv (pnth k xs) vt)
   | none=>.fail) else .fail
  | _,_,_=>.fail
 | _=>.fail
def uz (d:TyD) (off:Nat) (agg:Bool) (n:Nat) (x:AV):Out :=
 match x with
 | .agg cs => match jY cs off (bif agg then n else 1) with
  | some cs=>match ck agg cs with
   | some v=>.ret (.val v)
   | none=>.fail
  | none=>.fail
 | .tv x => .chk (x.isAgg d.size && (off + n).ble d.size && Nat.blt 0 n)
   (.ret (.val (bif agg then .agg ((List.range n).map fun j=>.t (x.cell (off + j))) else .one (.t (x.cell off)))))
 | _=>.fail
def j5 (T:Tab):Kd->Bool
 | .struct=>true
 | .arr _ e=>(T e).isSome
 | _=>false
def pO (T:Tab):Kd->Option Nat
 | .slice e=>match T e with
  | some d=>some d.size
  | none=>none
 | _=>some 0
def TV.cellsL (agg:Bool) (x:TV):List TV:=match agg,x with
 | true,.agg cs=>cs
 | true,_=>[]
 | false,x=>[x]
def dg (id r0:Nat):List Value->TV->Bool->Nat->List CA
 | [],_,_,_=>[]
 | z :: zs,x,agg,j=>(bif aG z then .sref id (r0 + j) [] else .t (bif agg then x.cell j else x)) :: dg id r0 zs x agg (j + 1)
def cP:List Value->TV->Bool->Nat->List TV
 | [],_,_,_=>[]
 | z :: zs,x,agg,j=>(bif aG z then (bif agg then x.cell j else x) else .hole) :: cP zs x agg (j + 1)
def ip {R:Type} (d:TyD) (x:TV) (k:Prg R):Prg R :=
 bif d.kd.isAgg then .chk (x.isAgg d.size && ab d.zero (x.cellsL true) 0) k else .chk (ab d.zero (x.cellsL false) 0) k
def lz (T:Tab):List TypeId->Option (List TyD)
 | []=>some []
 | t :: l=>match T t,lz T l with
  | some d,some ds=>some (d :: ds)
  | _,_=>none
def eZ {R:Type} (x:TV):List TyD->Nat->Prg R->Prg R
 | [],_,k=>k
 | d :: l,j,k=>ip d (x.comp j) (eZ x l (j + 1) k)
def da (id:Nat) (x:TV):List TyD->Nat->Nat->List (Bool × List CA)
 | [],_,_=>[]
 | d :: l,j,r0=>(d.kd.isAgg,dg id r0 d.zero (x.comp j) d.kd.isAgg 0) :: da id x l (j + 1) (r0 + d.zero.length)
def bc (x:TV):List TyD->Nat->List TV
 | [],_=>[]
 | d :: l,j=>cP d.zero (x.comp j) d.kd.isAgg 0 ++ bc x l (j + 1)
def fK:List TyD->Bool
 | []=>false
 | d :: l=>bif fH d.zero then true else fK l
def ui (id:Nat) (ds:List TyD) (v:TV) (ps:List Prim):Out :=
 match ds with
 | [d]=>ip d v (match ck d.kd.isAgg (dg id 0 d.zero v d.kd.isAgg 0) with
  | some av=>bif fH d.zero then .ret (ci ps (.tree (cP d.zero v d.kd.isAgg 0)) av) else .ret (match ps with | []=>.val av | _=>.gen ps av)
  | none=>.fail)
 | ds => .chk (v.isTup ds.length) (eZ v ds 0 (bif fK ds then .ret (ci ps (.tree (bc v ds 0)) (.tups (da id v ds 0 0)))
   else .ret (match ps with | []=>.val (.tups (da id v ds 0 0)) | _=>.gen ps (.tups (da id v ds 0 0)))))
def TV.jZ (x:TV) (e:Nat):Bool:=match x with | .buf _ e'=>e'.beq e | _=>false
def TV.bq (x:TV):Bool:=match x with | .tup []=>true | _=>false
def lS:TV:=.tup []
def mI:List Fl->List TV->Bool
 | [],[]=>true
 | f :: fl,x :: xs=>(match f with | .sc=>x.isSc | .sl=>x.isSl | .may=>x.bq | .bf e=>x.jZ e | .any=>x.iz) && mI fl xs
 | _,_=>false
def eT (i t:Nat) (ty:TypeId):List Fl->List TV->Nat->List CA
 | f :: fl,x :: xs,r=>(match f with | .sc=>.t x | .sl=>.sref t r [] | .may=>.may i ty | .bf _=>.sref t r [] | .any=>.t x) :: eT i t ty fl xs (r + 1)
 | _,_,_=>[]
def cp:List Fl->List TV->List TV
 | f :: fl,x :: xs=>(match f with | .sl=>x | .bf _=>x | _=>.hole) :: cp fl xs
 | _,_=>[]
def jg (self:Bool) (id:Nat) (e:TypeId) (zs:List Value):List CA :=
 match self,zs with
 | true,.pointer none :: l=>.may id e :: l.map fun v=>.t (.lit v)
 | _,zs=>zs.map fun v=>.t (.lit v)
def CA.DQ:CA->CA
 | .may _ _=>.t .hole
 | c=>c
def unMays:List CA->List CA
 | []=>[]
 | c :: l=>c.DQ :: unMays l
def ma (i:Nat) (ty:TypeId):List Fl->List CA->Bool
 | [],[]=>true
 | f :: fl,c :: cs=>(match f,c with | .may,.may j t=>j.beq i && t.beq ty | .may,_=>false | _,.may _ _=>false | _,_=>true) && ma i ty fl cs
 | _,_=>false
def pj (e:Nat) (x:TV):TV:=bif jA x then .buf .empty e else x
def iy:List Fl->List TV->List TV
 | f :: fl,x :: xs=>(match f with | .may=>lS | .bf e=>pj e x | _=>x) :: iy fl xs
 | _,_=>[]
def junks:List CA->List CA
 | []=>[]
 | _ :: l=>.junk :: junks l
def eY (v:TV):Nat->Nat->List TV
 | 0,_=>[]
 | n + 1,j=>v.comp j :: eY v n (j + 1)
def A1 (id:Nat) (ds:List TyD) (v:TV) (k:AV->Out):Out :=
 match ds with
 | [d]=>ip d v (match ck d.kd.isAgg (dg id 0 d.zero v d.kd.isAgg 0) with | some av=>k av | none=>.fail)
 | ds=>.chk (v.isTup ds.length) (eZ v ds 0 (k (.tups (da id v ds 0 0))))
def nA (E : Env) (id : Nat) (look : Look) (f : FuncId) (ld : dn) (vs : List AV) : Out :=
 match vs with
 | .one (.ptr i 0) :: rest => match look i, lz E.T (E.rts f) with
  | some (.cells cs), some ds => bif fK ds || !ma i ld.ty ld.fl cs then .fail else
   hands look rest fun xs rs=>b9 look (unMays cs) fun ys qs ts=>bif cu (ts ++ rs) then
    .chk (mI ld.fl (iy ld.fl ys)) (.call f (.tup (iy ld.fl ys) :: xs) fun v=>.chk (v.isTup 2 && (v.comp 1).isTup ld.fl.length && mI ld.fl (eY (v.comp 1) ld.fl.length 0))
     (A1 id ds (v.comp 0) fun av => .ret (.gen (qs ++ (t8 rs ++ [.setB i (junks cs), .unmay i, .newB (.tree (cp ld.fl (eY (v.comp 1) ld.fl.length 0))),
      .setB i (eT i id ld.ty ld.fl (eY (v.comp 1) ld.fl.length 0) 0)])) av)))
   else .fail
  | _,_=>.fail
 | _=>.fail
def vi (look:Look) (f:FuncId) (c:Nat × Nat) (vs:List AV):Out:=.fail
def qV (look:Look) (f:FuncId) (vs:List AV):Out:=.fail
def pifc (t:TypeId) (x:TV):Option TV:=match x with | .lit v=>if scV v=true then some (.lit (.iface t v)) else none | _=>none
def pasrt (t:TypeId) (x:TV):Option TV:=match x with | .lit (.iface t' v)=>if t'=t/\scV v=true then some (.lit v) else none | _=>none
def Kd.jR:Kd->Bool
 | .bool=>true
 | .int _=>true
 | .str=>true
 | .ptr=>true
 | _=>false
def A7 (d:TyD) (t:TypeId) (x:AV):Out :=
 bif d.kd.jR then (match x with
 | .one (.ptr i 0)=>.ret (.val (.one (.ifp t i)))
 | x=>match x.tv? with
  | some x=>.tv (pifc t x) vt
  | none=>.fail) else .fail
def ta (d:TyD) (t:TypeId) (x:AV):Out :=
 bif d.kd.jR then (match x.tv? with
  | some x=>.tv (pasrt t x) vt
  | none=>.fail) else .fail
def lp (E:Env) (id:Nat) (look:Look) (f:FuncId) (vs:List AV):Out :=
 match E.peek f with
 | some c=>vi look f c vs
 | none=>match E.lent f with
 | some ld=>nA E id look f ld vs
 | none=>match lz E.T (E.rts f) with
 | some ds=>bif E.pure f || !fK ds then lends look vs fun xs=>.call f xs fun v=>ui id ds v []
  else hands look vs fun xs rs=>bif cu rs then .call f xs fun v=>ui id ds v (t8 rs) else .fail
 | none=>.fail
def Cn (E:Env) (id:Nat) (look:Look) (f:FuncId) (i:Nat) (vs:List AV):Out:=.fail
def yj (T:Tab) (look:Look) (ds d:TyD) (x:AV):Out :=
 match ds.kd,d.kd with
 | .slice e,.str=>.fail
 | _,kd=>match x.tv? with
  | some x=>.tv (pconv kd x) vt
  | none=>.fail
def Cr (E:Env) (t:TypeId) (len:Nat) (parts:Array (Nat × Operand)) (vs:List AV):Out:=.fail
def uA:List CA->Bool
 | []=>true
 | .ptr _ _ :: l=>uA l
 | _=>false
def gP (E : Env) (id : Nat) (look : Look) (t : TypeId) (len : Nat) (parts : Array (Nat × Operand)) (vs : List AV) : Out :=
 match iw E.T t with
  | some (_, d) =>
   bK (fun i=>some (i * d.size,d.kd.isAgg,d.size)) (parts.toList.map (·.1)) vs ((List.replicate len d.zero).flatten.map fun v=>.t (.lit v)) fun cs =>
    bif uA cs && (!(len.beq 0) && (d.size.beq 1 && len.ble 16777216)) then .ret (.new (.cells cs) (.one (.psl id len))) else
    bJ look cs fun ys qs ts=>bif cu ts && (len * d.size).ble 16777216 && ys.length.beq (len * d.size) && Nat.blt 0 d.size then
     .ret (ci qs (.tree [.sl true d.size (chunks d.size len ys)]) (.one (.sref id 0 []))) else .fail
  | none=>.fail
def opL (E : Env) (id : Nat) (look : Look) (op : Op) (vs : List AV) : Out :=
 match op,vs with
 | .move _,[x]=>.ret (.val x)
 | .assign _,[x]=>.ret (.val x)
 | .pick _ _ _,[c,a,b]=>match c with
  | .bl c=>.ret (.val (bif c then a else b))
  | .tv v=>.ite (asBool v) (.ret (.val a)) (.ret (.val b))
  | .one (.t v)=>.ite (asBool v) (.ret (.val a)) (.ret (.val b))
  | _=>.fail
 | .alloc e,[]=>match E.T e with
  | some d=>.ret (.new (.cells (jg (E.selfT e) id e d.zero)) (.one (.ptr id 0)))
  | none=>.fail
 | .box e _,[x]=>match E.T e with
  | some d=>x.aS d.kd.isAgg d.size fun cs=>.ret (.new (.cells cs) (.one (.ptr id 0)))
  | none=>.fail
 | .build t parts,vs=>match E.T t with
  | some d=>bif j5 E.T d.kd then bK (places E.T d) (parts.toList.map (·.1)) vs (d.zero.map fun v=>.t (.lit v)) fun cs=>.ret (.val (.agg cs)) else .fail
  | none=>.fail
 | .buildSlice t len parts,vs=>bif E.cold t && !(len.beq 0) then Cr E t len parts vs else gP E id look t len parts vs
 | .load t _,[a]=>match E.T t with
  | some d=>yk look d a
  | none=>.fail
 | .store t _ _,[a,x]=>match E.T t with
  | some d=>uH look d a x
  | none=>.fail
 | .nilCheck _,[x]=>match x with
  | .one (.ptr i off)=>.ret (.val (.one (.ptr i off)))
  | .one (.ref x off)=>.ret (.val (.one (.ref x off)))
  | .one (.tptr i r p k j)=>.ret (.val (.one (.tptr i r p k j)))
  | .one (.aptr i off len n)=>.ret (.val (.one (.aptr i off len n)))
  | _=>.fail
 | .binOp op xt _ _ _,[x,y]=>match E.T xt with
  | some d=>Dh E.T look d.kd op x y
  | none=>.fail
 | .unOp op _ _, [x] => match op, x with
  | .not,.bl b=>.ret (.val (.bl (!b)))
  | op,x=>match x.tv? with
   | some x=>.tv (pun op x) vt
   | none=>.fail
 | .convert sty dt _,[x]=>match E.T sty,E.T dt with
  | some ds,some d=>yj E.T look ds d x
  | _,_=>.fail
 | .makeSlice t _ _,[l,c]=>match iw E.T t,l.tv?,c.tv? with
  | some (_,d),some l,some c=>bif d.bytes.ble 4096 then .nat (al l) fun n=>.nat (al c) fun m=>.chk (n.ble m && m.ble room)
     (.ret (.new (.tree [.sl true d.size (List.replicate n (d.zero.map .lit))]) (.one (.sref id 0 [])))) else .fail
  | _,_,_=>.fail
 | .slice t _ lo hi none, x :: rest => match E.T t with
  | some d => match pO E.T d.kd with
   | some sz=>match lo,hi,rest with
    | none,none,[]=>gT look d.kd sz x none none
    | some _,none,[l]=>gT look d.kd sz x (some l) none
    | none,some _,[h]=>gT look d.kd sz x none (some h)
    | some _,some _,[l,h]=>gT look d.kd sz x (some l) (some h)
    | _,_,_=>.fail
   | none=>.fail
  | none=>.fail
 | .fieldAddr s _ f, [x] => match E.T s, x with
  | some d,.one c=>match d.kd,places E.T d f with
   | .struct,some (off,_,n)=>bif Nat.blt 0 n then (match c.add off with | some c=>.ret (.val (.one c)) | none=>.fail) else .fail
   | _,_=>.fail
  | _,_=>.fail
 | .field s _ f, [x] => match E.T s with
  | some d=>match d.kd,places E.T d f with
   | .struct,some (off,agg,n)=>uz d off agg n x
   | _,_=>.fail
  | none=>.fail
 | .indexAddr t _ _,[x,i]=>match iw E.T t with
  | some (_,d)=>oa look d x i
  | none=>pK E.T t x i
 | .index t _ _,[x,i]=>match E.T t,x.tv?,i.tv? with
  | some ⟨_,_,.str,_,_⟩,some x,some i=>.tv (pstr x i) vt
  | _,_,_=>pX E.T t x i
 | .extract _ j, [x] => match x with
  | .tups cs => match cs[j]? with
   | some (agg,c)=>match ck agg c with
    | some v=>.ret (.val v)
    | none=>.fail
   | none=>.fail
  | _=>.fail
 | .makeFunc (.func f) first _,vs=>bif first.size.beq 0 then jj vs fun cs=>.ret (.val (.clo f cs)) else .fail
 | .call ⟨.builtin b,_,tys⟩,vs=>dm E id look b tys.toList vs
 | .makeInterface t _,[x]=>match E.T t with
  | some d=>A7 d t x
  | none=>.fail
 | .typeAssert _ _ t false,[x]=>match E.T t with
  | some d=>ta d t x
  | none=>.fail
 | .call ⟨.value (.func f),_,_⟩,_ :: vs=>bif E.turn f then qV look f vs else bif E.eye f then .fail else lp E id look f vs
 | .call ⟨.value (.tmp _), _, _⟩, fv :: vs => match fv.tv? with
  | some x=>.nat (fnOf x) fun f=>.chk ((E.lent f).isNone && (E.peek f).isNone && !(E.turn f || E.eye f)) (lends look vs fun xs=>.call f xs fun v=>.chk v.isSc (vt v))
  | none=>match fv with
   | .one (.fn1 f i)=>Cn E id look f i vs
   | _=>.fail
 | _,_=>.fail
def cL:Nat:=24
def ASt.nid (st:ASt) (d:Option Tmp):Nat:=match d with | some d=>cL + st.out.length + d | none=>0
def ASt.put (st:ASt) (d:Option Tmp) (v:AV):ASt :=
 match d with
 | some d=>⟨au st.slots d v,st.boxes,st.out⟩
 | none=>st
def ASt.look (st:ASt):Look:=fun i=>nth none st.boxes i
def ASt.ac (st:ASt) (i:Nat) (b:Option BC):ASt:=⟨st.slots,au st.boxes i b,st.out⟩
def leads:Bool->List Nat->Way->Bool
 | strict,[],p=>match p with | []=>!strict | _=>true
 | _,_ :: _,[]=>false
 | strict,a :: l,(_,j) :: p=>a.beq j && leads strict l p
def dJ (i r:Nat) (js:List Nat) (strict:Bool) (i' r':Nat) (p:Way):Bool:=i.beq i' && r.beq r' && leads strict js p
def CA.drop (i r:Nat) (js:List Nat) (strict:Bool) (c:CA):CA :=
 match c with
 | .tptr i' r' p _ _=>bif dJ i r js strict i' r' p then .junk else c
 | .sref i' r' p=>bif dJ i r js strict i' r' p then .junk else c
 | .swin i' r' p _ _=>bif dJ i r js strict i' r' p then .junk else c
 | c=>c
def mapC (f:CA->CA):List CA->List CA
 | []=>[]
 | c :: l=>f c :: mapC f l
def jz (f:CA->CA):List (Bool × List CA)->List (Bool × List CA)
 | []=>[]
 | (b,cs) :: l=>(b,mapC f cs) :: jz f l
def AV.bG (f:CA->CA):AV->AV
 | .one c=>.one (f c)
 | .agg cs=>.agg (mapC f cs)
 | .tups cs=>.tups (jz f cs)
 | .tv x=>.tv x
 | .bl b=>.bl b
 | .clo n cs=>.clo n (mapC f cs)
def b8 (f:CA->CA):List AV->List AV
 | []=>[]
 | v :: l=>v.bG f :: b8 f l
def BC.be (f:CA->CA):BC->BC
 | .cells cs=>.cells (mapC f cs)
 | b=>b
def dM (f:CA->CA):List (Option BC)->List (Option BC)
 | []=>[]
 | some b :: l=>some (b.be f) :: dM f l
 | none :: l=>none :: dM f l
def ASt.aq (f:CA->CA) (st:ASt):ASt:=⟨b8 f st.slots,dM f st.boxes,b8 f st.out⟩
def CA.unM (i:Nat):CA->CA
 | .may j ty=>bif j.beq i then .junk else .may j ty
 | c=>c
def ASt.bi (st:ASt) (i:Nat) (b:BC):Option ASt :=
 match st.look i with
 | some _=>none
 | none=>bif i.blt st.boxes.length then some (st.ac i (some b)) else none
def Prim.app (st:ASt) (d:Option Tmp):Prim->Option ASt
 | .drop i r js strict=>some (st.aq (CA.drop i r js strict))
 | .root i r x=>match bS st.look i r x with
  | some b=>some (st.ac i (some b))
  | none=>none
 | .frz i r => match bL st.look i r with
  | some x=>match bS st.look i r (Ab.frz x) with
   | some b=>some (st.ac i (some b))
   | none=>none
  | none=>none
 | .unmay i=>some (st.aq (CA.unM i))
 | .newB b=>match d with
  | some d=>st.bi (st.nid (some d)) b
  | none=>none
 | .setB i cs=>match st.look i with
  | some (.cells _)=>some (st.ac i (some (.cells cs)))
  | _=>none
def ae (d:Option Tmp):List Prim->ASt->Option ASt
 | [],st=>some st
 | p :: l,st=>match p.app st d with
  | some st=>ae d l st
  | none=>none
def Eff.app (st:ASt) (d:Option Tmp):Eff->Option ASt
 | .val v=>some (st.put d v)
 | .new b v => match d with
  | none=>none
  | some d=>match st.bi (st.nid (some d)) b with
   | some st=>some (st.put (some d) v)
   | none=>none
 | .upd i b v=>some ((st.ac i (some b)).put d v)
 | .gen ps v=>match ae d ps st with
  | some st=>some (st.put d v)
  | none=>none
def banned (ban:List Nat) (look:Look):Look:=fun i=>bif bD i ban then none else look i
inductive Cls where
 | N | R | A | B | W | P | X
def ap:Op->Cls
 | .move _ | .assign _ | .pick _ _ _ | .build _ _ | .nilCheck _ | .unOp _ _ _ | .fieldAddr _ _ _ | .field _ _ _ | .index _ _ _ | .extract _ _ | .makeFunc _ _ _ | .makeInterface _ _ | .typeAssert _ _ _ _=>.N
 | .load _ _ | .binOp _ _ _ _ _ | .slice _ _ _ _ _ | .indexAddr _ _ _ | .convert _ _ _=>.R
 | .alloc _ | .box _ _ | .makeSlice _ _ _=>.A
 | .call ⟨.builtin .len,_,_⟩=>.R
 | .call ⟨.builtin .min,_,_⟩=>.R
 | .call ⟨.builtin .max,_,_⟩=>.R
 | .call ⟨.value (.func _),_,_⟩=>.B
 | .call ⟨.value (.tmp _),_,_⟩=>.B
 | .buildSlice _ _ _=>.B
 | .store _ _ _=>.W
 | .call ⟨.builtin .append,_,_⟩=>.P
 | _=>.X
def Cls.isX:Cls->Bool
 | .X=>true
 | _=>false
def Cls.makes:Cls->Bool
 | .A=>true
 | .B=>true
 | .P=>true
 | _=>false
def Cls.reads:Cls->Bool
 | .R=>true
 | .B=>true
 | .W=>true
 | .P=>true
 | _=>false
def jo:Cls->Cls->Bool
 | .X,_=>false
 | _,.X=>false
 | .P,.P=>false
 | .P,.W=>false
 | .W,.P=>false
 | _,_=>true
def eQ:List Operand->List Nat
 | []=>[]
 | .tmp t :: l=>t :: eQ l
 | _ :: l=>eQ l
def nD (ops:List Oper) (o:Oper):List Nat :=
 match o.guard with
 | some (j,_)=>(match (ops[j]?).bind (·.dst) with | some g=>[g] | none=>[])
 | none=>[]
def looks (ops:List Oper) (o:Oper):List Nat:=nD ops o ++ eQ o.op.operands.toList
def eW (d:Option Nat) (l:List Nat):Bool :=
 match d with
 | some d=>!bD d l
 | none=>true
def aB (o:Op):Option Nat:=match ap o,o.operands.toList with
 | .P,.tmp s :: _=>some s
 | _,_=>none
def Eff.plain:Eff->Bool
 | .val _=>true
 | .new _ _=>true
 | .upd _ _ _=>true
 | _=>false
structure Item where
 o:Oper
 ban:List Nat × List Nat
 dr:Bool
 own:List (List Nat × List Nat)
 push:List Nat
 root:Nat
 loose:Bool
 shut:Bool
 lds:List (List Nat × List Nat)
 dull:List Nat
 dull2:List Nat
def bj (b:List Nat × List Nat) (base:Nat):List Nat:=b.1.map (base + ·) ++ b.2.map (· / 2)
def Eff.pt (base:Nat) (own:List (List Nat × List Nat)):Eff->Bool
 | .upd i _ _=>own.all fun l=>bD i (bj l base)
 | _=>true
def ASt.base (st:ASt):Nat:=cL + st.out.length
def sF:CA->List Nat
 | .ptr i _=>[i]
 | .tptr i _ _ _ _=>[i]
 | .sref i _ _=>[i]
 | .swin i _ _ _ _=>[i]
 | .may i _=>[i]
 | .aptr i _ _ _=>[i]
 | .ifp _ i=>[i]
 | .fn1 _ i=>[i]
 | .psl i _=>[i]
 | _=>[]
def lv:List CA->List Nat
 | []=>[]
 | c :: l=>sF c ++ lv l
def sL:List (Bool × List CA)->List Nat
 | []=>[]
 | (_,cs) :: l=>lv cs ++ sL l
def AV.gi:AV->List Nat
 | .one c=>sF c
 | .agg cs=>lv cs
 | .tups cs=>sL cs
 | .tv _=>[]
 | .bl _=>[]
 | .clo _ cs=>lv cs
def hM:List AV->List Nat
 | []=>[]
 | v :: l=>v.gi ++ hM l
def BC.me:BC->List Nat
 | .cells cs=>lv cs
 | .tree _=>[]
def dP:Eff->List Nat
 | .val v=>v.gi
 | .new b v=>b.me ++ v.gi
 | .upd _ b v=>b.me ++ v.gi
 | .gen _ v=>v.gi
def cb (ps:List Nat) (st:ASt) (d:Option Nat) (e:Eff):Bool :=
 ps.all fun s=>!bD (st.base + s) (dP e) && (match d with | some d=>!bD (st.base + s) (nth (.one .junk) st.slots d).gi | none=>true)
def ec (k:Nat):List (Option BC)->Bool
 | []=>true
 | some b :: l=>!bD k b.me && ec k l
 | none :: l=>ec k l
def i8 (it:Item) (st:ASt) (e:Eff):Bool:=false
def cl:List AV->Bool
 | []=>true
 | v :: l=>(match v.tv? with | some _=>true | none=>false) && cl l
def gE:Eff->Bool
 | .val _=>true
 | .new (.tree _) _=>true
 | _=>false
def tM (n:Nat):List Nat->Bool
 | []=>true
 | k :: l=>k.beq n && tM n l
def fY (i:Item) (st:ASt) (e:Eff):Bool:=cl (i.o.op.operands.toList.map st.ev) && (gE e && tM (st.nid i.o.dst) (dP e))
def rK:List Prim->List Nat
 | []=>[]
 | .drop i _ _ _ :: l=>i :: rK l
 | .root i _ _ :: l=>i :: rK l
 | _ :: l=>rK l
def lN:Eff->List Nat
 | .gen ps _=>rK ps
 | _=>[]
def drP:Prim->Bool
 | .drop _ _ _ _=>true
 | .root _ _ _=>true
 | .newB _=>true
 | _=>false
def drE:Eff->Bool
 | .gen ps _=>ps.all drP
 | .upd _ _ _=>false
 | _=>true
def CA.deep:CA->CA
 | .tptr i r p k j=>match p with | []=>.junk | _=>.tptr i r p k j
 | .sref i r p=>match p with | []=>.junk | _=>.sref i r p
 | .swin i r p lo len=>match p with | []=>.junk | _=>.swin i r p lo len
 | c=>c
def dW (k:Nat):List (Option BC)->Bool
 | []=>true
 | some b :: l=>!bD k (b.be CA.deep).me && dW k l
 | none :: l=>dW k l
def DI (k:Nat):Prim->Bool
 | .drop i _ js _=>!(i.beq k) || !js.isEmpty
 | _=>true
def s9 (k:Nat):Eff->Bool
 | .gen ps _=>ps.all (DI k)
 | _=>true
def x7 (o:Oper):Bool:=match o.op with
 | .store _ _ _=>o.guard.isNone && o.dst.isNone
 | _=>false
def lM (o:Oper):Bool:=(aB o.op).isSome || x7 o
def b7 (i:Item) (st:ASt) (e:Eff):Bool:=i.lds.all fun l=>drE e && (lN e).all fun k =>
 (bD k (l.1.map (st.base + ·)) && ec k st.boxes) || (lM i.o && ((bD (2 * k) l.2 && ec k st.boxes) || (bD (2 * k + 1) l.2 && (s9 k e && dW k st.boxes))))
def ig (st:ASt) (d:Option Nat) (b:Nat):Bool:=match d with | some d=>!bD b (nth (.one .junk) st.slots d).gi | none=>true
def fG (st:ASt) (d:Option Nat) (b:Nat):Bool:=match d with | some d=>!bD b ((nth (.one .junk) st.slots d).bG CA.deep).gi | none=>true
def nx:Eff->List Nat
 | .val v=>(v.bG CA.deep).gi
 | e=>dP e
def cF (i:Item) (st:ASt) (e:Eff):Bool:=(i.dull.all fun s=>!bD (st.base + s) (hM (i.o.op.operands.toList.map st.ev))) &&
 (i.dull2.all fun b => bif (b % 2).beq 0 then !bD (b / 2) (dP e) && (ig st i.o.dst (b / 2) && !bD (b / 2) (hM (i.o.op.operands.toList.map st.ev)))
  else !bD (b / 2) (nx e) && (fG st i.o.dst (b / 2) && !bD (b / 2) (hM (b8 CA.deep (i.o.op.operands.toList.map st.ev)))))
def okE (i:Item) (st:ASt) (e:Eff):Bool:=(i.loose && b7 i st e) || ((bif i.shut then fY i st e else e.plain && e.pt st.base i.own && (cb i.push st i.o.dst e && cF i st e)) || i8 i st e)
def effQ {R:Type} (i:Item) (st:ASt) (K:ASt->Prg R) (e:Eff):Prg R :=
 bif i.dr && !(okE i st e) then .fail else
 match e.app st i.o.dst with
 | some st=>K st
 | none=>.fail
def lu {R:Type} (E:Env) (i:Item) (K:ASt->Prg R) (st:ASt):Prg R :=
 (opL E (st.nid i.o.dst) (banned (bj i.ban st.base) st.look) i.o.op (i.o.op.operands.toList.map st.ev)).bind (effQ i st K)
def dc (o:Oper) (st:ASt):ASt:=st.put o.dst (.one .undef)
def opQ {R:Type} (E:Env) (ops:List Oper) (i:Item) (K:ASt->Prg R) (st:ASt):Prg R :=
 match i.o.guard with
 | none=>lu E i K st
 | some (j, want) => match ((ops[j]?).bind (·.dst)) with
  | none=>.fail
  | some g=>match nth (.one .junk) st.slots g with
   | .one .undef=>K (dc i.o st)
   | .bl b=>bif b then (bif want then lu E i K st else K (dc i.o st)) else (bif want then K (dc i.o st) else lu E i K st)
   | .one (.t v) => .ite (asBool v)
     (bif want then lu E i K (st.put (some g) (.bl true)) else K (dc i.o (st.put (some g) (.bl true))))
     (bif want then K (dc i.o (st.put (some g) (.bl false))) else lu E i K (st.put (some g) (.bl false)))
   | .tv v => .ite (asBool v)
     (bif want then lu E i K (st.put (some g) (.bl true)) else K (dc i.o (st.put (some g) (.bl true))))
     (bif want then K (dc i.o (st.put (some g) (.bl false))) else lu E i K (st.put (some g) (.bl false)))
   | _=>.fail
def kz {α R:Type}:List α->(List α->R)->R
 | [],k=>k []
 | a :: l,k=>kz l (fun l'=>k (a :: l'))
theorem kM {α R:Type}:∀ (l:List α) (k:List α->R),kz l k=k l
 | [],_=>rfl
 | a :: l,k=>kM l (fun l'=>k (a :: l'))
def gx {R:Type} (K:ASt->R) (st:ASt):R:=kz st.slots fun sl=>kz st.boxes fun bx=>K ⟨sl,bx,st.out⟩
theorem ju {R:Type} (K:ASt->R):gx K=K:=by
 funext st
 simp only [gx,kM]
def xf {R:Type} (K:ASt->R) (st:ASt):R:=kz st.slots fun sl=>kz st.boxes fun bx=>kz st.out fun ou=>K ⟨sl,bx,ou⟩
theorem tO {R:Type} (K:ASt->R):xf K=K:=by
 funext st
 simp only [xf,kM]
def fN {R:Type} (n:Nat) (k:Nat->R):R:=match n with | 0=>k 0 | m + 1=>k (m + 1)
theorem yg {R:Type} (n:Nat) (k:Nat->R):fN n k=k n:=by cases n <;> rfl
def fNs {R:Type}:List Nat->(List Nat->R)->R
 | [],k=>k []
 | n :: l,k=>fN n fun n=>fNs l fun l=>k (n :: l)
theorem pZ {R:Type}:∀ (l:List Nat) (k:List Nat->R),fNs l k=k l
 | [],_=>rfl
 | n :: l,k=>by simp only [fNs,yg,pZ l]
def fW {R:Type}:Way->(Way->R)->R
 | [],k=>k []
 | (a,j) :: l,k=>fN j fun j=>fW l fun l=>k ((a,j) :: l)
theorem DE {R:Type}:∀ (l:Way) (k:Way->R),fW l k=k l
 | [],_=>rfl
 | (a,j) :: l,k=>by simp only [fW,yg,DE l]
def fC {R:Type} (c:CA) (k:CA->R):R :=
 match c with
 | .t x=>k (.t x)
 | .ptr i off=>fN i fun i=>fN off fun off=>k (.ptr i off)
 | .ref x off=>fN off fun off=>k (.ref x off)
 | .tptr i r p n j=>fN i fun i=>fN r fun r=>fW p fun p=>fN j fun j=>k (.tptr i r p n j)
 | .sref i r p=>fN i fun i=>fN r fun r=>fW p fun p=>k (.sref i r p)
 | .swin i r p lo len=>fN i fun i=>fN r fun r=>fW p fun p=>k (.swin i r p lo len)
 | .may i ty=>fN i fun i=>k (.may i ty)
 | .aptr i off len n=>fN i fun i=>fN off fun off=>k (.aptr i off len n)
 | .yl n=>fN n fun n=>k (.yl n)
 | .ifp t i=>fN i fun i=>k (.ifp t i)
 | .fn1 f i=>fN f fun f=>fN i fun i=>k (.fn1 f i)
 | .psl i n=>fN i fun i=>fN n fun n=>k (.psl i n)
 | .undef=>k .undef
 | .junk=>k .junk
theorem DK {R:Type} (c:CA) (k:CA->R):fC c k=k c:=by cases c <;> simp only [fC,yg,DE]
def fCs {R:Type}:List CA->(List CA->R)->R
 | [],k=>k []
 | c :: l,k=>fC c fun c=>fCs l fun l=>k (c :: l)
theorem uY {R:Type}:∀ (l:List CA) (k:List CA->R),fCs l k=k l
 | [],_=>rfl
 | c :: l,k=>by simp only [fCs,DK,uY l]
def fTs {R:Type}:List (Bool × List CA)->(List (Bool × List CA)->R)->R
 | [],k=>k []
 | (b,c) :: l,k=>fCs c fun c=>fTs l fun l=>k ((b,c) :: l)
theorem BP {R:Type}:∀ (l:List (Bool × List CA)) (k:List (Bool × List CA)->R),fTs l k=k l
 | [],_=>rfl
 | (b,c) :: l,k=>by simp only [fTs,uY,BP l]
def fA {R:Type} (v:AV) (k:AV->R):R :=
 match v with
 | .one c=>fC c fun c=>k (.one c)
 | .agg cs=>fCs cs fun cs=>k (.agg cs)
 | .tv x=>k (.tv x)
 | .tups l=>fTs l fun l=>k (.tups l)
 | .bl b=>k (.bl b)
 | .clo n cs=>fN n fun n=>fCs cs fun cs=>k (.clo n cs)
theorem fA_eq {R:Type} (v:AV) (k:AV->R):fA v k=k v:=by cases v <;> simp only [fA,DK,uY,BP,yg]
def fAs {R:Type}:List AV->(List AV->R)->R
 | [],k=>k []
 | c :: l,k=>fA c fun c=>fAs l fun l=>k (c :: l)
theorem As {R:Type}:∀ (l:List AV) (k:List AV->R),fAs l k=k l
 | [],_=>rfl
 | c :: l,k=>by simp only [fAs,fA_eq,As l]
def fB {R:Type} (b:Option BC) (k:Option BC->R):R :=
 match b with
 | none=>k none
 | some (.cells cs)=>fCs cs fun cs=>k (some (.cells cs))
 | some (.tree xs)=>kz xs fun xs=>k (some (.tree xs))
theorem fB_eq {R:Type} (b:Option BC) (k:Option BC->R):fB b k=k b:=by
 match b with
 | none=>rfl
 | some (.cells cs)=>simp only [fB,uY]
 | some (.tree xs)=>simp only [fB,kM]
def fBs {R:Type}:List (Option BC)->(List (Option BC)->R)->R
 | [],k=>k []
 | c :: l,k=>fB c fun c=>fBs l fun l=>k (c :: l)
theorem Au {R:Type}:∀ (l:List (Option BC)) (k:List (Option BC)->R),fBs l k=k l
 | [],_=>rfl
 | c :: l,k=>by simp only [fBs,fB_eq,Au l]
def kF {R:Type} (K:ASt->R) (st:ASt):R:=fAs st.slots fun sl=>fBs st.boxes fun bx=>fAs st.out fun ou=>K ⟨sl,bx,ou⟩
theorem cX {R:Type} (K:ASt->R):kF K=K:=by
 funext st
 simp only [kF,As,Au]
def AK {R:Type} (E:Env) (ops:List Oper):List Item->(ASt->Prg R)->ASt->Prg R
 | [],K,st=>K st
 | i :: rest,K,st=>opQ E ops i (gx (AK E ops rest K)) st
def unlike (a b:Option Nat):Bool :=
 match a,b with
 | some a,some b=>!a.beq b
 | _,_=>true
def qo (s:Nat):List Oper->Option Oper
 | []=>none
 | o :: l=>match o.dst with
  | some d=>bif d.beq s then some o else qo s l
  | none=>qo s l
def jl (ops:List Oper):Nat->Nat->Nat
 | 0,s=>s
 | n + 1,s=>match qo s ops with
  | some o=>(match aB o.op with | some s'=>jl ops n s' | none=>s)
  | none=>s
def fj (ops:List Oper) (o:Oper):Option Nat:=match aB o.op with
 | some s=>some (jl ops 20 s)
 | none=>none
def sX (ops:List Oper) (x y:Oper):Bool :=
 match aB x.op with
 | some s=>x.guard.isNone && y.guard.isNone && !bD s (looks ops y) && eW y.dst [jl ops 20 s]
 | none=>true
def bW (ops:List Oper) (x y:Oper):Bool :=
 jo (ap x.op) (ap y.op) && eW x.dst (looks ops y) && eW y.dst (looks ops x) && unlike x.dst y.dst && (sX ops x y && sX ops y x)
def eN (acc:List Nat):List Edge->Nat
 | []=>0
 | e :: es=>bif Region.binds .any e then (eN acc es ||| 2 ^ e.on) ||| nth 0 acc e.on else eN acc es
def bp (acc:List Nat):List Oper->List Nat
 | []=>acc
 | o :: rest=>bp (acc ++ [eN acc o.after.toList]) rest
def behind (ops:List Oper):List Nat:=bp [] ops
def d9 (i:Nat):List Edge->Bool
 | []=>true
 | e :: es=>bif Region.binds .any e then (bif e.on.blt i then d9 i es else false) else d9 i es
def oz (all:List Oper) (o:Oper):List Nat :=
 (match o.dst with | some d=>bif (ap o.op).makes then [d] else [] | none=>[]) ++ (match fj all o with | some s=>[s] | none=>[])
def jW (bs:List Nat) (j:Nat) (all:List Oper):Nat->List Oper->List Nat
 | _,[]=>[]
 | i,o :: rest=>bif !(i.beq j) && !((nth 0 bs j).testBit i) && !((nth 0 bs i).testBit j) then oz all o ++ jW bs j all (i + 1) rest else jW bs j all (i + 1) rest
def iX (bs:List Nat) (j:Nat) (all:List Oper):Nat->List Oper->List Nat
 | _,[]=>[]
 | i,o :: rest=>bif !(i.beq j) && !((nth 0 bs j).testBit i) && !((nth 0 bs i).testBit j) then (match fj all o with | some s=>s :: iX bs j all (i + 1) rest | none=>iX bs j all (i + 1) rest) else iX bs j all (i + 1) rest
def fp (ex:List (List Nat)) (bs:List Nat) (j:Nat) (all:List Oper):Nat->List Oper->List (List Nat × List Nat)
 | _,[]=>[]
 | k,o :: rest=>bif (ap o.op).reads && !(k.beq j) && !((nth 0 bs j).testBit k) && !((nth 0 bs k).testBit j) then (jW bs k all 0 all,nth [] ex k) :: fp ex bs j all (k + 1) rest else fp ex bs j all (k + 1) rest
def DM (st:ASt) (ops:List Oper):Nat->Nat->List Nat
 | 0,_=>[]
 | n + 1, s => match qo s ops with
  | some o=>(match o.op,o.op.operands.toList with
   | .fieldAddr _ _ _,.tmp a :: _=>DM st ops n a
   | _,_=>[])
  | none=>(match nth (.one .junk) st.slots s with | .one (.ptr i _)=>[2 * i] | _=>[])
def Dj (st:ASt) (ops:List Oper) (o:Oper):List Nat :=
 match o.op with
 | .store _ (.tmp a) _=>DM st ops 20 a
 | _=>[]
def k9 (ops:List Oper):Nat->Nat->Nat
 | 0,s=>s
 | n + 1, s => match qo s ops with
  | some o=>(match ap o.op,o.op.operands.toList with
   | .N,.tmp a :: _=>k9 ops n a
   | .R,.tmp a :: _=>k9 ops n a
   | _,_=>s)
  | none=>s
def vX (ops : List Oper) : Nat → Nat → Bool
 | 0,_=>false
 | n + 1, s => match qo s ops with
  | some o => (match o.op with
   | .indexAddr _ _ _=>true
   | _=>match ap o.op,o.op.operands.toList with
    | .N,.tmp a :: _=>vX ops n a
    | .R,.tmp a :: _=>vX ops n a
    | _,_=>false)
  | none=>false
def x8 (look:Look):List Nat->List Nat
 | []=>[]
 | j :: l=>(match look j with
  | some (.cells cs)=>lv cs
  | _=>[j]) ++ x8 look l
def yr (st:ASt) (s:Nat):List Nat:=x8 st.look (nth (.one .junk) st.slots s).gi
def zr (st:ASt) (all:List Oper) (o:Oper):List Nat :=
 match aB o.op with
 | some s=>(match qo (k9 all 20 s) all with
  | none=>bif vX all 20 s then (yr st (k9 all 20 s)).map (fun i=>2 * i + 1) else (nth (.one .junk) st.slots (k9 all 20 s)).gi.map (2 * ·)
  | some _=>[])
 | none=>[]
def xJ (st:ASt) (all:List Oper) (o:Oper):List Nat :=
 match o.op with
 | .store _ (.tmp a) _=>bif vX all 20 a then (yr st (k9 all 20 a)).map (fun i=>2 * i + 1) else []
 | _=>[]
def wI (T:Tab) (all:List Oper):Nat->List Oper->List Nat
 | _,[]=>[]
 | j,o :: rest=>(match o.op with
  | .store t (.tmp a) _=>(match T t with | some d=>bif fH d.zero && vX all 20 a then [j] else [] | none=>[])
  | _=>[]) ++ wI T all (j + 1) rest
def exAt (st:ASt) (all:List Oper) (bs:List Nat) (j:Nat):Nat->List Oper->List Nat
 | _,[]=>[]
 | k,o :: rest=>bif !(k.beq j) && !((nth 0 bs j).testBit k) && !((nth 0 bs k).testBit j) then Dj st all o ++ (xJ st all o ++ (zr st all o ++ exAt st all bs j (k + 1) rest)) else exAt st all bs j (k + 1) rest
def Av (st:ASt) (bs:List Nat) (all:List Oper):Nat->List Oper->List (List Nat)
 | _,[]=>[]
 | j,_ :: rest=>exAt st all bs j 0 all :: Av st bs all (j + 1) rest
def exQ (T:Tab) (st:ASt) (ops:List Oper):List (List Nat):=Av st (behind ops) ops 0 ops ++ [wI T ops 0 ops]
def besides (bs:List Nat) (j:Nat):Nat->List Oper->Bool
 | _,[]=>false
 | i,_ :: rest=>bif !(i.beq j) && !((nth 0 bs j).testBit i) && !((nth 0 bs i).testBit j) then true else besides bs j (i + 1) rest
def dU (o:Oper):Bool:=match o.op with
 | .move _=>o.guard.isNone && o.dst.isSome
 | _=>false
def bA (bs:List Nat) (j:Nat):Nat->List Oper->Bool
 | _,[]=>true
 | i,o :: rest=>bif !(i.beq j) && !((nth 0 bs j).testBit i) && !((nth 0 bs i).testBit j) then dU o && bA bs j (i + 1) rest else bA bs j (i + 1) rest
def fm (o:Oper):Bool:=match o.op with
 | .call ⟨.value (.func _),_,_⟩=>o.guard.isNone && o.dst.isSome
 | _=>false
def dK (o:Oper):Bool:=match o.op with
 | .buildSlice _ _ _=>o.guard.isNone && o.dst.isSome
 | _=>false
def gz (o:Oper):Bool:=match ap o.op with
 | .N=>o.guard.isNone && o.dst.isSome
 | .R=>o.guard.isNone && o.dst.isSome
 | _=>false
def beB (bs:List Nat) (j i:Nat):Bool:=!(i.beq j) && !((nth 0 bs j).testBit i) && !((nth 0 bs i).testBit j)
def ef (bs:List Nat) (j:Nat):Nat->List Oper->Bool
 | _,[]=>true
 | i,o :: rest=>bif beB bs j i then (dU o || dK o || gz o) && ef bs j (i + 1) rest else ef bs j (i + 1) rest
def dl (bs:List Nat) (all:List Oper) (j:Nat):Nat->List Oper->Bool
 | _,[]=>true
 | i,o :: rest=>bif beB bs j i then (dU o || (fm o && ef bs i 0 all)) && dl bs all j (i + 1) rest else dl bs all j (i + 1) rest
def dj (bs:List Nat) (j:Nat):Nat->List Oper->Bool
 | _,[]=>true
 | i,o :: rest=>bif beB bs j i then (dU o || (gz o && i.blt j)) && dj bs j (i + 1) rest else dj bs j (i + 1) rest
def l6 (bs:List Nat) (j:Nat) (all:List Oper) (o:Oper):Bool:=false
def gR (bs:List Nat) (all:List Oper):Nat->List Oper->Bool
 | _,[]=>true
 | j,o :: rest=>(match aB o.op with | some _=>bA bs j 0 all || l6 bs j all o | none=>true) && gR bs all (j + 1) rest
def j3 (sl:List Nat) (bs:List Nat) (j:Nat) (all:List Oper) (o:Oper):Bool:=bD j sl && x7 o && (!bA bs j 0 all && dj bs j 0 all)
def iT (sl:List Nat) (bs:List Nat) (all:List Oper) (j:Nat):Nat->List Oper->Bool
 | _,[]=>false
 | i,o :: rest=>bif beB bs j i && (l6 bs i all o || j3 sl bs i all o) then true else iT sl bs all j (i + 1) rest
def j7 (bs:List Nat) (all:List Oper):Nat->List Oper->Bool
 | _,[]=>true
 | j,o :: rest=>(!dK o || (dl bs all j 0 all || dj bs j 0 all)) && j7 bs all (j + 1) rest
def oh (ex:List (List Nat)) (bs:List Nat) (j:Nat) (all:List Oper):Nat->List Oper->List (List Nat × List Nat)
 | _,[]=>[]
 | k,o :: rest=>bif beB bs j k && (gz o && !dU o) then (jW bs k all 0 all,nth [] ex k) :: oh ex bs j all (k + 1) rest else oh ex bs j all (k + 1) rest
def fk (bs:List Nat) (j:Nat):Nat->List Oper->Bool
 | _,[]=>false
 | i,o :: rest=>bif beB bs j i && dK o then true else fk bs j (i + 1) rest
def nZ (ex:List (List Nat)) (ops:List Oper) (bs:List Nat) (j:Nat) (o:Oper):List Nat:=bif gR bs ops 0 ops && (gz o && !dU o) && ((j7 bs ops 0 ops && fk bs j 0 ops) || iT (nth [] ex ops.length) bs ops j 0 ops) then jW bs j ops 0 ops else []
def dull2At (ex:List (List Nat)) (ops:List Oper) (bs:List Nat) (j:Nat) (o:Oper):List Nat:=bif gR bs ops 0 ops && (gz o && !dU o) && iT (nth [] ex ops.length) bs ops j 0 ops then nth [] ex j else []
def ag (ex:List (List Nat)) (ops:List Oper) (bs:List Nat) (j:Nat) (o:Oper):Item:=⟨o,(jW bs j ops 0 ops,nth [] ex j),besides bs j 0 ops,bif j3 (nth [] ex ops.length) bs j ops o then ([],[]) :: fp ex bs j ops 0 ops else fp ex bs j ops 0 ops,iX bs j ops 0 ops ++ nZ ex ops bs j o,match fj ops o with | some m=>m | none=>0,gR bs ops 0 ops && (dU o || bA bs j 0 ops || (j7 bs ops 0 ops && dK o) || l6 bs j ops o || j3 (nth [] ex ops.length) bs j ops o),gR bs ops 0 ops && j7 bs ops 0 ops && fm o && fk bs j 0 ops,bif (dK o && !dl bs ops j 0 ops) || l6 bs j ops o || j3 (nth [] ex ops.length) bs j ops o then oh ex bs j ops 0 ops else [],nZ ex ops bs j o,dull2At ex ops bs j o⟩
def k8 (ex:List (List Nat)) (ops:List Oper) (bs:List Nat):Nat->List Oper->List Item
 | _,[]=>[]
 | j,o :: rest=>ag ex ops bs j o :: k8 ex ops bs (j + 1) rest
def kS (ops:List Oper) (m:Nat) (y:Oper) (j:Nat):Nat->List Oper->Bool
 | _,[]=>true
 | i,x :: rest=>bif i.blt j then (bif m.testBit i || bW ops x y then kS ops m y j (i + 1) rest else false) else true
def yC (ops:List Oper) (bs:List Nat):Nat->List Oper->Bool
 | _,[]=>true
 | j,y :: rest=>bif d9 j y.after.toList && kS ops (nth 0 bs j) y j 0 ops then yC ops bs (j + 1) rest else false
def bh (ops:List Oper):Bool:=yC ops (behind ops) 0 ops
def cG:List Oper->List Item
 | []=>[]
 | o :: rest=>⟨o,([],[]),false,[],[],0,false,false,[],[],[]⟩ :: cG rest
def jL {R:Type} (E:Env) (ops:List Oper) (draw:Bool) (K:ASt->Prg R) (st:ASt):Prg R :=
 bif draw then (bif bh ops then AK E ops (k8 (exQ E.T st ops) ops (behind ops) 0 ops) K st else .fail)
 else AK E ops (cG ops) K st
structure Ann where
 keep:List Nat
 own:List Nat
 ownB:List (Nat × Nat)
 kill:List Nat
 frz:List (Nat × Nat)
def ft {α:Type} (d:α) (ks:List Nat):Nat->List α->List α
 | _,[]=>[]
 | n,a :: l=>(bif bD n ks then a else d) :: ft d ks (n + 1) l
def gU (n:Nat):List (Option BC)->Nat
 | []=>n
 | none :: _=>n
 | some _ :: l=>gU (n + 1) l
def cA:Nat->List TV->List TV
 | 0,l=>l
 | n + 1,l=>.hole :: cA n l
def tq (xs:List TV) (r idx:Nat):Bool:=r.beq idx && xs.length.beq (idx + 1)
def iM (st:ASt) (i r idx:Nat):Option ASt :=
 match st.look i with
 | some (.tree xs)=>bif tq xs r idx then none else match xs[r]? with
  | some x=>((st.aq (CA.drop i r [] false)).ac i (some (.tree (au xs r .hole)))).bi (gU 0 st.boxes) (.tree (cA idx [x]))
  | none=>none
 | _=>none
def yq {R:Type} (st:ASt) (s:Nat) (k:ASt->Prg R):Prg R :=
 match nth (.one .junk) st.slots s with
 | .one (.sref i r [])=>(match iM st i r 0 with
  | some st'=>k (st'.put (some s) (.one (.sref (gU 0 st.boxes) 0 [])))
  | none=>k st)
 | .one (.sref _ _ (_ :: _))=>k st
 | .one (.swin i r [] lo len) => match bL st.look i r with
  | some x=>.tv (fX lo len x) fun y=>(match bS (st.aq (CA.drop i r [] false)).look i r y with
   | some b=>k (((st.aq (CA.drop i r [] false)).ac i (some b)).put (some s) (.one (.sref i r [])))
   | none=>.fail)
  | none=>.fail
 | v => match v.tv? with
  | some x=>.chk x.isSl (match st.bi (gU 0 st.boxes) (.tree [x]) with
   | some st'=>k (st'.put (some s) (.one (.sref (gU 0 st.boxes) 0 [])))
   | none=>.fail)
  | none=>.fail
def nJ {R:Type}:List Nat->ASt->(ASt->Prg R)->Prg R
 | [],st,k=>k st
 | s :: l,st,k=>yq st s fun st=>nJ l st k
def vA (cs:List CA) (c:Nat):Nat:=match cs with | .may _ _ :: _=>c | _=>0
def ua {R : Type} (st : ASt) (i c : Nat) (k : ASt → Prg R) : Prg R :=
 match st.look i with
 | some (.cells cs) => match nth .junk cs c with
  | .sref i' r [] => (match iM st i' r (vA cs c) with
   | some st'=>(match st'.look i with
    | some (.cells cs')=>k (st'.ac i (some (.cells (au cs' c (.sref (gU 0 st.boxes) (vA cs c) [])))))
    | _=>k st)
   | none=>k st)
  | _=>k st
 | _=>k st
def yP {R : Type} (st : ASt) (s c : Nat) (k : ASt → Prg R) : Prg R :=
 match nth (.one .junk) st.slots s with
 | .one (.ptr i _) => match st.look i with
  | some (.cells cs) => match nth .junk cs c with
   | .sref _ _ []=>ua st i c k
   | .sref _ _ (_ :: _)=>k st
   | .swin i' r [] lo len => match bL st.look i' r with
    | some x => .tv (fX lo len x) fun y => (match bS (st.aq (CA.drop i' r [] false)).look i' r y with
     | some b=>(match ((st.aq (CA.drop i' r [] false)).ac i' (some b)).look i with
      | some (.cells cs')=>ua (((st.aq (CA.drop i' r [] false)).ac i' (some b)).ac i (some (.cells (au cs' c (.sref i' r []))))) i c k
      | _=>.fail)
     | none=>.fail)
    | none=>.fail
   | .t x=>.chk x.isSl (match st.bi (gU 0 st.boxes) (.tree (cA (vA cs c) [x])) with
    | some st'=>k (st'.ac i (some (.cells (au cs c (.sref (gU 0 st.boxes) (vA cs c) [])))))
    | none=>.fail)
   | _=>.fail
  | _=>.fail
 | _=>.fail
def kn {R:Type}:List (Nat × Nat)->ASt->(ASt->Prg R)->Prg R
 | [],st,k=>k st
 | (s,c) :: l,st,k=>yP st s c fun st=>kn l st k
def kf:TV->TV
 | .sl o s xs=>.sl o s (qQ xs)
 | x=>x
def BZ (st : ASt) (s c : Nat) : ASt :=
 match nth (.one .junk) st.slots s with
 | .one (.ptr i _) => match st.look i with
  | some (.cells cs) => match nth .junk cs (c % 1000) with
   | .sref i' r [] => match st.look i' with
    | some (.tree xs)=>match xs[r]? with
     | some x=>bif Nat.ble 1000 c then st.ac i' (some (.tree (au xs r (kf x)))) else (st.ac i' (some (.tree (au xs r (frz x))))).ac i (some (.cells (au cs (c % 1000) (.t (frz x)))))
     | none=>st
    | _=>st
   | _=>st
  | _=>st
 | .one (.sref i' r []) => match st.look i' with
  | some (.tree xs)=>match xs[r]? with
   | some x=>bif Nat.ble 1000 c then st else (st.ac i' (some (.tree (au xs r (frz x))))).put (some s) (.one (.t (frz x)))
   | none=>st
  | _=>st
 | _=>st
def jB:List (Nat × Nat)->ASt->ASt
 | [],st=>st
 | (s,c) :: l,st=>jB l (BZ st s c)
def gc (st:ASt):List Nat->ASt
 | []=>st
 | s :: l => match nth (.one .junk) st.slots s with
  | .one (.ptr i _)=>(match st.look i with
   | some (.cells cs)=>gc (st.ac i (some (.cells (mapC (fun _=>.junk) cs)))) l
   | _=>gc st l)
  | _=>gc st l
def visit (look:Look):Nat->List Nat->List Nat->List Nat
 | 0,_,seen=>seen
 | _ + 1,[],seen=>seen
 | n + 1,i :: l,seen=>bif bD i seen then visit look n l seen else match look i with
  | some b=>visit look n (l ++ b.me) (seen ++ [i])
  | none=>visit look n l seen
def iI (i:Nat):Nat->List Nat->Option Nat
 | _,[]=>none
 | n,a :: l=>bif a.beq i then some n else iI i (n + 1) l
def CA.ren (L:List Nat) (c:CA):CA :=
 match c with
 | .ptr i off=>match iI i 0 L with | some k=>.ptr k off | none=>.junk
 | .tptr i r p k j=>match iI i 0 L with | some m=>.tptr m r p k j | none=>.junk
 | .sref i r p=>match iI i 0 L with | some m=>.sref m r p | none=>.junk
 | .swin i r p lo len=>match iI i 0 L with | some m=>.swin m r p lo len | none=>.junk
 | .may i ty=>match iI i 0 L with | some k=>.may k ty | none=>.junk
 | .aptr i off len n=>match iI i 0 L with | some k=>.aptr k off len n | none=>.junk
 | .ifp ty i=>match iI i 0 L with | some k=>.ifp ty k | none=>.junk
 | .fn1 f i=>match iI i 0 L with | some k=>.fn1 f k | none=>.junk
 | .psl i n=>match iI i 0 L with | some k=>.psl k n | none=>.junk
 | c=>c
def gf:List Nat->Bool
 | []=>true
 | a :: l=>!bD a l && gf l
def mo (look:Look) (f:CA->CA):List Nat->List (Option BC)
 | []=>[]
 | i :: l=>(match look i with | some b=>some (b.be f) | none=>none) :: mo look f l
def AV.asTV:AV->AV
 | .one (.t x)=>.tv x
 | .bl b=>.tv (.lit (.bool b))
 | v=>v
def oU:List AV->List AV
 | []=>[]
 | v :: l=>v.asTV :: oU l
def ia (L:List Nat) (st:ASt):ASt :=
 ⟨oU (b8 (CA.ren L) st.slots),mo st.look (CA.ren L) L ++ List.replicate (st.boxes.length - L.length) none,oU (b8 (CA.ren L) st.out)⟩
def gh (ks:List Nat) (st:ASt):ASt:=⟨ft (.one .junk) ks 0 st.slots,st.boxes,st.out⟩
def fU (st:ASt):List Nat:=visit st.look 1000 (hM st.slots ++ hM st.out) []
def wW {R:Type} (st:ASt) (k:ASt->Prg R):Prg R :=
 bif gf (fU st) && (fU st).length.ble cL && cL.ble st.boxes.length then k (ia (fU st) st) else .fail
def t9 {R:Type} (an:Ann) (st:ASt) (k:ASt->Prg R):Prg R :=
 nJ an.own st fun st=>kn an.ownB st fun st=>wW (gh an.keep (gc (jB an.frz st) an.kill)) k
inductive AEx where
 | normal | ret | exit (id:Nat)
def first:Code->Option Nat
 | .region id _ _=>some id
 | .seq a b=>match first a with
  | some n=>some n
  | none=>first b
 | .cond _ a b=>match first a with
  | some n=>some n
  | none=>first b
 | .block _ c=>first c
 | .loop c=>first c
 | _=>none
def gk (ann:Nat->Option Ann) (c:Code):Option Ann :=
 match first c with
 | some n=>ann n
 | none=>none
def oX {R:Type} (an:Option Ann) (rp:List Nat) (next:ASt->Prg R) (K:AEx->ASt->Prg R):AEx->ASt->Prg R
 | .normal,st=>match an with
  | none=>next st
  | some an=>t9 an st fun st=>.jmp rp st
 | e,st=>K e st
def j6 {R:Type} (id:Nat) (K:AEx->ASt->Prg R):AEx->ASt->Prg R
 | .exit i,st=>bif i.beq id then K .normal st else K (.exit i) st
 | e,st=>K e st
def t7 {R:Type} (an:Option Ann) (rp:List Nat) (st:ASt):Prg R :=
 match an with
 | none=>.fail
 | some an=>t9 an st fun st=>.jmp rp st
def rl {R:Type} (an:Option Ann) (rp:List Nat) (K:AEx->ASt->Prg R):AEx->ASt->Prg R
 | .normal,st=>t7 an rp st
 | e,st=>K e st
structure Opn where
 fns:FuncId->Option Func
 ann:FuncId->Nat->Option Ann
 jn:FuncId->Nat->Option Ann
 kp:FuncId->Nat->Option (List Nat)
 mth:TypeId->String->Option (FuncId × Bool)
def uW (v:Value):Option (FuncId × List CA):=match v with
 | .func (.func f) ts cs=>bif ts.size.beq 0 && cs.size.beq 0 then some (f,[]) else none
 | _=>none
def AV.ue:AV->Option (FuncId × List CA)
 | .clo f cs=>some (f,cs)
 | .one (.fn1 f i)=>some (f,[.ptr i 0])
 | .one (.t (.lit v))=>uW v
 | .tv (.lit v)=>uW v
 | _=>none
def uK (st:ASt) (i:Nat):Bool->Option AV
 | false=>some (.one (.ptr i 0))
 | true=>match st.look i with
  | some (.cells [c])=>bif c.kept then some (.one c) else none
  | _=>none
def DP (L:Opn) (st:ASt) (v:AV) (name:String):Option (FuncId × AV) :=
 match v with
 | .one (.ifp t i) => match L.mth t name with
  | some (f,d)=>match uK st i d with
   | some r=>some (f,r)
   | none=>none
  | none=>none
 | _=>none
def qz (L:Opn) (st:ASt) (j:Nat):Op->Option (Nat × FuncId × Func × List AV × List CA)
 | .call ⟨.value (.func f),_,_⟩=>match L.fns f with
  | some fn=>some (j,f,fn,[],[])
  | none=>none
 | .call ⟨.value (.tmp t), _, _⟩ => match (nth (.one .junk) st.slots t).ue with
  | some (f,cs)=>match L.fns f with
   | some fn=>some ((f + 1) * 1000 + j,f,fn,[],cs)
   | none=>none
  | none=>none
 | .call ⟨.invoke (.tmp t) name, _, _⟩ => match DP L st (nth (.one .junk) st.slots t) name with
  | some (f,r)=>match L.fns f with
   | some fn=>some ((f + 1) * 1000 + j,f,fn,[r],[])
   | none=>none
  | none=>none
 | _=>none
def Dn (L:Opn):Op->Bool
 | .call ⟨.value (.func f),_,_⟩=>(L.fns f).isSome
 | .call ⟨.value (.tmp _),_,_⟩=>true
 | .call ⟨.invoke _ _,_,_⟩=>true
 | _=>false
def pP (L:Opn):List Oper->Bool
 | []=>false
 | o :: l=>bif Dn L o.op then true else pP L l
def o6 (L:Opn) (y:Nat):Op->Option (FuncId × Func)
 | .call ⟨.value (.func f),_,_⟩=>bif y.blt 1000 then (match L.fns f with
  | some fn=>some (f,fn)
  | none=>none) else none
 | .call ⟨.value (.tmp _), _, _⟩ => match y / 1000 with
  | f + 1=>(match L.fns f with
   | some fn=>some (f,fn)
   | none=>none)
  | 0=>none
 | .call ⟨.invoke (.tmp _) _, _, _⟩ => match y / 1000 with
  | f + 1=>(match L.fns f with
   | some fn=>some (f,fn)
   | none=>none)
  | 0=>none
 | _=>none
def np (bs:List Nat) (k:Nat):Nat->List Oper->Bool
 | _,[]=>true
 | i,_ :: rest=>bif i.blt k then np bs k (i + 1) rest else (Nat.land (nth 0 bs i) (2 ^ k - 1)).beq (2 ^ k - 1) && np bs k (i + 1) rest
def mj (ops:List Oper) (k:Nat):Bool:=np (behind ops) k 0 ops
def cD {R:Type} (E:Env) (reg:Nat->List Nat->List Oper->Bool->(ASt->Prg R)->ASt->Prg R) (rg:List Nat->Operand->Array Tmp->Code->Code->(ASt->Prg R)->ASt->Prg R) (ann jn:Nat->Option Ann):List Nat->Code->(AEx->ASt->Prg R)->ASt->Prg R
 | _,.skip,K,st=>K .normal st
 | rp,.region id ops draw,K,st=>reg id rp ops.toList draw (K .normal) st
 | rp,.seq a b,K,st=>cD E reg rg ann jn (0 :: rp) a (oX (gk jn b) (1 :: rp) (cD E reg rg ann jn (1 :: rp) b K) K) st
 | rp, .cond c a b, K, st => match st.ev c with
  | .bl v=>bif v then cD E reg rg ann jn (0 :: rp) a K st else cD E reg rg ann jn (1 :: rp) b K st
  | x=>match x.tv? with
   | some v=>.ite (asBool v) (cD E reg rg ann jn (0 :: rp) a K st) (cD E reg rg ann jn (1 :: rp) b K st)
   | none=>.fail
 | rp,.block id c,K,st=>cD E reg rg ann jn (0 :: rp) c (j6 id K) st
 | rp,.loop c,_,st=>t7 (gk ann c) (0 :: rp) st
 | _,.exit id,K,st=>K (.exit id) st
 | _,.ret,K,st=>K .ret st
 | rp,.rangeFunc g ps a c,K,st=>rg rp g ps a c (K .normal) st
 | _,_,_,_=>.fail
def bM (fn:Func):Code:=match fn.body with | some c=>c | none=>.skip
def wx (T : Tab) (st : ASt) : ResultVar → Option AV
 | .tmp t=>some (nth (.one .junk) st.slots t)
 | .cell a ty => match nth (.one .junk) st.slots a, T ty with
  | .one (.ptr i 0), some d => match st.look i with
   | some (.cells cs)=>match jY cs 0 (bif d.kd.isAgg then d.size else 1) with
    | some cs=>ck d.kd.isAgg cs
    | none=>none
   | _=>none
  | _,_=>none
def iq (T:Tab) (st:ASt):List ResultVar->Option (List AV)
 | []=>some []
 | r :: l=>match wx T st r,iq T st l with
  | some x,some xs=>some (x :: xs)
  | _,_=>none
def q0 {R:Type}:List TyD->List AV->(List (Bool × List CA)->Prg R)->Prg R
 | [],[],k=>k []
 | d :: ds,v :: vs,k=>v.aS d.kd.isAgg d.size fun cs=>q0 ds vs fun l=>k ((d.kd.isAgg,cs) :: l)
 | _,_,_=>.fail
def uT {R:Type} (ds:List TyD) (vs:List AV) (k:AV->Prg R):Prg R :=
 match vs with
 | [v]=>k v
 | vs=>q0 ds vs fun l=>k (.tups l)
def mL (L:List Nat) (m:Nat) (st:ASt):ASt :=
 ⟨b8 (CA.ren L) st.slots,mo st.look (CA.ren L) L ++ List.replicate (st.boxes.length - m - L.length) none,b8 (CA.ren L) st.out⟩
def eK {R:Type} (m:Nat) (st:ASt) (k:ASt->Prg R):Prg R :=
 kF (fun st=>fNs (fU st) fun L=>bif gf L && L.length.ble cL && cL.ble st.boxes.length then kF k (mL L m st) else .fail) st
def sY {R : Type} (E : Env) (f : FuncId) (fn : Func) (nt : Nat) (d : Option Tmp) (K : ASt → Prg R) : AEx → ASt → Prg R
 | .exit _,_=>.fail
 | _,st=>match iq E.T st fn.results.toList,lz E.T (E.rts f) with
  | some vs, some ds => bif nt.ble st.out.length then uT ds vs fun v =>
    eK fn.ntmps (ASt.put ⟨st.out.drop (st.out.length - nt),st.boxes,st.out.take (st.out.length - nt)⟩ d v) K else .fail
  | _,_=>.fail
def ir (ntmps:Nat) (vs:List AV) (st:ASt):ASt :=
 ⟨vs ++ List.replicate (ntmps - vs.length) (.one .undef),st.boxes ++ List.replicate ntmps none,st.out ++ st.slots⟩
def iK:Option (List Nat)->ASt->ASt
 | none,st=>st
 | some ks,st=>gh ks st
def ym (id j:Nat):Nat:=id * 1000 + j
structure Rng where
 off:Nat
 nt:Nat
 fi:FuncId
 ps:Array Tmp
 assign:Code
 body:Code
 busy:Bool
def aO:List Rng->Nat->List Rng
 | [],_=>[]
 | y :: l,0=>{ y with busy:=true } :: l
 | y :: l,m + 1=>y :: aO l m
def CA.unY (n:Nat) (c:CA):CA :=
 match c with
 | .yl k=>bif k.blt n then .yl k else .junk
 | c=>c
def AV.ylOf:AV->Option Nat
 | .one (.yl m)=>some m
 | _=>none
def jh (z m j:Nat):Nat:=2 * ((2 * m + z) * 1000 + j) + 3
def iG:List Tmp->List AV->List AV->List AV
 | t :: ts,v :: vs,l=>iG ts vs (au l t v)
 | _,_,l=>l
abbrev zV (R:Type):=Nat->FuncId->List Rng->Nat->List Nat->List Oper->Bool->(ASt->Prg R)->ASt->Prg R
abbrev Aa (R:Type):=Nat->FuncId->List Rng->List Nat->Operand->Array Tmp->Code->Code->(ASt->Prg R)->ASt->Prg R
def qa {R:Type} (E:Env) (L:Opn) (reg:zV R) (rg:Aa R) (nt:Nat) (fi:FuncId) (ys:List Rng) (id:Nat) (rp:List Nat) (j y:Nat) (o:Oper) (f:FuncId) (fn:Func) (rv:List AV) (cap:List CA) (K:ASt->Prg R) (st:ASt):Prg R :=
 match o.op.operands.toList with
 | _ :: xs => bif (rv.length + xs.length).beq fn.params.size && (rv.length + xs.length + cap.length).ble fn.ntmps && (st.slots.length.beq nt && j.blt 1000) then
   kF (cD E (reg fn.ntmps f ys) (rg fn.ntmps f ys) (L.ann f) (L.jn f) ((2 * y + 2) :: rp) (bM fn) (sY E f fn nt o.dst K)) (ir fn.ntmps (rv ++ xs.map st.ev ++ cap.map AV.one) (iK (L.kp fi (ym id j)) st)) else .fail
 | _=>.fail
def ASt.cut (nt:Nat) (st:ASt):ASt:=⟨st.out.drop (st.out.length - nt),st.boxes,st.out.take (st.out.length - nt)⟩
def dT {R:Type} (y:Rng) (nt:Nat) (d:Option Tmp) (K:ASt->Prg R):AEx->ASt->Prg R
 | .normal,st=>bif nt.ble st.out.length then eK y.nt ((st.cut nt).put d (.bl true)) K else .fail
 | _,_=>.fail
def nQ {R:Type} (k:ASt->Prg R):AEx->ASt->Prg R
 | .normal,st=>k st
 | _,_=>.fail
def rR {R : Type} (E : Env) (L : Opn) (reg : zV R) (rg : Aa R) (nt : Nat) (fi : FuncId) (ys : List Rng) (id : Nat) (rp : List Nat) (j m : Nat) (y : Rng) (o : Oper) (K : ASt → Prg R) (st : ASt) : Prg R :=
 match o.op.operands.toList with
 | _ :: xs => bif xs.length.beq y.ps.size && (st.slots.length.beq nt && (j.blt 1000 && (!y.busy && (y.off + y.nt).ble st.out.length))) then
   kF (cD E (reg y.nt y.fi (aO ys m)) (rg y.nt y.fi (aO ys m)) (L.ann y.fi) (L.jn y.fi) (jh 0 m j :: rp) y.assign
    (nQ (cD E (reg y.nt y.fi (aO ys m)) (rg y.nt y.fi (aO ys m)) (L.ann y.fi) (L.jn y.fi) (jh 1 m j :: rp) y.body (dT y nt o.dst K))))
    (ir y.nt (iG y.ps.toList (xs.map st.ev) ((st.out.drop y.off).take y.nt)) (iK (L.kp fi (ym id j)) st)) else .fail
 | _=>.fail
def jy (draw:Bool) (ex:List (List Nat)) (all:List Oper) (j:Nat) (o:Oper):Item:=bif draw then ag ex all (behind all) j o else ⟨o,([],[]),false,[],[],0,false,false,[],[],[]⟩
def iL (T:Tab) (draw:Bool) (st:ASt) (all:List Oper):List (List Nat):=bif draw then exQ T st all else []
def aU (ops:List Oper) (o:Oper) (s:ASt):Option (Option Bool) :=
 match o.guard with
 | none=>some (some true)
 | some (j, want) => match ((ops[j]?).bind (·.dst)) with
  | none=>none
  | some g=>match nth (.one .junk) s.slots g with
   | .one .undef=>some none
   | .bl b=>some (some (b == want))
   | _=>none
def fZ (ops:List Oper) (o:Oper) (s:ASt):Bool:=match aU ops o s with
 | some (some true)=>true
 | _=>false
def qc (ys:List Rng) (st:ASt):Op->Option (Nat × Rng)
 | .call ⟨.value (.tmp t), _, _⟩ => match (nth (.one .junk) st.slots t).ylOf with
  | some m=>match ys[m]? with
   | some y=>some (m,y)
   | none=>none
  | none=>none
 | _=>none
noncomputable def eqV:Value->Value->Bool
 | .int .i64 a,.int .i64 b=>bif Int.beq' a b then true else false
 | .int .u16 a,.int .u16 b=>bif Int.beq' a b then true else false
 | .int .u8 a,.int .u8 b=>bif Int.beq' a b then true else false
 | .bool a,.bool b=>a == b
 | .slice none 0 0,.slice none 0 0=>true
 | _,_=>false
mutual
noncomputable def eqT:TV->TV->Bool
 | .lit v,.lit u=>eqV v u
 | .sl o s xs,.sl o' s' xs'=>o == o' && (s.beq s' && yM xs xs')
 | .agg cs,.agg cs'=>Cv cs cs'
 | .hole,.hole=>true
 | _,_=>false
noncomputable def Cv:List TV->List TV->Bool
 | [],[]=>true
 | x :: l,y :: r=>eqT x y && Cv l r
 | _,_=>false
noncomputable def yM:List (List TV)->List (List TV)->Bool
 | [],[]=>true
 | x :: l,y :: r=>Cv x y && yM l r
 | _,_=>false
end
open Classical in
noncomputable def eqTV (x y:TV):Bool:=eqT x y || decide (x=y)
noncomputable def Do:CA->CA->Bool
 | .ptr i a,.ptr j b=>i.beq j && a.beq b
 | .sref i r [],.sref j k []=>i.beq j && r.beq k
 | .t x,.t y=>eqTV x y
 | _,_=>false
noncomputable def Dy:List CA->List CA->Bool
 | [],[]=>true
 | a :: l,b :: r=>Do a b && Dy l r
 | _,_=>false
noncomputable def C1:AV->AV->Bool
 | .one a,.one b=>Do a b
 | .agg l,.agg r=>Dy l r
 | _,_=>false
def pG (u m:Nat):Nat->Bool
 | 0=>true
 | k + 1=>(k.beq u || m.testBit k) && pG u m k
def kB (bs:List Nat) (u k:Nat):Nat->List Oper->Bool
 | _,[]=>true
 | i,_ :: rest=>bif i.blt k then kB bs u k (i + 1) rest else pG u (nth 0 bs i) k && kB bs u k (i + 1) rest
def qT (ops:List Oper) (u k:Nat):Bool:=kB (behind ops) u k 0 ops
def mr (bs:List Nat) (u k:Nat):Nat->List Oper->Bool
 | _,[]=>true
 | i,_ :: rest=>bif i.blt k then !((nth 0 bs i).testBit u) && mr bs u k (i + 1) rest else true
def oc (o:Oper):Bool:=match o.op with
 | .load _ _=>o.guard.isNone && o.dst.isSome
 | _=>false
def xr (all:List Oper) (j u:Nat) (o c:Oper):Bool :=
 oc o && (qT all u j && qT all u (j + 1)) && (mr (behind all) u (j + 1) 0 all && (c.guard.isNone && (match o.dst with
  | some d=>eW (some d) (eQ c.op.operands.toList) && unlike (some d) c.dst
  | none=>false)))
def mR (all:List Oper) (j:Nat) (c:Oper):Nat->List Oper->Option Nat
 | _,[]=>none
 | u,o :: rest=>bif u.blt j then (bif xr all j u o c then some u else mR all j c (u + 1) rest) else none
def gq (all:List Oper) (j:Nat):Option Nat:=match all[j]? with
 | some c=>mR all j c 0 all
 | none=>none
def db (draw:Bool) (all:List Oper) (j:Nat):Bool:=!draw || (mj all j && mj all (j + 1))
def swapL (n a b:Nat):List Nat:=(List.range n).map fun k=>bif k.beq a then b else bif k.beq b then a else k
def DF (d:Option Nat) (st:ASt):List Nat :=
 match d with
 | some d=>(match nth (.one .junk) st.slots d with
  | .one (.sref i 0 [])=>swapL st.boxes.length i (st.nid (some d))
  | _=>List.range st.boxes.length)
 | none=>List.range st.boxes.length
def Bw {R:Type} (d:Option Nat) (k:ASt->Prg R) (st:ASt):Prg R:=fNs (DF d st) fun L=>bif gf L then kF k (mL L 0 st) else .fail
noncomputable def lA {R:Type} (E:Env) (draw:Bool) (all:List Oper) (j:Nat) (k:ASt->Prg R) (st:ASt):Prg R :=
 bif db draw all j then k st else match gq all j with
 | some u => (match all[u]?, all[j]? with
  | some o,some c=>(match o.dst with
   | some d=>Bw c.dst (fun st=>opQ E all (jy draw (iL E.T draw st all) all u o) (fun st'=>.chk (C1 (nth (.one .junk) st'.slots d) (nth (.one .junk) st.slots d)) (k st)) (st.put (some d) (.one .junk))) st
   | none=>.fail)
  | _,_=>.fail)
 | none=>.fail
noncomputable def dI {R:Type} (E:Env) (L:Opn) (reg:zV R) (rg:Aa R) (nt:Nat) (fi:FuncId) (ys:List Rng) (id:Nat) (rp:List Nat) (draw:Bool) (all:List Oper) (K:ASt->Prg R):Nat->List Oper->List (List Nat)->ASt->Prg R
 | _,[],_,st=>K st
 | j, o :: rest, ex, st => match qz L st j o.op with
  | some (y, f, fn, rv, cap) => bif fZ all o st then (bif db draw all j || (gq all j).isSome then
    qa E L reg rg nt fi ys id rp j y o f fn rv cap (lA E draw all j fun st'=>dI E L reg rg nt fi ys id rp draw all K (j + 1) rest (iL E.T draw st' all) st') st else .fail)
   else opQ E all (jy draw ex all j o) (gx (dI E L reg rg nt fi ys id rp draw all K (j + 1) rest ex)) st
  | none => match qc ys st o.op with
   | some (m, y) => bif fZ all o st then (bif !draw || (mj all j && mj all (j + 1)) then
     rR E L reg rg nt fi ys id rp j m y o (fun st'=>dI E L reg rg nt fi ys id rp draw all K (j + 1) rest (iL E.T draw st' all) st') st else .fail)
    else opQ E all (jy draw ex all j o) (gx (dI E L reg rg nt fi ys id rp draw all K (j + 1) rest ex)) st
   | none=>opQ E all (jy draw ex all j o) (gx (dI E L reg rg nt fi ys id rp draw all K (j + 1) rest ex)) st
def wL {R:Type} (fn:Func) (n nt:Nat) (K:ASt->Prg R):AEx->ASt->Prg R
 | .exit _,_=>.fail
 | _,st=>bif fn.results.size.beq 0 && nt.ble st.out.length then eK fn.ntmps ((st.aq (CA.unY n)).cut nt) K else .fail
mutual
noncomputable def cE {R:Type} (E:Env) (L:Opn):Nat->zV R
 | 0,_,_,_,_,_,ops,draw,K,st=>jL E ops draw K st
 | n + 1,nt,fi,ys,id,rp,ops,draw,K,st=>bif pP L ops then (bif !draw || bh ops then dI E L (cE E L n) (cH E L n) nt fi ys id rp draw ops K 0 ops (iL E.T draw st ops) st else .fail) else jL E ops draw K st
noncomputable def cH {R:Type} (E:Env) (L:Opn):Nat->Aa R
 | 0,_,_,_,_,_,_,_,_,_,_=>.fail
 | n + 1, nt, fi, ys, rp, g, ps, assign, body, K, st => xf (fun st => match (st.ev g).ue with
  | some (f,cs)=>(match L.fns f with
   | some fn => bif Nat.beq fn.params.size 1 && ((cs.length + 1).ble fn.ntmps && st.slots.length.beq nt) then
     kF (cD E (cE E L n fn.ntmps f (ys ++ [⟨st.out.length,nt,fi,ps,assign,body,false⟩])) (cH E L n fn.ntmps f (ys ++ [⟨st.out.length,nt,fi,ps,assign,body,false⟩])) (L.ann f) (L.jn f) (f :: rp) (bM fn) (wL fn ys.length nt K))
      (ir fn.ntmps (.one (.yl ys.length) :: cs.map AV.one) st) else .fail
   | none=>.fail)
  | none=>.fail) (st.aq (CA.unY ys.length))
end
noncomputable def goQ {R:Type} (E:Env) (L:Opn):List Nat->Nat->Nat->Nat->FuncId->List Rng->List Nat->Code->(AEx->ASt->Prg R)->ASt->Prg R
 | [],n,_,nt,fi,ys,rp,c,K=>cD E (cE E L n nt fi ys) (cH E L n nt fi ys) (L.ann fi) (L.jn fi) rp c K
 | x :: p, n, no, nt, fi, ys, rp, c, K => match c with
  | .seq a b=>match x with
   | 0=>goQ E L p n no nt fi ys (0 :: rp) a (oX (gk (L.jn fi) b) (1 :: rp) (cD E (cE E L n nt fi ys) (cH E L n nt fi ys) (L.ann fi) (L.jn fi) (1 :: rp) b K) K)
   | _=>goQ E L p n no nt fi ys (1 :: rp) b K
  | .cond _ a b=>match x with
   | 0=>goQ E L p n no nt fi ys (0 :: rp) a K
   | _=>goQ E L p n no nt fi ys (1 :: rp) b K
  | .block id c=>goQ E L p n no nt fi ys (0 :: rp) c (j6 id K)
  | .loop c=>goQ E L p n no nt fi ys (0 :: rp) c (rl (gk (L.ann fi) c) (0 :: rp) K)
  | .rangeFunc _ ps assign body => match n with
   | n + 1=>(match L.fns x with
    | some fn=>goQ E L p n (no + nt) fn.ntmps x (ys ++ [⟨no,nt,fi,ps,assign,body,false⟩]) (x :: rp) (bM fn) (wL fn ys.length nt (K .normal))
    | none=>fun _=>.fail)
   | 0=>fun _=>.fail
  | .region id ops draw => match n with
   | n + 1 => bif (x % 2).beq 0 then (match ops.toList[(x / 2 - 1) % 1000]? with
    | some o=>(match o6 L (x / 2 - 1) o.op with
     | some (f, fn) => bif !draw || bh ops.toList then goQ E L p n (no + nt) fn.ntmps f ys (x :: rp) (bM fn)
       (sY E f fn nt o.dst (lA E draw ops.toList ((x / 2 - 1) % 1000) fun st'=>dI E L (cE E L n) (cH E L n) nt fi ys id rp draw ops.toList (K .normal) ((x / 2 - 1) % 1000 + 1) (ops.toList.drop ((x / 2 - 1) % 1000 + 1)) (iL E.T draw st' ops.toList) st')) else fun _=>.fail
     | none=>fun _=>.fail)
    | none=>fun _=>.fail)
    else (match ops.toList[((x - 3) / 2) % 1000]? with
    | some o=>(match ys[(x - 3) / 2 / 1000 / 2]? with
     | some r => bif !draw || bh ops.toList then (bif ((x - 3) / 2 / 1000 % 2).beq 0 then
       goQ E L p n (no + nt) r.nt r.fi (aO ys ((x - 3) / 2 / 1000 / 2)) (x :: rp) r.assign
        (nQ (cD E (cE E L n r.nt r.fi (aO ys ((x - 3) / 2 / 1000 / 2))) (cH E L n r.nt r.fi (aO ys ((x - 3) / 2 / 1000 / 2))) (L.ann r.fi) (L.jn r.fi) (jh 1 ((x - 3) / 2 / 1000 / 2) (((x - 3) / 2) % 1000) :: rp) r.body
         (dT r nt o.dst (fun st'=>dI E L (cE E L n) (cH E L n) nt fi ys id rp draw ops.toList (K .normal) (((x - 3) / 2) % 1000 + 1) (ops.toList.drop (((x - 3) / 2) % 1000 + 1)) (iL E.T draw st' ops.toList) st'))))
       else goQ E L p n (no + nt) r.nt r.fi (aO ys ((x - 3) / 2 / 1000 / 2)) (x :: rp) r.body
        (dT r nt o.dst (fun st'=>dI E L (cE E L n) (cH E L n) nt fi ys id rp draw ops.toList (K .normal) (((x - 3) / 2) % 1000 + 1) (ops.toList.drop (((x - 3) / 2) % 1000 + 1)) (iL E.T draw st' ops.toList) st'))) else fun _=>.fail
     | none=>fun _=>.fail)
    | none=>fun _=>.fail)
   | 0=>fun _=>.fail
  | _=>fun _=>.fail
theorem yo {R:Type} (E:Env) (L:Opn) (n no nt:Nat) (fi:FuncId) (ys:List Rng) (rp:List Nat) (K:AEx->ASt->Prg R) (c:Code):goQ E L [] n no nt fi ys rp c K=cD E (cE E L n nt fi ys) (cH E L n nt fi ys) (L.ann fi) (L.jn fi) rp c K:=rfl
theorem Cw {R:Type} (E:Env) (L:Opn) (p:List Nat) (n no nt:Nat) (fi:FuncId) (ys:List Rng) (rp:List Nat) (K:AEx->ASt->Prg R) (a b:Code):goQ E L (0 :: p) n no nt fi ys rp (.seq a b) K=goQ E L p n no nt fi ys (0 :: rp) a (oX (gk (L.jn fi) b) (1 :: rp) (cD E (cE E L n nt fi ys) (cH E L n nt fi ys) (L.ann fi) (L.jn fi) (1 :: rp) b K) K):=rfl
theorem AU {R:Type} (E:Env) (L:Opn) (p:List Nat) (n no nt:Nat) (fi:FuncId) (ys:List Rng) (rp:List Nat) (K:AEx->ASt->Prg R) (a b:Code):goQ E L (1 :: p) n no nt fi ys rp (.seq a b) K=goQ E L p n no nt fi ys (1 :: rp) b K:=rfl
theorem Al {R:Type} (E:Env) (L:Opn) (p:List Nat) (n no nt:Nat) (fi:FuncId) (ys:List Rng) (rp:List Nat) (K:AEx->ASt->Prg R) (c:Operand) (a b:Code):goQ E L (0 :: p) n no nt fi ys rp (.cond c a b) K=goQ E L p n no nt fi ys (0 :: rp) a K:=rfl
theorem zB {R:Type} (E:Env) (L:Opn) (p:List Nat) (n no nt:Nat) (fi:FuncId) (ys:List Rng) (rp:List Nat) (K:AEx->ASt->Prg R) (c:Operand) (a b:Code):goQ E L (1 :: p) n no nt fi ys rp (.cond c a b) K=goQ E L p n no nt fi ys (1 :: rp) b K:=rfl
theorem zy {R:Type} (E:Env) (L:Opn) (p:List Nat) (n no nt:Nat) (fi:FuncId) (ys:List Rng) (rp:List Nat) (K:AEx->ASt->Prg R) (id:Nat) (c:Code) (x:Nat):goQ E L (x :: p) n no nt fi ys rp (.block id c) K=goQ E L p n no nt fi ys (0 :: rp) c (j6 id K):=rfl
theorem AQ {R:Type} (E:Env) (L:Opn) (p:List Nat) (n no nt:Nat) (fi:FuncId) (ys:List Rng) (rp:List Nat) (K:AEx->ASt->Prg R) (c:Code) (x:Nat):goQ E L (x :: p) n no nt fi ys rp (.loop c) K=goQ E L p n no nt fi ys (0 :: rp) c (rl (gk (L.ann fi) c) (0 :: rp) K):=rfl
theorem BT {R:Type} (E:Env) (L:Opn) (p:List Nat) (no nt:Nat) (fi:FuncId) (ys:List Rng) (rp:List Nat) (K:AEx->ASt->Prg R) (g:Operand) (ps:Array Tmp) (assign body:Code) (x:Nat):goQ E L (x :: p) 0 no nt fi ys rp (.rangeFunc g ps assign body) K=fun _=>.fail:=rfl
theorem yi {R:Type} (E:Env) (L:Opn) (p:List Nat) (n no nt:Nat) (fi:FuncId) (ys:List Rng) (rp:List Nat) (K:AEx->ASt->Prg R) (g:Operand) (ps:Array Tmp) (assign body:Code) (x:Nat):goQ E L (x :: p) (n + 1) no nt fi ys rp (.rangeFunc g ps assign body) K=match L.fns x with
 | some fn=>goQ E L p n (no + nt) fn.ntmps x (ys ++ [⟨no,nt,fi,ps,assign,body,false⟩]) (x :: rp) (bM fn) (wL fn ys.length nt (K .normal))
 | none=>fun _=>.fail:=rfl
theorem qJ {R:Type} (E:Env) (L:Opn) (p:List Nat) (no nt:Nat) (fi:FuncId) (ys:List Rng) (rp:List Nat) (K:AEx->ASt->Prg R) (id:Nat) (ops:Array Oper) (draw:Bool) (x:Nat):goQ E L (x :: p) 0 no nt fi ys rp (.region id ops draw) K=fun _=>.fail:=rfl
theorem pT {R : Type} (E : Env) (L : Opn) (p : List Nat) (n no nt : Nat) (fi : FuncId) (ys : List Rng) (rp : List Nat) (K : AEx → ASt → Prg R) (id : Nat) (ops : Array Oper) (draw : Bool) (x : Nat) : goQ E L (x :: p) (n + 1) no nt fi ys rp (.region id ops draw) K = bif (x % 2).beq 0 then (match ops.toList[(x / 2 - 1) % 1000]? with
    | some o=>(match o6 L (x / 2 - 1) o.op with
     | some (f, fn) => bif !draw || bh ops.toList then goQ E L p n (no + nt) fn.ntmps f ys (x :: rp) (bM fn)
       (sY E f fn nt o.dst (lA E draw ops.toList ((x / 2 - 1) % 1000) fun st'=>dI E L (cE E L n) (cH E L n) nt fi ys id rp draw ops.toList (K .normal) ((x / 2 - 1) % 1000 + 1) (ops.toList.drop ((x / 2 - 1) % 1000 + 1)) (iL E.T draw st' ops.toList) st')) else fun _=>.fail
     | none=>fun _=>.fail)
    | none=>fun _=>.fail)
    else (match ops.toList[((x - 3) / 2) % 1000]? with
    | some o=>(match ys[(x - 3) / 2 / 1000 / 2]? with
     | some r => bif !draw || bh ops.toList then (bif ((x - 3) / 2 / 1000 % 2).beq 0 then
       goQ E L p n (no + nt) r.nt r.fi (aO ys ((x - 3) / 2 / 1000 / 2)) (x :: rp) r.assign
        (nQ (cD E (cE E L n r.nt r.fi (aO ys ((x - 3) / 2 / 1000 / 2))) (cH E L n r.nt r.fi (aO ys ((x - 3) / 2 / 1000 / 2))) (L.ann r.fi) (L.jn r.fi) (jh 1 ((x - 3) / 2 / 1000 / 2) (((x - 3) / 2) % 1000) :: rp) r.body
         (dT r nt o.dst (fun st'=>dI E L (cE E L n) (cH E L n) nt fi ys id rp draw ops.toList (K .normal) (((x - 3) / 2) % 1000 + 1) (ops.toList.drop (((x - 3) / 2) % 1000 + 1)) (iL E.T draw st' ops.toList) st'))))
       else goQ E L p n (no + nt) r.nt r.fi (aO ys ((x - 3) / 2 / 1000 / 2)) (x :: rp) r.body
        (dT r nt o.dst (fun st'=>dI E L (cE E L n) (cH E L n) nt fi ys id rp draw ops.toList (K .normal) (((x - 3) / 2) % 1000 + 1) (ops.toList.drop (((x - 3) / 2) % 1000 + 1)) (iL E.T draw st' ops.toList) st'))) else fun _=>.fail
     | none=>fun _=>.fail)
    | none=>fun _=>.fail):=rfl
def c8:List CA->List (Nat × Nat)
 | []=>[]
 | .sref i r _ :: l=>(i,r) :: c8 l
 | .swin i r _ _ _ :: l=>(i,r) :: c8 l
 | _ :: l=>c8 l
def ce (i r:Nat):List (Nat × Nat)->Nat
 | []=>0
 | (a,b) :: l=>bif a.beq i && b.beq r then ce i r l + 1 else ce i r l
def lx (rs:List (Nat × Nat)) (i r:Nat):Bool:=(ce i r rs).ble 1
def lw (look:Look) (rs:List (Nat × Nat)) (c:CA) (k:TV->Prg TV):Prg TV :=
 match c with
 | .t x=>k x
 | .sref i r p=>gK look (.sref i r p) fun x=>k (bif lx rs i r then x else frz x)
 | .swin i r p lo len=>gK look (.swin i r p lo len) fun x=>k (bif lx rs i r then x else frz x)
 | _=>.fail
def ya (look:Look) (rs:List (Nat × Nat)):List CA->(List TV->Prg TV)->Prg TV
 | [],k=>k []
 | c :: l,k=>lw look rs c fun x=>ya look rs l fun xs=>k (x :: xs)
def yE (look:Look) (rs:List (Nat × Nat)) (v:AV) (k:TV->Prg TV):Prg TV :=
 match v with
 | .one c=>lw look rs c k
 | .tv x=>k x
 | .agg cs=>ya look rs cs fun xs=>k (.agg xs)
 | .tups _=>.fail
 | .clo _ _=>.fail
 | .bl b=>k (.lit (.bool b))
def gives (look:Look) (rs:List (Nat × Nat)):List AV->(List TV->Prg TV)->Prg TV
 | [],k=>k []
 | v :: l,k=>yE look rs v fun x=>gives look rs l fun xs=>k (x :: xs)
def AV.DR:AV->List (Nat × Nat)
 | .one c=>c8 [c]
 | .agg cs=>c8 cs
 | _=>[]
def cm:List AV->List (Nat × Nat)
 | []=>[]
 | v :: l=>v.DR ++ cm l
def Bd (T:Tab) (pure:Bool) (rs:List ResultVar) (st:ASt):Prg TV :=
 match iq T st rs with
 | some vs=>gives st.look (cm vs) vs fun xs=>(match xs with
  | [x]=>bif pure then .chk (aD x) (.ret x) else .ret x
  | xs=>bif pure then .chk (bR xs) (.ret (.tup xs)) else .ret (.tup xs))
 | none=>.fail
def lm (look:Look) (rs:List (Nat × Nat)) (i:Nat) (ty:TypeId):List CA->(List TV->Prg TV)->Prg TV
 | [],k=>k []
 | .may j t :: l,k=>bif j.beq i && t.beq ty then lm look rs i ty l (fun xs=>k (lS :: xs)) else .fail
 | c :: l,k=>lw look rs c fun x=>lm look rs i ty l fun xs=>k (x :: xs)
def pm (xs:List TV):TV:=match xs with | [x]=>x | xs=>.tup xs
def BU (T:Tab) (ld:dn) (rs:List ResultVar) (st:ASt):Prg TV :=
 match iq T st rs,st.out with
 | some vs,[.one (.ptr i 0)]=>match st.look i with
  | some (.cells cs)=>gives st.look (cm vs ++ c8 cs) vs fun xs=>lm st.look (cm vs ++ c8 cs) i ld.ty cs fun ys=>.ret (.tup [pm xs,.tup ys])
  | _=>.fail
 | _,_=>.fail
def Dm (T:Tab) (ld:Option dn) (pk pure:Bool) (rs:List ResultVar) (st:ASt):Prg TV :=
 bif pk then .fail else match ld with
 | none=>Bd T pure rs st
 | some ld=>BU T ld rs st
def eu (ld:dn) (ntmps:Nat) (cs args:List TV):ASt :=
 ⟨.one (.ptr 0 0) :: (args.map (fun x => .tv x) ++ List.replicate (ntmps - (args.length + 1)) (.one .undef)),
  some (.cells (eT 0 1 ld.ty ld.fl cs 0)) :: some (.tree (cp ld.fl cs)) :: List.replicate (cL + ntmps) none,[.one (.ptr 0 0)]⟩
def jQ (ntmps:Nat) (cs args:List TV):ASt :=
 ⟨args.map (fun x=>.tv x) ++ (.one (.ref cs 0) :: List.replicate (ntmps - (args.length + 1)) (.one .undef)),List.replicate (cL + ntmps) none,[]⟩
def im (ntmps:Nat) (args:List TV):ASt :=
 ⟨args.map (fun x=>.tv x) ++ List.replicate (ntmps - args.length) (.one .undef),List.replicate (cL + ntmps) none,[]⟩
def CB (T:Tab) (ld:Option dn) (pk pure:Bool) (rs:List ResultVar):AEx->ASt->Prg TV
 | .normal,st=>Dm T ld pk pure rs st
 | .ret,st=>Dm T ld pk pure rs st
 | _,_=>.fail
structure AProg where
 T:Tab
 pure:FuncId->Bool
 rts:FuncId->List TypeId
 fns:FuncId->Option Func
 ann:FuncId->Nat->Option Ann
 jn:FuncId->Nat->Option Ann
 lent:FuncId->Option dn
 selfT:TypeId->Bool
 ext:FuncId->Option (List TV->Option TV)
 opn:FuncId->Bool
 kp:FuncId->Nat->Option (List Nat)
 peek:FuncId->Option (Nat × Nat)
 turn:FuncId->Bool
 mth:TypeId->String->Option (FuncId × Bool)
 eye:FuncId->Bool
 cold:TypeId->Bool
def AProg.env (A:AProg):Env:=⟨A.T,A.pure,A.rts,A.lent,A.selfT,A.peek,A.turn,A.eye,A.cold⟩
def AProg.opens (A:AProg):Opn:=⟨fun f=>bif A.opn f then A.fns f else none,A.ann,A.jn,A.kp,A.mth⟩
def ud:Nat:=8
def rW (A:AProg) (f:FuncId):Nat:=match A.peek f with | some _=>0 | none=>bif (A.lent f).isSome then 1 else 0
noncomputable def eR (A:AProg) (f:FuncId) (rp:List Nat) (st:ASt):Prg TV :=
 match A.fns f with
 | some fn=>goQ A.env A.opens rp.reverse ud (rW A f) fn.ntmps f [] [] (bM fn) (CB A.T (A.lent f) (A.peek f).isSome (A.pure f) fn.results.toList) st
 | none=>.fail
def rH:List TV->Option (List TV × TV)
 | []=>none
 | [x]=>some ([],x)
 | x :: y :: l=>match rH (y :: l) with
  | some (asz,z)=>some (x :: asz,z)
  | none=>none
noncomputable def aY (A:AProg) (f:FuncId) (args:List TV):Prg TV :=
 bif A.turn f || (A.eye f && ((A.peek f).isSome || (A.lent f).isSome)) then .fail else match A.peek f with
 | some c=>.fail
 | none=>match A.fns f with
 | some fn => match A.lent f with
  | none=>bif A.eye f then (match rH args with
   | some (asz,.agg cs)=>bif asz.length.beq fn.params.size && (asz.length + 1).ble fn.ntmps then eR A f [] (jQ fn.ntmps cs asz) else .fail
   | _=>.fail) else bif args.length.beq fn.params.size && args.length.ble fn.ntmps then eR A f [] (im fn.ntmps args) else .fail
  | some ld=>match args with
   | .tup cs :: rest=>bif (rest.length + 1).beq fn.params.size && (rest.length + 1).ble fn.ntmps then .chk (mI ld.fl cs) (eR A f [] (eu ld fn.ntmps cs rest)) else .fail
   | _=>.fail
 | none=>.fail
noncomputable def g9 (A:AProg) (C:FuncId->List TV->Option TV) (f:FuncId):Nat->List Nat->ASt->Option TV
 | 0,_,_=>none
 | n + 1,p,st=>(eR A f p st).run C (g9 A C f n)
noncomputable def acall (A:AProg):Nat->FuncId->List TV->Option TV
 | 0,_,_=>none
 | n + 1,f,args=>match A.ext f with
  | some g=>g args
  | none=>(aY A f args).run (acall A n) (g9 A (acall A n) f n)
end Go.Ab

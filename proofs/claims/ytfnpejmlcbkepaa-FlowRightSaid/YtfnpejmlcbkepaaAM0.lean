import Derived.Calls
import Derived.Laws.Sem
import Derived.KernelRfl
set_option linter.all false
namespace Go.Ab
theorem Cq {α : Type} {i : Nat} {a : α} {l : List α} : l[i]? = some a ↔ ∃ h : i < l.length, l[i] = a := List.getElem?_eq_some_iff
theorem Cr {α : Type} {l : List α} {i : Nat} (h : i < l.length) : l[i]? = some l[i] := List.getElem?_eq_getElem h
theorem Cs {α : Type} (a b : α) : (some a = some b) = (a = b) := Option.some.injEq a b
theorem Cu (a b : Bool) : ((a && b) = true) = (a = true ∧ b = true) := Bool.and_eq_true a b
theorem Cv {α : Type} {xs : Array α} {i : Nat} : xs.toList[i]? = xs[i]? := Array.getElem?_toList
theorem Cw {α : Type} {i : Nat} {b : α} {xs : Array α} : xs[i]? = some b ↔ ∃ h : i < xs.size, xs[i] = b := Array.getElem?_eq_some_iff
theorem Cx {α : Type} {β : Type} {f : α → β} {l : List α} {i : Nat} : (List.map f l)[i]? = Option.map f l[i]? := List.getElem?_map
theorem Cy {α : Type} {a : α} {l : List α} : a ∈ a :: l := List.mem_cons_self
theorem Cz {α : Type} (y : α) {a : α} {l : List α} : a ∈ l → a ∈ y :: l := List.mem_cons_of_mem y
theorem CB {α : Type} {l : List α} {i : Nat} {a : α} : l[i]? = some a → a ∈ l := List.mem_of_getElem?
theorem CC {α : Type} {l m : List α} {i : Nat} : i < l.length → (l ++ m)[i]? = l[i]? := List.getElem?_append_left
theorem CD {α : Type} {l m : List α} {i : Nat} : l.length ≤ i → (l ++ m)[i]? = m[i - l.length]? := List.getElem?_append_right
theorem CE {α : Type} {l : List α} {i : Nat} : l.length ≤ i → l[i]? = none := List.getElem?_eq_none
theorem CG {α : Type} {β : Type} (a : α) (f : α → β) : Option.map f (some a) = some (f a) := Option.map_some a f
theorem CH {α : Type} {l : List α} {i : Nat} {a : α} : l.getD i a = l[i]?.getD a := List.getD_eq_getElem?_getD
theorem CI {α : Type} {xs : Array α} {i : Nat} {d : α} : xs.getD i d = xs[i]?.getD d := Array.getD_eq_getD_getElem?
inductive TV where
 | lit (v:Value)
 | sl (own:Bool) (size:Nat) (xs:List (List TV))
 | agg (cs:List TV)
 | tup (vs:List TV)
 | buf (s:ByteArray) (e:Nat)
 | hole
abbrev Way:=List (Nat × Nat)
inductive CA where
 | t (x:TV)
 | ptr (i off:Nat)
 | ref (x:List TV) (off:Nat)
 | tptr (i r:Nat) (p:Way) (k j:Nat)
 | sref (i r:Nat) (p:Way)
 | swin (i r:Nat) (p:Way) (lo len:Nat)
 | may (i:Nat) (ty:TypeId)
 | aptr (i off len n:Nat)
 | yl (n:Nat)
 | ifp (t:TypeId) (i:Nat)
 | fn1 (f:FuncId) (i:Nat)
 | undef
 | junk
inductive AV where
 | one (c:CA)
 | agg (cs:List CA)
 | tv (x:TV)
 | tups (cs:List (Bool × List CA))
 | bl (b:Bool)
 | clo (f:FuncId) (cs:List CA)
inductive BC where
 | cells (cs:List CA)
 | tree (xs:List TV)
structure ASt where
 slots:List AV
 boxes:List (Option BC)
 out:List AV
inductive Kd where
 | bool | int (k:IntKind) | str | slice (e:TypeId) | struct | arr (n:Nat) (e:TypeId) | other | ptr
structure TyD where
 size:Nat
 bytes:Nat
 kd:Kd
 zero:List Value
 fields:List (Nat × TypeId)
def Kd.isAgg:Kd->Bool
 | .struct=>true
 | .arr _ _=>true
 | _=>false
abbrev Tab:=TypeId->Option TyD
def nth {α:Type} (d:α):List α->Nat->α
 | [],_=>d
 | a :: _,0=>a
 | _ :: l,n + 1=>nth d l n
def am {α:Type}:List α->Nat->α->List α
 | [],_,_=>[]
 | _ :: l,0,b=>b :: l
 | a :: l,n + 1,b=>a :: am l n b
def bz (n:Nat):List Nat->Bool
 | []=>false
 | a :: l=>bif a.beq n then true else bz n l
def qp:List (Nat × TyD)->Tab
 | [],_=>none
 | (k,d) :: r,t=>bif k.beq t then some d else qp r t
def bM {α:Type} (l:List α) (off:Nat):List α->List α
 | []=>l
 | a :: r=>bM (am l off a) (off + 1) r
def kg {α:Type}:List α->Nat->Nat->Option (List α)
 | _,_,0=>some []
 | [],_,_ + 1=>none
 | a :: l,0,n + 1=>match kg l 0 n with
  | some r=>some (a :: r)
  | none=>none
 | _ :: l,o + 1,n + 1=>kg l o (n + 1)
def aJ:Value:=.slice none 0 0
def TV.cell (x:TV) (j:Nat):TV:=match x with | .agg cs=>nth .hole cs j | _=>.hole
def TV.comp (x:TV) (j:Nat):TV:=match x with | .tup cs=>nth .hole cs j | _=>.hole
def TV.isAgg (x:TV) (n:Nat):Bool:=match x with | .agg cs=>cs.length.beq n | _=>false
def TV.isTup (x:TV) (n:Nat):Bool:=match x with | .tup cs=>cs.length.beq n | _=>false
def aZ:Value->Bool
 | .slice none 0 0=>true
 | _=>false
def scV:Value->Bool
 | .slice _ _ _=>false
 | .agg _=>false
 | .tuple _=>false
 | _=>true
def TV.isSc (x:TV):Bool:=match x with | .lit v=>scV v | _=>false
def TV.isSl (x:TV):Bool:=match x with | .lit v=>aZ v | .sl _ _ _=>true | _=>false
def TV.gB (x:TV):Bool:=match x with | .lit _=>true | .sl o _ _=>!o | _=>false
def TV.ir (x:TV):Bool:=match x with | .lit v=>v.oneCell' | .sl _ _ _=>true | _=>false
def TV.lf (x:TV):TV:=match x with | .lit v=>.lit v | _=>.hole
def lfL:List TV->List TV
 | []=>[]
 | x :: l=>x.lf :: lfL l
def ft:List (List TV)->List (List TV)
 | []=>[]
 | x :: l=>lfL x :: ft l
mutual
def frz:TV->TV
 | .lit v=>.lit v
 | .sl _ s xs=>.sl false s (rF xs)
 | .agg cs=>.agg (sk cs)
 | .tup cs=>.tup (sk cs)
 | .buf _ _=>.hole
 | .hole=>.hole
def sk:List TV->List TV
 | []=>[]
 | x :: l=>frz x :: sk l
def rF:List (List TV)->List (List TV)
 | []=>[]
 | x :: l=>sk x :: rF l
end
mutual
def cC:TV->Bool
 | .lit _=>true
 | .sl o _ xs=>o && ly xs
 | .agg cs=>io cs
 | .tup cs=>io cs
 | .buf _ _=>true
 | .hole=>true
def io:List TV->Bool
 | []=>true
 | x :: l=>cC x && io l
def ly:List (List TV)->Bool
 | []=>true
 | x :: l=>io x && ly l
end
def asBool:TV->Option Bool
 | .lit (.bool b)=>some b
 | _=>none
def fnOf:TV->Option Nat
 | .lit (.func (.func f) ts fs)=>bif ts.size.beq 0 && fs.size.beq 0 then some f else none
 | _=>none
def al:TV->Option Nat
 | .lit (.int _ n)=>if 0<=n/\n<=9223372036854775807 then some n.toNat else none
 | _=>none
def cD:Way->TV->Option TV
 | [],x=>some x
 | (k, j) :: p, .sl _ _ xs => match xs[k]? with
  | some e=>match e[j]? with
   | some y=>cD p y
   | none=>none
  | none=>none
 | _ :: _,_=>none
def lc : Way → TV → TV → Option TV
 | [],_,y=>some y
 | (k, j) :: p, .sl true s xs, y => match xs[k]? with
  | some e => match e[j]? with
   | some z=>match lc p z y with
    | some z'=>some (.sl true s (am xs k (am e j z')))
    | none=>none
   | none=>none
  | none=>none
 | _ :: _,_,_=>none
def pel (x:TV) (k:Nat):Option (List TV):=match x with | .sl _ _ xs=>xs[k]? | _=>none
def xi (x:TV) (k j:Nat) (ys:List TV):Option TV :=
 match x with
 | .sl true s xs=>match xs[k]? with
  | some e=>some (.sl true s (am xs k (bM e j ys)))
  | none=>none
 | _=>none
def gY (p:Way) (x:TV) (k j:Nat) (ys:List TV):Option TV :=
 match cD p x with
 | some s=>match xi s k j ys with
  | some s'=>lc p x s'
  | none=>none
 | none=>none
def d7 (lo len:Nat) (x:TV):Option TV :=
 match x with
 | .sl o s xs=>if lo + len<=xs.length then some (.sl o s ((xs.drop lo).take len)) else none
 | .lit (.slice none 0 0)=>if lo=0/\len=0 then some (.lit aJ) else none
 | _=>none
def room:Nat:=4294967296
def Bl (size:Nat) (xs:List (List TV)):TV:=match xs with | []=>.lit aJ | x :: l=>.sl true size (x :: l)
def papp (size:Nat) (x:TV) (news:List (List TV)):Option TV :=
 match x with
 | .lit (.slice none 0 0)=>if news.length<=room then some (Bl size news) else none
 | .sl true s xs=>if s=size/\xs.length + news.length<=room then some (.sl true s (xs ++ news)) else none
 | _=>none
def pcopy (size:Nat) (x:TV) (news:List (List TV)):Option TV :=
 match x with
 | .sl true s xs=>if s=size then some (.sl true s (news.take xs.length ++ xs.drop news.length)) else none
 | .lit (.slice none 0 0)=>some (.lit aJ)
 | _=>none
def slLen (x:TV):Option Nat:=match x with | .sl _ _ xs=>some xs.length | .lit (.slice none 0 0)=>some 0 | _=>none
def slSize (x:TV) (size:Nat):Bool:=match x with | .sl _ s _=>s.beq size | .lit (.slice none 0 0)=>true | _=>false
def ah:List Value->List TV->Nat->Bool
 | [],_,_=>true
 | z :: zs,e,j=>match e[j]? with
  | some c=>(bif aZ z then c.isSl else c.isSc) && ah zs e (j + 1)
  | none=>false
def TV.A8 (x:TV):Bool:=match x with | .hole=>true | _=>false
def gI:List Value->List TV->Nat->Bool
 | [],_,_=>true
 | z :: zs,e,j=>match e[j]? with
  | some c=>(bif aZ z then c.isSl || c.A8 else c.isSc) && gI zs e (j + 1)
  | none=>false
def qF (op:BinOp) (k:IntKind) (a b:Int):Option TV :=
 match op with
 | .add=>some (.lit (.int k (k.wrap (a + b))))
 | .sub=>some (.lit (.int k (k.wrap (a - b))))
 | .mul=>some (.lit (.int k (k.wrap (a * b))))
 | .quo=>if b=0 then none else some (.lit (.int k (k.wrap (a.tdiv b))))
 | .rem=>if b=0 then none else some (.lit (.int k (a.tmod b)))
 | .eql=>some (.lit (.bool (a == b)))
 | .neq=>some (.lit (.bool (a != b)))
 | .lss=>some (.lit (.bool (decide (a < b))))
 | .leq=>some (.lit (.bool (decide (a<=b))))
 | .gtr=>some (.lit (.bool (decide (a > b))))
 | .geq=>some (.lit (.bool (decide (a >= b))))
 | .and=>some (.lit (.int k (k.wrap ((BitVec.ofInt k.bits a &&& BitVec.ofInt k.bits b).toNat))))
 | .or=>some (.lit (.int k (k.wrap ((BitVec.ofInt k.bits a ||| BitVec.ofInt k.bits b).toNat))))
 | _=>none
def wP (op:BinOp) (a b:ByteArray):Option TV :=
 match op with
 | .eql=>some (.lit (.bool (a.toList == b.toList)))
 | .neq=>some (.lit (.bool (!(a.toList == b.toList))))
 | .lss=>some (.lit (.bool (Op.bytesLess a.toList b.toList)))
 | .add=>if ((a.size + b.size:Nat):Int) > IntKind.i64.max then none else some (.lit (.string (a ++ b)))
 | _=>none
def wq (op:BinOp) (b:Bool):Option TV :=
 match op with
 | .eql=>some (.lit (.bool b))
 | .neq=>some (.lit (.bool !b))
 | _=>none
def pbin (kd:Kd) (op:BinOp) (x y:TV):Option TV :=
 match kd,x,y with
 | .int _,.lit (.int k a),.lit (.int k' b)=>if k=k' then qF op k a b else none
 | .bool,.lit (.bool a),.lit (.bool b)=>wq op (a == b)
 | .str,.lit (.string a),.lit (.string b)=>wP op a b
 | .slice _,.lit (.slice none _ _),.lit (.slice none _ _)=>wq op true
 | .slice _,.sl _ _ _,.lit (.slice none _ _)=>wq op false
 | _,_,_=>none
def pun (op:UnOp) (x:TV):Option TV :=
 match op,x with
 | .not,.lit (.bool b)=>some (.lit (.bool !b))
 | .neg,.lit (.int k n)=>some (.lit (.int k (k.wrap (0 - n))))
 | _,_=>none
def pconv (kd:Kd) (x:TV):Option TV :=
 match kd,x with
 | .int k,.lit (.int _ n)=>some (.lit (.int k (k.wrap n)))
 | .str,.lit (.string s)=>some (.lit (.string s))
 | .str,.lit (.int _ n)=>some (.lit (.string (Utf8.encode n)))
 | _,_=>none
def lK (d:TyD):Bool:=match d.kd,d.zero with
 | .int .u8,[.int .u8 0]=>d.size.beq 1 && d.bytes.beq 1
 | _,_=>false
def jo (s:ByteArray):List (List TV):=s.data.toList.map fun b=>[.lit (.int .u8 b.toNat)]
def pbytes (x:TV):Option (List (List TV)):=match x with | .lit (.string s)=>some (jo s) | _=>none
def mL:List (List TV)->Option (List Int)
 | []=>some []
 | [.lit (.int .u8 n)] :: l=>match mL l with
  | some r=>some (n :: r)
  | none=>none
 | _=>none
def Cg (l:List Int):ByteArray:=l.foldl (fun r n=>r.push (UInt8.ofNat n.toNat)) ByteArray.empty
def BZ (rows:List (List TV)):Option TV:=match mL rows with | some l=>some (.lit (.string (Cg l))) | none=>none
def plen (kd:Kd) (x:TV):Option TV :=
 match kd,x with
 | .slice _,.lit (.slice none 0 _)=>some (.lit (.int .i64 0))
 | .str,.lit (.string s)=>some (.lit (.int .i64 s.size))
 | .slice _,.sl _ _ xs=>some (.lit (.int .i64 xs.length))
 | _,_=>none
def pidx (size:Nat) (x i:TV):Option (List TV) :=
 match x,i with
 | .sl _ s xs,.lit (.int _ n)=>if s=size/\0<=n then xs[n.toNat]? else none
 | _,_=>none
def pslice (kd:Kd) (sz:Nat) (x:TV) (lo hi:Option Nat):Option TV :=
 match kd,x with
 | .slice _,.sl o s xs =>
  if s=sz/\lo.getD 0<=hi.getD xs.length/\hi.getD xs.length<=xs.length then some (.sl o s ((xs.drop (lo.getD 0)).take (hi.getD xs.length - lo.getD 0))) else none
 | .slice _,.lit (.slice none 0 0)=>if lo.getD 0=0/\hi.getD 0=0 then some (.lit aJ) else none
 | .str,.lit (.string s) =>
  if lo.getD 0<=hi.getD s.size/\hi.getD s.size<=s.size then some (.lit (.string (s.extract (lo.getD 0) (hi.getD s.size)))) else none
 | _,_=>none
def pstr (x i:TV):Option TV :=
 match x,i with
 | .lit (.string s),.lit (.int _ n)=>if 0<=n then (s[n.toNat]?).map fun b=>.lit (.int .u8 b.toNat) else none
 | _,_=>none
def pelems (size:Nat):TV->Option (List (List TV))
 | .lit (.slice none 0 _)=>some []
 | .sl _ s xs=>if s=size then some xs else none
 | _=>none
inductive Prg (R:Type) where
 | fail
 | ret (r:R)
 | tv (p:Option TV) (k:TV->Prg R)
 | tvs (p:Option (List TV)) (k:List TV->Prg R)
 | rws (p:Option (List (List TV))) (k:List (List TV)->Prg R)
 | nat (p:Option Nat) (k:Nat->Prg R)
 | chk (b:Bool) (k:Prg R)
 | ite (b:Option Bool) (t e:Prg R)
 | call (f:FuncId) (xs:List TV) (k:TV->Prg R)
 | jmp (p:List Nat) (st:ASt)
def Prg.bind {R S:Type} (f:R->Prg S):Prg R->Prg S
 | .fail=>.fail
 | .ret r=>f r
 | .tv p k=>.tv p fun v=>(k v).bind f
 | .tvs p k=>.tvs p fun v=>(k v).bind f
 | .rws p k=>.rws p fun v=>(k v).bind f
 | .nat p k=>.nat p fun v=>(k v).bind f
 | .chk b k=>.chk b (k.bind f)
 | .ite b t e=>.ite b (t.bind f) (e.bind f)
 | .call g xs k=>.call g xs fun v=>(k v).bind f
 | .jmp _ _=>.fail
def Prg.run {R:Type} (C:FuncId->List TV->Option TV) (J:List Nat->ASt->Option R):Prg R->Option R
 | .fail=>none
 | .ret r=>some r
 | .tv p k=>p.bind fun v=>(k v).run C J
 | .tvs p k=>p.bind fun v=>(k v).run C J
 | .rws p k=>p.bind fun v=>(k v).run C J
 | .nat p k=>p.bind fun v=>(k v).run C J
 | .chk b k=>bif b then k.run C J else none
 | .ite b t e=>b.bind fun b=>bif b then t.run C J else e.run C J
 | .call f xs k=>(C f xs).bind fun v=>(k v).run C J
 | .jmp p st=>J p st
inductive Prim where
 | drop (i r:Nat) (js:List Nat) (strict:Bool)
 | root (i r:Nat) (x:TV)
 | frz (i r:Nat)
 | unmay (i:Nat)
 | newB (b:BC)
 | setB (i:Nat) (cs:List CA)
inductive Eff where
 | val (v:AV)
 | new (b:BC) (v:AV)
 | upd (i:Nat) (b:BC) (v:AV)
 | gen (ps:List Prim) (v:AV)
abbrev Out:=Prg Eff
def ASt.ev (st:ASt):Operand->AV
 | .tmp t=>nth (.one .junk) st.slots t
 | .const (.bool b)=>.bl b
 | .const v=>bif v.oneCell' then .one (.t (.lit v)) else .tv (.lit v)
 | .global g=>.tv (.lit (.pointer (some ⟨g,0,none⟩)))
 | .func f=>.tv (.lit (.func (.func f) #[] #[]))
def AV.tv? : AV->Option TV
 | .one (.t x)=>some x
 | .tv x=>some x
 | .bl b=>some (.lit (.bool b))
 | _=>none
abbrev Look:=Nat->Option BC
def CA.kept:CA->Bool
 | .undef=>false
 | .junk=>false
 | _=>true
def AV.aQ {R:Type} (agg:Bool) (n:Nat) (v:AV) (k:List CA->Prg R):Prg R :=
 match agg,v with
 | false,.one c=>bif c.kept then k [c] else .fail
 | false,.tv x=>.chk x.ir (k [.t x])
 | false,.bl b=>k [.t (.lit (.bool b))]
 | false,.clo f [.ptr i 0]=>k [.fn1 f i]
 | true,.agg cs=>bif cs.length.beq n then k cs else .fail
 | true,.tv x=>.chk (x.isAgg n) (k ((List.range n).map fun j=>.t (x.cell j)))
 | _,_=>.fail
def jK {R:Type}:List AV->(List CA->Prg R)->Prg R
 | [],k=>k []
 | v :: l,k=>v.aQ false 1 fun cs=>jK l fun cs'=>k (cs ++ cs')
def cr (agg:Bool):List CA->Option AV
 | []=>bif agg then some (.agg []) else none
 | c :: cs=>bif agg then some (.agg (c :: cs)) else (match cs with | []=>some (.one c) | _=>none)
def mC {R:Type} (p:Way) (x:TV) (k:TV->Prg R):Prg R :=
 match p with
 | []=>k x
 | _=>.tv (cD p x) k
def vk {R:Type} (p:Way) (x y:TV) (k:TV->Prg R):Prg R :=
 match p with
 | []=>k y
 | _=>.tv (lc p x y) k
def br (look:Look) (i r:Nat):Option TV :=
 match look i with
 | some (.tree xs)=>bif r.blt xs.length then some (nth .hole xs r) else none
 | _=>none
def ii {R:Type} (look:Look) (c:CA) (k:TV->Prg R):Prg R :=
 match c with
 | .t x=>k x
 | .sref i r p=>match br look i r with
  | some x=>mC p x k
  | none=>.fail
 | .swin i r p lo len=>match br look i r with
  | some x=>mC p x fun y=>.tv (d7 lo len y) k
  | none=>.fail
 | _=>.fail
def sf {R:Type} (look:Look) (v:AV) (k:TV->Prg R):Prg R :=
 match v with
 | .one c=>ii look c k
 | .tv x=>k x
 | .bl b=>k (.lit (.bool b))
 | _=>.fail
def rN {R:Type} (look:Look) (c:CA) (k:TV->Prg R):Prg R :=
 match c with
 | .t x=>k x
 | .sref i r p=>ii look (.sref i r p) fun x=>k (frz x)
 | .swin i r p lo len=>ii look (.swin i r p lo len) fun x=>k (frz x)
 | _=>.fail
def x7 {R:Type} (look:Look):List CA->(List TV->Prg R)->Prg R
 | [],k=>k []
 | c :: l,k=>rN look c fun x=>x7 look l fun xs=>k (x :: xs)
def rm {R:Type} (look:Look) (v:AV) (k:TV->Prg R):Prg R :=
 match v with
 | .one c=>rN look c k
 | .tv x=>k x
 | .agg cs=>x7 look cs fun xs=>k (.agg xs)
 | .tups _=>.fail
 | .clo _ _=>.fail
 | .bl b=>k (.lit (.bool b))
def lends {R:Type} (look:Look):List AV->(List TV->Prg R)->Prg R
 | [],k=>k []
 | v :: l,k=>rm look v fun x=>lends look l fun xs=>k (x :: xs)
def qX {R:Type} (look:Look) (c:CA) (k:TV->List (Nat × Nat)->Prg R):Prg R :=
 match c with
 | .t x=>k x []
 | .sref i r p => match br look i r with
  | some x=>(match p with
   | []=>k (frz x) [(i,r)]
   | _=>.tv (cD p x) fun y=>.chk y.gB (k y []))
  | none=>.fail
 | .swin i r p lo len => match br look i r with
  | some x=>(match p with
   | []=>.tv (d7 lo len x) fun y=>k (frz y) [(i,r)]
   | _=>.tv (cD p x) fun z=>.tv (d7 lo len z) fun y=>.chk y.gB (k y []))
  | none=>.fail
 | _=>.fail
def x6 {R:Type} (look:Look):List CA->(List TV->List (Nat × Nat)->Prg R)->Prg R
 | [],k=>k [] []
 | c :: l,k=>qX look c fun x r=>x6 look l fun xs rs=>k (x :: xs) (r ++ rs)
def qP {R:Type} (look:Look) (v:AV) (k:TV->List (Nat × Nat)->Prg R):Prg R :=
 match v with
 | .one c=>qX look c k
 | .tv x=>k x []
 | .agg cs=>x6 look cs fun xs rs=>k (.agg xs) rs
 | .tups _=>.fail
 | .clo _ _=>.fail
 | .bl b=>k (.lit (.bool b)) []
def hands {R:Type} (look:Look):List AV->(List TV->List (Nat × Nat)->Prg R)->Prg R
 | [],k=>k [] []
 | v :: l,k=>qP look v fun x r=>hands look l fun xs rs=>k (x :: xs) (r ++ rs)
def tG:List (Nat × Nat)->List Prim
 | []=>[]
 | (i,r) :: l=>.frz i r :: tG l
inductive Fl where
 | sc | sl | may | bf (e:Nat) | any
structure eR where
 ty:TypeId
 fl:List Fl
structure Env where
 T:Tab
 pure:FuncId->Bool
 rts:FuncId->List TypeId
 lent:FuncId->Option eR
 selfT:TypeId->Bool
 peek:FuncId->Option (Nat × Nat)
 turn:FuncId->Bool
 eye:FuncId->Bool
 cold:TypeId->Bool
def CA.add:CA->Nat->Option CA
 | .ptr i off,n=>some (.ptr i (off + n))
 | .ref x off,n=>some (.ref x (off + n))
 | .tptr i r p k j,n=>some (.tptr i r p k (j + n))
 | _,_=>none
def bI {R:Type} (at_:Nat->Option (Nat × Bool × Nat)):List Nat->List AV->List CA->(List CA->Prg R)->Prg R
 | [],[],cs,k=>k cs
 | i :: is,x :: rest,cs,k=>match at_ i with
  | some (off,agg,n)=>x.aQ agg n fun ps=>bif (off + ps.length).ble cs.length && ps.length.beq n then bI at_ is rest (bM cs off ps) k else .fail
  | none=>.fail
 | _,_,_,_=>.fail
def places (T:Tab) (d:TyD) (i:Nat):Option (Nat × Bool × Nat) :=
 match d.kd with
 | .struct => match d.fields[i]? with
  | some (off,ty)=>match T ty with
   | some e=>some (off,e.kd.isAgg,e.size)
   | none=>none
  | none=>none
 | .arr _ e=>match T e with
  | some e=>some (i * e.size,e.kd.isAgg,e.size)
  | none=>none
 | _=>none
def chunks {α:Type} (size:Nat):Nat->List α->List (List α)
 | 0,_=>[]
 | n + 1,l=>l.take size :: chunks size n (l.drop size)
def vt (x:TV):Out:=.ret (.val (.one (.t x)))
def j5:TV->Bool
 | .lit (.slice none 0 0)=>true
 | _=>false
def aD:Way->List Nat
 | []=>[]
 | (_,j) :: p=>j :: aD p
def f8:List Value->Bool
 | []=>false
 | z :: l=>bif aZ z then true else f8 l
def cj {R:Type} (look:Look):List CA->(List TV->List Prim->List (Nat × Nat)->Prg R)->Prg R
 | [],k=>k [] [] []
 | .t x :: l,k=>cj look l fun xs ps ts=>k (x :: xs) ps ts
 | .sref i r p :: l, k => match br look i r with
  | some x=>(match p with
   | []=>cj look l fun xs ps ts=>k (x :: xs) (.drop i r [] false :: .root i r .hole :: ps) ((i,r) :: ts)
   | _=>.tv (cD p x) fun y=>.chk y.gB (cj look l fun xs ps ts=>k (y :: xs) ps ts))
  | none=>.fail
 | .swin i r p lo len :: l, k => match br look i r with
  | some x=>(match p with
   | []=>.tv (d7 lo len x) fun y=>cj look l fun xs ps ts=>k (y :: xs) (.drop i r [] false :: .root i r .hole :: ps) ((i,r) :: ts)
   | _=>.tv (cD p x) fun z=>.tv (d7 lo len z) fun y=>.chk y.gB (cj look l fun xs ps ts=>k (y :: xs) ps ts))
  | none=>.fail
 | _,_=>.fail
def frB (y:TV):Option Bool:=some y.gB
def bR {R:Type} (look:Look):List CA->(List TV->List Prim->List (Nat × Nat)->Prg R)->Prg R
 | [],k=>k [] [] []
 | .t x :: l,k=>bR look l fun xs ps ts=>k (x :: xs) ps ts
 | .sref i r p :: l, k => match br look i r with
  | some x=>(match p with
   | []=>bR look l fun xs ps ts=>k (x :: xs) (.drop i r [] false :: .root i r .hole :: ps) ((i,r) :: ts)
   | _ => .tv (cD p x) fun y => .ite (frB y) (bR look l fun xs ps ts => k (y :: xs) ps ts)
     (.tv (lc p x .hole) fun x'=>bR look l fun xs ps ts=>k (y :: xs) (.drop i r (aD p) false :: .root i r x' :: ps) ((i,r) :: ts)))
  | none=>.fail
 | .swin i r p lo len :: l, k => match br look i r with
  | some x=>(match p with
   | []=>.tv (d7 lo len x) fun y=>bR look l fun xs ps ts=>k (y :: xs) (.drop i r [] false :: .root i r .hole :: ps) ((i,r) :: ts)
   | _=>.tv (cD p x) fun z=>.tv (d7 lo len z) fun y=>.chk y.gB (bR look l fun xs ps ts=>k (y :: xs) ps ts))
  | none=>.fail
 | _,_=>.fail
def fU (i r:Nat):List (Nat × Nat)->Bool
 | []=>false
 | (a,b) :: l=>bif a.beq i && b.beq r then true else fU i r l
def cL:List (Nat × Nat)->Bool
 | []=>true
 | (a,b) :: l=>!fU a b l && cL l
def vc (i:Nat):List (Nat × Nat)->Bool
 | []=>true
 | (a,_) :: l=>bif a.beq i then false else vc i l
def nV (i:Nat):Option Nat->Bool
 | some j=>i.beq j
 | none=>false
def vR {R : Type} (look : Look) (d : TyD) (dest : Option Nat) (x : AV) (k : List (List TV) → List Prim → Prg R) : Prg R :=
 match x.tv? with
 | some x=>.rws (pelems d.size x) fun xs=>k xs []
 | none => match x with
  | .one c => bif f8 d.zero then
    (match c with
    | .sref i r p => match br look i r with
     | some x=>(match p with
      | []=>bif nV i dest then .fail else .rws (pelems d.size x) fun xs=>k xs [.drop i r [] false,.root i r .hole]
      | _=>.tv (cD p x) fun y=>.chk y.gB (.rws (pelems d.size y) fun xs=>k xs []))
     | none=>.fail
    | .swin i r p lo len => match br look i r with
     | some x=>(match p with
      | []=>bif nV i dest then .fail else .tv (d7 lo len x) fun y=>.rws (pelems d.size y) fun xs=>k xs [.drop i r [] false,.root i r .hole]
      | _=>.tv (cD p x) fun z=>.tv (d7 lo len z) fun y=>.chk y.gB (.rws (pelems d.size y) fun xs=>k xs []))
     | none=>.fail
    | _=>.fail)
   else ii look c fun s=>.rws (pelems d.size s) fun xs=>k (ft xs) []
  | _=>.fail
def wi (look:Look) (kd:Kd) (x:AV):Out :=
 match kd with
 | .arr n _=>vt (.lit (.int .i64 n))
 | kd=>sf look x fun s=>.tv (plen kd s) vt
def ct (ps:List Prim) (b:BC) (v:AV):Eff:=match ps with | []=>.new b v | _=>.gen (ps ++ [.newB b]) v
def qK:AV->Option Nat
 | .one (.sref i _ _)=>some i
 | .one (.swin i _ _ _ _)=>some i
 | _=>none
def li (id : Nat) (look : Look) (d : TyD) (s : AV) (news : List (List TV)) (ps : List Prim) : Out :=
 match s.tv? with
 | some s=>bif j5 s then .tv (papp d.size s news) fun y=>.ret (ct ps (.tree [y]) (.one (.sref id 0 []))) else .fail
 | none => match s with
  | .one (.sref i r p) => match br look i r with
   | some x=>(match p with
    | []=>.tv (papp d.size x news) fun y=>.ret (.gen (ps ++ [.drop i r [] false,.root i r y]) (.one (.sref i r [])))
    | _=>.tv (cD p x) fun z=>.tv (papp d.size z news) fun y=>.tv (lc p x .hole) fun x'=>.ret (.gen (ps ++ [.drop i r (aD p) false,.root i r x',.newB (.tree [y])]) (.one (.sref id 0 []))))
   | none=>.fail
  | .one (.swin i r p lo len) => match br look i r with
   | some x=>(match p with
    | []=>.tv (d7 lo len x) fun z=>.tv (papp d.size z news) fun y=>.ret (.gen (ps ++ [.drop i r [] false,.root i r y]) (.one (.sref i r [])))
    | _=>.tv (cD p x) fun z0=>.tv (d7 lo len z0) fun z=>.tv (papp d.size z news) fun y=>.tv (lc p x .hole) fun x'=>.ret (.gen (ps ++ [.drop i r (aD p) false,.root i r x',.newB (.tree [y])]) (.one (.sref id 0 []))))
   | none=>.fail
  | _=>.fail
def mZ (id:Nat) (look:Look) (d:TyD) (s x:AV):Out :=
 bif d.bytes.ble 4096 && Nat.blt 0 d.size then vR look d (qK s) x fun news ps=>li id look d s news ps else .fail
def kJ (id:Nat) (look:Look) (d:TyD) (s x:AV):Out :=
 bif lK d then (match x.tv? with
  | some x=>.rws (pbytes x) fun news=>li id look d s news []
  | none=>.fail) else .fail
def xD (look : Look) (d : TyD) (s x : AV) : Out :=
 vR look d (qK s) x fun news ps =>
 match s with
 | .one (.sref i r p)=>match br look i r with
  | some x => mC p x fun z => .tv (pcopy d.size z news) fun y => vk p x y fun x' => .nat (slLen z) fun n =>
    .ret (.gen (ps ++ [.drop i r (aD p) true,.root i r x']) (.one (.t (.lit (.int .i64 (Nat.min news.length n))))))
  | none=>.fail
 | _=>.fail
def pclear (size:Nat) (z:List TV) (lo len:Nat) (x:TV):Option TV :=
 match x with
 | .sl true s xs=>if s=size/\lo + len<=xs.length then some (.sl true s (xs.take lo ++ (List.replicate len z ++ xs.drop (lo + len)))) else none
 | .lit (.slice none 0 0)=>if len=0 then some (.lit aJ) else none
 | _=>none
def ug (look:Look) (d:TyD) (s:AV):Out :=
 bif Nat.blt 0 d.size then (match s with
 | .one (.swin i r p lo len)=>match br look i r with
  | some x=>mC p x fun z=>.tv (pclear d.size (d.zero.map .lit) lo len z) fun y=>vk p x y fun x'=>.ret (.gen [.drop i r (aD p) true,.root i r x'] (.tups []))
  | none=>.fail
 | _=>.fail) else .fail
def fu (T:Tab) (t:TypeId):Option (TypeId × TyD) :=
 match T t with
 | some ⟨_,_,.slice e,_,_⟩=>match T e with
  | some d=>some (e,d)
  | none=>none
 | _=>none
def pmin (mx:Bool) (x y:TV):Option TV :=
 match x,y with
 | .lit (.int k a),.lit (.int _ b)=>some (.lit (.int k (bif mx then (if b > a then b else a) else (if b < a then b else a))))
 | _,_=>none
def vV (mx:Bool) (x y:AV):Out :=
 match x.tv?,y.tv? with
 | some x,some y=>.tv (pmin mx x y) vt
 | _,_=>.fail
def dO (E:Env) (id:Nat) (look:Look) (b:Builtin) (tys:List TypeId) (args:List AV):Out :=
 match b,args,tys with
 | .len,[x],[ty]=>match E.T ty with
  | some d=>wi look d.kd x
  | none=>.fail
 | .append, [s, x], [ty, ty'] => match fu E.T ty with
  | some (_,d)=>bif ty.beq ty' then mZ id look d s x else (match E.T ty' with
   | some ⟨_,_,.str,_,_⟩=>kJ id look d s x
   | _=>.fail)
  | none=>.fail
 | .copy,[s,x],[ty,ty']=>match fu E.T ty with
  | some (_,d)=>bif ty.beq ty' then xD look d s x else .fail
  | none=>.fail
 | .clear,[s],[ty]=>match fu E.T ty with
  | some (_,d)=>ug look d s
  | none=>.fail
 | .min,[x,y],_=>vV false x y
 | .max,[x,y],_=>vV true x y
 | _,_,_=>.fail
def dC:List CA->Option (List TV)
 | []=>some []
 | .t x :: l=>match dC l with
  | some r=>some (x :: r)
  | none=>none
 | _=>none
def fd {R:Type} (v:Option AV) (k:Option Nat->Prg R):Prg R :=
 match v with
 | none=>k none
 | some v=>match v.tv? with
  | some x=>.nat (al x) fun n=>k (some n)
  | none=>.fail
def jx (d:TyD) (x:List TV) (off:Nat):Out :=
 bif d.kd.isAgg then .chk ((off + d.size).ble x.length) (.ret (.val (.agg ((List.range d.size).map fun j=>.t (nth .hole x (off + j))))))
 else .chk (off.blt x.length) (vt (nth .hole x off))
def fJ (i r:Nat) (p:Way) (k:Nat) (e:List TV):List Value->Nat->List CA
 | [],_=>[]
 | z :: zs,j=>(bif aZ z then .sref i r (p ++ [(k,j)]) else .t (nth .hole e j)) :: fJ i r p k e zs (j + 1)
def pnth (n:Nat) (xs:List TV):Option TV:=xs[n]?
def Bf (n j:Nat) (y x:TV):TV:=bif n.beq j then y else x
def gz (n:Nat) (y:TV):Nat->List TV->List CA
 | _,[]=>[]
 | j,x :: l=>.t (Bf n j y x) :: gz n y (j + 1) l
def tQ (look:Look) (i off len:Nat):Option (List CA × List TV) :=
 match look i with
 | some (.cells cs) => match kg cs off len with
  | some cs1=>match dC cs1 with
   | some xs=>some (cs,xs)
   | none=>none
  | none=>none
 | _=>none
def xH (look : Look) (d : TyD) (a : AV) : Out :=
 match a with
 | .one (.aptr i off len n)=>bif d.kd.isAgg then .fail else (match tQ look i off len with
  | some (_,xs)=>.tv (pnth n xs) vt
  | none=>.fail)
 | .one (.ptr i off) => match look i with
  | some (.cells cs) => match kg cs off (bif d.kd.isAgg then d.size else 1) with
   | some cs=>match cr d.kd.isAgg cs with
    | some v=>.ret (.val v)
    | none=>.fail
   | none=>.fail
  | _=>.fail
 | .one (.ref x off)=>jx d x off
 | .one (.tptr i r p k j) => match br look i r with
  | some x=>mC p x fun s=>.tvs (pel s k) fun e=>.chk (ah d.zero e j) (match cr d.kd.isAgg (fJ i r p k e d.zero j) with
   | some v=>.ret (.val v)
   | none=>.fail)
  | none=>.fail
 | _=>.fail
def j0 (i r:Nat) (js:List Nat):List Value->Nat->List Prim
 | [],_=>[]
 | z :: zs,j=>bif aZ z then .drop i r (js ++ [j]) false :: j0 i r js zs (j + 1) else j0 i r js zs (j + 1)
def bQ (look:Look) (i r:Nat) (x:TV):Option BC :=
 match look i with
 | some (.tree xs)=>some (.tree (am xs r x))
 | _=>none
def tX (look : Look) (d : TyD) (a x : AV) : Out :=
 match a with
 | .one (.aptr i off len n) => bif d.kd.isAgg then .fail else (match tQ look i off len with
  | some (cs,xs)=>x.aQ false 1 fun ps=>(match ps with
   | [.t y]=>.ret (.upd i (.cells (bM cs off (gz n y 0 xs))) (.one .undef))
   | _=>.fail)
  | none=>.fail)
 | .one (.ptr i off)=>x.aQ d.kd.isAgg d.size fun ps=>match look i with
  | some (.cells cs)=>bif (off + ps.length).ble cs.length && ps.length.beq d.size then .ret (.upd i (.cells (bM cs off ps)) (.one .undef)) else .fail
  | _=>.fail
 | .one (.tptr i r p k j) => x.aQ d.kd.isAgg d.size fun ps => match br look i r with
  | some x => bif !(Nat.blt 0 d.size) then .fail else bif f8 d.zero then
    cj look ps fun ys qs ts=>bif cL ts && vc i ts && ys.length.beq d.size then
     mC p x fun s=>.tvs (pel s k) fun e=>.chk (gI d.zero e j && ah d.zero ys 0) (.tv (gY p x k j ys) fun x' =>
      .ret (.gen (qs ++ j0 i r (aD p) d.zero j ++ [.root i r x']) (.one .undef))) else .fail
   else cj look ps fun ys qs _=>(match qs with
    | []=>bif ys.length.beq d.size then mC p x fun s=>.tvs (pel s k) fun e=>.chk (ah d.zero e j) (.tv (gY p x k j ys) fun x'=>(match bQ look i r x' with
     | some b=>.ret (.upd i b (.one .undef))
     | none=>.fail)) else .fail
    | _=>.fail)
  | none=>.fail
 | _=>.fail
def Kd.yb:Kd->Bool
 | .slice _=>true
 | _=>false
def Bc (look:Look) (kd:Kd) (op:BinOp) (x y:AV):Out :=
 bif kd.yb then sf look x fun x=>sf look y fun y=>.tv (pbin kd op x y) vt
 else match x.tv?,y.tv? with
 | some x,some y=>.tv (pbin kd op x y) vt
 | _,_=>.fail
def mw (k:IntKind):List TV->Option (List Int)
 | []=>some []
 | .lit (.int k' n) :: l=>if k=k' then (match mw k l with
  | some r=>some (n :: r)
  | none=>none) else none
 | _=>none
def peqL (k:IntKind) (op:BinOp) (xs ys:List TV):Option TV :=
 match mw k xs,mw k ys with
 | some a,some b=>wq op (a == b)
 | _,_=>none
def sR:AV->Option Bool
 | .one (.ptr _ _)=>some true
 | .one (.ref _ _)=>some true
 | .one (.tptr _ _ _ _ _)=>some true
 | .one (.aptr _ _ _ _)=>some true
 | .one (.t (.lit (.pointer none)))=>some false
 | .tv (.lit (.pointer none))=>some false
 | _=>none
def BI (op:BinOp) (x y:AV):Out :=
 match op,sR x,sR y with
 | .eql,some a,some false=>.ret (.val (.bl !a))
 | .neq,some a,some false=>.ret (.val (.bl a))
 | _,_,_=>.fail
def BH (T:Tab) (look:Look) (kd:Kd) (op:BinOp) (x y:AV):Out :=
 match kd with
 | .arr len e => match T e with
  | some ⟨1,_,.int k,_,_⟩=>x.aQ true len fun cs=>y.aQ true len fun cs'=>(match dC cs,dC cs' with
   | some xs,some ys=>.tv (peqL k op xs ys) vt
   | _,_=>.fail)
  | _=>.fail
 | .ptr=>BI op x y
 | kd=>Bc look kd op x y
def ie (look : Look) (kd : Kd) (sz : Nat) (x : AV) (lo hi : Option AV) : Out :=
 match x.tv? with
 | some x=>fd lo fun lo=>fd hi fun hi=>.tv (pslice kd sz x lo hi) vt
 | none => match kd, x with
  | .slice _, .one (.sref i r p) => ii look (.sref i r p) fun s => .nat (slLen s) fun n => fd lo fun lo => fd hi fun hi =>
    .chk (slSize s sz && (lo.getD 0).ble (hi.getD n) && (hi.getD n).ble n) (.ret (.val (.one (.swin i r p (lo.getD 0) (hi.getD n - lo.getD 0)))))
  | .slice _, .one (.swin i r p lo0 n) => match lo with
   | none=>ii look (.sref i r p) fun s=>fd hi fun hi=>.chk (slSize s sz && (hi.getD n).ble n) (.ret (.val (.one (.swin i r p lo0 (hi.getD n)))))
   | some _=>ii look (.sref i r p) fun s=>fd lo fun lo=>fd hi fun hi =>
    .chk (lo0.beq 0 && slSize s sz && (lo.getD 0).ble (hi.getD n) && (hi.getD n).ble n) (.ret (.val (.one (.swin i r p (lo.getD 0) (hi.getD n - lo.getD 0)))))
  | _,_=>.fail
def ow (look:Look) (d:TyD) (x i:AV):Out :=
 match i.tv? with
 | some i => match x.tv? with
  | some x=>.tvs (pidx d.size x i) fun el=>.ret (.val (.one (.ref el 0)))
  | none=>match x with
   | .one (.sref b r p)=>ii look (.sref b r p) fun s=>.nat (slLen s) fun n=>.nat (al i) fun k=>.chk (slSize s d.size && k.blt n) (.ret (.val (.one (.tptr b r p k 0))))
   | .one (.swin b r p lo n)=>ii look (.sref b r p) fun s=>.nat (al i) fun k=>.chk (slSize s d.size && k.blt n) (.ret (.val (.one (.tptr b r p (lo + k) 0))))
   | _=>.fail
 | none=>.fail
def pT (T:Tab) (t:TypeId) (x i:AV):Out :=
 match T t with
 | some ⟨_,_,.arr len e,_,_⟩=>match T e,x,i.tv? with
  | some d,.one (.ptr b off),some i=>bif !d.kd.isAgg && d.size.beq 1 then .nat (al i) fun k=>.chk (k.blt len) (.ret (.val (.one (.aptr b off len k)))) else .fail
  | _,_,_=>.fail
 | _=>.fail
def pV (T:Tab) (t:TypeId) (x i:AV):Out :=
 match T t with
 | some ⟨_, _, .arr len e, _, _⟩ => match T e, x, i.tv? with
  | some d,.agg cs,some i=>bif !d.kd.isAgg && d.size.beq 1 then (match dC cs with
   | some xs=>.nat (al i) fun k=>.chk (k.blt len) (.tv (pnth k xs) vt)
   | none=>.fail) else .fail
  | _,_,_=>.fail
 | _=>.fail
def tU (d:TyD) (off:Nat) (agg:Bool) (n:Nat) (x:AV):Out :=
 match x with
 | .agg cs => match kg cs off (bif agg then n else 1) with
  | some cs=>match cr agg cs with
   | some v=>.ret (.val v)
   | none=>.fail
  | none=>.fail
 | .tv x => .chk (x.isAgg d.size && (off + n).ble d.size && Nat.blt 0 n)
   (.ret (.val (bif agg then .agg ((List.range n).map fun j=>.t (x.cell (off + j))) else .one (.t (x.cell off)))))
 | _=>.fail
def kF (T:Tab):Kd->Bool
 | .struct=>true
 | .arr _ e=>(T e).isSome
 | _=>false
def p9 (T:Tab):Kd->Option Nat
 | .slice e=>match T e with
  | some d=>some d.size
  | none=>none
 | _=>some 0
def TV.cellsL (agg:Bool) (x:TV):List TV:=match agg,x with
 | true,.agg cs=>cs
 | true,_=>[]
 | false,x=>[x]
def dI (id r0:Nat):List Value->TV->Bool->Nat->List CA
 | [],_,_,_=>[]
 | z :: zs,x,agg,j=>(bif aZ z then .sref id (r0 + j) [] else .t (bif agg then x.cell j else x)) :: dI id r0 zs x agg (j + 1)
def dg:List Value->TV->Bool->Nat->List TV
 | [],_,_,_=>[]
 | z :: zs,x,agg,j=>(bif aZ z then (bif agg then x.cell j else x) else .hole) :: dg zs x agg (j + 1)
def iM {R:Type} (d:TyD) (x:TV) (k:Prg R):Prg R :=
 bif d.kd.isAgg then .chk (x.isAgg d.size && ah d.zero (x.cellsL true) 0) k else .chk (ah d.zero (x.cellsL false) 0) k
def kB (T:Tab):List TypeId->Option (List TyD)
 | []=>some []
 | t :: l=>match T t,kB T l with
  | some d,some ds=>some (d :: ds)
  | _,_=>none
def fK {R:Type} (x:TV):List TyD->Nat->Prg R->Prg R
 | [],_,k=>k
 | d :: l,j,k=>iM d (x.comp j) (fK x l (j + 1) k)
def dp (id:Nat) (x:TV):List TyD->Nat->Nat->List (Bool × List CA)
 | [],_,_=>[]
 | d :: l,j,r0=>(d.kd.isAgg,dI id r0 d.zero (x.comp j) d.kd.isAgg 0) :: dp id x l (j + 1) (r0 + d.zero.length)
def ba (x:TV):List TyD->Nat->List TV
 | [],_=>[]
 | d :: l,j=>dg d.zero (x.comp j) d.kd.isAgg 0 ++ ba x l (j + 1)
def gk:List TyD->Bool
 | []=>false
 | d :: l=>bif f8 d.zero then true else gk l
def sg (id:Nat) (ds:List TyD) (v:TV) (ps:List Prim):Out :=
 match ds with
 | [d]=>iM d v (match cr d.kd.isAgg (dI id 0 d.zero v d.kd.isAgg 0) with
  | some av=>bif f8 d.zero then .ret (ct ps (.tree (dg d.zero v d.kd.isAgg 0)) av) else .ret (match ps with | []=>.val av | _=>.gen ps av)
  | none=>.fail)
 | ds => .chk (v.isTup ds.length) (fK v ds 0 (bif gk ds then .ret (ct ps (.tree (ba v ds 0)) (.tups (dp id v ds 0 0)))
   else .ret (match ps with | []=>.val (.tups (dp id v ds 0 0)) | _=>.gen ps (.tups (dp id v ds 0 0)))))
def TV.wg (x:TV) (e:Nat):Bool:=match x with | .buf _ e'=>e'.beq e | _=>false
def TV.ea (x:TV):Bool:=match x with | .tup []=>true | _=>false
def BU:TV:=.tup []
def mU:List Fl->List TV->Bool
 | [],[]=>true
 | f :: fl,x :: xs=>(match f with | .sc=>x.isSc | .sl=>x.isSl | .may=>x.ea | .bf e=>x.wg e | .any=>x.gB) && mU fl xs
 | _,_=>false
def fE (i t:Nat) (ty:TypeId):List Fl->List TV->Nat->List CA
 | f :: fl,x :: xs,r=>(match f with | .sc=>.t x | .sl=>.sref t r [] | .may=>.may i ty | .bf _=>.sref t r [] | .any=>.t x) :: fE i t ty fl xs (r + 1)
 | _,_,_=>[]
def cB:List Fl->List TV->List TV
 | f :: fl,x :: xs=>(match f with | .sl=>x | .bf _=>x | _=>.hole) :: cB fl xs
 | _,_=>[]
def jQ (self:Bool) (id:Nat) (e:TypeId) (zs:List Value):List CA :=
 match self,zs with
 | true,.pointer none :: l=>.may id e :: l.map fun v=>.t (.lit v)
 | _,zs=>zs.map fun v=>.t (.lit v)
def CA.Co:CA->CA
 | .may _ _=>.t .hole
 | c=>c
def unMays:List CA->List CA
 | []=>[]
 | c :: l=>c.Co :: unMays l
def mo (i:Nat) (ty:TypeId):List Fl->List CA->Bool
 | [],[]=>true
 | f :: fl,c :: cs=>(match f,c with | .may,.may j t=>j.beq i && t.beq ty | .may,_=>false | _,.may _ _=>false | _,_=>true) && mo i ty fl cs
 | _,_=>false
def Cf (e:Nat) (x:TV):TV:=bif j5 x then .buf .empty e else x
def iO:List Fl->List TV->List TV
 | f :: fl,x :: xs=>(match f with | .may=>BU | .bf e=>Cf e x | _=>x) :: iO fl xs
 | _,_=>[]
def junks:List CA->List CA
 | []=>[]
 | _ :: l=>.junk :: junks l
def fL (v:TV):Nat->Nat->List TV
 | 0,_=>[]
 | n + 1,j=>v.comp j :: fL v n (j + 1)
def Al (id:Nat) (ds:List TyD) (v:TV) (k:AV->Out):Out :=
 match ds with
 | [d]=>iM d v (match cr d.kd.isAgg (dI id 0 d.zero v d.kd.isAgg 0) with | some av=>k av | none=>.fail)
 | ds=>.chk (v.isTup ds.length) (fK v ds 0 (k (.tups (dp id v ds 0 0))))
def nE (E : Env) (id : Nat) (look : Look) (f : FuncId) (ld : eR) (vs : List AV) : Out :=
 match vs with
 | .one (.ptr i 0) :: rest => match look i, kB E.T (E.rts f) with
  | some (.cells cs), some ds => bif gk ds || !mo i ld.ty ld.fl cs then .fail else
   hands look rest fun xs rs=>cj look (unMays cs) fun ys qs ts=>bif cL (ts ++ rs) then
    .chk (mU ld.fl (iO ld.fl ys)) (.call f (.tup (iO ld.fl ys) :: xs) fun v=>.chk (v.isTup 2 && (v.comp 1).isTup ld.fl.length && mU ld.fl (fL (v.comp 1) ld.fl.length 0))
     (Al id ds (v.comp 0) fun av => .ret (.gen (qs ++ (tG rs ++ [.setB i (junks cs), .unmay i, .newB (.tree (cB ld.fl (fL (v.comp 1) ld.fl.length 0))),
      .setB i (fE i id ld.ty ld.fl (fL (v.comp 1) ld.fl.length 0) 0)])) av)))
   else .fail
  | _,_=>.fail
 | _=>.fail
def sU:TV->TV
 | .lit v=>.lit v
 | .agg cs=>.agg (lfL cs)
 | _=>.hole
def gE:List TV->List TV
 | []=>[]
 | x :: l=>sU x :: gE l
def nH (look:Look) (f:FuncId) (c:Nat × Nat) (vs:List AV):Out :=
 match vs with
 | .one (.ptr i 0) :: rest => match look i with
  | some (.cells cs)=>match nth .junk cs c.1 with
   | .t x=>bif cs.length.beq c.2 then lends look rest fun xs=>.call f (x :: gE xs) fun v=>.ret (.val (.tv v)) else .fail
   | _=>.fail
  | _=>.fail
 | _=>.fail
def pput (lo:Nat) (y z:TV):Option TV :=
 match y,z with
 | .sl true s xs,.sl true s' ws=>if s=s'/\lo + ws.length<=xs.length then some (.sl true s (xs.take lo ++ (ws ++ xs.drop (lo + ws.length)))) else none
 | .lit (.slice none 0 0),.lit (.slice none 0 0)=>if lo=0 then some (.lit aJ) else none
 | _,_=>none
def kT (look:Look) (f:FuncId) (vs:List AV):Out :=
 match vs with
 | .one (.sref i r p) :: rest=>match br look i r with
  | some x=>mC p x fun z=>lends look rest fun xs=>.call f (z :: gE xs) fun v=>.tv (pput 0 z v) fun y=>vk p x y fun x'=>.ret (.gen [.drop i r (aD p) true,.root i r x'] (.tups []))
  | none=>.fail
 | .one (.swin i r p lo len) :: rest=>match br look i r with
  | some x=>mC p x fun z=>.tv (d7 lo len z) fun z1=>lends look rest fun xs=>.call f (z1 :: gE xs) fun v=>.tv (pput lo z v) fun y=>vk p x y fun x'=>.ret (.gen [.drop i r (aD p) true,.root i r x'] (.tups []))
  | none=>.fail
 | _=>.fail
def pifc (t:TypeId) (x:TV):Option TV:=match x with | .lit v=>if scV v=true then some (.lit (.iface t v)) else none | _=>none
def pasrt (t:TypeId) (x:TV):Option TV:=match x with | .lit (.iface t' v)=>if t'=t/\scV v=true then some (.lit v) else none | _=>none
def Kd.kf:Kd->Bool
 | .bool=>true
 | .int _=>true
 | .str=>true
 | .ptr=>true
 | _=>false
def A5 (d:TyD) (t:TypeId) (x:AV):Out :=
 bif d.kd.kf then (match x with
 | .one (.ptr i 0)=>.ret (.val (.one (.ifp t i)))
 | x=>match x.tv? with
  | some x=>.tv (pifc t x) vt
  | none=>.fail) else .fail
def tB (d:TyD) (t:TypeId) (x:AV):Out :=
 bif d.kd.kf then (match x.tv? with
  | some x=>.tv (pasrt t x) vt
  | none=>.fail) else .fail
def lR (E:Env) (id:Nat) (look:Look) (f:FuncId) (vs:List AV):Out :=
 match E.peek f with
 | some c=>nH look f c vs
 | none=>match E.lent f with
 | some ld=>nE E id look f ld vs
 | none=>match kB E.T (E.rts f) with
 | some ds=>bif E.pure f || !gk ds then lends look vs fun xs=>.call f xs fun v=>sg id ds v []
  else hands look vs fun xs rs=>bif cL rs then .call f xs fun v=>sg id ds v (tG rs) else .fail
 | none=>.fail
def uV (E:Env) (id:Nat) (look:Look) (f:FuncId) (i:Nat) (vs:List AV):Out :=
 bif E.eye f && !E.turn f then (match look i,kB E.T (E.rts f) with
 | some (.cells cs),some ds=>(match dC cs with
  | some xs=>lends look vs fun ys=>.call f (gE ys ++ [.agg xs]) fun v=>sg id ds v []
  | none=>.fail)
 | _,_=>.fail) else .fail
def xN (T:Tab) (look:Look) (ds d:TyD) (x:AV):Out :=
 match ds.kd,d.kd with
 | .slice e,.str=>match T e with
  | some de=>bif lK de then sf look x fun y=>.rws (pelems 1 y) fun rows=>.tv (BZ rows) vt else .fail
  | none=>.fail
 | _,kd=>match x.tv? with
  | some x=>.tv (pconv kd x) vt
  | none=>.fail
def rq (E:Env) (t:TypeId) (len:Nat) (parts:Array (Nat × Operand)) (vs:List AV):Out :=
 match fu E.T t with
 | some (_, d) =>
  bI (fun i=>some (i * d.size,d.kd.isAgg,d.size)) (parts.toList.map (·.1)) vs ((List.replicate len d.zero).flatten.map fun v=>.t (.lit v)) fun cs =>
   (match dC cs with
   | some ys=>bif (len * d.size).ble 16777216 && ys.length.beq (len * d.size) && Nat.blt 0 d.size then .ret (.new (.tree [.hole]) (.one (.t (.sl false d.size (chunks d.size len ys))))) else .fail
   | none=>.fail)
 | none=>.fail
def gZ (E : Env) (id : Nat) (look : Look) (t : TypeId) (len : Nat) (parts : Array (Nat × Operand)) (vs : List AV) : Out :=
 match fu E.T t with
  | some (_, d) =>
   bI (fun i=>some (i * d.size,d.kd.isAgg,d.size)) (parts.toList.map (·.1)) vs ((List.replicate len d.zero).flatten.map fun v=>.t (.lit v)) fun cs =>
    bR look cs fun ys qs ts=>bif cL ts && (len * d.size).ble 16777216 && ys.length.beq (len * d.size) && Nat.blt 0 d.size then
     .ret (ct qs (.tree [.sl true d.size (chunks d.size len ys)]) (.one (.sref id 0 []))) else .fail
  | none=>.fail
def opL (E : Env) (id : Nat) (look : Look) (op : Op) (vs : List AV) : Out :=
 match op,vs with
 | .move _,[x]=>.ret (.val x)
 | .assign _,[x]=>.ret (.val x)
 | .pick _ _ _,[c,a,b]=>match c with
  | .bl c=>.ret (.val (bif c then a else b))
  | .tv v=>.ite (asBool v) (.ret (.val a)) (.ret (.val b))
  | .one (.t v)=>.ite (asBool v) (.ret (.val a)) (.ret (.val b))
  | _=>.fail
 | .alloc e,[]=>match E.T e with
  | some d=>.ret (.new (.cells (jQ (E.selfT e) id e d.zero)) (.one (.ptr id 0)))
  | none=>.fail
 | .box e _,[x]=>match E.T e with
  | some d=>x.aQ d.kd.isAgg d.size fun cs=>.ret (.new (.cells cs) (.one (.ptr id 0)))
  | none=>.fail
 | .build t parts,vs=>match E.T t with
  | some d=>bif kF E.T d.kd then bI (places E.T d) (parts.toList.map (·.1)) vs (d.zero.map fun v=>.t (.lit v)) fun cs=>.ret (.val (.agg cs)) else .fail
  | none=>.fail
 | .buildSlice t len parts,vs=>bif E.cold t && !(len.beq 0) then rq E t len parts vs else gZ E id look t len parts vs
 | .load t _,[a]=>match E.T t with
  | some d=>xH look d a
  | none=>.fail
 | .store t _ _,[a,x]=>match E.T t with
  | some d=>tX look d a x
  | none=>.fail
 | .nilCheck _,[x]=>match x with
  | .one (.ptr i off)=>.ret (.val (.one (.ptr i off)))
  | .one (.ref x off)=>.ret (.val (.one (.ref x off)))
  | .one (.tptr i r p k j)=>.ret (.val (.one (.tptr i r p k j)))
  | .one (.aptr i off len n)=>.ret (.val (.one (.aptr i off len n)))
  | _=>.fail
 | .binOp op xt _ _ _,[x,y]=>match E.T xt with
  | some d=>BH E.T look d.kd op x y
  | none=>.fail
 | .unOp op _ _, [x] => match op, x with
  | .not,.bl b=>.ret (.val (.bl (!b)))
  | op,x=>match x.tv? with
   | some x=>.tv (pun op x) vt
   | none=>.fail
 | .convert sty dt _,[x]=>match E.T sty,E.T dt with
  | some ds,some d=>xN E.T look ds d x
  | _,_=>.fail
 | .makeSlice t _ _,[l,c]=>match fu E.T t,l.tv?,c.tv? with
  | some (_,d),some l,some c=>bif d.bytes.ble 4096 then .nat (al l) fun n=>.nat (al c) fun m=>.chk (n.ble m && m.ble room)
     (.ret (.new (.tree [.sl true d.size (List.replicate n (d.zero.map .lit))]) (.one (.sref id 0 [])))) else .fail
  | _,_,_=>.fail
 | .slice t _ lo hi none, x :: rest => match E.T t with
  | some d => match p9 E.T d.kd with
   | some sz=>match lo,hi,rest with
    | none,none,[]=>ie look d.kd sz x none none
    | some _,none,[l]=>ie look d.kd sz x (some l) none
    | none,some _,[h]=>ie look d.kd sz x none (some h)
    | some _,some _,[l,h]=>ie look d.kd sz x (some l) (some h)
    | _,_,_=>.fail
   | none=>.fail
  | none=>.fail
 | .fieldAddr s _ f, [x] => match E.T s, x with
  | some d,.one c=>match d.kd,places E.T d f with
   | .struct,some (off,_,n)=>bif Nat.blt 0 n then (match c.add off with | some c=>.ret (.val (.one c)) | none=>.fail) else .fail
   | _,_=>.fail
  | _,_=>.fail
 | .field s _ f, [x] => match E.T s with
  | some d=>match d.kd,places E.T d f with
   | .struct,some (off,agg,n)=>tU d off agg n x
   | _,_=>.fail
  | none=>.fail
 | .indexAddr t _ _,[x,i]=>match fu E.T t with
  | some (_,d)=>ow look d x i
  | none=>pT E.T t x i
 | .index t _ _,[x,i]=>match E.T t,x.tv?,i.tv? with
  | some ⟨_,_,.str,_,_⟩,some x,some i=>.tv (pstr x i) vt
  | _,_,_=>pV E.T t x i
 | .extract _ j, [x] => match x with
  | .tups cs => match cs[j]? with
   | some (agg,c)=>match cr agg c with
    | some v=>.ret (.val v)
    | none=>.fail
   | none=>.fail
  | _=>.fail
 | .makeFunc (.func f) first _,vs=>bif first.size.beq 0 then jK vs fun cs=>.ret (.val (.clo f cs)) else .fail
 | .call ⟨.builtin b,_,tys⟩,vs=>dO E id look b tys.toList vs
 | .makeInterface t _,[x]=>match E.T t with
  | some d=>A5 d t x
  | none=>.fail
 | .typeAssert _ _ t false,[x]=>match E.T t with
  | some d=>tB d t x
  | none=>.fail
 | .call ⟨.value (.func f),_,_⟩,_ :: vs=>bif E.turn f then kT look f vs else bif E.eye f then .fail else lR E id look f vs
 | .call ⟨.value (.tmp _), _, _⟩, fv :: vs => match fv.tv? with
  | some x=>.nat (fnOf x) fun f=>.chk ((E.lent f).isNone && (E.peek f).isNone && !(E.turn f || E.eye f)) (lends look vs fun xs=>.call f xs fun v=>.chk v.isSc (vt v))
  | none=>match fv with
   | .one (.fn1 f i)=>uV E id look f i vs
   | _=>.fail
 | _,_=>.fail
def cG:Nat:=24
def ASt.nid (st:ASt) (d:Option Tmp):Nat:=match d with | some d=>cG + st.out.length + d | none=>0
def ASt.put (st:ASt) (d:Option Tmp) (v:AV):ASt :=
 match d with
 | some d=>⟨am st.slots d v,st.boxes,st.out⟩
 | none=>st
def ASt.look (st:ASt):Look:=fun i=>nth none st.boxes i
def ASt.ab (st:ASt) (i:Nat) (b:Option BC):ASt:=⟨st.slots,am st.boxes i b,st.out⟩
def leads:Bool->List Nat->Way->Bool
 | strict,[],p=>match p with | []=>!strict | _=>true
 | _,_ :: _,[]=>false
 | strict,a :: l,(_,j) :: p=>a.beq j && leads strict l p
def cW (i r:Nat) (js:List Nat) (strict:Bool) (i' r':Nat) (p:Way):Bool:=i.beq i' && r.beq r' && leads strict js p
def CA.drop (i r:Nat) (js:List Nat) (strict:Bool) (c:CA):CA :=
 match c with
 | .tptr i' r' p _ _=>bif cW i r js strict i' r' p then .junk else c
 | .sref i' r' p=>bif cW i r js strict i' r' p then .junk else c
 | .swin i' r' p _ _=>bif cW i r js strict i' r' p then .junk else c
 | c=>c
def mapC (f:CA->CA):List CA->List CA
 | []=>[]
 | c :: l=>f c :: mapC f l
def iK (f:CA->CA):List (Bool × List CA)->List (Bool × List CA)
 | []=>[]
 | (b,cs) :: l=>(b,mapC f cs) :: iK f l
def AV.bG (f:CA->CA):AV->AV
 | .one c=>.one (f c)
 | .agg cs=>.agg (mapC f cs)
 | .tups cs=>.tups (iK f cs)
 | .tv x=>.tv x
 | .bl b=>.bl b
 | .clo n cs=>.clo n (mapC f cs)
def bK (f:CA->CA):List AV->List AV
 | []=>[]
 | v :: l=>v.bG f :: bK f l
def BC.bd (f:CA->CA):BC->BC
 | .cells cs=>.cells (mapC f cs)
 | b=>b
def dE (f:CA->CA):List (Option BC)->List (Option BC)
 | []=>[]
 | some b :: l=>some (b.bd f) :: dE f l
 | none :: l=>none :: dE f l
def ASt.aq (f:CA->CA) (st:ASt):ASt:=⟨bK f st.slots,dE f st.boxes,bK f st.out⟩
def CA.unM (i:Nat):CA->CA
 | .may j ty=>bif j.beq i then .junk else .may j ty
 | c=>c
def ASt.bg (st:ASt) (i:Nat) (b:BC):Option ASt :=
 match st.look i with
 | some _=>none
 | none=>bif i.blt st.boxes.length then some (st.ab i (some b)) else none
def Prim.app (st:ASt) (d:Option Tmp):Prim->Option ASt
 | .drop i r js strict=>some (st.aq (CA.drop i r js strict))
 | .root i r x=>match bQ st.look i r x with
  | some b=>some (st.ab i (some b))
  | none=>none
 | .frz i r => match br st.look i r with
  | some x=>match bQ st.look i r (Ab.frz x) with
   | some b=>some (st.ab i (some b))
   | none=>none
  | none=>none
 | .unmay i=>some (st.aq (CA.unM i))
 | .newB b=>match d with
  | some d=>st.bg (st.nid (some d)) b
  | none=>none
 | .setB i cs=>match st.look i with
  | some (.cells _)=>some (st.ab i (some (.cells cs)))
  | _=>none
def ac (d:Option Tmp):List Prim->ASt->Option ASt
 | [],st=>some st
 | p :: l,st=>match p.app st d with
  | some st=>ac d l st
  | none=>none
def Eff.app (st:ASt) (d:Option Tmp):Eff->Option ASt
 | .val v=>some (st.put d v)
 | .new b v => match d with
  | none=>none
  | some d=>match st.bg (st.nid (some d)) b with
   | some st=>some (st.put (some d) v)
   | none=>none
 | .upd i b v=>some ((st.ab i (some b)).put d v)
 | .gen ps v=>match ac d ps st with
  | some st=>some (st.put d v)
  | none=>none
def banned (ban:List Nat) (look:Look):Look:=fun i=>bif bz i ban then none else look i
inductive Cls where
 | N | R | A | B | W | P | X
def ak:Op->Cls
 | .move _ | .assign _ | .pick _ _ _ | .build _ _ | .nilCheck _ | .unOp _ _ _ | .fieldAddr _ _ _ | .field _ _ _ | .index _ _ _ | .extract _ _ | .makeFunc _ _ _ | .makeInterface _ _ | .typeAssert _ _ _ _=>.N
 | .load _ _ | .binOp _ _ _ _ _ | .slice _ _ _ _ _ | .indexAddr _ _ _ | .convert _ _ _=>.R
 | .alloc _ | .box _ _ | .makeSlice _ _ _=>.A
 | .call ⟨.builtin .len,_,_⟩=>.R
 | .call ⟨.builtin .min,_,_⟩=>.R
 | .call ⟨.builtin .max,_,_⟩=>.R
 | .call ⟨.value (.func _),_,_⟩=>.B
 | .call ⟨.value (.tmp _),_,_⟩=>.B
 | .buildSlice _ _ _=>.B
 | .store _ _ _=>.W
 | .call ⟨.builtin .append,_,_⟩=>.P
 | _=>.X
def Cls.isX:Cls->Bool
 | .X=>true
 | _=>false
def Cls.makes:Cls->Bool
 | .A=>true
 | .B=>true
 | .P=>true
 | _=>false
def Cls.reads:Cls->Bool
 | .R=>true
 | .B=>true
 | .W=>true
 | .P=>true
 | _=>false
def jA:Cls->Cls->Bool
 | .X,_=>false
 | _,.X=>false
 | .P,.P=>false
 | .P,.W=>false
 | .W,.P=>false
 | _,_=>true
def cA:List Operand->List Nat
 | []=>[]
 | .tmp t :: l=>t :: cA l
 | _ :: l=>cA l
def nO (ops:List Oper) (o:Oper):List Nat :=
 match o.guard with
 | some (j,_)=>(match (ops[j]?).bind (·.dst) with | some g=>[g] | none=>[])
 | none=>[]
def looks (ops:List Oper) (o:Oper):List Nat:=nO ops o ++ cA o.op.operands.toList
def dn (d:Option Nat) (l:List Nat):Bool :=
 match d with
 | some d=>!bz d l
 | none=>true
def ap (o:Op):Option Nat:=match ak o,o.operands.toList with
 | .P,.tmp s :: _=>some s
 | _,_=>none
def Eff.plain:Eff->Bool
 | .val _=>true
 | .new _ _=>true
 | .upd _ _ _=>true
 | _=>false
structure Item where
 o:Oper
 ban:List Nat × List Nat
 dr:Bool
 own:List (List Nat × List Nat)
 push:List Nat
 root:Nat
 loose:Bool
 shut:Bool
 lds:List (List Nat × List Nat)
 dull:List Nat
 dull2:List Nat
def aM (b:List Nat × List Nat) (base:Nat):List Nat:=b.1.map (base + ·) ++ b.2.map (· / 2)
def Eff.lZ (base:Nat) (own:List (List Nat × List Nat)):Eff->Bool
 | .upd i _ _=>own.all fun l=>bz i (aM l base)
 | _=>true
def ASt.base (st:ASt):Nat:=cG + st.out.length
def mG:CA->List Nat
 | .ptr i _=>[i]
 | .tptr i _ _ _ _=>[i]
 | .sref i _ _=>[i]
 | .swin i _ _ _ _=>[i]
 | .may i _=>[i]
 | .aptr i _ _ _=>[i]
 | .ifp _ i=>[i]
 | .fn1 _ i=>[i]
 | _=>[]
def km:List CA->List Nat
 | []=>[]
 | c :: l=>mG c ++ km l
def pF:List (Bool × List CA)->List Nat
 | []=>[]
 | (_,cs) :: l=>km cs ++ pF l
def AV.dA:AV->List Nat
 | .one c=>mG c
 | .agg cs=>km cs
 | .tups cs=>pF cs
 | .tv _=>[]
 | .bl _=>[]
 | .clo _ cs=>km cs
def fm:List AV->List Nat
 | []=>[]
 | v :: l=>v.dA ++ fm l
def BC.ku:BC->List Nat
 | .cells cs=>km cs
 | .tree _=>[]
def cZ:Eff->List Nat
 | .val v=>v.dA
 | .new b v=>b.ku ++ v.dA
 | .upd _ b v=>b.ku ++ v.dA
 | .gen _ v=>v.dA
def bU (ps:List Nat) (st:ASt) (d:Option Nat) (e:Eff):Bool :=
 ps.all fun s=>!bz (st.base + s) (cZ e) && (match d with | some d=>!bz (st.base + s) (nth (.one .junk) st.slots d).dA | none=>true)
def jm:Eff->Option (Nat × TV)
 | .gen [.drop i 0 [] false,.root j 0 y] (.one (.sref k 0 []))=>bif i.beq j && i.beq k then some (i,y) else none
 | _=>none
def ja (k:Nat):AV->Bool
 | .one (.sref j 0 [])=>j.beq k
 | _=>false
def tT:Option BC->Bool
 | some (.tree [_])=>true
 | _=>false
def eT (k s:Nat):Nat->List AV->Bool
 | _,[]=>true
 | n,v :: l=>(n.beq s || !bz k v.dA) && eT k s (n + 1) l
def dm (k:Nat):List (Option BC)->Bool
 | []=>true
 | some b :: l=>!bz k b.ku && dm k l
 | none :: l=>dm k l
def cH (it:Item) (st:ASt) (e:Eff):Bool :=
 match ap it.o.op,jm e with
 | some s,some (i,_)=>i.beq (st.base + it.root) && ja i (nth (.one .junk) st.slots s) && tT (st.look i) && eT i s 0 st.slots && dm i st.boxes && !bz i (fm st.out)
 | _,_=>false
def b7:List AV->Bool
 | []=>true
 | v :: l=>(match v.tv? with | some _=>true | none=>false) && b7 l
def gR:Eff->Bool
 | .val _=>true
 | .new (.tree _) _=>true
 | _=>false
def so (n:Nat):List Nat->Bool
 | []=>true
 | k :: l=>k.beq n && so n l
def gm (i:Item) (st:ASt) (e:Eff):Bool:=b7 (i.o.op.operands.toList.map st.ev) && (gR e && so (st.nid i.o.dst) (cZ e))
def nN:List Prim->List Nat
 | []=>[]
 | .drop i _ _ _ :: l=>i :: nN l
 | .root i _ _ :: l=>i :: nN l
 | _ :: l=>nN l
def la:Eff->List Nat
 | .gen ps _=>nN ps
 | _=>[]
def drP:Prim->Bool
 | .drop _ _ _ _=>true
 | .root _ _ _=>true
 | .newB _=>true
 | _=>false
def drE:Eff->Bool
 | .gen ps _=>ps.all drP
 | .upd _ _ _=>false
 | _=>true
def CA.deep:CA->CA
 | .tptr i r p k j=>match p with | []=>.junk | _=>.tptr i r p k j
 | .sref i r p=>match p with | []=>.junk | _=>.sref i r p
 | .swin i r p lo len=>match p with | []=>.junk | _=>.swin i r p lo len
 | c=>c
def eJ (k:Nat):List (Option BC)->Bool
 | []=>true
 | some b :: l=>!bz k (b.bd CA.deep).ku && eJ k l
 | none :: l=>eJ k l
def Ch (k:Nat):Prim->Bool
 | .drop i _ js _=>!(i.beq k) || !js.isEmpty
 | _=>true
def tK (k:Nat):Eff->Bool
 | .gen ps _=>ps.all (Ch k)
 | _=>true
def x8 (o:Oper):Bool:=match o.op with
 | .store _ _ _=>o.guard.isNone && o.dst.isNone
 | _=>false
def mz (o:Oper):Bool:=(ap o.op).isSome || x8 o
def bY (i:Item) (st:ASt) (e:Eff):Bool:=i.lds.all fun l=>drE e && (la e).all fun k =>
 (bz k (l.1.map (st.base + ·)) && dm k st.boxes) || (mz i.o && ((bz (2 * k) l.2 && dm k st.boxes) || (bz (2 * k + 1) l.2 && (tK k e && eJ k st.boxes))))
def iw (st:ASt) (d:Option Nat) (b:Nat):Bool:=match d with | some d=>!bz b (nth (.one .junk) st.slots d).dA | none=>true
def fV (st:ASt) (d:Option Nat) (b:Nat):Bool:=match d with | some d=>!bz b ((nth (.one .junk) st.slots d).bG CA.deep).dA | none=>true
def nn:Eff->List Nat
 | .val v=>(v.bG CA.deep).dA
 | e=>cZ e
def cM (i:Item) (st:ASt) (e:Eff):Bool:=(i.dull.all fun s=>!bz (st.base + s) (fm (i.o.op.operands.toList.map st.ev))) &&
 (i.dull2.all fun b => bif (b % 2).beq 0 then !bz (b / 2) (cZ e) && (iw st i.o.dst (b / 2) && !bz (b / 2) (fm (i.o.op.operands.toList.map st.ev)))
  else !bz (b / 2) (nn e) && (fV st i.o.dst (b / 2) && !bz (b / 2) (fm (bK CA.deep (i.o.op.operands.toList.map st.ev)))))
def okE (i:Item) (st:ASt) (e:Eff):Bool:=(i.loose && bY i st e) || ((bif i.shut then gm i st e else e.plain && e.lZ st.base i.own && (bU i.push st i.o.dst e && cM i st e)) || cH i st e)
def effQ {R:Type} (i:Item) (st:ASt) (K:ASt->Prg R) (e:Eff):Prg R :=
 bif i.dr && !(okE i st e) then .fail else
 match e.app st i.o.dst with
 | some st=>K st
 | none=>.fail
def lY {R:Type} (E:Env) (i:Item) (K:ASt->Prg R) (st:ASt):Prg R :=
 (opL E (st.nid i.o.dst) (banned (aM i.ban st.base) st.look) i.o.op (i.o.op.operands.toList.map st.ev)).bind (effQ i st K)
def dq (o:Oper) (st:ASt):ASt:=st.put o.dst (.one .undef)
def opQ {R:Type} (E:Env) (ops:List Oper) (i:Item) (K:ASt->Prg R) (st:ASt):Prg R :=
 match i.o.guard with
 | none=>lY E i K st
 | some (j, want) => match ((ops[j]?).bind (·.dst)) with
  | none=>.fail
  | some g=>match nth (.one .junk) st.slots g with
   | .one .undef=>K (dq i.o st)
   | .bl b=>bif b then (bif want then lY E i K st else K (dq i.o st)) else (bif want then K (dq i.o st) else lY E i K st)
   | .one (.t v) => .ite (asBool v)
     (bif want then lY E i K (st.put (some g) (.bl true)) else K (dq i.o (st.put (some g) (.bl true))))
     (bif want then K (dq i.o (st.put (some g) (.bl false))) else lY E i K (st.put (some g) (.bl false)))
   | .tv v => .ite (asBool v)
     (bif want then lY E i K (st.put (some g) (.bl true)) else K (dq i.o (st.put (some g) (.bl true))))
     (bif want then K (dq i.o (st.put (some g) (.bl false))) else lY E i K (st.put (some g) (.bl false)))
   | _=>.fail
def kG {α R:Type}:List α->(List α->R)->R
 | [],k=>k []
 | a :: l,k=>kG l (fun l'=>k (a :: l'))
theorem lu {α R:Type}:∀ (l:List α) (k:List α->R),kG l k=k l
 | [],_=>rfl
 | a :: l,k=>lu l (fun l'=>k (a :: l'))
def gK {R:Type} (K:ASt->R) (st:ASt):R:=kG st.slots fun sl=>kG st.boxes fun bx=>K ⟨sl,bx,st.out⟩
theorem jV {R:Type} (K:ASt->R):gK K=K:=by
 funext st
 simp only [gK,lu]
def wo {R:Type} (K:ASt->R) (st:ASt):R:=kG st.slots fun sl=>kG st.boxes fun bx=>kG st.out fun ou=>K ⟨sl,bx,ou⟩
theorem th {R:Type} (K:ASt->R):wo K=K:=by
 funext st
 simp only [wo,lu]
def fN {R:Type} (n:Nat) (k:Nat->R):R:=match n with | 0=>k 0 | m + 1=>k (m + 1)
theorem xh {R:Type} (n:Nat) (k:Nat->R):fN n k=k n:=by cases n <;> rfl
def fNs {R:Type}:List Nat->(List Nat->R)->R
 | [],k=>k []
 | n :: l,k=>fN n fun n=>fNs l fun l=>k (n :: l)
theorem qH {R:Type}:∀ (l:List Nat) (k:List Nat->R),fNs l k=k l
 | [],_=>rfl
 | n :: l,k=>by simp only [fNs,xh,qH l]
def fW {R:Type}:Way->(Way->R)->R
 | [],k=>k []
 | (a,j) :: l,k=>fN j fun j=>fW l fun l=>k ((a,j) :: l)
theorem Cc {R:Type}:∀ (l:Way) (k:Way->R),fW l k=k l
 | [],_=>rfl
 | (a,j) :: l,k=>by simp only [fW,xh,Cc l]
def fC {R:Type} (c:CA) (k:CA->R):R :=
 match c with
 | .t x=>k (.t x)
 | .ptr i off=>fN i fun i=>fN off fun off=>k (.ptr i off)
 | .ref x off=>fN off fun off=>k (.ref x off)
 | .tptr i r p n j=>fN i fun i=>fN r fun r=>fW p fun p=>fN j fun j=>k (.tptr i r p n j)
 | .sref i r p=>fN i fun i=>fN r fun r=>fW p fun p=>k (.sref i r p)
 | .swin i r p lo len=>fN i fun i=>fN r fun r=>fW p fun p=>k (.swin i r p lo len)
 | .may i ty=>fN i fun i=>k (.may i ty)
 | .aptr i off len n=>fN i fun i=>fN off fun off=>k (.aptr i off len n)
 | .yl n=>fN n fun n=>k (.yl n)
 | .ifp t i=>fN i fun i=>k (.ifp t i)
 | .fn1 f i=>fN f fun f=>fN i fun i=>k (.fn1 f i)
 | .undef=>k .undef
 | .junk=>k .junk
theorem Ci {R:Type} (c:CA) (k:CA->R):fC c k=k c:=by cases c <;> simp only [fC,xh,Cc]
def fCs {R:Type}:List CA->(List CA->R)->R
 | [],k=>k []
 | c :: l,k=>fC c fun c=>fCs l fun l=>k (c :: l)
theorem t9 {R:Type}:∀ (l:List CA) (k:List CA->R),fCs l k=k l
 | [],_=>rfl
 | c :: l,k=>by simp only [fCs,Ci,t9 l]
def fTs {R:Type}:List (Bool × List CA)->(List (Bool × List CA)->R)->R
 | [],k=>k []
 | (b,c) :: l,k=>fCs c fun c=>fTs l fun l=>k ((b,c) :: l)
theorem AY {R:Type}:∀ (l:List (Bool × List CA)) (k:List (Bool × List CA)->R),fTs l k=k l
 | [],_=>rfl
 | (b,c) :: l,k=>by simp only [fTs,t9,AY l]
def fA {R:Type} (v:AV) (k:AV->R):R :=
 match v with
 | .one c=>fC c fun c=>k (.one c)
 | .agg cs=>fCs cs fun cs=>k (.agg cs)
 | .tv x=>k (.tv x)
 | .tups l=>fTs l fun l=>k (.tups l)
 | .bl b=>k (.bl b)
 | .clo n cs=>fN n fun n=>fCs cs fun cs=>k (.clo n cs)
theorem fA_eq {R:Type} (v:AV) (k:AV->R):fA v k=k v:=by cases v <;> simp only [fA,Ci,t9,AY,xh]
def fAs {R:Type}:List AV->(List AV->R)->R
 | [],k=>k []
 | c :: l,k=>fA c fun c=>fAs l fun l=>k (c :: l)
theorem zx {R:Type}:∀ (l:List AV) (k:List AV->R),fAs l k=k l
 | [],_=>rfl
 | c :: l,k=>by simp only [fAs,fA_eq,zx l]
def fB {R:Type} (b:Option BC) (k:Option BC->R):R :=
 match b with
 | none=>k none
 | some (.cells cs)=>fCs cs fun cs=>k (some (.cells cs))
 | some (.tree xs)=>kG xs fun xs=>k (some (.tree xs))
theorem fB_eq {R:Type} (b:Option BC) (k:Option BC->R):fB b k=k b:=by
 match b with
 | none=>rfl
 | some (.cells cs)=>simp only [fB,t9]
 | some (.tree xs)=>simp only [fB,lu]
def fBs {R:Type}:List (Option BC)->(List (Option BC)->R)->R
 | [],k=>k []
 | c :: l,k=>fB c fun c=>fBs l fun l=>k (c :: l)
theorem AF {R:Type}:∀ (l:List (Option BC)) (k:List (Option BC)->R),fBs l k=k l
 | [],_=>rfl
 | c :: l,k=>by simp only [fBs,fB_eq,AF l]
def kC {R:Type} (K:ASt->R) (st:ASt):R:=fAs st.slots fun sl=>fBs st.boxes fun bx=>fAs st.out fun ou=>K ⟨sl,bx,ou⟩
theorem dl {R:Type} (K:ASt->R):kC K=K:=by
 funext st
 simp only [kC,zx,AF]
def zo {R:Type} (E:Env) (ops:List Oper):List Item->(ASt->Prg R)->ASt->Prg R
 | [],K,st=>K st
 | i :: rest,K,st=>opQ E ops i (gK (zo E ops rest K)) st
def unlike (a b:Option Nat):Bool :=
 match a,b with
 | some a,some b=>!a.beq b
 | _,_=>true
def tg (s:Nat):List Oper->Option Oper
 | []=>none
 | o :: l=>match o.dst with
  | some d=>bif d.beq s then some o else tg s l
  | none=>tg s l
def jY (ops:List Oper):Nat->Nat->Nat
 | 0,s=>s
 | n + 1,s=>match tg s ops with
  | some o=>(match ap o.op with | some s'=>jY ops n s' | none=>s)
  | none=>s
def fR (ops:List Oper) (o:Oper):Option Nat:=match ap o.op with
 | some s=>some (jY ops 20 s)
 | none=>none
def lD (ops:List Oper) (x y:Oper):Bool :=
 match ap x.op with
 | some s=>x.guard.isNone && y.guard.isNone && !bz s (looks ops y) && dn y.dst [jY ops 20 s]
 | none=>true
def ci (ops:List Oper) (x y:Oper):Bool :=
 jA (ak x.op) (ak y.op) && dn x.dst (looks ops y) && dn y.dst (looks ops x) && unlike x.dst y.dst && (lD ops x y && lD ops y x)
def fw (acc:List Nat):List Edge->Nat
 | []=>0
 | e :: es=>bif Region.binds .any e then (fw acc es ||| 2 ^ e.on) ||| nth 0 acc e.on else fw acc es
def bp (acc:List Nat):List Oper->List Nat
 | []=>acc
 | o :: rest=>bp (acc ++ [fw acc o.after.toList]) rest
def behind (ops:List Oper):List Nat:=bp [] ops
def eB (i:Nat):List Edge->Bool
 | []=>true
 | e :: es=>bif Region.binds .any e then (bif e.on.blt i then eB i es else false) else eB i es
def oc (all:List Oper) (o:Oper):List Nat :=
 (match o.dst with | some d=>bif (ak o.op).makes then [d] else [] | none=>[]) ++ (match fR all o with | some s=>[s] | none=>[])
def iG (bs:List Nat) (j:Nat) (all:List Oper):Nat->List Oper->List Nat
 | _,[]=>[]
 | i,o :: rest=>bif !(i.beq j) && !((nth 0 bs j).testBit i) && !((nth 0 bs i).testBit j) then oc all o ++ iG bs j all (i + 1) rest else iG bs j all (i + 1) rest
def iU (bs:List Nat) (j:Nat) (all:List Oper):Nat->List Oper->List Nat
 | _,[]=>[]
 | i,o :: rest=>bif !(i.beq j) && !((nth 0 bs j).testBit i) && !((nth 0 bs i).testBit j) then (match fR all o with | some s=>s :: iU bs j all (i + 1) rest | none=>iU bs j all (i + 1) rest) else iU bs j all (i + 1) rest
def gc (ex:List (List Nat)) (bs:List Nat) (j:Nat) (all:List Oper):Nat->List Oper->List (List Nat × List Nat)
 | _,[]=>[]
 | k,o :: rest=>bif (ak o.op).reads && !(k.beq j) && !((nth 0 bs j).testBit k) && !((nth 0 bs k).testBit j) then (iG bs k all 0 all,nth [] ex k) :: gc ex bs j all (k + 1) rest else gc ex bs j all (k + 1) rest
def Bi (st:ASt) (o:Oper):List Nat :=
 match o.op with
 | .store _ a _=>(match st.ev a with | .one (.ptr i _)=>[2 * i] | _=>[])
 | _=>[]
def lp (ops:List Oper):Nat->Nat->Nat
 | 0,s=>s
 | n + 1, s => match tg s ops with
  | some o=>(match ak o.op,o.op.operands.toList with
   | .N,.tmp a :: _=>lp ops n a
   | .R,.tmp a :: _=>lp ops n a
   | _,_=>s)
  | none=>s
def vU (ops : List Oper) : Nat → Nat → Bool
 | 0,_=>false
 | n + 1, s => match tg s ops with
  | some o => (match o.op with
   | .indexAddr _ _ _=>true
   | _=>match ak o.op,o.op.operands.toList with
    | .N,.tmp a :: _=>vU ops n a
    | .R,.tmp a :: _=>vU ops n a
    | _,_=>false)
  | none=>false
def xB (look:Look):List Nat->List Nat
 | []=>[]
 | j :: l=>(match look j with
  | some (.cells cs)=>km cs
  | _=>[j]) ++ xB look l
def xo (st:ASt) (s:Nat):List Nat:=xB st.look (nth (.one .junk) st.slots s).dA
def yk (st:ASt) (all:List Oper) (o:Oper):List Nat :=
 match ap o.op with
 | some s=>(match tg (lp all 20 s) all with
  | none=>bif vU all 20 s then (xo st (lp all 20 s)).map (fun i=>2 * i + 1) else (nth (.one .junk) st.slots (lp all 20 s)).dA.map (2 * ·)
  | some _=>[])
 | none=>[]
def wK (st:ASt) (all:List Oper) (o:Oper):List Nat :=
 match o.op with
 | .store _ (.tmp a) _=>bif vU all 20 a then (xo st (lp all 20 a)).map (fun i=>2 * i + 1) else []
 | _=>[]
def u7 (T:Tab) (all:List Oper):Nat->List Oper->List Nat
 | _,[]=>[]
 | j,o :: rest=>(match o.op with
  | .store t (.tmp a) _=>(match T t with | some d=>bif f8 d.zero && vU all 20 a then [j] else [] | none=>[])
  | _=>[]) ++ u7 T all (j + 1) rest
def exAt (st:ASt) (all:List Oper) (bs:List Nat) (j:Nat):Nat->List Oper->List Nat
 | _,[]=>[]
 | k,o :: rest=>bif !(k.beq j) && !((nth 0 bs j).testBit k) && !((nth 0 bs k).testBit j) then Bi st o ++ (wK st all o ++ (yk st all o ++ exAt st all bs j (k + 1) rest)) else exAt st all bs j (k + 1) rest
def AT (st:ASt) (bs:List Nat) (all:List Oper):Nat->List Oper->List (List Nat)
 | _,[]=>[]
 | j,_ :: rest=>exAt st all bs j 0 all :: AT st bs all (j + 1) rest
def exQ (T:Tab) (st:ASt) (ops:List Oper):List (List Nat):=AT st (behind ops) ops 0 ops ++ [u7 T ops 0 ops]
def besides (bs:List Nat) (j:Nat):Nat->List Oper->Bool
 | _,[]=>false
 | i,_ :: rest=>bif !(i.beq j) && !((nth 0 bs j).testBit i) && !((nth 0 bs i).testBit j) then true else besides bs j (i + 1) rest
def ef (o:Oper):Bool:=match o.op with
 | .move _=>o.guard.isNone && o.dst.isSome
 | _=>false
def bw (bs:List Nat) (j:Nat):Nat->List Oper->Bool
 | _,[]=>true
 | i,o :: rest=>bif !(i.beq j) && !((nth 0 bs j).testBit i) && !((nth 0 bs i).testBit j) then ef o && bw bs j (i + 1) rest else bw bs j (i + 1) rest
def fk (o:Oper):Bool:=match o.op with
 | .call ⟨.value (.func _),_,_⟩=>o.guard.isNone && o.dst.isSome
 | _=>false
def dP (o:Oper):Bool:=match o.op with
 | .buildSlice _ _ _=>o.guard.isNone && o.dst.isSome
 | _=>false
def fp (o:Oper):Bool:=match ak o.op with
 | .N=>o.guard.isNone && o.dst.isSome
 | .R=>o.guard.isNone && o.dst.isSome
 | _=>false
def beB (bs:List Nat) (j i:Nat):Bool:=!(i.beq j) && !((nth 0 bs j).testBit i) && !((nth 0 bs i).testBit j)
def eX (bs:List Nat) (j:Nat):Nat->List Oper->Bool
 | _,[]=>true
 | i,o :: rest=>bif beB bs j i then (ef o || dP o || fp o) && eX bs j (i + 1) rest else eX bs j (i + 1) rest
def dJ (bs:List Nat) (all:List Oper) (j:Nat):Nat->List Oper->Bool
 | _,[]=>true
 | i,o :: rest=>bif beB bs j i then (ef o || (fk o && eX bs i 0 all)) && dJ bs all j (i + 1) rest else dJ bs all j (i + 1) rest
def cK (bs:List Nat) (j:Nat):Nat->List Oper->Bool
 | _,[]=>true
 | i,o :: rest=>bif beB bs j i then (ef o || (fp o && i.blt j)) && cK bs j (i + 1) rest else cK bs j (i + 1) rest
def kr (bs:List Nat) (j:Nat) (all:List Oper) (o:Oper):Bool:=(ap o.op).isSome && (o.guard.isNone && o.dst.isSome) && (!bw bs j 0 all && cK bs j 0 all)
def hU (bs:List Nat) (all:List Oper):Nat->List Oper->Bool
 | _,[]=>true
 | j,o :: rest=>(match ap o.op with | some _=>bw bs j 0 all || kr bs j all o | none=>true) && hU bs all (j + 1) rest
def kt (sl:List Nat) (bs:List Nat) (j:Nat) (all:List Oper) (o:Oper):Bool:=bz j sl && x8 o && (!bw bs j 0 all && cK bs j 0 all)
def i5 (sl:List Nat) (bs:List Nat) (all:List Oper) (j:Nat):Nat->List Oper->Bool
 | _,[]=>false
 | i,o :: rest=>bif beB bs j i && (kr bs i all o || kt sl bs i all o) then true else i5 sl bs all j (i + 1) rest
def lg (bs:List Nat) (all:List Oper):Nat->List Oper->Bool
 | _,[]=>true
 | j,o :: rest=>(!dP o || (dJ bs all j 0 all || cK bs j 0 all)) && lg bs all (j + 1) rest
def kZ (ex:List (List Nat)) (bs:List Nat) (j:Nat) (all:List Oper):Nat->List Oper->List (List Nat × List Nat)
 | _,[]=>[]
 | k,o :: rest=>bif beB bs j k && (fp o && !ef o) then (iG bs k all 0 all,nth [] ex k) :: kZ ex bs j all (k + 1) rest else kZ ex bs j all (k + 1) rest
def fQ (bs:List Nat) (j:Nat):Nat->List Oper->Bool
 | _,[]=>false
 | i,o :: rest=>bif beB bs j i && dP o then true else fQ bs j (i + 1) rest
def kL (ex:List (List Nat)) (ops:List Oper) (bs:List Nat) (j:Nat) (o:Oper):List Nat:=bif hU bs ops 0 ops && (fp o && !ef o) && ((lg bs ops 0 ops && fQ bs j 0 ops) || i5 (nth [] ex ops.length) bs ops j 0 ops) then iG bs j ops 0 ops else []
def dull2At (ex:List (List Nat)) (ops:List Oper) (bs:List Nat) (j:Nat) (o:Oper):List Nat:=bif hU bs ops 0 ops && (fp o && !ef o) && i5 (nth [] ex ops.length) bs ops j 0 ops then nth [] ex j else []
def ae (ex:List (List Nat)) (ops:List Oper) (bs:List Nat) (j:Nat) (o:Oper):Item:=⟨o,(iG bs j ops 0 ops,nth [] ex j),besides bs j 0 ops,bif kt (nth [] ex ops.length) bs j ops o then ([],[]) :: gc ex bs j ops 0 ops else gc ex bs j ops 0 ops,iU bs j ops 0 ops ++ kL ex ops bs j o,match fR ops o with | some m=>m | none=>0,hU bs ops 0 ops && (ef o || bw bs j 0 ops || (lg bs ops 0 ops && dP o) || kr bs j ops o || kt (nth [] ex ops.length) bs j ops o),hU bs ops 0 ops && lg bs ops 0 ops && fk o && fQ bs j 0 ops,bif (dP o && !dJ bs ops j 0 ops) || kr bs j ops o || kt (nth [] ex ops.length) bs j ops o then kZ ex bs j ops 0 ops else [],kL ex ops bs j o,dull2At ex ops bs j o⟩
def lJ (ex:List (List Nat)) (ops:List Oper) (bs:List Nat):Nat->List Oper->List Item
 | _,[]=>[]
 | j,o :: rest=>ae ex ops bs j o :: lJ ex ops bs (j + 1) rest
def ls (ops:List Oper) (m:Nat) (y:Oper) (j:Nat):Nat->List Oper->Bool
 | _,[]=>true
 | i,x :: rest=>bif i.blt j then (bif m.testBit i || ci ops x y then ls ops m y j (i + 1) rest else false) else true
def xM (ops:List Oper) (bs:List Nat):Nat->List Oper->Bool
 | _,[]=>true
 | j,y :: rest=>bif eB j y.after.toList && ls ops (nth 0 bs j) y j 0 ops then xM ops bs (j + 1) rest else false
def be (ops:List Oper):Bool:=xM ops (behind ops) 0 ops
def cV:List Oper->List Item
 | []=>[]
 | o :: rest=>⟨o,([],[]),false,[],[],0,false,false,[],[],[]⟩ :: cV rest
def jN {R:Type} (E:Env) (ops:List Oper) (draw:Bool) (K:ASt->Prg R) (st:ASt):Prg R :=
 bif draw then (bif be ops then zo E ops (lJ (exQ E.T st ops) ops (behind ops) 0 ops) K st else .fail)
 else zo E ops (cV ops) K st
structure Ann where
 keep:List Nat
 own:List Nat
 ownB:List (Nat × Nat)
 kill:List Nat
 frz:List (Nat × Nat)
def gf {α:Type} (d:α) (ks:List Nat):Nat->List α->List α
 | _,[]=>[]
 | n,a :: l=>(bif bz n ks then a else d) :: gf d ks (n + 1) l
def im (n:Nat):List (Option BC)->Nat
 | []=>n
 | none :: _=>n
 | some _ :: l=>im (n + 1) l
def cJ:Nat->List TV->List TV
 | 0,l=>l
 | n + 1,l=>.hole :: cJ n l
def sG (xs:List TV) (r idx:Nat):Bool:=r.beq idx && xs.length.beq (idx + 1)
def iV (st:ASt) (i r idx:Nat):Option ASt :=
 match st.look i with
 | some (.tree xs)=>bif sG xs r idx then none else match xs[r]? with
  | some x=>((st.aq (CA.drop i r [] false)).ab i (some (.tree (am xs r .hole)))).bg (im 0 st.boxes) (.tree (cJ idx [x]))
  | none=>none
 | _=>none
def xy {R:Type} (st:ASt) (s:Nat) (k:ASt->Prg R):Prg R :=
 match nth (.one .junk) st.slots s with
 | .one (.sref i r [])=>(match iV st i r 0 with
  | some st'=>k (st'.put (some s) (.one (.sref (im 0 st.boxes) 0 [])))
  | none=>k st)
 | .one (.sref _ _ (_ :: _))=>k st
 | .one (.swin i r [] lo len) => match br st.look i r with
  | some x=>.tv (d7 lo len x) fun y=>(match bQ (st.aq (CA.drop i r [] false)).look i r y with
   | some b=>k (((st.aq (CA.drop i r [] false)).ab i (some b)).put (some s) (.one (.sref i r [])))
   | none=>.fail)
  | none=>.fail
 | v => match v.tv? with
  | some x=>.chk x.isSl (match st.bg (im 0 st.boxes) (.tree [x]) with
   | some st'=>k (st'.put (some s) (.one (.sref (im 0 st.boxes) 0 [])))
   | none=>.fail)
  | none=>.fail
def oR {R:Type}:List Nat->ASt->(ASt->Prg R)->Prg R
 | [],st,k=>k st
 | s :: l,st,k=>xy st s fun st=>oR l st k
def vo (cs:List CA) (c:Nat):Nat:=match cs with | .may _ _ :: _=>c | _=>0
def sP {R : Type} (st : ASt) (i c : Nat) (k : ASt → Prg R) : Prg R :=
 match st.look i with
 | some (.cells cs) => match nth .junk cs c with
  | .sref i' r [] => (match iV st i' r (vo cs c) with
   | some st'=>(match st'.look i with
    | some (.cells cs')=>k (st'.ab i (some (.cells (am cs' c (.sref (im 0 st.boxes) (vo cs c) [])))))
    | _=>k st)
   | none=>k st)
  | _=>k st
 | _=>k st
def x4 {R : Type} (st : ASt) (s c : Nat) (k : ASt → Prg R) : Prg R :=
 match nth (.one .junk) st.slots s with
 | .one (.ptr i _) => match st.look i with
  | some (.cells cs) => match nth .junk cs c with
   | .sref _ _ []=>sP st i c k
   | .sref _ _ (_ :: _)=>k st
   | .swin i' r [] lo len => match br st.look i' r with
    | some x => .tv (d7 lo len x) fun y => (match bQ (st.aq (CA.drop i' r [] false)).look i' r y with
     | some b=>(match ((st.aq (CA.drop i' r [] false)).ab i' (some b)).look i with
      | some (.cells cs')=>sP (((st.aq (CA.drop i' r [] false)).ab i' (some b)).ab i (some (.cells (am cs' c (.sref i' r []))))) i c k
      | _=>.fail)
     | none=>.fail)
    | none=>.fail
   | .t x=>.chk x.isSl (match st.bg (im 0 st.boxes) (.tree (cJ (vo cs c) [x])) with
    | some st'=>k (st'.ab i (some (.cells (am cs c (.sref (im 0 st.boxes) (vo cs c) [])))))
    | none=>.fail)
   | _=>.fail
  | _=>.fail
 | _=>.fail
def kO {R:Type}:List (Nat × Nat)->ASt->(ASt->Prg R)->Prg R
 | [],st,k=>k st
 | (s,c) :: l,st,k=>x4 st s c fun st=>kO l st k
def di:TV->TV
 | .sl o s xs=>.sl o s (rF xs)
 | x=>x
def zr (st : ASt) (s c : Nat) : ASt :=
 match nth (.one .junk) st.slots s with
 | .one (.ptr i _) => match st.look i with
  | some (.cells cs) => match nth .junk cs (c % 1000) with
   | .sref i' r [] => match st.look i' with
    | some (.tree xs)=>match xs[r]? with
     | some x=>bif Nat.ble 1000 c then st.ab i' (some (.tree (am xs r (di x)))) else (st.ab i' (some (.tree (am xs r (frz x))))).ab i (some (.cells (am cs (c % 1000) (.t (frz x)))))
     | none=>st
    | _=>st
   | _=>st
  | _=>st
 | .one (.sref i' r []) => match st.look i' with
  | some (.tree xs)=>match xs[r]? with
   | some x=>bif Nat.ble 1000 c then st else (st.ab i' (some (.tree (am xs r (frz x))))).put (some s) (.one (.t (frz x)))
   | none=>st
  | _=>st
 | _=>st
def jC:List (Nat × Nat)->ASt->ASt
 | [],st=>st
 | (s,c) :: l,st=>jC l (zr st s c)
def gw (st:ASt):List Nat->ASt
 | []=>st
 | s :: l => match nth (.one .junk) st.slots s with
  | .one (.ptr i _)=>(match st.look i with
   | some (.cells cs)=>gw (st.ab i (some (.cells (mapC (fun _=>.junk) cs)))) l
   | _=>gw st l)
  | _=>gw st l
def visit (look:Look):Nat->List Nat->List Nat->List Nat
 | 0,_,seen=>seen
 | _ + 1,[],seen=>seen
 | n + 1,i :: l,seen=>bif bz i seen then visit look n l seen else match look i with
  | some b=>visit look n (l ++ b.ku) (seen ++ [i])
  | none=>visit look n l seen
def ko (i:Nat):Nat->List Nat->Option Nat
 | _,[]=>none
 | n,a :: l=>bif a.beq i then some n else ko i (n + 1) l
def CA.ren (L:List Nat) (c:CA):CA :=
 match c with
 | .ptr i off=>match ko i 0 L with | some k=>.ptr k off | none=>.junk
 | .tptr i r p k j=>match ko i 0 L with | some m=>.tptr m r p k j | none=>.junk
 | .sref i r p=>match ko i 0 L with | some m=>.sref m r p | none=>.junk
 | .swin i r p lo len=>match ko i 0 L with | some m=>.swin m r p lo len | none=>.junk
 | .may i ty=>match ko i 0 L with | some k=>.may k ty | none=>.junk
 | .aptr i off len n=>match ko i 0 L with | some k=>.aptr k off len n | none=>.junk
 | .ifp ty i=>match ko i 0 L with | some k=>.ifp ty k | none=>.junk
 | .fn1 f i=>match ko i 0 L with | some k=>.fn1 f k | none=>.junk
 | c=>c
def gq:List Nat->Bool
 | []=>true
 | a :: l=>!bz a l && gq l
def m7 (look:Look) (f:CA->CA):List Nat->List (Option BC)
 | []=>[]
 | i :: l=>(match look i with | some b=>some (b.bd f) | none=>none) :: m7 look f l
def AV.asTV:AV->AV
 | .one (.t x)=>.tv x
 | .bl b=>.tv (.lit (.bool b))
 | v=>v
def pj:List AV->List AV
 | []=>[]
 | v :: l=>v.asTV :: pj l
def iv (L:List Nat) (st:ASt):ASt :=
 ⟨pj (bK (CA.ren L) st.slots),m7 st.look (CA.ren L) L ++ List.replicate (st.boxes.length - L.length) none,pj (bK (CA.ren L) st.out)⟩
def gu (ks:List Nat) (st:ASt):ASt:=⟨gf (.one .junk) ks 0 st.slots,st.boxes,st.out⟩
def gr (st:ASt):List Nat:=visit st.look 1000 (fm st.slots ++ fm st.out) []
def wB {R:Type} (st:ASt) (k:ASt->Prg R):Prg R :=
 bif gq (gr st) && (gr st).length.ble cG && cG.ble st.boxes.length then k (iv (gr st) st) else .fail
def sW {R:Type} (an:Ann) (st:ASt) (k:ASt->Prg R):Prg R :=
 oR an.own st fun st=>kO an.ownB st fun st=>wB (gu an.keep (gw (jC an.frz st) an.kill)) k
inductive AEx where
 | normal | ret | exit (id:Nat)
def first:Code->Option Nat
 | .region id _ _=>some id
 | .seq a b=>match first a with
  | some n=>some n
  | none=>first b
 | .cond _ a b=>match first a with
  | some n=>some n
  | none=>first b
 | .block _ c=>first c
 | .loop c=>first c
 | _=>none
def gD (ann:Nat->Option Ann) (c:Code):Option Ann :=
 match first c with
 | some n=>ann n
 | none=>none
def oV {R:Type} (an:Option Ann) (rp:List Nat) (next:ASt->Prg R) (K:AEx->ASt->Prg R):AEx->ASt->Prg R
 | .normal,st=>match an with
  | none=>next st
  | some an=>sW an st fun st=>.jmp rp st
 | e,st=>K e st
def kX {R:Type} (id:Nat) (K:AEx->ASt->Prg R):AEx->ASt->Prg R
 | .exit i,st=>bif i.beq id then K .normal st else K (.exit i) st
 | e,st=>K e st
def s7 {R:Type} (an:Option Ann) (rp:List Nat) (st:ASt):Prg R :=
 match an with
 | none=>.fail
 | some an=>sW an st fun st=>.jmp rp st
def qv {R:Type} (an:Option Ann) (rp:List Nat) (K:AEx->ASt->Prg R):AEx->ASt->Prg R
 | .normal,st=>s7 an rp st
 | e,st=>K e st
structure Opn where
 fns:FuncId->Option Func
 ann:FuncId->Nat->Option Ann
 jn:FuncId->Nat->Option Ann
 kp:FuncId->Nat->Option (List Nat)
 mth:TypeId->String->Option (FuncId × Bool)
def uc (v:Value):Option (FuncId × List CA):=match v with
 | .func (.func f) ts cs=>bif ts.size.beq 0 && cs.size.beq 0 then some (f,[]) else none
 | _=>none
def AV.tO:AV->Option (FuncId × List CA)
 | .clo f cs=>some (f,cs)
 | .one (.fn1 f i)=>some (f,[.ptr i 0])
 | .one (.t (.lit v))=>uc v
 | .tv (.lit v)=>uc v
 | _=>none
def ub (st:ASt) (i:Nat):Bool->Option AV
 | false=>some (.one (.ptr i 0))
 | true=>match st.look i with
  | some (.cells [c])=>bif c.kept then some (.one c) else none
  | _=>none
def Cb (L:Opn) (st:ASt) (v:AV) (name:String):Option (FuncId × AV) :=
 match v with
 | .one (.ifp t i) => match L.mth t name with
  | some (f,d)=>match ub st i d with
   | some r=>some (f,r)
   | none=>none
  | none=>none
 | _=>none
def rS (L:Opn) (st:ASt) (j:Nat):Op->Option (Nat × FuncId × Func × List AV × List CA)
 | .call ⟨.value (.func f),_,_⟩=>match L.fns f with
  | some fn=>some (j,f,fn,[],[])
  | none=>none
 | .call ⟨.value (.tmp t), _, _⟩ => match (nth (.one .junk) st.slots t).tO with
  | some (f,cs)=>match L.fns f with
   | some fn=>some ((f + 1) * 1000 + j,f,fn,[],cs)
   | none=>none
  | none=>none
 | .call ⟨.invoke (.tmp t) name, _, _⟩ => match Cb L st (nth (.one .junk) st.slots t) name with
  | some (f,r)=>match L.fns f with
   | some fn=>some ((f + 1) * 1000 + j,f,fn,[r],[])
   | none=>none
  | none=>none
 | _=>none
def BB (L:Opn):Op->Bool
 | .call ⟨.value (.func f),_,_⟩=>(L.fns f).isSome
 | .call ⟨.value (.tmp _),_,_⟩=>true
 | .call ⟨.invoke _ _,_,_⟩=>true
 | _=>false
def pM (L:Opn):List Oper->Bool
 | []=>false
 | o :: l=>bif BB L o.op then true else pM L l
def pc (L:Opn) (y:Nat):Op->Option (FuncId × Func)
 | .call ⟨.value (.func f),_,_⟩=>bif y.blt 1000 then (match L.fns f with
  | some fn=>some (f,fn)
  | none=>none) else none
 | .call ⟨.value (.tmp _), _, _⟩ => match y / 1000 with
  | f + 1=>(match L.fns f with
   | some fn=>some (f,fn)
   | none=>none)
  | 0=>none
 | .call ⟨.invoke (.tmp _) _, _, _⟩ => match y / 1000 with
  | f + 1=>(match L.fns f with
   | some fn=>some (f,fn)
   | none=>none)
  | 0=>none
 | _=>none
def nB (bs:List Nat) (k:Nat):Nat->List Oper->Bool
 | _,[]=>true
 | i,_ :: rest=>bif i.blt k then nB bs k (i + 1) rest else (Nat.land (nth 0 bs i) (2 ^ k - 1)).beq (2 ^ k - 1) && nB bs k (i + 1) rest
def mJ (ops:List Oper) (k:Nat):Bool:=nB (behind ops) k 0 ops
def cQ {R:Type} (E:Env) (reg:Nat->List Nat->List Oper->Bool->(ASt->Prg R)->ASt->Prg R) (rg:List Nat->Operand->Array Tmp->Code->Code->(ASt->Prg R)->ASt->Prg R) (ann jn:Nat->Option Ann):List Nat->Code->(AEx->ASt->Prg R)->ASt->Prg R
 | _,.skip,K,st=>K .normal st
 | rp,.region id ops draw,K,st=>reg id rp ops.toList draw (K .normal) st
 | rp,.seq a b,K,st=>cQ E reg rg ann jn (0 :: rp) a (oV (gD jn b) (1 :: rp) (cQ E reg rg ann jn (1 :: rp) b K) K) st
 | rp, .cond c a b, K, st => match st.ev c with
  | .bl v=>bif v then cQ E reg rg ann jn (0 :: rp) a K st else cQ E reg rg ann jn (1 :: rp) b K st
  | x=>match x.tv? with
   | some v=>.ite (asBool v) (cQ E reg rg ann jn (0 :: rp) a K st) (cQ E reg rg ann jn (1 :: rp) b K st)
   | none=>.fail
 | rp,.block id c,K,st=>cQ E reg rg ann jn (0 :: rp) c (kX id K) st
 | rp,.loop c,_,st=>s7 (gD ann c) (0 :: rp) st
 | _,.exit id,K,st=>K (.exit id) st
 | _,.ret,K,st=>K .ret st
 | rp,.rangeFunc g ps a c,K,st=>rg rp g ps a c (K .normal) st
 | _,_,_,_=>.fail
def bV (fn:Func):Code:=match fn.body with | some c=>c | none=>.skip
def vC (T : Tab) (st : ASt) : ResultVar → Option AV
 | .tmp t=>some (nth (.one .junk) st.slots t)
 | .cell a ty => match nth (.one .junk) st.slots a, T ty with
  | .one (.ptr i 0), some d => match st.look i with
   | some (.cells cs)=>match kg cs 0 (bif d.kd.isAgg then d.size else 1) with
    | some cs=>cr d.kd.isAgg cs
    | none=>none
   | _=>none
  | _,_=>none
def ig (T:Tab) (st:ASt):List ResultVar->Option (List AV)
 | []=>some []
 | r :: l=>match vC T st r,ig T st l with
  | some x,some xs=>some (x :: xs)
  | _,_=>none
def rK {R:Type}:List TyD->List AV->(List (Bool × List CA)->Prg R)->Prg R
 | [],[],k=>k []
 | d :: ds,v :: vs,k=>v.aQ d.kd.isAgg d.size fun cs=>rK ds vs fun l=>k ((d.kd.isAgg,cs) :: l)
 | _,_,_=>.fail
def uD {R:Type} (ds:List TyD) (vs:List AV) (k:AV->Prg R):Prg R :=
 match vs with
 | [v]=>k v
 | vs=>rK ds vs fun l=>k (.tups l)
def mT (L:List Nat) (m:Nat) (st:ASt):ASt :=
 ⟨bK (CA.ren L) st.slots,m7 st.look (CA.ren L) L ++ List.replicate (st.boxes.length - m - L.length) none,bK (CA.ren L) st.out⟩
def fF {R:Type} (m:Nat) (st:ASt) (k:ASt->Prg R):Prg R :=
 kC (fun st=>fNs (gr st) fun L=>bif gq L && L.length.ble cG && cG.ble st.boxes.length then kC k (mT L m st) else .fail) st
def sQ {R : Type} (E : Env) (f : FuncId) (fn : Func) (nt : Nat) (d : Option Tmp) (K : ASt → Prg R) : AEx → ASt → Prg R
 | .exit _,_=>.fail
 | _,st=>match ig E.T st fn.results.toList,kB E.T (E.rts f) with
  | some vs, some ds => bif nt.ble st.out.length then uD ds vs fun v =>
    fF fn.ntmps (ASt.put ⟨st.out.drop (st.out.length - nt),st.boxes,st.out.take (st.out.length - nt)⟩ d v) K else .fail
  | _,_=>.fail
def iN (ntmps:Nat) (vs:List AV) (st:ASt):ASt :=
 ⟨vs ++ List.replicate (ntmps - vs.length) (.one .undef),st.boxes ++ List.replicate ntmps none,st.out ++ st.slots⟩
def jl:Option (List Nat)->ASt->ASt
 | none,st=>st
 | some ks,st=>gu ks st
def xY (id j:Nat):Nat:=id * 1000 + j
structure Rng where
 off:Nat
 nt:Nat
 fi:FuncId
 ps:Array Tmp
 assign:Code
 body:Code
 busy:Bool
def aL:List Rng->Nat->List Rng
 | [],_=>[]
 | y :: l,0=>{ y with busy:=true } :: l
 | y :: l,m + 1=>y :: aL l m
def CA.unY (n:Nat) (c:CA):CA :=
 match c with
 | .yl k=>bif k.blt n then .yl k else .junk
 | c=>c
def AV.ylOf:AV->Option Nat
 | .one (.yl m)=>some m
 | _=>none
def jz (z m j:Nat):Nat:=2 * ((2 * m + z) * 1000 + j) + 3
def i7:List Tmp->List AV->List AV->List AV
 | t :: ts,v :: vs,l=>i7 ts vs (am l t v)
 | _,_,l=>l
abbrev yf (R:Type):=Nat->FuncId->List Rng->Nat->List Nat->List Oper->Bool->(ASt->Prg R)->ASt->Prg R
abbrev za (R:Type):=Nat->FuncId->List Rng->List Nat->Operand->Array Tmp->Code->Code->(ASt->Prg R)->ASt->Prg R
def rt {R:Type} (E:Env) (L:Opn) (reg:yf R) (rg:za R) (nt:Nat) (fi:FuncId) (ys:List Rng) (id:Nat) (rp:List Nat) (j y:Nat) (o:Oper) (f:FuncId) (fn:Func) (rv:List AV) (cap:List CA) (K:ASt->Prg R) (st:ASt):Prg R :=
 match o.op.operands.toList with
 | _ :: xs => bif (rv.length + xs.length).beq fn.params.size && (rv.length + xs.length + cap.length).ble fn.ntmps && (st.slots.length.beq nt && j.blt 1000) then
   kC (cQ E (reg fn.ntmps f ys) (rg fn.ntmps f ys) (L.ann f) (L.jn f) ((2 * y + 2) :: rp) (bV fn) (sQ E f fn nt o.dst K)) (iN fn.ntmps (rv ++ xs.map st.ev ++ cap.map AV.one) (jl (L.kp fi (xY id j)) st)) else .fail
 | _=>.fail
def ASt.cut (nt:Nat) (st:ASt):ASt:=⟨st.out.drop (st.out.length - nt),st.boxes,st.out.take (st.out.length - nt)⟩
def ew {R:Type} (y:Rng) (nt:Nat) (d:Option Tmp) (K:ASt->Prg R):AEx->ASt->Prg R
 | .normal,st=>bif nt.ble st.out.length then fF y.nt ((st.cut nt).put d (.bl true)) K else .fail
 | _,_=>.fail
def nM {R:Type} (k:ASt->Prg R):AEx->ASt->Prg R
 | .normal,st=>k st
 | _,_=>.fail
def re {R : Type} (E : Env) (L : Opn) (reg : yf R) (rg : za R) (nt : Nat) (fi : FuncId) (ys : List Rng) (id : Nat) (rp : List Nat) (j m : Nat) (y : Rng) (o : Oper) (K : ASt → Prg R) (st : ASt) : Prg R :=
 match o.op.operands.toList with
 | _ :: xs => bif xs.length.beq y.ps.size && (st.slots.length.beq nt && (j.blt 1000 && (!y.busy && (y.off + y.nt).ble st.out.length))) then
   kC (cQ E (reg y.nt y.fi (aL ys m)) (rg y.nt y.fi (aL ys m)) (L.ann y.fi) (L.jn y.fi) (jz 0 m j :: rp) y.assign
    (nM (cQ E (reg y.nt y.fi (aL ys m)) (rg y.nt y.fi (aL ys m)) (L.ann y.fi) (L.jn y.fi) (jz 1 m j :: rp) y.body (ew y nt o.dst K))))
    (iN y.nt (i7 y.ps.toList (xs.map st.ev) ((st.out.drop y.off).take y.nt)) (jl (L.kp fi (xY id j)) st)) else .fail
 | _=>.fail
def j8 (draw:Bool) (ex:List (List Nat)) (all:List Oper) (j:Nat) (o:Oper):Item:=bif draw then ae ex all (behind all) j o else ⟨o,([],[]),false,[],[],0,false,false,[],[],[]⟩
def jj (T:Tab) (draw:Bool) (st:ASt) (all:List Oper):List (List Nat):=bif draw then exQ T st all else []
def aS (ops:List Oper) (o:Oper) (s:ASt):Option (Option Bool) :=
 match o.guard with
 | none=>some (some true)
 | some (j, want) => match ((ops[j]?).bind (·.dst)) with
  | none=>none
  | some g=>match nth (.one .junk) s.slots g with
   | .one .undef=>some none
   | .bl b=>some (some (b == want))
   | _=>none
def gp (ops:List Oper) (o:Oper) (s:ASt):Bool:=match aS ops o s with
 | some (some true)=>true
 | _=>false
def rl (ys:List Rng) (st:ASt):Op->Option (Nat × Rng)
 | .call ⟨.value (.tmp t), _, _⟩ => match (nth (.one .junk) st.slots t).ylOf with
  | some m=>match ys[m]? with
   | some y=>some (m,y)
   | none=>none
  | none=>none
 | _=>none
noncomputable def eqV:Value->Value->Bool
 | .int .i64 a,.int .i64 b=>bif Int.beq' a b then true else false
 | .int .u16 a,.int .u16 b=>bif Int.beq' a b then true else false
 | .int .u8 a,.int .u8 b=>bif Int.beq' a b then true else false
 | .bool a,.bool b=>a == b
 | .slice none 0 0,.slice none 0 0=>true
 | _,_=>false
mutual
noncomputable def eqT:TV->TV->Bool
 | .lit v,.lit u=>eqV v u
 | .sl o s xs,.sl o' s' xs'=>o == o' && (s.beq s' && xJ xs xs')
 | .agg cs,.agg cs'=>zE cs cs'
 | .hole,.hole=>true
 | _,_=>false
noncomputable def zE:List TV->List TV->Bool
 | [],[]=>true
 | x :: l,y :: r=>eqT x y && zE l r
 | _,_=>false
noncomputable def xJ:List (List TV)->List (List TV)->Bool
 | [],[]=>true
 | x :: l,y :: r=>zE x y && xJ l r
 | _,_=>false
end
open Classical in
noncomputable def eqTV (x y:TV):Bool:=eqT x y || decide (x=y)
noncomputable def Bt:CA->CA->Bool
 | .ptr i a,.ptr j b=>i.beq j && a.beq b
 | .sref i r [],.sref j k []=>i.beq j && r.beq k
 | .t x,.t y=>eqTV x y
 | _,_=>false
noncomputable def Bv:List CA->List CA->Bool
 | [],[]=>true
 | a :: l,b :: r=>Bt a b && Bv l r
 | _,_=>false
noncomputable def Bo:AV->AV->Bool
 | .one a,.one b=>Bt a b
 | .agg l,.agg r=>Bv l r
 | _,_=>false
def p0 (u m:Nat):Nat->Bool
 | 0=>true
 | k + 1=>(k.beq u || m.testBit k) && p0 u m k
def kS (bs:List Nat) (u k:Nat):Nat->List Oper->Bool
 | _,[]=>true
 | i,_ :: rest=>bif i.blt k then kS bs u k (i + 1) rest else p0 u (nth 0 bs i) k && kS bs u k (i + 1) rest
def qk (ops:List Oper) (u k:Nat):Bool:=kS (behind ops) u k 0 ops
def mM (bs:List Nat) (u k:Nat):Nat->List Oper->Bool
 | _,[]=>true
 | i,_ :: rest=>bif i.blt k then !((nth 0 bs i).testBit u) && mM bs u k (i + 1) rest else true
def oz (o:Oper):Bool:=match o.op with
 | .load _ _=>o.guard.isNone && o.dst.isSome
 | _=>false
def wj (all:List Oper) (j u:Nat) (o c:Oper):Bool :=
 oz o && (qk all u j && qk all u (j + 1)) && (mM (behind all) u (j + 1) 0 all && (c.guard.isNone && (match o.dst with
  | some d=>dn (some d) (cA c.op.operands.toList) && unlike (some d) c.dst
  | none=>false)))
def nk (all:List Oper) (j:Nat) (c:Oper):Nat->List Oper->Option Nat
 | _,[]=>none
 | u,o :: rest=>bif u.blt j then (bif wj all j u o c then some u else nk all j c (u + 1) rest) else none
def gN (all:List Oper) (j:Nat):Option Nat:=match all[j]? with
 | some c=>nk all j c 0 all
 | none=>none
def dw (draw:Bool) (all:List Oper) (j:Nat):Bool:=!draw || (mJ all j && mJ all (j + 1))
def swapL (n a b:Nat):List Nat:=(List.range n).map fun k=>bif k.beq a then b else bif k.beq b then a else k
def B5 (d:Option Nat) (st:ASt):List Nat :=
 match d with
 | some d=>(match nth (.one .junk) st.slots d with
  | .one (.sref i 0 [])=>swapL st.boxes.length i (st.nid (some d))
  | _=>List.range st.boxes.length)
 | none=>List.range st.boxes.length
def AX {R:Type} (d:Option Nat) (k:ASt->Prg R) (st:ASt):Prg R:=fNs (B5 d st) fun L=>bif gq L then kC k (mT L 0 st) else .fail
noncomputable def lP {R:Type} (E:Env) (draw:Bool) (all:List Oper) (j:Nat) (k:ASt->Prg R) (st:ASt):Prg R :=
 bif dw draw all j then k st else match gN all j with
 | some u => (match all[u]?, all[j]? with
  | some o,some c=>(match o.dst with
   | some d=>AX c.dst (fun st=>opQ E all (j8 draw (jj E.T draw st all) all u o) (fun st'=>.chk (Bo (nth (.one .junk) st'.slots d) (nth (.one .junk) st.slots d)) (k st)) (st.put (some d) (.one .junk))) st
   | none=>.fail)
  | _,_=>.fail)
 | none=>.fail
noncomputable def eb {R:Type} (E:Env) (L:Opn) (reg:yf R) (rg:za R) (nt:Nat) (fi:FuncId) (ys:List Rng) (id:Nat) (rp:List Nat) (draw:Bool) (all:List Oper) (K:ASt->Prg R):Nat->List Oper->List (List Nat)->ASt->Prg R
 | _,[],_,st=>K st
 | j, o :: rest, ex, st => match rS L st j o.op with
  | some (y, f, fn, rv, cap) => bif gp all o st then (bif dw draw all j || (gN all j).isSome then
    rt E L reg rg nt fi ys id rp j y o f fn rv cap (lP E draw all j fun st'=>eb E L reg rg nt fi ys id rp draw all K (j + 1) rest (jj E.T draw st' all) st') st else .fail)
   else opQ E all (j8 draw ex all j o) (gK (eb E L reg rg nt fi ys id rp draw all K (j + 1) rest ex)) st
  | none => match rl ys st o.op with
   | some (m, y) => bif gp all o st then (bif !draw || (mJ all j && mJ all (j + 1)) then
     re E L reg rg nt fi ys id rp j m y o (fun st'=>eb E L reg rg nt fi ys id rp draw all K (j + 1) rest (jj E.T draw st' all) st') st else .fail)
    else opQ E all (j8 draw ex all j o) (gK (eb E L reg rg nt fi ys id rp draw all K (j + 1) rest ex)) st
   | none=>opQ E all (j8 draw ex all j o) (gK (eb E L reg rg nt fi ys id rp draw all K (j + 1) rest ex)) st
def uY {R:Type} (fn:Func) (n nt:Nat) (K:ASt->Prg R):AEx->ASt->Prg R
 | .exit _,_=>.fail
 | _,st=>bif fn.results.size.beq 0 && nt.ble st.out.length then fF fn.ntmps ((st.aq (CA.unY n)).cut nt) K else .fail
mutual
noncomputable def cU {R:Type} (E:Env) (L:Opn):Nat->yf R
 | 0,_,_,_,_,_,ops,draw,K,st=>jN E ops draw K st
 | n + 1,nt,fi,ys,id,rp,ops,draw,K,st=>bif pM L ops then (bif !draw || be ops then eb E L (cU E L n) (cX E L n) nt fi ys id rp draw ops K 0 ops (jj E.T draw st ops) st else .fail) else jN E ops draw K st
noncomputable def cX {R:Type} (E:Env) (L:Opn):Nat->za R
 | 0,_,_,_,_,_,_,_,_,_,_=>.fail
 | n + 1, nt, fi, ys, rp, g, ps, assign, body, K, st => wo (fun st => match (st.ev g).tO with
  | some (f,cs)=>(match L.fns f with
   | some fn => bif Nat.beq fn.params.size 1 && ((cs.length + 1).ble fn.ntmps && st.slots.length.beq nt) then
     kC (cQ E (cU E L n fn.ntmps f (ys ++ [⟨st.out.length,nt,fi,ps,assign,body,false⟩])) (cX E L n fn.ntmps f (ys ++ [⟨st.out.length,nt,fi,ps,assign,body,false⟩])) (L.ann f) (L.jn f) (f :: rp) (bV fn) (uY fn ys.length nt K))
      (iN fn.ntmps (.one (.yl ys.length) :: cs.map AV.one) st) else .fail
   | none=>.fail)
  | none=>.fail) (st.aq (CA.unY ys.length))
end
noncomputable def goQ {R:Type} (E:Env) (L:Opn):List Nat->Nat->Nat->Nat->FuncId->List Rng->List Nat->Code->(AEx->ASt->Prg R)->ASt->Prg R
 | [],n,_,nt,fi,ys,rp,c,K=>cQ E (cU E L n nt fi ys) (cX E L n nt fi ys) (L.ann fi) (L.jn fi) rp c K
 | x :: p, n, no, nt, fi, ys, rp, c, K => match c with
  | .seq a b=>match x with
   | 0=>goQ E L p n no nt fi ys (0 :: rp) a (oV (gD (L.jn fi) b) (1 :: rp) (cQ E (cU E L n nt fi ys) (cX E L n nt fi ys) (L.ann fi) (L.jn fi) (1 :: rp) b K) K)
   | _=>goQ E L p n no nt fi ys (1 :: rp) b K
  | .cond _ a b=>match x with
   | 0=>goQ E L p n no nt fi ys (0 :: rp) a K
   | _=>goQ E L p n no nt fi ys (1 :: rp) b K
  | .block id c=>goQ E L p n no nt fi ys (0 :: rp) c (kX id K)
  | .loop c=>goQ E L p n no nt fi ys (0 :: rp) c (qv (gD (L.ann fi) c) (0 :: rp) K)
  | .rangeFunc _ ps assign body => match n with
   | n + 1=>(match L.fns x with
    | some fn=>goQ E L p n (no + nt) fn.ntmps x (ys ++ [⟨no,nt,fi,ps,assign,body,false⟩]) (x :: rp) (bV fn) (uY fn ys.length nt (K .normal))
    | none=>fun _=>.fail)
   | 0=>fun _=>.fail
  | .region id ops draw => match n with
   | n + 1 => bif (x % 2).beq 0 then (match ops.toList[(x / 2 - 1) % 1000]? with
    | some o=>(match pc L (x / 2 - 1) o.op with
     | some (f, fn) => bif !draw || be ops.toList then goQ E L p n (no + nt) fn.ntmps f ys (x :: rp) (bV fn)
       (sQ E f fn nt o.dst (lP E draw ops.toList ((x / 2 - 1) % 1000) fun st'=>eb E L (cU E L n) (cX E L n) nt fi ys id rp draw ops.toList (K .normal) ((x / 2 - 1) % 1000 + 1) (ops.toList.drop ((x / 2 - 1) % 1000 + 1)) (jj E.T draw st' ops.toList) st')) else fun _=>.fail
     | none=>fun _=>.fail)
    | none=>fun _=>.fail)
    else (match ops.toList[((x - 3) / 2) % 1000]? with
    | some o=>(match ys[(x - 3) / 2 / 1000 / 2]? with
     | some r => bif !draw || be ops.toList then (bif ((x - 3) / 2 / 1000 % 2).beq 0 then
       goQ E L p n (no + nt) r.nt r.fi (aL ys ((x - 3) / 2 / 1000 / 2)) (x :: rp) r.assign
        (nM (cQ E (cU E L n r.nt r.fi (aL ys ((x - 3) / 2 / 1000 / 2))) (cX E L n r.nt r.fi (aL ys ((x - 3) / 2 / 1000 / 2))) (L.ann r.fi) (L.jn r.fi) (jz 1 ((x - 3) / 2 / 1000 / 2) (((x - 3) / 2) % 1000) :: rp) r.body
         (ew r nt o.dst (fun st'=>eb E L (cU E L n) (cX E L n) nt fi ys id rp draw ops.toList (K .normal) (((x - 3) / 2) % 1000 + 1) (ops.toList.drop (((x - 3) / 2) % 1000 + 1)) (jj E.T draw st' ops.toList) st'))))
       else goQ E L p n (no + nt) r.nt r.fi (aL ys ((x - 3) / 2 / 1000 / 2)) (x :: rp) r.body
        (ew r nt o.dst (fun st'=>eb E L (cU E L n) (cX E L n) nt fi ys id rp draw ops.toList (K .normal) (((x - 3) / 2) % 1000 + 1) (ops.toList.drop (((x - 3) / 2) % 1000 + 1)) (jj E.T draw st' ops.toList) st'))) else fun _=>.fail
     | none=>fun _=>.fail)
    | none=>fun _=>.fail)
   | 0=>fun _=>.fail
  | _=>fun _=>.fail
theorem xP {R:Type} (E:Env) (L:Opn) (n no nt:Nat) (fi:FuncId) (ys:List Rng) (rp:List Nat) (K:AEx->ASt->Prg R) (c:Code):goQ E L [] n no nt fi ys rp c K=cQ E (cU E L n nt fi ys) (cX E L n nt fi ys) (L.ann fi) (L.jn fi) rp c K:=rfl
theorem zw {R:Type} (E:Env) (L:Opn) (p:List Nat) (n no nt:Nat) (fi:FuncId) (ys:List Rng) (rp:List Nat) (K:AEx->ASt->Prg R) (a b:Code):goQ E L (0 :: p) n no nt fi ys rp (.seq a b) K=goQ E L p n no nt fi ys (0 :: rp) a (oV (gD (L.jn fi) b) (1 :: rp) (cQ E (cU E L n nt fi ys) (cX E L n nt fi ys) (L.ann fi) (L.jn fi) (1 :: rp) b K) K):=rfl
theorem zV {R:Type} (E:Env) (L:Opn) (p:List Nat) (n no nt:Nat) (fi:FuncId) (ys:List Rng) (rp:List Nat) (K:AEx->ASt->Prg R) (a b:Code):goQ E L (1 :: p) n no nt fi ys rp (.seq a b) K=goQ E L p n no nt fi ys (1 :: rp) b K:=rfl
theorem yL {R:Type} (E:Env) (L:Opn) (p:List Nat) (n no nt:Nat) (fi:FuncId) (ys:List Rng) (rp:List Nat) (K:AEx->ASt->Prg R) (c:Operand) (a b:Code):goQ E L (0 :: p) n no nt fi ys rp (.cond c a b) K=goQ E L p n no nt fi ys (0 :: rp) a K:=rfl
theorem yP {R:Type} (E:Env) (L:Opn) (p:List Nat) (n no nt:Nat) (fi:FuncId) (ys:List Rng) (rp:List Nat) (K:AEx->ASt->Prg R) (c:Operand) (a b:Code):goQ E L (1 :: p) n no nt fi ys rp (.cond c a b) K=goQ E L p n no nt fi ys (1 :: rp) b K:=rfl
theorem yj {R:Type} (E:Env) (L:Opn) (p:List Nat) (n no nt:Nat) (fi:FuncId) (ys:List Rng) (rp:List Nat) (K:AEx->ASt->Prg R) (id:Nat) (c:Code) (x:Nat):goQ E L (x :: p) n no nt fi ys rp (.block id c) K=goQ E L p n no nt fi ys (0 :: rp) c (kX id K):=rfl
theorem Ah {R:Type} (E:Env) (L:Opn) (p:List Nat) (n no nt:Nat) (fi:FuncId) (ys:List Rng) (rp:List Nat) (K:AEx->ASt->Prg R) (c:Code) (x:Nat):goQ E L (x :: p) n no nt fi ys rp (.loop c) K=goQ E L p n no nt fi ys (0 :: rp) c (qv (gD (L.ann fi) c) (0 :: rp) K):=rfl
theorem zX {R:Type} (E:Env) (L:Opn) (p:List Nat) (no nt:Nat) (fi:FuncId) (ys:List Rng) (rp:List Nat) (K:AEx->ASt->Prg R) (g:Operand) (ps:Array Tmp) (assign body:Code) (x:Nat):goQ E L (x :: p) 0 no nt fi ys rp (.rangeFunc g ps assign body) K=fun _=>.fail:=rfl
theorem xq {R:Type} (E:Env) (L:Opn) (p:List Nat) (n no nt:Nat) (fi:FuncId) (ys:List Rng) (rp:List Nat) (K:AEx->ASt->Prg R) (g:Operand) (ps:Array Tmp) (assign body:Code) (x:Nat):goQ E L (x :: p) (n + 1) no nt fi ys rp (.rangeFunc g ps assign body) K=match L.fns x with
 | some fn=>goQ E L p n (no + nt) fn.ntmps x (ys ++ [⟨no,nt,fi,ps,assign,body,false⟩]) (x :: rp) (bV fn) (uY fn ys.length nt (K .normal))
 | none=>fun _=>.fail:=rfl
theorem rQ {R:Type} (E:Env) (L:Opn) (p:List Nat) (no nt:Nat) (fi:FuncId) (ys:List Rng) (rp:List Nat) (K:AEx->ASt->Prg R) (id:Nat) (ops:Array Oper) (draw:Bool) (x:Nat):goQ E L (x :: p) 0 no nt fi ys rp (.region id ops draw) K=fun _=>.fail:=rfl
theorem pK {R : Type} (E : Env) (L : Opn) (p : List Nat) (n no nt : Nat) (fi : FuncId) (ys : List Rng) (rp : List Nat) (K : AEx → ASt → Prg R) (id : Nat) (ops : Array Oper) (draw : Bool) (x : Nat) : goQ E L (x :: p) (n + 1) no nt fi ys rp (.region id ops draw) K = bif (x % 2).beq 0 then (match ops.toList[(x / 2 - 1) % 1000]? with
    | some o=>(match pc L (x / 2 - 1) o.op with
     | some (f, fn) => bif !draw || be ops.toList then goQ E L p n (no + nt) fn.ntmps f ys (x :: rp) (bV fn)
       (sQ E f fn nt o.dst (lP E draw ops.toList ((x / 2 - 1) % 1000) fun st'=>eb E L (cU E L n) (cX E L n) nt fi ys id rp draw ops.toList (K .normal) ((x / 2 - 1) % 1000 + 1) (ops.toList.drop ((x / 2 - 1) % 1000 + 1)) (jj E.T draw st' ops.toList) st')) else fun _=>.fail
     | none=>fun _=>.fail)
    | none=>fun _=>.fail)
    else (match ops.toList[((x - 3) / 2) % 1000]? with
    | some o=>(match ys[(x - 3) / 2 / 1000 / 2]? with
     | some r => bif !draw || be ops.toList then (bif ((x - 3) / 2 / 1000 % 2).beq 0 then
       goQ E L p n (no + nt) r.nt r.fi (aL ys ((x - 3) / 2 / 1000 / 2)) (x :: rp) r.assign
        (nM (cQ E (cU E L n r.nt r.fi (aL ys ((x - 3) / 2 / 1000 / 2))) (cX E L n r.nt r.fi (aL ys ((x - 3) / 2 / 1000 / 2))) (L.ann r.fi) (L.jn r.fi) (jz 1 ((x - 3) / 2 / 1000 / 2) (((x - 3) / 2) % 1000) :: rp) r.body
         (ew r nt o.dst (fun st'=>eb E L (cU E L n) (cX E L n) nt fi ys id rp draw ops.toList (K .normal) (((x - 3) / 2) % 1000 + 1) (ops.toList.drop (((x - 3) / 2) % 1000 + 1)) (jj E.T draw st' ops.toList) st'))))
       else goQ E L p n (no + nt) r.nt r.fi (aL ys ((x - 3) / 2 / 1000 / 2)) (x :: rp) r.body
        (ew r nt o.dst (fun st'=>eb E L (cU E L n) (cX E L n) nt fi ys id rp draw ops.toList (K .normal) (((x - 3) / 2) % 1000 + 1) (ops.toList.drop (((x - 3) / 2) % 1000 + 1)) (jj E.T draw st' ops.toList) st'))) else fun _=>.fail
     | none=>fun _=>.fail)
    | none=>fun _=>.fail):=rfl
def dv:List CA->List (Nat × Nat)
 | []=>[]
 | .sref i r _ :: l=>(i,r) :: dv l
 | .swin i r _ _ _ :: l=>(i,r) :: dv l
 | _ :: l=>dv l
def cn (i r:Nat):List (Nat × Nat)->Nat
 | []=>0
 | (a,b) :: l=>bif a.beq i && b.beq r then cn i r l + 1 else cn i r l
def lT (rs:List (Nat × Nat)) (i r:Nat):Bool:=(cn i r rs).ble 1
def lX (look:Look) (rs:List (Nat × Nat)) (c:CA) (k:TV->Prg TV):Prg TV :=
 match c with
 | .t x=>k x
 | .sref i r p=>ii look (.sref i r p) fun x=>k (bif lT rs i r then x else frz x)
 | .swin i r p lo len=>ii look (.swin i r p lo len) fun x=>k (bif lT rs i r then x else frz x)
 | _=>.fail
def xg (look:Look) (rs:List (Nat × Nat)):List CA->(List TV->Prg TV)->Prg TV
 | [],k=>k []
 | c :: l,k=>lX look rs c fun x=>xg look rs l fun xs=>k (x :: xs)
def xV (look:Look) (rs:List (Nat × Nat)) (v:AV) (k:TV->Prg TV):Prg TV :=
 match v with
 | .one c=>lX look rs c k
 | .tv x=>k x
 | .agg cs=>xg look rs cs fun xs=>k (.agg xs)
 | .tups _=>.fail
 | .clo _ _=>.fail
 | .bl b=>k (.lit (.bool b))
def gives (look:Look) (rs:List (Nat × Nat)):List AV->(List TV->Prg TV)->Prg TV
 | [],k=>k []
 | v :: l,k=>xV look rs v fun x=>gives look rs l fun xs=>k (x :: xs)
def AV.Cp:AV->List (Nat × Nat)
 | .one c=>dv [c]
 | .agg cs=>dv cs
 | _=>[]
def cu:List AV->List (Nat × Nat)
 | []=>[]
 | v :: l=>v.Cp ++ cu l
def Ai (T:Tab) (pure:Bool) (rs:List ResultVar) (st:ASt):Prg TV :=
 match ig T st rs with
 | some vs=>gives st.look (cu vs) vs fun xs=>(match xs with
  | [x]=>bif pure then .chk (cC x) (.ret x) else .ret x
  | xs=>bif pure then .chk (io xs) (.ret (.tup xs)) else .ret (.tup xs))
 | none=>.fail
def lV (look:Look) (rs:List (Nat × Nat)) (i:Nat) (ty:TypeId):List CA->(List TV->Prg TV)->Prg TV
 | [],k=>k []
 | .may j t :: l,k=>bif j.beq i && t.beq ty then lV look rs i ty l (fun xs=>k (BU :: xs)) else .fail
 | c :: l,k=>lX look rs c fun x=>lV look rs i ty l fun xs=>k (x :: xs)
def po (xs:List TV):TV:=match xs with | [x]=>x | xs=>.tup xs
def Au (T:Tab) (ld:eR) (rs:List ResultVar) (st:ASt):Prg TV :=
 match ig T st rs,st.out with
 | some vs,[.one (.ptr i 0)]=>match st.look i with
  | some (.cells cs)=>gives st.look (cu vs ++ dv cs) vs fun xs=>lV st.look (cu vs ++ dv cs) i ld.ty cs fun ys=>.ret (.tup [po xs,.tup ys])
  | _=>.fail
 | _,_=>.fail
def resP (T : Tab) (rs : List ResultVar) (st : ASt) : Prg TV :=
 match ig T st rs with
 | some [v] => (match v.tv? with
  | some x=>.ret x
  | none => match v with
   | .agg cs=>(match dC cs with
    | some xs=>.ret (.agg xs)
    | none=>.fail)
   | _=>.fail)
 | _=>.fail
def Bn (T:Tab) (ld:Option eR) (pk pure:Bool) (rs:List ResultVar) (st:ASt):Prg TV :=
 bif pk then resP T rs st else match ld with
 | none=>Ai T pure rs st
 | some ld=>Au T ld rs st
def fa (ld:eR) (ntmps:Nat) (cs args:List TV):ASt :=
 ⟨.one (.ptr 0 0) :: (args.map (fun x => .tv x) ++ List.replicate (ntmps - (args.length + 1)) (.one .undef)),
  some (.cells (fE 0 1 ld.ty ld.fl cs 0)) :: some (.tree (cB ld.fl cs)) :: List.replicate (cG + ntmps) none,[.one (.ptr 0 0)]⟩
def jO (ntmps:Nat) (cs args:List TV):ASt :=
 ⟨args.map (fun x=>.tv x) ++ (.one (.ref cs 0) :: List.replicate (ntmps - (args.length + 1)) (.one .undef)),List.replicate (cG + ntmps) none,[]⟩
def iF (ntmps:Nat) (args:List TV):ASt :=
 ⟨args.map (fun x=>.tv x) ++ List.replicate (ntmps - args.length) (.one .undef),List.replicate (cG + ntmps) none,[]⟩
def ur (c:Nat × Nat) (x:TV):List TV:=am (List.replicate c.2 .hole) c.1 x
def g8 (c:Nat × Nat) (ntmps:Nat) (x:TV) (args:List TV):ASt :=
 ⟨.one (.ref (ur c x) 0) :: (args.map (fun x=>.tv x) ++ List.replicate (ntmps - (args.length + 1)) (.one .undef)),List.replicate (cG + ntmps) none,[]⟩
def zI (T:Tab) (ld:Option eR) (pk pure:Bool) (rs:List ResultVar):AEx->ASt->Prg TV
 | .normal,st=>Bn T ld pk pure rs st
 | .ret,st=>Bn T ld pk pure rs st
 | _,_=>.fail
structure AProg where
 T:Tab
 pure:FuncId->Bool
 rts:FuncId->List TypeId
 fns:FuncId->Option Func
 ann:FuncId->Nat->Option Ann
 jn:FuncId->Nat->Option Ann
 lent:FuncId->Option eR
 selfT:TypeId->Bool
 ext:FuncId->Option (List TV->Option TV)
 opn:FuncId->Bool
 kp:FuncId->Nat->Option (List Nat)
 peek:FuncId->Option (Nat × Nat)
 turn:FuncId->Bool
 mth:TypeId->String->Option (FuncId × Bool)
 eye:FuncId->Bool
 cold:TypeId->Bool
def AProg.env (A:AProg):Env:=⟨A.T,A.pure,A.rts,A.lent,A.selfT,A.peek,A.turn,A.eye,A.cold⟩
def AProg.opens (A:AProg):Opn:=⟨fun f=>bif A.opn f then A.fns f else none,A.ann,A.jn,A.kp,A.mth⟩
def s8:Nat:=8
def nX (A:AProg) (f:FuncId):Nat:=match A.peek f with | some _=>0 | none=>bif (A.lent f).isSome then 1 else 0
noncomputable def eD (A:AProg) (f:FuncId) (rp:List Nat) (st:ASt):Prg TV :=
 match A.fns f with
 | some fn=>goQ A.env A.opens rp.reverse s8 (nX A f) fn.ntmps f [] [] (bV fn) (zI A.T (A.lent f) (A.peek f).isSome (A.pure f) fn.results.toList) st
 | none=>.fail
def rL:List TV->Option (List TV × TV)
 | []=>none
 | [x]=>some ([],x)
 | x :: y :: l=>match rL (y :: l) with
  | some (asz,z)=>some (x :: asz,z)
  | none=>none
noncomputable def bS (A:AProg) (f:FuncId) (args:List TV):Prg TV :=
 bif A.turn f || (A.eye f && ((A.peek f).isSome || (A.lent f).isSome)) then .fail else match A.peek f with
 | some c=>(match A.fns f,args with
  | some fn,x :: rest=>bif (rest.length + 1).beq fn.params.size && (rest.length + 1).ble fn.ntmps && c.1.blt c.2 then eD A f [] (g8 c fn.ntmps x rest) else .fail
  | _,_=>.fail)
 | none=>match A.fns f with
 | some fn => match A.lent f with
  | none=>bif A.eye f then (match rL args with
   | some (asz,.agg cs)=>bif asz.length.beq fn.params.size && (asz.length + 1).ble fn.ntmps then eD A f [] (jO fn.ntmps cs asz) else .fail
   | _=>.fail) else bif args.length.beq fn.params.size && args.length.ble fn.ntmps then eD A f [] (iF fn.ntmps args) else .fail
  | some ld=>match args with
   | .tup cs :: rest=>bif (rest.length + 1).beq fn.params.size && (rest.length + 1).ble fn.ntmps then .chk (mU ld.fl cs) (eD A f [] (fa ld fn.ntmps cs rest)) else .fail
   | _=>.fail
 | none=>.fail
noncomputable def ib (A:AProg) (C:FuncId->List TV->Option TV) (f:FuncId):Nat->List Nat->ASt->Option TV
 | 0,_,_=>none
 | n + 1,p,st=>(eD A f p st).run C (ib A C f n)
noncomputable def acall (A:AProg):Nat->FuncId->List TV->Option TV
 | 0,_,_=>none
 | n + 1,f,args=>match A.ext f with
  | some g=>g args
  | none=>(bS A f args).run (acall A n) (ib A (acall A n) f n)
end Go.Ab

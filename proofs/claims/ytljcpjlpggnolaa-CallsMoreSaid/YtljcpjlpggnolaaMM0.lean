import Derived.Calls
import Derived.Laws.Sem
import Derived.KernelRfl
namespace Go.Ab
inductive TV where
 | lit (v:Value)
 | sl (own:Bool) (size:Nat) (xs:List (List TV))
 | agg (cs:List TV)
 | tup (vs:List TV)
 | buf (s:ByteArray) (e:Nat)
 | hole
abbrev Way:=List (Nat × Nat)
inductive CA where
 | t (x:TV)
 | ptr (i off:Nat)
 | ref (x:List TV) (off:Nat)
 | tptr (i r:Nat) (p:Way) (k j:Nat)
 | sref (i r:Nat) (p:Way)
 | swin (i r:Nat) (p:Way) (lo len:Nat)
 | may (i:Nat) (ty:TypeId)
 | aptr (i off len n:Nat)
 | yl (n:Nat)
 | ifp (t:TypeId) (i:Nat)
 | fn1 (f:FuncId) (i:Nat)
 | undef
 | junk
inductive AV where
 | one (c:CA)
 | agg (cs:List CA)
 | tv (x:TV)
 | tups (cs:List (Bool × List CA))
 | bl (b:Bool)
 | clo (f:FuncId) (cs:List CA)
inductive BC where
 | cells (cs:List CA)
 | tree (xs:List TV)
structure ASt where
 slots:List AV
 boxes:List (Option BC)
 out:List AV
inductive Kd where
 | bool | int (k:IntKind) | str | slice (e:TypeId) | struct | arr (n:Nat) (e:TypeId) | other | ptr
structure TyD where
 size:Nat
 bytes:Nat
 kd:Kd
 zero:List Value
 fields:List (Nat × TypeId)
def Kd.isAgg:Kd→Bool
 | .struct=>true
 | .arr _ _=>true
 | _=>false
abbrev Tab:=TypeId→Option TyD
def nth {α:Type} (d:α):List α→Nat→α
 | [],_=>d
 | a :: _,0=>a
 | _ :: l,n + 1=>nth d l n
def setNth {α:Type}:List α→Nat→α→List α
 | [],_,_=>[]
 | _ :: l,0,b=>b :: l
 | a :: l,n + 1,b=>a :: setNth l n b
def memB (n:Nat):List Nat→Bool
 | []=>false
 | a :: l=>bif a.beq n then true else memB n l
def lookT:List (Nat × TyD)→Tab
 | [],_=>none
 | (k,d) :: r,t=>bif k.beq t then some d else lookT r t
def setCells {α:Type} (l:List α) (off:Nat):List α→List α
 | []=>l
 | a :: r=>setCells (setNth l off a) (off + 1) r
def takeN {α:Type}:List α→Nat→Nat→Option (List α)
 | _,_,0=>some []
 | [],_,_ + 1=>none
 | a :: l,0,n + 1=>match takeN l 0 n with
  | some r=>some (a :: r)
  | none=>none
 | _ :: l,o + 1,n + 1=>takeN l o (n + 1)
def nilV:Value:=.slice none 0 0
def TV.cell (x:TV) (j:Nat):TV:=match x with | .agg cs=>nth .hole cs j | _=>.hole
def TV.comp (x:TV) (j:Nat):TV:=match x with | .tup cs=>nth .hole cs j | _=>.hole
def TV.isAgg (x:TV) (n:Nat):Bool:=match x with | .agg cs=>cs.length.beq n | _=>false
def TV.isTup (x:TV) (n:Nat):Bool:=match x with | .tup cs=>cs.length.beq n | _=>false
def isSlV:Value→Bool
 | .slice none 0 0=>true
 | _=>false
def scV:Value→Bool
 | .slice _ _ _=>false
 | .agg _=>false
 | .tuple _=>false
 | _=>true
def TV.isSc (x:TV):Bool:=match x with | .lit v=>scV v | _=>false
def TV.isSl (x:TV):Bool:=match x with | .lit v=>isSlV v | .sl _ _ _=>true | _=>false
def TV.isFr (x:TV):Bool:=match x with | .lit _=>true | .sl o _ _=>!o | _=>false
def TV.isOne (x:TV):Bool:=match x with | .lit v=>v.oneCell' | .sl _ _ _=>true | _=>false
def TV.lf (x:TV):TV:=match x with | .lit v=>.lit v | _=>.hole
def lfL:List TV→List TV
 | []=>[]
 | x :: l=>x.lf :: lfL l
def lfLL:List (List TV)→List (List TV)
 | []=>[]
 | x :: l=>lfL x :: lfLL l
mutual
def frz:TV→TV
 | .lit v=>.lit v
 | .sl _ s xs=>.sl false s (frzLL xs)
 | .agg cs=>.agg (frzL cs)
 | .tup cs=>.tup (frzL cs)
 | .buf _ _=>.hole
 | .hole=>.hole
def frzL:List TV→List TV
 | []=>[]
 | x :: l=>frz x :: frzL l
def frzLL:List (List TV)→List (List TV)
 | []=>[]
 | x :: l=>frzL x :: frzLL l
end
mutual
def isOwn:TV→Bool
 | .lit _=>true
 | .sl o _ xs=>o && isOwnLL xs
 | .agg cs=>isOwnL cs
 | .tup cs=>isOwnL cs
 | .buf _ _=>true
 | .hole=>true
def isOwnL:List TV→Bool
 | []=>true
 | x :: l=>isOwn x && isOwnL l
def isOwnLL:List (List TV)→Bool
 | []=>true
 | x :: l=>isOwnL x && isOwnLL l
end
def asBool:TV→Option Bool
 | .lit (.bool b)=>some b
 | _=>none
def fnOf:TV→Option Nat
 | .lit (.func (.func f) ts fs)=>bif ts.size.beq 0 && fs.size.beq 0 then some f else none
 | _=>none
def asNat:TV→Option Nat
 | .lit (.int _ n)=>if 0≤n∧n≤9223372036854775807 then some n.toNat else none
 | _=>none
def getP:Way→TV→Option TV
 | [],x=>some x
 | (k, j) :: p, .sl _ _ xs => match xs[k]? with
  | some e=>match e[j]? with
   | some y=>getP p y
   | none=>none
  | none=>none
 | _ :: _,_=>none
def setP : Way → TV → TV → Option TV
 | [],_,y=>some y
 | (k, j) :: p, .sl true s xs, y => match xs[k]? with
  | some e => match e[j]? with
   | some z=>match setP p z y with
    | some z'=>some (.sl true s (setNth xs k (setNth e j z')))
    | none=>none
   | none=>none
  | none=>none
 | _ :: _,_,_=>none
def pel (x:TV) (k:Nat):Option (List TV):=match x with | .sl _ _ xs=>xs[k]? | _=>none
def setEl (x:TV) (k j:Nat) (ys:List TV):Option TV :=
 match x with
 | .sl true s xs=>match xs[k]? with
  | some e=>some (.sl true s (setNth xs k (setCells e j ys)))
  | none=>none
 | _=>none
def setC (p:Way) (x:TV) (k j:Nat) (ys:List TV):Option TV :=
 match getP p x with
 | some s=>match setEl s k j ys with
  | some s'=>setP p x s'
  | none=>none
 | none=>none
def winP (lo len:Nat) (x:TV):Option TV :=
 match x with
 | .sl o s xs=>if lo + len≤xs.length then some (.sl o s ((xs.drop lo).take len)) else none
 | .lit (.slice none 0 0)=>if lo=0∧len=0 then some (.lit nilV) else none
 | _=>none
def room:Nat:=4294967296
def rowT (size:Nat) (xs:List (List TV)):TV:=match xs with | []=>.lit nilV | x :: l=>.sl true size (x :: l)
def papp (size:Nat) (x:TV) (news:List (List TV)):Option TV :=
 match x with
 | .lit (.slice none 0 0)=>if news.length≤room then some (rowT size news) else none
 | .sl true s xs=>if s=size∧xs.length + news.length≤room then some (.sl true s (xs ++ news)) else none
 | _=>none
def pcopy (size:Nat) (x:TV) (news:List (List TV)):Option TV :=
 match x with
 | .sl true s xs=>if s=size then some (.sl true s (news.take xs.length ++ xs.drop news.length)) else none
 | .lit (.slice none 0 0)=>some (.lit nilV)
 | _=>none
def slLen (x:TV):Option Nat:=match x with | .sl _ _ xs=>some xs.length | .lit (.slice none 0 0)=>some 0 | _=>none
def slSize (x:TV) (size:Nat):Bool:=match x with | .sl _ s _=>s.beq size | .lit (.slice none 0 0)=>true | _=>false
def fitsAt:List Value→List TV→Nat→Bool
 | [],_,_=>true
 | z :: zs,e,j=>match e[j]? with
  | some c=>(bif isSlV z then c.isSl else c.isSc) && fitsAt zs e (j + 1)
  | none=>false
def TV.isHole (x:TV):Bool:=match x with | .hole=>true | _=>false
def fitsOld:List Value→List TV→Nat→Bool
 | [],_,_=>true
 | z :: zs,e,j=>match e[j]? with
  | some c=>(bif isSlV z then c.isSl || c.isHole else c.isSc) && fitsOld zs e (j + 1)
  | none=>false
def intBin (op:BinOp) (k:IntKind) (a b:Int):Option TV :=
 match op with
 | .add=>some (.lit (.int k (k.wrap (a + b))))
 | .sub=>some (.lit (.int k (k.wrap (a - b))))
 | .mul=>some (.lit (.int k (k.wrap (a * b))))
 | .quo=>if b=0 then none else some (.lit (.int k (k.wrap (a.tdiv b))))
 | .rem=>if b=0 then none else some (.lit (.int k (a.tmod b)))
 | .eql=>some (.lit (.bool (a == b)))
 | .neq=>some (.lit (.bool (a != b)))
 | .lss=>some (.lit (.bool (decide (a < b))))
 | .leq=>some (.lit (.bool (decide (a≤b))))
 | .gtr=>some (.lit (.bool (decide (a > b))))
 | .geq=>some (.lit (.bool (decide (a ≥ b))))
 | .and=>some (.lit (.int k (k.wrap ((BitVec.ofInt k.bits a &&& BitVec.ofInt k.bits b).toNat))))
 | .or=>some (.lit (.int k (k.wrap ((BitVec.ofInt k.bits a ||| BitVec.ofInt k.bits b).toNat))))
 | _=>none
def strBin (op:BinOp) (a b:ByteArray):Option TV :=
 match op with
 | .eql=>some (.lit (.bool (a.toList == b.toList)))
 | .neq=>some (.lit (.bool (!(a.toList == b.toList))))
 | .lss=>some (.lit (.bool (Op.bytesLess a.toList b.toList)))
 | .add=>if ((a.size + b.size:Nat):Int) > IntKind.i64.max then none else some (.lit (.string (a ++ b)))
 | _=>none
def eqOr (op:BinOp) (b:Bool):Option TV :=
 match op with
 | .eql=>some (.lit (.bool b))
 | .neq=>some (.lit (.bool !b))
 | _=>none
def pbin (kd:Kd) (op:BinOp) (x y:TV):Option TV :=
 match kd,x,y with
 | .int _,.lit (.int k a),.lit (.int k' b)=>if k=k' then intBin op k a b else none
 | .bool,.lit (.bool a),.lit (.bool b)=>eqOr op (a == b)
 | .str,.lit (.string a),.lit (.string b)=>strBin op a b
 | .slice _,.lit (.slice none _ _),.lit (.slice none _ _)=>eqOr op true
 | .slice _,.sl _ _ _,.lit (.slice none _ _)=>eqOr op false
 | _,_,_=>none
def pun (op:UnOp) (x:TV):Option TV :=
 match op,x with
 | .not,.lit (.bool b)=>some (.lit (.bool !b))
 | .neg,.lit (.int k n)=>some (.lit (.int k (k.wrap (0 - n))))
 | _,_=>none
def pconv (kd:Kd) (x:TV):Option TV :=
 match kd,x with
 | .int k,.lit (.int _ n)=>some (.lit (.int k (k.wrap n)))
 | .str,.lit (.string s)=>some (.lit (.string s))
 | .str,.lit (.int _ n)=>some (.lit (.string (Utf8.encode n)))
 | _,_=>none
def isByteD (d:TyD):Bool:=match d.kd,d.zero with
 | .int .u8,[.int .u8 0]=>d.size.beq 1 && d.bytes.beq 1
 | _,_=>false
def byteRows (s:ByteArray):List (List TV):=s.data.toList.map fun b=>[.lit (.int .u8 b.toNat)]
def pbytes (x:TV):Option (List (List TV)):=match x with | .lit (.string s)=>some (byteRows s) | _=>none
def bytesOf:List (List TV)→Option (List Int)
 | []=>some []
 | [.lit (.int .u8 n)] :: l=>match bytesOf l with
  | some r=>some (n :: r)
  | none=>none
 | _=>none
def strOf (l:List Int):ByteArray:=l.foldl (fun r n=>r.push (UInt8.ofNat n.toNat)) ByteArray.empty
def pstrB (rows:List (List TV)):Option TV:=match bytesOf rows with | some l=>some (.lit (.string (strOf l))) | none=>none
def plen (kd:Kd) (x:TV):Option TV :=
 match kd,x with
 | .slice _,.lit (.slice none 0 _)=>some (.lit (.int .i64 0))
 | .str,.lit (.string s)=>some (.lit (.int .i64 s.size))
 | .slice _,.sl _ _ xs=>some (.lit (.int .i64 xs.length))
 | _,_=>none
def pidx (size:Nat) (x i:TV):Option (List TV) :=
 match x,i with
 | .sl _ s xs,.lit (.int _ n)=>if s=size∧0≤n then xs[n.toNat]? else none
 | _,_=>none
def pslice (kd:Kd) (sz:Nat) (x:TV) (lo hi:Option Nat):Option TV :=
 match kd,x with
 | .slice _,.sl o s xs =>
  if s=sz∧lo.getD 0≤hi.getD xs.length∧hi.getD xs.length≤xs.length then some (.sl o s ((xs.drop (lo.getD 0)).take (hi.getD xs.length - lo.getD 0))) else none
 | .slice _,.lit (.slice none 0 0)=>if lo.getD 0=0∧hi.getD 0=0 then some (.lit nilV) else none
 | .str,.lit (.string s) =>
  if lo.getD 0≤hi.getD s.size∧hi.getD s.size≤s.size then some (.lit (.string (s.extract (lo.getD 0) (hi.getD s.size)))) else none
 | _,_=>none
def pstr (x i:TV):Option TV :=
 match x,i with
 | .lit (.string s),.lit (.int _ n)=>if 0≤n then (s[n.toNat]?).map fun b=>.lit (.int .u8 b.toNat) else none
 | _,_=>none
def pelems (size:Nat):TV→Option (List (List TV))
 | .lit (.slice none 0 _)=>some []
 | .sl _ s xs=>if s=size then some xs else none
 | _=>none
inductive Prg (R:Type) where
 | fail
 | ret (r:R)
 | tv (p:Option TV) (k:TV→Prg R)
 | tvs (p:Option (List TV)) (k:List TV→Prg R)
 | rws (p:Option (List (List TV))) (k:List (List TV)→Prg R)
 | nat (p:Option Nat) (k:Nat→Prg R)
 | chk (b:Bool) (k:Prg R)
 | ite (b:Option Bool) (t e:Prg R)
 | call (f:FuncId) (xs:List TV) (k:TV→Prg R)
 | jmp (p:List Nat) (st:ASt)
def Prg.bind {R S:Type} (f:R→Prg S):Prg R→Prg S
 | .fail=>.fail
 | .ret r=>f r
 | .tv p k=>.tv p fun v=>(k v).bind f
 | .tvs p k=>.tvs p fun v=>(k v).bind f
 | .rws p k=>.rws p fun v=>(k v).bind f
 | .nat p k=>.nat p fun v=>(k v).bind f
 | .chk b k=>.chk b (k.bind f)
 | .ite b t e=>.ite b (t.bind f) (e.bind f)
 | .call g xs k=>.call g xs fun v=>(k v).bind f
 | .jmp _ _=>.fail
def Prg.run {R:Type} (C:FuncId→List TV→Option TV) (J:List Nat→ASt→Option R):Prg R→Option R
 | .fail=>none
 | .ret r=>some r
 | .tv p k=>p.bind fun v=>(k v).run C J
 | .tvs p k=>p.bind fun v=>(k v).run C J
 | .rws p k=>p.bind fun v=>(k v).run C J
 | .nat p k=>p.bind fun v=>(k v).run C J
 | .chk b k=>bif b then k.run C J else none
 | .ite b t e=>b.bind fun b=>bif b then t.run C J else e.run C J
 | .call f xs k=>(C f xs).bind fun v=>(k v).run C J
 | .jmp p st=>J p st
inductive Prim where
 | drop (i r:Nat) (js:List Nat) (strict:Bool)
 | root (i r:Nat) (x:TV)
 | frz (i r:Nat)
 | unmay (i:Nat)
 | newB (b:BC)
 | setB (i:Nat) (cs:List CA)
inductive Eff where
 | val (v:AV)
 | new (b:BC) (v:AV)
 | upd (i:Nat) (b:BC) (v:AV)
 | gen (ps:List Prim) (v:AV)
abbrev Out:=Prg Eff
def ASt.ev (st:ASt):Operand→AV
 | .tmp t=>nth (.one .junk) st.slots t
 | .const (.bool b)=>.bl b
 | .const v=>bif v.oneCell' then .one (.t (.lit v)) else .tv (.lit v)
 | .global g=>.tv (.lit (.pointer (some ⟨g,0,none⟩)))
 | .func f=>.tv (.lit (.func (.func f) #[] #[]))
def AV.tv? : AV→Option TV
 | .one (.t x)=>some x
 | .tv x=>some x
 | .bl b=>some (.lit (.bool b))
 | _=>none
abbrev Look:=Nat→Option BC
def CA.kept:CA→Bool
 | .undef=>false
 | .junk=>false
 | _=>true
def AV.cellsO {R:Type} (agg:Bool) (n:Nat) (v:AV) (k:List CA→Prg R):Prg R :=
 match agg,v with
 | false,.one c=>bif c.kept then k [c] else .fail
 | false,.tv x=>.chk x.isOne (k [.t x])
 | false,.bl b=>k [.t (.lit (.bool b))]
 | false,.clo f [.ptr i 0]=>k [.fn1 f i]
 | true,.agg cs=>bif cs.length.beq n then k cs else .fail
 | true,.tv x=>.chk (x.isAgg n) (k ((List.range n).map fun j=>.t (x.cell j)))
 | _,_=>.fail
def catchO {R:Type}:List AV→(List CA→Prg R)→Prg R
 | [],k=>k []
 | v :: l,k=>v.cellsO false 1 fun cs=>catchO l fun cs'=>k (cs ++ cs')
def ofCells (agg:Bool):List CA→Option AV
 | []=>bif agg then some (.agg []) else none
 | c :: cs=>bif agg then some (.agg (c :: cs)) else (match cs with | []=>some (.one c) | _=>none)
def getO {R:Type} (p:Way) (x:TV) (k:TV→Prg R):Prg R :=
 match p with
 | []=>k x
 | _=>.tv (getP p x) k
def setO {R:Type} (p:Way) (x y:TV) (k:TV→Prg R):Prg R :=
 match p with
 | []=>k y
 | _=>.tv (setP p x y) k
def rootOf (look:Look) (i r:Nat):Option TV :=
 match look i with
 | some (.tree xs)=>bif r.blt xs.length then some (nth .hole xs r) else none
 | _=>none
def resT {R:Type} (look:Look) (c:CA) (k:TV→Prg R):Prg R :=
 match c with
 | .t x=>k x
 | .sref i r p=>match rootOf look i r with
  | some x=>getO p x k
  | none=>.fail
 | .swin i r p lo len=>match rootOf look i r with
  | some x=>getO p x fun y=>.tv (winP lo len y) k
  | none=>.fail
 | _=>.fail
def resA {R:Type} (look:Look) (v:AV) (k:TV→Prg R):Prg R :=
 match v with
 | .one c=>resT look c k
 | .tv x=>k x
 | .bl b=>k (.lit (.bool b))
 | _=>.fail
def lendC {R:Type} (look:Look) (c:CA) (k:TV→Prg R):Prg R :=
 match c with
 | .t x=>k x
 | .sref i r p=>resT look (.sref i r p) fun x=>k (frz x)
 | .swin i r p lo len=>resT look (.swin i r p lo len) fun x=>k (frz x)
 | _=>.fail
def lendL {R:Type} (look:Look):List CA→(List TV→Prg R)→Prg R
 | [],k=>k []
 | c :: l,k=>lendC look c fun x=>lendL look l fun xs=>k (x :: xs)
def lendA {R:Type} (look:Look) (v:AV) (k:TV→Prg R):Prg R :=
 match v with
 | .one c=>lendC look c k
 | .tv x=>k x
 | .agg cs=>lendL look cs fun xs=>k (.agg xs)
 | .tups _=>.fail
 | .clo _ _=>.fail
 | .bl b=>k (.lit (.bool b))
def lends {R:Type} (look:Look):List AV→(List TV→Prg R)→Prg R
 | [],k=>k []
 | v :: l,k=>lendA look v fun x=>lends look l fun xs=>k (x :: xs)
def handC {R:Type} (look:Look) (c:CA) (k:TV→List (Nat × Nat)→Prg R):Prg R :=
 match c with
 | .t x=>k x []
 | .sref i r p => match rootOf look i r with
  | some x=>(match p with
   | []=>k (frz x) [(i,r)]
   | _=>.tv (getP p x) fun y=>.chk y.isFr (k y []))
  | none=>.fail
 | .swin i r p lo len => match rootOf look i r with
  | some x=>(match p with
   | []=>.tv (winP lo len x) fun y=>k (frz y) [(i,r)]
   | _=>.tv (getP p x) fun z=>.tv (winP lo len z) fun y=>.chk y.isFr (k y []))
  | none=>.fail
 | _=>.fail
def handL {R:Type} (look:Look):List CA→(List TV→List (Nat × Nat)→Prg R)→Prg R
 | [],k=>k [] []
 | c :: l,k=>handC look c fun x r=>handL look l fun xs rs=>k (x :: xs) (r ++ rs)
def handA {R:Type} (look:Look) (v:AV) (k:TV→List (Nat × Nat)→Prg R):Prg R :=
 match v with
 | .one c=>handC look c k
 | .tv x=>k x []
 | .agg cs=>handL look cs fun xs rs=>k (.agg xs) rs
 | .tups _=>.fail
 | .clo _ _=>.fail
 | .bl b=>k (.lit (.bool b)) []
def hands {R:Type} (look:Look):List AV→(List TV→List (Nat × Nat)→Prg R)→Prg R
 | [],k=>k [] []
 | v :: l,k=>handA look v fun x r=>hands look l fun xs rs=>k (x :: xs) (r ++ rs)
def frzPs:List (Nat × Nat)→List Prim
 | []=>[]
 | (i,r) :: l=>.frz i r :: frzPs l
inductive Fl where
 | sc | sl | may | bf (e:Nat) | any
structure LentD where
 ty:TypeId
 fl:List Fl
structure Env where
 T:Tab
 pure:FuncId→Bool
 rts:FuncId→List TypeId
 lent:FuncId→Option LentD
 selfT:TypeId→Bool
 peek:FuncId→Option (Nat × Nat)
 turn:FuncId→Bool
 eye:FuncId→Bool
 cold:TypeId→Bool
def CA.add:CA→Nat→Option CA
 | .ptr i off,n=>some (.ptr i (off + n))
 | .ref x off,n=>some (.ref x (off + n))
 | .tptr i r p k j,n=>some (.tptr i r p k (j + n))
 | _,_=>none
def fillParts {R:Type} (at_:Nat→Option (Nat × Bool × Nat)):List Nat→List AV→List CA→(List CA→Prg R)→Prg R
 | [],[],cs,k=>k cs
 | i :: is,x :: rest,cs,k=>match at_ i with
  | some (off,agg,n)=>x.cellsO agg n fun ps=>bif (off + ps.length).ble cs.length && ps.length.beq n then fillParts at_ is rest (setCells cs off ps) k else .fail
  | none=>.fail
 | _,_,_,_=>.fail
def places (T:Tab) (d:TyD) (i:Nat):Option (Nat × Bool × Nat) :=
 match d.kd with
 | .struct => match d.fields[i]? with
  | some (off,ty)=>match T ty with
   | some e=>some (off,e.kd.isAgg,e.size)
   | none=>none
  | none=>none
 | .arr _ e=>match T e with
  | some e=>some (i * e.size,e.kd.isAgg,e.size)
  | none=>none
 | _=>none
def chunks {α:Type} (size:Nat):Nat→List α→List (List α)
 | 0,_=>[]
 | n + 1,l=>l.take size :: chunks size n (l.drop size)
def vt (x:TV):Out:=.ret (.val (.one (.t x)))
def isNilTV:TV→Bool
 | .lit (.slice none 0 0)=>true
 | _=>false
def wayJs:Way→List Nat
 | []=>[]
 | (_,j) :: p=>j :: wayJs p
def hasSl:List Value→Bool
 | []=>false
 | z :: l=>bif isSlV z then true else hasSl l
def gatherO {R:Type} (look:Look):List CA→(List TV→List Prim→List (Nat × Nat)→Prg R)→Prg R
 | [],k=>k [] [] []
 | .t x :: l,k=>gatherO look l fun xs ps ts=>k (x :: xs) ps ts
 | .sref i r p :: l, k => match rootOf look i r with
  | some x=>(match p with
   | []=>gatherO look l fun xs ps ts=>k (x :: xs) (.drop i r [] false :: .root i r .hole :: ps) ((i,r) :: ts)
   | _=>.tv (getP p x) fun y=>.chk y.isFr (gatherO look l fun xs ps ts=>k (y :: xs) ps ts))
  | none=>.fail
 | .swin i r p lo len :: l, k => match rootOf look i r with
  | some x=>(match p with
   | []=>.tv (winP lo len x) fun y=>gatherO look l fun xs ps ts=>k (y :: xs) (.drop i r [] false :: .root i r .hole :: ps) ((i,r) :: ts)
   | _=>.tv (getP p x) fun z=>.tv (winP lo len z) fun y=>.chk y.isFr (gatherO look l fun xs ps ts=>k (y :: xs) ps ts))
  | none=>.fail
 | _,_=>.fail
def frB (y:TV):Option Bool:=some y.isFr
def gatherT {R:Type} (look:Look):List CA→(List TV→List Prim→List (Nat × Nat)→Prg R)→Prg R
 | [],k=>k [] [] []
 | .t x :: l,k=>gatherT look l fun xs ps ts=>k (x :: xs) ps ts
 | .sref i r p :: l, k => match rootOf look i r with
  | some x=>(match p with
   | []=>gatherT look l fun xs ps ts=>k (x :: xs) (.drop i r [] false :: .root i r .hole :: ps) ((i,r) :: ts)
   | _ => .tv (getP p x) fun y => .ite (frB y) (gatherT look l fun xs ps ts => k (y :: xs) ps ts)
     (.tv (setP p x .hole) fun x'=>gatherT look l fun xs ps ts=>k (y :: xs) (.drop i r (wayJs p) false :: .root i r x' :: ps) ((i,r) :: ts)))
  | none=>.fail
 | .swin i r p lo len :: l, k => match rootOf look i r with
  | some x=>(match p with
   | []=>.tv (winP lo len x) fun y=>gatherT look l fun xs ps ts=>k (y :: xs) (.drop i r [] false :: .root i r .hole :: ps) ((i,r) :: ts)
   | _=>.tv (getP p x) fun z=>.tv (winP lo len z) fun y=>.chk y.isFr (gatherT look l fun xs ps ts=>k (y :: xs) ps ts))
  | none=>.fail
 | _,_=>.fail
def memP (i r:Nat):List (Nat × Nat)→Bool
 | []=>false
 | (a,b) :: l=>bif a.beq i && b.beq r then true else memP i r l
def nodupP:List (Nat × Nat)→Bool
 | []=>true
 | (a,b) :: l=>!memP a b l && nodupP l
def freeB (i:Nat):List (Nat × Nat)→Bool
 | []=>true
 | (a,_) :: l=>bif a.beq i then false else freeB i l
def isDest (i:Nat):Option Nat→Bool
 | some j=>i.beq j
 | none=>false
def srcO {R : Type} (look : Look) (d : TyD) (dest : Option Nat) (x : AV) (k : List (List TV) → List Prim → Prg R) : Prg R :=
 match x.tv? with
 | some x=>.rws (pelems d.size x) fun xs=>k xs []
 | none => match x with
  | .one c => bif hasSl d.zero then
    (match c with
    | .sref i r p => match rootOf look i r with
     | some x=>(match p with
      | []=>bif isDest i dest then .fail else .rws (pelems d.size x) fun xs=>k xs [.drop i r [] false,.root i r .hole]
      | _=>.tv (getP p x) fun y=>.chk y.isFr (.rws (pelems d.size y) fun xs=>k xs []))
     | none=>.fail
    | .swin i r p lo len => match rootOf look i r with
     | some x=>(match p with
      | []=>bif isDest i dest then .fail else .tv (winP lo len x) fun y=>.rws (pelems d.size y) fun xs=>k xs [.drop i r [] false,.root i r .hole]
      | _=>.tv (getP p x) fun z=>.tv (winP lo len z) fun y=>.chk y.isFr (.rws (pelems d.size y) fun xs=>k xs []))
     | none=>.fail
    | _=>.fail)
   else resT look c fun s=>.rws (pelems d.size s) fun xs=>k (lfLL xs) []
  | _=>.fail
def lenO (look:Look) (kd:Kd) (x:AV):Out :=
 match kd with
 | .arr n _=>vt (.lit (.int .i64 n))
 | kd=>resA look x fun s=>.tv (plen kd s) vt
def mkNew (ps:List Prim) (b:BC) (v:AV):Eff:=match ps with | []=>.new b v | _=>.gen (ps ++ [.newB b]) v
def destOf:AV→Option Nat
 | .one (.sref i _ _)=>some i
 | .one (.swin i _ _ _ _)=>some i
 | _=>none
def appendK (id : Nat) (look : Look) (d : TyD) (s : AV) (news : List (List TV)) (ps : List Prim) : Out :=
 match s.tv? with
 | some s=>bif isNilTV s then .tv (papp d.size s news) fun y=>.ret (mkNew ps (.tree [y]) (.one (.sref id 0 []))) else .fail
 | none => match s with
  | .one (.sref i r p) => match rootOf look i r with
   | some x=>(match p with
    | []=>.tv (papp d.size x news) fun y=>.ret (.gen (ps ++ [.drop i r [] false,.root i r y]) (.one (.sref i r [])))
    | _=>.tv (getP p x) fun z=>.tv (papp d.size z news) fun y=>.tv (setP p x .hole) fun x'=>.ret (.gen (ps ++ [.drop i r (wayJs p) false,.root i r x',.newB (.tree [y])]) (.one (.sref id 0 []))))
   | none=>.fail
  | .one (.swin i r p lo len) => match rootOf look i r with
   | some x=>(match p with
    | []=>.tv (winP lo len x) fun z=>.tv (papp d.size z news) fun y=>.ret (.gen (ps ++ [.drop i r [] false,.root i r y]) (.one (.sref i r [])))
    | _=>.tv (getP p x) fun z0=>.tv (winP lo len z0) fun z=>.tv (papp d.size z news) fun y=>.tv (setP p x .hole) fun x'=>.ret (.gen (ps ++ [.drop i r (wayJs p) false,.root i r x',.newB (.tree [y])]) (.one (.sref id 0 []))))
   | none=>.fail
  | _=>.fail
def appendO (id:Nat) (look:Look) (d:TyD) (s x:AV):Out :=
 bif d.bytes.ble 4096 && Nat.blt 0 d.size then srcO look d (destOf s) x fun news ps=>appendK id look d s news ps else .fail
def appendSO (id:Nat) (look:Look) (d:TyD) (s x:AV):Out :=
 bif isByteD d then (match x.tv? with
  | some x=>.rws (pbytes x) fun news=>appendK id look d s news []
  | none=>.fail) else .fail
def copyO (look : Look) (d : TyD) (s x : AV) : Out :=
 srcO look d (destOf s) x fun news ps =>
 match s with
 | .one (.sref i r p)=>match rootOf look i r with
  | some x => getO p x fun z => .tv (pcopy d.size z news) fun y => setO p x y fun x' => .nat (slLen z) fun n =>
    .ret (.gen (ps ++ [.drop i r (wayJs p) true,.root i r x']) (.one (.t (.lit (.int .i64 (Nat.min news.length n))))))
  | none=>.fail
 | _=>.fail
def pclear (size:Nat) (z:List TV) (lo len:Nat) (x:TV):Option TV :=
 match x with
 | .sl true s xs=>if s=size∧lo + len≤xs.length then some (.sl true s (xs.take lo ++ (List.replicate len z ++ xs.drop (lo + len)))) else none
 | .lit (.slice none 0 0)=>if len=0 then some (.lit nilV) else none
 | _=>none
def clearO (look:Look) (d:TyD) (s:AV):Out :=
 bif Nat.blt 0 d.size then (match s with
 | .one (.swin i r p lo len)=>match rootOf look i r with
  | some x=>getO p x fun z=>.tv (pclear d.size (d.zero.map .lit) lo len z) fun y=>setO p x y fun x'=>.ret (.gen [.drop i r (wayJs p) true,.root i r x'] (.tups []))
  | none=>.fail
 | _=>.fail) else .fail
def elemOf (T:Tab) (t:TypeId):Option (TypeId × TyD) :=
 match T t with
 | some ⟨_,_,.slice e,_,_⟩=>match T e with
  | some d=>some (e,d)
  | none=>none
 | _=>none
def pmin (mx:Bool) (x y:TV):Option TV :=
 match x,y with
 | .lit (.int k a),.lit (.int _ b)=>some (.lit (.int k (bif mx then (if b > a then b else a) else (if b < a then b else a))))
 | _,_=>none
def minO (mx:Bool) (x y:AV):Out :=
 match x.tv?,y.tv? with
 | some x,some y=>.tv (pmin mx x y) vt
 | _,_=>.fail
def builtinO (E:Env) (id:Nat) (look:Look) (b:Builtin) (tys:List TypeId) (args:List AV):Out :=
 match b,args,tys with
 | .len,[x],[ty]=>match E.T ty with
  | some d=>lenO look d.kd x
  | none=>.fail
 | .append, [s, x], [ty, ty'] => match elemOf E.T ty with
  | some (_,d)=>bif ty.beq ty' then appendO id look d s x else (match E.T ty' with
   | some ⟨_,_,.str,_,_⟩=>appendSO id look d s x
   | _=>.fail)
  | none=>.fail
 | .copy,[s,x],[ty,ty']=>match elemOf E.T ty with
  | some (_,d)=>bif ty.beq ty' then copyO look d s x else .fail
  | none=>.fail
 | .clear,[s],[ty]=>match elemOf E.T ty with
  | some (_,d)=>clearO look d s
  | none=>.fail
 | .min,[x,y],_=>minO false x y
 | .max,[x,y],_=>minO true x y
 | _,_,_=>.fail
def plainCs:List CA→Option (List TV)
 | []=>some []
 | .t x :: l=>match plainCs l with
  | some r=>some (x :: r)
  | none=>none
 | _=>none
def optNat {R:Type} (v:Option AV) (k:Option Nat→Prg R):Prg R :=
 match v with
 | none=>k none
 | some v=>match v.tv? with
  | some x=>.nat (asNat x) fun n=>k (some n)
  | none=>.fail
def loadRef (d:TyD) (x:List TV) (off:Nat):Out :=
 bif d.kd.isAgg then .chk ((off + d.size).ble x.length) (.ret (.val (.agg ((List.range d.size).map fun j=>.t (nth .hole x (off + j))))))
 else .chk (off.blt x.length) (vt (nth .hole x off))
def cellsAt (i r:Nat) (p:Way) (k:Nat) (e:List TV):List Value→Nat→List CA
 | [],_=>[]
 | z :: zs,j=>(bif isSlV z then .sref i r (p ++ [(k,j)]) else .t (nth .hole e j)) :: cellsAt i r p k e zs (j + 1)
def pnth (n:Nat) (xs:List TV):Option TV:=xs[n]?
def selT (n j:Nat) (y x:TV):TV:=bif n.beq j then y else x
def selAll (n:Nat) (y:TV):Nat→List TV→List CA
 | _,[]=>[]
 | j,x :: l=>.t (selT n j y x) :: selAll n y (j + 1) l
def rowOfC (look:Look) (i off len:Nat):Option (List CA × List TV) :=
 match look i with
 | some (.cells cs) => match takeN cs off len with
  | some cs1=>match plainCs cs1 with
   | some xs=>some (cs,xs)
   | none=>none
  | none=>none
 | _=>none
def loadO (look : Look) (d : TyD) (a : AV) : Out :=
 match a with
 | .one (.aptr i off len n)=>bif d.kd.isAgg then .fail else (match rowOfC look i off len with
  | some (_,xs)=>.tv (pnth n xs) vt
  | none=>.fail)
 | .one (.ptr i off) => match look i with
  | some (.cells cs) => match takeN cs off (bif d.kd.isAgg then d.size else 1) with
   | some cs=>match ofCells d.kd.isAgg cs with
    | some v=>.ret (.val v)
    | none=>.fail
   | none=>.fail
  | _=>.fail
 | .one (.ref x off)=>loadRef d x off
 | .one (.tptr i r p k j) => match rootOf look i r with
  | some x=>getO p x fun s=>.tvs (pel s k) fun e=>.chk (fitsAt d.zero e j) (match ofCells d.kd.isAgg (cellsAt i r p k e d.zero j) with
   | some v=>.ret (.val v)
   | none=>.fail)
  | none=>.fail
 | _=>.fail
def dropsAt (i r:Nat) (js:List Nat):List Value→Nat→List Prim
 | [],_=>[]
 | z :: zs,j=>bif isSlV z then .drop i r (js ++ [j]) false :: dropsAt i r js zs (j + 1) else dropsAt i r js zs (j + 1)
def setRoot (look:Look) (i r:Nat) (x:TV):Option BC :=
 match look i with
 | some (.tree xs)=>some (.tree (setNth xs r x))
 | _=>none
def storeO (look : Look) (d : TyD) (a x : AV) : Out :=
 match a with
 | .one (.aptr i off len n) => bif d.kd.isAgg then .fail else (match rowOfC look i off len with
  | some (cs,xs)=>x.cellsO false 1 fun ps=>(match ps with
   | [.t y]=>.ret (.upd i (.cells (setCells cs off (selAll n y 0 xs))) (.one .undef))
   | _=>.fail)
  | none=>.fail)
 | .one (.ptr i off)=>x.cellsO d.kd.isAgg d.size fun ps=>match look i with
  | some (.cells cs)=>bif (off + ps.length).ble cs.length && ps.length.beq d.size then .ret (.upd i (.cells (setCells cs off ps)) (.one .undef)) else .fail
  | _=>.fail
 | .one (.tptr i r p k j) => x.cellsO d.kd.isAgg d.size fun ps => match rootOf look i r with
  | some x => bif !(Nat.blt 0 d.size) then .fail else bif hasSl d.zero then
    gatherO look ps fun ys qs ts=>bif nodupP ts && freeB i ts && ys.length.beq d.size then
     getO p x fun s=>.tvs (pel s k) fun e=>.chk (fitsOld d.zero e j && fitsAt d.zero ys 0) (.tv (setC p x k j ys) fun x' =>
      .ret (.gen (qs ++ dropsAt i r (wayJs p) d.zero j ++ [.root i r x']) (.one .undef))) else .fail
   else gatherO look ps fun ys qs _=>(match qs with
    | []=>bif ys.length.beq d.size then getO p x fun s=>.tvs (pel s k) fun e=>.chk (fitsAt d.zero e j) (.tv (setC p x k j ys) fun x'=>(match setRoot look i r x' with
     | some b=>.ret (.upd i b (.one .undef))
     | none=>.fail)) else .fail
    | _=>.fail)
  | none=>.fail
 | _=>.fail
def Kd.isSlice:Kd→Bool
 | .slice _=>true
 | _=>false
def binO (look:Look) (kd:Kd) (op:BinOp) (x y:AV):Out :=
 bif kd.isSlice then resA look x fun x=>resA look y fun y=>.tv (pbin kd op x y) vt
 else match x.tv?,y.tv? with
 | some x,some y=>.tv (pbin kd op x y) vt
 | _,_=>.fail
def intsOf (k:IntKind):List TV→Option (List Int)
 | []=>some []
 | .lit (.int k' n) :: l=>if k=k' then (match intsOf k l with
  | some r=>some (n :: r)
  | none=>none) else none
 | _=>none
def peqL (k:IntKind) (op:BinOp) (xs ys:List TV):Option TV :=
 match intsOf k xs,intsOf k ys with
 | some a,some b=>eqOr op (a == b)
 | _,_=>none
def ptrOf:AV→Option Bool
 | .one (.ptr _ _)=>some true
 | .one (.ref _ _)=>some true
 | .one (.tptr _ _ _ _ _)=>some true
 | .one (.aptr _ _ _ _)=>some true
 | .one (.t (.lit (.pointer none)))=>some false
 | .tv (.lit (.pointer none))=>some false
 | _=>none
def binP (op:BinOp) (x y:AV):Out :=
 match op,ptrOf x,ptrOf y with
 | .eql,some a,some false=>.ret (.val (.bl !a))
 | .neq,some a,some false=>.ret (.val (.bl a))
 | _,_,_=>.fail
def binT (T:Tab) (look:Look) (kd:Kd) (op:BinOp) (x y:AV):Out :=
 match kd with
 | .arr len e => match T e with
  | some ⟨1,_,.int k,_,_⟩=>x.cellsO true len fun cs=>y.cellsO true len fun cs'=>(match plainCs cs,plainCs cs' with
   | some xs,some ys=>.tv (peqL k op xs ys) vt
   | _,_=>.fail)
  | _=>.fail
 | .ptr=>binP op x y
 | kd=>binO look kd op x y
def sliceO (look : Look) (kd : Kd) (sz : Nat) (x : AV) (lo hi : Option AV) : Out :=
 match x.tv? with
 | some x=>optNat lo fun lo=>optNat hi fun hi=>.tv (pslice kd sz x lo hi) vt
 | none => match kd, x with
  | .slice _, .one (.sref i r p) => resT look (.sref i r p) fun s => .nat (slLen s) fun n => optNat lo fun lo => optNat hi fun hi =>
    .chk (slSize s sz && (lo.getD 0).ble (hi.getD n) && (hi.getD n).ble n) (.ret (.val (.one (.swin i r p (lo.getD 0) (hi.getD n - lo.getD 0)))))
  | .slice _, .one (.swin i r p lo0 n) => match lo with
   | none=>resT look (.sref i r p) fun s=>optNat hi fun hi=>.chk (slSize s sz && (hi.getD n).ble n) (.ret (.val (.one (.swin i r p lo0 (hi.getD n)))))
   | some _=>resT look (.sref i r p) fun s=>optNat lo fun lo=>optNat hi fun hi =>
    .chk (lo0.beq 0 && slSize s sz && (lo.getD 0).ble (hi.getD n) && (hi.getD n).ble n) (.ret (.val (.one (.swin i r p (lo.getD 0) (hi.getD n - lo.getD 0)))))
  | _,_=>.fail
def indexO (look:Look) (d:TyD) (x i:AV):Out :=
 match i.tv? with
 | some i => match x.tv? with
  | some x=>.tvs (pidx d.size x i) fun el=>.ret (.val (.one (.ref el 0)))
  | none=>match x with
   | .one (.sref b r p)=>resT look (.sref b r p) fun s=>.nat (slLen s) fun n=>.nat (asNat i) fun k=>.chk (slSize s d.size && k.blt n) (.ret (.val (.one (.tptr b r p k 0))))
   | .one (.swin b r p lo n)=>resT look (.sref b r p) fun s=>.nat (asNat i) fun k=>.chk (slSize s d.size && k.blt n) (.ret (.val (.one (.tptr b r p (lo + k) 0))))
   | _=>.fail
 | none=>.fail
def arrIdxO (T:Tab) (t:TypeId) (x i:AV):Out :=
 match T t with
 | some ⟨_,_,.arr len e,_,_⟩=>match T e,x,i.tv? with
  | some d,.one (.ptr b off),some i=>bif !d.kd.isAgg && d.size.beq 1 then .nat (asNat i) fun k=>.chk (k.blt len) (.ret (.val (.one (.aptr b off len k)))) else .fail
  | _,_,_=>.fail
 | _=>.fail
def arrValO (T:Tab) (t:TypeId) (x i:AV):Out :=
 match T t with
 | some ⟨_, _, .arr len e, _, _⟩ => match T e, x, i.tv? with
  | some d,.agg cs,some i=>bif !d.kd.isAgg && d.size.beq 1 then (match plainCs cs with
   | some xs=>.nat (asNat i) fun k=>.chk (k.blt len) (.tv (pnth k xs) vt)
   | none=>.fail) else .fail
  | _,_,_=>.fail
 | _=>.fail
def fieldO (d:TyD) (off:Nat) (agg:Bool) (n:Nat) (x:AV):Out :=
 match x with
 | .agg cs => match takeN cs off (bif agg then n else 1) with
  | some cs=>match ofCells agg cs with
   | some v=>.ret (.val v)
   | none=>.fail
  | none=>.fail
 | .tv x => .chk (x.isAgg d.size && (off + n).ble d.size && Nat.blt 0 n)
   (.ret (.val (bif agg then .agg ((List.range n).map fun j=>.t (x.cell (off + j))) else .one (.t (x.cell off)))))
 | _=>.fail
def canBuild (T:Tab):Kd→Bool
 | .struct=>true
 | .arr _ e=>(T e).isSome
 | _=>false
def sliceSz (T:Tab):Kd→Option Nat
 | .slice e=>match T e with
  | some d=>some d.size
  | none=>none
 | _=>some 0
def TV.cellsL (agg:Bool) (x:TV):List TV:=match agg,x with
 | true,.agg cs=>cs
 | true,_=>[]
 | false,x=>[x]
def ansCells (id r0:Nat):List Value→TV→Bool→Nat→List CA
 | [],_,_,_=>[]
 | z :: zs,x,agg,j=>(bif isSlV z then .sref id (r0 + j) [] else .t (bif agg then x.cell j else x)) :: ansCells id r0 zs x agg (j + 1)
def ansRoots:List Value→TV→Bool→Nat→List TV
 | [],_,_,_=>[]
 | z :: zs,x,agg,j=>(bif isSlV z then (bif agg then x.cell j else x) else .hole) :: ansRoots zs x agg (j + 1)
def ansOne {R:Type} (d:TyD) (x:TV) (k:Prg R):Prg R :=
 bif d.kd.isAgg then .chk (x.isAgg d.size && fitsAt d.zero (x.cellsL true) 0) k else .chk (fitsAt d.zero (x.cellsL false) 0) k
def tysOf (T:Tab):List TypeId→Option (List TyD)
 | []=>some []
 | t :: l=>match T t,tysOf T l with
  | some d,some ds=>some (d :: ds)
  | _,_=>none
def ansSome {R:Type} (x:TV):List TyD→Nat→Prg R→Prg R
 | [],_,k=>k
 | d :: l,j,k=>ansOne d (x.comp j) (ansSome x l (j + 1) k)
def ansAll (id:Nat) (x:TV):List TyD→Nat→Nat→List (Bool × List CA)
 | [],_,_=>[]
 | d :: l,j,r0=>(d.kd.isAgg,ansCells id r0 d.zero (x.comp j) d.kd.isAgg 0) :: ansAll id x l (j + 1) (r0 + d.zero.length)
def ansAllRoots (x:TV):List TyD→Nat→List TV
 | [],_=>[]
 | d :: l,j=>ansRoots d.zero (x.comp j) d.kd.isAgg 0 ++ ansAllRoots x l (j + 1)
def anySl:List TyD→Bool
 | []=>false
 | d :: l=>bif hasSl d.zero then true else anySl l
def ansO (id:Nat) (ds:List TyD) (v:TV) (ps:List Prim):Out :=
 match ds with
 | [d]=>ansOne d v (match ofCells d.kd.isAgg (ansCells id 0 d.zero v d.kd.isAgg 0) with
  | some av=>bif hasSl d.zero then .ret (mkNew ps (.tree (ansRoots d.zero v d.kd.isAgg 0)) av) else .ret (match ps with | []=>.val av | _=>.gen ps av)
  | none=>.fail)
 | ds => .chk (v.isTup ds.length) (ansSome v ds 0 (bif anySl ds then .ret (mkNew ps (.tree (ansAllRoots v ds 0)) (.tups (ansAll id v ds 0 0)))
   else .ret (match ps with | []=>.val (.tups (ansAll id v ds 0 0)) | _=>.gen ps (.tups (ansAll id v ds 0 0)))))
def TV.isBuf (x:TV) (e:Nat):Bool:=match x with | .buf _ e'=>e'.beq e | _=>false
def TV.isMay (x:TV):Bool:=match x with | .tup []=>true | _=>false
def mayT:TV:=.tup []
def fitsV:List Fl→List TV→Bool
 | [],[]=>true
 | f :: fl,x :: xs=>(match f with | .sc=>x.isSc | .sl=>x.isSl | .may=>x.isMay | .bf e=>x.isBuf e | .any=>x.isFr) && fitsV fl xs
 | _,_=>false
def cellsV (i t:Nat) (ty:TypeId):List Fl→List TV→Nat→List CA
 | f :: fl,x :: xs,r=>(match f with | .sc=>.t x | .sl=>.sref t r [] | .may=>.may i ty | .bf _=>.sref t r [] | .any=>.t x) :: cellsV i t ty fl xs (r + 1)
 | _,_,_=>[]
def rootsV:List Fl→List TV→List TV
 | f :: fl,x :: xs=>(match f with | .sl=>x | .bf _=>x | _=>.hole) :: rootsV fl xs
 | _,_=>[]
def allocCells (self:Bool) (id:Nat) (e:TypeId) (zs:List Value):List CA :=
 match self,zs with
 | true,.pointer none :: l=>.may id e :: l.map fun v=>.t (.lit v)
 | _,zs=>zs.map fun v=>.t (.lit v)
def CA.unMay:CA→CA
 | .may _ _=>.t .hole
 | c=>c
def unMays:List CA→List CA
 | []=>[]
 | c :: l=>c.unMay :: unMays l
def mayFit (i:Nat) (ty:TypeId):List Fl→List CA→Bool
 | [],[]=>true
 | f :: fl,c :: cs=>(match f,c with | .may,.may j t=>j.beq i && t.beq ty | .may,_=>false | _,.may _ _=>false | _,_=>true) && mayFit i ty fl cs
 | _,_=>false
def bufOf (e:Nat) (x:TV):TV:=bif isNilTV x then .buf .empty e else x
def marksV:List Fl→List TV→List TV
 | f :: fl,x :: xs=>(match f with | .may=>mayT | .bf e=>bufOf e x | _=>x) :: marksV fl xs
 | _,_=>[]
def junks:List CA→List CA
 | []=>[]
 | _ :: l=>.junk :: junks l
def compsOf (v:TV):Nat→Nat→List TV
 | 0,_=>[]
 | n + 1,j=>v.comp j :: compsOf v n (j + 1)
def ansV (id:Nat) (ds:List TyD) (v:TV) (k:AV→Out):Out :=
 match ds with
 | [d]=>ansOne d v (match ofCells d.kd.isAgg (ansCells id 0 d.zero v d.kd.isAgg 0) with | some av=>k av | none=>.fail)
 | ds=>.chk (v.isTup ds.length) (ansSome v ds 0 (k (.tups (ansAll id v ds 0 0))))
def lentO (E : Env) (id : Nat) (look : Look) (f : FuncId) (ld : LentD) (vs : List AV) : Out :=
 match vs with
 | .one (.ptr i 0) :: rest => match look i, tysOf E.T (E.rts f) with
  | some (.cells cs), some ds => bif anySl ds || !mayFit i ld.ty ld.fl cs then .fail else
   hands look rest fun xs rs=>gatherO look (unMays cs) fun ys qs ts=>bif nodupP (ts ++ rs) then
    .chk (fitsV ld.fl (marksV ld.fl ys)) (.call f (.tup (marksV ld.fl ys) :: xs) fun v=>.chk (v.isTup 2 && (v.comp 1).isTup ld.fl.length && fitsV ld.fl (compsOf (v.comp 1) ld.fl.length 0))
     (ansV id ds (v.comp 0) fun av => .ret (.gen (qs ++ (frzPs rs ++ [.setB i (junks cs), .unmay i, .newB (.tree (rootsV ld.fl (compsOf (v.comp 1) ld.fl.length 0))),
      .setB i (cellsV i id ld.ty ld.fl (compsOf (v.comp 1) ld.fl.length 0) 0)])) av)))
   else .fail
  | _,_=>.fail
 | _=>.fail
def hideT:TV→TV
 | .lit v=>.lit v
 | .agg cs=>.agg (lfL cs)
 | _=>.hole
def hideL:List TV→List TV
 | []=>[]
 | x :: l=>hideT x :: hideL l
def peekO (look:Look) (f:FuncId) (c:Nat × Nat) (vs:List AV):Out :=
 match vs with
 | .one (.ptr i 0) :: rest => match look i with
  | some (.cells cs)=>match nth .junk cs c.1 with
   | .t x=>bif cs.length.beq c.2 then lends look rest fun xs=>.call f (x :: hideL xs) fun v=>.ret (.val (.tv v)) else .fail
   | _=>.fail
  | _=>.fail
 | _=>.fail
def pput (lo:Nat) (y z:TV):Option TV :=
 match y,z with
 | .sl true s xs,.sl true s' ws=>if s=s'∧lo + ws.length≤xs.length then some (.sl true s (xs.take lo ++ (ws ++ xs.drop (lo + ws.length)))) else none
 | .lit (.slice none 0 0),.lit (.slice none 0 0)=>if lo=0 then some (.lit nilV) else none
 | _,_=>none
def turnO (look:Look) (f:FuncId) (vs:List AV):Out :=
 match vs with
 | .one (.sref i r p) :: rest=>match rootOf look i r with
  | some x=>getO p x fun z=>lends look rest fun xs=>.call f (z :: hideL xs) fun v=>.tv (pput 0 z v) fun y=>setO p x y fun x'=>.ret (.gen [.drop i r (wayJs p) true,.root i r x'] (.tups []))
  | none=>.fail
 | .one (.swin i r p lo len) :: rest=>match rootOf look i r with
  | some x=>getO p x fun z=>.tv (winP lo len z) fun z1=>lends look rest fun xs=>.call f (z1 :: hideL xs) fun v=>.tv (pput lo z v) fun y=>setO p x y fun x'=>.ret (.gen [.drop i r (wayJs p) true,.root i r x'] (.tups []))
  | none=>.fail
 | _=>.fail
def pifc (t:TypeId) (x:TV):Option TV:=match x with | .lit v=>if scV v=true then some (.lit (.iface t v)) else none | _=>none
def pasrt (t:TypeId) (x:TV):Option TV:=match x with | .lit (.iface t' v)=>if t'=t∧scV v=true then some (.lit v) else none | _=>none
def Kd.isPlain:Kd→Bool
 | .bool=>true
 | .int _=>true
 | .str=>true
 | .ptr=>true
 | _=>false
def ifcO (d:TyD) (t:TypeId) (x:AV):Out :=
 bif d.kd.isPlain then (match x with
 | .one (.ptr i 0)=>.ret (.val (.one (.ifp t i)))
 | x=>match x.tv? with
  | some x=>.tv (pifc t x) vt
  | none=>.fail) else .fail
def asrtO (d:TyD) (t:TypeId) (x:AV):Out :=
 bif d.kd.isPlain then (match x.tv? with
  | some x=>.tv (pasrt t x) vt
  | none=>.fail) else .fail
def callO (E:Env) (id:Nat) (look:Look) (f:FuncId) (vs:List AV):Out :=
 match E.peek f with
 | some c=>peekO look f c vs
 | none=>match E.lent f with
 | some ld=>lentO E id look f ld vs
 | none=>match tysOf E.T (E.rts f) with
 | some ds=>bif E.pure f || !anySl ds then lends look vs fun xs=>.call f xs fun v=>ansO id ds v []
  else hands look vs fun xs rs=>bif nodupP rs then .call f xs fun v=>ansO id ds v (frzPs rs) else .fail
 | none=>.fail
def eyeO (E:Env) (id:Nat) (look:Look) (f:FuncId) (i:Nat) (vs:List AV):Out :=
 bif E.eye f && !E.turn f then (match look i,tysOf E.T (E.rts f) with
 | some (.cells cs),some ds=>(match plainCs cs with
  | some xs=>lends look vs fun ys=>.call f (hideL ys ++ [.agg xs]) fun v=>ansO id ds v []
  | none=>.fail)
 | _,_=>.fail) else .fail
def convO (T:Tab) (look:Look) (ds d:TyD) (x:AV):Out :=
 match ds.kd,d.kd with
 | .slice e,.str=>match T e with
  | some de=>bif isByteD de then resA look x fun y=>.rws (pelems 1 y) fun rows=>.tv (pstrB rows) vt else .fail
  | none=>.fail
 | _,kd=>match x.tv? with
  | some x=>.tv (pconv kd x) vt
  | none=>.fail
def coldO (E:Env) (t:TypeId) (len:Nat) (parts:Array (Nat × Operand)) (vs:List AV):Out :=
 match elemOf E.T t with
 | some (_, d) =>
  fillParts (fun i=>some (i * d.size,d.kd.isAgg,d.size)) (parts.toList.map (·.1)) vs ((List.replicate len d.zero).flatten.map fun v=>.t (.lit v)) fun cs =>
   (match plainCs cs with
   | some ys=>bif (len * d.size).ble 16777216 && ys.length.beq (len * d.size) && Nat.blt 0 d.size then .ret (.new (.tree [.hole]) (.one (.t (.sl false d.size (chunks d.size len ys))))) else .fail
   | none=>.fail)
 | none=>.fail
def buildSlO (E : Env) (id : Nat) (look : Look) (t : TypeId) (len : Nat) (parts : Array (Nat × Operand)) (vs : List AV) : Out :=
 match elemOf E.T t with
  | some (_, d) =>
   fillParts (fun i=>some (i * d.size,d.kd.isAgg,d.size)) (parts.toList.map (·.1)) vs ((List.replicate len d.zero).flatten.map fun v=>.t (.lit v)) fun cs =>
    gatherT look cs fun ys qs ts=>bif nodupP ts && (len * d.size).ble 16777216 && ys.length.beq (len * d.size) && Nat.blt 0 d.size then
     .ret (mkNew qs (.tree [.sl true d.size (chunks d.size len ys)]) (.one (.sref id 0 []))) else .fail
  | none=>.fail
def opL (E : Env) (id : Nat) (look : Look) (op : Op) (vs : List AV) : Out :=
 match op,vs with
 | .move _,[x]=>.ret (.val x)
 | .assign _,[x]=>.ret (.val x)
 | .pick _ _ _,[c,a,b]=>match c with
  | .bl c=>.ret (.val (bif c then a else b))
  | _=>.fail
 | .alloc e,[]=>match E.T e with
  | some d=>.ret (.new (.cells (allocCells (E.selfT e) id e d.zero)) (.one (.ptr id 0)))
  | none=>.fail
 | .box e _,[x]=>match E.T e with
  | some d=>x.cellsO d.kd.isAgg d.size fun cs=>.ret (.new (.cells cs) (.one (.ptr id 0)))
  | none=>.fail
 | .build t parts,vs=>match E.T t with
  | some d=>bif canBuild E.T d.kd then fillParts (places E.T d) (parts.toList.map (·.1)) vs (d.zero.map fun v=>.t (.lit v)) fun cs=>.ret (.val (.agg cs)) else .fail
  | none=>.fail
 | .buildSlice t len parts,vs=>bif E.cold t && !(len.beq 0) then coldO E t len parts vs else buildSlO E id look t len parts vs
 | .load t _,[a]=>match E.T t with
  | some d=>loadO look d a
  | none=>.fail
 | .store t _ _,[a,x]=>match E.T t with
  | some d=>storeO look d a x
  | none=>.fail
 | .nilCheck _,[x]=>match x with
  | .one (.ptr i off)=>.ret (.val (.one (.ptr i off)))
  | .one (.ref x off)=>.ret (.val (.one (.ref x off)))
  | .one (.tptr i r p k j)=>.ret (.val (.one (.tptr i r p k j)))
  | .one (.aptr i off len n)=>.ret (.val (.one (.aptr i off len n)))
  | _=>.fail
 | .binOp op xt _ _ _,[x,y]=>match E.T xt with
  | some d=>binT E.T look d.kd op x y
  | none=>.fail
 | .unOp op _ _, [x] => match op, x with
  | .not,.bl b=>.ret (.val (.bl (!b)))
  | op,x=>match x.tv? with
   | some x=>.tv (pun op x) vt
   | none=>.fail
 | .convert sty dt _,[x]=>match E.T sty,E.T dt with
  | some ds,some d=>convO E.T look ds d x
  | _,_=>.fail
 | .makeSlice t _ _,[l,c]=>match elemOf E.T t,l.tv?,c.tv? with
  | some (_,d),some l,some c=>bif d.bytes.ble 4096 then .nat (asNat l) fun n=>.nat (asNat c) fun m=>.chk (n.ble m && m.ble room)
     (.ret (.new (.tree [.sl true d.size (List.replicate n (d.zero.map .lit))]) (.one (.sref id 0 [])))) else .fail
  | _,_,_=>.fail
 | .slice t _ lo hi none, x :: rest => match E.T t with
  | some d => match sliceSz E.T d.kd with
   | some sz=>match lo,hi,rest with
    | none,none,[]=>sliceO look d.kd sz x none none
    | some _,none,[l]=>sliceO look d.kd sz x (some l) none
    | none,some _,[h]=>sliceO look d.kd sz x none (some h)
    | some _,some _,[l,h]=>sliceO look d.kd sz x (some l) (some h)
    | _,_,_=>.fail
   | none=>.fail
  | none=>.fail
 | .fieldAddr s _ f, [x] => match E.T s, x with
  | some d,.one c=>match d.kd,places E.T d f with
   | .struct,some (off,_,n)=>bif Nat.blt 0 n then (match c.add off with | some c=>.ret (.val (.one c)) | none=>.fail) else .fail
   | _,_=>.fail
  | _,_=>.fail
 | .field s _ f, [x] => match E.T s with
  | some d=>match d.kd,places E.T d f with
   | .struct,some (off,agg,n)=>fieldO d off agg n x
   | _,_=>.fail
  | none=>.fail
 | .indexAddr t _ _,[x,i]=>match elemOf E.T t with
  | some (_,d)=>indexO look d x i
  | none=>arrIdxO E.T t x i
 | .index t _ _,[x,i]=>match E.T t,x.tv?,i.tv? with
  | some ⟨_,_,.str,_,_⟩,some x,some i=>.tv (pstr x i) vt
  | _,_,_=>arrValO E.T t x i
 | .extract _ j, [x] => match x with
  | .tups cs => match cs[j]? with
   | some (agg,c)=>match ofCells agg c with
    | some v=>.ret (.val v)
    | none=>.fail
   | none=>.fail
  | _=>.fail
 | .makeFunc (.func f) first _,vs=>bif first.size.beq 0 then catchO vs fun cs=>.ret (.val (.clo f cs)) else .fail
 | .call ⟨.builtin b,_,tys⟩,vs=>builtinO E id look b tys.toList vs
 | .makeInterface t _,[x]=>match E.T t with
  | some d=>ifcO d t x
  | none=>.fail
 | .typeAssert _ _ t false,[x]=>match E.T t with
  | some d=>asrtO d t x
  | none=>.fail
 | .call ⟨.value (.func f),_,_⟩,_ :: vs=>bif E.turn f then turnO look f vs else bif E.eye f then .fail else callO E id look f vs
 | .call ⟨.value (.tmp _), _, _⟩, fv :: vs => match fv.tv? with
  | some x=>.nat (fnOf x) fun f=>.chk ((E.lent f).isNone && (E.peek f).isNone && !(E.turn f || E.eye f)) (lends look vs fun xs=>.call f xs fun v=>.chk v.isSc (vt v))
  | none=>match fv with
   | .one (.fn1 f i)=>eyeO E id look f i vs
   | _=>.fail
 | _,_=>.fail
def canonN:Nat:=24
def ASt.nid (st:ASt) (d:Option Tmp):Nat:=match d with | some d=>canonN + st.out.length + d | none=>0
def ASt.put (st:ASt) (d:Option Tmp) (v:AV):ASt :=
 match d with
 | some d=>⟨setNth st.slots d v,st.boxes,st.out⟩
 | none=>st
def ASt.look (st:ASt):Look:=fun i=>nth none st.boxes i
def ASt.setBox (st:ASt) (i:Nat) (b:Option BC):ASt:=⟨st.slots,setNth st.boxes i b,st.out⟩
def leads:Bool→List Nat→Way→Bool
 | strict,[],p=>match p with | []=>!strict | _=>true
 | _,_ :: _,[]=>false
 | strict,a :: l,(_,j) :: p=>a.beq j && leads strict l p
def hitsAt (i r:Nat) (js:List Nat) (strict:Bool) (i' r':Nat) (p:Way):Bool:=i.beq i' && r.beq r' && leads strict js p
def CA.drop (i r:Nat) (js:List Nat) (strict:Bool) (c:CA):CA :=
 match c with
 | .tptr i' r' p _ _=>bif hitsAt i r js strict i' r' p then .junk else c
 | .sref i' r' p=>bif hitsAt i r js strict i' r' p then .junk else c
 | .swin i' r' p _ _=>bif hitsAt i r js strict i' r' p then .junk else c
 | c=>c
def mapC (f:CA→CA):List CA→List CA
 | []=>[]
 | c :: l=>f c :: mapC f l
def mapT (f:CA→CA):List (Bool × List CA)→List (Bool × List CA)
 | []=>[]
 | (b,cs) :: l=>(b,mapC f cs) :: mapT f l
def AV.mapA (f:CA→CA):AV→AV
 | .one c=>.one (f c)
 | .agg cs=>.agg (mapC f cs)
 | .tups cs=>.tups (mapT f cs)
 | .tv x=>.tv x
 | .bl b=>.bl b
 | .clo n cs=>.clo n (mapC f cs)
def mapAs (f:CA→CA):List AV→List AV
 | []=>[]
 | v :: l=>v.mapA f :: mapAs f l
def BC.mapB (f:CA→CA):BC→BC
 | .cells cs=>.cells (mapC f cs)
 | b=>b
def mapBs (f:CA→CA):List (Option BC)→List (Option BC)
 | []=>[]
 | some b :: l=>some (b.mapB f) :: mapBs f l
 | none :: l=>none :: mapBs f l
def ASt.mapS (f:CA→CA) (st:ASt):ASt:=⟨mapAs f st.slots,mapBs f st.boxes,mapAs f st.out⟩
def CA.unM (i:Nat):CA→CA
 | .may j ty=>bif j.beq i then .junk else .may j ty
 | c=>c
def ASt.addBox (st:ASt) (i:Nat) (b:BC):Option ASt :=
 match st.look i with
 | some _=>none
 | none=>bif i.blt st.boxes.length then some (st.setBox i (some b)) else none
def Prim.app (st:ASt) (d:Option Tmp):Prim→Option ASt
 | .drop i r js strict=>some (st.mapS (CA.drop i r js strict))
 | .root i r x=>match setRoot st.look i r x with
  | some b=>some (st.setBox i (some b))
  | none=>none
 | .frz i r => match rootOf st.look i r with
  | some x=>match setRoot st.look i r (Ab.frz x) with
   | some b=>some (st.setBox i (some b))
   | none=>none
  | none=>none
 | .unmay i=>some (st.mapS (CA.unM i))
 | .newB b=>match d with
  | some d=>st.addBox (st.nid (some d)) b
  | none=>none
 | .setB i cs=>match st.look i with
  | some (.cells _)=>some (st.setBox i (some (.cells cs)))
  | _=>none
def primsApp (d:Option Tmp):List Prim→ASt→Option ASt
 | [],st=>some st
 | p :: l,st=>match p.app st d with
  | some st=>primsApp d l st
  | none=>none
def Eff.app (st:ASt) (d:Option Tmp):Eff→Option ASt
 | .val v=>some (st.put d v)
 | .new b v => match d with
  | none=>none
  | some d=>match st.addBox (st.nid (some d)) b with
   | some st=>some (st.put (some d) v)
   | none=>none
 | .upd i b v=>some ((st.setBox i (some b)).put d v)
 | .gen ps v=>match primsApp d ps st with
  | some st=>some (st.put d v)
  | none=>none
def banned (ban:List Nat) (look:Look):Look:=fun i=>bif memB i ban then none else look i
inductive Cls where
 | N | R | A | B | W | P | X
def clsOf:Op→Cls
 | .move _ | .assign _ | .pick _ _ _ | .build _ _ | .nilCheck _ | .unOp _ _ _ | .fieldAddr _ _ _ | .field _ _ _ | .index _ _ _ | .extract _ _ | .makeFunc _ _ _ | .makeInterface _ _ | .typeAssert _ _ _ _=>.N
 | .load _ _ | .binOp _ _ _ _ _ | .slice _ _ _ _ _ | .indexAddr _ _ _ | .convert _ _ _=>.R
 | .alloc _ | .box _ _ | .makeSlice _ _ _=>.A
 | .call ⟨.builtin .len,_,_⟩=>.R
 | .call ⟨.builtin .min,_,_⟩=>.R
 | .call ⟨.builtin .max,_,_⟩=>.R
 | .call ⟨.value (.func _),_,_⟩=>.B
 | .call ⟨.value (.tmp _),_,_⟩=>.B
 | .buildSlice _ _ _=>.B
 | .store _ _ _=>.W
 | .call ⟨.builtin .append,_,_⟩=>.P
 | _=>.X
def Cls.isX:Cls→Bool
 | .X=>true
 | _=>false
def Cls.makes:Cls→Bool
 | .A=>true
 | .B=>true
 | .P=>true
 | _=>false
def Cls.reads:Cls→Bool
 | .R=>true
 | .B=>true
 | .W=>true
 | .P=>true
 | _=>false
def goTogether:Cls→Cls→Bool
 | .X,_=>false
 | _,.X=>false
 | .P,.P=>false
 | .P,.W=>false
 | .W,.P=>false
 | _,_=>true
def tmpsOf:List Operand→List Nat
 | []=>[]
 | .tmp t :: l=>t :: tmpsOf l
 | _ :: l=>tmpsOf l
def guardSlot (ops:List Oper) (o:Oper):List Nat :=
 match o.guard with
 | some (j,_)=>(match (ops[j]?).bind (·.dst) with | some g=>[g] | none=>[])
 | none=>[]
def looks (ops:List Oper) (o:Oper):List Nat:=guardSlot ops o ++ tmpsOf o.op.operands.toList
def freeOf (d:Option Nat) (l:List Nat):Bool :=
 match d with
 | some d=>!memB d l
 | none=>true
def pushSlot (o:Op):Option Nat:=match clsOf o,o.operands.toList with
 | .P,.tmp s :: _=>some s
 | _,_=>none
def Eff.plain:Eff→Bool
 | .val _=>true
 | .new _ _=>true
 | .upd _ _ _=>true
 | _=>false
structure Item where
 o:Oper
 ban:List Nat × List Nat
 dr:Bool
 own:List (List Nat × List Nat)
 push:List Nat
 root:Nat
 loose:Bool
 shut:Bool
 lds:List (List Nat × List Nat)
 dull:List Nat
 dull2:List Nat
def banAt (b:List Nat × List Nat) (base:Nat):List Nat:=b.1.map (base + ·) ++ b.2.map (· / 2)
def Eff.inOwn (base:Nat) (own:List (List Nat × List Nat)):Eff→Bool
 | .upd i _ _=>own.all fun l=>memB i (banAt l base)
 | _=>true
def ASt.base (st:ASt):Nat:=canonN + st.out.length
def refC:CA→List Nat
 | .ptr i _=>[i]
 | .tptr i _ _ _ _=>[i]
 | .sref i _ _=>[i]
 | .swin i _ _ _ _=>[i]
 | .may i _=>[i]
 | .aptr i _ _ _=>[i]
 | .ifp _ i=>[i]
 | .fn1 _ i=>[i]
 | _=>[]
def refCs:List CA→List Nat
 | []=>[]
 | c :: l=>refC c ++ refCs l
def refTs:List (Bool × List CA)→List Nat
 | []=>[]
 | (_,cs) :: l=>refCs cs ++ refTs l
def AV.refA:AV→List Nat
 | .one c=>refC c
 | .agg cs=>refCs cs
 | .tups cs=>refTs cs
 | .tv _=>[]
 | .bl _=>[]
 | .clo _ cs=>refCs cs
def refAs:List AV→List Nat
 | []=>[]
 | v :: l=>v.refA ++ refAs l
def BC.refB:BC→List Nat
 | .cells cs=>refCs cs
 | .tree _=>[]
def effRefs:Eff→List Nat
 | .val v=>v.refA
 | .new b v=>b.refB ++ v.refA
 | .upd _ b v=>b.refB ++ v.refA
 | .gen _ v=>v.refA
def cleanE (ps:List Nat) (st:ASt) (d:Option Nat) (e:Eff):Bool :=
 ps.all fun s=>!memB (st.base + s) (effRefs e) && (match d with | some d=>!memB (st.base + s) (nth (.one .junk) st.slots d).refA | none=>true)
def pushParts:Eff→Option (Nat × TV)
 | .gen [.drop i 0 [] false,.root j 0 y] (.one (.sref k 0 []))=>bif i.beq j && i.beq k then some (i,y) else none
 | _=>none
def isRootAt (k:Nat):AV→Bool
 | .one (.sref j 0 [])=>j.beq k
 | _=>false
def isTree1:Option BC→Bool
 | some (.tree [_])=>true
 | _=>false
def slotsFree (k s:Nat):Nat→List AV→Bool
 | _,[]=>true
 | n,v :: l=>(n.beq s || !memB k v.refA) && slotsFree k s (n + 1) l
def boxesFree (k:Nat):List (Option BC)→Bool
 | []=>true
 | some b :: l=>!memB k b.refB && boxesFree k l
 | none :: l=>boxesFree k l
def pushOk (it:Item) (st:ASt) (e:Eff):Bool :=
 match pushSlot it.o.op,pushParts e with
 | some s,some (i,_)=>i.beq (st.base + it.root) && isRootAt i (nth (.one .junk) st.slots s) && isTree1 (st.look i) && slotsFree i s 0 st.slots && boxesFree i st.boxes && !memB i (refAs st.out)
 | _,_=>false
def closedL:List AV→Bool
 | []=>true
 | v :: l=>(match v.tv? with | some _=>true | none=>false) && closedL l
def treeOrVal:Eff→Bool
 | .val _=>true
 | .new (.tree _) _=>true
 | _=>false
def allEq (n:Nat):List Nat→Bool
 | []=>true
 | k :: l=>k.beq n && allEq n l
def shutOk (i:Item) (st:ASt) (e:Eff):Bool:=closedL (i.o.op.operands.toList.map st.ev) && (treeOrVal e && allEq (st.nid i.o.dst) (effRefs e))
def takenP:List Prim→List Nat
 | []=>[]
 | .drop i _ _ _ :: l=>i :: takenP l
 | .root i _ _ :: l=>i :: takenP l
 | _ :: l=>takenP l
def takenE:Eff→List Nat
 | .gen ps _=>takenP ps
 | _=>[]
def drP:Prim→Bool
 | .drop _ _ _ _=>true
 | .root _ _ _=>true
 | .newB _=>true
 | _=>false
def drE:Eff→Bool
 | .gen ps _=>ps.all drP
 | .upd _ _ _=>false
 | _=>true
def CA.deep:CA→CA
 | .tptr i r p k j=>match p with | []=>.junk | _=>.tptr i r p k j
 | .sref i r p=>match p with | []=>.junk | _=>.sref i r p
 | .swin i r p lo len=>match p with | []=>.junk | _=>.swin i r p lo len
 | c=>c
def boxesFreeD (k:Nat):List (Option BC)→Bool
 | []=>true
 | some b :: l=>!memB k (b.mapB CA.deep).refB && boxesFreeD k l
 | none :: l=>boxesFreeD k l
def deepP (k:Nat):Prim→Bool
 | .drop i _ js _=>!(i.beq k) || !js.isEmpty
 | _=>true
def deepE (k:Nat):Eff→Bool
 | .gen ps _=>ps.all (deepP k)
 | _=>true
def isStO (o:Oper):Bool:=match o.op with
 | .store _ _ _=>o.guard.isNone && o.dst.isNone
 | _=>false
def takesO (o:Oper):Bool:=(pushSlot o.op).isSome || isStO o
def takeOk (i:Item) (st:ASt) (e:Eff):Bool:=i.lds.all fun l=>drE e && (takenE e).all fun k =>
 (memB k (l.1.map (st.base + ·)) && boxesFree k st.boxes) || (takesO i.o && ((memB (2 * k) l.2 && boxesFree k st.boxes) || (memB (2 * k + 1) l.2 && (deepE k e && boxesFreeD k st.boxes))))
def dstFree (st:ASt) (d:Option Nat) (b:Nat):Bool:=match d with | some d=>!memB b (nth (.one .junk) st.slots d).refA | none=>true
def dstFreeD (st:ASt) (d:Option Nat) (b:Nat):Bool:=match d with | some d=>!memB b ((nth (.one .junk) st.slots d).mapA CA.deep).refA | none=>true
def effRefsD:Eff→List Nat
 | .val v=>(v.mapA CA.deep).refA
 | e=>effRefs e
def dullOk (i:Item) (st:ASt) (e:Eff):Bool:=(i.dull.all fun s=>!memB (st.base + s) (refAs (i.o.op.operands.toList.map st.ev))) &&
 (i.dull2.all fun b => bif (b % 2).beq 0 then !memB (b / 2) (effRefs e) && (dstFree st i.o.dst (b / 2) && !memB (b / 2) (refAs (i.o.op.operands.toList.map st.ev)))
  else !memB (b / 2) (effRefsD e) && (dstFreeD st i.o.dst (b / 2) && !memB (b / 2) (refAs (mapAs CA.deep (i.o.op.operands.toList.map st.ev)))))
def okE (i:Item) (st:ASt) (e:Eff):Bool:=(i.loose && takeOk i st e) || ((bif i.shut then shutOk i st e else e.plain && e.inOwn st.base i.own && (cleanE i.push st i.o.dst e && dullOk i st e)) || pushOk i st e)
def effQ {R:Type} (i:Item) (st:ASt) (K:ASt→Prg R) (e:Eff):Prg R :=
 bif i.dr && !(okE i st e) then .fail else
 match e.app st i.o.dst with
 | some st=>K st
 | none=>.fail
def opOut {R:Type} (E:Env) (i:Item) (K:ASt→Prg R) (st:ASt):Prg R :=
 (opL E (st.nid i.o.dst) (banned (banAt i.ban st.base) st.look) i.o.op (i.o.op.operands.toList.map st.ev)).bind (effQ i st K)
def skipSt (o:Oper) (st:ASt):ASt:=st.put o.dst (.one .undef)
def opQ {R:Type} (E:Env) (ops:List Oper) (i:Item) (K:ASt→Prg R) (st:ASt):Prg R :=
 match i.o.guard with
 | none=>opOut E i K st
 | some (j, want) => match ((ops[j]?).bind (·.dst)) with
  | none=>.fail
  | some g=>match nth (.one .junk) st.slots g with
   | .one .undef=>K (skipSt i.o st)
   | .bl b=>bif b then (bif want then opOut E i K st else K (skipSt i.o st)) else (bif want then K (skipSt i.o st) else opOut E i K st)
   | .one (.t v) => .ite (asBool v)
     (bif want then opOut E i K (st.put (some g) (.bl true)) else K (skipSt i.o (st.put (some g) (.bl true))))
     (bif want then K (skipSt i.o (st.put (some g) (.bl false))) else opOut E i K (st.put (some g) (.bl false)))
   | .tv v => .ite (asBool v)
     (bif want then opOut E i K (st.put (some g) (.bl true)) else K (skipSt i.o (st.put (some g) (.bl true))))
     (bif want then K (skipSt i.o (st.put (some g) (.bl false))) else opOut E i K (st.put (some g) (.bl false)))
   | _=>.fail
def forceL {α R:Type}:List α→(List α→R)→R
 | [],k=>k []
 | a :: l,k=>forceL l (fun l'=>k (a :: l'))
theorem forceL_eq {α R:Type}:∀ (l:List α) (k:List α→R),forceL l k=k l
 | [],_=>rfl
 | a :: l,k=>forceL_eq l (fun l'=>k (a :: l'))
def forceSt {R:Type} (K:ASt→R) (st:ASt):R:=forceL st.slots fun sl=>forceL st.boxes fun bx=>K ⟨sl,bx,st.out⟩
theorem forceSt_eq {R:Type} (K:ASt→R):forceSt K=K:=by
 funext st
 simp only [forceSt,forceL_eq]
def forceO {R:Type} (K:ASt→R) (st:ASt):R:=forceL st.slots fun sl=>forceL st.boxes fun bx=>forceL st.out fun ou=>K ⟨sl,bx,ou⟩
theorem forceO_eq {R:Type} (K:ASt→R):forceO K=K:=by
 funext st
 simp only [forceO,forceL_eq]
def fN {R:Type} (n:Nat) (k:Nat→R):R:=match n with | 0=>k 0 | m + 1=>k (m + 1)
theorem fN_eq {R:Type} (n:Nat) (k:Nat→R):fN n k=k n:=by cases n <;> rfl
def fNs {R:Type}:List Nat→(List Nat→R)→R
 | [],k=>k []
 | n :: l,k=>fN n fun n=>fNs l fun l=>k (n :: l)
theorem fNs_eq {R:Type}:∀ (l:List Nat) (k:List Nat→R),fNs l k=k l
 | [],_=>rfl
 | n :: l,k=>by simp only [fNs,fN_eq,fNs_eq l]
def fW {R:Type}:Way→(Way→R)→R
 | [],k=>k []
 | (a,j) :: l,k=>fN j fun j=>fW l fun l=>k ((a,j) :: l)
theorem fW_eq {R:Type}:∀ (l:Way) (k:Way→R),fW l k=k l
 | [],_=>rfl
 | (a,j) :: l,k=>by simp only [fW,fN_eq,fW_eq l]
def fC {R:Type} (c:CA) (k:CA→R):R :=
 match c with
 | .t x=>k (.t x)
 | .ptr i off=>fN i fun i=>fN off fun off=>k (.ptr i off)
 | .ref x off=>fN off fun off=>k (.ref x off)
 | .tptr i r p n j=>fN i fun i=>fN r fun r=>fW p fun p=>fN j fun j=>k (.tptr i r p n j)
 | .sref i r p=>fN i fun i=>fN r fun r=>fW p fun p=>k (.sref i r p)
 | .swin i r p lo len=>fN i fun i=>fN r fun r=>fW p fun p=>k (.swin i r p lo len)
 | .may i ty=>fN i fun i=>k (.may i ty)
 | .aptr i off len n=>fN i fun i=>fN off fun off=>k (.aptr i off len n)
 | .yl n=>fN n fun n=>k (.yl n)
 | .ifp t i=>fN i fun i=>k (.ifp t i)
 | .fn1 f i=>fN f fun f=>fN i fun i=>k (.fn1 f i)
 | .undef=>k .undef
 | .junk=>k .junk
theorem fC_eq {R:Type} (c:CA) (k:CA→R):fC c k=k c:=by cases c <;> simp only [fC,fN_eq,fW_eq]
def fCs {R:Type}:List CA→(List CA→R)→R
 | [],k=>k []
 | c :: l,k=>fC c fun c=>fCs l fun l=>k (c :: l)
theorem fCs_eq {R:Type}:∀ (l:List CA) (k:List CA→R),fCs l k=k l
 | [],_=>rfl
 | c :: l,k=>by simp only [fCs,fC_eq,fCs_eq l]
def fTs {R:Type}:List (Bool × List CA)→(List (Bool × List CA)→R)→R
 | [],k=>k []
 | (b,c) :: l,k=>fCs c fun c=>fTs l fun l=>k ((b,c) :: l)
theorem fTs_eq {R:Type}:∀ (l:List (Bool × List CA)) (k:List (Bool × List CA)→R),fTs l k=k l
 | [],_=>rfl
 | (b,c) :: l,k=>by simp only [fTs,fCs_eq,fTs_eq l]
def fA {R:Type} (v:AV) (k:AV→R):R :=
 match v with
 | .one c=>fC c fun c=>k (.one c)
 | .agg cs=>fCs cs fun cs=>k (.agg cs)
 | .tv x=>k (.tv x)
 | .tups l=>fTs l fun l=>k (.tups l)
 | .bl b=>k (.bl b)
 | .clo n cs=>fN n fun n=>fCs cs fun cs=>k (.clo n cs)
theorem fA_eq {R:Type} (v:AV) (k:AV→R):fA v k=k v:=by cases v <;> simp only [fA,fC_eq,fCs_eq,fTs_eq,fN_eq]
def fAs {R:Type}:List AV→(List AV→R)→R
 | [],k=>k []
 | c :: l,k=>fA c fun c=>fAs l fun l=>k (c :: l)
theorem fAs_eq {R:Type}:∀ (l:List AV) (k:List AV→R),fAs l k=k l
 | [],_=>rfl
 | c :: l,k=>by simp only [fAs,fA_eq,fAs_eq l]
def fB {R:Type} (b:Option BC) (k:Option BC→R):R :=
 match b with
 | none=>k none
 | some (.cells cs)=>fCs cs fun cs=>k (some (.cells cs))
 | some (.tree xs)=>forceL xs fun xs=>k (some (.tree xs))
theorem fB_eq {R:Type} (b:Option BC) (k:Option BC→R):fB b k=k b:=by
 match b with
 | none=>rfl
 | some (.cells cs)=>simp only [fB,fCs_eq]
 | some (.tree xs)=>simp only [fB,forceL_eq]
def fBs {R:Type}:List (Option BC)→(List (Option BC)→R)→R
 | [],k=>k []
 | c :: l,k=>fB c fun c=>fBs l fun l=>k (c :: l)
theorem fBs_eq {R:Type}:∀ (l:List (Option BC)) (k:List (Option BC)→R),fBs l k=k l
 | [],_=>rfl
 | c :: l,k=>by simp only [fBs,fB_eq,fBs_eq l]
def forceS {R:Type} (K:ASt→R) (st:ASt):R:=fAs st.slots fun sl=>fBs st.boxes fun bx=>fAs st.out fun ou=>K ⟨sl,bx,ou⟩
theorem forceS_eq {R:Type} (K:ASt→R):forceS K=K:=by
 funext st
 simp only [forceS,fAs_eq,fBs_eq]
def opsQ {R:Type} (E:Env) (ops:List Oper):List Item→(ASt→Prg R)→ASt→Prg R
 | [],K,st=>K st
 | i :: rest,K,st=>opQ E ops i (forceSt (opsQ E ops rest K)) st
def unlike (a b:Option Nat):Bool :=
 match a,b with
 | some a,some b=>!a.beq b
 | _,_=>true
def byDst (s:Nat):List Oper→Option Oper
 | []=>none
 | o :: l=>match o.dst with
  | some d=>bif d.beq s then some o else byDst s l
  | none=>byDst s l
def makerOf (ops:List Oper):Nat→Nat→Nat
 | 0,s=>s
 | n + 1,s=>match byDst s ops with
  | some o=>(match pushSlot o.op with | some s'=>makerOf ops n s' | none=>s)
  | none=>s
def rootSlot (ops:List Oper) (o:Oper):Option Nat:=match pushSlot o.op with
 | some s=>some (makerOf ops 20 s)
 | none=>none
def pushApart (ops:List Oper) (x y:Oper):Bool :=
 match pushSlot x.op with
 | some s=>x.guard.isNone && y.guard.isNone && !memB s (looks ops y) && freeOf y.dst [makerOf ops 20 s]
 | none=>true
def apartB (ops:List Oper) (x y:Oper):Bool :=
 goTogether (clsOf x.op) (clsOf y.op) && freeOf x.dst (looks ops y) && freeOf y.dst (looks ops x) && unlike x.dst y.dst && (pushApart ops x y && pushApart ops y x)
def maskOf (acc:List Nat):List Edge→Nat
 | []=>0
 | e :: es=>bif Region.binds .any e then (maskOf acc es ||| 2 ^ e.on) ||| nth 0 acc e.on else maskOf acc es
def behindFrom (acc:List Nat):List Oper→List Nat
 | []=>acc
 | o :: rest=>behindFrom (acc ++ [maskOf acc o.after.toList]) rest
def behind (ops:List Oper):List Nat:=behindFrom [] ops
def edgesBelow (i:Nat):List Edge→Bool
 | []=>true
 | e :: es=>bif Region.binds .any e then (bif e.on.blt i then edgesBelow i es else false) else edgesBelow i es
def madeBy (all:List Oper) (o:Oper):List Nat :=
 (match o.dst with | some d=>bif (clsOf o.op).makes then [d] else [] | none=>[]) ++ (match rootSlot all o with | some s=>[s] | none=>[])
def banOf (bs:List Nat) (j:Nat) (all:List Oper):Nat→List Oper→List Nat
 | _,[]=>[]
 | i,o :: rest=>bif !(i.beq j) && !((nth 0 bs j).testBit i) && !((nth 0 bs i).testBit j) then madeBy all o ++ banOf bs j all (i + 1) rest else banOf bs j all (i + 1) rest
def pushesOf (bs:List Nat) (j:Nat) (all:List Oper):Nat→List Oper→List Nat
 | _,[]=>[]
 | i,o :: rest=>bif !(i.beq j) && !((nth 0 bs j).testBit i) && !((nth 0 bs i).testBit j) then (match rootSlot all o with | some s=>s :: pushesOf bs j all (i + 1) rest | none=>pushesOf bs j all (i + 1) rest) else pushesOf bs j all (i + 1) rest
def othersOf (ex:List (List Nat)) (bs:List Nat) (j:Nat) (all:List Oper):Nat→List Oper→List (List Nat × List Nat)
 | _,[]=>[]
 | k,o :: rest=>bif (clsOf o.op).reads && !(k.beq j) && !((nth 0 bs j).testBit k) && !((nth 0 bs k).testBit j) then (banOf bs k all 0 all,nth [] ex k) :: othersOf ex bs j all (k + 1) rest else othersOf ex bs j all (k + 1) rest
def storeTo (st:ASt) (o:Oper):List Nat :=
 match o.op with
 | .store _ a _=>(match st.ev a with | .one (.ptr i _)=>[2 * i] | _=>[])
 | _=>[]
def outerOf (ops:List Oper):Nat→Nat→Nat
 | 0,s=>s
 | n + 1, s => match byDst s ops with
  | some o=>(match clsOf o.op,o.op.operands.toList with
   | .N,.tmp a :: _=>outerOf ops n a
   | .R,.tmp a :: _=>outerOf ops n a
   | _,_=>s)
  | none=>s
def idxOf (ops : List Oper) : Nat → Nat → Bool
 | 0,_=>false
 | n + 1, s => match byDst s ops with
  | some o => (match o.op with
   | .indexAddr _ _ _=>true
   | _=>match clsOf o.op,o.op.operands.toList with
    | .N,.tmp a :: _=>idxOf ops n a
    | .R,.tmp a :: _=>idxOf ops n a
    | _,_=>false)
  | none=>false
def treesOf (look:Look):List Nat→List Nat
 | []=>[]
 | j :: l=>(match look j with
  | some (.cells cs)=>refCs cs
  | _=>[j]) ++ treesOf look l
def treesAt (st:ASt) (s:Nat):List Nat:=treesOf st.look (nth (.one .junk) st.slots s).refA
def pushRoots (st:ASt) (all:List Oper) (o:Oper):List Nat :=
 match pushSlot o.op with
 | some s=>(match byDst (outerOf all 20 s) all with
  | none=>bif idxOf all 20 s then (treesAt st (outerOf all 20 s)).map (fun i=>2 * i + 1) else (nth (.one .junk) st.slots (outerOf all 20 s)).refA.map (2 * ·)
  | some _=>[])
 | none=>[]
def storeTrees (st:ASt) (all:List Oper) (o:Oper):List Nat :=
 match o.op with
 | .store _ (.tmp a) _=>bif idxOf all 20 a then (treesAt st (outerOf all 20 a)).map (fun i=>2 * i + 1) else []
 | _=>[]
def slStores (T:Tab) (all:List Oper):Nat→List Oper→List Nat
 | _,[]=>[]
 | j,o :: rest=>(match o.op with
  | .store t (.tmp a) _=>(match T t with | some d=>bif hasSl d.zero && idxOf all 20 a then [j] else [] | none=>[])
  | _=>[]) ++ slStores T all (j + 1) rest
def exAt (st:ASt) (all:List Oper) (bs:List Nat) (j:Nat):Nat→List Oper→List Nat
 | _,[]=>[]
 | k,o :: rest=>bif !(k.beq j) && !((nth 0 bs j).testBit k) && !((nth 0 bs k).testBit j) then storeTo st o ++ (storeTrees st all o ++ (pushRoots st all o ++ exAt st all bs j (k + 1) rest)) else exAt st all bs j (k + 1) rest
def exFrom (st:ASt) (bs:List Nat) (all:List Oper):Nat→List Oper→List (List Nat)
 | _,[]=>[]
 | j,_ :: rest=>exAt st all bs j 0 all :: exFrom st bs all (j + 1) rest
def exQ (T:Tab) (st:ASt) (ops:List Oper):List (List Nat):=exFrom st (behind ops) ops 0 ops ++ [slStores T ops 0 ops]
def besides (bs:List Nat) (j:Nat):Nat→List Oper→Bool
 | _,[]=>false
 | i,_ :: rest=>bif !(i.beq j) && !((nth 0 bs j).testBit i) && !((nth 0 bs i).testBit j) then true else besides bs j (i + 1) rest
def isMv (o:Oper):Bool:=match o.op with
 | .move _=>o.guard.isNone && o.dst.isSome
 | _=>false
def looseFrom (bs:List Nat) (j:Nat):Nat→List Oper→Bool
 | _,[]=>true
 | i,o :: rest=>bif !(i.beq j) && !((nth 0 bs j).testBit i) && !((nth 0 bs i).testBit j) then isMv o && looseFrom bs j (i + 1) rest else looseFrom bs j (i + 1) rest
def isCl (o:Oper):Bool:=match o.op with
 | .call ⟨.value (.func _),_,_⟩=>o.guard.isNone && o.dst.isSome
 | _=>false
def isBd (o:Oper):Bool:=match o.op with
 | .buildSlice _ _ _=>o.guard.isNone && o.dst.isSome
 | _=>false
def isLd (o:Oper):Bool:=match clsOf o.op with
 | .N=>o.guard.isNone && o.dst.isSome
 | .R=>o.guard.isNone && o.dst.isSome
 | _=>false
def beB (bs:List Nat) (j i:Nat):Bool:=!(i.beq j) && !((nth 0 bs j).testBit i) && !((nth 0 bs i).testBit j)
def quietFrom (bs:List Nat) (j:Nat):Nat→List Oper→Bool
 | _,[]=>true
 | i,o :: rest=>bif beB bs j i then (isMv o || isBd o || isLd o) && quietFrom bs j (i + 1) rest else quietFrom bs j (i + 1) rest
def calmFrom (bs:List Nat) (all:List Oper) (j:Nat):Nat→List Oper→Bool
 | _,[]=>true
 | i,o :: rest=>bif beB bs j i then (isMv o || (isCl o && quietFrom bs i 0 all)) && calmFrom bs all j (i + 1) rest else calmFrom bs all j (i + 1) rest
def takeFrom (bs:List Nat) (j:Nat):Nat→List Oper→Bool
 | _,[]=>true
 | i,o :: rest=>bif beB bs j i then (isMv o || (isLd o && i.blt j)) && takeFrom bs j (i + 1) rest else takeFrom bs j (i + 1) rest
def isPt (bs:List Nat) (j:Nat) (all:List Oper) (o:Oper):Bool:=(pushSlot o.op).isSome && (o.guard.isNone && o.dst.isSome) && (!looseFrom bs j 0 all && takeFrom bs j 0 all)
def pzFrom (bs:List Nat) (all:List Oper):Nat→List Oper→Bool
 | _,[]=>true
 | j,o :: rest=>(match pushSlot o.op with | some _=>looseFrom bs j 0 all || isPt bs j all o | none=>true) && pzFrom bs all (j + 1) rest
def isSt (sl:List Nat) (bs:List Nat) (j:Nat) (all:List Oper) (o:Oper):Bool:=memB j sl && isStO o && (!looseFrom bs j 0 all && takeFrom bs j 0 all)
def ptBeside (sl:List Nat) (bs:List Nat) (all:List Oper) (j:Nat):Nat→List Oper→Bool
 | _,[]=>false
 | i,o :: rest=>bif beB bs j i && (isPt bs i all o || isSt sl bs i all o) then true else ptBeside sl bs all j (i + 1) rest
def szFrom (bs:List Nat) (all:List Oper):Nat→List Oper→Bool
 | _,[]=>true
 | j,o :: rest=>(!isBd o || (calmFrom bs all j 0 all || takeFrom bs j 0 all)) && szFrom bs all (j + 1) rest
def ldBans (ex:List (List Nat)) (bs:List Nat) (j:Nat) (all:List Oper):Nat→List Oper→List (List Nat × List Nat)
 | _,[]=>[]
 | k,o :: rest=>bif beB bs j k && (isLd o && !isMv o) then (banOf bs k all 0 all,nth [] ex k) :: ldBans ex bs j all (k + 1) rest else ldBans ex bs j all (k + 1) rest
def bdBeside (bs:List Nat) (j:Nat):Nat→List Oper→Bool
 | _,[]=>false
 | i,o :: rest=>bif beB bs j i && isBd o then true else bdBeside bs j (i + 1) rest
def dullAt (ex:List (List Nat)) (ops:List Oper) (bs:List Nat) (j:Nat) (o:Oper):List Nat:=bif pzFrom bs ops 0 ops && (isLd o && !isMv o) && ((szFrom bs ops 0 ops && bdBeside bs j 0 ops) || ptBeside (nth [] ex ops.length) bs ops j 0 ops) then banOf bs j ops 0 ops else []
def dull2At (ex:List (List Nat)) (ops:List Oper) (bs:List Nat) (j:Nat) (o:Oper):List Nat:=bif pzFrom bs ops 0 ops && (isLd o && !isMv o) && ptBeside (nth [] ex ops.length) bs ops j 0 ops then nth [] ex j else []
def itemAt (ex:List (List Nat)) (ops:List Oper) (bs:List Nat) (j:Nat) (o:Oper):Item:=⟨o,(banOf bs j ops 0 ops,nth [] ex j),besides bs j 0 ops,bif isSt (nth [] ex ops.length) bs j ops o then ([],[]) :: othersOf ex bs j ops 0 ops else othersOf ex bs j ops 0 ops,pushesOf bs j ops 0 ops ++ dullAt ex ops bs j o,match rootSlot ops o with | some m=>m | none=>0,pzFrom bs ops 0 ops && (isMv o || looseFrom bs j 0 ops || (szFrom bs ops 0 ops && isBd o) || isPt bs j ops o || isSt (nth [] ex ops.length) bs j ops o),pzFrom bs ops 0 ops && szFrom bs ops 0 ops && isCl o && bdBeside bs j 0 ops,bif (isBd o && !calmFrom bs ops j 0 ops) || isPt bs j ops o || isSt (nth [] ex ops.length) bs j ops o then ldBans ex bs j ops 0 ops else [],dullAt ex ops bs j o,dull2At ex ops bs j o⟩
def itemsFrom (ex:List (List Nat)) (ops:List Oper) (bs:List Nat):Nat→List Oper→List Item
 | _,[]=>[]
 | j,o :: rest=>itemAt ex ops bs j o :: itemsFrom ex ops bs (j + 1) rest
def pairsOk (ops:List Oper) (m:Nat) (y:Oper) (j:Nat):Nat→List Oper→Bool
 | _,[]=>true
 | i,x :: rest=>bif i.blt j then (bif m.testBit i || apartB ops x y then pairsOk ops m y j (i + 1) rest else false) else true
def allOk (ops:List Oper) (bs:List Nat):Nat→List Oper→Bool
 | _,[]=>true
 | j,y :: rest=>bif edgesBelow j y.after.toList && pairsOk ops (nth 0 bs j) y j 0 ops then allOk ops bs (j + 1) rest else false
def drawOk (ops:List Oper):Bool:=allOk ops (behind ops) 0 ops
def plainItems:List Oper→List Item
 | []=>[]
 | o :: rest=>⟨o,([],[]),false,[],[],0,false,false,[],[],[]⟩ :: plainItems rest
def regionQ {R:Type} (E:Env) (ops:List Oper) (draw:Bool) (K:ASt→Prg R) (st:ASt):Prg R :=
 bif draw then (bif drawOk ops then opsQ E ops (itemsFrom (exQ E.T st ops) ops (behind ops) 0 ops) K st else .fail)
 else opsQ E ops (plainItems ops) K st
structure Ann where
 keep:List Nat
 own:List Nat
 ownB:List (Nat × Nat)
 kill:List Nat
 frz:List (Nat × Nat)
def keepFrom {α:Type} (d:α) (ks:List Nat):Nat→List α→List α
 | _,[]=>[]
 | n,a :: l=>(bif memB n ks then a else d) :: keepFrom d ks (n + 1) l
def freeAt (n:Nat):List (Option BC)→Nat
 | []=>n
 | none :: _=>n
 | some _ :: l=>freeAt (n + 1) l
def holesT:Nat→List TV→List TV
 | 0,l=>l
 | n + 1,l=>.hole :: holesT n l
def rootAlone (xs:List TV) (r idx:Nat):Bool:=r.beq idx && xs.length.beq (idx + 1)
def moveHome (st:ASt) (i r idx:Nat):Option ASt :=
 match st.look i with
 | some (.tree xs)=>bif rootAlone xs r idx then none else match xs[r]? with
  | some x=>((st.mapS (CA.drop i r [] false)).setBox i (some (.tree (setNth xs r .hole)))).addBox (freeAt 0 st.boxes) (.tree (holesT idx [x]))
  | none=>none
 | _=>none
def convS {R:Type} (st:ASt) (s:Nat) (k:ASt→Prg R):Prg R :=
 match nth (.one .junk) st.slots s with
 | .one (.sref i r [])=>(match moveHome st i r 0 with
  | some st'=>k (st'.put (some s) (.one (.sref (freeAt 0 st.boxes) 0 [])))
  | none=>k st)
 | .one (.sref _ _ (_ :: _))=>k st
 | .one (.swin i r [] lo len) => match rootOf st.look i r with
  | some x=>.tv (winP lo len x) fun y=>(match setRoot (st.mapS (CA.drop i r [] false)).look i r y with
   | some b=>k (((st.mapS (CA.drop i r [] false)).setBox i (some b)).put (some s) (.one (.sref i r [])))
   | none=>.fail)
  | none=>.fail
 | v => match v.tv? with
  | some x=>.chk x.isSl (match st.addBox (freeAt 0 st.boxes) (.tree [x]) with
   | some st'=>k (st'.put (some s) (.one (.sref (freeAt 0 st.boxes) 0 [])))
   | none=>.fail)
  | none=>.fail
def convSs {R:Type}:List Nat→ASt→(ASt→Prg R)→Prg R
 | [],st,k=>k st
 | s :: l,st,k=>convS st s fun st=>convSs l st k
def mIdx (cs:List CA) (c:Nat):Nat:=match cs with | .may _ _ :: _=>c | _=>0
def convH {R : Type} (st : ASt) (i c : Nat) (k : ASt → Prg R) : Prg R :=
 match st.look i with
 | some (.cells cs) => match nth .junk cs c with
  | .sref i' r [] => (match moveHome st i' r (mIdx cs c) with
   | some st'=>(match st'.look i with
    | some (.cells cs')=>k (st'.setBox i (some (.cells (setNth cs' c (.sref (freeAt 0 st.boxes) (mIdx cs c) [])))))
    | _=>k st)
   | none=>k st)
  | _=>k st
 | _=>k st
def convB {R : Type} (st : ASt) (s c : Nat) (k : ASt → Prg R) : Prg R :=
 match nth (.one .junk) st.slots s with
 | .one (.ptr i _) => match st.look i with
  | some (.cells cs) => match nth .junk cs c with
   | .sref _ _ []=>convH st i c k
   | .sref _ _ (_ :: _)=>k st
   | .swin i' r [] lo len => match rootOf st.look i' r with
    | some x => .tv (winP lo len x) fun y => (match setRoot (st.mapS (CA.drop i' r [] false)).look i' r y with
     | some b=>(match ((st.mapS (CA.drop i' r [] false)).setBox i' (some b)).look i with
      | some (.cells cs')=>convH (((st.mapS (CA.drop i' r [] false)).setBox i' (some b)).setBox i (some (.cells (setNth cs' c (.sref i' r []))))) i c k
      | _=>.fail)
     | none=>.fail)
    | none=>.fail
   | .t x=>.chk x.isSl (match st.addBox (freeAt 0 st.boxes) (.tree (holesT (mIdx cs c) [x])) with
    | some st'=>k (st'.setBox i (some (.cells (setNth cs c (.sref (freeAt 0 st.boxes) (mIdx cs c) [])))))
    | none=>.fail)
   | _=>.fail
  | _=>.fail
 | _=>.fail
def convBs {R:Type}:List (Nat × Nat)→ASt→(ASt→Prg R)→Prg R
 | [],st,k=>k st
 | (s,c) :: l,st,k=>convB st s c fun st=>convBs l st k
def coolT:TV→TV
 | .sl o s xs=>.sl o s (frzLL xs)
 | x=>x
def convF (st : ASt) (s c : Nat) : ASt :=
 match nth (.one .junk) st.slots s with
 | .one (.ptr i _) => match st.look i with
  | some (.cells cs) => match nth .junk cs (c % 1000) with
   | .sref i' r [] => match st.look i' with
    | some (.tree xs)=>match xs[r]? with
     | some x=>bif Nat.ble 1000 c then st.setBox i' (some (.tree (setNth xs r (coolT x)))) else (st.setBox i' (some (.tree (setNth xs r (frz x))))).setBox i (some (.cells (setNth cs (c % 1000) (.t (frz x)))))
     | none=>st
    | _=>st
   | _=>st
  | _=>st
 | .one (.sref i' r []) => match st.look i' with
  | some (.tree xs)=>match xs[r]? with
   | some x=>bif Nat.ble 1000 c then st else (st.setBox i' (some (.tree (setNth xs r (frz x))))).put (some s) (.one (.t (frz x)))
   | none=>st
  | _=>st
 | _=>st
def convFs:List (Nat × Nat)→ASt→ASt
 | [],st=>st
 | (s,c) :: l,st=>convFs l (convF st s c)
def killSt (st:ASt):List Nat→ASt
 | []=>st
 | s :: l => match nth (.one .junk) st.slots s with
  | .one (.ptr i _)=>(match st.look i with
   | some (.cells cs)=>killSt (st.setBox i (some (.cells (mapC (fun _=>.junk) cs)))) l
   | _=>killSt st l)
  | _=>killSt st l
def visit (look:Look):Nat→List Nat→List Nat→List Nat
 | 0,_,seen=>seen
 | _ + 1,[],seen=>seen
 | n + 1,i :: l,seen=>bif memB i seen then visit look n l seen else match look i with
  | some b=>visit look n (l ++ b.refB) (seen ++ [i])
  | none=>visit look n l seen
def idxIn (i:Nat):Nat→List Nat→Option Nat
 | _,[]=>none
 | n,a :: l=>bif a.beq i then some n else idxIn i (n + 1) l
def CA.ren (L:List Nat) (c:CA):CA :=
 match c with
 | .ptr i off=>match idxIn i 0 L with | some k=>.ptr k off | none=>.junk
 | .tptr i r p k j=>match idxIn i 0 L with | some m=>.tptr m r p k j | none=>.junk
 | .sref i r p=>match idxIn i 0 L with | some m=>.sref m r p | none=>.junk
 | .swin i r p lo len=>match idxIn i 0 L with | some m=>.swin m r p lo len | none=>.junk
 | .may i ty=>match idxIn i 0 L with | some k=>.may k ty | none=>.junk
 | .aptr i off len n=>match idxIn i 0 L with | some k=>.aptr k off len n | none=>.junk
 | .ifp ty i=>match idxIn i 0 L with | some k=>.ifp ty k | none=>.junk
 | .fn1 f i=>match idxIn i 0 L with | some k=>.fn1 f k | none=>.junk
 | c=>c
def nodupB:List Nat→Bool
 | []=>true
 | a :: l=>!memB a l && nodupB l
def pickB (look:Look) (f:CA→CA):List Nat→List (Option BC)
 | []=>[]
 | i :: l=>(match look i with | some b=>some (b.mapB f) | none=>none) :: pickB look f l
def AV.asTV:AV→AV
 | .one (.t x)=>.tv x
 | .bl b=>.tv (.lit (.bool b))
 | v=>v
def asTVs:List AV→List AV
 | []=>[]
 | v :: l=>v.asTV :: asTVs l
def renSt (L:List Nat) (st:ASt):ASt :=
 ⟨asTVs (mapAs (CA.ren L) st.slots),pickB st.look (CA.ren L) L ++ List.replicate (st.boxes.length - L.length) none,asTVs (mapAs (CA.ren L) st.out)⟩
def keepSt (ks:List Nat) (st:ASt):ASt:=⟨keepFrom (.one .junk) ks 0 st.slots,st.boxes,st.out⟩
def canonL (st:ASt):List Nat:=visit st.look 1000 (refAs st.slots ++ refAs st.out) []
def canonQ {R:Type} (st:ASt) (k:ASt→Prg R):Prg R :=
 bif nodupB (canonL st) && (canonL st).length.ble canonN && canonN.ble st.boxes.length then k (renSt (canonL st) st) else .fail
def normQ {R:Type} (an:Ann) (st:ASt) (k:ASt→Prg R):Prg R :=
 convSs an.own st fun st=>convBs an.ownB st fun st=>canonQ (keepSt an.keep (killSt (convFs an.frz st) an.kill)) k
inductive AEx where
 | normal | ret | exit (id:Nat)
def first:Code→Option Nat
 | .region id _ _=>some id
 | .seq a b=>match first a with
  | some n=>some n
  | none=>first b
 | .cond _ a b=>match first a with
  | some n=>some n
  | none=>first b
 | .block _ c=>first c
 | .loop c=>first c
 | _=>none
def annAt (ann:Nat→Option Ann) (c:Code):Option Ann :=
 match first c with
 | some n=>ann n
 | none=>none
def thenQ {R:Type} (an:Option Ann) (rp:List Nat) (next:ASt→Prg R) (K:AEx→ASt→Prg R):AEx→ASt→Prg R
 | .normal,st=>match an with
  | none=>next st
  | some an=>normQ an st fun st=>.jmp rp st
 | e,st=>K e st
def blockQ {R:Type} (id:Nat) (K:AEx→ASt→Prg R):AEx→ASt→Prg R
 | .exit i,st=>bif i.beq id then K .normal st else K (.exit i) st
 | e,st=>K e st
def headQ {R:Type} (an:Option Ann) (rp:List Nat) (st:ASt):Prg R :=
 match an with
 | none=>.fail
 | some an=>normQ an st fun st=>.jmp rp st
def roundQ {R:Type} (an:Option Ann) (rp:List Nat) (K:AEx→ASt→Prg R):AEx→ASt→Prg R
 | .normal,st=>headQ an rp st
 | e,st=>K e st
structure Opn where
 fns:FuncId→Option Func
 ann:FuncId→Nat→Option Ann
 jn:FuncId→Nat→Option Ann
 kp:FuncId→Nat→Option (List Nat)
 mth:TypeId→String→Option (FuncId × Bool)
def AV.cloOf:AV→Option (FuncId × List CA)
 | .clo f cs=>some (f,cs)
 | .one (.fn1 f i)=>some (f,[.ptr i 0])
 | _=>none
def recvOf (st:ASt) (i:Nat):Bool→Option AV
 | false=>some (.one (.ptr i 0))
 | true=>match st.look i with
  | some (.cells [c])=>bif c.kept then some (.one c) else none
  | _=>none
def mthOf (L:Opn) (st:ASt) (v:AV) (name:String):Option (FuncId × AV) :=
 match v with
 | .one (.ifp t i) => match L.mth t name with
  | some (f,d)=>match recvOf st i d with
   | some r=>some (f,r)
   | none=>none
  | none=>none
 | _=>none
def openF (L:Opn) (st:ASt) (j:Nat):Op→Option (Nat × FuncId × Func × List AV × List CA)
 | .call ⟨.value (.func f),_,_⟩=>match L.fns f with
  | some fn=>some (j,f,fn,[],[])
  | none=>none
 | .call ⟨.value (.tmp t), _, _⟩ => match (nth (.one .junk) st.slots t).cloOf with
  | some (f,cs)=>match L.fns f with
   | some fn=>some ((f + 1) * 1000 + j,f,fn,[],cs)
   | none=>none
  | none=>none
 | .call ⟨.invoke (.tmp t) name, _, _⟩ => match mthOf L st (nth (.one .junk) st.slots t) name with
  | some (f,r)=>match L.fns f with
   | some fn=>some ((f + 1) * 1000 + j,f,fn,[r],[])
   | none=>none
  | none=>none
 | _=>none
def mayOpen (L:Opn):Op→Bool
 | .call ⟨.value (.func f),_,_⟩=>(L.fns f).isSome
 | .call ⟨.value (.tmp _),_,_⟩=>true
 | .call ⟨.invoke _ _,_,_⟩=>true
 | _=>false
def anyOpen (L:Opn):List Oper→Bool
 | []=>false
 | o :: l=>bif mayOpen L o.op then true else anyOpen L l
def openP (L:Opn) (y:Nat):Op→Option (FuncId × Func)
 | .call ⟨.value (.func f),_,_⟩=>bif y.blt 1000 then (match L.fns f with
  | some fn=>some (f,fn)
  | none=>none) else none
 | .call ⟨.value (.tmp _), _, _⟩ => match y / 1000 with
  | f + 1=>(match L.fns f with
   | some fn=>some (f,fn)
   | none=>none)
  | 0=>none
 | .call ⟨.invoke (.tmp _) _, _, _⟩ => match y / 1000 with
  | f + 1=>(match L.fns f with
   | some fn=>some (f,fn)
   | none=>none)
  | 0=>none
 | _=>none
def barFrom (bs:List Nat) (k:Nat):Nat→List Oper→Bool
 | _,[]=>true
 | i,_ :: rest=>bif i.blt k then barFrom bs k (i + 1) rest else (Nat.land (nth 0 bs i) (2 ^ k - 1)).beq (2 ^ k - 1) && barFrom bs k (i + 1) rest
def barAt (ops:List Oper) (k:Nat):Bool:=barFrom (behind ops) k 0 ops
def codeQ {R:Type} (E:Env) (reg:Nat→List Nat→List Oper→Bool→(ASt→Prg R)→ASt→Prg R) (rg:List Nat→Operand→Array Tmp→Code→Code→(ASt→Prg R)→ASt→Prg R) (ann jn:Nat→Option Ann):List Nat→Code→(AEx→ASt→Prg R)→ASt→Prg R
 | _,.skip,K,st=>K .normal st
 | rp,.region id ops draw,K,st=>reg id rp ops.toList draw (K .normal) st
 | rp,.seq a b,K,st=>codeQ E reg rg ann jn (0 :: rp) a (thenQ (annAt jn b) (1 :: rp) (codeQ E reg rg ann jn (1 :: rp) b K) K) st
 | rp, .cond c a b, K, st => match st.ev c with
  | .bl v=>bif v then codeQ E reg rg ann jn (0 :: rp) a K st else codeQ E reg rg ann jn (1 :: rp) b K st
  | x=>match x.tv? with
   | some v=>.ite (asBool v) (codeQ E reg rg ann jn (0 :: rp) a K st) (codeQ E reg rg ann jn (1 :: rp) b K st)
   | none=>.fail
 | rp,.block id c,K,st=>codeQ E reg rg ann jn (0 :: rp) c (blockQ id K) st
 | rp,.loop c,_,st=>headQ (annAt ann c) (0 :: rp) st
 | _,.exit id,K,st=>K (.exit id) st
 | _,.ret,K,st=>K .ret st
 | rp,.rangeFunc g ps a c,K,st=>rg rp g ps a c (K .normal) st
 | _,_,_,_=>.fail
def bodyOf (fn:Func):Code:=match fn.body with | some c=>c | none=>.skip
def resAV (T : Tab) (st : ASt) : ResultVar → Option AV
 | .tmp t=>some (nth (.one .junk) st.slots t)
 | .cell a ty => match nth (.one .junk) st.slots a, T ty with
  | .one (.ptr i 0), some d => match st.look i with
   | some (.cells cs)=>match takeN cs 0 (bif d.kd.isAgg then d.size else 1) with
    | some cs=>ofCells d.kd.isAgg cs
    | none=>none
   | _=>none
  | _,_=>none
def resAVs (T:Tab) (st:ASt):List ResultVar→Option (List AV)
 | []=>some []
 | r :: l=>match resAV T st r,resAVs T st l with
  | some x,some xs=>some (x :: xs)
  | _,_=>none
def tupRes {R:Type}:List TyD→List AV→(List (Bool × List CA)→Prg R)→Prg R
 | [],[],k=>k []
 | d :: ds,v :: vs,k=>v.cellsO d.kd.isAgg d.size fun cs=>tupRes ds vs fun l=>k ((d.kd.isAgg,cs) :: l)
 | _,_,_=>.fail
def backAV {R:Type} (ds:List TyD) (vs:List AV) (k:AV→Prg R):Prg R :=
 match vs with
 | [v]=>k v
 | vs=>tupRes ds vs fun l=>k (.tups l)
def renK (L:List Nat) (m:Nat) (st:ASt):ASt :=
 ⟨mapAs (CA.ren L) st.slots,pickB st.look (CA.ren L) L ++ List.replicate (st.boxes.length - m - L.length) none,mapAs (CA.ren L) st.out⟩
def canonK {R:Type} (m:Nat) (st:ASt) (k:ASt→Prg R):Prg R :=
 forceS (fun st=>fNs (canonL st) fun L=>bif nodupB L && L.length.ble canonN && canonN.ble st.boxes.length then forceS k (renK L m st) else .fail) st
def backQ {R : Type} (E : Env) (f : FuncId) (fn : Func) (nt : Nat) (d : Option Tmp) (K : ASt → Prg R) : AEx → ASt → Prg R
 | .exit _,_=>.fail
 | _,st=>match resAVs E.T st fn.results.toList,tysOf E.T (E.rts f) with
  | some vs, some ds => bif nt.ble st.out.length then backAV ds vs fun v =>
    canonK fn.ntmps (ASt.put ⟨st.out.drop (st.out.length - nt),st.boxes,st.out.take (st.out.length - nt)⟩ d v) K else .fail
  | _,_=>.fail
def openSt (ntmps:Nat) (vs:List AV) (st:ASt):ASt :=
 ⟨vs ++ List.replicate (ntmps - vs.length) (.one .undef),st.boxes ++ List.replicate ntmps none,st.out ++ st.slots⟩
def putAside:Option (List Nat)→ASt→ASt
 | none,st=>st
 | some ks,st=>keepSt ks st
def keyAt (id j:Nat):Nat:=id * 1000 + j
structure Rng where
 off:Nat
 nt:Nat
 fi:FuncId
 ps:Array Tmp
 assign:Code
 body:Code
 busy:Bool
def busyAt:List Rng→Nat→List Rng
 | [],_=>[]
 | y :: l,0=>{ y with busy:=true } :: l
 | y :: l,m + 1=>y :: busyAt l m
def CA.unY (n:Nat) (c:CA):CA :=
 match c with
 | .yl k=>bif k.blt n then .yl k else .junk
 | c=>c
def AV.ylOf:AV→Option Nat
 | .one (.yl m)=>some m
 | _=>none
def yNum (z m j:Nat):Nat:=2 * ((2 * m + z) * 1000 + j) + 3
def putPs:List Tmp→List AV→List AV→List AV
 | t :: ts,v :: vs,l=>putPs ts vs (setNth l t v)
 | _,_,l=>l
abbrev RegH (R:Type):=Nat→FuncId→List Rng→Nat→List Nat→List Oper→Bool→(ASt→Prg R)→ASt→Prg R
abbrev RngH (R:Type):=Nat→FuncId→List Rng→List Nat→Operand→Array Tmp→Code→Code→(ASt→Prg R)→ASt→Prg R
def enterQ {R:Type} (E:Env) (L:Opn) (reg:RegH R) (rg:RngH R) (nt:Nat) (fi:FuncId) (ys:List Rng) (id:Nat) (rp:List Nat) (j y:Nat) (o:Oper) (f:FuncId) (fn:Func) (rv:List AV) (cap:List CA) (K:ASt→Prg R) (st:ASt):Prg R :=
 match o.op.operands.toList with
 | _ :: xs => bif (rv.length + xs.length).beq fn.params.size && (rv.length + xs.length + cap.length).ble fn.ntmps && (st.slots.length.beq nt && j.blt 1000) then
   forceS (codeQ E (reg fn.ntmps f ys) (rg fn.ntmps f ys) (L.ann f) (L.jn f) ((2 * y + 2) :: rp) (bodyOf fn) (backQ E f fn nt o.dst K)) (openSt fn.ntmps (rv ++ xs.map st.ev ++ cap.map AV.one) (putAside (L.kp fi (keyAt id j)) st)) else .fail
 | _=>.fail
def ASt.cut (nt:Nat) (st:ASt):ASt:=⟨st.out.drop (st.out.length - nt),st.boxes,st.out.take (st.out.length - nt)⟩
def roundQ' {R:Type} (y:Rng) (nt:Nat) (d:Option Tmp) (K:ASt→Prg R):AEx→ASt→Prg R
 | .normal,st=>bif nt.ble st.out.length then canonK y.nt ((st.cut nt).put d (.bl true)) K else .fail
 | _,_=>.fail
def beginQ {R:Type} (k:ASt→Prg R):AEx→ASt→Prg R
 | .normal,st=>k st
 | _,_=>.fail
def yieldQ {R : Type} (E : Env) (L : Opn) (reg : RegH R) (rg : RngH R) (nt : Nat) (fi : FuncId) (ys : List Rng) (id : Nat) (rp : List Nat) (j m : Nat) (y : Rng) (o : Oper) (K : ASt → Prg R) (st : ASt) : Prg R :=
 match o.op.operands.toList with
 | _ :: xs => bif xs.length.beq y.ps.size && (st.slots.length.beq nt && (j.blt 1000 && (!y.busy && (y.off + y.nt).ble st.out.length))) then
   forceS (codeQ E (reg y.nt y.fi (busyAt ys m)) (rg y.nt y.fi (busyAt ys m)) (L.ann y.fi) (L.jn y.fi) (yNum 0 m j :: rp) y.assign
    (beginQ (codeQ E (reg y.nt y.fi (busyAt ys m)) (rg y.nt y.fi (busyAt ys m)) (L.ann y.fi) (L.jn y.fi) (yNum 1 m j :: rp) y.body (roundQ' y nt o.dst K))))
    (openSt y.nt (putPs y.ps.toList (xs.map st.ev) ((st.out.drop y.off).take y.nt)) (putAside (L.kp fi (keyAt id j)) st)) else .fail
 | _=>.fail
def itemOf (draw:Bool) (ex:List (List Nat)) (all:List Oper) (j:Nat) (o:Oper):Item:=bif draw then itemAt ex all (behind all) j o else ⟨o,([],[]),false,[],[],0,false,false,[],[],[]⟩
def exOf (T:Tab) (draw:Bool) (st:ASt) (all:List Oper):List (List Nat):=bif draw then exQ T st all else []
def guardN (ops:List Oper) (o:Oper) (s:ASt):Option (Option Bool) :=
 match o.guard with
 | none=>some (some true)
 | some (j, want) => match ((ops[j]?).bind (·.dst)) with
  | none=>none
  | some g=>match nth (.one .junk) s.slots g with
   | .one .undef=>some none
   | .bl b=>some (some (b == want))
   | _=>none
def isDone (ops:List Oper) (o:Oper) (s:ASt):Bool:=match guardN ops o s with
 | some (some true)=>true
 | _=>false
def yieldF (ys:List Rng) (st:ASt):Op→Option (Nat × Rng)
 | .call ⟨.value (.tmp t), _, _⟩ => match (nth (.one .junk) st.slots t).ylOf with
  | some m=>match ys[m]? with
   | some y=>some (m,y)
   | none=>none
  | none=>none
 | _=>none
def eqCA:CA→CA→Bool
 | .ptr i a,.ptr j b=>i.beq j && a.beq b
 | .sref i r [],.sref j k []=>i.beq j && r.beq k
 | _,_=>false
def eqAV:AV→AV→Bool
 | .one a,.one b=>eqCA a b
 | _,_=>false
def bitsBut (u m:Nat):Nat→Bool
 | 0=>true
 | k + 1=>(k.beq u || m.testBit k) && bitsBut u m k
def barFromL (bs:List Nat) (u k:Nat):Nat→List Oper→Bool
 | _,[]=>true
 | i,_ :: rest=>bif i.blt k then barFromL bs u k (i + 1) rest else bitsBut u (nth 0 bs i) k && barFromL bs u k (i + 1) rest
def barAtL (ops:List Oper) (u k:Nat):Bool:=barFromL (behind ops) u k 0 ops
def noneFrom (bs:List Nat) (u k:Nat):Nat→List Oper→Bool
 | _,[]=>true
 | i,_ :: rest=>bif i.blt k then !((nth 0 bs i).testBit u) && noneFrom bs u k (i + 1) rest else true
def isLate (o:Oper):Bool:=match o.op with
 | .load _ _=>o.guard.isNone && o.dst.isSome
 | _=>false
def lateOk (all:List Oper) (j u:Nat) (o c:Oper):Bool :=
 isLate o && (barAtL all u j && barAtL all u (j + 1)) && (noneFrom (behind all) u (j + 1) 0 all && (c.guard.isNone && (match o.dst with
  | some d=>freeOf (some d) (tmpsOf c.op.operands.toList) && unlike (some d) c.dst
  | none=>false)))
def lateFrom (all:List Oper) (j:Nat) (c:Oper):Nat→List Oper→Option Nat
 | _,[]=>none
 | u,o :: rest=>bif u.blt j then (bif lateOk all j u o c then some u else lateFrom all j c (u + 1) rest) else none
def lateIdx (all:List Oper) (j:Nat):Option Nat:=match all[j]? with
 | some c=>lateFrom all j c 0 all
 | none=>none
def barsOk (draw:Bool) (all:List Oper) (j:Nat):Bool:=!draw || (barAt all j && barAt all (j + 1))
def swapL (n a b:Nat):List Nat:=(List.range n).map fun k=>bif k.beq a then b else bif k.beq b then a else k
def homeL (d:Option Nat) (st:ASt):List Nat :=
 match d with
 | some d=>(match nth (.one .junk) st.slots d with
  | .one (.sref i 0 [])=>swapL st.boxes.length i (st.nid (some d))
  | _=>List.range st.boxes.length)
 | none=>List.range st.boxes.length
def homeK {R:Type} (d:Option Nat) (k:ASt→Prg R) (st:ASt):Prg R:=fNs (homeL d st) fun L=>bif nodupB L then forceS k (renK L 0 st) else .fail
def lateQ {R:Type} (E:Env) (draw:Bool) (all:List Oper) (j:Nat) (k:ASt→Prg R) (st:ASt):Prg R :=
 bif barsOk draw all j then k st else match lateIdx all j with
 | some u => (match all[u]?, all[j]? with
  | some o,some c=>(match o.dst with
   | some d=>homeK c.dst (fun st=>opQ E all (itemOf draw (exOf E.T draw st all) all u o) (fun st'=>bif eqAV (nth (.one .junk) st'.slots d) (nth (.one .junk) st.slots d) then k st else .fail) (st.put (some d) (.one .junk))) st
   | none=>.fail)
  | _,_=>.fail)
 | none=>.fail
def segQ {R : Type} (E : Env) (L : Opn) (reg : RegH R) (rg : RngH R) (nt : Nat) (fi : FuncId) (ys : List Rng) (id : Nat) (rp : List Nat) (draw : Bool) (all : List Oper) (K : ASt → Prg R) : Nat → List Oper → List (List Nat) → ASt → Prg R
 | _,[],_,st=>K st
 | j, o :: rest, ex, st => match openF L st j o.op with
  | some (y, f, fn, rv, cap) => bif isDone all o st then (bif barsOk draw all j || (lateIdx all j).isSome then
    enterQ E L reg rg nt fi ys id rp j y o f fn rv cap (lateQ E draw all j fun st'=>segQ E L reg rg nt fi ys id rp draw all K (j + 1) rest (exOf E.T draw st' all) st') st else .fail)
   else opQ E all (itemOf draw ex all j o) (forceSt (segQ E L reg rg nt fi ys id rp draw all K (j + 1) rest ex)) st
  | none => match yieldF ys st o.op with
   | some (m, y) => bif isDone all o st then (bif !draw || (barAt all j && barAt all (j + 1)) then
     yieldQ E L reg rg nt fi ys id rp j m y o (fun st'=>segQ E L reg rg nt fi ys id rp draw all K (j + 1) rest (exOf E.T draw st' all) st') st else .fail)
    else opQ E all (itemOf draw ex all j o) (forceSt (segQ E L reg rg nt fi ys id rp draw all K (j + 1) rest ex)) st
   | none=>opQ E all (itemOf draw ex all j o) (forceSt (segQ E L reg rg nt fi ys id rp draw all K (j + 1) rest ex)) st
def overQ {R:Type} (fn:Func) (n nt:Nat) (K:ASt→Prg R):AEx→ASt→Prg R
 | .exit _,_=>.fail
 | _,st=>bif fn.results.size.beq 0 && nt.ble st.out.length then canonK fn.ntmps ((st.mapS (CA.unY n)).cut nt) K else .fail
mutual
def regQ {R:Type} (E:Env) (L:Opn):Nat→RegH R
 | 0,_,_,_,_,_,ops,draw,K,st=>regionQ E ops draw K st
 | n + 1,nt,fi,ys,id,rp,ops,draw,K,st=>bif anyOpen L ops then (bif !draw || drawOk ops then segQ E L (regQ E L n) (rngQ E L n) nt fi ys id rp draw ops K 0 ops (exOf E.T draw st ops) st else .fail) else regionQ E ops draw K st
def rngQ {R:Type} (E:Env) (L:Opn):Nat→RngH R
 | 0,_,_,_,_,_,_,_,_,_,_=>.fail
 | n + 1, nt, fi, ys, rp, g, ps, assign, body, K, st => forceO (fun st => match (st.ev g).cloOf with
  | some (f,cs)=>(match L.fns f with
   | some fn => bif Nat.beq fn.params.size 1 && ((cs.length + 1).ble fn.ntmps && st.slots.length.beq nt) then
     forceS (codeQ E (regQ E L n fn.ntmps f (ys ++ [⟨st.out.length,nt,fi,ps,assign,body,false⟩])) (rngQ E L n fn.ntmps f (ys ++ [⟨st.out.length,nt,fi,ps,assign,body,false⟩])) (L.ann f) (L.jn f) (f :: rp) (bodyOf fn) (overQ fn ys.length nt K))
      (openSt fn.ntmps (.one (.yl ys.length) :: cs.map AV.one) st) else .fail
   | none=>.fail)
  | none=>.fail) (st.mapS (CA.unY ys.length))
end
def goQ {R : Type} (E : Env) (L : Opn) : List Nat → Nat → Nat → Nat → FuncId → List Rng → List Nat → Code → (AEx → ASt → Prg R) → ASt → Prg R
 | [],n,_,nt,fi,ys,rp,c,K=>codeQ E (regQ E L n nt fi ys) (rngQ E L n nt fi ys) (L.ann fi) (L.jn fi) rp c K
 | x :: p, n, no, nt, fi, ys, rp, c, K => match c with
  | .seq a b=>match x with
   | 0=>goQ E L p n no nt fi ys (0 :: rp) a (thenQ (annAt (L.jn fi) b) (1 :: rp) (codeQ E (regQ E L n nt fi ys) (rngQ E L n nt fi ys) (L.ann fi) (L.jn fi) (1 :: rp) b K) K)
   | _=>goQ E L p n no nt fi ys (1 :: rp) b K
  | .cond _ a b=>match x with
   | 0=>goQ E L p n no nt fi ys (0 :: rp) a K
   | _=>goQ E L p n no nt fi ys (1 :: rp) b K
  | .block id c=>goQ E L p n no nt fi ys (0 :: rp) c (blockQ id K)
  | .loop c=>goQ E L p n no nt fi ys (0 :: rp) c (roundQ (annAt (L.ann fi) c) (0 :: rp) K)
  | .rangeFunc _ ps assign body => match n with
   | n + 1=>(match L.fns x with
    | some fn=>goQ E L p n (no + nt) fn.ntmps x (ys ++ [⟨no,nt,fi,ps,assign,body,false⟩]) (x :: rp) (bodyOf fn) (overQ fn ys.length nt (K .normal))
    | none=>fun _=>.fail)
   | 0=>fun _=>.fail
  | .region id ops draw => match n with
   | n + 1 => bif (x % 2).beq 0 then (match ops.toList[(x / 2 - 1) % 1000]? with
    | some o=>(match openP L (x / 2 - 1) o.op with
     | some (f, fn) => bif !draw || drawOk ops.toList then goQ E L p n (no + nt) fn.ntmps f ys (x :: rp) (bodyOf fn)
       (backQ E f fn nt o.dst (lateQ E draw ops.toList ((x / 2 - 1) % 1000) fun st'=>segQ E L (regQ E L n) (rngQ E L n) nt fi ys id rp draw ops.toList (K .normal) ((x / 2 - 1) % 1000 + 1) (ops.toList.drop ((x / 2 - 1) % 1000 + 1)) (exOf E.T draw st' ops.toList) st')) else fun _=>.fail
     | none=>fun _=>.fail)
    | none=>fun _=>.fail)
    else (match ops.toList[((x - 3) / 2) % 1000]? with
    | some o=>(match ys[(x - 3) / 2 / 1000 / 2]? with
     | some r => bif !draw || drawOk ops.toList then (bif ((x - 3) / 2 / 1000 % 2).beq 0 then
       goQ E L p n (no + nt) r.nt r.fi (busyAt ys ((x - 3) / 2 / 1000 / 2)) (x :: rp) r.assign
        (beginQ (codeQ E (regQ E L n r.nt r.fi (busyAt ys ((x - 3) / 2 / 1000 / 2))) (rngQ E L n r.nt r.fi (busyAt ys ((x - 3) / 2 / 1000 / 2))) (L.ann r.fi) (L.jn r.fi) (yNum 1 ((x - 3) / 2 / 1000 / 2) (((x - 3) / 2) % 1000) :: rp) r.body
         (roundQ' r nt o.dst (fun st'=>segQ E L (regQ E L n) (rngQ E L n) nt fi ys id rp draw ops.toList (K .normal) (((x - 3) / 2) % 1000 + 1) (ops.toList.drop (((x - 3) / 2) % 1000 + 1)) (exOf E.T draw st' ops.toList) st'))))
       else goQ E L p n (no + nt) r.nt r.fi (busyAt ys ((x - 3) / 2 / 1000 / 2)) (x :: rp) r.body
        (roundQ' r nt o.dst (fun st'=>segQ E L (regQ E L n) (rngQ E L n) nt fi ys id rp draw ops.toList (K .normal) (((x - 3) / 2) % 1000 + 1) (ops.toList.drop (((x - 3) / 2) % 1000 + 1)) (exOf E.T draw st' ops.toList) st'))) else fun _=>.fail
     | none=>fun _=>.fail)
    | none=>fun _=>.fail)
   | 0=>fun _=>.fail
  | _=>fun _=>.fail
theorem goQ_nil {R:Type} (E:Env) (L:Opn) (n no nt:Nat) (fi:FuncId) (ys:List Rng) (rp:List Nat) (K:AEx→ASt→Prg R) (c:Code):goQ E L [] n no nt fi ys rp c K=codeQ E (regQ E L n nt fi ys) (rngQ E L n nt fi ys) (L.ann fi) (L.jn fi) rp c K:=rfl
theorem goQ_seq0 {R:Type} (E:Env) (L:Opn) (p:List Nat) (n no nt:Nat) (fi:FuncId) (ys:List Rng) (rp:List Nat) (K:AEx→ASt→Prg R) (a b:Code):goQ E L (0 :: p) n no nt fi ys rp (.seq a b) K=goQ E L p n no nt fi ys (0 :: rp) a (thenQ (annAt (L.jn fi) b) (1 :: rp) (codeQ E (regQ E L n nt fi ys) (rngQ E L n nt fi ys) (L.ann fi) (L.jn fi) (1 :: rp) b K) K):=rfl
theorem goQ_seq1 {R:Type} (E:Env) (L:Opn) (p:List Nat) (n no nt:Nat) (fi:FuncId) (ys:List Rng) (rp:List Nat) (K:AEx→ASt→Prg R) (a b:Code):goQ E L (1 :: p) n no nt fi ys rp (.seq a b) K=goQ E L p n no nt fi ys (1 :: rp) b K:=rfl
theorem goQ_cond0 {R:Type} (E:Env) (L:Opn) (p:List Nat) (n no nt:Nat) (fi:FuncId) (ys:List Rng) (rp:List Nat) (K:AEx→ASt→Prg R) (c:Operand) (a b:Code):goQ E L (0 :: p) n no nt fi ys rp (.cond c a b) K=goQ E L p n no nt fi ys (0 :: rp) a K:=rfl
theorem goQ_cond1 {R:Type} (E:Env) (L:Opn) (p:List Nat) (n no nt:Nat) (fi:FuncId) (ys:List Rng) (rp:List Nat) (K:AEx→ASt→Prg R) (c:Operand) (a b:Code):goQ E L (1 :: p) n no nt fi ys rp (.cond c a b) K=goQ E L p n no nt fi ys (1 :: rp) b K:=rfl
theorem goQ_block {R:Type} (E:Env) (L:Opn) (p:List Nat) (n no nt:Nat) (fi:FuncId) (ys:List Rng) (rp:List Nat) (K:AEx→ASt→Prg R) (id:Nat) (c:Code) (x:Nat):goQ E L (x :: p) n no nt fi ys rp (.block id c) K=goQ E L p n no nt fi ys (0 :: rp) c (blockQ id K):=rfl
theorem goQ_loop {R:Type} (E:Env) (L:Opn) (p:List Nat) (n no nt:Nat) (fi:FuncId) (ys:List Rng) (rp:List Nat) (K:AEx→ASt→Prg R) (c:Code) (x:Nat):goQ E L (x :: p) n no nt fi ys rp (.loop c) K=goQ E L p n no nt fi ys (0 :: rp) c (roundQ (annAt (L.ann fi) c) (0 :: rp) K):=rfl
theorem goQ_rng0 {R:Type} (E:Env) (L:Opn) (p:List Nat) (no nt:Nat) (fi:FuncId) (ys:List Rng) (rp:List Nat) (K:AEx→ASt→Prg R) (g:Operand) (ps:Array Tmp) (assign body:Code) (x:Nat):goQ E L (x :: p) 0 no nt fi ys rp (.rangeFunc g ps assign body) K=fun _=>.fail:=rfl
theorem goQ_rng {R:Type} (E:Env) (L:Opn) (p:List Nat) (n no nt:Nat) (fi:FuncId) (ys:List Rng) (rp:List Nat) (K:AEx→ASt→Prg R) (g:Operand) (ps:Array Tmp) (assign body:Code) (x:Nat):goQ E L (x :: p) (n + 1) no nt fi ys rp (.rangeFunc g ps assign body) K=match L.fns x with
 | some fn=>goQ E L p n (no + nt) fn.ntmps x (ys ++ [⟨no,nt,fi,ps,assign,body,false⟩]) (x :: rp) (bodyOf fn) (overQ fn ys.length nt (K .normal))
 | none=>fun _=>.fail:=rfl
theorem goQ_reg0 {R:Type} (E:Env) (L:Opn) (p:List Nat) (no nt:Nat) (fi:FuncId) (ys:List Rng) (rp:List Nat) (K:AEx→ASt→Prg R) (id:Nat) (ops:Array Oper) (draw:Bool) (x:Nat):goQ E L (x :: p) 0 no nt fi ys rp (.region id ops draw) K=fun _=>.fail:=rfl
theorem goQ_reg {R : Type} (E : Env) (L : Opn) (p : List Nat) (n no nt : Nat) (fi : FuncId) (ys : List Rng) (rp : List Nat) (K : AEx → ASt → Prg R) (id : Nat) (ops : Array Oper) (draw : Bool) (x : Nat) : goQ E L (x :: p) (n + 1) no nt fi ys rp (.region id ops draw) K = bif (x % 2).beq 0 then (match ops.toList[(x / 2 - 1) % 1000]? with
    | some o=>(match openP L (x / 2 - 1) o.op with
     | some (f, fn) => bif !draw || drawOk ops.toList then goQ E L p n (no + nt) fn.ntmps f ys (x :: rp) (bodyOf fn)
       (backQ E f fn nt o.dst (lateQ E draw ops.toList ((x / 2 - 1) % 1000) fun st'=>segQ E L (regQ E L n) (rngQ E L n) nt fi ys id rp draw ops.toList (K .normal) ((x / 2 - 1) % 1000 + 1) (ops.toList.drop ((x / 2 - 1) % 1000 + 1)) (exOf E.T draw st' ops.toList) st')) else fun _=>.fail
     | none=>fun _=>.fail)
    | none=>fun _=>.fail)
    else (match ops.toList[((x - 3) / 2) % 1000]? with
    | some o=>(match ys[(x - 3) / 2 / 1000 / 2]? with
     | some r => bif !draw || drawOk ops.toList then (bif ((x - 3) / 2 / 1000 % 2).beq 0 then
       goQ E L p n (no + nt) r.nt r.fi (busyAt ys ((x - 3) / 2 / 1000 / 2)) (x :: rp) r.assign
        (beginQ (codeQ E (regQ E L n r.nt r.fi (busyAt ys ((x - 3) / 2 / 1000 / 2))) (rngQ E L n r.nt r.fi (busyAt ys ((x - 3) / 2 / 1000 / 2))) (L.ann r.fi) (L.jn r.fi) (yNum 1 ((x - 3) / 2 / 1000 / 2) (((x - 3) / 2) % 1000) :: rp) r.body
         (roundQ' r nt o.dst (fun st'=>segQ E L (regQ E L n) (rngQ E L n) nt fi ys id rp draw ops.toList (K .normal) (((x - 3) / 2) % 1000 + 1) (ops.toList.drop (((x - 3) / 2) % 1000 + 1)) (exOf E.T draw st' ops.toList) st'))))
       else goQ E L p n (no + nt) r.nt r.fi (busyAt ys ((x - 3) / 2 / 1000 / 2)) (x :: rp) r.body
        (roundQ' r nt o.dst (fun st'=>segQ E L (regQ E L n) (rngQ E L n) nt fi ys id rp draw ops.toList (K .normal) (((x - 3) / 2) % 1000 + 1) (ops.toList.drop (((x - 3) / 2) % 1000 + 1)) (exOf E.T draw st' ops.toList) st'))) else fun _=>.fail
     | none=>fun _=>.fail)
    | none=>fun _=>.fail):=rfl
def giveRs:List CA→List (Nat × Nat)
 | []=>[]
 | .sref i r _ :: l=>(i,r) :: giveRs l
 | .swin i r _ _ _ :: l=>(i,r) :: giveRs l
 | _ :: l=>giveRs l
def countP (i r:Nat):List (Nat × Nat)→Nat
 | []=>0
 | (a,b) :: l=>bif a.beq i && b.beq r then countP i r l + 1 else countP i r l
def soleP (rs:List (Nat × Nat)) (i r:Nat):Bool:=(countP i r rs).ble 1
def giveC (look:Look) (rs:List (Nat × Nat)) (c:CA) (k:TV→Prg TV):Prg TV :=
 match c with
 | .t x=>k x
 | .sref i r p=>resT look (.sref i r p) fun x=>k (bif soleP rs i r then x else frz x)
 | .swin i r p lo len=>resT look (.swin i r p lo len) fun x=>k (bif soleP rs i r then x else frz x)
 | _=>.fail
def giveL (look:Look) (rs:List (Nat × Nat)):List CA→(List TV→Prg TV)→Prg TV
 | [],k=>k []
 | c :: l,k=>giveC look rs c fun x=>giveL look rs l fun xs=>k (x :: xs)
def giveA (look:Look) (rs:List (Nat × Nat)) (v:AV) (k:TV→Prg TV):Prg TV :=
 match v with
 | .one c=>giveC look rs c k
 | .tv x=>k x
 | .agg cs=>giveL look rs cs fun xs=>k (.agg xs)
 | .tups _=>.fail
 | .clo _ _=>.fail
 | .bl b=>k (.lit (.bool b))
def gives (look:Look) (rs:List (Nat × Nat)):List AV→(List TV→Prg TV)→Prg TV
 | [],k=>k []
 | v :: l,k=>giveA look rs v fun x=>gives look rs l fun xs=>k (x :: xs)
def AV.giveR:AV→List (Nat × Nat)
 | .one c=>giveRs [c]
 | .agg cs=>giveRs cs
 | _=>[]
def giveRAs:List AV→List (Nat × Nat)
 | []=>[]
 | v :: l=>v.giveR ++ giveRAs l
def resQ (T:Tab) (pure:Bool) (rs:List ResultVar) (st:ASt):Prg TV :=
 match resAVs T st rs with
 | some vs=>gives st.look (giveRAs vs) vs fun xs=>(match xs with
  | [x]=>bif pure then .chk (isOwn x) (.ret x) else .ret x
  | xs=>bif pure then .chk (isOwnL xs) (.ret (.tup xs)) else .ret (.tup xs))
 | none=>.fail
def giveV (look:Look) (rs:List (Nat × Nat)) (i:Nat) (ty:TypeId):List CA→(List TV→Prg TV)→Prg TV
 | [],k=>k []
 | .may j t :: l,k=>bif j.beq i && t.beq ty then giveV look rs i ty l (fun xs=>k (mayT :: xs)) else .fail
 | c :: l,k=>giveC look rs c fun x=>giveV look rs i ty l fun xs=>k (x :: xs)
def oneOf (xs:List TV):TV:=match xs with | [x]=>x | xs=>.tup xs
def resL (T:Tab) (ld:LentD) (rs:List ResultVar) (st:ASt):Prg TV :=
 match resAVs T st rs,st.out with
 | some vs,[.one (.ptr i 0)]=>match st.look i with
  | some (.cells cs)=>gives st.look (giveRAs vs ++ giveRs cs) vs fun xs=>giveV st.look (giveRAs vs ++ giveRs cs) i ld.ty cs fun ys=>.ret (.tup [oneOf xs,.tup ys])
  | _=>.fail
 | _,_=>.fail
def resP (T : Tab) (rs : List ResultVar) (st : ASt) : Prg TV :=
 match resAVs T st rs with
 | some [v] => (match v.tv? with
  | some x=>.ret x
  | none => match v with
   | .agg cs=>(match plainCs cs with
    | some xs=>.ret (.agg xs)
    | none=>.fail)
   | _=>.fail)
 | _=>.fail
def finQ (T:Tab) (ld:Option LentD) (pk pure:Bool) (rs:List ResultVar) (st:ASt):Prg TV :=
 bif pk then resP T rs st else match ld with
 | none=>resQ T pure rs st
 | some ld=>resL T ld rs st
def startL (ld:LentD) (ntmps:Nat) (cs args:List TV):ASt :=
 ⟨.one (.ptr 0 0) :: (args.map (fun x => .tv x) ++ List.replicate (ntmps - (args.length + 1)) (.one .undef)),
  some (.cells (cellsV 0 1 ld.ty ld.fl cs 0)) :: some (.tree (rootsV ld.fl cs)) :: List.replicate (canonN + ntmps) none,[.one (.ptr 0 0)]⟩
def startC (ntmps:Nat) (cs args:List TV):ASt :=
 ⟨args.map (fun x=>.tv x) ++ (.one (.ref cs 0) :: List.replicate (ntmps - (args.length + 1)) (.one .undef)),List.replicate (canonN + ntmps) none,[]⟩
def startSt (ntmps:Nat) (args:List TV):ASt :=
 ⟨args.map (fun x=>.tv x) ++ List.replicate (ntmps - args.length) (.one .undef),List.replicate (canonN + ntmps) none,[]⟩
def seenAt (c:Nat × Nat) (x:TV):List TV:=setNth (List.replicate c.2 .hole) c.1 x
def startP (c:Nat × Nat) (ntmps:Nat) (x:TV) (args:List TV):ASt :=
 ⟨.one (.ref (seenAt c x) 0) :: (args.map (fun x=>.tv x) ++ List.replicate (ntmps - (args.length + 1)) (.one .undef)),List.replicate (canonN + ntmps) none,[]⟩
def endQ (T:Tab) (ld:Option LentD) (pk pure:Bool) (rs:List ResultVar):AEx→ASt→Prg TV
 | .normal,st=>finQ T ld pk pure rs st
 | .ret,st=>finQ T ld pk pure rs st
 | _,_=>.fail
structure AProg where
 T:Tab
 pure:FuncId→Bool
 rts:FuncId→List TypeId
 fns:FuncId→Option Func
 ann:FuncId→Nat→Option Ann
 jn:FuncId→Nat→Option Ann
 lent:FuncId→Option LentD
 selfT:TypeId→Bool
 ext:FuncId→Option (List TV→Option TV)
 opn:FuncId→Bool
 kp:FuncId→Nat→Option (List Nat)
 peek:FuncId→Option (Nat × Nat)
 turn:FuncId→Bool
 mth:TypeId→String→Option (FuncId × Bool)
 eye:FuncId→Bool
 cold:TypeId→Bool
def AProg.env (A:AProg):Env:=⟨A.T,A.pure,A.rts,A.lent,A.selfT,A.peek,A.turn,A.eye,A.cold⟩
def AProg.opens (A:AProg):Opn:=⟨fun f=>bif A.opn f then A.fns f else none,A.ann,A.jn,A.kp,A.mth⟩
def openDepth:Nat:=8
def outsOf (A:AProg) (f:FuncId):Nat:=match A.peek f with | some _=>0 | none=>bif (A.lent f).isSome then 1 else 0
def pieceQ (A:AProg) (f:FuncId) (rp:List Nat) (st:ASt):Prg TV :=
 match A.fns f with
 | some fn=>goQ A.env A.opens rp.reverse openDepth (outsOf A f) fn.ntmps f [] [] (bodyOf fn) (endQ A.T (A.lent f) (A.peek f).isSome (A.pure f) fn.results.toList) st
 | none=>.fail
def splitL:List TV→Option (List TV × TV)
 | []=>none
 | [x]=>some ([],x)
 | x :: y :: l=>match splitL (y :: l) with
  | some (asz,z)=>some (x :: asz,z)
  | none=>none
def startQ (A:AProg) (f:FuncId) (args:List TV):Prg TV :=
 bif A.turn f || (A.eye f && ((A.peek f).isSome || (A.lent f).isSome)) then .fail else match A.peek f with
 | some c=>(match A.fns f,args with
  | some fn,x :: rest=>bif (rest.length + 1).beq fn.params.size && (rest.length + 1).ble fn.ntmps && c.1.blt c.2 then pieceQ A f [] (startP c fn.ntmps x rest) else .fail
  | _,_=>.fail)
 | none=>match A.fns f with
 | some fn => match A.lent f with
  | none=>bif A.eye f then (match splitL args with
   | some (asz,.agg cs)=>bif asz.length.beq fn.params.size && (asz.length + 1).ble fn.ntmps then pieceQ A f [] (startC fn.ntmps cs asz) else .fail
   | _=>.fail) else bif args.length.beq fn.params.size && args.length.ble fn.ntmps then pieceQ A f [] (startSt fn.ntmps args) else .fail
  | some ld=>match args with
   | .tup cs :: rest=>bif (rest.length + 1).beq fn.params.size && (rest.length + 1).ble fn.ntmps then .chk (fitsV ld.fl cs) (pieceQ A f [] (startL ld fn.ntmps cs rest)) else .fail
   | _=>.fail
 | none=>.fail
def runN (A:AProg) (C:FuncId→List TV→Option TV) (f:FuncId):Nat→List Nat→ASt→Option TV
 | 0,_,_=>none
 | n + 1,p,st=>(pieceQ A f p st).run C (runN A C f n)
def acall (A:AProg):Nat→FuncId→List TV→Option TV
 | 0,_,_=>none
 | n + 1,f,args=>match A.ext f with
  | some g=>g args
  | none=>(startQ A f args).run (acall A n) (runN A (acall A n) f n)
end Go.Ab

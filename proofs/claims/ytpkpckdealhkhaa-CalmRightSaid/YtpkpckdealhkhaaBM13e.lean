import Derived.Test.YtpkpckdealhkhaaBM13
import Derived.OrdersIn
set_option linter.all false
section
namespace Go.Ab
open Go.RowKit
def Prg.All {R:Type} (p:R->Prop):Prg R->Prop
 | .fail=>True
 | .ret e=>p e
 | .tv _ k=>∀v,(k v).All p
 | .tvs _ k=>∀v,(k v).All p
 | .rws _ k=>∀v,(k v).All p
 | .nat _ k=>∀v,(k v).All p
 | .chk _ k=>k.All p
 | .ite _ t e=>t.All p/\e.All p
 | .call _ _ k=>∀v,(k v).All p
 | .jmp _ _=>True
theorem Prg.All.hits {R:Type} {C:Cal} {p:R->Prop} {e:R}:∀{o:Prg R},o.All p->o.hits C e->p e
 | .ret e',h,h'=>by cases h';exact h
 | .tv _ k,h,⟨v,_,h'⟩=>(h v).hits h'
 | .tvs _ k,h,⟨v,_,h'⟩=>(h v).hits h'
 | .rws _ k,h,⟨v,_,h'⟩=>(h v).hits h'
 | .nat _ k,h,⟨v,_,h'⟩=>(h v).hits h'
 | .chk _ k,h,⟨_,h'⟩=>Prg.All.hits (o:=k) h h'
 | .ite _ t e,h,⟨v,_,.inl ⟨_,h'⟩⟩=>Prg.All.hits (o:=t) h.1 h'
 | .ite _ t e,h,⟨v,_,.inr ⟨_,h'⟩⟩=>Prg.All.hits (o:=e) h.2 h'
 | .call _ _ k,h,⟨v,_,h'⟩=>(h v).hits h'
section
variable {E:Env} {look look':Look} {p:Eff->Prop} {id:Nat}
theorem aM {b:Bool} {x y:Out} (hx:x.All p) (hy:y.All p):(bif b then x else y).All p:=by cases b<;>assumption
theorem jS {q:Way} {x:TV} {k:TV->Out} (h:∀y,(k y).All p):(oI q x k).All p:=by
 unfold oI
 split
 ·exact h _
 ·exact h
theorem eJ {c:CA} {k:TV->Out} (h:∀y,(k y).All p):(gR look c k).All p:=by
 unfold gR
 split
 ·exact h _
 ·split
  ·exact jS h
  ·exact trivial
 ·split
  ·exact jS fun y z=>h z
  ·exact trivial
 ·exact trivial
theorem lV {v:AV} {k:TV->Out} (h:∀y,(k y).All p):(qv look v k).All p:=by
 unfold qv
 split
 ·exact eJ h
 ·exact h _
 ·exact h _
 ·exact trivial
theorem rP {c:CA} {k:TV->Out} (h:∀y,(k y).All p):(qV look c k).All p:=by
 unfold qV
 split
 ·exact h _
 ·exact eJ fun y=>h _
 ·exact eJ fun y=>h _
 ·exact trivial
theorem rL {k:List TV->Out}:∀{cs:List CA} {k:List TV->Out},(∀y,(k y).All p)->(wT look cs k).All p
 | [],k,h=>h _
 | c::cs,k,h=>rP fun y=>rL (k:=fun _=>.fail) fun ys=>h _
theorem yr {v:AV} {k:TV->Out} (h:∀y,(k y).All p):(pU look v k).All p:=by
 unfold pU
 split
 ·exact rP h
 ·exact h _
 ·exact rL (k:=fun _=>.fail) fun ys=>h _
 ·exact trivial
 ·exact trivial
 ·exact h _
theorem nl:∀{vs:List AV} {k:List TV->Out},(∀y,(k y).All p)->(lends look vs k).All p
 | [],k,h=>h _
 | v::vs,k,h=>yr fun y=>nl fun ys=>h _
theorem sF {c:CA} {k:TV->List (Nat × Nat)->Out} (h:∀y r,(k y r).All p):(qi look c k).All p:=by
 unfold qi
 split
 ·exact h _ _
 ·split
  ·split
   ·exact h _ _
   ·exact fun y=>h _ _
  ·exact trivial
 ·split
  ·split
   ·exact fun y=>h _ _
   ·exact fun z y=>h _ _
  ·exact trivial
 ·exact trivial
theorem sV:∀{cs:List CA} {k:List TV->List (Nat × Nat)->Out},(∀y r,(k y r).All p)->(wy look cs k).All p
 | [],k,h=>h _ _
 | c::cs,k,h=>sF fun y r=>sV fun ys rs=>h _ _
theorem yN {v:AV} {k:TV->List (Nat × Nat)->Out} (h:∀y r,(k y r).All p):(qX look v k).All p:=by
 unfold qX
 split
 ·exact sF h
 ·exact h _ _
 ·exact sV fun ys rs=>h _ _
 ·exact trivial
 ·exact trivial
 ·exact h _ _
theorem su:∀{vs:List AV} {k:List TV->List (Nat × Nat)->Out},(∀y r,(k y r).All p)->(hands look vs k).All p
 | [],k,h=>h _ _
 | v::vs,k,h=>yN fun y r=>su fun ys rs=>h _ _
theorem ea:∀{cs:List CA} {k:List TV->List Prim->List (Nat × Nat)->Out},(∀y q r,(k y q r).All p)->(cr look cs k).All p
 | [],k,h=>h _ _ _
 | .t x::l,k,h=>by
  simp only[cr]
  exact ea (cs:=l) fun xs ps ts=>h _ _ _
 | .sref i r q :: l, k, h => by
  simp only[cr]
  split
  ·split
   ·exact ea (cs:=l) fun xs ps ts=>h _ _ _
   ·exact fun y=>ea (cs:=l) fun xs ps ts=>h _ _ _
  ·exact trivial
 | .swin i r q lo len :: l, k, h => by
  simp only[cr]
  split
  ·split
   ·exact fun y=>ea (cs:=l) fun xs ps ts=>h _ _ _
   ·exact fun z y=>ea (cs:=l) fun xs ps ts=>h _ _ _
  ·exact trivial
 | .ptr _ _::l,k,h=>trivial
 | .ref _ _::l,k,h=>trivial
 | .tptr _ _ _ _ _::l,k,h=>trivial
 | .may _ _::l,k,h=>trivial
 | .aptr _ _ _ _::l,k,h=>trivial
 | .ifp _ _::l,k,h=>trivial
 | .fn1 _ _::l,k,h=>trivial
 | .psl _ _::l,k,h=>trivial
 | .yl _::l,k,h=>trivial
 | .undef::l,k,h=>trivial
 | .junk::l,k,h=>trivial
theorem dw:∀{cs:List CA} {k:List TV->List Prim->List (Nat × Nat)->Out},(∀y q r,(k y q r).All p)->(bP look cs k).All p
 | [],k,h=>h _ _ _
 | .t x::l,k,h=>by
  simp only[bP]
  exact dw (cs:=l) fun xs ps ts=>h _ _ _
 | .sref i r q :: l, k, h => by
  simp only[bP]
  split
  ·split
   ·exact dw (cs:=l) fun xs ps ts=>h _ _ _
   ·exact fun y=>⟨dw (cs:=l) fun xs ps ts=>h _ _ _,fun x'=>dw (cs:=l) fun xs ps ts=>h _ _ _⟩
  ·exact trivial
 | .swin i r q lo len :: l, k, h => by
  simp only[bP]
  split
  ·split
   ·exact fun y=>dw (cs:=l) fun xs ps ts=>h _ _ _
   ·exact fun z y=>dw (cs:=l) fun xs ps ts=>h _ _ _
  ·exact trivial
 | .ptr _ _::l,k,h=>trivial
 | .ref _ _::l,k,h=>trivial
 | .tptr _ _ _ _ _::l,k,h=>trivial
 | .may _ _::l,k,h=>trivial
 | .aptr _ _ _ _::l,k,h=>trivial
 | .ifp _ _::l,k,h=>trivial
 | .fn1 _ _::l,k,h=>trivial
 | .psl _ _::l,k,h=>trivial
 | .yl _::l,k,h=>trivial
 | .undef::l,k,h=>trivial
 | .junk::l,k,h=>trivial
theorem dz {agg:Bool} {n:Nat} {x:AV} {k:List CA->Out} (h:∀cs,(k cs).All p):(x.aX agg n k).All p:=by
 unfold AV.aX
 split
 ·rename_i c;cases c.kept<;>first|exact trivial|exact h _
 ·exact h _
 ·exact h _
 ·exact h _
 ·rename_i cs;cases cs.length.beq n<;>first|exact trivial|exact h _
 ·exact h _
 ·exact trivial
theorem qo {at_:Nat->Option (Nat × Bool × Nat)} {k:List CA->Out} (h:∀cs,(k cs).All p):∀(is:List Nat) (vs:List AV) (cs:List CA),(bQ at_ is vs cs k).All p
 | [],[],cs=>h cs
 | i :: is, x :: vs, cs => by
  simp only[bQ]
  split
  ·refine dz (fun ps=>?_)
   exact aM (qo h is vs _) trivial
  ·exact trivial
 | [],_::_,cs=>trivial
 | _::_,[],cs=>trivial
theorem eh {v:Option AV} {k:Option Nat->Out} (h:∀n,(k n).All p):(ez v k).All p:=by
 unfold ez
 split
 ·exact h _
 ·split
  ·exact fun v=>h _
  ·exact trivial
abbrev eP (e:Eff):Prop:=∃v,e=.val v
abbrev ju (e:Eff):Prop:=∃b v,e=.new b v
theorem uC {d:TyD} {x:List TV} {off:Nat}:(iP d x off).All eP:=by
 unfold iP
 cases d.kd.isAgg
 ·exact⟨_,rfl⟩
 ·exact⟨_,rfl⟩
theorem sv:∀{vs:List AV} {k:List CA->Out},(∀cs,(k cs).All p)->(je vs k).All p
 | [],k,h=>h _
 | v::vs,k,h=>dz fun cs=>sv fun cs'=>h _
theorem sD {b k:Nat}:∀{n:Nat},(xv b k n).All eP
 | 0=>trivial
 | n+1=>⟨⟨_,rfl⟩,sD⟩
theorem xa {op:Op} (h:ap op=.N) (vs:List AV):(opL E id look op vs).All eP:=by
 cases op with
 | move x=>rcases vs with _|⟨v,_|⟨v',r⟩⟩<;>first|exact trivial|exact⟨_,rfl⟩
 | assign x=>rcases vs with _|⟨v,_|⟨v',r⟩⟩<;>first|exact trivial|exact⟨_,rfl⟩
 | pick c x y =>
  rcases vs with _|⟨v,_|⟨v',_|⟨v'',_|⟨v3,r⟩⟩⟩⟩<;>first|exact trivial|skip
  simp only[opL]
  split<;>first|exact trivial|exact⟨_,rfl⟩|exact⟨⟨_,rfl⟩,⟨_,rfl⟩⟩
 | build t parts =>
  simp only[opL]
  split
  ·refine aM ?_ trivial
   refine qo ?_ _ _ _
   exact fun cs=>⟨_,rfl⟩
  ·exact trivial
 | nilCheck x =>
  rcases vs with _|⟨v,_|⟨v',r⟩⟩<;>first|exact trivial|skip
  simp only[opL]
  split<;>first|exact trivial|exact⟨_,rfl⟩
 | unOp op xt x =>
  rcases vs with _|⟨v,_|⟨v',r⟩⟩<;>first|exact trivial|skip
  simp only[opL]
  split
  ·exact⟨_,rfl⟩
  ·split
   ·exact fun v=>⟨_,rfl⟩
   ·exact trivial
 | fieldAddr t x f =>
  rcases vs with _|⟨v,_|⟨v',r⟩⟩<;>first|exact trivial|skip
  simp only[opL]
  split
  ·split
   ·refine aM ?_ trivial
    split<;>first|exact trivial|exact⟨_,rfl⟩
   ·exact trivial
  ·exact trivial
 | field t x f =>
  rcases vs with _|⟨v,_|⟨v',r⟩⟩<;>first|exact trivial|skip
  simp only[opL]
  split
  ·split
   ·unfold tT
    split
    ·split
     ·split<;>first|exact trivial|exact⟨_,rfl⟩
     ·exact trivial
    ·exact⟨_,rfl⟩
    ·exact trivial
   ·exact trivial
  ·exact trivial
 | index t x y =>
  rcases vs with _|⟨v,_|⟨v',_|⟨v'',r⟩⟩⟩<;>first|exact trivial|skip
  simp only[opL]
  split
  ·exact fun v=>⟨_,rfl⟩
  ·unfold o9
   split
   ·split
    ·refine aM ?_ trivial
     split
     ·exact fun k v=>⟨_,rfl⟩
     ·exact trivial
    ·exact trivial
   ·exact trivial
 | extract x j =>
  rcases vs with _|⟨v,_|⟨v',r⟩⟩<;>first|exact trivial|skip
  simp only[opL]
  split
  ·split
   ·split<;>first|exact trivial|exact⟨_,rfl⟩
   ·exact trivial
  ·exact trivial
 | makeFunc fn first cap =>
  cases fn with
  | func f =>
   simp only[opL]
   exact aM (sv fun cs=>⟨_,rfl⟩) trivial
  | _=>exact trivial
 | call c =>
  obtain⟨callee,args,tys⟩:=c
  cases callee with
  | builtin b=>cases b<;>simp[ap]at h
  | value f=>cases f<;>simp[ap]at h
  | invoke r m=>simp[ap]at h
 | makeInterface t x =>
  rcases vs with _|⟨v,_|⟨v',r⟩⟩<;>first|exact trivial|skip
  simp only[opL]
  split
  ·unfold zy
   refine aM ?_ trivial
   split
   ·exact⟨_,rfl⟩
   ·split
    ·exact fun v=>⟨_,rfl⟩
    ·exact trivial
  ·exact trivial
 | typeAssert x xt t ok =>
  rcases vs with _|⟨v,_|⟨v',r⟩⟩<;>cases ok<;>first|exact trivial|skip
  simp only[opL]
  split
  ·unfold rV
   refine aM ?_ trivial
   split
   ·exact fun v=>⟨_,rfl⟩
   ·exact trivial
  ·exact trivial
 | _=>simp[ap]at h
theorem zf {op:Op} (h:ap op=.R) (vs:List AV):(opL E id look op vs).All eP:=by
 cases op with
 | load t x =>
  rcases vs with _|⟨v,_|⟨v',r⟩⟩<;>first|exact trivial|skip
  simp only[opL]
  split
  ·unfold xf
   split
   ·refine aM trivial ?_
    split
    ·exact fun v=>⟨_,rfl⟩
    ·exact trivial
   ·split
    ·split
     ·split
      ·exact⟨_,rfl⟩
      ·exact trivial
     ·exact trivial
    ·exact trivial
   ·exact uC
   ·split
    ·refine jS (fun s e=>?_)
     simp only[Prg.All]
     split
     ·exact⟨_,rfl⟩
     ·exact trivial
    ·exact trivial
   ·exact trivial
  ·exact trivial
 | convert xt dt x =>
  rcases vs with _|⟨v,_|⟨v',r⟩⟩<;>first|exact trivial|skip
  simp only[opL]
  split
  ·unfold xc
   split
   ·exact trivial
   ·split
    ·exact fun v=>⟨_,rfl⟩
    ·exact trivial
  ·exact trivial
 | binOp op xt x y yt =>
  rcases vs with _|⟨v,_|⟨v',_|⟨v'',r⟩⟩⟩<;>first|exact trivial|skip
  simp only[opL]
  split
  ·unfold BN
   split
   ·split
    ·refine dz fun cs=>dz fun cs'=>?_
     split
     ·exact fun v=>⟨_,rfl⟩
     ·exact trivial
    ·exact trivial
   ·unfold Bv
    split
    ·exact⟨_,rfl⟩
    ·exact⟨_,rfl⟩
    ·exact trivial
   unfold A8
   refine aM (lV fun x=>lV fun y=>fun v=>⟨_,rfl⟩) ?_
   split
   ·exact fun v=>⟨_,rfl⟩
   ·exact trivial
  ·exact trivial
 | slice t x lo hi mx =>
  have sl:∀{kd:Kd} {sz:Nat} {x:AV} {lo hi:Option AV},(gI look kd sz x lo hi).All eP:=by
   intro kd sz x lo hi
   unfold gI
   split
   ·exact eh fun lo=>eh fun hi=>fun v=>⟨_,rfl⟩
   ·split
    ·exact eJ fun s n=>eh fun lo=>eh fun hi=>⟨_,rfl⟩
    ·split
     ·exact eJ fun s=>eh fun hi=>⟨_,rfl⟩
     ·exact eJ fun s=>eh fun lo=>eh fun hi=>⟨_,rfl⟩
    ·exact trivial
  cases mx with
  | some m=>rcases vs with _|⟨v,r⟩<;>exact trivial
  | none =>
   rcases vs with _|⟨v,r⟩
   ·exact trivial
   ·simp only[opL]
    split
    ·split
     ·split<;>first|exact trivial|exact sl
     ·exact trivial
    ·exact trivial
 | indexAddr t x y =>
  rcases vs with _|⟨v,_|⟨v',_|⟨v'',r⟩⟩⟩<;>first|exact trivial|skip
  simp only[opL]
  split
  ·unfold mS
   split
   ·split
    ·exact fun v=>⟨_,rfl⟩
    ·split
     ·exact eJ fun s n k=>⟨_,rfl⟩
     ·exact eJ fun s k=>⟨_,rfl⟩
     ·exact aM (fun k=>sD) trivial
     ·exact trivial
   ·exact trivial
  ·unfold oU
   split
   ·split
    ·exact aM (fun k=>⟨_,rfl⟩) trivial
    ·exact trivial
   ·exact trivial
 | call c =>
  obtain⟨callee,args,tys⟩:=c
  cases callee with
  | builtin b =>
   have mn:∀{mx:Bool} {x y:AV},(uc mx x y).All eP:=by
    intro mx x y
    unfold uc
    split
    ·exact fun v=>⟨_,rfl⟩
    ·exact trivial
   cases b<;>simp[ap]at h
   all_goals simp only[opL]
   all_goals unfold dp
   all_goals split<;>first|exact trivial|exact mn|contradiction|skip
   split
   ·unfold vv
    split
    ·exact⟨_,rfl⟩
    ·split
     ·exact⟨_,rfl⟩
     ·exact lV fun s v=>⟨_,rfl⟩
    ·exact lV fun s v=>⟨_,rfl⟩
   ·exact trivial
  | value f=>cases f<;>simp[ap]at h
  | invoke r m=>simp[ap]at h
 | _=>simp[ap]at h
theorem cls_A {op:Op} (h:ap op=.A) (vs:List AV):(opL E id look op vs).All ju:=by
 cases op with
 | alloc t =>
  rcases vs with _|⟨v,r⟩<;>first|exact trivial|skip
  simp only[opL]
  split
  ·exact⟨_,_,rfl⟩
  ·exact trivial
 | box t x =>
  rcases vs with _|⟨v,_|⟨v',r⟩⟩<;>first|exact trivial|skip
  simp only[opL]
  split
  ·exact dz (fun cs=>⟨_,_,rfl⟩)
  ·exact trivial
 | makeSlice t x y =>
  rcases vs with _|⟨v,_|⟨v',_|⟨v'',r⟩⟩⟩<;>first|exact trivial|skip
  simp only[opL]
  split
  ·refine aM ?_ trivial
   exact fun n m=>⟨_,_,rfl⟩
  ·exact trivial
 | call c =>
  obtain⟨callee,args,tys⟩:=c
  cases callee with
  | builtin b=>cases b<;>simp[ap]at h
  | value f=>cases f<;>simp[ap]at h
  | invoke r m=>simp[ap]at h
 | _=>simp[ap]at h
theorem gW {ps:List Prim} {b:BC} {v:AV}:(ct ps b v).plain=true->eP (ct ps b v)\/ju (ct ps b v):=by
 cases ps with
 | nil=>exact fun _=>.inr ⟨_,_,rfl⟩
 | cons q l=>exact fun h=>by cases h
theorem rS {ps:List Prim} {v:AV}:(match ps with | []=>Eff.val v|_=>.gen ps v).plain=true->eP (match ps with | []=>Eff.val v|_=>.gen ps v)\/ju (match ps with | []=>Eff.val v|_=>.gen ps v):=by
 cases ps with
 | nil=>exact fun _=>.inl ⟨_,rfl⟩
 | cons q l=>exact fun h=>by cases h
theorem qU {d:TyD} {x:TV} {k:Out} (h:k.All p):(mN d x k).All p:=by
 unfold mN
 exact aM h h
theorem ol {x:TV} {k:Out} (h:k.All p):∀(ds:List TyD) (j:Nat),(kK x ds j k).All p
 | [],j=>h
 | d::ds,j=>qU (ol h ds (j+1))
theorem uy {ds:List TyD} {v:TV} {ps:List Prim}:(xP id ds v ps).All fun e=>e.plain=true->eP e\/ju e:=by
 have many:∀ds:List TyD,(Prg.chk (v.isTup ds.length) (kK v ds 0 (bif iw ds then .ret (ct ps (.tree (bd v ds 0)) (.tups (dD id v ds 0 0)))
   else .ret (match ps with | []=>.val (.tups (dD id v ds 0 0))|_=>.gen ps (.tups (dD id v ds 0 0)))))).All fun e=>e.plain=true->eP e\/ju e:=by
  intro ds
  refine ol ?_ ds 0
  exact aM gW rS
 match ds with
 | []=>exact many []
 | [d] =>
  simp only[xP]
  refine qU ?_
  split
  ·exact aM gW rS
  ·exact trivial
 | d::d'::l=>exact many _
theorem xH {f:FuncId} {ld:gV} {vs:List AV}:(ue E id look f ld vs).All fun e=>e.plain=true->eP e\/ju e:=by
 exact trivial
theorem yz {f:FuncId} {c:Nat × Nat} {vs:List AV}:(uD look f c vs).All fun e=>e.plain=true->eP e\/ju e:=by
 exact trivial
theorem yc {f:FuncId} {vs:List AV}:(qH look f vs).All fun e=>e.plain=true->eP e\/ju e:=by
 exact trivial
theorem Ao {f:FuncId} {i:Nat} {vs:List AV}:(Am E id look f i vs).All fun e=>e.plain=true->eP e\/ju e:=by
 exact trivial
theorem cls_B {op:Op} (h:ap op=.B) (vs:List AV):(opL E id look op vs).All fun e=>e.plain=true->eP e\/ju e:=by
 cases op with
 | buildSlice t len parts =>
  simp only[opL]
  refine aM ?_ ?_
  ·exact trivial
  unfold gE
  split
  ·refine qo (fun cs=>?_) _ _ _
   refine aM (fun _=>.inr ⟨_,_,rfl⟩) ?_
   refine dw fun ys qs ts=>?_
   exact aM gW trivial
  ·exact trivial
 | call c =>
  obtain⟨callee,args,tys⟩:=c
  cases callee with
  | builtin b=>cases b<;>simp[ap]at h
  | value f =>
   cases f with
   | func f =>
    rcases vs with _|⟨v,r⟩
    ·exact trivial
    ·simp only[opL,kV]
     refine aM yc (aM trivial ?_)
     split
     ·exact yz
     split
     ·exact xH
     ·split
      ·refine aM ?_ ?_
       ·exact nl fun xs=>fun v=>uy
       ·exact su fun xs rs=>aM (fun v=>uy) trivial
      ·exact trivial
   | tmp t =>
    rcases vs with _|⟨v,r⟩
    ·exact trivial
    ·simp only[opL]
     split
     ·exact fun f=>nl fun xs v=>fun _=>.inl ⟨_,rfl⟩
     ·split
      ·exact Ao
      ·exact trivial
   | _=>simp[ap]at h
  | invoke r m=>simp[ap]at h
 | _=>simp[ap]at h
abbrev isUpd (look:Look) (e:Eff):Prop:=∃i b v,e=.upd i b v/\(look i).isSome=true
theorem zF {op : Op} (h : ap op = .W) (vs : List AV) : (opL E id look op vs).All fun e => e.plain = true → isUpd look e := by
 cases op with
 | store t x y =>
  rcases vs with _|⟨v,_|⟨v',_|⟨v'',r⟩⟩⟩<;>first|exact trivial|skip
  simp only[opL]
  split
  ·unfold tH
   split
   ·refine aM trivial ?_
    split
    ·rename_i cs xs hrow
     refine dz (fun ps=>?_)
     split
     ·exact fun _=>⟨_,_,_,rfl,by simp[(ic hrow).1]⟩
     ·exact trivial
    ·exact trivial
   ·refine dz (fun ps=>?_)
    split
    ·rename_i cs hl
     exact aM (fun _=>⟨_,_,_,rfl,by simp[hl]⟩) trivial
    ·exact trivial
   ·refine dz (fun ps=>?_)
    split
    ·refine aM trivial (aM ?_ ?_)
     ·refine ea fun ys qs ts=>aM ?_ trivial
      exact jS fun s e=>fun x' hp=>by cases hp
     ·refine ea fun ys qs ts=>?_
      split
      ·refine aM ?_ trivial
       refine jS fun s e=>?_
       simp only[Prg.All]
       intro x'
       split
       ·rename_i b hb
        refine fun _=>⟨_,_,_,rfl,?_⟩
        unfold b8 at hb
        split at hb
        ·rename_i hl;simp[hl]
        ·cases hb
       ·exact trivial
      ·exact trivial
    ·exact trivial
   ·exact trivial
  ·exact trivial
 | call c =>
  obtain⟨callee,args,tys⟩:=c
  cases callee with
  | builtin b=>cases b<;>simp[ap]at h
  | value f=>cases f<;>simp[ap]at h
  | invoke r m=>simp[ap]at h
 | _=>simp[ap]at h
theorem vh {d:TyD} {s:AV} {news:List (List TV)} {ps:List Prim}:(mi id look d s news ps).All fun e=>e.plain=true->eP e\/ju e:=by
 unfold mi
 split
 ·exact aM (fun y=>gW) trivial
 ·split
  ·split
   ·split
    ·exact fun y h=>by cases h
    ·exact fun z y x' h=>by cases h
   ·exact trivial
  ·split
   ·split
    ·exact fun z y h=>by cases h
    ·exact fun z0 z y x' h=>by cases h
   ·exact trivial
  ·exact trivial
theorem zl {d:TyD} {dest:Option Nat} {x:AV} {k:List (List TV)->List Prim->Out} (h:∀xs ps,(k xs ps).All p):(vw look d dest x k).All p:=by
 unfold vw
 split
 ·exact fun xs=>h _ _
 ·split
  ·refine aM ?_ ?_
   ·split
    ·split
     ·split
      ·exact aM trivial (fun xs=>h _ _)
      ·exact fun y=>fun xs=>h _ _
     ·exact trivial
    ·split
     ·split
      ·exact aM trivial (fun y xs=>h _ _)
      ·exact fun z y=>fun xs=>h _ _
     ·exact trivial
    ·exact trivial
   ·exact eJ (fun s xs=>h _ _)
  ·exact trivial
theorem cls_P {op:Op} (h:ap op=.P) (vs:List AV):(opL E id look op vs).All fun e=>e.plain=true->eP e\/ju e:=by
 cases op with
 | call c =>
  obtain⟨callee,args,tys⟩:=c
  cases callee with
  | builtin b =>
   cases b<;>simp[ap]at h
   simp only[opL]
   unfold dp
   split<;>try (first|exact trivial|contradiction)
   split
   ·refine aM ?_ ?_
    ·unfold lJ
     exact aM (zl (fun xs ps=>vh)) trivial
    ·split
     ·exact trivial
     ·exact trivial
   ·exact trivial
  | value f=>cases f<;>simp[ap]at h
  | invoke r m=>simp[ap]at h
 | _=>simp[ap]at h
theorem sI {op:Op} (h:ap op=.N\/ap op=.A) (vs:List AV):opL E id look op vs=opL E id look' op vs:=by
 cases op<;>first
  | (rcases vs with _|⟨a,_|⟨b,_|⟨c,_|⟨d,r⟩⟩⟩⟩<;>rfl)
  | (simp[ap]at h;done)
  | (rename_i fn _ _;cases fn<;>rfl)
  | (rename_i ok;cases ok<;>rcases vs with _|⟨a,_|⟨b,r⟩⟩<;>rfl)
  | skip
 all_goals
  rename_i c
  obtain⟨callee,args,tys⟩:=c
  cases callee with
  | builtin b=>cases b<;>simp[ap]at h
  | value f=>cases f<;>simp[ap]at h
  | invoke r m=>simp[ap]at h
end
end Go.Ab
end
section
namespace Go.Ab
open Go.RowKit
def Prg.goes {R:Type} (C:Cal) (J:List Nat->ASt->R->Prop):Prg R->R->Prop
 | .fail,_=>False
 | .ret e',e=>e'=e
 | .tv p k,e=>∃v,p=some v/\(k v).goes C J e
 | .tvs p k,e=>∃v,p=some v/\(k v).goes C J e
 | .rws p k,e=>∃v,p=some v/\(k v).goes C J e
 | .nat p k,e=>∃v,p=some v/\(k v).goes C J e
 | .chk b k,e=>b=true/\k.goes C J e
 | .ite b t f,e=>∃v,b=some v/\((v=true/\t.goes C J e)\/(v=false/\f.goes C J e))
 | .call f xs k,e=>∃v,C f xs v/\(k v).goes C J e
 | .jmp p st,e=>J p st e
theorem Prg.dM {R S:Type} {C:Cal} {J:List Nat->ASt->S->Prop} {f:R->Prg S} {r:S}:∀{p:Prg R},(p.bind f).goes C J r->∃e,p.hits C e/\(f e).goes C J r
 | .fail,h=>h.elim
 | .ret e,h=>⟨e,rfl,h⟩
 | .tv p k,⟨v,h1,h⟩=>by obtain⟨e,h2,h3⟩:=Prg.dM h;exact⟨e,⟨v,h1,h2⟩,h3⟩
 | .tvs p k,⟨v,h1,h⟩=>by obtain⟨e,h2,h3⟩:=Prg.dM h;exact⟨e,⟨v,h1,h2⟩,h3⟩
 | .rws p k,⟨v,h1,h⟩=>by obtain⟨e,h2,h3⟩:=Prg.dM h;exact⟨e,⟨v,h1,h2⟩,h3⟩
 | .nat p k,⟨v,h1,h⟩=>by obtain⟨e,h2,h3⟩:=Prg.dM h;exact⟨e,⟨v,h1,h2⟩,h3⟩
 | .chk b k,⟨h1,h⟩=>by obtain⟨e,h2,h3⟩:=Prg.dM (p:=k) h;exact⟨e,⟨h1,h2⟩,h3⟩
 | .ite b t f,⟨v,h1,.inl ⟨h2,h⟩⟩=>by obtain⟨e,h3,h4⟩:=Prg.dM (p:=t) h;exact⟨e,⟨v,h1,.inl ⟨h2,h3⟩⟩,h4⟩
 | .ite b t f,⟨v,h1,.inr ⟨h2,h⟩⟩=>by obtain⟨e,h3,h4⟩:=Prg.dM (p:=f) h;exact⟨e,⟨v,h1,.inr ⟨h2,h3⟩⟩,h4⟩
 | .call f xs k,⟨v,h1,h⟩=>by obtain⟨e,h2,h3⟩:=Prg.dM h;exact⟨e,⟨v,h1,h2⟩,h3⟩
 | .jmp _ _,h=>h.elim
section
variable {P:Program} {E:Env} {C:Cal} {w0:Bs} {w w':World} {I0 I R:Nat->Prop} {g g':Gh} {st st' s1 s2:ASt} {a:Act} {ov:List Value} {look:Look} {Q:Exit->Act->World->Prop} {id:Nat}
def uY (E:Env) (C:Cal) (i:Item) (s s':ASt):Prop:=∃e,(opL E (s.nid i.o.dst) (banned (bn i.ban s.base) s.look) i.o.op (i.o.op.operands.toList.map s.ev)).hits C e /\
 (i.dr=true->okE i s e=true)/\e.nfE.app s i.o.dst=some s'
def wW (E:Env) (C:Cal) (i:Item) (s s':ASt):Prop:=∃e,(opL E (s.nid i.o.dst) (banned (bn i.ban s.base) s.look) i.o.op (i.o.op.operands.toList.map s.ev)).hits C e /\
 (i.dr=true->(e.plain=true/\e.oE s.base i.own=true)/\(cn i.push s i.o.dst e=true/\cN i s e=true))/\e.nfE.app s i.o.dst=some s'
def pP (E:Env) (C:Cal) (i:Item) (s s':ASt):Prop:=∃e,(opL E (s.nid i.o.dst) (banned (bn i.ban s.base) s.look) i.o.op (i.o.op.operands.toList.map s.ev)).hits C e /\
 iT i s e=true/\e.nfE.app s i.o.dst=some s'
def OpN (E:Env) (C:Cal) (ops:List Oper) (i:Item) (s s':ASt):Prop :=
 (aY ops i.o s=some (some true)/\uY E C i s s')\/(∃b,aY ops i.o s=some b/\b≠some true/\s'=di i.o s)
def OpP (E:Env) (C:Cal) (ops:List Oper) (i:Item) (s s':ASt):Prop :=
 (aY ops i.o s=some (some true)/\wW E C i s s')\/(∃b,aY ops i.o s=some b/\b≠some true/\s'=di i.o s)
theorem wW.toN {i:Item} (hsh:i.shut=false) {s s':ASt}:wW E C i s s'->uY E C i s s':=fun⟨e,h1,h2,h3⟩=>⟨e,h1,fun hd=>by obtain⟨⟨a,b⟩,c,d⟩:=h2 hd;simp only[okE,a,b,c,d,hsh,Bool.and_self,cond_false,Bool.true_or,Bool.or_true],h3⟩
theorem pP.toN {i:Item} {s s':ASt}:pP E C i s s'->uY E C i s s':=fun⟨e,h1,h2,h3⟩=>⟨e,h1,fun hd=>by simp only[okE,h2,Bool.or_true],h3⟩
theorem OpP.toN {ops:List Oper} {i:Item} (hsh:i.shut=false) {s s':ASt}:OpP E C ops i s s'->OpN E C ops i s s'
 | .inl ⟨h,h'⟩=>.inl ⟨h,h'.toN hsh⟩
 | .inr h=>.inr h
theorem OpN.parts {ops:List Oper} {i:Item} {s s':ASt} (hd:i.dr=true) (hsh:i.shut=false) (hlo:i.loose=false):OpN E C ops i s s'->OpP E C ops i s s'\/(aY ops i.o s=some (some true)/\pP E C i s s')
 | .inr h=>.inl (.inr h)
 | .inl ⟨h, e, h1, h2, h3⟩ => by
  have h2:=h2 hd
  unfold okE at h2
  rw[hlo,hsh,Bool.false_and,Bool.false_or,Bool.or_eq_true]at h2
  rcases h2 with h2|h2
  ·simp only[cond_false,Ck]at h2
   exact .inl (.inl ⟨h,e,h1,fun _=>h2,h3⟩)
  ·exact .inr ⟨h,e,h1,h2,h3⟩
theorem yM {i:Item} {s:ASt} {e:Eff} (h:okE i s e.nfE=true):okE i s e=true:=by
 unfold okE at h ⊢
 rw[Bool.or_eq_true]at h ⊢
 rcases h with h|h
 ·refine .inl ?_
  have:cj i s e.nfE=cj i s e:=by unfold cj;simp only[mW,vH,qq]
  rwa[this]at h
 refine .inr ?_
 rw[Bool.or_eq_true]at h ⊢
 rcases h with h|h
 ·rw[lR,uG]at h
  have:cn i.push s i.o.dst e.nfE=cn i.push s i.o.dst e:=by unfold cn;rw[ce]
  rw[this]at h
  have e2:fV i s e.nfE=fV i s e:=by unfold fV;rw[iQ,ce]
  have e3:cN i s e.nfE=cN i s e:=by unfold cN;rw[ce,nE]
  rw[e2,e3]at h
  exact .inl h
 ·exact nomatch h
inductive xQ (E:Env) (C:Cal) (ops:List Oper):List Item->ASt->ASt->Prop
 | nil (s:ASt):xQ E C ops [] s s
 | cons {i:Item} {l:List Item} {s s1 s':ASt} (h:OpN E C ops i s s1) (r:xQ E C ops l s1 s'):xQ E C ops (i::l) s s'
theorem nW {v:TV} {b:Bool} (h:asBool v=some b):v=.lit (.bool b):=by
 unfold asBool at h
 split at h
 ·simp only[Cj]at h;subst h;rfl
 ·cases h
theorem wk {T:Type} {J:List Nat->ASt->T->Prop} {i:Item} {K:ASt->Prg T} {r:T} (h:(kR E i K st).goes C J r):∃st1,uY E C i st.nfS st1.nfS/\(K st1).goes C J r:=by
 unfold kR at h
 obtain⟨e,h1,h2⟩:=Prg.dM h
 obtain⟨e',h3,h4⟩:=opL_nf h1
 unfold effQ at h2
 cases hc:i.dr && !(okE i st e)with
 | true=>rw[hc]at h2;exact h2.elim
 | false =>
  rw[hc]at h2
  simp only[cond_false]at h2
  split at h2
  ·rename_i st1 ha
   refine⟨st1,⟨e',?_,fun hd=>?_,?_⟩,h2⟩
   ·have:i.o.op.operands.toList.map st.nfS.ev=(i.o.op.operands.toList.map st.ev).map AV.nf:=by
     rw[List.map_map]
     apply List.map_congr_left
     intro x _
     exact rd st x
    rw[this,te,lI,jY]
    exact h3
   ·refine yM ?_
    rw[h4]
    exact okE_nf (by simpa[hd]using hc)
   ·rw[h4]
    exact app_nf ha
  ·exact h2.elim
theorem nK {g:Nat} {v v':AV} (h:nth (.one .junk) st.slots g=v) (hv:v.nf=v'.nf):(st.put (some g) v').nfS=st.nfS:=by
 rw[iR]
 simp only[ASt.put]
 have:ai st.nfS.slots g v'.nf=st.nfS.slots:=by
  rw[ag]
  apply List.ext_getElem?
  intro t
  rw[List.getElem?_set]
  by_cases ht:g=t
  ·subst ht
   cases hs:st.slots[g]? with
   | none =>
    have:st.nfS.slots[g]? = none:=by simp[ASt.nfS,hs]
    have hlt:¬g<st.nfS.slots.length:=by
     intro hlt
     rw[Ci hlt]at this
     cases this
    simp[hlt]
   | some u =>
    rw[bG hs]at h
    subst h
    have hlt:g<st.nfS.slots.length:=by simp[ASt.nfS];exact(Ch.1 hs).1
    simp only[if_true,hlt]
    rw[<-hv]
    simp[ASt.nfS,hs]
  ·simp[ht]
 rw[this]
theorem jR {T:Type} {J:List Nat->ASt->T->Prop} {ops:List Oper} {i:Item} {K:ASt->Prg T} {r:T} (h:(opQ E ops i K st).goes C J r):∃st1,OpN E C ops i st.nfS st1.nfS/\(K st1).goes C J r:=by
 unfold opQ at h
 have skip:∀{s:ASt} {b:Option Bool},s.nfS=st.nfS->aY ops i.o st.nfS=some b->b≠some true->(K (di i.o s)).goes C J r->∃st1,OpN E C ops i st.nfS st1.nfS/\(K st1).goes C J r:=by
  intro s b he hg hb hk
  refine⟨_,.inr ⟨b,hg,hb,?_⟩,hk⟩
  simp only[di]
  rw[iR,he]
  rfl
 have run:∀{s:ASt},s.nfS=st.nfS->aY ops i.o st.nfS=some (some true)->(kR E i K s).goes C J r->∃st1,OpN E C ops i st.nfS st1.nfS/\(K st1).goes C J r:=by
  intro s he hg hk
  obtain⟨st1,h1,h2⟩:=wk hk
  rw[he]at h1
  exact⟨st1,.inl ⟨hg,h1⟩,h2⟩
 cases hg:i.o.guard with
 | none =>
  simp only[hg]at h
  exact run rfl (by simp[aY,hg]) h
 | some q =>
  obtain⟨j,want⟩:=q
  simp only[hg]at h
  cases hd:(ops[j]?).bind (·.dst)with
  | none=>simp only[hd]at h;exact h.elim
  | some g =>
   simp only[hd]at h
   have gv:∀{v:AV},nth (.one .junk) st.slots g=v->aY ops i.o st.nfS=(match v.nf with | .one .undef=>some none | .bl b=>some (some (b==want))|_=>none):=by
    intro v hv
    simp only[aY,hg,hd,rb,hv]
    generalize v.nf=u
    cases u with
    | one c=>cases c<;>rfl
    | _=>rfl
   have ite:∀{v:TV} {x y:Prg T},(Prg.ite (asBool v) x y).goes C J r->∃b,v=.lit (.bool b)/\(bif b then x else y).goes C J r:=by
    rintro v x y ⟨b,hb,h⟩
    refine⟨b,nW hb,?_⟩
    rcases h with⟨rfl,h⟩|⟨rfl,h⟩<;>exact h
   cases hs:nth (.one .junk) st.slots g with
   | one c =>
    simp only[hs]at h
    cases c with
    | undef=>exact skip rfl (by rw[gv hs];rfl) (by simp) h
    | t v =>
     obtain⟨b,rfl,h'⟩:=ite h
     have he:(st.put (some g) (.bl b)).nfS=st.nfS:=nK hs rfl
     have hgd:=gv hs
     simp only[AV.nf]at hgd
     cases b<;>cases want<;>simp only[cond_true,cond_false]at h'
     ·exact run he (by rw[hgd];rfl) h'
     ·exact skip (b:=some false) he (by rw[hgd];rfl) (by simp) h'
     ·exact skip (b:=some false) he (by rw[hgd];rfl) (by simp) h'
     ·exact run he (by rw[hgd];rfl) h'
    | _=>exact h.elim
   | agg cs=>simp only[hs]at h;exact h.elim
   | tups cs=>simp only[hs]at h;exact h.elim
   | clo _ cs=>simp only[hs]at h;exact h.elim
   | tv v =>
    simp only[hs]at h
    obtain⟨b,rfl,h'⟩:=ite h
    have he:(st.put (some g) (.bl b)).nfS=st.nfS:=nK hs rfl
    have hgd:=gv hs
    simp only[AV.nf]at hgd
    cases b<;>cases want<;>simp only[cond_true,cond_false]at h'
    ·exact run he (by rw[hgd];rfl) h'
    ·exact skip (b:=some false) he (by rw[hgd];rfl) (by simp) h'
    ·exact skip (b:=some false) he (by rw[hgd];rfl) (by simp) h'
    ·exact run he (by rw[hgd];rfl) h'
   | bl b =>
    simp only[hs]at h
    have hgd:=gv hs
    simp only[AV.nf]at hgd
    cases b<;>cases want<;>simp only[cond_true,cond_false]at h
    ·exact run rfl (by rw[hgd];rfl) h
    ·exact skip (b:=some false) rfl (by rw[hgd];rfl) (by simp) h
    ·exact skip (b:=some false) rfl (by rw[hgd];rfl) (by simp) h
    ·exact run rfl (by rw[hgd];rfl) h
theorem iJ {T:Type} {J:List Nat->ASt->T->Prop} {ops:List Oper} {K:ASt->Prg T} {r:T}:∀{l:List Item} {st:ASt},(zr E ops l K st).goes C J r->∃fin,xQ E C ops l st.nfS fin.nfS/\(K fin).goes C J r
 | [],st,h=>⟨st,.nil _,h⟩
 | i::l,st,h=>by
  simp only[zr,iN]at h
  obtain⟨st1,h1,h2⟩:=jR h
  obtain⟨fin,h3,h4⟩:=iJ h2
  exact⟨fin,.cons h1 h3,h4⟩
theorem nu (ban:List Nat) (st:ASt):∀i b,banned ban st.look i=some b->st.look i=some b:=fun i b h=>by
 unfold banned at h
 cases hm:bC i ban with
 | true=>simp[hm]at h
 | false=>simpa[hm]using h
theorem lu {ops:Array Oper} {o:Oper} {j:Nat} {want:Bool} {t:Tmp} (hg:(ops[j]?).bind (·.dst)=some t) (hs:aj w0 I0 R g st a ov w) {b:Option Bool} (hv:aY ops.toList o st=some b) (ho:o.guard=some (j,want)) :
  (Region.wanted o (yielded ops a.tmps)=true ↔ b=some true):=by
 have hg':(ops.toList[j]?).bind (·.dst)=some t:=by rw[Cl];exact hg
 simp only[aY,ho,hg']at hv
 simp only[Region.wanted,ho,yielded,hg,Option.bind_some]
 cases hsl:st.slots[t]? with
 | none=>rw[a7,hsl]at hv;simp at hv
 | some v =>
  have hrep:=hs.slots t v hsl
  have hlt:t<a.tmps.size:=by rw[hs.len];exact(Ch.1 hsl).1
  have hget:a.tmps[t]? = some (a.tmps.getD t undef):=by simp[hlt]
  rw[bG hsl]at hv
  obtain⟨u,hu⟩:∃u,u=a.tmps.getD t undef:=⟨_,rfl⟩
  rw[<-hu]at hrep hget
  rw[hget]
  split at hv
  ·simp only[Cj]at hv
   subst hv
   have:u=undef:=hrep
   subst this
   simp[undef]
  ·simp only[Cj]at hv
   subst hv
   have:u=.bool _:=hrep
   subst this
   simp
  ·cases hv
def Rd (ro:Option Nat):Fence:={ Fence.wide with round:=ro }
theorem rd_in {ro:Option Nat} {P:Program} {m m':Machine}:StepsIn (Machine.fenced P (Rd ro)) P m m' ↔ Steps P m m':=stepsIn_wide
theorem gL {ro:Option Nat} {n:Nat} {P:Program} {f:FuncId} {args:Array Value} {w:World} {R:Ending->World->Prop}:CallsIn (Rd ro) n P f args w R ↔ Calls P f args w R:=callsIn_wide
theorem A5 {ro:Option Nat} (n:Nat):(Rd ro).room n:=room_wide n
theorem vS {ro:Option Nat} {o:Oper} (hd:∀c,o.op≠.defer c) {a:Act} {w:World} {next:Act->World->Prop} {Q:Exit->Act->World->Prop} (h:o.wp P a w next Q):o.wpIn (Rd ro) 0 P a w next Q:=by
 refine⟨fun _ _=>trivial,?_⟩
 rw[Oper.semAt_eq _ _ _ hd]
 unfold Oper.wp at h
 generalize (execOp a.eval o).run P w=r at *
 cases r with
 | ok x w' =>
  cases x<;>simp only[Oper.upon]at h<;>simp only[Oper.uponIn] <;>
   first
    | exact h
    | exact⟨fun h=>by simp[Rd,Fence.wide]at h,gL.2 h⟩
    | exact⟨fun h=>by simp[Rd,Fence.wide]at h,fun c cs _=>by obtain⟨v,w',r,s⟩:=h c cs;exact⟨v,w',r,rd_in.2 s⟩⟩
 | halt x w'=>cases x<;>simp only[Oper.upon]at h<;>simp only[Oper.uponIn]<;>exact h
theorem kB (hE:eN P w0.G E C) {ops:Array Oper} {n:Nat} {i:Item} (hn:ops[n]? = some i.o) (hs:Sim w0 I0 st a ov w) (h:OpN E C ops.toList i st st') {ro:Option Nat}:wpOpIn (Rd ro) 0 P ops Q n (fun a' w'=>Sim w0 I0 st' a' ov w') a w:=by
 obtain⟨g,hs⟩:=hs
 unfold wpOpIn
 rw[hn]
 simp only[]
 have run:uY E C i st st'->i.o.wpIn (Rd ro) 0 P a w (fun a' w'=>Sim w0 I0 st' a' ov w') Q:=fun⟨e,h1,_,h3⟩=>by
  obtain⟨st1,h4,h5⟩:=xo h3
  refine vS (fun c hc=>?_) (Oper.wp_mono (fun a' w' hh=>h5 w0 I0 a' ov w' hh) (Ap hE (nu _ st) hs h1 h4))
  rw[hc]at h1
  simp only[opL]at h1
  exact h1.elim
 have skip:st'=di i.o st->Sim w0 I0 st' (a.put i.o.dst undef) ov w:=fun h=>by
  subst h
  exact⟨g,hs.put i.o.dst (v:=.one .undef) rfl⟩
 cases hg:i.o.guard with
 | none =>
  have hw:Region.wanted i.o (yielded ops a.tmps)=true:=by simp[Region.wanted,hg]
  rw[if_pos hw]
  rcases h with⟨_,h⟩|⟨b,hb,hne,_⟩
  ·exact run h
  ·simp[aY,hg]at hb
   exact absurd hb.symm hne
 | some q =>
  obtain⟨j,want⟩:=q
  cases hd:(ops[j]?).bind (·.dst)with
  | none =>
   have hd':(ops.toList[j]?).bind (·.dst)=none:=by rw[Cl];exact hd
   rcases h with⟨h,_⟩|⟨b,hb,_⟩
   ·simp only[aY,hg,hd']at h;cases h
   ·simp only[aY,hg,hd']at hb;cases hb
  | some t =>
   rcases h with⟨hv,h⟩|⟨b,hv,hne,h⟩
   ·rw[if_pos ((lu hd hs hv hg).2 rfl)]
    exact run h
   ·rw[if_neg (fun hw=>hne ((lu hd hs hv hg).1 hw))]
    exact⟨fun _ _=>trivial,skip h⟩
theorem cb {t:Nat}:∀{l:List Operand},.tmp t∈l->t∈ik l
 | x :: l, h => by
  rcases List.mem_cons.1 h with rfl|h
  ·simp[ik]
  ·have:=cb h
   cases x<;>simp[ik,this]
theorem b9 {d:Option Nat} {l:List Nat} (h:eZ d l=true):∀t,d=some t->t∉l:=fun t ht hm=>by
 subst ht
 simp only[eZ,Bool.not_eq_true',]at h
 rw[(bF _ _).2 hm]at h
 cases h
def i7 (d:Option Nat) (s t:ASt):Prop:=s.slots.length=t.slots.length/\∀k,d≠some k->nth (.one .junk) s.slots k=nth (.one .junk) t.slots k
theorem fd (st:ASt) (d:Option Tmp) (v:AV) (k:Nat) (h:d≠some k):nth (.one .junk) (st.put d v).slots k=nth (.one .junk) st.slots k:=by
 cases d with
 | none=>rfl
 | some d =>
  have:d≠k:=fun e=>h (by rw[e])
  simp only[ASt.put,ag,a7,List.getElem?_set,this,if_false]
theorem A6 {d:Option Nat} {s t:ASt} (h:i7 d s t) {x:Operand} (hx:∀k,x=.tmp k->d≠some k):s.ev x=t.ev x:=by
 cases x with
 | tmp k=>exact h.2 k (hx k rfl)
 | const v=>cases v<;>rfl
 | _=>rfl
theorem eF {d:Option Nat} {s t:ASt} (h:i7 d s t) {l:List Operand} (hx:eZ d (ik l)=true):l.map s.ev=l.map t.ev:=by
 apply List.map_congr_left
 intro x hxl
 refine A6 h (fun k hk e=>?_)
 subst hk
 exact b9 hx k e (cb hxl)
theorem jf {d:Option Nat} {s t:ASt} {ops:List Oper} {o:Oper} (h:i7 d s t) (hx:eZ d (ng ops o)=true):aY ops o s=aY ops o t:=by
 unfold aY
 cases hg:o.guard with
 | none=>rfl
 | some q =>
  obtain⟨j,want⟩:=q
  simp only[]
  cases hd:(ops[j]?).bind (·.dst)with
  | none=>rfl
  | some g =>
   have:nth (.one .junk) s.slots g=nth (.one .junk) t.slots g:=h.2 g (fun e=>b9 hx g e (by simp[ng,hg,hd]))
   simp only[this]
theorem nU (n:Nat):∀(a b:List Nat),bC n (a++b)=(bC n a||bC n b)
 | [],b=>rfl
 | x::a,b=>by
  simp only[List.cons_append,bC]
  cases x.beq n<;>simp[nU n a b]
theorem aF {d:Option Nat} {a b:List Nat} (h:eZ d (a++b)=true):eZ d a=true/\eZ d b=true:=by
 cases d with
 | none=>exact⟨rfl,rfl⟩
 | some d =>
  simp only[eZ,nU,Bool.not_or,Ck]at h
  exact h
theorem cD {b:BC} {v:AV} {d:Option Tmp} (ha:(Eff.new b v).app st d=some st'):∃d',d=some d'/\st.look (st.nid d)=none/\st.nid d<st.boxes.length/\st'=(st.ac (st.nid d) (some b)).put d v:=by
 cases d with
 | none=>simp[Eff.app]at ha
 | some d =>
  simp only[Eff.app]at ha
  split at ha
  ·rename_i s1 hs1
   obtain⟨h1,h2,rfl⟩:=bc hs1
   simp only[Cj]at ha
   exact⟨d,rfl,h1,h2,ha.symm⟩
  ·cases ha
theorem kx {b:BC} {v:AV} {d:Tmp} (h1:st.look (st.nid (some d))=none) (h2:st.nid (some d)<st.boxes.length):(Eff.new b v).app st (some d)=some ((st.ac (st.nid (some d)) (some b)).put (some d) v):=by
 have h2':(st.nid (some d)).blt st.boxes.length=true:=by simpa using h2
 simp only[Eff.app,ASt.bm,h1,h2',cond_true]
theorem gx {e:Eff} {d:Option Nat} (hp:e.plain=true) (ha:e.app st d=some st'):i7 d st' st/\st'.boxes.length=st.boxes.length/\st'.out=st.out:=by
 cases e with
 | val v =>
  simp only[Eff.app,Cj]at ha
  subst ha
  refine⟨⟨?_,fun k hk=>fd st d v k hk⟩,by rw[bS],by rw[mC]⟩
  cases d<;>simp[ASt.put,ag]
 | new b v =>
  obtain⟨dd,rfl,hl,hlt,rfl⟩:=cD ha
  refine⟨⟨?_,fun k hk=>?_⟩,by rw[bS];simp[ASt.ac,ag],by rw[mC];rfl⟩
  ·simp[ASt.put,ASt.ac,ag]
  ·rw[fd _ _ _ _ hk];rfl
 | upd i b v =>
  simp only[Eff.app,Cj]at ha
  subst ha
  refine⟨⟨?_,fun k hk=>?_⟩,by rw[bS];simp[ASt.ac,ag],by rw[mC];rfl⟩
  ·cases d<;>simp[ASt.put,ASt.ac,ag]
  ·rw[fd _ _ _ _ hk];rfl
 | _=>simp[Eff.plain]at hp
inductive Move (c:Cls) (st:ASt):Eff->Prop
 | val (v:AV) (h:c=.N\/c=.R\/c=.B\/c=.P):Move c st (.val v)
 | new (b:BC) (v:AV) (h:c=.A\/c=.B\/c=.P):Move c st (.new b v)
 | upd (i:Nat) (b:BC) (v:AV) (h:c=.W) (hl:(st.look i).isSome=true):Move c st (.upd i b v)
theorem Move.nf {c:Cls} {e:Eff} (h:Move c st e):Move c st e.nfE:=by
 cases h with
 | val v h=>exact .val _ h
 | new b v h=>exact .new _ _ h
 | upd i b v h hl=>exact .upd _ _ _ h hl
theorem tJ {op:Op} {ban:List Nat} {vs:List AV} {e:Eff} (hx:(ap op).isX=false) (hp:e.plain=true) (hh:(opL E id (banned ban st.look) op vs).hits C e):Move (ap op) st e:=by
 cases hc:ap op with
 | N=>obtain⟨v,rfl⟩:=(xa hc vs).hits hh;exact .val v (.inl rfl)
 | R=>obtain⟨v,rfl⟩:=(zf hc vs).hits hh;exact .val v (.inr (.inl rfl))
 | A=>obtain⟨b,row,rfl⟩:=(cls_A hc vs).hits hh;exact .new b row (.inl rfl)
 | B =>
  rcases(cls_B hc vs).hits hh hp with⟨v,rfl⟩|⟨b,v,rfl⟩
  ·exact .val v (.inr (.inr (.inl rfl)))
  ·exact .new b v (.inr (.inl rfl))
 | P =>
  rcases(cls_P hc vs).hits hh hp with⟨v,rfl⟩|⟨b,v,rfl⟩
  ·exact .val v (.inr (.inr (.inr rfl)))
  ·exact .new b v (.inr (.inr rfl))
 | W =>
  obtain⟨i,b,v,rfl,hl⟩:=(zF hc vs).hits hh hp
  obtain⟨c,hc'⟩:=Option.isSome_iff_exists.1 hl
  exact .upd i b v rfl (by rw[nu ban st i c hc'];rfl)
 | X=>simp[hc,Cls.isX]at hx
theorem yp {a b:Nat} (h:a≠b):unlike (some a) (some b)=true:=by
 simp only[unlike,Bool.not_eq_true']
 cases hb:a.beq b with
 | false=>rfl
 | true=>exact absurd ((aG _ _).1 hb) h
theorem nQ {a b:Option Nat} (h:unlike a b=true):unlike b a=true:=by
 cases a with
 | none=>cases b<;>rfl
 | some p =>
  cases b with
  | none=>rfl
  | some q=>exact yp (fun e=>by subst e;simp[unlike]at h)
theorem eA (st:ASt) {d d':Option Nat} (h:unlike d d'=true) (u v:AV):(st.put d u).put d' v=(st.put d' v).put d u:=by
 cases d with
 | none=>rfl
 | some d =>
  cases d' with
  | none=>rfl
  | some d' =>
   have hne:d≠d':=fun e=>by subst e;simp[unlike]at h
   simp only[ASt.put,ag]
   rw[List.set_comm _ _ hne]
theorem fm (st:ASt) {i j:Nat} (h:i≠j) (b c:Option BC):(st.ac i b).ac j c=(st.ac j c).ac i b:=by
 simp only[ASt.ac,ag]
 rw[List.set_comm _ _ h]
theorem aW (st:ASt) (i:Nat) (b:Option BC) (d:Option Nat) (v:AV):(st.put d v).ac i b=(st.ac i b).put d v:=by cases d<;>rfl
theorem aZ (st:ASt) (d d':Option Tmp) (v:AV):(st.put d v).nid d'=st.nid d':=by cases d'<;>simp[ASt.nid,mC]
theorem ba (st:ASt) (i:Nat) (b:Option BC) (d':Option Tmp):(st.ac i b).nid d'=st.nid d':=by cases d'<;>rfl
theorem nid_ne {d d':Nat} (h:d≠d'):st.nid (some d)≠st.nid (some d'):=by simp only[ASt.nid];omega
theorem jI {e:Eff} {d:Option Nat} {c:Cls} (hm:Move c st e) (ha:e.app st d=some s1) :
  (∀j,(∃v,e=.val v)->s1.look j=st.look j)/\(∀j b row,e=.new b row->s1.look j=if st.nid d=j then some b else st.look j)/\(∀j i b v,e=.upd i b v->s1.look j=if i=j then some b else st.look j):=by
 refine⟨fun j ⟨v,hv⟩=>?_,fun j b row hb=>?_,fun j i b v hu=>?_⟩
 ·subst hv
  simp only[Eff.app,Cj]at ha
  subst ha
  rw[bW]
 ·subst hb
  obtain⟨dd,rfl,hl,hlt,rfl⟩:=cD ha
  rw[bW,ah]
  by_cases h:st.nid (some dd)=j
  ·subst h;simp[hlt]
  ·simp[h]
 ·subst hu
  simp only[Eff.app,Cj]at ha
  subst ha
  rw[bW,ah]
  cases hm with
  | upd _ _ _ _ hl =>
   obtain⟨c,hc⟩:=Option.isSome_iff_exists.1 hl
   by_cases h:i=j
   ·subst h;simp[fb hc]
   ·simp[h]
theorem lF {ban:List Nat} {s t:ASt} (h:∀j,j∉ban->s.look j=t.look j):banned ban s.look=banned ban t.look:=by
 funext j
 unfold banned
 cases hm:bC j ban with
 | true=>rfl
 | false=>simp only[cond_false];exact h j (fun e=>by rw[(bF _ _).2 e]at hm;cases hm)
theorem yS {cx cy:Cls} {dx dy:Option Nat} {ex ey:Eff} (hu:unlike dx dy=true) (mx:Move cx st ex) (my:Move cy s1 ey) (hx:ex.app st dx=some s1) (hy:ey.app s1 dy=some s2)
  (hb:∀i b v,ey=.upd i b v->(∃b row,ex=.new b row)->st.nid dx≠i) (hw:∀i b v i' b' v',ex=.upd i b v->ey=.upd i' b' v'->i≠i'):∃s1',ey.app st dy=some s1'/\ex.app s1' dx=some s2:=by
 cases mx with
 | val u hc =>
  simp only[Eff.app,Cj]at hx
  subst hx
  cases my with
  | val v hc' =>
   simp only[Eff.app,Cj]at hy
   subst hy
   exact⟨_,rfl,by simp only[Eff.app];rw[eA st hu]⟩
  | new b v hc' =>
   obtain⟨d,rfl,hl,hlt,rfl⟩:=cD hy
   rw[bW,aZ]at hl
   rw[bS,aZ]at hlt
   refine⟨_,kx hl hlt,?_⟩
   simp only[Eff.app,Cj]
   rw[aW,eA _ hu,aZ]
  | upd i b v hc' hl =>
   simp only[Eff.app,Cj]at hy
   subst hy
   refine⟨_,rfl,?_⟩
   simp only[Eff.app,Cj]
   rw[aW,eA _ hu]
 | new b u hc =>
  obtain⟨d,rfl,hl,hlt,rfl⟩:=cD hx
  have hlk:∀j,((st.ac (st.nid (some d)) (some b)).put (some d) u).look j=if st.nid (some d)=j then some b else st.look j:=fun j=>by
   rw[bW,ah]
   by_cases h:st.nid (some d)=j
   ·rw[if_pos ⟨h,hlt⟩,if_pos h]
   ·rw[if_neg (fun h'=>h h'.1),if_neg h]
  cases my with
  | val v hc' =>
   simp only[Eff.app,Cj]at hy
   subst hy
   refine⟨_,rfl,?_⟩
   rw[kx (by rw[bW,aZ];exact hl) (by rw[bS,aZ];exact hlt),aZ,aW,eA _ hu]
  | new b' v hc' =>
   obtain⟨d',rfl,hl',hlt',rfl⟩:=cD hy
   have hne:d≠d':=fun e=>by subst e;simp[unlike]at hu
   have hni:st.nid (some d)≠st.nid (some d'):=nid_ne hne
   rw[aZ,ba]at hl' hlt'
   rw[hlk,if_neg hni]at hl'
   have hlt2:st.nid (some d')<st.boxes.length:=by rw[bS]at hlt';simpa[ASt.ac,ag]using hlt'
   refine⟨_,kx hl' hlt2,?_⟩
   rw[kx (by rw[bW,aZ,ba,ah,if_neg (fun h=>hni h.1.symm)];exact hl) (by rw[bS,aZ,ba];simpa[ASt.ac,ag]using hlt)]
   rw[aZ,ba,aZ,ba,aW,aW,fm _ hni,eA _ (d:=some d) (d':=some d') hu]
  | upd i b' v hc' hl' =>
   simp only[Eff.app,Cj]at hy
   subst hy
   have hid:=hb i b' v rfl ⟨b,u,rfl⟩
   refine⟨_,rfl,?_⟩
   rw[kx (by rw[bW,aZ,ba,ah,if_neg (fun h=>hid h.1.symm)];exact hl) (by rw[bS,aZ,ba];simpa[ASt.ac,ag]using hlt)]
   rw[aZ,ba,aW,aW,fm _ hid,eA _ (d:=some d) (d':=dy) hu]
 | upd i b u hc hl =>
  simp only[Eff.app,Cj]at hx
  subst hx
  subst hc
  cases my with
  | val v hc' =>
   simp only[Eff.app,Cj]at hy
   subst hy
   refine⟨_,rfl,?_⟩
   simp only[Eff.app,Cj]
   rw[aW,eA _ hu]
  | new b' v hc' =>
   obtain⟨d',rfl,hl',hlt',rfl⟩:=cD hy
   rw[aZ,ba]at hl' hlt'
   rw[bW,ah]at hl'
   obtain⟨c,hc2⟩:=Option.isSome_iff_exists.1 hl
   have hlt2:st.nid (some d')<st.boxes.length:=by rw[bS]at hlt';simpa[ASt.ac,ag]using hlt'
   have hne:i≠st.nid (some d'):=fun e=>by rw[if_pos ⟨e,fb hc2⟩]at hl';cases hl'
   have hl3:st.look (st.nid (some d'))=none:=by
    rw[if_neg (fun h=>hne h.1)]at hl';exact hl'
   refine⟨_,kx hl3 hlt2,?_⟩
   simp only[Eff.app,Cj]
   rw[aZ,ba,aW,aW,fm _ hne,eA _ (d:=some d') (d':=dx) (nQ hu)]
  | upd i' b' v hc' hl' =>
   have hne:=hw i b u i' b' v rfl rfl
   simp only[Eff.app,Cj]at hy
   subst hy
   refine⟨_,rfl,?_⟩
   simp only[Eff.app,Cj]
   rw[aW,aW,fm _ hne,eA _ hu]
theorem tr {p:Prop} [Decidable p] {c d:Cls} (h:(if p then c else .N)=d) (hd:d≠.N):c=d:=by
 by_cases hp:p
 ·rwa[if_pos hp]at h
 ·rw[if_neg hp]at h;exact absurd h.symm hd
theorem mK {p:Prop} [Decidable p] {c:Cls} (h:(if p then c else .N)=.A\/(if p then c else .N)=.B\/(if p then c else .N)=.P):c.makes=true:=by
 rcases h with h|h|h<;>rw[tr h (by simp)]<;>rfl
theorem pC {ps:List Nat} {s t:ASt} {d:Option Nat} {e:Eff} (hb:s.base=t.base) (h:∀k,d=some k->nth (.one .junk) s.slots k=nth (.one .junk) t.slots k):cn ps s d e=cn ps t d e:=by
 unfold cn
 congr 1
 funext k
 cases d with
 | none=>rw[hb]
 | some d=>simp only[hb,h d rfl]
theorem ky {i:Item} {s t:ASt} {e:Eff} (hb:s.base=t.base) (hd:∀k,i.o.dst=some k->nth (.one .junk) s.slots k=nth (.one .junk) t.slots k) (h:i.o.op.operands.toList.map s.ev=i.o.op.operands.toList.map t.ev):cN i s e=cN i t e:=by
 unfold cN
 have:∀b,hH s i.o.dst b=hH t i.o.dst b:=fun b=>by
  cases hk:i.o.dst with
  | none=>rfl
  | some d=>simp only[hH,hd d hk]
 have hD:∀b,fF s i.o.dst b=fF t i.o.dst b:=fun b=>by
  cases hk:i.o.dst with
  | none=>rfl
  | some d=>simp only[fF,hd d hk]
 simp only[hb,h,this,hD]
theorem kC {a b:Option Nat} (h:unlike a b=true):∀k,b=some k->a≠some k:=fun k hk e=>by subst hk;subst e;simp[unlike]at h
theorem zU {ops : List Oper} {x y : Item} (hap : cf ops x.o y.o = true) (hxd : x.dr = true) (hyd : y.dr = true) (hxx : (ap x.o.op).isX = false) (hyx : (ap y.o.op).isX = false)
  (hbx:(ap x.o.op).makes=true->∀d,x.o.dst=some d->d∈y.ban.1) (hby:(ap y.o.op).makes=true->∀d,y.o.dst=some d->d∈x.ban.1)
  (hox:(ap y.o.op).reads=true->y.ban∈x.own) (hoy:(ap x.o.op).reads=true->x.ban∈y.own) (h1:OpP E C ops x st s1) (h2:OpP E C ops y s1 s2) :
  ∃s1',OpP E C ops y st s1'/\OpP E C ops x s1' s2:=by
 simp only[cf,Ck]at hap
 obtain⟨⟨⟨⟨hg,hfx⟩,hfy⟩,hu⟩,_⟩:=hap
 obtain⟨hfx1,hfx2⟩:=aF hfx
 obtain⟨hfy1,hfy2⟩:=aF hfy
 have hu':unlike y.o.dst x.o.dst=true:=nQ hu
 have dec:∀{i:Item} {s s':ASt},i.dr=true->(ap i.o.op).isX=false->OpP E C ops i s s'->∃e,(aY ops i.o s=some (some true)->cn i.push s i.o.dst e=true/\cN i s e=true)/\Move (if aY ops i.o s=some (some true)then ap i.o.op else .N) s e/\e.nfE.app s i.o.dst=some s' /\
   ((aY ops i.o s=some (some true)/\(opL E (s.nid i.o.dst) (banned (bn i.ban s.base) s.look) i.o.op (i.o.op.operands.toList.map s.ev)).hits C e/\(e.plain=true/\e.oE s.base i.own=true))\/(∃b,aY ops i.o s=some b/\b≠some true/\e=.val (.one .undef))):=by
  intro i s s' hd hx h
  rcases h with⟨hg,e,k1,k2,k3⟩|⟨b,hg,hb,h⟩
  ·refine⟨e,fun _=>(k2 hd).2,?_,k3,.inl ⟨hg,k1,(k2 hd).1⟩⟩
   rw[if_pos hg]
   exact tJ hx (k2 hd).1.1 k1
  ·refine⟨.val (.one .undef),fun h=>absurd (Option.some.inj (hg.symm.trans h)) hb,?_,?_,.inr ⟨b,hg,hb,rfl⟩⟩
   ·rw[if_neg (by rw[hg];simpa using hb)]
    exact .val _ (.inl rfl)
   ·rw[h];rfl
 obtain⟨ex,cx,mx,ax,hx⟩:=dec hxd hxx h1
 obtain⟨ey,cy,my,ay,hy⟩:=dec hyd hyx h2
 have px:ex.nfE.plain=true:=by rw[lR];cases mx<;>rfl
 have py:ey.nfE.plain=true:=by rw[lR];cases my<;>rfl
 obtain⟨sb1,_,so1⟩:=gx px ax
 have hb1:s1.base=st.base:=by simp[ASt.base,so1]
 have hn1:∀d,s1.nid d=st.nid d:=fun d=>by cases d<;>simp[ASt.nid,so1]
 have hgy:aY ops y.o s1=aY ops y.o st:=jf sb1 hfx1
 have hvy:y.o.op.operands.toList.map s1.ev=y.o.op.operands.toList.map st.ev:=eF sb1 hfx2
 have inO:∀{base:Nat} {own:List (List Nat × List Nat)} {ban:List Nat × List Nat} {i:Nat} {b:BC} {v:AV},Eff.oE base own (.upd i b v)=true->ban∈own->i∈bn ban base:=fun{base own ban i b v} h hm=>by
  simp only[Eff.oE,List.all_eq_true]at h
  exact(bF _ _).1 (h ban hm)
 have inBan:∀{d:Nat} {ban:List Nat × List Nat} {s:ASt},d∈ban.1->s.nid (some d)∈bn ban s.base:=fun{d ban s} h=>List.mem_append_left _ (List.mem_map.2 ⟨d,h,rfl⟩)
 have hW:∀i b v i' b' v',ex=.upd i b v->ey=.upd i' b' v'->i≠i':=by
  rintro i b v i' b' v' rfl rfl rfl
  rcases hx with⟨_,_,_,ho⟩|⟨_,_,_,he⟩
  ·rcases hy with⟨_,hh,_⟩|⟨_,_,_,he⟩
   ·have hWy:ap y.o.op=.W:=by
     cases my with
     | upd _ _ _ hc _=>exact tr hc (by simp)
    have hin:=inO ho (hox (by rw[hWy];rfl))
    obtain⟨i',b2,v2,he,hl⟩:=(zF hWy _).hits hh rfl
    cases he
    unfold banned at hl
    rw[hb1,(bF _ _).2 hin]at hl
    simp at hl
   ·cases he
  ·cases he
 have hban:∀i b v,ey=.upd i b v->(∃b row,ex=.new b row)->st.nid x.o.dst≠i:=by
  rintro i b v rfl ⟨b',row,rfl⟩ hd
  obtain⟨d,hdx,_⟩:=cD ax
  rcases hy with⟨_,hh,_⟩|⟨_,_,_,he⟩
  ·have hmk:(ap x.o.op).makes=true:=by
    cases mx with
    | new _ _ hc=>exact mK hc
   have hin:=inBan (s:=st) (hbx hmk d hdx)
   have hW:ap y.o.op=.W:=by
    cases my with
    | upd _ _ _ hc _=>exact tr hc (by simp)
   obtain⟨i',b2,v2,he,hl⟩:=(zF hW _).hits hh rfl
   cases he
   unfold banned at hl
   rw[hdx]at hd
   rw[hd]at hin
   rw[hb1,(bF _ _).2 hin]at hl
   simp at hl
  ·cases he
 have nfU:∀{e:Eff} {i b v},e.nfE=.upd i b v->∃v',e=.upd i b v':=fun{e i b v} h=>by
  cases e<;>simp only[Eff.nfE,Eff.upd.injEq,reduceCtorEq]at h
  obtain⟨rfl,rfl,_⟩:=h
  exact⟨_,rfl⟩
 have nfN:∀{e:Eff},(∃b v,e.nfE=.new b v)->∃b v,e=.new b v:=fun{e} ⟨b,v,h⟩=>by
  cases e<;>simp only[Eff.nfE,Eff.new.injEq,reduceCtorEq]at h
  exact⟨_,_,rfl⟩
 obtain⟨s1',ay',ax'⟩:=yS hu mx.nf my.nf ax ay (fun i b v hy hx=>by obtain⟨v',h⟩:=nfU hy;exact hban i b v' h (nfN hx))
  (fun i b v i' b' v' hx hy=>by obtain⟨u,h⟩:=nfU hx;obtain⟨u',h'⟩:=nfU hy;exact hW i b u i' b' u' h h')
 obtain⟨sb2,_,so2⟩:=gx py ay'
 have hb2:s1'.base=st.base:=by simp[ASt.base,so2]
 have hn2:∀d,s1'.nid d=st.nid d:=fun d=>by cases d<;>simp[ASt.nid,so2]
 have hgx:aY ops x.o s1'=aY ops x.o st:=jf sb2 hfy1
 have hvx:x.o.op.operands.toList.map s1'.ev=x.o.op.operands.toList.map st.ev:=eF sb2 hfy2
 have readsOf:∀{o:Op},(ap o).isX=false->¬(ap o=.N\/ap o=.A)->(ap o).reads=true:=fun{o} hx hf=>by
  cases hc:ap o with
  | N=>exact absurd (.inl hc) hf
  | A=>exact absurd (.inr hc) hf
  | X=>rw[hc]at hx;cases hx
  | _=>rfl
 refine⟨s1',?_,?_⟩
 ·rcases hy with⟨hgv,hh,hp⟩|⟨b,hgv,hb,rfl⟩
  ·rw [hgy] at hgv
   have hcl:cn y.push st y.o.dst ey=true/\cN y st ey=true:=by
    rw[<-pC hb1 (fun k hk=>sb1.2 k (kC hu k hk)),<-ky (s:=s1) hb1 (fun k hk=>sb1.2 k (kC hu k hk)) hvy]
    exact cy (by rw[hgy];exact hgv)
   refine .inl ⟨hgv,ey,?_,fun _=>⟨by rw[<-hb1];exact hp,hcl⟩,ay'⟩
   rw[hvy,hn1,hb1]at hh
   by_cases hfree:ap y.o.op=.N\/ap y.o.op=.A
   ·rw[sI hfree];exact hh
   ·have:banned (bn y.ban st.base) st.look=banned (bn y.ban st.base) s1.look:=by
     refine lF (fun j hj=>?_)
     obtain⟨l1,l2,l3⟩:=jI mx.nf ax
     cases mx with
     | val u hc=>exact(l1 j ⟨_,rfl⟩).symm
     | new b row hc =>
      have hmk:(ap x.o.op).makes=true:=mK hc
      rw[l2 j b _ rfl]
      obtain⟨d,hdx,_⟩:=cD ax
      split
      ·rename_i hd
       rw[hdx]at hd
       exact absurd (hd▸inBan (s:=st) (hbx hmk d hdx)) hj
      ·rfl
     | upd i b v hc hl =>
      rw[l3 j i b _ rfl]
      split
      ·rename_i hij
       subst hij
       rcases hx with⟨_,_,_,ho⟩|⟨_,_,_,he⟩
       ·exact absurd (inO ho (hox (readsOf hyx hfree))) hj
       ·cases he
      ·rfl
    rw[this];exact hh
  ·rw[hgy]at hgv
   refine .inr ⟨b,hgv,hb,?_⟩
   simp only[Eff.nfE,Eff.app,Cj]at ay'
   exact ay'.symm
 ·rcases hx with⟨hgv,hh,hp⟩|⟨b,hgv,hb,rfl⟩
  ·have hcl : cn x.push s1' x.o.dst ex = true ∧ cN x s1' ex = true := by
    rw[pC hb2 (fun k hk=>sb2.2 k (kC hu' k hk)),ky (s:=s1') hb2 (fun k hk=>sb2.2 k (kC hu' k hk)) hvx]
    exact cx hgv
   refine .inl ⟨by rw[hgx,hgv],ex,?_,fun _=>⟨by rw[hb2];exact hp,hcl⟩,ax'⟩
   rw[hvx,hn2,hb2]
   by_cases hfree:ap x.o.op=.N\/ap x.o.op=.A
   ·rw[sI hfree];exact hh
   ·have:banned (bn x.ban st.base) s1'.look=banned (bn x.ban st.base) st.look:=by
     refine lF (fun j hj=>?_)
     have my':Move (if aY ops y.o s1=some (some true)then ap y.o.op else .N) st ey:=by
      cases my with
      | val v hc=>exact .val v hc
      | new b row hc=>exact .new b row hc
      | upd i b v hc hl =>
       refine .upd i b v hc ?_
       obtain⟨l1,l2,l3⟩:=jI mx.nf ax
       cases mx with
       | val u hc=>rw[l1 i ⟨_,rfl⟩]at hl;exact hl
       | new b' row hc =>
        rw[l2 i b' _ rfl]at hl
        rw[if_neg (hban i b v rfl ⟨b',row,rfl⟩)]at hl
        exact hl
       | upd i' b' v' hc' hl' =>
        rw[l3 i i' b' _ rfl]at hl
        by_cases he:i'=i
        ·subst he;exact hl'
        ·rw[if_neg he]at hl;exact hl
     obtain⟨l1,l2,l3⟩:=jI my'.nf ay'
     cases my' with
     | val u hc=>exact l1 j ⟨_,rfl⟩
     | new b row hc =>
      have hmk:(ap y.o.op).makes=true:=mK hc
      rw[l2 j b _ rfl]
      obtain⟨d,hdy,_⟩:=cD ay'
      split
      ·rename_i hd
       rw[hdy]at hd
       exact absurd (hd▸inBan (s:=st) (hby hmk d hdy)) hj
      ·rfl
     | upd i b v hc hl =>
      rw[l3 j i b _ rfl]
      split
      ·rename_i hij
       subst hij
       rcases hy with⟨_,_,_,ho⟩|⟨_,_,_,he⟩
       ·rw[hb1]at ho
        exact absurd (inO ho (hoy (readsOf hxx hfree))) hj
       ·cases he
      ·rfl
    rw[this];exact hh
  ·refine .inr ⟨b,by rw[hgx,hgv],hb,?_⟩
   simp only[Eff.nfE,Eff.app,Cj]at ax'
   exact ax'.symm
end
end Go.Ab
end
section
namespace Go.Ab
open Go.RowKit
theorem oP {k:Nat} {l:List Nat}:(!bC k l)=true ↔ k∉l:=by
 rw[Bool.not_eq_true']
 constructor
 ·intro h hm
  rw[(bF _ _).2 hm]at h
  cases h
 ·intro h
  cases hb:bC k l with
  | false=>rfl
  | true=>exact absurd ((bF _ _).1 hb) h
theorem fk {k:Nat}:∀{l:List (Option BC)},eo k l=true ↔ ∀i b,nth none l i=some b->k∉b.lD
 | []=>by simp[eo,nth]
 | some c :: l => by
  simp only[eo,Ck,fk (l:=l),oP]
  constructor
  ·rintro⟨h1,h2⟩ i b hb
   cases i with
   | zero=>simp only[nth,Cj]at hb;subst hb;exact h1
   | succ i=>exact h2 i b hb
  ·intro h
   exact⟨h 0 c rfl,fun i b hb=>h (i+1) b hb⟩
 | none :: l => by
  simp only[eo,fk (l:=l)]
  constructor
  ·intro h2 i b hb
   cases i with
   | zero=>simp only[nth,reduceCtorEq]at hb
   | succ i=>exact h2 i b hb
  ·intro h i b hb
   exact h (i+1) b hb
section
variable {E:Env} {C:Cal} {st s1 s2:ASt} {d:Option Tmp} {e:Eff} {s m k:Nat} {y:TV}
theorem ya {ps:List Nat} (h:cn ps st d e=true) (hs:s∈ps):st.base+s∉dU e/\∀t,d=some t->st.base+s∉(nth (.one .junk) st.slots t).fY:=by
 unfold cn at h
 rw[List.all_eq_true]at h
 have:=h s hs
 rw[Ck]at this
 refine⟨oP.1 this.1,fun t ht=>?_⟩
 subst ht
 exact oP.1 this.2
end
section
variable {E:Env} {C:Cal} {st s1 s2:ASt} {x y:Item} {s:Nat}
theorem ma {o:Op} (h:aC o=some s):ap o=.P/\s∈ik o.operands.toList:=by
 unfold aC at h
 split at h
 ·rename_i l h1 h2
  simp only[Cj]at h
  subst h
  rw[h2]
  exact⟨h1,Co⟩
 ·cases h
theorem a8 {ops:List Oper} {o:Oper} (h:o.guard.isNone=true) (t:ASt):aY ops o t=some (some true):=by
 unfold aY
 rw[Option.isNone_iff_eq_none.1 h]
theorem OpP.step {ops:List Oper} (h:x.o.guard.isNone=true):OpP E C ops x st s1->wW E C x st s1
 | .inl ⟨_,h'⟩=>h'
 | .inr ⟨b,hb,hne,_⟩=>by rw[a8 h]at hb;exact absurd (Option.some.inj hb).symm hne
theorem Ag {ops:List Oper} (hap:cf ops x.o y.o=true) (hxs:x.shut=false) (hys:y.shut=false) (hxl:x.loose=false) (hyl:y.loose=false) (hxd:x.dr=true) (hyd:y.dr=true) (hxx:(ap x.o.op).isX=false) (hyx:(ap y.o.op).isX=false)
  (hbx:(ap x.o.op).makes=true->∀d,x.o.dst=some d->d∈y.ban.1) (hby:(ap y.o.op).makes=true->∀d,y.o.dst=some d->d∈x.ban.1)
  (hox:(ap y.o.op).reads=true->y.ban∈x.own) (hoy:(ap x.o.op).reads=true->x.ban∈y.own)
  (hpx:∀s,aC y.o.op=some s->y.root=jg ops 20 s/\y.root∈x.ban.1/\y.root∈x.push) (hpy:∀s,aC x.o.op=some s->x.root=jg ops 20 s/\x.root∈y.ban.1/\x.root∈y.push) (h1:OpN E C ops x st s1) (h2:OpN E C ops y s1 s2) :
  ∃s1',OpN E C ops y st s1'/\OpN E C ops x s1' s2:=by
 have hap':=hap
 simp only[cf,Ck]at hap'
 obtain⟨⟨⟨⟨hg,hfx⟩,hfy⟩,hu⟩,ha1,ha2⟩:=hap'
 rcases h1.parts hxd hxs hxl with p1|⟨g1,p1⟩
 ·rcases h2.parts hyd hys hyl with p2|⟨g2,p2⟩
  ·obtain⟨s1',q1,q2⟩:=zU hap hxd hyd hxx hyx hbx hby hox hoy p1 p2
   exact⟨s1',q1.toN hys,q2.toN hxs⟩
  ·exact absurd p2.choose_spec.2.1 Bool.false_ne_true
 ·exact absurd p1.choose_spec.2.1 Bool.false_ne_true
end
end Go.Ab
end

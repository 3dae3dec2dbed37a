import Derived.Test.YtpkpckdealhkhaaCM13
import Derived.OrdersIn
set_option linter.all false
section
namespace Go.Ab
open Go.RowKit
def Prg.All {R:Type} (p:R->Prop):Prg R->Prop
 | .fail=>True
 | .ret e=>p e
 | .tv _ k=>∀ v,(k v).All p
 | .tvs _ k=>∀ v,(k v).All p
 | .rws _ k=>∀ v,(k v).All p
 | .nat _ k=>∀ v,(k v).All p
 | .chk _ k=>k.All p
 | .ite _ t e=>t.All p/\e.All p
 | .call _ _ k=>∀ v,(k v).All p
 | .jmp _ _=>True
theorem Prg.All.hits {R:Type} {C:Cal} {p:R->Prop} {e:R}:∀ {o:Prg R},o.All p->o.hits C e->p e
 | .ret e',h,h'=>by cases h'; exact h
 | .tv _ k,h,⟨v,_,h'⟩=>(h v).hits h'
 | .tvs _ k,h,⟨v,_,h'⟩=>(h v).hits h'
 | .rws _ k,h,⟨v,_,h'⟩=>(h v).hits h'
 | .nat _ k,h,⟨v,_,h'⟩=>(h v).hits h'
 | .chk _ k,h,⟨_,h'⟩=>Prg.All.hits (o:=k) h h'
 | .ite _ t e,h,⟨v,_,.inl ⟨_,h'⟩⟩=>Prg.All.hits (o:=t) h.1 h'
 | .ite _ t e,h,⟨v,_,.inr ⟨_,h'⟩⟩=>Prg.All.hits (o:=e) h.2 h'
 | .call _ _ k,h,⟨v,_,h'⟩=>(h v).hits h'
section
variable {E:Env} {look look':Look} {p:Eff->Prop} {id:Nat}
theorem aC {b:Bool} {x y:Out} (hx:x.All p) (hy:y.All p):(bif b then x else y).All p:=by cases b <;> assumption
theorem jr {q:Way} {x:TV} {k:TV->Out} (h:∀ y,(k y).All p):(nR q x k).All p:=by
 unfold nR
 split
 ·exact h _
 ·exact h
theorem en {c:CA} {k:TV->Out} (h:∀ y,(k y).All p):(gk look c k).All p:=by
 unfold gk
 split
 ·exact h _
 ·split
  ·exact jr h
  ·exact trivial
 ·split
  ·exact jr fun y z=>h z
  ·exact trivial
 ·exact trivial
theorem lX {v:AV} {k:TV->Out} (h:∀ y,(k y).All p):(qi look v k).All p:=by
 unfold qi
 split
 ·exact en h
 ·exact h _
 ·exact h _
 ·exact trivial
theorem ra {c:CA} {k:TV->Out} (h:∀ y,(k y).All p):(o3 look c k).All p:=by
 unfold o3
 split
 ·exact h _
 ·exact en fun y=>h _
 ·exact en fun y=>h _
 ·exact trivial
theorem rJ {k:List TV->Out}:∀ {cs:List CA} {k:List TV->Out},(∀ y,(k y).All p)->(wt look cs k).All p
 | [],k,h=>h _
 | c :: cs,k,h=>ra fun y=>rJ (k:=fun _=>.fail) fun ys=>h _
theorem ye {v:AV} {k:TV->Out} (h:∀ y,(k y).All p):(oH look v k).All p:=by
 unfold oH
 split
 ·exact ra h
 ·exact h _
 ·exact rJ (k:=fun _=>.fail) fun ys=>h _
 ·exact trivial
 ·exact trivial
 ·exact h _
theorem mg:∀ {vs:List AV} {k:List TV->Out},(∀ y,(k y).All p)->(lends look vs k).All p
 | [],k,h=>h _
 | v :: vs,k,h=>ye fun y=>mg fun ys=>h _
theorem rH {c:CA} {k:TV->List (Nat × Nat)->Out} (h:∀ y r,(k y r).All p):(pS look c k).All p:=by
 unfold pS
 split
 ·exact h _ _
 ·split
  ·split
   ·exact h _ _
   ·exact fun y=>h _ _
  ·exact trivial
 ·split
  ·split
   ·exact fun y=>h _ _
   ·exact fun z y=>h _ _
  ·exact trivial
 ·exact trivial
theorem rY:∀ {cs:List CA} {k:List TV->List (Nat × Nat)->Out},(∀ y r,(k y r).All p)->(vZ look cs k).All p
 | [],k,h=>h _ _
 | c :: cs,k,h=>rH fun y r=>rY fun ys rs=>h _ _
theorem yg {v:AV} {k:TV->List (Nat × Nat)->Out} (h:∀ y r,(k y r).All p):(qz look v k).All p:=by
 unfold qz
 split
 ·exact rH h
 ·exact h _ _
 ·exact rY fun ys rs=>h _ _
 ·exact trivial
 ·exact trivial
 ·exact h _ _
theorem qX:∀ {vs:List AV} {k:List TV->List (Nat × Nat)->Out},(∀ y r,(k y r).All p)->(hands look vs k).All p
 | [],k,h=>h _ _
 | v :: vs,k,h=>yg fun y r=>qX fun ys rs=>h _ _
theorem dP:∀ {cs:List CA} {k:List TV->List Prim->List (Nat × Nat)->Out},(∀ y q r,(k y q r).All p)->(ci look cs k).All p
 | [],k,h=>h _ _ _
 | .t x :: l,k,h=>by
  simp only [ci]
  exact dP (cs:=l) fun xs ps ts=>h _ _ _
 | .sref i r q :: l, k, h => by
  simp only [ci]
  split
  ·split
   ·exact dP (cs:=l) fun xs ps ts=>h _ _ _
   ·exact fun y=>dP (cs:=l) fun xs ps ts=>h _ _ _
  ·exact trivial
 | .swin i r q lo len :: l, k, h => by
  simp only [ci]
  split
  ·split
   ·exact fun y=>dP (cs:=l) fun xs ps ts=>h _ _ _
   ·exact fun z y=>dP (cs:=l) fun xs ps ts=>h _ _ _
  ·exact trivial
 | .ptr _ _ :: l,k,h=>trivial
 | .ref _ _ :: l,k,h=>trivial
 | .tptr _ _ _ _ _ :: l,k,h=>trivial
 | .may _ _ :: l,k,h=>trivial
 | .aptr _ _ _ _ :: l,k,h=>trivial
 | .ifp _ _ :: l,k,h=>trivial
 | .fn1 _ _ :: l,k,h=>trivial
 | .psl _ _ :: l,k,h=>trivial
 | .yl _ :: l,k,h=>trivial
 | .undef :: l,k,h=>trivial
 | .junk :: l,k,h=>trivial
theorem df:∀ {cs:List CA} {k:List TV->List Prim->List (Nat × Nat)->Out},(∀ y q r,(k y q r).All p)->(bK look cs k).All p
 | [],k,h=>h _ _ _
 | .t x :: l,k,h=>by
  simp only [bK]
  exact df (cs:=l) fun xs ps ts=>h _ _ _
 | .sref i r q :: l, k, h => by
  simp only [bK]
  split
  ·split
   ·exact df (cs:=l) fun xs ps ts=>h _ _ _
   ·exact fun y=>⟨df (cs:=l) fun xs ps ts=>h _ _ _,fun x'=>df (cs:=l) fun xs ps ts=>h _ _ _⟩
  ·exact trivial
 | .swin i r q lo len :: l, k, h => by
  simp only [bK]
  split
  ·split
   ·exact fun y=>df (cs:=l) fun xs ps ts=>h _ _ _
   ·exact fun z y=>df (cs:=l) fun xs ps ts=>h _ _ _
  ·exact trivial
 | .ptr _ _ :: l,k,h=>trivial
 | .ref _ _ :: l,k,h=>trivial
 | .tptr _ _ _ _ _ :: l,k,h=>trivial
 | .may _ _ :: l,k,h=>trivial
 | .aptr _ _ _ _ :: l,k,h=>trivial
 | .ifp _ _ :: l,k,h=>trivial
 | .fn1 _ _ :: l,k,h=>trivial
 | .psl _ _ :: l,k,h=>trivial
 | .yl _ :: l,k,h=>trivial
 | .undef :: l,k,h=>trivial
 | .junk :: l,k,h=>trivial
theorem dl {agg:Bool} {n:Nat} {x:AV} {k:List CA->Out} (h:∀ cs,(k cs).All p):(x.aP agg n k).All p:=by
 unfold AV.aP
 split
 ·rename_i c; cases c.kept <;> first | exact trivial | exact h _
 ·exact h _
 ·exact h _
 ·exact h _
 ·rename_i cs; cases cs.length.beq n <;> first | exact trivial | exact h _
 ·exact h _
 ·exact trivial
theorem o0 {at_:Nat->Option (Nat × Bool × Nat)} {k:List CA->Out} (h:∀ cs,(k cs).All p):∀ (is:List Nat) (vs:List AV) (cs:List CA),(bJ at_ is vs cs k).All p
 | [],[],cs=>h cs
 | i :: is, x :: vs, cs => by
  simp only [bJ]
  split
  ·refine dl (fun ps=>?_)
   exact aC (o0 h is vs _) trivial
  ·exact trivial
 | [],_ :: _,cs=>trivial
 | _ :: _,[],cs=>trivial
theorem dR {v:Option AV} {k:Option Nat->Out} (h:∀ n,(k n).All p):(ek v k).All p:=by
 unfold ek
 split
 ·exact h _
 ·split
  ·exact fun v=>h _
  ·exact trivial
abbrev ew (e:Eff):Prop:=∃ v,e=.val v
abbrev jh (e:Eff):Prop:=∃ b v,e=.new b v
theorem u5 {d:TyD} {x:List TV} {off:Nat}:(iA d x off).All ew:=by
 unfold iA
 cases d.kd.isAgg
 ·exact ⟨_,rfl⟩
 ·exact ⟨_,rfl⟩
theorem rj:∀ {vs:List AV} {k:List CA->Out},(∀ cs,(k cs).All p)->(iI vs k).All p
 | [],k,h=>h _
 | v :: vs,k,h=>dl fun cs=>rj fun cs'=>h _
theorem rB {b k:Nat}:∀ {n:Nat},(wV b k n).All ew
 | 0=>trivial
 | n + 1=>⟨⟨_,rfl⟩,rB⟩
theorem wg {op:Op} (h:al op=.N) (vs:List AV):(opL E id look op vs).All ew:=by
 cases op with
 | move x=>rcases vs with _ | ⟨v,_ | ⟨v',r⟩⟩ <;> first | exact trivial | exact ⟨_,rfl⟩
 | assign x=>rcases vs with _ | ⟨v,_ | ⟨v',r⟩⟩ <;> first | exact trivial | exact ⟨_,rfl⟩
 | pick c x y =>
  rcases vs with _ | ⟨v,_ | ⟨v',_ | ⟨v'',_ | ⟨v3,r⟩⟩⟩⟩ <;> first | exact trivial | skip
  simp only [opL]
  split <;> first | exact trivial | exact ⟨_,rfl⟩ | exact ⟨⟨_,rfl⟩,⟨_,rfl⟩⟩
 | build t parts =>
  simp only [opL]
  split
  ·refine aC ?_ trivial
   refine o0 ?_ _ _ _
   exact fun cs=>⟨_,rfl⟩
  ·exact trivial
 | nilCheck x =>
  rcases vs with _ | ⟨v,_ | ⟨v',r⟩⟩ <;> first | exact trivial | skip
  simp only [opL]
  split <;> first | exact trivial | exact ⟨_,rfl⟩
 | unOp op xt x =>
  rcases vs with _ | ⟨v,_ | ⟨v',r⟩⟩ <;> first | exact trivial | skip
  simp only [opL]
  split
  ·exact ⟨_,rfl⟩
  ·split
   ·exact fun v=>⟨_,rfl⟩
   ·exact trivial
 | fieldAddr t x f =>
  rcases vs with _ | ⟨v,_ | ⟨v',r⟩⟩ <;> first | exact trivial | skip
  simp only [opL]
  split
  ·split
   ·refine aC ?_ trivial
    split <;> first | exact trivial | exact ⟨_,rfl⟩
   ·exact trivial
  ·exact trivial
 | field t x f =>
  rcases vs with _ | ⟨v,_ | ⟨v',r⟩⟩ <;> first | exact trivial | skip
  simp only [opL]
  split
  ·split
   ·unfold tp
    split
    ·split
     ·split <;> first | exact trivial | exact ⟨_,rfl⟩
     ·exact trivial
    ·exact ⟨_,rfl⟩
    ·exact trivial
   ·exact trivial
  ·exact trivial
 | index t x y =>
  rcases vs with _ | ⟨v,_ | ⟨v',_ | ⟨v'',r⟩⟩⟩ <;> first | exact trivial | skip
  simp only [opL]
  split
  ·exact fun v=>⟨_,rfl⟩
  ·unfold nU
   split
   ·split
    ·refine aC ?_ trivial
     split
     ·exact fun k v=>⟨_,rfl⟩
     ·exact trivial
    ·exact trivial
   ·exact trivial
 | extract x j =>
  rcases vs with _ | ⟨v,_ | ⟨v',r⟩⟩ <;> first | exact trivial | skip
  simp only [opL]
  split
  ·split
   ·split <;> first | exact trivial | exact ⟨_,rfl⟩
   ·exact trivial
  ·exact trivial
 | makeFunc fn first cap =>
  cases fn with
  | func f =>
   simp only [opL]
   exact aC (rj fun cs=>⟨_,rfl⟩) trivial
  | _=>exact trivial
 | call c =>
  obtain ⟨callee,args,tys⟩:=c
  cases callee with
  | builtin b=>cases b <;> simp [al] at h
  | value f=>cases f <;> simp [al] at h
  | invoke r m=>simp [al] at h
 | makeInterface t x =>
  rcases vs with _ | ⟨v,_ | ⟨v',r⟩⟩ <;> first | exact trivial | skip
  simp only [opL]
  split
  ·unfold yu
   refine aC ?_ trivial
   split
   ·exact ⟨_,rfl⟩
   ·split
    ·exact fun v=>⟨_,rfl⟩
    ·exact trivial
  ·exact trivial
 | typeAssert x xt t ok =>
  rcases vs with _ | ⟨v,_ | ⟨v',r⟩⟩ <;> cases ok <;> first | exact trivial | skip
  simp only [opL]
  split
  ·unfold rk
   refine aC ?_ trivial
   split
   ·exact fun v=>⟨_,rfl⟩
   ·exact trivial
  ·exact trivial
 | _=>simp [al] at h
theorem yS {op:Op} (h:al op=.R) (vs:List AV):(opL E id look op vs).All ew:=by
 cases op with
 | load t x =>
  rcases vs with _ | ⟨v,_ | ⟨v',r⟩⟩ <;> first | exact trivial | skip
  simp only [opL]
  split
  ·unfold wR
   split
   ·refine aC trivial ?_
    split
    ·exact fun v=>⟨_,rfl⟩
    ·exact trivial
   ·split
    ·split
     ·split
      ·exact ⟨_,rfl⟩
      ·exact trivial
     ·exact trivial
    ·exact trivial
   ·exact u5
   ·split
    ·refine jr (fun s e=>?_)
     simp only [Prg.All]
     split
     ·exact ⟨_,rfl⟩
     ·exact trivial
    ·exact trivial
   ·exact trivial
  ·exact trivial
 | convert xt dt x =>
  rcases vs with _ | ⟨v,_ | ⟨v',r⟩⟩ <;> first | exact trivial | skip
  simp only [opL]
  split
  ·unfold ws
   split
   ·exact trivial
   ·split
    ·exact fun v=>⟨_,rfl⟩
    ·exact trivial
  ·exact trivial
 | binOp op xt x y yt =>
  rcases vs with _ | ⟨v,_ | ⟨v',_ | ⟨v'',r⟩⟩⟩ <;> first | exact trivial | skip
  simp only [opL]
  split
  ·unfold Bo
   split
   ·split
    ·refine dl fun cs=>dl fun cs'=>?_
     split
     ·exact fun v=>⟨_,rfl⟩
     ·exact trivial
    ·exact trivial
   ·unfold Bq
    split
    ·exact ⟨_,rfl⟩
    ·exact ⟨_,rfl⟩
    ·exact trivial
   unfold Bu
   refine aC (lX fun x=>lX fun y=>fun v=>⟨_,rfl⟩) ?_
   split
   ·exact fun v=>⟨_,rfl⟩
   ·exact trivial
  ·exact trivial
 | slice t x lo hi mx =>
  have sl:∀ {kd:Kd} {sz:Nat} {x:AV} {lo hi:Option AV},(gp look kd sz x lo hi).All ew:=by
   intro kd sz x lo hi
   unfold gp
   split
   ·exact dR fun lo=>dR fun hi=>fun v=>⟨_,rfl⟩
   ·split
    ·exact en fun s n=>dR fun lo=>dR fun hi=>⟨_,rfl⟩
    ·split
     ·exact en fun s=>dR fun hi=>⟨_,rfl⟩
     ·exact en fun s=>dR fun lo=>dR fun hi=>⟨_,rfl⟩
    ·exact trivial
  cases mx with
  | some m=>rcases vs with _ | ⟨v,r⟩ <;> exact trivial
  | none =>
   rcases vs with _ | ⟨v,r⟩
   ·exact trivial
   ·simp only [opL]
    split
    ·split
     ·split <;> first | exact trivial | exact sl
     ·exact trivial
    ·exact trivial
 | indexAddr t x y =>
  rcases vs with _ | ⟨v,_ | ⟨v',_ | ⟨v'',r⟩⟩⟩ <;> first | exact trivial | skip
  simp only [opL]
  split
  ·unfold mw
   split
   ·split
    ·exact fun v=>⟨_,rfl⟩
    ·split
     ·exact en fun s n k=>⟨_,rfl⟩
     ·exact en fun s k=>⟨_,rfl⟩
     ·exact aC (fun k=>rB) trivial
     ·exact trivial
   ·exact trivial
  ·unfold oq
   split
   ·split
    ·exact aC (fun k=>⟨_,rfl⟩) trivial
    ·exact trivial
   ·exact trivial
 | call c =>
  obtain ⟨callee,args,tys⟩:=c
  cases callee with
  | builtin b =>
   have mn:∀ {mx:Bool} {x y:AV},(ui mx x y).All ew:=by
    intro mx x y
    unfold ui
    split
    ·exact fun v=>⟨_,rfl⟩
    ·exact trivial
   cases b <;> simp [al] at h
   all_goals simp only [opL]
   all_goals unfold cY
   all_goals split <;> first | exact trivial | exact mn | contradiction | skip
   split
   ·unfold uB
    split
    ·exact ⟨_,rfl⟩
    ·split
     ·exact ⟨_,rfl⟩
     ·exact lX fun s v=>⟨_,rfl⟩
    ·exact lX fun s v=>⟨_,rfl⟩
   ·exact trivial
  | value f=>cases f <;> simp [al] at h
  | invoke r m=>simp [al] at h
 | _=>simp [al] at h
theorem cls_A {op:Op} (h:al op=.A) (vs:List AV):(opL E id look op vs).All jh:=by
 cases op with
 | alloc t =>
  rcases vs with _ | ⟨v,r⟩ <;> first | exact trivial | skip
  simp only [opL]
  split
  ·exact ⟨_,_,rfl⟩
  ·exact trivial
 | box t x =>
  rcases vs with _ | ⟨v,_ | ⟨v',r⟩⟩ <;> first | exact trivial | skip
  simp only [opL]
  split
  ·exact dl (fun cs=>⟨_,_,rfl⟩)
  ·exact trivial
 | makeSlice t x y =>
  rcases vs with _ | ⟨v,_ | ⟨v',_ | ⟨v'',r⟩⟩⟩ <;> first | exact trivial | skip
  simp only [opL]
  split
  ·refine aC ?_ trivial
   exact fun n m=>⟨_,_,rfl⟩
  ·exact trivial
 | call c =>
  obtain ⟨callee,args,tys⟩:=c
  cases callee with
  | builtin b=>cases b <;> simp [al] at h
  | value f=>cases f <;> simp [al] at h
  | invoke r m=>simp [al] at h
 | _=>simp [al] at h
theorem gL {ps:List Prim} {b:BC} {v:AV}:(ck ps b v).plain=true->ew (ck ps b v)\/jh (ck ps b v):=by
 cases ps with
 | nil=>exact fun _=>.inr ⟨_,_,rfl⟩
 | cons q l=>exact fun h=>by cases h
theorem rq {ps:List Prim} {v:AV}:(match ps with | []=>Eff.val v | _=>.gen ps v).plain=true->ew (match ps with | []=>Eff.val v | _=>.gen ps v)\/jh (match ps with | []=>Eff.val v | _=>.gen ps v):=by
 cases ps with
 | nil=>exact fun _=>.inl ⟨_,rfl⟩
 | cons q l=>exact fun h=>by cases h
theorem qm {d:TyD} {x:TV} {k:Out} (h:k.All p):(mF d x k).All p:=by
 unfold mF
 exact aC h h
theorem nI {x:TV} {k:Out} (h:k.All p):∀ (ds:List TyD) (j:Nat),(kn x ds j k).All p
 | [],j=>h
 | d :: ds,j=>qm (nI h ds (j + 1))
theorem uG {ds:List TyD} {v:TV} {ps:List Prim}:(xD id ds v ps).All fun e=>e.plain=true->ew e\/jh e:=by
 have many:∀ ds:List TyD,(Prg.chk (v.isTup ds.length) (kn v ds 0 (bif im ds then .ret (ck ps (.tree (aY v ds 0)) (.tups (cZ id v ds 0 0)))
   else .ret (match ps with | []=>.val (.tups (cZ id v ds 0 0)) | _=>.gen ps (.tups (cZ id v ds 0 0)))))).All fun e=>e.plain=true->ew e\/jh e:=by
  intro ds
  refine nI ?_ ds 0
  exact aC gL rq
 match ds with
 | []=>exact many []
 | [d] =>
  simp only [xD]
  refine qm ?_
  split
  ·exact aC gL rq
  ·exact trivial
 | d :: d' :: l=>exact many _
theorem xC {f:FuncId} {ld:gK} {vs:List AV}:(t8 E id look f ld vs).All fun e=>e.plain=true->ew e\/jh e:=by
 exact trivial
theorem xh {f:FuncId} {c:Nat × Nat} {vs:List AV}:(uo look f c vs).All fun e=>e.plain=true->ew e\/jh e:=by
 exact trivial
theorem xB {f:FuncId} {vs:List AV}:(oM look f vs).All fun e=>e.plain=true->ew e\/jh e:=by
 exact trivial
theorem Au {f:FuncId} {i:Nat} {vs:List AV}:(yT E id look f i vs).All fun e=>e.plain=true->ew e\/jh e:=by
 exact trivial
theorem cls_B {op:Op} (h:al op=.B) (vs:List AV):(opL E id look op vs).All fun e=>e.plain=true->ew e\/jh e:=by
 cases op with
 | buildSlice t len parts =>
  simp only [opL]
  refine aC ?_ ?_
  ·exact trivial
  unfold gd
  split
  ·refine o0 (fun cs=>?_) _ _ _
   refine aC (fun _=>.inr ⟨_,_,rfl⟩) ?_
   refine df fun ys qs ts=>?_
   exact aC gL trivial
  ·exact trivial
 | call c =>
  obtain ⟨callee,args,tys⟩:=c
  cases callee with
  | builtin b=>cases b <;> simp [al] at h
  | value f =>
   cases f with
   | func f =>
    rcases vs with _ | ⟨v,r⟩
    ·exact trivial
    ·simp only [opL,kw]
     refine aC xB (aC trivial ?_)
     split
     ·exact xh
     split
     ·exact xC
     ·split
      ·refine aC ?_ ?_
       ·exact mg fun xs=>fun v=>uG
       ·exact qX fun xs rs=>aC (fun v=>uG) trivial
      ·exact trivial
   | tmp t =>
    rcases vs with _ | ⟨v,r⟩
    ·exact trivial
    ·simp only [opL]
     split
     ·exact fun f=>mg fun xs v=>fun _=>.inl ⟨_,rfl⟩
     ·split
      ·exact Au
      ·exact trivial
   | _=>simp [al] at h
  | invoke r m=>simp [al] at h
 | _=>simp [al] at h
abbrev isUpd (look:Look) (e:Eff):Prop:=∃ i b v,e=.upd i b v/\(look i).isSome=true
theorem zr {op : Op} (h : al op = .W) (vs : List AV) : (opL E id look op vs).All fun e => e.plain = true → isUpd look e := by
 cases op with
 | store t x y =>
  rcases vs with _ | ⟨v,_ | ⟨v',_ | ⟨v'',r⟩⟩⟩ <;> first | exact trivial | skip
  simp only [opL]
  split
  ·unfold ta
   split
   ·refine aC trivial ?_
    split
    ·rename_i cs xs hrow
     refine dl (fun ps=>?_)
     split
     ·exact fun _=>⟨_,_,_,rfl,by simp [(gB hrow).1]⟩
     ·exact trivial
    ·exact trivial
   ·refine dl (fun ps=>?_)
    split
    ·rename_i cs hl
     exact aC (fun _=>⟨_,_,_,rfl,by simp [hl]⟩) trivial
    ·exact trivial
   ·refine dl (fun ps=>?_)
    split
    ·refine aC trivial (aC ?_ ?_)
     ·refine dP fun ys qs ts=>aC ?_ trivial
      exact jr fun s e=>fun x' hp=>by cases hp
     ·refine dP fun ys qs ts=>?_
      split
      ·refine aC ?_ trivial
       refine jr fun s e=>?_
       simp only [Prg.All]
       intro x'
       split
       ·rename_i b hb
        refine fun _=>⟨_,_,_,rfl,?_⟩
        unfold bR at hb
        split at hb
        ·rename_i hl; simp [hl]
        ·cases hb
       ·exact trivial
      ·exact trivial
    ·exact trivial
   ·exact trivial
  ·exact trivial
 | call c =>
  obtain ⟨callee,args,tys⟩:=c
  cases callee with
  | builtin b=>cases b <;> simp [al] at h
  | value f=>cases f <;> simp [al] at h
  | invoke r m=>simp [al] at h
 | _=>simp [al] at h
theorem uv {d:TyD} {s:AV} {news:List (List TV)} {ps:List Prim}:(lA id look d s news ps).All fun e=>e.plain=true->ew e\/jh e:=by
 unfold lA
 split
 ·exact aC (fun y=>gL) trivial
 ·split
  ·split
   ·split
    ·exact fun y h=>by cases h
    ·exact fun z y x' h=>by cases h
   ·exact trivial
  ·split
   ·split
    ·exact fun z y h=>by cases h
    ·exact fun z0 z y x' h=>by cases h
   ·exact trivial
  ·exact trivial
theorem zR {d:TyD} {dest:Option Nat} {x:AV} {k:List (List TV)->List Prim->Out} (h:∀ xs ps,(k xs ps).All p):(tO look d dest x k).All p:=by
 unfold tO
 split
 ·exact fun xs=>h _ _
 ·split
  ·refine aC ?_ ?_
   ·split
    ·split
     ·split
      ·exact aC trivial (fun xs=>h _ _)
      ·exact fun y=>fun xs=>h _ _
     ·exact trivial
    ·split
     ·split
      ·exact aC trivial (fun y xs=>h _ _)
      ·exact fun z y=>fun xs=>h _ _
     ·exact trivial
    ·exact trivial
   ·exact en (fun s xs=>h _ _)
  ·exact trivial
theorem cls_P {op:Op} (h:al op=.P) (vs:List AV):(opL E id look op vs).All fun e=>e.plain=true->ew e\/jh e:=by
 cases op with
 | call c =>
  obtain ⟨callee,args,tys⟩:=c
  cases callee with
  | builtin b =>
   cases b <;> simp [al] at h
   simp only [opL]
   unfold cY
   split <;> try (first | exact trivial | contradiction)
   split
   ·refine aC ?_ ?_
    ·unfold lg
     exact aC (zR (fun xs ps=>uv)) trivial
    ·split
     ·exact trivial
     ·exact trivial
   ·exact trivial
  | value f=>cases f <;> simp [al] at h
  | invoke r m=>simp [al] at h
 | _=>simp [al] at h
theorem qZ {op:Op} (h:al op=.N\/al op=.A) (vs:List AV):opL E id look op vs=opL E id look' op vs:=by
 cases op <;> first
  | (rcases vs with _ | ⟨a,_ | ⟨b,_ | ⟨c,_ | ⟨d,r⟩⟩⟩⟩ <;> rfl)
  | (simp [al] at h; done)
  | (rename_i fn _ _; cases fn <;> rfl)
  | (rename_i ok; cases ok <;> rcases vs with _ | ⟨a,_ | ⟨b,r⟩⟩ <;> rfl)
  | skip
 all_goals
  rename_i c
  obtain ⟨callee,args,tys⟩:=c
  cases callee with
  | builtin b=>cases b <;> simp [al] at h
  | value f=>cases f <;> simp [al] at h
  | invoke r m=>simp [al] at h
end
end Go.Ab
end
section
namespace Go.Ab
open Go.RowKit
def Prg.goes {R:Type} (C:Cal) (J:List Nat->ASt->R->Prop):Prg R->R->Prop
 | .fail,_=>False
 | .ret e',e=>e'=e
 | .tv p k,e=>∃ v,p=some v/\(k v).goes C J e
 | .tvs p k,e=>∃ v,p=some v/\(k v).goes C J e
 | .rws p k,e=>∃ v,p=some v/\(k v).goes C J e
 | .nat p k,e=>∃ v,p=some v/\(k v).goes C J e
 | .chk b k,e=>b=true/\k.goes C J e
 | .ite b t f,e=>∃ v,b=some v/\((v=true/\t.goes C J e)\/(v=false/\f.goes C J e))
 | .call f xs k,e=>∃ v,C f xs v/\(k v).goes C J e
 | .jmp p st,e=>J p st e
theorem Prg.dw {R S:Type} {C:Cal} {J:List Nat->ASt->S->Prop} {f:R->Prg S} {r:S}:∀ {p:Prg R},(p.bind f).goes C J r->∃ e,p.hits C e/\(f e).goes C J r
 | .fail,h=>h.elim
 | .ret e,h=>⟨e,rfl,h⟩
 | .tv p k,⟨v,h1,h⟩=>by obtain ⟨e,h2,h3⟩:=Prg.dw h; exact ⟨e,⟨v,h1,h2⟩,h3⟩
 | .tvs p k,⟨v,h1,h⟩=>by obtain ⟨e,h2,h3⟩:=Prg.dw h; exact ⟨e,⟨v,h1,h2⟩,h3⟩
 | .rws p k,⟨v,h1,h⟩=>by obtain ⟨e,h2,h3⟩:=Prg.dw h; exact ⟨e,⟨v,h1,h2⟩,h3⟩
 | .nat p k,⟨v,h1,h⟩=>by obtain ⟨e,h2,h3⟩:=Prg.dw h; exact ⟨e,⟨v,h1,h2⟩,h3⟩
 | .chk b k,⟨h1,h⟩=>by obtain ⟨e,h2,h3⟩:=Prg.dw (p:=k) h; exact ⟨e,⟨h1,h2⟩,h3⟩
 | .ite b t f,⟨v,h1,.inl ⟨h2,h⟩⟩=>by obtain ⟨e,h3,h4⟩:=Prg.dw (p:=t) h; exact ⟨e,⟨v,h1,.inl ⟨h2,h3⟩⟩,h4⟩
 | .ite b t f,⟨v,h1,.inr ⟨h2,h⟩⟩=>by obtain ⟨e,h3,h4⟩:=Prg.dw (p:=f) h; exact ⟨e,⟨v,h1,.inr ⟨h2,h3⟩⟩,h4⟩
 | .call f xs k,⟨v,h1,h⟩=>by obtain ⟨e,h2,h3⟩:=Prg.dw h; exact ⟨e,⟨v,h1,h2⟩,h3⟩
 | .jmp _ _,h=>h.elim
section
variable {P:Program} {E:Env} {C:Cal} {w0:Bs} {w w':World} {I0 I R:Nat->Prop} {g g':Gh} {st st' s1 s2:ASt} {a:Act} {ov:List Value} {look:Look} {Q:Exit->Act->World->Prop} {id:Nat}
def uE (E:Env) (C:Cal) (i:Item) (s s':ASt):Prop:=∃ e,(opL E (s.nid i.o.dst) (banned (bd i.ban s.base) s.look) i.o.op (i.o.op.operands.toList.map s.ev)).hits C e /\
 (i.dr=true->okE i s e=true)/\e.nfE.app s i.o.dst=some s'
def wL (E:Env) (C:Cal) (i:Item) (s s':ASt):Prop:=∃ e,(opL E (s.nid i.o.dst) (banned (bd i.ban s.base) s.look) i.o.op (i.o.op.operands.toList.map s.ev)).hits C e /\
 (i.dr=true->(e.plain=true/\e.nP s.base i.own=true)/\(cb i.push s i.o.dst e=true/\cD i s e=true))/\e.nfE.app s i.o.dst=some s'
def pZ (E:Env) (C:Cal) (i:Item) (s s':ASt):Prop:=∃ e,(opL E (s.nid i.o.dst) (banned (bd i.ban s.base) s.look) i.o.op (i.o.op.operands.toList.map s.ev)).hits C e /\
 iC i s e=true/\e.nfE.app s i.o.dst=some s'
def OpN (E:Env) (C:Cal) (ops:List Oper) (i:Item) (s s':ASt):Prop :=
 (aQ ops i.o s=some (some true)/\uE E C i s s')\/(∃ b,aQ ops i.o s=some b/\b≠some true/\s'=cQ i.o s)
def OpP (E:Env) (C:Cal) (ops:List Oper) (i:Item) (s s':ASt):Prop :=
 (aQ ops i.o s=some (some true)/\wL E C i s s')\/(∃ b,aQ ops i.o s=some b/\b≠some true/\s'=cQ i.o s)
theorem wL.toN {i:Item} (hsh:i.shut=false) {s s':ASt}:wL E C i s s'->uE E C i s s':=fun ⟨e,h1,h2,h3⟩=>⟨e,h1,fun hd=>by obtain ⟨⟨a,b⟩,c,d⟩:=h2 hd; simp only [okE,a,b,c,d,hsh,Bool.and_self,cond_false,Bool.true_or,Bool.or_true],h3⟩
theorem pZ.toN {i:Item} {s s':ASt}:pZ E C i s s'->uE E C i s s':=fun ⟨e,h1,h2,h3⟩=>⟨e,h1,fun hd=>by simp only [okE,h2,Bool.or_true],h3⟩
theorem OpP.toN {ops:List Oper} {i:Item} (hsh:i.shut=false) {s s':ASt}:OpP E C ops i s s'->OpN E C ops i s s'
 | .inl ⟨h,h'⟩=>.inl ⟨h,h'.toN hsh⟩
 | .inr h=>.inr h
theorem OpN.parts {ops:List Oper} {i:Item} {s s':ASt} (hd:i.dr=true) (hsh:i.shut=false) (hlo:i.loose=false):OpN E C ops i s s'->OpP E C ops i s s'\/(aQ ops i.o s=some (some true)/\pZ E C i s s')
 | .inr h=>.inl (.inr h)
 | .inl ⟨h, e, h1, h2, h3⟩ => by
  have h2:=h2 hd
  unfold okE at h2
  rw [hlo,hsh,Bool.false_and,Bool.false_or,Bool.or_eq_true] at h2
  rcases h2 with h2 | h2
  ·simp only [cond_false,Ca] at h2
   exact .inl (.inl ⟨h,e,h1,fun _=>h2,h3⟩)
  ·exact .inr ⟨h,e,h1,h2,h3⟩
theorem xP {i:Item} {s:ASt} {e:Eff} (h:okE i s e.nfE=true):okE i s e=true:=by
 unfold okE at h ⊢
 rw [Bool.or_eq_true] at h ⊢
 rcases h with h | h
 ·refine .inl ?_
  have:bY i s e.nfE=bY i s e:=by unfold bY; simp only [mG,vq,qh]
  rwa [this] at h
 refine .inr ?_
 rw [Bool.or_eq_true] at h ⊢
 rcases h with h | h
 ·rw [lk,uK] at h
  have:cb i.push s i.o.dst e.nfE=cb i.push s i.o.dst e:=by unfold cb; rw [bW]
  rw [this] at h
  have e2:fx i s e.nfE=fx i s e:=by unfold fx; rw [iS,bW]
  have e3:cD i s e.nfE=cD i s e:=by unfold cD; rw [bW,nE]
  rw [e2,e3] at h
  exact .inl h
 ·exact nomatch h
inductive xw (E:Env) (C:Cal) (ops:List Oper):List Item->ASt->ASt->Prop
 | nil (s:ASt):xw E C ops [] s s
 | cons {i:Item} {l:List Item} {s s1 s':ASt} (h:OpN E C ops i s s1) (r:xw E C ops l s1 s'):xw E C ops (i :: l) s s'
theorem m9 {v:TV} {b:Bool} (h:asBool v=some b):v=.lit (.bool b):=by
 unfold asBool at h
 split at h
 ·simp only [B9] at h; subst h; rfl
 ·cases h
theorem vx {T:Type} {J:List Nat->ASt->T->Prop} {i:Item} {K:ASt->Prg T} {r:T} (h:(kv E i K st).goes C J r):∃ st1,uE E C i st.nfS st1.nfS/\(K st1).goes C J r:=by
 unfold kv at h
 obtain ⟨e,h1,h2⟩:=Prg.dw h
 obtain ⟨e',h3,h4⟩:=opL_nf h1
 unfold effQ at h2
 cases hc:i.dr && !(okE i st e) with
 | true=>rw [hc] at h2; exact h2.elim
 | false =>
  rw [hc] at h2
  simp only [cond_false] at h2
  split at h2
  ·rename_i st1 ha
   refine ⟨st1,⟨e',?_,fun hd=>?_,?_⟩,h2⟩
   ·have:i.o.op.operands.toList.map st.nfS.ev=(i.o.op.operands.toList.map st.ev).map AV.nf:=by
     rw [List.map_map]
     apply List.map_congr_left
     intro x _
     exact oW st x
    rw [this,sR,lv,jB]
    exact h3
   ·refine xP ?_
    rw [h4]
    exact okE_nf (by simpa [hd] using hc)
   ·rw [h4]
    exact app_nf ha
  ·exact h2.elim
theorem nh {g:Nat} {v v':AV} (h:nth (.one .junk) st.slots g=v) (hv:v.nf=v'.nf):(st.put (some g) v').nfS=st.nfS:=by
 rw [iY]
 simp only [ASt.put]
 have:ai st.nfS.slots g v'.nf=st.nfS.slots:=by
  rw [ag]
  apply List.ext_getElem?
  intro t
  rw [List.getElem?_set]
  by_cases ht:g=t
  ·subst ht
   cases hs:st.slots[g]? with
   | none =>
    have:st.nfS.slots[g]? = none:=by simp [ASt.nfS,hs]
    have hlt:¬ g < st.nfS.slots.length:=by
     intro hlt
     rw [B8 hlt] at this
     cases this
    simp [hlt]
   | some u =>
    rw [bw hs] at h
    subst h
    have hlt:g < st.nfS.slots.length:=by simp [ASt.nfS]; exact (B7.1 hs).1
    simp only [if_true,hlt]
    rw [<- hv]
    simp [ASt.nfS,hs]
  ·simp [ht]
 rw [this]
theorem jJ {T:Type} {J:List Nat->ASt->T->Prop} {ops:List Oper} {i:Item} {K:ASt->Prg T} {r:T} (h:(opQ E ops i K st).goes C J r):∃ st1,OpN E C ops i st.nfS st1.nfS/\(K st1).goes C J r:=by
 unfold opQ at h
 have skip:∀ {s:ASt} {b:Option Bool},s.nfS=st.nfS->aQ ops i.o st.nfS=some b->b≠some true->(K (cQ i.o s)).goes C J r->∃ st1,OpN E C ops i st.nfS st1.nfS/\(K st1).goes C J r:=by
  intro s b he hg hb hk
  refine ⟨_,.inr ⟨b,hg,hb,?_⟩,hk⟩
  simp only [cQ]
  rw [iY,he]
  rfl
 have run:∀ {s:ASt},s.nfS=st.nfS->aQ ops i.o st.nfS=some (some true)->(kv E i K s).goes C J r->∃ st1,OpN E C ops i st.nfS st1.nfS/\(K st1).goes C J r:=by
  intro s he hg hk
  obtain ⟨st1,h1,h2⟩:=vx hk
  rw [he] at h1
  exact ⟨st1,.inl ⟨hg,h1⟩,h2⟩
 cases hg:i.o.guard with
 | none =>
  simp only [hg] at h
  exact run rfl (by simp [aQ,hg]) h
 | some q =>
  obtain ⟨j,want⟩:=q
  simp only [hg] at h
  cases hd:(ops[j]?).bind (·.dst) with
  | none=>simp only [hd] at h; exact h.elim
  | some g =>
   simp only [hd] at h
   have gv:∀ {v:AV},nth (.one .junk) st.slots g=v->aQ ops i.o st.nfS=(match v.nf with | .one .undef=>some none | .bl b=>some (some (b == want)) | _=>none):=by
    intro v hv
    simp only [aQ,hg,hd,oK,hv]
    generalize v.nf=u
    cases u with
    | one c=>cases c <;> rfl
    | _=>rfl
   have ite:∀ {v:TV} {x y:Prg T},(Prg.ite (asBool v) x y).goes C J r->∃ b,v=.lit (.bool b)/\(bif b then x else y).goes C J r:=by
    rintro v x y ⟨b,hb,h⟩
    refine ⟨b,m9 hb,?_⟩
    rcases h with ⟨rfl,h⟩ | ⟨rfl,h⟩ <;> exact h
   cases hs:nth (.one .junk) st.slots g with
   | one c =>
    simp only [hs] at h
    cases c with
    | undef=>exact skip rfl (by rw [gv hs]; rfl) (by simp) h
    | t v =>
     obtain ⟨b,rfl,h'⟩:=ite h
     have he:(st.put (some g) (.bl b)).nfS=st.nfS:=nh hs rfl
     have hgd:=gv hs
     simp only [AV.nf] at hgd
     cases b <;> cases want <;> simp only [cond_true,cond_false] at h'
     ·exact run he (by rw [hgd]; rfl) h'
     ·exact skip (b:=some false) he (by rw [hgd]; rfl) (by simp) h'
     ·exact skip (b:=some false) he (by rw [hgd]; rfl) (by simp) h'
     ·exact run he (by rw [hgd]; rfl) h'
    | _=>exact h.elim
   | agg cs=>simp only [hs] at h; exact h.elim
   | tups cs=>simp only [hs] at h; exact h.elim
   | clo _ cs=>simp only [hs] at h; exact h.elim
   | tv v =>
    simp only [hs] at h
    obtain ⟨b,rfl,h'⟩:=ite h
    have he:(st.put (some g) (.bl b)).nfS=st.nfS:=nh hs rfl
    have hgd:=gv hs
    simp only [AV.nf] at hgd
    cases b <;> cases want <;> simp only [cond_true,cond_false] at h'
    ·exact run he (by rw [hgd]; rfl) h'
    ·exact skip (b:=some false) he (by rw [hgd]; rfl) (by simp) h'
    ·exact skip (b:=some false) he (by rw [hgd]; rfl) (by simp) h'
    ·exact run he (by rw [hgd]; rfl) h'
   | bl b =>
    simp only [hs] at h
    have hgd:=gv hs
    simp only [AV.nf] at hgd
    cases b <;> cases want <;> simp only [cond_true,cond_false] at h
    ·exact run rfl (by rw [hgd]; rfl) h
    ·exact skip (b:=some false) rfl (by rw [hgd]; rfl) (by simp) h
    ·exact skip (b:=some false) rfl (by rw [hgd]; rfl) (by simp) h
    ·exact run rfl (by rw [hgd]; rfl) h
theorem ir {T:Type} {J:List Nat->ASt->T->Prop} {ops:List Oper} {K:ASt->Prg T} {r:T}:∀ {l:List Item} {st:ASt},(AC E ops l K st).goes C J r->∃ fin,xw E C ops l st.nfS fin.nfS/\(K fin).goes C J r
 | [],st,h=>⟨st,.nil _,h⟩
 | i :: l,st,h=>by
  simp only [AC,iJ] at h
  obtain ⟨st1,h1,h2⟩:=jJ h
  obtain ⟨fin,h3,h4⟩:=ir h2
  exact ⟨fin,.cons h1 h3,h4⟩
theorem mo (ban:List Nat) (st:ASt):∀ i b,banned ban st.look i=some b->st.look i=some b:=fun i b h=>by
 unfold banned at h
 cases hm:bq i ban with
 | true=>simp [hm] at h
 | false=>simpa [hm] using h
theorem kV {ops:Array Oper} {o:Oper} {j:Nat} {want:Bool} {t:Tmp} (hg:(ops[j]?).bind (·.dst)=some t) (hs:aj w0 I0 R g st a ov w) {b:Option Bool} (hv:aQ ops.toList o st=some b) (ho:o.guard=some (j,want)) :
  (Region.wanted o (yielded ops a.tmps)=true ↔ b=some true):=by
 have hg':(ops.toList[j]?).bind (·.dst)=some t:=by rw [Cb]; exact hg
 simp only [aQ,ho,hg'] at hv
 simp only [Region.wanted,ho,yielded,hg,Option.bind_some]
 cases hsl:st.slots[t]? with
 | none=>rw [aU,hsl] at hv; simp at hv
 | some v =>
  have hrep:=hs.slots t v hsl
  have hlt:t < a.tmps.size:=by rw [hs.len]; exact (B7.1 hsl).1
  have hget:a.tmps[t]? = some (a.tmps.getD t undef):=by simp [hlt]
  rw [bw hsl] at hv
  obtain ⟨u,hu⟩:∃ u,u=a.tmps.getD t undef:=⟨_,rfl⟩
  rw [<- hu] at hrep hget
  rw [hget]
  split at hv
  ·simp only [B9] at hv
   subst hv
   have:u=undef:=hrep
   subst this
   simp [undef]
  ·simp only [B9] at hv
   subst hv
   have:u=.bool _:=hrep
   subst this
   simp
  ·cases hv
def Rd (ro:Option Nat):Fence:={ Fence.wide with round:=ro }
theorem rd_in {ro:Option Nat} {P:Program} {m m':Machine}:StepsIn (Machine.fenced P (Rd ro)) P m m' ↔ Steps P m m':=stepsIn_wide
theorem gm {ro:Option Nat} {n:Nat} {P:Program} {f:FuncId} {args:Array Value} {w:World} {R:Ending->World->Prop}:CallsIn (Rd ro) n P f args w R ↔ Calls P f args w R:=callsIn_wide
theorem Bh {ro:Option Nat} (n:Nat):(Rd ro).room n:=room_wide n
theorem vu {ro:Option Nat} {o:Oper} (hd:∀ c,o.op≠.defer c) {a:Act} {w:World} {next:Act->World->Prop} {Q:Exit->Act->World->Prop} (h:o.wp P a w next Q):o.wpIn (Rd ro) 0 P a w next Q:=by
 refine ⟨fun _ _=>trivial,?_⟩
 rw [Oper.semAt_eq _ _ _ hd]
 unfold Oper.wp at h
 generalize (execOp a.eval o).run P w=r at *
 cases r with
 | ok x w' =>
  cases x <;> simp only [Oper.upon] at h <;> simp only [Oper.uponIn] <;>
   first
    | exact h
    | exact ⟨fun h=>by simp [Rd,Fence.wide] at h,gm.2 h⟩
    | exact ⟨fun h=>by simp [Rd,Fence.wide] at h,fun c cs _=>by obtain ⟨v,w',r,s⟩:=h c cs; exact ⟨v,w',r,rd_in.2 s⟩⟩
 | halt x w'=>cases x <;> simp only [Oper.upon] at h <;> simp only [Oper.uponIn] <;> exact h
theorem jX (hE:eu P w0.G E C) {ops:Array Oper} {n:Nat} {i:Item} (hn:ops[n]? = some i.o) (hs:Sim w0 I0 st a ov w) (h:OpN E C ops.toList i st st') {ro:Option Nat}:wpOpIn (Rd ro) 0 P ops Q n (fun a' w'=>Sim w0 I0 st' a' ov w') a w:=by
 obtain ⟨g,hs⟩:=hs
 unfold wpOpIn
 rw [hn]
 simp only []
 have run:uE E C i st st'->i.o.wpIn (Rd ro) 0 P a w (fun a' w'=>Sim w0 I0 st' a' ov w') Q:=fun ⟨e,h1,_,h3⟩=>by
  obtain ⟨st1,h4,h5⟩:=wX h3
  refine vu (fun c hc=>?_) (Oper.wp_mono (fun a' w' hh=>h5 w0 I0 a' ov w' hh) (AD hE (mo _ st) hs h1 h4))
  rw [hc] at h1
  simp only [opL] at h1
  exact h1.elim
 have skip:st'=cQ i.o st->Sim w0 I0 st' (a.put i.o.dst undef) ov w:=fun h=>by
  subst h
  exact ⟨g,hs.put i.o.dst (v:=.one .undef) rfl⟩
 cases hg:i.o.guard with
 | none =>
  have hw:Region.wanted i.o (yielded ops a.tmps)=true:=by simp [Region.wanted,hg]
  rw [if_pos hw]
  rcases h with ⟨_,h⟩ | ⟨b,hb,hne,_⟩
  ·exact run h
  ·simp [aQ,hg] at hb
   exact absurd hb.symm hne
 | some q =>
  obtain ⟨j,want⟩:=q
  cases hd:(ops[j]?).bind (·.dst) with
  | none =>
   have hd':(ops.toList[j]?).bind (·.dst)=none:=by rw [Cb]; exact hd
   rcases h with ⟨h,_⟩ | ⟨b,hb,_⟩
   ·simp only [aQ,hg,hd'] at h; cases h
   ·simp only [aQ,hg,hd'] at hb; cases hb
  | some t =>
   rcases h with ⟨hv,h⟩ | ⟨b,hv,hne,h⟩
   ·rw [if_pos ((kV hd hs hv hg).2 rfl)]
    exact run h
   ·rw [if_neg (fun hw=>hne ((kV hd hs hv hg).1 hw))]
    exact ⟨fun _ _=>trivial,skip h⟩
theorem bV {t:Nat}:∀ {l:List Operand},.tmp t ∈ l->t ∈ gR l
 | x :: l, h => by
  rcases List.mem_cons.1 h with rfl | h
  ·simp [gR]
  ·have:=bV h
   cases x <;> simp [gR,this]
theorem bS {d:Option Nat} {l:List Nat} (h:eC d l=true):∀ t,d=some t->t ∉ l:=fun t ht hm=>by
 subst ht
 simp only [eC,Bool.not_eq_true',] at h
 rw [(bv _ _).2 hm] at h
 cases h
def iW (d:Option Nat) (s t:ASt):Prop:=s.slots.length=t.slots.length/\∀ k,d≠some k->nth (.one .junk) s.slots k=nth (.one .junk) t.slots k
theorem eR (st:ASt) (d:Option Tmp) (v:AV) (k:Nat) (h:d≠some k):nth (.one .junk) (st.put d v).slots k=nth (.one .junk) st.slots k:=by
 cases d with
 | none=>rfl
 | some d =>
  have:d≠k:=fun e=>h (by rw [e])
  simp only [ASt.put,ag,aU,List.getElem?_set,this,if_false]
theorem Bk {d:Option Nat} {s t:ASt} (h:iW d s t) {x:Operand} (hx:∀ k,x=.tmp k->d≠some k):s.ev x=t.ev x:=by
 cases x with
 | tmp k=>exact h.2 k (hx k rfl)
 | const v=>cases v <;> rfl
 | _=>rfl
theorem ec {d:Option Nat} {s t:ASt} (h:iW d s t) {l:List Operand} (hx:eC d (gR l)=true):l.map s.ev=l.map t.ev:=by
 apply List.map_congr_left
 intro x hxl
 refine Bk h (fun k hk e=>?_)
 subst hk
 exact bS hx k e (bV hxl)
theorem i9 {d:Option Nat} {s t:ASt} {ops:List Oper} {o:Oper} (h:iW d s t) (hx:eC d (mK ops o)=true):aQ ops o s=aQ ops o t:=by
 unfold aQ
 cases hg:o.guard with
 | none=>rfl
 | some q =>
  obtain ⟨j,want⟩:=q
  simp only []
  cases hd:(ops[j]?).bind (·.dst) with
  | none=>rfl
  | some g =>
   have:nth (.one .junk) s.slots g=nth (.one .junk) t.slots g:=h.2 g (fun e=>bS hx g e (by simp [mK,hg,hd]))
   simp only [this]
theorem nB (n:Nat):∀ (a b:List Nat),bq n (a ++ b)=(bq n a || bq n b)
 | [],b=>rfl
 | x :: a,b=>by
  simp only [List.cons_append,bq]
  cases x.beq n <;> simp [nB n a b]
theorem az {d:Option Nat} {a b:List Nat} (h:eC d (a ++ b)=true):eC d a=true/\eC d b=true:=by
 cases d with
 | none=>exact ⟨rfl,rfl⟩
 | some d =>
  simp only [eC,nB,Bool.not_or,Ca] at h
  exact h
theorem cq {b:BC} {v:AV} {d:Option Tmp} (ha:(Eff.new b v).app st d=some st'):∃ d',d=some d'/\st.look (st.nid d)=none/\st.nid d < st.boxes.length/\st'=(st.ab (st.nid d) (some b)).put d v:=by
 cases d with
 | none=>simp [Eff.app] at ha
 | some d =>
  simp only [Eff.app] at ha
  split at ha
  ·rename_i s1 hs1
   obtain ⟨h1,h2,rfl⟩:=aZ hs1
   simp only [B9] at ha
   exact ⟨d,rfl,h1,h2,ha.symm⟩
  ·cases ha
theorem jY {b:BC} {v:AV} {d:Tmp} (h1:st.look (st.nid (some d))=none) (h2:st.nid (some d) < st.boxes.length):(Eff.new b v).app st (some d)=some ((st.ab (st.nid (some d)) (some b)).put (some d) v):=by
 have h2':(st.nid (some d)).blt st.boxes.length=true:=by simpa using h2
 simp only [Eff.app,ASt.bc,h1,h2',cond_true]
theorem fS {e:Eff} {d:Option Nat} (hp:e.plain=true) (ha:e.app st d=some st'):iW d st' st/\st'.boxes.length=st.boxes.length/\st'.out=st.out:=by
 cases e with
 | val v =>
  simp only [Eff.app,B9] at ha
  subst ha
  refine ⟨⟨?_,fun k hk=>eR st d v k hk⟩,by rw [bH],by rw [lY]⟩
  cases d <;> simp [ASt.put,ag]
 | new b v =>
  obtain ⟨dd,rfl,hl,hlt,rfl⟩:=cq ha
  refine ⟨⟨?_,fun k hk=>?_⟩,by rw [bH]; simp [ASt.ab,ag],by rw [lY]; rfl⟩
  ·simp [ASt.put,ASt.ab,ag]
  ·rw [eR _ _ _ _ hk]; rfl
 | upd i b v =>
  simp only [Eff.app,B9] at ha
  subst ha
  refine ⟨⟨?_,fun k hk=>?_⟩,by rw [bH]; simp [ASt.ab,ag],by rw [lY]; rfl⟩
  ·cases d <;> simp [ASt.put,ASt.ab,ag]
  ·rw [eR _ _ _ _ hk]; rfl
 | _=>simp [Eff.plain] at hp
inductive Move (c:Cls) (st:ASt):Eff->Prop
 | val (v:AV) (h:c=.N\/c=.R\/c=.B\/c=.P):Move c st (.val v)
 | new (b:BC) (v:AV) (h:c=.A\/c=.B\/c=.P):Move c st (.new b v)
 | upd (i:Nat) (b:BC) (v:AV) (h:c=.W) (hl:(st.look i).isSome=true):Move c st (.upd i b v)
theorem Move.nf {c:Cls} {e:Eff} (h:Move c st e):Move c st e.nfE:=by
 cases h with
 | val v h=>exact .val _ h
 | new b v h=>exact .new _ _ h
 | upd i b v h hl=>exact .upd _ _ _ h hl
theorem sX {op:Op} {ban:List Nat} {vs:List AV} {e:Eff} (hx:(al op).isX=false) (hp:e.plain=true) (hh:(opL E id (banned ban st.look) op vs).hits C e):Move (al op) st e:=by
 cases hc:al op with
 | N=>obtain ⟨v,rfl⟩:=(wg hc vs).hits hh; exact .val v (.inl rfl)
 | R=>obtain ⟨v,rfl⟩:=(yS hc vs).hits hh; exact .val v (.inr (.inl rfl))
 | A=>obtain ⟨b,row,rfl⟩:=(cls_A hc vs).hits hh; exact .new b row (.inl rfl)
 | B =>
  rcases (cls_B hc vs).hits hh hp with ⟨v,rfl⟩ | ⟨b,v,rfl⟩
  ·exact .val v (.inr (.inr (.inl rfl)))
  ·exact .new b v (.inr (.inl rfl))
 | P =>
  rcases (cls_P hc vs).hits hh hp with ⟨v,rfl⟩ | ⟨b,v,rfl⟩
  ·exact .val v (.inr (.inr (.inr rfl)))
  ·exact .new b v (.inr (.inr rfl))
 | W =>
  obtain ⟨i,b,v,rfl,hl⟩:=(zr hc vs).hits hh hp
  obtain ⟨c,hc'⟩:=Option.isSome_iff_exists.1 hl
  exact .upd i b v rfl (by rw [mo ban st i c hc']; rfl)
 | X=>simp [hc,Cls.isX] at hx
theorem x7 {a b:Nat} (h:a≠b):unlike (some a) (some b)=true:=by
 simp only [unlike,Bool.not_eq_true']
 cases hb:a.beq b with
 | false=>rfl
 | true=>exact absurd ((aA _ _).1 hb) h
theorem nk {a b:Option Nat} (h:unlike a b=true):unlike b a=true:=by
 cases a with
 | none=>cases b <;> rfl
 | some p =>
  cases b with
  | none=>rfl
  | some q=>exact x7 (fun e=>by subst e; simp [unlike] at h)
theorem eg (st:ASt) {d d':Option Nat} (h:unlike d d'=true) (u v:AV):(st.put d u).put d' v=(st.put d' v).put d u:=by
 cases d with
 | none=>rfl
 | some d =>
  cases d' with
  | none=>rfl
  | some d' =>
   have hne:d≠d':=fun e=>by subst e; simp [unlike] at h
   simp only [ASt.put,ag]
   rw [List.set_comm _ _ hne]
theorem eW (st:ASt) {i j:Nat} (h:i≠j) (b c:Option BC):(st.ab i b).ab j c=(st.ab j c).ab i b:=by
 simp only [ASt.ab,ag]
 rw [List.set_comm _ _ h]
theorem aO (st:ASt) (i:Nat) (b:Option BC) (d:Option Nat) (v:AV):(st.put d v).ab i b=(st.ab i b).put d v:=by cases d <;> rfl
theorem aS (st:ASt) (d d':Option Tmp) (v:AV):(st.put d v).nid d'=st.nid d':=by cases d' <;> simp [ASt.nid,lY]
theorem aX (st:ASt) (i:Nat) (b:Option BC) (d':Option Tmp):(st.ab i b).nid d'=st.nid d':=by cases d' <;> rfl
theorem nid_ne {d d':Nat} (h:d≠d'):st.nid (some d)≠st.nid (some d'):=by simp only [ASt.nid]; omega
theorem jM {e:Eff} {d:Option Nat} {c:Cls} (hm:Move c st e) (ha:e.app st d=some s1) :
  (∀ j,(∃ v,e=.val v)->s1.look j=st.look j)/\(∀ j b row,e=.new b row->s1.look j=if st.nid d=j then some b else st.look j)/\(∀ j i b v,e=.upd i b v->s1.look j=if i=j then some b else st.look j):=by
 refine ⟨fun j ⟨v,hv⟩=>?_,fun j b row hb=>?_,fun j i b v hu=>?_⟩
 ·subst hv
  simp only [Eff.app,B9] at ha
  subst ha
  rw [bN]
 ·subst hb
  obtain ⟨dd,rfl,hl,hlt,rfl⟩:=cq ha
  rw [bN,ah]
  by_cases h:st.nid (some dd)=j
  ·subst h; simp [hlt]
  ·simp [h]
 ·subst hu
  simp only [Eff.app,B9] at ha
  subst ha
  rw [bN,ah]
  cases hm with
  | upd _ _ _ _ hl =>
   obtain ⟨c,hc⟩:=Option.isSome_iff_exists.1 hl
   by_cases h:i=j
   ·subst h; simp [eM hc]
   ·simp [h]
theorem ls {ban:List Nat} {s t:ASt} (h:∀ j,j ∉ ban->s.look j=t.look j):banned ban s.look=banned ban t.look:=by
 funext j
 unfold banned
 cases hm:bq j ban with
 | true=>rfl
 | false=>simp only [cond_false]; exact h j (fun e=>by rw [(bv _ _).2 e] at hm; cases hm)
theorem Az {cx cy:Cls} {dx dy:Option Nat} {ex ey:Eff} (hu:unlike dx dy=true) (mx:Move cx st ex) (my:Move cy s1 ey) (hx:ex.app st dx=some s1) (hy:ey.app s1 dy=some s2)
  (hb:∀ i b v,ey=.upd i b v->(∃ b row,ex=.new b row)->st.nid dx≠i) (hw:∀ i b v i' b' v',ex=.upd i b v->ey=.upd i' b' v'->i≠i'):∃ s1',ey.app st dy=some s1'/\ex.app s1' dx=some s2:=by
 cases mx with
 | val u hc =>
  simp only [Eff.app,B9] at hx
  subst hx
  cases my with
  | val v hc' =>
   simp only [Eff.app,B9] at hy
   subst hy
   exact ⟨_,rfl,by simp only [Eff.app]; rw [eg st hu]⟩
  | new b v hc' =>
   obtain ⟨d,rfl,hl,hlt,rfl⟩:=cq hy
   rw [bN,aS] at hl
   rw [bH,aS] at hlt
   refine ⟨_,jY hl hlt,?_⟩
   simp only [Eff.app,B9]
   rw [aO,eg _ hu,aS]
  | upd i b v hc' hl =>
   simp only [Eff.app,B9] at hy
   subst hy
   refine ⟨_,rfl,?_⟩
   simp only [Eff.app,B9]
   rw [aO,eg _ hu]
 | new b u hc =>
  obtain ⟨d,rfl,hl,hlt,rfl⟩:=cq hx
  have hlk:∀ j,((st.ab (st.nid (some d)) (some b)).put (some d) u).look j=if st.nid (some d)=j then some b else st.look j:=fun j=>by
   rw [bN,ah]
   by_cases h:st.nid (some d)=j
   ·rw [if_pos ⟨h,hlt⟩,if_pos h]
   ·rw [if_neg (fun h'=>h h'.1),if_neg h]
  cases my with
  | val v hc' =>
   simp only [Eff.app,B9] at hy
   subst hy
   refine ⟨_,rfl,?_⟩
   rw [jY (by rw [bN,aS]; exact hl) (by rw [bH,aS]; exact hlt),aS,aO,eg _ hu]
  | new b' v hc' =>
   obtain ⟨d',rfl,hl',hlt',rfl⟩:=cq hy
   have hne:d≠d':=fun e=>by subst e; simp [unlike] at hu
   have hni:st.nid (some d)≠st.nid (some d'):=nid_ne hne
   rw [aS,aX] at hl' hlt'
   rw [hlk,if_neg hni] at hl'
   have hlt2:st.nid (some d') < st.boxes.length:=by rw [bH] at hlt'; simpa [ASt.ab,ag] using hlt'
   refine ⟨_,jY hl' hlt2,?_⟩
   rw [jY (by rw [bN,aS,aX,ah,if_neg (fun h=>hni h.1.symm)]; exact hl) (by rw [bH,aS,aX]; simpa [ASt.ab,ag] using hlt)]
   rw [aS,aX,aS,aX,aO,aO,eW _ hni,eg _ (d:=some d) (d':=some d') hu]
  | upd i b' v hc' hl' =>
   simp only [Eff.app,B9] at hy
   subst hy
   have hid:=hb i b' v rfl ⟨b,u,rfl⟩
   refine ⟨_,rfl,?_⟩
   rw [jY (by rw [bN,aS,aX,ah,if_neg (fun h=>hid h.1.symm)]; exact hl) (by rw [bH,aS,aX]; simpa [ASt.ab,ag] using hlt)]
   rw [aS,aX,aO,aO,eW _ hid,eg _ (d:=some d) (d':=dy) hu]
 | upd i b u hc hl =>
  simp only [Eff.app,B9] at hx
  subst hx
  subst hc
  cases my with
  | val v hc' =>
   simp only [Eff.app,B9] at hy
   subst hy
   refine ⟨_,rfl,?_⟩
   simp only [Eff.app,B9]
   rw [aO,eg _ hu]
  | new b' v hc' =>
   obtain ⟨d',rfl,hl',hlt',rfl⟩:=cq hy
   rw [aS,aX] at hl' hlt'
   rw [bN,ah] at hl'
   obtain ⟨c,hc2⟩:=Option.isSome_iff_exists.1 hl
   have hlt2:st.nid (some d') < st.boxes.length:=by rw [bH] at hlt'; simpa [ASt.ab,ag] using hlt'
   have hne:i≠st.nid (some d'):=fun e=>by rw [if_pos ⟨e,eM hc2⟩] at hl'; cases hl'
   have hl3:st.look (st.nid (some d'))=none:=by
    rw [if_neg (fun h=>hne h.1)] at hl'; exact hl'
   refine ⟨_,jY hl3 hlt2,?_⟩
   simp only [Eff.app,B9]
   rw [aS,aX,aO,aO,eW _ hne,eg _ (d:=some d') (d':=dx) (nk hu)]
  | upd i' b' v hc' hl' =>
   have hne:=hw i b u i' b' v rfl rfl
   simp only [Eff.app,B9] at hy
   subst hy
   refine ⟨_,rfl,?_⟩
   simp only [Eff.app,B9]
   rw [aO,aO,eW _ hne,eg _ hu]
theorem sP {p:Prop} [Decidable p] {c d:Cls} (h:(if p then c else .N)=d) (hd:d≠.N):c=d:=by
 by_cases hp:p
 ·rwa [if_pos hp] at h
 ·rw [if_neg hp] at h; exact absurd h.symm hd
theorem mi {p:Prop} [Decidable p] {c:Cls} (h:(if p then c else .N)=.A\/(if p then c else .N)=.B\/(if p then c else .N)=.P):c.makes=true:=by
 rcases h with h | h | h <;> rw [sP h (by simp)] <;> rfl
theorem pg {ps:List Nat} {s t:ASt} {d:Option Nat} {e:Eff} (hb:s.base=t.base) (h:∀ k,d=some k->nth (.one .junk) s.slots k=nth (.one .junk) t.slots k):cb ps s d e=cb ps t d e:=by
 unfold cb
 congr 1
 funext k
 cases d with
 | none=>rw [hb]
 | some d=>simp only [hb,h d rfl]
theorem ki {i:Item} {s t:ASt} {e:Eff} (hb:s.base=t.base) (hd:∀ k,i.o.dst=some k->nth (.one .junk) s.slots k=nth (.one .junk) t.slots k) (h:i.o.op.operands.toList.map s.ev=i.o.op.operands.toList.map t.ev):cD i s e=cD i t e:=by
 unfold cD
 have:∀ b,gI s i.o.dst b=gI t i.o.dst b:=fun b=>by
  cases hk:i.o.dst with
  | none=>rfl
  | some d=>simp only [gI,hd d hk]
 have hD:∀ b,fj s i.o.dst b=fj t i.o.dst b:=fun b=>by
  cases hk:i.o.dst with
  | none=>rfl
  | some d=>simp only [fj,hd d hk]
 simp only [hb,h,this,hD]
theorem j7 {a b:Option Nat} (h:unlike a b=true):∀ k,b=some k->a≠some k:=fun k hk e=>by subst hk; subst e; simp [unlike] at h
theorem ze {ops : List Oper} {x y : Item} (hap : bZ ops x.o y.o = true) (hxd : x.dr = true) (hyd : y.dr = true) (hxx : (al x.o.op).isX = false) (hyx : (al y.o.op).isX = false)
  (hbx:(al x.o.op).makes=true->∀ d,x.o.dst=some d->d ∈ y.ban.1) (hby:(al y.o.op).makes=true->∀ d,y.o.dst=some d->d ∈ x.ban.1)
  (hox:(al y.o.op).reads=true->y.ban ∈ x.own) (hoy:(al x.o.op).reads=true->x.ban ∈ y.own) (h1:OpP E C ops x st s1) (h2:OpP E C ops y s1 s2) :
  ∃ s1',OpP E C ops y st s1'/\OpP E C ops x s1' s2:=by
 simp only [bZ,Ca] at hap
 obtain ⟨⟨⟨⟨hg,hfx⟩,hfy⟩,hu⟩,_⟩:=hap
 obtain ⟨hfx1,hfx2⟩:=az hfx
 obtain ⟨hfy1,hfy2⟩:=az hfy
 have hu':unlike y.o.dst x.o.dst=true:=nk hu
 have dec:∀ {i:Item} {s s':ASt},i.dr=true->(al i.o.op).isX=false->OpP E C ops i s s'->∃ e,(aQ ops i.o s=some (some true)->cb i.push s i.o.dst e=true/\cD i s e=true)/\Move (if aQ ops i.o s=some (some true) then al i.o.op else .N) s e/\e.nfE.app s i.o.dst=some s' /\
   ((aQ ops i.o s=some (some true)/\(opL E (s.nid i.o.dst) (banned (bd i.ban s.base) s.look) i.o.op (i.o.op.operands.toList.map s.ev)).hits C e/\(e.plain=true/\e.nP s.base i.own=true))\/(∃ b,aQ ops i.o s=some b/\b≠some true/\e=.val (.one .undef))):=by
  intro i s s' hd hx h
  rcases h with ⟨hg,e,k1,k2,k3⟩ | ⟨b,hg,hb,h⟩
  ·refine ⟨e,fun _=>(k2 hd).2,?_,k3,.inl ⟨hg,k1,(k2 hd).1⟩⟩
   rw [if_pos hg]
   exact sX hx (k2 hd).1.1 k1
  ·refine ⟨.val (.one .undef),fun h=>absurd (Option.some.inj (hg.symm.trans h)) hb,?_,?_,.inr ⟨b,hg,hb,rfl⟩⟩
   ·rw [if_neg (by rw [hg]; simpa using hb)]
    exact .val _ (.inl rfl)
   ·rw [h]; rfl
 obtain ⟨ex,cx,mx,ax,hx⟩:=dec hxd hxx h1
 obtain ⟨ey,cy,my,ay,hy⟩:=dec hyd hyx h2
 have px:ex.nfE.plain=true:=by rw [lk]; cases mx <;> rfl
 have py:ey.nfE.plain=true:=by rw [lk]; cases my <;> rfl
 obtain ⟨sb1,_,so1⟩:=fS px ax
 have hb1:s1.base=st.base:=by simp [ASt.base,so1]
 have hn1:∀ d,s1.nid d=st.nid d:=fun d=>by cases d <;> simp [ASt.nid,so1]
 have hgy:aQ ops y.o s1=aQ ops y.o st:=i9 sb1 hfx1
 have hvy:y.o.op.operands.toList.map s1.ev=y.o.op.operands.toList.map st.ev:=ec sb1 hfx2
 have inO:∀ {base:Nat} {own:List (List Nat × List Nat)} {ban:List Nat × List Nat} {i:Nat} {b:BC} {v:AV},Eff.nP base own (.upd i b v)=true->ban ∈ own->i ∈ bd ban base:=fun {base own ban i b v} h hm=>by
  simp only [Eff.nP,List.all_eq_true] at h
  exact (bv _ _).1 (h ban hm)
 have inBan:∀ {d:Nat} {ban:List Nat × List Nat} {s:ASt},d ∈ ban.1->s.nid (some d) ∈ bd ban s.base:=fun {d ban s} h=>List.mem_append_left _ (List.mem_map.2 ⟨d,h,rfl⟩)
 have hW:∀ i b v i' b' v',ex=.upd i b v->ey=.upd i' b' v'->i≠i':=by
  rintro i b v i' b' v' rfl rfl rfl
  rcases hx with ⟨_,_,_,ho⟩ | ⟨_,_,_,he⟩
  ·rcases hy with ⟨_,hh,_⟩ | ⟨_,_,_,he⟩
   ·have hWy:al y.o.op=.W:=by
     cases my with
     | upd _ _ _ hc _=>exact sP hc (by simp)
    have hin:=inO ho (hox (by rw [hWy]; rfl))
    obtain ⟨i',b2,v2,he,hl⟩:=(zr hWy _).hits hh rfl
    cases he
    unfold banned at hl
    rw [hb1,(bv _ _).2 hin] at hl
    simp at hl
   ·cases he
  ·cases he
 have hban:∀ i b v,ey=.upd i b v->(∃ b row,ex=.new b row)->st.nid x.o.dst≠i:=by
  rintro i b v rfl ⟨b',row,rfl⟩ hd
  obtain ⟨d,hdx,_⟩:=cq ax
  rcases hy with ⟨_,hh,_⟩ | ⟨_,_,_,he⟩
  ·have hmk:(al x.o.op).makes=true:=by
    cases mx with
    | new _ _ hc=>exact mi hc
   have hin:=inBan (s:=st) (hbx hmk d hdx)
   have hW:al y.o.op=.W:=by
    cases my with
    | upd _ _ _ hc _=>exact sP hc (by simp)
   obtain ⟨i',b2,v2,he,hl⟩:=(zr hW _).hits hh rfl
   cases he
   unfold banned at hl
   rw [hdx] at hd
   rw [hd] at hin
   rw [hb1,(bv _ _).2 hin] at hl
   simp at hl
  ·cases he
 have nfU:∀ {e:Eff} {i b v},e.nfE=.upd i b v->∃ v',e=.upd i b v':=fun {e i b v} h=>by
  cases e <;> simp only [Eff.nfE,Eff.upd.injEq,reduceCtorEq] at h
  obtain ⟨rfl,rfl,_⟩:=h
  exact ⟨_,rfl⟩
 have nfN:∀ {e:Eff},(∃ b v,e.nfE=.new b v)->∃ b v,e=.new b v:=fun {e} ⟨b,v,h⟩=>by
  cases e <;> simp only [Eff.nfE,Eff.new.injEq,reduceCtorEq] at h
  exact ⟨_,_,rfl⟩
 obtain ⟨s1',ay',ax'⟩:=Az hu mx.nf my.nf ax ay (fun i b v hy hx=>by obtain ⟨v',h⟩:=nfU hy; exact hban i b v' h (nfN hx))
  (fun i b v i' b' v' hx hy=>by obtain ⟨u,h⟩:=nfU hx; obtain ⟨u',h'⟩:=nfU hy; exact hW i b u i' b' u' h h')
 obtain ⟨sb2,_,so2⟩:=fS py ay'
 have hb2:s1'.base=st.base:=by simp [ASt.base,so2]
 have hn2:∀ d,s1'.nid d=st.nid d:=fun d=>by cases d <;> simp [ASt.nid,so2]
 have hgx:aQ ops x.o s1'=aQ ops x.o st:=i9 sb2 hfy1
 have hvx:x.o.op.operands.toList.map s1'.ev=x.o.op.operands.toList.map st.ev:=ec sb2 hfy2
 have readsOf:∀ {o:Op},(al o).isX=false->¬ (al o=.N\/al o=.A)->(al o).reads=true:=fun {o} hx hf=>by
  cases hc:al o with
  | N=>exact absurd (.inl hc) hf
  | A=>exact absurd (.inr hc) hf
  | X=>rw [hc] at hx; cases hx
  | _=>rfl
 refine ⟨s1',?_,?_⟩
 ·rcases hy with ⟨hgv,hh,hp⟩ | ⟨b,hgv,hb,rfl⟩
  ·rw [hgy] at hgv
   have hcl:cb y.push st y.o.dst ey=true/\cD y st ey=true:=by
    rw [<- pg hb1 (fun k hk=>sb1.2 k (j7 hu k hk)),<- ki (s:=s1) hb1 (fun k hk=>sb1.2 k (j7 hu k hk)) hvy]
    exact cy (by rw [hgy]; exact hgv)
   refine .inl ⟨hgv,ey,?_,fun _=>⟨by rw [<- hb1]; exact hp,hcl⟩,ay'⟩
   rw [hvy,hn1,hb1] at hh
   by_cases hfree:al y.o.op=.N\/al y.o.op=.A
   ·rw [qZ hfree]; exact hh
   ·have:banned (bd y.ban st.base) st.look=banned (bd y.ban st.base) s1.look:=by
     refine ls (fun j hj=>?_)
     obtain ⟨l1,l2,l3⟩:=jM mx.nf ax
     cases mx with
     | val u hc=>exact (l1 j ⟨_,rfl⟩).symm
     | new b row hc =>
      have hmk:(al x.o.op).makes=true:=mi hc
      rw [l2 j b _ rfl]
      obtain ⟨d,hdx,_⟩:=cq ax
      split
      ·rename_i hd
       rw [hdx] at hd
       exact absurd (hd ▸ inBan (s:=st) (hbx hmk d hdx)) hj
      ·rfl
     | upd i b v hc hl =>
      rw [l3 j i b _ rfl]
      split
      ·rename_i hij
       subst hij
       rcases hx with ⟨_,_,_,ho⟩ | ⟨_,_,_,he⟩
       ·exact absurd (inO ho (hox (readsOf hyx hfree))) hj
       ·cases he
      ·rfl
    rw [this]; exact hh
  ·rw [hgy] at hgv
   refine .inr ⟨b,hgv,hb,?_⟩
   simp only [Eff.nfE,Eff.app,B9] at ay'
   exact ay'.symm
 ·rcases hx with ⟨hgv,hh,hp⟩ | ⟨b,hgv,hb,rfl⟩
  ·have hcl : cb x.push s1' x.o.dst ex = true ∧ cD x s1' ex = true := by
    rw [pg hb2 (fun k hk=>sb2.2 k (j7 hu' k hk)),ki (s:=s1') hb2 (fun k hk=>sb2.2 k (j7 hu' k hk)) hvx]
    exact cx hgv
   refine .inl ⟨by rw [hgx,hgv],ex,?_,fun _=>⟨by rw [hb2]; exact hp,hcl⟩,ax'⟩
   rw [hvx,hn2,hb2]
   by_cases hfree:al x.o.op=.N\/al x.o.op=.A
   ·rw [qZ hfree]; exact hh
   ·have:banned (bd x.ban st.base) s1'.look=banned (bd x.ban st.base) st.look:=by
     refine ls (fun j hj=>?_)
     have my':Move (if aQ ops y.o s1=some (some true) then al y.o.op else .N) st ey:=by
      cases my with
      | val v hc=>exact .val v hc
      | new b row hc=>exact .new b row hc
      | upd i b v hc hl =>
       refine .upd i b v hc ?_
       obtain ⟨l1,l2,l3⟩:=jM mx.nf ax
       cases mx with
       | val u hc=>rw [l1 i ⟨_,rfl⟩] at hl; exact hl
       | new b' row hc =>
        rw [l2 i b' _ rfl] at hl
        rw [if_neg (hban i b v rfl ⟨b',row,rfl⟩)] at hl
        exact hl
       | upd i' b' v' hc' hl' =>
        rw [l3 i i' b' _ rfl] at hl
        by_cases he:i'=i
        ·subst he; exact hl'
        ·rw [if_neg he] at hl; exact hl
     obtain ⟨l1,l2,l3⟩:=jM my'.nf ay'
     cases my' with
     | val u hc=>exact l1 j ⟨_,rfl⟩
     | new b row hc =>
      have hmk:(al y.o.op).makes=true:=mi hc
      rw [l2 j b _ rfl]
      obtain ⟨d,hdy,_⟩:=cq ay'
      split
      ·rename_i hd
       rw [hdy] at hd
       exact absurd (hd ▸ inBan (s:=st) (hby hmk d hdy)) hj
      ·rfl
     | upd i b v hc hl =>
      rw [l3 j i b _ rfl]
      split
      ·rename_i hij
       subst hij
       rcases hy with ⟨_,_,_,ho⟩ | ⟨_,_,_,he⟩
       ·rw [hb1] at ho
        exact absurd (inO ho (hoy (readsOf hxx hfree))) hj
       ·cases he
      ·rfl
    rw [this]; exact hh
  ·refine .inr ⟨b,by rw [hgx,hgv],hb,?_⟩
   simp only [Eff.nfE,Eff.app,B9] at ax'
   exact ax'.symm
end
end Go.Ab
end
section
namespace Go.Ab
open Go.RowKit
theorem oF {k:Nat} {l:List Nat}:(!bq k l)=true ↔ k ∉ l:=by
 rw [Bool.not_eq_true']
 constructor
 ·intro h hm
  rw [(bv _ _).2 hm] at h
  cases h
 ·intro h
  cases hb:bq k l with
  | false=>rfl
  | true=>exact absurd ((bv _ _).1 hb) h
theorem eS {k:Nat}:∀ {l:List (Option BC)},dY k l=true ↔ ∀ i b,nth none l i=some b->k ∉ b.kZ
 | []=>by simp [dY,nth]
 | some c :: l => by
  simp only [dY,Ca,eS (l:=l),oF]
  constructor
  ·rintro ⟨h1,h2⟩ i b hb
   cases i with
   | zero=>simp only [nth,B9] at hb; subst hb; exact h1
   | succ i=>exact h2 i b hb
  ·intro h
   exact ⟨h 0 c rfl,fun i b hb=>h (i + 1) b hb⟩
 | none :: l => by
  simp only [dY,eS (l:=l)]
  constructor
  ·intro h2 i b hb
   cases i with
   | zero=>simp only [nth,reduceCtorEq] at hb
   | succ i=>exact h2 i b hb
  ·intro h i b hb
   exact h (i + 1) b hb
section
variable {E:Env} {C:Cal} {st s1 s2:ASt} {d:Option Tmp} {e:Eff} {s m k:Nat} {y:TV}
theorem xT {ps:List Nat} (h:cb ps st d e=true) (hs:s ∈ ps):st.base + s ∉ dK e/\∀ t,d=some t->st.base + s ∉ (nth (.one .junk) st.slots t).fF:=by
 unfold cb at h
 rw [List.all_eq_true] at h
 have:=h s hs
 rw [Ca] at this
 refine ⟨oF.1 this.1,fun t ht=>?_⟩
 subst ht
 exact oF.1 this.2
end
section
variable {E:Env} {C:Cal} {st s1 s2:ASt} {x y:Item} {s:Nat}
theorem lC {o:Op} (h:ar o=some s):al o=.P/\s ∈ gR o.operands.toList:=by
 unfold ar at h
 split at h
 ·rename_i l h1 h2
  simp only [B9] at h
  subst h
  rw [h2]
  exact ⟨h1,Ce⟩
 ·cases h
theorem aT {ops:List Oper} {o:Oper} (h:o.guard.isNone=true) (t:ASt):aQ ops o t=some (some true):=by
 unfold aQ
 rw [Option.isNone_iff_eq_none.1 h]
theorem OpP.step {ops:List Oper} (h:x.o.guard.isNone=true):OpP E C ops x st s1->wL E C x st s1
 | .inl ⟨_,h'⟩=>h'
 | .inr ⟨b,hb,hne,_⟩=>by rw [aT h] at hb; exact absurd (Option.some.inj hb).symm hne
theorem zV {ops:List Oper} (hap:bZ ops x.o y.o=true) (hxs:x.shut=false) (hys:y.shut=false) (hxl:x.loose=false) (hyl:y.loose=false) (hxd:x.dr=true) (hyd:y.dr=true) (hxx:(al x.o.op).isX=false) (hyx:(al y.o.op).isX=false)
  (hbx:(al x.o.op).makes=true->∀ d,x.o.dst=some d->d ∈ y.ban.1) (hby:(al y.o.op).makes=true->∀ d,y.o.dst=some d->d ∈ x.ban.1)
  (hox:(al y.o.op).reads=true->y.ban ∈ x.own) (hoy:(al x.o.op).reads=true->x.ban ∈ y.own)
  (hpx:∀ s,ar y.o.op=some s->y.root=iZ ops 20 s/\y.root ∈ x.ban.1/\y.root ∈ x.push) (hpy:∀ s,ar x.o.op=some s->x.root=iZ ops 20 s/\x.root ∈ y.ban.1/\x.root ∈ y.push) (h1:OpN E C ops x st s1) (h2:OpN E C ops y s1 s2) :
  ∃ s1',OpN E C ops y st s1'/\OpN E C ops x s1' s2:=by
 have hap':=hap
 simp only [bZ,Ca] at hap'
 obtain ⟨⟨⟨⟨hg,hfx⟩,hfy⟩,hu⟩,ha1,ha2⟩:=hap'
 rcases h1.parts hxd hxs hxl with p1 | ⟨g1,p1⟩
 ·rcases h2.parts hyd hys hyl with p2 | ⟨g2,p2⟩
  ·obtain ⟨s1',q1,q2⟩:=ze hap hxd hyd hxx hyx hbx hby hox hoy p1 p2
   exact ⟨s1',q1.toN hys,q2.toN hxs⟩
  ·exact absurd p2.choose_spec.2.1 Bool.false_ne_true
 ·exact absurd p1.choose_spec.2.1 Bool.false_ne_true
end
end Go.Ab
end

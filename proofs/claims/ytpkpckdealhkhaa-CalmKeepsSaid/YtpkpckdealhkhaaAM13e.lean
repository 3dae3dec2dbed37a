import Derived.Test.YtpkpckdealhkhaaAM13
import Derived.OrdersIn
set_option linter.all false
section
namespace Go.Ab
open Go.RowKit
def Prg.All {R:Type} (p:R->Prop):Prg R->Prop
 | .fail=>True
 | .ret e=>p e
 | .tv _ k=>∀v,(k v).All p
 | .tvs _ k=>∀v,(k v).All p
 | .rws _ k=>∀v,(k v).All p
 | .nat _ k=>∀v,(k v).All p
 | .chk _ k=>k.All p
 | .ite _ t e=>t.All p/\e.All p
 | .call _ _ k=>∀v,(k v).All p
 | .jmp _ _=>True
theorem Prg.All.hits {R:Type} {C:Cal} {p:R->Prop} {e:R}:∀{o:Prg R},o.All p->o.hits C e->p e
 | .ret e',h,h'=>by cases h';exact h
 | .tv _ k,h,⟨v,_,h'⟩=>(h v).hits h'
 | .tvs _ k,h,⟨v,_,h'⟩=>(h v).hits h'
 | .rws _ k,h,⟨v,_,h'⟩=>(h v).hits h'
 | .nat _ k,h,⟨v,_,h'⟩=>(h v).hits h'
 | .chk _ k,h,⟨_,h'⟩=>Prg.All.hits (o:=k) h h'
 | .ite _ t e,h,⟨v,_,.inl ⟨_,h'⟩⟩=>Prg.All.hits (o:=t) h.1 h'
 | .ite _ t e,h,⟨v,_,.inr ⟨_,h'⟩⟩=>Prg.All.hits (o:=e) h.2 h'
 | .call _ _ k,h,⟨v,_,h'⟩=>(h v).hits h'
section
variable {E:Env} {look look':Look} {p:Eff->Prop} {id:Nat}
theorem aP {b:Bool} {x y:Out} (hx:x.All p) (hy:y.All p):(bif b then x else y).All p:=by cases b<;>assumption
theorem lW {q:Way} {x:TV} {k:TV->Out} (h:∀y,(k y).All p):(qJ q x k).All p:=by
 unfold qJ
 split
 ·exact h _
 ·exact h
theorem gb {c:CA} {k:TV->Out} (h:∀y,(k y).All p):(iZ look c k).All p:=by
 unfold iZ
 split
 ·exact h _
 ·split
  ·exact lW h
  ·exact trivial
 ·split
  ·exact lW fun y z=>h z
  ·exact trivial
 ·exact trivial
theorem nT {v:AV} {k:TV->Out} (h:∀y,(k y).All p):(tC look v k).All p:=by
 unfold tC
 split
 ·exact gb h
 ·exact h _
 ·exact h _
 ·exact trivial
theorem vf {c:CA} {k:TV->Out} (h:∀y,(k y).All p):(tQ look c k).All p:=by
 unfold tQ
 split
 ·exact h _
 ·exact gb fun y=>h _
 ·exact gb fun y=>h _
 ·exact trivial
theorem ux {k:List TV->Out}:∀{cs:List CA} {k:List TV->Out},(∀y,(k y).All p)->(AJ look cs k).All p
 | [],k,h=>h _
 | c::cs,k,h=>vf fun y=>ux (k:=fun _=>.fail) fun ys=>h _
theorem BQ {v:AV} {k:TV->Out} (h:∀y,(k y).All p):(rC look v k).All p:=by
 unfold rC
 split
 ·exact vf h
 ·exact h _
 ·exact ux (k:=fun _=>.fail) fun ys=>h _
 ·exact trivial
 ·exact trivial
 ·exact h _
theorem oW:∀{vs:List AV} {k:List TV->Out},(∀y,(k y).All p)->(lends look vs k).All p
 | [],k,h=>h _
 | v::vs,k,h=>BQ fun y=>oW fun ys=>h _
theorem vo {c:CA} {k:TV->List (Nat × Nat)->Out} (h:∀y r,(k y r).All p):(sA look c k).All p:=by
 unfold sA
 split
 ·exact h _ _
 ·split
  ·split
   ·exact h _ _
   ·exact fun y=>h _ _
  ·exact trivial
 ·split
  ·split
   ·exact fun y=>h _ _
   ·exact fun z y=>h _ _
  ·exact trivial
 ·exact trivial
theorem vw:∀{cs:List CA} {k:List TV->List (Nat × Nat)->Out},(∀y r,(k y r).All p)->(Av look cs k).All p
 | [],k,h=>h _ _
 | c::cs,k,h=>vo fun y r=>vw fun ys rs=>h _ _
theorem Bj {v:AV} {k:TV->List (Nat × Nat)->Out} (h:∀y r,(k y r).All p):(tr look v k).All p:=by
 unfold tr
 split
 ·exact vo h
 ·exact h _ _
 ·exact vw fun ys rs=>h _ _
 ·exact trivial
 ·exact trivial
 ·exact h _ _
theorem uw:∀{vs:List AV} {k:List TV->List (Nat × Nat)->Out},(∀y r,(k y r).All p)->(hands look vs k).All p
 | [],k,h=>h _ _
 | v::vs,k,h=>Bj fun y r=>uw fun ys rs=>h _ _
theorem fu:∀{cs:List CA} {k:List TV->List Prim->List (Nat × Nat)->Out},(∀y q r,(k y q r).All p)->(cP look cs k).All p
 | [],k,h=>h _ _ _
 | .t x::l,k,h=>by
  simp only[cP]
  exact fu (cs:=l) fun xs ps ts=>h _ _ _
 | .sref i r q :: l, k, h => by
  simp only[cP]
  split
  ·split
   ·exact fu (cs:=l) fun xs ps ts=>h _ _ _
   ·exact fun y=>fu (cs:=l) fun xs ps ts=>h _ _ _
  ·exact trivial
 | .swin i r q lo len :: l, k, h => by
  simp only[cP]
  split
  ·split
   ·exact fun y=>fu (cs:=l) fun xs ps ts=>h _ _ _
   ·exact fun z y=>fu (cs:=l) fun xs ps ts=>h _ _ _
  ·exact trivial
 | .ptr _ _::l,k,h=>trivial
 | .ref _ _::l,k,h=>trivial
 | .tptr _ _ _ _ _::l,k,h=>trivial
 | .may _ _::l,k,h=>trivial
 | .aptr _ _ _ _::l,k,h=>trivial
 | .ifp _ _::l,k,h=>trivial
 | .fn1 _ _::l,k,h=>trivial
 | .psl _ _::l,k,h=>trivial
 | .yl _::l,k,h=>trivial
 | .undef::l,k,h=>trivial
 | .junk::l,k,h=>trivial
theorem eH:∀{cs:List CA} {k:List TV->List Prim->List (Nat × Nat)->Out},(∀y q r,(k y q r).All p)->(cm look cs k).All p
 | [],k,h=>h _ _ _
 | .t x::l,k,h=>by
  simp only[cm]
  exact eH (cs:=l) fun xs ps ts=>h _ _ _
 | .sref i r q :: l, k, h => by
  simp only[cm]
  split
  ·split
   ·exact eH (cs:=l) fun xs ps ts=>h _ _ _
   ·exact fun y=>⟨eH (cs:=l) fun xs ps ts=>h _ _ _,fun x'=>eH (cs:=l) fun xs ps ts=>h _ _ _⟩
  ·exact trivial
 | .swin i r q lo len :: l, k, h => by
  simp only[cm]
  split
  ·split
   ·exact fun y=>eH (cs:=l) fun xs ps ts=>h _ _ _
   ·exact fun z y=>eH (cs:=l) fun xs ps ts=>h _ _ _
  ·exact trivial
 | .ptr _ _::l,k,h=>trivial
 | .ref _ _::l,k,h=>trivial
 | .tptr _ _ _ _ _::l,k,h=>trivial
 | .may _ _::l,k,h=>trivial
 | .aptr _ _ _ _::l,k,h=>trivial
 | .ifp _ _::l,k,h=>trivial
 | .fn1 _ _::l,k,h=>trivial
 | .psl _ _::l,k,h=>trivial
 | .yl _::l,k,h=>trivial
 | .undef::l,k,h=>trivial
 | .junk::l,k,h=>trivial
theorem eJ {agg:Bool} {n:Nat} {x:AV} {k:List CA->Out} (h:∀cs,(k cs).All p):(x.bd agg n k).All p:=by
 unfold AV.bd
 split
 ·rename_i c;cases c.kept<;>first|exact trivial|exact h _
 ·exact h _
 ·exact h _
 ·exact h _
 ·rename_i cs;cases cs.length.beq n<;>first|exact trivial|exact h _
 ·exact h _
 ·exact trivial
theorem sg {at_:Nat->Option (Nat × Bool × Nat)} {k:List CA->Out} (h:∀cs,(k cs).All p):∀(is:List Nat) (vs:List AV) (cs:List CA),(cp at_ is vs cs k).All p
 | [],[],cs=>h cs
 | i :: is, x :: vs, cs => by
  simp only[cp]
  split
  ·refine eJ (fun ps=>?_)
   exact aP (sg h is vs _) trivial
  ·exact trivial
 | [],_::_,cs=>trivial
 | _::_,[],cs=>trivial
theorem fo {v:Option AV} {k:Option Nat->Out} (h:∀n,(k n).All p):(fU v k).All p:=by
 unfold fU
 split
 ·exact h _
 ·split
  ·exact fun v=>h _
  ·exact trivial
abbrev dc (e:Eff):Prop:=∃v,e=.val v
abbrev du (e:Eff):Prop:=∃b v,e=.new b v
theorem xv {d:TyD} {x:List TV} {off:Nat}:(kT d x off).All dc:=by
 unfold kT
 cases d.kd.isAgg
 ·exact⟨_,rfl⟩
 ·exact⟨_,rfl⟩
theorem uf:∀{vs:List AV} {k:List CA->Out},(∀cs,(k cs).All p)->(kx vs k).All p
 | [],k,h=>h _
 | v::vs,k,h=>eJ fun cs=>uf fun cs'=>h _
theorem vh {b k:Nat}:∀{n:Nat},(AY b k n).All dc
 | 0=>trivial
 | n+1=>⟨⟨_,rfl⟩,vh⟩
theorem Am {op:Op} (h:ao op=.N) (vs:List AV):(opL E id look op vs).All dc:=by
 cases op with
 | move x=>rcases vs with _|⟨v,_|⟨v',r⟩⟩<;>first|exact trivial|exact⟨_,rfl⟩
 | assign x=>rcases vs with _|⟨v,_|⟨v',r⟩⟩<;>first|exact trivial|exact⟨_,rfl⟩
 | pick c x y =>
  rcases vs with _|⟨v,_|⟨v',_|⟨v'',_|⟨v3,r⟩⟩⟩⟩<;>first|exact trivial|skip
  simp only[opL]
  split<;>first|exact trivial|exact⟨_,rfl⟩|exact⟨⟨_,rfl⟩,⟨_,rfl⟩⟩
 | build t parts =>
  simp only[opL]
  split
  ·refine aP ?_ trivial
   refine sg ?_ _ _ _
   exact fun cs=>⟨_,rfl⟩
  ·exact trivial
 | nilCheck x =>
  rcases vs with _|⟨v,_|⟨v',r⟩⟩<;>first|exact trivial|skip
  simp only[opL]
  split<;>first|exact trivial|exact⟨_,rfl⟩
 | unOp op xt x =>
  rcases vs with _|⟨v,_|⟨v',r⟩⟩<;>first|exact trivial|skip
  simp only[opL]
  split
  ·exact⟨_,rfl⟩
  ·split
   ·exact fun v=>⟨_,rfl⟩
   ·exact trivial
 | fieldAddr t x f =>
  rcases vs with _|⟨v,_|⟨v',r⟩⟩<;>first|exact trivial|skip
  simp only[opL]
  split
  ·split
   ·refine aP ?_ trivial
    split<;>first|exact trivial|exact⟨_,rfl⟩
   ·exact trivial
  ·exact trivial
 | field t x f =>
  rcases vs with _|⟨v,_|⟨v',r⟩⟩<;>first|exact trivial|skip
  simp only[opL]
  split
  ·split
   ·unfold vY
    split
    ·split
     ·split<;>first|exact trivial|exact⟨_,rfl⟩
     ·exact trivial
    ·exact⟨_,rfl⟩
    ·exact trivial
   ·exact trivial
  ·exact trivial
 | index t x y =>
  rcases vs with _|⟨v,_|⟨v',_|⟨v'',r⟩⟩⟩<;>first|exact trivial|skip
  simp only[opL]
  split
  ·exact fun v=>⟨_,rfl⟩
  ·unfold rn
   split
   ·split
    ·refine aP ?_ trivial
     split
     ·exact fun k v=>⟨_,rfl⟩
     ·exact trivial
    ·exact trivial
   ·exact trivial
 | extract x j =>
  rcases vs with _|⟨v,_|⟨v',r⟩⟩<;>first|exact trivial|skip
  simp only[opL]
  split
  ·split
   ·split<;>first|exact trivial|exact⟨_,rfl⟩
   ·exact trivial
  ·exact trivial
 | makeFunc fn first cap =>
  cases fn with
  | func f =>
   simp only[opL]
   exact aP (uf fun cs=>⟨_,rfl⟩) trivial
  | _=>exact trivial
 | call c =>
  obtain⟨callee,args,tys⟩:=c
  cases callee with
  | builtin b=>cases b<;>simp[ao]at h
  | value f=>cases f<;>simp[ao]at h
  | invoke r m=>simp[ao]at h
 | makeInterface t x =>
  rcases vs with _|⟨v,_|⟨v',r⟩⟩<;>first|exact trivial|skip
  simp only[opL]
  split
  ·unfold DT
   refine aP ?_ trivial
   split
   ·exact⟨_,rfl⟩
   ·split
    ·exact fun v=>⟨_,rfl⟩
    ·exact trivial
  ·exact trivial
 | typeAssert x xt t ok =>
  rcases vs with _|⟨v,_|⟨v',r⟩⟩<;>cases ok<;>first|exact trivial|skip
  simp only[opL]
  split
  ·unfold ue
   refine aP ?_ trivial
   split
   ·exact fun v=>⟨_,rfl⟩
   ·exact trivial
  ·exact trivial
 | _=>simp[ao]at h
theorem Dp {op:Op} (h:ao op=.R) (vs:List AV):(opL E id look op vs).All dc:=by
 cases op with
 | load t x =>
  rcases vs with _|⟨v,_|⟨v',r⟩⟩<;>first|exact trivial|skip
  simp only[opL]
  split
  ·unfold AT
   split
   ·refine aP trivial ?_
    split
    ·exact fun v=>⟨_,rfl⟩
    ·exact trivial
   ·split
    ·split
     ·split
      ·exact⟨_,rfl⟩
      ·exact trivial
     ·exact trivial
    ·exact trivial
   ·exact xv
   ·split
    ·refine lW (fun s e=>?_)
     simp only[Prg.All]
     split
     ·exact⟨_,rfl⟩
     ·exact trivial
    ·exact trivial
   ·exact trivial
  ·exact trivial
 | convert xt dt x =>
  rcases vs with _|⟨v,_|⟨v',r⟩⟩<;>first|exact trivial|skip
  simp only[opL]
  split
  ·unfold As
   split
   ·exact trivial
   ·split
    ·exact fun v=>⟨_,rfl⟩
    ·exact trivial
  ·exact trivial
 | binOp op xt x y yt =>
  rcases vs with _|⟨v,_|⟨v',_|⟨v'',r⟩⟩⟩<;>first|exact trivial|skip
  simp only[opL]
  split
  ·unfold EH
   split
   ·split
    ·refine eJ fun cs=>eJ fun cs'=>?_
     split
     ·exact fun v=>⟨_,rfl⟩
     ·exact trivial
    ·exact trivial
   ·unfold E9
    split
    ·exact⟨_,rfl⟩
    ·exact⟨_,rfl⟩
    ·exact trivial
   unfold E6
   refine aP (nT fun x=>nT fun y=>fun v=>⟨_,rfl⟩) ?_
   split
   ·exact fun v=>⟨_,rfl⟩
   ·exact trivial
  ·exact trivial
 | slice t x lo hi mx =>
  have sl:∀{kd:Kd} {sz:Nat} {x:AV} {lo hi:Option AV},(iQ look kd sz x lo hi).All dc:=by
   intro kd sz x lo hi
   unfold iQ
   split
   ·exact fo fun lo=>fo fun hi=>fun v=>⟨_,rfl⟩
   ·split
    ·exact gb fun s n=>fo fun lo=>fo fun hi=>⟨_,rfl⟩
    ·split
     ·exact gb fun s=>fo fun hi=>⟨_,rfl⟩
     ·exact gb fun s=>fo fun lo=>fo fun hi=>⟨_,rfl⟩
    ·exact trivial
  cases mx with
  | some m=>rcases vs with _|⟨v,r⟩<;>exact trivial
  | none =>
   rcases vs with _|⟨v,r⟩
   ·exact trivial
   ·simp only[opL]
    split
    ·split
     ·split<;>first|exact trivial|exact sl
     ·exact trivial
    ·exact trivial
 | indexAddr t x y =>
  rcases vs with _|⟨v,_|⟨v',_|⟨v'',r⟩⟩⟩<;>first|exact trivial|skip
  simp only[opL]
  split
  ·unfold pH
   split
   ·split
    ·exact fun v=>⟨_,rfl⟩
    ·split
     ·exact gb fun s n k=>⟨_,rfl⟩
     ·exact gb fun s k=>⟨_,rfl⟩
     ·exact aP (fun k=>vh) trivial
     ·exact trivial
   ·exact trivial
  ·unfold qY
   split
   ·split
    ·exact aP (fun k=>⟨_,rfl⟩) trivial
    ·exact trivial
   ·exact trivial
 | call c =>
  obtain⟨callee,args,tys⟩:=c
  cases callee with
  | builtin b =>
   have mn:∀{mx:Bool} {x y:AV},(wR mx x y).All dc:=by
    intro mx x y
    unfold wR
    split
    ·exact fun v=>⟨_,rfl⟩
    ·exact trivial
   cases b<;>simp[ao]at h
   all_goals simp only[opL]
   all_goals unfold eD
   all_goals split<;>first|exact trivial|exact mn|contradiction|skip
   split
   ·unfold wZ
    split
    ·exact⟨_,rfl⟩
    ·split
     ·exact⟨_,rfl⟩
     ·exact nT fun s v=>⟨_,rfl⟩
    ·exact nT fun s v=>⟨_,rfl⟩
   ·exact trivial
  | value f=>cases f<;>simp[ao]at h
  | invoke r m=>simp[ao]at h
 | _=>simp[ao]at h
theorem cls_A {op:Op} (h:ao op=.A) (vs:List AV):(opL E id look op vs).All du:=by
 cases op with
 | alloc t =>
  rcases vs with _|⟨v,r⟩<;>first|exact trivial|skip
  simp only[opL]
  split
  ·exact⟨_,_,rfl⟩
  ·exact trivial
 | box t x =>
  rcases vs with _|⟨v,_|⟨v',r⟩⟩<;>first|exact trivial|skip
  simp only[opL]
  split
  ·exact eJ (fun cs=>⟨_,_,rfl⟩)
  ·exact trivial
 | makeSlice t x y =>
  rcases vs with _|⟨v,_|⟨v',_|⟨v'',r⟩⟩⟩<;>first|exact trivial|skip
  simp only[opL]
  split
  ·refine aP ?_ trivial
   exact fun n m=>⟨_,_,rfl⟩
  ·exact trivial
 | call c =>
  obtain⟨callee,args,tys⟩:=c
  cases callee with
  | builtin b=>cases b<;>simp[ao]at h
  | value f=>cases f<;>simp[ao]at h
  | invoke r m=>simp[ao]at h
 | _=>simp[ao]at h
theorem ji {ps:List Prim} {b:BC} {v:AV}:(cU ps b v).plain=true->dc (cU ps b v)\/du (cU ps b v):=by
 cases ps with
 | nil=>exact fun _=>.inr ⟨_,_,rfl⟩
 | cons q l=>exact fun h=>by cases h
theorem uI {ps:List Prim} {v:AV}:(match ps with | []=>Eff.val v|_=>.gen ps v).plain=true->dc (match ps with | []=>Eff.val v|_=>.gen ps v)\/du (match ps with | []=>Eff.val v|_=>.gen ps v):=by
 cases ps with
 | nil=>exact fun _=>.inl ⟨_,rfl⟩
 | cons q l=>exact fun h=>by cases h
theorem sh {d:TyD} {x:TV} {k:Out} (h:k.All p):(pt d x k).All p:=by
 unfold pt
 exact aP h h
theorem qt {x:TV} {k:Out} (h:k.All p):∀(ds:List TyD) (j:Nat),(me x ds j k).All p
 | [],j=>h
 | d::ds,j=>sh (qt h ds (j+1))
theorem xp {ds:List TyD} {v:TV} {ps:List Prim}:(Bt id ds v ps).All fun e=>e.plain=true->dc e\/du e:=by
 have many:∀ds:List TyD,(Prg.chk (v.isTup ds.length) (me v ds 0 (bif j5 ds then .ret (cU ps (.tree (br v ds 0)) (.tups (ew id v ds 0 0)))
   else .ret (match ps with | []=>.val (.tups (ew id v ds 0 0))|_=>.gen ps (.tups (ew id v ds 0 0)))))).All fun e=>e.plain=true->dc e\/du e:=by
  intro ds
  refine qt ?_ ds 0
  exact aP ji uI
 match ds with
 | []=>exact many []
 | [d] =>
  simp only[Bt]
  refine sh ?_
  split
  ·exact aP ji uI
  ·exact trivial
 | d::d'::l=>exact many _
theorem B5 {f:FuncId} {ld:jq} {vs:List AV}:(xq E id look f ld vs).All fun e=>e.plain=true->dc e\/du e:=by
 exact trivial
theorem BI {f:FuncId} {c:Nat × Nat} {vs:List AV}:(wM look f c vs).All fun e=>e.plain=true->dc e\/du e:=by
 exact trivial
theorem BV {f:FuncId} {vs:List AV}:(th look f vs).All fun e=>e.plain=true->dc e\/du e:=by
 exact trivial
theorem CN {f:FuncId} {i:Nat} {vs:List AV}:(El E id look f i vs).All fun e=>e.plain=true->dc e\/du e:=by
 exact trivial
theorem cls_B {op:Op} (h:ao op=.B) (vs:List AV):(opL E id look op vs).All fun e=>e.plain=true->dc e\/du e:=by
 cases op with
 | buildSlice t len parts =>
  simp only[opL]
  refine aP ?_ ?_
  ·exact trivial
  unfold iV
  split
  ·refine sg (fun cs=>?_) _ _ _
   refine aP (fun _=>.inr ⟨_,_,rfl⟩) ?_
   refine eH fun ys qs ts=>?_
   exact aP ji trivial
  ·exact trivial
 | call c =>
  obtain⟨callee,args,tys⟩:=c
  cases callee with
  | builtin b=>cases b<;>simp[ao]at h
  | value f =>
   cases f with
   | func f =>
    rcases vs with _|⟨v,r⟩
    ·exact trivial
    ·simp only[opL,mO]
     refine aP BV (aP trivial ?_)
     split
     ·exact BI
     split
     ·exact B5
     ·split
      ·refine aP ?_ ?_
       ·exact oW fun xs=>fun v=>xp
       ·exact uw fun xs rs=>aP (fun v=>xp) trivial
      ·exact trivial
   | tmp t =>
    rcases vs with _|⟨v,r⟩
    ·exact trivial
    ·simp only[opL]
     split
     ·exact fun f=>oW fun xs v=>fun _=>.inl ⟨_,rfl⟩
     ·split
      ·exact CN
      ·exact trivial
   | _=>simp[ao]at h
  | invoke r m=>simp[ao]at h
 | _=>simp[ao]at h
abbrev isUpd (look:Look) (e:Eff):Prop:=∃i b v,e=.upd i b v/\(look i).isSome=true
theorem DS {op : Op} (h : ao op = .W) (vs : List AV) : (opL E id look op vs).All fun e => e.plain = true → isUpd look e := by
 cases op with
 | store t x y =>
  rcases vs with _|⟨v,_|⟨v',_|⟨v'',r⟩⟩⟩<;>first|exact trivial|skip
  simp only[opL]
  split
  ·unfold wc
   split
   ·refine aP trivial ?_
    split
    ·rename_i cs xs hrow
     refine eJ (fun ps=>?_)
     split
     ·exact fun _=>⟨_,_,_,rfl,by simp[(jj hrow).1]⟩
     ·exact trivial
    ·exact trivial
   ·refine eJ (fun ps=>?_)
    split
    ·rename_i cs hl
     exact aP (fun _=>⟨_,_,_,rfl,by simp[hl]⟩) trivial
    ·exact trivial
   ·refine eJ (fun ps=>?_)
    split
    ·refine aP trivial (aP ?_ ?_)
     ·refine fu fun ys qs ts=>aP ?_ trivial
      exact lW fun s e=>fun x' hp=>by cases hp
     ·refine fu fun ys qs ts=>?_
      split
      ·refine aP ?_ trivial
       refine lW fun s e=>?_
       simp only[Prg.All]
       intro x'
       split
       ·rename_i b hb
        refine fun _=>⟨_,_,_,rfl,?_⟩
        unfold co at hb
        split at hb
        ·rename_i hl;simp[hl]
        ·cases hb
       ·exact trivial
      ·exact trivial
    ·exact trivial
   ·exact trivial
  ·exact trivial
 | call c =>
  obtain⟨callee,args,tys⟩:=c
  cases callee with
  | builtin b=>cases b<;>simp[ao]at h
  | value f=>cases f<;>simp[ao]at h
  | invoke r m=>simp[ao]at h
 | _=>simp[ao]at h
theorem wU {d:TyD} {s:AV} {news:List (List TV)} {ps:List Prim}:(nC id look d s news ps).All fun e=>e.plain=true->dc e\/du e:=by
 unfold nC
 split
 ·exact aP (fun y=>ji) trivial
 ·split
  ·split
   ·split
    ·exact fun y h=>by cases h
    ·exact fun z y x' h=>by cases h
   ·exact trivial
  ·split
   ·split
    ·exact fun z y h=>by cases h
    ·exact fun z0 z y x' h=>by cases h
   ·exact trivial
  ·exact trivial
theorem Di {d:TyD} {dest:Option Nat} {x:AV} {k:List (List TV)->List Prim->Out} (h:∀xs ps,(k xs ps).All p):(yi look d dest x k).All p:=by
 unfold yi
 split
 ·exact fun xs=>h _ _
 ·split
  ·refine aP ?_ ?_
   ·split
    ·split
     ·split
      ·exact aP trivial (fun xs=>h _ _)
      ·exact fun y=>fun xs=>h _ _
     ·exact trivial
    ·split
     ·split
      ·exact aP trivial (fun y xs=>h _ _)
      ·exact fun z y=>fun xs=>h _ _
     ·exact trivial
    ·exact trivial
   ·exact gb (fun s xs=>h _ _)
  ·exact trivial
theorem cls_P {op:Op} (h:ao op=.P) (vs:List AV):(opL E id look op vs).All fun e=>e.plain=true->dc e\/du e:=by
 cases op with
 | call c =>
  obtain⟨callee,args,tys⟩:=c
  cases callee with
  | builtin b =>
   cases b<;>simp[ao]at h
   simp only[opL]
   unfold eD
   split<;>try (first|exact trivial|contradiction)
   split
   ·refine aP ?_ ?_
    ·unfold nM
     exact aP (Di (fun xs ps=>wU)) trivial
    ·split
     ·exact trivial
     ·exact trivial
   ·exact trivial
  | value f=>cases f<;>simp[ao]at h
  | invoke r m=>simp[ao]at h
 | _=>simp[ao]at h
theorem vi {op:Op} (h:ao op=.N\/ao op=.A) (vs:List AV):opL E id look op vs=opL E id look' op vs:=by
 cases op<;>first
  | (rcases vs with _|⟨a,_|⟨b,_|⟨c,_|⟨d,r⟩⟩⟩⟩<;>rfl)
  | (simp[ao]at h;done)
  | (rename_i fn _ _;cases fn<;>rfl)
  | (rename_i ok;cases ok<;>rcases vs with _|⟨a,_|⟨b,r⟩⟩<;>rfl)
  | skip
 all_goals
  rename_i c
  obtain⟨callee,args,tys⟩:=c
  cases callee with
  | builtin b=>cases b<;>simp[ao]at h
  | value f=>cases f<;>simp[ao]at h
  | invoke r m=>simp[ao]at h
end
end Go.Ab
end
section
namespace Go.Ab
open Go.RowKit
def Prg.goes {R:Type} (C:Cal) (J:List Nat->ASt->R->Prop):Prg R->R->Prop
 | .fail,_=>False
 | .ret e',e=>e'=e
 | .tv p k,e=>∃v,p=some v/\(k v).goes C J e
 | .tvs p k,e=>∃v,p=some v/\(k v).goes C J e
 | .rws p k,e=>∃v,p=some v/\(k v).goes C J e
 | .nat p k,e=>∃v,p=some v/\(k v).goes C J e
 | .chk b k,e=>b=true/\k.goes C J e
 | .ite b t f,e=>∃v,b=some v/\((v=true/\t.goes C J e)\/(v=false/\f.goes C J e))
 | .call f xs k,e=>∃v,C f xs v/\(k v).goes C J e
 | .jmp p st,e=>J p st e
theorem Prg.eR {R S:Type} {C:Cal} {J:List Nat->ASt->S->Prop} {f:R->Prg S} {r:S}:∀{p:Prg R},(p.bind f).goes C J r->∃e,p.hits C e/\(f e).goes C J r
 | .fail,h=>h.elim
 | .ret e,h=>⟨e,rfl,h⟩
 | .tv p k,⟨v,h1,h⟩=>by obtain⟨e,h2,h3⟩:=Prg.eR h;exact⟨e,⟨v,h1,h2⟩,h3⟩
 | .tvs p k,⟨v,h1,h⟩=>by obtain⟨e,h2,h3⟩:=Prg.eR h;exact⟨e,⟨v,h1,h2⟩,h3⟩
 | .rws p k,⟨v,h1,h⟩=>by obtain⟨e,h2,h3⟩:=Prg.eR h;exact⟨e,⟨v,h1,h2⟩,h3⟩
 | .nat p k,⟨v,h1,h⟩=>by obtain⟨e,h2,h3⟩:=Prg.eR h;exact⟨e,⟨v,h1,h2⟩,h3⟩
 | .chk b k,⟨h1,h⟩=>by obtain⟨e,h2,h3⟩:=Prg.eR (p:=k) h;exact⟨e,⟨h1,h2⟩,h3⟩
 | .ite b t f,⟨v,h1,.inl ⟨h2,h⟩⟩=>by obtain⟨e,h3,h4⟩:=Prg.eR (p:=t) h;exact⟨e,⟨v,h1,.inl ⟨h2,h3⟩⟩,h4⟩
 | .ite b t f,⟨v,h1,.inr ⟨h2,h⟩⟩=>by obtain⟨e,h3,h4⟩:=Prg.eR (p:=f) h;exact⟨e,⟨v,h1,.inr ⟨h2,h3⟩⟩,h4⟩
 | .call f xs k,⟨v,h1,h⟩=>by obtain⟨e,h2,h3⟩:=Prg.eR h;exact⟨e,⟨v,h1,h2⟩,h3⟩
 | .jmp _ _,h=>h.elim
section
variable {P:Program} {E:Env} {C:Cal} {w0:Bs} {w w':World} {I0 I R:Nat->Prop} {g g':Gh} {st st' s1 s2:ASt} {a:Act} {ov:List Value} {look:Look} {Q:Exit->Act->World->Prop} {id:Nat}
def xd (E:Env) (C:Cal) (i:Item) (s s':ASt):Prop:=∃e,(opL E (s.nid i.o.dst) (banned (aZ i.ban s.base) s.look) i.o.op (i.o.op.operands.toList.map s.ev)).hits C e /\
 (i.dr=true->okE i s e=true)/\e.nfE.app s i.o.dst=some s'
def lA (E:Env) (C:Cal) (i:Item) (s s':ASt):Prop:=∃e,(opL E (s.nid i.o.dst) (banned (aZ i.ban s.base) s.look) i.o.op (i.o.op.operands.toList.map s.ev)).hits C e /\
 (i.dr=true->(e.plain=true/\e.mT s.base i.own=true)/\(ct i.push s i.o.dst e=true/\di i s e=true))/\e.nfE.app s i.o.dst=some s'
def iO (E:Env) (C:Cal) (i:Item) (s s':ASt):Prop:=∃e,(opL E (s.nid i.o.dst) (banned (aZ i.ban s.base) s.look) i.o.op (i.o.op.operands.toList.map s.ev)).hits C e /\
 dj i s e=true/\e.nfE.app s i.o.dst=some s'
def OpN (E:Env) (C:Cal) (ops:List Oper) (i:Item) (s s':ASt):Prop :=
 (bh ops i.o s=some (some true)/\xd E C i s s')\/(∃b,bh ops i.o s=some b/\b≠some true/\s'=dU i.o s)
def OpP (E:Env) (C:Cal) (ops:List Oper) (i:Item) (s s':ASt):Prop :=
 (bh ops i.o s=some (some true)/\lA E C i s s')\/(∃b,bh ops i.o s=some b/\b≠some true/\s'=dU i.o s)
theorem lA.toN {i:Item} (hsh:i.shut=false) {s s':ASt}:lA E C i s s'->xd E C i s s':=fun⟨e,h1,h2,h3⟩=>⟨e,h1,fun hd=>by obtain⟨⟨a,b⟩,c,d⟩:=h2 hd;simp only[okE,a,b,c,d,hsh,Bool.and_self,cond_false,Bool.true_or,Bool.or_true],h3⟩
theorem iO.toN {i:Item} {s s':ASt}:iO E C i s s'->xd E C i s s':=fun⟨e,h1,h2,h3⟩=>⟨e,h1,fun hd=>by simp only[okE,h2,Bool.or_true],h3⟩
theorem OpP.toN {ops:List Oper} {i:Item} (hsh:i.shut=false) {s s':ASt}:OpP E C ops i s s'->OpN E C ops i s s'
 | .inl ⟨h,h'⟩=>.inl ⟨h,h'.toN hsh⟩
 | .inr h=>.inr h
theorem OpN.parts {ops:List Oper} {i:Item} {s s':ASt} (hd:i.dr=true) (hsh:i.shut=false) (hlo:i.loose=false):OpN E C ops i s s'->OpP E C ops i s s'\/(bh ops i.o s=some (some true)/\iO E C i s s')
 | .inr h=>.inl (.inr h)
 | .inl ⟨h, e, h1, h2, h3⟩ => by
  have h2:=h2 hd
  unfold okE at h2
  rw[hlo,hsh,Bool.false_and,Bool.false_or,Bool.or_eq_true]at h2
  rcases h2 with h2|h2
  ·simp only[cond_false,FS]at h2
   exact .inl (.inl ⟨h,e,h1,fun _=>h2,h3⟩)
  ·exact .inr ⟨h,e,h1,h2,h3⟩
theorem BN {i:Item} {s:ASt} {e:Eff} (h:okE i s e.nfE=true):okE i s e=true:=by
 unfold okE at h ⊢
 rw[Bool.or_eq_true]at h ⊢
 rcases h with h|h
 ·refine .inl ?_
  have:cD i s e.nfE=cD i s e:=by unfold cD;simp only[pM,zo,sU]
  rwa[this]at h
 refine .inr ?_
 rw[Bool.or_eq_true]at h ⊢
 rcases h with h|h
 ·rw[oI,xe]at h
  have:ct i.push s i.o.dst e.nfE=ct i.push s i.o.dst e:=by unfold ct;rw[cr]
  rw[this]at h
  have e2:hH i s e.nfE=hH i s e:=by unfold hH;rw[kE,cr]
  have e3:di i s e.nfE=di i s e:=by unfold di;rw[cr,qa]
  rw[e2,e3]at h
  exact .inl h
 ·refine .inr ?_
  unfold dj at h ⊢
  split at h
  ·rename_i s' j y h1 h2
   have he:=i8 h2
   have:e=e.nfE:=by
    cases e with
    | gen ps v =>
     simp only[Eff.nfE,Eff.gen.injEq]at he
     rcases aL v with h|⟨b,h,_⟩
     ·show Eff.gen ps v=Eff.gen ps v.nf
      rw[h]
     ·rw[h]at he;cases he.2
    | _=>simp only[Eff.nfE,reduceCtorEq]at he
   rw[this,h1,h2]
   exact h
  ·cases h
inductive BL (E:Env) (C:Cal) (ops:List Oper):List Item->ASt->ASt->Prop
 | nil (s:ASt):BL E C ops [] s s
 | cons {i:Item} {l:List Item} {s s1 s':ASt} (h:OpN E C ops i s s1) (r:BL E C ops l s1 s'):BL E C ops (i::l) s s'
theorem qr {v:TV} {b:Bool} (h:asBool v=some b):v=.lit (.bool b):=by
 unfold asBool at h
 split at h
 ·simp only[FR]at h;subst h;rfl
 ·cases h
theorem zr {T:Type} {J:List Nat->ASt->T->Prop} {i:Item} {K:ASt->Prg T} {r:T} (h:(mM E i K st).goes C J r):∃st1,xd E C i st.nfS st1.nfS/\(K st1).goes C J r:=by
 unfold mM at h
 obtain⟨e,h1,h2⟩:=Prg.eR h
 obtain⟨e',h3,h4⟩:=opL_nf h1
 unfold effQ at h2
 cases hc:i.dr && !(okE i st e)with
 | true=>rw[hc]at h2;exact h2.elim
 | false =>
  rw[hc]at h2
  simp only[cond_false]at h2
  split at h2
  ·rename_i st1 ha
   refine⟨st1,⟨e',?_,fun hd=>?_,?_⟩,h2⟩
   ·have:i.o.op.operands.toList.map st.nfS.ev=(i.o.op.operands.toList.map st.ev).map AV.nf:=by
     rw[List.map_map]
     apply List.map_congr_left
     intro x _
     exact rQ st x
    rw[this,wj,nQ,lG]
    exact h3
   ·refine BN ?_
    rw[h4]
    exact okE_nf (by simpa[hd]using hc)
   ·rw[h4]
    exact app_nf ha
  ·exact h2.elim
theorem qi {g:Nat} {v v':AV} (h:nth (.one .junk) st.slots g=v) (hv:v.nf=v'.nf):(st.put (some g) v').nfS=st.nfS:=by
 rw[kw]
 simp only[ASt.put]
 have:ai st.nfS.slots g v'.nf=st.nfS.slots:=by
  rw[ah]
  apply List.ext_getElem?
  intro t
  rw[List.getElem?_set]
  by_cases ht:g=t
  ·subst ht
   cases hs:st.slots[g]? with
   | none =>
    have:st.nfS.slots[g]? = none:=by simp[ASt.nfS,hs]
    have hlt:¬g<st.nfS.slots.length:=by
     intro hlt
     rw[FQ hlt]at this
     cases this
    simp[hlt]
   | some u =>
    rw[b7 hs]at h
    subst h
    have hlt:g<st.nfS.slots.length:=by simp[ASt.nfS];exact(FP.1 hs).1
    simp only[if_true,hlt]
    rw[<-hv]
    simp[ASt.nfS,hs]
  ·simp[ht]
 rw[this]
theorem lz {T:Type} {J:List Nat->ASt->T->Prop} {ops:List Oper} {i:Item} {K:ASt->Prg T} {r:T} (h:(opQ E ops i K st).goes C J r):∃st1,OpN E C ops i st.nfS st1.nfS/\(K st1).goes C J r:=by
 unfold opQ at h
 have skip:∀{s:ASt} {b:Option Bool},s.nfS=st.nfS->bh ops i.o st.nfS=some b->b≠some true->(K (dU i.o s)).goes C J r->∃st1,OpN E C ops i st.nfS st1.nfS/\(K st1).goes C J r:=by
  intro s b he hg hb hk
  refine⟨_,.inr ⟨b,hg,hb,?_⟩,hk⟩
  simp only[dU]
  rw[kw,he]
  rfl
 have run:∀{s:ASt},s.nfS=st.nfS->bh ops i.o st.nfS=some (some true)->(mM E i K s).goes C J r->∃st1,OpN E C ops i st.nfS st1.nfS/\(K st1).goes C J r:=by
  intro s he hg hk
  obtain⟨st1,h1,h2⟩:=zr hk
  rw[he]at h1
  exact⟨st1,.inl ⟨hg,h1⟩,h2⟩
 cases hg:i.o.guard with
 | none =>
  simp only[hg]at h
  exact run rfl (by simp[bh,hg]) h
 | some q =>
  obtain⟨j,want⟩:=q
  simp only[hg]at h
  cases hd:(ops[j]?).bind (·.dst)with
  | none=>simp only[hd]at h;exact h.elim
  | some g =>
   simp only[hd]at h
   have gv:∀{v:AV},nth (.one .junk) st.slots g=v->bh ops i.o st.nfS=(match v.nf with | .one .undef=>some none | .bl b=>some (some (b==want))|_=>none):=by
    intro v hv
    simp only[bh,hg,hd,oN,hv]
    generalize v.nf=u
    cases u with
    | one c=>cases c<;>rfl
    | _=>rfl
   have ite:∀{v:TV} {x y:Prg T},(Prg.ite (asBool v) x y).goes C J r->∃b,v=.lit (.bool b)/\(bif b then x else y).goes C J r:=by
    rintro v x y ⟨b,hb,h⟩
    refine⟨b,qr hb,?_⟩
    rcases h with⟨rfl,h⟩|⟨rfl,h⟩<;>exact h
   cases hs:nth (.one .junk) st.slots g with
   | one c =>
    simp only[hs]at h
    cases c with
    | undef=>exact skip rfl (by rw[gv hs];rfl) (by simp) h
    | t v =>
     obtain⟨b,rfl,h'⟩:=ite h
     have he:(st.put (some g) (.bl b)).nfS=st.nfS:=qi hs rfl
     have hgd:=gv hs
     simp only[AV.nf]at hgd
     cases b<;>cases want<;>simp only[cond_true,cond_false]at h'
     ·exact run he (by rw[hgd];rfl) h'
     ·exact skip (b:=some false) he (by rw[hgd];rfl) (by simp) h'
     ·exact skip (b:=some false) he (by rw[hgd];rfl) (by simp) h'
     ·exact run he (by rw[hgd];rfl) h'
    | _=>exact h.elim
   | agg cs=>simp only[hs]at h;exact h.elim
   | tups cs=>simp only[hs]at h;exact h.elim
   | clo _ cs=>simp only[hs]at h;exact h.elim
   | tv v =>
    simp only[hs]at h
    obtain⟨b,rfl,h'⟩:=ite h
    have he:(st.put (some g) (.bl b)).nfS=st.nfS:=qi hs rfl
    have hgd:=gv hs
    simp only[AV.nf]at hgd
    cases b<;>cases want<;>simp only[cond_true,cond_false]at h'
    ·exact run he (by rw[hgd];rfl) h'
    ·exact skip (b:=some false) he (by rw[hgd];rfl) (by simp) h'
    ·exact skip (b:=some false) he (by rw[hgd];rfl) (by simp) h'
    ·exact run he (by rw[hgd];rfl) h'
   | bl b =>
    simp only[hs]at h
    have hgd:=gv hs
    simp only[AV.nf]at hgd
    cases b<;>cases want<;>simp only[cond_true,cond_false]at h
    ·exact run rfl (by rw[hgd];rfl) h
    ·exact skip (b:=some false) rfl (by rw[hgd];rfl) (by simp) h
    ·exact skip (b:=some false) rfl (by rw[hgd];rfl) (by simp) h
    ·exact run rfl (by rw[hgd];rfl) h
theorem jE {T:Type} {J:List Nat->ASt->T->Prop} {ops:List Oper} {K:ASt->Prg T} {r:T}:∀{l:List Item} {st:ASt},(DB E ops l K st).goes C J r->∃fin,BL E C ops l st.nfS fin.nfS/\(K fin).goes C J r
 | [],st,h=>⟨st,.nil _,h⟩
 | i::l,st,h=>by
  simp only[DB,kg]at h
  obtain⟨st1,h1,h2⟩:=lz h
  obtain⟨fin,h3,h4⟩:=jE h2
  exact⟨fin,.cons h1 h3,h4⟩
theorem oV (ban:List Nat) (st:ASt):∀i b,banned ban st.look i=some b->st.look i=some b:=fun i b h=>by
 unfold banned at h
 cases hm:bF i ban with
 | true=>simp[hm]at h
 | false=>simpa[hm]using h
theorem mU {ops:Array Oper} {o:Oper} {j:Nat} {want:Bool} {t:Tmp} (hg:(ops[j]?).bind (·.dst)=some t) (hs:al w0 I0 R g st a ov w) {b:Option Bool} (hv:bh ops.toList o st=some b) (ho:o.guard=some (j,want)) :
  (Region.wanted o (yielded ops a.tmps)=true ↔ b=some true):=by
 have hg':(ops.toList[j]?).bind (·.dst)=some t:=by rw[FU];exact hg
 simp only[bh,ho,hg']at hv
 simp only[Region.wanted,ho,yielded,hg,Option.bind_some]
 cases hsl:st.slots[t]? with
 | none=>rw[bi,hsl]at hv;simp at hv
 | some v =>
  have hrep:=hs.slots t v hsl
  have hlt:t<a.tmps.size:=by rw[hs.len];exact(FP.1 hsl).1
  have hget:a.tmps[t]? = some (a.tmps.getD t undef):=by simp[hlt]
  rw[b7 hsl]at hv
  obtain⟨u,hu⟩:∃u,u=a.tmps.getD t undef:=⟨_,rfl⟩
  rw[<-hu]at hrep hget
  rw[hget]
  split at hv
  ·simp only[FR]at hv
   subst hv
   have:u=undef:=hrep
   subst this
   simp[undef]
  ·simp only[FR]at hv
   subst hv
   have:u=.bool _:=hrep
   subst this
   simp
  ·cases hv
def Rd (ro:Option Nat):Fence:={ Fence.wide with round:=ro }
theorem rd_in {ro:Option Nat} {P:Program} {m m':Machine}:StepsIn (Machine.fenced P (Rd ro)) P m m' ↔ Steps P m m':=stepsIn_wide
theorem iS {ro:Option Nat} {n:Nat} {P:Program} {f:FuncId} {args:Array Value} {w:World} {R:Ending->World->Prop}:CallsIn (Rd ro) n P f args w R ↔ Calls P f args w R:=callsIn_wide
theorem Fa {ro:Option Nat} (n:Nat):(Rd ro).room n:=room_wide n
theorem zq {ro:Option Nat} {o:Oper} (hd:∀c,o.op≠.defer c) {a:Act} {w:World} {next:Act->World->Prop} {Q:Exit->Act->World->Prop} (h:o.wp P a w next Q):o.wpIn (Rd ro) 0 P a w next Q:=by
 refine⟨fun _ _=>trivial,?_⟩
 rw[Oper.semAt_eq _ _ _ hd]
 unfold Oper.wp at h
 generalize (execOp a.eval o).run P w=r at *
 cases r with
 | ok x w' =>
  cases x<;>simp only[Oper.upon]at h<;>simp only[Oper.uponIn] <;>
   first
    | exact h
    | exact⟨fun h=>by simp[Rd,Fence.wide]at h,iS.2 h⟩
    | exact⟨fun h=>by simp[Rd,Fence.wide]at h,fun c cs _=>by obtain⟨v,w',r,s⟩:=h c cs;exact⟨v,w',r,rd_in.2 s⟩⟩
 | halt x w'=>cases x<;>simp only[Oper.upon]at h<;>simp only[Oper.uponIn]<;>exact h
theorem mA (hE:gh P w0.G E C) {ops:Array Oper} {n:Nat} {i:Item} (hn:ops[n]? = some i.o) (hs:Sim w0 I0 st a ov w) (h:OpN E C ops.toList i st st') {ro:Option Nat}:wpOpIn (Rd ro) 0 P ops Q n (fun a' w'=>Sim w0 I0 st' a' ov w') a w:=by
 obtain⟨g,hs⟩:=hs
 unfold wpOpIn
 rw[hn]
 simp only[]
 have run:xd E C i st st'->i.o.wpIn (Rd ro) 0 P a w (fun a' w'=>Sim w0 I0 st' a' ov w') Q:=fun⟨e,h1,_,h3⟩=>by
  obtain⟨st1,h4,h5⟩:=Aq h3
  refine zq (fun c hc=>?_) (Oper.wp_mono (fun a' w' hh=>h5 w0 I0 a' ov w' hh) (Dq hE (oV _ st) hs h1 h4))
  rw[hc]at h1
  simp only[opL]at h1
  exact h1.elim
 have skip:st'=dU i.o st->Sim w0 I0 st' (a.put i.o.dst undef) ov w:=fun h=>by
  subst h
  exact⟨g,hs.put i.o.dst (v:=.one .undef) rfl⟩
 cases hg:i.o.guard with
 | none =>
  have hw:Region.wanted i.o (yielded ops a.tmps)=true:=by simp[Region.wanted,hg]
  rw[if_pos hw]
  rcases h with⟨_,h⟩|⟨b,hb,hne,_⟩
  ·exact run h
  ·simp[bh,hg]at hb
   exact absurd hb.symm hne
 | some q =>
  obtain⟨j,want⟩:=q
  cases hd:(ops[j]?).bind (·.dst)with
  | none =>
   have hd':(ops.toList[j]?).bind (·.dst)=none:=by rw[FU];exact hd
   rcases h with⟨h,_⟩|⟨b,hb,_⟩
   ·simp only[bh,hg,hd']at h;cases h
   ·simp only[bh,hg,hd']at hb;cases hb
  | some t =>
   rcases h with⟨hv,h⟩|⟨b,hv,hne,h⟩
   ·rw[if_pos ((mU hd hs hv hg).2 rfl)]
    exact run h
   ·rw[if_neg (fun hw=>hne ((mU hd hs hv hg).1 hw))]
    exact⟨fun _ _=>trivial,skip h⟩
theorem cu {t:Nat}:∀{l:List Operand},.tmp t∈l->t∈dZ l
 | x :: l, h => by
  rcases List.mem_cons.1 h with rfl|h
  ·simp[dZ]
  ·have:=cu h
   cases x<;>simp[dZ,this]
theorem bn {d:Option Nat} {l:List Nat} (h:dV d l=true):∀t,d=some t->t∉l:=fun t ht hm=>by
 subst ht
 simp only[dV,Bool.not_eq_true',]at h
 rw[(bL _ _).2 hm]at h
 cases h
def jr (d:Option Nat) (s t:ASt):Prop:=s.slots.length=t.slots.length/\∀k,d≠some k->nth (.one .junk) s.slots k=nth (.one .junk) t.slots k
theorem eY (st:ASt) (d:Option Tmp) (v:AV) (k:Nat) (h:d≠some k):nth (.one .junk) (st.put d v).slots k=nth (.one .junk) st.slots k:=by
 cases d with
 | none=>rfl
 | some d =>
  have:d≠k:=fun e=>h (by rw[e])
  simp only[ASt.put,ah,bi,List.getElem?_set,this,if_false]
theorem Et {d:Option Nat} {s t:ASt} (h:jr d s t) {x:Operand} (hx:∀k,x=.tmp k->d≠some k):s.ev x=t.ev x:=by
 cases x with
 | tmp k=>exact h.2 k (hx k rfl)
 | const v=>cases v<;>rfl
 | _=>rfl
theorem eG {d:Option Nat} {s t:ASt} (h:jr d s t) {l:List Operand} (hx:dV d (dZ l)=true):l.map s.ev=l.map t.ev:=by
 apply List.map_congr_left
 intro x hxl
 refine Et h (fun k hk e=>?_)
 subst hk
 exact bn hx k e (cu hxl)
theorem kB {d:Option Nat} {s t:ASt} {ops:List Oper} {o:Oper} (h:jr d s t) (hx:dV d (oT ops o)=true):bh ops o s=bh ops o t:=by
 unfold bh
 cases hg:o.guard with
 | none=>rfl
 | some q =>
  obtain⟨j,want⟩:=q
  simp only[]
  cases hd:(ops[j]?).bind (·.dst)with
  | none=>rfl
  | some g =>
   have:nth (.one .junk) s.slots g=nth (.one .junk) t.slots g:=h.2 g (fun e=>bn hx g e (by simp[oT,hg,hd]))
   simp only[this]
theorem ql (n:Nat):∀(a b:List Nat),bF n (a++b)=(bF n a||bF n b)
 | [],b=>rfl
 | x::a,b=>by
  simp only[List.cons_append,bF]
  cases x.beq n<;>simp[ql n a b]
theorem aA {d:Option Nat} {a b:List Nat} (h:dV d (a++b)=true):dV d a=true/\dV d b=true:=by
 cases d with
 | none=>exact⟨rfl,rfl⟩
 | some d =>
  simp only[dV,ql,Bool.not_or,FS]at h
  exact h
theorem cC {b:BC} {v:AV} {d:Option Tmp} (ha:(Eff.new b v).app st d=some st'):∃d',d=some d'/\st.look (st.nid d)=none/\st.nid d<st.boxes.length/\st'=(st.ac (st.nid d) (some b)).put d v:=by
 cases d with
 | none=>simp[Eff.app]at ha
 | some d =>
  simp only[Eff.app]at ha
  split at ha
  ·rename_i s1 hs1
   obtain⟨h1,h2,rfl⟩:=bu hs1
   simp only[FR]at ha
   exact⟨d,rfl,h1,h2,ha.symm⟩
  ·cases ha
theorem jg {b:BC} {v:AV} {d:Tmp} (h1:st.look (st.nid (some d))=none) (h2:st.nid (some d)<st.boxes.length):(Eff.new b v).app st (some d)=some ((st.ac (st.nid (some d)) (some b)).put (some d) v):=by
 have h2':(st.nid (some d)).blt st.boxes.length=true:=by simpa using h2
 simp only[Eff.app,ASt.bC,h1,h2',cond_true]
theorem gB {e:Eff} {d:Option Nat} (hp:e.plain=true) (ha:e.app st d=some st'):jr d st' st/\st'.boxes.length=st.boxes.length/\st'.out=st.out:=by
 cases e with
 | val v =>
  simp only[Eff.app,FR]at ha
  subst ha
  refine⟨⟨?_,fun k hk=>eY st d v k hk⟩,by rw[bU],by rw[ki]⟩
  cases d<;>simp[ASt.put,ah]
 | new b v =>
  obtain⟨dd,rfl,hl,hlt,rfl⟩:=cC ha
  refine⟨⟨?_,fun k hk=>?_⟩,by rw[bU];simp[ASt.ac,ah],by rw[ki];rfl⟩
  ·simp[ASt.put,ASt.ac,ah]
  ·rw[eY _ _ _ _ hk];rfl
 | upd i b v =>
  simp only[Eff.app,FR]at ha
  subst ha
  refine⟨⟨?_,fun k hk=>?_⟩,by rw[bU];simp[ASt.ac,ah],by rw[ki];rfl⟩
  ·cases d<;>simp[ASt.put,ASt.ac,ah]
  ·rw[eY _ _ _ _ hk];rfl
 | _=>simp[Eff.plain]at hp
inductive Move (c:Cls) (st:ASt):Eff->Prop
 | val (v:AV) (h:c=.N\/c=.R\/c=.B\/c=.P):Move c st (.val v)
 | new (b:BC) (v:AV) (h:c=.A\/c=.B\/c=.P):Move c st (.new b v)
 | upd (i:Nat) (b:BC) (v:AV) (h:c=.W) (hl:(st.look i).isSome=true):Move c st (.upd i b v)
theorem Move.nf {c:Cls} {e:Eff} (h:Move c st e):Move c st e.nfE:=by
 cases h with
 | val v h=>exact .val _ h
 | new b v h=>exact .new _ _ h
 | upd i b v h hl=>exact .upd _ _ _ h hl
theorem re {op:Op} {ban:List Nat} {vs:List AV} {e:Eff} (hx:(ao op).isX=false) (hp:e.plain=true) (hh:(opL E id (banned ban st.look) op vs).hits C e):Move (ao op) st e:=by
 cases hc:ao op with
 | N=>obtain⟨v,rfl⟩:=(Am hc vs).hits hh;exact .val v (.inl rfl)
 | R=>obtain⟨v,rfl⟩:=(Dp hc vs).hits hh;exact .val v (.inr (.inl rfl))
 | A=>obtain⟨b,row,rfl⟩:=(cls_A hc vs).hits hh;exact .new b row (.inl rfl)
 | B =>
  rcases(cls_B hc vs).hits hh hp with⟨v,rfl⟩|⟨b,v,rfl⟩
  ·exact .val v (.inr (.inr (.inl rfl)))
  ·exact .new b v (.inr (.inl rfl))
 | P =>
  rcases(cls_P hc vs).hits hh hp with⟨v,rfl⟩|⟨b,v,rfl⟩
  ·exact .val v (.inr (.inr (.inr rfl)))
  ·exact .new b v (.inr (.inr rfl))
 | W =>
  obtain⟨i,b,v,rfl,hl⟩:=(DS hc vs).hits hh hp
  obtain⟨c,hc'⟩:=Option.isSome_iff_exists.1 hl
  exact .upd i b v rfl (by rw[oV ban st i c hc'];rfl)
 | X=>simp[hc,Cls.isX]at hx
theorem uC {a b:Nat} (h:a≠b):unlike (some a) (some b)=true:=by
 simp only[unlike,Bool.not_eq_true']
 cases hb:a.beq b with
 | false=>rfl
 | true=>exact absurd ((az _ _).1 hb) h
theorem gT {a b:Option Nat} (h:unlike a b=true):unlike b a=true:=by
 cases a with
 | none=>cases b<;>rfl
 | some p =>
  cases b with
  | none=>rfl
  | some q=>exact uC (fun e=>by subst e;simp[unlike]at h)
theorem er (st:ASt) {d d':Option Nat} (h:unlike d d'=true) (u v:AV):(st.put d u).put d' v=(st.put d' v).put d u:=by
 cases d with
 | none=>rfl
 | some d =>
  cases d' with
  | none=>rfl
  | some d' =>
   have hne:d≠d':=fun e=>by subst e;simp[unlike]at h
   simp only[ASt.put,ah]
   rw[List.set_comm _ _ hne]
theorem fF (st:ASt) {i j:Nat} (h:i≠j) (b c:Option BC):(st.ac i b).ac j c=(st.ac j c).ac i b:=by
 simp only[ASt.ac,ah]
 rw[List.set_comm _ _ h]
theorem aO (st:ASt) (i:Nat) (b:Option BC) (d:Option Nat) (v:AV):(st.put d v).ac i b=(st.ac i b).put d v:=by cases d<;>rfl
theorem a7 (st:ASt) (d d':Option Tmp) (v:AV):(st.put d v).nid d'=st.nid d':=by cases d'<;>simp[ASt.nid,ki]
theorem bm (st:ASt) (i:Nat) (b:Option BC) (d':Option Tmp):(st.ac i b).nid d'=st.nid d':=by cases d'<;>rfl
theorem nid_ne {d d':Nat} (h:d≠d'):st.nid (some d)≠st.nid (some d'):=by simp only[ASt.nid];omega
theorem lN {e:Eff} {d:Option Nat} {c:Cls} (hm:Move c st e) (ha:e.app st d=some s1) :
  (∀j,(∃v,e=.val v)->s1.look j=st.look j)/\(∀j b row,e=.new b row->s1.look j=if st.nid d=j then some b else st.look j)/\(∀j i b v,e=.upd i b v->s1.look j=if i=j then some b else st.look j):=by
 refine⟨fun j ⟨v,hv⟩=>?_,fun j b row hb=>?_,fun j i b v hu=>?_⟩
 ·subst hv
  simp only[Eff.app,FR]at ha
  subst ha
  rw[bo]
 ·subst hb
  obtain⟨dd,rfl,hl,hlt,rfl⟩:=cC ha
  rw[bo,ag]
  by_cases h:st.nid (some dd)=j
  ·subst h;simp[hlt]
  ·simp[h]
 ·subst hu
  simp only[Eff.app,FR]at ha
  subst ha
  rw[bo,ag]
  cases hm with
  | upd _ _ _ _ hl =>
   obtain⟨c,hc⟩:=Option.isSome_iff_exists.1 hl
   by_cases h:i=j
   ·subst h;simp[gF hc]
   ·simp[h]
theorem eP {ban:List Nat} {s t:ASt} (h:∀j,j∉ban->s.look j=t.look j):banned ban s.look=banned ban t.look:=by
 funext j
 unfold banned
 cases hm:bF j ban with
 | true=>rfl
 | false=>simp only[cond_false];exact h j (fun e=>by rw[(bL _ _).2 e]at hm;cases hm)
theorem CT {cx cy:Cls} {dx dy:Option Nat} {ex ey:Eff} (hu:unlike dx dy=true) (mx:Move cx st ex) (my:Move cy s1 ey) (hx:ex.app st dx=some s1) (hy:ey.app s1 dy=some s2)
  (hb:∀i b v,ey=.upd i b v->(∃b row,ex=.new b row)->st.nid dx≠i) (hw:∀i b v i' b' v',ex=.upd i b v->ey=.upd i' b' v'->i≠i'):∃s1',ey.app st dy=some s1'/\ex.app s1' dx=some s2:=by
 cases mx with
 | val u hc =>
  simp only[Eff.app,FR]at hx
  subst hx
  cases my with
  | val v hc' =>
   simp only[Eff.app,FR]at hy
   subst hy
   exact⟨_,rfl,by simp only[Eff.app];rw[er st hu]⟩
  | new b v hc' =>
   obtain⟨d,rfl,hl,hlt,rfl⟩:=cC hy
   rw[bo,a7]at hl
   rw[bU,a7]at hlt
   refine⟨_,jg hl hlt,?_⟩
   simp only[Eff.app,FR]
   rw[aO,er _ hu,a7]
  | upd i b v hc' hl =>
   simp only[Eff.app,FR]at hy
   subst hy
   refine⟨_,rfl,?_⟩
   simp only[Eff.app,FR]
   rw[aO,er _ hu]
 | new b u hc =>
  obtain⟨d,rfl,hl,hlt,rfl⟩:=cC hx
  have hlk:∀j,((st.ac (st.nid (some d)) (some b)).put (some d) u).look j=if st.nid (some d)=j then some b else st.look j:=fun j=>by
   rw[bo,ag]
   by_cases h:st.nid (some d)=j
   ·rw[if_pos ⟨h,hlt⟩,if_pos h]
   ·rw[if_neg (fun h'=>h h'.1),if_neg h]
  cases my with
  | val v hc' =>
   simp only[Eff.app,FR]at hy
   subst hy
   refine⟨_,rfl,?_⟩
   rw[jg (by rw[bo,a7];exact hl) (by rw[bU,a7];exact hlt),a7,aO,er _ hu]
  | new b' v hc' =>
   obtain⟨d',rfl,hl',hlt',rfl⟩:=cC hy
   have hne:d≠d':=fun e=>by subst e;simp[unlike]at hu
   have hni:st.nid (some d)≠st.nid (some d'):=nid_ne hne
   rw[a7,bm]at hl' hlt'
   rw[hlk,if_neg hni]at hl'
   have hlt2:st.nid (some d')<st.boxes.length:=by rw[bU]at hlt';simpa[ASt.ac,ah]using hlt'
   refine⟨_,jg hl' hlt2,?_⟩
   rw[jg (by rw[bo,a7,bm,ag,if_neg (fun h=>hni h.1.symm)];exact hl) (by rw[bU,a7,bm];simpa[ASt.ac,ah]using hlt)]
   rw[a7,bm,a7,bm,aO,aO,fF _ hni,er _ (d:=some d) (d':=some d') hu]
  | upd i b' v hc' hl' =>
   simp only[Eff.app,FR]at hy
   subst hy
   have hid:=hb i b' v rfl ⟨b,u,rfl⟩
   refine⟨_,rfl,?_⟩
   rw[jg (by rw[bo,a7,bm,ag,if_neg (fun h=>hid h.1.symm)];exact hl) (by rw[bU,a7,bm];simpa[ASt.ac,ah]using hlt)]
   rw[a7,bm,aO,aO,fF _ hid,er _ (d:=some d) (d':=dy) hu]
 | upd i b u hc hl =>
  simp only[Eff.app,FR]at hx
  subst hx
  subst hc
  cases my with
  | val v hc' =>
   simp only[Eff.app,FR]at hy
   subst hy
   refine⟨_,rfl,?_⟩
   simp only[Eff.app,FR]
   rw[aO,er _ hu]
  | new b' v hc' =>
   obtain⟨d',rfl,hl',hlt',rfl⟩:=cC hy
   rw[a7,bm]at hl' hlt'
   rw[bo,ag]at hl'
   obtain⟨c,hc2⟩:=Option.isSome_iff_exists.1 hl
   have hlt2:st.nid (some d')<st.boxes.length:=by rw[bU]at hlt';simpa[ASt.ac,ah]using hlt'
   have hne:i≠st.nid (some d'):=fun e=>by rw[if_pos ⟨e,gF hc2⟩]at hl';cases hl'
   have hl3:st.look (st.nid (some d'))=none:=by
    rw[if_neg (fun h=>hne h.1)]at hl';exact hl'
   refine⟨_,jg hl3 hlt2,?_⟩
   simp only[Eff.app,FR]
   rw[a7,bm,aO,aO,fF _ hne,er _ (d:=some d') (d':=dx) (gT hu)]
  | upd i' b' v hc' hl' =>
   have hne:=hw i b u i' b' v rfl rfl
   simp only[Eff.app,FR]at hy
   subst hy
   refine⟨_,rfl,?_⟩
   simp only[Eff.app,FR]
   rw[aO,aO,fF _ hne,er _ hu]
theorem vN {p:Prop} [Decidable p] {c d:Cls} (h:(if p then c else .N)=d) (hd:d≠.N):c=d:=by
 by_cases hp:p
 ·rwa[if_pos hp]at h
 ·rw[if_neg hp]at h;exact absurd h.symm hd
theorem pN {p:Prop} [Decidable p] {c:Cls} (h:(if p then c else .N)=.A\/(if p then c else .N)=.B\/(if p then c else .N)=.P):c.makes=true:=by
 rcases h with h|h|h<;>rw[vN h (by simp)]<;>rfl
theorem kz {ps:List Nat} {s t:ASt} {d:Option Nat} {e:Eff} (hb:s.base=t.base) (h:∀k,d=some k->nth (.one .junk) s.slots k=nth (.one .junk) t.slots k):ct ps s d e=ct ps t d e:=by
 unfold ct
 congr 1
 funext k
 cases d with
 | none=>rw[hb]
 | some d=>simp only[hb,h d rfl]
theorem iK {i:Item} {s t:ASt} {e:Eff} (hb:s.base=t.base) (hd:∀k,i.o.dst=some k->nth (.one .junk) s.slots k=nth (.one .junk) t.slots k) (h:i.o.op.operands.toList.map s.ev=i.o.op.operands.toList.map t.ev):di i s e=di i t e:=by
 unfold di
 have:∀b,jw s i.o.dst b=jw t i.o.dst b:=fun b=>by
  cases hk:i.o.dst with
  | none=>rfl
  | some d=>simp only[jw,hd d hk]
 have hD:∀b,gU s i.o.dst b=gU t i.o.dst b:=fun b=>by
  cases hk:i.o.dst with
  | none=>rfl
  | some d=>simp only[gU,hd d hk]
 simp only[hb,h,this,hD]
theorem fH {a b:Option Nat} (h:unlike a b=true):∀k,b=some k->a≠some k:=fun k hk e=>by subst hk;subst e;simp[unlike]at h
theorem C3 {ops : List Oper} {x y : Item} (hap : cH ops x.o y.o = true) (hxd : x.dr = true) (hyd : y.dr = true) (hxx : (ao x.o.op).isX = false) (hyx : (ao y.o.op).isX = false)
  (hbx:(ao x.o.op).makes=true->∀d,x.o.dst=some d->d∈y.ban.1) (hby:(ao y.o.op).makes=true->∀d,y.o.dst=some d->d∈x.ban.1)
  (hox:(ao y.o.op).reads=true->y.ban∈x.own) (hoy:(ao x.o.op).reads=true->x.ban∈y.own) (h1:OpP E C ops x st s1) (h2:OpP E C ops y s1 s2) :
  ∃s1',OpP E C ops y st s1'/\OpP E C ops x s1' s2:=by
 simp only[cH,FS]at hap
 obtain⟨⟨⟨⟨hg,hfx⟩,hfy⟩,hu⟩,_⟩:=hap
 obtain⟨hfx1,hfx2⟩:=aA hfx
 obtain⟨hfy1,hfy2⟩:=aA hfy
 have hu':unlike y.o.dst x.o.dst=true:=gT hu
 have dec:∀{i:Item} {s s':ASt},i.dr=true->(ao i.o.op).isX=false->OpP E C ops i s s'->∃e,(bh ops i.o s=some (some true)->ct i.push s i.o.dst e=true/\di i s e=true)/\Move (if bh ops i.o s=some (some true)then ao i.o.op else .N) s e/\e.nfE.app s i.o.dst=some s' /\
   ((bh ops i.o s=some (some true)/\(opL E (s.nid i.o.dst) (banned (aZ i.ban s.base) s.look) i.o.op (i.o.op.operands.toList.map s.ev)).hits C e/\(e.plain=true/\e.mT s.base i.own=true))\/(∃b,bh ops i.o s=some b/\b≠some true/\e=.val (.one .undef))):=by
  intro i s s' hd hx h
  rcases h with⟨hg,e,k1,k2,k3⟩|⟨b,hg,hb,h⟩
  ·refine⟨e,fun _=>(k2 hd).2,?_,k3,.inl ⟨hg,k1,(k2 hd).1⟩⟩
   rw[if_pos hg]
   exact re hx (k2 hd).1.1 k1
  ·refine⟨.val (.one .undef),fun h=>absurd (Option.some.inj (hg.symm.trans h)) hb,?_,?_,.inr ⟨b,hg,hb,rfl⟩⟩
   ·rw[if_neg (by rw[hg];simpa using hb)]
    exact .val _ (.inl rfl)
   ·rw[h];rfl
 obtain⟨ex,cx,mx,ax,hx⟩:=dec hxd hxx h1
 obtain⟨ey,cy,my,ay,hy⟩:=dec hyd hyx h2
 have px:ex.nfE.plain=true:=by rw[oI];cases mx<;>rfl
 have py:ey.nfE.plain=true:=by rw[oI];cases my<;>rfl
 obtain⟨sb1,_,so1⟩:=gB px ax
 have hb1:s1.base=st.base:=by simp[ASt.base,so1]
 have hn1:∀d,s1.nid d=st.nid d:=fun d=>by cases d<;>simp[ASt.nid,so1]
 have hgy:bh ops y.o s1=bh ops y.o st:=kB sb1 hfx1
 have hvy:y.o.op.operands.toList.map s1.ev=y.o.op.operands.toList.map st.ev:=eG sb1 hfx2
 have inO:∀{base:Nat} {own:List (List Nat × List Nat)} {ban:List Nat × List Nat} {i:Nat} {b:BC} {v:AV},Eff.mT base own (.upd i b v)=true->ban∈own->i∈aZ ban base:=fun{base own ban i b v} h hm=>by
  simp only[Eff.mT,List.all_eq_true]at h
  exact(bL _ _).1 (h ban hm)
 have inBan:∀{d:Nat} {ban:List Nat × List Nat} {s:ASt},d∈ban.1->s.nid (some d)∈aZ ban s.base:=fun{d ban s} h=>List.mem_append_left _ (List.mem_map.2 ⟨d,h,rfl⟩)
 have hW:∀i b v i' b' v',ex=.upd i b v->ey=.upd i' b' v'->i≠i':=by
  rintro i b v i' b' v' rfl rfl rfl
  rcases hx with⟨_,_,_,ho⟩|⟨_,_,_,he⟩
  ·rcases hy with⟨_,hh,_⟩|⟨_,_,_,he⟩
   ·have hWy:ao y.o.op=.W:=by
     cases my with
     | upd _ _ _ hc _=>exact vN hc (by simp)
    have hin:=inO ho (hox (by rw[hWy];rfl))
    obtain⟨i',b2,v2,he,hl⟩:=(DS hWy _).hits hh rfl
    cases he
    unfold banned at hl
    rw[hb1,(bL _ _).2 hin]at hl
    simp at hl
   ·cases he
  ·cases he
 have hban:∀i b v,ey=.upd i b v->(∃b row,ex=.new b row)->st.nid x.o.dst≠i:=by
  rintro i b v rfl ⟨b',row,rfl⟩ hd
  obtain⟨d,hdx,_⟩:=cC ax
  rcases hy with⟨_,hh,_⟩|⟨_,_,_,he⟩
  ·have hmk:(ao x.o.op).makes=true:=by
    cases mx with
    | new _ _ hc=>exact pN hc
   have hin:=inBan (s:=st) (hbx hmk d hdx)
   have hW:ao y.o.op=.W:=by
    cases my with
    | upd _ _ _ hc _=>exact vN hc (by simp)
   obtain⟨i',b2,v2,he,hl⟩:=(DS hW _).hits hh rfl
   cases he
   unfold banned at hl
   rw[hdx]at hd
   rw[hd]at hin
   rw[hb1,(bL _ _).2 hin]at hl
   simp at hl
  ·cases he
 have nfU:∀{e:Eff} {i b v},e.nfE=.upd i b v->∃v',e=.upd i b v':=fun{e i b v} h=>by
  cases e<;>simp only[Eff.nfE,Eff.upd.injEq,reduceCtorEq]at h
  obtain⟨rfl,rfl,_⟩:=h
  exact⟨_,rfl⟩
 have nfN:∀{e:Eff},(∃b v,e.nfE=.new b v)->∃b v,e=.new b v:=fun{e} ⟨b,v,h⟩=>by
  cases e<;>simp only[Eff.nfE,Eff.new.injEq,reduceCtorEq]at h
  exact⟨_,_,rfl⟩
 obtain⟨s1',ay',ax'⟩:=CT hu mx.nf my.nf ax ay (fun i b v hy hx=>by obtain⟨v',h⟩:=nfU hy;exact hban i b v' h (nfN hx))
  (fun i b v i' b' v' hx hy=>by obtain⟨u,h⟩:=nfU hx;obtain⟨u',h'⟩:=nfU hy;exact hW i b u i' b' u' h h')
 obtain⟨sb2,_,so2⟩:=gB py ay'
 have hb2:s1'.base=st.base:=by simp[ASt.base,so2]
 have hn2:∀d,s1'.nid d=st.nid d:=fun d=>by cases d<;>simp[ASt.nid,so2]
 have hgx:bh ops x.o s1'=bh ops x.o st:=kB sb2 hfy1
 have hvx:x.o.op.operands.toList.map s1'.ev=x.o.op.operands.toList.map st.ev:=eG sb2 hfy2
 have readsOf:∀{o:Op},(ao o).isX=false->¬(ao o=.N\/ao o=.A)->(ao o).reads=true:=fun{o} hx hf=>by
  cases hc:ao o with
  | N=>exact absurd (.inl hc) hf
  | A=>exact absurd (.inr hc) hf
  | X=>rw[hc]at hx;cases hx
  | _=>rfl
 refine⟨s1',?_,?_⟩
 ·rcases hy with⟨hgv,hh,hp⟩|⟨b,hgv,hb,rfl⟩
  ·rw [hgy] at hgv
   have hcl:ct y.push st y.o.dst ey=true/\di y st ey=true:=by
    rw[<-kz hb1 (fun k hk=>sb1.2 k (fH hu k hk)),<-iK (s:=s1) hb1 (fun k hk=>sb1.2 k (fH hu k hk)) hvy]
    exact cy (by rw[hgy];exact hgv)
   refine .inl ⟨hgv,ey,?_,fun _=>⟨by rw[<-hb1];exact hp,hcl⟩,ay'⟩
   rw[hvy,hn1,hb1]at hh
   by_cases hfree:ao y.o.op=.N\/ao y.o.op=.A
   ·rw[vi hfree];exact hh
   ·have:banned (aZ y.ban st.base) st.look=banned (aZ y.ban st.base) s1.look:=by
     refine eP (fun j hj=>?_)
     obtain⟨l1,l2,l3⟩:=lN mx.nf ax
     cases mx with
     | val u hc=>exact(l1 j ⟨_,rfl⟩).symm
     | new b row hc =>
      have hmk:(ao x.o.op).makes=true:=pN hc
      rw[l2 j b _ rfl]
      obtain⟨d,hdx,_⟩:=cC ax
      split
      ·rename_i hd
       rw[hdx]at hd
       exact absurd (hd▸inBan (s:=st) (hbx hmk d hdx)) hj
      ·rfl
     | upd i b v hc hl =>
      rw[l3 j i b _ rfl]
      split
      ·rename_i hij
       subst hij
       rcases hx with⟨_,_,_,ho⟩|⟨_,_,_,he⟩
       ·exact absurd (inO ho (hox (readsOf hyx hfree))) hj
       ·cases he
      ·rfl
    rw[this];exact hh
  ·rw[hgy]at hgv
   refine .inr ⟨b,hgv,hb,?_⟩
   simp only[Eff.nfE,Eff.app,FR]at ay'
   exact ay'.symm
 ·rcases hx with⟨hgv,hh,hp⟩|⟨b,hgv,hb,rfl⟩
  ·have hcl : ct x.push s1' x.o.dst ex = true ∧ di x s1' ex = true := by
    rw[kz hb2 (fun k hk=>sb2.2 k (fH hu' k hk)),iK (s:=s1') hb2 (fun k hk=>sb2.2 k (fH hu' k hk)) hvx]
    exact cx hgv
   refine .inl ⟨by rw[hgx,hgv],ex,?_,fun _=>⟨by rw[hb2];exact hp,hcl⟩,ax'⟩
   rw[hvx,hn2,hb2]
   by_cases hfree:ao x.o.op=.N\/ao x.o.op=.A
   ·rw[vi hfree];exact hh
   ·have:banned (aZ x.ban st.base) s1'.look=banned (aZ x.ban st.base) st.look:=by
     refine eP (fun j hj=>?_)
     have my':Move (if bh ops y.o s1=some (some true)then ao y.o.op else .N) st ey:=by
      cases my with
      | val v hc=>exact .val v hc
      | new b row hc=>exact .new b row hc
      | upd i b v hc hl =>
       refine .upd i b v hc ?_
       obtain⟨l1,l2,l3⟩:=lN mx.nf ax
       cases mx with
       | val u hc=>rw[l1 i ⟨_,rfl⟩]at hl;exact hl
       | new b' row hc =>
        rw[l2 i b' _ rfl]at hl
        rw[if_neg (hban i b v rfl ⟨b',row,rfl⟩)]at hl
        exact hl
       | upd i' b' v' hc' hl' =>
        rw[l3 i i' b' _ rfl]at hl
        by_cases he:i'=i
        ·subst he;exact hl'
        ·rw[if_neg he]at hl;exact hl
     obtain⟨l1,l2,l3⟩:=lN my'.nf ay'
     cases my' with
     | val u hc=>exact l1 j ⟨_,rfl⟩
     | new b row hc =>
      have hmk:(ao y.o.op).makes=true:=pN hc
      rw[l2 j b _ rfl]
      obtain⟨d,hdy,_⟩:=cC ay'
      split
      ·rename_i hd
       rw[hdy]at hd
       exact absurd (hd▸inBan (s:=st) (hby hmk d hdy)) hj
      ·rfl
     | upd i b v hc hl =>
      rw[l3 j i b _ rfl]
      split
      ·rename_i hij
       subst hij
       rcases hy with⟨_,_,_,ho⟩|⟨_,_,_,he⟩
       ·rw[hb1]at ho
        exact absurd (inO ho (hoy (readsOf hxx hfree))) hj
       ·cases he
      ·rfl
    rw[this];exact hh
  ·refine .inr ⟨b,by rw[hgx,hgv],hb,?_⟩
   simp only[Eff.nfE,Eff.app,FR]at ax'
   exact ax'.symm
end
end Go.Ab
end
section
namespace Go.Ab
open Go.RowKit
theorem iB {k:Nat} {l:List Nat}:(!bF k l)=true ↔ k∉l:=by
 rw[Bool.not_eq_true']
 constructor
 ·intro h hm
  rw[(bL _ _).2 hm]at h
  cases h
 ·intro h
  cases hb:bF k l with
  | false=>rfl
  | true=>exact absurd ((bL _ _).1 hb) h
theorem jB {k s:Nat}:∀{l:List AV} {n:Nat},fL k s n l=true ↔ ∀t,n+t≠s->k∉(nth (.one .junk) l t).d9
 | [],n=>by simp[fL,nth,AV.d9,nN]
 | v :: l, n => by
  simp only[fL,FS,Bool.or_eq_true,jB (l:=l) (n:=n+1),iB]
  constructor
  ·rintro⟨h1,h2⟩ t ht
   cases t with
   | zero =>
    rcases h1 with h1|h1
    ·exact absurd ((az _ _).1 h1) ht
    ·exact h1
   | succ t=>exact h2 t (by omega)
  ·intro h
   refine⟨?_,fun t ht=>h (t+1) (by omega)⟩
   by_cases hn:n=s
   ·exact .inl ((az _ _).2 hn)
   ·exact .inr (h 0 hn)
theorem cZ {k:Nat}:∀{l:List (Option BC)},dT k l=true ↔ ∀i b,nth none l i=some b->k∉b.lk
 | []=>by simp[dT,nth]
 | some c :: l => by
  simp only[dT,FS,cZ (l:=l),iB]
  constructor
  ·rintro⟨h1,h2⟩ i b hb
   cases i with
   | zero=>simp only[nth,FR]at hb;subst hb;exact h1
   | succ i=>exact h2 i b hb
  ·intro h
   exact⟨h 0 c rfl,fun i b hb=>h (i+1) b hb⟩
 | none :: l => by
  simp only[dT,cZ (l:=l)]
  constructor
  ·intro h2 i b hb
   cases i with
   | zero=>simp only[nth,reduceCtorEq]at hb
   | succ i=>exact h2 i b hb
  ·intro h i b hb
   exact h (i+1) b hb
structure Pu (st:ASt) (s m k:Nat):Prop where
 hk:k=st.base+m
 slot:nth (.one .junk) st.slots s=.one (.sref k 0 [])
 look:∃x,st.look k=some (.tree [x])
 slots:∀t,t≠s->k∉(nth (.one .junk) st.slots t).d9
 boxes:∀i b,st.look i=some b->k∉b.lk
 out:k∉gf st.out
abbrev ta (k:Nat) (y:TV):Eff:=.gen [.drop k 0 [] false,.root k 0 y] (.one (.sref k 0 []))
def bG (st:ASt) (d:Option Tmp) (s k:Nat) (y:TV):ASt:=((st.put (some s) (.one .junk)).ac k (some (.tree [y]))).put d (.one (.sref k 0 []))
theorem t8 {k:Nat} {v:AV} (h:jJ k v=true):v=.one (.sref k 0 []):=by
 unfold jJ at h
 split at h
 ·rw[(az _ _).1 h]
 ·cases h
theorem wk {b:Option BC} (h:ws b=true):∃x,b=some (.tree [x]):=by
 unfold ws at h
 split at h
 ·exact⟨_,rfl⟩
 ·cases h
theorem fE {o:Item} {st:ASt} {e:Eff} (h:dj o st e=true):∃s y,au o.o.op=some s/\e=ta (st.base+o.root) y/\Pu st s o.root (st.base+o.root):=by
 unfold dj at h
 split at h
 ·rename_i s i y h1 h2
  simp only[FS]at h
  obtain⟨⟨⟨⟨⟨a1,a2⟩,a3⟩,a4⟩,a5⟩,a6⟩:=h
  have a1:=(az _ _).1 a1
  subst a1
  exact⟨s,y,h1,i8 h2,rfl,t8 a2,wk a3,fun t ht=>jB.1 a4 t (by omega),cZ.1 a5,iB.1 a6⟩
 ·cases h
theorem nK {o:Item} {st:ASt} {s k:Nat} {y:TV} (hs:au o.o.op=some s) (pu:Pu st s o.root k):dj o st (ta k y)=true:=by
 obtain⟨x,hx⟩:=pu.look
 unfold dj
 simp only[hs,mP,FS]
 refine⟨⟨⟨⟨⟨(az _ _).2 pu.hk,?_⟩,?_⟩,jB.2 (fun t ht=>pu.slots t (by omega))⟩,cZ.2 pu.boxes⟩,iB.2 pu.out⟩
 ·rw[pu.slot];exact(az _ _).2 rfl
 ·rw[hx];rfl
theorem Ad {k:Nat} {c:CA} (h:k∉nN c):CA.drop k 0 [] false c=c:=by
 have key:∀{i r:Nat} {p:Way},k≠i->dz k 0 [] false i r p=false:=fun{i r p} hne=>by
  have:k.beq i=false:=by
   cases hb:k.beq i with
   | false=>rfl
   | true=>exact absurd ((az _ _).1 hb) hne
  simp only[dz,this,Bool.false_and]
 cases c<;>first
  | rfl
  | (simp only[nN,List.mem_singleton]at h;simp only[CA.drop,key h,cond_false])
theorem jW {k:Nat}:∀{l:List CA},k∉lg l->mapC (CA.drop k 0 [] false) l=l
 | [],_=>rfl
 | c::l,h=>by
  simp only[lg,List.mem_append,not_or]at h
  simp only[mapC,Ad h.1,jW h.2]
theorem uu {k:Nat}:∀{l:List (Bool × List CA)},k∉qb l->jD (CA.drop k 0 [] false) l=l
 | [],_=>rfl
 | (b,c)::l,h=>by
  simp only[qb,List.mem_append,not_or]at h
  simp only[jD,jW h.1,uu h.2]
theorem yg {k:Nat} {v:AV} (h:k∉v.d9):v.b8 (CA.drop k 0 [] false)=v:=by
 cases v<;>simp only[AV.d9]at h<;>simp only[AV.b8]
 ·rw[Ad h]
 ·rw[jW h]
 ·rw[uu h]
 ·rw[jW h]
theorem pD {k:Nat}:∀{l:List AV},(∀t,k∉(nth (.one .junk) l t).d9)->cg (CA.drop k 0 [] false) l=l
 | [],_=>rfl
 | v::l,h=>by
  simp only[cg]
  rw[yg (v:=v) (h 0),pD (fun t=>h (t+1))]
theorem rM {k:Nat}:∀{l:List AV},k∉gf l->∀t,k∉(nth (.one .junk) l t).d9
 | [],_,t=>by simp[nth,AV.d9,nN]
 | v::l,h,t=>by
  simp only[gf,List.mem_append,not_or]at h
  cases t with
  | zero=>exact h.1
  | succ t=>exact rM h.2 t
theorem o7 {k:Nat}:∀{l:List (Option BC)},(∀i b,nth none l i=some b->k∉b.lk)->eg (CA.drop k 0 [] false) l=l
 | [],_=>rfl
 | some b::l,h=>by
  simp only[eg]
  rw[o7 (fun i b hb=>h (i+1) b hb)]
  have:=h 0 b rfl
  cases b with
  | cells cs=>simp only[BC.bS];rw[jW this]
  | tree xs=>rfl
 | none::l,h=>by
  simp only[eg]
  rw[o7 (fun i b hb=>h (i+1) b hb)]
theorem uL {k:Nat}:∀{l:List AV} {s:Nat},nth (.one .junk) l s=.one (.sref k 0 [])->(∀t,t≠s->k∉(nth (.one .junk) l t).d9)->cg (CA.drop k 0 [] false) l=ai l s (.one .junk)
 | [],s,h,_=>by simp[nth]at h
 | v::l,0,h,hf=>by
  simp only[nth]at h
  subst h
  simp only[cg,ai]
  rw[pD (fun t=>hf (t+1) (by omega))]
  simp[AV.b8,CA.drop,dz,leads]
 | v::l,s+1,h,hf=>by
  simp only[cg,ai]
  rw[yg (v:=v) (hf 0 (by omega)),uL (s:=s) h (fun t ht=>hf (t+1) (by omega))]
theorem ol {st:ASt} {s m k:Nat} {y:TV} {d:Option Tmp} (pu:Pu st s m k):(ta k y).app st d=some (bG st d s k y):=by
 obtain⟨x,hx⟩:=pu.look
 have h1:st.aE (CA.drop k 0 [] false)=st.put (some s) (.one .junk):=by
  simp only[ASt.aE,ASt.put]
  rw[uL pu.slot pu.slots,o7 pu.boxes,pD (rM pu.out)]
 have h2:(st.put (some s) (.one .junk)).look k=some (.tree [x]):=by rw[bo];exact hx
 simp only[Eff.app,ae,Prim.app,h1,co,h2,ai,bG]
section
variable {E:Env} {C:Cal} {st s1 s2:ASt} {d:Option Tmp} {e:Eff} {s m k:Nat} {y:TV}
theorem yk {l:List AV} {t:Nat} {v:AV}:nth (.one .junk) (ai l t v) t=v\/nth (.one .junk) (ai l t v) t=.one .junk:=by
 rw[bi,ah,List.getElem?_set]
 by_cases h:t<l.length
 ·left;simp[h]
 ·right;simp[h]
theorem kR (hv:dc e\/du e) (ha:e.app st d=some s1):jr d s1 st/\s1.out=st.out/\(∀j b,st.look j=some b->s1.look j=some b) /\
  (∀j b,s1.look j=some b->st.look j=some b\/((∀r∈b.lk,r∈dC e)/\∃dd,d=some dd/\j=st.base+dd/\du e))/\(∀t,d=some t->∀r∈(nth (.one .junk) s1.slots t).d9,r∈dC e):=by
 have hp:e.plain=true:=by rcases hv with⟨v,rfl⟩|⟨b,v,rfl⟩<;>rfl
 obtain⟨p1,_,p3⟩:=gB hp ha
 refine⟨p1,p3,?_⟩
 rcases hv with⟨v,rfl⟩|⟨b,v,rfl⟩
 ·simp only[Eff.app,FR]at ha
  subst ha
  refine⟨fun j b h=>by rw[bo];exact h,fun j b h=>by rw[bo]at h;exact .inl h,fun t ht r hr=>?_⟩
  subst ht
  simp only[ASt.put]at hr
  rcases yk (l:=st.slots) (t:=t) (v:=v)with h|h
  ·rw[h]at hr;exact hr
  ·rw[h]at hr;cases hr
 ·obtain⟨dd,rfl,h1,h2,rfl⟩:=cC ha
  refine⟨fun j c h=>?_,fun j c h=>?_,fun t ht r hr=>?_⟩
  ·rw[bo,ag,if_neg (fun hh=>by rw[hh.1,h]at h1;cases h1)];exact h
  ·rw[bo,ag]at h
   by_cases hj:st.nid (some dd)=j/\st.nid (some dd)<st.boxes.length
   ·rw[if_pos hj]at h
    simp only[FR]at h
    subst h
    exact .inr ⟨fun r hr=>List.mem_append_left _ hr,dd,rfl,hj.1.symm,b,v,rfl⟩
   ·rw[if_neg hj]at h;exact .inl h
  ·have ht:=Option.some.inj ht
   subst ht
   simp only[ASt.put,ASt.ac]at hr
   rcases yk (l:=st.slots) (t:=dd) (v:=v)with h|h
   ·rw[h]at hr;exact List.mem_append_right _ hr
   ·rw[h]at hr;cases hr
theorem oR {ps:List Nat} (h:ct ps st d e=true) (hs:s∈ps):st.base+s∉dC e/\∀t,d=some t->st.base+s∉(nth (.one .junk) st.slots t).d9:=by
 unfold ct at h
 rw[List.all_eq_true]at h
 have:=h s hs
 rw[FS]at this
 refine⟨iB.1 this.1,fun t ht=>?_⟩
 subst ht
 exact iB.1 this.2
theorem Pu.back (pu:Pu s1 s m k) (hv:dc e\/du e) (ha:e.app st d=some s1) (hd:d≠some s) (hdm:d≠some m) (hc:∀t,d=some t->k∉(nth (.one .junk) st.slots t).d9):Pu st s m k:=by
 obtain⟨f1,f2,f3,f4,f5⟩:=kR hv ha
 have hb:s1.base=st.base:=by simp[ASt.base,f2]
 have hk:=pu.hk
 rw[hb]at hk
 refine⟨hk,by rw[<-f1.2 s hd];exact pu.slot,?_,fun t ht=>?_,fun i b hi=>pu.boxes i b (f3 i b hi),by rw[<-f2];exact pu.out⟩
 ·obtain⟨x,hx⟩:=pu.look
  rcases f4 k _ hx with h|⟨_,dd,hdd,h,_⟩
  ·exact⟨x,h⟩
  ·exact absurd (Nat.add_left_cancel (h.symm.trans hk)) (fun h=>hdm (by rw[hdd];exact congrArg some h))
 ·by_cases hdt:d=some t
  ·exact hc t hdt
  ·rw[<-f1.2 t hdt];exact pu.slots t ht
theorem Pu.fwd (pu:Pu st s m k) (hv:dc e\/du e) (ha:e.app st d=some s1) (hd:d≠some s) (hc:k∉dC e):Pu s1 s m k:=by
 obtain⟨f1,f2,f3,f4,f5⟩:=kR hv ha
 have hb:s1.base=st.base:=by simp[ASt.base,f2]
 refine⟨by rw[hb];exact pu.hk,by rw[f1.2 s hd];exact pu.slot,?_,fun t ht=>?_,fun i b hi=>?_,by rw[f2];exact pu.out⟩
 ·obtain⟨x,hx⟩:=pu.look
  exact⟨x,f3 k _ hx⟩
 ·by_cases hdt:d=some t
  ·exact fun hm=>hc (f5 t hdt k hm)
  ·rw[f1.2 t hdt];exact pu.slots t ht
 ·rcases f4 i b hi with h|⟨h,_⟩
  ·exact pu.boxes i b h
  ·exact fun hm=>hc (h k hm)
theorem xZ {s:Nat} (h:d≠some s):unlike d (some s)=true:=by
 cases d with
 | none=>rfl
 | some d=>exact uC (fun e=>h (by rw[e]))
theorem rP {dx dy:Option Tmp} {v:AV} (hds:dx≠some s) (hu:unlike dx dy=true):bG (st.put dx v) dy s k y=(bG st dy s k y).put dx v:=by
 simp only[bG]
 rw[er _ (xZ hds),aO,er _ hu]
theorem zt {dy:Option Tmp} {i:Nat} {b:Option BC} (hi:k≠i):bG (st.ac i b) dy s k y=(bG st dy s k y).ac i b:=by
 simp only[bG]
 rw[aO _ i b dy,show(st.ac i b).put (some s) (.one .junk)=(st.put (some s) (.one .junk)).ac i b from(aO ..).symm,fF _ (fun h=>hi h.symm)]
theorem fj {dy:Option Tmp} (d':Option Tmp):(bG st dy s k y).nid d'=st.nid d':=by
 simp only[bG]
 rw[a7,bm,a7]
theorem jv {dy:Option Tmp} {j:Nat} (hj:k≠j):(bG st dy s k y).look j=st.look j:=by
 simp only[bG]
 rw[bo,ag,if_neg (fun h=>hj h.1),bo]
theorem s9 {dy:Option Tmp}:(bG st dy s k y).boxes.length=st.boxes.length:=by
 simp only[bG]
 rw[bU]
 simp only[ASt.ac,ah,List.length_set,bU]
theorem nk {dy:Option Tmp}:(bG st dy s k y).out=st.out:=by
 simp only[bG]
 rw[ki]
 simp only[ASt.ac,ki]
theorem gS {dy:Option Tmp} {t:Nat} (h1:t≠s) (h2:dy≠some t):nth (.one .junk) (bG st dy s k y).slots t=nth (.one .junk) st.slots t:=by
 simp only[bG]
 rw[eY _ _ _ _ h2]
 show nth (.one .junk) (st.put (some s) (.one .junk)).slots t=_
 rw[eY _ _ _ _ (fun e=>h1 (Option.some.inj e).symm)]
theorem ur {dx dy:Option Tmp} (hv:dc e\/du e) (ha:e.app st dx=some s1) (hds:dx≠some s) (hdm:dx≠some m) (hu:unlike dx dy=true) (hk:k=st.base+m):e.app (bG st dy s k y) dx=some (bG s1 dy s k y):=by
 rcases hv with⟨v,rfl⟩|⟨b,v,rfl⟩
 ·simp only[Eff.app,FR]at ha
  subst ha
  simp only[Eff.app,rP hds hu]
 ·obtain⟨dd,rfl,h1,h2,rfl⟩:=cC ha
  have hne:k≠st.nid (some dd):=fun h=>hdm (congrArg some (Nat.add_left_cancel (h.symm.trans hk:st.base+dd=st.base+m)))
  rw[jg (by rw[fj,jv hne];exact h1) (by rw[fj,s9];exact h2),fj,rP hds hu,zt hne]
theorem Ch {dx dy:Option Tmp} (hv:dc e\/du e) (ha:e.app (bG st dx s k y) dy=some s2) (hdm:dy≠some m) (hk:k=st.base+m):∃s1,e.app st dy=some s1:=by
 rcases hv with⟨v,rfl⟩|⟨b,v,rfl⟩
 ·exact⟨_,rfl⟩
 ·obtain⟨dd,rfl,h1,h2,rfl⟩:=cC ha
  have hne:k≠st.nid (some dd):=fun h=>hdm (congrArg some (Nat.add_left_cancel (h.symm.trans hk:st.base+dd=st.base+m)))
  rw[fj,jv hne]at h1
  rw[fj,s9]at h2
  exact⟨_,jg h1 h2⟩
end
section
variable {E:Env} {C:Cal} {st s1 s2:ASt} {x y:Item} {s:Nat}
theorem cQ {o:Op} (h:au o=some s):ao o=.P/\s∈dZ o.operands.toList:=by
 unfold au at h
 split at h
 ·rename_i l h1 h2
  simp only[FR]at h
  subst h
  rw[h2]
  exact⟨h1,FX⟩
 ·cases h
theorem lA.grows (hd:x.dr=true) (hx:(ao x.o.op).isX=false) (hw:ao x.o.op≠.W) {e:Eff}
  (h1:(opL E (st.nid x.o.dst) (banned (aZ x.ban st.base) st.look) x.o.op (x.o.op.operands.toList.map st.ev)).hits C e)
  (h2:x.dr=true->(e.plain=true/\e.mT st.base x.own=true)/\(ct x.push st x.o.dst e=true/\di x st e=true)) :
  (dc e\/du e)/\(du e->(ao x.o.op).makes=true):=by
 have mx:=re hx (h2 hd).1.1 h1
 cases mx with
 | val v h=>exact⟨.inl ⟨v,rfl⟩,fun⟨b,v',h⟩=>by cases h⟩
 | new b v h=>exact⟨.inr ⟨b,v,rfl⟩,fun _=>by rcases h with h|h|h<;>rw[h]<;>rfl⟩
 | upd i b v h hl=>exact absurd h hw
theorem uy {e:Eff} (h:dc e\/du e):(dc e.nfE\/du e.nfE)/\(du e.nfE->du e):=by
 rcases h with⟨v,rfl⟩|⟨b,v,rfl⟩
 ·exact⟨.inl ⟨_,rfl⟩,fun⟨b,v',h⟩=>by cases h⟩
 ·exact⟨.inr ⟨_,_,rfl⟩,fun _=>⟨_,_,rfl⟩⟩
theorem qu {e:Eff} (h:dc e\/du e) (b:Nat) (l:List (List Nat × List Nat)):e.mT b l=true:=by
 rcases h with⟨v,rfl⟩|⟨b,v,rfl⟩<;>rfl
theorem qA {e:Eff} (h:dc e\/du e):e.plain=true:=by
 rcases h with⟨v,rfl⟩|⟨b,v,rfl⟩<;>rfl
theorem vK {d:Nat} {ban:List Nat × List Nat} {b:Nat} (h:d∈ban.1):b+d∈aZ ban b:=List.mem_append_left _ (List.mem_map.2 ⟨d,h,rfl⟩)
theorem kO {dy:Option Tmp} {k:Nat} {z:TV} {l:List Operand} (h1:s∉dZ l) (h2:dV dy (dZ l)=true):l.map (bG st dy s k z).ev=l.map st.ev:=by
 apply List.map_congr_left
 intro o ho
 cases o with
 | tmp t =>
  have ht:=cu ho
  exact gS (fun e=>h1 (e▸ht)) (fun e=>bn h2 t e ht)
 | const v=>cases v<;>rfl
 | _=>rfl
theorem A8 (hs:au y.o.op=some s) (hxd:x.dr=true) (hxx:(ao x.o.op).isX=false) (hxw:ao x.o.op≠.W) (hfx:dV x.o.dst (dZ y.o.op.operands.toList)=true)
  (hfy:dV y.o.dst (dZ x.o.op.operands.toList)=true) (hu:unlike x.o.dst y.o.dst=true) (hns:s∉dZ x.o.op.operands.toList) (hbx:(ao x.o.op).makes=true->∀d,x.o.dst=some d->d∈y.ban.1)
  (hsx:y.root∈x.ban.1) (hpx:y.root∈x.push) (hdm:x.o.dst≠some y.root) (h1:lA E C x st s1) (h2:iO E C y s1 s2):∃s1',iO E C y st s1'/\lA E C x s1' s2:=by
 obtain⟨ex,hhx,cx,ax⟩:=h1
 obtain⟨ey,hhy,oy,ay⟩:=h2
 obtain⟨s',z,hs',rfl,pu⟩:=fE oy
 rw[hs]at hs'
 cases hs'
 obtain⟨gx,mkx⟩:=lA.grows hxd hxx hxw hhx cx
 obtain⟨gx',mkx'⟩:=uy gx
 obtain⟨f1,f2,f3,f4,f5⟩:=kR gx' ax
 have hb:s1.base=st.base:=by simp[ASt.base,f2]
 have hn:∀d,s1.nid d=st.nid d:=fun d=>by cases d<;>simp[ASt.nid,f2]
 have hds:x.o.dst≠some s:=fun e=>bn hfx s e (cQ hs).2
 obtain⟨c1,c2⟩:=oR (cx hxd).2.1 hpx
 have pu0:Pu st s y.root (s1.base+y.root):=pu.back gx' ax hds hdm (by rw[hb];exact c2)
 have ay':(ta (s1.base+y.root) z).app s1 y.o.dst=some s2:=ay
 rw[ol pu]at ay'
 simp only[FR]at ay'
 subst ay'
 have hk:s1.base+y.root=st.base+y.root:=by rw[hb]
 refine⟨bG st y.o.dst s (s1.base+y.root) z,⟨ta (s1.base+y.root) z,?_,nK hs pu0,ol pu0⟩,⟨ex,?_,fun hd=>⟨⟨qA gx,qu gx _ _⟩,?_⟩,ur gx' ax hds hdm hu hk⟩⟩
 ·rw [eG f1 hfx, hn, hb] at hhy
  have:banned (aZ y.ban st.base) st.look=banned (aZ y.ban st.base) s1.look:=by
   refine eP (fun j hj=>?_)
   cases hl:s1.look j with
   | none =>
    cases hl0:st.look j with
    | none=>rfl
    | some b=>rw[f3 j b hl0]at hl;cases hl
   | some b =>
    rcases f4 j b hl with h|⟨_,dd,hdd,h,hnew⟩
    ·exact h
    ·exfalso
     subst h
     exact hj (vK (hbx (mkx (mkx' hnew)) dd hdd))
  rw[this,hb];exact hhy
 ·have hout:(bG st y.o.dst s (s1.base+y.root) z).base=st.base:=by simp[ASt.base,nk]
  rw[kO hns hfy,fj,hout]
  have:banned (aZ x.ban st.base) (bG st y.o.dst s (s1.base+y.root) z).look=banned (aZ x.ban st.base) st.look:=by
   refine eP (fun j hj=>jv (fun e=>?_))
   subst e
   rw[hb]at hj
   exact hj (vK hsx)
  rw[this];exact hhx
 ·have hout:(bG st y.o.dst s (s1.base+y.root) z).base=st.base:=by simp[ASt.base,nk]
  rw[kz (t:=st) hout (fun t ht=>gS (fun e=>hds (by rw[ht,e])) (fun e=>(fH (gT hu)) t ht e)),iK (t:=st) hout (fun t ht=>gS (fun e=>hds (by rw[ht,e])) (fun e=>(fH (gT hu)) t ht e)) (kO hns hfy)]
  exact(cx hd).2
theorem zb (hs:au x.o.op=some s) (hyd:y.dr=true) (hyx:(ao y.o.op).isX=false) (hyw:ao y.o.op≠.W) (hfx:dV x.o.dst (dZ y.o.op.operands.toList)=true)
  (hfy:dV y.o.dst (dZ x.o.op.operands.toList)=true) (hu:unlike x.o.dst y.o.dst=true) (hns:s∉dZ y.o.op.operands.toList) (hby:(ao y.o.op).makes=true->∀d,y.o.dst=some d->d∈x.ban.1)
  (hsy:x.root∈y.ban.1) (hpy:x.root∈y.push) (hdm:y.o.dst≠some x.root) (h1:iO E C x st s1) (h2:lA E C y s1 s2):∃s1',lA E C y st s1'/\iO E C x s1' s2:=by
 obtain⟨ex,hhx,ox,ax⟩:=h1
 obtain⟨ey,hhy,cy,ay⟩:=h2
 obtain⟨s',z,hs',rfl,pu⟩:=fE ox
 rw[hs]at hs'
 cases hs'
 have hu':=gT hu
 have ax':(ta (st.base+x.root) z).app st x.o.dst=some s1:=ax
 rw[ol pu]at ax'
 simp only[FR]at ax'
 subst ax'
 have hout:(bG st x.o.dst s (st.base+x.root) z).base=st.base:=by simp[ASt.base,nk]
 obtain⟨gy,mky⟩:=lA.grows hyd hyx hyw hhy cy
 obtain⟨gy',mky'⟩:=uy gy
 have hds:y.o.dst≠some s:=fun e=>bn hfy s e (cQ hs).2
 obtain⟨s1',ay'⟩:=Ch gy' ay hdm rfl
 have he:=ur (y:=z) gy' ay' hds hdm hu' (rfl:st.base+x.root=st.base+x.root)
 rw[he]at ay
 simp only[FR]at ay
 subst ay
 have hcs:ct y.push (bG st x.o.dst s (st.base+x.root) z) y.o.dst ey=ct y.push st y.o.dst ey:=kz hout (fun t ht=>gS (fun e=>hds (by rw[ht,e])) (fun e=>(fH hu) t ht e))
 have hc:=(cy hyd).2
 rw[hcs,iK (t:=st) hout (fun t ht=>gS (fun e=>hds (by rw[ht,e])) (fun e=>(fH hu) t ht e)) (kO hns hfx)]at hc
 obtain⟨c1,c2⟩:=oR hc.1 hpy
 obtain⟨f1,f2,f3,f4,f5⟩:=kR gy' ay'
 have hb:s1'.base=st.base:=by simp[ASt.base,f2]
 have hn:∀d,s1'.nid d=st.nid d:=fun d=>by cases d<;>simp[ASt.nid,f2]
 have pu1:Pu s1' s x.root (st.base+x.root):=pu.fwd gy' ay' hds (by rw[cr];exact c1)
 refine⟨s1',⟨ey,?_,fun hd=>⟨⟨qA gy,qu gy _ _⟩,hc⟩,ay'⟩,⟨ta (st.base+x.root) z,?_,nK hs pu1,ol pu1⟩⟩
 ·rw[kO hns hfx,fj,hout]at hhy
  have:banned (aZ y.ban st.base) (bG st x.o.dst s (st.base+x.root) z).look=banned (aZ y.ban st.base) st.look:=by
   refine eP (fun j hj=>jv (fun e=>?_))
   subst e
   exact hj (vK hsy)
  rw[<-this];exact hhy
 ·rw [eG f1 hfy, hn, hb]
  have:banned (aZ x.ban st.base) s1'.look=banned (aZ x.ban st.base) st.look:=by
   refine eP (fun j hj=>?_)
   cases hl:s1'.look j with
   | none =>
    cases hl0:st.look j with
    | none=>rfl
    | some b=>rw[f3 j b hl0]at hl;cases hl
   | some b =>
    rcases f4 j b hl with h|⟨_,dd,hdd,h,hnew⟩
    ·exact h.symm
    ·exfalso
     subst h
     exact hj (vK (hby (mky (mky' hnew)) dd hdd))
  rw[this];exact hhx
theorem aN {ops:List Oper} {o:Oper} (h:o.guard.isNone=true) (t:ASt):bh ops o t=some (some true):=by
 unfold bh
 rw[Option.isNone_iff_eq_none.1 h]
theorem OpP.step {ops:List Oper} (h:x.o.guard.isNone=true):OpP E C ops x st s1->lA E C x st s1
 | .inl ⟨_,h'⟩=>h'
 | .inr ⟨b,hb,hne,_⟩=>by rw[aN h]at hb;exact absurd (Option.some.inj hb).symm hne
theorem Cy {ops:List Oper} (hap:cH ops x.o y.o=true) (hxs:x.shut=false) (hys:y.shut=false) (hxl:x.loose=false) (hyl:y.loose=false) (hxd:x.dr=true) (hyd:y.dr=true) (hxx:(ao x.o.op).isX=false) (hyx:(ao y.o.op).isX=false)
  (hbx:(ao x.o.op).makes=true->∀d,x.o.dst=some d->d∈y.ban.1) (hby:(ao y.o.op).makes=true->∀d,y.o.dst=some d->d∈x.ban.1)
  (hox:(ao y.o.op).reads=true->y.ban∈x.own) (hoy:(ao x.o.op).reads=true->x.ban∈y.own)
  (hpx:∀s,au y.o.op=some s->y.root=kn ops 20 s/\y.root∈x.ban.1/\y.root∈x.push) (hpy:∀s,au x.o.op=some s->x.root=kn ops 20 s/\x.root∈y.ban.1/\x.root∈y.push) (h1:OpN E C ops x st s1) (h2:OpN E C ops y s1 s2) :
  ∃s1',OpN E C ops y st s1'/\OpN E C ops x s1' s2:=by
 have hap':=hap
 simp only[cH,FS]at hap'
 obtain⟨⟨⟨⟨hg,hfx⟩,hfy⟩,hu⟩,ha1,ha2⟩:=hap'
 rcases h1.parts hxd hxs hxl with p1|⟨g1,p1⟩
 ·rcases h2.parts hyd hys hyl with p2|⟨g2,p2⟩
  ·obtain⟨s1',q1,q2⟩:=C3 hap hxd hyd hxx hyx hbx hby hox hoy p1 p2
   exact⟨s1',q1.toN hys,q2.toN hxs⟩
  ·obtain⟨s,z,hs,-⟩:=fE p2.choose_spec.2.1
   simp only[mH,hs,FS,iB]at ha2
   have hx:ao x.o.op≠.W:=fun h=>by rw[h,(cQ hs).1]at hg;cases hg
   obtain⟨s1',q1,q2⟩:=A8 hs hxd hxx hx (aA hfx).2 (aA hfy).2 hu (fun h=>ha2.1.2 (List.mem_append_right _ h)) hbx (hpx s hs).2.1 (hpx s hs).2.2 (fun h=>bn ha2.2 _ h (by rw[(hpx s hs).1];exact FX)) (p1.step ha2.1.1.2) p2
   exact⟨s1',.inl ⟨aN ha2.1.1.1 _,q1.toN⟩,.inl ⟨aN ha2.1.1.2 _,q2.toN hxs⟩⟩
 ·obtain⟨s,z,hs,-⟩:=fE p1.choose_spec.2.1
  simp only[mH,hs,FS,iB]at ha1
  rcases h2.parts hyd hys hyl with p2|⟨g2,p2⟩
  ·have hy:ao y.o.op≠.W:=fun h=>by rw[h,(cQ hs).1]at hg;cases hg
   obtain⟨s1',q1,q2⟩:=zb hs hyd hyx hy (aA hfx).2 (aA hfy).2 hu (fun h=>ha1.1.2 (List.mem_append_right _ h)) hby (hpy s hs).2.1 (hpy s hs).2.2 (fun h=>bn ha1.2 _ h (by rw[(hpy s hs).1];exact FX)) p1 (p2.step ha1.1.1.2)
   exact⟨s1',.inl ⟨aN ha1.1.1.2 _,q1.toN hys⟩,.inl ⟨aN ha1.1.1.1 _,q2.toN⟩⟩
  ·obtain⟨s',z',hs',-⟩:=fE p2.choose_spec.2.1
   rw[(cQ hs).1,(cQ hs').1]at hg
   cases hg
end
end Go.Ab
end

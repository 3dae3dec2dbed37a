import Derived.Test.YthgejdenjmjkoaaDM17
import Derived.Test.YthgejdenjmjkoaaDV8T
import Derived.Test.YthgejdenjmjkoaaProg
import Derived.RangeFuncBox
import Derived.RangeFuncLeaves
import Derived.RangeFuncCalls
import Derived.Shelf.Abstract
import Derived.WalkKit
import Derived.OwnWalkIn
import Derived.TacticsInMore
import Derived.LoopNIn
import Derived.LoopIn
import Derived.Test.YthgejdenjmjkoaaDM2
section
namespace Go.Ab
open Go.RowKit Go.ChangeShapes Go.WideShapes
set_option linter.unusedVariables false
def ValsTy (P:Program):List TypeId→List TV→Prop
 | [],[]=>True
 | t :: ts,x :: xs=>ValTy P t x∧ValsTy P ts xs
 | _,_=>False
section
variable {H:Type} {enc:TypeId × Value→H} {P:Program} {W W':World}
theorem trodAll_vals:∀ (ts:List TypeId) (vs:List Value) (ds:List (DataW H)) (ps:List MemPlace) {base:Nat},(∀ t ∈ ts,plainTy P 24 t=true)→(∀ (j:Nat) t v,ts[j]? = some t→vs[j]? = some v→Value.okWide P W .any base t v) →
  DataW.TrodAll enc P W 0 (fun _=>true) true ts vs ds ps→∃ xs,ValsTy P ts xs∧xs.length=vs.length∧∀ (j:Nat) (x:TV) (v:Value),xs[j]? = some x→vs[j]? = some v→Rep W (fun b=>b < W.heap.size) x v
 | [],vs,ds,ps,base,hp,hv,h=>by
  obtain ⟨rfl,rfl,rfl⟩:=trodAll_nil h
  exact ⟨[],trivial,rfl,fun j x v hx=>by simp at hx⟩
 | t :: ts,vs,ds,ps,base,hp,hv,h=>by
  obtain ⟨v,vs1,d,ds1,a,b,rfl,rfl,rfl,h1,h2⟩:=trodAll_cons h
  obtain ⟨x,hx,hr⟩:=trod_val (hp t List.mem_cons_self) (hv 0 t v rfl rfl) h1
  obtain ⟨xs,hxs,hl,hrs⟩:=trodAll_vals ts vs1 ds1 b (fun t' ht'=>hp t' (List.mem_cons_of_mem _ ht')) (fun j t' v' h1' h2'=>hv (j + 1) t' v' (by simpa using h1') (by simpa using h2')) h2
  refine ⟨x :: xs,⟨hx,hxs⟩,by simp [hl],fun j y u hy hu=>?_⟩
  cases j with
  | zero=>simp at hy hu; subst hy hu; exact hr
  | succ j=>simp at hy hu; exact hrs j y u hy hu
theorem trodAll_keeps (hl:laidOutB P=true) (hb:Below W.heap.size W W'):∀ (ts:List TypeId) (vs:List Value) (ds:List (DataW H)) (ps:List MemPlace),(∀ t ∈ ts,P.readableRec t=true∧t < P.types.size)→(∀ p ∈ ps,p.block < W.heap.size) →
  DataW.TrodAll enc P W 0 (fun _=>true) true ts vs ds ps→DataW.TrodAll enc P W' 0 (fun b=>decide (b < W.heap.size)) true ts vs ds ps
 | [],vs,ds,ps,hr,hlt,h=>by
  obtain ⟨rfl,rfl,rfl⟩:=trodAll_nil h
  rfl
 | t :: ts,vs,ds,ps,hr,hlt,h=>by
  obtain ⟨v,vs1,d,ds1,a,b,rfl,rfl,rfl,h1,h2⟩:=trodAll_cons h
  exact ⟨a,b,Below.trod hl (hr t List.mem_cons_self).1 (hr t List.mem_cons_self).2 h1 hb (fun p hp=>hlt p (List.mem_append_left _ hp)),trodAll_keeps hl hb ts vs1 ds1 b (fun t' ht'=>hr t' (List.mem_cons_of_mem _ ht')) (fun p hp=>hlt p (List.mem_append_right _ hp)) h2,rfl⟩
theorem law_core {A:AProg} {G:Laid} (hA:A.Ok P G) (hG:G.P W (fun b=>b < W.heap.size)) {fid:FuncId} (hln:(A.lent fid,A.peek fid)=(none,none)) {f:Func} (hlaid:laidOutB P=true) (hpar:∀ t ∈ f.params.toList,plainTy P 24 t=true∧P.readableRec t=true∧t < P.types.size)
  {bt:TypeId} (hres:f.resultTypes=#[bt]) (hbt:P.underlying bt=some .bool) {s:ChangeSpec} (hvars:s.vars=[])
  (hs:∀ ds:List (DataW H),ds.length=f.params.size→s.fn H ds={ results:=[.lit (.bool true)],args:=ds })
  (hlaw:∀ xs,ValsTy P f.params.toList xs→∃ n,acall A n fid xs=some (.lit (.bool true)))
  {args:Array Value} {ds gs:List (DataW H)} {before:List MemPlace} {base:Nat} (hval:∀ (j:Nat) t v,f.params[j]? = some t→args[j]? = some v→Value.okWide P W .any base t v)
  (hW:DataW.Whole enc P f.params.toList s.vars false W args.toList ds gs before) :
  Calls P fid args W fun e W'=>∃ v,e=.returned v∧s.post enc P f false true false false W args v W':=by
 have hW':=hW
 obtain ⟨p,q,hT,hV,hpq,hfz,hnd⟩:=hW
 rw [hvars] at hV
 have hgs:gs=[]∧q=[]:=trodVars_none hV
 obtain ⟨hg0,hq0⟩:=hgs
 subst hg0 hq0
 rw [List.append_nil] at hpq
 subst hpq
 obtain ⟨xs,hxs,hxl,hxr⟩:=trodAll_vals f.params.toList args.toList ds before (fun t ht=>(hpar t ht).1) (fun j t v h1 h2=>hval j t v (by simpa using h1) (by simpa using h2)) hT
 obtain ⟨n,hn⟩:=hlaw xs hxs
 have hc:=((((acall_sound hA n fid xs _ hn).1 (Prod.mk.inj hln).2).1 (Prod.mk.inj hln).1).1 (fun b=>b < W.heap.size) W args hG (fun _ h=>h) (by simpa using hxl.symm) (fun j x hx=>by
  have hj:j < args.size:=by have:=(List.getElem?_eq_some_iff.1 hx).1; simp at hxl; omega
  exact hxr j x _ hx (by rw [Array.getElem?_toList,Array.getElem?_eq_getElem hj]; simp [hj]))).2
 refine hc.mono ?_
 rintro e W' ⟨v,rfl,hb,I2,S,_,_,_,_,hv⟩
 have:=repO_lit hv
 subst this
 have hlen:ds.length=f.params.size:=by
  have:∀ (ts:List TypeId) (vs:List Value) (ds:List (DataW H)) (ps:List MemPlace),DataW.TrodAll enc P W 0 (fun _=>true) true ts vs ds ps→ds.length=ts.length:=by
   intro ts
   induction ts with
   | nil=>intro vs ds ps h; obtain ⟨rfl,rfl,rfl⟩:=trodAll_nil h; rfl
   | cons t ts ih=>intro vs ds ps h; obtain ⟨v,vs1,d,ds1,a,b,rfl,rfl,rfl,h1,h2⟩:=trodAll_cons h; simp [ih _ _ _ h2]
  simpa using this _ _ _ _ hT
 have hlt:∀ p ∈ before,p.block < W.heap.size:=fun p hp=>hW'.lt p hp
 refine ⟨_,rfl,ds,[],before,[],before,[],hW',?_,?_,?_,?_,fun h=>by cases h⟩
 ·rw [List.append_nil,hs ds hlen,hres]
  exact trodAll_cons_mk (shut_bool hbt true) rfl
 ·rw [List.append_nil,hs ds hlen]
  exact trodAll_keeps hlaid hb _ _ _ _ (fun t ht=>(hpar t ht).2) hlt hT
 ·rw [List.append_nil,hs ds hlen,hvars]
  rfl
 ·exact World.keptBut_mono (fun p hp=>⟨hp,.inr (.inl hp)⟩) (hb.frame (· ∈ before))
end
end Go.Ab
end
section
namespace Go.Ab
set_option linter.unusedVariables false
section
variable {P:Program}
theorem tab_nil:∀ t e,lookT [] t=some e→TyOk P t e:=fun t e h=>by simp [lookT] at h
theorem tab_cons {l:List (Nat × TyD)} {k:Nat} {d:TyD} (h1:tyOf P k=some d) (h:∀ t e,lookT l t=some e→TyOk P t e):∀ t e,lookT ((k,d) :: l) t=some e→TyOk P t e:=by
 intro t e he
 simp only [lookT] at he
 cases hk:k.beq t with
 | true =>
  rw [hk] at he
  have:k=t:=Nat.eq_of_beq_eq_true hk
  subst this
  cases he
  exact TyOk.of h1
 | false=>rw [hk] at he; exact h t e he
def FnOk (P : Program) (f : FuncId) (fn : Func) : Prop := P.funcs[f]? = some fn ∧ (fn.name == "runtime.NumGoroutine") = false ∧ fn.body.isSome = true
theorem fn_nil:∀ (f:FuncId) (e:Func),(none:Option Func)=some e→FnOk P f e:=fun f e h=>by cases h
theorem fn_cons {g : FuncId → Option Func} {k : FuncId} {fn : Func} (h1 : P.funcs[k]? = some fn) (h2 : (fn.name == "runtime.NumGoroutine") = false) (h3 : fn.body.isSome = true) (h : ∀ f e, g f = some e → FnOk P f e) :
  ∀ f e,(bif Nat.beq f k then some fn else g f)=some e→FnOk P f e:=by
 intro f e he
 cases hk:Nat.beq f k with
 | true =>
  rw [hk] at he
  have:f=k:=Nat.eq_of_beq_eq_true hk
  subst this
  cases he
  exact ⟨h1,h2,h3⟩
 | false=>rw [hk] at he; exact h f e he
theorem HasTy.int_at {t:TypeId} {k:IntKind} {cs:List TV} (h:HasTy P t cs) (hu:P.underlying t=some (.int k)):∃ n,cs=[.lit (.int k n)]∧(Lit.int k n).wf=true:=by
 cases h with
 | int hu' hw=>rw [hu] at hu'; cases hu'; exact ⟨_,rfl,hw⟩
 | bool hu'=>rw [hu] at hu'; cases hu'
 | str hu'=>rw [hu] at hu'; cases hu'
 | nil hu'=>rw [hu] at hu'; cases hu'
 | sl hu'=>rw [hu] at hu'; cases hu'
 | struct hu'=>rw [hu] at hu'; cases hu'
 | arr hu'=>rw [hu] at hu'; cases hu'
theorem HasTy.bool_at {t:TypeId} {cs:List TV} (h:HasTy P t cs) (hu:P.underlying t=some .bool):∃ b,cs=[.lit (.bool b)]:=by
 cases h with
 | int hu' hw=>rw [hu] at hu'; cases hu'
 | bool hu'=>exact ⟨_,rfl⟩
 | str hu'=>rw [hu] at hu'; cases hu'
 | nil hu'=>rw [hu] at hu'; cases hu'
 | sl hu'=>rw [hu] at hu'; cases hu'
 | struct hu'=>rw [hu] at hu'; cases hu'
 | arr hu'=>rw [hu] at hu'; cases hu'
theorem F2.of_all {α:Type} {R:List TV→α→Prop}:∀ (xs:List (List TV)),(∀ (i:Nat) x,xs[i]? = some x→∃ a,R x a)→∃ l,F2 R xs l
 | [],_=>⟨[],.nil⟩
 | x :: xs,h=>by
  obtain ⟨a,ha⟩:=h 0 x rfl
  obtain ⟨l,hl⟩:=F2.of_all xs fun i y hy=>h (i + 1) y (by simpa using hy)
  exact ⟨a :: l,.cons ha hl⟩
theorem HasTy.sl_at {α:Type} {R:List TV→α→Prop} {t e:TypeId} {s:Nat} {cs:List TV} (h:HasTy P t cs) (hu:P.underlying t=some (.slice e)) (hs:P.cellsOf e=s) (hR:∀ x,HasTy P e x→∃ a,R x a):∃ x l,cs=[x]∧RL (some false) s R x l:=by
 subst hs
 cases h with
 | int hu' hw=>rw [hu] at hu'; cases hu'
 | bool hu'=>rw [hu] at hu'; cases hu'
 | str hu' hl=>rw [hu] at hu'; cases hu'
 | nil hu'=>exact ⟨_,[],rfl,.nil⟩
 | sl hu' hl h =>
  rw [hu] at hu'
  cases hu'
  obtain ⟨l,hl'⟩:=F2.of_all _ fun i x hx=>hR x (h i x hx)
  exact ⟨_,l,rfl,.sl (by simp) hl' (by have:maxLen=9223372036854775807:=rfl; omega)⟩
 | struct hu'=>rw [hu] at hu'; cases hu'
 | arr hu'=>rw [hu] at hu'; cases hu'
theorem HasTy.struct_at {t:TypeId} {fs:Array Field} {cs:List TV} (h:HasTy P t cs) (hu:P.underlying t=some (.struct fs)):cs.length=P.cellsOf t∧∀ (i:Nat) (f:Field),fs[i]? = some f→HasTy P f.type ((cs.drop f.offset).take (P.cellsOf f.type)):=by
 cases h with
 | int hu' hw=>rw [hu] at hu'; cases hu'
 | bool hu'=>rw [hu] at hu'; cases hu'
 | str hu' hl=>rw [hu] at hu'; cases hu'
 | nil hu'=>rw [hu] at hu'; cases hu'
 | sl hu'=>rw [hu] at hu'; cases hu'
 | struct hu' hl h=>rw [hu] at hu'; cases hu'; exact ⟨hl,h⟩
 | arr hu'=>rw [hu] at hu'; cases hu'
theorem wf_i64 {n:Int} (h:(Lit.int .i64 n).wf=true):inI n:=by
 simp only [Lit.wf,Bool.and_eq_true,decide_eq_true_eq] at h
 exact h
theorem wf_u16 {n:Int} (h:(Lit.int .u16 n).wf=true):inW n:=by
 simp only [Lit.wf,Bool.and_eq_true,decide_eq_true_eq] at h
 exact h
end
end Go.Ab
end
section
set_option linter.unusedVariables false
namespace Go.Ab.W8
open Go.Ab Go.Proofs
def lookA:List (Nat × Ann)→Nat→Option Ann
 | [],_=>none
 | (k,d) :: r,t=>bif k.beq t then some d else lookA r t
def z2:List Value:=[.int .i64 0]
def z3:List Value:=[.int .i64 0]
def z4:List Value:=[.bool false]
def z5:List Value:=[.int .u8 0]
def z6:List Value:=[.int .u8 0]
def z7:List Value:=[.int .i64 0,.int .i64 0,.bool false,.int .u8 0]
def z8:List Value:=[.int .i64 0,.int .i64 0,.bool false,.int .u8 0]
def z9:List Value:=[.string ⟨#[]⟩]
def z10:List Value:=[.string ⟨#[]⟩]
def z11:List Value:=[.string ⟨#[]⟩]
def z12:List Value:=[.int .u64 0]
def z13:List Value:=[.string ⟨#[]⟩,.int .u64 0]
def z14:List Value:=[.string ⟨#[]⟩,.int .u64 0]
def z15:List Value:=[.pointer none]
def z16:List Value:=[.pointer none]
def z17:List Value:=[.pointer none]
def z18:List Value:=[.pointer none]
def z19:List Value:=[.pointer none]
def z20:List Value:=[.nilIface]
def z21:List Value:=[.int .i32 0]
def z22:List Value:=[.slice none 0 0]
def z23:List Value:=[.int .i64 0,.int .i64 0,.slice none 0 0]
def z24:List Value:=[.int .i64 0,.int .i64 0,.slice none 0 0]
def z25:List Value:=[.nilFunc]
def z26:List Value:=[.nilFunc]
def z27:List Value:=[.slice none 0 0]
def z28:List Value:=[.nilFunc]
def z29:List Value:=[.nilFunc]
def z30:List Value:=[.nilFunc]
def z31:List Value:=[.slice none 0 0]
def z32:List Value:=[.slice none 0 0]
def z33:List Value:=[.nilFunc]
def z34:List Value:=[.nilFunc]
def z35:List Value:=[.nilFunc]
def z36:List Value:=[.nilFunc]
def z37:List Value:=[.int .i64 0,.int .i64 0,.int .i64 0,.int .i64 0,.slice none 0 0,.int .i64 0,.int .i64 0,.int .i64 0]
def z38:List Value:=[.int .i64 0,.int .i64 0,.int .i64 0,.int .i64 0,.slice none 0 0,.int .i64 0,.int .i64 0,.int .i64 0]
def z39:List Value:=[.slice none 0 0]
def z40:List Value:=[.int .i64 0,.slice none 0 0,.bool false,.bool false]
def z41:List Value:=[.int .i64 0,.slice none 0 0,.bool false,.bool false]
def z42:List Value:=[.slice none 0 0]
def z43:List Value:=[.bool false,.int .i64 0,.slice none 0 0,.bool false,.bool false,.slice none 0 0,.int .i64 0,.int .i64 0,.int .i64 0,.int .i64 0,.slice none 0 0,.int .i64 0,.int .i64 0,.int .i64 0]
def z44:List Value:=[.bool false,.int .i64 0,.slice none 0 0,.bool false,.bool false,.slice none 0 0,.int .i64 0,.int .i64 0,.int .i64 0,.int .i64 0,.slice none 0 0,.int .i64 0,.int .i64 0,.int .i64 0]
def z45:List Value:=[.slice none 0 0]
def z46:List Value:=[.slice none 0 0,.slice none 0 0,.slice none 0 0]
def z47:List Value:=[.slice none 0 0,.slice none 0 0,.slice none 0 0]
def z48:List Value:=[.nilFunc]
def z49:List Value:=[.slice none 0 0]
def z50:List Value:=[.nilFunc]
def z51:List Value:=[.nilFunc]
def z52:List Value:=[.nilFunc]
def z53:List Value:=[.nilFunc]
def z54:List Value:=[.nilFunc]
def z55:List Value:=[.nilFunc]
def z56:List Value:=[.nilFunc]
def z57:List Value:=[.nilFunc]
def z58:List Value:=[.slice none 0 0]
def z59:List Value:=[.int .i64 0,.int .i64 0,.slice none 0 0,.slice none 0 0,.slice none 0 0,.slice none 0 0]
def z60:List Value:=[.int .i64 0,.int .i64 0,.slice none 0 0,.slice none 0 0,.slice none 0 0,.slice none 0 0]
def z61:List Value:=[.nilFunc]
def z62:List Value:=[.nilFunc]
def z63:List Value:=[.int .i64 0]
def z64:List Value:=[.nilFunc]
def z65:List Value:=[.nilFunc]
def z66:List Value:=[.nilFunc]
def z67:List Value:=[.nilFunc]
def z68:List Value:=[.nilFunc]
def z69:List Value:=[.nilFunc]
def z70:List Value:=[.nilFunc]
def z71:List Value:=[.pointer none]
def z72:List Value:=[.int .i64 0,.slice none 0 0]
def z73:List Value:=[.int .i64 0,.slice none 0 0]
def z74:List Value:=[.pointer none]
def z75:List Value:=[.nilFunc]
def z76:List Value:=[.nilFunc]
def z77:List Value:=[.pointer none,.pointer none,.pointer none,.string ⟨#[]⟩]
def z78:List Value:=[.pointer none,.pointer none,.pointer none,.string ⟨#[]⟩]
def z79:List Value:=[]
def z80:List Value:=[]
def z81:List Value:=[]
def z82:List Value:=[.nilFunc]
def z83:List Value:=[.int .u32 0]
def z84:List Value:=[.int .u8 0]
def z85:List Value:=[.int .u8 0]
def z86:List Value:=[.nilFunc]
def z87:List Value:=[.pointer none]
def z88:List Value:=[.int .i32 0]
def z89:List Value:=[.int .i32 0]
def z90:List Value:=[.int .u64 0,.int .u64 0,.int .u32 0,.int .u8 0,.int .u8 0,.int .u8 0,.int .u8 0,.nilFunc,.pointer none,.int .i32 0,.int .i32 0]
def z91:List Value:=[.int .u64 0,.int .u64 0,.int .u32 0,.int .u8 0,.int .u8 0,.int .u8 0,.int .u8 0,.nilFunc,.pointer none,.int .i32 0,.int .i32 0]
def z92:List Value:=[.int .u16 0]
def z93:List Value:=[.int .i64 0,.int .i64 0,.int .i64 0,.int .i64 0,.int .u16 0,.int .i64 0,.slice none 0 0]
def z94:List Value:=[.int .i64 0,.int .i64 0,.int .i64 0,.int .i64 0,.int .u16 0,.int .i64 0,.slice none 0 0]
def tab:Tab:=lookT [
 (2,⟨1,8,.int .i64,z2,[]⟩),
 (3,⟨1,8,.int .i64,z3,[]⟩),
 (4,⟨1,1,.bool,z4,[]⟩),
 (5,⟨1,1,.int .u8,z5,[]⟩),
 (6,⟨1,1,.int .u8,z6,[]⟩),
 (7,⟨4,24,.struct,z7,[(0,2),(1,3),(2,4),(3,6)]⟩),
 (8,⟨4,24,.struct,z8,[(0,2),(1,3),(2,4),(3,6)]⟩),
 (9,⟨1,16,.str,z9,[]⟩),
 (10,⟨1,16,.str,z10,[]⟩),
 (11,⟨1,16,.str,z11,[]⟩),
 (12,⟨1,8,.int .u64,z12,[]⟩),
 (13,⟨2,24,.struct,z13,[(0,9),(1,12)]⟩),
 (14,⟨2,24,.struct,z14,[(0,9),(1,12)]⟩),
 (15,⟨1,8,.ptr,z15,[]⟩),
 (16,⟨1,8,.ptr,z16,[]⟩),
 (17,⟨1,8,.ptr,z17,[]⟩),
 (18,⟨1,8,.struct,z18,[(0,17)]⟩),
 (19,⟨1,8,.struct,z19,[(0,17)]⟩),
 (20,⟨1,16,.other,z20,[]⟩),
 (21,⟨1,4,.int .i32,z21,[]⟩),
 (22,⟨1,24,.slice 44,z22,[]⟩),
 (23,⟨3,40,.struct,z23,[(0,3),(1,3),(2,22)]⟩),
 (24,⟨3,40,.struct,z24,[(0,3),(1,3),(2,22)]⟩),
 (25,⟨1,8,.other,z25,[]⟩),
 (26,⟨1,8,.other,z26,[]⟩),
 (27,⟨1,24,.slice 3,z27,[]⟩),
 (28,⟨1,8,.other,z28,[]⟩),
 (29,⟨1,8,.other,z29,[]⟩),
 (30,⟨1,8,.other,z30,[]⟩),
 (31,⟨1,24,.slice 5,z31,[]⟩),
 (32,⟨1,24,.slice 4,z32,[]⟩),
 (33,⟨1,8,.other,z33,[]⟩),
 (34,⟨1,8,.other,z34,[]⟩),
 (35,⟨1,8,.other,z35,[]⟩),
 (36,⟨1,8,.other,z36,[]⟩),
 (37,⟨8,80,.struct,z37,[(0,3),(1,3),(2,3),(3,3),(4,27),(5,3),(6,3),(7,3)]⟩),
 (38,⟨8,80,.struct,z38,[(0,3),(1,3),(2,3),(3,3),(4,27),(5,3),(6,3),(7,3)]⟩),
 (39,⟨1,24,.slice 92,z39,[]⟩),
 (40,⟨4,40,.struct,z40,[(0,3),(1,39),(2,4),(3,4)]⟩),
 (41,⟨4,40,.struct,z41,[(0,3),(1,39),(2,4),(3,4)]⟩),
 (42,⟨1,24,.slice 94,z42,[]⟩),
 (43,⟨14,152,.struct,z43,[(0,4),(1,41),(5,42),(6,38)]⟩),
 (44,⟨14,152,.struct,z44,[(0,4),(1,41),(5,42),(6,38)]⟩),
 (45,⟨1,24,.slice 27,z45,[]⟩),
 (46,⟨3,72,.struct,z46,[(0,27),(1,45),(2,27)]⟩),
 (47,⟨3,72,.struct,z47,[(0,27),(1,45),(2,27)]⟩),
 (48,⟨1,8,.other,z48,[]⟩),
 (49,⟨1,24,.slice 32,z49,[]⟩),
 (50,⟨1,8,.other,z50,[]⟩),
 (51,⟨1,8,.other,z51,[]⟩),
 (52,⟨1,8,.other,z52,[]⟩),
 (53,⟨1,8,.other,z53,[]⟩),
 (54,⟨1,8,.other,z54,[]⟩),
 (55,⟨1,8,.other,z55,[]⟩),
 (56,⟨1,8,.other,z56,[]⟩),
 (57,⟨1,8,.other,z57,[]⟩),
 (58,⟨1,24,.slice 73,z58,[]⟩),
 (59,⟨6,112,.struct,z59,[(0,24),(3,32),(4,58),(5,27)]⟩),
 (60,⟨6,112,.struct,z60,[(0,24),(3,32),(4,58),(5,27)]⟩),
 (61,⟨1,8,.other,z61,[]⟩),
 (62,⟨1,8,.other,z62,[]⟩),
 (63,⟨1,8,.int .i64,z63,[]⟩),
 (64,⟨1,8,.other,z64,[]⟩),
 (65,⟨1,8,.other,z65,[]⟩),
 (66,⟨1,8,.other,z66,[]⟩),
 (67,⟨1,8,.other,z67,[]⟩),
 (68,⟨1,8,.other,z68,[]⟩),
 (69,⟨1,8,.other,z69,[]⟩),
 (70,⟨1,8,.other,z70,[]⟩),
 (71,⟨1,8,.ptr,z71,[]⟩),
 (72,⟨2,32,.struct,z72,[(0,3),(1,27)]⟩),
 (73,⟨2,32,.struct,z73,[(0,3),(1,27)]⟩),
 (74,⟨1,8,.ptr,z74,[]⟩),
 (75,⟨1,8,.other,z75,[]⟩),
 (76,⟨1,8,.other,z76,[]⟩),
 (77,⟨4,40,.struct,z77,[(0,17),(1,17),(2,17),(3,9)]⟩),
 (78,⟨4,40,.struct,z78,[(0,17),(1,17),(2,17),(3,9)]⟩),
 (79,⟨0,0,.arr 0 16,z79,[]⟩),
 (80,⟨0,0,.struct,z80,[(0,79)]⟩),
 (81,⟨0,0,.struct,z81,[(0,79)]⟩),
 (82,⟨1,8,.other,z82,[]⟩),
 (83,⟨1,4,.int .u32,z83,[]⟩),
 (84,⟨1,1,.int .u8,z84,[]⟩),
 (85,⟨1,1,.int .u8,z85,[]⟩),
 (86,⟨1,8,.other,z86,[]⟩),
 (87,⟨1,8,.ptr,z87,[]⟩),
 (88,⟨1,4,.int .i32,z88,[]⟩),
 (89,⟨1,4,.int .i32,z89,[]⟩),
 (90,⟨11,48,.struct,z90,[(0,12),(1,12),(2,83),(3,84),(4,5),(5,5),(6,85),(7,86),(8,87),(9,88),(10,89)]⟩),
 (91,⟨11,48,.struct,z91,[(0,12),(1,12),(2,83),(3,84),(4,5),(5,5),(6,85),(7,86),(8,87),(9,88),(10,89)]⟩),
 (92,⟨1,2,.int .u16,z92,[]⟩),
 (93,⟨7,72,.struct,z93,[(0,3),(1,3),(2,3),(3,3),(4,92),(5,3),(6,27)]⟩),
 (94,⟨7,72,.struct,z94,[(0,3),(1,3),(2,3),(3,3),(4,92),(5,3),(6,27)]⟩)]
def pure (f:FuncId):Bool:=memB f []
def lookL:List (Nat × List Nat)→Nat→List Nat
 | [],_=>[]
 | (k,d) :: r,t=>bif k.beq t then d else lookL r t
def rts:FuncId→List TypeId:=lookL [(39,[3])]
def f39_ann:Nat→Option Ann:=lookA [(1,⟨[1,2,3],[],[],[],[]⟩)]
def f39_jn:Nat→Option Ann:=lookA []
noncomputable def fns:FuncId→Option Func:=fun f=>bif f.beq 39 then some Try.f39 else none
def anns:FuncId→Nat→Option Ann:=fun f=>bif f.beq 39 then f39_ann else fun _=>none
def jns:FuncId→Nat→Option Ann:=fun f=>bif f.beq 39 then f39_jn else fun _=>none
def lent:FuncId→Option LentD:=lookD []
def selfT (t:TypeId):Bool:=memB t []
def ext:FuncId→Option (List TV→Option TV):=fun f=>none
def opn (f:FuncId):Bool:=memB f []
def kps:FuncId→Nat→Option (List Nat):=fun f=>fun _=>none
def peek:FuncId→Option (Nat × Nat):=fun f=>none
noncomputable def prog:AProg:=⟨tab,pure,rts,fns,anns,jns,lent,selfT,ext,opn,kps,peek⟩
end Go.Ab.W8
end
section
set_option linter.unusedVariables false
set_option maxRecDepth 100000
namespace Go.Ab.W8
open Go Go.Ab Go.Proofs Go.Lib Go.RowKit
theorem ok_ty:∀ t d,tab t=some d→TyOk Try.prog t d :=
 tab_cons (by kernel_rfl) (tab_cons (by kernel_rfl) (tab_cons (by kernel_rfl) (tab_cons (by kernel_rfl) (tab_cons (by kernel_rfl) (tab_cons (by kernel_rfl) (tab_cons (by kernel_rfl) (tab_cons (by kernel_rfl) (tab_cons (by kernel_rfl) (tab_cons (by kernel_rfl) (tab_cons (by kernel_rfl) (tab_cons (by kernel_rfl) (tab_cons (by kernel_rfl) (tab_cons (by kernel_rfl) (tab_cons (by kernel_rfl) (tab_cons (by kernel_rfl) (tab_cons (by kernel_rfl) (tab_cons (by kernel_rfl) (tab_cons (by kernel_rfl) (tab_cons (by kernel_rfl) (tab_cons (by kernel_rfl) (tab_cons (by kernel_rfl) (tab_cons (by kernel_rfl) (tab_cons (by kernel_rfl) (tab_cons (by kernel_rfl) (tab_cons (by kernel_rfl) (tab_cons (by kernel_rfl) (tab_cons (by kernel_rfl) (tab_cons (by kernel_rfl) (tab_cons (by kernel_rfl) (tab_cons (by kernel_rfl) (tab_cons (by kernel_rfl) (tab_cons (by kernel_rfl) (tab_cons (by kernel_rfl) (tab_cons (by kernel_rfl) (tab_cons (by kernel_rfl) (tab_cons (by kernel_rfl) (tab_cons (by kernel_rfl) (tab_cons (by kernel_rfl) (tab_cons (by kernel_rfl) (tab_cons (by kernel_rfl) (tab_cons (by kernel_rfl) (tab_cons (by kernel_rfl) (tab_cons (by kernel_rfl) (tab_cons (by kernel_rfl) (tab_cons (by kernel_rfl) (tab_cons (by kernel_rfl) (tab_cons (by kernel_rfl) (tab_cons (by kernel_rfl) (tab_cons (by kernel_rfl) (tab_cons (by kernel_rfl) (tab_cons (by kernel_rfl) (tab_cons (by kernel_rfl) (tab_cons (by kernel_rfl) (tab_cons (by kernel_rfl) (tab_cons (by kernel_rfl) (tab_cons (by kernel_rfl) (tab_cons (by kernel_rfl) (tab_cons (by kernel_rfl) (tab_cons (by kernel_rfl) (tab_cons (by kernel_rfl) (tab_cons (by kernel_rfl) (tab_cons (by kernel_rfl) (tab_cons (by kernel_rfl) (tab_cons (by kernel_rfl) (tab_cons (by kernel_rfl) (tab_cons (by kernel_rfl) (tab_cons (by kernel_rfl) (tab_cons (by kernel_rfl) (tab_cons (by kernel_rfl) (tab_cons (by kernel_rfl) (tab_cons (by kernel_rfl) (tab_cons (by kernel_rfl) (tab_cons (by kernel_rfl) (tab_cons (by kernel_rfl) (tab_cons (by kernel_rfl) (tab_cons (by kernel_rfl) (tab_cons (by kernel_rfl) (tab_cons (by kernel_rfl) (tab_cons (by kernel_rfl) (tab_cons (by kernel_rfl) (tab_cons (by kernel_rfl) (tab_cons (by kernel_rfl) (tab_cons (by kernel_rfl) (tab_cons (by kernel_rfl) (tab_cons (by kernel_rfl) (tab_cons (by kernel_rfl) (tab_cons (by kernel_rfl) (tab_cons (by kernel_rfl) (tab_cons (by kernel_rfl) (tab_cons (by kernel_rfl) (tab_cons (by kernel_rfl) (tab_cons (by kernel_rfl) (tab_nil)))))))))))))))))))))))))))))))))))))))))))))))))))))))))))))))))))))))))))))))))))))))))))))
theorem ok_fn:∀ f e,fns f=some e→FnOk Try.prog f e :=
 fn_cons Try.func39 (by kernel_rfl) (by kernel_rfl) (fn_nil)
def noG:Laid:=⟨fun _ _=>True,fun _ _ _=>trivial⟩
theorem ok:prog.Ok Try.prog noG:=⟨ok_ty,ok_fn,by kernel_rfl,fun f g xs r hg hr=>by cases hg⟩
end Go.Ab.W8
end
section
set_option linter.unusedVariables false
set_option maxRecDepth 100000
namespace Go.Ab.W8
open Go Go.Ab Go.Proofs
def f39_0_S  (x0 x1 y2 y3 y4:TV):ASt:=⟨[AV.one CA.junk,AV.tv x0,AV.tv x1,AV.one (CA.ptr 0 0)] ++ List.replicate 20 (AV.one CA.junk),[Option.some (BC.cells [CA.t y2,CA.t y3,CA.t y4])] ++ List.replicate 47 (Option.none),[]⟩
def f39_M (x0 x1 x2:TV):Prg TV :=
 Prg.chk (TV.isAgg x0 3) (
 Prg.jmp [0,0,0,1] (f39_0_S x1 x2 (TV.cell x0 0) (TV.cell x0 1) (TV.cell x0 2)))
def f39_0  (x0 x1 y2 y3 y4:TV):Prg TV :=
 Prg.tv (pbin (Kd.int IntKind.i64) BinOp.neq x0 x1) fun v0 =>
 Prg.ite (asBool v0) (
  Prg.tv (pbin (Kd.int IntKind.i64) BinOp.gtr x0 x1) fun v1 =>
  Prg.ite (asBool v1) (
   Prg.tvs (pidx 1 y4 x0) fun e2 =>
   Prg.chk (Nat.blt 0 (List.length e2)) (
   Prg.jmp [0,0,0,1] (f39_0_S (nth TV.hole e2 0) x1 y2 y3 y4))) (
   Prg.tvs (pidx 1 y4 x1) fun e3 =>
   Prg.chk (Nat.blt 0 (List.length e3)) (
   Prg.jmp [0,0,0,1] (f39_0_S x0 (nth TV.hole e3 0) y2 y3 y4)))) (
  Prg.ret x0)
theorem f39_MR (x0 x1 x2:TV):startQ prog 39 [x0,x1,x2]=f39_M x0 x1 x2:=by kernel_rfl
theorem f39_0_R  (x0 x1 y2 y3 y4:TV):pieceQ prog 39 [0,0,0,1] (f39_0_S x0 x1 y2 y3 y4)=f39_0 x0 x1 y2 y3 y4:=by kernel_rfl
theorem f39_0_J  {x0 x1 y2 y3 y4:TV} {r:TV} (h:Goes prog 39 (f39_0 x0 x1 y2 y3 y4) r):Goes prog 39 (.jmp [0,0,0,1] (f39_0_S x0 x1 y2 y3 y4)) r:=Goes.jmp (f39_0_R x0 x1 y2 y3 y4) h
end Go.Ab.W8
end
section
set_option linter.unusedVariables false
set_option maxRecDepth 10000
namespace Go.Ab.W8
open Go Go.Ab Go.Proofs Go.RowKit
theorem both_goes {y2 y3:TV} {q:Bool} {ov:List (List TV)} {o:List Int} (ho:F2 RI1 ov o) {a b r:Int} (h:Both o a b r):Goes prog 39 (f39_0 (I a) (I b) y2 y3 (.sl q 1 ov)) (I r):=by
 induction h with
 | @done a =>
  unfold f39_0
  exact Goes.tv rfl (Goes.ite (v:=false) (by simp [asBool]) (fun h=>nomatch h) fun _=>Goes.ret)
 | @left a b a' r h1 h2 h3 h4 _ ih =>
  obtain ⟨e,he,rfl,_⟩:=ho.get h4
  unfold f39_0
  refine Goes.tv rfl (Goes.ite (v:=true) (by simp [asBool,h1]) (fun _=>Goes.tv rfl (Goes.ite (v:=true) (by simp [asBool]; omega) (fun _=>?_) fun h=>nomatch h)) fun h=>nomatch h)
  exact Goes.tvs (v:=[I a']) (by simp [pidx,h3,he]) (Goes.chk rfl (f39_0_J ih))
 | @right a b b' r h1 h2 h3 h4 _ ih =>
  obtain ⟨e,he,rfl,_⟩:=ho.get h4
  unfold f39_0
  refine Goes.tv rfl (Goes.ite (v:=true) (by simp [asBool,h1]) (fun _=>Goes.tv rfl (Goes.ite (v:=false) (by simp [asBool]; omega) (fun h=>nomatch h) fun _=>?_)) fun h=>nomatch h)
  exact Goes.tvs (v:=[I b']) (by simp [pidx,h3,he]) (Goes.chk rfl (f39_0_J ih))
theorem both_runs {x0 x1:TV} {q:Bool} {ov:List (List TV)} {o:List Int} (ho:F2 RI1 ov o) {a b r:Int} (h:Both o a b r):Runs prog 39 [.agg [x0,x1,.sl q 1 ov],I a,I b] (I r):=by
 refine Runs.of (f39_MR _ _ _) ?_
 unfold f39_M
 exact Goes.chk rfl (f39_0_J (both_goes ho h))
theorem both_calls {x0 x1:TV} {q:Bool} {ov:List (List TV)} {o:List Int} (ho:F2 RI1 ov o) {a b r:Int} (h:Both o a b r):CallOk Try.prog noG 39 [.agg [x0,x1,.sl q 1 ov],I a,I b] (I r):=by
 obtain ⟨n,hn⟩:=both_runs (x0:=x0) (x1:=x1) (q:=q) ho h
 exact (((acall_sound ok n 39 _ _ hn).1 rfl).1 rfl).1
attribute [local go_sem] Oper.semAt_some
def dn {α:Type} (g:Nat→α) (len k:Nat):List α:=(((List.range len).drop k).reverse).map g
theorem dn_end {α:Type} (g:Nat→α) (len:Nat):dn g len len=[]:=by simp [dn]
theorem dn_next {α:Type} (g:Nat→α) {len k:Nat} (h:k < len):dn g len k=dn g len (k + 1) ++ [g k]:=by
 unfold dn
 rw [List.drop_eq_getElem_cons (by simpa using h)]
 simp
theorem dn_len {α:Type} (g:Nat→α) (len k:Nat):(dn g len k).length=len - k:=by simp [dn]
def KpB (n₀ Bs:Nat) (W W':World):Prop:=Below n₀ W W'∧∀ v,W.cell? ⟨Bs,0,none⟩=some v→W'.cell? ⟨Bs,0,none⟩=some v
theorem kpB_t {n₀ Bs:Nat} {A B C:World} (h:KpB n₀ Bs A B) (k:KpB n₀ Bs B C):KpB n₀ Bs A C:=⟨h.1.trans k.1,fun v hv=>k.2 v (h.2 v hv)⟩
theorem kpB_b {n₀ Bs:Nat} {w:World} (hn:n₀≤w.heap.size) (W:World) (l:Nat) (o o':Obj) (hl:w.heap.size≤l) (h:W.heap[l]? = some o) (h1:o.isCells=false) (h2:o.isWalk=false):KpB n₀ Bs W (W.putObj l o'):=by
 refine ⟨belowK_b hn W l o o' hl h h1 h2,fun v hv=>(World.cell?_of_block (w:=W) (World.putObj_heap_other fun e=>?_)).trans hv⟩
 obtain ⟨o2,ho2,hc2⟩:=cells_of_cell hv
 have e:Bs=l:=e
 rw [show ((⟨Bs,0,none⟩:Addr).block)=l from e,h] at ho2
 cases ho2
 rw [h1] at hc2
 cases hc2
set_option maxRecDepth 100000 in
set_option maxHeartbeats 2000000 in
theorem back1_in {α:Type} (enc:α→Nat × Nat) (F:Fence) (n:Nat) (h41:F.fn 41) (hro:F.round=none) (hn:1≤n) (l Bs n₀ b off len cap:Nat) (g:Nat→α) (zs:Nat→Nat) (hg:∀ j,j < len→enc (g j)=(j,zs j)) (hreach:len * 8≤140737488351232) (hb:b < n₀) (J Jx:List α→World→Prop)
  (hY : ∀ pre x W, J pre W → pre.length < len → YieldAt F (n - 1) Try.prog l #[.int .i64 ((enc x).1 : Int), .int .i64 ((enc x).2 : Int)] W fun e W' =>
   (e=.returned (.bool true)∧J (pre ++ [x]) W'∧KpB n₀ Bs W W')∨(e=.returned (.bool false)∧Jx (pre ++ [x]) W'))
  (W:World) (hBs:W.cell? ⟨Bs,0,none⟩=some (.slice (some ⟨b,off,none⟩) len cap)) (hc:∀ j,j < len→W.cell? ⟨b,off + j,none⟩=some (.int .i64 (zs j:Int))) (h0:J [] W) :
  CallsIn F n Try.prog 41 #[.func (.yield l) #[] #[],.pointer (some ⟨Bs,0,none⟩)] W fun e W'=>(∃ v,e=.returned v) ∧
   ((∃ ys,ys=dn g len 0∧J ys W')∨(∃ pre,True∧Jx pre W')):=by
 refine callsIn_of_wp Try.func41 rfl h41 ?_ hro
 simp only [Try.ntmps41,List.size_toArray,List.length_cons,List.length_nil,Nat.reduceAdd,Nat.reduceSub,Array.replicate_succ,Array.replicate_zero,List.push_toArray,List.append_toArray,List.nil_append,List.cons_append]
 gi_wp2
 gi_loopw [3] (fun i wr=>∃ k:Nat,k≤len∧i=.int .i64 ((k:Int) - 1)∧J (dn g len k) wr∧KpB n₀ Bs W wr)
  (fun i _=>(intOf i + 1).toNat)
 case atStart=>exact ⟨len,Nat.le_refl _,by simp,by rw [dn_end]; exact h0,Below.refl _ _,fun _ h=>h⟩
 case round =>
  obtain ⟨k,hk,rfl,hJs,hnx⟩:=hrel
  have hBs':wr.cell? ⟨Bs,0,none⟩=some (.slice (some ⟨b,off,none⟩) len cap):=hnx.2 _ hBs
  cases k with
  | succ k =>
   have hlt:k < len:=by omega
   have hcx:wr.cell? ⟨b,off + k,none⟩=some (.int .i64 (zs k:Int)):=(hnx.1.cell (p:=⟨b,off + k,none⟩) hb).trans (hc k hlt)
   obtain ⟨fn,tmps,assign,body,hy,hR⟩:=hY _ (g k) wr hJs (by rw [dn_len]; omega)
   rw [hg k hlt] at hy
   dsimp only at hy
   have e1:(((k + 1:Nat):Int) - 1)=(k:Int):=by omega
   rw [e1]
   gi_wp2
   refine hR.mono ?_
   rintro e W3 (⟨rfl,hJ3,hk3⟩ | ⟨rfl,hJx3⟩)
   ·gi_wp2
    go_roundw
    case rel=>exact ⟨k,by omega,by simp,by rw [dn_next g hlt]; exact hJ3,kpB_t hnx hk3⟩
    case measure=>simp [intOf]
   ·gi_wp2
    refine bodyPost_ret (results_none rfl _ _ _) rfl ?_
    exact ⟨⟨_,rfl⟩,.inr ⟨_,trivial,hJx3⟩⟩
  | zero =>
   have e1:(((0:Nat):Int) - 1)=-1:=rfl
   rw [e1]
   gi_wp2
   go_end0
   exact ⟨⟨_,rfl⟩,.inl ⟨_,rfl,hJs⟩⟩
set_option maxHeartbeats 1000000 in
theorem back_in (F:Fence) (n:Nat) (h38:F.fn 38) (hro:F.round=none) (a:Option Addr) (len cap:Nat) (w:World) :
  CallsIn F n Try.prog 38 #[.slice a len cap] w fun e w'=>e=.returned (.func (.func 41) #[] #[.pointer (some ⟨w.heap.size,0,none⟩)])∧w'=w.alloc (.cells #[.slice a len cap] 27):=by
 refine callsIn_of_wp Try.func38 rfl h38 ?_ hro
 simp only [Try.ntmps38,List.size_toArray,List.length_cons,List.length_nil,Nat.reduceAdd,Nat.reduceSub,Array.replicate_succ,Array.replicate_zero,List.push_toArray,List.append_toArray,List.nil_append,List.cons_append]
 gi_wp2
 go_ret
 exact ⟨rfl,rfl⟩
theorem Below.keepsFrom {W W':World} (h:Below W.heap.size W W') (B:Nat):KeepsFrom B W W':=⟨h.size,fun k o _ hk _=>(h.block k (Array.getElem?_eq_some_iff.1 hk).1).trans hk⟩
abbrev El (N:Nat):={ p:Nat × Nat // p.2 < N }
def elAt {N:Nat} (zs:Nat→Nat) (hz:∀ j,zs j < N) (j:Nat):El N:=⟨(j,zs j),hz j⟩
set_option maxRecDepth 100000 in
set_option maxHeartbeats 2000000 in
theorem all_in (F:Fence) (n:Nat) (h31:F.fn 31) (h38:F.fn 38) (h39:F.fn 39) (h41:F.fn 41) (hro:F.round=none) (hn:3≤n) (v0 v1 v2:Value) (hv0:v0.oneCell'=true) (hv1:v1.oneCell'=true) (hv2:v2.oneCell'=true) {N:Nat} {o:List Int}
  (b off len cap:Nat) (zs:Nat→Nat) (hz:∀ j,zs j < N) (h0:0 < len) (hreach:len * 8≤140737488351232) (w:World) (hb:b < w.heap.size) (hc:∀ j,j < len→w.cell? ⟨b,off + j,none⟩=some (.int .i64 (zs j:Int)))
  (hboth:∀ (l:Nat) (W:World) (s x:Nat),Below w.heap.size w W→s < N→x < N→∃ s':Nat,s' < N∧Both o s x s'∧CallsIn (F.inRound l) (n - 1 - 1 - 1) Try.prog 39 #[.agg #[v0,v1,v2],.int .i64 s,.int .i64 x] W fun e W'=>e=.returned (.int .i64 s')∧Below W.heap.size W W') :
  CallsIn F n Try.prog 31 #[.agg #[v0,v1,v2],.slice (some ⟨b,off,none⟩) len cap] w fun e W'=>∃ s:Nat,s < N∧e=.returned (.int .i64 s)∧Bths o (zs (len - 1)) ((dn (elAt zs hz) len 0).map fun x=>(x.1.2:Int)) s∧Below w.heap.size w W':=by
 have h1:1≤n:=by omega
 obtain ⟨m,rfl⟩:∃ m,len=m + 1:=⟨len - 1,by omega⟩
 have hcm:w.cell? ⟨b,off + m,none⟩=some (.int .i64 (zs m:Int)):=hc m (by omega)
 have e1:(((m + 1:Nat):Int) - 1)=(m:Int):=by omega
 refine callsIn_of_wp_marks Try.func31 rfl h31 ?_ hro
 simp only [Try.ntmps31,List.size_toArray,List.length_cons,List.length_nil,Nat.reduceAdd,Nat.reduceSub,Array.replicate_succ,Array.replicate_zero,List.push_toArray,List.append_toArray,List.nil_append,List.cons_append]
 gi_wp2_with (gi_at_call 38; refine (back_in F (n - 1) h38 hro _ _ _ _).mono ?_; rintro e w' ⟨rfl,rfl⟩)
 have bR:∀ W:World,W.heap[w.heap.size]? = some (.cells #[v0,v1,v2] 47)→W.cell? ⟨w.heap.size,0,none⟩=some v0∧W.cell? ⟨w.heap.size,1,none⟩=some v1∧W.cell? ⟨w.heap.size,2,none⟩=some v2:=fun W h=>by simp [World.cell?,h]
 have hR0:(((w.alloc (.cells #[v0,v1,v2] 47)).alloc (.cells #[.int .i64 (zs m:Int)] 3)).alloc (.cells #[.slice (some ⟨b,off,none⟩) (m + 1) cap] 27)).heap[w.heap.size]? = some (.cells #[v0,v1,v2] 47):=by
  rw [Below.heap_alloc _ _ _ (by simp; omega),Below.heap_alloc _ _ _ (by simp)]
  exact World.alloc_heap_new w _
 have bS:=Boxed.new (w.alloc (.cells #[v0,v1,v2] 47)) 3 (.int .i64 (zs m:Int))
 rw [World.size_alloc] at bS
 have bN:=Boxed.new ((w.alloc (.cells #[v0,v1,v2] 47)).alloc (.cells #[.int .i64 (zs m:Int)] 3)) 27 (.slice (some ⟨b,off,none⟩) (m + 1) cap)
 rw [World.size_alloc,World.size_alloc] at bN
 have hB0:Below w.heap.size w (((w.alloc (.cells #[v0,v1,v2] 47)).alloc (.cells #[.int .i64 (zs m:Int)] 3)).alloc (.cells #[.slice (some ⟨b,off,none⟩) (m + 1) cap] 27)):=(((Below.refl _ w).alloc (Nat.le_refl _) _).alloc (by simp) _).alloc (by simp; omega) _
 refine wpIn_rangeFunc_ownG (α:=El N) hro h1 (gf:=41) (lb:=#[.pointer (some ⟨w.heap.size + 1 + 1,0,none⟩)]) rfl h41 (enters_of Try.func41 (by kernel_rfl) rfl)
  (encs:=fun x=>#[.int .i64 (x.1.1:Int),.int .i64 (x.1.2:Int)]) (Kp:=KpB w.heap.size (w.heap.size + 1 + 1)) (S:=fun ys=>ys=dn (elAt zs hz) (m + 1) 0) (Sp:=fun _=>True) (N:=m + 1)
  (w0:=(((w.alloc (.cells #[v0,v1,v2] 47)).alloc (.cells #[.int .i64 (zs m:Int)] 3)).alloc (.cells #[.slice (some ⟨b,off,none⟩) (m + 1) cap] 27)))
  (fun l J Jx W hW _ _ hY h0 => back1_in (fun x : El N => x.1) F (n - 1) h41 hro (by omega) l (w.heap.size + 1 + 1) w.heap.size b off (m + 1) cap (elAt zs hz) zs (fun j _ => rfl) hreach hb J Jx hY W ((hW.cell (p := ⟨w.heap.size + 1 + 1, 0, none⟩) (by simp)).trans bN.cell)
   (fun j hj=>(hW.cell (p:=⟨b,off + j,none⟩) (by simp; omega)).trans ((hB0.cell (p:=⟨b,off + j,none⟩) hb).trans (hc j hj))) h0)
  kpB_t (kpB_b (by simp; omega)) (Below.refl _ _) (fun _=>rfl)
  (fun pre W=>(∃ s:Nat,s < N∧Bths o (zs m) (pre.map fun x=>(x.1.2:Int)) s∧Boxed W (w.heap.size + 1) 3 (.int .i64 (s:Int))∧W.heap[w.heap.size]? = some (.cells #[v0,v1,v2] 47))∧Below w.heap.size w W)
  (fun _ _ _=>False)
  (OwnFrom.and (Own.from (fun s A B row hs hg hr => by
   obtain ⟨s',h2,h3,h4,h5⟩:=hs
   refine ⟨s',h2,h3,(grownBy_keeps_cells hg hr h4 rfl).trans h4,(grownBy_keeps_cells hg hr h5 rfl).trans h5⟩) _) (ownFrom_below (Nat.le_refl _) (by simp; omega)))
  (fun _ _ _ _ _ hs _ _=>hs)
  ⟨⟨zs m,hz m,.nil,bS.alloc _,hR0⟩,hB0⟩
  (fun x=>{ tmps:=#[.agg #[v0,v1,v2],.slice (some ⟨b,off,none⟩) (m + 1) cap,.pointer (some ⟨w.heap.size,0,none⟩),undef,.int .i64 0,.pointer (some ⟨w.heap.size + 1,0,none⟩),undef,.int .i64 (x.1.2:Int),
     .slice (some ⟨b,off,none⟩) (m + 1) cap,.slice (some ⟨b,off,none⟩) (m + 1) cap,.int .i64 ((m:Int) + 1),.int .i64 (m:Int),.pointer (some ⟨b,off + m,none⟩),.int .i64 (zs m:Int),.slice (some ⟨b,off,none⟩) (m + 1) cap,
     .func (.func 41) #[] #[.pointer (some ⟨w.heap.size + 1 + 1,0,none⟩)],.int .i64 (x.1.1:Int),.int .i64 (x.1.2:Int),undef,undef,undef,undef,undef],defers:=[] }) ?assign ?body ?done ?stop
 case assign =>
  intro l x W K hK
  gi_wp2
  exact hK
 case body =>
  rintro l pre x W ⟨⟨s,hs,hbs,hbx,hbr⟩,hB⟩ _
  obtain ⟨s',hs',hbo,hcall⟩:=hboth l W s x.1.2 hB hs x.2
  obtain ⟨hr0,hr1,hr2⟩:=bR W hbr
  have hcs:=hbx.cell
  have hfs:=hbx.frozen
  have hd1:1≤n - 1 - 1:=by omega
  have hlt:=hbx.lt
  gi_wp2
  gi_at_call 39
  refine hcall.mono ?_
  rintro e w' ⟨rfl,hB'⟩
  have hbx':Boxed w' (w.heap.size + 1) 3 (.int .i64 (s:Int)):=(hB'.block _ hlt).trans hbx
  have hcs':=hbx'.cell
  have hfs':=hbx'.frozen
  gi_wp2
  have hB2:Below w.heap.size W (w'.setCell ⟨w.heap.size + 1,0,none⟩ (.int .i64 (s':Int))):=(hB'.mono hB.size).setCell (p:=⟨w.heap.size + 1,0,none⟩) (Nat.le_succ _) _
  refine ⟨(Below.keepsFrom hB' _).trans ((KeepsOthers.setCell _ _ _).from _),⟨hB2,fun v hv=>?_⟩,⟨s',hs',by rw [List.map_append]; exact hbs.snoc hbo,hbx'.set _,?_⟩,hB.trans hB2⟩
  ·have hl:=World.block_lt_of_cell? W _ hv
   exact (World.cell?_of_block (w:=w') (Below.heap_setCell w' _ _ _ (by simp))).trans ((hB'.cell (p:=⟨w.heap.size + 1 + 1,0,none⟩) hl).trans hv)
  ·exact (Below.heap_setCell w' _ _ _ (by simp)).trans ((hB'.block _ (Array.getElem?_eq_some_iff.1 hbr).1).trans hbr)
 case done =>
  rintro D ys W hD rfl ⟨⟨s,hs,hbs,hbx,hbr⟩,hB⟩ hK
  have hcs:=hbx.cell
  gi_wp2
  refine ⟨by simp,.inl ⟨_,_,rfl,run_takeDeferred hK,?_⟩⟩
  exact ⟨_,results_tmp rfl _ _ _,s,hs,rfl,hbs,hB.trans (belowK_b (w:=w) (Nat.le_refl _) W D _ _ (by simp at hD; omega) hK rfl rfl)⟩
 case stop =>
  rintro D c pre W _ _ h _
  exact h.elim
theorem sl_value {w:World} {I:Nat→Prop} {f:Bool} {ls:List (List TV)} {l:List Nat} (hl:F2 RI1 ls (castL l)) (h0:l≠[]) {v:Value} (h:Rep w I (.sl f 1 ls) v) :
  ∃ b off cap,v=.slice (some ⟨b,off,none⟩) l.length cap∧I b∧∀ j,j < l.length→w.cell? ⟨b,off + j,none⟩=some (.int .i64 ((l[j]?.getD 0:Nat):Int)):=by
 have hlen:ls.length=l.length:=by rw [hl.length,castL,List.length_map]
 have hpos:0 < l.length:=List.length_pos_iff.2 h0
 cases h with
 | @sl _ _ a cap cell hI hc hm hls hcell h1 hr =>
  have at_:∀ j,j < l.length→w.cell? (a.add j)=some (.int .i64 ((l[j]?.getD 0:Nat):Int)):=fun j hj=>by
   obtain ⟨e,he,rfl,_⟩:=hl.get (i:=j) (a:=((l[j]:Nat):Int)) (by simp [castL,hj])
   have:=hr j _ he 0 _ rfl
   have hv:=rep_lit this
   rw [Nat.mul_one,Nat.add_zero] at hv
   rw [hcell j (by omega),hv]
   simp [hj]
  have hs:a.spot=none:=by
   have:=at_ 0 hpos
   cases hsp:a.spot with
   | none=>rfl
   | some s =>
    exfalso
    unfold World.cell? at this
    have e:(a.add 0).spot=some s:=by simpa [Addr.add] using hsp
    rw [e] at this
    split at this <;> simp at this
  obtain ⟨ab,ao,asp⟩:=a
  simp only at hs
  subst hs
  refine ⟨ab,ao,cap,by rw [hlen],hI (by omega),fun j hj=>?_⟩
  have:=at_ j hj
  by_cases h:j=0
  ·subst h; simpa [Addr.add] using this
  ·simpa [Addr.add,h] using this
theorem dn_list {N:Nat} (l:List Nat) (hz:∀ j,(fun j=>l[j]?.getD 0) j < N):(dn (elAt (fun j=>l[j]?.getD 0) hz) l.length 0).map (fun x=>(x.1.2:Int))=(castL l).reverse:=by
 unfold dn castL
 rw [List.drop_zero,List.map_map,List.map_reverse]
 congr 1
 apply List.ext_getElem
 ·simp
 ·intro i h1 h2
  have h3:i < l.length:=by simpa using h1
  simp [elAt,h3]
theorem enter31:∀ vals w,(callFunc 31 vals).run Try.prog w=.ok (.enter 31 vals) w:=fun vals w=>by
 have hb:Try.f31.body.isSome=true:=by kernel_rfl
 have hname : (Try.f31.name == "runtime.NumGoroutine") = false := by kernel_rfl
 cases hbo:Try.f31.body with
 | none=>rw [hbo] at hb; cases hb
 | some c =>
  simp only [callFunc,Sem.run_bind,run_program,Result.andThen_ok,Try.func31,hname,hbo]
  simp
theorem xAll_ok {G:Laid} {xs:List TV} {r:TV} (h:xAll xs=some r):CallOk Try.prog G 31 xs r:=by
 obtain ⟨x0,x1,o1,o2,ov,ls,r,rfl,rfl,N,T,o,l,hT,hL,ho,hl,h0,hN,hN1,hl1,hA⟩:=xAll_some h
 intro I w vals hG hlt hsz hargs
 have hpos:0 < l.length:=List.length_pos_iff.2 h0
 have hN0:0 < N:=Nat.lt_of_le_of_lt (Nat.zero_le _) (hN _ (List.getElem_mem hpos))
 have hr0:=hargs 0 _ rfl
 have hr1:=hargs 1 _ rfl
 obtain ⟨b,off,cap,e1,hb,hc⟩:=sl_value hl h0 hr1
 obtain ⟨vs,e0,hvs,h1,hrs⟩:∃ vs:Array Value,vals.getD 0 undef=.agg vs∧vs.size=3∧(∀ j,j < vs.size→(vs.getD j undef).oneCell'=true)∧Rep w I (.agg [x0,x1,.sl o1 1 ov]) (.agg vs):=by
  generalize hv:vals.getD 0 undef=v at hr0
  have hr0':=hr0
  cases hr0 with
  | agg q1 q2 q3=>exact ⟨_,rfl,q1,q2,hr0'⟩
 obtain ⟨v0,v1,v2,rfl⟩:∃ v0 v1 v2,vs=#[v0,v1,v2]:=by
  refine ⟨vs[0],vs[1],vs[2],?_⟩
  apply Array.ext
  ·simp [hvs]
  ·intro i hi1 hi2
   have:i=0∨i=1∨i=2:=by omega
   rcases this with rfl | rfl | rfl <;> rfl
 have hvals:vals=#[.agg #[v0,v1,v2],.slice (some ⟨b,off,none⟩) l.length cap]:=by
  apply Array.ext
  ·simp at hsz; simp [hsz]
  ·intro i hi1 hi2
   have:i=0∨i=1:=by simp at hi2; omega
   rcases this with rfl | rfl
   ·simp [hi1] at e0; simp [e0]
   ·simp [hi1] at e1; simp [e1]
 subst hvals
 refine ⟨enter31 _ w,?_⟩
 have hz:∀ j:Nat,(fun j:Nat=>l[j]?.getD 0) j < N:=fun j=>by
  show l[j]?.getD 0 < N
  cases hj:l[j]? with
  | none=>exact hN0
  | some p=>exact hN p (List.mem_of_getElem? hj)
 have hcall:=all_in Fence.wide 3 trivial trivial trivial trivial rfl (Nat.le_refl _) v0 v1 v2 (h1 0 (by simp)) (h1 1 (by simp)) (h1 2 (by simp)) (N:=N) (o:=o) b off l.length cap (fun j=>l[j]?.getD 0) hz hpos (by omega) w (hlt b hb) hc (fun q W s x hB hs hx=>by
  obtain ⟨s',hb',hs',_⟩:=both_ex hT hL _ s x (Nat.le_refl _) hs hx
  refine ⟨s',by omega,hb',CallsIn.inRound q (callsIn_wide.2 ?_)⟩
  have hk:=(both_calls (x0:=x0) (x1:=x1) (q:=o1) ho hb') (fun b=>I b) W #[.agg #[v0,v1,v2],.int .i64 s,.int .i64 x] trivial (fun b hb=>Nat.lt_of_lt_of_le (hlt b hb) hB.size) rfl (fun j y hy=>by
   match j,hy with
   | 0,hy=>simp at hy; subst hy; exact hrs.mv (fun b hb=>hB.block b (hlt b hb)) fun _ h=>h
   | 1,hy=>simp at hy; subst hy; exact .lit _
   | 2,hy=>simp at hy; subst hy; exact .lit _)
  refine hk.2.mono ?_
  rintro e W' ⟨v,rfl,hB',_,_,_,_,_,_,hv⟩
  have:=repO_lit hv
  subst this
  exact ⟨rfl,hB'⟩)
 refine (callsIn_wide.1 hcall).mono ?_
 rintro e W' ⟨s,hs,rfl,hbs,hB⟩
 have hrs:r=(s:Int):=by
  refine hA.det ⟨((l[l.length - 1]?.getD 0:Nat):Int),?_,?_⟩
  ·rw [castL,List.getLast?_map,List.getLast?_eq_getElem?]
   have:l.length - 1 < l.length:=by omega
   simp [this]
  ·rw [← dn_list l hz]; exact hbs
 subst hrs
 exact ⟨_,rfl,hB,I,fun _=>False,fun _ h=>h,fun b hb=>Nat.lt_of_lt_of_le (hlt b hb) hB.size,fun _ _ h=>h,fun _ h=>h.elim,.fr (.lit _)⟩
end Go.Ab.W8
end
section
set_option linter.unusedVariables false
set_option maxRecDepth 100000
namespace Go.Ab.V8
open Go Go.Ab Go.Proofs Go.Lib Go.RowKit
theorem ok_ty:∀ t d,tab t=some d→TyOk Try.prog t d:=by
 repeat refine tab_cons (by kernel_rfl) ?_
 exact tab_nil
theorem ok_fn:∀ f e,fns f=some e→FnOk Try.prog f e:=by
 refine fn_cons Try.func4 (by kernel_rfl) (by kernel_rfl) ?_
 refine fn_cons Try.func7 (by kernel_rfl) (by kernel_rfl) ?_
 refine fn_cons Try.func8 (by kernel_rfl) (by kernel_rfl) ?_
 refine fn_cons Try.func9 (by kernel_rfl) (by kernel_rfl) ?_
 refine fn_cons Try.func11 (by kernel_rfl) (by kernel_rfl) ?_
 refine fn_cons Try.func13 (by kernel_rfl) (by kernel_rfl) ?_
 refine fn_cons Try.func15 (by kernel_rfl) (by kernel_rfl) ?_
 refine fn_cons Try.func16 (by kernel_rfl) (by kernel_rfl) ?_
 refine fn_cons Try.func18 (by kernel_rfl) (by kernel_rfl) ?_
 refine fn_cons Try.func19 (by kernel_rfl) (by kernel_rfl) ?_
 refine fn_cons Try.func20 (by kernel_rfl) (by kernel_rfl) ?_
 refine fn_cons Try.func21 (by kernel_rfl) (by kernel_rfl) ?_
 refine fn_cons Try.func22 (by kernel_rfl) (by kernel_rfl) ?_
 refine fn_cons Try.func23 (by kernel_rfl) (by kernel_rfl) ?_
 refine fn_cons Try.func24 (by kernel_rfl) (by kernel_rfl) ?_
 refine fn_cons Try.func25 (by kernel_rfl) (by kernel_rfl) ?_
 refine fn_cons Try.func26 (by kernel_rfl) (by kernel_rfl) ?_
 refine fn_cons Try.func27 (by kernel_rfl) (by kernel_rfl) ?_
 refine fn_cons Try.func28 (by kernel_rfl) (by kernel_rfl) ?_
 refine fn_cons Try.func29 (by kernel_rfl) (by kernel_rfl) ?_
 refine fn_cons Try.func30 (by kernel_rfl) (by kernel_rfl) ?_
 refine fn_cons Try.func32 (by kernel_rfl) (by kernel_rfl) ?_
 refine fn_cons Try.func33 (by kernel_rfl) (by kernel_rfl) ?_
 refine fn_cons Try.func34 (by kernel_rfl) (by kernel_rfl) ?_
 refine fn_cons Try.func35 (by kernel_rfl) (by kernel_rfl) ?_
 refine fn_cons Try.func36 (by kernel_rfl) (by kernel_rfl) ?_
 refine fn_cons Try.func37 (by kernel_rfl) (by kernel_rfl) ?_
 refine fn_cons Try.func40 (by kernel_rfl) (by kernel_rfl) ?_
 exact fn_nil
def noG:Laid:=⟨fun _ _=>True,fun _ _ _=>trivial⟩
theorem ok_ext:∀ f g xs r,ext f=some g→g xs=some r→f=31∧CallOk Try.prog noG f xs r:=by
 intro f g xs r hg hr
 unfold ext at hg
 cases hf:f.beq 31 with
 | false=>rw [hf] at hg; cases hg
 | true =>
  rw [hf] at hg
  cases hg
  have:f=31:=Nat.eq_of_beq_eq_true hf
  subst this
  exact ⟨rfl,Go.Ab.W8.xAll_ok hr⟩
theorem ok:prog.Ok Try.prog noG:=⟨ok_ty,ok_fn,by kernel_rfl,fun f g xs r hg hr=>by
 obtain ⟨rfl,h⟩:=ok_ext f g xs r hg hr
 exact ⟨fun _=>⟨fun _=>⟨h,fun h=>by cases h⟩,fun ld h=>by cases h⟩,fun c h=>by cases h⟩⟩
end Go.Ab.V8
end
section
set_option linter.unusedVariables false
set_option maxRecDepth 100000
namespace Go.Ab.V8
open Go Go.Ab Go.Proofs
theorem len_cons {cs:List TV} {n:Nat} (h:cs.length=n + 1):∃ c r,cs=c :: r∧r.length=n:=by
 cases cs with
 | nil=>simp at h
 | cons c r=>exact ⟨c,r,rfl,by simpa using h⟩
theorem len_nil {cs:List TV} (h:cs.length=0):cs=[]:=List.length_eq_zero_iff.1 h
theorem c_int:Try.prog.cellsOf 3=1:=by kernel_rfl
theorem c_word:Try.prog.cellsOf 92=1:=by kernel_rfl
theorem c_bool:Try.prog.cellsOf 4=1:=by kernel_rfl
theorem c_ins:Try.prog.cellsOf 94=7:=by kernel_rfl
theorem c_end:Try.prog.cellsOf 38=8:=by kernel_rfl
theorem c_pad:Try.prog.cellsOf 41=4:=by kernel_rfl
theorem c_block:Try.prog.cellsOf 44=14:=by kernel_rfl
theorem c_func:Try.prog.cellsOf 24=3:=by kernel_rfl
theorem c_ints:Try.prog.cellsOf 27=1:=by kernel_rfl
theorem c_words:Try.prog.cellsOf 39=1:=by kernel_rfl
theorem c_inss:Try.prog.cellsOf 42=1:=by kernel_rfl
theorem c_blocks:Try.prog.cellsOf 22=1:=by kernel_rfl
theorem h_int {cs:List TV} (h:HasTy Try.prog 3 cs):∃ n,RI1 cs n:=by
 obtain ⟨n,rfl,hw⟩:=h.int_at Try.underlying3
 exact ⟨n,rfl,wf_i64 hw⟩
theorem h_word {cs:List TV} (h:HasTy Try.prog 92 cs):∃ n,RW1 cs n:=by
 obtain ⟨n,rfl,hw⟩:=h.int_at Try.underlying92
 exact ⟨n,rfl,wf_u16 hw⟩
theorem h_int' {c:TV} (h:HasTy Try.prog 3 [c]):∃ n,c=I n∧inI n:=by
 obtain ⟨n,h1,h2⟩:=h_int h
 exact ⟨n,by simpa using h1,h2⟩
theorem h_word' {c:TV} (h:HasTy Try.prog 92 [c]):∃ n,c=W n∧inW n:=by
 obtain ⟨n,h1,h2⟩:=h_word h
 exact ⟨n,by simpa using h1,h2⟩
theorem h_bool' {c:TV} (h:HasTy Try.prog 4 [c]):∃ b,c=B b:=by
 obtain ⟨b,h1⟩:=h.bool_at Try.underlying4
 exact ⟨b,by simpa using h1⟩
theorem h_ints {c:TV} (h:HasTy Try.prog 27 [c]):∃ l,RInts (some false) c l:=by
 obtain ⟨x,l,hx,hl⟩:=h.sl_at Try.underlying27 c_int fun _ h=>h_int h
 simp at hx; subst hx
 exact ⟨l,hl⟩
theorem h_words {c:TV} (h:HasTy Try.prog 39 [c]):∃ l,RWords (some false) c l:=by
 obtain ⟨x,l,hx,hl⟩:=h.sl_at Try.underlying39 c_word fun _ h=>h_word h
 simp at hx; subst hx
 exact ⟨l,hl⟩
theorem h_ins {cs:List TV} (h:HasTy Try.prog 94 cs):∃ a,RIns (some false) cs a:=by
 obtain ⟨hl,hf⟩:=h.struct_at Try.underlying94
 rw [c_ins] at hl
 obtain ⟨c0,cs,rfl,k0⟩:=len_cons hl
 obtain ⟨c1,cs,rfl,k1⟩:=len_cons k0
 obtain ⟨c2,cs,rfl,k2⟩:=len_cons k1
 obtain ⟨c3,cs,rfl,k3⟩:=len_cons k2
 obtain ⟨c4,cs,rfl,k4⟩:=len_cons k3
 obtain ⟨c5,cs,rfl,k5⟩:=len_cons k4
 obtain ⟨c6,cs,rfl,k6⟩:=len_cons k5
 obtain rfl:=len_nil k6
 obtain ⟨n0,rfl,g0⟩:=h_int' (c:=c0) (by have:=hf 0 _ rfl; simpa [c_int] using this)
 obtain ⟨n1,rfl,g1⟩:=h_int' (c:=c1) (by have:=hf 1 _ rfl; simpa [c_int] using this)
 obtain ⟨n2,rfl,g2⟩:=h_int' (c:=c2) (by have:=hf 2 _ rfl; simpa [c_int] using this)
 obtain ⟨n3,rfl,g3⟩:=h_int' (c:=c3) (by have:=hf 3 _ rfl; simpa [c_int] using this)
 obtain ⟨n4,rfl,g4⟩:=h_word' (c:=c4) (by have:=hf 4 _ rfl; simpa [c_word] using this)
 obtain ⟨n5,rfl,g5⟩:=h_int' (c:=c5) (by have:=hf 5 _ rfl; simpa [c_int] using this)
 obtain ⟨l,hls⟩:=h_ints (c:=c6) (by have:=hf 6 _ rfl; simpa [c_ints] using this)
 exact ⟨⟨n0,n1,n2,n3,n4,n5,l⟩,_,rfl,hls,g0,g1,g2,g3,g4,g5⟩
theorem h_end {cs:List TV} (h:HasTy Try.prog 38 cs):∃ a,REnd (some false) cs a:=by
 obtain ⟨hl,hf⟩:=h.struct_at Try.underlying38
 rw [c_end] at hl
 obtain ⟨c0,cs,rfl,k0⟩:=len_cons hl
 obtain ⟨c1,cs,rfl,k1⟩:=len_cons k0
 obtain ⟨c2,cs,rfl,k2⟩:=len_cons k1
 obtain ⟨c3,cs,rfl,k3⟩:=len_cons k2
 obtain ⟨c4,cs,rfl,k4⟩:=len_cons k3
 obtain ⟨c5,cs,rfl,k5⟩:=len_cons k4
 obtain ⟨c6,cs,rfl,k6⟩:=len_cons k5
 obtain ⟨c7,cs,rfl,k7⟩:=len_cons k6
 obtain rfl:=len_nil k7
 obtain ⟨n0,rfl,g0⟩:=h_int' (c:=c0) (by have:=hf 0 _ rfl; simpa [c_int] using this)
 obtain ⟨n1,rfl,g1⟩:=h_int' (c:=c1) (by have:=hf 1 _ rfl; simpa [c_int] using this)
 obtain ⟨n2,rfl,g2⟩:=h_int' (c:=c2) (by have:=hf 2 _ rfl; simpa [c_int] using this)
 obtain ⟨n3,rfl,g3⟩:=h_int' (c:=c3) (by have:=hf 3 _ rfl; simpa [c_int] using this)
 obtain ⟨l,hls⟩:=h_ints (c:=c4) (by have:=hf 4 _ rfl; simpa [c_ints] using this)
 obtain ⟨n5,rfl,g5⟩:=h_int' (c:=c5) (by have:=hf 5 _ rfl; simpa [c_int] using this)
 obtain ⟨n6,rfl,g6⟩:=h_int' (c:=c6) (by have:=hf 6 _ rfl; simpa [c_int] using this)
 obtain ⟨n7,rfl,g7⟩:=h_int' (c:=c7) (by have:=hf 7 _ rfl; simpa [c_int] using this)
 exact ⟨⟨n0,n1,n2,n3,l,n5,n6,n7⟩,_,rfl,hls,g0,g1,g2,g3,g5,g6,g7⟩
theorem h_pad {cs:List TV} (h:HasTy Try.prog 41 cs):∃ a,RPad (some false) cs a:=by
 obtain ⟨hl,hf⟩:=h.struct_at Try.underlying41
 rw [c_pad] at hl
 obtain ⟨c0,cs,rfl,k0⟩:=len_cons hl
 obtain ⟨c1,cs,rfl,k1⟩:=len_cons k0
 obtain ⟨c2,cs,rfl,k2⟩:=len_cons k1
 obtain ⟨c3,cs,rfl,k3⟩:=len_cons k2
 obtain rfl:=len_nil k3
 obtain ⟨n0,rfl,g0⟩:=h_int' (c:=c0) (by have:=hf 0 _ rfl; simpa [c_int] using this)
 obtain ⟨l,hls⟩:=h_words (c:=c1) (by have:=hf 1 _ rfl; simpa [c_words] using this)
 obtain ⟨b2,rfl⟩:=h_bool' (c:=c2) (by have:=hf 2 _ rfl; simpa [c_bool] using this)
 obtain ⟨b3,rfl⟩:=h_bool' (c:=c3) (by have:=hf 3 _ rfl; simpa [c_bool] using this)
 exact ⟨⟨n0,l,b2,b3⟩,_,rfl,hls,g0⟩
theorem h_block {cs:List TV} (h:HasTy Try.prog 44 cs):∃ a,RBlock (some false) cs a:=by
 obtain ⟨hl,hf⟩:=h.struct_at Try.underlying44
 rw [c_block] at hl
 obtain ⟨c0,cs,rfl,k0⟩:=len_cons hl
 obtain ⟨c1,cs,rfl,k1⟩:=len_cons k0
 obtain ⟨c2,cs,rfl,k2⟩:=len_cons k1
 obtain ⟨c3,cs,rfl,k3⟩:=len_cons k2
 obtain ⟨c4,cs,rfl,k4⟩:=len_cons k3
 obtain ⟨c5,cs,rfl,k5⟩:=len_cons k4
 obtain ⟨c6,cs,rfl,k6⟩:=len_cons k5
 obtain ⟨c7,cs,rfl,k7⟩:=len_cons k6
 obtain ⟨c8,cs,rfl,k8⟩:=len_cons k7
 obtain ⟨c9,cs,rfl,k9⟩:=len_cons k8
 obtain ⟨c10,cs,rfl,k10⟩:=len_cons k9
 obtain ⟨c11,cs,rfl,k11⟩:=len_cons k10
 obtain ⟨c12,cs,rfl,k12⟩:=len_cons k11
 obtain ⟨c13,cs,rfl,k13⟩:=len_cons k12
 obtain rfl:=len_nil k13
 obtain ⟨b0,rfl⟩:=h_bool' (c:=c0) (by have:=hf 0 _ rfl; simpa [c_bool] using this)
 obtain ⟨p,cc,hp,hpc,hpd⟩:=h_pad (cs:=[c1,c2,c3,c4]) (by have:=hf 1 _ rfl; simpa [c_pad] using this)
 obtain ⟨x,is,hx,his⟩:=HasTy.sl_at (cs:=[c5]) (by have:=hf 2 _ rfl; simpa [c_inss] using this) Try.underlying42 c_ins fun _ h=>h_ins h
 obtain ⟨e,gg,he,heg,heo⟩:=h_end (cs:=[c6,c7,c8,c9,c10,c11,c12,c13]) (by have:=hf 3 _ rfl; simpa [c_end] using this)
 simp at hp hx he
 obtain ⟨rfl,rfl,rfl,rfl⟩:=hp
 subst hx
 obtain ⟨rfl,rfl,rfl,rfl,rfl,rfl,rfl,rfl⟩:=he
 exact ⟨⟨b0,p,is,e⟩,_,_,_,rfl,hpc,hpd,his,heg,heo⟩
theorem h_func {cs:List TV} (h:HasTy Try.prog 24 cs):∃ a,RFunc (some false) cs a:=by
 obtain ⟨hl,hf⟩:=h.struct_at Try.underlying24
 rw [c_func] at hl
 obtain ⟨c0,cs,rfl,k0⟩:=len_cons hl
 obtain ⟨c1,cs,rfl,k1⟩:=len_cons k0
 obtain ⟨c2,cs,rfl,k2⟩:=len_cons k1
 obtain rfl:=len_nil k2
 obtain ⟨n0,rfl,g0⟩:=h_int' (c:=c0) (by have:=hf 0 _ rfl; simpa [c_int] using this)
 obtain ⟨n1,rfl,g1⟩:=h_int' (c:=c1) (by have:=hf 1 _ rfl; simpa [c_int] using this)
 obtain ⟨x,bs,hx,hbs⟩:=HasTy.sl_at (cs:=[c2]) (by have:=hf 2 _ rfl; simpa [c_blocks] using this) Try.underlying22 c_block fun _ h=>h_block h
 simp at hx
 subst hx
 exact ⟨⟨n0,n1,bs⟩,_,rfl,hbs,g0,g1⟩
theorem v_func {x:TV} (h:ValTy Try.prog 24 x):∃ cs m,x=.agg cs∧RFunc (some false) cs m:=by
 rcases h with ⟨⟨cs,rfl,h⟩,_⟩ | ⟨_,h,_⟩
 ·obtain ⟨m,hm⟩:=h_func h; exact ⟨cs,m,rfl,hm⟩
 ·exact absurd Try.underlying24 (h _)
theorem v_byte {x:TV} (h:ValTy Try.prog 5 x):∃ n,x=.lit (.int .u8 n)∧(Lit.int .u8 n).wf=true:=by
 rcases h with ⟨⟨cs,rfl,h⟩,h2⟩ | ⟨h,_,_⟩
 ·rcases h2 with ⟨fs,h2⟩ | ⟨n,e,h2⟩ <;> (rw [Try.underlying5] at h2; cases h2)
 ·obtain ⟨n,h1,h2⟩:=h.int_at Try.underlying5
  exact ⟨n,by simpa using h1,h2⟩
end Go.Ab.V8
end
section
set_option linter.unusedVariables false
set_option maxRecDepth 100000
namespace Go.Ab.V8
open Go Go.Ab Go.Proofs
theorem c_byte:Try.prog.cellsOf 5=1:=by kernel_rfl
theorem wf_u8 {n:Int} (h:(Lit.int .u8 n).wf=true):0≤n∧n≤255:=by
 simp only [Lit.wf,Bool.and_eq_true,decide_eq_true_eq] at h
 have h1:=h.1
 have h2:=h.2
 constructor
 ·exact h1
 ·exact h2
theorem h_byte {cs:List TV} (h:HasTy Try.prog 5 cs):∃ n,RY1 cs n:=by
 obtain ⟨n,rfl,hw⟩:=h.int_at Try.underlying5
 exact ⟨n,rfl,wf_u8 hw⟩
theorem v_byte' {x:TV} (h:ValTy Try.prog 5 x):∃ n,x=.lit (.int .u8 n)∧(0≤n∧n≤255):=by
 obtain ⟨n,h1,h2⟩:=v_byte h
 exact ⟨n,h1,wf_u8 h2⟩
theorem v_bytes {x:TV} (h:ValTy Try.prog 31 x):∃ l,RL (some false) 1 RY1 x l:=by
 rcases h with ⟨⟨cs,rfl,h⟩,h2⟩ | ⟨h,_,_⟩
 ·rcases h2 with ⟨fs,h2⟩ | ⟨n,e,h2⟩ <;> (rw [Try.underlying31] at h2; cases h2)
 ·obtain ⟨y,l,hx,hl⟩:=h.sl_at Try.underlying31 c_byte fun _ h=>h_byte h
  simp at hx; subst hx
  exact ⟨l,hl⟩
end Go.Ab.V8
end

import Derived.Test.YthmcbcepgchhcaaEM17
import Derived.Test.YthmcbcepgchhcaaEU7T
section
namespace Go.Ab
open Go.RowKit Go.ChangeShapes Go.WideShapes
set_option linter.unusedVariables false
def ValsTy (P:Program):List TypeId→List TV→Prop
 | [],[]=>True
 | t :: ts,x :: xs=>ValTy P t x∧ValsTy P ts xs
 | _,_=>False
section
variable {H:Type} {enc:TypeId × Value→H} {P:Program} {W W':World}
theorem trodAll_vals:∀ (ts:List TypeId) (vs:List Value) (ds:List (DataW H)) (ps:List MemPlace) {base:Nat},(∀ t ∈ ts,plainTy P 24 t=true)→(∀ (j:Nat) t v,ts[j]? = some t→vs[j]? = some v→Value.okWide P W .any base t v) →
  DataW.TrodAll enc P W 0 (fun _=>true) true ts vs ds ps→∃ xs,ValsTy P ts xs∧xs.length=vs.length∧∀ (j:Nat) (x:TV) (v:Value),xs[j]? = some x→vs[j]? = some v→Rep W (fun b=>b < W.heap.size) x v
 | [],vs,ds,ps,base,hp,hv,h=>by
  obtain ⟨rfl,rfl,rfl⟩:=trodAll_nil h
  exact ⟨[],trivial,rfl,fun j x v hx=>by simp at hx⟩
 | t :: ts,vs,ds,ps,base,hp,hv,h=>by
  obtain ⟨v,vs1,d,ds1,a,b,rfl,rfl,rfl,h1,h2⟩:=trodAll_cons h
  obtain ⟨x,hx,hr⟩:=trod_val (hp t List.mem_cons_self) (hv 0 t v rfl rfl) h1
  obtain ⟨xs,hxs,hl,hrs⟩:=trodAll_vals ts vs1 ds1 b (fun t' ht'=>hp t' (List.mem_cons_of_mem _ ht')) (fun j t' v' h1' h2'=>hv (j + 1) t' v' (by simpa using h1') (by simpa using h2')) h2
  refine ⟨x :: xs,⟨hx,hxs⟩,by simp [hl],fun j y u hy hu=>?_⟩
  cases j with
  | zero=>simp at hy hu; subst hy hu; exact hr
  | succ j=>simp at hy hu; exact hrs j y u hy hu
theorem trodAll_keeps (hl:laidOutB P=true) (hb:Below W.heap.size W W'):∀ (ts:List TypeId) (vs:List Value) (ds:List (DataW H)) (ps:List MemPlace),(∀ t ∈ ts,P.readableRec t=true∧t < P.types.size)→(∀ p ∈ ps,p.block < W.heap.size) →
  DataW.TrodAll enc P W 0 (fun _=>true) true ts vs ds ps→DataW.TrodAll enc P W' 0 (fun b=>decide (b < W.heap.size)) true ts vs ds ps
 | [],vs,ds,ps,hr,hlt,h=>by
  obtain ⟨rfl,rfl,rfl⟩:=trodAll_nil h
  rfl
 | t :: ts,vs,ds,ps,hr,hlt,h=>by
  obtain ⟨v,vs1,d,ds1,a,b,rfl,rfl,rfl,h1,h2⟩:=trodAll_cons h
  exact ⟨a,b,Below.trod hl (hr t List.mem_cons_self).1 (hr t List.mem_cons_self).2 h1 hb (fun p hp=>hlt p (List.mem_append_left _ hp)),trodAll_keeps hl hb ts vs1 ds1 b (fun t' ht'=>hr t' (List.mem_cons_of_mem _ ht')) (fun p hp=>hlt p (List.mem_append_right _ hp)) h2,rfl⟩
theorem law_core {A:AProg} {G:Laid} (hA:A.Ok P G) (hG:G.P W (fun b=>b < W.heap.size)) {fid:FuncId} (hln:(A.lent fid,A.peek fid)=(none,none)) {f:Func} (hlaid:laidOutB P=true) (hpar:∀ t ∈ f.params.toList,plainTy P 24 t=true∧P.readableRec t=true∧t < P.types.size)
  {bt:TypeId} (hres:f.resultTypes=#[bt]) (hbt:P.underlying bt=some .bool) {s:ChangeSpec} (hvars:s.vars=[])
  (hs:∀ ds:List (DataW H),ds.length=f.params.size→s.fn H ds={ results:=[.lit (.bool true)],args:=ds })
  (hlaw:∀ xs,ValsTy P f.params.toList xs→∃ n,acall A n fid xs=some (.lit (.bool true)))
  {args:Array Value} {ds gs:List (DataW H)} {before:List MemPlace} {base:Nat} (hval:∀ (j:Nat) t v,f.params[j]? = some t→args[j]? = some v→Value.okWide P W .any base t v)
  (hW:DataW.Whole enc P f.params.toList s.vars false W args.toList ds gs before) :
  Calls P fid args W fun e W'=>∃ v,e=.returned v∧s.post enc P f false true false false W args v W':=by
 have hW':=hW
 obtain ⟨p,q,hT,hV,hpq,hfz,hnd⟩:=hW
 rw [hvars] at hV
 have hgs:gs=[]∧q=[]:=trodVars_none hV
 obtain ⟨hg0,hq0⟩:=hgs
 subst hg0 hq0
 rw [List.append_nil] at hpq
 subst hpq
 obtain ⟨xs,hxs,hxl,hxr⟩:=trodAll_vals f.params.toList args.toList ds before (fun t ht=>(hpar t ht).1) (fun j t v h1 h2=>hval j t v (by simpa using h1) (by simpa using h2)) hT
 obtain ⟨n,hn⟩:=hlaw xs hxs
 have hc:=((((acall_sound hA n fid xs _ hn).1 (Prod.mk.inj hln).2).1 (Prod.mk.inj hln).1).1 (fun b=>b < W.heap.size) W args hG (fun _ h=>h) (by simpa using hxl.symm) (fun j x hx=>by
  have hj:j < args.size:=by have:=(List.getElem?_eq_some_iff.1 hx).1; simp at hxl; omega
  exact hxr j x _ hx (by rw [Array.getElem?_toList,Array.getElem?_eq_getElem hj]; simp [hj]))).2
 refine hc.mono ?_
 rintro e W' ⟨v,rfl,hb,I2,S,_,_,_,_,hv⟩
 have:=repO_lit hv
 subst this
 have hlen:ds.length=f.params.size:=by
  have:∀ (ts:List TypeId) (vs:List Value) (ds:List (DataW H)) (ps:List MemPlace),DataW.TrodAll enc P W 0 (fun _=>true) true ts vs ds ps→ds.length=ts.length:=by
   intro ts
   induction ts with
   | nil=>intro vs ds ps h; obtain ⟨rfl,rfl,rfl⟩:=trodAll_nil h; rfl
   | cons t ts ih=>intro vs ds ps h; obtain ⟨v,vs1,d,ds1,a,b,rfl,rfl,rfl,h1,h2⟩:=trodAll_cons h; simp [ih _ _ _ h2]
  simpa using this _ _ _ _ hT
 have hlt:∀ p ∈ before,p.block < W.heap.size:=fun p hp=>hW'.lt p hp
 refine ⟨_,rfl,ds,[],before,[],before,[],hW',?_,?_,?_,?_,fun h=>by cases h⟩
 ·rw [List.append_nil,hs ds hlen,hres]
  exact trodAll_cons_mk (shut_bool hbt true) rfl
 ·rw [List.append_nil,hs ds hlen]
  exact trodAll_keeps hlaid hb _ _ _ _ (fun t ht=>(hpar t ht).2) hlt hT
 ·rw [List.append_nil,hs ds hlen,hvars]
  rfl
 ·exact World.keptBut_mono (fun p hp=>⟨hp,.inr (.inl hp)⟩) (hb.frame (· ∈ before))
end
end Go.Ab
end
section
namespace Go.Ab
set_option linter.unusedVariables false
section
variable {P:Program}
theorem tab_nil:∀ t e,lookT [] t=some e→TyOk P t e:=fun t e h=>by simp [lookT] at h
theorem tab_cons {l:List (Nat × TyD)} {k:Nat} {d:TyD} (h1:tyOf P k=some d) (h:∀ t e,lookT l t=some e→TyOk P t e):∀ t e,lookT ((k,d) :: l) t=some e→TyOk P t e:=by
 intro t e he
 simp only [lookT] at he
 cases hk:k.beq t with
 | true =>
  rw [hk] at he
  have:k=t:=Nat.eq_of_beq_eq_true hk
  subst this
  cases he
  exact TyOk.of h1
 | false=>rw [hk] at he; exact h t e he
def FnOk (P : Program) (f : FuncId) (fn : Func) : Prop := P.funcs[f]? = some fn ∧ (fn.name == "runtime.NumGoroutine") = false ∧ fn.body.isSome = true
theorem fn_nil:∀ (f:FuncId) (e:Func),(none:Option Func)=some e→FnOk P f e:=fun f e h=>by cases h
theorem fn_cons {g : FuncId → Option Func} {k : FuncId} {fn : Func} (h1 : P.funcs[k]? = some fn) (h2 : (fn.name == "runtime.NumGoroutine") = false) (h3 : fn.body.isSome = true) (h : ∀ f e, g f = some e → FnOk P f e) :
  ∀ f e,(bif Nat.beq f k then some fn else g f)=some e→FnOk P f e:=by
 intro f e he
 cases hk:Nat.beq f k with
 | true =>
  rw [hk] at he
  have:f=k:=Nat.eq_of_beq_eq_true hk
  subst this
  cases he
  exact ⟨h1,h2,h3⟩
 | false=>rw [hk] at he; exact h f e he
theorem HasTy.int_at {t:TypeId} {k:IntKind} {cs:List TV} (h:HasTy P t cs) (hu:P.underlying t=some (.int k)):∃ n,cs=[.lit (.int k n)]∧(Lit.int k n).wf=true:=by
 cases h with
 | int hu' hw=>rw [hu] at hu'; cases hu'; exact ⟨_,rfl,hw⟩
 | bool hu'=>rw [hu] at hu'; cases hu'
 | str hu'=>rw [hu] at hu'; cases hu'
 | nil hu'=>rw [hu] at hu'; cases hu'
 | sl hu'=>rw [hu] at hu'; cases hu'
 | struct hu'=>rw [hu] at hu'; cases hu'
 | arr hu'=>rw [hu] at hu'; cases hu'
theorem HasTy.bool_at {t:TypeId} {cs:List TV} (h:HasTy P t cs) (hu:P.underlying t=some .bool):∃ b,cs=[.lit (.bool b)]:=by
 cases h with
 | int hu' hw=>rw [hu] at hu'; cases hu'
 | bool hu'=>exact ⟨_,rfl⟩
 | str hu'=>rw [hu] at hu'; cases hu'
 | nil hu'=>rw [hu] at hu'; cases hu'
 | sl hu'=>rw [hu] at hu'; cases hu'
 | struct hu'=>rw [hu] at hu'; cases hu'
 | arr hu'=>rw [hu] at hu'; cases hu'
theorem F2.of_all {α:Type} {R:List TV→α→Prop}:∀ (xs:List (List TV)),(∀ (i:Nat) x,xs[i]? = some x→∃ a,R x a)→∃ l,F2 R xs l
 | [],_=>⟨[],.nil⟩
 | x :: xs,h=>by
  obtain ⟨a,ha⟩:=h 0 x rfl
  obtain ⟨l,hl⟩:=F2.of_all xs fun i y hy=>h (i + 1) y (by simpa using hy)
  exact ⟨a :: l,.cons ha hl⟩
theorem HasTy.sl_at {α:Type} {R:List TV→α→Prop} {t e:TypeId} {s:Nat} {cs:List TV} (h:HasTy P t cs) (hu:P.underlying t=some (.slice e)) (hs:P.cellsOf e=s) (hR:∀ x,HasTy P e x→∃ a,R x a):∃ x l,cs=[x]∧RL (some false) s R x l:=by
 subst hs
 cases h with
 | int hu' hw=>rw [hu] at hu'; cases hu'
 | bool hu'=>rw [hu] at hu'; cases hu'
 | str hu' hl=>rw [hu] at hu'; cases hu'
 | nil hu'=>exact ⟨_,[],rfl,.nil⟩
 | sl hu' hl h =>
  rw [hu] at hu'
  cases hu'
  obtain ⟨l,hl'⟩:=F2.of_all _ fun i x hx=>hR x (h i x hx)
  exact ⟨_,l,rfl,.sl (by simp) hl' (by have:maxLen=9223372036854775807:=rfl; omega)⟩
 | struct hu'=>rw [hu] at hu'; cases hu'
 | arr hu'=>rw [hu] at hu'; cases hu'
theorem HasTy.struct_at {t:TypeId} {fs:Array Field} {cs:List TV} (h:HasTy P t cs) (hu:P.underlying t=some (.struct fs)):cs.length=P.cellsOf t∧∀ (i:Nat) (f:Field),fs[i]? = some f→HasTy P f.type ((cs.drop f.offset).take (P.cellsOf f.type)):=by
 cases h with
 | int hu' hw=>rw [hu] at hu'; cases hu'
 | bool hu'=>rw [hu] at hu'; cases hu'
 | str hu' hl=>rw [hu] at hu'; cases hu'
 | nil hu'=>rw [hu] at hu'; cases hu'
 | sl hu'=>rw [hu] at hu'; cases hu'
 | struct hu' hl h=>rw [hu] at hu'; cases hu'; exact ⟨hl,h⟩
 | arr hu'=>rw [hu] at hu'; cases hu'
theorem wf_i64 {n:Int} (h:(Lit.int .i64 n).wf=true):inI n:=by
 simp only [Lit.wf,Bool.and_eq_true,decide_eq_true_eq] at h
 exact h
theorem wf_u16 {n:Int} (h:(Lit.int .u16 n).wf=true):inW n:=by
 simp only [Lit.wf,Bool.and_eq_true,decide_eq_true_eq] at h
 exact h
end
end Go.Ab
end
section
set_option linter.unusedVariables false
set_option maxRecDepth 100000
namespace Go.Ab.U7
open Go Go.Ab Go.Proofs Go.Lib Go.RowKit
theorem ok_ty:∀ t d,tab t=some d→TyOk Try.prog t d:=by
 repeat refine tab_cons (by kernel_rfl) ?_
 exact tab_nil
theorem ok_fn:∀ f e,fns f=some e→FnOk Try.prog f e:=by
 refine fn_cons Try.func9 (by kernel_rfl) (by kernel_rfl) ?_
 refine fn_cons Try.func12 (by kernel_rfl) (by kernel_rfl) ?_
 refine fn_cons Try.func13 (by kernel_rfl) (by kernel_rfl) ?_
 refine fn_cons Try.func15 (by kernel_rfl) (by kernel_rfl) ?_
 refine fn_cons Try.func21 (by kernel_rfl) (by kernel_rfl) ?_
 refine fn_cons Try.func22 (by kernel_rfl) (by kernel_rfl) ?_
 refine fn_cons Try.func23 (by kernel_rfl) (by kernel_rfl) ?_
 refine fn_cons Try.func24 (by kernel_rfl) (by kernel_rfl) ?_
 refine fn_cons Try.func26 (by kernel_rfl) (by kernel_rfl) ?_
 refine fn_cons Try.func29 (by kernel_rfl) (by kernel_rfl) ?_
 refine fn_cons Try.func31 (by kernel_rfl) (by kernel_rfl) ?_
 refine fn_cons Try.func34 (by kernel_rfl) (by kernel_rfl) ?_
 refine fn_cons Try.func35 (by kernel_rfl) (by kernel_rfl) ?_
 refine fn_cons Try.func36 (by kernel_rfl) (by kernel_rfl) ?_
 refine fn_cons Try.func38 (by kernel_rfl) (by kernel_rfl) ?_
 refine fn_cons Try.func41 (by kernel_rfl) (by kernel_rfl) ?_
 refine fn_cons Try.func45 (by kernel_rfl) (by kernel_rfl) ?_
 refine fn_cons Try.func46 (by kernel_rfl) (by kernel_rfl) ?_
 refine fn_cons Try.func47 (by kernel_rfl) (by kernel_rfl) ?_
 refine fn_cons Try.func48 (by kernel_rfl) (by kernel_rfl) ?_
 refine fn_cons Try.func49 (by kernel_rfl) (by kernel_rfl) ?_
 refine fn_cons Try.func51 (by kernel_rfl) (by kernel_rfl) ?_
 refine fn_cons Try.func52 (by kernel_rfl) (by kernel_rfl) ?_
 refine fn_cons Try.func53 (by kernel_rfl) (by kernel_rfl) ?_
 refine fn_cons Try.func54 (by kernel_rfl) (by kernel_rfl) ?_
 refine fn_cons Try.func55 (by kernel_rfl) (by kernel_rfl) ?_
 refine fn_cons Try.func56 (by kernel_rfl) (by kernel_rfl) ?_
 refine fn_cons Try.func57 (by kernel_rfl) (by kernel_rfl) ?_
 refine fn_cons Try.func58 (by kernel_rfl) (by kernel_rfl) ?_
 refine fn_cons Try.func59 (by kernel_rfl) (by kernel_rfl) ?_
 refine fn_cons Try.func70 (by kernel_rfl) (by kernel_rfl) ?_
 refine fn_cons Try.func71 (by kernel_rfl) (by kernel_rfl) ?_
 refine fn_cons Try.func74 (by kernel_rfl) (by kernel_rfl) ?_
 refine fn_cons Try.func75 (by kernel_rfl) (by kernel_rfl) ?_
 refine fn_cons Try.func76 (by kernel_rfl) (by kernel_rfl) ?_
 refine fn_cons Try.func77 (by kernel_rfl) (by kernel_rfl) ?_
 refine fn_cons Try.func78 (by kernel_rfl) (by kernel_rfl) ?_
 refine fn_cons Try.func79 (by kernel_rfl) (by kernel_rfl) ?_
 refine fn_cons Try.func80 (by kernel_rfl) (by kernel_rfl) ?_
 refine fn_cons Try.func81 (by kernel_rfl) (by kernel_rfl) ?_
 refine fn_cons Try.func82 (by kernel_rfl) (by kernel_rfl) ?_
 refine fn_cons Try.func83 (by kernel_rfl) (by kernel_rfl) ?_
 refine fn_cons Try.func84 (by kernel_rfl) (by kernel_rfl) ?_
 refine fn_cons Try.func85 (by kernel_rfl) (by kernel_rfl) ?_
 refine fn_cons Try.func86 (by kernel_rfl) (by kernel_rfl) ?_
 refine fn_cons Try.func96 (by kernel_rfl) (by kernel_rfl) ?_
 refine fn_cons Try.func97 (by kernel_rfl) (by kernel_rfl) ?_
 refine fn_cons Try.func98 (by kernel_rfl) (by kernel_rfl) ?_
 refine fn_cons Try.func99 (by kernel_rfl) (by kernel_rfl) ?_
 refine fn_cons Try.func100 (by kernel_rfl) (by kernel_rfl) ?_
 refine fn_cons Try.func101 (by kernel_rfl) (by kernel_rfl) ?_
 refine fn_cons Try.func102 (by kernel_rfl) (by kernel_rfl) ?_
 refine fn_cons Try.func103 (by kernel_rfl) (by kernel_rfl) ?_
 refine fn_cons Try.func104 (by kernel_rfl) (by kernel_rfl) ?_
 refine fn_cons Try.func105 (by kernel_rfl) (by kernel_rfl) ?_
 refine fn_cons Try.func109 (by kernel_rfl) (by kernel_rfl) ?_
 refine fn_cons Try.func110 (by kernel_rfl) (by kernel_rfl) ?_
 refine fn_cons Try.func111 (by kernel_rfl) (by kernel_rfl) ?_
 refine fn_cons Try.func112 (by kernel_rfl) (by kernel_rfl) ?_
 refine fn_cons Try.func113 (by kernel_rfl) (by kernel_rfl) ?_
 refine fn_cons Try.func114 (by kernel_rfl) (by kernel_rfl) ?_
 refine fn_cons Try.func115 (by kernel_rfl) (by kernel_rfl) ?_
 refine fn_cons Try.func116 (by kernel_rfl) (by kernel_rfl) ?_
 refine fn_cons Try.func117 (by kernel_rfl) (by kernel_rfl) ?_
 refine fn_cons Try.func118 (by kernel_rfl) (by kernel_rfl) ?_
 refine fn_cons Try.func119 (by kernel_rfl) (by kernel_rfl) ?_
 refine fn_cons Try.func120 (by kernel_rfl) (by kernel_rfl) ?_
 refine fn_cons Try.func121 (by kernel_rfl) (by kernel_rfl) ?_
 refine fn_cons Try.func122 (by kernel_rfl) (by kernel_rfl) ?_
 refine fn_cons Try.func123 (by kernel_rfl) (by kernel_rfl) ?_
 refine fn_cons Try.func124 (by kernel_rfl) (by kernel_rfl) ?_
 exact fn_nil
def noG:Laid:=⟨fun _ _=>True,fun _ _ _=>trivial⟩
theorem ok:prog.Ok Try.prog noG:=⟨ok_ty,ok_fn,by kernel_rfl,fun f g xs r hg hr=>by cases hg⟩
end Go.Ab.U7
end
section
set_option linter.unusedVariables false
set_option maxRecDepth 100000
namespace Go.Ab.U7
open Go Go.Ab Go.Proofs
theorem len_cons {cs:List TV} {n:Nat} (h:cs.length=n + 1):∃ c r,cs=c :: r∧r.length=n:=by
 cases cs with
 | nil=>simp at h
 | cons c r=>exact ⟨c,r,rfl,by simpa using h⟩
theorem len_nil {cs:List TV} (h:cs.length=0):cs=[]:=List.length_eq_zero_iff.1 h
theorem c_int:Try.prog.cellsOf 3=1:=by kernel_rfl
theorem c_word:Try.prog.cellsOf 29=1:=by kernel_rfl
theorem c_bool:Try.prog.cellsOf 4=1:=by kernel_rfl
theorem c_ins:Try.prog.cellsOf 70=7:=by kernel_rfl
theorem c_end:Try.prog.cellsOf 52=8:=by kernel_rfl
theorem c_pad:Try.prog.cellsOf 49=4:=by kernel_rfl
theorem c_block:Try.prog.cellsOf 54=14:=by kernel_rfl
theorem c_func:Try.prog.cellsOf 57=3:=by kernel_rfl
theorem c_mod:Try.prog.cellsOf 24=1:=by kernel_rfl
theorem c_ints:Try.prog.cellsOf 31=1:=by kernel_rfl
theorem c_words:Try.prog.cellsOf 25=1:=by kernel_rfl
theorem c_inss:Try.prog.cellsOf 50=1:=by kernel_rfl
theorem c_blocks:Try.prog.cellsOf 55=1:=by kernel_rfl
theorem c_funcs:Try.prog.cellsOf 22=1:=by kernel_rfl
theorem h_int {cs:List TV} (h:HasTy Try.prog 3 cs):∃ n,RI1 cs n:=by
 obtain ⟨n,rfl,hw⟩:=h.int_at Try.underlying3
 exact ⟨n,rfl,wf_i64 hw⟩
theorem h_word {cs:List TV} (h:HasTy Try.prog 29 cs):∃ n,RW1 cs n:=by
 obtain ⟨n,rfl,hw⟩:=h.int_at Try.underlying29
 exact ⟨n,rfl,wf_u16 hw⟩
theorem h_int' {c:TV} (h:HasTy Try.prog 3 [c]):∃ n,c=I n∧inI n:=by
 obtain ⟨n,h1,h2⟩:=h_int h
 exact ⟨n,by simpa using h1,h2⟩
theorem h_word' {c:TV} (h:HasTy Try.prog 29 [c]):∃ n,c=W n∧inW n:=by
 obtain ⟨n,h1,h2⟩:=h_word h
 exact ⟨n,by simpa using h1,h2⟩
theorem h_bool' {c:TV} (h:HasTy Try.prog 4 [c]):∃ b,c=B b:=by
 obtain ⟨b,h1⟩:=h.bool_at Try.underlying4
 exact ⟨b,by simpa using h1⟩
theorem h_ints {c:TV} (h:HasTy Try.prog 31 [c]):∃ l,RInts (some false) c l:=by
 obtain ⟨x,l,hx,hl⟩:=h.sl_at Try.underlying31 c_int fun _ h=>h_int h
 simp at hx; subst hx
 exact ⟨l,hl⟩
theorem h_words {c:TV} (h:HasTy Try.prog 25 [c]):∃ l,RWords (some false) c l:=by
 obtain ⟨x,l,hx,hl⟩:=h.sl_at Try.underlying25 c_word fun _ h=>h_word h
 simp at hx; subst hx
 exact ⟨l,hl⟩
theorem h_ins {cs:List TV} (h:HasTy Try.prog 70 cs):∃ a,RIns (some false) cs a:=by
 obtain ⟨hl,hf⟩:=h.struct_at Try.underlying70
 rw [c_ins] at hl
 obtain ⟨c0,cs,rfl,k0⟩:=len_cons hl
 obtain ⟨c1,cs,rfl,k1⟩:=len_cons k0
 obtain ⟨c2,cs,rfl,k2⟩:=len_cons k1
 obtain ⟨c3,cs,rfl,k3⟩:=len_cons k2
 obtain ⟨c4,cs,rfl,k4⟩:=len_cons k3
 obtain ⟨c5,cs,rfl,k5⟩:=len_cons k4
 obtain ⟨c6,cs,rfl,k6⟩:=len_cons k5
 obtain rfl:=len_nil k6
 obtain ⟨n0,rfl,g0⟩:=h_int' (c:=c0) (by have:=hf 0 _ rfl; simpa [c_int] using this)
 obtain ⟨n1,rfl,g1⟩:=h_int' (c:=c1) (by have:=hf 1 _ rfl; simpa [c_int] using this)
 obtain ⟨n2,rfl,g2⟩:=h_int' (c:=c2) (by have:=hf 2 _ rfl; simpa [c_int] using this)
 obtain ⟨n3,rfl,g3⟩:=h_int' (c:=c3) (by have:=hf 3 _ rfl; simpa [c_int] using this)
 obtain ⟨n4,rfl,g4⟩:=h_word' (c:=c4) (by have:=hf 4 _ rfl; simpa [c_word] using this)
 obtain ⟨n5,rfl,g5⟩:=h_int' (c:=c5) (by have:=hf 5 _ rfl; simpa [c_int] using this)
 obtain ⟨l,hls⟩:=h_ints (c:=c6) (by have:=hf 6 _ rfl; simpa [c_ints] using this)
 exact ⟨⟨n0,n1,n2,n3,n4,n5,l⟩,_,rfl,hls,g0,g1,g2,g3,g4,g5⟩
theorem h_end {cs:List TV} (h:HasTy Try.prog 52 cs):∃ a,REnd (some false) cs a:=by
 obtain ⟨hl,hf⟩:=h.struct_at Try.underlying52
 rw [c_end] at hl
 obtain ⟨c0,cs,rfl,k0⟩:=len_cons hl
 obtain ⟨c1,cs,rfl,k1⟩:=len_cons k0
 obtain ⟨c2,cs,rfl,k2⟩:=len_cons k1
 obtain ⟨c3,cs,rfl,k3⟩:=len_cons k2
 obtain ⟨c4,cs,rfl,k4⟩:=len_cons k3
 obtain ⟨c5,cs,rfl,k5⟩:=len_cons k4
 obtain ⟨c6,cs,rfl,k6⟩:=len_cons k5
 obtain ⟨c7,cs,rfl,k7⟩:=len_cons k6
 obtain rfl:=len_nil k7
 obtain ⟨n0,rfl,g0⟩:=h_int' (c:=c0) (by have:=hf 0 _ rfl; simpa [c_int] using this)
 obtain ⟨n1,rfl,g1⟩:=h_int' (c:=c1) (by have:=hf 1 _ rfl; simpa [c_int] using this)
 obtain ⟨n2,rfl,g2⟩:=h_int' (c:=c2) (by have:=hf 2 _ rfl; simpa [c_int] using this)
 obtain ⟨n3,rfl,g3⟩:=h_int' (c:=c3) (by have:=hf 3 _ rfl; simpa [c_int] using this)
 obtain ⟨l,hls⟩:=h_ints (c:=c4) (by have:=hf 4 _ rfl; simpa [c_ints] using this)
 obtain ⟨n5,rfl,g5⟩:=h_int' (c:=c5) (by have:=hf 5 _ rfl; simpa [c_int] using this)
 obtain ⟨n6,rfl,g6⟩:=h_int' (c:=c6) (by have:=hf 6 _ rfl; simpa [c_int] using this)
 obtain ⟨n7,rfl,g7⟩:=h_int' (c:=c7) (by have:=hf 7 _ rfl; simpa [c_int] using this)
 exact ⟨⟨n0,n1,n2,n3,l,n5,n6,n7⟩,_,rfl,hls,g0,g1,g2,g3,g5,g6,g7⟩
theorem h_pad {cs:List TV} (h:HasTy Try.prog 49 cs):∃ a,RPad (some false) cs a:=by
 obtain ⟨hl,hf⟩:=h.struct_at Try.underlying49
 rw [c_pad] at hl
 obtain ⟨c0,cs,rfl,k0⟩:=len_cons hl
 obtain ⟨c1,cs,rfl,k1⟩:=len_cons k0
 obtain ⟨c2,cs,rfl,k2⟩:=len_cons k1
 obtain ⟨c3,cs,rfl,k3⟩:=len_cons k2
 obtain rfl:=len_nil k3
 obtain ⟨n0,rfl,g0⟩:=h_int' (c:=c0) (by have:=hf 0 _ rfl; simpa [c_int] using this)
 obtain ⟨l,hls⟩:=h_words (c:=c1) (by have:=hf 1 _ rfl; simpa [c_words] using this)
 obtain ⟨b2,rfl⟩:=h_bool' (c:=c2) (by have:=hf 2 _ rfl; simpa [c_bool] using this)
 obtain ⟨b3,rfl⟩:=h_bool' (c:=c3) (by have:=hf 3 _ rfl; simpa [c_bool] using this)
 exact ⟨⟨n0,l,b2,b3⟩,_,rfl,hls,g0⟩
theorem h_block {cs:List TV} (h:HasTy Try.prog 54 cs):∃ a,RBlock (some false) cs a:=by
 obtain ⟨hl,hf⟩:=h.struct_at Try.underlying54
 rw [c_block] at hl
 obtain ⟨c0,cs,rfl,k0⟩:=len_cons hl
 obtain ⟨c1,cs,rfl,k1⟩:=len_cons k0
 obtain ⟨c2,cs,rfl,k2⟩:=len_cons k1
 obtain ⟨c3,cs,rfl,k3⟩:=len_cons k2
 obtain ⟨c4,cs,rfl,k4⟩:=len_cons k3
 obtain ⟨c5,cs,rfl,k5⟩:=len_cons k4
 obtain ⟨c6,cs,rfl,k6⟩:=len_cons k5
 obtain ⟨c7,cs,rfl,k7⟩:=len_cons k6
 obtain ⟨c8,cs,rfl,k8⟩:=len_cons k7
 obtain ⟨c9,cs,rfl,k9⟩:=len_cons k8
 obtain ⟨c10,cs,rfl,k10⟩:=len_cons k9
 obtain ⟨c11,cs,rfl,k11⟩:=len_cons k10
 obtain ⟨c12,cs,rfl,k12⟩:=len_cons k11
 obtain ⟨c13,cs,rfl,k13⟩:=len_cons k12
 obtain rfl:=len_nil k13
 obtain ⟨b0,rfl⟩:=h_bool' (c:=c0) (by have:=hf 0 _ rfl; simpa [c_bool] using this)
 obtain ⟨p,cc,hp,hpc,hpd⟩:=h_pad (cs:=[c1,c2,c3,c4]) (by have:=hf 1 _ rfl; simpa [c_pad] using this)
 obtain ⟨x,is,hx,his⟩:=HasTy.sl_at (cs:=[c5]) (by have:=hf 2 _ rfl; simpa [c_inss] using this) Try.underlying50 c_ins fun _ h=>h_ins h
 obtain ⟨e,gg,he,heg,heo⟩:=h_end (cs:=[c6,c7,c8,c9,c10,c11,c12,c13]) (by have:=hf 3 _ rfl; simpa [c_end] using this)
 simp at hp hx he
 obtain ⟨rfl,rfl,rfl,rfl⟩:=hp
 subst hx
 obtain ⟨rfl,rfl,rfl,rfl,rfl,rfl,rfl,rfl⟩:=he
 exact ⟨⟨b0,p,is,e⟩,_,_,_,rfl,hpc,hpd,his,heg,heo⟩
theorem h_func {cs:List TV} (h:HasTy Try.prog 57 cs):∃ a,RFunc (some false) cs a:=by
 obtain ⟨hl,hf⟩:=h.struct_at Try.underlying57
 rw [c_func] at hl
 obtain ⟨c0,cs,rfl,k0⟩:=len_cons hl
 obtain ⟨c1,cs,rfl,k1⟩:=len_cons k0
 obtain ⟨c2,cs,rfl,k2⟩:=len_cons k1
 obtain rfl:=len_nil k2
 obtain ⟨n0,rfl,g0⟩:=h_int' (c:=c0) (by have:=hf 0 _ rfl; simpa [c_int] using this)
 obtain ⟨n1,rfl,g1⟩:=h_int' (c:=c1) (by have:=hf 1 _ rfl; simpa [c_int] using this)
 obtain ⟨x,bs,hx,hbs⟩:=HasTy.sl_at (cs:=[c2]) (by have:=hf 2 _ rfl; simpa [c_blocks] using this) Try.underlying55 c_block fun _ h=>h_block h
 simp at hx
 subst hx
 exact ⟨⟨n0,n1,bs⟩,_,rfl,hbs,g0,g1⟩
theorem h_mod {cs:List TV} (h:HasTy Try.prog 24 cs):∃ a,RMod (some false) cs a:=by
 obtain ⟨hl,hf⟩:=h.struct_at Try.underlying24
 rw [c_mod] at hl
 obtain ⟨c0,cs,rfl,k0⟩:=len_cons hl
 obtain rfl:=len_nil k0
 obtain ⟨x,fs,hx,hfs⟩:=HasTy.sl_at (cs:=[c0]) (by have:=hf 0 _ rfl; simpa [c_funcs] using this) Try.underlying22 c_func fun _ h=>h_func h
 simp at hx
 subst hx
 exact ⟨⟨fs⟩,_,rfl,hfs⟩
theorem v_mod {x:TV} (h:ValTy Try.prog 24 x):∃ cs m,x=.agg cs∧RMod (some false) cs m:=by
 rcases h with ⟨⟨cs,rfl,h⟩,_⟩ | ⟨_,h,_⟩
 ·obtain ⟨m,hm⟩:=h_mod h; exact ⟨cs,m,rfl,hm⟩
 ·exact absurd Try.underlying24 (h _)
theorem v_byte {x:TV} (h:ValTy Try.prog 5 x):∃ n,x=.lit (.int .u8 n)∧(Lit.int .u8 n).wf=true:=by
 rcases h with ⟨⟨cs,rfl,h⟩,h2⟩ | ⟨h,_,_⟩
 ·rcases h2 with ⟨fs,h2⟩ | ⟨n,e,h2⟩ <;> (rw [Try.underlying5] at h2; cases h2)
 ·obtain ⟨n,h1,h2⟩:=h.int_at Try.underlying5
  exact ⟨n,by simpa using h1,h2⟩
theorem v_words {x:TV} (h:ValTy Try.prog 25 x):∃ l,RWords (some false) x l:=by
 rcases h with ⟨⟨cs,rfl,h⟩,h2⟩ | ⟨h,_,_⟩
 ·rcases h2 with ⟨fs,h2⟩ | ⟨n,e,h2⟩ <;> (rw [Try.underlying25] at h2; cases h2)
 ·exact h_words h
end Go.Ab.U7
end

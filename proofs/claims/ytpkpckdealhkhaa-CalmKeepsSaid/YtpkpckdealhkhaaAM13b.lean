import Derived.Test.YtpkpckdealhkhaaAM12b
set_option linter.all false
section
namespace Go.Ab
open Go.RowKit
structure gc (P:Program) (G:Laid) (E:Env) (C:Cal):Prop where
 ty:∀t d,E.T t=some d->aW P t d
 call:yB P G E C
section
variable {P:Program} {E:Env} {C:Cal} {w0:Bs} {w w':World} {I0 I R:Nat->Prop} {g g':Gh} {st st':ASt} {a:Act} {ov:List Value} {look:Look} {Q:Exit->Act->World->Prop} {id:Nat}
theorem DR (hE:gc P w0.G E C) (hlk:∀i b,look i=some b->st.look i=some b) (hs:al w0 I0 NoR g st a ov w) {o:Oper} {e:Eff} (hh:(opL E (st.nid o.dst) look o.op (o.op.operands.toList.map st.ev)).hits C e) (ha:e.app st o.dst=some st') :
  Good P w0 I0 ov o st' a w Q:=by
 obtain⟨dst,op,type,pos,after,guard⟩:=o;cases op with
 | move x=>exact ER hs hh ha
 | assign x=>exact Bm hs hh ha
 | pick c x y=>exact E9 hs hh ha
 | alloc t=>exact DA hE.ty hs hh ha
 | box t x=>exact op_box hE.ty hs hh ha
 | build t parts=>exact DJ hE.ty hs hh ha
 | makeFunc fn first cap=>exact xK hs hh ha
 | buildSlice t len parts =>
  simp only[opL]at hh;cases hc:E.cold t && !(len.beq 0)with
  | true=>rw[hc]at hh;exact Fk hE.ty hlk hs hh ha
  | false=>rw[hc]at hh;exact uu hE.ty hlk hs hh ha
 | load t x=>exact E3 hE.ty hlk hs hh ha
 | store t x y=>exact Dj hE.ty hlk hs hh ha
 | nilCheck x=>exact xF hs hh ha
 | binOp op xt x y yt=>exact op_bin hE.ty hlk hs hh ha
 | unOp op xt x=>exact op_un hs hh ha
 | convert xt dt x=>exact zq hE.ty hlk hs hh ha
 | makeSlice t x y=>exact wC hE.ty hs hh ha
 | makeInterface t x=>exact op_ifc hE.ty hs hh ha
 | typeAssert x xt t ok=>exact Fb hE.ty hs hh ha
 | slice t x lo hi mx=>exact Dt hE.ty hlk hs hh ha
 | fieldAddr t x f=>exact wr hE.ty hs hh ha
 | field t x f=>exact Dl hE.ty hs hh ha
 | indexAddr t x y=>exact wo hE.ty hlk hs hh ha
 | index t x y=>exact CN hE.ty hs hh ha
 | extract x j=>exact zh hs hh ha
 | call c =>
  obtain⟨callee,args,tys⟩:=c;cases callee with
  | builtin b =>
   have hops:(Op.call ⟨.builtin b,args,tys⟩).operands.toList=args.toList:=by simp[Op.operands,Call.operands]
   simp only[hops]at hh;simp only[opL]at hh;unfold ek at hh;split at hh
   ·rename_i x ty hargs htys
    obtain⟨ox,rfl,hox⟩:=list1 hargs;have:=arr1 htys;subst this;split at hh
    ·rename_i d hT
     rw[<-hox]at hh;exact zp hlk hs (hE.ty _ _ hT) hh ha
    ·exact hh.elim
   ·rename_i s x ty ty' hargs htys
    obtain⟨os,ox,rfl,hos,hox⟩:=list2 hargs;have:=arr2 htys;subst this;split at hh
    ·rename_i e1 d hel
     cases hb:Nat.beq ty ty' with
     | false =>
      simp only[hb,cond_false]at hh;split at hh
      ·rename_i hu
       exact hh.elim
      ·exact hh.elim
     | true =>
      simp only[hb,cond_true]at hh;have:=(aC _ _).1 hb;subst this;rw[<-hos,<-hox]at hh;exact ul hE.ty hlk hs hel hh ha
    ·exact hh.elim
   ·rename_i s x ty ty' hargs htys
    obtain⟨os,ox,rfl,hos,hox⟩:=list2 hargs;have:=arr2 htys;subst this;split at hh
    ·rename_i e1 d hel
     cases hb:Nat.beq ty ty' with
     | false=>simp[hb,Prg.hits]at hh
     | true =>
      simp only[hb,cond_true]at hh;have:=(aC _ _).1 hb;subst this;rw[<-hos,<-hox]at hh;exact yo hE.ty hlk hs hel hh ha
    ·exact hh.elim
   ·rename_i s ty hargs htys
    obtain⟨os,rfl,hos⟩:=list1 hargs;have:=arr1 htys;subst this;split at hh
    ·rename_i e1 d hel
     exact hh.elim
    ·exact hh.elim
   ·rename_i x y hargs
    obtain⟨ox,oy,rfl,hox,hoy⟩:=list2 hargs;rw[<-hox,<-hoy]at hh;exact ta hs hh ha
   ·rename_i x y hargs
    obtain⟨ox,oy,rfl,hox,hoy⟩:=list2 hargs;rw[<-hox,<-hoy]at hh;exact ta hs hh ha
   ·exact hh.elim
  | value f =>
   cases f with
   | func f =>
    have hops:(Op.call ⟨.value (.func f),args,tys⟩).operands.toList=.func f::args.toList:=by simp[Op.operands,Call.operands]
    simp only[hops,List.map_cons]at hh;exact EY hE.call hE.ty hlk hs hh ha
   | tmp t =>
    have hops:(Op.call ⟨.value (.tmp t),args,tys⟩).operands.toList=.tmp t::args.toList:=by simp[Op.operands,Call.operands]
    simp only[hops,List.map_cons]at hh;exact op_dyn hE.call hE.ty hlk hs hh ha
   | _=>simp[opL,Prg.hits]at hh
  | invoke r m=>simp[opL,Prg.hits]at hh
 | _=>simp[opL,Prg.hits]at hh
def AV.nf:AV->AV
 | .one (.t (.lit (.bool b)))=>.bl b
 | .tv (.lit (.bool b))=>.bl b
 | v=>v
def Eff.nfE:Eff->Eff
 | .val v=>.val v.nf
 | .new b v=>.new b v.nf
 | .upd i b v=>.upd i b v.nf
 | .gen ps v=>.gen ps v.nf
def ASt.nfS (st:ASt):ASt:=⟨st.slots.map AV.nf,st.boxes,st.out⟩
theorem aL (v:AV):v.nf=v\/∃b,v.nf=.bl b/\(v=.one (.t (.lit (.bool b)))\/v=.tv (.lit (.bool b))):=by
 unfold AV.nf;split
 ·exact .inr ⟨_,rfl,.inl rfl⟩
 ·exact .inr ⟨_,rfl,.inr rfl⟩
 ·exact .inl rfl
theorem uH (v:AV):v.nf.nf=v.nf:=by
 rcases aL v with h|⟨b,h,_⟩
 ·rw[h,h]
 ·rw[h];rfl
theorem ir (v:AV):v.nf.tv? = v.tv? := by
 rcases aL v with h|⟨b,h,rfl|rfl⟩
 ·rw[h]
 ·rfl
 ·rfl
theorem D3 {v:AV} {u:Value}:bM w g look v.nf u ↔ bM w g look v u:=by
 rcases aL v with h|⟨b,h,rfl|rfl⟩
 ·rw[h]
 ·rw[h]
  constructor
  ·intro h'
   have:u=.bool b:=h';subst this;exact⟨.lit _,rfl⟩
  ·intro h'
   exact bO h'.1
 ·rw[h]
  constructor
  ·intro h'
   have:u=.bool b:=h';subst this;exact .lit _
  ·intro h'
   exact bO h'
theorem nZ (v:AV):v.nf.iq=v.iq:=by
 rcases aL v with h|⟨b,h,rfl|rfl⟩
 ·rw[h]
 ·rw[h];rfl
 ·rw[h];rfl
theorem cD (e:Eff):eY e.nfE=eY e:=by cases e<;>simp only[Eff.nfE,eY,nZ]
theorem nG (e:Eff):e.nfE.plain=e.plain:=by cases e<;>rfl
theorem yy (base:Nat) (own:List (List Nat × List Nat)) (e:Eff):e.nfE.qU base own=e.qU base own:=by cases e<;>rfl
theorem x6 {S:Type} {agg:Bool} {n:Nat} {v:AV} {k k':List CA->Prg S} {e:S} (hk:∀cs,(k cs).hits C e->(k' cs).hits C e) (h:(v.ba agg n k).hits C e):(v.ba agg n k').hits C e:=by
 unfold AV.ba at h ⊢;split at h
 ·rename_i c
  cases hc:c.kept with
  | true=>rw[hc]at h;exact hk _ h
  | false=>rw[hc]at h;exact h.elim
 ·exact⟨h.1,hk _ h.2⟩
 ·exact hk _ h
 ·exact hk _ h
 ·rename_i cs
  cases hc:cs.length.beq n with
  | true=>rw[hc]at h;exact hk _ h
  | false=>rw[hc]at h;exact h.elim
 ·exact⟨h.1,hk _ h.2⟩
 ·exact h.elim
theorem fw {S:Type} {agg:Bool} {n:Nat} {v:AV} {k:List CA->Prg S} {e:S} (h:(v.ba agg n k).hits C e):(v.nf.ba agg n k).hits C e:=by
 rcases aL v with h1|⟨b,h1,rfl|rfl⟩
 ·rwa[h1]
 ·rw[h1]
  cases agg with
  | false=>exact h
  | true=>exact h.elim
 ·rw[h1]
  cases agg with
  | false=>exact h.2
  | true=>exact(by simp[AV.ba,TV.isAgg,Prg.hits]at h)
theorem lB {S:Type} {e:S}:∀{vs:List AV} {k:List CA->Prg S},(kq vs k).hits C e->(kq (vs.map AV.nf) k).hits C e
 | [],k,h=>h
 | x :: vs, k, h => by
  simp only[kq,List.map_cons]at h ⊢;refine fw ?_;unfold AV.ba at h ⊢;split at h
  ·rename_i c _
   cases hc:c.kept with
   | false=>simp[hc,Prg.hits]at h
   | true=>simp only[hc,cond_true]at h ⊢;exact lB h
  ·exact⟨h.1,lB h.2⟩
  ·exact lB h
  ·exact lB h
  ·rename_i cs' hb;cases hb
  ·rename_i cs' hb;cases hb
  ·exact h.elim
theorem jV {f:FuncId} {e:Eff}:∀{vs:List AV} {k:List CA->List CA},(kq vs fun cs=>(.ret (.val (.clo f (k cs))):Out)).hits C e->∃cs,e=.val (.clo f cs)
 | [],k,h=>⟨_,h.symm⟩
 | x :: vs, k, h => by
  simp only[kq]at h;unfold AV.ba at h;split at h
  ·rename_i c _
   cases hc:c.kept with
   | false=>simp[hc,Prg.hits]at h
   | true=>simp only[hc,cond_true]at h;exact jV (k:=fun cs=>k (_++cs)) h
  ·exact jV (k:=fun cs=>k (_++cs)) h.2
  ·exact jV (k:=fun cs=>k (_++cs)) h
  ·exact jV (k:=fun cs=>k (_++cs)) h
  ·rename_i hb;cases hb
  ·rename_i hb;cases hb
  ·exact h.elim
theorem wD {S:Type} {at_:Nat->Option (Nat × Bool × Nat)} {k:List CA->Prg S} {e:S}:∀{is:List Nat} {vs:List AV} {cs:List CA},(ck at_ is vs cs k).hits C e->(ck at_ is (vs.map AV.nf) cs k).hits C e
 | [],[],cs,h=>h
 | i :: is, x :: vs, cs, h => by
  simp only[ck,List.map_cons]at h ⊢;split at h
  ·rename_i off agg n hat
   have key:∀ps,((bif (off+ps.length).ble cs.length&&ps.length.beq n then ck at_ is vs (bH cs off ps) k else .fail):Prg S).hits C e->((bif (off+ps.length).ble cs.length&&ps.length.beq n then ck at_ is (vs.map AV.nf) (bH cs off ps) k else .fail):Prg S).hits C e:=by
    intro ps hp;cases hb:(off+ps.length).ble cs.length&&ps.length.beq n with
    | false=>simp[hb,Prg.hits]at hp
    | true=>simp only[hb,cond_true]at hp ⊢;exact wD hp
   refine fw ?_;unfold AV.ba at h ⊢;split at h
   ·rename_i c
    cases hc:c.kept with
    | false=>simp[hc,Prg.hits]at h
    | true=>simp only[hc,cond_true]at h ⊢;exact key _ h
   ·exact⟨h.1,key _ h.2⟩
   ·exact key _ h
   ·exact key _ h
   ·rename_i cs'
    have:=key cs';cases hc:cs'.length.beq n with
    | false=>simp[hc,Prg.hits]at h
    | true=>simp only[hc,cond_true]at h this ⊢;exact this h
   ·exact⟨h.1,key _ h.2⟩
   ·exact h.elim
  ·exact h.elim
 | [],_::_,cs,h=>h.elim
 | _::_,[],cs,h=>h.elim
theorem A8 {S:Type} {v:AV} {k:TV->Prg S}:sB look v.nf k=sB look v k:=by
 rcases aL v with h|⟨b,h,rfl|rfl⟩
 ·rw[h]
 ·rfl
 ·rfl
theorem DO {S:Type} {v:AV} {k:TV->Prg S}:rK look v.nf k=rK look v k:=by
 rcases aL v with h|⟨b,h,rfl|rfl⟩
 ·rw[h]
 ·rfl
 ·rfl
theorem C8 {S:Type} {v:AV} {k:TV->List (Nat × Nat)->Prg S}:tX look v.nf k=tX look v k:=by
 rcases aL v with h|⟨b,h,rfl|rfl⟩
 ·rw[h]
 ·rfl
 ·rfl
theorem nD {S:Type}:∀{vs:List AV} {k:List TV->Prg S},lends look (vs.map AV.nf) k=lends look vs k
 | [],k=>rfl
 | v::vs,k=>by simp only[List.map_cons,lends,DO,nD]
theorem s6 {S:Type}:∀{vs:List AV} {k:List TV->List (Nat × Nat)->Prg S},hands look (vs.map AV.nf) k=hands look vs k
 | [],k=>rfl
 | v::vs,k=>by simp only[List.map_cons,hands,C8,s6]
theorem CL {E:Env} {id:Nat} {look:Look} {f:FuncId} {ld:fx} (vs:List AV):ow E id look f ld (vs.map AV.nf)=ow E id look f ld vs:=by
 cases vs with
 | nil=>rfl
 | cons v l =>
  rcases aL v with h|⟨b,h,rfl|rfl⟩
  ·simp only[List.map_cons,h]
   cases v with
   | one c =>
    cases c with
    | ptr i off =>
     cases off with
     | zero=>simp only[ow,s6]
     | succ n=>rfl
    | _=>rfl
   | _=>rfl
  ·simp only[List.map_cons,h];rfl
  ·simp only[List.map_cons,h];rfl
theorem Ew {look:Look} {f:FuncId} {c:Nat × Nat} (vs:List AV):oj look f c (vs.map AV.nf)=oj look f c vs:=by
 cases vs with
 | nil=>rfl
 | cons v l =>
  rcases aL v with h|⟨b,h,rfl|rfl⟩
  ·simp only[List.map_cons,h]
   cases v with
   | one c =>
    cases c with
    | ptr i off =>
     cases off with
     | zero=>simp only[oj,nD]
     | succ n=>rfl
    | _=>rfl
   | _=>rfl
  ·simp only[List.map_cons,h];rfl
  ·simp only[List.map_cons,h];rfl
theorem Ef {look:Look} {f:FuncId} (vs:List AV):sK look f (vs.map AV.nf)=sK look f vs:=by
 rfl
theorem Fh {E:Env} {id:Nat} {look:Look} {f:FuncId} {i:Nat} (vs:List AV):DP E id look f i (vs.map AV.nf)=DP E id look f i vs:=by
 rfl
theorem E4 (d:TyD) (t:TypeId) (v:AV):Dq d t v.nf=Dq d t v:=by
 rcases aL v with h|⟨b,h,rfl|rfl⟩
 ·rw[h]
 ·rfl
 ·rfl
theorem EG (d:TyD) (t:TypeId) (v:AV):vL d t v.nf=vL d t v:=by
 simp only[vL,ir]
theorem Bk {S:Type} {v:Option AV} {k:Option Nat->Prg S}:fU (v.map AV.nf) k=fU v k:=by
 cases v with
 | none=>rfl
 | some v=>simp only[fU,Gv,ir]
theorem uW (v:AV):sA v.nf=sA v:=by
 rcases aL v with h|⟨b,h,rfl|rfl⟩
 ·rw[h]
 ·rfl
 ·rfl
theorem Al {S:Type} {d:TyD} {dest:Option Nat} {v:AV} {k:List (List TV)->List Prim->Prg S}:xO look d dest v.nf k=xO look d dest v k:=by
 rcases aL v with h|⟨b,h,rfl|rfl⟩
 ·rw[h]
 ·rfl
 ·rfl
theorem mu {kd:Kd} {sz:Nat} {x:AV} {lo hi:Option AV}:iU look kd sz x.nf (lo.map AV.nf) (hi.map AV.nf)=iU look kd sz x lo hi:=by
 simp only[iU,ir,Bk];rcases aL x with h|⟨b,h,rfl|rfl⟩
 ·rw[h]
  cases lo<;>rfl
 ·rfl
 ·rfl
theorem Ej (v:AV):vG v.nf=vG v:=by
 rcases aL v with h|⟨b,h,rfl|rfl⟩
 ·rw[h]
 ·rfl
 ·rfl
theorem EW {look:Look} {kd:Kd} (v:AV):xW look kd v.nf=xW look kd v:=by
 rcases aL v with h|⟨b,h,rfl|rfl⟩
 ·rw[h]
 ·rw[h];cases kd<;>rfl
 ·rw[h];cases kd<;>rfl
theorem opL_nf {op : Op} {vs : List AV} {e : Eff} (h : (opL E id look op vs).hits C e) : ∃ e', (opL E id look op (vs.map AV.nf)).hits C e' ∧ e'.nfE = e.nfE := by
 cases op with
 | move x =>
  rcases vs with _|⟨v,_|⟨v',r⟩⟩<;>first|exact h.elim|skip
  cases h;exact⟨_,rfl,by simp[Eff.nfE,uH]⟩
 | assign x =>
  rcases vs with _|⟨v,_|⟨v',r⟩⟩<;>first|exact h.elim|skip
  cases h;exact⟨_,rfl,by simp[Eff.nfE,uH]⟩
 | pick c x y =>
  rcases vs with _|⟨v,_|⟨v',_|⟨v'',_|⟨v3,r⟩⟩⟩⟩<;>first|exact h.elim|skip
  simp only[opL]at h;split at h
  ·rename_i b
   cases h;refine⟨_,rfl,?_⟩;cases b<;>simp[Eff.nfE,uH]
  ·rename_i v
   obtain⟨b,hb,h⟩:=h;have hv:v=.lit (.bool b):=by
    unfold asBool at hb;split at hb
    ·cases hb;rfl
    ·cases hb
   subst hv;rcases h with⟨rfl,h⟩|⟨rfl,h⟩<;>(cases h;exact⟨_,rfl,by simp[Eff.nfE,uH]⟩)
  ·rename_i v
   obtain⟨b,hb,h⟩:=h;have hv:v=.lit (.bool b):=by
    unfold asBool at hb;split at hb
    ·cases hb;rfl
    ·cases hb
   subst hv;rcases h with⟨rfl,h⟩|⟨rfl,h⟩<;>(cases h;exact⟨_,rfl,by simp[Eff.nfE,uH]⟩)
  ·exact h.elim
 | alloc t =>
  rcases vs with _|⟨v,r⟩<;>first|exact h.elim|exact⟨e,h,rfl⟩
 | box t x =>
  rcases vs with _|⟨v,_|⟨v',r⟩⟩<;>first|exact h.elim|skip
  refine⟨e,?_,rfl⟩;simp only[opL,List.map_cons,List.map_nil]at h ⊢;split at h
  ·exact fw h
  ·exact h.elim
 | makeFunc fn first cap =>
  cases fn with
  | func f =>
   have:∃cs,e=.val (.clo f cs):=by
    simp only[opL]at h;cases hb:first.size.beq 0 with
    | false=>simp[hb,Prg.hits]at h
    | true =>
     simp only[hb,cond_true]at h;exact jV (k:=fun l=>l) h
   obtain⟨cs,rfl⟩:=this;refine⟨_,?_,rfl⟩;simp only[opL]at h ⊢;cases hb:first.size.beq 0 with
   | false=>simp[hb,Prg.hits]at h
   | true=>simp only[hb,cond_true]at h ⊢;exact lB h
  | _=>exact h.elim
 | build t parts =>
  refine⟨e,?_,rfl⟩;simp only[opL]at h ⊢;split at h
  ·rename_i d hd
   cases hb:lQ E.T d.kd with
   | false=>simp[hb,Prg.hits]at h
   | true=>simp only[hb,cond_true]at h ⊢;exact wD h
  ·exact h.elim
 | buildSlice t len parts =>
  refine⟨e,?_,rfl⟩;simp only[opL]at h ⊢;cases hc:E.cold t && !(len.beq 0)with
  | true =>
   rw[hc]at h;simp only[cond_true]at h ⊢;exact h.elim
  | false =>
   rw[hc]at h;simp only[cond_false]at h ⊢;unfold iS at h ⊢;split at h
   ·exact wD h
   ·exact h.elim
 | load t x =>
  rcases vs with _|⟨v,_|⟨v',r⟩⟩<;>first|exact h.elim|skip
  refine⟨e,?_,rfl⟩;rcases aL v with h1|⟨b,h1,rfl|rfl⟩
  ·simpa only[List.map_cons,List.map_nil,h1]using h
  ·simp only[opL]at h;split at h<;>exact h.elim
  ·simp only[opL]at h;split at h<;>exact h.elim
 | store t x y =>
  rcases vs with _|⟨v,_|⟨v',_|⟨v'',r⟩⟩⟩<;>first|exact h.elim|skip
  refine⟨e,?_,rfl⟩;simp only[opL,List.map_cons,List.map_nil]at h ⊢;split at h
  ·rcases aL v with h1|⟨b,h1,rfl|rfl⟩
   ·rw[h1]
    unfold wa at h ⊢;split at h
    ·rename_i e0 _ _ i0 off0 len0 n0
     cases hk0:e0.kd.isAgg with
     | true=>rw[hk0]at h;exact h.elim
     | false =>
      rw[hk0]at h;simp only[cond_false]at h ⊢;split at h
      ·exact fw h
      ·exact h.elim
    ·exact fw h
    ·exact fw h
    ·exact h.elim
   ·exact h.elim
   ·exact h.elim
  ·exact h.elim
 | nilCheck x =>
  rcases vs with _|⟨v,_|⟨v',r⟩⟩<;>first|exact h.elim|skip
  refine⟨e,?_,rfl⟩;rcases aL v with h1|⟨b,h1,rfl|rfl⟩
  ·simpa only[List.map_cons,List.map_nil,h1]using h
  ·exact h.elim
  ·exact h.elim
 | binOp op xt x y yt =>
  rcases vs with _|⟨v,_|⟨v',_|⟨v'',r⟩⟩⟩<;>first|exact h.elim|skip
  refine⟨e,?_,rfl⟩;simp only[opL,List.map_cons,List.map_nil]at h ⊢;split at h
  ·unfold E8 at h ⊢
   split at h
   ·split at h
    ·exact fw (x6 (fun cs h=>fw h) h)
    ·exact h.elim
   ·simp only[E7,Ej]at h ⊢
    exact h
   ·simp only[Fq,A8,ir]at h ⊢
    exact h
  ·exact h.elim
 | unOp op xt x =>
  rcases vs with _|⟨v,_|⟨v',r⟩⟩<;>first|exact h.elim|skip
  rcases aL v with h1|⟨b,h1,h2⟩
  ·refine⟨e,?_,rfl⟩
   simpa only[List.map_cons,List.map_nil,h1]using h
  ·have hv:∃t,(opL E id look (.unOp op xt x) [v]).hits C e->(Prg.tv (pun op (.lit (.bool b))) vt).hits C e:=⟨(),by rcases h2 with rfl|rfl<;>intro h<;>cases op<;>exact h⟩
   obtain⟨_,hv⟩:=hv;obtain⟨z,hz,hh⟩:=hv h;cases op with
   | not =>
    simp only[pun,Gj]at hz;subst hz;cases hh;refine⟨.val (.bl !b),?_,rfl⟩;simp only[List.map_cons,List.map_nil,h1];rfl
   | _=>simp[pun]at hz
 | convert xt dt x =>
  rcases vs with _|⟨v,_|⟨v',r⟩⟩<;>first|exact h.elim|skip
  refine⟨e,?_,rfl⟩;simp only[opL,List.map_cons,List.map_nil,Ak,ir,A8]at h ⊢;exact h
 | makeSlice t x y =>
  rcases vs with _|⟨v,_|⟨v',_|⟨v'',r⟩⟩⟩<;>first|exact h.elim|skip
  refine⟨e,?_,rfl⟩;simp only[opL,List.map_cons,List.map_nil,ir]at h ⊢;exact h
 | slice t x lo hi mx =>
  refine⟨e,?_,rfl⟩;cases mx with
  | some m=>rcases vs with _|⟨v,r⟩<;>exact h.elim
  | none =>
   rcases vs with _|⟨v,r⟩
   ·exact h.elim
   ·simp only [opL, List.map_cons] at h ⊢
    split at h
    ·rename_i d hT
     split at h
     ·rename_i sz hsz
      cases lo with
      | none =>
       cases hi with
       | none =>
        rcases r with _|⟨l,r⟩
        ·have:=mu (look:=look) (kd:=d.kd) (sz:=sz) (x:=v) (lo:=none) (hi:=none)
         simp only[Option.map_none]at this;simp only[List.map_nil];rw[this];exact h
        ·exact h.elim
       | some hh =>
        rcases r with _|⟨l,_|⟨l',r⟩⟩
        ·exact h.elim
        ·have:=mu (look:=look) (kd:=d.kd) (sz:=sz) (x:=v) (lo:=none) (hi:=some l)
         simp only[Option.map_none,Gv]at this;simp only[List.map_cons,List.map_nil];rw[this];exact h
        ·exact h.elim
      | some ll =>
       cases hi with
       | none =>
        rcases r with _|⟨l,_|⟨l',r⟩⟩
        ·exact h.elim
        ·have:=mu (look:=look) (kd:=d.kd) (sz:=sz) (x:=v) (lo:=some l) (hi:=none)
         simp only[Option.map_none,Gv]at this;simp only[List.map_cons,List.map_nil];rw[this];exact h
        ·exact h.elim
       | some hh =>
        rcases r with _|⟨l,_|⟨l',_|⟨l'',r⟩⟩⟩
        ·exact h.elim
        ·exact h.elim
        ·have:=mu (look:=look) (kd:=d.kd) (sz:=sz) (x:=v) (lo:=some l) (hi:=some l')
         simp only[Gv]at this;simp only[List.map_cons,List.map_nil];rw[this];exact h
        ·exact h.elim
     ·exact h.elim
    ·exact h.elim
 | fieldAddr t x f =>
  rcases vs with _|⟨v,_|⟨v',r⟩⟩<;>first|exact h.elim|skip
  refine⟨e,?_,rfl⟩;rcases aL v with h1|⟨b,h1,rfl|rfl⟩
  ·simpa only[List.map_cons,List.map_nil,h1]using h
  ·simp only[opL]at h
   split at h
   ·rename_i hv
    cases hv;split at h
    ·rename_i n _ _
     cases hb:Nat.blt 0 n<;>simp[hb,CA.add,Prg.hits]at h
    ·exact h.elim
   ·exact h.elim
  ·simp only[opL]at h
   split at h
   ·rename_i hv;cases hv
   ·exact h.elim
 | field t x f =>
  rcases vs with _|⟨v,_|⟨v',r⟩⟩<;>first|exact h.elim|skip
  refine⟨e,?_,rfl⟩;rcases aL v with h1|⟨b,h1,rfl|rfl⟩
  ·simpa only[List.map_cons,List.map_nil,h1]using h
  ·simp only[opL]at h
   split at h
   ·split at h<;>exact h.elim
   ·exact h.elim
  ·simp only[opL]at h
   split at h
   ·split at h
    ·simp[wn,TV.isAgg,Prg.hits]at h
    ·exact h.elim
   ·exact h.elim
 | indexAddr t x y =>
  rcases vs with _|⟨v,_|⟨v',_|⟨v'',r⟩⟩⟩<;>first|exact h.elim|skip
  refine⟨e,?_,rfl⟩;simp only[opL,List.map_cons,List.map_nil]at h ⊢;split at h
  ·rcases aL v with h1|⟨b,h1,rfl|rfl⟩
   ·simp only[h1,pw,ir]at h ⊢;exact h
   ·simp only[pw,ir]at h ⊢;exact h
   ·simp only[pw,ir]at h ⊢;exact h
  ·unfold rh at h ⊢
   rw[ir];rcases aL v with h1|⟨b,h1,rfl|rfl⟩
   ·rw[h1];exact h
   ·split at h
    ·split at h<;>first|exact h.elim|(rename_i hx _;cases hx)
    ·exact h.elim
   ·split at h
    ·split at h<;>first|exact h.elim|(rename_i hx _;cases hx)
    ·exact h.elim
 | index t x y =>
  rcases vs with _|⟨v,_|⟨v',_|⟨v'',r⟩⟩⟩<;>first|exact h.elim|skip
  refine⟨e,?_,rfl⟩;simp only[opL,List.map_cons,List.map_nil,ir]at h ⊢;split at h
  ·exact h
  ·unfold rC at h ⊢
   rw[ir];rcases aL v with h1|⟨b,h1,rfl|rfl⟩
   ·rw[h1];exact h
   ·split at h
    ·split at h<;>first|exact h.elim|(rename_i hx _;cases hx)
    ·exact h.elim
   ·split at h
    ·split at h<;>first|exact h.elim|(rename_i hx _;cases hx)
    ·exact h.elim
 | extract x j =>
  rcases vs with _|⟨v,_|⟨v',r⟩⟩<;>first|exact h.elim|skip
  refine⟨e,?_,rfl⟩;rcases aL v with h1|⟨b,h1,rfl|rfl⟩
  ·simpa only[List.map_cons,List.map_nil,h1]using h
  ·exact h.elim
  ·exact h.elim
 | call c =>
  refine⟨e,?_,rfl⟩;obtain⟨callee,args,tys⟩:=c;cases callee with
  | builtin b =>
   simp only[opL]at h ⊢;unfold ek at h;split at h
   ·rename_i x ty htys
    simp only[htys,ek,List.map_cons,List.map_nil];split at h
    ·rename_i d hd
     have key:∀kd,(xW look kd x).hits C e->(xW look kd x.nf).hits C e:=fun kd h=>by rw[EW];exact h
     exact key _ h
    ·exact h.elim
   ·rename_i s x ty ty' htys
    simp only[htys,ek,List.map_cons,List.map_nil];split at h
    ·rename_i _ d hel
     cases hb:Nat.beq ty ty' with
     | false =>
      simp only[hb,cond_false]at h ⊢;split at h
      ·rename_i hu
       exact h.elim
      ·exact h.elim
     | true =>
      simp only[hb,cond_true]at h ⊢;unfold oF at h ⊢;rw[Al,uW];rcases aL s with h1|⟨b,h1,rfl|rfl⟩
      ·rw[h1];exact h
      ·exact h
      ·exact h
    ·exact h.elim
   ·rename_i s x ty ty' htys
    simp only[htys,ek,List.map_cons,List.map_nil];split at h
    ·rename_i _ d hel
     cases hb:Nat.beq ty ty' with
     | false=>simp[hb,Prg.hits]at h
     | true =>
      simp only[hb,cond_true]at h ⊢;unfold AL at h ⊢;rw[Al,uW];rcases aL s with h1|⟨b,h1,rfl|rfl⟩
      ·rw[h1];exact h
      ·exact h
      ·exact h
    ·exact h.elim
   ·rename_i s ty htys
    simp only[htys,ek,List.map_cons,List.map_nil];split at h
    ·exact h.elim
    ·exact h.elim
   ·simp only[ek,List.map_cons,List.map_nil,yL,ir]at h ⊢
    exact h
   ·simp only[ek,List.map_cons,List.map_nil,yL,ir]at h ⊢
    exact h
   ·exact h.elim
  | value f =>
   cases f with
   | func f =>
    rcases vs with _|⟨v,r⟩
    ·exact h.elim
    ·simp only[opL,List.map_cons,mN,nD,s6,CL,Ew,Ef]at h ⊢
     exact h
   | tmp t =>
    rcases vs with _|⟨v,r⟩
    ·exact h.elim
    ·simp only[opL,List.map_cons,ir,nD,Fh]at h ⊢
     rcases aL v with h1|⟨b,h1,rfl|rfl⟩
     ·rw[h1];exact h
     ·exact h
     ·exact h
   | _=>exact h.elim
  | invoke r m=>exact h.elim
 | makeInterface t x =>
  rcases vs with _|⟨v,_|⟨v',r⟩⟩<;>first|exact h.elim|skip
  refine⟨e,?_,rfl⟩;simp only[opL,List.map_cons,List.map_nil,E4]at h ⊢;exact h
 | typeAssert x xt t ok =>
  rcases vs with _|⟨v,_|⟨v',r⟩⟩<;>cases ok<;>first|exact h.elim|skip
  refine⟨e,?_,rfl⟩;simp only[opL,List.map_cons,List.map_nil,EG]at h ⊢;exact h
 | _=>exact h.elim
theorem lL (st:ASt):st.nfS.look=st.look:=rfl
theorem nU (st:ASt):st.nfS.base=st.base:=rfl
theorem we (st:ASt) (d:Option Tmp):st.nfS.nid d=st.nid d:=by cases d<;>rfl
theorem j5 (st:ASt) (d:Option Tmp) (v:AV):(st.put d v).nfS=st.nfS.put d v.nf:=by
 cases d with
 | none=>rfl
 | some d=>simp[ASt.nfS,ASt.put,ah,List.map_set]
theorem sI (st:ASt) (i:Nat) (b:Option BC):(st.ac i b).nfS=st.nfS.ac i b:=rfl
theorem sg (st:ASt) (t:Nat):nth (.one .junk) st.nfS.slots t=(nth (.one .junk) st.slots t).nf:=by
 simp only[ASt.nfS,aS,Gn];cases st.slots[t]? <;> rfl
theorem Cv (ps:List Nat) (st:ASt) (d:Option Nat) (e:Eff):cO ps st.nfS d e.nfE=cO ps st d e:=by
 unfold cO;congr 1;funext k;cases d with
 | none=>rw[nU,cD]
 | some d=>simp only[nU,cD,sg,nZ]
theorem B6 {o:Item} {st:ASt} {e:Eff} (h:kU o st e=true):kU o st.nfS e.nfE=true:=nomatch h
theorem rV (st:ASt) (x:Operand):st.nfS.ev x=(st.ev x).nf:=by
 cases x with
 | tmp t=>exact sg st t
 | const v =>
  cases v with
  | bool b=>rfl
  | _=>first|rfl|(simp only[ASt.ev];cases Value.oneCell' _<;>rfl)
 | global g=>rfl
 | func f=>rfl
theorem su:∀(l:List AV),cX (l.map AV.nf)=cX l
 | []=>rfl
 | v::l=>by simp only[List.map_cons,cX,ir,su l]
theorem j9 (e:Eff):iL e.nfE=iL e:=by
 cases e with
 | new b v=>cases b<;>rfl
 | _=>rfl
theorem Bj {i:Item} {st:ASt} {e:Eff}:ie i st.nfS e.nfE=ie i st e:=by
 unfold ie;have:i.o.op.operands.toList.map st.nfS.ev=(i.o.op.operands.toList.map st.ev).map AV.nf:=by
  rw[List.map_map];exact List.map_congr_left fun x _=>rV st x
 rw[this,su,j9,cD];rfl
theorem yN:∀(l:List AV),ju (l.map AV.nf)=ju l
 | []=>rfl
 | v::l=>by simp only[List.map_cons,ju,nZ,yN l]
theorem pa (e:Eff):m8 e.nfE=m8 e:=by cases e<;>rfl
theorem zj (e:Eff):drE e.nfE=drE e:=by cases e<;>rfl
theorem sk (k:Nat) (e:Eff):uI k e.nfE=uI k e:=by cases e<;>rfl
theorem rB (v:AV):(v.nf.cf CA.deep).iq=(v.cf CA.deep).iq:=by
 rcases aL v with h|⟨b,h,rfl|rfl⟩
 ·rw[h]
 ·rw[h];rfl
 ·rw[h];rfl
theorem xc:∀(l:List AV),ju (cH CA.deep (l.map AV.nf))=ju (cH CA.deep l)
 | []=>rfl
 | v::l=>by simp only[List.map_cons,cH,ju,rB,xc l]
theorem qk (e:Eff):nL e.nfE=nL e:=by
 cases e with
 | val v=>exact rB v
 | new b v=>exact cD (.new b v)
 | upd i b v=>exact cD (.upd i b v)
 | gen ps v=>exact cD (.gen ps v)
theorem Co {i:Item} {st:ASt} {e:Eff}:cC i st.nfS e.nfE=cC i st e:=by
 unfold cC;simp only[pa,zj,sk];rfl
theorem Cx {i:Item} {st:ASt} {e:Eff}:dD i st.nfS e.nfE=dD i st e:=by
 unfold dD;have hd:∀d b,jc st.nfS d b=jc st d b:=fun d b=>by
  cases d with
  | none=>rfl
  | some d =>
   have:=rV st (.tmp d);simp only[ASt.ev]at this;simp only[jc,this,nZ]
 have hd2:∀d b,gT st.nfS d b=gT st d b:=fun d b=>by
  cases d with
  | none=>rfl
  | some d =>
   have:=rV st (.tmp d);simp only[ASt.ev]at this;simp only[gT,this,rB]
 simp only[hd,hd2,cD,qk];have:i.o.op.operands.toList.map st.nfS.ev=(i.o.op.operands.toList.map st.ev).map AV.nf:=by
  rw[List.map_map];exact List.map_congr_left fun x _=>rV st x
 rw[this,yN,xc];rfl
theorem okE_nf {i:Item} {st:ASt} {e:Eff} (h:okE i st e=true):okE i st.nfS e.nfE=true:=by
 unfold okE at h ⊢;rw[Bool.or_eq_true]at h ⊢;rcases h with h|h
 ·rw[Co];exact .inl h
 refine .inr ?_;rw[Bool.or_eq_true]at h ⊢;rcases h with h|h
 ·rw[nG,yy,nU,Cv,Bj,Cx];exact .inl h
 ·exact .inr (B6 h)
theorem wL (hs:Sim w0 I0 st a ov w):Sim w0 I0 st.nfS a ov w:=by
 obtain⟨g,hs⟩:=hs;refine⟨g,hs.below,hs.sub,hs.lt,hs.old,by simp[ASt.nfS,hs.len],hs.defers,fun t v hv=>?_,hs.olen,hs.outs,hs.cells,hs.trees,hs.foot,hs.apart,hs.apartR,hs.res,hs.base,hs.out⟩;simp only[ASt.nfS,Gn]at hv;cases hsl:st.slots[t]? with
 | none=>simp[hsl]at hv
 | some u =>
  simp only[hsl,Gv,Gj]at hv;subst hv;exact D3.2 (hs.slots t u hsl)
theorem eF (hs:Sim w0 I0 st.nfS a ov w):Sim w0 I0 st a ov w:=by
 obtain⟨g,hs⟩:=hs;refine⟨g,hs.below,hs.sub,hs.lt,hs.old,by have:=hs.len;simpa[ASt.nfS]using this,hs.defers,fun t v hv=>?_,hs.olen,hs.outs,hs.cells,hs.trees,hs.foot,hs.apart,hs.apartR,hs.res,hs.base,hs.out⟩;exact D3.1 (hs.slots t v.nf (by simp[ASt.nfS,hv]))
theorem oD (i r:Nat) (js:List Nat) (b:Bool) (v:AV):(v.cf (CA.drop i r js b)).nf=v.nf.cf (CA.drop i r js b):=by
 rcases aL v with h|⟨b,h,rfl|rfl⟩
 ·rw[h]
  cases v with
  | one c =>
   have key:∀c:CA,c.drop i r js b=c\/c.drop i r js b=.junk:=fun c=>by
    rcases gA i r js b c with⟨h,_⟩|h
    ·exact .inl h
    ·exact .inr h
   simp only[AV.cf];rcases key c with h'|h'
   ·rw[h',h]
   ·rw[h'];rfl
  | tv x=>exact h
  | _=>rfl
 ·rfl
 ·rfl
theorem CZ (st:ASt) (i r:Nat) (js:List Nat) (b:Bool):(st.aw (CA.drop i r js b)).nfS=st.nfS.aw (CA.drop i r js b):=by
 simp only[ASt.nfS,ASt.aw];congr 1;apply List.ext_getElem?;intro t;simp only[Gn,mb];cases st.slots[t]? with
 | none=>rfl
 | some v=>simp[oD]
theorem qn (i:Nat) (v:AV):(v.cf (CA.unM i)).nf=v.nf.cf (CA.unM i):=by
 cases v with
 | one c =>
  cases c with
  | t x =>
   cases x with
   | lit u=>cases u<;>rfl
   | _=>rfl
  | may j ty =>
   simp only[AV.cf,CA.unM,AV.nf];cases j.beq i<;>rfl
  | _=>rfl
 | tv x =>
  cases x with
  | lit u=>cases u<;>rfl
  | _=>rfl
 | _=>rfl
theorem Fx (st:ASt) (i:Nat):(st.aw (CA.unM i)).nfS=st.nfS.aw (CA.unM i):=by
 simp only[ASt.aw,ASt.nfS];congr 1;induction st.slots with
 | nil=>rfl
 | cons v l ih=>simp only[cH,List.map_cons,qn,ih]
theorem vu {i:Nat} {b:BC} (h:st.bv i b=some st'):st.nfS.bv i b=some st'.nfS:=by
 obtain⟨h1,h2,rfl⟩:=bi h;have h2':i.blt st.nfS.boxes.length=true:=by simpa[ASt.nfS]using h2
 simp only[ASt.bv,lL,h1,h2',cond_true,sI]
theorem qu {d:Option Tmp}:∀{ps:List Prim} {st st':ASt},ae d ps st=some st'->ae d ps st.nfS=some st'.nfS
 | [],st,st',h=>by simp only[ae,Gj]at h;subst h;rfl
 | p :: ps, st, st', h => by
  simp only[ae]at h ⊢;cases h1:p.app st d with
  | none=>simp[h1]at h
  | some s1 =>
   simp only[h1]at h;have:p.app st.nfS d=some s1.nfS:=by
    cases p with
    | drop i r js b =>
     simp only[Prim.app,Gj]at h1 ⊢;subst h1;rw[CZ]
    | root i r x =>
     simp only[Prim.app,lL]at h1 ⊢;split at h1
     ·rename_i b hb
      simp only[Gj]at h1;subst h1;rfl
     ·cases h1
    | frz i r =>
     simp only[Prim.app,lL]at h1 ⊢;split at h1
     ·rename_i x hx
      split at h1
      ·rename_i b hb
       simp only[Gj]at h1;subst h1;rfl
      ·cases h1
     ·cases h1
    | unmay i =>
     simp only[Prim.app,Gj]at h1 ⊢;subst h1;rw[Fx]
    | newB b =>
     cases d with
     | none=>simp[Prim.app]at h1
     | some d =>
      simp only[Prim.app]at h1 ⊢;rw[we];exact vu h1
    | setB i cs =>
     simp only[Prim.app,lL]at h1 ⊢;split at h1
     ·simp only[Gj]at h1
      subst h1;rfl
     ·cases h1
   rw[this];exact qu h
theorem app_nf {e:Eff} {d:Option Tmp} (h:e.app st d=some st'):e.nfE.app st.nfS d=some st'.nfS:=by
 cases e with
 | val v =>
  simp only[Eff.app,Eff.nfE,Gj]at h ⊢;subst h;rw[j5]
 | new b v =>
  cases d with
  | none=>simp[Eff.app]at h
  | some d =>
   simp only[Eff.app,Eff.nfE]at h ⊢;rw[we];split at h
   ·rename_i s1 hs1
    simp only[Gj]at h;subst h;rw[vu hs1];simp only[j5]
   ·cases h
 | upd i b v =>
  simp only[Eff.app,Eff.nfE,Gj]at h ⊢;subst h;rw[j5,sI]
 | gen ps v =>
  simp only[Eff.app,Eff.nfE]at h ⊢;split at h
  ·rename_i s1 hs1
   simp only[Gj]at h;subst h;rw[qu hs1];simp only[j5]
  ·cases h
theorem km {d:Option Tmp} {v:AV} (hs:Sim w0 I0 (st.put d v) a ov w):Sim w0 I0 (st.put d v.nf) a ov w:=by
 apply eF;have:=wL hs;rw[j5]at this ⊢;rwa[uH]
theorem Bc {e:Eff} {d:Option Tmp} (h:e.nfE.app st d=some st'):∃st1,e.app st d=some st1/\∀w0 I0 a ov w,Sim w0 I0 st1 a ov w->Sim w0 I0 st' a ov w:=by
 cases e with
 | val v =>
  simp only[Eff.app,Eff.nfE,Gj]at h ⊢;subst h;exact⟨_,rfl,fun w0 I0 a ov w hs=>km hs⟩
 | new b v =>
  cases d with
  | none=>simp[Eff.app,Eff.nfE]at h
  | some d =>
   simp only[Eff.app,Eff.nfE]at h ⊢;split at h
   ·rename_i s1 hs1
    simp only[Gj]at h;subst h;exact⟨_,rfl,fun w0 I0 a ov w hs=>km hs⟩
   ·cases h
 | upd i b v =>
  simp only[Eff.app,Eff.nfE,Gj]at h ⊢;subst h;exact⟨_,rfl,fun w0 I0 a ov w hs=>km hs⟩
 | gen ps v =>
  simp only[Eff.app,Eff.nfE]at h ⊢;split at h
  ·rename_i s1 hs1
   simp only[Gj]at h;subst h;exact⟨_,rfl,fun w0 I0 a ov w hs=>km hs⟩
  ·cases h
end
end Go.Ab
end
section
namespace Go.Ab
open Go.RowKit
def Prg.All {R:Type} (p:R->Prop):Prg R->Prop
 | .fail=>True
 | .ret e=>p e
 | .tv _ k=>∀v,(k v).All p
 | .tvs _ k=>∀v,(k v).All p
 | .rws _ k=>∀v,(k v).All p
 | .nat _ k=>∀v,(k v).All p
 | .chk _ k=>k.All p
 | .ite _ t e=>t.All p/\e.All p
 | .call _ _ k=>∀v,(k v).All p
 | .jmp _ _=>True
theorem Prg.All.hits {R:Type} {C:Cal} {p:R->Prop} {e:R}:∀{o:Prg R},o.All p->o.hits C e->p e
 | .ret e',h,h'=>by cases h';exact h
 | .tv _ k,h,⟨v,_,h'⟩=>(h v).hits h'
 | .tvs _ k,h,⟨v,_,h'⟩=>(h v).hits h'
 | .rws _ k,h,⟨v,_,h'⟩=>(h v).hits h'
 | .nat _ k,h,⟨v,_,h'⟩=>(h v).hits h'
 | .chk _ k,h,⟨_,h'⟩=>Prg.All.hits (o:=k) h h'
 | .ite _ t e,h,⟨v,_,.inl ⟨_,h'⟩⟩=>Prg.All.hits (o:=t) h.1 h'
 | .ite _ t e,h,⟨v,_,.inr ⟨_,h'⟩⟩=>Prg.All.hits (o:=e) h.2 h'
 | .call _ _ k,h,⟨v,_,h'⟩=>(h v).hits h'
section
variable {E:Env} {look look':Look} {p:Eff->Prop} {id:Nat}
theorem aM {b:Bool} {x y:Out} (hx:x.All p) (hy:y.All p):(bif b then x else y).All p:=by cases b<;>assumption
theorem lW {q:Way} {x:TV} {k:TV->Out} (h:∀y,(k y).All p):(qW q x k).All p:=by
 unfold qW;split
 ·exact h _
 ·exact h
theorem fR {c:CA} {k:TV->Out} (h:∀y,(k y).All p):(i8 look c k).All p:=by
 unfold i8;split
 ·exact h _
 ·split
  ·exact lW h
  ·exact trivial
 ·split
  ·exact lW fun y z=>h z
  ·exact trivial
 ·exact trivial
theorem oV {v:AV} {k:TV->Out} (h:∀y,(k y).All p):(sB look v k).All p:=by
 unfold sB;split
 ·exact fR h
 ·exact h _
 ·exact h _
 ·exact trivial
theorem uJ {c:CA} {k:TV->Out} (h:∀y,(k y).All p):(sV look c k).All p:=by
 unfold sV;split
 ·exact h _
 ·exact fR fun y=>h _
 ·exact fR fun y=>h _
 ·exact trivial
theorem u9 {k:List TV->Out}:∀{cs:List CA} {k:List TV->Out},(∀y,(k y).All p)->(Ay look cs k).All p
 | [],k,h=>h _
 | c::cs,k,h=>uJ fun y=>u9 (k:=fun _=>.fail) fun ys=>h _
theorem BE {v:AV} {k:TV->Out} (h:∀y,(k y).All p):(rK look v k).All p:=by
 unfold rK;split
 ·exact uJ h
 ·exact h _
 ·exact u9 (k:=fun _=>.fail) fun ys=>h _
 ·exact trivial
 ·exact trivial
 ·exact h _
theorem mq:∀{vs:List AV} {k:List TV->Out},(∀y,(k y).All p)->(lends look vs k).All p
 | [],k,h=>h _
 | v::vs,k,h=>BE fun y=>mq fun ys=>h _
theorem uO {c:CA} {k:TV->List (Nat × Nat)->Out} (h:∀y r,(k y r).All p):(tN look c k).All p:=by
 unfold tN;split
 ·exact h _ _
 ·split
  ·split
   ·exact h _ _
   ·exact fun y=>h _ _
  ·exact trivial
 ·split
  ·split
   ·exact fun y=>h _ _
   ·exact fun z y=>h _ _
  ·exact trivial
 ·exact trivial
theorem uF:∀{cs:List CA} {k:List TV->List (Nat × Nat)->Out},(∀y r,(k y r).All p)->(Ba look cs k).All p
 | [],k,h=>h _ _
 | c::cs,k,h=>uO fun y r=>uF fun ys rs=>h _ _
theorem Bq {v:AV} {k:TV->List (Nat × Nat)->Out} (h:∀y r,(k y r).All p):(tX look v k).All p:=by
 unfold tX;split
 ·exact uO h
 ·exact h _ _
 ·exact uF fun ys rs=>h _ _
 ·exact trivial
 ·exact trivial
 ·exact h _ _
theorem pl:∀{vs:List AV} {k:List TV->List (Nat × Nat)->Out},(∀y r,(k y r).All p)->(hands look vs k).All p
 | [],k,h=>h _ _
 | v::vs,k,h=>Bq fun y r=>pl fun ys rs=>h _ _
theorem ec:∀{cs:List CA} {k:List TV->List Prim->List (Nat × Nat)->Out},(∀y q r,(k y q r).All p)->(cJ look cs k).All p
 | [],k,h=>h _ _ _
 | .t x::l,k,h=>by
  simp only[cJ];exact ec (cs:=l) fun xs ps ts=>h _ _ _
 | .sref i r q :: l, k, h => by
  simp only[cJ];split
  ·split
   ·exact ec (cs:=l) fun xs ps ts=>h _ _ _
   ·exact fun y=>ec (cs:=l) fun xs ps ts=>h _ _ _
  ·exact trivial
 | .swin i r q lo len :: l, k, h => by
  simp only[cJ];split
  ·split
   ·exact fun y=>ec (cs:=l) fun xs ps ts=>h _ _ _
   ·exact fun z y=>ec (cs:=l) fun xs ps ts=>h _ _ _
  ·exact trivial
 | .ptr _ _::l,k,h=>trivial
 | .ref _ _::l,k,h=>trivial
 | .tptr _ _ _ _ _::l,k,h=>trivial
 | .may _ _::l,k,h=>trivial
 | .aptr _ _ _ _::l,k,h=>trivial
 | .ifp _ _::l,k,h=>trivial
 | .fn1 _ _::l,k,h=>trivial
 | .psl _ _::l,k,h=>trivial
 | .yl _::l,k,h=>trivial
 | .undef::l,k,h=>trivial
 | .junk::l,k,h=>trivial
theorem eg:∀{cs:List CA} {k:List TV->List Prim->List (Nat × Nat)->Out},(∀y q r,(k y q r).All p)->(cj look cs k).All p
 | [],k,h=>h _ _ _
 | .t x::l,k,h=>by
  simp only[cj];exact eg (cs:=l) fun xs ps ts=>h _ _ _
 | .sref i r q :: l, k, h => by
  simp only[cj];split
  ·split
   ·exact eg (cs:=l) fun xs ps ts=>h _ _ _
   ·exact fun y=>⟨eg (cs:=l) fun xs ps ts=>h _ _ _,fun x'=>eg (cs:=l) fun xs ps ts=>h _ _ _⟩
  ·exact trivial
 | .swin i r q lo len :: l, k, h => by
  simp only[cj];split
  ·split
   ·exact fun y=>eg (cs:=l) fun xs ps ts=>h _ _ _
   ·exact fun z y=>eg (cs:=l) fun xs ps ts=>h _ _ _
  ·exact trivial
 | .ptr _ _::l,k,h=>trivial
 | .ref _ _::l,k,h=>trivial
 | .tptr _ _ _ _ _::l,k,h=>trivial
 | .may _ _::l,k,h=>trivial
 | .aptr _ _ _ _::l,k,h=>trivial
 | .ifp _ _::l,k,h=>trivial
 | .fn1 _ _::l,k,h=>trivial
 | .psl _ _::l,k,h=>trivial
 | .yl _::l,k,h=>trivial
 | .undef::l,k,h=>trivial
 | .junk::l,k,h=>trivial
theorem ej {agg:Bool} {n:Nat} {x:AV} {k:List CA->Out} (h:∀cs,(k cs).All p):(x.ba agg n k).All p:=by
 unfold AV.ba;split
 ·rename_i c;cases c.kept<;>first|exact trivial|exact h _
 ·exact h _
 ·exact h _
 ·exact h _
 ·rename_i cs;cases cs.length.beq n<;>first|exact trivial|exact h _
 ·exact h _
 ·exact trivial
theorem rX {at_:Nat->Option (Nat × Bool × Nat)} {k:List CA->Out} (h:∀cs,(k cs).All p):∀(is:List Nat) (vs:List AV) (cs:List CA),(ck at_ is vs cs k).All p
 | [],[],cs=>h cs
 | i :: is, x :: vs, cs => by
  simp only[ck];split
  ·refine ej (fun ps=>?_)
   exact aM (rX h is vs _) trivial
  ·exact trivial
 | [],_::_,cs=>trivial
 | _::_,[],cs=>trivial
theorem fc {v:Option AV} {k:Option Nat->Out} (h:∀n,(k n).All p):(fU v k).All p:=by
 unfold fU;split
 ·exact h _
 ·split
  ·exact fun v=>h _
  ·exact trivial
abbrev fZ (e:Eff):Prop:=∃v,e=.val v
abbrev lb (e:Eff):Prop:=∃b v,e=.new b v
theorem yf {d:TyD} {x:List TV} {off:Nat}:(kK d x off).All fZ:=by
 unfold kK;cases d.kd.isAgg
 ·exact⟨_,rfl⟩
 ·exact⟨_,rfl⟩
theorem uK:∀{vs:List AV} {k:List CA->Out},(∀cs,(k cs).All p)->(kq vs k).All p
 | [],k,h=>h _
 | v::vs,k,h=>ej fun cs=>uK fun cs'=>h _
theorem vm {b k:Nat}:∀{n:Nat},(AD b k n).All fZ
 | 0=>trivial
 | n+1=>⟨⟨_,rfl⟩,vm⟩
theorem A2 {op:Op} (h:aq op=.N) (vs:List AV):(opL E id look op vs).All fZ:=by
 cases op with
 | move x=>rcases vs with _|⟨v,_|⟨v',r⟩⟩<;>first|exact trivial|exact⟨_,rfl⟩
 | assign x=>rcases vs with _|⟨v,_|⟨v',r⟩⟩<;>first|exact trivial|exact⟨_,rfl⟩
 | pick c x y =>
  rcases vs with _|⟨v,_|⟨v',_|⟨v'',_|⟨v3,r⟩⟩⟩⟩<;>first|exact trivial|skip
  simp only[opL];split<;>first|exact trivial|exact⟨_,rfl⟩|exact⟨⟨_,rfl⟩,⟨_,rfl⟩⟩
 | build t parts =>
  simp only[opL];split
  ·refine aM ?_ trivial
   refine rX ?_ _ _ _;exact fun cs=>⟨_,rfl⟩
  ·exact trivial
 | nilCheck x =>
  rcases vs with _|⟨v,_|⟨v',r⟩⟩<;>first|exact trivial|skip
  simp only[opL];split<;>first|exact trivial|exact⟨_,rfl⟩
 | unOp op xt x =>
  rcases vs with _|⟨v,_|⟨v',r⟩⟩<;>first|exact trivial|skip
  simp only[opL];split
  ·exact⟨_,rfl⟩
  ·split
   ·exact fun v=>⟨_,rfl⟩
   ·exact trivial
 | fieldAddr t x f =>
  rcases vs with _|⟨v,_|⟨v',r⟩⟩<;>first|exact trivial|skip
  simp only[opL];split
  ·split
   ·refine aM ?_ trivial
    split<;>first|exact trivial|exact⟨_,rfl⟩
   ·exact trivial
  ·exact trivial
 | field t x f =>
  rcases vs with _|⟨v,_|⟨v',r⟩⟩<;>first|exact trivial|skip
  simp only[opL];split
  ·split
   ·unfold wn
    split
    ·split
     ·split<;>first|exact trivial|exact⟨_,rfl⟩
     ·exact trivial
    ·exact⟨_,rfl⟩
    ·exact trivial
   ·exact trivial
  ·exact trivial
 | index t x y =>
  rcases vs with _|⟨v,_|⟨v',_|⟨v'',r⟩⟩⟩<;>first|exact trivial|skip
  simp only[opL];split
  ·exact fun v=>⟨_,rfl⟩
  ·unfold rC
   split
   ·split
    ·refine aM ?_ trivial
     split
     ·exact fun k v=>⟨_,rfl⟩
     ·exact trivial
    ·exact trivial
   ·exact trivial
 | extract x j =>
  rcases vs with _|⟨v,_|⟨v',r⟩⟩<;>first|exact trivial|skip
  simp only[opL];split
  ·split
   ·split<;>first|exact trivial|exact⟨_,rfl⟩
   ·exact trivial
  ·exact trivial
 | makeFunc fn first cap =>
  cases fn with
  | func f =>
   simp only[opL];exact aM (uK fun cs=>⟨_,rfl⟩) trivial
  | _=>exact trivial
 | call c =>
  obtain⟨callee,args,tys⟩:=c;cases callee with
  | builtin b=>cases b<;>simp[aq]at h
  | value f=>cases f<;>simp[aq]at h
  | invoke r m=>simp[aq]at h
 | makeInterface t x =>
  rcases vs with _|⟨v,_|⟨v',r⟩⟩<;>first|exact trivial|skip
  simp only[opL];split
  ·unfold Dq
   refine aM ?_ trivial;split
   ·exact⟨_,rfl⟩
   ·split
    ·exact fun v=>⟨_,rfl⟩
    ·exact trivial
  ·exact trivial
 | typeAssert x xt t ok =>
  rcases vs with _|⟨v,_|⟨v',r⟩⟩<;>cases ok<;>first|exact trivial|skip
  simp only[opL];split
  ·unfold vL
   refine aM ?_ trivial;split
   ·exact fun v=>⟨_,rfl⟩
   ·exact trivial
  ·exact trivial
 | _=>simp[aq]at h
theorem DC {op:Op} (h:aq op=.R) (vs:List AV):(opL E id look op vs).All fZ:=by
 cases op with
 | load t x =>
  rcases vs with _|⟨v,_|⟨v',r⟩⟩<;>first|exact trivial|skip
  simp only[opL];split
  ·unfold AJ
   split
   ·refine aM trivial ?_
    split
    ·exact fun v=>⟨_,rfl⟩
    ·exact trivial
   ·split
    ·split
     ·split
      ·exact⟨_,rfl⟩
      ·exact trivial
     ·exact trivial
    ·exact trivial
   ·exact yf
   ·split
    ·refine lW (fun s e=>?_)
     simp only[Prg.All];split
     ·exact⟨_,rfl⟩
     ·exact trivial
    ·exact trivial
   ·exact trivial
  ·exact trivial
 | convert xt dt x =>
  rcases vs with _|⟨v,_|⟨v',r⟩⟩<;>first|exact trivial|skip
  simp only[opL];split
  ·unfold Ak
   split
   ·exact trivial
   ·split
    ·exact fun v=>⟨_,rfl⟩
    ·exact trivial
  ·exact trivial
 | binOp op xt x y yt =>
  rcases vs with _|⟨v,_|⟨v',_|⟨v'',r⟩⟩⟩<;>first|exact trivial|skip
  simp only[opL];split
  ·unfold E8
   split
   ·split
    ·refine ej fun cs=>ej fun cs'=>?_
     split
     ·exact fun v=>⟨_,rfl⟩
     ·exact trivial
    ·exact trivial
   ·unfold E7
    split
    ·exact⟨_,rfl⟩
    ·exact⟨_,rfl⟩
    ·exact trivial
   unfold Fq;refine aM (oV fun x=>oV fun y=>fun v=>⟨_,rfl⟩) ?_;split
   ·exact fun v=>⟨_,rfl⟩
   ·exact trivial
  ·exact trivial
 | slice t x lo hi mx =>
  have sl:∀{kd:Kd} {sz:Nat} {x:AV} {lo hi:Option AV},(iU look kd sz x lo hi).All fZ:=by
   intro kd sz x lo hi;unfold iU;split
   ·exact fc fun lo=>fc fun hi=>fun v=>⟨_,rfl⟩
   ·split
    ·exact fR fun s n=>fc fun lo=>fc fun hi=>⟨_,rfl⟩
    ·split
     ·exact fR fun s=>fc fun hi=>⟨_,rfl⟩
     ·exact fR fun s=>fc fun lo=>fc fun hi=>⟨_,rfl⟩
    ·exact trivial
  cases mx with
  | some m=>rcases vs with _|⟨v,r⟩<;>exact trivial
  | none =>
   rcases vs with _|⟨v,r⟩
   ·exact trivial
   ·simp only[opL]
    split
    ·split
     ·split<;>first|exact trivial|exact sl
     ·exact trivial
    ·exact trivial
 | indexAddr t x y =>
  rcases vs with _|⟨v,_|⟨v',_|⟨v'',r⟩⟩⟩<;>first|exact trivial|skip
  simp only[opL];split
  ·unfold pw
   split
   ·split
    ·exact fun v=>⟨_,rfl⟩
    ·split
     ·exact fR fun s n k=>⟨_,rfl⟩
     ·exact fR fun s k=>⟨_,rfl⟩
     ·exact aM (fun k=>vm) trivial
     ·exact trivial
   ·exact trivial
  ·unfold rh
   split
   ·split
    ·exact aM (fun k=>⟨_,rfl⟩) trivial
    ·exact trivial
   ·exact trivial
 | call c =>
  obtain⟨callee,args,tys⟩:=c;cases callee with
  | builtin b =>
   have mn:∀{mx:Bool} {x y:AV},(yL mx x y).All fZ:=by
    intro mx x y;unfold yL;split
    ·exact fun v=>⟨_,rfl⟩
    ·exact trivial
   cases b<;>simp[aq]at h;all_goals simp only[opL]
   all_goals unfold ek
   all_goals split<;>first|exact trivial|exact mn|contradiction|skip
   split
   ·unfold xW
    split
    ·exact⟨_,rfl⟩
    ·split
     ·exact⟨_,rfl⟩
     ·exact oV fun s v=>⟨_,rfl⟩
    ·exact oV fun s v=>⟨_,rfl⟩
   ·exact trivial
  | value f=>cases f<;>simp[aq]at h
  | invoke r m=>simp[aq]at h
 | _=>simp[aq]at h
theorem cls_A {op:Op} (h:aq op=.A) (vs:List AV):(opL E id look op vs).All lb:=by
 cases op with
 | alloc t =>
  rcases vs with _|⟨v,r⟩<;>first|exact trivial|skip
  simp only[opL];split
  ·exact⟨_,_,rfl⟩
  ·exact trivial
 | box t x =>
  rcases vs with _|⟨v,_|⟨v',r⟩⟩<;>first|exact trivial|skip
  simp only[opL];split
  ·exact ej (fun cs=>⟨_,_,rfl⟩)
  ·exact trivial
 | makeSlice t x y =>
  rcases vs with _|⟨v,_|⟨v',_|⟨v'',r⟩⟩⟩<;>first|exact trivial|skip
  simp only[opL];split
  ·refine aM ?_ trivial
   exact fun n m=>⟨_,_,rfl⟩
  ·exact trivial
 | call c =>
  obtain⟨callee,args,tys⟩:=c;cases callee with
  | builtin b=>cases b<;>simp[aq]at h
  | value f=>cases f<;>simp[aq]at h
  | invoke r m=>simp[aq]at h
 | _=>simp[aq]at h
theorem jp {ps:List Prim} {b:BC} {v:AV}:(cV ps b v).plain=true->fZ (cV ps b v)\/lb (cV ps b v):=by
 cases ps with
 | nil=>exact fun _=>.inr ⟨_,_,rfl⟩
 | cons q l=>exact fun h=>by cases h
theorem vd {ps:List Prim} {v:AV}:(match ps with | []=>Eff.val v|_=>.gen ps v).plain=true->fZ (match ps with | []=>Eff.val v|_=>.gen ps v)\/lb (match ps with | []=>Eff.val v|_=>.gen ps v):=by
 cases ps with
 | nil=>exact fun _=>.inl ⟨_,rfl⟩
 | cons q l=>exact fun h=>by cases h
theorem ki {d:TyD} {x:TV} {k:Out} (h:k.All p):(jA d x k).All p:=by
 unfold jA;exact aM h h
theorem qC {x:TV} {k:Out} (h:k.All p):∀(ds:List TyD) (j:Nat),(gG x ds j k).All p
 | [],j=>h
 | d::ds,j=>ki (qC h ds (j+1))
theorem wZ {ds:List TyD} {v:TV} {ps:List Prim}:(wI id ds v ps).All fun e=>e.plain=true->fZ e\/lb e:=by
 have many:∀ds:List TyD,(Prg.chk (v.isTup ds.length) (gG v ds 0 (bif gZ ds then .ret (cV ps (.tree (br v ds 0)) (.tups (d6 id v ds 0 0)))
   else .ret (match ps with | []=>.val (.tups (d6 id v ds 0 0))|_=>.gen ps (.tups (d6 id v ds 0 0)))))).All fun e=>e.plain=true->fZ e\/lb e:=by
  intro ds;refine qC ?_ ds 0;exact aM jp vd
 match ds with
 | []=>exact many []
 | [d] =>
  simp only[wI];refine ki ?_;split
  ·exact aM jp vd
  ·exact trivial
 | d::d'::l=>exact many _
theorem DS {ds:List TyD} {v:TV} {k:AV->Out} {p:Eff->Prop} (h:∀av,(k av).All p):(CE id ds v k).All p:=by
 have some:∀(ds:List TyD) (j:Nat) (k:Out),k.All p->(gG v ds j k).All p:=by
  intro ds;induction ds with
  | nil=>intro j k h;exact h
  | cons d ds ih=>intro j k h;exact ki (ih (j+1) k h)
 unfold CE;split
 ·refine ki ?_
  split
  ·exact h _
  ·exact trivial
 ·exact some _ 0 _ (h _)
theorem BK {f:FuncId} {ld:fx} {vs:List AV}:(ow E id look f ld vs).All fun e=>e.plain=true->fZ e\/lb e:=by
 unfold ow;split
 ·split
  ·refine aM trivial ?_
   exact pl fun xs rs=>ec fun ys qs ts=>aM (fun v=>DS fun av=>fun h=>by simp[Eff.plain]at h) trivial
  ·exact trivial
 ·exact trivial
theorem BU {f:FuncId} {c:Nat × Nat} {vs:List AV}:(oj look f c vs).All fun e=>e.plain=true->fZ e\/lb e:=by
 unfold oj;split
 ·split
  ·split
   ·exact aM (mq fun xs=>fun v=>fun _=>.inl ⟨_,rfl⟩) trivial
   ·exact trivial
  ·exact trivial
 ·exact trivial
theorem BX {f:FuncId} {vs:List AV}:(sK look f vs).All fun e=>e.plain=true->fZ e\/lb e:=by
 exact trivial
theorem DW {f:FuncId} {i:Nat} {vs:List AV}:(DP E id look f i vs).All fun e=>e.plain=true->fZ e\/lb e:=by
 exact trivial
theorem cls_B {op:Op} (h:aq op=.B) (vs:List AV):(opL E id look op vs).All fun e=>e.plain=true->fZ e\/lb e:=by
 cases op with
 | buildSlice t len parts =>
  simp only[opL];refine aM ?_ ?_
  ·exact trivial
  unfold iS;split
  ·refine rX (fun cs=>?_) _ _ _
   refine aM (fun _=>.inr ⟨_,_,rfl⟩) ?_;refine eg fun ys qs ts=>?_
   exact aM jp trivial
  ·exact trivial
 | call c =>
  obtain⟨callee,args,tys⟩:=c;cases callee with
  | builtin b=>cases b<;>simp[aq]at h
  | value f =>
   cases f with
   | func f =>
    rcases vs with _|⟨v,r⟩
    ·exact trivial
    ·simp only[opL,mN]
     refine aM BX (aM trivial ?_);split
     ·exact BU
     split
     ·exact BK
     ·split
      ·refine aM ?_ ?_
       ·exact mq fun xs=>fun v=>wZ
       ·exact pl fun xs rs=>aM (fun v=>wZ) trivial
      ·exact trivial
   | tmp t =>
    rcases vs with _|⟨v,r⟩
    ·exact trivial
    ·simp only[opL]
     split
     ·exact fun f=>mq fun xs v=>fun _=>.inl ⟨_,rfl⟩
     ·split
      ·exact DW
      ·exact trivial
   | _=>simp[aq]at h
  | invoke r m=>simp[aq]at h
 | _=>simp[aq]at h
abbrev isUpd (look:Look) (e:Eff):Prop:=∃i b v,e=.upd i b v/\(look i).isSome=true
theorem Ev {op : Op} (h : aq op = .W) (vs : List AV) : (opL E id look op vs).All fun e => e.plain = true → isUpd look e := by
 cases op with
 | store t x y =>
  rcases vs with _|⟨v,_|⟨v',_|⟨v'',r⟩⟩⟩<;>first|exact trivial|skip
  simp only[opL];split
  ·unfold wa
   split
   ·refine aM trivial ?_
    split
    ·rename_i cs xs hrow
     refine ej (fun ps=>?_);split
     ·exact fun _=>⟨_,_,_,rfl,by simp[(jq hrow).1]⟩
     ·exact trivial
    ·exact trivial
   ·refine ej (fun ps=>?_)
    split
    ·rename_i cs hl
     exact aM (fun _=>⟨_,_,_,rfl,by simp[hl]⟩) trivial
    ·exact trivial
   ·refine ej (fun ps=>?_)
    split
    ·refine aM trivial (aM ?_ ?_)
     ·refine ec fun ys qs ts=>aM ?_ trivial
      exact lW fun s e=>fun x' hp=>by cases hp
     ·refine ec fun ys qs ts=>?_
      split
      ·refine aM ?_ trivial
       refine lW fun s e=>?_
       simp only[Prg.All];intro x';split
       ·rename_i b hb
        refine fun _=>⟨_,_,_,rfl,?_⟩
        unfold ct at hb;split at hb
        ·rename_i hl;simp[hl]
        ·cases hb
       ·exact trivial
      ·exact trivial
    ·exact trivial
   ·exact trivial
  ·exact trivial
 | call c =>
  obtain⟨callee,args,tys⟩:=c;cases callee with
  | builtin b=>cases b<;>simp[aq]at h
  | value f=>cases f<;>simp[aq]at h
  | invoke r m=>simp[aq]at h
 | _=>simp[aq]at h
theorem xj {d:TyD} {s:AV} {news:List (List TV)} {ps:List Prim}:(nN id look d s news ps).All fun e=>e.plain=true->fZ e\/lb e:=by
 unfold nN;split
 ·exact aM (fun y=>jp) trivial
 ·split
  ·split
   ·split
    ·exact fun y h=>by cases h
    ·exact fun z y x' h=>by cases h
   ·exact trivial
  ·split
   ·split
    ·exact fun z y h=>by cases h
    ·exact fun z0 z y x' h=>by cases h
   ·exact trivial
  ·exact trivial
theorem DL {d:TyD} {dest:Option Nat} {x:AV} {k:List (List TV)->List Prim->Out} (h:∀xs ps,(k xs ps).All p):(xO look d dest x k).All p:=by
 unfold xO;split
 ·exact fun xs=>h _ _
 ·split
  ·refine aM ?_ ?_
   ·split
    ·split
     ·split
      ·exact aM trivial (fun xs=>h _ _)
      ·exact fun y=>fun xs=>h _ _
     ·exact trivial
    ·split
     ·split
      ·exact aM trivial (fun y xs=>h _ _)
      ·exact fun z y=>fun xs=>h _ _
     ·exact trivial
    ·exact trivial
   ·exact fR (fun s xs=>h _ _)
  ·exact trivial
theorem cls_P {op:Op} (h:aq op=.P) (vs:List AV):(opL E id look op vs).All fun e=>e.plain=true->fZ e\/lb e:=by
 cases op with
 | call c =>
  obtain⟨callee,args,tys⟩:=c;cases callee with
  | builtin b =>
   cases b<;>simp[aq]at h;simp only[opL];unfold ek;split<;>try (first|exact trivial|contradiction)
   split
   ·refine aM ?_ ?_
    ·unfold oF
     exact aM (DL (fun xs ps=>xj)) trivial
    ·split
     ·exact trivial
     ·exact trivial
   ·exact trivial
  | value f=>cases f<;>simp[aq]at h
  | invoke r m=>simp[aq]at h
 | _=>simp[aq]at h
theorem vQ {op:Op} (h:aq op=.N\/aq op=.A) (vs:List AV):opL E id look op vs=opL E id look' op vs:=by
 cases op<;>first
  | (rcases vs with _|⟨a,_|⟨b,_|⟨c,_|⟨d,r⟩⟩⟩⟩<;>rfl)
  | (simp[aq]at h;done)
  | (rename_i fn _ _;cases fn<;>rfl)
  | (rename_i ok;cases ok<;>rcases vs with _|⟨a,_|⟨b,r⟩⟩<;>rfl)
  | skip
 all_goals
  rename_i c;obtain⟨callee,args,tys⟩:=c;cases callee with
  | builtin b=>cases b<;>simp[aq]at h
  | value f=>cases f<;>simp[aq]at h
  | invoke r m=>simp[aq]at h
end
end Go.Ab
end

import Derived.Test.YtjdjnejdjhfmcaaIA10F143
import Derived.Test.YtjdjnejdjhfmcaaIM0
import Derived.Below
import Derived.Orders
import Derived.Laws.Cells
import Derived.Laws.OwnMore
import Derived.Laws.CopyOwn
import Derived.Maps.AppendAt
import Derived.Lib.FrozenHead
set_option linter.all false
section
set_option maxRecDepth 10000
namespace Go.Ab
def vj (x:DIns):List (Int × List Int):=if x.op=11 then [(x.f,x.args)] else []
def tJ (e:DEnd):List (Int × List Int):=if e.kind=4 then [(e.f,e.args)] else []
def dV (b:DBlock):List (Int × List Int):=b.ins.flatMap vj ++ tJ b.fin
def qM (l:List Int):Int:=if 8 < (l.length:Int) then 8 else l.length
theorem vZ (l:List Int):0≤qM l∧qM l≤8:=by unfold qM; split <;> omega
theorem zv {l:List Int} (h:(l.length:Int)≤8):qM l=l.length:=by unfold qM; rw [if_neg (by omega)]
def fH (P:Nat→Int) (n:Int) (l:List Int):Nat→Int:=if 0≤n∧n < 16 then je P n.toNat (qM l) else P
def gI (P:Nat→Int) (l:List (Int × List Int)):Nat→Int:=l.foldl (fun P c=>fH P c.1 c.2) P
def fnL (P:Nat→Int):List DFunc:=bY 16 fun n=>⟨P n,0,[]⟩
abbrev RFn (w:TV) (P:Nat→Int):Prop:=RL (some true) 3 (RFunc (some true)) w (fnL P)
def lw (P:Nat→Int):Prop:=∀ n,0≤P n∧P n≤8
theorem lw.next {P:Nat→Int} (h:lw P) (n:Int) (l:List Int):lw (fH P n l):=by
 intro m
 unfold fH
 split
 ·by_cases e:m=n.toNat
  ·rw [e,b7]; exact vZ l
  ·rw [cg e]; exact h m
 ·exact h m
theorem uM {Q:Nat→Int}:∀ (L:List (Int × List Int)) (P:Nat→Int) (n:Nat),P n=Q n→(∀ c ∈ L,c.1.toNat=n→0≤c.1→(c.2.length:Int)=Q n∧Q n≤8)→gI P L n=Q n
 | [],P,n,h,_=>h
 | c :: L, P, n, h, hL => by
  refine uM L (fH P c.1 c.2) n ?_ fun d hd=>hL d (ER _ hd)
  unfold fH
  split
  ·rename_i hc
   by_cases e:n=c.1.toNat
   ·obtain ⟨h1,h2⟩:=hL c EQ e.symm hc.1
    rw [e,b7,← e,zv (by omega)]
    exact h1
   ·rw [cg e]; exact h
  ·exact h
theorem xj {Q:Nat→Int}:∀ (L:List (Int × List Int)) (P:Nat→Int),(∀ c ∈ L,0≤c.1∧c.1 < 16∧(c.2.length:Int)=Q c.1.toNat∧Q c.1.toNat≤8)→∀ c ∈ L,gI P L c.1.toNat=(c.2.length:Int)
 | [],P,_,c,hc=>by cases hc
 | c0 :: L, P, h, c, hc => by
  have h0:=h c0 EQ
  rcases List.mem_cons.1 hc with rfl | hc
  ·rw [h0.2.2.1]
   refine uM L (fH P c.1 c.2) c.1.toNat ?_ fun d hd he hd0=>?_
   ·unfold fH
    rw [if_pos ⟨h0.1,h0.2.1⟩,b7,zv (by omega)]
    exact h0.2.2.1
   ·have:=h d (ER _ hd)
    rw [← he]
    exact ⟨this.2.2.1,this.2.2.2⟩
  ·exact xj L (fH P c0.1 c0.2) (fun d hd=>h d (ER _ hd)) c hc
theorem pmin8 {l:List Int}:pmin false (I (l.length:Int)) (I 8)=some (I (qM l)):=rfl
end Go.Ab
namespace Go.Ab.A10
open Go Go.Ab Go.Proofs
theorem AZ {fs:List DFunc} {regs:Int} {bs:List DBlock} {b:DBlock} (h:j6 fs regs bs b):OkG bs.length b.fin:=by
 obtain ⟨_,_,_,_,_,_,_,h1,h2,h3⟩:=h
 have lt:∀ {n:Int} {l:Bool},lq bs n l→0≤n∧n.toNat < bs.length:=fun ⟨h0,b,hb,_⟩=>⟨h0,(EJ.1 hb).1⟩
 refine ⟨fun hk=>lt (h1.1 ?_),fun hk=>lt (h2.1 ?_),fun hk=>lt (h3.1 ?_)⟩
 ·exact (has64 _).2 hk
 ·exact (has128 _).2 hk
 ·rw [hk]; decide +kernel
theorem AH {fs:List DFunc} {regs:Int} {bs:List DBlock} {b:DBlock} (hr:0≤regs) (h:j6 fs regs bs b):OkB regs.toNat b:=by
 obtain ⟨_,_,hi,he0,ha,hd,hc,_⟩:=h
 have wi:∀ {p:Int},within p regs→0≤p∧p < regs.toNat:=fun h=>⟨h.1,by have:=h.2; omega⟩
 refine ⟨fun p hp=>?_,fun x hx p hp=>?_,fun x hx d hs=>?_⟩
 ·unfold dq at hp
  split at hp
  ·rename_i hk
   simp at hp
   subst hp
   refine wi (ha.1 ?_)
   rcases hk with hk | hk | hk <;> (rw [hk]; decide +kernel)
  ·split at hp
   ·rename_i hk
    have:=hc.1 (by rw [hk]; decide +kernel)
    obtain ⟨_,g,_,_,h⟩:=this
    obtain ⟨i,hi,rfl⟩:=List.mem_iff_getElem.1 hp
    exact wi (h i hi _ (EK hi))
   ·cases hp
 ·obtain ⟨i,hil,hxi⟩:=List.mem_iff_getElem.1 hx
  obtain ⟨_,hd,ha,hb,_,hc⟩:=hi i hil x (by rw [EK hil,hxi])
  have opA:∀ {k:Int},(k=2∨k=9∨k=12)∨(3≤k∧k≤8)∨k=10→has (iu k) 4=true:=fun {k} hk=>by
   have:k=2∨k=9∨k=12∨k=3∨k=4∨k=5∨k=6∨k=7∨k=8∨k=10:=by omega
   rcases this with h | h | h | h | h | h | h | h | h | h <;> (subst h; decide +kernel)
  have opB:∀ {k:Int},(3≤k∧k≤8)∨k=10→has (iu k) 8=true:=fun {k} hk=>by
   have:k=3∨k=4∨k=5∨k=6∨k=7∨k=8∨k=10:=by omega
   rcases this with h | h | h | h | h | h | h <;> (subst h; decide +kernel)
  unfold fu at hp
  split at hp
  ·rename_i hk
   simp at hp
   subst hp
   exact wi (ha.1 (opA (.inl hk)))
  ·split at hp
   ·rename_i hk
    simp at hp
    rcases hp with rfl | rfl
    ·exact wi (ha.1 (opA (.inr hk)))
    ·exact wi (hb.1 (opB hk))
   ·split at hp
    ·rename_i hk
     obtain ⟨_,g,_,_,h⟩:=hc.1 (by rw [hk]; decide +kernel)
     obtain ⟨i,hi,rfl⟩:=List.mem_iff_getElem.1 hp
     exact wi (h i hi _ (EK hi))
    ·cases hp
 ·obtain ⟨i,hil,hxi⟩:=List.mem_iff_getElem.1 hx
  obtain ⟨_,hd,_⟩:=hi i hil x (by rw [EK hil,hxi])
  unfold dc at hs
  split at hs
  ·rename_i hk
   simp at hs
   subst hs
   refine wi (hd.1 ?_)
   have hk2:x.op=1∨x.op=2∨x.op=3∨x.op=4∨x.op=5∨x.op=6∨x.op=7∨x.op=8∨x.op=9∨x.op=11∨x.op=13:=by omega
   rcases hk2 with h | h | h | h | h | h | h | h | h | h | h <;> (rw [h]; decide +kernel)
  ·cases hs
theorem yR {fs:List DFunc} {regs:Int} {bs:List DBlock} {b:DBlock} (hf:∀ g ∈ fs,g.params≤8) (h:j6 fs regs bs b):(∀ x ∈ b.ins,x.args.length≤8)∧b.fin.args.length≤8:=by
 obtain ⟨_,_,hi,_,_,_,hc,_⟩:=h
 have one:∀ {u:Bool} {n:Int} {l:List Int},ny u fs regs n l→l.length≤8:=fun {u n l} h=>by
  cases u with
  | true =>
   obtain ⟨_,g,hg,hl,_⟩:=h.1 rfl
   have:=hf g (ES hg)
   omega
  | false=>rw [(h.2 rfl).2]; simp
 refine ⟨fun x hx=>?_,one hc⟩
 obtain ⟨i,hil,hxi⟩:=List.mem_iff_getElem.1 hx
 exact one (hi i hil x (by rw [EK hil,hxi])).2.2.2.2.2
section
variable {q:Option Bool} {bl:TV} {params regs:Int} {f:DFunc} (hf:RL q 14 (RBlock q) bl f.blocks) (hfp:inI f.params) (hfr:inI f.regs)
theorem CL {w:TV} {P:Nat→Int} (hw:RFn w P) (hP:lw P) {n:Int} (h0:0≤n) (h1:n < 16) {l:List Int}:∃ e w',Go.Ab.pel w n.toNat=some e∧ab fo e 0=true∧bI [] w n.toNat 0 [I (qM l)]=some w'∧RFn w' (fH P n l):=by
 have hn:n.toNat < 16:=by omega
 obtain ⟨e,he,hre⟩:=RL.pel hw (bT hn)
 obtain ⟨b,rfl,hb,_,_⟩:=hre
 obtain ⟨w',h1',h2⟩:=RL.oP hw he (d:=0) (ys:=[I (qM l)]) (a:=(⟨qM l,0,[]⟩:DFunc)) ⟨b,rfl,hb,(show inI (qM l) from ⟨by have:=(vZ l).1; omega,by have:=(vZ l).2; omega⟩),(show inI 0 from ⟨by decide,by decide⟩)⟩
 refine ⟨_,w',he,rfl,h1',?_⟩
 unfold fnL at h2
 rw [sw] at h2
 have e2:je (fun n=>(⟨P n,0,[]⟩:DFunc)) n.toNat (⟨qM l,0,[]⟩:DFunc)=fun m=>(⟨fH P n l m,0,[]⟩:DFunc):=by
  funext m
  unfold fH
  rw [if_pos ⟨h0,h1⟩]
  by_cases e:m=n.toNat
  ·subst e; rw [b7,b7]
  ·rw [cg e,cg e]
 rw [e2] at h2
 exact h2
end
theorem rCould {q : Option Bool} {e : List TV} {f : DFunc} (he : RFunc q e f) : ak prog 28 [.agg e] (B (tt (jj (fnL (gI (fun _ => 0) (f.blocks.flatMap dV))) f))) := by
 have he0:=he
 obtain ⟨bl,rfl,hbl,hp,hr⟩:=he
 have hlb:=hbl.bnd
 have size:∀ {w:TV} {P:Nat→Int},RFn w P→∀ {n:Int},0≤n→n < 16→Go.Ab.slLen w=some 16∧(Bool.and (Go.Ab.slSize w 3) (Nat.blt n.toNat 16))=true:=by
  intro w P hw n h0 h1
  refine ⟨by rw [RL.slLen hw]; simp [fnL,bS],?_⟩
  rw [RL.slSize hw]
  simp
  omega
 have lenF:∀ {w:TV} {P:Nat→Int},RFn w P→plen (.slice 43) w=some (I (16:Int)):=fun hw=>by rw [RL.len hw]; simp [fnL,bS]
 have outer : ∀ (d j : Nat) (w : TV) (P : Nat → Int), j + d = f.blocks.length → RFn w P → lw P → aa prog 28 (f28_0 bl (I f.blocks.length) (I j) (I f.params) (I f.regs) bl w) (B (tt (jj (fnL (gI P ((f.blocks.drop j).flatMap dV))) f))) := by
  intro d
  induction d with
  | zero =>
   intro j w P hj hw hP
   have hj:j=f.blocks.length:=by omega
   subst hj
   rw [List.drop_length]
   unfold f28_0
   refine aa.tv rfl (aa.ite aZ (fun h=>nomatch h) fun _=>?_)
   refine f28_2_J ?_
   unfold f28_2
   have hM:RMod (some false) [Ab.frz w] ⟨fnL P⟩:=⟨_,rfl,RL.frz hw fun _ _ h=>h.frz⟩
   exact aa.call (r10 hM he0) (aa.chk rfl aa.ret)
  | succ d ih =>
   intro j w P hj hw hP
   have hjl:j < f.blocks.length:=by omega
   have ha:f.blocks[j]? = some f.blocks[j]:=EK hjl
   have hdr:=List.drop_eq_getElem_cons hjl
   generalize f.blocks[j]=b at ha hdr
   obtain ⟨eb,heb,hrb⟩:=hbl.idx (k:=.i64) ha
   obtain ⟨c,i,ga,rfl,hc,hd,hi,hg,ho⟩:=hrb
   have hgb:=hg.bnd
   have hib:=hi.bnd
   rw [hdr]
   have fin:∀ (w:TV) (P:Nat→Int),RFn w P→lw P→aa prog 28 (f28_3 bl (I f.blocks.length) (I j) (I f.params) (I f.regs) bl w (B b.landing) (I b.pad.dst) c (B b.pad.all) (B b.pad.cleanup) i (I b.fin.kind) (I b.fin.a) (I b.fin.dst) (I b.fin.f) ga (I b.fin.to) (I b.fin.els) (I b.fin.pad)) (B (tt (jj (fnL (gI P (tJ b.fin ++ (f.blocks.drop (j + 1)).flatMap dV))) f))):=by
    intro w P hw hP
    have nx:∀ (w:TV) (P:Nat→Int),RFn w P→lw P→∀ (p:List Nat),p=[0,0,1,0,1,1]→aa prog 28 (.tv (pbin (.int .i64) .add (I j) (I 1)) fun v=>.jmp p (f28_0_S bl (I f.blocks.length) v (I f.params) (I f.regs) bl w)) (B (tt (jj (fnL (gI P ((f.blocks.drop (j + 1)).flatMap dV))) f))):=fun w P hw hP p hp=>by
     subst hp
     exact aa.tv (inc hjl hlb) (f28_0_J (ih (j + 1) w P (by omega) hw hP))
    unfold f28_3 tJ
    by_cases k4:b.fin.kind=4
    ·rw [if_pos k4]
     refine aa.tv rfl (aa.ite (v:=true) (by simp [asBool,k4]) (fun _=>?_) fun h=>nomatch h)
     by_cases h0:0≤b.fin.f
     ·refine aa.tv rfl (aa.ite (v:=true) (by simp [asBool,h0]) (fun _=>?_) fun h=>nomatch h)
      refine aa.tv (lenF hw) ?_
      by_cases h1:b.fin.f < 16
      ·obtain ⟨e,w',q1,q2,q3,q4⟩:=CL hw hP h0 h1 (l:=b.fin.args)
       obtain ⟨s1,s2⟩:=size hw h0 h1
       refine aa.tv rfl (aa.ite (v:=true) (by simp [asBool,h1]) (fun _=>?_) fun h=>nomatch h)
       exact aa.tv hg.len (aa.tv pmin8 (aa.nat s1 (aa.nat (aH h0 ho.2.2.2.1) (aa.chk s2 (aa.tvs q1 (aa.chk q2 (aa.tv q3 (nx w' _ q4 (hP.next _ _) _ rfl))))))))
      ·have e:fH P b.fin.f b.fin.args=P:=by unfold fH; rw [if_neg (fun h=>h1 h.2)]
       refine aa.tv rfl (aa.ite (v:=false) (by simp [asBool]; omega) (fun h=>nomatch h) fun _=>?_)
       have:=nx w P hw hP _ rfl
       simp only [gI,List.cons_append,List.nil_append,List.foldl_cons,e]
       exact this
     ·have e:fH P b.fin.f b.fin.args=P:=by unfold fH; rw [if_neg (fun h=>h0 h.1)]
      refine aa.tv rfl (aa.ite (v:=false) (by simp [asBool]; omega) (fun h=>nomatch h) fun _=>?_)
      have:=nx w P hw hP _ rfl
      simp only [gI,List.cons_append,List.nil_append,List.foldl_cons,e]
      exact this
    ·rw [if_neg k4]
     refine aa.tv rfl (aa.ite (v:=false) (by simp [asBool,k4]) (fun h=>nomatch h) fun _=>?_)
     exact nx w P hw hP _ rfl
   have inner : ∀ (d k : Nat) (w : TV) (P : Nat → Int), k + d = b.ins.length → RFn w P → lw P → aa prog 28 (f28_1 bl (I f.blocks.length) (I j) i (I b.ins.length) (I k) (I f.params) (I f.regs) bl w (B b.landing) (I b.pad.dst) c (B b.pad.all) (B b.pad.cleanup) i (I b.fin.kind) (I b.fin.a) (I b.fin.dst) (I b.fin.f) ga (I b.fin.to) (I b.fin.els) (I b.fin.pad)) (B (tt (jj (fnL (gI P ((b.ins.drop k).flatMap vj ++ (tJ b.fin ++ (f.blocks.drop (j + 1)).flatMap dV)))) f))) := by
    intro d
    induction d with
    | zero =>
     intro k w P hk hw hP
     have hk:k=b.ins.length:=by omega
     subst hk
     rw [List.drop_length]
     unfold f28_1
     refine aa.tv rfl (aa.ite aZ (fun h=>nomatch h) fun _=>?_)
     exact f28_3_J (fin w P hw hP)
    | succ d ihk =>
     intro k w P hk hw hP
     have hkl:k < b.ins.length:=by omega
     have hx:b.ins[k]? = some b.ins[k]:=EK hkl
     have hdx:=List.drop_eq_getElem_cons hkl
     generalize b.ins[k]=x at hx hdx
     obtain ⟨ex,hex,hrx⟩:=hi.idx (k:=.i64) hx
     obtain ⟨gx,rfl,hgx,o1,o2,o3,o4,o5,o6⟩:=hrx
     have hgxb:=hgx.bnd
     rw [hdx]
     have nx:∀ (w:TV) (P:Nat→Int),RFn w P→lw P→∀ (p:List Nat),p=[0,0,1,0,1,0,0,1,1,0,0,1,0,1,1]→aa prog 28 (.tv (pbin (.int .i64) .add (I k) (I 1)) fun v=>.jmp p (f28_1_S bl (I f.blocks.length) (I j) i (I b.ins.length) v (I f.params) (I f.regs) bl w (B b.landing) (I b.pad.dst) c (B b.pad.all) (B b.pad.cleanup) i (I b.fin.kind) (I b.fin.a) (I b.fin.dst) (I b.fin.f) ga (I b.fin.to) (I b.fin.els) (I b.fin.pad))) (B (tt (jj (fnL (gI P ((b.ins.drop (k + 1)).flatMap vj ++ (tJ b.fin ++ (f.blocks.drop (j + 1)).flatMap dV)))) f))):=fun w P hw hP p hp=>by
      subst hp
      exact aa.tv (inc hkl hib) (f28_1_J (ihk (k + 1) w P (by omega) hw hP))
     unfold f28_1
     refine aa.tv rfl (aa.ite (aK hkl) (fun _=>?_) fun h=>nomatch h)
     refine aa.tvs hex (aa.chk rfl ?_)
     rw [List.flatMap_cons,List.append_assoc]
     unfold vj
     by_cases k11:x.op=11
     ·rw [if_pos k11]
      refine aa.tv rfl (aa.ite (v:=true) (by simp [asBool,nth,k11]) (fun _=>?_) fun h=>nomatch h)
      by_cases h0:0≤x.f
      ·refine aa.tv rfl (aa.ite (v:=true) (by simp [asBool,nth,h0]) (fun _=>?_) fun h=>nomatch h)
       refine aa.tv (lenF hw) ?_
       by_cases h1:x.f < 16
       ·obtain ⟨e,w',q1,q2,q3,q4⟩:=CL hw hP h0 h1 (l:=x.args)
        obtain ⟨s1,s2⟩:=size hw h0 h1
        refine aa.tv rfl (aa.ite (v:=true) (by simp [asBool,nth,h1]) (fun _=>?_) fun h=>nomatch h)
        exact aa.tv hgx.len (aa.tv pmin8 (aa.nat s1 (aa.nat (aH h0 o6) (aa.chk s2 (aa.tvs q1 (aa.chk q2 (aa.tv q3 (nx w' _ q4 (hP.next _ _) _ rfl))))))))
       ·have e:fH P x.f x.args=P:=by unfold fH; rw [if_neg (fun h=>h1 h.2)]
        refine aa.tv rfl (aa.ite (v:=false) (by simp [asBool,nth]; omega) (fun h=>nomatch h) fun _=>?_)
        have:=nx w P hw hP _ rfl
        simp only [gI,List.cons_append,List.nil_append,List.foldl_cons,e]
        exact this
      ·have e:fH P x.f x.args=P:=by unfold fH; rw [if_neg (fun h=>h0 h.1)]
       refine aa.tv rfl (aa.ite (v:=false) (by simp [asBool,nth]; omega) (fun h=>nomatch h) fun _=>?_)
       have:=nx w P hw hP _ rfl
       simp only [gI,List.cons_append,List.nil_append,List.foldl_cons,e]
       exact this
     ·rw [if_neg k11]
      refine aa.tv rfl (aa.ite (v:=false) (by simp [asBool,nth,k11]) (fun h=>nomatch h) fun _=>?_)
      exact nx w P hw hP _ rfl
   unfold f28_0
   refine aa.tv rfl (aa.ite (aK hjl) (fun _=>?_) fun h=>nomatch h)
   refine aa.tvs heb (aa.chk rfl (aa.tv hi.len (f28_1_J ?_)))
   have:=inner b.ins.length 0 w P (by omega) hw hP
   rw [List.drop_zero] at this
   rw [List.flatMap_cons,dV,List.append_assoc]
   exact this
 have h0:=outer f.blocks.length 0 (.sl true 3 (List.replicate 16 [I 0,I 0,.lit aI])) (fun _=>0) (by omega) (by
  refine .sl (by simp) ?_ (by simp)
  refine F2.ns (by simp [fnL,bS]) fun i e a h1 h2=>?_
  obtain ⟨hi,rfl⟩:=EJ.1 h1
  have hi2:i < 16:=by simpa using hi
  unfold fnL at h2
  rw [bT hi2] at h2
  cases h2
  rw [List.getElem_replicate]
  exact ⟨_,rfl,.nil,(show inI 0 from ⟨by decide,by decide⟩),(show inI 0 from ⟨by decide,by decide⟩)⟩) (fun _=>(show (0:Int)≤0∧(0:Int)≤8 by decide))
 rw [List.drop_zero] at h0
 refine ak.of (f28_MR _) ?_
 unfold f28_M
 exact aa.chk rfl (aa.nat rfl (aa.nat rfl (aa.chk rfl (aa.tv hbl.len (f28_0_J h0)))))
end Go.Ab.A10
end
section
set_option maxRecDepth 10000
namespace Go.Ab
structure OkF (R:Nat) (bs:List DBlock):Prop where
 len:bs.length≤64
 reg:R≤256
 blk:∀ (n:Nat) (b:DBlock),bs[n]? = some b→OkB R b∧OkG bs.length b.fin∧b.ins.length≤64∧(∀ y ∈ b.ins,y.args.length≤4294967296)∧b.fin.args.length≤4294967296
theorem lv_lt {R:Nat} {bs:List DBlock} (h:OkF R bs) {p:Int} {n k:Nat} (hl:Lv bs p n k):0≤p∧p < R:=by
 induction hl with
 | ask hb hx hp=>exact (h.blk _ _ hb).1.asks _ (ES hx) _ hp
 | on _ _ _ _ ih=>exact ih
 | askE hb hp=>exact (h.blk _ _ hb).1.ends _ hp
 | to _ _ _ ih=>exact ih
 | els _ _ _ ih=>exact ih
 | pad _ _ _ _ _ ih=>exact ih
theorem DK {R:Nat} {bs:List DBlock} (h:OkF R bs) {e:DEnd} {i:Nat} (hn:fG bs (LvN bs) e i):i < R:=by
 have:∀ {n:Nat},LvN bs n i→i < R:=fun hl=>by have:=(lv_lt h hl).2; omega
 rcases hn with ⟨_,h1⟩ | ⟨_,h1⟩ | ⟨_,_,_,_,h1⟩ <;> exact this h1
noncomputable def behT (bs:List DBlock) (n:Nat):Nat→Bool:=match bs[n]? with | some b=>lj bs (LvN bs) b.fin | none=>fun _=>false
theorem fk.end_ {R:Nat} {bs:List DBlock} {H:Nat→Nat→Bool} (hI:fk bs H) (hF:OkF R bs) (h:∀ n b,bs[n]? = some b→bY R (lj bs (atP bs H) b.fin)=bY R (H n)):∀ n b,bs[n]? = some b→∀ i,fG bs (atP bs H) b.fin i→H n i=true:=by
 intro n b hb i hn
 have hi:=DK hF (hn.mono fun n i ha=>hI.lv ha)
 have e:=congrArg (fun l=>l[i]?) (h n b hb)
 simp only [bT hi,EL] at e
 rw [← e]
 exact dg hn
theorem fk.rowA {bs:List DBlock} {H:Nat→Nat→Bool} (hI:fk bs H) (hf:∀ n b,bs[n]? = some b→∀ i,fG bs (atP bs H) b.fin i→H n i=true):(fun n=>some (atT bs H n))=fun n=>some fun i=>tt (LvN bs n i):=by
 funext n
 congr 1
 funext i
 exact dF ((hI.done hf n i).trans aP.symm)
theorem DS {bs:List DBlock} {H:Nat→Nat→Bool} {n:Nat} {b:DBlock} (hb:bs[n]? = some b) (g:Nat→Bool):je (fun m=>some (atT bs H m)) n (some (nX b g))=fun m=>some (atT bs (je H n g) m):=by
 funext m
 by_cases e:m=n
 ·subst e
  rw [b7]
  unfold atT
  rw [hb]
  simp only [b7]
 ·rw [cg e]
  unfold atT
  rw [cg e]
theorem C9 {H:Nat→Nat→Bool} {n:Nat} (g:Nat→Bool):je (fun m=>some (H m)) n (some g)=fun m=>some (je H n g m):=by
 funext m
 by_cases e:m=n
 ·subst e; rw [b7,b7]
 ·rw [cg e,cg e]
def mW (F:Nat→Nat→Bool) (k:Nat):Nat→Option (Nat→Bool):=fun n=>if n < k then some (F n) else none
theorem sg {F:Nat→Nat→Bool} {k:Nat}:je (mW F k) k (some (F k))=mW F (k + 1):=by
 funext n
 unfold mW
 by_cases e:n=k
 ·subst e; rw [b7,if_pos (by omega)]
 ·rw [cg e]
  by_cases h:n < k
  ·rw [if_pos h,if_pos (by omega)]
  ·rw [if_neg h,if_neg (by omega)]
theorem uF {F:Nat→Nat→Bool} {N R:Nat}:(bY N fun n=>(mW F N n).map (bY R))=bY N fun n=>(some (F n)).map (bY R):=kI fun n hn=>by unfold mW; rw [if_pos hn]
end Go.Ab
namespace Go.Ab.A10
open Go Go.Ab Go.Proofs
theorem has32I {k:Int} (h:has (iu k) 32=true):k=11:=by
 by_cases hk:1≤k∧k≤13
 ·have:k=1∨k=2∨k=3∨k=4∨k=5∨k=6∨k=7∨k=8∨k=9∨k=10∨k=11∨k=12∨k=13:=by omega
  rcases this with e | e | e | e | e | e | e | e | e | e | e | e | e
  all_goals first
   | exact e
   | (subst e; exact absurd h (by decide +kernel))
 ·have:iu k=0:=by
   unfold iu
   repeat rw [if_neg (by omega)]
  rw [this] at h
  exact absurd h (by decide)
theorem has32E {k:Int} (h:has (cK k) 32=true):k=4:=by
 by_cases hk:1≤k∧k≤6
 ·have:k=1∨k=2∨k=3∨k=4∨k=5∨k=6:=by omega
  rcases this with e | e | e | e | e | e
  all_goals first
   | exact e
   | (subst e; exact absurd h (by decide +kernel))
 ·have:cK k=0:=by
   unfold cK
   repeat rw [if_neg (by omega)]
  rw [this] at h
  exact absurd h (by decide)
def rF (f:DFunc):Prop:=jj (fnL (gI (fun _=>0) (f.blocks.flatMap dV))) f
theorem A1 {m:DMod} {u:DFunc} {i:Nat} (hM:bz m) (hu:m.funcs[i]? = some u):rF u:=by
 obtain ⟨h16,_,hall⟩:=hM
 have par:∀ (n:Nat) g,m.funcs[n]? = some g→g.params≤8∧n < 16:=fun n g hg=>by
  have hn:=(EJ.1 hg).1
  exact ⟨(hall n hn g hg).1.2.1,by omega⟩
 obtain ⟨hd,hl,hf,hb⟩:=hall i (EJ.1 hu).1 u hu
 obtain ⟨Q,hQ⟩:∃ Q:Nat→Int,∀ n g,m.funcs[n]? = some g→Q n=g.params:=⟨fun n=>match m.funcs[n]? with | some g=>g.params | none=>0,fun n g hg=>by simp only [hg]⟩
 have call:∀ (n:Int) (l:List Int),qn m.funcs u.regs n l→0≤n∧n < 16∧(l.length:Int)=Q n.toNat∧Q n.toNat≤8:=by
  rintro n l ⟨h0,g,hg,hlen,_⟩
  have:=par _ _ hg
  rw [hQ _ _ hg]
  exact ⟨h0,by omega,hlen,this.1⟩
 have fin:∀ (b:DBlock),(∃ n:Nat,u.blocks[n]? = some b)→∀ c ∈ dV b,qn m.funcs u.regs c.1 c.2:=by
  rintro b ⟨n,hn⟩ c hc
  obtain ⟨_,_,hi,_,_,_,hce,_⟩:=hb n (EJ.1 hn).1 b hn
  unfold dV at hc
  rcases List.mem_append.1 hc with hc | hc
  ·obtain ⟨x,hx,hcx⟩:=List.mem_flatMap.1 hc
   unfold vj at hcx
   split at hcx
   ·rename_i h11
    simp at hcx
    subst hcx
    obtain ⟨j,hj,rfl⟩:=List.mem_iff_getElem.1 hx
    exact (hi j hj _ (EK hj)).2.2.2.2.2.1 (by rw [h11]; decide +kernel)
   ·cases hcx
  ·unfold tJ at hc
   split at hc
   ·rename_i h4
    simp at hc
    subst hc
    exact hce.1 (by rw [h4]; decide +kernel)
   ·cases hc
 have all:=xj (Q:=Q) (u.blocks.flatMap dV) (fun _=>0) (fun c hc=>by
  obtain ⟨b,hbm,hcb⟩:=List.mem_flatMap.1 hc
  obtain ⟨n,hn,rfl⟩:=List.mem_iff_getElem.1 hbm
  exact call _ _ (fin _ ⟨n,EK hn⟩ c hcb))
 have conv:∀ (b:DBlock),(∃ n:Nat,u.blocks[n]? = some b)→∀ c ∈ dV b,qn (fnL (gI (fun _=>0) (u.blocks.flatMap dV))) u.regs c.1 c.2:=by
  rintro b ⟨n,hn⟩ c hc
  have ha:=fin b ⟨n,hn⟩ c hc
  have hq:=call _ _ ha
  have:=all c (List.mem_flatMap.2 ⟨b,ES hn,hc⟩)
  refine ⟨ha.1,⟨gI (fun _=>0) (u.blocks.flatMap dV) c.1.toNat,0,[]⟩,?_,this.symm,?_⟩
  ·unfold fnL
   rw [bT (by omega)]
  ·obtain ⟨_,g,_,_,h⟩:=ha
   exact h
 refine ⟨hd,hl,hf,fun n hn b hbn=>?_⟩
 obtain ⟨h1,h2,h3,h4,h5,h6,h7,h8⟩:=hb n hn b hbn
 refine ⟨h1,h2,fun j hj x hx=>?_,h4,h5,h6,⟨fun hu=>?_,h7.2⟩,h8⟩
 ·obtain ⟨g1,g2,g3,g4,g5,g6⟩:=h3 j hj x hx
  refine ⟨g1,g2,g3,g4,g5,fun hu=>?_,g6.2⟩
  have:=conv b ⟨n,hbn⟩ (x.f,x.args) (by
   unfold dV
   refine List.mem_append_left _ (List.mem_flatMap.2 ⟨x,ES hx,?_⟩)
   unfold vj
   rw [if_pos (has32I hu)]
   simp)
  exact this
 ·have:=conv b ⟨n,hbn⟩ (b.fin.f,b.fin.args) (by
   unfold dV tJ
   refine List.mem_append_right _ ?_
   rw [if_pos (has32E hu)]
   simp)
  exact this
theorem AN {f:DFunc} (h:rF f):OkF f.regs.toNat f.blocks∧0≤f.regs∧f.regs≤256:=by
 obtain ⟨⟨h0,h1,h2,h3⟩,hl,_,hb⟩:=h
 refine ⟨⟨hl,by omega,fun n b hn=>?_⟩,by omega,h3⟩
 have hB:=hb n (EJ.1 hn).1 b hn
 have P8:∀ g ∈ fnL (gI (fun _=>0) (f.blocks.flatMap dV)),g.params≤8:=by
  have ok:∀ (L:List (Int × List Int)) (P:Nat→Int),lw P→lw (gI P L):=fun L=>by
   induction L with
   | nil=>exact fun P h=>h
   | cons c L ih=>exact fun P h=>ih _ (h.next _ _)
  intro g hg
  unfold fnL bY at hg
  obtain ⟨n,_,rfl⟩:=List.mem_map.1 hg
  exact (ok _ _ (fun _=>by decide) n).2
 obtain ⟨a1,a2⟩:=yR P8 hB
 exact ⟨AH (by omega) hB,AZ hB,hB.1,fun y hy=>by have:=a1 y hy; omega,by omega⟩
section
variable {q:Option Bool} {bl:TV} {params:Int} {R:Nat} {bs:List DBlock} (hbl:RL q 14 (RBlock q) bl bs) (hF:OkF R bs)
include hbl hF
theorem A9 {K:TV→Prop} {c:Nat} (hK:∀ w9 w10 H,fk bs H→(∀ n b,bs[n]? = some b→∀ i,fG bs (atP bs H) b.fin i→H n i=true)→RTab (some true) w9 bs.length R (fun n=>some (atT bs H n))→RTab (some true) w10 bs.length R (fun n=>some (H n))→K w9)
  (again:∀ w9 w10 H,fk bs H→cnt2 R H bs.length < c→RTab (some true) w9 bs.length R (fun n=>some (atT bs H n))→RTab (some true) w10 bs.length R (fun n=>some (H n))→∃ r,aa prog 8 (f8_2 (I params) (I (R:Int)) bl w9 w10) r∧K r) :
  ∀ (k:Nat) (g:Bool) (w9 w10:TV) (H:Nat→Nat→Bool),k≤bs.length→fk bs H→cnt2 R H bs.length≤c→(g=true→cnt2 R H bs.length < c)→(g=false→∀ n b,k≤n→bs[n]? = some b→bY R (lj bs (atP bs H) b.fin)=bY R (H n)) →
   RTab (some true) w9 bs.length R (fun n=>some (atT bs H n))→RTab (some true) w10 bs.length R (fun n=>some (H n))→∃ r,aa prog 8 (f8_3 (I ((k:Int) - 1)) bl (I params) (I (R:Int)) bl (I params) (I (R:Int)) bl (B g) w9 w10) r∧K r:=by
 intro k
 induction k with
 | zero =>
  intro g w9 w10 H hk hI hc hg hn h9 h10
  have lo:asBool (.lit (.bool (decide (((0:Nat):Int) - 1 ≥ 0))))=some false:=by simp [asBool]
  cases g with
  | true =>
   obtain ⟨r,hr,hK'⟩:=again w9 w10 H hI (hg rfl) h9 h10
   refine ⟨r,?_,hK'⟩
   unfold f8_3
   exact aa.tv rfl (aa.ite lo (fun h=>nomatch h) fun _=>aa.ite rfl (fun _=>f8_2_J hr) fun h=>nomatch h)
  | false =>
   have hf:=hI.end_ hF fun n b hb=>hn rfl n b (Nat.zero_le _) hb
   refine ⟨w9,?_,hK w9 w10 H hI hf h9 h10⟩
   unfold f8_3
   exact aa.tv rfl (aa.ite lo (fun h=>nomatch h) fun _=>aa.ite rfl (fun h=>nomatch h) fun _=>aa.chk (RL.own h9 fun _ _ h=>h.own) aa.ret)
 | succ k ih =>
  intro g w9 w10 H hk hI hc hg hn h9 h10
  have hkl:k < bs.length:=by omega
  have hb:bs[k]? = some bs[k]:=EK hkl
  generalize bs[k]=b at hb
  have e1:((k + 1:Nat):Int) - 1=(k:Int):=by omega
  rw [e1]
  obtain ⟨o1,o2,o3,o4,o5⟩:=hF.blk k b hb
  obtain ⟨eb,heb,hrb⟩:=hbl.idx (k:=.i64) hb
  obtain ⟨v,hv,hrv⟩:=yJ (params:=params) (be:=Ab.frz w10) hbl h9.frz hrb hF.reg o2
  have hvf:RBools (some false) (Ab.frz v) (bY R (lj bs (atP bs H) b.fin)):=hrv.frz fun _ _ h=>h.frz
  obtain ⟨v2,hv2,hrv2⟩:=Bq (g:=lj bs (atP bs H) b.fin) hrb hvf hF.reg o1 o3 o4 o5
  obtain ⟨s9,c9⟩:=h9.size hkl
  obtain ⟨s10,c10⟩:=h10.size hkl
  have hkn:aj (I (k:Int))=some k:=aS (by have:=hF.len; omega)
  obtain ⟨r0,hr0,hrr0⟩:=h10.row hkl rfl
  have fr0:ab zSl [r0] 0=true:=by simp [ab,zSl,aC,hrr0.isSl]
  have fv:ab zSl [v] 0=true:=by simp [ab,zSl,aC,RL.isSl hrv]
  have fv2:ab zSl [v2] 0=true:=by simp [ab,zSl,aC,RL.isSl hrv2]
  have heq:=rEqB hvf (hrr0.frz fun _ _ h=>h.frz)
  have ge:asBool (.lit (.bool (decide ((k:Int) ≥ 0))))=some true:=by simp [asBool]
  have dn:pbin (.int .i64) .sub (I (k:Int)) (I 1)=some (I ((k:Int) - 1)):=psub ⟨by omega,by have:=hF.len; omega⟩
  obtain ⟨ceb,ieb,geb,rfl,_⟩:=hrb
  by_cases same:bY R (lj bs (atP bs H) b.fin)=bY R (H k)
  ·obtain ⟨r,hr,hK'⟩:=ih g w9 w10 H (by omega) hI hc hg (fun h n b' hn' hb'=>by
    by_cases e:n=k
    ·subst e
     rw [hb] at hb'
     cases hb'
     exact same
    ·exact hn h n b' (by omega) hb') h9 h10
   refine ⟨r,?_,hK'⟩
   rw [dg same] at heq
   unfold f8_3
   refine aa.tv rfl (aa.ite ge (fun _=>?_) fun h=>nomatch h)
   refine aa.tvs heb (aa.chk rfl (aa.call hv (aa.chk fv (aa.nat s10 (aa.nat hkn (aa.chk c10 (aa.tvs hr0 (aa.chk fr0 (aa.tv (gU hr0 rfl) (aa.call heq (aa.chk rfl (aa.tv rfl (aa.ite rfl (fun h=>nomatch h) fun _=>aa.tv dn (f8_3_J hr))))))))))))))
  ·obtain ⟨hI',hle⟩:=hI.grow hb
   have hlt:cnt2 R (je H k (lj bs (atP bs H) b.fin)) bs.length < cnt2 R H bs.length:=zU (BI (fun i hi=>by have:=hle k i hi; rw [b7] at this; exact this) same) hkl
   obtain ⟨e9,w9',p9,f9,q9,t9⟩:=h9.set hkl hrv2
   obtain ⟨e10,w10',p10,f10,q10,t10⟩:=h10.set hkl hrv
   rw [DS hb] at t9
   have t10:=C9 (H:=H) (n:=k) (lj bs (atP bs H) b.fin) ▸ t10
   obtain ⟨r,hr,hK'⟩:=ih true w9' w10' _ (by omega) hI' (by omega) (fun _=>by omega) (fun h=>nomatch h) t9 t10
   refine ⟨r,?_,hK'⟩
   rw [dG same] at heq
   unfold f8_3
   refine aa.tv rfl (aa.ite ge (fun _=>?_) fun h=>nomatch h)
   refine aa.tvs heb (aa.chk rfl (aa.call hv (aa.chk fv (aa.nat s10 (aa.nat hkn (aa.chk c10 (aa.tvs hr0 (aa.chk fr0 (aa.tv (gU hr0 rfl) (aa.call heq (aa.chk rfl (aa.tv rfl (aa.ite rfl (fun _=>?_) fun h=>nomatch h)))))))))))))
   exact aa.tvs heb (aa.chk rfl (aa.call hv2 (aa.chk fv2 (aa.nat s9 (aa.nat hkn (aa.chk c9 (aa.tvs p9 (aa.chk (by rw [f9,fv2]; rfl) (aa.tv q9 (aa.nat s10 (aa.nat hkn (aa.chk c10 (aa.tvs p10 (aa.chk (by rw [f10,fv]; rfl) (aa.tv q10 (aa.tv dn (f8_3_J hr)))))))))))))))))
theorem BP {K:TV→Prop} (hK:∀ w9 w10 H,fk bs H→(∀ n b,bs[n]? = some b→∀ i,fG bs (atP bs H) b.fin i→H n i=true)→RTab (some true) w9 bs.length R (fun n=>some (atT bs H n))→RTab (some true) w10 bs.length R (fun n=>some (H n))→K w9) :
  ∀ (c:Nat) (w9 w10:TV) (H:Nat→Nat→Bool),fk bs H→cnt2 R H bs.length≤c→RTab (some true) w9 bs.length R (fun n=>some (atT bs H n))→RTab (some true) w10 bs.length R (fun n=>some (H n))→∃ r,aa prog 8 (f8_2 (I params) (I (R:Int)) bl w9 w10) r∧K r:=by
 intro c
 induction c using Nat.strongRecOn with
 | _ c ih =>
  intro w9 w10 H hI hc h9 h10
  obtain ⟨r,hr,hK'⟩:=A9 hbl hF (c:=cnt2 R H bs.length) (params:=params) hK (fun w9 w10 H' hI' hc' h9' h10'=>ih (cnt2 R H' bs.length) (by omega) w9 w10 H' hI' (Nat.le_refl _) h9' h10') bs.length false w9 w10 H (Nat.le_refl _) hI (Nat.le_refl _) (fun h=>nomatch h) (fun _ n b hn hb=>by have:=(EJ.1 hb).1; omega) h9 h10
  refine ⟨r,?_,hK'⟩
  unfold f8_2
  exact aa.tv hbl.len (aa.tv (psub ⟨by omega,by have:=hF.len; omega⟩) (f8_3_J hr))
theorem CO {K:TV→Prop} (hK:∀ w9 w10 H,fk bs H→(∀ n b,bs[n]? = some b→∀ i,fG bs (atP bs H) b.fin i→H n i=true)→RTab (some true) w9 bs.length R (fun n=>some (atT bs H n))→RTab (some true) w10 bs.length R (fun n=>some (H n))→K w9) :
  ∀ (d j:Nat) (w8 w9:TV),j + d=bs.length→RTab (some true) w8 bs.length R (mW (atT bs fun _ _=>false) j)→RTab (some true) w9 bs.length R (mW (fun _ _=>false) j)→∃ r,aa prog 8 (f8_0 (I bs.length) (I j) (I params) (I (R:Int)) bl (I params) (I (R:Int)) bl w8 w9) r∧K r:=by
 intro d
 induction d with
 | zero =>
  intro j w8 w9 hj h8 h9
  have hj:j=bs.length:=by omega
  subst hj
  have h8':RTab (some true) w8 bs.length R fun n=>some (atT bs (fun _ _=>false) n):=by
   have:=h8
   unfold RTab at this ⊢
   rw [uF] at this
   exact this
  have h9':RTab (some true) w9 bs.length R fun n=>some ((fun _ _=>false:Nat→Nat→Bool) n):=by
   have:=h9
   unfold RTab at this ⊢
   rw [uF] at this
   exact this
  obtain ⟨r,hr,hK'⟩:=BP hbl hF (params:=params) hK _ w8 w9 (fun _ _=>false) (fk.start bs) (Nat.le_refl _) h8' h9'
  refine ⟨r,?_,hK'⟩
  unfold f8_0
  refine aa.tv rfl (aa.ite aZ (fun h=>nomatch h) fun _=>?_)
  refine f8_1_J ?_
  unfold f8_1
  exact f8_2_J hr
 | succ d ih =>
  intro j w8 w9 hj h8 h9
  have hjl:j < bs.length:=by omega
  have hb:bs[j]? = some bs[j]:=EK hjl
  generalize bs[j]=b at hb
  obtain ⟨o1,o2,o3,o4,o5⟩:=hF.blk j b hb
  obtain ⟨eb,heb,hrb⟩:=hbl.idx (k:=.i64) hb
  have hz:=CM R hF.reg
  obtain ⟨v,hv,hrv⟩:=Bq (g:=fun _=>false) hrb (hz.frz (S:=RB1) fun _ _ h=>h.frz) hF.reg o1 o3 o4 o5
  obtain ⟨ceb,ieb,geb,rfl,_⟩:=hrb
  obtain ⟨s8,c8⟩:=h8.size hjl
  obtain ⟨s9,c9⟩:=h9.size hjl
  have hjn:aj (I (j:Int))=some j:=aS (by have:=hF.len; omega)
  have hRn:aj (I (R:Int))=some R:=aS (by have:=hF.reg; omega)
  have hle:(Bool.and (Nat.ble R R) (Nat.ble R 4294967296))=true:=by have:=hF.reg; simp; omega
  have fv:ab zSl [v] 0=true:=by simp [ab,zSl,aC,RL.isSl hrv]
  obtain ⟨e8,w8',p8,f8,q8,t8⟩:=h8.set hjl hrv
  obtain ⟨e9,w9',p9,f9,q9,t9⟩:=h9.set hjl hz
  have hat:nX b (fun _=>false)=atT bs (fun _ _=>false) j:=by unfold atT; rw [hb]
  rw [hat,sg] at t8
  have t9:=sg (F:=fun _ _=>false) (k:=j) ▸ t9
  obtain ⟨r,hr,hK'⟩:=ih (j + 1) w8' w9' (by omega) t8 t9
  refine ⟨r,?_,hK'⟩
  unfold f8_0
  refine aa.tv rfl (aa.ite (aK hjl) (fun _=>?_) fun h=>nomatch h)
  exact aa.nat hRn (aa.nat hRn (aa.chk hle (aa.tvs heb (aa.chk rfl (aa.call hv (aa.chk fv (aa.nat s8 (aa.nat hjn (aa.chk c8 (aa.tvs p8 (aa.chk (by rw [f8,fv]; rfl) (aa.tv q8
   (aa.nat s9 (aa.nat hjn (aa.chk c9 (aa.tvs p9 (aa.chk (by rw [f9]; rfl) (aa.tv q9 (aa.tv (inc hjl hbl.bnd) (f8_0_J hr))))))))))))))))))))
end
theorem rAt {q:Option Bool} {e:List TV} {f:DFunc} (he:RFunc q e f):∃ y,ak prog 8 [.agg e] y∧((¬ rF f∧y=.lit aI)∨(rF f∧RTab (some true) y f.blocks.length f.regs.toNat fun n=>some fun i=>tt (LvN f.blocks n i))):=by
 have hc:=rCould he
 obtain ⟨bl,rfl,hbl,hp,hr⟩:=he
 by_cases hC:rF f
 ·obtain ⟨hF,hr0,hr1⟩:=AN hC
  have hreg:I f.regs=I (f.regs.toNat:Int):=by rw [Int.toNat_of_nonneg hr0]
  obtain ⟨r,hr,hK⟩:=CO hbl hF (params:=f.params) (K:=fun r=>RTab (some true) r f.blocks.length f.regs.toNat fun n=>some fun i=>tt (LvN f.blocks n i)) (fun w9 w10 H hI hf h9 h10=>by
   rw [← hI.rowA hf]; exact h9) f.blocks.length 0 _ _ (by omega) (Ez _ hF.len) (Ez _ hF.len)
  refine ⟨r,?_,.inr ⟨hC,hK⟩⟩
  have hn:aj (I (f.blocks.length:Int))=some f.blocks.length:=aS (by have:=hF.len; omega)
  have hle:(Bool.and (Nat.ble f.blocks.length f.blocks.length) (Nat.ble f.blocks.length 4294967296))=true:=by have:=hF.len; simp; omega
  have hc':ak prog 28 [.agg [I f.params,I f.regs,bl]] (B true):=by
   have:=hc
   rw [dg (show jj _ f from hC)] at this
   exact this
  rw [hreg] at hc' ⊢
  refine ak.of (f8_MR _) ?_
  unfold f8_M
  exact aa.chk rfl (aa.call hc' (aa.chk rfl (aa.tv rfl (aa.ite (v:=false) rfl (fun h=>nomatch h) fun _=>aa.tv hbl.len (aa.nat hn (aa.nat hn (aa.chk hle (aa.tv hbl.len (aa.nat hn (aa.nat hn (aa.chk hle (aa.tv hbl.len (f8_0_J hr)))))))))))))
 ·refine ⟨_,?_,.inl ⟨hC,rfl⟩⟩
  have hc':ak prog 28 [.agg [I f.params,I f.regs,bl]] (B false):=by
   have:=hc
   rw [dG (show ¬ jj _ f from hC)] at this
   exact this
  refine ak.of (f8_MR _) ?_
  unfold f8_M
  exact aa.chk rfl (aa.call hc' (aa.chk rfl (aa.tv rfl (aa.ite (v:=true) rfl (fun _=>aa.chk rfl aa.ret) fun h=>nomatch h))))
section
variable {q:Option Bool} {bl:TV} {params:Int} {R:Nat} {bs:List DBlock} (hbl:RL q 14 (RBlock q) bl bs) (hF:OkF R bs)
include hbl hF
end
end Go.Ab.A10
end
section
set_option maxRecDepth 100000
namespace Go.Ab.A10
open Go Go.Ab Go.Proofs
theorem Bz:ak prog 5 [] (B true):=⟨40,by kernel_rfl⟩
theorem RTab.rd {q:Option Bool} {w:TV} {N R:Nat} {F:Nat→Option (Nat→Bool)} (h:RTab q w N R F) {n:Nat} (hn:n < N) {g:Nat→Bool} (hg:F n=some g) {p:Nat} (hp:p < R) :
  ∃ r,Go.Ab.slLen w=some N∧(Bool.and (Go.Ab.slSize w 1) (Nat.blt n N))=true∧Go.Ab.pel w n=some [r]∧ab zSl [r] 0=true∧aF [(n,0)] w=some r∧Go.Ab.slLen r=some R∧(Bool.and (Go.Ab.slSize r 1) (Nat.blt p R))=true∧Go.Ab.pel r p=some [B (g p)]:=by
 obtain ⟨s1,s2⟩:=h.size hn
 obtain ⟨r,hr,hrr⟩:=h.row hn hg
 obtain ⟨e,he,hre⟩:=RL.pel hrr (bT hp)
 cases hre
 refine ⟨r,s1,s2,hr,by simp [ab,zSl,aC,RL.isSl hrr],gU hr rfl,by rw [RL.slLen hrr,bS],?_,he⟩
 rw [RL.slSize hrr]
 simpa using hp
section
variable {q:Option Bool} {bl wa wb:TV} {params:Int} {R:Nat} {bs:List DBlock} (hbl:RL q 14 (RBlock q) bl bs) (hF:OkF R bs)
 (ha:RTab (some true) wa bs.length R fun n=>some fun i=>tt (LvN bs n i)) (hb:RTab (some true) wb bs.length R fun n=>some (behT bs n))
include hbl hF ha hb
section
variable {n p:Nat} {b:DBlock} (hbn:bs[n]? = some b) (hp:p < R) {c i ga:TV}
include hbn hp
end
end
end Go.Ab.A10
end
section
set_option maxRecDepth 100000
namespace Go.Ab
theorem uO {α:Type} {l:List α} {k:Nat} {a:α} (h:l[k]? = some a):l.set k a=l:=by
 apply List.ext_getElem?
 intro i
 rw [List.getElem?_set]
 split
 ·rename_i e
  subst e
  split
  ·exact h.symm
  ·rename_i hn
   rw [EV (by omega)] at h
   cases h
 ·rfl
def xQ (bs:List DBlock) (f:DFrame) (r:List Int):Prop:=r.length=f.regs.length∧∀ i:Nat,LvN bs f.block.toNat i→r[i]? = f.regs[i]?
theorem xQ.put {bs:List DBlock} {f:DFrame} {r:List Int} (h:xQ bs f r) {p:Nat} {w:Int} (hp:¬ LvN bs f.block.toNat p):xQ bs f (r.set p w):=by
 refine ⟨by simpa using h.1,fun i hi=>?_⟩
 have:p≠i:=fun e=>hp (e ▸ hi)
 rw [List.getElem?_set_ne this]
 exact h.2 i hi
end Go.Ab
namespace Go.Ab.A10
open Go Go.Ab Go.Proofs
theorem Ak {m:DMod} {s:DMach} {f:DFrame} {u:DFunc} {r:List Int} (hQ:bP m s) (hd:s.done=0) (hk:s.stack[s.stack.length - 1]? = some f) (hu:m.funcs[f.f.toNat]? = some u) (hat:f.at_=0) (hr:xQ u.blocks f r) :
  eV m s { s with stack:=s.stack.set (s.stack.length - 1) { f with regs:=r } }∧bP m { s with stack:=s.stack.set (s.stack.length - 1) { f with regs:=r } }:=by
 have hlt:=(EJ.1 hk).1
 have hF:∀ (j:Nat) g,(s.stack.set (s.stack.length - 1) { f with regs:=r })[j]? = some g→∃ g0,s.stack[j]? = some g0∧g.f=g0.f∧g.block=g0.block∧g.at_=g0.at_∧g.regs.length=g0.regs.length:=fun j g hg=>by
  by_cases e:s.stack.length - 1=j
  ·subst e
   rw [List.getElem?_set_self hlt] at hg
   cases hg
   exact ⟨f,hk,rfl,rfl,rfl,hr.1⟩
  ·rw [List.getElem?_set_ne e] at hg
   exact ⟨g,hg,rfl,rfl,rfl,rfl⟩
 refine ⟨⟨⟨rfl,rfl,rfl,rfl,rfl⟩,by simp,fun _=>?_⟩,?_⟩
 ·have self:F2 (yL m) (s.stack.take (s.stack.length - 1)) (s.stack.take (s.stack.length - 1)):=by
   refine F2.ns rfl fun i a b h1 h2=>?_
   rw [h1] at h2
   cases h2
   rw [List.getElem?_take] at h1
   split at h1
   ·obtain ⟨_,u',hu',_⟩:=hQ.2.2.2.1 i a h1
    exact ⟨u',hu',rfl,rfl,rfl,rfl,rfl,fun _ _ _=>rfl⟩
   ·cases h1
  refine ⟨s.stack.take (s.stack.length - 1),s.stack.take (s.stack.length - 1),f,{ f with regs:=r },?_,ix (by omega),self,u,hu,rfl,rfl,rfl,rfl,hr.1.symm,fun p h0 hp=>?_⟩
  ·have:=ix (l:=s.stack) (a:=f) (by omega)
   rw [uO hk] at this
   exact this
  ·rw [hat] at hp
   have hi:=hr.2 p.toNat (by
    unfold LvN
    rw [Int.toNat_of_nonneg h0]
    exact hp)
   simp only [reg,List.getD]
   rw [hi]
 ·obtain ⟨q1,q2,q3,q4,q5⟩:=hQ
  refine ⟨q1,by simpa using q2,by simpa using q3,fun j g hg=>?_,fun j g g' hg hg'=>?_⟩
  ·obtain ⟨g0,h0,e1,e2,e3,e4⟩:=hF j g hg
   obtain ⟨a0,u',a1,a2,a3,b,a4,a5⟩:=q4 j g0 h0
   unfold bK
   rw [e1,e2,e3,e4]
   exact ⟨a0,u',a1,a2,a3,b,a4,a5⟩
  ·obtain ⟨g0,h0,e1,e2,e3,e4⟩:=hF j g hg
   obtain ⟨g1,h1,f1,f2,f3,f4⟩:=hF (j + 1) g' hg'
   have:=q5 j g0 g1 h0 h1
   unfold oA at this ⊢
   rw [e1,e2,e3,f1]
   exact this
section
variable {m:DMod} {y:TV} (hm:RMod (some false) [y] m) (hM:bz m)
include hm hM
theorem AM {more:Int} {M:Nat} (hrem:pbin (.int .u8) .rem (.lit (.int .u8 more)) (.lit (.int .u8 60))=some (.lit (.int .u8 (M:Int)))) (hcv:pconv (.int .i64) (.lit (.int .u8 (M:Int)))=some (I (M:Int))) (hM60:M≤255) :
  ∀ (d i:Nat) (s t:DMach) (g iv v gt it vt:TV),i + d=M→eV m s t→bP m s→bP m t→RStack g s.stack→RWords (some true) iv s.inputs→RInts (some true) v s.events→s.ok→RStack gt t.stack→RWords (some true) it t.inputs→RInts (some true) vt t.events→t.ok→s.inputs.length≤30→s.events.length≤255 + i →
   aa prog 3 (f3_2 (.lit (.int .u8 more)) (I i) y (W (s.c 0)) (W (s.c 1)) (W (s.c 2)) (W (s.c 3)) (W (s.c 4)) (W (s.c 5)) (W (s.c 6)) (W (s.c 7)) (W (s.c 8)) (W (s.c 9)) (W (s.c 10)) (W (s.c 11)) (W (s.c 12)) (W (s.c 13)) (W (s.c 14)) (W (s.c 15)) (I s.done) (W s.value) (W (t.c 0)) (W (t.c 1)) (W (t.c 2)) (W (t.c 3)) (W (t.c 4)) (W (t.c 5)) (W (t.c 6)) (W (t.c 7)) (W (t.c 8)) (W (t.c 9)) (W (t.c 10)) (W (t.c 11)) (W (t.c 12)) (W (t.c 13)) (W (t.c 14)) (W (t.c 15)) (I t.done) (W t.value) g TV.hole TV.hole TV.hole TV.hole TV.hole TV.hole TV.hole TV.hole TV.hole TV.hole TV.hole TV.hole TV.hole TV.hole TV.hole TV.hole iv v TV.hole TV.hole TV.hole gt it vt) (B true):=by
 intro d
 induction d with
 | zero =>
  intro i s t g iv v gt it vt hi
  have hi:i=M:=by omega
  subst hi
  intros
  unfold f3_2
  exact aa.tv hrem (aa.tv hcv (aa.tv rfl (aa.ite aZ (fun h=>nomatch h) fun _=>aa.ret)))
 | succ d ih =>
  intro i s t g iv v gt it vt hi hS hQ hQt hg hiv hv ho hgt hit hvt hot hin hev
  have hil:i < M:=by omega
  have hT:=hS.1
  have hsz:=RMach.frz' (hg.weak fun _ _ h=>h.weak) (hiv.weak fun _ _ h=>h) (hv.weak fun _ _ h=>h) ho
  have htz:=RMach.frz' (hgt.weak fun _ _ h=>h.weak) (hit.weak fun _ _ h=>h) (hvt.weak fun _ _ h=>h) hot
  have hW:rD s:=eJ.words (e:=ar s g iv v) ⟨g,iv,v,rfl,hg,hiv,hv,ho⟩
  obtain ⟨e1,hr1,h1⟩:=pS hm hM hsz hQ (by omega) (by omega)
  obtain ⟨e2,hr2,h2⟩:=pS hm hM htz hQt (by rw [← hT.2.1]; omega) (by rw [← hT.2.2.1]; omega)
  have hS':=Cr hM hQ hS
  have hQ':=kL hM hQ
  have hQt':=kL hM hQt
  have htell:=uP (m:=m) hW
  have hf1:=h1.fit
  have hf2:=h2.fit
  generalize b9 m s=s2 at h1 hS' hQ' htell
  generalize b9 m t=t2 at h2 hS' hQt'
  obtain ⟨g2,i2,v2,rfl,hg2,hi2,hv2,ho2⟩:=h1
  obtain ⟨gt2,it2,vt2,rfl,hgt2,hit2,hvt2,hot2⟩:=h2
  have hsz2:=RMach.frz' (hg2.weak fun _ _ h=>h.weak) (hi2.weak fun _ _ h=>h) (hv2.weak fun _ _ h=>h) ho2
  have htz2:=RMach.frz' (hgt2.weak fun _ _ h=>h.weak) (hit2.weak fun _ _ h=>h) (hvt2.weak fun _ _ h=>h) hot2
  have htold:=rTold hsz2 htz2
  rw [dg ⟨hS'.1.2.2.1,hS'.1.2.2.2.1,hS'.1.2.2.2.2⟩] at htold
  have hp16:=peq16 (a:=s2) (b:=t2) ho2.1 hot2.1
  rw [hS'.1.1,show (t2.cells == t2.cells)=true by simp] at hp16
  have hstk:=hS'.2.1
  have hev2:s2.events.length≤s.events.length + 1∧s2.inputs.length≤s.inputs.length:=by
   rcases htell with ⟨h1,h2⟩ | ⟨a,_,h1,h2⟩ | ⟨a,l',h0,h1,h2⟩
   ·rw [h1,h2]; omega
   ·rw [h1,h2]; simp
   ·rw [h1,h2,h0]; simp
  have hnx:=ih (i + 1) s2 t2 g2 i2 v2 gt2 it2 vt2 (by omega) hS' hQ' hQt' hg2 hi2 hv2 ho2 hgt2 hit2 hvt2 hot2 (by omega) (by omega)
  unfold f3_2
  refine aa.tv hrem (aa.tv hcv (aa.tv rfl (aa.ite (aK hil) (fun _=>?_) fun h=>nomatch h)))
  refine aa.call hr1 (aa.chk rfl (aa.chk hf1 (aa.chk rfl (aa.call hr2 (aa.chk rfl (aa.chk hf2 (aa.chk rfl (aa.tv rfl (aa.ite rfl (fun h=>nomatch h) fun _=>aa.tv rfl (aa.ite rfl (fun h=>nomatch h) fun _=>?_))))))))))
  refine aa.call htold (aa.chk rfl (aa.tv rfl (aa.ite rfl (fun h=>nomatch h) fun _=>aa.tv hg2.len (aa.tv hgt2.len (aa.tv rfl (aa.ite (v:=false) ?_ (fun h=>nomatch h) fun _=>?_))))))
  ·show asBool (.lit (.bool (!((s2.stack.length:Int) == (t2.stack.length:Int)))))=some false
   simp [asBool,hstk]
  ·exact aa.tv hp16 (aa.ite rfl (fun h=>nomatch h) fun _=>aa.tv (inc hil (by omega)) (f3_2_J hnx))
theorem BX {more:Int} {M:Nat} (hrem:pbin (.int .u8) .rem (.lit (.int .u8 more)) (.lit (.int .u8 60))=some (.lit (.int .u8 (M:Int)))) (hcv:pconv (.int .i64) (.lit (.int .u8 (M:Int)))=some (I (M:Int))) (hM60:M≤255)
  {s:DMach} {f:DFrame} {u:DFunc} (hQ:bP m s) (hd:s.done=0) (hk:s.stack[s.stack.length - 1]? = some f) (hu:m.funcs[f.f.toNat]? = some u) (hat:f.at_=0)
  {q:Option Bool} {x wa g iv v it vt:TV} {ws:List Int} (hx:RWords q x ws) (hx0:0 < ws.length) (ha:RTab (some true) wa u.blocks.length u.regs.toNat fun n=>some fun i=>tt (LvN u.blocks n i))
  (hg:RStack g s.stack) (hiv:RWords (some true) iv s.inputs) (hv:RInts (some true) v s.events) (ho:s.ok) (hit:RWords (some true) it s.inputs) (hvt:RInts (some true) vt s.events) (hin:s.inputs.length≤30) (hev:s.events.length≤255) :
  ∀ (d p:Nat) (r:List Int) (gt:TV),p + d=f.regs.length→xQ u.blocks f r→RStack gt (s.stack.set (s.stack.length - 1) { f with regs:=r }) →
   aa prog 3 (f3_0 (.lit (.int .u8 more)) x (I ((s.stack.length - 1:Nat):Int)) (I p) y (W (s.c 0)) (W (s.c 1)) (W (s.c 2)) (W (s.c 3)) (W (s.c 4)) (W (s.c 5)) (W (s.c 6)) (W (s.c 7)) (W (s.c 8)) (W (s.c 9)) (W (s.c 10)) (W (s.c 11)) (W (s.c 12)) (W (s.c 13)) (W (s.c 14)) (W (s.c 15)) (I s.done) (W s.value) (I f.f) (I f.block) (I f.at_) (s.stack.length - 1) (W f.fly) wa (W (s.c 0)) (W (s.c 1)) (W (s.c 2)) (W (s.c 3)) (W (s.c 4)) (W (s.c 5)) (W (s.c 6)) (W (s.c 7)) (W (s.c 8)) (W (s.c 9)) (W (s.c 10)) (W (s.c 11)) (W (s.c 12)) (W (s.c 13)) (W (s.c 14)) (W (s.c 15)) (I s.done) (W s.value) g TV.hole TV.hole TV.hole TV.hole TV.hole TV.hole TV.hole TV.hole TV.hole TV.hole TV.hole TV.hole TV.hole TV.hole TV.hole TV.hole iv v TV.hole TV.hole TV.hole gt TV.hole TV.hole TV.hole TV.hole TV.hole TV.hole TV.hole TV.hole TV.hole TV.hole TV.hole TV.hole TV.hole TV.hole TV.hole TV.hole it vt TV.hole TV.hole) (B true):=by
 obtain ⟨gr,hrow,hgr3,hgr,hfo⟩:=hg.row hk
 have hgl:=hgr.len (t:=29)
 have hbnd:=hgr.bnd
 have hkl:=(EJ.1 hk).1
 obtain ⟨hf0,u',hu',hL,hb0,b,hb,_⟩:=hQ.2.2.2.1 _ f hk
 rw [hu] at hu'
 cases hu'
 have hbl:=(EJ.1 hb).1
 have h32:=hQ.2.1
 intro d
 induction d with
 | zero =>
  intro p r gt hp hK hgt
  have hp:p=f.regs.length:=by omega
  subst hp
  obtain ⟨hS,hQt⟩:=Ak hQ hd hk hu hat hK
  have:=AM hm hM hrem hcv hM60 M 0 s _ g iv v gt it vt (by omega) hS hQ hQt hg hiv hv ho hgt hit hvt ho hin (by omega)
  unfold f3_0
  refine aa.tv hgr3 (aa.tv hgl (aa.tv rfl (aa.ite aZ (fun h=>nomatch h) fun _=>f3_1_J ?_)))
  unfold f3_1
  exact f3_2_J this
 | succ d ih =>
  intro p r gt hp hK hgt
  have hpl:p < f.regs.length:=by omega
  obtain ⟨w,q1,q2,q3,q4,q5,q6,q7,q8⟩:=RTab.rd ha hbl rfl (p:=p) (by omega)
  have ap:aj (I (p:Int))=some p:=aS (by omega)
  unfold f3_0
  refine aa.tv hgr3 (aa.tv hgl (aa.tv rfl (aa.ite (aK hpl) (fun _=>?_) fun h=>nomatch h)))
  refine aa.nat q1 (aa.nat (aH hb0 hfo.2.1) (aa.chk q2 (aa.tvs q3 (aa.chk q4 (aa.tv q5 (aa.nat q6 (aa.nat ap (aa.chk q7 (aa.tv q5 (aa.tvs q8 (aa.chk rfl (aa.tv rfl ?_))))))))))))
  by_cases hl:LvN u.blocks f.block.toNat p
  ·refine aa.ite (v:=false) (by show some (!tt _)=some false; rw [dg hl]; rfl) (fun h=>nomatch h) fun _=>?_
   exact aa.tv (inc hpl hbnd) (f3_0_J (ih (p + 1) r gt (by omega) hK hgt))
  ·refine aa.ite (v:=true) (by show some (!tt _)=some true; rw [dG hl]; rfl) (fun _=>?_) fun h=>nomatch h
   have hks:(s.stack.set (s.stack.length - 1) { f with regs:=r })[s.stack.length - 1]? = some { f with regs:=r }:=j9 hk
   obtain ⟨gr2,hrow2,hg23,hgr2,_⟩:=hgt.row hks
   have hm1:p % ws.length < ws.length:=Nat.mod_lt _ hx0
   have hw:ws[p % ws.length]? = some ws[p % ws.length]:=EK hm1
   obtain ⟨e,he,rfl,hiw⟩:=hx.idx (k:=.i64) hw
   have hwb:=hx.bnd
   have hrm:pbin (.int .i64) .rem (I (p:Int)) (I (ws.length:Int))=some (I ((p % ws.length:Nat):Int)):=by
    simp only [pbin,if_true,nc]
    rw [if_neg (by omega)]
    congr 3
   obtain ⟨gt',hs',hgt'⟩:=hgt.put hks (n:=p) (by show p < r.length; rw [hK.1]; exact hpl) hiw
   rw [cP] at hgt'
   have hel:∃ a,r[p]? = some a:=⟨_,EK (by rw [hK.1]; exact hpl)⟩
   obtain ⟨a,hra⟩:=hel
   obtain ⟨ea,hea,rfl,_⟩:=hgr2.pel hra
   have sz1:(Bool.and (Go.Ab.slSize gt 5) (Nat.blt (s.stack.length - 1) (s.stack.set (s.stack.length - 1) { f with regs:=r }).length))=true:=by rw [hgt.slSize]; simp; omega
   have sz2:(Bool.and (Go.Ab.slSize gr2 1) (Nat.blt p r.length))=true:=by
    have:Go.Ab.slSize gr2 1=true:=hgr2.slSize
    rw [this,hK.1]
    simpa using hpl
   have fit3:ab zSl [I f.f,I f.block,I f.at_,gr2,W f.fly] 3=true:=by simp [ab,zSl,aC,hgr2.isSl]
   refine aa.nat hgt.slLen (aa.nat (aS (by omega)) (aa.chk sz1 (aa.tvs hrow2 (aa.chk fit3 (aa.tv hx.len (aa.tv hrm (aa.tvs he (aa.chk rfl (aa.tv hg23 (aa.nat hgr2.slLen (aa.nat ap (aa.chk sz2 (aa.tv hg23 (aa.tvs hea (aa.chk rfl (aa.tv hs' (aa.tv (inc hpl hbnd) (f3_0_J ?_))))))))))))))))))
   exact ih (p + 1) (r.set p ws[p % ws.length]) gt' (by omega) (hK.put hl) hgt'
end
theorem rLiveIdle {e:List TV} {x z:TV} {m:DMod} {l ws:List Int} {p more:Int} (hm:RMod (some false) e m) (hx:RWords (some false) x l) (hp:0≤p∧p≤255) (hmo:0≤more∧more≤255) (hz:RWords (some false) z ws) :
  ak prog 3 [.agg e,x,.lit (.int .u8 p),.lit (.int .u8 more),z] (B true):=by
 obtain ⟨b,hsm,hsb⟩:=rSmall hm hx
 have hm':=hm
 obtain ⟨y,rfl,hy⟩:=hm
 obtain ⟨N,hN,hN2,_⟩:=wC (k:=150) hp (by omega)
 have hrem1:pbin (.int .u8) .rem (.lit (.int .u8 p)) (.lit (.int .u8 150))=some (.lit (.int .u8 (N:Int))):=by rw [← hN]; rfl
 have hcv1:pconv (.int .i64) (.lit (.int .u8 (N:Int)))=some (I (N:Int)):=xe (by omega) (by omega)
 obtain ⟨M,hMo,hM2,_⟩:=wC (k:=60) hmo (by omega)
 have hrem2:pbin (.int .u8) .rem (.lit (.int .u8 more)) (.lit (.int .u8 60))=some (.lit (.int .u8 (M:Int))):=by rw [← hMo]; rfl
 have hcv2:pconv (.int .i64) (.lit (.int .u8 (M:Int)))=some (I (M:Int)):=xe (by omega) (by omega)
 refine ak.of (f3_MR _ _ _ _ _) ?_
 unfold f3_M
 refine aa.chk rfl (aa.call Bz (aa.chk rfl (aa.tv rfl (aa.ite rfl (fun h=>nomatch h) fun _=>aa.call hsm (aa.chk rfl (aa.tv rfl (aa.ite rfl (fun _=>aa.ret) fun h=>?_)))))))
 have hb:b=true:=by simpa using h
 obtain ⟨_,hl⟩:=hsb hb
 refine aa.tv hz.len (aa.tv rfl (aa.ite rfl (fun _=>aa.ret) fun h=>?_))
 have hw0:0 < ws.length:=by
  have:¬ ((ws.length:Int)=0):=by simpa using h
  omega
 refine aa.tv hrem1 (aa.tv hcv1 ?_)
 by_cases hM:bz m
 rotate_left
 ·obtain ⟨e2,hq2,h2⟩:=wm (fuel:=(N:Int)) hm' hx (by omega)
  rw [if_neg (fun h=>hM h.1)] at hq2 h2
  exact aa.call hq2 (aa.chk rfl (aa.chk h2.fit (aa.chk rfl (aa.tv rfl (aa.ite rfl (fun _=>aa.ret) fun h=>nomatch h)))))
 obtain ⟨e2,hq2,h2⟩:=zX (n:=N) hm' hM hx (by omega) (by omega)
 have hQ:=uC hM (rT (inputs:=l) hM) N
 have hevl:(eS m (iy m l) N).events.length≤N:=by
  obtain ⟨j,hj,hjn⟩:=rz (m:=m) N (iy m l)
  rw [hj]
  simpa [iy] using hjn
 have htk:=uE (m:=m) (inputs:=l) N fun k hk=>by
  obtain ⟨e',_,h'⟩:=zX (n:=k) hm' hM hx (by omega) (by omega)
  exact h'.words
 have hinl:(eS m (iy m l) N).inputs.length≤l.length:=by
  have:=congrArg List.length htk
  simp at this
  omega
 have hfit2:=h2.fit
 generalize eS m (iy m l) N=s at h2 hQ hevl hinl hq2
 obtain ⟨g,i,v,rfl,hg,hi,hv,ho⟩:=h2
 refine aa.call hq2 (aa.chk rfl (aa.chk hfit2 (aa.chk rfl (aa.tv rfl (aa.ite rfl (fun h=>nomatch h) fun _=>aa.tv rfl (aa.ite rfl (fun _=>aa.ret) fun h=>?_))))))
 have hd:s.done=0:=by simpa [TV.cell,TV.comp,nth,ar] using h
 have h32:=hQ.2.1
 have h0:=hQ.2.2.1 hd
 have hk:s.stack[s.stack.length - 1]? = some s.stack[s.stack.length - 1]:=EK (by omega)
 generalize s.stack[s.stack.length - 1]=f at hk
 obtain ⟨hf0,u,hu,hL,hb0,b,hb,_⟩:=hQ.2.2.2.1 _ f hk
 obtain ⟨gr,hrow,_,hgr,hfo⟩:=RStack.row hg hk
 have hsub:pbin (.int .i64) .sub (I (s.stack.length:Int)) (I 1)=some (I ((s.stack.length - 1:Nat):Int)):=by
  rw [psub ⟨by omega,by omega⟩]
  congr 3
  omega
 have sz:(Bool.and (Go.Ab.slSize g 5) (Nat.blt (s.stack.length - 1) s.stack.length))=true:=by rw [hg.slSize]; simp; omega
 obtain ⟨eu,heu,hru⟩:=hy.bF (k:=.i64) hf0 hu
 obtain ⟨wa,hra,ha⟩:=rAt hru
 have hC:=A1 hM hu
 have ha:RTab (some true) wa u.blocks.length u.regs.toNat fun n=>some fun i=>tt (LvN u.blocks n i):=by
  rcases ha with ⟨hn,_⟩ | ⟨_,ha⟩
  ·exact absurd hC hn
  ·exact ha
 obtain ⟨bl,rfl,hbl,_⟩:=hru
 have hla:plen (.slice 45) wa=some (I (u.blocks.length:Int)):=by
  have:=RL.len (t:=45) ha
  rw [bS] at this
  exact this
 refine aa.tv hg.len (aa.tv hsub (aa.nat hg.slLen (aa.nat (aS (by omega)) (aa.chk sz (aa.tvs hrow (aa.chk (bZ hgr.isSl) (aa.tvs heu (aa.chk rfl (aa.call hra (aa.chk (by simp [ab,zSl,aC,RL.isSl ha]) (aa.tv hla (aa.tvs heu (aa.chk rfl (aa.tv hbl.len (aa.tv rfl (aa.ite (v:=false) ?_ (fun h=>nomatch h) fun _=>aa.tv rfl (aa.ite rfl (fun _=>aa.ret) fun h=>?_)))))))))))))))))
 ·show asBool (.lit (.bool (!((u.blocks.length:Int) == (u.blocks.length:Int)))))=some false
  simp [asBool]
 have hat:f.at_=0:=by simpa [nth] using h
 have hsz:=RMach.frz' (hg.weak fun _ _ h=>h.weak) (hi.weak fun _ _ h=>h) (hv.weak fun _ _ h=>h) ho
 obtain ⟨ec,hrc,hc⟩:=C4 hsz (by omega) (fun k f hk=>by have:=fa hM (hQ.2.2.2.1 k f hk); omega) (by omega) (by omega)
 have hfc:=hc.fit
 obtain ⟨gt,it,vt,rfl,hgt,hit,hvt,hot⟩:=hc
 have hst:RStack gt (s.stack.set (s.stack.length - 1) { f with regs:=f.regs }):=by
  have:s.stack.set (s.stack.length - 1) { f with regs:=f.regs }=s.stack:=uO hk
  rw [this]; exact hgt
 have:=BX hm' hM hrem2 hcv2 (by omega) hQ hd hk hu hat hz hw0 ha hg hi hv ho hit hvt (by omega) (by omega) f.regs.length 0 f.regs gt (by omega) ⟨rfl,fun _ _=>rfl⟩ hst
 exact aa.call hrc (aa.chk hfc (f3_0_J this))
end Go.Ab.A10
end
section
namespace Go.Ab
open Go.RowKit
theorem bj {α:Type} (d:α):∀ (l:List α) (n:Nat),nth d l n=(l[n]?).getD d
 | [],n=>by simp [nth]
 | a :: l,0=>rfl
 | a :: l,n + 1=>by simp [nth,bj d l n]
theorem ai {α:Type}:∀ (l:List α) (n:Nat) (b:α),ao l n b=l.set n b
 | [],n,b=>by simp [ao]
 | a :: l,0,b=>rfl
 | a :: l,n + 1,b=>by simp [ao,ai l n b]
theorem cI {α:Type} {d:α} {l:List α} {n:Nat} {a:α} (h:l[n]? = some a):nth d l n=a:=by rw [bj,h]; rfl
theorem aJ (a b:Nat):a.beq b=true ↔ a=b:=⟨Nat.eq_of_beq_eq_true,fun h=>h ▸ Nat.beq_refl a⟩
theorem cB (n:Nat):∀ l:List Nat,cf n l=true ↔ n ∈ l
 | []=>by simp [cf]
 | a :: l => by
  cases h:a.beq n
  ·have:a≠n:=fun e=>by simp [e] at h
   simp only [cf,h,cond_false,cB n l,List.mem_cons]
   constructor
   ·exact .inr
   ·rintro (e | e)
    ·exact absurd e.symm this
    ·exact e
  ·simp only [cf,h,cond_true,List.mem_cons,true_iff]
   exact .inl ((aJ a n).1 h).symm
theorem fc (a:Addr) (k:Nat):(a.add k).block=a.block:=by unfold Addr.add; split <;> rfl
theorem iI (a:Addr) (i j:Nat):(a.add i).add j=a.add (i + j):=by
 unfold Addr.add
 by_cases hi:i=0 <;> by_cases hj:j=0 <;> simp [hi,hj,Nat.add_assoc]
theorem iz (b o k:Nat):(⟨b,o,none⟩:Addr).add k=⟨b,o + k,none⟩:=by unfold Addr.add; split <;> simp_all
def spl {α:Type} (l:List α) (o:Nat) (ys:List α):List α:=l.take o ++ ys ++ l.drop (o + ys.length)
theorem iH {α:Type} {l ys:List α} {o:Nat} (h:o + ys.length≤l.length):(spl l o ys).length=l.length:=by
 simp only [spl,List.length_append,List.length_take,List.length_drop]
 omega
theorem cS {α:Type} {l ys:List α} {o:Nat} (h:o + ys.length≤l.length) (k:Nat):(spl l o ys)[k]? = if o≤k∧k < o + ys.length then ys[k - o]? else l[k]? := by
 have e1:(l.take o).length=o:=by simp; omega
 unfold spl
 by_cases h1:k < o
 ·rw [List.append_assoc,ET (by omega),List.getElem?_take,if_pos h1,if_neg (by omega)]
 ·by_cases h2:k < o + ys.length
  ·rw [List.append_assoc,EU (by omega),e1,ET (by omega),if_pos (by omega)]
  ·rw [EU (by simp; omega),List.getElem?_drop,if_neg (by omega)]
   congr 1
   simp
   omega
theorem eZ {α:Type}:∀ (ps l:List α) (off:Nat),off + ps.length≤l.length→bo l off ps=spl l off ps
 | [],l,off,h=>by simp [bo,spl]
 | p :: ps, l, off, h => by
  have hlt:off < l.length:=by simp at h; omega
  simp only [bo]
  rw [ai,eZ ps (l.set off p) (off + 1) (by simp at h ⊢; omega)]
  apply List.ext_getElem?
  intro k
  rw [cS (by simp at h ⊢; omega),cS h]
  simp only [List.length_cons,List.getElem?_set]
  by_cases h1:k < off
  ·rw [if_neg (by omega),if_neg (by omega),if_neg (by omega)]
  ·by_cases h2:k=off
   ·subst h2
    rw [if_neg (by omega),if_pos (by omega)]
    simp [hlt]
   ·by_cases h3:k < off + (ps.length + 1)
    ·rw [if_pos (by omega),if_pos (by omega)]
     rw [show k - off=(k - (off + 1)) + 1 by omega,List.getElem?_cons_succ]
    ·rw [if_neg (by omega),if_neg (by omega),if_neg (by omega)]
theorem fV {α:Type}:∀ (l:List α) (o n:Nat) (r:List α),lc l o n=some r→r.length=n∧(n=0∨o + n≤l.length)∧∀ j,j < n→r[j]? = l[o + j]?
 | l,o,0,r,h=>by cases l <;> simp [lc] at h <;> subst h <;> simp
 | [],o,n + 1,r,h=>by simp [lc] at h
 | a :: l, 0, n + 1, r, h => by
  simp only [lc] at h
  cases h1:lc l 0 n with
  | none=>simp [h1] at h
  | some r' =>
   simp only [h1,EL] at h
   subst h
   obtain ⟨i1,i2,i3⟩:=fV l 0 n r' h1
   refine ⟨by simp [i1],.inr (by simp; omega),fun j hj=>?_⟩
   cases j with
   | zero=>simp
   | succ j=>simpa using i3 j (by omega)
 | a :: l,o + 1,n + 1,r,h=>by
  simp only [lc] at h
  obtain ⟨i1,i2,i3⟩:=fV l o (n + 1) r h
  refine ⟨i1,.inr (by rcases i2 with i2 | i2 <;> simp <;> omega),fun j hj=>?_⟩
  rw [i3 j hj,show o + 1 + j=(o + j) + 1 by omega,List.getElem?_cons_succ]
theorem cq {α:Type} {s:Nat}:∀ {xs:List (List α)},(∀ x ∈ xs,x.length=s)→xs.flatten.length=xs.length * s
 | [],_=>by simp
 | x :: xs,h=>by
  simp only [List.flatten_cons,List.length_append,List.length_cons,h x EQ,cq (fun y hy=>h y (ER _ hy)),Nat.add_mul]
  omega
theorem fq {α:Type} {s:Nat}:∀ {xs:List (List α)} {i j:Nat} {x:List α} {c:α},(∀ x ∈ xs,x.length=s)→xs[i]? = some x→x[j]? = some c→xs.flatten[i * s + j]? = some c
 | x :: xs,0,j,_,c,h,hi,hj=>by
  simp at hi
  subst hi
  rw [List.flatten_cons,ET (by simp; exact (EJ.1 hj).1)]
  simpa using hj
 | x :: xs,i + 1,j,y,c,h,hi,hj=>by
  simp at hi
  have hx:=h x EQ
  rw [List.flatten_cons,EU (by rw [hx,Nat.add_mul]; omega),hx,show (i + 1) * s + j - s=i * s + j by rw [Nat.add_mul]; omega]
  exact fq (fun z hz=>h z (ER _ hz)) hi hj
theorem take_add {α:Type} {x l:List α} {s n:Nat} (h:x.length=s):(x ++ l).take (s + n)=x ++ l.take n:=by
 subst h
 exact List.take_length_add_append n
theorem wP {α:Type} {x l:List α} {s n:Nat} (h:x.length=s):(x ++ l).drop (s + n)=l.drop n:=by
 subst h
 exact List.drop_length_add_append n
theorem oW (n s:Nat):(n + 1) * s=s + n * s:=by rw [Nat.add_mul]; omega
theorem pl {α:Type} {s:Nat}:∀ {xs:List (List α)} (n:Nat),(∀ x ∈ xs,x.length=s)→(xs.take n).flatten=xs.flatten.take (n * s)
 | [],n,_=>by simp
 | x :: xs,0,_=>by simp
 | x :: xs,n + 1,h=>by
  have hx:=h x EQ
  rw [List.take_succ_cons,List.flatten_cons,List.flatten_cons,pl n (fun z hz=>h z (ER _ hz)),oW,take_add hx]
theorem pR {α:Type} {s:Nat}:∀ {xs:List (List α)} (n:Nat),(∀ x ∈ xs,x.length=s)→(xs.drop n).flatten=xs.flatten.drop (n * s)
 | [],n,_=>by simp
 | x :: xs,0,_=>by simp
 | x :: xs,n + 1,h=>by
  have hx:=h x EQ
  rw [List.drop_succ_cons,List.flatten_cons,pR n (fun z hz=>h z (ER _ hz)),oW,wP hx]
theorem xp {α:Type} {s:Nat}:∀ {xs:List (List α)} {i:Nat} {x y:List α},(∀ x ∈ xs,x.length=s)→xs[i]? = some x→y.length=s→(xs.set i y).flatten=spl xs.flatten (i * s) y
 | x :: xs,0,_,y,h,hi,hy=>by
  simp at hi
  subst hi
  have hx:=h x EQ
  simp only [List.set_cons_zero,List.flatten_cons,Nat.zero_mul,spl,List.take_zero,List.nil_append,Nat.zero_add,hy,List.drop_append,hx,Nat.sub_self,List.drop_zero]
  rw [List.drop_of_length_le (by omega),List.nil_append]
 | x :: xs,i + 1,z,y,h,hi,hy=>by
  simp at hi
  have hx:=h x EQ
  have ih:=xp (fun z hz=>h z (ER _ hz)) hi hy
  simp only [List.set_cons_succ,List.flatten_cons,ih,spl,oW,take_add hx,hy]
  rw [show s + i * s + s=s + (i * s + s) by omega,wP hx]
  simp only [List.append_assoc]
theorem zr {α:Type} {s:Nat} {xs:List (List α)} {i:Nat} {y:List α} (h:∀ x ∈ xs,x.length=s) (hy:y.length=s):∀ x ∈ xs.set i y,x.length=s:=by
 intro x hx
 rcases List.mem_or_eq_of_mem_set hx with h' | h'
 ·exact h x h'
 ·rw [h']; exact hy
theorem wT {α:Type} {s:Nat} {xs:List (List α)} {i j:Nat} {x ys:List α} (h:∀ x ∈ xs,x.length=s) (hi:xs[i]? = some x) (hj:j + ys.length≤x.length) :
  (xs.set i (spl x j ys)).flatten=spl xs.flatten (i * s + j) ys∧i * s + j + ys.length≤xs.flatten.length:=by
 have hx:=h x (ES hi)
 have hlt:i < xs.length:=(EJ.1 hi).1
 have hle:i * s + s≤xs.flatten.length:=by
  rw [cq h]
  have:=Nat.mul_le_mul_right s (Nat.succ_le_of_lt hlt)
  rw [Nat.succ_mul] at this
  exact this
 refine ⟨?_,by omega⟩
 rw [xp h hi (by rw [iH hj,hx])]
 apply List.ext_getElem?
 intro k
 rw [cS (l:=xs.flatten) (ys:=spl x j ys) (by rw [iH hj]; omega),cS (l:=xs.flatten) (ys:=ys) (by omega),iH hj,hx]
 by_cases h1:i * s≤k∧k < i * s + s
 ·rw [if_pos h1,cS hj]
  by_cases h2:j≤k - i * s∧k - i * s < j + ys.length
  ·rw [if_pos h2,if_pos (by omega)]
   congr 1
   omega
  ·rw [if_neg h2,if_neg (by omega)]
   have hk:k - i * s < x.length:=by omega
   have:=fq h hi (EK hk)
   rw [show i * s + (k - i * s)=k by omega] at this
   rw [this,EK hk]
 ·rw [if_neg h1,if_neg (by omega)]
inductive Rep (w:World) (I:Nat→Prop):TV→Value→Prop
 | lit (v:Value):Rep w I (.lit v) v
 | hole (v:Value):Rep w I .hole v
 | buf {s:ByteArray} (e:TypeId) (h:s.size=0):Rep w I (.buf s e) aI
 | sl {size : Nat} {xs : List (List TV)} {a : Addr} {cap : Nat} (cell : Nat → Value) (hI : 0 < xs.length → I a.block) (hc : xs.length ≤ cap) (hm : cap ≤ maxLen)
   (hl:∀ x ∈ xs,x.length=size) (hcell:∀ k,k < xs.length * size→w.cell? (a.add k)=some (cell k)) (h1:∀ k,k < xs.length * size→(cell k).oneCell'=true)
   (hr:∀ (i:Nat) (x:List TV),xs[i]? = some x→∀ (j:Nat) (c:TV),x[j]? = some c→Rep w I c (cell (i * size + j))):Rep w I (.sl false size xs) (.slice (some a) xs.length cap)
 | agg {cs : List TV} {vs : Array Value} (hl : vs.size = cs.length) (h1 : ∀ j, j < vs.size → (vs.getD j undef).oneCell' = true)
   (hr:∀ (j:Nat) (c:TV),cs[j]? = some c→Rep w I c (vs.getD j undef)):Rep w I (.agg cs) (.agg vs)
 | tup {cs:List TV} {vs:Array Value} (hl:vs.size=cs.length) (hr:∀ (j:Nat) (c:TV),cs[j]? = some c→Rep w I c (vs.getD j undef)):Rep w I (.tup cs) (.tuple vs)
theorem Rep.mv {w w':World} {I I':Nat→Prop} (hh:∀ b,I b→w'.heap[b]? = w.heap[b]?) (hI:∀ b,I b→I' b) {x:TV} {v:Value} (h:Rep w I x v):Rep w' I' x v:=by
 induction h with
 | lit v=>exact .lit v
 | hole v=>exact .hole v
 | buf e h=>exact .buf e h
 | sl cell i c m l hcell h1 _ ih =>
  exact .sl cell (fun h=>hI _ (i h)) c m l (fun k hk=>by rw [← hcell k hk]; exact World.cell?_of_block (by rw [fc]; exact hh _ (i (Nat.pos_of_ne_zero (fun e=>by simp [e] at hk))))) h1 ih
 | agg hl h1 _ ih=>exact .agg hl h1 ih
 | tup hl _ ih=>exact .tup hl ih
structure Row (w:World) (a:Addr) (n cap size:Nat) (us:List Value) (vs:Array Value) (ty:TypeId):Prop where
 heap:w.heap[a.block]? = some (.cells vs ty (0,0))
 spot:a.spot=none
 le:n≤cap
 max:cap≤maxLen
 fit:a.off + cap * size≤vs.size
 len:us.length=n * size
 cells:∀ k,k < n * size→vs[a.off + k]? = us[k]?
 one:∀ u ∈ us,u.oneCell'=true
theorem Row.cell {w:World} {a:Addr} {n cap size:Nat} {us:List Value} {vs:Array Value} {ty:TypeId} (h:Row w a n cap size us vs ty) {k:Nat} {u:Value} (hk:us[k]? = some u):w.cell? (a.add k)=some u:=by
 have hlt:k < n * size:=by rw [← h.len]; exact (EJ.1 hk).1
 have:a.add k=⟨a.block,a.off + k,none⟩:=by
  have:=h.spot
  obtain ⟨b,o,sp⟩:=a
  simp at this
  subst this
  exact iz b o k
 rw [this]
 simp only [World.cell?,h.heap]
 simp only [Option.isSome_none,Bool.false_eq_true,if_false]
 rw [h.cells k hlt,hk]
inductive am (w:World) (I:Nat→Prop):TV→Value→(Nat→Prop)→Prop
 | fr {x:TV} {v:Value} {S:Nat→Prop} (h:Rep w I x v):am w I x v S
 | sl {size : Nat} {xs : List (List TV)} {a : Addr} {cap : Nat} {S : Nat → Prop} (us : List Value) (vs : Array Value) (ty : TypeId) (F : Nat → Nat → Prop) (hS : S a.block)
   (row:Row w a xs.length cap size us vs ty) (hl:∀ x ∈ xs,x.length=size) (hr:∀ (k:Nat) (c:TV),xs.flatten[k]? = some c→am w I c (us.getD k undef) (F k))
   (hF:∀ k b,F k b→S b∧b≠a.block) (hd:∀ k k' b,F k b→F k' b→k=k'):am w I (.sl true size xs) (.slice (some a) xs.length cap) S
 | agg {cs : List TV} {vs : Array Value} {S : Nat → Prop} (F : Nat → Nat → Prop) (hl : vs.size = cs.length) (h1 : ∀ j, j < vs.size → (vs.getD j undef).oneCell' = true)
   (hr:∀ (j:Nat) (c:TV),cs[j]? = some c→am w I c (vs.getD j undef) (F j)) (hF:∀ j b,F j b→S b) (hd:∀ k k' b,F k b→F k' b→k=k'):am w I (.agg cs) (.agg vs) S
 | buf {s:ByteArray} {e:TypeId} {v:Value} {S:Nat→Prop} (h:w.ownsRowF 0 e 1 v s.size (Lib.strCells s)) (hS:∀ b,v.ownBlock=some b→S b):am w I (.buf s e) v S
 | tup {cs : List TV} {vs : Array Value} {S : Nat → Prop} (F : Nat → Nat → Prop) (hl : vs.size = cs.length)
   (hr:∀ (j:Nat) (c:TV),cs[j]? = some c→am w I c (vs.getD j undef) (F j)) (hF:∀ j b,F j b→S b) (hd:∀ k k' b,F k b→F k' b→k=k'):am w I (.tup cs) (.tuple vs) S
theorem _root_.Go.World.ownsRowF.moved {w w':World} {base:Nat} {e:TypeId} {size:Nat} {v:Value} {n:Nat} {xs:List Value} (h:w.ownsRowF base e size v n xs) (hh:∀ b,v.ownBlock=some b→w'.heap[b]? = w.heap[b]?):w'.ownsRowF base e size v n xs:=by
 refine ⟨h.1,?_⟩
 rcases h.2 with hn | ⟨g,cap,cur,fz,rfl,hb,hgg,rest⟩
 ·exact .inl hn
 ·exact .inr ⟨g,cap,cur,fz,rfl,hb,by rw [hh g rfl]; exact hgg,rest⟩
theorem am.mv {w w':World} {I I':Nat→Prop} (hI:∀ b,I b→w'.heap[b]? = w.heap[b]?) (hs:∀ b,I b→I' b) {x:TV} {v:Value} {S:Nat→Prop} (h:am w I x v S) :
  ∀ {S':Nat→Prop},(∀ b,S b→w'.heap[b]? = w.heap[b]?)→(∀ b,S b→S' b)→am w' I' x v S':=by
 induction h with
 | fr h=>intro S' _ _; exact .fr (h.mv hI hs)
 | @sl size xs a cap S us vs ty F hS row hl hr hF hd ih =>
  intro S' hh hSS
  exact .sl us vs ty F (hSS _ hS) ⟨by rw [hh _ hS]; exact row.heap,row.spot,row.le,row.max,row.fit,row.len,row.cells,row.one⟩ hl (fun k c hk=>ih k c hk (fun b hb=>hh b (hF k b hb).1) (fun b hb=>hb))
   (fun k b hb=>⟨hSS b (hF k b hb).1,(hF k b hb).2⟩) hd
 | @buf s e v S h hS =>
  intro S' hh hSS
  exact .buf (h.moved (fun b hb=>hh b (hS b hb))) (fun b hb=>hSS b (hS b hb))
 | @agg cs vs S F hl h1 hr hF hd ih =>
  intro S' hh hSS
  exact .agg F hl h1 (fun k c hk=>ih k c hk (fun b hb=>hh b (hF k b hb)) (fun b hb=>hb)) (fun k b hb=>hSS b (hF k b hb)) hd
 | @tup cs vs S F hl hr hF hd ih =>
  intro S' hh hSS
  exact .tup F hl (fun k c hk=>ih k c hk (fun b hb=>hh b (hF k b hb)) (fun b hb=>hb)) (fun k b hb=>hSS b (hF k b hb)) hd
theorem am.mono {w:World} {I:Nat→Prop} {x:TV} {v:Value} {S S':Nat→Prop} (h:am w I x v S) (hS:∀ b,S b→S' b):am w I x v S' :=
 h.mv (fun _ _=>rfl) (fun _ h=>h) (fun _ _=>rfl) hS
theorem ci {w:World} {I:Nat→Prop} {v u:Value} (h:Rep w I (.lit v) u):u=v:=by cases h; rfl
theorem bg {w:World} {I:Nat→Prop} {v u:Value} {S:Nat→Prop} (h:am w I (.lit v) u S):u=v:=by cases h with | fr h=>exact ci h
theorem Dd {w:World} {I:Nat→Prop} {s:Nat} {xs:List (List TV)} {u:Value} {S:Nat→Prop} (h:am w I (.sl false s xs) u S):Rep w I (.sl false s xs) u:=by cases h with | fr h=>exact h
theorem qY {w:World} {I:Nat→Prop} {o:Bool} {s:Nat} {xs:List (List TV)} {u:Value} {S:Nat→Prop} (h:am w I (.sl o s xs) u S):∃ a cap,u=.slice (some a) xs.length cap:=by
 cases h with
 | fr h=>cases h; exact ⟨_,_,rfl⟩
 | sl=>exact ⟨_,_,rfl⟩
theorem gq {w:World} {I:Nat→Prop} {x:TV} {u:Value} {S:Nat→Prop} (h:am w I x u S) (hx:x.isSl=true):∃ a n cap,u=.slice a n cap:=by
 cases x with
 | lit v =>
  have:=bg h
  subst this
  cases u <;> simp [TV.isSl,aC] at hx ⊢
 | sl o s xs=>obtain ⟨a,cap,rfl⟩:=qY h; exact ⟨_,_,_,rfl⟩
 | _=>simp [TV.isSl] at hx
theorem zI {v:Value} (h:scV v=true):v.oneCell'=true:=by cases v <;> first | rfl | simp [scV] at h
theorem gk {w:World} {I:Nat→Prop} {x:TV} {u:Value} {S:Nat→Prop} (h:am w I x u S) (hx:x.isSc=true):x=.lit u∧scV u=true:=by
 cases x with
 | lit v =>
  have:=bg h
  subst this
  exact ⟨rfl,hx⟩
 | _=>simp [TV.isSc] at hx
theorem Eh {w:World} {I:Nat→Prop} {x:TV} {u:Value} {S:Nat→Prop} (h:am w I x u S):Rep w I x.lf u:=by
 cases x with
 | lit v=>have:=bg h; subst this; exact .lit _
 | _=>exact .hole _
theorem lT:∀ l:List TV,ms l=l.map frz
 | []=>rfl
 | x :: l=>by simp [ms,lT l]
theorem gZ:∀ l:List (List TV),sF l=l.map fun x=>x.map frz
 | []=>rfl
 | x :: l=>by simp [sF,gZ l,lT]
theorem Dm:∀ l:List TV,lfL l=l.map TV.lf
 | []=>rfl
 | x :: l=>by simp [lfL,Dm l]
theorem zg:∀ l:List (List TV),vF l=l.map fun x=>x.map TV.lf
 | []=>rfl
 | x :: l=>by simp [vF,zg l,Dm]
theorem Rep.frz {w:World} {I:Nat→Prop} {x:TV} {v:Value} (h:Rep w I x v):Rep w I (frz x) v:=by
 induction h with
 | lit v=>exact .lit v
 | hole v=>exact .hole v
 | buf e h=>exact .hole _
 | @sl size xs a cap cell hI hc hm hl hcell h1 _ ih =>
  simp only [Ab.frz,gZ]
  have hlen:(xs.map fun x=>x.map Ab.frz).length=xs.length:=by simp
  have key:Rep w I (.sl false size (xs.map fun x=>x.map Ab.frz)) (.slice (some a) (xs.map fun x=>x.map Ab.frz).length cap):=by
   refine .sl cell (by rw [hlen]; exact hI) (by rw [hlen]; exact hc) hm (fun x hx=>?_) (by rw [hlen]; exact hcell) (by rw [hlen]; exact h1) (fun i y hy j c hj=>?_)
   ·obtain ⟨y,hy,rfl⟩:=List.mem_map.1 hx
    simpa using hl y hy
   ·rw [EP] at hy
    cases hxi:xs[i]? with
    | none=>simp [hxi] at hy
    | some x =>
     simp only [hxi,EW,EL] at hy
     subst hy
     rw [EP] at hj
     cases hxj:x[j]? with
     | none=>simp [hxj] at hj
     | some c' =>
      simp only [hxj,EW,EL] at hj
      subst hj
      exact ih i x hxi j c' hxj
  rwa [hlen] at key
 | @agg cs vs hl h1 _ ih =>
  simp only [Ab.frz,lT]
  refine .agg (by simpa using hl) h1 (fun j c hj=>?_)
  rw [EP] at hj
  cases hxj:cs[j]? with
  | none=>simp [hxj] at hj
  | some c'=>simp only [hxj,EW,EL] at hj; subst hj; exact ih j c' hxj
 | @tup cs vs hl _ ih =>
  simp only [Ab.frz,lT]
  refine .tup (by simpa using hl) (fun j c hj=>?_)
  rw [EP] at hj
  cases hxj:cs[j]? with
  | none=>simp [hxj] at hj
  | some c'=>simp only [hxj,EW,EL] at hj; subst hj; exact ih j c' hxj
theorem am.frz {w:World} {I I':Nat→Prop} (hI:∀ b,I b→I' b) {x:TV} {v:Value} {S:Nat→Prop} (h:am w I x v S):(∀ b,S b→I' b)→Rep w I' (frz x) v:=by
 induction h with
 | fr h=>intro _; exact (h.mv (fun _ _=>rfl) hI).frz
 | buf _ _=>intro _; exact .hole _
 | @sl size xs a cap S us vs ty F hS row hl hr hF hd ih =>
  intro hSI
  simp only [Ab.frz,gZ]
  have hlen:(xs.map fun x=>x.map Ab.frz).length=xs.length:=by simp
  have key:Rep w I' (.sl false size (xs.map fun x=>x.map Ab.frz)) (.slice (some a) (xs.map fun x=>x.map Ab.frz).length cap):=by
   refine .sl (fun k=>us.getD k undef) (fun _=>hSI _ hS) (by rw [hlen]; exact row.le) row.max (fun x hx=>?_) (fun k hk=>?_) (fun k hk=>?_) (fun i y hy j c hj=>?_)
   ·obtain ⟨y,hy,rfl⟩:=List.mem_map.1 hx
    simpa using hl y hy
   ·rw [hlen] at hk
    have:k < us.length:=by rw [row.len]; exact hk
    exact row.cell (by simp [EK this])
   ·rw [hlen] at hk
    have:k < us.length:=by rw [row.len]; exact hk
    simp only [EX,EK this,Option.getD_some]
    exact row.one _ (List.getElem_mem this)
   ·rw [EP] at hy
    cases hxi:xs[i]? with
    | none=>simp [hxi] at hy
    | some x =>
     simp only [hxi,EW,EL] at hy
     subst hy
     rw [EP] at hj
     cases hxj:x[j]? with
     | none=>simp [hxj] at hj
     | some c' =>
      simp only [hxj,EW,EL] at hj
      subst hj
      exact ih _ c' (fq hl hxi hxj) (fun b hb=>hSI b (hF _ b hb).1)
  rwa [hlen] at key
 | @agg cs vs S F hl h1 hr hF hd ih =>
  intro hSI
  simp only [Ab.frz,lT]
  refine .agg (by simpa using hl) h1 (fun j c hj=>?_)
  rw [EP] at hj
  cases hxj:cs[j]? with
  | none=>simp [hxj] at hj
  | some c'=>simp only [hxj,EW,EL] at hj; subst hj; exact ih j c' hxj (fun b hb=>hSI b (hF j b hb))
 | @tup cs vs S F hl hr hF hd ih =>
  intro hSI
  simp only [Ab.frz,lT]
  refine .tup (by simpa using hl) (fun j c hj=>?_)
  rw [EP] at hj
  cases hxj:cs[j]? with
  | none=>simp [hxj] at hj
  | some c'=>simp only [hxj,EW,EL] at hj; subst hj; exact ih j c' hxj (fun b hb=>hSI b (hF j b hb))
theorem gj:∀ {l:List TV},aV l=true→∀ x ∈ l,isOwn x=true
 | [],_,x,hx=>by simp at hx
 | y :: l,h,x,hx=>by
  simp only [aV,EM] at h
  rcases List.mem_cons.1 hx with rfl | hx
  ·exact h.1
  ·exact gj h.2 x hx
theorem pT:∀ {l:List (List TV)},mc l=true→∀ x ∈ l,aV x=true
 | [],_,x,hx=>by simp at hx
 | y :: l,h,x,hx=>by
  simp only [mc,EM] at h
  rcases List.mem_cons.1 hx with rfl | hx
  ·exact h.1
  ·exact pT h.2 x hx
theorem Rep.own {w:World} {I I':Nat→Prop} {x:TV} {v:Value} (h:Rep w I x v):isOwn x=true→Rep w I' x v:=by
 induction h with
 | lit v=>intro _; exact .lit v
 | hole v=>intro _; exact .hole v
 | buf e h=>intro _; exact .buf e h
 | sl=>intro h; simp [isOwn] at h
 | @agg cs vs hl h1 _ ih=>intro h; simp only [isOwn] at h; exact .agg hl h1 (fun j c hj=>ih j c hj (gj h c (ES hj)))
 | @tup cs vs hl _ ih=>intro h; simp only [isOwn] at h; exact .tup hl (fun j c hj=>ih j c hj (gj h c (ES hj)))
theorem am.own {w:World} {I I':Nat→Prop} {x:TV} {v:Value} {S:Nat→Prop} (h:am w I x v S):isOwn x=true→am w I' x v S:=by
 induction h with
 | fr h=>intro ho; exact .fr (h.own ho)
 | buf h hS=>intro _; exact .buf h hS
 | @sl size xs a cap S us vs ty F hS row hl hr hF hd ih =>
  intro ho
  simp only [isOwn,Bool.true_and] at ho
  refine .sl us vs ty F hS row hl (fun k c hk=>ih k c hk ?_) hF hd
  obtain ⟨x,hx,hc⟩:=List.mem_flatten.1 (ES hk)
  exact gj (pT ho x hx) c hc
 | @agg cs vs S F hl h1 hr hF hd ih=>intro ho; simp only [isOwn] at ho; exact .agg F hl h1 (fun j c hj=>ih j c hj (gj ho c (ES hj))) hF hd
 | @tup cs vs S F hl hr hF hd ih=>intro ho; simp only [isOwn] at ho; exact .tup F hl (fun j c hj=>ih j c hj (gj ho c (ES hj))) hF hd
end Go.Ab
end

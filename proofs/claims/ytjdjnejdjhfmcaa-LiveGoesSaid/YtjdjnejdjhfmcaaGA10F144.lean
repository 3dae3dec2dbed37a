import Derived.Test.YtjdjnejdjhfmcaaGA10F140
section
set_option linter.unusedVariables false
set_option linter.unusedSectionVars false
set_option linter.unusedSimpArgs false
set_option maxRecDepth 10000
namespace Go.Ab
def RRow (q:Option Bool) (e:List TV) (o:Option (List Bool)):Prop:=match o with | none=>e=[.lit nilV] | some l=>∃ r,e=[r]∧RBools q r l
abbrev RTab (q:Option Bool) (w:TV) (N R:Nat) (F:Nat→Option (Nat→Bool)):Prop:=RL q 1 (RRow q) w (tabL N fun n=>(F n).map (tabL R))
theorem RRow.frz {q:Option Bool} {e:List TV} {o:Option (List Bool)} (h:RRow q e o):RRow (some false) (frzL e) o:=by
 cases o with
 | none=>cases h; rfl
 | some l =>
  obtain ⟨r,rfl,hr⟩:=h
  exact ⟨Ab.frz r,rfl,hr.frz fun _ _ h=>h.frz⟩
theorem RRow.own {e:List TV} {o:Option (List Bool)} (h:RRow (some true) e o):isOwnL e=true:=by
 cases o with
 | none=>cases h; rfl
 | some l =>
  obtain ⟨r,rfl,hr⟩:=h
  simp [isOwnL,hr.own fun _ _ h=>h.own]
theorem RRow.isSl {q:Option Bool} {e:List TV} {o:Option (List Bool)} (h:RRow q e o):∃ r,e=[r]∧r.isSl=true:=by
 cases o with
 | none=>cases h; exact ⟨_,rfl,rfl⟩
 | some l =>
  obtain ⟨r,rfl,hr⟩:=h
  exact ⟨r,rfl,hr.isSl⟩
noncomputable def addTo (g a:Nat→Bool) (s:Int) (k:Nat):Nat→Bool:=fun i=>g i || tt (i < k∧a i=true∧s≠(i:Int))
noncomputable def addB (g a:Nat→Bool) (s:Int):Nat→Bool:=fun i=>g i || tt (a i=true∧s≠(i:Int))
theorem addTo_t {g a:Nat→Bool} {s:Int} {k i:Nat}:addTo g a s k i=true ↔ g i=true∨(i < k∧a i=true∧s≠(i:Int)):=by simp [addTo,tt_iff]
theorem addB_t {g a:Nat→Bool} {s:Int} {i:Nat}:addB g a s i=true ↔ g i=true∨(a i=true∧s≠(i:Int)):=by simp [addB,tt_iff]
theorem bool_ext {a b:Bool} (h:a=true ↔ b=true):a=b:=by cases a <;> cases b <;> simp_all
theorem addTo_zero {g a:Nat→Bool} {s:Int}:addTo g a s 0=g:=by
 funext i; apply bool_ext; rw [addTo_t]; simp
theorem addTo_end {g a:Nat→Bool} {s:Int} {R:Nat}:tabL R (addTo g a s R)=tabL R (addB g a s):=tabL_congr fun i hi=>by
 apply bool_ext; rw [addTo_t,addB_t]; simp [hi]
theorem addTo_yes {g a:Nat→Bool} {s:Int} {k:Nat} (h1:a k=true) (h2:s≠(k:Int)):updF (addTo g a s k) k true=addTo g a s (k + 1):=by
 funext i
 apply bool_ext
 by_cases e:i=k
 ·subst e; rw [updF_at,addTo_t]; simp [h1,h2]
 ·rw [updF_ne e,addTo_t,addTo_t]
  constructor
  ·rintro (h | ⟨h,h'⟩)
   ·exact .inl h
   ·exact .inr ⟨by omega,h'⟩
  ·rintro (h | ⟨h,h'⟩)
   ·exact .inl h
   ·exact .inr ⟨by omega,h'⟩
theorem addTo_no {g a:Nat→Bool} {s:Int} {k:Nat} (h:¬ (a k=true∧s≠(k:Int))):addTo g a s k=addTo g a s (k + 1):=by
 funext i
 apply bool_ext
 rw [addTo_t,addTo_t]
 constructor
 ·rintro (h | ⟨h,h'⟩)
  ·exact .inl h
  ·exact .inr ⟨by omega,h'⟩
 ·rintro (h0 | ⟨h0,h'⟩)
  ·exact .inl h0
  ·refine .inr ⟨?_,h'⟩
   by_cases e:i=k
   ·subst e; exact absurd h' h
   ·omega
theorem onB_next {g:Nat→Bool} {l:List Int} {k:Nat} {p:Int} (hp:l[k]? = some p) (h0:0≤p):updF (onB g (l.take k)) p.toNat true=onB g (l.take (k + 1)):=by
 funext i
 apply bool_ext
 rw [List.take_add_one,hp]
 by_cases e:i=p.toNat
 ·subst e; rw [updF_at,onB_t]; simp; exact .inr (.inr (by omega))
 ·rw [updF_ne e,onB_t,onB_t]
  simp only [Option.toList_some,List.mem_append,List.mem_singleton]
  constructor
  ·rintro (h | h)
   ·exact .inl h
   ·exact .inr (.inl h)
  ·rintro (h | h | h)
   ·exact .inl h
   ·exact .inr h
   ·exact absurd (by omega) e
theorem onB_zero {g:Nat→Bool} {l:List Int}:onB g (l.take 0)=g:=by
 funext i; apply bool_ext; rw [onB_t]; simp
theorem offB_some {g:Nat→Bool} {d:Int} (h0:0≤d):updF g d.toNat false=offB g (some d):=by
 funext i
 apply bool_ext
 rw [offB_t]
 by_cases e:i=d.toNat
 ·subst e; rw [updF_at]; simp; intro _; omega
 ·rw [updF_ne e]; simp; intro _; omega
theorem offB_none {g:Nat→Bool}:offB g none=g:=by
 funext i; apply bool_ext; rw [offB_t]; simp
def okL (R:Nat) (l:List Int):Prop:=∀ p ∈ l,0≤p∧p < R
structure OkB (R:Nat) (b:DBlock):Prop where
 ends:okL R (asksE b.fin)
 asks:∀ x ∈ b.ins,okL R (asksI x)
 sets:∀ x ∈ b.ins,∀ d,setsI x=some d→0≤d∧d < R
end Go.Ab
namespace Go.Ab.A10
open Go Go.Ab Go.Proofs
section
variable {x y:TV} {l m:List Bool}
theorem rEqB {q q':Option Bool} (hx:RBools q x l) (hy:RBools q' y m):Runs prog 48 [x,y] (B (tt (l=m))):=by
 refine Runs.of (f48_MR _ _) ?_
 unfold f48_M
 repeat' (first
  | refine Goes.chk rfl ?_
  | refine Goes.tv rfl ?_
  | refine Goes.tv (RL.len (by assumption)) ?_
  | refine Goes.nat rfl ?_
  | refine Goes.ite rfl (fun _=>?_) (fun _=>?_)
  | refine Goes.call (by assumption) ?_
  | refine Goes.tvs (by assumption) ?_)
 ·rename_i h
  have h:¬ l=m:=by rintro rfl; simp at h
  exact ret_no h
 ·rename_i h
  have hlen:l.length=m.length:=by simp at h; omega
  refine f48_0_J ?_
  rw [tt_congr (list_eq_iff' hlen)]
  refine allLoop' (g:=fun k=>f48_0 x y (I l.length) (I k)) ?_ ?_
  ·unfold f48_0
   refine Goes.tv rfl (Goes.ite asB_end (fun h=>nomatch h) fun _=>Goes.ret)
  ·intro k hk r h1 h2
   have hk':k < m.length:=by omega
   have ha:l[k]? = some l[k]:=List.getElem?_eq_getElem hk
   have hb:m[k]? = some m[k]:=List.getElem?_eq_getElem hk'
   obtain ⟨e,he,hre⟩:=hx.idx (k:=.i64) ha
   obtain ⟨e',he',hre'⟩:=hy.idx (k:=.i64) hb
   cases hre
   cases hre'
   unfold f48_0
   refine Goes.tv rfl (Goes.ite (asB_lt hk) (fun _=>?_) fun h=>nomatch h)
   refine Goes.tvs he (Goes.chk rfl (Goes.tvs he' (Goes.chk rfl (Goes.tv rfl (Goes.ite rfl (fun h=>?_) fun h=>?_)))))
   ·rw [h1 (by rw [ha,hb]; simpa using h)]; exact Goes.ret
   ·refine Goes.tv (inc hk hx.bnd) (f48_0_J (h2 ?_))
    rw [ha,hb]; simpa using h
end
theorem rOwnB {q:Option Bool} {x:TV} {l:List Bool} (hx:RBools q x l) (hl:l.length≤4294967296):∃ y,Runs prog 59 [x] y∧RBools (some true) y l:=by
 obtain ⟨xs,hxs,_⟩:=hx.elems
 obtain ⟨y,hy,hr⟩:=own_copy hx [.lit (.bool false)] hxs
 have hn:=asNat_nat (k:=l.length) (by omega)
 have hle:(Nat.ble l.length 4294967296)=true:=by simpa using hl
 have hle':(Nat.ble l.length l.length)=true:=by simp
 have hown:=hr.own fun _ _ h=>h.own
 rcases hx with ⟨rfl,rfl⟩ | ⟨o,ys,rfl,hq,h,hb⟩
 ·refine ⟨.lit nilV,?_,.nil⟩
  refine Runs.of (f59_MR _) ?_
  unfold f59_M
  exact Goes.tv rfl (Goes.ite rfl (fun _=>Goes.chk rfl Goes.ret) fun h=>nomatch h)
 ·refine ⟨y,?_,hr⟩
  refine Runs.of (f59_MR _) ?_
  unfold f59_M
  refine Goes.tv rfl (Goes.ite rfl (fun h=>nomatch h) fun _=>?_)
  refine Goes.tv (v:=I l.length) (by simp [plen,h.length]) (Goes.nat hn (Goes.nat hn (Goes.chk (by rw [hle,hle']; rfl) (Goes.rws hxs (Goes.tv hy (Goes.nat rfl (Goes.chk hown Goes.ret)))))))
theorem rAsks {q:Option Bool} {e:List TV} {x:DIns} (he:RIns q e x) (hl:x.args.length≤4294967296):∃ y,Runs prog 13 [.agg e] y∧RInts (some true) y (asksI x):=by
 obtain ⟨g,rfl,hg,o1,o2,o3,o4,o5,o6⟩:=he
 obtain ⟨v,hv,hrv⟩:=r41 hg hl
 have two:RInts (some true) (.sl true 1 (chunks 1 2 [I x.a,I x.b])) [x.a,x.b]:=.sl (by simp) (.cons ⟨rfl,o3⟩ (.cons ⟨rfl,o4⟩ .nil)) (by simp [chunks])
 have one:RInts (some true) (.sl true 1 (chunks 1 1 [I x.a])) [x.a]:=.sl (by simp) (.cons ⟨rfl,o3⟩ .nil) (by simp [chunks])
 have h1:∀ b:Bool,(b=true ↔ (3≤x.op∧x.op≤8)∨x.op=10)→∃ y,Goes prog 13 (f13_1 (I x.op) (B b) (I x.op) (I x.dst) (I x.a) (I x.b) (W x.k) (I x.f) g) y∧RInts (some true) y (if (3≤x.op∧x.op≤8)∨x.op=10 then [x.a,x.b] else if x.op=11 then x.args else []):=by
  intro b hb
  by_cases c:(3≤x.op∧x.op≤8)∨x.op=10
  ·have:b=true:=hb.2 c
   subst this
   rw [if_pos c]
   refine ⟨_,?_,two⟩
   unfold f13_1
   exact Goes.ite rfl (fun _=>Goes.chk rfl Goes.ret) fun h=>nomatch h
  ·have:b=false:=by cases b with
    | false=>rfl
    | true=>exact absurd (hb.1 rfl) c
   subst this
   rw [if_neg c]
   by_cases c2:x.op=11
   ·rw [if_pos c2]
    refine ⟨v,?_,hrv⟩
    unfold f13_1
    exact Goes.ite rfl (fun h=>nomatch h) fun _=>Goes.tv rfl (Goes.ite (v:=true) (by simp [asBool,c2]) (fun _=>Goes.call hv (Goes.chk (by simp [fitsAt,zSl,isSlV,hrv.isSl]) (Goes.chk (hrv.own fun _ _ h=>h.own) Goes.ret))) fun h=>nomatch h)
   ·rw [if_neg c2]
    refine ⟨_,?_,.nil⟩
    unfold f13_1
    exact Goes.ite rfl (fun h=>nomatch h) fun _=>Goes.tv rfl (Goes.ite (v:=false) (by simp [asBool,c2]) (fun h=>nomatch h) fun _=>Goes.chk rfl Goes.ret)
 have h0:∀ b:Bool,(b=true ↔ x.op=2∨x.op=9∨x.op=12)→∃ y,Goes prog 13 (f13_0 (I x.op) (B b) (I x.op) (I x.dst) (I x.a) (I x.b) (W x.k) (I x.f) g) y∧RInts (some true) y (asksI x):=by
  intro b hb
  unfold asksI
  by_cases c:x.op=2∨x.op=9∨x.op=12
  ·have:b=true:=hb.2 c
   subst this
   rw [if_pos c]
   refine ⟨_,?_,one⟩
   unfold f13_0
   exact Goes.ite rfl (fun _=>Goes.chk rfl Goes.ret) fun h=>nomatch h
  ·have:b=false:=by cases b with
    | false=>rfl
    | true=>exact absurd (hb.1 rfl) c
   subst this
   rw [if_neg c]
   have go:∀ b:Bool,(b=true ↔ (3≤x.op∧x.op≤8)∨x.op=10)→∀ r,Goes prog 13 (f13_1 (I x.op) (B b) (I x.op) (I x.dst) (I x.a) (I x.b) (W x.k) (I x.f) g) r→Goes prog 13 (f13_1 (I x.op) (B (tt ((3≤x.op∧x.op≤8)∨x.op=10))) (I x.op) (I x.dst) (I x.a) (I x.b) (W x.k) (I x.f) g) r:=fun b hb r h=>by
    rw [← tt_eq hb]; exact h
   obtain ⟨y,hy,hr⟩:=h1 (tt ((3≤x.op∧x.op≤8)∨x.op=10)) tt_iff
   refine ⟨y,?_,hr⟩
   have yes:∀ b:Bool,(b=true ↔ (3≤x.op∧x.op≤8)∨x.op=10)→Goes prog 13 (f13_1 (I x.op) (B b) (I x.op) (I x.dst) (I x.a) (I x.b) (W x.k) (I x.f) g) y:=fun b hb=>by
    rw [tt_eq hb]; exact hy
   unfold f13_0
   refine Goes.ite rfl (fun h=>nomatch h) fun _=>?_
   repeat (refine Goes.tv rfl (Goes.ite rfl (fun h=>f13_1_J (yes _ ?_)) fun h=>?_); · simp at h ⊢; omega)
   refine Goes.tv rfl (f13_1_J (yes _ ?_))
   simp at *
   omega
 have yes:∀ b:Bool,(b=true ↔ x.op=2∨x.op=9∨x.op=12)→∀ y,Goes prog 13 (f13_0 (I x.op) (B (tt (x.op=2∨x.op=9∨x.op=12))) (I x.op) (I x.dst) (I x.a) (I x.b) (W x.k) (I x.f) g) y→Goes prog 13 (f13_0 (I x.op) (B b) (I x.op) (I x.dst) (I x.a) (I x.b) (W x.k) (I x.f) g) y:=fun b hb y hy=>by
  rw [tt_eq hb]; exact hy
 obtain ⟨y,hy,hr⟩:=h0 (tt (x.op=2∨x.op=9∨x.op=12)) tt_iff
 refine ⟨y,?_,hr⟩
 refine Runs.of (f13_MR _) ?_
 unfold f13_M
 refine Goes.chk rfl ?_
 repeat (refine Goes.tv rfl (Goes.ite rfl (fun h=>f13_0_J (yes _ ?_ _ hy)) fun h=>?_); · simp at h ⊢; omega)
 refine Goes.tv rfl (f13_0_J (yes _ ?_ _ hy))
 simp at *
 omega
theorem rEndAsks {q:Option Bool} {e:List TV} {x:DEnd} (he:REnd q e x) (hl:x.args.length≤4294967296):∃ y,Runs prog 61 [.agg e] y∧RInts (some true) y (asksE x):=by
 obtain ⟨g,rfl,hg,o1,o2,o3,o4,o5,o6,o7⟩:=he
 obtain ⟨v,hv,hrv⟩:=r41 hg hl
 have one:RInts (some true) (.sl true 1 (chunks 1 1 [I x.a])) [x.a]:=.sl (by simp) (.cons ⟨rfl,o2⟩ .nil) (by simp [chunks])
 have h0:∀ b:Bool,(b=true ↔ x.kind=1∨x.kind=3∨x.kind=5)→∃ y,Goes prog 61 (f61_0 (I x.kind) (B b) (I x.kind) (I x.a) (I x.dst) (I x.f) g (I x.to) (I x.els) (I x.pad)) y∧RInts (some true) y (asksE x):=by
  intro b hb
  unfold asksE
  by_cases c:x.kind=1∨x.kind=3∨x.kind=5
  ·have:b=true:=hb.2 c
   subst this
   rw [if_pos c]
   refine ⟨_,?_,one⟩
   unfold f61_0
   exact Goes.ite rfl (fun _=>Goes.chk rfl Goes.ret) fun h=>nomatch h
  ·have:b=false:=by cases b with
    | false=>rfl
    | true=>exact absurd (hb.1 rfl) c
   subst this
   rw [if_neg c]
   by_cases c2:x.kind=4
   ·rw [if_pos c2]
    refine ⟨v,?_,hrv⟩
    unfold f61_0
    exact Goes.ite rfl (fun h=>nomatch h) fun _=>Goes.tv rfl (Goes.ite (v:=true) (by simp [asBool,c2]) (fun _=>Goes.call hv (Goes.chk (by simp [fitsAt,zSl,isSlV,hrv.isSl]) (Goes.chk (hrv.own fun _ _ h=>h.own) Goes.ret))) fun h=>nomatch h)
   ·rw [if_neg c2]
    refine ⟨_,?_,.nil⟩
    unfold f61_0
    exact Goes.ite rfl (fun h=>nomatch h) fun _=>Goes.tv rfl (Goes.ite (v:=false) (by simp [asBool,c2]) (fun h=>nomatch h) fun _=>Goes.chk rfl Goes.ret)
 obtain ⟨y,hy,hr⟩:=h0 (tt (x.kind=1∨x.kind=3∨x.kind=5)) tt_iff
 have yes:∀ b:Bool,(b=true ↔ x.kind=1∨x.kind=3∨x.kind=5)→Goes prog 61 (f61_0 (I x.kind) (B b) (I x.kind) (I x.a) (I x.dst) (I x.f) g (I x.to) (I x.els) (I x.pad)) y:=fun b hb=>by
  rw [tt_eq hb]; exact hy
 refine ⟨y,?_,hr⟩
 refine Runs.of (f61_MR _) ?_
 unfold f61_M
 refine Goes.chk rfl ?_
 repeat (refine Goes.tv rfl (Goes.ite rfl (fun h=>f61_0_J (yes _ ?_)) fun h=>?_); · simp at h ⊢; omega)
 refine Goes.tv rfl (f61_0_J (yes _ ?_))
 simp at *
 omega
theorem rSets {q:Option Bool} {e:List TV} {x:DIns} (he:RIns q e x):Runs prog 63 [.agg e] (.tup [I ((setsI x).getD 0),B (setsI x).isSome]):=by
 obtain ⟨g,rfl,hg,ho⟩:=he
 have h0:∀ b:Bool,(b=true ↔ 1≤x.op∧x.op≤13∧x.op≠10∧x.op≠12)→Goes prog 63 (f63_0 (B b) (I x.op) (I x.dst) (I x.a) (I x.b) (W x.k) (I x.f) g) (.tup [I ((setsI x).getD 0),B (setsI x).isSome]):=by
  intro b hb
  unfold f63_0 setsI
  by_cases c:1≤x.op∧x.op≤13∧x.op≠10∧x.op≠12
  ·have:b=true:=hb.2 c
   subst this
   rw [if_pos c]
   exact Goes.ite rfl (fun _=>Goes.ret) fun h=>nomatch h
  ·have:b=false:=by cases b with
    | false=>rfl
    | true=>exact absurd (hb.1 rfl) c
   subst this
   rw [if_neg c]
   exact Goes.ite rfl (fun h=>nomatch h) fun _=>Goes.ret
 refine Runs.of (f63_MR _) ?_
 unfold f63_M
 refine Goes.chk rfl ?_
 repeat (refine Goes.tv rfl (Goes.ite rfl (fun h=>f63_0_J (h0 _ ?_)) fun h=>?_); · simp at h ⊢; omega)
 refine Goes.tv rfl (f63_0_J (h0 _ ?_))
 simp at *
 omega
end Go.Ab.A10
end
section
set_option linter.unusedVariables false
set_option linter.unusedSectionVars false
set_option linter.unusedSimpArgs false
set_option maxRecDepth 10000
namespace Go.Ab.A10
open Go Go.Ab Go.Proofs
theorem rAsk1 {x3:TV} {l:List Int} (h3:RInts (some true) x3 l) {R:Nat} (hR:R≤256) (hl:okL R l) {g:Nat→Bool} {y4 y5 y6 y7 y8 y9 y10 y11 y12 y13 y14 y15 y16 y17:TV} {K:TV→Prop}
  (hend:∀ w,RBArr w R (onB g l)→∃ r,Goes prog 45 (f45_0 (I l.length) (I l.length) w x3 y4 y5 y6 y7 y8 y9 y10 y11 y12 y13 y14 y15 y16 y17) r∧K r):∀ (d k:Nat) (w:TV),k + d=l.length→RBArr w R (onB g (l.take k))→∃ r,Goes prog 45 (f45_0 (I l.length) (I k) w x3 y4 y5 y6 y7 y8 y9 y10 y11 y12 y13 y14 y15 y16 y17) r∧K r:=by
 intro d
 induction d with
 | zero =>
  intro k w hk hw
  have hk:k=l.length:=by omega
  subst hk
  rw [List.take_length] at hw
  exact hend w hw
 | succ d ih =>
  intro k w hk hw
  have hkl:k < l.length:=by omega
  have ha:l[k]? = some l[k]:=List.getElem?_eq_getElem hkl
  have hin:=hl _ (List.getElem_mem hkl)
  obtain ⟨e,he,rfl,hi⟩:=h3.pel ha
  have he2:=hw.get (k:=l[k].toNat) (by omega)
  have hbl:=h3.bnd
  obtain ⟨w',hs,hw'⟩:=hw.set (k:=l[k].toNat) (by omega) true
  rw [onB_next ha hin.1] at hw'
  obtain ⟨r,hr,hK⟩:=ih (k + 1) w' (by omega) hw'
  refine ⟨r,?_,hK⟩
  have c1:(Bool.and (Go.Ab.slSize x3 1) (Nat.blt k l.length))=true:=by rw [h3.slSize]; simpa using hkl
  have c2:(Bool.and (Go.Ab.slSize w 1) (Nat.blt l[k].toNat (tabL R (onB g (l.take k))).length))=true:=by rw [hw.slSize,tabL_len]; simp; omega
  unfold f45_0
  refine Goes.tv rfl (Goes.ite (asB_lt hkl) (fun _=>?_) fun h=>nomatch h)
  exact Goes.nat h3.slLen (Goes.nat (asNat_nat (by omega)) (Goes.chk c1 (Goes.tvs he (Goes.chk rfl (Goes.nat hw.slLen (Goes.nat (asNat_in hin.1 ⟨by omega,by omega⟩) (Goes.chk c2 (Goes.tvs he2 (Goes.chk rfl (Goes.tv hs (Goes.tv (inc hkl hbl) (f45_0_J hr))))))))))))
theorem rAsk2 {x3:TV} {l:List Int} (h3:RInts (some true) x3 l) {R:Nat} (hR:R≤256) (hl:okL R l) {g:Nat→Bool} {y4 x5:TV} {K:TV→Prop}
  (hend:∀ w,RBArr w R (onB g l)→∃ r,Goes prog 45 (f45_3 (I l.length) (I l.length) w x3 y4 x5) r∧K r):∀ (d k:Nat) (w:TV),k + d=l.length→RBArr w R (onB g (l.take k))→∃ r,Goes prog 45 (f45_3 (I l.length) (I k) w x3 y4 x5) r∧K r:=by
 intro d
 induction d with
 | zero =>
  intro k w hk hw
  have hk:k=l.length:=by omega
  subst hk
  rw [List.take_length] at hw
  exact hend w hw
 | succ d ih =>
  intro k w hk hw
  have hkl:k < l.length:=by omega
  have ha:l[k]? = some l[k]:=List.getElem?_eq_getElem hkl
  have hin:=hl _ (List.getElem_mem hkl)
  obtain ⟨e,he,rfl,hi⟩:=h3.pel ha
  have he2:=hw.get (k:=l[k].toNat) (by omega)
  have hbl:=h3.bnd
  obtain ⟨w',hs,hw'⟩:=hw.set (k:=l[k].toNat) (by omega) true
  rw [onB_next ha hin.1] at hw'
  obtain ⟨r,hr,hK⟩:=ih (k + 1) w' (by omega) hw'
  refine ⟨r,?_,hK⟩
  have c1:(Bool.and (Go.Ab.slSize x3 1) (Nat.blt k l.length))=true:=by rw [h3.slSize]; simpa using hkl
  have c2:(Bool.and (Go.Ab.slSize w 1) (Nat.blt l[k].toNat (tabL R (onB g (l.take k))).length))=true:=by rw [hw.slSize,tabL_len]; simp; omega
  unfold f45_3
  refine Goes.tv rfl (Goes.ite (asB_lt hkl) (fun _=>?_) fun h=>nomatch h)
  exact Goes.nat h3.slLen (Goes.nat (asNat_nat (by omega)) (Goes.chk c1 (Goes.tvs he (Goes.chk rfl (Goes.nat hw.slLen (Goes.nat (asNat_in hin.1 ⟨by omega,by omega⟩) (Goes.chk c2 (Goes.tvs he2 (Goes.chk rfl (Goes.tv hs (Goes.tv (inc hkl hbl) (f45_3_J hr))))))))))))
theorem rBegin {q q':Option Bool} {e:List TV} {b:DBlock} {x:TV} {R:Nat} {g:Nat→Bool} (he:RBlock q e b) (hx:RBools q' x (tabL R g)) (hR:R≤256) (hb:OkB R b) (hi64:b.ins.length≤64)
  (hal:∀ y ∈ b.ins,y.args.length≤4294967296) (hel:b.fin.args.length≤4294967296):∃ y,Runs prog 45 [.agg e,x] y∧RBArr y R (begB b g):=by
 obtain ⟨c,i,ga,rfl,hc,hd,hi,hg,ho⟩:=he
 obtain ⟨v0,h0,hv0⟩:=rOwnB hx (by rw [tabL_len]; omega)
 obtain ⟨v1,h1,hv1⟩:=rEndAsks (q:=q) (x:=b.fin) (e:=[I b.fin.kind,I b.fin.a,I b.fin.dst,I b.fin.f,ga,I b.fin.to,I b.fin.els,I b.fin.pad]) ⟨ga,rfl,hg,ho⟩ hel
 have ins:∀ (k:Nat) (w:TV),k≤b.ins.length→RBArr w R (begI (b.ins.drop k) (onB g (asksE b.fin)))→∃ r,Goes prog 45 (f45_1 (I ((k:Int) - 1)) i w) r∧RBArr r R (begB b g):=by
  intro k
  induction k with
  | zero =>
   intro w hk hw
   refine ⟨w,?_,by simpa [begB] using hw⟩
   unfold f45_1
   exact Goes.tv rfl (Goes.ite (v:=false) (by simp [asBool]) (fun h=>nomatch h) fun _=>Goes.chk (hw.own fun _ _ h=>h.own) Goes.ret)
  | succ k ih =>
   intro w hk hw
   have hkl:k < b.ins.length:=by omega
   have ha:b.ins[k]? = some b.ins[k]:=List.getElem?_eq_getElem hkl
   have hm:=List.getElem_mem hkl
   have hdr:=List.drop_eq_getElem_cons hkl
   generalize b.ins[k]=y at ha hm hdr
   have e1:((k + 1:Nat):Int) - 1=(k:Int):=by omega
   rw [e1]
   obtain ⟨ey,hey,hry⟩:=hi.idx (k:=.i64) ha
   have hsy:=rSets hry
   obtain ⟨v,hv,hrv⟩:=rAsks hry (hal y hm)
   obtain ⟨gy,rfl,_,_⟩:=hry
   have hbeg:begI (b.ins.drop k) (onB g (asksE b.fin))=stepB y (begI (b.ins.drop (k + 1)) (onB g (asksE b.fin))):=by rw [hdr]; rfl
   have after:∀ w',RBArr w' R (offB (begI (b.ins.drop (k + 1)) (onB g (asksE b.fin))) (setsI y))→∃ r,Goes prog 45 (f45_2 (I y.op) (I y.dst) (I y.a) (I y.b) (W y.k) (I y.f) gy i w' (I k)) r∧RBArr r R (begB b g):=by
    intro w' hw'
    obtain ⟨r,hr,hK⟩:=rAsk2 (y4:=i) (x5:=I k) (K:=fun r=>RBArr r R (begB b g)) hrv hR (hb.asks y hm) (g:=offB (begI (b.ins.drop (k + 1)) (onB g (asksE b.fin))) (setsI y)) (fun w2 hw2=>by
     obtain ⟨r,hr,hK⟩:=ih w2 (by omega) (by rw [hbeg]; exact hw2)
     refine ⟨r,?_,hK⟩
     unfold f45_3
     refine Goes.tv rfl (Goes.ite asB_end (fun h=>nomatch h) fun _=>?_)
     exact Goes.tv (psub (a:=(k:Int)) (b:=1) ⟨by omega,by omega⟩) (f45_1_J hr)) (asksI y).length 0 w' (by omega) (by rw [onB_zero]; exact hw')
    refine ⟨r,?_,hK⟩
    unfold f45_2
    exact Goes.call hv (Goes.chk (by simp [fitsAt,zSl,isSlV,hrv.isSl]) (Goes.tv hrv.len (f45_3_J hr)))
   have ge:asBool (.lit (.bool (decide ((k:Int) ≥ 0))))=some true:=by simp [asBool]
   cases hs:setsI y with
   | none =>
    rw [hs] at hsy after
    rw [offB_none] at after
    obtain ⟨r,hr,hK⟩:=after w hw
    refine ⟨r,?_,hK⟩
    unfold f45_1
    exact Goes.tv rfl (Goes.ite ge (fun _=>Goes.tvs hey (Goes.chk rfl (Goes.call hsy (Goes.chk rfl (Goes.chk rfl (Goes.chk rfl (Goes.ite rfl (fun h=>nomatch h) fun _=>f45_2_J hr))))))) fun h=>nomatch h)
   | some d =>
    rw [hs] at hsy after
    obtain ⟨d0,dR⟩:=hb.sets y hm d hs
    have he2:=hw.get (k:=d.toNat) (by omega)
    obtain ⟨w',hs',hw'⟩:=hw.set (k:=d.toNat) (by omega) false
    rw [offB_some d0] at hw'
    obtain ⟨r,hr,hK⟩:=after w' hw'
    refine ⟨r,?_,hK⟩
    have c2:(Bool.and (Go.Ab.slSize w 1) (Nat.blt d.toNat (tabL R (begI (b.ins.drop (k + 1)) (onB g (asksE b.fin)))).length))=true:=by rw [hw.slSize,tabL_len]; simp; omega
    unfold f45_1
    exact Goes.tv rfl (Goes.ite ge (fun _=>Goes.tvs hey (Goes.chk rfl (Goes.call hsy (Goes.chk rfl (Goes.chk rfl (Goes.chk rfl (Goes.ite rfl (fun _=>Goes.nat hw.slLen (Goes.nat (asNat_in (n:=d) d0 ⟨by omega,by omega⟩) (Goes.chk c2 (Goes.tvs he2 (Goes.chk rfl (Goes.tv hs' (f45_2_J hr))))))) fun h=>nomatch h))))))) fun h=>nomatch h)
 obtain ⟨r,hr,hK⟩:=rAsk1 (y4:=B b.landing) (y5:=I b.pad.dst) (y6:=c) (y7:=B b.pad.all) (y8:=B b.pad.cleanup) (y9:=i) (y10:=I b.fin.kind) (y11:=I b.fin.a) (y12:=I b.fin.dst) (y13:=I b.fin.f) (y14:=ga) (y15:=I b.fin.to) (y16:=I b.fin.els) (y17:=I b.fin.pad)
  (K := fun r => RBArr r R (begB b g)) hv1 hR hb.ends (g := g) (fun w hw => by
   obtain ⟨r,hr,hK⟩:=ins b.ins.length w (Nat.le_refl _) (by rw [List.drop_length]; exact hw)
   refine ⟨r,?_,hK⟩
   unfold f45_0
   refine Goes.tv rfl (Goes.ite asB_end (fun h=>nomatch h) fun _=>?_)
   have hbi:=hi.bnd
   exact Goes.tv hi.len (Goes.tv (psub (a:=(b.ins.length:Int)) (b:=1) ⟨by omega,by omega⟩) (f45_1_J hr))) (asksE b.fin).length 0 v0 (by omega) (by rw [onB_zero]; exact hv0)
 refine ⟨r,?_,hK⟩
 refine Runs.of (f45_MR _ _) ?_
 unfold f45_M
 exact Goes.chk rfl (Goes.call h0 (Goes.chk (by simp [fitsAt,zSl,isSlV,hv0.isSl]) (Goes.call h1 (Goes.chk (by simp [fitsAt,zSl,isSlV,hv1.isSl]) (Goes.tv hv1.len (f45_0_J hr))))))
theorem rAdd0 {q:Option Bool} {x1:TV} {R:Nat} {a g:Nat→Bool} (h1:RBools q x1 (tabL R a)) (hR:R≤256) {s:Int} {y5 y6 y7 y8 y9 y10 y11 y12 y13 y14 y15 y16 y17 y18 y19 y20 y21 y22 y23:TV} {K:TV→Prop}
  (hend:∀ w,RBArr w R (addB g a s)→∃ r,Goes prog 47 (f47_0 (I s) x1 (I R) (I R) w y5 y6 y7 y8 y9 y10 y11 y12 y13 y14 y15 y16 y17 y18 y19 y20 y21 y22 y23) r∧K r):∀ (d k:Nat) (w:TV),k + d=R→RBArr w R (addTo g a s k)→∃ r,Goes prog 47 (f47_0 (I s) x1 (I R) (I k) w y5 y6 y7 y8 y9 y10 y11 y12 y13 y14 y15 y16 y17 y18 y19 y20 y21 y22 y23) r∧K r:=by
 intro d
 induction d with
 | zero =>
  intro k w hk hw
  have hk:k=R:=by omega
  subst hk
  refine hend w ?_
  have:=hw
  unfold RBArr at this ⊢
  rw [addTo_end] at this
  exact this
 | succ d ih =>
  intro k w hk hw
  have hkl:k < R:=by omega
  obtain ⟨e,he,hre⟩:=h1.idx (k:=.i64) (tabL_get hkl)
  cases hre
  have hbl:R≤9223372036854775807:=by omega
  have jn:∀ {w'},RBArr w' R (addTo g a s (k + 1))→∃ r,Goes prog 47 (.tv (pbin (.int .i64) .add (I k) (I 1)) fun v=>.jmp _ (f47_0_S (I s) x1 (I R) v w' y5 y6 y7 y8 y9 y10 y11 y12 y13 y14 y15 y16 y17 y18 y19 y20 y21 y22 y23)) r∧K r:=fun hw'=>by
   obtain ⟨r,hr,hK⟩:=ih (k + 1) _ (by omega) hw'
   exact ⟨r,Goes.tv (inc hkl hbl) (f47_0_J hr),hK⟩
  cases hak:a k with
  | false =>
   rw [addTo_no (by rw [hak]; rintro ⟨h,_⟩; cases h)] at hw
   obtain ⟨r,hr,hK⟩:=jn hw
   refine ⟨r,?_,hK⟩
   rw [hak] at he
   unfold f47_0
   refine Goes.tv rfl (Goes.ite (asB_lt hkl) (fun _=>?_) fun h=>nomatch h)
   exact Goes.tvs he (Goes.chk rfl (Goes.ite rfl (fun h=>nomatch h) fun _=>hr))
  | true =>
   rw [hak] at he
   by_cases hks:s=(k:Int)
   ·rw [addTo_no (fun h=>h.2 hks)] at hw
    obtain ⟨r,hr,hK⟩:=jn hw
    refine ⟨r,?_,hK⟩
    unfold f47_0
    refine Goes.tv rfl (Goes.ite (asB_lt hkl) (fun _=>?_) fun h=>nomatch h)
    exact Goes.tvs he (Goes.chk rfl (Goes.ite rfl (fun _=>Goes.tv rfl (Goes.ite (v:=false) (by simp [asBool,hks]) (fun h=>nomatch h) fun _=>hr)) fun h=>nomatch h))
   ·have he2:=hw.get hkl
    obtain ⟨w',hs,hw'⟩:=hw.set hkl true
    rw [addTo_yes hak hks] at hw'
    obtain ⟨r,hr,hK⟩:=jn hw'
    refine ⟨r,?_,hK⟩
    have c2:(Bool.and (Go.Ab.slSize w 1) (Nat.blt k (tabL R (addTo g a s k)).length))=true:=by rw [hw.slSize,tabL_len]; simpa using hkl
    unfold f47_0
    refine Goes.tv rfl (Goes.ite (asB_lt hkl) (fun _=>?_) fun h=>nomatch h)
    exact Goes.tvs he (Goes.chk rfl (Goes.ite rfl (fun _=>Goes.tv rfl (Goes.ite (v:=true) (by simp [asBool]; exact fun h=>hks h.symm) (fun _=>Goes.nat hw.slLen (Goes.nat (asNat_nat (by omega)) (Goes.chk c2 (Goes.tvs he2 (Goes.chk rfl (Goes.tv hs hr)))))) fun h=>nomatch h)) fun h=>nomatch h))
theorem rAdd2 {q:Option Bool} {x1:TV} {R:Nat} {a g:Nat→Bool} (h1:RBools q x1 (tabL R a)) (hR:R≤256) {s:Int}  {K:TV→Prop}
  (hend:∀ w,RBArr w R (addB g a s)→∃ r,Goes prog 47 (f47_2 (I s) x1 (I R) (I R) w ) r∧K r):∀ (d k:Nat) (w:TV),k + d=R→RBArr w R (addTo g a s k)→∃ r,Goes prog 47 (f47_2 (I s) x1 (I R) (I k) w ) r∧K r:=by
 intro d
 induction d with
 | zero =>
  intro k w hk hw
  have hk:k=R:=by omega
  subst hk
  refine hend w ?_
  have:=hw
  unfold RBArr at this ⊢
  rw [addTo_end] at this
  exact this
 | succ d ih =>
  intro k w hk hw
  have hkl:k < R:=by omega
  obtain ⟨e,he,hre⟩:=h1.idx (k:=.i64) (tabL_get hkl)
  cases hre
  have hbl:R≤9223372036854775807:=by omega
  have jn:∀ {w'},RBArr w' R (addTo g a s (k + 1))→∃ r,Goes prog 47 (.tv (pbin (.int .i64) .add (I k) (I 1)) fun v=>.jmp _ (f47_2_S (I s) x1 (I R) v w' )) r∧K r:=fun hw'=>by
   obtain ⟨r,hr,hK⟩:=ih (k + 1) _ (by omega) hw'
   exact ⟨r,Goes.tv (inc hkl hbl) (f47_2_J hr),hK⟩
  cases hak:a k with
  | false =>
   rw [addTo_no (by rw [hak]; rintro ⟨h,_⟩; cases h)] at hw
   obtain ⟨r,hr,hK⟩:=jn hw
   refine ⟨r,?_,hK⟩
   rw [hak] at he
   unfold f47_2
   refine Goes.tv rfl (Goes.ite (asB_lt hkl) (fun _=>?_) fun h=>nomatch h)
   exact Goes.tvs he (Goes.chk rfl (Goes.ite rfl (fun h=>nomatch h) fun _=>hr))
  | true =>
   rw [hak] at he
   by_cases hks:s=(k:Int)
   ·rw [addTo_no (fun h=>h.2 hks)] at hw
    obtain ⟨r,hr,hK⟩:=jn hw
    refine ⟨r,?_,hK⟩
    unfold f47_2
    refine Goes.tv rfl (Goes.ite (asB_lt hkl) (fun _=>?_) fun h=>nomatch h)
    exact Goes.tvs he (Goes.chk rfl (Goes.ite rfl (fun _=>Goes.tv rfl (Goes.ite (v:=false) (by simp [asBool,hks]) (fun h=>nomatch h) fun _=>hr)) fun h=>nomatch h))
   ·have he2:=hw.get hkl
    obtain ⟨w',hs,hw'⟩:=hw.set hkl true
    rw [addTo_yes hak hks] at hw'
    obtain ⟨r,hr,hK⟩:=jn hw'
    refine ⟨r,?_,hK⟩
    have c2:(Bool.and (Go.Ab.slSize w 1) (Nat.blt k (tabL R (addTo g a s k)).length))=true:=by rw [hw.slSize,tabL_len]; simpa using hkl
    unfold f47_2
    refine Goes.tv rfl (Goes.ite (asB_lt hkl) (fun _=>?_) fun h=>nomatch h)
    exact Goes.tvs he (Goes.chk rfl (Goes.ite rfl (fun _=>Goes.tv rfl (Goes.ite (v:=true) (by simp [asBool]; exact fun h=>hks h.symm) (fun _=>Goes.nat hw.slLen (Goes.nat (asNat_nat (by omega)) (Goes.chk c2 (Goes.tvs he2 (Goes.chk rfl (Goes.tv hs hr)))))) fun h=>nomatch h)) fun h=>nomatch h))
theorem rAdd3 {q:Option Bool} {x1:TV} {R:Nat} {a g:Nat→Bool} (h1:RBools q x1 (tabL R a)) (hR:R≤256) {s:Int} {y5 y6 y7 y8 y9 w10 x11 x12:TV} {K:TV→Prop}
  (hend:∀ w,RBArr w R (addB g a s)→∃ r,Goes prog 47 (f47_3 (I s) x1 (I R) (I R) w y5 y6 y7 y8 y9 w10 x11 x12) r∧K r):∀ (d k:Nat) (w:TV),k + d=R→RBArr w R (addTo g a s k)→∃ r,Goes prog 47 (f47_3 (I s) x1 (I R) (I k) w y5 y6 y7 y8 y9 w10 x11 x12) r∧K r:=by
 intro d
 induction d with
 | zero =>
  intro k w hk hw
  have hk:k=R:=by omega
  subst hk
  refine hend w ?_
  have:=hw
  unfold RBArr at this ⊢
  rw [addTo_end] at this
  exact this
 | succ d ih =>
  intro k w hk hw
  have hkl:k < R:=by omega
  obtain ⟨e,he,hre⟩:=h1.idx (k:=.i64) (tabL_get hkl)
  cases hre
  have hbl:R≤9223372036854775807:=by omega
  have jn:∀ {w'},RBArr w' R (addTo g a s (k + 1))→∃ r,Goes prog 47 (.tv (pbin (.int .i64) .add (I k) (I 1)) fun v=>.jmp _ (f47_3_S (I s) x1 (I R) v w' y5 y6 y7 y8 y9 w10 x11 x12)) r∧K r:=fun hw'=>by
   obtain ⟨r,hr,hK⟩:=ih (k + 1) _ (by omega) hw'
   exact ⟨r,Goes.tv (inc hkl hbl) (f47_3_J hr),hK⟩
  cases hak:a k with
  | false =>
   rw [addTo_no (by rw [hak]; rintro ⟨h,_⟩; cases h)] at hw
   obtain ⟨r,hr,hK⟩:=jn hw
   refine ⟨r,?_,hK⟩
   rw [hak] at he
   unfold f47_3
   refine Goes.tv rfl (Goes.ite (asB_lt hkl) (fun _=>?_) fun h=>nomatch h)
   exact Goes.tvs he (Goes.chk rfl (Goes.ite rfl (fun h=>nomatch h) fun _=>hr))
  | true =>
   rw [hak] at he
   by_cases hks:s=(k:Int)
   ·rw [addTo_no (fun h=>h.2 hks)] at hw
    obtain ⟨r,hr,hK⟩:=jn hw
    refine ⟨r,?_,hK⟩
    unfold f47_3
    refine Goes.tv rfl (Goes.ite (asB_lt hkl) (fun _=>?_) fun h=>nomatch h)
    exact Goes.tvs he (Goes.chk rfl (Goes.ite rfl (fun _=>Goes.tv rfl (Goes.ite (v:=false) (by simp [asBool,hks]) (fun h=>nomatch h) fun _=>hr)) fun h=>nomatch h))
   ·have he2:=hw.get hkl
    obtain ⟨w',hs,hw'⟩:=hw.set hkl true
    rw [addTo_yes hak hks] at hw'
    obtain ⟨r,hr,hK⟩:=jn hw'
    refine ⟨r,?_,hK⟩
    have c2:(Bool.and (Go.Ab.slSize w 1) (Nat.blt k (tabL R (addTo g a s k)).length))=true:=by rw [hw.slSize,tabL_len]; simpa using hkl
    unfold f47_3
    refine Goes.tv rfl (Goes.ite (asB_lt hkl) (fun _=>?_) fun h=>nomatch h)
    exact Goes.tvs he (Goes.chk rfl (Goes.ite rfl (fun _=>Goes.tv rfl (Goes.ite (v:=true) (by simp [asBool]; exact fun h=>hks h.symm) (fun _=>Goes.nat hw.slLen (Goes.nat (asNat_nat (by omega)) (Goes.chk c2 (Goes.tvs he2 (Goes.chk rfl (Goes.tv hs hr)))))) fun h=>nomatch h)) fun h=>nomatch h))
end Go.Ab.A10
end
section
set_option linter.unusedVariables false
set_option linter.unusedSectionVars false
set_option linter.unusedSimpArgs false
set_option maxRecDepth 10000
namespace Go.Ab
structure OkG (N:Nat) (e:DEnd):Prop where
 to:e.kind=2∨e.kind=3∨e.kind=4→0≤e.to∧e.to.toNat < N
 els:e.kind=3→0≤e.els∧e.els.toNat < N
 pad:e.kind=4→0≤e.pad∧e.pad.toNat < N
def prA (A:Nat→Nat→Bool) (n i:Nat):Prop:=A n i=true
theorem RTab.row {q:Option Bool} {w:TV} {N R:Nat} {F:Nat→Option (Nat→Bool)} (h:RTab q w N R F) {n:Nat} (hn:n < N) {g:Nat→Bool} (hg:F n=some g):∃ r,Go.Ab.pel w n=some [r]∧RBools q r (tabL R g):=by
 obtain ⟨e,he,hr⟩:=RL.pel h (i:=n) (a:=some (tabL R g)) (by rw [tabL_get hn,hg]; rfl)
 obtain ⟨r,rfl,hr⟩:=hr
 exact ⟨r,he,hr⟩
theorem RTab.rowI {q:Option Bool} {w:TV} {N R:Nat} {F:Nat→Option (Nat→Bool)} (h:RTab q w N R F) {n:Int} (h0:0≤n) (hn:n.toNat < N) {g:Nat→Bool} (hg:F n.toNat=some g):∃ r,pidx 1 w (I n)=some [r]∧RBools q r (tabL R g):=by
 obtain ⟨e,he,hr⟩:=RL.idxI h (k:=.i64) h0 (a:=some (tabL R g)) (by rw [tabL_get hn,hg]; rfl)
 obtain ⟨r,rfl,hr⟩:=hr
 exact ⟨r,he,hr⟩
theorem RTab.set {w:TV} {N R:Nat} {F:Nat→Option (Nat→Bool)} (h:RTab (some true) w N R F) {n:Nat} (hn:n < N) {g:Nat→Bool} {r:TV} (hr:RBArr r R g):∃ e w',Go.Ab.pel w n=some e∧fitsOld zSl e 0=true∧setC [] w n 0 [r]=some w'∧RTab (some true) w' N R (updF F n (some g)):=by
 obtain ⟨e,he,hre⟩:=RL.pel h (tabL_get hn)
 obtain ⟨r0,rfl,hs0⟩:=RRow.isSl hre
 obtain ⟨w',h1,h2⟩:=RL.setAt h he (d:=0) (ys:=[r]) (a:=some (tabL R g)) ⟨r,rfl,hr⟩
 refine ⟨[r0],w',he,by simp [fitsOld,zSl,isSlV,hs0],h1,?_⟩
 rw [tabL_set] at h2
 have e2:updF (fun n=>(F n).map (tabL R)) n (some (tabL R g))=fun m=>(updF F n (some g) m).map (tabL R):=by
  funext m
  by_cases e:m=n
  ·subst e; rw [updF_at,updF_at]; rfl
  ·rw [updF_ne e,updF_ne e]
 rw [e2] at h2
 exact h2
theorem RTab.size {q:Option Bool} {w:TV} {N R:Nat} {F:Nat→Option (Nat→Bool)} (h:RTab q w N R F) {n:Nat} (hn:n < N):Go.Ab.slLen w=some N∧(Bool.and (Go.Ab.slSize w 1) (Nat.blt n N))=true:=by
 refine ⟨by rw [RL.slLen h,tabL_len],?_⟩
 rw [RL.slSize h]
 simpa using hn
theorem RTab.frz {q:Option Bool} {w:TV} {N R:Nat} {F:Nat→Option (Nat→Bool)} (h:RTab q w N R F):RTab (some false) (Ab.frz w) N R F:=RL.frz h fun _ _ h=>h.frz
theorem noRow (R:Nat) (hR:R≤256):RBArr (.sl true 1 (List.replicate R [B false])) R fun _=>false:=by
 refine .sl (by simp) ?_ (by simp; omega)
 rw [← tabL_rep]
 refine F2.of_get (by simp) fun i e a h1 h2=>?_
 obtain ⟨hi,rfl⟩:=List.getElem?_eq_some_iff.1 h1
 obtain ⟨hi2,rfl⟩:=List.getElem?_eq_some_iff.1 h2
 rw [List.getElem_replicate,List.getElem_replicate]
 rfl
theorem noTab {R:Nat} (N:Nat) (hN:N≤64):RTab (some true) (.sl true 1 (List.replicate N [.lit nilV])) N R fun _=>none:=by
 refine .sl (by simp) ?_ (by simp; omega)
 rw [show (tabL N fun n=>(none:Option (Nat→Bool)).map (tabL R))=List.replicate N none by rw [tabL_rep]; rfl]
 refine F2.of_get (by simp) fun i e a h1 h2=>?_
 obtain ⟨hi,rfl⟩:=List.getElem?_eq_some_iff.1 h1
 obtain ⟨hi2,rfl⟩:=List.getElem?_eq_some_iff.1 h2
 rw [List.getElem_replicate,List.getElem_replicate]
 rfl
noncomputable def anyB (A:Nat→Nat→Bool) (l:List Int):Nat→Bool:=fun i=>tt (∃ t ∈ l,A t.toNat i=true)
theorem anyB_t {A:Nat→Nat→Bool} {l:List Int} {i:Nat}:anyB A l i=true ↔ ∃ t ∈ l,A t.toNat i=true:=tt_iff
theorem anyB_next {A:Nat→Nat→Bool} {l:List Int} {k:Nat} {p:Int} (hp:l[k]? = some p):addB (anyB A (l.take k)) (A p.toNat) (-1)=anyB A (l.take (k + 1)):=by
 funext i
 apply bool_ext
 rw [addB_t,anyB_t,anyB_t,List.take_add_one,hp]
 constructor
 ·rintro (⟨t,h1,h2⟩ | ⟨h1,h2⟩)
  ·exact ⟨t,List.mem_append_left _ h1,h2⟩
  ·exact ⟨p,List.mem_append_right _ (by simp),h1⟩
 ·rintro ⟨t,h1,h2⟩
  rcases List.mem_append.1 h1 with h1 | h1
  ·exact .inl ⟨t,h1,h2⟩
  ·simp at h1
   subst h1
   exact .inr ⟨h2,by omega⟩
end Go.Ab
namespace Go.Ab.A10
open Go Go.Ab Go.Proofs
theorem rBehindEnd {q qb qt : Option Bool} {bl at_ be : TV} {e : List TV} {params : Int} {bs : List DBlock} {b : DBlock} {R : Nat} {A : Nat → Nat → Bool} (hbl : RL q 14 (RBlock q) bl bs) (hat : RTab qt at_ bs.length R fun n => some (A n)) (he : RBlock qb e b) (hR : R ≤ 256) (hG : OkG bs.length b.fin) :
  ∃ y,Runs prog 47 [.agg [I params,I (R:Int),bl,at_,be],.agg e] y∧RBArr y R (behB bs (prA A) b.fin):=by
 have hgo:=r15 he
 obtain ⟨c,i,ga,rfl,hc,hd,hi,hg,ho⟩:=he
 have hn:asNat (I (R:Int))=some R:=asNat_nat (by omega)
 have hle:(Bool.and (Nat.ble R R) (Nat.ble R 4294967296))=true:=by simp; omega
 have fin:∀ {w:TV} {g:Nat→Bool},RBArr w R g→(∀ i,i < R→(g i=true ↔ NextP bs (prA A) b.fin i))→RBArr w R (behB bs (prA A) b.fin):=fun {w g} hw h=>by
  have:tabL R g=tabL R (behB bs (prA A) b.fin):=tabL_congr fun i hi=>bool_ext ((h i hi).trans tt_iff.symm)
  unfold RBArr at hw ⊢
  rw [this] at hw
  exact hw
 by_cases k4:b.fin.kind=4
 ·obtain ⟨t0,tN⟩:=hG.to (.inr (.inr k4))
  obtain ⟨p0,pN⟩:=hG.pad k4
  obtain ⟨r1,hr1,hrr1⟩:=hat.rowI t0 tN rfl
  obtain ⟨r2,hr2,hrr2⟩:=hat.rowI p0 pN rfl
  have hpb:bs[b.fin.pad.toNat]? = some bs[b.fin.pad.toNat]:=List.getElem?_eq_getElem pN
  generalize bs[b.fin.pad.toNat]=pb at hpb
  obtain ⟨ep,hep,hrp⟩:=hbl.idxI (k:=.i64) p0 hpb
  obtain ⟨c2,i2,g2,rfl,_⟩:=hrp
  have hl1:=hrr1.len (t:=4)
  have hl2:=hrr2.len (t:=4)
  rw [tabL_len] at hl1 hl2
  obtain ⟨r,hr,hK⟩:=rAdd0 (y5:=I params) (y6:=I (R:Int)) (y7:=bl) (y8:=at_) (y9:=be) (y10:=B b.landing) (y11:=I b.pad.dst) (y12:=c) (y13:=B b.pad.all) (y14:=B b.pad.cleanup) (y15:=i) (y16:=I b.fin.kind) (y17:=I b.fin.a) (y18:=I b.fin.dst) (y19:=I b.fin.f) (y20:=ga) (y21:=I b.fin.to) (y22:=I b.fin.els) (y23:=I b.fin.pad)
   (K := fun r => RBArr r R (behB bs (prA A) b.fin)) hrr1 hR (s := b.fin.dst) (g := fun _ => false) (fun w hw => by
    obtain ⟨r,hr,hK⟩:=rAdd2 (K:=fun r=>RBArr r R (behB bs (prA A) b.fin)) hrr2 hR (s:=pb.pad.dst) (g:=addB (fun _=>false) (A b.fin.to.toNat) b.fin.dst) (fun w2 hw2=>by
     refine ⟨w2,?_,fin hw2 fun i hi=>?_⟩
     ·unfold f47_2
      refine Goes.tv rfl (Goes.ite asB_end (fun h=>nomatch h) fun _=>?_)
      exact Goes.chk (hw2.own fun _ _ h=>h.own) Goes.ret
     ·rw [addB_t,addB_t]
      unfold NextP prA
      constructor
      ·rintro ((h | ⟨h1,h2⟩) | ⟨h1,h2⟩)
       ·cases h
       ·exact .inl ⟨.inr (.inr ⟨k4,h2⟩),h1⟩
       ·exact .inr (.inr ⟨k4,pb,hpb,h2,h1⟩)
      ·rintro (⟨h1,h2⟩ | ⟨h1,h2⟩ | ⟨h1,pb',h2,h3,h4⟩)
       ·rcases h1 with h1 | h1 | ⟨_,h1⟩
        ·omega
        ·omega
        ·exact .inl (.inr ⟨h2,h1⟩)
       ·omega
       ·rw [hpb] at h2
        cases h2
        exact .inr ⟨h4,h3⟩) R 0 w (by omega) (by rw [addTo_zero]; exact hw)
    refine ⟨r,?_,hK⟩
    unfold f47_0
    refine Goes.tv rfl (Goes.ite asB_end (fun h=>nomatch h) fun _=>?_)
    exact Goes.tvs hep (Goes.chk rfl (Goes.tvs hr2 (Goes.chk rfl (Goes.tv hl2 (f47_2_J hr)))))) R 0 _ (by omega) (by rw [addTo_zero]; exact noRow R hR)
  refine ⟨r,?_,hK⟩
  refine Runs.of (f47_MR _ _) ?_
  unfold f47_M
  exact Goes.chk rfl (Goes.chk rfl (Goes.nat hn (Goes.nat hn (Goes.chk hle (Goes.tv rfl (Goes.ite (v:=true) (by simp [asBool,k4]) (fun _=>Goes.tvs hr1 (Goes.chk rfl (Goes.tv hl1 (f47_0_J hr)))) fun h=>nomatch h))))))
 ·obtain ⟨y,hy,hry⟩:=hgo
  have hgl:∀ t ∈ gl b,0≤t∧t.toNat < bs.length:=by
   intro t ht
   unfold gl at ht
   rcases List.mem_append.1 ht with h | h
   ·split at h
    ·rename_i hk
     simp at h
     subst h
     exact hG.to hk
    ·cases h
   ·split at h
    ·rename_i hk
     simp at h
     subst h
     exact hG.els hk
    ·cases h
  have hyb:=hry.bnd
  have loop : ∀ (d j : Nat) (w : TV), j + d = (gl b).length → RBArr w R (anyB A ((gl b).take j)) → ∃ r, Goes prog 47 (f47_1 (I (gl b).length) (I j) (I params) (I (R : Int)) bl at_ be w y) r ∧ RBArr r R (behB bs (prA A) b.fin) := by
   intro d
   induction d with
   | zero =>
    intro j w hj hw
    have hj:j=(gl b).length:=by omega
    subst hj
    rw [List.take_length] at hw
    refine ⟨w,?_,fin hw fun i hi=>?_⟩
    ·unfold f47_1
     refine Goes.tv rfl (Goes.ite asB_end (fun h=>nomatch h) fun _=>?_)
     exact Goes.chk (hw.own fun _ _ h=>h.own) Goes.ret
    ·rw [anyB_t]
     unfold NextP prA gl
     constructor
     ·rintro ⟨t,h1,h2⟩
      rcases List.mem_append.1 h1 with h | h
      ·split at h
       ·rename_i hk
        simp at h
        subst h
        refine .inl ⟨?_,h2⟩
        rcases hk with hk | hk | hk
        ·exact .inl hk
        ·exact .inr (.inl hk)
        ·exact absurd hk k4
       ·cases h
      ·split at h
       ·rename_i hk
        simp at h
        subst h
        exact .inr (.inl ⟨hk,h2⟩)
       ·cases h
     ·rintro (⟨h1,h2⟩ | ⟨h1,h2⟩ | ⟨h1,_⟩)
      ·refine ⟨_,List.mem_append_left _ ?_,h2⟩
       rw [if_pos (by omega)]
       simp
      ·refine ⟨_,List.mem_append_right _ ?_,h2⟩
       rw [if_pos h1]
       simp
      ·exact absurd h1 k4
   | succ d ih =>
    intro j w hj hw
    have hjl:j < (gl b).length:=by omega
    have ha:(gl b)[j]? = some (gl b)[j]:=List.getElem?_eq_getElem hjl
    obtain ⟨t0,tN⟩:=hgl _ (List.getElem_mem hjl)
    obtain ⟨e,he,rfl,_⟩:=hry.pel ha
    obtain ⟨r1,hr1,hrr1⟩:=hat.rowI t0 tN rfl
    have hl1:=hrr1.len (t:=4)
    rw [tabL_len] at hl1
    obtain ⟨r,hr,hK⟩:=rAdd3 (y5:=I params) (y6:=I (R:Int)) (y7:=bl) (y8:=at_) (y9:=be) (w10:=y) (x11:=I (gl b).length) (x12:=I j) (K:=fun r=>RBArr r R (behB bs (prA A) b.fin)) hrr1 hR (s:=-1) (g:=anyB A ((gl b).take j)) (fun w2 hw2=>by
     rw [anyB_next ha] at hw2
     obtain ⟨r,hr,hK⟩:=ih (j + 1) w2 (by omega) hw2
     refine ⟨r,?_,hK⟩
     unfold f47_3
     refine Goes.tv rfl (Goes.ite asB_end (fun h=>nomatch h) fun _=>?_)
     exact Goes.tv (inc hjl hyb) (f47_1_J hr)) R 0 w (by omega) (by rw [addTo_zero]; exact hw)
    refine ⟨r,?_,hK⟩
    have c1:(Bool.and (Go.Ab.slSize y 1) (Nat.blt j (gl b).length))=true:=by rw [hry.slSize]; simpa using hjl
    unfold f47_1
    refine Goes.tv rfl (Goes.ite (asB_lt hjl) (fun _=>?_) fun h=>nomatch h)
    exact Goes.nat hry.slLen (Goes.nat (asNat_nat (by omega)) (Goes.chk c1 (Goes.tvs he (Goes.chk rfl (Goes.tvs hr1 (Goes.chk rfl (Goes.tv hl1 (f47_3_J hr))))))))
  obtain ⟨r,hr,hK⟩:=loop (gl b).length 0 _ (by omega) (by
   have:=noRow R hR
   have e:anyB A ((gl b).take 0)=fun _=>false:=by
    funext i
    apply bool_ext
    rw [anyB_t]
    simp
   rw [e]
   exact this)
  refine ⟨r,?_,hK⟩
  refine Runs.of (f47_MR _ _) ?_
  unfold f47_M
  exact Goes.chk rfl (Goes.chk rfl (Goes.nat hn (Goes.nat hn (Goes.chk hle (Goes.tv rfl (Goes.ite (v:=false) (by simp [asBool,k4]) (fun h=>nomatch h) fun _=>Goes.call hy (Goes.chk (by simp [fitsAt,zSl,isSlV,hry.isSl]) (Goes.tv hry.len (f47_1_J hr)))))))))
end Go.Ab.A10
end
section
set_option linter.unusedVariables false
set_option linter.unusedSectionVars false
set_option linter.unusedSimpArgs false
set_option maxRecDepth 10000
namespace Go.Ab
def callI (x:DIns):List (Int × List Int):=if x.op=11 then [(x.f,x.args)] else []
def callE (e:DEnd):List (Int × List Int):=if e.kind=4 then [(e.f,e.args)] else []
def callsB (b:DBlock):List (Int × List Int):=b.ins.flatMap callI ++ callE b.fin
def parN (l:List Int):Int:=if 8 < (l.length:Int) then 8 else l.length
theorem parN_in (l:List Int):0≤parN l∧parN l≤8:=by unfold parN; split <;> omega
def suitP (P:Nat→Int) (n:Int) (l:List Int):Nat→Int:=if 0≤n∧n < 16 then updF P n.toNat (parN l) else P
def suitL (P:Nat→Int) (l:List (Int × List Int)):Nat→Int:=l.foldl (fun P c=>suitP P c.1 c.2) P
def fnL (P:Nat→Int):List DFunc:=tabL 16 fun n=>⟨P n,0,[]⟩
abbrev RFn (w:TV) (P:Nat→Int):Prop:=RL (some true) 3 (RFunc (some true)) w (fnL P)
def okPar (P:Nat→Int):Prop:=∀ n,0≤P n∧P n≤8
theorem okPar.next {P:Nat→Int} (h:okPar P) (n:Int) (l:List Int):okPar (suitP P n l):=by
 intro m
 unfold suitP
 split
 ·by_cases e:m=n.toNat
  ·rw [e,updF_at]; exact parN_in l
  ·rw [updF_ne e]; exact h m
 ·exact h m
theorem pmin8 {l:List Int}:pmin false (I (l.length:Int)) (I 8)=some (I (parN l)):=rfl
end Go.Ab
namespace Go.Ab.A10
open Go Go.Ab Go.Proofs
theorem block_okG {fs:List DFunc} {regs:Int} {bs:List DBlock} {b:DBlock} (h:blockP fs regs bs b):OkG bs.length b.fin:=by
 obtain ⟨_,_,_,_,_,_,_,h1,h2,h3⟩:=h
 have lt:∀ {n:Int} {l:Bool},goalAt bs n l→0≤n∧n.toNat < bs.length:=fun ⟨h0,b,hb,_⟩=>⟨h0,(List.getElem?_eq_some_iff.1 hb).1⟩
 refine ⟨fun hk=>lt (h1.1 ?_),fun hk=>lt (h2.1 ?_),fun hk=>lt (h3.1 ?_)⟩
 ·exact (has64 _).2 hk
 ·exact (has128 _).2 hk
 ·rw [hk]; decide +kernel
theorem block_okB {fs:List DFunc} {regs:Int} {bs:List DBlock} {b:DBlock} (hr:0≤regs) (h:blockP fs regs bs b):OkB regs.toNat b:=by
 obtain ⟨_,_,hi,he0,ha,hd,hc,_⟩:=h
 have wi:∀ {p:Int},within p regs→0≤p∧p < regs.toNat:=fun h=>⟨h.1,by have:=h.2; omega⟩
 refine ⟨fun p hp=>?_,fun x hx p hp=>?_,fun x hx d hs=>?_⟩
 ·unfold asksE at hp
  split at hp
  ·rename_i hk
   simp at hp
   subst hp
   refine wi (ha.1 ?_)
   rcases hk with hk | hk | hk <;> (rw [hk]; decide +kernel)
  ·split at hp
   ·rename_i hk
    have:=hc.1 (by rw [hk]; decide +kernel)
    obtain ⟨_,g,_,_,h⟩:=this
    obtain ⟨i,hi,rfl⟩:=List.mem_iff_getElem.1 hp
    exact wi (h i hi _ (List.getElem?_eq_getElem hi))
   ·cases hp
 ·obtain ⟨i,hil,hxi⟩:=List.mem_iff_getElem.1 hx
  obtain ⟨_,hd,ha,hb,_,hc⟩:=hi i hil x (by rw [List.getElem?_eq_getElem hil,hxi])
  have opA:∀ {k:Int},(k=2∨k=9∨k=12)∨(3≤k∧k≤8)∨k=10→has (usesI k) 4=true:=fun {k} hk=>by
   have:k=2∨k=9∨k=12∨k=3∨k=4∨k=5∨k=6∨k=7∨k=8∨k=10:=by omega
   rcases this with h | h | h | h | h | h | h | h | h | h <;> (subst h; decide +kernel)
  have opB:∀ {k:Int},(3≤k∧k≤8)∨k=10→has (usesI k) 8=true:=fun {k} hk=>by
   have:k=3∨k=4∨k=5∨k=6∨k=7∨k=8∨k=10:=by omega
   rcases this with h | h | h | h | h | h | h <;> (subst h; decide +kernel)
  unfold asksI at hp
  split at hp
  ·rename_i hk
   simp at hp
   subst hp
   exact wi (ha.1 (opA (.inl hk)))
  ·split at hp
   ·rename_i hk
    simp at hp
    rcases hp with rfl | rfl
    ·exact wi (ha.1 (opA (.inr hk)))
    ·exact wi (hb.1 (opB hk))
   ·split at hp
    ·rename_i hk
     obtain ⟨_,g,_,_,h⟩:=hc.1 (by rw [hk]; decide +kernel)
     obtain ⟨i,hi,rfl⟩:=List.mem_iff_getElem.1 hp
     exact wi (h i hi _ (List.getElem?_eq_getElem hi))
    ·cases hp
 ·obtain ⟨i,hil,hxi⟩:=List.mem_iff_getElem.1 hx
  obtain ⟨_,hd,_⟩:=hi i hil x (by rw [List.getElem?_eq_getElem hil,hxi])
  unfold setsI at hs
  split at hs
  ·rename_i hk
   simp at hs
   subst hs
   refine wi (hd.1 ?_)
   have hk2:x.op=1∨x.op=2∨x.op=3∨x.op=4∨x.op=5∨x.op=6∨x.op=7∨x.op=8∨x.op=9∨x.op=11∨x.op=13:=by omega
   rcases hk2 with h | h | h | h | h | h | h | h | h | h | h <;> (rw [h]; decide +kernel)
  ·cases hs
theorem args_short {fs:List DFunc} {regs:Int} {bs:List DBlock} {b:DBlock} (hf:∀ g ∈ fs,g.params≤8) (h:blockP fs regs bs b):(∀ x ∈ b.ins,x.args.length≤8)∧b.fin.args.length≤8:=by
 obtain ⟨_,_,hi,_,_,_,hc,_⟩:=h
 have one:∀ {u:Bool} {n:Int} {l:List Int},callP u fs regs n l→l.length≤8:=fun {u n l} h=>by
  cases u with
  | true =>
   obtain ⟨_,g,hg,hl,_⟩:=h.1 rfl
   have:=hf g (List.mem_of_getElem? hg)
   omega
  | false=>rw [(h.2 rfl).2]; simp
 refine ⟨fun x hx=>?_,one hc⟩
 obtain ⟨i,hil,hxi⟩:=List.mem_iff_getElem.1 hx
 exact one (hi i hil x (by rw [List.getElem?_eq_getElem hil,hxi])).2.2.2.2.2
section
variable {q:Option Bool} {bl:TV} {params regs:Int} {f:DFunc} (hf:RL q 14 (RBlock q) bl f.blocks) (hfp:inI f.params) (hfr:inI f.regs)
theorem fn_set {w:TV} {P:Nat→Int} (hw:RFn w P) (hP:okPar P) {n:Int} (h0:0≤n) (h1:n < 16) {l:List Int}:∃ e w',Go.Ab.pel w n.toNat=some e∧fitsAt zInt e 0=true∧setC [] w n.toNat 0 [I (parN l)]=some w'∧RFn w' (suitP P n l):=by
 have hn:n.toNat < 16:=by omega
 obtain ⟨e,he,hre⟩:=RL.pel hw (tabL_get hn)
 obtain ⟨b,rfl,hb,_,_⟩:=hre
 obtain ⟨w',h1',h2⟩:=RL.setAt hw he (d:=0) (ys:=[I (parN l)]) (a:=(⟨parN l,0,[]⟩:DFunc)) ⟨b,rfl,hb,(show inI (parN l) from ⟨by have:=(parN_in l).1; omega,by have:=(parN_in l).2; omega⟩),(show inI 0 from ⟨by decide,by decide⟩)⟩
 refine ⟨_,w',he,rfl,h1',?_⟩
 unfold fnL at h2
 rw [tabL_set] at h2
 have e2:updF (fun n=>(⟨P n,0,[]⟩:DFunc)) n.toNat (⟨parN l,0,[]⟩:DFunc)=fun m=>(⟨suitP P n l m,0,[]⟩:DFunc):=by
  funext m
  unfold suitP
  rw [if_pos ⟨h0,h1⟩]
  by_cases e:m=n.toNat
  ·subst e; rw [updF_at,updF_at]
  ·rw [updF_ne e,updF_ne e]
 rw [e2] at h2
 exact h2
end
theorem rCould {q : Option Bool} {e : List TV} {f : DFunc} (he : RFunc q e f) : Runs prog 28 [.agg e] (B (tt (funcP (fnL (suitL (fun _ => 0) (f.blocks.flatMap callsB))) f))) := by
 have he0:=he
 obtain ⟨bl,rfl,hbl,hp,hr⟩:=he
 have hlb:=hbl.bnd
 have size:∀ {w:TV} {P:Nat→Int},RFn w P→∀ {n:Int},0≤n→n < 16→Go.Ab.slLen w=some 16∧(Bool.and (Go.Ab.slSize w 3) (Nat.blt n.toNat 16))=true:=by
  intro w P hw n h0 h1
  refine ⟨by rw [RL.slLen hw]; simp [fnL,tabL_len],?_⟩
  rw [RL.slSize hw]
  simp
  omega
 have lenF:∀ {w:TV} {P:Nat→Int},RFn w P→plen (.slice 43) w=some (I (16:Int)):=fun hw=>by rw [RL.len hw]; simp [fnL,tabL_len]
 have outer : ∀ (d j : Nat) (w : TV) (P : Nat → Int), j + d = f.blocks.length → RFn w P → okPar P → Goes prog 28 (f28_0 bl (I f.blocks.length) (I j) (I f.params) (I f.regs) bl w) (B (tt (funcP (fnL (suitL P ((f.blocks.drop j).flatMap callsB))) f))) := by
  intro d
  induction d with
  | zero =>
   intro j w P hj hw hP
   have hj:j=f.blocks.length:=by omega
   subst hj
   rw [List.drop_length]
   unfold f28_0
   refine Goes.tv rfl (Goes.ite asB_end (fun h=>nomatch h) fun _=>?_)
   refine f28_2_J ?_
   unfold f28_2
   have hM:RMod (some false) [Ab.frz w] ⟨fnL P⟩:=⟨_,rfl,RL.frz hw fun _ _ h=>h.frz⟩
   exact Goes.call (r10 hM he0) (Goes.chk rfl Goes.ret)
  | succ d ih =>
   intro j w P hj hw hP
   have hjl:j < f.blocks.length:=by omega
   have ha:f.blocks[j]? = some f.blocks[j]:=List.getElem?_eq_getElem hjl
   have hdr:=List.drop_eq_getElem_cons hjl
   generalize f.blocks[j]=b at ha hdr
   obtain ⟨eb,heb,hrb⟩:=hbl.idx (k:=.i64) ha
   obtain ⟨c,i,ga,rfl,hc,hd,hi,hg,ho⟩:=hrb
   have hgb:=hg.bnd
   have hib:=hi.bnd
   rw [hdr]
   have fin:∀ (w:TV) (P:Nat→Int),RFn w P→okPar P→Goes prog 28 (f28_3 bl (I f.blocks.length) (I j) (I f.params) (I f.regs) bl w (B b.landing) (I b.pad.dst) c (B b.pad.all) (B b.pad.cleanup) i (I b.fin.kind) (I b.fin.a) (I b.fin.dst) (I b.fin.f) ga (I b.fin.to) (I b.fin.els) (I b.fin.pad)) (B (tt (funcP (fnL (suitL P (callE b.fin ++ (f.blocks.drop (j + 1)).flatMap callsB))) f))):=by
    intro w P hw hP
    have nx:∀ (w:TV) (P:Nat→Int),RFn w P→okPar P→∀ (p:List Nat),p=[0,0,1,0,1,1]→Goes prog 28 (.tv (pbin (.int .i64) .add (I j) (I 1)) fun v=>.jmp p (f28_0_S bl (I f.blocks.length) v (I f.params) (I f.regs) bl w)) (B (tt (funcP (fnL (suitL P ((f.blocks.drop (j + 1)).flatMap callsB))) f))):=fun w P hw hP p hp=>by
     subst hp
     exact Goes.tv (inc hjl hlb) (f28_0_J (ih (j + 1) w P (by omega) hw hP))
    unfold f28_3 callE
    by_cases k4:b.fin.kind=4
    ·rw [if_pos k4]
     refine Goes.tv rfl (Goes.ite (v:=true) (by simp [asBool,k4]) (fun _=>?_) fun h=>nomatch h)
     by_cases h0:0≤b.fin.f
     ·refine Goes.tv rfl (Goes.ite (v:=true) (by simp [asBool,h0]) (fun _=>?_) fun h=>nomatch h)
      refine Goes.tv (lenF hw) ?_
      by_cases h1:b.fin.f < 16
      ·obtain ⟨e,w',q1,q2,q3,q4⟩:=fn_set hw hP h0 h1 (l:=b.fin.args)
       obtain ⟨s1,s2⟩:=size hw h0 h1
       refine Goes.tv rfl (Goes.ite (v:=true) (by simp [asBool,h1]) (fun _=>?_) fun h=>nomatch h)
       exact Goes.tv hg.len (Goes.tv pmin8 (Goes.nat s1 (Goes.nat (asNat_in h0 ho.2.2.2.1) (Goes.chk s2 (Goes.tvs q1 (Goes.chk q2 (Goes.tv q3 (nx w' _ q4 (hP.next _ _) _ rfl))))))))
      ·have e:suitP P b.fin.f b.fin.args=P:=by unfold suitP; rw [if_neg (fun h=>h1 h.2)]
       refine Goes.tv rfl (Goes.ite (v:=false) (by simp [asBool]; omega) (fun h=>nomatch h) fun _=>?_)
       have:=nx w P hw hP _ rfl
       simp only [suitL,List.cons_append,List.nil_append,List.foldl_cons,e]
       exact this
     ·have e:suitP P b.fin.f b.fin.args=P:=by unfold suitP; rw [if_neg (fun h=>h0 h.1)]
      refine Goes.tv rfl (Goes.ite (v:=false) (by simp [asBool]; omega) (fun h=>nomatch h) fun _=>?_)
      have:=nx w P hw hP _ rfl
      simp only [suitL,List.cons_append,List.nil_append,List.foldl_cons,e]
      exact this
    ·rw [if_neg k4]
     refine Goes.tv rfl (Goes.ite (v:=false) (by simp [asBool,k4]) (fun h=>nomatch h) fun _=>?_)
     exact nx w P hw hP _ rfl
   have inner : ∀ (d k : Nat) (w : TV) (P : Nat → Int), k + d = b.ins.length → RFn w P → okPar P → Goes prog 28 (f28_1 bl (I f.blocks.length) (I j) i (I b.ins.length) (I k) (I f.params) (I f.regs) bl w (B b.landing) (I b.pad.dst) c (B b.pad.all) (B b.pad.cleanup) i (I b.fin.kind) (I b.fin.a) (I b.fin.dst) (I b.fin.f) ga (I b.fin.to) (I b.fin.els) (I b.fin.pad)) (B (tt (funcP (fnL (suitL P ((b.ins.drop k).flatMap callI ++ (callE b.fin ++ (f.blocks.drop (j + 1)).flatMap callsB)))) f))) := by
    intro d
    induction d with
    | zero =>
     intro k w P hk hw hP
     have hk:k=b.ins.length:=by omega
     subst hk
     rw [List.drop_length]
     unfold f28_1
     refine Goes.tv rfl (Goes.ite asB_end (fun h=>nomatch h) fun _=>?_)
     exact f28_3_J (fin w P hw hP)
    | succ d ihk =>
     intro k w P hk hw hP
     have hkl:k < b.ins.length:=by omega
     have hx:b.ins[k]? = some b.ins[k]:=List.getElem?_eq_getElem hkl
     have hdx:=List.drop_eq_getElem_cons hkl
     generalize b.ins[k]=x at hx hdx
     obtain ⟨ex,hex,hrx⟩:=hi.idx (k:=.i64) hx
     obtain ⟨gx,rfl,hgx,o1,o2,o3,o4,o5,o6⟩:=hrx
     have hgxb:=hgx.bnd
     rw [hdx]
     have nx:∀ (w:TV) (P:Nat→Int),RFn w P→okPar P→∀ (p:List Nat),p=[0,0,1,0,1,0,0,1,1,0,0,1,0,1,1]→Goes prog 28 (.tv (pbin (.int .i64) .add (I k) (I 1)) fun v=>.jmp p (f28_1_S bl (I f.blocks.length) (I j) i (I b.ins.length) v (I f.params) (I f.regs) bl w (B b.landing) (I b.pad.dst) c (B b.pad.all) (B b.pad.cleanup) i (I b.fin.kind) (I b.fin.a) (I b.fin.dst) (I b.fin.f) ga (I b.fin.to) (I b.fin.els) (I b.fin.pad))) (B (tt (funcP (fnL (suitL P ((b.ins.drop (k + 1)).flatMap callI ++ (callE b.fin ++ (f.blocks.drop (j + 1)).flatMap callsB)))) f))):=fun w P hw hP p hp=>by
      subst hp
      exact Goes.tv (inc hkl hib) (f28_1_J (ihk (k + 1) w P (by omega) hw hP))
     unfold f28_1
     refine Goes.tv rfl (Goes.ite (asB_lt hkl) (fun _=>?_) fun h=>nomatch h)
     refine Goes.tvs hex (Goes.chk rfl ?_)
     rw [List.flatMap_cons,List.append_assoc]
     unfold callI
     by_cases k11:x.op=11
     ·rw [if_pos k11]
      refine Goes.tv rfl (Goes.ite (v:=true) (by simp [asBool,nth,k11]) (fun _=>?_) fun h=>nomatch h)
      by_cases h0:0≤x.f
      ·refine Goes.tv rfl (Goes.ite (v:=true) (by simp [asBool,nth,h0]) (fun _=>?_) fun h=>nomatch h)
       refine Goes.tv (lenF hw) ?_
       by_cases h1:x.f < 16
       ·obtain ⟨e,w',q1,q2,q3,q4⟩:=fn_set hw hP h0 h1 (l:=x.args)
        obtain ⟨s1,s2⟩:=size hw h0 h1
        refine Goes.tv rfl (Goes.ite (v:=true) (by simp [asBool,nth,h1]) (fun _=>?_) fun h=>nomatch h)
        exact Goes.tv hgx.len (Goes.tv pmin8 (Goes.nat s1 (Goes.nat (asNat_in h0 o6) (Goes.chk s2 (Goes.tvs q1 (Goes.chk q2 (Goes.tv q3 (nx w' _ q4 (hP.next _ _) _ rfl))))))))
       ·have e:suitP P x.f x.args=P:=by unfold suitP; rw [if_neg (fun h=>h1 h.2)]
        refine Goes.tv rfl (Goes.ite (v:=false) (by simp [asBool,nth]; omega) (fun h=>nomatch h) fun _=>?_)
        have:=nx w P hw hP _ rfl
        simp only [suitL,List.cons_append,List.nil_append,List.foldl_cons,e]
        exact this
      ·have e:suitP P x.f x.args=P:=by unfold suitP; rw [if_neg (fun h=>h0 h.1)]
       refine Goes.tv rfl (Goes.ite (v:=false) (by simp [asBool,nth]; omega) (fun h=>nomatch h) fun _=>?_)
       have:=nx w P hw hP _ rfl
       simp only [suitL,List.cons_append,List.nil_append,List.foldl_cons,e]
       exact this
     ·rw [if_neg k11]
      refine Goes.tv rfl (Goes.ite (v:=false) (by simp [asBool,nth,k11]) (fun h=>nomatch h) fun _=>?_)
      exact nx w P hw hP _ rfl
   unfold f28_0
   refine Goes.tv rfl (Goes.ite (asB_lt hjl) (fun _=>?_) fun h=>nomatch h)
   refine Goes.tvs heb (Goes.chk rfl (Goes.tv hi.len (f28_1_J ?_)))
   have:=inner b.ins.length 0 w P (by omega) hw hP
   rw [List.drop_zero] at this
   rw [List.flatMap_cons,callsB,List.append_assoc]
   exact this
 have h0:=outer f.blocks.length 0 (.sl true 3 (List.replicate 16 [I 0,I 0,.lit nilV])) (fun _=>0) (by omega) (by
  refine .sl (by simp) ?_ (by simp)
  refine F2.of_get (by simp [fnL,tabL_len]) fun i e a h1 h2=>?_
  obtain ⟨hi,rfl⟩:=List.getElem?_eq_some_iff.1 h1
  have hi2:i < 16:=by simpa using hi
  unfold fnL at h2
  rw [tabL_get hi2] at h2
  cases h2
  rw [List.getElem_replicate]
  exact ⟨_,rfl,.nil,(show inI 0 from ⟨by decide,by decide⟩),(show inI 0 from ⟨by decide,by decide⟩)⟩) (fun _=>(show (0:Int)≤0∧(0:Int)≤8 by decide))
 rw [List.drop_zero] at h0
 refine Runs.of (f28_MR _) ?_
 unfold f28_M
 exact Goes.chk rfl (Goes.nat rfl (Goes.nat rfl (Goes.chk rfl (Goes.tv hbl.len (f28_0_J h0)))))
end Go.Ab.A10
end

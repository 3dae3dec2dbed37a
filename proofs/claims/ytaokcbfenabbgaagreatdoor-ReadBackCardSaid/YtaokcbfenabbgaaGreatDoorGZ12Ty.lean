import Derived.Test.YtaokcbfenabbgaaGreatDoorGZ12F197
import Derived.Test.YtaokcbfenabbgaaGreatDoorGZ12F150
import Derived.Test.YtaokcbfenabbgaaGreatDoorGZ12F193
import Derived.Test.YtaokcbfenabbgaaGreatDoorGF1
import Derived.Lib.UnsafeStr
import Derived.WalkKit
import Derived.BigCall
import Derived.BigGuard
import Derived.Shelf.RegionOpenPlain
import Derived.Test.YtaokcbfenabbgaaGreatDoorProg
import Derived.Test.YtaokcbfenabbgaaGreatDoorIP
import Derived.Lib.Walk
import Derived.Lib.ParseIntBCases
import Derived.Lib.ConvBytes
set_option linter.all false
section
set_option maxRecDepth 20000
namespace Go.Ab
open Go.Ab.Z12
theorem zU {a b:List UInt8} (h:a.length + b.length<=1000000):pbin .str .add (Sb a) (Sb b)=some (Sb (a ++ b)):=by
 have:(⟨⟨a⟩⟩:ByteArray) ++ ⟨⟨b⟩⟩=⟨⟨a ++ b⟩⟩:=by
  apply ByteArray.ext
  simp [ByteArray.data_append]
 have h2:(⟨⟨a⟩⟩:ByteArray).size=a.length:=rfl
 have h3:(⟨⟨b⟩⟩:ByteArray).size=b.length:=rfl
 simp [pbin,kn,this,h2,h3]
 omega
theorem E0 (w:List UInt8):E9 w=(jr w:Nat):=by
 unfold E9 jr
 repeat' split
 all_goals first | rfl | contradiction
theorem FO (c l:Nat):Fa (c:Int) (l:Int)=bA c l:=by
 have e:∀ a b:Nat,((a:Int)=(b:Int))=(a=b):=fun a b=>propext ⟨fun h=>by omega,fun h=>by omega⟩
 have e1:((c:Int)=1)=(c=1):=e c 1
 have e2:((c:Int)=2)=(c=2):=e c 2
 have e3:((c:Int)=3)=(c=3):=e c 3
 have e4:((c:Int)=4)=(c=4):=e c 4
 have e5:((c:Int)=5)=(c=5):=e c 5
 have l0:((l:Int)=0)=(l=0):=e l 0
 have l1:((l:Int)=1)=(l=1):=e l 1
 have l2:((l:Int)=2)=(l=2):=e l 2
 have l3:((l:Int)=3)=(l=3):=e l 3
 have l4:((l:Int)=4)=(l=4):=e l 4
 have l5:((l:Int)=5)=(l=5):=e l 5
 unfold Fa bA
 simp only [e1,e2,e3,e4,e5,l0,l1,l2,l3,l4,l5]
theorem vn {a:Int} (h0:0<=a) (h:a<=65535):(Lib.itoa a).length<=5:=by
 rw [nG h0]
 exact vX 4 (by omega)
end Go.Ab
namespace Go.Ab.Z12
open Go Go.Ab Go.Proofs
theorem Bw {s:List UInt8} (hs:s.length<=4000000000):∃ a b,aj prog 64 [Sb s] (.tup [.agg [I a,I b,.lit ah],B (lG s).isSome])/\(∀ p r,lG s=some (p,r)->a=p/\b=r)/\(0<=a/\a<=65535)/\0<=b/\b<=65535:=by
 obtain ⟨v0,h0,hv⟩:=wM hs
 obtain ⟨w,ts,hw,hl⟩:=ja s
 rw [hw] at hv
 have hmem:∀ t,t ∈ ts->t.length<=4000000000:=fun t ht=>Nat.le_trans (j3 (s:=s) (by rw [hw]; exact GL _ ht)) hs
 obtain ⟨y,hy1,hy2⟩:=RL.wO hv (k:=1) (by simp)
 have hylen:plen (.slice 9) y=some (I (ts.length:Nat)):=hy2.len
 have hsz2:(Bool.and (Bool.and (slSize v0 1) (Nat.ble 1 (w :: ts).length)) (Nat.ble (w :: ts).length (w :: ts).length))=true:=by rw [RL.slSize hv]; simp
 have hfit:ab zSl [v0] 0=true:=by simp [ab,zSl,aG,RL.isSl hv]
 have hg:=fun i=>iZ (l:=ts.map puV) (fun n hn=>by obtain ⟨t,_,rfl⟩:=List.mem_map.1 hn; exact cI t) i
 have heq:=fun p r=>Da (s:=s) (w:=w) (ts:=ts) (pu:=puV) cI (fun n h1 h2=>oG h1 h2) (nQ hw) (p:=p) (r:=r)
 obtain ⟨a,ha⟩:∃ a,a=(ts.map puV).getD 0 0:=⟨_,rfl⟩
 obtain ⟨b,hb⟩:∃ b,b=(ts.map puV).getD 1 0:=⟨_,rfl⟩
 have ga:=hg 0
 have gb:=hg 1
 rw [<- ha] at ga
 rw [<- hb] at gb
 have hsome:B (lG s).isSome=B (decide (s=aQ gq [a,b])):=by
  by_cases h:s=aQ gq [a,b]
  ·rw [(heq a b).1 ⟨ha.symm,hb.symm,h⟩]; simp [h]
  ·cases hq:lG s with
   | none=>simp [h]
   | some z =>
    obtain ⟨z1,z2⟩:=z
    obtain ⟨q1,q2,q3⟩:=(heq z1 z2).2 hq
    rw [<- q1,<- q2,<- ha,<- hb] at q3
    exact absurd q3 h
 refine ⟨a,b,?_,fun p r h=>?_,ga,gb⟩
 case refine_2 =>
  obtain ⟨q1,q2,_⟩:=(heq p r).2 h
  exact ⟨ha.trans q1,hb.trans q2⟩
 have key:∀ (d k:Nat) (g:TV),k + d=ts.length->RInts (some true) g (((ts.take k).drop 2).map puV) ->
   aa prog 64 (f64_0 1 ts.length (I (ts.length:Nat)) (I (k:Nat)) g v0 (I 0) (I 0) (.lit ah) (fAt ts k 0 (I 0)) (fAt ts k 1 (I 0)) (.lit ah) (Sb s)) (.tup [.agg [I a,I b,.lit ah],B (lG s).isSome]):=by
  intro d
  induction d with
  | zero =>
   intro k g hk hgr
   have hk:k=ts.length:=by omega
   subst hk
   rw [q9,q9,<- ha,<- hb]
   have la:=vn ga.1 ga.2
   have lb:=vn gb.1 gb.2
   unfold f64_0
   refine aa.tv rfl (aa.ite aP nofun fun _=>?_)
   refine aa.call (zq (n:=a) ⟨by omega,by omega⟩) (aa.chk rfl (aa.tv (zU (by simp; omega)) (aa.tv (zU (by simp; omega)) ?_)))
   refine aa.call (zq (n:=b) ⟨by omega,by omega⟩) (aa.chk rfl (aa.tv (zU (by simp; omega)) (aa.tv (dR _ _) ?_)))
   rw [hsome]
   have e:([102,117,110,99,32] ++ Lib.itoa a ++ [32] ++ Lib.itoa b:List UInt8)=aQ gq [a,b]:=by simp [aQ,mB]
   rw [e]
   exact aa.ret
  | succ d ih =>
   intro k g hk hgr
   have hkl:k < ts.length:=by omega
   obtain ⟨e,he,hr⟩:=RL.pel hv (i:=1 + k) (a:=ts.getD k []) (by rw [Nat.add_comm,List.getElem?_cons_succ]; exact cN hkl)
   have hr:e=[Sb (ts.getD k [])]:=hr
   subst hr
   have hnum:aj prog 48 [Sb (ts.getD k [])] (I (puV (ts.getD k []))):=d8 (hmem _ (dZ hkl))
   have hin:=cI (ts.getD k [])
   have hsz:(Bool.and (slSize v0 1) (Nat.blt k ts.length))=true:=by rw [RL.slSize hv]; simp [hkl]
   have ank:aR (I (k:Nat))=some k:=by simp [aR]; omega
   by_cases hkn:k < 2
   ·have h2:=ih (k + 1) g (by omega) (by rw [List.drop_eq_nil_of_le (by rw [List.length_take]; omega)] at hgr ⊢; exact hgr)
    unfold f64_0
    refine aa.tv rfl (aa.ite (aE hkl) (fun _=>?_) nofun)
    refine aa.nat ank (aa.chk hsz (aa.tvs he (aa.chk rfl ?_)))
    refine aa.tv rfl (aa.ite (v:=true) (by simp [asBool]; omega) (fun _=>?_) nofun)
    rcases (by omega:k=0\/k=1) with rfl | rfl
    ·refine aa.nat rfl (aa.ite (v:=false) rfl nofun fun _=>aa.ite (v:=true) rfl (fun _=>?_) nofun)
     exact aa.call hnum (aa.chk rfl (aa.tv (inc (n:=1) (by omega) (by omega)) (f64_0_J h2)))
    ·refine aa.nat rfl (aa.ite (v:=true) rfl (fun _=>?_) nofun)
     exact aa.call hnum (aa.chk rfl (aa.tv (inc (n:=2) (by omega) (by omega)) (f64_0_J h2)))
   ·have e:(ts.take (k + 1)).drop 2=(ts.take k).drop 2 ++ [ts.getD k []]:=cz hkl (by omega)
    obtain ⟨w2,c1,c2⟩:=RL.snoc hgr (e:=[I (puV (ts.getD k []))]) (a:=puV (ts.getD k [])) ⟨rfl,by constructor <;> omega⟩ (by simp only [List.length_map,List.length_drop,List.length_take]; omega)
    have h2:=ih (k + 1) w2 (by omega) (by rw [e,List.map_append]; exact c2)
    rw [ba (k:=k) (j:=0) (by omega),ba (k:=k) (j:=1) (by omega)] at h2
    unfold f64_0
    refine aa.tv rfl (aa.ite (aE hkl) (fun _=>?_) nofun)
    refine aa.nat ank (aa.chk hsz (aa.tvs he (aa.chk rfl ?_)))
    refine aa.tv rfl (aa.ite (v:=false) (by simp [asBool]; omega) nofun fun _=>?_)
    exact aa.call hnum (aa.chk rfl (aa.rws rfl (aa.tv c1 (aa.tv (inc (n:=k + 1) (by omega) (by omega)) (f64_0_J h2)))))
 refine aj.of (f64_MR _) ?_
 unfold f64_M
 exact aa.call h0 (aa.chk hfit (aa.nat hv.slLen (aa.nat (v:=1) rfl (aa.chk hsz2 (aa.tv hy1 (aa.tv hylen (aa.chk rfl (f64_0_J (key ts.length 0 (.lit ah) (by omega) RL.nil)))))))))
end Go.Ab.Z12
end
section
set_option maxRecDepth 20000
namespace Go.Ab
open Go.Ab.Z12
def RBm (e:List TV) (x:DBlock):Prop:=∃ c i g,e=[B x.landing,I x.pad.dst,c,B x.pad.all,B x.pad.cleanup,i,I x.fin.kind,I x.fin.a,I x.fin.dst,I x.fin.f,g,I x.fin.to,I x.fin.els,I x.fin.pad] /\
 RWords (some false) c x.pad.catches/\inI x.pad.dst/\RL (some true) 7 (RIns (some false)) i x.ins/\RInts (some true) g x.fin.args/\x.fin.ok
def RFm (e:List TV) (x:DFunc):Prop:=∃ b,e=[I x.params,I x.regs,b]/\RL (some true) 14 RBm b x.blocks/\inI x.params/\inI x.regs
abbrev RFs:TV->List DFunc->Prop:=RL (some true) 3 RFm
theorem gG {α:Type} (xs:List α) (e e':α):ar (xs ++ [e]) xs.length e'=xs ++ [e']:=by
 induction xs with
 | nil=>rfl
 | cons a xs ih=>simp [ar,ih]
theorem F2.yQ {α β:Type} {R:α->β->Prop} {a:β}:∀ {l:List β} {ys:List α},F2 R ys (l ++ [a])->∃ xs e,ys=xs ++ [e]/\F2 R xs l/\R e a
 | [],_,.cons h .nil=>⟨[],_,rfl,.nil,h⟩
 | b :: l,_,.cons h t=>by
  obtain ⟨xs,e,rfl,h1,h2⟩:=F2.yQ (l:=l) t
  exact ⟨_ :: xs,e,rfl,.cons h h1,h2⟩
theorem RL.last {α:Type} {s:Nat} {R:List TV->α->Prop} {x:TV} {l:List α} {a:α} (h:RL (some true) s R x (l ++ [a])):∃ xs e,x=.sl true s (xs ++ [e])/\F2 R xs l/\R e a/\xs.length=l.length/\xs.length < 9223372036854775807:=by
 rcases h with ⟨_,h0⟩ | ⟨o,ys,rfl,hq,h,hb⟩
 ·simp at h0
 ·have:o=true:=hq true rfl
  subst this
  obtain ⟨xs,e,rfl,h1,h2⟩:=h.yQ
  exact ⟨xs,e,rfl,h1,h2,h1.length,by simp at hb; omega⟩
theorem RL.uj {α:Type} {s:Nat} {R:List TV->α->Prop} {xs:List (List TV)} {e:List TV} {l:List α} {a:α} (h:F2 R xs l) (hR:R e a) (hb:xs.length < 9223372036854775807):RL (some true) s R (.sl true s (xs ++ [e])) (l ++ [a]) :=
 .sl (fun _ h=>by cases h; rfl) (h.append (.cons hR .nil)) (by simp; omega)
theorem nT {n:Nat} (h:n < 9223372036854775807):pbin (.int .i64) .sub (I ((n + 1:Nat):Int)) (I 1)=some (I (n:Int)):=by
 rw [psub (a:=((n + 1:Nat):Int)) (b:=1) (by unfold inI; omega)]
 congr 3
 omega
theorem asN {n:Nat} (h:n < 9223372036854775807):aR (I (n:Nat))=some n:=by simp [aR]; omega
section
variable (xs:List (List TV)) (P Q b v:TV)
theorem g1:bZ [(xs.length,2)] (.sl true 3 (xs ++ [[P,Q,b]]))=some b:=by simp [bZ]
theorem s1:gT [(xs.length,2)] (.sl true 3 (xs ++ [[P,Q,b]])) v=some (.sl true 3 (xs ++ [[P,Q,v]])):=by simp [gT,gG,ar]
theorem e1 (e:List TV) (s:Nat):Go.Ab.pel (.sl true s (xs ++ [e])) xs.length=some e:=by simp [Go.Ab.pel]
theorem c1s:nh [] (.sl true 3 (xs ++ [[P,Q,b]])) xs.length 2 [v]=some (.sl true 3 (xs ++ [[P,Q,v]])):=by simp [nh,bZ,sw,gT,bw,gG,ar]
end
theorem sz1 (s:Nat) (xs:List (List TV)) (e:List TV):(Bool.and (slSize (.sl true s (xs ++ [e])) s) (Nat.blt xs.length (xs.length + 1)))=true:=by simp [slSize]
theorem ln1 (s:Nat) (xs:List (List TV)) (e:List TV):slLen (.sl true s (xs ++ [e]))=some (xs.length + 1):=by simp [slLen]
theorem pl1 (t:TypeId) (s:Nat) (xs:List (List TV)) (e:List TV):plen (.slice t) (.sl true s (xs ++ [e]))=some (I ((xs.length + 1:Nat):Int)):=by simp [plen]
theorem okE0:end0.ok:=by unfold DEnd.ok inI; decide
noncomputable def jh (c:Nat) (line:List UInt8) (fs:List DFunc):Option (List DFunc) :=
 if c=1 then (lG line).map fun q=>fs ++ [⟨q.1,q.2,[]⟩]
 else if c=2 then (if line=gS then some (lB ⟨false,pad0,[],end0⟩ fs) else none)
 else if c=3 then (iQ line).map fun p=>lB ⟨true,p,[],end0⟩ fs
 else if c=4 then (jd line).map fun x=>onB (fun b=>{ b with ins:=b.ins ++ [x] }) fs
 else (jV line).map fun x=>onB (fun b=>{ b with fin:=x }) fs
end Go.Ab
namespace Go.Ab.Z12
open Go Go.Ab Go.Proofs
theorem Gy {x0 y1:TV} {fs:List DFunc} {f:DFunc} {c0:TV} (h:RFs c0 (fs ++ [f])) {bl:DBlock} {e:List TV} (he:RBm e bl) (hb:f.blocks.length + 1<=4294967296) {a0 a1 a2 a3 a4 a5 a6 a7 a8 a9 a10 a11 a12 a13:TV} (hee:e=[a0,a1,a2,a3,a4,a5,a6,a7,a8,a9,a10,a11,a12,a13]) (w17:TV) :
  ∃ c0',aa prog 57 (f57_1 x0 y1 a0 a1 a2 a3 a4 a5 a6 a7 a8 a9 a10 a11 a12 a13 c0 w17) (.tup [x0,.tup [c0',y1]])/\RFs c0' (fs ++ [{ f with blocks:=f.blocks ++ [bl] }]):=by
 subst hee
 obtain ⟨xs,ef,rfl,h1,⟨b,rfl,hbl,hp,hr⟩,hlen,hlt⟩:=h.last
 obtain ⟨b',q1,q2⟩:=RL.snoc hbl he hb
 refine ⟨.sl true 3 (xs ++ [[I f.params,I f.regs,b']]),?_,.uj h1 ⟨b',rfl,q2,hp,hr⟩ hlt⟩
 unfold f57_1
 refine aa.tv (pl1 _ _ _ _) (aa.tv (nT hlt) (aa.nat (ln1 _ _ _) (aa.nat (asN hlt) (aa.chk (sz1 _ _ _) (aa.tvs (e1 _ _ _) (aa.chk ?_ ?_))))))
 ·simp [ab,zSl,aG,hbl.isSl]
 refine aa.rws rfl (aa.tv (g1 _ _ _ _) (aa.tv q1 (aa.tv (s1 _ _ _ _ _) (aa.tvs (e1 _ _ _) (aa.chk ?_ (aa.tv (c1s _ _ _ _ _) aa.ret))))))
 simp [ab,dE,zSl,aG,q2.isSl,TV.zZ]
theorem rIns2 {x0 y12:TV} {fs:List DFunc} {p r:Int} {bs:List DBlock} {bl:DBlock} {c0:TV} (h:RFs c0 (fs ++ [⟨p,r,bs ++ [bl]⟩])) {x:DIns} {e:List TV} (he:RIns (some false) e x) (hb:bl.ins.length + 1<=4294967296) {a0 a1 a2 a3 a4 a5 a6:TV} (hee:e=[a0,a1,a2,a3,a4,a5,a6]) (w11:TV) :
  ∃ c0',aa prog 57 (f57_2 x0 fs.length bs.length a0 a1 a2 a3 a4 a5 a6 c0 w11 y12) (.tup [x0,.tup [c0',y12]])/\RFs c0' (fs ++ [⟨p,r,bs ++ [{ bl with ins:=bl.ins ++ [x] }]⟩]):=by
 subst hee
 obtain ⟨xs,ef,rfl,h1,⟨b,rfl,hbl,hp,hr⟩,hlen,hlt⟩:=h.last
 obtain ⟨ys,eb,rfl,k1,⟨c,i,g,rfl,u1,u2,u3,u4,u5⟩,klen,klt⟩:=RL.last hbl
 obtain ⟨i',q1,q2⟩:=RL.snoc u3 he hb
 have hbl':RL (some true) 14 RBm (.sl true 14 (ys ++ [[B bl.landing,I bl.pad.dst,c,B bl.pad.all,B bl.pad.cleanup,i',I bl.fin.kind,I bl.fin.a,I bl.fin.dst,I bl.fin.f,g,I bl.fin.to,I bl.fin.els,I bl.fin.pad]])) (bs ++ [{ bl with ins:=bl.ins ++ [x] }]) :=
  .uj k1 ⟨c,i',g,rfl,u1,u2,q2,u4,u5⟩ klt
 refine ⟨_,?_,.uj h1 ⟨_,rfl,hbl',hp,hr⟩ hlt⟩
 rw [<- hlen,<- klen]
 unfold f57_2
 refine aa.tv (g1 _ _ _ _) (aa.tvs (e1 _ _ _) (aa.chk ?_ ?_))
 ·simp [ab,zSl,aG,u3.isSl]
 refine aa.rws rfl ?_
 refine aa.tv (v:=i) (by simp [bZ]) (aa.tv q1 ?_)
 refine aa.tv (v:=.sl true 3 (xs ++ [[I p,I r,.sl true 14 (ys ++ [[B bl.landing,I bl.pad.dst,c,B bl.pad.all,B bl.pad.cleanup,.hole,I bl.fin.kind,I bl.fin.a,I bl.fin.dst,I bl.fin.f,g,I bl.fin.to,I bl.fin.els,I bl.fin.pad]])]])) (by simp [gT,gG,ar]) ?_
 refine aa.tv (g1 _ _ _ _) (aa.tvs (e1 _ _ _) (aa.chk ?_ ?_))
 ·simp [ab,dE,zSl,aG,q2.isSl,TV.zZ]
 exact aa.tv (v:=.sl true 3 (xs ++ [[I p,I r,.sl true 14 (ys ++ [[B bl.landing,I bl.pad.dst,c,B bl.pad.all,B bl.pad.cleanup,i',I bl.fin.kind,I bl.fin.a,I bl.fin.dst,I bl.fin.f,g,I bl.fin.to,I bl.fin.els,I bl.fin.pad]])]])) (by simp [nh,bZ,sw,gT,gG,bw,ar]) aa.ret
theorem rFn0 {x0 y1:TV} {fs:List DFunc} {c0:TV} (h:RFs c0 fs) (hb:fs.length + 1<=4294967296) {a b:Int} (ha:inI a) (hb2:inI b) (w6:TV) :
  ∃ c0',aa prog 57 (f57_0 x0 y1 (I a) (I b) (.lit ah) c0 w6) (.tup [x0,.tup [c0',y1]])/\RFs c0' (fs ++ [⟨a,b,[]⟩]):=by
 obtain ⟨c',q1,q2⟩:=RL.snoc h (e:=[I a,I b,.lit ah]) (a:=⟨a,b,[]⟩) ⟨_,rfl,RL.nil,ha,hb2⟩ hb
 refine ⟨c',?_,q2⟩
 unfold f57_0
 exact aa.rws rfl (aa.tv q1 aa.ret)
theorem rPut {c0 c1:TV} {fs:List DFunc} {line:List UInt8} (hs:line.length<=4000000000) (h:RFs c0 fs) (hc1:c1.isSc=true) {c last:Nat} (hI:xY ⟨fs,last⟩) (hb:bA c last=true)
  (hz1:fs.length + 1<=4294967296) (hz2:∀ fs0 f,fs=fs0 ++ [f]->f.blocks.length + 1<=4294967296) (hz3:∀ fs0 p r bs bl,fs=fs0 ++ [⟨p,r,bs ++ [bl]⟩]->bl.ins.length + 1<=4294967296) :
  ∃ c0',aj prog 57 [.tup [c0,c1],I (c:Nat),Sb line] (.tup [B (jh c line fs).isSome,.tup [c0',c1]])/\c0'.isSl=true/\∀ l,jh c line fs=some l->RFs c0' l:=by
 have hchk:(Bool.and (TV.isSl c0) (Bool.and (TV.isSc c1) true))=true:=by simp [h.isSl,hc1]
 suffices H:∃ c0',aa prog 57 (f57_M c0 c1 (I (c:Nat)) (Sb line)) (.tup [B (jh c line fs).isSome,.tup [c0',c1]])/\c0'.isSl=true/\∀ l,jh c line fs=some l->RFs c0' l by
  obtain ⟨c0',q1,q2,q3⟩:=H
  exact ⟨c0',aj.of (f57_MR _ _ _ _) q1,q2,q3⟩
 have hc:c=1\/c=2\/c=3\/c=4\/c=5:=by
  unfold bA at hb
  split at hb
  ·omega
  split at hb
  ·omega
  split at hb
  ·omega
  ·cases hb
 unfold f57_M
 rcases hc with rfl | rfl | rfl | rfl | rfl
 ·obtain ⟨a,b,q1,q2,q3,q4⟩:=Bw hs
  obtain ⟨c',k1,k2⟩:=rFn0 (x0:=B (lG line).isSome) (y1:=c1) h hz1 (a:=a) (b:=b) (by unfold inI; omega) (by unfold inI; omega) .hole
  refine ⟨c',?_,k2.isSl,fun l hl=>?_⟩
  ·refine aa.chk hchk (aa.tv rfl (aa.ite (v:=true) rfl (fun _=>?_) nofun))
   have e:(jh 1 line fs).isSome=(lG line).isSome:=by simp [jh]
   rw [e]
   exact aa.call q1 (aa.chk rfl (aa.chk rfl (aa.chk rfl (f57_0_J k1))))
  ·have hl:(lG line).map (fun q=>fs ++ [⟨q.1,q.2,[]⟩])=some l:=hl
   cases hq:lG line with
   | none=>rw [hq] at hl; cases hl
   | some z =>
    rw [hq] at hl
    cases hl
    obtain ⟨rfl,rfl⟩:=q2 z.1 z.2 hq
    exact k2
 ·have hl:last=1\/last=5:=by simpa [bA] using hb
  obtain ⟨fs0,p,r,bs,hfs⟩:∃ fs0 p r bs,fs=fs0 ++ [⟨p,r,bs⟩]:=by
   rcases hl with e | e
   ·obtain ⟨a,b,c,d⟩:=hI.fn e; exact ⟨a,b,c,[],d⟩
   ·exact hI.fin e
  subst hfs
  have he:RBm [B false,I 0,.lit ah,B false,B false,.lit ah,I 0,I 0,I 0,I 0,.lit ah,I 0,I 0,I 0] ⟨false,pad0,[],end0⟩:=⟨_,_,_,rfl,RL.nil,by unfold inI; decide,RL.nil,RL.nil,okE0⟩
  obtain ⟨c',k1,k2⟩:=Gy (x0:=B (decide (line=gS))) (y1:=c1) h he (hz2 _ _ rfl) rfl .hole
  refine ⟨c',?_,k2.isSl,fun l hl=>?_⟩
  ·have e:(jh 2 line (fs0 ++ [⟨p,r,bs⟩])).isSome=decide (line=gS):=by
    by_cases hq:line=gS <;> simp [jh,hq]
   rw [e]
   refine aa.chk hchk (aa.tv rfl (aa.ite (v:=false) rfl nofun fun _=>aa.tv rfl (aa.ite (v:=true) rfl (fun _=>?_) nofun)))
   exact aa.tv (dR _ _) k1
  ·have hl:(if line=gS then some (lB ⟨false,pad0,[],end0⟩ (fs0 ++ [⟨p,r,bs⟩])) else none)=some l:=hl
   split at hl
   ·cases hl
    unfold lB
    rw [aV]
    exact k2
   ·cases hl
 ·have hl:last=1\/last=5:=by simpa [bA] using hb
  obtain ⟨fs0,p,r,bs,hfs⟩:∃ fs0 p r bs,fs=fs0 ++ [⟨p,r,bs⟩]:=by
   rcases hl with e | e
   ·obtain ⟨a,b,c,d⟩:=hI.fn e; exact ⟨a,b,c,[],d⟩
   ·exact hI.fin e
  subst hfs
  obtain ⟨e,q1,⟨g,rfl,q2,q3⟩⟩:=rPad hs
  generalize hz:(iQ line).getD ⟨0,[],false,false⟩=z at q1 q2 q3
  have he:RBm [B true,I z.dst,Ab.frz g,B z.all,B z.cleanup,.lit ah,I 0,I 0,I 0,I 0,.lit ah,I 0,I 0,I 0] ⟨true,z,[],end0⟩:=⟨_,_,_,rfl,q2.frz fun _ _ h=>⟨by rw [h.1]; rfl,h.2⟩,q3,RL.nil,RL.nil,okE0⟩
  obtain ⟨c',k1,k2⟩:=Gy (x0:=B (iQ line).isSome) (y1:=c1) h he (hz2 _ _ rfl) rfl .hole
  refine ⟨c',?_,k2.isSl,fun l hl=>?_⟩
  ·have e:(jh 3 line (fs0 ++ [⟨p,r,bs⟩])).isSome=(iQ line).isSome:=by simp [jh]
   rw [e]
   refine aa.chk hchk (aa.tv rfl (aa.ite (v:=false) rfl nofun fun _=>aa.tv rfl (aa.ite (v:=false) rfl nofun fun _=>aa.tv rfl (aa.ite (v:=true) rfl (fun _=>?_) nofun))))
   refine aa.call q1 (aa.chk rfl (aa.chk ?_ (aa.chk rfl (f57_1_J k1))))
   simp [TV.comp,nth,TV.isAgg,TV.cellsL,ab,EJ,aG,q2.isSl,TV.isSc,scV]
  ·have hl:(iQ line).map (fun q=>lB ⟨true,q,[],end0⟩ (fs0 ++ [⟨p,r,bs⟩]))=some l:=hl
   cases hq:iQ line with
   | none=>rw [hq] at hl; cases hl
   | some y =>
    rw [hq] at hl hz
    cases hl
    have:z=y:=hz.symm
    subst this
    show RFs c' (lB ⟨true,z,[],end0⟩ (fs0 ++ [⟨p,r,bs⟩]))
    unfold lB
    rw [aV]
    exact k2
 ·have hl:last=2\/last=3\/last=4:=by simpa [bA] using hb
  obtain ⟨fs0,p,r,bs,bl,hfs,hfin⟩:=hI.blk hl
  have hfs:fs=fs0 ++ [⟨p,r,bs ++ [bl]⟩]:=hfs
  subst hfs
  obtain ⟨e,q1,⟨g,rfl,q2,q3⟩⟩:=rIns hs
  generalize hz:(jd line).getD ⟨0,0,0,0,0,0,[]⟩=z at q1 q2 q3
  have he:RIns (some false) [I z.op,I z.dst,I z.a,I z.b,W z.k,I z.f,Ab.frz g] z:=⟨_,rfl,q2.frz fun _ _ h=>h.frz,q3⟩
  obtain ⟨c',k1,k2⟩:=rIns2 (x0:=B (jd line).isSome) (y12:=c1) h he (hz3 _ _ _ _ _ rfl) rfl .hole
  refine ⟨c',?_,k2.isSl,fun l hl=>?_⟩
  ·have e:(jh 4 line (fs0 ++ [⟨p,r,bs ++ [bl]⟩])).isSome=(jd line).isSome:=by simp [jh]
   rw [e]
   obtain ⟨xs,ef,rfl,h1,⟨b,rfl,hbl,hp,hr⟩,hlen,hlt⟩:=h.last
   obtain ⟨ys,eb,rfl,k3,hbb,klen,klt⟩:=RL.last hbl
   rw [<- hlen,<- klen] at k1
   refine aa.chk hchk (aa.tv rfl (aa.ite (v:=false) rfl nofun fun _=>aa.tv rfl (aa.ite (v:=false) rfl nofun fun _=>aa.tv rfl (aa.ite (v:=false) rfl nofun fun _=>aa.tv rfl (aa.ite (v:=true) rfl (fun _=>?_) nofun)))))
   refine aa.call q1 (aa.chk rfl (aa.chk ?_ (aa.chk rfl ?_)))
   ·simp [TV.comp,nth,TV.isAgg,TV.cellsL,ab,ED,aG,q2.isSl,TV.isSc,scV]
   refine aa.tv (pl1 _ _ _ _) (aa.tv (nT hlt) (aa.nat (ln1 _ _ _) (aa.nat (asN hlt) (aa.chk (sz1 _ _ _) (aa.tvs (e1 _ _ _) (aa.chk rfl (aa.tvs (e1 _ _ _) (aa.chk rfl ?_))))))))
   exact aa.tv (g1 _ _ _ _) (aa.tv (pl1 _ _ _ _) (aa.tv (nT klt) (aa.tv (g1 _ _ _ _) (aa.nat (ln1 _ _ _) (aa.nat (asN klt) (aa.chk (sz1 _ _ _) (f57_2_J k1)))))))
  ·have hl:(jd line).map (fun x=>onB (fun b=>{ b with ins:=b.ins ++ [x] }) (fs0 ++ [⟨p,r,bs ++ [bl]⟩]))=some l:=hl
   cases hq:jd line with
   | none=>rw [hq] at hl; cases hl
   | some y =>
    rw [hq] at hl hz
    cases hl
    have:z=y:=hz.symm
    subst this
    show RFs c' (onB (fun b=>{ b with ins:=b.ins ++ [z] }) (fs0 ++ [⟨p,r,bs ++ [bl]⟩]))
    unfold onB
    rw [aV]
    simp only [aV]
    exact k2
 ·have hl:last=2\/last=3\/last=4:=by simpa [bA] using hb
  obtain ⟨fs0,p,r,bs,bl,hfs,hfin⟩:=hI.blk hl
  have hfs:fs=fs0 ++ [⟨p,r,bs ++ [bl]⟩]:=hfs
  subst hfs
  obtain ⟨e,q1,⟨g,rfl,q2,q3⟩⟩:=rEnd hs
  generalize hz:(jV line).getD ⟨0,0,0,0,[],0,0,0⟩=z at q1 q2 q3
  obtain ⟨xs,ef,rfl,h1,⟨b,rfl,hbl,hp,hr⟩,hlen,hlt⟩:=h.last
  obtain ⟨ys,eb,rfl,k3,⟨c,i,g0,rfl,u1,u2,u3,u4,u5⟩,klen,klt⟩:=RL.last hbl
  have hbl':RL (some true) 14 RBm (.sl true 14 (ys ++ [[B bl.landing,I bl.pad.dst,c,B bl.pad.all,B bl.pad.cleanup,i,I z.kind,I z.a,I z.dst,I z.f,g,I z.to,I z.els,I z.pad]])) (bs ++ [{ bl with fin:=z }]) :=
   .uj k3 ⟨c,i,g,rfl,u1,u2,u3,q2,q3⟩ klt
  refine ⟨.sl true 3 (xs ++ [[I p,I r,.sl true 14 (ys ++ [[B bl.landing,I bl.pad.dst,c,B bl.pad.all,B bl.pad.cleanup,i,I z.kind,I z.a,I z.dst,I z.f,g,I z.to,I z.els,I z.pad]])]]),?_,rfl,fun l hl=>?_⟩
  ·have e:(jh 5 line (fs0 ++ [⟨p,r,bs ++ [bl]⟩])).isSome=(jV line).isSome:=by simp [jh]
   rw [e]
   refine aa.chk hchk (aa.tv rfl (aa.ite (v:=false) rfl nofun fun _=>aa.tv rfl (aa.ite (v:=false) rfl nofun fun _=>aa.tv rfl (aa.ite (v:=false) rfl nofun fun _=>aa.tv rfl (aa.ite (v:=false) rfl nofun fun _=>aa.tv rfl (aa.ite (v:=true) rfl (fun _=>?_) nofun))))))
   refine aa.tv (pl1 _ _ _ _) (aa.tv (nT hlt) (aa.nat (ln1 _ _ _) (aa.nat (asN hlt) (aa.chk (sz1 _ _ _) (aa.tvs (e1 _ _ _) (aa.chk rfl (aa.tvs (e1 _ _ _) (aa.chk rfl ?_))))))))
   refine aa.tv (g1 _ _ _ _) (aa.tv (pl1 _ _ _ _) (aa.tv (nT klt) (aa.tv (g1 _ _ _ _) (aa.nat (ln1 _ _ _) (aa.nat (asN klt) (aa.chk (sz1 _ _ _) ?_))))))
   refine aa.call q1 (aa.chk rfl (aa.chk ?_ (aa.chk rfl (aa.tv (g1 _ _ _ _) (aa.tvs (e1 _ _ _) (aa.chk ?_ ?_))))))
   ·simp [TV.comp,nth,TV.isAgg,TV.cellsL,ab,xG,aG,q2.isSl,TV.isSc,scV]
   ·simp [TV.comp,nth,TV.cell,TV.cellsL,ab,dE,xG,aG,q2.isSl,u4.isSl,TV.isSc,scV]
   ·exact aa.tv (v:=.sl true 3 (xs ++ [[I p,I r,.sl true 14 (ys ++ [[B bl.landing,I bl.pad.dst,c,B bl.pad.all,B bl.pad.cleanup,i,I z.kind,I z.a,I z.dst,I z.f,g,I z.to,I z.els,I z.pad]])]])) (by simp [nh,bZ,sw,gT,gG,bw,ar,TV.comp,TV.cell,nth]) aa.ret
  ·have hl:(jV line).map (fun x=>onB (fun b=>{ b with fin:=x }) (fs0 ++ [⟨p,r,bs ++ [bl]⟩]))=some l:=hl
   cases hq:jV line with
   | none=>rw [hq] at hl; cases hl
   | some y =>
    rw [hq] at hl hz
    cases hl
    have:z=y:=hz.symm
    subst this
    show RFs _ (onB (fun b=>{ b with fin:=z }) (fs0 ++ [⟨p,r,bs ++ [bl]⟩]))
    unfold onB
    rw [aV]
    simp only [aV]
    exact .uj h1 ⟨_,rfl,hbl',hp,hr⟩ hlt
end Go.Ab.Z12
end
section
set_option maxRecDepth 20000
namespace Go.Ab
open Go.Ab.Z12
theorem cut_sp (s:List UInt8):(Lib.cut s [32]).1=(aA s).1:=by
 obtain ⟨h1,h2,h3⟩:=fH s
 generalize (aA s).1=w at *
 generalize (aA s).2=ts at *
 subst h1
 cases ts with
 | nil =>
  have e:cW w []=w:=by simp [cW]
  rw [e,Lib.cut,sr h2]
  simp
 | cons t ts =>
  have e:cW w (t :: ts)=w ++ 32 :: cW t ts:=by simp [cW]
  have hi:Lib.index (w ++ 32 :: cW t ts) [32]=(w.length:Nat):=sT h2
  rw [e,Lib.cut,hi,if_pos (by omega),Int.toNat_natCast]
  simp
theorem wY (s:RdS) (line:List UInt8):eK s line=if bA (jr (aA line).1) s.last=false then .error 4 else (match jh (jr (aA line).1) line s.funcs with | none=>.error 2 | some l=>.ok ⟨l,jr (aA line).1⟩):=by
 unfold eK
 split
 ·rfl
 ·rename_i hb
  generalize jr (aA line).1=c at *
  have hc:c=1\/c=2\/c=3\/c=4\/c=5:=by
   unfold bA at hb
   split at hb
   ·omega
   split at hb
   ·omega
   split at hb
   ·omega
   ·exact absurd rfl hb
  rcases hc with rfl | rfl | rfl | rfl | rfl
  ·cases h:lG line <;> simp [jh,h]
  ·by_cases h:line=gS <;> simp [jh,h]
  ·cases h:iQ line <;> simp [jh,h]
  ·cases h:jd line <;> simp [jh,h]
  ·cases h:jV line <;> simp [jh,h]
end Go.Ab
namespace Go.Ab.Z12
open Go Go.Ab Go.Proofs
theorem rCut {s p:List UInt8} (h:s.length<=4000000000):aj prog 40 [Sb s,Sb p] (.tup [Sb (Lib.cut s p).1,Sb (Lib.cut s p).2.1,B (Lib.cut s p).2.2]):=by
 refine aj.ext (g:=BZ) rfl ?_
 have:Nat.blt (ByteArray.mk ⟨s⟩).size 4294967281=true:=by
  have e:(ByteArray.mk ⟨s⟩).size=s.length:=rfl
  rw [e,Nat.blt_eq]; omega
 simp only [BZ,this,cond_true]
theorem rTake {c0:TV} {s:RdS} {line:List UInt8} (hs:line.length<=4000000000) (h:RFs c0 s.funcs) (hI:xY s)
  (hz1:s.funcs.length + 1<=4294967296) (hz2:∀ fs0 f,s.funcs=fs0 ++ [f]->f.blocks.length + 1<=4294967296) (hz3:∀ fs0 p r bs bl,s.funcs=fs0 ++ [⟨p,r,bs ++ [bl]⟩]->bl.ins.length + 1<=4294967296) :
  (∀ n,eK s line=.error n->∃ c0' c1',aj prog 41 [.tup [c0,I (s.last:Nat)],Sb line] (.tup [I (n:Nat),.tup [c0',c1']])/\0 < n/\n<=4/\c0'.isSl=true/\c1'.isSc=true) /\
  (∀ s',eK s line=.ok s'->∃ c0',aj prog 41 [.tup [c0,I (s.last:Nat)],Sb line] (.tup [I 0,.tup [c0',I (s'.last:Nat)]])/\RFs c0' s'.funcs):=by
 have hchk:(Bool.and (TV.isSl c0) (Bool.and (TV.isSc (I (s.last:Nat))) true))=true:=by simp [h.isSl,TV.isSc,scV]
 have hcut:=rCut (s:=line) (p:=[32]) hs
 rw [cut_sp] at hcut
 have hcls:=DS (aA line).1
 rw [E0] at hcls
 have hmay:=rMay (jr (aA line).1:Nat) (s.last:Nat)
 rw [FO] at hmay
 rw [wY]
 generalize jr (aA line).1=c at *
 by_cases hb:bA c s.last=false
 ·rw [if_pos hb]
  refine ⟨fun n hn=>?_,fun s' h'=>nomatch h'⟩
  cases hn
  refine ⟨c0,I (s.last:Nat),aj.of (f41_MR _ _ _) ?_,by decide,by decide,h.isSl,rfl⟩
  unfold f41_M
  rw [hb] at hmay
  exact aa.chk hchk (aa.call hcut (aa.chk rfl (aa.chk rfl (aa.chk rfl (aa.chk rfl (aa.call hcls (aa.chk rfl (aa.call hmay (aa.chk rfl (aa.tv rfl (aa.ite (v:=true) rfl (fun _=>aa.ret) nofun)))))))))))
 ·rw [if_neg hb]
  have hb:bA c s.last=true:=by simpa using hb
  rw [hb] at hmay
  obtain ⟨c0',q1,hsl,q2⟩:=rPut hs h (c1:=I (s.last:Nat)) rfl (c:=c) (last:=s.last) (by cases s; exact hI) hb hz1 hz2 hz3
  have hchk2:(Bool.and (Bool.and true true) (Bool.and (TV.isSl c0') (Bool.and (TV.isSc (I (s.last:Nat))) true)))=true:=by simp [hsl,TV.isSc,scV]
  cases hp:jh c line s.funcs with
  | none =>
   refine ⟨fun n hn=>?_,fun s' h'=>nomatch h'⟩
   cases hn
   rw [hp] at q1
   refine ⟨c0',I (s.last:Nat),aj.of (f41_MR _ _ _) ?_,by decide,by decide,hsl,rfl⟩
   unfold f41_M
   exact aa.chk hchk (aa.call hcut (aa.chk rfl (aa.chk rfl (aa.chk rfl (aa.chk rfl (aa.call hcls (aa.chk rfl (aa.call hmay (aa.chk rfl (aa.tv rfl (aa.ite (v:=false) rfl nofun fun _ =>
    aa.chk hchk (aa.call q1 (aa.chk hchk2 (aa.chk rfl (aa.tv rfl (aa.ite (v:=true) rfl (fun _=>aa.ret) nofun))))))))))))))))
  | some l =>
   refine ⟨fun n hn=>(nomatch hn),fun s' h'=>?_⟩
   cases h'
   rw [hp] at q1
   refine ⟨c0',aj.of (f41_MR _ _ _) ?_,q2 l hp⟩
   unfold f41_M
   exact aa.chk hchk (aa.call hcut (aa.chk rfl (aa.chk rfl (aa.chk rfl (aa.chk rfl (aa.call hcls (aa.chk rfl (aa.call hmay (aa.chk rfl (aa.tv rfl (aa.ite (v:=false) rfl nofun fun _ =>
    aa.chk hchk (aa.call q1 (aa.chk hchk2 (aa.chk rfl (aa.tv rfl (aa.ite (v:=false) rfl nofun fun _=>aa.ret))))))))))))))))
end Go.Ab.Z12
end
section
set_option maxRecDepth 20000
namespace Go.Ab
open Go.Ab.Z12
theorem RBm.weak {e:List TV} {x:DBlock} (h:RBm e x):RBlock none e x:=by
 obtain ⟨c,i,g,rfl,hc,hd,hi,hg,ho⟩:=h
 exact ⟨c,i,g,rfl,hc.weak fun _ _ h=>h,hd,hi.weak fun _ _ h=>h.weak,hg.weak fun _ _ h=>h,ho⟩
theorem RFm.weak {e:List TV} {x:DFunc} (h:RFm e x):RFunc none e x:=by
 obtain ⟨b,rfl,hb,ho⟩:=h
 exact ⟨b,rfl,hb.weak fun _ _ h=>h.weak,ho⟩
theorem wW:∀ (t:List UInt8),(∀ a ls,(aq t).1=a :: ls->Lib.index t [10]=(a.length:Nat)/\t=a ++ 10 :: t.drop (a.length + 1)/\aq (t.drop (a.length + 1))=(ls,(aq t).2))/\((aq t).1=[]->Lib.index t [10]=-1/\(aq t).2=t)
 | []=>⟨fun a ls h=>(by simp [aq] at h),fun _=>⟨rfl,rfl⟩⟩
 | c :: t => by
  obtain ⟨h1,h2⟩:=wW t
  by_cases hc:c=10
  ·subst hc
   refine ⟨fun a ls h=>?_,fun h=>?_⟩
   ·simp only [aq,if_true] at h
    cases h
    exact ⟨by simp [Lib.index],by simp,by simp [aq]⟩
   ·simp [aq] at h
  ·have hc':¬ (10:UInt8)=c:=fun e=>hc e.symm
   cases e:(aq t).1 with
   | nil =>
    obtain ⟨g1,g2⟩:=h2 e
    have e1:aq (c :: t)=([],c :: (aq t).2):=by simp only [aq,if_neg hc,e]
    rw [e1]
    refine ⟨fun a ls h=>(by cases h),fun _=>⟨?_,?_⟩⟩
    ·rw [Lib.index,g1]; simp [hc']
    ·show c :: (aq t).2=c :: t
     rw [g2]
   | cons a ls =>
    obtain ⟨g1,g2,g3⟩:=h1 a ls e
    have e1:aq (c :: t)=((c :: a) :: ls,(aq t).2):=by simp only [aq,if_neg hc,e]
    rw [e1]
    refine ⟨fun a' ls' h=>?_,fun h=>(by cases h)⟩
    cases h
    have h4:¬ ((a.length:Nat):Int)=-1:=by omega
    refine ⟨?_,?_,?_⟩
    ·rw [Lib.index,g1]; simp [hc',h4]
    ·rw [List.length_cons,List.drop_succ_cons,List.cons_append,<- g2]
    ·rw [List.length_cons,List.drop_succ_cons]; exact g3
theorem D0 {t:List UInt8}:(∀ a ls,(aq t).1=a :: ls->∃ t',Lib.cut t [10]=(a,t',true)/\aq t'=(ls,(aq t).2)/\t'.length < t.length/\a.length<=t.length)/\((aq t).1=[]->Lib.cut t [10]=((aq t).2,[],false)):=by
 obtain ⟨h1,h2⟩:=wW t
 refine ⟨fun a ls h=>?_,fun h=>?_⟩
 ·obtain ⟨g1,g2,g3⟩:=h1 a ls h
  have hl:=congrArg List.length g2
  rw [List.length_append,List.length_cons,List.length_drop] at hl
  refine ⟨t.drop (a.length + 1),?_,g3,by rw [List.length_drop]; omega,by omega⟩
  rw [Lib.cut,g1,if_pos (by omega),Int.toNat_natCast]
  have:t.take a.length=a:=by conv=>lhs; rw [g2]; rw [List.take_left]
  rw [this]
  rfl
 ·obtain ⟨g1,g2⟩:=h2 h
  rw [Lib.cut,g1,if_neg (by omega),g2]
theorem ym:∀ (fs:List DFunc),fs.length<=(iR ⟨fs⟩).length/\∀ f,f ∈ fs->f.blocks.length<=(iR ⟨fs⟩).length/\∀ b,b ∈ f.blocks->b.ins.length<=(iR ⟨fs⟩).length
 | []=>⟨by simp,fun _ h=>(nomatch h)⟩
 | f :: fs => by
  obtain ⟨h1,h2⟩:=ym fs
  have e:iR ⟨f :: fs⟩=iB f ++ iR ⟨fs⟩:=rfl
  have hb:∀ bs:List DBlock,bs.length<=(bs.flatMap dv).length/\∀ b,b ∈ bs->b.ins.length<=(bs.flatMap dv).length:=by
   intro bs
   induction bs with
   | nil=>exact ⟨by simp,fun _ h=>(nomatch h)⟩
   | cons b bs ih =>
    rw [List.flatMap_cons,List.length_append]
    have:(dv b).length=b.ins.length + 2:=by simp [dv]
    refine ⟨by rw [List.length_cons]; omega,fun x hx=>?_⟩
    rcases List.mem_cons.1 hx with rfl | hx
    ·omega
    ·have:=ih.2 x hx; omega
  have hf:(iB f).length=(f.blocks.flatMap dv).length + 1:=by simp [iB]
  obtain ⟨k1,k2⟩:=hb f.blocks
  rw [e,List.length_append]
  refine ⟨by rw [List.length_cons]; omega,fun x hx=>?_⟩
  rcases List.mem_cons.1 hx with rfl | hx
  ·exact ⟨by omega,fun b hb=>by have:=k2 b hb; omega⟩
  ·obtain ⟨q1,q2⟩:=h2 x hx
   exact ⟨by omega,fun b hb=>by have:=q2 b hb; omega⟩
theorem xw (s:RdS):(iR ⟨s.funcs⟩).length<=(dG s).length + 1:=by
 unfold dG
 split
 ·rw [List.length_dropLast]; omega
 ·omega
theorem yc {n:Nat} (h:n < 9223372036854775807):pbin (.int .i64) .gtr (I (n:Int)) (I 65536)=some (B (decide (65536 < n))):=by
 by_cases h:65536 < n
 ·simp [pbin,fx,h]; omega
 ·simp [pbin,fx,h]; omega
theorem Gc {n:Nat} (h:0 < n):pbin (.int .i64) .neq (I (n:Int)) (I 0)=some (B true):=by
 have:¬ ((n:Nat):Int)=0:=by omega
 simp [pbin,fx,this]
 omega
def gy (r2:List UInt8) (N:Nat) (x:Except (Nat × Nat) RdS) (G:TV->Prop):Prop:=match x with
 | .error (e,k)=>G (.tup [.agg [.lit ah],I (e:Nat),I (k:Nat)])
 | .ok s=>if r2=[]/\s.last=5 then ((oV ⟨s.funcs⟩->∃ g,G (.tup [.agg [g],I 0,I 0])/\RMod none [g] ⟨s.funcs⟩)/\(¬ oV ⟨s.funcs⟩->G (.tup [.agg [.lit ah],I 1,I 0]))) else G (.tup [.agg [.lit ah],I 2,I (N:Nat)])
theorem gy.mono {r2:List UInt8} {N:Nat} {x:Except (Nat × Nat) RdS} {G G':TV->Prop} (h:∀ r,G r->G' r) (hp:gy r2 N x G):gy r2 N x G':=by
 unfold gy at hp ⊢
 split
 ·exact h _ hp
 ·rename_i s
  simp only at hp
  split
  ·rename_i hc
   rw [if_pos hc] at hp
   exact ⟨fun hm=>by obtain ⟨g,q1,q2⟩:=hp.1 hm; exact ⟨g,h _ q1,q2⟩,fun hm=>h _ (hp.2 hm)⟩
  ·rename_i hc
   rw [if_neg hc] at hp
   exact h _ hp
end Go.Ab
namespace Go.Ab.Z12
open Go Go.Ab Go.Proofs
theorem yw:∀ (ls:List (List UInt8)) (n:Nat) (t:List UInt8) (s:RdS) (w5:TV),(aq t).1=ls->t.length<=65536->xY s->RFs w5 s.funcs->(dG s).length + 1=n->n + ls.length<=70000 ->
  gy (aq t).2 (n + ls.length) (gZ s n ls) (fun r=>aa prog 17 (f17_0 (I (n:Nat)) (Sb (Lib.cut t [10]).1) (Sb (Lib.cut t [10]).2.1) (B (Lib.cut t [10]).2.2) (I (s.last:Nat)) w5) r)
 | [], n, t, s, w5, hls, ht, hI, hw, hn, hb => by
  rw [D0.2 hls]
  generalize (aq t).2=r2
  have step0:∀ {r:TV},aa prog 17 (f17_1 (I (n:Nat)) (Sb r2) (I (s.last:Nat)) w5) r->aa prog 17 (f17_0 (I (n:Nat)) (Sb r2) (Sb []) (B false) (I (s.last:Nat)) w5) r:=fun h=>by
   unfold f17_0
   exact aa.ite (v:=false) rfl nofun fun _=>f17_1_J h
  unfold gZ gy
  have hlast:=DV (s.last:Nat)
  have hfr:RMod (some false) [Ab.frz w5] ⟨s.funcs⟩:=⟨_,rfl,(hw.weak fun _ _ h=>RFm.weak h).frz fun _ _ h=>h.frz⟩
  have hwk:RMod none [w5] ⟨s.funcs⟩:=⟨_,rfl,hw.weak fun _ _ h=>RFm.weak h⟩
  by_cases h2:r2=[]
  ·subst h2
   have e5:decide (((s.last:Nat):Int)=5)=decide (s.last=5):=by
    by_cases h:s.last=5 <;> simp [h]; omega
   rw [e5] at hlast
   by_cases h5:s.last=5
   ·simp only
    rw [if_pos ⟨trivial,h5⟩]
    rw [decide_eq_true h5] at hlast
    have step:∀ {r:TV},aa prog 17 (f17_2 (I (n:Nat)) (B false) (I (s.last:Nat)) w5) r->aa prog 17 (f17_1 (I (n:Nat)) (Sb []) (I (s.last:Nat)) w5) r:=fun h=>by
     unfold f17_1
     exact aa.tv (kM _ _) (aa.ite (v:=false) rfl nofun fun _=>aa.call hlast (aa.chk rfl (aa.tv rfl (f17_2_J h))))
    refine ⟨fun hm=>⟨w5,step0 (step ?_),hwk⟩,fun hm=>step0 (step ?_)⟩
    ·unfold f17_2
     have hr:=r8 hfr
     rw [q0 hm] at hr
     exact aa.ite (v:=false) rfl nofun fun _=>aa.call hr (aa.chk rfl (aa.tv rfl (aa.ite (v:=false) rfl nofun fun _=>aa.ret)))
    ·unfold f17_2
     have hr:=r8 hfr
     rw [sh hm] at hr
     exact aa.ite (v:=false) rfl nofun fun _=>aa.call hr (aa.chk rfl (aa.tv rfl (aa.ite (v:=true) rfl (fun _=>aa.ret) nofun)))
   ·simp only
    rw [if_neg fun h=>h5 h.2]
    rw [decide_eq_false h5] at hlast
    refine step0 ?_
    unfold f17_1
    refine aa.tv (kM _ _) (aa.ite (v:=false) rfl nofun fun _=>aa.call hlast (aa.chk rfl (aa.tv rfl (f17_2_J ?_))))
    unfold f17_2
    exact aa.ite (v:=true) rfl (fun _=>aa.ret) nofun
  ·simp only
   rw [if_neg fun h=>h2 h.1]
   refine step0 ?_
   unfold f17_1
   refine aa.tv (kM _ _) (aa.ite (v:=true) (by simp [asBool,h2]) (fun _=>f17_2_J ?_) nofun)
   unfold f17_2
   exact aa.ite (v:=true) rfl (fun _=>aa.ret) nofun
 | a :: ls, n, t, s, w5, hls, ht, hI, hw, hn, hb => by
  obtain ⟨t',hcut,hlt,hl1,hl2⟩:=D0.1 a ls hls
  rw [hcut]
  have hbig:=xw s
  obtain ⟨b1,b2⟩:=ym s.funcs
  rw [List.length_cons] at hb
  have take:=rTake (c0:=w5) (s:=s) (line:=a) (by omega) hw hI (by omega) (fun fs0 f e=>by have:=(b2 f (by rw [e]; simp)).1; omega) (fun fs0 p r bs bl e=>by have:=(b2 ⟨p,r,bs ++ [bl]⟩ (by rw [e]; simp)).2 bl (by simp); omega)
  have hchk:(Bool.and (TV.isSl w5) (Bool.and (TV.isSc (I (s.last:Nat))) true))=true:=by simp [hw.isSl,TV.isSc,scV]
  rw [gZ]
  cases hst:eK s a with
  | error e =>
   obtain ⟨c0',c1',q1,q2,q3,q4,q5⟩:=take.1 e hst
   simp only [gy]
   unfold f17_0
   have hchk2:(Bool.and (Bool.and true true) (Bool.and (TV.isSl c0') (Bool.and (TV.isSc c1') true)))=true:=by simp [q4,q5]
   exact aa.ite (v:=true) rfl (fun _=>aa.chk hchk (aa.call q1 (aa.chk hchk2 (aa.chk rfl (aa.tv (Gc q2) (aa.ite (v:=true) rfl (fun _=>aa.ret) nofun)))))) nofun
  | ok s' =>
   obtain ⟨c0',q1,q2⟩:=take.2 s' hst
   obtain ⟨k1,k2⟩:=tX hI hst
   have e1:(aq t').1=ls:=by rw [hlt]
   have e2:(aq t').2=(aq t).2:=by rw [hlt]
   have ih:=yw ls (n + 1) t' s' c0' e1 (by omega) k1 q2 (by rw [k2,List.length_append,List.length_singleton]; omega) (by omega)
   rw [e2] at ih
   have en:n + 1 + ls.length=n + (a :: ls).length:=by rw [List.length_cons]; omega
   rw [en] at ih
   have hchk2:(Bool.and (Bool.and true true) (Bool.and (TV.isSl c0') (Bool.and (TV.isSc (I (s'.last:Nat))) true)))=true:=by simp [q2.isSl,TV.isSc,scV]
   refine ih.mono fun r hr=>?_
   unfold f17_0
   exact aa.ite (v:=true) rfl (fun _=>aa.chk hchk (aa.call q1 (aa.chk hchk2 (aa.chk rfl (aa.tv rfl (aa.ite (v:=false) rfl nofun fun _=>aa.tv (inc (n:=n + 1) (by omega) (by omega)) (aa.call (rCut (s:=t') (by omega)) (aa.chk rfl (aa.chk rfl (aa.chk rfl (aa.chk rfl (f17_0_J hr)))))))))))) nofun
theorem Gz {t:List UInt8} (ht:t.length<=4000000000) :
  (∀ e k,lL t=.error (e,k)->aj prog 17 [Sb t] (.tup [.agg [.lit ah],I (e:Nat),I (k:Nat)])) /\
  ∀ m,lL t=.ok m->(oV m->∃ g,aj prog 17 [Sb t] (.tup [.agg [g],I 0,I 0])/\RMod none [g] m)/\(¬ oV m->aj prog 17 [Sb t] (.tup [.agg [.lit ah],I 1,I 0])):=by
 have top:∀ {r:TV},aa prog 17 (f17_M (Sb t)) r->aj prog 17 [Sb t] r:=fun h=>aj.of (f17_MR _) h
 unfold lL
 by_cases hl:65536 < t.length
 ·rw [if_pos hl]
  refine ⟨fun e k h=>?_,fun m h=>(nomatch h)⟩
  cases h
  refine top ?_
  unfold f17_M
  exact aa.tv (zI _) (aa.tv (yc (by omega)) (aa.ite (v:=true) (by simp [asBool,hl]) (fun _=>aa.ret) nofun))
 ·rw [if_neg hl]
  have hlen:(aq t).1.length<=t.length:=by
   have h1:=(pN t).1
   have h2:=congrArg List.length h1
   rw [List.length_append] at h2
   have h3:(aq t).1.length<=(nlE (aq t).1).length:=by
    generalize (aq t).1=l
    induction l with
    | nil=>simp
    | cons a l ih=>rw [go]; simp only [List.length_append,List.length_cons,List.length_nil]; omega
   omega
  have hp:=yw (aq t).1 1 t ⟨[],0⟩ (.lit ah) rfl (by omega) inv0 RL.nil rfl (by omega)
  have hq:=hp.mono (G':=fun r=>aj prog 17 [Sb t] r) fun r hr=>top (by
   unfold f17_M
   exact aa.tv (zI _) (aa.tv (yc (by omega)) (aa.ite (v:=false) (by simp [asBool]; omega) nofun fun _=>aa.call (rCut (s:=t) (by omega)) (aa.chk rfl (aa.chk rfl (aa.chk rfl (aa.chk rfl (aa.chk rfl (f17_0_J hr)))))))))
  unfold gy at hq
  cases hr:gZ ⟨[],0⟩ 1 (aq t).1 with
  | error z =>
   obtain ⟨e0,k0⟩:=z
   rw [hr] at hq
   refine ⟨fun e k h=>?_,fun m h=>(nomatch h)⟩
   cases h
   exact hq
  | ok s =>
   rw [hr] at hq
   simp only at hq ⊢
   by_cases hc:(aq t).2=[]/\s.last=5
   ·rw [if_pos hc] at hq ⊢
    refine ⟨fun e k h=>(nomatch h),fun m h=>?_⟩
    cases h
    exact hq
   ·rw [if_neg hc] at hq ⊢
    refine ⟨fun e k h=>?_,fun m h=>(nomatch h)⟩
    cases h
    rw [Nat.add_comm] at hq
    exact hq
end Go.Ab.Z12
end
section
set_option maxRecDepth 100000
namespace Go.Ab.Z12
open Go Go.Ab Go.Proofs
theorem E8:aj prog 5 [] (B true):=⟨100,by kernel_rfl⟩
end Go.Ab.Z12
end
section
set_option maxRecDepth 20000
namespace Go.Ab
open Go.Ab.Z12
theorem Bj {s:RdS} {l:List UInt8} {n:Nat} (h:eK s l=.error n):0 < n:=by
 rw [wY] at h
 split at h
 ·cases h; decide
 ·split at h
  ·cases h; decide
  ·cases h
theorem xg:∀ {ls:List (List UInt8)} {s:RdS} {n e k:Nat},gZ s n ls=.error (e,k)->0 < e
 | [],s,n,e,k,h=>by cases h
 | a :: ls, s, n, e, k, h => by
  rw [gZ] at h
  split at h
  ·rename_i e' he
   cases h
   exact Bj he
  ·exact xg h
theorem Br {t:List UInt8} {e k:Nat} (h:lL t=.error (e,k)):0 < e:=by
 unfold lL at h
 split at h
 ·cases h; decide
 ·split at h
  ·rename_i z hz
   cases h
   exact xg hz
  ·split at h
   ·cases h
   ·cases h; decide
theorem RBlock.in16s {q:Option Bool} {e:List TV} {b:DBlock} (h:RBlock q e b):(∀ n,n ∈ b.pad.catches->in16 n)/\∀ x,x ∈ b.ins->in16 x.k:=by
 obtain ⟨c,i,g,rfl,hc,hd,hi,hg,ho⟩:=h
 refine ⟨fun n hn=>?_,fun x hx=>?_⟩
 ·obtain ⟨e,_,h⟩:=RL.uh hc n hn
  exact h
 ·obtain ⟨e,_,_,_,h⟩:=RL.uh hi x hx
  exact h.2.2.2.2.1
theorem RMod.in16s {q:Option Bool} {e:List TV} {m:DMod} (h:RMod q e m):∀ f,f ∈ m.funcs->∀ b,b ∈ f.blocks->(∀ n,n ∈ b.pad.catches->in16 n)/\∀ x,x ∈ b.ins->in16 x.k:=by
 obtain ⟨x,rfl,hx⟩:=h
 intro f hf b hb
 obtain ⟨e,b',_,h,_⟩:=RL.uh hx f hf
 obtain ⟨e2,h2⟩:=RL.uh h b hb
 exact h2.in16s
end Go.Ab
namespace Go.Ab.Z12
open Go Go.Ab Go.Proofs
theorem zx {m:DMod} (h:oV m):kA m:=by
 have h8:∀ f,f ∈ m.funcs->f.params<=8:=fun f hf=>by
  obtain ⟨i,hi⟩:=List.mem_iff_getElem?.1 hf
  exact (h.2.2 i (GD.1 hi).1 f hi).1.2.1
 refine ⟨by have:=h.1; omega,fun i hi f hf=>?_⟩
 obtain ⟨⟨p1,p2,p3,p4⟩,hb1,_,hb2⟩:=h.2.2 i hi f hf
 refine ⟨by omega,fun j hj b hb=>?_⟩
 obtain ⟨q1,q2,q3,q4⟩:=hb2 j hj b hb
 refine ⟨by omega,?_,?_,fun k hk x hx=>?_⟩
 ·cases hl:b.landing with
  | false=>rw [(q2.1 hl).2.1]; simp
  | true=>have:=(q2.2 hl).2.1; omega
 ·have:=(od q4.2.2.2.1 h.1 p4 h8).2.1; omega
 ·have:=(od (q3 k hk x hx).2.2.2.2.2 h.1 p4 h8).2.1; omega
theorem rBack0 {t:List UInt8} (ht:t.length<=3000):aa prog 4 (f4_0 (Sb t)) (B true):=by
 obtain ⟨h1,h2⟩:=Gz (t:=t) (by omega)
 unfold f4_0
 cases hr:lL t with
 | error z =>
  obtain ⟨e,k⟩:=z
  exact aa.call (h1 e k hr) (aa.chk rfl (aa.chk rfl (aa.chk rfl (aa.chk rfl (aa.tv (Gc (Br hr)) (aa.ite (v:=true) rfl (fun _=>aa.tv rfl (aa.tv rfl aa.ret)) nofun))))))
 | ok m =>
  obtain ⟨g1,g2⟩:=h2 m hr
  by_cases hm:oV m
  ·obtain ⟨g,q1,q2⟩:=g1 hm
   obtain ⟨y,e,hy⟩:=q2
   cases e
   have hf:RMod (some false) [Ab.frz g] m:=⟨_,rfl,hy.frz fun _ _ h=>h.frz⟩
   have hs:=zx hm
   have hshow:=vD hf hs (vB hf hs)
   obtain ⟨k1,k2⟩:=zn hr
   rw [qp,if_pos hm,if_pos (by rw [k1]; exact k2),k1] at hshow
   have hfit:(Bool.and (TV.isAgg (.agg [g]) 1) (ab zSl (TV.cellsL true (.agg [g])) 0))=true:=by simp [TV.isAgg,TV.cellsL,ab,zSl,aG,hy.isSl]
   refine aa.call q1 (aa.chk rfl (aa.chk hfit (aa.chk rfl (aa.chk rfl (aa.tv rfl (aa.ite (v:=false) rfl nofun fun _=>aa.call hshow (aa.chk rfl (aa.chk rfl (aa.chk rfl (aa.tv rfl (aa.ite (v:=true) rfl (fun _=>aa.tv (v:=B true) ?_ aa.ret) nofun)))))))))))
   have:=dR t t
   rw [decide_eq_true rfl] at this
   exact this
  ·exact aa.call (g2 hm) (aa.chk rfl (aa.chk rfl (aa.chk rfl (aa.chk rfl (aa.tv rfl (aa.ite (v:=true) rfl (fun _=>aa.tv rfl (aa.tv rfl aa.ret)) nofun))))))
theorem Ej {n:Nat}:pbin (.int .i64) .gtr (I (n:Int)) (I 3000)=some (B (decide (3000 < n))):=by
 by_cases h:3000 < n
 ·simp [pbin,fx,h]; omega
 ·simp [pbin,fx,h]; omega
theorem rReadBack {q:Option Bool} {e:List TV} {m:DMod} (hm:RMod q e m) (t:List UInt8):aj prog 4 [.agg e,Sb t] (B true):=by
 have hw:=hm.in16s
 obtain ⟨b,hb,hb2⟩:=r7 hm
 refine aj.of (f4_MR _ _) ?_
 obtain ⟨x,e0,hx⟩:=id hm
 cases e0
 unfold f4_M
 refine aa.chk rfl (aa.call E8 (aa.chk rfl (aa.tv rfl (aa.ite (v:=false) rfl nofun fun _=>aa.call hb (aa.chk rfl (aa.tv rfl ?_))))))
 cases b with
 | false=>exact aa.ite (v:=true) rfl (fun _=>aa.ret) nofun
 | true =>
  have hs:=hb2 rfl
  refine aa.ite (v:=false) rfl nofun fun _=>aa.tv (zI _) (aa.tv Ej ?_)
  by_cases hl:3000 < t.length
  ·exact aa.ite (v:=true) (by simp [asBool,hl]) (fun _=>aa.ret) nofun
  refine aa.ite (v:=false) (by simp [asBool]; omega) nofun fun _=>?_
  have h0:=rBack0 (t:=t) (by omega)
  have hshow:=vD hm hs (vB hm hs)
  rw [qp] at hshow
  by_cases hp:oV m
  ·rw [if_pos hp] at hshow
   by_cases hlen:(jl m).length<=65536
   ·rw [if_pos hlen] at hshow
    obtain ⟨g,q1,q2⟩:=((Gz (t:=jl m) (by omega)).2 m (Bi hp hw hlen)).1 hp
    obtain ⟨y,e1,hy⟩:=q2
    cases e1
    have hf:RMod (some false) [Ab.frz g] m:=⟨_,rfl,hy.frz fun _ _ h=>h.frz⟩
    have hsame:=r18 hf hm
    rw [q0 rfl] at hsame
    have hfit:(Bool.and (TV.isAgg (.agg [g]) 1) (ab zSl (TV.cellsL true (.agg [g])) 0))=true:=by simp [TV.isAgg,TV.cellsL,ab,zSl,aG,hy.isSl]
    exact aa.call hshow (aa.chk rfl (aa.chk rfl (aa.chk rfl (aa.tv rfl (aa.ite (v:=true) rfl (fun _=>aa.call q1 (aa.chk rfl (aa.chk hfit (aa.chk rfl (aa.chk rfl (aa.tv rfl (aa.ite (v:=false) rfl nofun fun _=>aa.tv rfl (aa.ite (v:=false) rfl nofun fun _=>aa.call hsame (aa.chk rfl (aa.tv rfl (aa.ite (v:=false) rfl nofun fun _=>f4_0_J h0))))))))))) nofun)))))
   ·rw [if_neg hlen] at hshow
    exact aa.call hshow (aa.chk rfl (aa.chk rfl (aa.chk rfl (aa.tv rfl (aa.ite (v:=false) rfl nofun fun _=>f4_0_J h0)))))
  ·rw [if_neg hp] at hshow
   exact aa.call hshow (aa.chk rfl (aa.chk rfl (aa.chk rfl (aa.tv rfl (aa.ite (v:=false) rfl nofun fun _=>f4_0_J h0)))))
end Go.Ab.Z12
end
section
namespace Go.Ab
section
variable {P:Program}
theorem F6:∀ t e,tM [] t=some e->aY P t e:=fun t e h=>by simp [tM] at h
theorem Dm {l:List (Nat × TyD)} {k:Nat} {d:TyD} (h1:tyOf P k=some d) (h:∀ t e,tM l t=some e->aY P t e):∀ t e,tM ((k,d) :: l) t=some e->aY P t e:=by
 intro t e he
 simp only [tM] at he
 cases hk:k.beq t with
 | true =>
  rw [hk] at he
  have:k=t:=Nat.eq_of_beq_eq_true hk
  subst this
  cases he
  exact aY.of h1
 | false=>rw [hk] at he; exact h t e he
def FM (P : Program) (f : FuncId) (fn : Func) : Prop := P.funcs[f]? = some fn ∧ (fn.name == "runtime.NumGoroutine") = false ∧ fn.body.isSome = true
theorem fn_nil:∀ (f:FuncId) (e:Func),(none:Option Func)=some e->FM P f e:=fun f e h=>by cases h
theorem ap {g : FuncId → Option Func} {k : FuncId} {fn : Func} (h1 : P.funcs[k]? = some fn) (h2 : (fn.name == "runtime.NumGoroutine") = false) (h3 : fn.body.isSome = true) (h : ∀ f e, g f = some e → FM P f e) :
  ∀ f e,(bif Nat.beq f k then some fn else g f)=some e->FM P f e:=by
 intro f e he
 cases hk:Nat.beq f k with
 | true =>
  rw [hk] at he
  have:f=k:=Nat.eq_of_beq_eq_true hk
  subst this
  cases he
  exact ⟨h1,h2,h3⟩
 | false=>rw [hk] at he; exact h f e he
theorem bo.EY {t:TypeId} {k:IntKind} {cs:List TV} (h:bo P t cs) (hu:P.underlying t=some (.int k)):∃ n,cs=[.lit (.int k n)]/\(Lit.int k n).wf=true:=by
 cases h with
 | int hu' hw=>rw [hu] at hu'; cases hu'; exact ⟨_,rfl,hw⟩
 | bool hu'=>rw [hu] at hu'; cases hu'
 | str hu'=>rw [hu] at hu'; cases hu'
 | nil hu'=>rw [hu] at hu'; cases hu'
 | sl hu'=>rw [hu] at hu'; cases hu'
 | struct hu'=>rw [hu] at hu'; cases hu'
 | arr hu'=>rw [hu] at hu'; cases hu'
theorem bo.F9 {t:TypeId} {cs:List TV} (h:bo P t cs) (hu:P.underlying t=some .bool):∃ b,cs=[.lit (.bool b)]:=by
 cases h with
 | int hu' hw=>rw [hu] at hu'; cases hu'
 | bool hu'=>exact ⟨_,rfl⟩
 | str hu'=>rw [hu] at hu'; cases hu'
 | nil hu'=>rw [hu] at hu'; cases hu'
 | sl hu'=>rw [hu] at hu'; cases hu'
 | struct hu'=>rw [hu] at hu'; cases hu'
 | arr hu'=>rw [hu] at hu'; cases hu'
theorem bo.str_at {t:TypeId} {cs:List TV} (h:bo P t cs) (hu:P.underlying t=some .string):∃ s,cs=[.lit (.string s)]/\s.size<=maxLen:=by
 cases h with
 | int hu' hw=>rw [hu] at hu'; cases hu'
 | bool hu'=>rw [hu] at hu'; cases hu'
 | str hu' hl=>exact ⟨_,rfl,hl⟩
 | nil hu'=>rw [hu] at hu'; cases hu'
 | sl hu'=>rw [hu] at hu'; cases hu'
 | struct hu'=>rw [hu] at hu'; cases hu'
 | arr hu'=>rw [hu] at hu'; cases hu'
theorem F2.EW {α:Type} {R:List TV->α->Prop}:∀ (xs:List (List TV)),(∀ (i:Nat) x,xs[i]? = some x->∃ a,R x a)->∃ l,F2 R xs l
 | [],_=>⟨[],.nil⟩
 | x :: xs,h=>by
  obtain ⟨a,ha⟩:=h 0 x rfl
  obtain ⟨l,hl⟩:=F2.EW xs fun i y hy=>h (i + 1) y (by simpa using hy)
  exact ⟨a :: l,.cons ha hl⟩
theorem bo.yR {α:Type} {R:List TV->α->Prop} {t e:TypeId} {s:Nat} {cs:List TV} (h:bo P t cs) (hu:P.underlying t=some (.slice e)) (hs:P.cellsOf e=s) (hR:∀ x,bo P e x->∃ a,R x a):∃ x l,cs=[x]/\RL (some false) s R x l:=by
 subst hs
 cases h with
 | int hu' hw=>rw [hu] at hu'; cases hu'
 | bool hu'=>rw [hu] at hu'; cases hu'
 | str hu' hl=>rw [hu] at hu'; cases hu'
 | nil hu'=>exact ⟨_,[],rfl,.nil⟩
 | sl hu' hl h =>
  rw [hu] at hu'
  cases hu'
  obtain ⟨l,hl'⟩:=F2.EW _ fun i x hx=>hR x (h i x hx)
  exact ⟨_,l,rfl,.sl (by simp) hl' (by have:maxLen=9223372036854775807:=rfl; omega)⟩
 | struct hu'=>rw [hu] at hu'; cases hu'
 | arr hu'=>rw [hu] at hu'; cases hu'
theorem bo.iy {t:TypeId} {fs:Array Field} {cs:List TV} (h:bo P t cs) (hu:P.underlying t=some (.struct fs)):cs.length=P.cellsOf t/\∀ (i:Nat) (f:Field),fs[i]? = some f->bo P f.type ((cs.drop f.offset).take (P.cellsOf f.type)):=by
 cases h with
 | int hu' hw=>rw [hu] at hu'; cases hu'
 | bool hu'=>rw [hu] at hu'; cases hu'
 | str hu' hl=>rw [hu] at hu'; cases hu'
 | nil hu'=>rw [hu] at hu'; cases hu'
 | sl hu'=>rw [hu] at hu'; cases hu'
 | struct hu' hl h=>rw [hu] at hu'; cases hu'; exact ⟨hl,h⟩
 | arr hu'=>rw [hu] at hu'; cases hu'
theorem wf_i64 {n:Int} (h:(Lit.int .i64 n).wf=true):inI n:=by
 simp only [Lit.wf,GG,decide_eq_true_eq] at h
 exact h
theorem wf_u16 {n:Int} (h:(Lit.int .u16 n).wf=true):inW n:=by
 simp only [Lit.wf,GG,decide_eq_true_eq] at h
 exact h
end
end Go.Ab
end
section
namespace Go.Ab.Z12
open Go Go.Ab Go.Lib Go.RowKit Go.Proofs
section
variable {G:Laid}
theorem p9:(Tryz.prog.info? 77).map (·.size)=some 2:=by kernel_rfl
theorem w9:liesAt Tryz.prog Tryz.prog.depth 77 (2 / Tryz.prog.cellsOf 77) 0 77 1=true:=by kernel_rfl
theorem Dw:(Tryz.prog.info? 5).map (fun i=>(i.zero,i.size,i.bytes))=some (some (.int .u8 0),1,1):=by kernel_rfl
theorem Cf:Tryz.prog.cellsOf 5=1:=by kernel_rfl
theorem neB5:77≠5:=by decide
theorem Ga:∃ i0,Tryz.prog.info? 5=some i0/\i0.zero=some (.int .u8 0)/\i0.size=1/\i0.bytes=1:=by
 have h:=Dw
 cases hi:Tryz.prog.info? 5 with
 | none=>rw [hi] at h; cases h
 | some i =>
  rw [hi] at h
  simp only [GQ,GF,Prod.mk.injEq] at h
  exact ⟨i,rfl,h.1,h.2.1,h.2.2⟩
set_option maxHeartbeats 1000000 in
set_option maxRecDepth 100000 in
theorem FY (b:Nat) (w:World) (h0:w.cell? ⟨b,0,none⟩=some (.pointer (some ⟨b,0,none⟩))) :
  Calls Tryz.prog 61 #[.pointer (some ⟨b,0,none⟩)] w fun e w'=>e=.returned (.tuple #[])/\w'=w:=by
 obtain ⟨j,hj,_⟩:=Option.map_eq_some_iff.1 p9
 go_enter Tryz.func61,Tryz.ntmps61
 go_wp2
 rw [Lib.run_neq_ptr_same w _ Tryz.underlying74 hj]
 go_wp2
 go_end0
 exact ⟨rfl,rfl⟩
set_option maxHeartbeats 1000000 in
set_option maxRecDepth 100000 in
theorem D8 (b:Nat) (w:World) (h0:w.cell? ⟨b,0,none⟩=some (.pointer none)) (hsh:w.shape? b=some (77,2)) (hfz:w.frozen? ⟨b,0,none⟩=false) :
  Calls Tryz.prog 61 #[.pointer (some ⟨b,0,none⟩)] w fun e w'=>e=.returned (.tuple #[])/\w'=w.setCell ⟨b,0,none⟩ (.pointer (some ⟨b,0,none⟩)):=by
 obtain ⟨j,hj,hjs⟩:=Option.map_eq_some_iff.1 p9
 go_enter Tryz.func61,Tryz.ntmps61
 go_wp2
 rw [Lib.run_to_unsafe w ⟨b,0,none⟩ Tryz.underlying74 Tryz.underlying127 hj (by rw [hjs]; decide) hsh (Nat.zero_lt_succ 1)]
 simp only [Result.andThen]
 rw [Oper.upon_value]
 go_wp2
 rw [run_callFunc_extern Tryz.func75 (by kernel_rfl) (by kernel_rfl) (by kernel_rfl) (e:=Extern.AbiNoEscape.same) (by kernel_rfl)]
 rw [Lib.run_noEscape]
 simp only [Result.andThen]
 rw [Oper.upon_value]
 go_wp2
 rw [Lib.run_from_unsafe w ⟨b,0,none⟩ Tryz.underlying127 Tryz.underlying74 hj hsh w9]
 simp only [Result.andThen]
 rw [Oper.upon_value]
 go_wp2
 go_end0
 exact ⟨rfl,rfl⟩
theorem pU {b:Nat} {p v:Value} {bs:List Value} {w:World} (h:Bld 77 5 b p v bs w) :
  Calls Tryz.prog 61 #[.pointer (some ⟨b,0,none⟩)] w fun e w'=>e=.returned (.tuple #[])/\Bld 77 5 b (.pointer (some ⟨b,0,none⟩)) v bs w'/\Exact b v w w'/\w'.heap.size=w.heap.size:=by
 have cell0:w.cell? ⟨b,0,none⟩=some p:=by rw [cell_of_heap h.heap]; rfl
 rcases h.first with rfl | rfl
 ·refine (D8 b w cell0 (by simp [World.shape?,h.heap]) (frozen_of_heap h.heap 0)).mono ?_
  rintro e w' ⟨rfl,rfl⟩
  refine ⟨rfl,⟨.inr rfl,?_,?_,h.ne⟩,(Exact.refl b v w).setCell _,by simp [World.setCell]⟩
  ·simp [World.setCell,Array.getElem?_modify,h.heap]
  ·refine h.own.kept (row:=some b) ⟨rfl,rfl,rfl,by simp [World.setCell],fun k _ hk=>Below.heap_setCell _ _ _ _ (fun e=>hk (by simp [e]))⟩ (.inr h.ne)
 ·refine (FY b w cell0).mono ?_
  rintro e w' ⟨rfl,rfl⟩
  exact ⟨rfl,h,Exact.refl _ _ _,rfl⟩
set_option maxHeartbeats 2000000 in
set_option maxRecDepth 100000 in
theorem ya {b:Nat} {p v:Value} {bs:List Value} {w:World} (h:Bld 77 5 b p v bs w) (c:Int) (hlen:bs.length + 1<=140737488355328) :
  Calls Tryz.prog 52 #[.pointer (some ⟨b,0,none⟩),.int .u8 c] w fun e w'=>e=.returned .nilIface/\∃ v',Bld 77 5 b (.pointer (some ⟨b,0,none⟩)) v' (bs ++ [.int .u8 c]) w'/\Exact b v w w'/\Next w v v':=by
 obtain ⟨i0,hi,hz0,hz1,hz2⟩:=Ga
 go_enter Tryz.func52,Tryz.ntmps52
 go_wp2_with (go_at_call 61; refine (pU h).mono ?_)
 rintro e w1 ⟨rfl,h1,hx1,hsz1⟩
 have hbk:=h1.heap
 have hown:=h1.own
 have hne:=h1.ne
 have c0:w1.cell? ⟨b,0,none⟩=some (.pointer (some ⟨b,0,none⟩)):=by rw [Lib.cell_of_heap hbk]; rfl
 have c1:w1.cell? ⟨b,1,none⟩=some v:=by rw [Lib.cell_of_heap hbk]; rfl
 have hlt1:b < w1.heap.size:=h1.lt
 clear h1 hsz1
 go_wp2_with (at_builtin; refine qS rfl _ _ 75 rfl 5 i0 (.int .u8 0) Tryz.underlying75 hi hz0 hz1 hz2 rfl _ _ _ rfl (hown.alloc _) ⟨w1.heap.size,0,none⟩ 1 1 [.int .u8 c] rfl rfl ?c1 ?c2 ?c3 ?c4 ?_)
 case c1 =>
  intro j u hj
  match j,hj with
  | 0,hj=>simp at hj; subst hj; simp [Addr.add]
 case c2=>intro u hu; simp at hu; subst hu; rfl
 case c3=>unfold maxLen; omega
 case c4=>omega
 intro v' w2 hown' hgrow hnext
 have hb2:w2.heap[b]? = some (.cells #[.pointer (some ⟨b,0,none⟩),v] 77 (0,0)):=by
  rw [hgrow.block b (by simp; omega) (fun e=>hne e.symm),Lib.alloc_old w1 _ b hlt1]
  exact hbk
 have d0:w2.cell? ⟨b,0,none⟩=some (.pointer (some ⟨b,0,none⟩)):=by rw [Lib.cell_of_heap hb2]; rfl
 have d1:w2.cell? ⟨b,1,none⟩=some v:=by rw [Lib.cell_of_heap hb2]; rfl
 have f1:w2.frozen? ⟨b,1,none⟩=false:=Lib.frozen_of_heap hb2 1
 obtain ⟨g,cap,rfl⟩:∃ g cap,v'=.slice (some ⟨g,0,none⟩) (bs.length + 1) cap:=by
  rcases hown'.2 with ⟨_,h0⟩ | ⟨g,cap,cur,fz,hv,_⟩
  ·omega
  ·exact ⟨g,cap,hv⟩
 go_wp2
 go_ret
 refine ⟨rfl,_,Bld.put hb2 (bs':=bs ++ [.int .u8 c]) (by simpa using hown') neB5,((hx1.alloc _).grown hgrow).setCell _,fun k hk=>(hnext k hk).imp id (fun h=>?_)⟩
 have:=hx1.size
 simp at h
 omega
set_option maxHeartbeats 2000000 in
set_option maxRecDepth 100000 in
theorem uu {b:Nat} {p v:Value} {bs:List Value} {w:World} (h:Bld 77 5 b p v bs w) (s:ByteArray) (hlen:bs.length + s.size<=140737488355328) :
  Calls Tryz.prog 51 #[.pointer (some ⟨b,0,none⟩),.string s] w fun e w'=>e=.returned (.tuple #[.int .i64 s.size,.nilIface])/\∃ v',Bld 77 5 b (.pointer (some ⟨b,0,none⟩)) v' (bs ++ Lib.strCells s) w'/\Exact b v w w'/\Next w v v':=by
 obtain ⟨i0,hi,hz0,hz1,hz2⟩:=Ga
 go_enter Tryz.func51,Tryz.ntmps51
 go_wp2_with (go_at_call 61; refine (pU h).mono ?_)
 rintro e w1 ⟨rfl,h1,hx1,hsz1⟩
 have hbk:=h1.heap
 have hown:=h1.own
 have hne:=h1.ne
 have c0:w1.cell? ⟨b,0,none⟩=some (.pointer (some ⟨b,0,none⟩)):=by rw [Lib.cell_of_heap hbk]; rfl
 have c1:w1.cell? ⟨b,1,none⟩=some v:=by rw [Lib.cell_of_heap hbk]; rfl
 have hlt1:b < w1.heap.size:=h1.lt
 clear h1 hsz1
 go_wp2_with (at_builtin; refine qO rfl _ _ 75 9 rfl 5 i0 Tryz.underlying75 Tryz.underlying9 hi hz0 hz1 hz2 _ _ _ rfl hown s rfl ?c3 ?c4 ?_)
 case c3=>unfold maxLen; omega
 case c4=>omega
 intro v' w2 hown' hgrow hnext
 have hb2:w2.heap[b]? = some (.cells #[.pointer (some ⟨b,0,none⟩),v] 77 (0,0)):=by
  rw [hgrow.block b hlt1 (fun e=>hne e.symm)]
  exact hbk
 have d0:w2.cell? ⟨b,0,none⟩=some (.pointer (some ⟨b,0,none⟩)):=by rw [Lib.cell_of_heap hb2]; rfl
 have d1:w2.cell? ⟨b,1,none⟩=some v:=by rw [Lib.cell_of_heap hb2]; rfl
 have f1:w2.frozen? ⟨b,1,none⟩=false:=Lib.frozen_of_heap hb2 1
 obtain ⟨ao,n',cap,rfl⟩:∃ ao n' cap,v'=.slice ao n' cap:=by
  rcases hown'.2 with ⟨hv,_⟩ | ⟨g,cap,cur,fz,hv,_⟩
  ·exact ⟨_,_,_,hv⟩
  ·exact ⟨_,_,_,hv⟩
 go_wp2
 go_ret2
 refine ⟨rfl,_,Bld.put hb2 (bs':=bs ++ Lib.strCells s) (by simpa [Lib.strCells_length] using hown') neB5,(hx1.grown hgrow).setCell _,fun k hk=>(hnext k hk).imp id (fun h=>by have:=hx1.size; omega)⟩
set_option maxHeartbeats 1000000 in
set_option maxRecDepth 100000 in
theorem Ex {b:Nat} {p v:Value} {l:List UInt8} {w:World} (h:Bld 77 5 b p v (Lib.byteCells l) w) (h0:l≠[]) :
  Calls Tryz.prog 39 #[.pointer (some ⟨b,0,none⟩)] w fun e w'=>e=.returned (.string ⟨l.toArray⟩)/\Bld 77 5 b p v (Lib.byteCells l) w'/\Exact b v w w':=by
 have hbk:=h.heap
 have hown:=h.own
 have hne:=h.ne
 have hl0:l.length≠0:=by simpa using h0
 rw [Lib.byteCells_length] at hown
 obtain ⟨g,cap,cur,fz,rfl,hbg,hg,hfz,hnc,hcm,hcs,htake⟩:∃ g cap cur fz,v=.slice (some ⟨g,0,none⟩) l.length cap/\0<=g/\w.heap[g]? = some (.cells cur 5 fz)/\fz.2<=l.length * 1/\l.length<=cap/\cap<=maxLen/\cur.size=cap * 1/\cur.toList.take (l.length * 1)=Lib.byteCells l:=by
  rcases hown.2 with ⟨_,hz⟩ | ⟨g,cap,cur,fz,hv,r⟩
  ·exact absurd hz hl0
  ·exact ⟨g,cap,cur,fz,hv,r⟩
 have c1:w.drew.cell? ⟨b,1,none⟩=some (.slice (some ⟨g,0,none⟩) l.length cap):=by
  have:w.drew.heap[b]? = some (.cells #[p,.slice (some ⟨g,0,none⟩) l.length cap] 77 (0,0)):=hbk
  rw [Lib.cell_of_heap this]; rfl
 have hSD:(Builtin.unsafeSliceData_ #[75] 103 #[.slice (some ⟨g,0,none⟩) l.length cap]).run Tryz.prog w.drew=.ok (.pointer (some ⟨g,0,none⟩)) w.drew :=
  Lib.run_unsafeSliceData_row _ _ _ _ _ _ (by omega)
 have hUS:(Builtin.unsafeString_ #[103,3] 9 #[.pointer (some ⟨g,0,none⟩),.int .i64 l.length]).run Tryz.prog w.drew=.ok (.string ⟨l.toArray⟩) (w.drew.freeze ⟨g,0,none⟩ l.length):=by
  refine Lib.run_unsafeString_row w.drew 103 3 9 5 Tryz.underlying103 Cf g cur.size (by have hg':w.drew.heap[g]? = some (.cells cur 5 fz):=hg; simp [World.shape?,hg']) l h0 (by omega) (by unfold maxLen at hcm; omega) ?_
  intro j x hx
  have:=hown.cells (g:=g) rfl j (.int .u8 x.toNat) (by simp [Lib.byteCells,hx])
  exact this
 have hgb:g≠b:=fun e=>hne (by rw [e]; rfl)
 have hkeep:Bld 77 5 b p (.slice (some ⟨g,0,none⟩) l.length cap) (Lib.byteCells l) (w.drew.freeze ⟨g,0,none⟩ l.length):=by
  have hF:=(h.at.drew).froze (g:=g) (cap:=cap) (by rw [Lib.byteCells_length]; exact c1)
  rw [Lib.byteCells_length] at hF
  obtain ⟨_,v1,q1,q2,q3⟩:=hF
  have hb2:(w.drew.freeze ⟨g,0,none⟩ l.length).heap[b]? = some (.cells #[p,.slice (some ⟨g,0,none⟩) l.length cap] 77 (0,0)):=by
   unfold World.freeze
   split
   ·exact hbk
   ·simp [Array.getElem?_modify,hgb]
    exact hbk
  rw [hb2] at q1
  simp only [GF,Obj.cells.injEq,and_true] at q1
  have e1:Value.slice (some ⟨g,0,none⟩) l.length cap=v1:=by simpa using q1
  subst e1
  exact ⟨h.first,hb2,q2,q3⟩
 have hex:Exact b (.slice (some ⟨g,0,none⟩) l.length cap) w (w.drew.freeze ⟨g,0,none⟩ l.length):=((Exact.refl b _ w).drew).freeze rfl _
 clear h
 have mixed:Tryz.prog.follows .mixedOrders=true:=by kernel_rfl
 go_enter Tryz.func39,Tryz.ntmps39
 go_wp2
 go_region_o
 all_goals (go_wp2; go_ret; exact ⟨rfl,hkeep,hex⟩)
set_option maxHeartbeats 1000000 in
set_option maxRecDepth 100000 in
theorem Len_x {b:Nat} {p v:Value} {bs:List Value} {w:World} (h:Bld 77 5 b p v bs w) :
  Calls Tryz.prog 38 #[.pointer (some ⟨b,0,none⟩)] w fun e w'=>e=.returned (.int .i64 bs.length)/\w'=w:=by
 obtain ⟨_,hbk,hown,hne⟩:=h
 obtain ⟨ao,cap,rfl⟩:∃ ao cap,v=.slice ao bs.length cap:=by
  rcases hown.2 with ⟨hv,h0⟩ | ⟨g,cap,cur,fz,hv,_⟩
  ·exact ⟨none,0,by rw [hv,h0]⟩
  ·exact ⟨_,_,hv⟩
 have c1:w.cell? ⟨b,1,none⟩=some (.slice ao bs.length cap):=by rw [Lib.cell_of_heap hbk]; rfl
 go_enter Tryz.func38,Tryz.ntmps38
 go_wp2
 go_ret
 exact ⟨rfl,rfl⟩
theorem qP (henter:∀ vals w,(callFunc 51 vals).run Tryz.prog w=.ok (.enter 51 vals) w) {xs:List TV} {r:TV} (h:eZ 5 xs=some r):oI Tryz.prog G ⟨77,[.may,.bf 5]⟩ 51 xs r:=by
 unfold eZ at h
 split at h
 ·rename_i x s e' t
  cases hc:x.aW && e'.beq 5 && (s.size + t.size).ble dH with
  | false=>rw [hc] at h; cases h
  | true =>
   rw [hc] at h
   simp only [cond_true,GF] at h
   simp only [GG,Nat.ble_eq] at hc
   obtain ⟨⟨h1,h2⟩,h3⟩:=hc
   subst h
   rw [oM h1,(aw _ _).1 h2]
   refine nR (u:=.tuple #[.int .i64 t.size,.nilIface]) (fun w I=>.tup rfl (fun j c hj=>?_)) henter (fun b p v w I vals hB hsz h0 hargs=>?_)
   ·match j,hj with
    | 0,hj=>simp at hj; subst hj; exact .lit _
    | 1,hj=>simp at hj; subst hj; exact .lit _
   ·have:=Ec (by simpa using hsz) h0 (aN (hargs 0 _ rfl))
    subst this
    refine (uu hB t (by rw [strCells_length]; exact h3)).mono ?_
    rintro e w' ⟨rfl,v',q1,q2,q3⟩
    exact ⟨rfl,_,v',by rw [wv]; exact q1,q2,q3⟩
 ·cases h
theorem ur (henter:∀ vals w,(callFunc 52 vals).run Tryz.prog w=.ok (.enter 52 vals) w) {xs:List TV} {r:TV} (h:iD 5 xs=some r):oI Tryz.prog G ⟨77,[.may,.bf 5]⟩ 52 xs r:=by
 unfold iD at h
 split at h
 ·rename_i x s e' c
  cases hc:x.aW && e'.beq 5 && (s.size + 1).ble dH && decide (0<=c/\c < 256) with
  | false=>rw [hc] at h; cases h
  | true =>
   rw [hc] at h
   simp only [cond_true,GF] at h
   simp only [GG,Nat.ble_eq,decide_eq_true_eq] at hc
   obtain ⟨⟨⟨h1,h2⟩,h3⟩,h4,h5⟩:=hc
   subst h
   rw [oM h1,(aw _ _).1 h2]
   refine nR (u:=.nilIface) (fun w I=>.lit _) henter (fun b p v w I vals hB hsz h0 hargs=>?_)
   have:=Ec (by simpa using hsz) h0 (aN (hargs 0 _ rfl))
   subst this
   refine (ya hB c (by rw [strCells_length]; exact h3)).mono ?_
   rintro e w' ⟨rfl,v',q1,q2,q3⟩
   refine ⟨rfl,.pointer (some ⟨b,0,none⟩),v',?_,q2,q3⟩
   rw [uq]
   have:((c.toNat.toUInt8).toNat:Int)=c:=by
    have:c.toNat < 256:=by omega
    simp [Nat.toUInt8,UInt8.toNat_ofNat',Nat.mod_eq_of_lt this]
    omega
   rw [this]
   exact q1
 ·cases h
theorem zL (henter:∀ vals w,(callFunc 39 vals).run Tryz.prog w=.ok (.enter 39 vals) w) {xs:List TV} {r:TV} (h:nA 5 xs=some r):oI Tryz.prog G ⟨77,[.may,.bf 5]⟩ 39 xs r:=by
 unfold nA at h
 split at h
 ·rename_i x s e'
  cases hc:x.aW && e'.beq 5 && !(s.size.beq 0) with
  | false=>rw [hc] at h; cases h
  | true =>
   rw [hc] at h
   simp only [cond_true,GF] at h
   simp only [GG,Bool.not_eq_true'] at hc
   obtain ⟨⟨h1,h2⟩,h3⟩:=hc
   subst h
   rw [oM h1,(aw _ _).1 h2]
   have hne:s.data.toList≠[]:=fun e=>by
    have h4:s.size=0:=by
     have h5:=congrArg List.length e
     rw [Array.length_toList] at h5
     exact h5
    rw [h4] at h3
    cases h3
   refine nR (u:=.string s) (fun w I=>.lit _) henter (fun b p v w I vals hB hsz h0 hargs=>?_)
   have:=Az (by simpa using hsz) h0
   subst this
   refine (Ex (l:=s.data.toList) hB hne).mono ?_
   rintro e w' ⟨rfl,q1,q2⟩
   exact ⟨by simp,_,v,q1,q2,fun k hk=>.inl hk⟩
 ·cases h
theorem FD (henter:∀ vals w,(callFunc 38 vals).run Tryz.prog w=.ok (.enter 38 vals) w) {xs:List TV} {r:TV} (h:D9 5 xs=some r):oI Tryz.prog G ⟨77,[.may,.bf 5]⟩ 38 xs r:=by
 unfold D9 at h
 split at h
 ·rename_i x s e'
  cases hc:x.aW && e'.beq 5 with
  | false=>rw [hc] at h; cases h
  | true =>
   rw [hc] at h
   simp only [cond_true,GF] at h
   simp only [GG] at hc
   obtain ⟨h1,h2⟩:=hc
   subst h
   rw [oM h1,(aw _ _).1 h2]
   refine nR (u:=.int .i64 s.size) (fun w I=>.lit _) henter (fun b p v w I vals hB hsz h0 hargs=>?_)
   have:=Az (by simpa using hsz) h0
   subst this
   refine (Len_x hB).mono ?_
   rintro e w' ⟨rfl,rfl⟩
   exact ⟨by rw [strCells_length],p,v,hB,Exact.refl _ _ _,fun k hk=>.inl hk⟩
 ·cases h
end
end Go.Ab.Z12
end
section
set_option maxRecDepth 100000
namespace Go.Ab.Z12
open Go Go.Ab Go.Proofs Go.RowKit Go.Lib
theorem Ee (w:World) (e:TypeId) (s:ByteArray):Below w.heap.size w (bytesWorld w e s):=by
 refine ⟨rfl,rfl,rfl,by rw [bytesWorld_size]; omega,fun i hi=>bytesWorld_at_old w e s i hi⟩
theorem EZ (s : ByteArray) (hlim : s.size ≤ 281474976710656) (w : World) (h1 : ∃ tp p, w.var? Tryz.prog "strconv.ErrSyntax" = some #[.iface tp p]) (h2 : ∃ tp p, w.var? Tryz.prog "strconv.ErrRange" = some #[.iface tp p]) :
  Calls Tryz.prog 59 #[.string s,.int .i64 10,.int .i64 16] w fun r w'=>(∃ e,r=.returned (.tuple #[.int .u64 (ul s),e]))/\Below w.heap.size w w':=by
 unfold ul
 cases hp:Lib.parseUintB 16 s.data.toList with
 | ok u =>
  refine (Any.strconv_ParseUint_10_at16_ok Tryz.laysPu14 s (by omega) u hp w).mono ?_
  rintro e w' ⟨rfl,h | h⟩
  ·subst h; exact ⟨⟨_,rfl⟩,Below.refl _ _⟩
  ·subst h; exact ⟨⟨_,rfl⟩,Ee w 5 s⟩
 | range =>
  obtain ⟨tp,p,hv⟩:=h2
  refine (Any.strconv_ParseUint_10_at16_range_var Tryz.laysPu14 s hlim hp tp p w hv).mono ?_
  rintro e w' ⟨N,rfl,_,_,hb⟩
  exact ⟨⟨_,rfl⟩,hb⟩
 | _ =>
  obtain ⟨tp,p,hv⟩:=h1
  refine (Any.strconv_ParseUint_10_at16_syntax_var Tryz.laysPu14 s hlim hp tp p w hv).mono ?_
  rintro e w' ⟨N,rfl,_,_,hb⟩
  exact ⟨⟨_,rfl⟩,hb⟩
theorem Fb (s:ByteArray):ul s < 65536:=by
 unfold ul
 cases hp:Lib.parseUintB 16 s.data.toList with
 | ok u =>
  have:=Lib.parseUintB_le hp
  show u < 65536
  omega
 | range=>decide
 | _=>decide
set_option maxHeartbeats 1000000 in
theorem xf (s : ByteArray) (hlim : s.size ≤ 281474976710656) (w : World) (h1 : ∃ tp p, w.var? Tryz.prog "strconv.ErrSyntax" = some #[.iface tp p]) (h2 : ∃ tp p, w.var? Tryz.prog "strconv.ErrRange" = some #[.iface tp p]) :
  Calls Tryz.prog 48 #[.string s] w fun e w'=>e=.returned (.int .i64 (ul s))/\Below w.heap.size w w':=by
 have hn:=Fb s
 generalize hu:ul s=u at hn
 have hI:=EZ s hlim w h1 h2
 rw [hu] at hI
 clear h1 h2
 go_enter Tryz.func48,Tryz.ntmps48
 go_wp2_with (go_at_call 59; refine hI.mono ?_; rintro e W1 ⟨⟨v,rfl⟩,hW⟩)
 go_ret
 exact ⟨rfl,hW⟩
theorem FB {xs:List TV} {r:TV} (h:EQ xs=some r):fQ Tryz.prog (nz Tryz.prog) 48 xs r:=by
 unfold EQ at h
 split at h
 ·rename_i s
  cases hc:Nat.ble s.size 281474976710656 with
  | false=>rw [hc] at h; cases h
  | true =>
   rw [hc] at h
   simp only [cond_true,GF] at h
   subst h
   intro I w vals hG hlt hsz hargs
   have:=Az (by simpa using hsz) (aN (hargs 0 _ rfl))
   subst this
   have e1:=(hG.2.2 _ (.inl rfl) _ Tryz.laysPu14.m0).1
   have e2:=(hG.2.2 _ (.inr rfl) _ Tryz.laysPu14.m1).1
   refine ⟨gD Tryz.func48 (by kernel_rfl) (by kernel_rfl) _ w,(xf s (by simpa using hc) w e1 e2).mono ?_⟩
   rintro e w' ⟨rfl,hb⟩
   exact ⟨_,rfl,hb,I,fun _=>False,fun _ h=>h,fun b hb'=>Nat.lt_of_lt_of_le (hlt b hb') hb.size,fun _ _ h=>h,fun _ h=>h.elim,.fr (.lit _)⟩
 ·cases h
theorem DH {xs:List TV} {r:TV} (h:BZ xs=some r):fQ Tryz.prog (nz Tryz.prog) 40 xs r:=Fu Tryz.laysM145 (gD Tryz.func40 (by kernel_rfl) (by kernel_rfl)) h
theorem yB {xs:List TV} {r:TV} (h:mu xs=some r):fQ Tryz.prog (nz Tryz.prog) 44 xs r:=zr Tryz.laysM147 (gD Tryz.func44 (by kernel_rfl) (by kernel_rfl)) h
end Go.Ab.Z12
end
section
set_option maxRecDepth 100000
namespace Go.Ab.Z12
open Go Go.Ab Go.Proofs Go.Lib Go.RowKit
theorem ok_ty:∀ t d,tab t=some d->aY Tryz.prog t d:=by
 repeat refine Dm (by kernel_rfl) ?_
 exact F6
theorem ok_fn:∀ f e,fns f=some e->FM Tryz.prog f e :=
 ap Tryz.func4 (by kernel_rfl) (by kernel_rfl) (ap Tryz.func5 (by kernel_rfl) (by kernel_rfl) (ap Tryz.func6 (by kernel_rfl) (by kernel_rfl) (ap Tryz.func8 (by kernel_rfl) (by kernel_rfl) (ap Tryz.func10 (by kernel_rfl) (by kernel_rfl) (ap Tryz.func12 (by kernel_rfl) (by kernel_rfl) (ap Tryz.func13 (by kernel_rfl) (by kernel_rfl) (ap Tryz.func14 (by kernel_rfl) (by kernel_rfl) (ap Tryz.func15 (by kernel_rfl) (by kernel_rfl) (ap Tryz.func16 (by kernel_rfl) (by kernel_rfl) (ap Tryz.func17 (by kernel_rfl) (by kernel_rfl) (ap Tryz.func18 (by kernel_rfl) (by kernel_rfl) (ap Tryz.func19 (by kernel_rfl) (by kernel_rfl) (ap Tryz.func20 (by kernel_rfl) (by kernel_rfl) (ap Tryz.func21 (by kernel_rfl) (by kernel_rfl) (ap Tryz.func22 (by kernel_rfl) (by kernel_rfl) (ap Tryz.func26 (by kernel_rfl) (by kernel_rfl) (ap Tryz.func27 (by kernel_rfl) (by kernel_rfl) (ap Tryz.func28 (by kernel_rfl) (by kernel_rfl) (ap Tryz.func30 (by kernel_rfl) (by kernel_rfl) (ap Tryz.func31 (by kernel_rfl) (by kernel_rfl) (ap Tryz.func33 (by kernel_rfl) (by kernel_rfl) (ap Tryz.func34 (by kernel_rfl) (by kernel_rfl) (ap Tryz.func35 (by kernel_rfl) (by kernel_rfl) (ap Tryz.func36 (by kernel_rfl) (by kernel_rfl) (ap Tryz.func37 (by kernel_rfl) (by kernel_rfl) (ap Tryz.func41 (by kernel_rfl) (by kernel_rfl) (ap Tryz.func42 (by kernel_rfl) (by kernel_rfl) (ap Tryz.func43 (by kernel_rfl) (by kernel_rfl) (ap Tryz.func45 (by kernel_rfl) (by kernel_rfl) (ap Tryz.func46 (by kernel_rfl) (by kernel_rfl) (ap Tryz.func49 (by kernel_rfl) (by kernel_rfl) (ap Tryz.func50 (by kernel_rfl) (by kernel_rfl) (ap Tryz.func55 (by kernel_rfl) (by kernel_rfl) (ap Tryz.func56 (by kernel_rfl) (by kernel_rfl) (ap Tryz.func57 (by kernel_rfl) (by kernel_rfl) (ap Tryz.func60 (by kernel_rfl) (by kernel_rfl) (ap Tryz.func64 (by kernel_rfl) (by kernel_rfl) (ap Tryz.func65 (by kernel_rfl) (by kernel_rfl) (ap Tryz.func66 (by kernel_rfl) (by kernel_rfl) (ap Tryz.func72 (by kernel_rfl) (by kernel_rfl) (ap Tryz.func73 (by kernel_rfl) (by kernel_rfl) (ap Tryz.func74 (by kernel_rfl) (by kernel_rfl) (ap Tryz.func90 (by kernel_rfl) (by kernel_rfl) (ap Tryz.func91 (by kernel_rfl) (by kernel_rfl) (ap Tryz.func92 (by kernel_rfl) (by kernel_rfl) (ap Tryz.func93 (by kernel_rfl) (by kernel_rfl) (ap Tryz.func94 (by kernel_rfl) (by kernel_rfl) (ap Tryz.func95 (by kernel_rfl) (by kernel_rfl) (ap Tryz.func96 (by kernel_rfl) (by kernel_rfl) (ap Tryz.func106 (by kernel_rfl) (by kernel_rfl) (ap Tryz.func112 (by kernel_rfl) (by kernel_rfl) (fn_nil))))))))))))))))))))))))))))))))))))))))))))))))))))
theorem DU (henter:∀ vals w,(callFunc 53 vals).run Tryz.prog w=.ok (.enter 53 vals) w) {xs:List TV} {r:TV} (h:xK xs=some r):fQ Tryz.prog (FI Tryz.prog) 53 xs r:=by
 unfold xK at h
 split at h
 ·rename_i n
  cases hc:decide (-9223372036854775808<=n/\n<=9223372036854775807) with
  | false=>rw [hc] at h; cases h
  | true =>
   rw [hc] at h
   simp only [cond_true,GF] at h
   subst h
   simp only [decide_eq_true_eq] at hc
   intro I w vals hG hlt hsz hargs
   have:=Az (by simpa using hsz) (aN (hargs 0 _ rfl))
   subst this
   refine ⟨henter _ w,(Any.strconv_Itoa Tryz.laysM171 n hc.1 hc.2 w hG.1).mono ?_⟩
   rintro e w' ⟨rfl,k,os,rfl⟩
   have hb:=xh w k os
   exact ⟨_,rfl,hb,I,fun _=>False,fun _ h=>h,fun b hb'=>Nat.lt_of_lt_of_le (hlt b hb') hb.size,fun _ _ h=>h,fun _ h=>h.elim,.fr (.lit _)⟩
 ·cases h
theorem ok_ext:∀ f g,ext f=some g->gF Tryz.prog (nz Tryz.prog) lent pure f g :=
 gC (gF.v rfl fun h=>FD (gD Tryz.func38 (by kernel_rfl) (by kernel_rfl)) h) (gC (gF.v rfl fun h=>zL (gD Tryz.func39 (by kernel_rfl) (by kernel_rfl)) h) (gC (gF.p rfl rfl fun h=>(DH h)) (gC (gF.p rfl rfl fun h=>(yB h)) (gC (gF.p rfl rfl fun h=>(FB h)) (gC (gF.v rfl fun h=>qP (gD Tryz.func51 (by kernel_rfl) (by kernel_rfl)) h) (gC (gF.v rfl fun h=>ur (gD Tryz.func52 (by kernel_rfl) (by kernel_rfl)) h) (gC (gF.p rfl rfl fun h=>(DU (gD Tryz.func53 (by kernel_rfl) (by kernel_rfl)) h).wide) (Fd))))))))
theorem ok:prog.Ok Tryz.prog (nz Tryz.prog):=⟨ok_ty,ok_fn,by kernel_rfl,fun f g xs r hg hr=>⟨fun h=>(by cases h),fun _=>⟨fun h=>(by cases h),fun _=>⟨fun _=>ok_ext f g hg xs r hr,fun c h=>(by cases h)⟩⟩⟩,fun _ _ _ _ h=>(by cases h)⟩
end Go.Ab.Z12
end
section
set_option maxRecDepth 100000
namespace Go.Ab.Z12
open Go Go.Ab Go.Proofs
theorem az {cs:List TV} {n:Nat} (h:cs.length=n + 1):∃ c r,cs=c :: r/\r.length=n:=by
 cases cs with
 | nil=>simp at h
 | cons c r=>exact ⟨c,r,rfl,by simpa using h⟩
theorem mr {cs:List TV} (h:cs.length=0):cs=[]:=List.length_eq_zero_iff.1 h
theorem hU:Tryz.prog.cellsOf 3=1:=by kernel_rfl
theorem Ed:Tryz.prog.cellsOf 23=1:=by kernel_rfl
theorem zJ:Tryz.prog.cellsOf 4=1:=by kernel_rfl
theorem Gx:Tryz.prog.cellsOf 26=7:=by kernel_rfl
theorem Gr:Tryz.prog.cellsOf 30=8:=by kernel_rfl
theorem Gb:Tryz.prog.cellsOf 35=4:=by kernel_rfl
theorem Ak:Tryz.prog.cellsOf 58=14:=by kernel_rfl
theorem De:Tryz.prog.cellsOf 55=3:=by kernel_rfl
theorem c_mod:Tryz.prog.cellsOf 44=1:=by kernel_rfl
theorem C8:Tryz.prog.cellsOf 24=1:=by kernel_rfl
theorem FH:Tryz.prog.cellsOf 33=1:=by kernel_rfl
theorem c_inss:Tryz.prog.cellsOf 56=1:=by kernel_rfl
theorem CL:Tryz.prog.cellsOf 53=1:=by kernel_rfl
theorem E4:Tryz.prog.cellsOf 42=1:=by kernel_rfl
theorem Gq {cs:List TV} (h:bo Tryz.prog 3 cs):∃ n,RI1 cs n:=by
 obtain ⟨n,rfl,hw⟩:=h.EY Tryz.underlying3
 exact ⟨n,rfl,wf_i64 hw⟩
theorem Em {cs:List TV} (h:bo Tryz.prog 23 cs):∃ n,RW1 cs n:=by
 obtain ⟨n,rfl,hw⟩:=h.EY Tryz.underlying23
 exact ⟨n,rfl,wf_u16 hw⟩
theorem ez {c:TV} (h:bo Tryz.prog 3 [c]):∃ n,c=I n/\inI n:=by
 obtain ⟨n,h1,h2⟩:=Gq h
 exact ⟨n,by simpa using h1,h2⟩
theorem FK {c:TV} (h:bo Tryz.prog 23 [c]):∃ n,c=W n/\inW n:=by
 obtain ⟨n,h1,h2⟩:=Em h
 exact ⟨n,by simpa using h1,h2⟩
theorem wa {c:TV} (h:bo Tryz.prog 4 [c]):∃ b,c=B b:=by
 obtain ⟨b,h1⟩:=h.F9 Tryz.underlying4
 exact ⟨b,by simpa using h1⟩
theorem Et {c:TV} (h:bo Tryz.prog 24 [c]):∃ l,RInts (some false) c l:=by
 obtain ⟨x,l,hx,hl⟩:=h.yR Tryz.underlying24 hU fun _ h=>Gq h
 simp at hx; subst hx
 exact ⟨l,hl⟩
theorem FF {c:TV} (h:bo Tryz.prog 33 [c]):∃ l,RWords (some false) c l:=by
 obtain ⟨x,l,hx,hl⟩:=h.yR Tryz.underlying33 Ed fun _ h=>Em h
 simp at hx; subst hx
 exact ⟨l,hl⟩
theorem h_ins {cs:List TV} (h:bo Tryz.prog 26 cs):∃ a,RIns (some false) cs a:=by
 obtain ⟨hl,hf⟩:=h.iy Tryz.underlying26
 rw [Gx] at hl
 obtain ⟨c0,cs,rfl,k0⟩:=az hl
 obtain ⟨c1,cs,rfl,k1⟩:=az k0
 obtain ⟨c2,cs,rfl,k2⟩:=az k1
 obtain ⟨c3,cs,rfl,k3⟩:=az k2
 obtain ⟨c4,cs,rfl,k4⟩:=az k3
 obtain ⟨c5,cs,rfl,k5⟩:=az k4
 obtain ⟨c6,cs,rfl,k6⟩:=az k5
 obtain rfl:=mr k6
 obtain ⟨n0,rfl,g0⟩:=ez (c:=c0) (by have:=hf 0 _ rfl; simpa [hU] using this)
 obtain ⟨n1,rfl,g1⟩:=ez (c:=c1) (by have:=hf 1 _ rfl; simpa [hU] using this)
 obtain ⟨n2,rfl,g2⟩:=ez (c:=c2) (by have:=hf 2 _ rfl; simpa [hU] using this)
 obtain ⟨n3,rfl,g3⟩:=ez (c:=c3) (by have:=hf 3 _ rfl; simpa [hU] using this)
 obtain ⟨n4,rfl,g4⟩:=FK (c:=c4) (by have:=hf 4 _ rfl; simpa [Ed] using this)
 obtain ⟨n5,rfl,g5⟩:=ez (c:=c5) (by have:=hf 5 _ rfl; simpa [hU] using this)
 obtain ⟨l,hls⟩:=Et (c:=c6) (by have:=hf 6 _ rfl; simpa [C8] using this)
 exact ⟨⟨n0,n1,n2,n3,n4,n5,l⟩,_,rfl,hls,g0,g1,g2,g3,g4,g5⟩
theorem h_end {cs:List TV} (h:bo Tryz.prog 30 cs):∃ a,REnd (some false) cs a:=by
 obtain ⟨hl,hf⟩:=h.iy Tryz.underlying30
 rw [Gr] at hl
 obtain ⟨c0,cs,rfl,k0⟩:=az hl
 obtain ⟨c1,cs,rfl,k1⟩:=az k0
 obtain ⟨c2,cs,rfl,k2⟩:=az k1
 obtain ⟨c3,cs,rfl,k3⟩:=az k2
 obtain ⟨c4,cs,rfl,k4⟩:=az k3
 obtain ⟨c5,cs,rfl,k5⟩:=az k4
 obtain ⟨c6,cs,rfl,k6⟩:=az k5
 obtain ⟨c7,cs,rfl,k7⟩:=az k6
 obtain rfl:=mr k7
 obtain ⟨n0,rfl,g0⟩:=ez (c:=c0) (by have:=hf 0 _ rfl; simpa [hU] using this)
 obtain ⟨n1,rfl,g1⟩:=ez (c:=c1) (by have:=hf 1 _ rfl; simpa [hU] using this)
 obtain ⟨n2,rfl,g2⟩:=ez (c:=c2) (by have:=hf 2 _ rfl; simpa [hU] using this)
 obtain ⟨n3,rfl,g3⟩:=ez (c:=c3) (by have:=hf 3 _ rfl; simpa [hU] using this)
 obtain ⟨l,hls⟩:=Et (c:=c4) (by have:=hf 4 _ rfl; simpa [C8] using this)
 obtain ⟨n5,rfl,g5⟩:=ez (c:=c5) (by have:=hf 5 _ rfl; simpa [hU] using this)
 obtain ⟨n6,rfl,g6⟩:=ez (c:=c6) (by have:=hf 6 _ rfl; simpa [hU] using this)
 obtain ⟨n7,rfl,g7⟩:=ez (c:=c7) (by have:=hf 7 _ rfl; simpa [hU] using this)
 exact ⟨⟨n0,n1,n2,n3,l,n5,n6,n7⟩,_,rfl,hls,g0,g1,g2,g3,g5,g6,g7⟩
theorem h_pad {cs:List TV} (h:bo Tryz.prog 35 cs):∃ a,RPad (some false) cs a:=by
 obtain ⟨hl,hf⟩:=h.iy Tryz.underlying35
 rw [Gb] at hl
 obtain ⟨c0,cs,rfl,k0⟩:=az hl
 obtain ⟨c1,cs,rfl,k1⟩:=az k0
 obtain ⟨c2,cs,rfl,k2⟩:=az k1
 obtain ⟨c3,cs,rfl,k3⟩:=az k2
 obtain rfl:=mr k3
 obtain ⟨n0,rfl,g0⟩:=ez (c:=c0) (by have:=hf 0 _ rfl; simpa [hU] using this)
 obtain ⟨l,hls⟩:=FF (c:=c1) (by have:=hf 1 _ rfl; simpa [FH] using this)
 obtain ⟨b2,rfl⟩:=wa (c:=c2) (by have:=hf 2 _ rfl; simpa [zJ] using this)
 obtain ⟨b3,rfl⟩:=wa (c:=c3) (by have:=hf 3 _ rfl; simpa [zJ] using this)
 exact ⟨⟨n0,l,b2,b3⟩,_,rfl,hls,g0⟩
theorem Fe {cs:List TV} (h:bo Tryz.prog 58 cs):∃ a,RBlock (some false) cs a:=by
 obtain ⟨hl,hf⟩:=h.iy Tryz.underlying58
 rw [Ak] at hl
 obtain ⟨c0,cs,rfl,k0⟩:=az hl
 obtain ⟨c1,cs,rfl,k1⟩:=az k0
 obtain ⟨c2,cs,rfl,k2⟩:=az k1
 obtain ⟨c3,cs,rfl,k3⟩:=az k2
 obtain ⟨c4,cs,rfl,k4⟩:=az k3
 obtain ⟨c5,cs,rfl,k5⟩:=az k4
 obtain ⟨c6,cs,rfl,k6⟩:=az k5
 obtain ⟨c7,cs,rfl,k7⟩:=az k6
 obtain ⟨c8,cs,rfl,k8⟩:=az k7
 obtain ⟨c9,cs,rfl,k9⟩:=az k8
 obtain ⟨c10,cs,rfl,k10⟩:=az k9
 obtain ⟨c11,cs,rfl,k11⟩:=az k10
 obtain ⟨c12,cs,rfl,k12⟩:=az k11
 obtain ⟨c13,cs,rfl,k13⟩:=az k12
 obtain rfl:=mr k13
 obtain ⟨b0,rfl⟩:=wa (c:=c0) (by have:=hf 0 _ rfl; simpa [zJ] using this)
 obtain ⟨p,cc,hp,hpc,hpd⟩:=h_pad (cs:=[c1,c2,c3,c4]) (by have:=hf 1 _ rfl; simpa [Gb] using this)
 obtain ⟨x,is,hx,his⟩:=bo.yR (cs:=[c5]) (by have:=hf 2 _ rfl; simpa [c_inss] using this) Tryz.underlying56 Gx fun _ h=>h_ins h
 obtain ⟨e,gg,he,heg,heo⟩:=h_end (cs:=[c6,c7,c8,c9,c10,c11,c12,c13]) (by have:=hf 3 _ rfl; simpa [Gr] using this)
 simp at hp hx he
 obtain ⟨rfl,rfl,rfl,rfl⟩:=hp
 subst hx
 obtain ⟨rfl,rfl,rfl,rfl,rfl,rfl,rfl,rfl⟩:=he
 exact ⟨⟨b0,p,is,e⟩,_,_,_,rfl,hpc,hpd,his,heg,heo⟩
theorem h_func {cs:List TV} (h:bo Tryz.prog 55 cs):∃ a,RFunc (some false) cs a:=by
 obtain ⟨hl,hf⟩:=h.iy Tryz.underlying55
 rw [De] at hl
 obtain ⟨c0,cs,rfl,k0⟩:=az hl
 obtain ⟨c1,cs,rfl,k1⟩:=az k0
 obtain ⟨c2,cs,rfl,k2⟩:=az k1
 obtain rfl:=mr k2
 obtain ⟨n0,rfl,g0⟩:=ez (c:=c0) (by have:=hf 0 _ rfl; simpa [hU] using this)
 obtain ⟨n1,rfl,g1⟩:=ez (c:=c1) (by have:=hf 1 _ rfl; simpa [hU] using this)
 obtain ⟨x,bs,hx,hbs⟩:=bo.yR (cs:=[c2]) (by have:=hf 2 _ rfl; simpa [CL] using this) Tryz.underlying53 Ak fun _ h=>Fe h
 simp at hx
 subst hx
 exact ⟨⟨n0,n1,bs⟩,_,rfl,hbs,g0,g1⟩
theorem h_mod {cs:List TV} (h:bo Tryz.prog 44 cs):∃ a,RMod (some false) cs a:=by
 obtain ⟨hl,hf⟩:=h.iy Tryz.underlying44
 rw [c_mod] at hl
 obtain ⟨c0,cs,rfl,k0⟩:=az hl
 obtain rfl:=mr k0
 obtain ⟨x,fs,hx,hfs⟩:=bo.yR (cs:=[c0]) (by have:=hf 0 _ rfl; simpa [E4] using this) Tryz.underlying42 De fun _ h=>h_func h
 simp at hx
 subst hx
 exact ⟨⟨fs⟩,_,rfl,hfs⟩
theorem v_mod {x:TV} (h:AP Tryz.prog 44 x):∃ cs m,x=.agg cs/\RMod (some false) cs m:=by
 rcases h with ⟨⟨cs,rfl,h⟩,_⟩ | ⟨_,h,_⟩
 ·obtain ⟨m,hm⟩:=h_mod h; exact ⟨cs,m,rfl,hm⟩
 ·exact absurd Tryz.underlying44 (h _)
end Go.Ab.Z12
end

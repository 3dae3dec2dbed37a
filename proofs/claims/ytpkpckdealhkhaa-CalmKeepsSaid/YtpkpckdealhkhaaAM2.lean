import Derived.Test.YtpkpckdealhkhaaAC14F183
import Derived.Test.YtpkpckdealhkhaaAC14F98
import Derived.Test.YtpkpckdealhkhaaAM0
import Derived.Below
import Derived.Orders
import Derived.Laws.Cells
import Derived.Laws.OwnMore
import Derived.Laws.CopyOwn
import Derived.Maps.AppendAt
import Derived.Lib.FrozenHead
set_option linter.all false
section
set_option maxRecDepth 10000
namespace Go.Ab
def iM {α:Type} (f:α->α) (l:List α) (i:Nat):List α:=(l.take i).map f++l.drop i
section
variable {α:Type} {f:α->α} {l:List α} {i:Nat} {a:α}
theorem uE:iM f l 0=l:=by simp[iM]
theorem yr:iM f l l.length=l.map f:=by simp[iM]
theorem nR:(iM f l i).length=l.length:=by simp[iM];omega
theorem oE (h:l[i]? = some a):(iM f l i)[i]? = some a:=by
 have:=(FP.1 h).1
 unfold iM
 rw[F4 (by simp;omega)]
 simp only[List.length_map,List.length_take,List.getElem?_drop]
 rw[show i+(i-min i l.length)=i by omega]
 exact h
theorem tN (h:l[i]? = some a):(iM f l i).set i (f a)=iM f l (i+1):=by
 have hi:=(FP.1 h).1
 apply List.ext_getElem?
 intro j
 rw[List.getElem?_set]
 unfold iM
 by_cases hj:i=j
 ·subst hj
  rw[if_pos rfl,if_pos (by simp;omega),F3 (by simp;omega),FW,List.getElem?_take_of_lt (by omega),h]
  rfl
 ·rw[if_neg hj]
  rcases Nat.lt_or_ge j i with h1|h1
  ·rw[F3 (by simp;omega),F3 (by simp;omega),FW,FW,List.getElem?_take_of_lt (by omega),List.getElem?_take_of_lt (by omega)]
  ·rw[F4 (by simp;omega),F4 (by simp;omega)]
   simp only[List.length_map,List.length_take,List.getElem?_drop]
   congr 1
   omega
theorem Ci (h:l[i]? = some a) (e:f a=a):iM f l (i+1)=iM f l i:=by
 rw[<-tN h,e]
 apply List.ext_getElem?
 intro j
 by_cases hj:j=i
 ·subst hj
  rw[List.getElem?_set_self (by rw[nR];exact(FP.1 h).1),oE h]
 ·rw[List.getElem?_set_ne (Ne.symm hj)]
end
theorem dG {α:Type}:∀(l:List α) (n:Nat) (b:α),ai l n b=l.set n b
 | [],_,_=>rfl
 | _::_,0,_=>rfl
 | a::l,n+1,b=>by simp[ai,dG l n b]
def TR (xs:List (List TV)) (n:Nat) (P R:TV) (ys:List (List TV)):TV:=.sl true 3 (ai xs n [P,R,.sl true 14 ys])
section
variable {xs ys:List (List TV)} {n k j:Nat} {P R v z:TV} {e:List TV} (hn:n<xs.length)
include hn
theorem AA:(ai xs n [P,R,.sl true 14 ys])[n]? = some [P,R,.sl true 14 ys]:=by rw[dG,List.getElem?_set_self hn]
theorem zw:a8 [(n,2)] (TR xs n P R ys)=some (.sl true 14 ys):=by
 simp only[TR,a8,AA hn]
 rfl
theorem jk (hk:ys[k]? = some e):a8 [(n,2),(k,j)] (TR xs n P R ys)=(match e[j]? with|some z=>some z|none=>none):=by
 simp only[TR,a8,AA hn]
 show(match ys[k]? with|some e=>(match e[j]? with|some z=>some z|none=>none)|none=>none)=_
 rw[hk]
theorem wl (hk:ys[k]? = some e) (hj:e[j]? = some z):iA [(n,2),(k,j)] (TR xs n P R ys) v=some (TR xs n P R (ai ys k (ai e j v))):=by
 have h2:([P,R,.sl true 14 ys]:List TV)[2]? = some (.sl true 14 ys):=rfl
 simp only[TR,iA,AA hn,h2,hk,hj]
 congr 2
 simp only[dG,List.set_set]
 rfl
theorem EZ (hk:ys[k]? = some e) {cs:List TV}:ja [(n,2)] (TR xs n P R ys) k 0 cs=some (TR xs n P R (ai ys k (bH e 0 cs))):=by
 have h2:([P,R,.sl true 14 ys]:List TV)[2]? = some (.sl true 14 ys):=rfl
 unfold ja
 rw[zw hn]
 simp only[uR,hk]
 simp only[TR,iA,AA hn,h2]
 congr 2
 simp only[dG,List.set_set]
 rfl
end
theorem Eu {α:Type} {l:List α} {k:Nat} {a b:α}:ai (ai l k a) k b=ai l k b:=by rw[dG,dG,dG,List.set_set]
theorem vx {α:Type} {l:List α} {k:Nat} {a:α} (h:k<l.length):(ai l k a)[k]? = some a:=by rw[dG,List.getElem?_set_self h]
theorem RBlock.En {q:Option Bool} {e:List TV} {b:DBlock} (h:RBlock q e b):ab dK e 0=true:=by
 obtain⟨c,i,g,rfl,hc,_,hi,hg,_⟩:=h
 simp[ab,dK,aF,TV.isSc,scV,hc.isSl,hi.isSl,hg.isSl]
end Go.Ab
namespace Go.Ab.C14
open Go Go.Ab Go.Proofs
theorem yQ {q:Option Bool} {e:List TV} {b:DBlock} (he:RBlock q e b):aj prog 27 [.agg e] (B (decide (b.fin.kind=4))):=by
 obtain⟨c,i,g,rfl,_⟩:=he
 refine aj.of (f27_MR _) ?_
 unfold f27_M
 refine aa.chk rfl (aa.tv rfl ?_)
 have:(b.fin.kind==4)=decide (b.fin.kind=4):=rfl
 rw[<-this]
 exact aa.ret
theorem BG {q q':Option Bool} {e:List TV} {b:DBlock} {w:TV} {F:List Bool} (he:RBlock q e b) (hw:RBools q' w F) (hn:b.fin.kind=4->0<=b.fin.f/\b.fin.f.toNat<F.length):aj prog 25 [.agg e,w] (B (tt (b.fin.kind=4/\F[b.fin.f.toNat]? = some false))):=by
 have h0:=yQ he
 obtain⟨c,i,g,rfl,_⟩:=he
 refine aj.of (f25_MR _ _) ?_
 unfold f25_M
 refine aa.chk rfl (aa.call h0 (aa.chk rfl ?_))
 by_cases h4:b.fin.kind=4
 ·obtain⟨g0,g1⟩:=hn h4
  have hc:=FQ g1
  generalize F[b.fin.f.toNat]=x at hc
  obtain⟨e2,he2,hR2⟩:=hw.kX (k:=.i64) g0 hc
  cases hR2
  refine aa.ite (v:=true) (by simp[asBool,h4]) (fun _=>?_) nofun
  refine aa.tvs he2 (aa.chk rfl (aa.tv (v:=B (!x)) rfl ?_))
  refine aH ⟨fun h=>⟨h4,by rw[hc];cases x<;>simp at h<;>rfl⟩,fun h=>?_⟩
  have:=h.2
  rw[hc]at this
  cases this
  rfl
 ·exact aa.ite (v:=false) (by simp[asBool,h4]) nofun fun _=>aB fun h=>h4 h.1
end Go.Ab.C14
end
section
set_option maxRecDepth 10000
namespace Go.Ab
structure OpK (w:TV) (X:List DFunc) (n k:Nat) (u:DFunc) (b:DBlock) (xs ys:List (List TV)) (c i g:TV):Prop where
 w:w=TR xs n (I u.params) (I u.regs) ys
 n:n<xs.length
 k:ys[k]? = some [B b.landing,I b.pad.dst,c,B b.pad.all,B b.pad.cleanup,i,I b.fin.kind,I b.fin.a,I b.fin.dst,I b.fin.f,g,I b.fin.to,I b.fin.els,I b.fin.pad]
 X:F2 (RFunc (some true)) xs X
 Y:F2 (RBlock (some true)) ys u.blocks
 xl:xs.length<=9223372036854775807
 yl:ys.length<=9223372036854775807
 c:RWords (some true) c b.pad.catches
 d:inI b.pad.dst
 i:RL (some true) 7 (RIns (some true)) i b.ins
 g:RInts (some true) g b.fin.args
 ok:b.fin.ok
 p:inI u.params
 r:inI u.regs
theorem openK {w:TV} {X:List DFunc} {n k:Nat} {u:DFunc} {b:DBlock} (h:RMod (some true) [w] ⟨X⟩) (hn:X[n]? = some u) (hk:u.blocks[k]? = some b):∃xs ys c i g,OpK w X n k u b xs ys c i g:=by
 obtain⟨_,hx,hw⟩:=h
 cases hx
 obtain⟨e,he,hR⟩:=hw.pel hn
 obtain⟨y,rfl,hy,ho1,ho2⟩:=hR
 rcases hw with⟨rfl,_⟩|⟨o,xs,rfl,hq,hf,hb⟩
 ·cases he
 have ho:o=true:=hq true rfl
 subst ho
 have he:xs[n]? = some [I u.params,I u.regs,y]:=he
 obtain⟨e2,he2,hR2⟩:=hy.pel hk
 rcases hy with⟨rfl,_⟩|⟨o,ys,rfl,hq2,hf2,hb2⟩
 ·cases he2
 have ho:o=true:=hq2 true rfl
 subst ho
 obtain⟨c,i,g,rfl,h1,h2,h3,h4,h5⟩:=hR2
 have hnl:=(FP.1 he).1
 refine⟨xs,ys,c,i,g,?_,hnl,he2,hf,hf2,hb,hb2,h1,h2,h3,h4,h5,ho1,ho2⟩
 unfold TR
 rw[dG]
 congr 1
 exact(sS he).symm
theorem OpK.close {w:TV} {X:List DFunc} {n k:Nat} {u:DFunc} {b b':DBlock} {xs ys:List (List TV)} {c i g:TV} (h:OpK w X n k u b xs ys c i g) {e:List TV} (he:RBlock (some true) e b') :
  RMod (some true) [TR xs n (I u.params) (I u.regs) (ai ys k e)] ⟨X.set n ⟨u.params,u.regs,u.blocks.set k b'⟩⟩ :=
 ⟨_,rfl,.sl (fun _ h=>Option.some.inj h) (h.X.set ⟨_,rfl,.sl (fun _ h=>Option.some.inj h) (h.Y.set he) (by rw[cI];exact h.yl),h.p,h.r⟩) (by rw[cI];exact h.xl)⟩
end Go.Ab
namespace Go.Ab.C14
open Go Go.Ab Go.Proofs
open Classical in
noncomputable def iX (m:DMod) (b:DBlock):DBlock:=if b.fin.kind=4/\¬Thr m b.fin.f.toNat/\b.ins.length<64 then bz b else b
theorem DD (m:DMod):cf m=⟨m.funcs.map fun u=>{ u with blocks:=u.blocks.map (iX m) }⟩:=rfl
section
variable {m:DMod} {F:List Bool} {wF:TV} (hF:RBools (some true) wF F) (hFl:F.length=m.funcs.length) (hFt:∀k:Nat,F[k]? = some true ↔ Thr m k)
include hF hFl hFt
theorem E7 {X:List DFunc} {n:Nat} (hn:n<X.length) (hn2:n<=1000) {p r:Int} {Y0:List DBlock} (hlen:Y0.length<=1000) (hc:∀b∈Y0,b.ins.length<=1000/\(b.fin.kind=4->0<=b.fin.f/\b.fin.f.toNat<m.funcs.length)) {x0 y6 y7:TV} {Z:TV->Prop}
  (hz:∀w,RMod (some true) [w] ⟨X.set n ⟨p,r,Y0.map (iX m)⟩⟩->∃y,aa prog 9 (f9_0 x0 (I ((n+1:Nat):Int)) wF w) y/\Z y) :
  ∀(d k:Nat) (w:TV),k+d=Y0.length->RMod (some true) [w] ⟨X.set n ⟨p,r,iM (iX m) Y0 k⟩⟩->∃y,aa prog 9 (f9_1 x0 (I (n:Int)) n (I Y0.length) (I (k:Int)) wF y6 y7 n w) y/\Z y:=by
 intro d
 induction d with
 | zero =>
  intro k w hk hw
  have hk:k=Y0.length:=by omega
  subst hk
  rw[yr]at hw
  obtain⟨y,g1,g2⟩:=hz w hw
  refine⟨y,?_,g2⟩
  unfold f9_1
  exact aa.tv rfl (aa.ite aM nofun fun _=>aa.tv (inc (k:=n) (n:=1001) (by omega) (by omega)) (f9_0_J g1))
 | succ d ih =>
  intro k w hk hw
  have hkl:k<Y0.length:=by omega
  obtain⟨b,hb⟩:∃b,Y0[k]? = some b:=⟨_,FQ hkl⟩
  obtain⟨hci,hcf⟩:=hc b (FZ hb)
  have e1:(X.set n ⟨p,r,iM (iX m) Y0 k⟩)[n]? = some ⟨p,r,iM (iX m) Y0 k⟩:=List.getElem?_set_self hn
  obtain⟨xs,ys,c,i,g,hO⟩:=openK hw e1 (oE hb)
  obtain⟨rfl,on,ok,oX,oY,oxl,oyl,oc,od,oi,og,oo,op,orr⟩:=hO
  have hO:OpK _ _ n k ⟨p,r,iM (iX m) Y0 k⟩ b xs ys c i g:=⟨rfl,on,ok,oX,oY,oxl,oyl,oc,od,oi,og,oo,op,orr⟩
  have oyk:=(FP.1 ok).1
  have oylen:ys.length=Y0.length:=by rw[oY.length];exact nR
  have ank:aJ (I (k:Int))=some k:=bj (by omega)
  have gz:=zw (ys:=ys) (P:=I p) (R:=I r) on
  have sl:∀{zs:List (List TV)},zs.length=Y0.length->slLen (.sl true 14 zs)=some Y0.length/\(slSize (.sl true 14 zs) 14&&Nat.blt k Y0.length)=true:=fun h=>⟨by simp[slLen,h],by simp[slSize];exact hkl⟩
  have hR:RBlock (some true) [B b.landing,I b.pad.dst,c,B b.pad.all,B b.pad.cleanup,i,I b.fin.kind,I b.fin.a,I b.fin.dst,I b.fin.f,g,I b.fin.to,I b.fin.els,I b.fin.pad] b:=⟨c,i,g,rfl,oc,od,oi,og,oo⟩
  have hnd:=BG hR.frz (hF.frz fun _ _ h=>h.frz) (fun h=>by rw[hFl];exact hcf h)
  have hback:iX m b=b->∃y,aa prog 9 (f9_1 x0 (I (n:Int)) n (I Y0.length) (I ((k+1:Nat):Int)) wF y6 y7 n (TR xs n (I p) (I r) ys)) y/\Z y:=fun h=>ih (k+1) _ (by omega) (by rw[Ci hb h];exact hw)
  have front:∀{y:TV},aa prog 9 (.ite (asBool (B (tt (b.fin.kind=4/\F[b.fin.f.toNat]? = some false)))) _ _) y->aa prog 9 (f9_1 x0 (I (n:Int)) n (I Y0.length) (I (k:Int)) wF y6 y7 n (TR xs n (I p) (I r) ys)) y:=fun{y} h=>by
   unfold f9_1
   refine aa.tv rfl (aa.ite (aQ hkl) (fun _=>?_) nofun)
   exact aa.tv gz (aa.nat (sl oylen).1 (aa.nat ank (aa.chk (sl oylen).2 (aa.tv gz (aa.tvs ok (aa.chk hR.En (aa.tv (jk on ok) (aa.tv (jk on ok) (aa.tv (jk on ok) (aa.call hnd (aa.chk rfl h)))))))))))
  by_cases h4:b.fin.kind=4/\F[b.fin.f.toNat]? = some false
  ·have hnt:¬Thr m b.fin.f.toNat:=fun h=>by rw[(hFt _).2 h]at h4;cases h4.2
   by_cases hl:b.ins.length<64
   ·have hG:iX m b=bz b:=if_pos ⟨h4.1,hnt,hl⟩
    have i11:inI 11:=by unfold inI;omega
    have i0:inI 0:=by unfold inI;omega
    have i2:inI 2:=by unfold inI;omega
    have w0:inW 0:=by unfold inW;omega
    have hrow:RIns (some true) [I 11,I b.fin.dst,I 0,I 0,W 0,I b.fin.f,g] ⟨11,b.fin.dst,0,0,0,b.fin.f,b.fin.args⟩:=⟨g,rfl,og,i11,oo.2.2.1,i0,i0,w0,oo.2.2.2.1⟩
    obtain⟨i',a1,a2⟩:=oi.app hrow (by omega)
    have hB:RBlock (some true) [B b.landing,I b.pad.dst,c,B b.pad.all,B b.pad.cleanup,i',I 2,I 0,I 0,I 0,.lit bc,I b.fin.to,I 0,I 0] (bz b):=⟨c,i',.lit bc,rfl,oc,od,a2,RL.nil,i2,i0,i0,i0,oo.2.2.2.2.1,i0,i0⟩
    have hend:=hO.close hB
    simp only[List.set_set]at hend
    rw[<-hG,tN hb]at hend
    obtain⟨y,g1,g2⟩:=ih (k+1) _ (by omega) hend
    refine⟨y,front (aa.ite (v:=true) (by rw[bp h4];rfl) (fun _=>?_) nofun),g2⟩
    refine aa.tv (jk on ok) (aa.tv oi.len (aa.tv rfl (aa.ite (v:=true) (by simp[asBool];omega) (fun _=>?_) nofun)))
    have k1:∀{e:List TV},(ai ys k e)[k]? = some e:=vx oyk
    have k3:∀{e:List TV} {zs:List (List TV)},zs.length=ys.length->(ai zs k e)[k]? = some e:=fun h=>vx (by omega)
    refine aa.tv (jk on ok) (aa.tv (wl on ok rfl) (aa.tv (jk on k1) (aa.tv (wl on k1 rfl) ?_)))
    refine aa.rws rfl (aa.tv (jk on (k3 (by simp only[cI]))) (aa.tv a1 (aa.tv (wl on (k3 (by simp only[cI])) rfl) ?_)))
    have hbq:Nat.beq n n=true:=Nat.beq_refl n
    refine aa.chk (by simp[mF]) (aa.chk (by simp[hbq]) (aa.chk (by simp[mF,hbq]) (aa.chk rfl (aa.chk (by simp[mF]) (aa.chk (by simp[hbq]) (aa.chk (by simp[mF,hbq]) ?_))))))
    have l2:(ai (ai (ai ys k (ai [B b.landing,I b.pad.dst,c,B b.pad.all,B b.pad.cleanup,i,I b.fin.kind,I b.fin.a,I b.fin.dst,I b.fin.f,g,I b.fin.to,I b.fin.els,I b.fin.pad] 2 TV.hole)) k (ai (ai [B b.landing,I b.pad.dst,c,B b.pad.all,B b.pad.cleanup,i,I b.fin.kind,I b.fin.a,I b.fin.dst,I b.fin.f,g,I b.fin.to,I b.fin.els,I b.fin.pad] 2 TV.hole) 10 TV.hole)) k (ai (ai (ai [B b.landing,I b.pad.dst,c,B b.pad.all,B b.pad.cleanup,i,I b.fin.kind,I b.fin.a,I b.fin.dst,I b.fin.f,g,I b.fin.to,I b.fin.els,I b.fin.pad] 2 TV.hole) 10 TV.hole) 5 TV.hole)).length=Y0.length:=by simp only[cI];exact oylen
    have gz3:=zw (ys:=ai (ai (ai ys k (ai [B b.landing,I b.pad.dst,c,B b.pad.all,B b.pad.cleanup,i,I b.fin.kind,I b.fin.a,I b.fin.dst,I b.fin.f,g,I b.fin.to,I b.fin.els,I b.fin.pad] 2 TV.hole)) k (ai (ai [B b.landing,I b.pad.dst,c,B b.pad.all,B b.pad.cleanup,i,I b.fin.kind,I b.fin.a,I b.fin.dst,I b.fin.f,g,I b.fin.to,I b.fin.els,I b.fin.pad] 2 TV.hole) 10 TV.hole)) k (ai (ai (ai [B b.landing,I b.pad.dst,c,B b.pad.all,B b.pad.cleanup,i,I b.fin.kind,I b.fin.a,I b.fin.dst,I b.fin.f,g,I b.fin.to,I b.fin.els,I b.fin.pad] 2 TV.hole) 10 TV.hole) 5 TV.hole)) (P:=I p) (R:=I r) on
    refine aa.tv gz3 (aa.nat (sl l2).1 (aa.nat ank (aa.chk (sl l2).2 (aa.tv gz3 (aa.tvs (k3 (by simp only[cI])) (aa.chk ?_ (aa.tv (EZ on (k3 (by simp only[cI]))) (aa.tv (inc hkl (by omega)) ?_))))))))
    ·show(cL dK [B b.landing,I b.pad.dst,.hole,B b.pad.all,B b.pad.cleanup,.hole,I b.fin.kind,I b.fin.a,I b.fin.dst,I b.fin.f,.hole,I b.fin.to,I b.fin.els,I b.fin.pad] 0&&ab dK [B b.landing,I b.pad.dst,c,B b.pad.all,B b.pad.cleanup,i',I 2,I 0,I 0,I 0,.lit bc,I b.fin.to,I 0,I 0] 0)=true
     rw[hB.En,Bool.and_true]
     rfl
    ·refine f9_1_J ?_
     simp only[Eu]
     have hE:∀E,E=[B b.landing,I b.pad.dst,c,B b.pad.all,B b.pad.cleanup,i',I 2,I 0,I 0,I 0,.lit bc,I b.fin.to,I 0,I 0]->aa prog 9 (f9_1 x0 (I (n:Int)) n (I Y0.length) (I ((k+1:Nat):Int)) wF y6 y7 n (TR xs n (I p) (I r) (ai ys k E))) y:=fun E h=>by rw[h];exact g1
     exact hE _ (by kernel_rfl)
   ·have hG:iX m b=b:=if_neg fun h=>hl h.2.2
    obtain⟨y,g1,g2⟩:=hback hG
    refine⟨y,front (aa.ite (v:=true) (by rw[bp h4];rfl) (fun _=>?_) nofun),g2⟩
    refine aa.tv (jk on ok) (aa.tv oi.len (aa.tv rfl (aa.ite (v:=false) (by simp[asBool];omega) nofun fun _=>?_)))
    exact aa.tv (inc hkl (by omega)) (f9_1_J g1)
  ·have hG:iX m b=b:=if_neg fun h=>h4 ⟨h.1,by
    have h1:=(hcf h.1).2
    rw[<-hFl]at h1
    rw[FQ h1]
    cases hx:F[b.fin.f.toNat]with
    | false=>rfl
    | true=>exact absurd ((hFt _).1 (by rw[FQ h1,hx])) h.2.1⟩
   obtain⟨y,g1,g2⟩:=hback hG
   refine⟨y,front (aa.ite (v:=false) (by rw[ck h4];rfl) nofun fun _=>?_),g2⟩
   exact aa.tv (inc hkl (by omega)) (f9_1_J g1)
end
end Go.Ab.C14
end
section
set_option maxRecDepth 10000
namespace Go.Ab
section
variable {α:Type} {q:Option Bool} {s:Nat} {R S:List TV->α->Prop} {x:TV} {l:List α}
end
theorem sN {x z:TV} {n j:Nat} {e:List TV} (h:Go.Ab.pel x n=some e) (hj:e[j]? = some z):a8 [(n,j)] x=some z:=by
 cases x with
 | sl o s xs =>
  have h:xs[n]? = some e:=h
  simp[a8,h,hj]
 | _=>cases h
theorem Dn {x y z:TV} {n i k j:Nat} {e:List TV} (h:a8 [(n,i)] x=some y) (hk:Go.Ab.pel y k=some e) (hj:e[j]? = some z):a8 [(n,i),(k,j)] x=some z:=by
 have:=ya [(n,i)] k j x y h
 rw[sN hk hj]at this
 exact this
theorem qU {v:TV} (h:v.isSl=true):ab zSl [v] 0=true:=by
 show(v.isSl&&true)=true
 rw[h];rfl
end Go.Ab
namespace Go.Ab.C14
open Go Go.Ab Go.Proofs
theorem E8 {e:List TV} {m:DMod} (he:RMod (some false) e m) (hs:ig m) (hM:¬cF m):∃w,aj prog 9 [.agg e] (.tup [.agg [w],I 1])/\RMod (some true) [w] m:=by
 have c0:=r8 he
 rw[ck hM]at c0
 obtain⟨e',c1,c2⟩:=r16 he hs
 obtain⟨x,rfl,hx⟩:=he
 obtain⟨w,rfl,hw⟩:=c2
 refine⟨w,?_,w,rfl,hw⟩
 have hO:=hw.own fun _ _ h=>h.own
 refine aj.of (f9_MR _) ?_
 unfold f9_M
 refine aa.chk rfl (aa.call c0 (aa.chk rfl (aa.tv rfl (aa.ite (v:=true) rfl (fun _=>?_) nofun))))
 exact aa.call c1 (aa.chk (by simp[TV.isAgg,ab,zSl,aF,TV.cellsL,hw.isSl]) (aa.chk (by show bE [.agg [w],I 1]=true;simp[bE,isOwn,hO]) aa.ret))
noncomputable def uY (m:DMod) (u:DFunc):DFunc:={ u with blocks:=u.blocks.map (iX m) }
theorem qk {m:DMod} (hM:cF m) {u:DFunc} (hu:u∈m.funcs) {b:DBlock} (hb:b∈u.blocks) (h4:b.fin.kind=4):0<=b.fin.f/\b.fin.f.toNat<m.funcs.length:=by
 obtain⟨n,hn,rfl⟩:=List.mem_iff_getElem.1 hu
 obtain⟨k,hk,rfl⟩:=List.mem_iff_getElem.1 hb
 exact((yB hM (FQ hn) (FQ hk)).2 h4).1
theorem qH {m:DMod} (hs:ig m) {u:DFunc} (hu:u∈m.funcs):u.blocks.length<=70/\∀b∈u.blocks,b.ins.length<=70:=by
 obtain⟨n,hn,rfl⟩:=List.mem_iff_getElem.1 hu
 have h:=hs.2 n hn _ (FQ hn)
 refine⟨h.1,fun b hb=>?_⟩
 obtain⟨k,hk,rfl⟩:=List.mem_iff_getElem.1 hb
 exact(h.2 k hk _ (FQ hk)).1
theorem xj {x:TV} {m:DMod} (hx:RL (some false) 3 (RFunc (some false)) x m.funcs) (hs:ig m) (hM:cF m):∃w,aj prog 9 [.agg [x]] (.tup [.agg [w],I 0])/\RMod (some true) [w] (cf m):=by
 have he:RMod (some false) [x] m:=⟨x,rfl,hx⟩
 have c0:=r8 he
 rw[bp hM]at c0
 obtain⟨wF,F,a1,a2,a3,a4⟩:=rOut he hM
 obtain⟨e',c1,c2⟩:=r16 he hs
 obtain⟨w0,rfl,hw0⟩:=c2
 have hN:=hs.1
 have key:∀(d i:Nat) (w:TV),i+d=m.funcs.length->RMod (some true) [w] ⟨iM (uY m) m.funcs i⟩->∃y,aa prog 9 (f9_0 (I m.funcs.length) (I (i:Int)) wF w) y/\∃w',y=.tup [.agg [w'],I 0]/\RMod (some true) [w'] (cf m):=by
  intro d
  induction d with
  | zero =>
   intro i w hi hw
   have hi:i=m.funcs.length:=by omega
   subst hi
   rw[yr]at hw
   refine⟨_,?_,w,rfl,hw⟩
   obtain⟨_,hx,hw⟩:=hw
   cases hx
   have hO:=hw.own fun _ _ h=>h.own
   unfold f9_0
   exact aa.tv rfl (aa.ite aM nofun fun _=>aa.chk (by show bE [.agg [w],I 0]=true;simp[bE,isOwn,hO]) aa.ret)
  | succ d ih =>
   intro i w hi hw
   have hil:i<m.funcs.length:=by omega
   obtain⟨u,hu⟩:∃u,m.funcs[i]? = some u:=⟨_,FQ hil⟩
   have hum:=FZ hu
   have hul:i<(iM (uY m) m.funcs i).length:=by rw[nR];exact hil
   have hbd:=qH hs hum
   have hself:(iM (uY m) m.funcs i).set i ⟨u.params,u.regs,iM (iX m) u.blocks 0⟩=iM (uY m) m.funcs i:=by
    rw[uE]
    exact sS (oE hu)
   have hw':=hw
   obtain⟨_,hx,hwl⟩:=hw'
   cases hx
   obtain⟨e,he,y,rfl,hy,ho⟩:=hwl.pel (oE (f:=uY m) hu)
   have l:=hwl.slLen
   rw[show(iM (uY m) m.funcs i).length=m.funcs.length from nR]at l
   obtain⟨r,g1,g2⟩:=E7 a2 a3 a4 hul (by omega) (p:=u.params) (r:=u.regs) (Y0:=u.blocks) (by omega) (fun b hb=>⟨by have:=hbd.2 b hb;omega,qk hM hum hb⟩) (x0:=I m.funcs.length) (y6:=I u.params) (y7:=I u.regs)
    (Z:=fun y=>∃w',y=.tup [.agg [w'],I 0]/\RMod (some true) [w'] (cf m)) (fun w2 hw2=>ih (i+1) w2 (by omega) (by rw[<-tN hu];exact hw2)) u.blocks.length 0 w (by omega) (by rw[hself];exact hw)
   refine⟨r,?_,g2⟩
   have ani:aJ (I (i:Int))=some i:=bj (by omega)
   unfold f9_0
   refine aa.tv rfl (aa.ite (aQ hil) (fun _=>?_) nofun)
   exact aa.nat l (aa.nat ani (aa.chk (by rw[hwl.slSize];simpa using hil) (aa.tvs he (aa.chk (by simp[ab,FJ,aF,TV.isSc,scV,hy.isSl]) (aa.tv (sN he rfl) (aa.tv hy.len (f9_1_J g1)))))))
 obtain⟨y,g1,w,rfl,g2⟩:=key m.funcs.length 0 w0 (by omega) (by rw[uE];exact⟨_,rfl,hw0⟩)
 refine⟨w,?_,g2⟩
 refine aj.of (f9_MR _) ?_
 unfold f9_M
 refine aa.chk rfl (aa.call c0 (aa.chk rfl (aa.tv rfl (aa.ite (v:=false) rfl nofun fun _=>?_))))
 exact aa.call a1 (aa.chk (qU a2.isSl) (aa.call c1 (aa.chk (by simp[TV.isAgg,ab,zSl,aF,TV.cellsL,hw0.isSl]) (aa.tv hw0.len (f9_0_J g1)))))
end Go.Ab.C14
end
section
set_option maxRecDepth 10000
namespace Go.Ab
structure GI (m:DMod) (X:Nat->Prop) (F0 F:List Bool) (Z:List Bool->Prop):Prop where
 len:F.length=m.funcs.length
 snd:vJ X F
 two:(F.count false<F0.count false/\∃k:Nat,F0[k]? = some false/\X k)\/(F=F0/\Z F0)
def ZnL (m:DMod) (D:List Bool->DFunc->DBlock->Prop) (n:Nat) (F:List Bool):Prop:=∀(k:Nat) u,k<n->m.funcs[k]? = some u->qM D F u->F[k]? = some true
section
variable {m:DMod} {D E:List Bool->DFunc->DBlock->Prop} {Q:List Bool->DIns->Prop} {X:Nat->Prop} {F0 F:List Bool} {Z Z':List Bool->Prop}
end
def IsX (m:DMod) (X:Nat->Prop) (y:TV):Prop:=∃F:List Bool,RBools (some true) y F/\F.length=m.funcs.length/\∀k:Nat,F[k]? = some true ↔ X k
end Go.Ab
end
section
set_option maxRecDepth 10000
namespace Go.Ab
theorem asNatZ {a:Int} (h0:0<=a) (h:a.toNat<=9223372036854775807):aJ (I a)=some a.toNat:=by
 have:=bj h
 rwa[show((a.toNat:Nat):Int)=a by omega]at this
end Go.Ab
namespace Go.Ab.C14
open Go Go.Ab Go.Proofs
section
variable {q:Option Bool} {b:TV} {m:DMod} (hb:RL q 3 (RFunc q) b m.funcs) (hM:cF m) {F0:List Bool} {n r:Nat} {u:DFunc} {bl:TV} (hu:m.funcs[n]? = some u) (hbl:RL q 14 (RBlock q) bl u.blocks)
 (K:∀F' w',RBools (some true) w' F'->GI m (Thr m) F0 F' (ZnL m zA (n+1))->∃y,aa prog 30 (f30_1 (I r) (I (n+1:Nat)) b w') y/\IsX m (Thr m) y)
include hb hM hu hbl K
end
end Go.Ab.C14
end
section
set_option maxRecDepth 100000
namespace Go.Ab
theorem yH {X:Nat->Prop} {F F':List Bool} {N:Nat} (h1:F.length=N) (h2:∀k:Nat,F[k]? = some true ↔ X k) (g1:F'.length=N) (g2:∀k:Nat,F'[k]? = some true ↔ X k):F=F':=by
 apply List.ext_getElem?
 intro k
 have h:=(h2 k).trans (g2 k).symm
 by_cases hk:k<F.length
 ·have hk':k<F'.length:=by omega
  rw[FQ hk,FQ hk']at h ⊢
  generalize F[k]=a at h
  generalize F'[k]=c at h
  cases a<;>cases c<;>simp at h<;>rfl
 ·rw[F5 (by omega),F5 (by omega)]
end Go.Ab
namespace Go.Ab.C14
open Go Go.Ab Go.Proofs
theorem Df:aj prog 6 [] (B true):=⟨100,by kernel_rfl⟩
theorem Dt {q q':Option Bool} {x y:TV} {l m:List Bool} (hx:RBools q x l) (hy:RBools q' y m):aj prog 17 [x,y] (B (tt (l=m))):=by
 refine aj.of (f17_MR _ _) ?_
 unfold f17_M
 refine aa.tv hx.len (aa.tv hy.len (aa.tv rfl (aa.ite rfl (fun h=>?_) fun h=>?_)))
 ·have h:¬l=m:=by rintro rfl;simp at h
  exact aB h
 ·have hlen:l.length=m.length:=by simp at h;omega
  refine f17_0_J ?_
  rw[aX (dH hlen)]
  refine dM (g:=fun k=>f17_0 x y (I k)) ?_ ?_
  ·unfold f17_0
   refine aa.tv hx.len (aa.tv rfl (aa.ite aM nofun fun _=>aa.ret))
  ·intro k hk r h1 h2
   have hk':k<m.length:=by omega
   have ha:l[k]? = some l[k]:=FQ hk
   have hb:m[k]? = some m[k]:=FQ hk'
   obtain⟨e,he,hr1⟩:=hx.idx (k:=.i64) ha
   obtain⟨e',he',hr2⟩:=hy.idx (k:=.i64) hb
   cases hr1
   cases hr2
   unfold f17_0
   refine aa.tv hx.len (aa.tv rfl (aa.ite (aQ hk) (fun _=>?_) nofun))
   refine aa.tvs he (aa.chk rfl (aa.tvs he' (aa.chk rfl (aa.tv rfl (aa.ite rfl (fun h=>?_) fun h=>?_)))))
   ·rw[h1 (by rw[ha,hb];simpa using h)];exact aa.ret
   ·exact aa.tv (inc hk hx.bnd) (f17_0_J (h2 (by rw[ha,hb];simpa using h)))
theorem yY {m:DMod} (h:ig m):ig (cf m):=by
 refine⟨by simpa[cf,jZ]using h.1,fun i hi f hf=>?_⟩
 have hf':=FZ hf
 rw[DD]at hf'
 obtain⟨v,hv,rfl⟩:=List.mem_map.1 hf'
 obtain⟨j,hj,rfl⟩:=List.mem_iff_getElem.1 hv
 have hs:=h.2 j hj _ (FQ hj)
 refine⟨by simpa using hs.1,fun k hk b hb=>?_⟩
 have hb:(m.funcs[j].blocks.map (iX m))[k]? = some b:=hb
 rw[FW]at hb
 cases hc:m.funcs[j].blocks[k]? with
 | none=>rw[hc]at hb;cases hb
 | some c =>
  rw[hc]at hb
  have hb:iX m c=b:=Option.some.inj hb
  have hs2:=hs.2 k (FP.1 hc).1 c hc
  unfold iX at hb
  split at hb
  ·rename_i h1
   subst hb
   refine⟨by simp[bz];omega,hs2.2.1,by simp[bz],fun q hq x hx=>?_⟩
   have hx:(c.ins ++ [⟨11,c.fin.dst,0,0,0,c.fin.f,c.fin.args⟩])[q]? = some x:=hx
   by_cases hql:q<c.ins.length
   ·rw[F3 hql]at hx
    exact hs2.2.2.2 q hql x hx
   ·rw[F4 (by omega)]at hx
    have h2:=(FP.1 hx).1
    have h0:q-c.ins.length=0:=by simp at h2;omega
    rw[h0]at hx
    cases hx
    exact hs2.2.2.1
  ·subst hb
   exact hs2
theorem Ce {m:DMod} {i k:Nat} {u:DFunc} {b:DBlock} (hu:(cf m).funcs[i]? = some u) (hb:u.blocks[k]? = some b) (h4:b.fin.kind=4) (ht:¬Thr (cf m) b.fin.f.toNat):64<=b.ins.length:=by
 obtain⟨v,c,_,_,_,h⟩:=l8 hu hb
 rcases h with⟨rfl,h⟩|⟨rfl,_⟩
 ·rw[rR]at ht
  apply Classical.byContradiction
  intro hlt
  exact h ⟨h4,ht,by omega⟩
 ·simp[bz]at h4
theorem rCalmKeeps {e : List TV} {x : TV} {m : DMod} {l : List Int} {p : Int} (hm : RMod (some false) e m) (hx : RWords (some false) x l) (hp : 0 ≤ p ∧ p ≤ 255) : aj prog 4 [.agg e, x, .lit (.int .u8 p)] (B true) := by
 obtain⟨N,rfl⟩:∃N:Nat,p=(N:Int):=⟨p.toNat,by omega⟩
 have hN:N<=255:=by omega
 have hcv:pconv (.int .i64) (.lit (.int .u8 (N:Int)))=some (I (N:Int)):=Eb (by omega) (by omega)
 obtain⟨b,hsm,hsb⟩:=rSmall hm hx
 have hm0:=hm
 obtain⟨y,rfl,hy⟩:=hm
 refine aj.of (f4_MR _ _ _) ?_
 unfold f4_M
 refine aa.chk rfl (aa.call Df (aa.chk rfl (aa.tv rfl (aa.ite (v:=false) rfl nofun fun _=>aa.call hsm (aa.chk rfl (aa.tv rfl ?_))))))
 cases b with
 | false=>exact aa.ite (v:=true) rfl (fun _=>aa.ret) nofun
 | true =>
  refine aa.ite (v:=false) rfl nofun fun _=>?_
  obtain⟨hs,hl⟩:=hsb rfl
  by_cases hM:cF m
  rotate_left
  ·obtain⟨w,m1,m2⟩:=E8 hm0 hs hM
   obtain⟨_,hw,hwl⟩:=m2
   cases hw
   have t1:=r8 hm0
   rw[ck hM]at t1
   exact aa.call m1 (aa.chk rfl (aa.chk (by simp[TV.comp,nth,TV.isAgg,ab,zSl,aF,TV.cellsL,hwl.isSl]) (aa.chk rfl (aa.tv rfl (aa.ite (v:=true) rfl (fun _=>aa.call t1 (aa.chk rfl (aa.tv rfl aa.ret))) nofun)))))
  obtain⟨w,m1,m2⟩:=xj hy hs hM
  obtain⟨_,hw,hwl⟩:=m2
  cases hw
  have hMn:cF (cf m):=BJ hM
  have hsn:=yY hs
  have hz:RL (some false) 3 (RFunc (some false)) (frz w) (cf m).funcs:=hwl.frz fun _ _ h=>h.frz
  have hzm:RMod (some false) [frz w] (cf m):=⟨_,rfl,hz⟩
  obtain⟨w2,n1,n2⟩:=xj hz hsn hMn
  obtain⟨_,hw2,hwl2⟩:=n2
  cases hw2
  rw[zc]at hwl2
  have t1:=r18 (a:=cf m) (b:=cf m) (q:=some false) (q':=some false) ⟨_,rfl,hwl2.frz fun _ _ h=>h.frz⟩ hzm
  rw[bp rfl]at t1
  have t2:=r9 hzm
  rw[bp hMn]at t2
  obtain⟨v1,F1,o1,o2,o3,o4⟩:=rOut hm0 hM
  obtain⟨v2,F2,u1,u2,u3,u4⟩:=rOut hzm hMn
  have hlen:(cf m).funcs.length=m.funcs.length:=by simp[cf,jZ]
  have hFF:F1=F2:=yH o3 o4 (u3.trans hlen) (fun k=>(u4 k).trans rR)
  have t3:=Dt (o2.frz (S:=RB1) fun _ _ h=>h.frz) (u2.frz (S:=RB1) fun _ _ h=>h.frz)
  rw[bp hFF]at t3
  refine aa.call m1 (aa.chk rfl (aa.chk (by simp[TV.comp,nth,TV.isAgg,ab,zSl,aF,TV.cellsL,hwl.isSl]) (aa.chk rfl (aa.tv rfl (aa.ite (v:=false) rfl nofun fun _=>?_)))))
  refine aa.call n1 (aa.chk rfl (aa.chk (by simp[TV.comp,nth,TV.isAgg,ab,zSl,aF,TV.cellsL,hwl2.isSl]) (aa.chk rfl (aa.tv rfl (aa.ite (v:=false) rfl nofun fun _=>?_)))))
  refine aa.call t1 (aa.chk rfl (aa.tv rfl (aa.ite (v:=false) rfl nofun fun _=>aa.call t2 (aa.chk rfl (aa.tv rfl (aa.ite (v:=false) rfl nofun fun _=>?_))))))
  refine aa.call o1 (aa.chk (qU o2.isSl) (aa.call u1 (aa.chk (qU u2.isSl) (aa.call t3 (aa.chk rfl (aa.tv rfl (aa.ite (v:=false) rfl nofun fun _=>?_)))))))
  refine aa.call u1 (aa.chk (qU u2.isSl) (f4_0_J ?_))
  have runs:aa prog 4 (f4_2 x (.lit (.int .u8 (N:Int))) y w .hole) (B true):=by
   have hkp:=D6 hM (fun s hQ=>tR hM hQ) (sD (inputs:=l) hM) tI N
   have k1:=Bw (times:=2) hm0 hzm hM hMn hx hN (by omega) hkp
   unfold f4_2
   exact aa.tv hcv (aa.call k1 (aa.chk rfl aa.ret))
  have hN2:=hsn.1
  have ly:=hwl.len (t:=40)
  have key : ∀ (d i : Nat), i + d = (cf m).funcs.length → aa prog 4 (f4_0 x (.lit (.int .u8 (N : Int))) (I (i : Int)) y v2 w .hole) (B true) := by
   intro d
   induction d with
   | zero =>
    intro i hi
    have hi:i=(cf m).funcs.length:=by omega
    subst hi
    unfold f4_0
    exact aa.tv ly (aa.tv rfl (aa.ite aM nofun fun _=>f4_2_J runs))
   | succ d ih =>
    intro i hi
    have hil:i<(cf m).funcs.length:=by omega
    obtain⟨u,hu⟩:∃u,(cf m).funcs[i]? = some u:=⟨_,FQ hil⟩
    have hbd:=qH hsn (FZ hu)
    obtain⟨e,he,yb,rfl,hyb,ho⟩:=hwl.pel hu
    have l1:=hwl.slLen
    have ani:aJ (I (i:Int))=some i:=bj (by omega)
    have z1:(slSize w 3&&Nat.blt i (cf m).funcs.length)=true:=by rw[hwl.slSize];simpa using hil
    have fz:ab zSl [I u.params,I u.regs,yb] 2=true:=by simp[ab,zSl,aF,hyb.isSl]
    have gy:=sN (j:=2) he rfl
    have inner:∀(d k:Nat),k+d=u.blocks.length->aa prog 4 (f4_1 x (.lit (.int .u8 (N:Int))) (I (i:Int)) (I (k:Int)) y v2 w .hole) (B true):=by
     intro d
     induction d with
     | zero =>
      intro k hk
      have hk:k=u.blocks.length:=by omega
      subst hk
      unfold f4_1
      exact aa.nat l1 (aa.nat ani (aa.chk z1 (aa.tvs he (aa.chk fz (aa.tv gy (aa.tv hyb.len (aa.tv rfl (aa.ite aM nofun fun _=>aa.tv (inc hil (by omega)) (f4_0_J (ih (i+1) (by omega)))))))))))
     | succ d ihk =>
      intro k hk
      have hkl:k<u.blocks.length:=by omega
      obtain⟨b,hb⟩:∃b,u.blocks[k]? = some b:=⟨_,FQ hkl⟩
      obtain⟨eb,hbk,hR⟩:=hyb.pel hb
      have fitb:=hR.En
      obtain⟨c,ii,g,rfl,oc,od,oi,og,oo⟩:=hR
      have ank:aJ (I (k:Int))=some k:=bj (by omega)
      have z2:(slSize yb 14&&Nat.blt k u.blocks.length)=true:=by rw[hyb.slSize];simpa using hkl
      have next:=ihk (k+1) (by omega)
      unfold f4_1
      refine aa.nat l1 (aa.nat ani (aa.chk z1 (aa.tvs he (aa.chk fz (aa.tv gy (aa.tv hyb.len (aa.tv rfl (aa.ite (aQ hkl) (fun _=>?_) nofun))))))))
      refine aa.nat l1 (aa.nat ani (aa.chk z1 (aa.tvs he (aa.chk fz (aa.tv gy (aa.nat hyb.slLen (aa.nat ank (aa.chk z2 (aa.tv gy (aa.tvs hbk (aa.chk fitb (aa.tv rfl ?_))))))))))))
      by_cases h4:b.fin.kind=4
      ·obtain⟨f0,f1⟩:=qk hMn (FZ hu) (FZ hb) h4
       rw[<-u3]at f1
       have hx2:=FQ f1
       generalize F2[b.fin.f.toNat]=bx at hx2
       obtain⟨ef,hef,hRf⟩:=u2.pel hx2
       cases hRf
       have anf:=asNatZ f0 (by have:=oo.2.2.2.1;unfold inI at this;omega)
       refine aa.ite (v:=true) (by simp[asBool,h4]) (fun _=>?_) nofun
       refine aa.nat u2.slLen (aa.nat anf (aa.chk (by rw[u2.slSize];simpa using f1) (aa.tvs hef (aa.chk rfl (aa.tv rfl ?_)))))
       cases bx with
       | true=>exact aa.ite (v:=false) rfl nofun fun _=>aa.tv (inc hkl (by omega)) (f4_1_J next)
       | false =>
        have hfull:=Ce hu hb h4 (fun h=>by rw[(u4 _).2 h]at hx2;cases hx2)
        refine aa.ite (v:=true) rfl (fun _=>?_) nofun
        exact aa.tv (Dn (j:=5) gy hbk rfl) (aa.tv oi.len (aa.tv rfl (aa.ite (v:=false) (by simp[asBool];omega) nofun fun _=>aa.tv (inc hkl (by omega)) (f4_1_J next))))
      ·exact aa.ite (v:=false) (by simp[asBool,h4]) nofun fun _=>aa.tv (inc hkl (by omega)) (f4_1_J next)
    unfold f4_0
    exact aa.tv ly (aa.tv rfl (aa.ite (aQ hil) (fun _=>f4_1_J (inner u.blocks.length 0 (by omega))) nofun))
  exact key (cf m).funcs.length 0 (by omega)
end Go.Ab.C14
end
section
namespace Go.Ab
open Go.RowKit
theorem bi {α:Type} (d:α):∀(l:List α) (n:Nat),nth d l n=(l[n]?).getD d
 | [],n=>by simp[nth]
 | a::l,0=>rfl
 | a::l,n+1=>by simp[nth,bi d l n]
theorem ah {α:Type}:∀(l:List α) (n:Nat) (b:α),ai l n b=l.set n b
 | [],n,b=>by simp[ai]
 | a::l,0,b=>rfl
 | a::l,n+1,b=>by simp[ai,ah l n b]
theorem b7 {α:Type} {d:α} {l:List α} {n:Nat} {a:α} (h:l[n]? = some a):nth d l n=a:=by rw[bi,h];rfl
theorem az (a b:Nat):a.beq b=true ↔ a=b:=⟨Nat.eq_of_beq_eq_true,fun h=>h▸Nat.beq_refl a⟩
theorem bL (n:Nat):∀l:List Nat,bF n l=true ↔ n∈l
 | []=>by simp[bF]
 | a :: l => by
  cases h:a.beq n
  ·have:a≠n:=fun e=>by simp[e]at h
   simp only[bF,h,cond_false,bL n l,List.mem_cons]
   constructor
   ·exact .inr
   ·rintro(e|e)
    ·exact absurd e.symm this
    ·exact e
  ·simp only[bF,h,cond_true,List.mem_cons,true_iff]
   exact .inl ((az a n).1 h).symm
theorem fG (a:Addr) (k:Nat):(a.add k).block=a.block:=by unfold Addr.add;split<;>rfl
theorem fd (a:Addr) (i j:Nat):(a.add i).add j=a.add (i+j):=by
 unfold Addr.add
 by_cases hi:i=0<;>by_cases hj:j=0<;>simp[hi,hj,Nat.add_assoc]
theorem gH (b o k:Nat):(⟨b,o,none⟩:Addr).add k=⟨b,o+k,none⟩:=by unfold Addr.add;split<;>simp_all
def spl {α:Type} (l:List α) (o:Nat) (ys:List α):List α:=l.take o++ys++l.drop (o+ys.length)
theorem ix {α:Type} {l ys:List α} {o:Nat} (h:o+ys.length<=l.length):(spl l o ys).length=l.length:=by
 simp only[spl,List.length_append,List.length_take,List.length_drop]
 omega
theorem cW {α:Type} {l ys:List α} {o:Nat} (h:o+ys.length<=l.length) (k:Nat):(spl l o ys)[k]? = if o<=k/\k<o+ys.length then ys[k-o]? else l[k]? := by
 have e1:(l.take o).length=o:=by simp;omega
 unfold spl
 by_cases h1:k<o
 ·rw[List.append_assoc,F3 (by omega),List.getElem?_take,if_pos h1,if_neg (by omega)]
 ·by_cases h2:k<o+ys.length
  ·rw[List.append_assoc,F4 (by omega),e1,F3 (by omega),if_pos (by omega)]
  ·rw[F4 (by simp;omega),List.getElem?_drop,if_neg (by omega)]
   congr 1
   simp
   omega
theorem fK {α:Type}:∀(ps l:List α) (off:Nat),off+ps.length<=l.length->bH l off ps=spl l off ps
 | [],l,off,h=>by simp[bH,spl]
 | p :: ps, l, off, h => by
  have hlt:off<l.length:=by simp at h;omega
  simp only[bH]
  rw[ah,fK ps (l.set off p) (off+1) (by simp at h ⊢;omega)]
  apply List.ext_getElem?
  intro k
  rw[cW (by simp at h ⊢;omega),cW h]
  simp only[List.length_cons,List.getElem?_set]
  by_cases h1:k<off
  ·rw[if_neg (by omega),if_neg (by omega),if_neg (by omega)]
  ·by_cases h2:k=off
   ·subst h2
    rw[if_neg (by omega),if_pos (by omega)]
    simp[hlt]
   ·by_cases h3:k<off+(ps.length+1)
    ·rw[if_pos (by omega),if_pos (by omega)]
     rw[show k-off=(k-(off+1))+1 by omega,List.getElem?_cons_succ]
    ·rw[if_neg (by omega),if_neg (by omega),if_neg (by omega)]
theorem fg {α:Type}:∀(l:List α) (o n:Nat) (r:List α),lb l o n=some r->r.length=n/\(n=0\/o+n<=l.length)/\∀j,j<n->r[j]? = l[o+j]?
 | l,o,0,r,h=>by cases l<;>simp[lb]at h<;>subst h<;>simp
 | [],o,n+1,r,h=>by simp[lb]at h
 | a :: l, 0, n + 1, r, h => by
  simp only[lb]at h
  cases h1:lb l 0 n with
  | none=>simp[h1]at h
  | some r' =>
   simp only[h1,FR]at h
   subst h
   obtain⟨i1,i2,i3⟩:=fg l 0 n r' h1
   refine⟨by simp[i1],.inr (by simp;omega),fun j hj=>?_⟩
   cases j with
   | zero=>simp
   | succ j=>simpa using i3 j (by omega)
 | a::l,o+1,n+1,r,h=>by
  simp only[lb]at h
  obtain⟨i1,i2,i3⟩:=fg l o (n+1) r h
  refine⟨i1,.inr (by rcases i2 with i2|i2<;>simp<;>omega),fun j hj=>?_⟩
  rw[i3 j hj,show o+1+j=(o+j)+1 by omega,List.getElem?_cons_succ]
theorem cz {α:Type} {s:Nat}:∀{xs:List (List α)},(∀x∈xs,x.length=s)->xs.flatten.length=xs.length*s
 | [],_=>by simp
 | x::xs,h=>by
  simp only[List.flatten_cons,List.length_append,List.length_cons,h x FX,cz (fun y hy=>h y (FY _ hy)),Nat.add_mul]
  omega
theorem fZ {α:Type} {s:Nat}:∀{xs:List (List α)} {i j:Nat} {x:List α} {c:α},(∀x∈xs,x.length=s)->xs[i]? = some x->x[j]? = some c->xs.flatten[i*s+j]? = some c
 | x::xs,0,j,_,c,h,hi,hj=>by
  simp at hi
  subst hi
  rw[List.flatten_cons,F3 (by simp;exact(FP.1 hj).1)]
  simpa using hj
 | x::xs,i+1,j,y,c,h,hi,hj=>by
  simp at hi
  have hx:=h x FX
  rw[List.flatten_cons,F4 (by rw[hx,Nat.add_mul];omega),hx,show(i+1)*s+j-s=i*s+j by rw[Nat.add_mul];omega]
  exact fZ (fun z hz=>h z (FY _ hz)) hi hj
theorem take_add {α:Type} {x l:List α} {s n:Nat} (h:x.length=s):(x++l).take (s+n)=x++l.take n:=by
 subst h
 exact List.take_length_add_append n
theorem x7 {α:Type} {x l:List α} {s n:Nat} (h:x.length=s):(x++l).drop (s+n)=l.drop n:=by
 subst h
 exact List.drop_length_add_append n
theorem o6 (n s:Nat):(n+1)*s=s+n*s:=by rw[Nat.add_mul];omega
theorem pC {α:Type} {s:Nat}:∀{xs:List (List α)} (n:Nat),(∀x∈xs,x.length=s)->(xs.take n).flatten=xs.flatten.take (n*s)
 | [],n,_=>by simp
 | x::xs,0,_=>by simp
 | x::xs,n+1,h=>by
  have hx:=h x FX
  rw[List.take_succ_cons,List.flatten_cons,List.flatten_cons,pC n (fun z hz=>h z (FY _ hz)),o6,take_add hx]
theorem pa {α:Type} {s:Nat}:∀{xs:List (List α)} (n:Nat),(∀x∈xs,x.length=s)->(xs.drop n).flatten=xs.flatten.drop (n*s)
 | [],n,_=>by simp
 | x::xs,0,_=>by simp
 | x::xs,n+1,h=>by
  have hx:=h x FX
  rw[List.drop_succ_cons,List.flatten_cons,pa n (fun z hz=>h z (FY _ hz)),o6,x7 hx]
theorem yE {α:Type} {s:Nat}:∀{xs:List (List α)} {i:Nat} {x y:List α},(∀x∈xs,x.length=s)->xs[i]? = some x->y.length=s->(xs.set i y).flatten=spl xs.flatten (i*s) y
 | x::xs,0,_,y,h,hi,hy=>by
  simp at hi
  subst hi
  have hx:=h x FX
  simp only[List.set_cons_zero,List.flatten_cons,Nat.zero_mul,spl,List.take_zero,List.nil_append,Nat.zero_add,hy,List.drop_append,hx,Nat.sub_self,List.drop_zero]
  rw[List.drop_of_length_le (by omega),List.nil_append]
 | x::xs,i+1,z,y,h,hi,hy=>by
  simp at hi
  have hx:=h x FX
  have ih:=yE (fun z hz=>h z (FY _ hz)) hi hy
  simp only[List.set_cons_succ,List.flatten_cons,ih,spl,o6,take_add hx,hy]
  rw[show s+i*s+s=s+(i*s+s) by omega,x7 hx]
  simp only[List.append_assoc]
theorem AD {α:Type} {s:Nat} {xs:List (List α)} {i:Nat} {y:List α} (h:∀x∈xs,x.length=s) (hy:y.length=s):∀x∈xs.set i y,x.length=s:=by
 intro x hx
 rcases List.mem_or_eq_of_mem_set hx with h'|h'
 ·exact h x h'
 ·rw[h'];exact hy
theorem wX {α:Type} {s:Nat} {xs:List (List α)} {i j:Nat} {x ys:List α} (h:∀x∈xs,x.length=s) (hi:xs[i]? = some x) (hj:j+ys.length<=x.length) :
  (xs.set i (spl x j ys)).flatten=spl xs.flatten (i*s+j) ys/\i*s+j+ys.length<=xs.flatten.length:=by
 have hx:=h x (FZ hi)
 have hlt:i<xs.length:=(FP.1 hi).1
 have hle:i*s+s<=xs.flatten.length:=by
  rw[cz h]
  have:=Nat.mul_le_mul_right s (Nat.succ_le_of_lt hlt)
  rw[Nat.succ_mul]at this
  exact this
 refine⟨?_,by omega⟩
 rw[yE h hi (by rw[ix hj,hx])]
 apply List.ext_getElem?
 intro k
 rw[cW (l:=xs.flatten) (ys:=spl x j ys) (by rw[ix hj];omega),cW (l:=xs.flatten) (ys:=ys) (by omega),ix hj,hx]
 by_cases h1:i*s<=k/\k<i*s+s
 ·rw[if_pos h1,cW hj]
  by_cases h2:j<=k-i*s/\k-i*s<j+ys.length
  ·rw[if_pos h2,if_pos (by omega)]
   congr 1
   omega
  ·rw[if_neg h2,if_neg (by omega)]
   have hk:k-i*s<x.length:=by omega
   have:=fZ h hi (FQ hk)
   rw[show i*s+(k-i*s)=k by omega]at this
   rw[this,FQ hk]
 ·rw[if_neg h1,if_neg (by omega)]
inductive Rep (w:World) (I:Nat->Prop):TV->Value->Prop
 | lit (v:Value):Rep w I (.lit v) v
 | hole (v:Value):Rep w I .hole v
 | buf {s:ByteArray} (e:TypeId) (h:s.size=0):Rep w I (.buf s e) bc
 | sl {size : Nat} {xs : List (List TV)} {a : Addr} {cap : Nat} (cell : Nat → Value) (hI : 0 < xs.length → I a.block) (hc : xs.length ≤ cap) (hm : cap ≤ maxLen)
   (hl:∀x∈xs,x.length=size) (hcell:∀k,k<xs.length*size->w.cell? (a.add k)=some (cell k)) (h1:∀k,k<xs.length*size->(cell k).oneCell'=true)
   (hr:∀(i:Nat) (x:List TV),xs[i]? = some x->∀(j:Nat) (c:TV),x[j]? = some c->Rep w I c (cell (i*size+j))):Rep w I (.sl false size xs) (.slice (some a) xs.length cap)
 | agg {cs : List TV} {vs : Array Value} (hl : vs.size = cs.length) (h1 : ∀ j, j < vs.size → (vs.getD j undef).oneCell' = true)
   (hr:∀(j:Nat) (c:TV),cs[j]? = some c->Rep w I c (vs.getD j undef)):Rep w I (.agg cs) (.agg vs)
 | tup {cs:List TV} {vs:Array Value} (hl:vs.size=cs.length) (hr:∀(j:Nat) (c:TV),cs[j]? = some c->Rep w I c (vs.getD j undef)):Rep w I (.tup cs) (.tuple vs)
theorem Rep.mv {w w':World} {I I':Nat->Prop} (hh:∀b,I b->w'.heap[b]? = w.heap[b]?) (hI:∀b,I b->I' b) {x:TV} {v:Value} (h:Rep w I x v):Rep w' I' x v:=by
 induction h with
 | lit v=>exact .lit v
 | hole v=>exact .hole v
 | buf e h=>exact .buf e h
 | sl cell i c m l hcell h1 _ ih =>
  exact .sl cell (fun h=>hI _ (i h)) c m l (fun k hk=>by rw[<-hcell k hk];exact World.cell?_of_block (by rw[fG];exact hh _ (i (Nat.pos_of_ne_zero (fun e=>by simp[e]at hk))))) h1 ih
 | agg hl h1 _ ih=>exact .agg hl h1 ih
 | tup hl _ ih=>exact .tup hl ih
structure Row (w:World) (a:Addr) (n cap size:Nat) (us:List Value) (vs:Array Value) (ty:TypeId):Prop where
 heap:w.heap[a.block]? = some (.cells vs ty (0,0))
 spot:a.spot=none
 le:n<=cap
 max:cap<=maxLen
 fit:a.off+cap*size<=vs.size
 len:us.length=n*size
 cells:∀k,k<n*size->vs[a.off+k]? = us[k]?
 one:∀u∈us,u.oneCell'=true
theorem Row.cell {w:World} {a:Addr} {n cap size:Nat} {us:List Value} {vs:Array Value} {ty:TypeId} (h:Row w a n cap size us vs ty) {k:Nat} {u:Value} (hk:us[k]? = some u):w.cell? (a.add k)=some u:=by
 have hlt:k<n*size:=by rw[<-h.len];exact(FP.1 hk).1
 have:a.add k=⟨a.block,a.off+k,none⟩:=by
  have:=h.spot
  obtain⟨b,o,sp⟩:=a
  simp at this
  subst this
  exact gH b o k
 rw[this]
 simp only[World.cell?,h.heap]
 simp only[Option.isSome_none,Bool.false_eq_true,if_false]
 rw[h.cells k hlt,hk]
inductive aq (w:World) (I:Nat->Prop):TV->Value->(Nat->Prop)->Prop
 | fr {x:TV} {v:Value} {S:Nat->Prop} (h:Rep w I x v):aq w I x v S
 | sl {size : Nat} {xs : List (List TV)} {a : Addr} {cap : Nat} {S : Nat → Prop} (us : List Value) (vs : Array Value) (ty : TypeId) (F : Nat → Nat → Prop) (hS : S a.block)
   (row:Row w a xs.length cap size us vs ty) (hl:∀x∈xs,x.length=size) (hr:∀(k:Nat) (c:TV),xs.flatten[k]? = some c->aq w I c (us.getD k undef) (F k))
   (hF:∀k b,F k b->S b/\b≠a.block) (hd:∀k k' b,F k b->F k' b->k=k'):aq w I (.sl true size xs) (.slice (some a) xs.length cap) S
 | agg {cs : List TV} {vs : Array Value} {S : Nat → Prop} (F : Nat → Nat → Prop) (hl : vs.size = cs.length) (h1 : ∀ j, j < vs.size → (vs.getD j undef).oneCell' = true)
   (hr:∀(j:Nat) (c:TV),cs[j]? = some c->aq w I c (vs.getD j undef) (F j)) (hF:∀j b,F j b->S b) (hd:∀k k' b,F k b->F k' b->k=k'):aq w I (.agg cs) (.agg vs) S
 | buf {s:ByteArray} {e:TypeId} {v:Value} {S:Nat->Prop} (h:w.ownsRowF 0 e 1 v s.size (Lib.strCells s)) (hS:∀b,v.ownBlock=some b->S b):aq w I (.buf s e) v S
 | tup {cs : List TV} {vs : Array Value} {S : Nat → Prop} (F : Nat → Nat → Prop) (hl : vs.size = cs.length)
   (hr:∀(j:Nat) (c:TV),cs[j]? = some c->aq w I c (vs.getD j undef) (F j)) (hF:∀j b,F j b->S b) (hd:∀k k' b,F k b->F k' b->k=k'):aq w I (.tup cs) (.tuple vs) S
theorem _root_.Go.World.ownsRowF.moved {w w':World} {base:Nat} {e:TypeId} {size:Nat} {v:Value} {n:Nat} {xs:List Value} (h:w.ownsRowF base e size v n xs) (hh:∀b,v.ownBlock=some b->w'.heap[b]? = w.heap[b]?):w'.ownsRowF base e size v n xs:=by
 refine⟨h.1,?_⟩
 rcases h.2 with hn|⟨g,cap,cur,fz,rfl,hb,hgg,rest⟩
 ·exact .inl hn
 ·exact .inr ⟨g,cap,cur,fz,rfl,hb,by rw[hh g rfl];exact hgg,rest⟩
theorem aq.mv {w w':World} {I I':Nat->Prop} (hI:∀b,I b->w'.heap[b]? = w.heap[b]?) (hs:∀b,I b->I' b) {x:TV} {v:Value} {S:Nat->Prop} (h:aq w I x v S) :
  ∀{S':Nat->Prop},(∀b,S b->w'.heap[b]? = w.heap[b]?)->(∀b,S b->S' b)->aq w' I' x v S':=by
 induction h with
 | fr h=>intro S' _ _;exact .fr (h.mv hI hs)
 | @sl size xs a cap S us vs ty F hS row hl hr hF hd ih =>
  intro S' hh hSS
  exact .sl us vs ty F (hSS _ hS) ⟨by rw[hh _ hS];exact row.heap,row.spot,row.le,row.max,row.fit,row.len,row.cells,row.one⟩ hl (fun k c hk=>ih k c hk (fun b hb=>hh b (hF k b hb).1) (fun b hb=>hb))
   (fun k b hb=>⟨hSS b (hF k b hb).1,(hF k b hb).2⟩) hd
 | @buf s e v S h hS =>
  intro S' hh hSS
  exact .buf (h.moved (fun b hb=>hh b (hS b hb))) (fun b hb=>hSS b (hS b hb))
 | @agg cs vs S F hl h1 hr hF hd ih =>
  intro S' hh hSS
  exact .agg F hl h1 (fun k c hk=>ih k c hk (fun b hb=>hh b (hF k b hb)) (fun b hb=>hb)) (fun k b hb=>hSS b (hF k b hb)) hd
 | @tup cs vs S F hl hr hF hd ih =>
  intro S' hh hSS
  exact .tup F hl (fun k c hk=>ih k c hk (fun b hb=>hh b (hF k b hb)) (fun b hb=>hb)) (fun k b hb=>hSS b (hF k b hb)) hd
theorem aq.mono {w:World} {I:Nat->Prop} {x:TV} {v:Value} {S S':Nat->Prop} (h:aq w I x v S) (hS:∀b,S b->S' b):aq w I x v S' :=
 h.mv (fun _ _=>rfl) (fun _ h=>h) (fun _ _=>rfl) hS
theorem bM {w:World} {I:Nat->Prop} {v u:Value} (h:Rep w I (.lit v) u):u=v:=by cases h;rfl
theorem bq {w:World} {I:Nat->Prop} {v u:Value} {S:Nat->Prop} (h:aq w I (.lit v) u S):u=v:=by cases h with|fr h=>exact bM h
theorem Ed {w:World} {I:Nat->Prop} {s:Nat} {xs:List (List TV)} {u:Value} {S:Nat->Prop} (h:aq w I (.sl false s xs) u S):Rep w I (.sl false s xs) u:=by cases h with|fr h=>exact h
theorem qX {w:World} {I:Nat->Prop} {o:Bool} {s:Nat} {xs:List (List TV)} {u:Value} {S:Nat->Prop} (h:aq w I (.sl o s xs) u S):∃a cap,u=.slice (some a) xs.length cap:=by
 cases h with
 | fr h=>cases h;exact⟨_,_,rfl⟩
 | sl=>exact⟨_,_,rfl⟩
theorem iJ {w:World} {I:Nat->Prop} {x:TV} {u:Value} {S:Nat->Prop} (h:aq w I x u S) (hx:x.isSl=true):∃a n cap,u=.slice a n cap:=by
 cases x with
 | lit v =>
  have:=bq h
  subst this
  cases u<;>simp[TV.isSl,aF]at hx ⊢
 | sl o s xs=>obtain⟨a,cap,rfl⟩:=qX h;exact⟨_,_,_,rfl⟩
 | _=>simp[TV.isSl]at hx
theorem qO {v:Value} (h:scV v=true):v.oneCell'=true:=by cases v<;>first|rfl|simp[scV]at h
theorem gu {w:World} {I:Nat->Prop} {x:TV} {u:Value} {S:Nat->Prop} (h:aq w I x u S) (hx:x.isSc=true):x=.lit u/\scV u=true:=by
 cases x with
 | lit v =>
  have:=bq h
  subst this
  exact⟨rfl,hx⟩
 | _=>simp[TV.isSc]at hx
theorem Ff {w:World} {I:Nat->Prop} {x:TV} {u:Value} {S:Nat->Prop} (h:aq w I x u S):Rep w I x.lf u:=by
 cases x with
 | lit v=>have:=bq h;subst this;exact .lit _
 | _=>exact .hole _
theorem mm:∀l:List TV,nq l=l.map frz
 | []=>rfl
 | x::l=>by simp[nq,mm l]
theorem gM:∀l:List (List TV),sd l=l.map fun x=>x.map frz
 | []=>rfl
 | x::l=>by simp[sd,gM l,mm]
theorem Dz:∀l:List TV,lfL l=l.map TV.lf
 | []=>rfl
 | x::l=>by simp[lfL,Dz l]
theorem zU:∀l:List (List TV),qK l=l.map fun x=>x.map TV.lf
 | []=>rfl
 | x::l=>by simp[qK,zU l,Dz]
theorem Rep.frz {w:World} {I:Nat->Prop} {x:TV} {v:Value} (h:Rep w I x v):Rep w I (frz x) v:=by
 induction h with
 | lit v=>exact .lit v
 | hole v=>exact .hole v
 | buf e h=>exact .hole _
 | @sl size xs a cap cell hI hc hm hl hcell h1 _ ih =>
  simp only[Ab.frz,gM]
  have hlen:(xs.map fun x=>x.map Ab.frz).length=xs.length:=by simp
  have key:Rep w I (.sl false size (xs.map fun x=>x.map Ab.frz)) (.slice (some a) (xs.map fun x=>x.map Ab.frz).length cap):=by
   refine .sl cell (by rw[hlen];exact hI) (by rw[hlen];exact hc) hm (fun x hx=>?_) (by rw[hlen];exact hcell) (by rw[hlen];exact h1) (fun i y hy j c hj=>?_)
   ·obtain⟨y,hy,rfl⟩:=List.mem_map.1 hx
    simpa using hl y hy
   ·rw[FW]at hy
    cases hxi:xs[i]? with
    | none=>simp[hxi]at hy
    | some x =>
     simp only[hxi,F6,FR]at hy
     subst hy
     rw[FW]at hj
     cases hxj:x[j]? with
     | none=>simp[hxj]at hj
     | some c' =>
      simp only[hxj,F6,FR]at hj
      subst hj
      exact ih i x hxi j c' hxj
  rwa[hlen]at key
 | @agg cs vs hl h1 _ ih =>
  simp only[Ab.frz,mm]
  refine .agg (by simpa using hl) h1 (fun j c hj=>?_)
  rw[FW]at hj
  cases hxj:cs[j]? with
  | none=>simp[hxj]at hj
  | some c'=>simp only[hxj,F6,FR]at hj;subst hj;exact ih j c' hxj
 | @tup cs vs hl _ ih =>
  simp only[Ab.frz,mm]
  refine .tup (by simpa using hl) (fun j c hj=>?_)
  rw[FW]at hj
  cases hxj:cs[j]? with
  | none=>simp[hxj]at hj
  | some c'=>simp only[hxj,F6,FR]at hj;subst hj;exact ih j c' hxj
theorem aq.frz {w:World} {I I':Nat->Prop} (hI:∀b,I b->I' b) {x:TV} {v:Value} {S:Nat->Prop} (h:aq w I x v S):(∀b,S b->I' b)->Rep w I' (frz x) v:=by
 induction h with
 | fr h=>intro _;exact(h.mv (fun _ _=>rfl) hI).frz
 | buf _ _=>intro _;exact .hole _
 | @sl size xs a cap S us vs ty F hS row hl hr hF hd ih =>
  intro hSI
  simp only[Ab.frz,gM]
  have hlen:(xs.map fun x=>x.map Ab.frz).length=xs.length:=by simp
  have key:Rep w I' (.sl false size (xs.map fun x=>x.map Ab.frz)) (.slice (some a) (xs.map fun x=>x.map Ab.frz).length cap):=by
   refine .sl (fun k=>us.getD k undef) (fun _=>hSI _ hS) (by rw[hlen];exact row.le) row.max (fun x hx=>?_) (fun k hk=>?_) (fun k hk=>?_) (fun i y hy j c hj=>?_)
   ·obtain⟨y,hy,rfl⟩:=List.mem_map.1 hx
    simpa using hl y hy
   ·rw[hlen]at hk
    have:k<us.length:=by rw[row.len];exact hk
    exact row.cell (by simp[FQ this])
   ·rw[hlen]at hk
    have:k<us.length:=by rw[row.len];exact hk
    simp only[F7,FQ this,Option.getD_some]
    exact row.one _ (List.getElem_mem this)
   ·rw[FW]at hy
    cases hxi:xs[i]? with
    | none=>simp[hxi]at hy
    | some x =>
     simp only[hxi,F6,FR]at hy
     subst hy
     rw[FW]at hj
     cases hxj:x[j]? with
     | none=>simp[hxj]at hj
     | some c' =>
      simp only[hxj,F6,FR]at hj
      subst hj
      exact ih _ c' (fZ hl hxi hxj) (fun b hb=>hSI b (hF _ b hb).1)
  rwa[hlen]at key
 | @agg cs vs S F hl h1 hr hF hd ih =>
  intro hSI
  simp only[Ab.frz,mm]
  refine .agg (by simpa using hl) h1 (fun j c hj=>?_)
  rw[FW]at hj
  cases hxj:cs[j]? with
  | none=>simp[hxj]at hj
  | some c'=>simp only[hxj,F6,FR]at hj;subst hj;exact ih j c' hxj (fun b hb=>hSI b (hF j b hb))
 | @tup cs vs S F hl hr hF hd ih =>
  intro hSI
  simp only[Ab.frz,mm]
  refine .tup (by simpa using hl) (fun j c hj=>?_)
  rw[FW]at hj
  cases hxj:cs[j]? with
  | none=>simp[hxj]at hj
  | some c'=>simp only[hxj,F6,FR]at hj;subst hj;exact ih j c' hxj (fun b hb=>hSI b (hF j b hb))
theorem gm:∀{l:List TV},bE l=true->∀x∈l,isOwn x=true
 | [],_,x,hx=>by simp at hx
 | y::l,h,x,hx=>by
  simp only[bE,FS]at h
  rcases List.mem_cons.1 hx with rfl|hx
  ·exact h.1
  ·exact gm h.2 x hx
theorem qD:∀{l:List (List TV)},mc l=true->∀x∈l,bE x=true
 | [],_,x,hx=>by simp at hx
 | y::l,h,x,hx=>by
  simp only[mc,FS]at h
  rcases List.mem_cons.1 hx with rfl|hx
  ·exact h.1
  ·exact qD h.2 x hx
theorem Rep.own {w:World} {I I':Nat->Prop} {x:TV} {v:Value} (h:Rep w I x v):isOwn x=true->Rep w I' x v:=by
 induction h with
 | lit v=>intro _;exact .lit v
 | hole v=>intro _;exact .hole v
 | buf e h=>intro _;exact .buf e h
 | sl=>intro h;simp[isOwn]at h
 | @agg cs vs hl h1 _ ih=>intro h;simp only[isOwn]at h;exact .agg hl h1 (fun j c hj=>ih j c hj (gm h c (FZ hj)))
 | @tup cs vs hl _ ih=>intro h;simp only[isOwn]at h;exact .tup hl (fun j c hj=>ih j c hj (gm h c (FZ hj)))
theorem aq.own {w:World} {I I':Nat->Prop} {x:TV} {v:Value} {S:Nat->Prop} (h:aq w I x v S):isOwn x=true->aq w I' x v S:=by
 induction h with
 | fr h=>intro ho;exact .fr (h.own ho)
 | buf h hS=>intro _;exact .buf h hS
 | @sl size xs a cap S us vs ty F hS row hl hr hF hd ih =>
  intro ho
  simp only[isOwn,Bool.true_and]at ho
  refine .sl us vs ty F hS row hl (fun k c hk=>ih k c hk ?_) hF hd
  obtain⟨x,hx,hc⟩:=List.mem_flatten.1 (FZ hk)
  exact gm (qD ho x hx) c hc
 | @agg cs vs S F hl h1 hr hF hd ih=>intro ho;simp only[isOwn]at ho;exact .agg F hl h1 (fun j c hj=>ih j c hj (gm ho c (FZ hj))) hF hd
 | @tup cs vs S F hl hr hF hd ih=>intro ho;simp only[isOwn]at ho;exact .tup F hl (fun j c hj=>ih j c hj (gm ho c (FZ hj))) hF hd
end Go.Ab
end
section
namespace Go.Ab
open Go.RowKit
def TV.nd (x:TV):Option (Nat × Nat):=match x with | .sl _ s xs=>some (s,xs.length)|_=>none
def Node (w:World):Way->TV->Value->Value->Option (Nat × Nat)->Prop
 | [],x,u,v,nd=>v=u/\nd=x.nd
 | (k,j)::p,x,u,v,nd=>∃o s xs a n cap e y u',x=.sl o s xs/\u=.slice (some a) n cap/\xs[k]? = some e/\e[j]? = some y/\w.cell? (a.add (k*s+j))=some u'/\Node w p y u' v nd
section
variable {w w':World} {I I':Nat->Prop} {x y:TV} {u v:Value} {S:Nat->Prop}
theorem getD_some {l:List Value} {k:Nat} {u:Value} (h:l[k]? = some u):l.getD k undef=u:=by simp[h]
theorem aq.child {o:Bool} {s:Nat} {xs:List (List TV)} (h:aq w I (.sl o s xs) u S) {k j:Nat} {e:List TV} {y:TV} (hk:xs[k]? = some e) (hj:e[j]? = some y) :
  ∃a cap u' S',u=.slice (some a) xs.length cap/\w.cell? (a.add (k*s+j))=some u'/\u'.oneCell'=true/\aq w I y u' S'/\(∀b,S' b->S b)/\(S a.block\/I a.block)/\e.length=s:=by
 have hlt:k<xs.length:=(FP.1 hk).1
 cases h with
 | fr h =>
  cases h with
  | @sl _ _ a cap cell hI hc hm hl hcell h1 hr =>
   have hel:=hl e (FZ hk)
   have hf:k*s+j<xs.length*s:=by
    have hj':=(FP.1 hj).1
    have:=Nat.mul_le_mul_right s (Nat.succ_le_of_lt hlt)
    rw[Nat.succ_mul]at this
    omega
   exact⟨a,cap,_,fun _=>False,rfl,hcell _ hf,h1 _ hf,.fr (hr k e hk j y hj),fun _ h=>h.elim,.inr (hI (by omega)),hel⟩
 | @sl _ _ a cap S us vs ty F hS row hl hr hF hd =>
  have hel:=hl e (FZ hk)
  have hfg:=fZ hl hk hj
  have hlt2:k*s+j<us.length:=by
   rw[row.len,<-cz hl]
   exact(FP.1 hfg).1
  have hu:=FQ hlt2
  refine⟨a,cap,us[k*s+j],F (k*s+j),rfl,row.cell hu,row.one _ (List.getElem_mem hlt2),?_,fun b hb=>(hF _ b hb).1,.inl hS,hel⟩
  have:=hr _ _ hfg
  rwa[getD_some hu]at this
theorem Node.mv:∀{p:Way} {x:TV} {u v:Value} {nd:Option (Nat × Nat)} {S:Nat->Prop},aq w I x u S->(∀b,I b->w'.heap[b]? = w.heap[b]?)->(∀b,S b->w'.heap[b]? = w.heap[b]?)->Node w p x u v nd->Node w' p x u v nd
 | [],x,u,v,nd,S,_,_,_,h=>h
 | (k,j)::p,x,u,v,nd,S,hr,hI,hS,⟨o,s,xs,a,n,cap,e,y,u',hx,hu,he,hy,hc,h⟩=>by
  subst hx
  obtain⟨a',cap',u2,S',h1,h2,h3,h4,h5,h6,h7⟩:=hr.child he hy
  rw[hu]at h1
  cases h1
  rw[hc]at h2
  cases h2
  refine⟨o,s,xs,a,_,_,e,y,u',rfl,hu,he,hy,?_,Node.mv h4 hI (fun b hb=>hS b (h5 b hb)) h⟩
  rw[<-hc]
  refine World.cell?_of_block ?_
  rw[fG]
  rcases h6 with h6|h6
  ·exact hS _ h6
  ·exact hI _ h6
theorem aq.get:∀{p:Way} {x y:TV} {u:Value} {S:Nat->Prop},aq w I x u S->a8 p x=some y->∃v S',Node w p x u v y.nd/\aq w I y v S'/\(∀b,S' b->S b)/\(p≠[]->v.oneCell'=true)
 | [],x,y,u,S,hr,h=>by
  simp only[a8,FR]at h
  subst h
  exact⟨u,S,⟨rfl,rfl⟩,hr,fun _ h=>h,fun h=>absurd rfl h⟩
 | (k, j) :: p, x, y, u, S, hr, h => by
  cases x with
  | sl o s xs =>
   simp only[a8]at h
   cases he:xs[k]? with
   | none=>simp[he]at h
   | some e =>
    simp only[he]at h
    cases hz:e[j]? with
    | none=>simp[hz]at h
    | some z =>
     simp only[hz]at h
     obtain⟨a,cap,u',S1,h1,h2,h3,h4,h5,h6,h7⟩:=hr.child he hz
     obtain⟨v,S2,n1,n2,n3,n4⟩:=aq.get h4 h
     refine⟨v,S2,⟨o,s,xs,a,_,cap,e,z,u',rfl,h1,he,hz,h2,n1⟩,n2,fun b hb=>h5 b (n3 b hb),fun _=>?_⟩
     cases p with
     | nil=>rw[n1.1];exact h3
     | cons=>exact n4 (by simp)
  | _=>simp[a8]at h
theorem Node.unique:∀{p:Way} {x:TV} {u v v':Value} {nd nd':Option (Nat × Nat)},Node w p x u v nd->Node w p x u v' nd'->v=v'/\nd=nd'
 | [],x,u,v,v',nd,nd',h,h'=>⟨h.1.trans h'.1.symm,h.2.trans h'.2.symm⟩
 | (k,j)::p,x,u,v,v',nd,nd',⟨o,s,xs,a,n,cap,e,y,u',hx,hu,he,hy,hc,h⟩,⟨o2,s2,xs2,a2,n2,cap2,e2,y2,u2,hx2,hu2,he2,hy2,hc2,h2⟩=>by
  subst hx
  cases hx2
  subst hu
  cases hu2
  rw[he]at he2
  cases he2
  rw[hy]at hy2
  cases hy2
  rw[hc]at hc2
  cases hc2
  exact Node.unique h h2
theorem aq.sub : ∀ {p : Way} {x y : TV} {u : Value} {S : Nat → Prop}, aq w I x u S → a8 p x = some y →
  ∃ v Sy, aq w I y v Sy ∧ (∀ b, Sy b → S b) ∧ Node w p x u v y.nd ∧ (p ≠ [] → v.oneCell' = true) ∧
   ∀(w':World) (I':Nat->Prop) (y' x':TV) (S':Nat->Prop),iA p x y'=some x'->(∀b,I b->w'.heap[b]? = w.heap[b]?)->(∀b,I b->I' b)->(∀b,S b->¬Sy b->w'.heap[b]? = w.heap[b]?) ->
    aq w' I' y' v S'->(∀b,S' b->S b->Sy b)->aq w' I' x' u (fun b=>(S b/\¬Sy b)\/S' b) /\
    ∀(q:Way) (v':Value) (nd:Option (Nat × Nat)),(∀q',q=p++q'->Node w q' y v v' nd->Node w' q' y' v v' nd)->Node w q x u v' nd->Node w' q x' u v' nd
 | [],x,y,u,S,hr,h=>by
  simp only[Ab.a8,FR]at h
  subst h
  refine⟨u,S,hr,fun _ h=>h,⟨rfl,rfl⟩,fun h=>absurd rfl h,?_⟩
  intro w' I' y' x' S' hs hI hII hh hr' hd
  simp only[iA,FR]at hs
  subst hs
  exact⟨hr'.mono (fun b hb=>.inr hb),fun q v' nd hq hn=>hq q rfl hn⟩
 | (k, j) :: p, x, y, u, S, hr, h => by
  cases x with
  | sl o s xs =>
   simp only[Ab.a8]at h
   cases he:xs[k]? with
   | none=>simp[he]at h
   | some e =>
    simp only[he]at h
    cases hz:e[j]? with
    | none=>simp[hz]at h
    | some z =>
     simp only[hz]at h
     cases o with
     | false =>
      obtain⟨v,S',n1,n2,n3,n4⟩:=aq.get (p:=(k,j)::p) (y:=y) hr (by simp only[Ab.a8,he,hz,h])
      refine⟨v,S',n2,n3,n1,n4,?_⟩
      intro w' I' y' x' S2 hs
      simp[iA]at hs
     | true =>
      cases hr with
      | fr h=>cases h
      | @sl _ _ a cap S us vs ty F hS row hl hr hF hd =>
       have hel:=hl e (FZ he)
       have hjl:j<e.length:=(FP.1 hz).1
       have hfg:=fZ hl he hz
       have hlt2:k*s+j<us.length:=by
        rw[row.len,<-cz hl]
        exact(FP.1 hfg).1
       have hu:=FQ hlt2
       have hrz:=hr _ _ hfg
       rw[getD_some hu]at hrz
       obtain⟨v,Sy,m1,m2,m3,m4,m5⟩:=aq.sub hrz h
       have hSyF:∀b,Sy b->F (k*s+j) b:=m2
       refine⟨v,Sy,m1,fun b hb=>(hF _ b (m2 b hb)).1,⟨true,s,xs,a,_,cap,e,z,us[k*s+j],rfl,rfl,he,hz,row.cell hu,m3⟩,fun _=>?_,?_⟩
       ·cases p with
        | nil=>rw[m3.1];exact row.one _ (List.getElem_mem hlt2)
        | cons=>exact m4 (by simp)
       intro w' I' y' x' S' hs hI hII hh hr' hdis
       simp only[iA,he,hz]at hs
       cases hz':iA p z y' with
       | none=>simp[hz']at hs
       | some z' =>
        simp only[hz',FR,ah]at hs
        subst hs
        have hablk:¬Sy a.block:=fun hb=>(hF _ _ (m2 _ hb)).2 rfl
        obtain⟨r1,r2⟩:=m5 w' I' y' z' S' hz' hI hII (fun b hb hn=>hh b (hF _ b hb).1 hn) hr' (fun b hb hb2=>hdis b hb (hF _ b hb2).1)
        have hset:e.set j z'=spl e j [z']:=by
         apply List.ext_getElem?
         intro m
         rw[cW (by simp;omega),List.getElem?_set]
         by_cases hjm:j=m
         ·subst hjm;simp[hjl]
         ·rw[if_neg hjm,if_neg (by simp;omega)]
        obtain⟨f1,f2⟩:=wX (ys:=[z']) hl he (by simp;omega:j + [z'].length<=e.length)
        have hlen:(xs.set k (e.set j z')).length=xs.length:=by simp
        have hrow:Row w' a (xs.set k (e.set j z')).length cap s us vs ty:=by
         rw[hlen]
         exact⟨by rw[hh _ hS hablk];exact row.heap,row.spot,row.le,row.max,row.fit,row.len,row.cells,row.one⟩
        have hother:∀m c,m≠k*s+j->xs.flatten[m]? = some c->aq w' I' c (us.getD m undef) (F m):=fun m c hm hc =>
         (hr m c hc).mv hI hII (fun b hb=>hh b (hF m b hb).1 (fun hs=>hm (hd m _ b hb (m2 b hs)))) (fun _ h=>h)
        constructor
        ·have key:aq w' I' (.sl true s (xs.set k (e.set j z'))) (.slice (some a) (xs.set k (e.set j z')).length cap) (fun b=>(S b/\¬Sy b)\/S' b):=by
          refine .sl us vs ty (fun m b=>if m=k*s+j then(F (k*s+j) b/\¬Sy b)\/S' b else F m b) (.inl ⟨hS,hablk⟩) hrow (AD hl (by simp[hel])) (fun m c hc=>?_) (fun m b hb=>?_) (fun m m' b hb hb'=>?_)
          ·rw[hset,f1,cW f2]at hc
           by_cases hm:m=k*s+j
           ·subst hm
            simp only[List.length_singleton,Nat.sub_self]at hc
            rw[if_pos (by omega)]at hc
            simp only[List.getElem?_cons_zero,FR]at hc
            subst hc
            simp only[if_true]
            rw[getD_some hu]
            exact r1
           ·rw[if_neg (by simp only[List.length_singleton];omega)]at hc
            simp only[hm,if_false]
            exact hother m c hm hc
          ·by_cases hm:m=k*s+j
           ·subst hm
            simp only[if_true]at hb
            rcases hb with⟨h1,h2⟩|h1
            ·exact⟨.inl ⟨(hF _ b h1).1,h2⟩,(hF _ b h1).2⟩
            ·exact⟨.inr h1,fun e=>by subst e;exact hablk (hdis _ h1 hS)⟩
           ·simp only[hm,if_false]at hb
            exact⟨.inl ⟨(hF _ b hb).1,fun hs=>hm (hd _ _ b hb (m2 b hs))⟩,(hF _ b hb).2⟩
          ·by_cases hm:m=k*s+j<;>by_cases hm':m'=k*s+j
           ·rw[hm,hm']
           ·simp only[hm,hm',if_true,if_false]at hb hb'
            rcases hb with⟨h1,h2⟩|h1
            ·exact hm▸hd _ _ b h1 hb'
            ·exact hm▸hd _ _ b (m2 b (hdis b h1 (hF _ b hb').1)) hb'
           ·simp only[hm,hm',if_true,if_false]at hb hb'
            rcases hb' with⟨h1,h2⟩|h1
            ·exact hm'▸hd _ _ b hb h1
            ·exact hm'▸hd _ _ b hb (m2 b (hdis b h1 (hF _ b hb).1))
           ·simp only[hm,hm',if_false]at hb hb'
            exact hd _ _ b hb hb'
         rwa[hlen]at key
        ·intro q v' nd hq hn
         cases q with
         | nil =>
          obtain⟨e1,e2⟩:=hn
          exact⟨e1,by rw[e2];simp[TV.nd]⟩
         | cons kj q =>
          obtain⟨k1,j1⟩:=kj
          obtain⟨o2,s2,xs2,a2,n2,cap2,e2,y2,u2,hx2,hu2,he2,hy2,hc2,hn2⟩:=hn
          cases hx2
          cases hu2
          have hblk:∀m,w'.cell? (a.add m)=w.cell? (a.add m):=fun m=>World.cell?_of_block (by rw[fG];exact hh _ hS hablk)
          by_cases hk1:k1=k
          ·subst hk1
           rw[he]at he2
           cases he2
           have hk2:k1<xs.length:=(FP.1 he).1
           by_cases hj1:j1=j
           ·subst hj1
            rw[hz]at hy2
            cases hy2
            have:u2=us[k1*s+j1]:=by rw[row.cell hu]at hc2;exact(Option.some.inj hc2).symm
            subst this
            refine⟨true,s,_,a,_,cap,e.set j1 z',z',us[k1*s+j1],rfl,rfl,by rw[List.getElem?_set_self hk2],by rw[List.getElem?_set_self hjl],by rw[hblk];exact hc2,?_⟩
            exact r2 q v' nd (fun q' hq'=>hq q' (by rw[hq'];rfl)) hn2
           ·refine⟨true,s,_,a,_,cap,e.set j z',y2,u2,rfl,rfl,by rw[List.getElem?_set_self hk2],by rw[List.getElem?_set_ne (fun h=>hj1 h.symm)];exact hy2,by rw[hblk];exact hc2,?_⟩
            have hfg2:=fZ hl he hy2
            have hm:k1*s+j1≠k1*s+j:=by omega
            have hr2:=hr _ _ hfg2
            have hlt3:k1*s+j1<us.length:=by rw[row.len,<-cz hl];exact(FP.1 hfg2).1
            rw[getD_some (FQ hlt3)]at hr2
            have:u2=us[k1*s+j1]:=by rw[row.cell (FQ hlt3)]at hc2;exact(Option.some.inj hc2).symm
            subst this
            exact Node.mv hr2 hI (fun b hb=>hh b (hF _ b hb).1 (fun hs=>hm (hd _ _ b hb (m2 b hs)))) hn2
          ·refine⟨true,s,_,a,_,cap,e2,y2,u2,rfl,rfl,by rw[List.getElem?_set_ne (fun h=>hk1 h.symm)];exact he2,hy2,by rw[hblk];exact hc2,?_⟩
           have hfg2:=fZ hl he2 hy2
           have hel2:=hl e2 (FZ he2)
           have hj2:j1<e2.length:=(FP.1 hy2).1
           have hm:k1*s+j1≠k*s+j:=by
            intro heq
            rcases Nat.lt_or_gt_of_ne hk1 with h'|h'
            ·have:=Nat.mul_le_mul_right s (Nat.succ_le_of_lt h')
             rw[Nat.succ_mul]at this
             omega
            ·have:=Nat.mul_le_mul_right s (Nat.succ_le_of_lt h')
             rw[Nat.succ_mul]at this
             omega
           have hr2:=hr _ _ hfg2
           have hlt3:k1*s+j1<us.length:=by rw[row.len,<-cz hl];exact(FP.1 hfg2).1
           rw[getD_some (FQ hlt3)]at hr2
           have:u2=us[k1*s+j1]:=by rw[row.cell (FQ hlt3)]at hc2;exact(Option.some.inj hc2).symm
           subst this
           exact Node.mv hr2 hI (fun b hb=>hh b (hF _ b hb).1 (fun hs=>hm (hd _ _ b hb (m2 b hs)))) hn2
  | _=>simp[Ab.a8]at h
end
end Go.Ab
end

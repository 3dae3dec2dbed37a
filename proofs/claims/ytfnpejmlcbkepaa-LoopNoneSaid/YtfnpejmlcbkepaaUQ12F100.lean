import Derived.Test.YtfnpejmlcbkepaaUQ12F123
set_option linter.all false
section
set_option maxRecDepth 10000
namespace Go.Ab
theorem RL.appR {α:Type} {s:Nat} {R:List TV->α->Prop} {y:TV} {l m:List α} {rows:List (List TV)} (hy:RL (some true) s R y l) (hr:F2 R rows m) (hl:l.length + m.length<=4294967296):∃ y',papp s y rows=some y'/\RL (some true) s R y' (l ++ m):=by
 have hlen:=hr.length
 rcases hy with ⟨rfl,rfl⟩ | ⟨o,xs,rfl,hq,h,hb⟩
 ·simp only [List.length_nil,Nat.zero_add] at hl
  have hp:papp s (.lit aD) rows=some (B7 s rows):=by
   simp only [papp,aD]
   rw [if_pos (show rows.length<=room by simp only [room]; omega)]
  refine ⟨_,hp,?_⟩
  cases hr with
  | nil=>exact .nil
  | cons h1 h2=>exact .sl (by simp) (.cons h1 h2) (by simp only [List.length_cons] at hlen ⊢; simp only [List.length_cons] at hl; omega)
 ·have hlen2:=h.length
  rw [hq true rfl]
  refine ⟨.sl true s (xs ++ rows),?_,.sl (by simp) (h.append hr) (by simp; omega)⟩
  simp [papp,room]; omega
theorem Dr {y:TV} {l:List Int} {q:Option Bool} (h:RInts q y l):∃ xs,pelems 1 y=some xs/\mo xs=xs/\F2 RI1 xs l:=by
 rcases h with ⟨rfl,rfl⟩ | ⟨o,xs,rfl,hq,hf,hb⟩
 ·exact ⟨[],rfl,rfl,.nil⟩
 ·refine ⟨xs,by simp [pelems],?_,hf⟩
  clear hb hq
  induction hf with
  | nil=>rfl
  | cons hr _ ih =>
   obtain ⟨rfl,_⟩:=hr
   simp only [mo,ih]
   rfl
theorem cS (l:List Nat):(bi l).length=l.length:=by simp [bi]
theorem xp {l:List Nat} {n a:Nat} (h:l[n]? = some a):(bi l)[n]? = some ((a:Nat):Int):=by simp [bi,h]
def BfI (bs:List DBlock) (o:List Int) (k j:Nat) (R:Nat->List Nat):Prop :=
 ∀ b,(∀ p,p ∈ R b ↔ (∃ i,i < k/\p=blk o i/\(b:Int) ∈ am bs p)\/(p=blk o k/\(b:Int) ∈ (am bs p).take j))/\(R b).length<=3 * k + j
theorem BfI.start (bs:List DBlock) (o:List Int):BfI bs o 0 0 fun _=>[]:=fun b=>⟨fun p=>by simp,by simp⟩
theorem BfI.next {bs:List DBlock} {o:List Int} {k j c:Nat} {R:Nat->List Nat} (h:BfI bs o k j R) (hg:(am bs (blk o k))[j]? = some ((c:Nat):Int)):BfI bs o k (j + 1) (gh R c (R c ++ [blk o k])):=by
 intro b
 obtain ⟨h1,h2⟩:=h b
 by_cases e:b=c
 ·subst e
  rw [aN]
  refine ⟨fun p=>?_,by simp; omega⟩
  rw [List.mem_append,List.mem_singleton,h1 p]
  constructor
  ·rintro ((h3 | ⟨h3,h4⟩) | rfl)
   ·exact .inl h3
   ·subst h3
    exact .inr ⟨rfl,by rw [ir hg]; exact List.mem_append_left _ h4⟩
   ·exact .inr ⟨rfl,by rw [ir hg]; simp⟩
  ·rintro (h3 | ⟨rfl,h4⟩)
   ·exact .inl (.inl h3)
   ·exact .inr rfl
 ·rw [aH e]
  refine ⟨fun p=>?_,by omega⟩
  rw [h1 p]
  refine or_congr_right (and_congr_right fun h3=>?_)
  subst h3
  rw [ir hg,List.mem_append,List.mem_singleton]
  have:¬ (b:Int)=(c:Int):=by omega
  simp [this]
theorem BfI.over {bs:List DBlock} {o:List Int} {k:Nat} {R:Nat->List Nat} (h:BfI bs o k (am bs (blk o k)).length R):BfI bs o (k + 1) 0 R:=by
 intro b
 obtain ⟨h1,h2⟩:=h b
 have h3:=fL bs (blk o k)
 refine ⟨fun p=>?_,by omega⟩
 rw [h1 p]
 simp only [List.take_zero,List.not_mem_nil,and_false,or_false]
 constructor
 ·rintro (⟨i,h4,h5,h6⟩ | ⟨rfl,h6⟩)
  ·exact ⟨i,by omega,h5,h6⟩
  ·exact ⟨k,by omega,rfl,by rw [List.take_length] at h6; exact h6⟩
 ·rintro ⟨i,h4,rfl,h6⟩
  by_cases e:i=k
  ·subst e; exact .inr ⟨rfl,by rw [List.take_length]; exact h6⟩
  ·exact .inl ⟨i,by omega,rfl,h6⟩
def BfR (bs:List DBlock) (R:Nat->List Nat):Prop:=∀ b,(∀ p,p ∈ R b ↔ Rc bs (-1) p/\(b:Int) ∈ am bs p)/\(R b).length<=3 * bs.length
theorem BfI.done {bs:List DBlock} {o:List Int} (hI:OI bs o) {R:Nat->List Nat} (h:BfI bs o o.length 0 R):BfR bs R:=by
 intro b
 obtain ⟨h1,h2⟩:=h b
 have:=hI.len
 refine ⟨fun p=>?_,by omega⟩
 rw [h1 p]
 simp only [List.take_zero,List.not_mem_nil,and_false,or_false]
 constructor
 ·rintro ⟨i,h3,rfl,h4⟩; exact ⟨hI.rc h3,h4⟩
 ·rintro ⟨h3,h4⟩
  obtain ⟨i,hi,rfl⟩:=hI.rank h3
  exact ⟨i,hi,rfl,h4⟩
noncomputable def bkL (bs:List DBlock) (R:Nat->List Nat) (h:Nat):List Nat:=(R h).filter fun x=>tt (Dm bs h x)
theorem nD {p:Prop}:tt p=true ↔ p:=⟨fun h=>Classical.byContradiction fun hp=>(by rw [ft hp] at h; cases h),fun h=>gX h⟩
theorem qy {bs:List DBlock} {R:Nat->List Nat} (hR:BfR bs R) {h x:Nat}:x ∈ bkL bs R h ↔ Bk bs h x:=by
 unfold bkL Bk
 rw [List.mem_filter,(hR h).1,nD]
 constructor
 ·rintro ⟨⟨_,h2⟩,h3⟩; exact ⟨h3,h2⟩
 ·rintro ⟨h1,h2⟩; exact ⟨⟨h1.1,h2⟩,h1⟩
abbrev RRows (q:Option Bool) (w:TV) (n:Nat) (R:Nat->List Nat):Prop:=RL q 1 (RIL q) w (dj n R)
theorem RRows.frz {q:Option Bool} {w:TV} {n:Nat} {R:Nat->List Nat} (h:RRows q w n R):RRows (some false) (Ab.frz w) n R:=RL.frz h fun _ _ h=>h.frz
structure Cg (bs:List DBlock) (w1 w2 w3 w4 w5 w6:TV) (R:Nat->List Nat) (H:Nat->Bool) (A:Nat->Int) (O:Nat->Nat):Prop where
 r1:RRows (some true) w1 bs.length R
 r2:iv (some true) bs w2 w3
 r4:RBArr w4 bs.length H
 r5:RArr w5 bs.length A
 r6:RArr w6 bs.length fun k=>((O k:Nat):Int)
 bf:BfR bs R
theorem uT {O:Nat->Nat} {k v:Nat}:gh (fun i=>((O i:Nat):Int)) k ((v:Nat):Int)=fun i=>((gh O k v i:Nat):Int):=by
 funext i
 by_cases e:i=k
 ·subst e; rw [aN,aN]
 ·rw [aH e,aH e]
end Go.Ab
namespace Go.Ab.Q12
open Go Go.Ab Go.Proofs
theorem Dx {q qs:Option Bool} {bs:List DBlock} {w1 w2 w3 w4 w5 w6:TV} {R:Nat->List Nat} (h1:RRows q w1 bs.length R) (h2:iv qs bs w2 w3) (hR:BfR bs R) (hb:bs.length<=1000) {h:Nat} (hr:Rc bs (-1) h) :
  ∃ y,bQ prog 93 [.agg [w1,w2,w3,w4,w5,w6],I (h:Nat)] y/\RInts (some true) y (bi (bkL bs R h)):=by
 obtain ⟨e,he,v,rfl,hv⟩:=h1.yN (k:=.i64) (n:=(h:Int)) (by omega) (by simpa using bI hr.lt)
 have hlen:=(hR h).2
 have loop:∀ (d j:Nat) (w:TV),j + d=(R h).length->RInts (some true) w (bi (((R h).take j).filter fun x=>tt (Dm bs h x))) ->
   ∃ y,aa prog 93 (f93_0 (I (h:Nat)) v (I ((R h).length:Nat)) (I j) w1 w2 w3 w4 w5 w6 w) y/\RInts (some true) y (bi (bkL bs R h)):=by
  intro d
  induction d with
  | zero =>
   intro j w hj hw
   have hj:j=(R h).length:=by omega
   subst hj
   rw [List.take_length] at hw
   refine ⟨w,?_,hw⟩
   unfold f93_0
   exact aa.tv rfl (aa.ite cM nofun fun _=>aa.chk (hw.own fun _ _ h=>h.own) aa.ret)
  | succ d ih =>
   intro j w hj hw
   have hjl:j < (R h).length:=by omega
   obtain ⟨p,hp⟩:∃ p,(R h)[j]? = some p:=⟨_,El hjl⟩
   obtain ⟨e1,he1,rfl,hei⟩:=hv.yN (k:=.i64) (n:=(j:Int)) (by omega) (by simpa using xp hp)
   have hpr:=((hR h).1 p).1 (Eu hp)
   have hcall:=DC h2 hr hpr.1
   by_cases hd:Dm bs h p
   ·rw [gX hd] at hcall
    have hfl:(((R h).take j).filter fun x=>tt (Dm bs h x)).length<=j:=Nat.le_trans (List.length_filter_le _ _) (by simp; omega)
    obtain ⟨w',a1,a2⟩:=RL.app hw (e:=[I (p:Nat)]) (a:=((p:Nat):Int)) ⟨rfl,hei⟩ (by rw [cS]; omega)
    obtain ⟨y,hy,hr⟩:=ih (j + 1) w' (by omega) (by
     rw [ir hp,List.filter_append,jp]
     simp only [List.filter_cons,gX hd,if_true,List.filter_nil]
     exact a2)
    refine ⟨y,?_,hr⟩
    unfold f93_0
    exact aa.tv rfl (aa.ite (cO hjl) (fun _=>aa.tvs he1 (aa.chk rfl (aa.call hcall (aa.chk rfl (aa.ite (v:=true) rfl (fun _=>aa.rws rfl (aa.tv a1 (aa.tv (inc hjl (by omega)) (f93_0_J hy)))) nofun))))) nofun)
   ·rw [ft hd] at hcall
    obtain ⟨y,hy,hr⟩:=ih (j + 1) w (by omega) (by
     rw [ir hp,List.filter_append]
     simp only [List.filter_cons,ft hd,List.filter_nil]
     simpa using hw)
    refine ⟨y,?_,hr⟩
    unfold f93_0
    exact aa.tv rfl (aa.ite (cO hjl) (fun _=>aa.tvs he1 (aa.chk rfl (aa.call hcall (aa.chk rfl (aa.ite (v:=false) rfl nofun fun _=>aa.tv (inc hjl (by omega)) (f93_0_J hy)))))) nofun)
 obtain ⟨y,hy,hr⟩:=loop (R h).length 0 _ (by omega) (by simpa [bi] using RL.nil)
 refine ⟨y,?_,hr⟩
 refine bQ.of (f93_MR _ _) ?_
 unfold f93_M
 refine aa.chk rfl (aa.tvs he (aa.chk rfl (aa.tv (v:=I ((R h).length:Nat)) ?_ (aa.chk rfl (f93_0_J hy)))))
 rw [<- cS (R h)]
 exact hv.len
def nV (bs:List DBlock) (y:TV):Prop:=∃ w1 w2 w3 w4 w5 w6 R H A O,y=.agg [w1,w2,w3,w4,w5,w6]/\Cg bs w1 w2 w3 w4 w5 w6 R H A O/\zI bs H A
section
variable {bs:List DBlock} {o:List Int} (hI:OI bs o) (hb:bs.length<=30) {P D:Nat->Prop} {hd:Nat} (hP:∀ h,P h->¬ Dm bs h hd) (hr:Rc bs (-1) hd)
include hI hb hP hr
theorem nsOut {x:Nat} (hx:Rc bs (-1) x) {w1 w2 w3 w4 w5 w6 w8 x9 x10 x11:TV}
  (hrest:∀ (r:Nat) (O:Nat->Nat) (w7:TV),ju bs P hd D O->(RArr w7 bs.length fun i=>((O i:Nat):Int))->OnW bs P D hd x r->O r=r->Rc bs (-1) r->∃ y,aa prog 59 (f59_7 (I (r:Nat)) w1 w2 w3 w4 w5 w6 w7 w8 x9 x10 x11) y/\nV bs y) :
  ∀ (i k:Nat) (O:Nat->Nat) (w7:TV),i < o.length->blk o i=k->ju bs P hd D O->(RArr w7 bs.length fun i=>((O i:Nat):Int))->OnW bs P D hd x k ->
  ∃ y,aa prog 59 (f59_7 (I (k:Nat)) w1 w2 w3 w4 w5 w6 w7 w8 x9 x10 x11) y/\nV bs y:=by
 intro i
 induction i using Nat.strongRecOn with
 | _ i ih =>
  intro k O w7 hi hk g h7 hw
  by_cases e:O k=k
  ·exact hrest k O w7 g h7 hw e (by rw [<- hk]; exact hI.rc hi)
  ·have hkr:Rc bs (-1) k:=by rw [<- hk]; exact hI.rc hi
   obtain ⟨c1,c2,_⟩:=g.cut hP hr hkr e
   have hw':=(g.onw hP hr hx hw e).2
   have ho:=g.over hP hkr e
   have ho2:=c1.over hP hkr (by rw [aN]; exact c2)
   rw [aN] at ho2
   obtain ⟨j,hj,hjb⟩:=hI.rank ho2.up
   have hji:j < i:=by
    have h1:=hI.xL hj i hi (by rw [hjb,hk]; exact ho2)
    have h2:j≠i:=fun e2=>c2 (by rw [<- hjb,e2,hk])
    omega
   have hkl:=hkr.lt
   have hol:=ho.up.lt
   have hool:=ho2.up.lt
   obtain ⟨g1,_⟩:=h7.get hkl
   obtain ⟨g2,_⟩:=h7.get hol
   obtain ⟨w7',s1,s2⟩:=h7.set hkl (v:=((O (O k):Nat):Int)) ⟨by omega,by omega⟩
   rw [uT] at s2
   obtain ⟨g3,_⟩:=s2.get hkl
   rw [aN] at g3
   obtain ⟨y,hy,hr⟩:=ih j hji (O (O k)) _ w7' hj hjb c1 s2 hw'
   refine ⟨y,?_,hr⟩
   have ank:af (I (k:Nat))=some k:=ak (by omega)
   have ano:af (I (O k:Nat))=some (O k):=ak (by omega)
   have ck:(Bool.and (slSize w7 1) (Nat.blt k (dj bs.length fun i=>((O i:Nat):Int)).length))=true:=by rw [h7.slSize]; simp [aA]; exact hkl
   have co:(Bool.and (slSize w7 1) (Nat.blt (O k) (dj bs.length fun i=>((O i:Nat):Int)).length))=true:=by rw [h7.slSize]; simp [aA]; exact hol
   unfold f59_7
   refine aa.nat h7.slLen (aa.nat ank (aa.chk ck (aa.tvs g1 (aa.chk rfl (aa.tv (v:=B true) ?_ (aa.ite (v:=true) rfl (fun _=>?_) nofun))))))
   ·show some (B (((O k:Nat):Int) != (k:Int)))=_
    have:(((O k:Nat):Int) != (k:Int))=true:=by simp; omega
    rw [this]
   refine aa.nat h7.slLen (aa.nat ank (aa.chk ck (aa.tvs g1 (aa.chk rfl (aa.nat h7.slLen (aa.nat ano (aa.chk co (aa.tvs g2 (aa.chk rfl ?_)))))))))
   refine aa.nat h7.slLen (aa.nat ank (aa.chk ck (aa.tvs g1 (aa.chk rfl (aa.tv s1 ?_)))))
   refine aa.nat s2.slLen (aa.nat ank (aa.chk ?_ (aa.tvs g3 (aa.chk rfl (f59_7_J hy)))))
   rw [s2.slSize]; simp [aA]; exact hkl
theorem A7 {R : Nat → List Nat} (hR : BfR bs R) {A : Nat → Int} {w2 w3 w4 w5 w8 : TV} (h2 : RRows (some true) w2 bs.length R) {i : Nat} (hi : i ≤ 1000)
  (hrest : ∀ (Dl : List Nat) (O : Nat → Nat) (A' : Nat → Int) (w6 w7 : TV), ju bs P hd (fun n => n ∈ Dl) O → ClI bs P hd (fun n => n ∈ Dl) [] → RArr w6 bs.length A' → (RArr w7 bs.length fun i => ((O i : Nat) : Int)) → (∀ n, (n ∈ Dl → A' n = (hd : Int)) ∧ (¬ n ∈ Dl → A' n = A n)) →
   ∃ y,aa prog 59 (f59_5 (I ((i:Int) - 1)) w8 w2 w3 w4 w5 w6 w7) y/\nV bs y) :
  ∀ (z:Nat) (Dl op:List Nat) (O:Nat->Nat) (A':Nat->Int) (w1 w6 w7:TV),94 * (bs.length - Dl.length) + op.length < z->z<=1000000->Dl.Nodup->(∀ x ∈ Dl,x < bs.length)->ju bs P hd (fun n=>n ∈ Dl) O->ClI bs P hd (fun n=>n ∈ Dl) op->(∀ x ∈ op,inLoop bs hd x) ->
   RInts (some true) w1 (bi op)->RArr w6 bs.length A'->(RArr w7 bs.length fun i=>((O i:Nat):Int))->(∀ n,(n ∈ Dl->A' n=(hd:Int))/\(¬ n ∈ Dl->A' n=A n)) ->
   ∃ y,aa prog 59 (f59_6 (I (hd:Nat)) w1 w2 w3 w4 w5 w6 w7 w8 (I (i:Nat))) y/\nV bs y:=by
 intro z
 induction z with
 | zero=>intro Dl op O A' w1 w6 w7 hz; omega
 | succ z ih =>
  intro Dl op O A' w1 w6 w7 hz hz1 hnd hlt g hcl hop h1 h6 h7 hA
  have hhl:=hr.lt
  rcases List.eq_nil_or_concat op with rfl | ⟨op',x,rfl⟩
  ·obtain ⟨y,hy,hq⟩:=hrest Dl O A' w6 w7 g hcl h6 h7 hA
   refine ⟨y,?_,hq⟩
   unfold f59_6
   refine aa.tv h1.len (aa.tv (v:=B false) rfl (aa.ite (v:=false) rfl nofun fun _=>aa.tv (lj (a:=(i:Int)) (b:=1) (by omega) (by omega)) (f59_5_J hy)))
  ·simp only [List.concat_eq_append] at *
   have hxl:inLoop bs hd x:=hop x (by simp)
   have hxr:=hxl.rc
   obtain ⟨ix,hix,hixb⟩:=hI.rank hxr
   have hlen:(bi (op' ++ [x])).length=op'.length + 1:=by simp [bi]
   have hopl:op'.length + 1<=1000000:=by simp at hz; omega
   obtain ⟨e1,he1,rfl,_⟩:=h1.pel (i:=op'.length) (a:=((x:Nat):Int)) (xp (by simp))
   have anl:af (I (op'.length:Nat))=some op'.length:=ak (by omega)
   obtain ⟨w1',p1,p2⟩:=RL.win h1 (k:=op'.length) (by rw [hlen]; omega)
   have htk:(bi (op' ++ [x])).take op'.length=bi op':=by simp [bi]
   rw [htk] at p2
   obtain ⟨y,hy,hq⟩:=nsOut hI hb hP hr (D:=fun n=>n ∈ Dl) hxr (w1:=w1) (w2:=w2) (w3:=w3) (w4:=w4) (w5:=w5) (w6:=w6) (w8:=w8) (x9:=I (i:Nat)) (x10:=I (hd:Nat)) (x11:=I (op'.length:Nat)) (fun r O' w7' g' h7' hw' he' hrr=>by
    have hrl:=hrr.lt
    have anr:af (I (r:Nat))=some r:=ak (by omega)
    obtain ⟨g1,_⟩:=h7'.get hrl
    simp only [he'] at g1
    have cr:(Bool.and (slSize w7' 1) (Nat.blt r (dj bs.length fun i=>((O' i:Nat):Int)).length))=true:=by rw [h7'.slSize]; simp [aA]; exact hrl
    have cl:(Bool.and (Bool.and (slSize w1 1) (Nat.ble 0 (Option.getD (Option.some op'.length) (bi (op' ++ [x])).length))) (Nat.ble (Option.getD (Option.some op'.length) (bi (op' ++ [x])).length) (bi (op' ++ [x])).length))=true:=by rw [h1.slSize,hlen]; simp
    have nq:pbin (Kd.int IntKind.i64) BinOp.neq (I (r:Nat)) (I (r:Nat))=some (B false):=by
     show some (B ((r:Int) != (r:Int)))=_
     simp
    rcases g'.endw hP hr hxl hw' he' with ⟨q1,q2⟩ | ⟨q1,q2,q3,q4,q5⟩
    ·obtain ⟨y,hy,hq⟩:=ih Dl op' O' A' w1' w6 w7' (by simp at hz; omega) (by omega) hnd hlt g' (hcl.met q2) (fun y hy=>hop y (List.mem_append_left _ hy)) p2 h6 h7' hA
     refine ⟨y,?_,hq⟩
     unfold f59_7
     refine aa.nat h7'.slLen (aa.nat anr (aa.chk cr (aa.tvs g1 (aa.chk rfl (aa.tv nq (aa.ite (v:=false) rfl nofun fun _=>aa.nat h1.slLen (aa.nat anl (aa.chk cl (aa.tv (v:=B false) ?_ (aa.ite (v:=false) rfl nofun fun _=>aa.tv p1 (f59_6_J hy)))))))))))
     rw [q1]
     show some (B ((hd:Int) != (hd:Int)))=_
     simp
    ·obtain ⟨w6',a1,a2⟩:=h6.set hrl (v:=((hd:Nat):Int)) ⟨by omega,by omega⟩
     obtain ⟨w7'',b1,b2⟩:=h7'.set hrl (v:=((hd:Nat):Int)) ⟨by omega,by omega⟩
     rw [uT] at b2
     have hset:(fun n=>n ∈ Dl\/n=r)=fun n=>n ∈ r :: Dl:=by
      funext n
      exact propext ⟨fun h=>h.elim (Et _) (fun e=>by rw [e]; exact Es),fun h=>(List.mem_cons.1 h).elim .inr .inl⟩
     have g'':=g'.put q1 q2 q3
     rw [hset] at g''
     have hRr:=hR r
     have hcl':=ClI.put (br:=R r) hcl (fun p hp hg=>(hRr.1 p).2 ⟨hp,hg⟩) q5
     rw [hset] at hcl'
     have hnd':(r :: Dl).Nodup:=List.nodup_cons.2 ⟨q4,hnd⟩
     have hlt':∀ x ∈ r :: Dl,x < bs.length:=fun x hx=>by
      rcases List.mem_cons.1 hx with rfl | hx
      ·exact hrl
      ·exact hlt x hx
     have hcard:=jQ bs.length hnd' hlt'
     obtain ⟨e2,he2,v,rfl,hv⟩:=h2.pel (bI hrl)
     obtain ⟨rows,r1,r2,r3⟩:=Dr hv
     have hRl:=hRr.2
     obtain ⟨w1'',d1,d2⟩:=RL.appR p2 r3 (by rw [cS,cS]; omega)
     have hin':∀ y ∈ op' ++ R r,inLoop bs hd y:=fun y hy=>by
      rcases List.mem_append.1 hy with hy | hy
      ·exact hop y (List.mem_append_left _ hy)
      ·have hy2:=(hRr.1 y).1 hy
       exact q2.before q1 hy2.1 hy2.2
     rw [<- jp] at d2
     obtain ⟨y,hy,hq⟩:=ih (r :: Dl) (op' ++ R r) (gh O' r hd) _ w1'' w6' w7'' (by
      simp only [List.length_append,List.length_cons,List.length_nil] at hz hcard ⊢
      omega) (by omega) hnd' hlt' g'' hcl' hin' d2 a2 b2 (fun n=>⟨fun hn=>by
       by_cases e:n=r
       ·subst e; rw [aN]
       ·rw [aH e]
        exact (hA n).1 ((List.mem_cons.1 hn).resolve_left e),fun hn=>by
       have e:n≠r:=fun e=>hn (by rw [e]; exact Es)
       rw [aH e]
       exact (hA n).2 (fun h=>hn (Et _ h))⟩)
     obtain ⟨z1,_⟩:=h6.get hrl
     refine ⟨y,?_,hq⟩
     unfold f59_7
     refine aa.nat h7'.slLen (aa.nat anr (aa.chk cr (aa.tvs g1 (aa.chk rfl (aa.tv nq (aa.ite (v:=false) rfl nofun fun _=>aa.nat h1.slLen (aa.nat anl (aa.chk cl (aa.tv (v:=B true) ?_ (aa.ite (v:=true) rfl (fun _=>?_) nofun))))))))))
     ·show some (B ((r:Int) != (hd:Int)))=_
      have:((r:Int) != (hd:Int))=true:=by simp; omega
      rw [this]
     refine aa.nat h6.slLen (aa.nat anr (aa.chk ?_ (aa.chk rfl (aa.tvs z1 (aa.chk rfl (aa.tv a1 ?_))))))
     ·rw [h6.slSize]; simp [aA]; exact hrl
     refine aa.nat h7'.slLen (aa.nat anr (aa.chk cr (aa.chk rfl (aa.tvs g1 (aa.chk rfl (aa.tv b1 ?_))))))
     refine aa.nat h2.slLen (aa.nat anr (aa.chk ?_ (aa.tvs he2 (aa.chk (ba hv.isSl) (aa.tv (h2.deep he2 (j:=0) (z:=v) rfl) (aa.rws r1 (aa.tv p1 (aa.tv (by rw [r2]; exact d1) (f59_6_J hy)))))))))
     rw [h2.slSize]; simp [aA]; exact hrl) ix x O w7 hix hixb g h7 (.inl rfl)
   refine ⟨y,?_,hq⟩
   unfold f59_6
   refine aa.tv h1.len (aa.tv (v:=B true) ?_ (aa.ite (v:=true) rfl (fun _=>aa.tv h1.len (aa.tv (v:=I (op'.length:Nat)) ?_ (aa.nat h1.slLen (aa.nat anl (aa.chk ?_ (aa.tvs he1 (aa.chk rfl (f59_7_J hy)))))))) nofun))
   ·show some (B (decide (((bi (op' ++ [x])).length:Int) > 0)))=_
    rw [hlen]; simp
   ·rw [hlen,show (((op'.length + 1:Nat)):Int)=(op'.length:Int) + 1 by omega]
    have:=lj (a:=(op'.length:Int) + 1) (b:=1) (by omega) (by omega)
    rw [this]
    congr 2
    omega
   ·rw [h1.slSize,hlen]; simp
end
end Go.Ab.Q12
end
section
set_option maxRecDepth 10000
namespace Go.Ab
theorem RArr.congr {w:TV} {n:Nat} {g g':Nat->Int} (h:RArr w n g) (e:∀ i,i < n->g i=g' i):RArr w n g':=by
 show RInts (some true) w (dj n g')
 rw [<- yD e]
 exact h
def im (o:List Int) (i:Nat) (h:Nat):Prop:=∃ j,i<=j/\j < o.length/\blk o j=h
theorem im.none (o:List Int):im o o.length=fun _=>False:=by
 funext h
 exact propext ⟨fun ⟨j,h1,h2,_⟩=>by omega,fun h=>h.elim⟩
theorem im.one {o:List Int} {i:Nat} (hi:i < o.length):(fun n=>im o (i + 1) n\/n=blk o i)=im o i:=by
 funext h
 refine propext ⟨?_,?_⟩
 ·rintro (⟨j,h1,h2,h3⟩ | rfl)
  ·exact ⟨j,by omega,h2,h3⟩
  ·exact ⟨i,Nat.le_refl _,hi,rfl⟩
 ·rintro ⟨j,h1,h2,h3⟩
  by_cases e:j=i
  ·subst e; exact .inr h3.symm
  ·exact .inl ⟨j,by omega,h2,h3⟩
theorem im.all {bs:List DBlock} {o:List Int} (hI:OI bs o):im o 0=fun n=>Rc bs (-1) n:=by
 funext h
 refine propext ⟨?_,fun h=>?_⟩
 ·rintro ⟨j,_,h2,rfl⟩; exact hI.rc h2
 ·obtain ⟨j,h1,h2⟩:=hI.rank h
  exact ⟨j,Nat.zero_le _,h1,h2⟩
end Go.Ab
namespace Go.Ab.Q12
open Go Go.Ab Go.Proofs
section
variable {bs:List DBlock} {o:List Int} (hI:OI bs o) (hb:bs.length<=30) {R:Nat->List Nat} (hR:BfR bs R) {w1 w2 w3 w4 w8:TV} (h1:RRows (some true) w2 bs.length R) (h8:RInts (some true) w8 o)
include hI hb hR h1 h8
theorem DK (hs:iv (some true) bs w3 w4):∀ (i:Nat) (w5 w6 w7:TV) (H:Nat->Bool) (A:Nat->Int) (O:Nat->Nat),i<=o.length->RBArr w5 bs.length H->RArr w6 bs.length A->(RArr w7 bs.length fun i=>((O i:Nat):Int))->nJ bs (im o i) A O->(∀ n,H n=true ↔ im o i n/\fS bs n) ->
  ∃ y,aa prog 59 (f59_5 (I ((i:Int) - 1)) w8 w2 w3 w4 w5 w6 w7) y/\nV bs y:=by
 intro i
 induction i with
 | zero =>
  intro w5 w6 w7 H A O _ h5 h6 h7 hN hH
  rw [im.all hI] at hN hH
  refine ⟨_,?_,w2,w3,w4,w5,w6,w7,R,H,A,O,rfl,⟨h1,hs,h5,h6,h7,hR⟩,⟨fun n=>(hH n).trans ⟨fun h=>h.2,fun h=>⟨(by obtain ⟨m,hm⟩:=h; exact hm.1.up),h⟩⟩,hN.ar⟩⟩
  unfold f59_5
  refine aa.tv rfl (aa.ite (v:=false) (by simp [asBool]) nofun fun _=>aa.chk ?_ aa.ret)
  obtain ⟨F,C,s1,s2,_⟩:=hs
  have o1:=RL.own h1 fun _ _ h=>h.own
  have o2:=s1.own fun _ _ h=>h.own
  have o3:=s2.own fun _ _ h=>h.own
  have o4:=RL.own h5 fun _ _ h=>h.own
  have o5:=RL.own h6 fun _ _ h=>h.own
  have o6:=RL.own h7 fun _ _ h=>h.own
  simp [bG,df,o1,o2,o3,o4,o5,o6]
 | succ i ih =>
  intro w5 w6 w7 H A O hi h5 h6 h7 hN hH
  have hil:i < o.length:=by omega
  have hol:=hI.len
  have hr:=hI.rc hil
  have hbl:=hr.lt
  have hP:∀ h,im o (i + 1) h->¬ Dm bs h (blk o i):=by
   rintro h ⟨j,j1,j2,rfl⟩ hd
   have:=hI.xL j2 i hil hd
   omega
  obtain ⟨v,hv,kv⟩:=Dx (w4:=Ab.frz w5) (w5:=Ab.frz w6) (w6:=Ab.frz w7) (RRows.frz h1) hs.frz hR (by omega) hr
  have hvl:(bkL bs R (blk o i)).length<=90:=Nat.le_trans (List.length_filter_le _ _) (Nat.le_trans (hR _).2 (by omega))
  obtain ⟨w5',a1,a2⟩:=h5.set hbl (decide (0 < (bkL bs R (blk o i)).length))
  have e1:(((i + 1:Nat):Int) - 1)=(i:Int):=by omega
  rw [e1]
  obtain ⟨e,he,rfl,_⟩:=h8.pel (hI.at_ hil)
  have ani:af (I (i:Nat))=some i:=ak (by omega)
  have anb:af (I (blk o i:Nat))=some (blk o i):=ak (by omega)
  have hnil:(fun n=>n ∈ ([]:List Nat))=fun _=>False:=by
   funext n; simp
  obtain ⟨y,hy,hq⟩:=A7 hI hb hP hr hR (A:=A) (w3:=w3) (w4:=w4) (w5:=w5') (w8:=w8) h1 (i:=i) (by omega) (fun Dl O' A' w6' w7' g hc k6 k7 hA=>by
   have hnx:=hN.next hP g hc hA
   rw [im.one hil] at hnx
   refine ih w5' w6' w7' _ A' O' (by omega) a2 k6 k7 hnx fun n=>?_
   rw [<- im.one hil]
   by_cases e:n=blk o i
   ·subst e
    rw [aN,decide_eq_true_iff]
    unfold fS
    constructor
    ·intro h
     exact ⟨.inr rfl,_,(qy hR).1 (List.getElem_mem h)⟩
    ·rintro ⟨_,x,hx⟩
     exact List.length_pos_of_mem ((qy hR).2 hx)
   ·rw [aH e,hH n]
    exact and_congr_left fun _=>⟨.inl,fun h=>h.resolve_right e⟩) 10000 [] (bkL bs R (blk o i)) O A v w6 w7 (by simp; omega) (by omega) List.nodup_nil (fun x hx=>by cases hx) (by rw [hnil]; exact hN.gth) (by rw [hnil]; exact ClI.start fun x hx=>(qy hR).2 hx) (fun x hx=>((qy hR).1 hx).in_) kv h6 h7 (fun n=>⟨fun h=>(by cases h),fun _=>rfl⟩)
  refine ⟨y,?_,hq⟩
  unfold f59_5
  refine aa.tv rfl (aa.ite (v:=true) (by simp [asBool]) (fun _=>?_) nofun)
  refine aa.nat h8.slLen (aa.nat ani (aa.chk ?_ (aa.tvs he (aa.chk rfl (aa.call hv (aa.chk (ba kv.isSl) (aa.tv kv.len (aa.tv (v:=B (decide (0 < (bkL bs R (blk o i)).length))) ?_ ?_))))))))
  ·rw [h8.slSize]; simp; exact hil
  ·show some (B (decide (((bi (bkL bs R (blk o i))).length:Int) > 0)))=_
   rw [cS]
   congr 2
   simp
  refine aa.nat (RL.slLen h5) (aa.nat anb (aa.chk ?_ (aa.tvs (h5.get hbl) (aa.chk rfl (aa.tv a1 (f59_6_J hy))))))
  rw [RL.slSize h5]; simp [aA]; exact hbl
end
section
variable {q:Option Bool} {b:TV} {f:DFunc} (hf:RFunc q [I f.params,I f.regs,b] f) (hs:f.blocks.length<=30) {o:List Int} (hI:OI f.blocks o) {w3 w4 w5 w6 w7 w8:TV} (h8:RInts (some true) w8 o) (hsp:iv (some true) f.blocks w3 w4)
include hf hs hI h8 hsp
theorem Bz (h5:RBArr w5 f.blocks.length fun _=>false) (h6:RArr w6 f.blocks.length fun _=>-1) (h7:RArr w7 f.blocks.length fun i=>((i:Nat):Int)):∀ (d k:Nat) (w:TV) (R:Nat->List Nat),k + d=o.length->RRows (some true) w f.blocks.length R->BfI f.blocks o k 0 R ->
  ∃ y,aa prog 59 (f59_2 (I o.length) (I k) (I f.params) (I f.regs) b w8 w w3 w4 w5 w6 w7) y/\nV f.blocks y:=by
 have hol:=hI.len
 intro d
 induction d with
 | zero =>
  intro k w R hk hw hR
  have hk:k=o.length:=by omega
  subst hk
  obtain ⟨y,hy,hq⟩:=DK hI hs (hR.done hI) hw h8 hsp o.length w5 w6 w7 _ _ (fun i=>i) (Nat.le_refl _) h5 h6 h7 (by rw [im.none]; exact nJ.start _) (fun n=>by rw [im.none]; simp)
  refine ⟨y,?_,hq⟩
  unfold f59_2
  refine aa.tv rfl (aa.ite cM nofun fun _=>f59_4_J ?_)
  unfold f59_4
  exact aa.tv h8.len (aa.tv (lj (a:=(o.length:Int)) (b:=1) (by omega) (by omega)) (f59_5_J hy))
 | succ d ih =>
  intro k w R hk hw hR
  have hkl:k < o.length:=by omega
  obtain ⟨e,he,rfl,hei⟩:=h8.pel (hI.at_ hkl)
  obtain ⟨v,hv,hvr⟩:=r71 hf ((blk o k:Nat):Int)
  rw [lT] at hvr
  have hnl:=fL f.blocks (blk o k)
  have inner:∀ (c j:Nat) (w:TV) (R:Nat->List Nat),j + c=(am f.blocks (blk o k)).length->RRows (some true) w f.blocks.length R->BfI f.blocks o k j R ->
    ∃ y,aa prog 59 (f59_3 (I (blk o k:Nat)) (I o.length) (I k) (I (am f.blocks (blk o k)).length) (I j) (I f.params) (I f.regs) b w8 v w w3 w4 w5 w6 w7) y/\nV f.blocks y:=by
   intro c
   induction c with
   | zero =>
    intro j w R hj hw hR
    have hj:j=(am f.blocks (blk o k)).length:=by omega
    subst hj
    obtain ⟨y,hy,hq⟩:=ih (k + 1) w R (by omega) hw hR.over
    refine ⟨y,?_,hq⟩
    unfold f59_3
    exact aa.tv rfl (aa.ite cM nofun fun _=>aa.tv (inc hkl (by omega)) (f59_2_J hy))
   | succ c ihc =>
    intro j w R hj hw hR
    have hjl:j < (am f.blocks (blk o k)).length:=by omega
    obtain ⟨g,hgg⟩:∃ g,g=(am f.blocks (blk o k))[j]:=⟨_,rfl⟩
    have hg:(am f.blocks (blk o k))[j]? = some g:=by rw [hgg]; exact El hjl
    have hgm:=Eu hg
    have hgt:=aI hgm
    obtain ⟨c',rfl⟩:∃ c':Nat,g=(c':Int):=⟨g.toNat,by omega⟩
    have hcl:c' < f.blocks.length:=by have:=hgt.2; omega
    obtain ⟨e1,he1,rfl,_⟩:=hvr.pel hg
    obtain ⟨e3,he3,u,rfl,hu⟩:=hw.pel (bI hcl)
    have hlen:=(hR c').2
    obtain ⟨u',hu1,hu2⟩:=hu.app (e:=[I (blk o k:Nat)]) (a:=((blk o k:Nat):Int)) ⟨rfl,hei⟩ (by rw [cS]; omega)
    obtain ⟨w1,t1,t2,t3,t4,t5⟩:=RL.yO hw he3
    obtain ⟨w2,s1,s2⟩:=t5 (v':=u') (l':=R c' ++ [blk o k]) (by rw [jp]; exact hu2)
    rw [lc] at s2
    obtain ⟨y,hy,hq⟩:=ihc (j + 1) w2 _ (by omega) s2 (hR.next hg)
    refine ⟨y,?_,hq⟩
    have anc:af (nth TV.hole [I ((c':Nat):Int)] 0)=some c':=ak (by omega)
    unfold f59_3
    refine aa.tv rfl (aa.ite (cO hjl) (fun _=>?_) nofun)
    refine aa.nat hvr.slLen (aa.nat (ak (by omega)) (aa.chk ?_ (aa.tvs he1 (aa.chk rfl ?_))))
    ·rw [hvr.slSize]; simpa using hjl
    refine aa.nat (RL.slLen hw) (aa.nat anc (aa.chk ?_ (aa.tvs he3 (aa.chk (ba hu.isSl) (aa.chk rfl (aa.rws rfl ?_))))))
    ·rw [RL.slSize hw]; simp [aA]; exact hcl
    refine aa.tv (RL.deep hw he3 (j:=0) (z:=u) rfl) (aa.tv hu1 (aa.tv t1 ?_))
    refine aa.nat t2 (aa.nat anc (aa.chk ?_ (aa.tvs t4 (aa.chk ?_ (aa.tv s1 (aa.tv (inc hjl (by omega)) (f59_3_J hy)))))))
    ·rw [t3]; simp [aA]; exact hcl
    ·rw [ba hu2.isSl]; rfl
  obtain ⟨y,hy,hq⟩:=inner _ 0 w R (Nat.zero_add _) hw hR
  refine ⟨y,?_,hq⟩
  unfold f59_2
  refine aa.tv rfl (aa.ite (cO hkl) (fun _=>?_) nofun)
  refine aa.nat h8.slLen (aa.nat (ak (by omega)) (aa.chk ?_ (aa.tvs he (aa.chk rfl (aa.call hv (aa.chk (ba hvr.isSl) (aa.tv hvr.len (f59_3_J hy))))))))
  rw [h8.slSize]; simpa using hkl
theorem nsInit {w:TV} (hw:RRows (some true) w f.blocks.length fun _=>[]) (h5:RBArr w5 f.blocks.length fun _=>false):∀ (d k:Nat) (w6 w7:TV),k + d=f.blocks.length->(RArr w6 f.blocks.length fun i=>if i < k then -1 else 0)->(RArr w7 f.blocks.length fun i=>if i < k then ((i:Nat):Int) else 0) ->
  ∃ y,aa prog 59 (f59_0 (I f.blocks.length) (I k) (I f.params) (I f.regs) b w8 w w3 w4 w5 w6 w7) y/\nV f.blocks y:=by
 intro d
 induction d with
 | zero =>
  intro k w6 w7 hk h6 h7
  have hk:k=f.blocks.length:=by omega
  subst hk
  obtain ⟨y,hy,hq⟩:=Bz hf hs hI h8 hsp h5 (h6.congr fun i hi=>if_pos hi) (h7.congr fun i hi=>if_pos hi) o.length 0 w _ (by omega) hw (BfI.start _ _)
  refine ⟨y,?_,hq⟩
  unfold f59_0
  refine aa.tv rfl (aa.ite cM nofun fun _=>f59_1_J ?_)
  unfold f59_1
  exact aa.tv h8.len (f59_2_J hy)
 | succ d ih =>
  intro k w6 w7 hk h6 h7
  have hkl:k < f.blocks.length:=by omega
  obtain ⟨g6,_⟩:=h6.get hkl
  obtain ⟨g7,_⟩:=h7.get hkl
  obtain ⟨w6',a1,a2⟩:=h6.set hkl (v:=-1) ⟨by decide,by decide⟩
  obtain ⟨w7',b1,b2⟩:=h7.set hkl (v:=((k:Nat):Int)) ⟨by omega,by omega⟩
  have upd:∀ (g:Nat->Int) (i:Nat),gh (fun i=>if i < k then g i else 0) k (g k) i=if i < k + 1 then g i else 0:=by
   intro g i
   by_cases e:i=k
   ·subst e; rw [aN,if_pos (by omega)]
   ·rw [aH e]
    by_cases h:i < k
    ·rw [if_pos h,if_pos (by omega)]
    ·rw [if_neg h,if_neg (by omega)]
  obtain ⟨y,hy,hq⟩:=ih (k + 1) w6' w7' (by omega) (a2.congr fun i _=>upd (fun _=>-1) i) (b2.congr fun i _=>upd (fun i=>((i:Nat):Int)) i)
  refine ⟨y,?_,hq⟩
  have ank:af (I (k:Nat))=some k:=ak (by omega)
  unfold f59_0
  refine aa.tv rfl (aa.ite (cO hkl) (fun _=>?_) nofun)
  refine aa.nat (RL.slLen h6) (aa.nat ank (aa.chk ?_ (aa.tvs g6 (aa.chk rfl (aa.tv a1 ?_)))))
  ·rw [RL.slSize h6]; simp [aA]; exact hkl
  refine aa.nat (RL.slLen h7) (aa.nat ank (aa.chk ?_ (aa.chk rfl (aa.tvs g7 (aa.chk rfl (aa.tv b1 (aa.tv (inc hkl (by omega)) (f59_0_J hy))))))))
  rw [RL.slSize h7]; simp [aA]; exact hkl
end
theorem zu {q:Option Bool} {e:List TV} {f:DFunc} (he:RFunc q e f) (hs:f.blocks.length<=30):∃ y,bQ prog 59 [.agg e] y/\nV f.blocks y:=by
 obtain ⟨v0,o,hv0,k0,hO⟩:=r80 he (by omega)
 have hI:=hO.keeps
 obtain ⟨a,c,hsp,ksp⟩:=rSpans he hs (k0.frz fun _ _ h=>h.frz) hI
 have he0:=he
 obtain ⟨b,rfl,hb,_⟩:=he
 obtain ⟨y,hy,hq⟩:=nsInit he0 hs hI k0 ksp (w:=.sl true 1 (List.replicate f.blocks.length [.lit aD])) (by
   show RL (some true) 1 (RIL (some true)) _ (dj f.blocks.length fun _=>[])
   rw [<- nZ]
   exact sO (by omega)) (A6 (by omega)) f.blocks.length 0 _ _ (by omega) ((qO (n:=f.blocks.length) (a:=0) ⟨by decide,by decide⟩ (by omega)).congr fun i _=>(if_neg (Nat.not_lt_zero _)).symm) ((qO (n:=f.blocks.length) (a:=0) ⟨by decide,by decide⟩ (by omega)).congr fun i _=>(if_neg (Nat.not_lt_zero _)).symm)
 refine ⟨y,?_,hq⟩
 have hn:af (I (f.blocks.length:Nat))=some f.blocks.length:=ak (by omega)
 have hck:(Bool.and (Nat.ble f.blocks.length f.blocks.length) (Nat.ble f.blocks.length 4294967296))=true:=by simp; omega
 obtain ⟨F,C,s1,s2,_⟩:=ksp
 refine bQ.of (f59_MR _) ?_
 unfold f59_M
 refine aa.chk rfl (aa.call hv0 (aa.chk (ba k0.isSl) (aa.tv hb.len (aa.nat hn (aa.nat hn (aa.chk hck (aa.call hsp (aa.chk ?_ (aa.nat hn (aa.nat hn (aa.chk hck (aa.nat hn (aa.nat hn (aa.chk hck (aa.nat hn (aa.nat hn (aa.chk hck (aa.tv hb.len (f59_0_J hy)))))))))))))))))))
 show (true && (a.isSl && (c.isSl && true)))=true
 rw [s1.isSl,s2.isSl]; rfl
end Go.Ab.Q12
end
section
set_option maxRecDepth 10000
namespace Go.Ab
noncomputable def jP (bs:List DBlock) (k h:Nat):List Nat:=(List.range k).filter fun n=>tt (inLoop bs h n)
theorem wg {bs:List DBlock} {k h n:Nat}:n ∈ jP bs k h ↔ n < k/\inLoop bs h n:=by
 unfold jP
 rw [List.mem_filter,List.mem_range,nD]
open Classical in
theorem AG (bs:List DBlock) (k h:Nat):jP bs (k + 1) h=if inLoop bs h k then jP bs k h ++ [k] else jP bs k h:=by
 unfold jP
 rw [List.range_succ,List.filter_append]
 by_cases hl:inLoop bs h k
 ·rw [if_pos hl]; simp [gX hl]
 ·rw [if_neg hl]; simp [ft hl]
theorem B6 (bs:List DBlock) (k h:Nat):(jP bs k h).length<=k:=Nat.le_trans (List.length_filter_le _ _) (by simp)
noncomputable def fw (bs:List DBlock) (k:Nat):List (Nat × List Int):=((List.range k).filter fun h=>tt (fS bs h)).map fun h=>(h,bi (jP bs bs.length h))
noncomputable def i8 (bs:List DBlock):List (Nat × List Int):=fw bs bs.length
theorem wL (bs:List DBlock) (k:Nat):(fw bs k).length<=k:=by
 unfold fw
 rw [List.length_map]
 exact Nat.le_trans (List.length_filter_le _ _) (by simp)
open Classical in
theorem oc (bs:List DBlock) (k:Nat):fw bs (k + 1)=if fS bs k then fw bs k ++ [(k,bi (jP bs bs.length k))] else fw bs k:=by
 unfold fw
 rw [List.range_succ,List.filter_append]
 by_cases hl:fS bs k
 ·rw [if_pos hl]; simp [gX hl]
 ·rw [if_neg hl]; simp [ft hl]
theorem fS.rc {bs:List DBlock} {h:Nat} (hh:fS bs h):Rc bs (-1) h:=by
 obtain ⟨m,hm⟩:=hh
 exact hm.1.up
theorem xB {bs:List DBlock} {h:Nat}:0 < (jP bs bs.length h).length ↔ fS bs h:=by
 constructor
 ·intro h1
  exact (wg.1 (List.getElem_mem h1)).2.1
 ·intro hh
  exact List.length_pos_of_mem (wg.2 ⟨hh.rc.lt,inLoop.self hh⟩)
noncomputable def sd (bs:List DBlock) (n:Int):Nat:=if 0<=n then ((List.range bs.length).filter fun h=>tt (inLoop bs h n.toNat)).length else 0
theorem rV {bs:List DBlock} {n:Nat} {l:List Nat} (hn:l.Nodup) (hl:∀ h,h ∈ l ↔ inLoop bs h n):sd bs (n:Int)=l.length:=by
 unfold sd
 rw [if_pos (by omega),Int.toNat_natCast]
 refine List.Perm.length_eq ((List.perm_ext_iff_of_nodup (List.Pairwise.filter _ List.nodup_range) hn).2 fun h=>?_)
 rw [List.mem_filter,List.mem_range,nD,hl]
 exact ⟨fun h=>h.2,fun h=>⟨h.dm.up.lt,h⟩⟩
theorem rU {bs:List DBlock} {n:Int} (h:n < 0\/(bs.length:Int)<=n):sd bs n=0:=by
 unfold sd
 split
 ·rename_i h0
  rw [List.length_eq_zero_iff,List.filter_eq_nil_iff]
  intro a _ ht
  have:=(nD.1 ht).rc.lt
  omega
 ·rfl
theorem RL.tab {α β:Type} {q:Option Bool} {s:Nat} {R:List TV->α->Prop} {S:List TV->β->Prop} {x:TV} {n:Nat} {g:Nat->α} {h:Nat->β} (hx:RL q s R x (dj n g)) (hm:∀ i e,i < n->R e (g i)->S e (h i)):RL q s S x (dj n h):=by
 rcases hx with ⟨rfl,e⟩ | ⟨o,xs,rfl,hq,hf,hb⟩
 ·have:n=0:=by have:=congrArg List.length e; simpa [aA] using this
  subst this
  exact .inl ⟨rfl,rfl⟩
 ·refine .sl hq (F2.tj (by rw [hf.length,aA,aA]) fun i e a h1 h2=>?_) hb
  have hi:i < n:=by
   have:=(Ek.1 h2).1
   rwa [aA] at this
  rw [bI hi] at h2
  cases h2
  obtain ⟨a',h3,h4⟩:=hf.getL h1
  rw [bI hi] at h3
  cases h3
  exact hm i e hi h4
def ROpt (e:List TV) (o:Option (List Nat)):Prop:=match o with | none=>e=[.hole] | some l=>RIL (some true) e l
theorem DE {w u:TV} {N:Nat} {F:Nat->Option (List Nat)} (hw:RL (some true) 1 ROpt w (dj N F)) {k:Nat} (he:Go.Ab.pel w k=some [u]):∃ w',gI [(k,0)] w .hole=some w'/\RL (some true) 1 ROpt w' (dj N (gh F k none)):=by
 obtain ⟨xs,rfl,hk,hf,hb⟩:=hw.at he
 have hset:al [u] 0 TV.hole=[TV.hole]:=rfl
 refine ⟨.sl true 1 (al xs k [.hole]),?_,?_⟩
 ·simp only [gI,hk,List.getElem?_cons_zero,hset]
 ·rw [<- lc]
  exact .sl (by simp) (hf.set rfl) (by rw [io]; exact hb)
theorem RV.own {e:List TV} {p:Nat × List Int} (h:RV (some true) e p):df e=true:=by
 obtain ⟨v,rfl,hv⟩:=h
 simp [df,bG,hv.own fun _ _ h=>h.own]
theorem Cg.fit {bs:List DBlock} {w1 w2 w3 w4 w5 w6:TV} {R:Nat->List Nat} {H:Nat->Bool} {A:Nat->Int} {O:Nat->Nat} (h:Cg bs w1 w2 w3 w4 w5 w6 R H A O):w1.isSl=true/\w2.isSl=true/\w3.isSl=true/\w4.isSl=true/\w5.isSl=true/\w6.isSl=true:=by
 obtain ⟨F,C,s1,s2,_⟩:=h.r2
 exact ⟨RL.isSl h.r1,s1.isSl,s2.isSl,RL.isSl h.r4,RL.isSl h.r5,RL.isSl h.r6⟩
end Go.Ab
namespace Go.Ab.Q12
open Go Go.Ab Go.Proofs
section
variable {bs:List DBlock} (hb:bs.length<=30) {Q:TV->Prop} {w2 w3 w4 w5 w6 w7:TV} {H:Nat->Bool} {A:Nat->Int}
include hb
theorem allIn (h6:RArr w6 bs.length A) {n:Nat} (hn:n < bs.length):∀ {a:Int} {l:List Nat},Arnd A a l->l.Nodup->(∀ h ∈ l,h < bs.length)->∀ (w:TV) (R:Nat->List Nat),RRows (some true) w bs.length R->(∀ h,(R h).length + l.length<=1000000) ->
  (∀ (w':TV) (R':Nat->List Nat),RRows (some true) w' bs.length R'->(∀ h,R' h=if h ∈ l then R h ++ [n] else R h)->∃ y,aa prog 38 (f38_0 (I bs.length) (I ((n + 1:Nat):Int)) w2 w3 w4 w5 w6 w7 w') y/\Q y) ->
  ∃ y,aa prog 38 (f38_3 (I a) (I n) (I n) w2 w3 w4 w5 w6 w7 w (I bs.length) (I n)) y/\Q y:=by
 intro a l ha
 induction ha with
 | @done a h =>
  intro _ _ w R hw _ hrest
  obtain ⟨y,hy,hq⟩:=hrest w R hw (fun h=>by simp)
  refine ⟨y,?_,hq⟩
  unfold f38_3
  exact aa.tv rfl (aa.ite (v:=false) (by simp [asBool]; omega) nofun fun _=>aa.tv (inc hn (by omega)) (f38_0_J hy))
 | @next h l t ih =>
  intro hnd hlt w R hw hlen hrest
  have hhl:=hlt h Es
  obtain ⟨nd1,nd2⟩:=List.nodup_cons.1 hnd
  obtain ⟨e3,he3,u,rfl,hu⟩:=hw.pel (bI hhl)
  have hl1:=hlen h
  simp only [List.length_cons] at hl1
  obtain ⟨u',hu1,hu2⟩:=hu.app (e:=[I (n:Nat)]) (a:=((n:Nat):Int)) ⟨rfl,by constructor <;> omega⟩ (by rw [cS]; omega)
  obtain ⟨w1,t1,t2,t3,t4,t5⟩:=RL.yO hw he3
  obtain ⟨wn,s1,s2⟩:=t5 (v':=u') (l':=R h ++ [n]) (by rw [jp]; exact hu2)
  rw [lc] at s2
  obtain ⟨g6,_⟩:=h6.get hhl
  obtain ⟨y,hy,hq⟩:=ih nd2 (fun k hk=>hlt k (Et _ hk)) wn _ s2 (fun k=>by
   have:=hlen k
   simp only [List.length_cons] at this
   by_cases e:k=h
   ·subst e; rw [aN]; simp; omega
   ·rw [aH e]; omega) (fun w' R' hw' hR'=>hrest w' R' hw' fun k=>by
   rw [hR' k]
   by_cases e:k=h
   ·subst e; rw [aN,if_neg nd1,if_pos Es]
   ·rw [aH e]
    by_cases hk:k ∈ l
    ·rw [if_pos hk,if_pos (Et _ hk)]
    ·rw [if_neg hk,if_neg (fun q=>(List.mem_cons.1 q).elim e hk)])
  refine ⟨y,?_,hq⟩
  have anh:af (I (h:Nat))=some h:=ak (by omega)
  unfold f38_3
  refine aa.tv rfl (aa.ite (v:=true) (by simp [asBool]) (fun _=>?_) nofun)
  refine aa.nat (RL.slLen hw) (aa.nat anh (aa.chk ?_ (aa.tvs he3 (aa.chk (ba hu.isSl) (aa.rws rfl (aa.tv (RL.deep hw he3 (j:=0) (z:=u) rfl) (aa.tv hu1 (aa.tv t1 ?_))))))))
  ·rw [RL.slSize hw]; simp [aA]; exact hhl
  refine aa.nat t2 (aa.nat anh (aa.chk ?_ (aa.tvs t4 (aa.chk ?_ (aa.tv s1 ?_)))))
  ·rw [t3]; simp [aA]; exact hhl
  ·rw [ba hu2.isSl]; rfl
  refine aa.nat (RL.slLen h6) (aa.nat anh (aa.chk ?_ (aa.tvs g6 (aa.chk rfl (f38_3_J hy)))))
  rw [RL.slSize h6]; simp [aA]; exact hhl
theorem allOut:∀ (d k:Nat) (w v:TV) (F:Nat->Option (List Nat)),k + d=bs.length->RL (some true) 1 ROpt w (dj bs.length F)->(∀ h,k<=h->F h=some (jP bs bs.length h))->RL (some true) 2 (RV (some true)) v (fw bs k) ->
  ∃ y,aa prog 38 (f38_4 (I bs.length) (I k) v w) y/\RL (some true) 2 (RV (some true)) y (i8 bs):=by
 intro d
 induction d with
 | zero =>
  intro k w v F hk hw hF hv
  have hk:k=bs.length:=by omega
  subst hk
  refine ⟨v,?_,hv⟩
  unfold f38_4
  exact aa.tv rfl (aa.ite cM nofun fun _=>aa.chk (RL.own hv fun _ _ h=>RV.own h) aa.ret)
 | succ d ih =>
  intro k w v F hk hw hF hv
  have hkl:k < bs.length:=by omega
  obtain ⟨e3,he3,hr3⟩:=hw.pel (bI hkl)
  rw [hF k (Nat.le_refl k)] at hr3
  obtain ⟨u,rfl,hu⟩:=hr3
  have ank:af (I (k:Nat))=some k:=ak (by omega)
  have hgp:=RL.deep hw he3 (j:=0) (z:=u) rfl
  have hll:=wL bs k
  have hck:(Bool.and (slSize w 1) (Nat.blt k (dj bs.length F).length))=true:=by rw [RL.slSize hw]; simp [aA]; exact hkl
  by_cases hh:fS bs k
  ·have hpos:=xB.2 hh
   have hfr:frB u=some false:=by
    rcases hu with ⟨rfl,e⟩ | ⟨o,xs,rfl,hq,_,_⟩
    ·have:=congrArg List.length e
     rw [cS,List.length_nil] at this
     omega
    ·have:o=true:=by simpa using hq _ rfl
     subst this; rfl
   obtain ⟨w',t1,t2⟩:=DE hw he3
   obtain ⟨v',a1,a2⟩:=RL.app hv (e:=[I (k:Nat),u]) (a:=(k,bi (jP bs bs.length k))) ⟨u,rfl,hu⟩ (by omega)
   obtain ⟨y,hy,hq⟩:=ih (k + 1) w' v' _ (by omega) t2 (fun h hkh=>by rw [aH (by omega)]; exact hF h (by omega)) (by rw [oc,if_pos hh]; exact a2)
   refine ⟨y,?_,hq⟩
   unfold f38_4
   refine aa.tv rfl (aa.ite (cO hkl) (fun _=>?_) nofun)
   refine aa.nat (RL.slLen hw) (aa.nat ank (aa.chk hck (aa.tvs he3 (aa.chk (ba hu.isSl) (aa.tv hgp (aa.tv hu.len (aa.tv (v:=B true) ?_ (aa.ite (v:=true) rfl (fun _=>aa.chk rfl (aa.tv hgp (aa.ite hfr nofun fun _=>aa.tv t1 (aa.rws rfl (aa.tv a1 (aa.tv (inc hkl (by omega)) (f38_4_J hy))))))) nofun))))))))
   show some (B (decide (((bi (jP bs bs.length k)).length:Int) > 0)))=_
   rw [cS,decide_eq_true (by omega)]
  ·obtain ⟨y,hy,hq⟩:=ih (k + 1) w v F (by omega) hw (fun h hkh=>hF h (by omega)) (by rw [oc,if_neg hh]; exact hv)
   refine ⟨y,?_,hq⟩
   unfold f38_4
   refine aa.tv rfl (aa.ite (cO hkl) (fun _=>?_) nofun)
   refine aa.nat (RL.slLen hw) (aa.nat ank (aa.chk hck (aa.tvs he3 (aa.chk (ba hu.isSl) (aa.tv hgp (aa.tv hu.len (aa.tv (v:=B false) ?_ (aa.ite (v:=false) rfl nofun fun _=>aa.tv (inc hkl (by omega)) (f38_4_J hy)))))))))
   show some (B (decide (((bi (jP bs bs.length k)).length:Int) > 0)))=_
   have hz:¬ 0 < (jP bs bs.length k).length:=fun h=>hh (xB.1 h)
   rw [cS,decide_eq_false (by omega)]
theorem allPut {o:List Int} (hI:OI bs o) (hN:zI bs H A) (h5:RBArr w5 bs.length H) (h6:RArr w6 bs.length A):∀ (d k:Nat) (w:TV) (R:Nat->List Nat),k + d=bs.length->RRows (some true) w bs.length R->(∀ h,R h=jP bs k h) ->
  ∃ y,aa prog 38 (f38_0 (I bs.length) (I k) w2 w3 w4 w5 w6 w7 w) y/\RL (some true) 2 (RV (some true)) y (i8 bs):=by
 intro d
 induction d with
 | zero =>
  intro k w R hk hw hR
  have hk:k=bs.length:=by omega
  subst hk
  have hRe:R=fun h=>jP bs bs.length h:=funext hR
  subst hRe
  obtain ⟨y,hy,hq⟩:=allOut hb bs.length 0 w (.lit aD) (fun h=>some (jP bs bs.length h)) (by omega) (RL.tab hw fun i e _ h=>h) (fun _ _=>rfl) (by simpa [fw] using RL.nil)
  refine ⟨y,?_,hq⟩
  unfold f38_0
  refine aa.tv rfl (aa.ite cM nofun fun _=>f38_2_J ?_)
  unfold f38_2
  refine aa.tv (v:=I (bs.length:Nat)) ?_ (aa.chk rfl (f38_4_J hy))
  exact (RL.len hw).trans (by rw [aA])
 | succ d ih =>
  intro k w R hk hw hR
  have hkl:k < bs.length:=by omega
  obtain ⟨l,l1,l2,l3⟩:=Arnd.all hN hI k
  have hlt:∀ h ∈ l,h < bs.length:=fun h hh=>((l3 h).1 hh).dm.up.lt
  have hcard:=jQ bs.length l2 hlt
  obtain ⟨y,hy,hq⟩:=allIn hb (Q:=fun y=>RL (some true) 2 (RV (some true)) y (i8 bs)) (w2:=w2) (w3:=w3) (w4:=w4) (w5:=w5) (w7:=w7) h6 hkl l1 l2 hlt w R hw (fun h=>by
   rw [hR h]
   have:=B6 bs k h
   omega) (fun w' R' hw' hR'=>ih (k + 1) w' R' (by omega) hw' fun h=>by
   rw [hR' h,hR h,AG]
   by_cases hh:inLoop bs h k
   ·rw [if_pos hh,if_pos ((l3 h).2 hh)]
   ·rw [if_neg hh,if_neg (fun q=>hh ((l3 h).1 q))])
  obtain ⟨g6,_⟩:=h6.get hkl
  have g5:=h5.get hkl
  have ank:af (I (k:Nat))=some k:=ak (by omega)
  refine ⟨y,?_,hq⟩
  unfold f38_0
  refine aa.tv rfl (aa.ite (cO hkl) (fun _=>aa.chk rfl ?_) nofun)
  refine aa.nat (RL.slLen h6) (aa.nat ank (aa.chk ?_ (aa.tvs g6 (aa.chk rfl (aa.nat (RL.slLen h5) (aa.nat ank (aa.chk ?_ (aa.tvs g5 (aa.chk rfl (aa.ite (v:=H k) rfl (fun h=>f38_1_J ?_) fun h=>f38_1_J ?_))))))))))
  ·rw [RL.slSize h6]; simp [aA]; exact hkl
  ·rw [RL.slSize h5]; simp [aA]; exact hkl
  ·unfold mM at hy
   rw [if_pos h] at hy
   unfold f38_1
   exact f38_3_J hy
  ·unfold mM at hy
   rw [if_neg (by rw [h]; exact Bool.false_ne_true)] at hy
   unfold f38_1
   exact f38_3_J hy
end
theorem sP {q:Option Bool} {e:List TV} {f:DFunc} (he:RFunc q e f) (hs:f.blocks.length<=30):∃ y,bQ prog 38 [.agg e] y/\RL (some true) 2 (RV (some true)) y (i8 f.blocks):=by
 obtain ⟨v0,o,hv0,k0,hO⟩:=r80 he (by omega)
 have hI:=hO.keeps
 obtain ⟨y1,hy1,w1,w2,w3,w4,w5,w6,R,H,A,O,rfl,hV,hN⟩:=zu he hs
 obtain ⟨b,rfl,hb,_⟩:=he
 obtain ⟨y,hy,hq⟩:=allPut (w2:=w1) (w3:=w2) (w4:=w3) (w7:=w6) hs hI hN hV.r4 hV.r5 f.blocks.length 0 (.sl true 1 (List.replicate f.blocks.length [.lit aD])) (fun _=>[]) (by omega) (by
   show RL (some true) 1 (RIL (some true)) _ (dj f.blocks.length fun _=>[])
   rw [<- nZ]
   exact sO (by omega)) (fun h=>by simp [jP])
 refine ⟨y,?_,hq⟩
 have hn:af (I (f.blocks.length:Nat))=some f.blocks.length:=ak (by omega)
 obtain ⟨f1,f2,f3,f4,f5,f6⟩:=hV.fit
 refine bQ.of (f38_MR _) ?_
 unfold f38_M
 refine aa.chk rfl (aa.call hy1 (aa.chk ?_ (aa.tv hb.len (aa.nat hn (aa.nat hn (aa.chk (by simp; omega) (aa.tv hb.len (f38_0_J hy))))))))
 show (true && (w1.isSl && (w2.isSl && (w3.isSl && (w4.isSl && (w5.isSl && (w6.isSl && true)))))))=true
 rw [f1,f2,f3,f4,f5,f6]; rfl
theorem Bm {q:Option Bool} {e:List TV} {f:DFunc} (he:RFunc q e f) (hs:f.blocks.length<=30) {n:Int} (hn:inI n):bQ prog 40 [.agg e,I n] (I (sd f.blocks n:Nat)):=by
 obtain ⟨v0,o,hv0,k0,hO⟩:=r80 he (by omega)
 have hI:=hO.keeps
 obtain ⟨y1,hy1,w1,w2,w3,w4,w5,w6,R,H,A,O,rfl,hV,hN⟩:=zu he hs
 obtain ⟨b,rfl,hb,_⟩:=he
 refine bQ.of (f40_MR _ _) ?_
 unfold f40_M
 refine aa.chk rfl (aa.tv (v:=B (decide (n < 0))) rfl (aa.ite rfl (fun h=>?_) fun h=>?_))
 ·have h0:n < 0:=by simpa using h
  rw [rU (.inl h0)]
  exact aa.ret
 have h0:¬ n < 0:=by simpa using h
 refine aa.tv hb.len (aa.tv (v:=B (decide (n >= (f.blocks.length:Int)))) rfl (aa.ite rfl (fun h=>?_) fun h=>?_))
 ·have h1:n >= (f.blocks.length:Int):=by simpa using h
  rw [rU (.inr h1)]
  exact aa.ret
 have h1:¬ n >= (f.blocks.length:Int):=by simpa using h
 obtain ⟨k,rfl⟩:∃ k:Nat,n=(k:Int):=⟨n.toNat,by omega⟩
 have hkl:k < f.blocks.length:=by omega
 obtain ⟨l,l1,l2,l3⟩:=Arnd.all hN hI k
 have hlt:∀ h ∈ l,h < f.blocks.length:=fun h hh=>((l3 h).1 hh).dm.up.lt
 have hcard:=jQ f.blocks.length l2 hlt
 obtain ⟨f1,f2,f3,f4,f5,f6⟩:=hV.fit
 have go:∀ {a:Int} {l:List Nat},Arnd A a l->(∀ h ∈ l,h < f.blocks.length)->∀ (d:Nat),d + l.length<=1000000->aa prog 40 (f40_1 (I a) (I (d:Nat)) (I k) w1 w2 w3 w4 w5 w6) (I ((d + l.length:Nat):Int)):=by
  intro a l ha
  induction ha with
  | @done a h =>
   intro _ d _
   unfold f40_1
   exact aa.tv rfl (aa.ite (v:=false) (by simp [asBool]; omega) nofun fun _=>aa.ret)
  | @next h l t ih =>
   intro hlt d hd
   simp only [List.length_cons] at hd
   have hhl:=hlt h Es
   have:=ih (fun k hk=>hlt k (Et _ hk)) (d + 1) (by omega)
   obtain ⟨g6,_⟩:=hV.r5.get hhl
   have anh:af (I (h:Nat))=some h:=ak (by omega)
   rw [show d + (h :: l).length=d + 1 + l.length by simp; omega]
   unfold f40_1
   refine aa.tv rfl (aa.ite (v:=true) (by simp [asBool]) (fun _=>?_) nofun)
   refine aa.tv (lG (a:=(d:Int)) (b:=1) (by omega) (by omega)) (aa.nat (RL.slLen hV.r5) (aa.nat anh (aa.chk ?_ (aa.tvs g6 (aa.chk rfl (f40_1_J this))))))
   rw [RL.slSize hV.r5]; simp [aA]; exact hhl
 have hgo:=go l1 hlt 0 (by omega)
 rw [Nat.zero_add,<- rV l2 l3] at hgo
 obtain ⟨g6,_⟩:=hV.r5.get hkl
 have g5:=hV.r4.get hkl
 have ank:af (I (k:Nat))=some k:=ak (by omega)
 refine aa.call hy1 (aa.chk ?_ (aa.chk rfl (aa.nat (RL.slLen hV.r5) (aa.nat ank (aa.chk ?_ (aa.tvs g6 (aa.chk rfl (aa.nat (RL.slLen hV.r4) (aa.nat ank (aa.chk ?_ (aa.tvs g5 (aa.chk rfl (aa.ite (v:=H k) rfl (fun h=>f40_0_J ?_) fun h=>f40_0_J ?_)))))))))))))
 ·show (true && (w1.isSl && (w2.isSl && (w3.isSl && (w4.isSl && (w5.isSl && (w6.isSl && true)))))))=true
  rw [f1,f2,f3,f4,f5,f6]; rfl
 ·show (slSize w5 1 && k.blt (dj f.blocks.length A).length)=true
  rw [RL.slSize hV.r5]; simp [aA]; exact hkl
 ·show (slSize w4 1 && k.blt (dj f.blocks.length H).length)=true
  rw [RL.slSize hV.r4]; simp [aA]; exact hkl
 ·unfold mM at hgo
  rw [if_pos h] at hgo
  unfold f40_0
  exact f40_1_J hgo
 ·unfold mM at hgo
  rw [if_neg (by rw [h]; exact Bool.false_ne_true)] at hgo
  unfold f40_0
  exact f40_1_J hgo
end Go.Ab.Q12
end
section
set_option maxRecDepth 10000
namespace Go.Ab
structure JRow (bs:List DBlock) (n:Nat) (h:Option Nat):Prop where
 len:bs.length=n + 1
 pos:0 < n
 low:∀ h',h=some h'->h' < n
 up:∀ i,i + 1 < n->am bs i=[((i + 1:Nat):Int)]
 last:am bs (n - 1)=(match h with | some h'=>[(h':Int)] | none=>[]) ++ [((n:Nat):Int)]
 stop:am bs n=[]
section
variable {bs:List DBlock} {n:Nat} {h:Option Nat} (hR:JRow bs n h)
include hR
theorem JRow.next {i:Nat} (hi:i < n):((i + 1:Nat):Int) ∈ am bs i:=by
 by_cases e:i + 1 < n
 ·rw [hR.up i e]; simp
 ·have e:i=n - 1:=by omega
  subst e
  rw [hR.last,show n - 1 + 1=n by have:=hR.pos; omega]
  simp
theorem JRow.only {i:Nat} {g:Int} (hg:g ∈ am bs i):i < n/\(g=((i + 1:Nat):Int)\/i=n - 1/\∃ h',h=some h'/\g=(h':Int)):=by
 have hp:=hR.pos
 have hi:i < n:=by
  by_cases e:i < n
  ·exact e
  ·by_cases e2:i=n
   ·subst e2; rw [hR.stop] at hg; cases hg
   ·have:am bs i=[]:=by
     unfold am
     rw [Ex (by rw [hR.len]; omega)]
    rw [this] at hg
    cases hg
 refine ⟨hi,?_⟩
 by_cases e:i + 1 < n
 ·rw [hR.up i e] at hg
  exact .inl (by simpa using hg)
 ·have e:i=n - 1:=by omega
  subst e
  rw [hR.last] at hg
  rcases List.mem_append.1 hg with hg | hg
  ·cases h with
   | none=>cases hg
   | some h'=>exact .inr ⟨rfl,h',rfl,by simpa using hg⟩
  ·exact .inl (by rw [show n - 1 + 1=n by omega]; simpa using hg)
theorem JRow.rc {a:Int}:∀ k:Nat,k<=n->(∀ j:Nat,j<=k->(j:Int)≠a)->Rc bs a k:=by
 intro k
 induction k with
 | zero=>exact fun _ ha=>.start (fun e=>ha 0 (Nat.le_refl 0) (by simpa using e.symm)) (by rw [hR.len]; omega)
 | succ k ih =>
  intro hk ha
  have:=Rc.next (no:=a) (ih (by omega) fun j hj=>ha j (by omega)) (hR.next (i:=k) (by omega)) (ha (k + 1) (Nat.le_refl _))
  simpa using this
theorem JRow.rc_lt {a k:Nat} (hr:Rc bs a k):k < a:=by
 induction hr with
 | start h0 _=>omega
 | @next i g hi hg hne ih =>
  obtain ⟨hin,rfl | ⟨rfl,h',hh,rfl⟩⟩:=hR.only hg
  ·rw [Int.toNat_natCast]
   omega
  ·have:=hR.low h' hh
   rw [Int.toNat_natCast]
   omega
theorem JRow.dm {a k:Nat}:Dm bs a k ↔ a<=k/\k<=n:=by
 constructor
 ·intro hd
  have hk:k<=n:=by have:=hd.1.lt; rw [hR.len] at this; omega
  refine ⟨?_,hk⟩
  by_cases e:a<=k
  ·exact e
  ·exact absurd (hR.rc (a:=(a:Int)) k hk fun j hj=>by omega) (Dm.self.1 hd).2
 ·rintro ⟨h1,h2⟩
  exact Dm.self.2 ⟨hR.rc k h2 fun j _=>by omega,fun hr=>by have:=hR.rc_lt hr; omega⟩
theorem JRow.bk {a k:Nat}:Bk bs a k ↔ h=some a/\k=n - 1:=by
 have hp:=hR.pos
 constructor
 ·rintro ⟨hd,hg⟩
  have:=hR.dm.1 hd
  obtain ⟨hk,e | ⟨rfl,h',hh,e⟩⟩:=hR.only hg
  ·omega
  ·have:h'=a:=by omega
   subst this
   exact ⟨hh,rfl⟩
 ·rintro ⟨hh,rfl⟩
  have:=hR.low a hh
  refine ⟨hR.dm.2 ⟨by omega,by omega⟩,?_⟩
  subst hh
  rw [hR.last]
  simp
theorem JRow.head {a:Nat}:fS bs a ↔ h=some a :=
 ⟨fun ⟨_,hb⟩=>(hR.bk.1 hb).1,fun hh=>⟨n - 1,hR.bk.2 ⟨hh,rfl⟩⟩⟩
theorem JRow.cm {a:Nat} (ha:a < n - 1):∀ d k:Nat,k + d=n - 1->a < k->Cm bs (n - 1) a k:=by
 intro d
 induction d with
 | zero =>
  intro k hk hak
  have hk:k=n - 1:=by omega
  subst hk
  exact .refl (by omega)
 | succ d ih =>
  intro k hk hak
  refine .back (by omega) (hR.next (i:=k) (by omega)) ?_
  rw [Int.toNat_natCast]
  exact ih (k + 1) (by omega) (by omega)
theorem JRow.cm_lt {a k:Nat} (hc:Cm bs (n - 1) a k):k < n:=by
 have:=hR.pos
 cases hc with
 | refl _=>omega
 | back _ hg _=>exact (hR.only hg).1
theorem JRow.loop {a k:Nat}:inLoop bs a k ↔ h=some a/\a<=k/\k < n:=by
 have hp:=hR.pos
 constructor
 ·rintro ⟨hh,rfl | ⟨hd,m,hb,hc⟩⟩
  ·have:=hR.head.1 hh
   exact ⟨this,Nat.le_refl _,hR.low _ this⟩
  ·obtain ⟨h1,rfl⟩:=hR.bk.1 hb
   exact ⟨h1,(hR.dm.1 hd).1,hR.cm_lt hc⟩
 ·rintro ⟨hh,h1,h2⟩
  refine ⟨hR.head.2 hh,?_⟩
  by_cases e:k=a
  ·exact .inl e
  ·exact .inr ⟨hR.dm.2 ⟨h1,by omega⟩,n - 1,hR.bk.2 ⟨hh,rfl⟩,hR.cm (by omega) (n - 1 - k) k (by omega) (by omega)⟩
end
def kS (n:Nat):List DBlock:=(List.range n).map (fun i=>(⟨false,⟨0,[],false,false⟩,[],⟨2,0,0,0,[],((i + 1:Nat):Int),0,0⟩⟩:DBlock)) ++ [⟨false,⟨0,[],false,false⟩,[],⟨1,0,0,0,[],0,0,0⟩⟩]
def lq (n h:Nat):List DBlock:=(kS n).set (n - 1) ⟨false,⟨0,[],false,false⟩,[],⟨3,0,0,0,[],((h:Nat):Int),((n:Nat):Int),0⟩⟩
theorem iG (n:Nat):(kS n).length=n + 1:=by simp [kS]
theorem qK {n i:Nat} (h:i < n):(kS n)[i]? = some ⟨false,⟨0,[],false,false⟩,[],⟨2,0,0,0,[],((i + 1:Nat):Int),0,0⟩⟩:=by
 unfold kS
 rw [Ev (by simpa using h)]
 simp [h]
theorem xj (n:Nat):(kS n)[n]? = some ⟨false,⟨0,[],false,false⟩,[],⟨1,0,0,0,[],0,0,0⟩⟩:=by
 unfold kS
 rw [Ew (by simp)]
 simp
theorem BU {n:Nat} (hn:0 < n):JRow (kS n) n none:=by
 refine ⟨iG n,hn,fun _ h=>(nomatch h),fun i hi=>?_,?_,?_⟩
 ·unfold am
  rw [qK (by omega),iG]
  simp [nx,gl,er]
  omega
 ·unfold am
  rw [qK (by omega),iG,show n - 1 + 1=n by omega]
  have ht:er (n + 1) ((n:Nat):Int)=true:=by unfold er; rw [decide_eq_true_eq]; omega
  simp [nx,gl,ht]
 ·unfold am
  rw [xj,iG]
  simp [nx,gl]
theorem rG {n h:Nat} (hh:h < n):JRow (lq n h) n (some h):=by
 have hl:(lq n h).length=n + 1:=by simp [lq,iG]
 refine ⟨hl,by omega,fun _ e=>by cases e; exact hh,fun i hi=>?_,?_,?_⟩
 ·unfold am
  rw [hl]
  unfold lq
  rw [List.getElem?_set_ne (by omega),qK (by omega)]
  simp [nx,gl,er]
  omega
 ·unfold am
  rw [hl]
  unfold lq
  rw [List.getElem?_set_self (by rw [iG]; omega)]
  simp [nx,gl,er]
  omega
 ·unfold am
  rw [hl]
  unfold lq
  rw [List.getElem?_set_ne (by omega),xj]
  simp [nx,gl]
end Go.Ab
end

import Derived.Test.YtfnpejmlcbkepaaKQ12F87
import Derived.Test.YtfnpejmlcbkepaaKQ12F73
set_option linter.all false
section
set_option maxRecDepth 10000
namespace Go.Ab
def RIL (q:Option Bool) (e:List TV) (l:List Nat):Prop:=∃ v,e=[v]/\RInts q v (aS l)
theorem RIL.own {e:List TV} {l:List Nat} (h:RIL (some true) e l):dG e=true:=by
 obtain ⟨v,rfl,h⟩:=h
 have:=h.own fun _ _ h=>h.own
 simp [dG,this]
theorem RIL.frz {q:Option Bool} {e:List TV} {l:List Nat} (h:RIL q e l):RIL (some false) (uf e) l:=by
 obtain ⟨v,rfl,h⟩:=h
 exact ⟨Ab.frz v,rfl,h.frz fun _ _ h=>h.frz⟩
theorem rI {n:Nat} (h:n<=9223372036854775807):RL (some true) 1 (RIL (some true)) (.sl true 1 (List.replicate n [.lit aB])) (List.replicate n []):=.sl (by simp) (F2.t7 (by simp) fun i e a he ha=>by
 rw [List.getElem?_replicate] at he ha
 by_cases hi:i < n
 ·rw [if_pos hi] at he ha
  cases he
  cases ha
  exact ⟨_,rfl,.nil⟩
 ·rw [if_neg hi] at he
  cases he) (by simpa using h)
theorem lL {n:Nat} {a:Int} (ha:inI a) (h:n<=9223372036854775807):RInts (some true) (.sl true 1 (List.replicate n [I a])) (List.replicate n a):=.sl (by simp) (F2.t7 (by simp) fun i e b he hb=>by
 rw [List.getElem?_replicate] at he hb
 by_cases hi:i < n
 ·rw [if_pos hi] at he hb
  cases he
  cases hb
  exact ⟨rfl,ha⟩
 ·rw [if_neg hi] at he
  cases he) (by simpa using h)
theorem pH {α:Type}:∀ {l:List α} {n:Nat} {a b:α},l[n]? = some a->(am l n b)[n]? = some b
 | [],n,a,b,h=>by simp at h
 | c :: l,0,a,b,h=>rfl
 | c :: l,n + 1,a,b,h=>by simp only [List.getElem?_cons_succ] at h; simp only [am,List.getElem?_cons_succ]; exact pH h
theorem s9 {α:Type}:∀ {l:List α} {n:Nat} {a b:α},am (am l n a) n b=am l n b
 | [],n,a,b=>rfl
 | c :: l,0,a,b=>rfl
 | c :: l,n + 1,a,b=>by simp only [am,s9]
theorem RL.zO {y v:TV} {ll:List (List Nat)} (hy:RL (some true) 1 (RIL (some true)) y ll) {n:Nat} (he:Go.Ab.pel y n=some [v]):∃ y1,ic [(n,0)] y .hole=some y1/\Go.Ab.slLen y1=some ll.length/\Go.Ab.slSize y1 1=true/\Go.Ab.pel y1 n=some [.hole] /\
  ∀ {v':TV} {l':List Nat},RInts (some true) v' (aS l')->∃ y2,cB [] y1 n 0 [v']=some y2/\RL (some true) 1 (RIL (some true)) y2 (ll.set n l'):=by
 obtain ⟨xs,rfl,hk,hf,hb⟩:=hy.at he
 have hset:am [v] 0 TV.hole=[TV.hole]:=rfl
 refine ⟨.sl true 1 (am xs n [.hole]),?_,?_,rfl,pH hk,fun {v' l'} hv=>?_⟩
 ·simp only [ic,hk,List.getElem?_cons_zero,hset]
 ·simp only [Go.Ab.slLen,iV,hf.length]
 ·refine ⟨.sl true 1 (am xs n [v']),?_,.sl (by simp) (hf.set ⟨v',rfl,hv⟩) (by rw [iV]; exact hb)⟩
  simp only [cB,bF,xT,pH hk,ic]
  rw [s9]
  rfl
theorem iJ (l m:List Nat):aS (l ++ m)=aS l ++ aS m:=by simp [aS]
def l9 (bs:List DBlock) (o:List Int) (k j n:Nat):List Nat:=qg bs o k n ++ mc o k n ((ak bs (blk o k)).take j)
def d6 (bs:List DBlock) (o:List Int) (k j:Nat):List (List Nat):=(List.range o.length).map (l9 bs o k j)
theorem vl (o:List Int) (k n:Nat) (l:List Int):(mc o k n l).length<=l.length:=by
 unfold mc
 rw [List.length_map]
 exact List.length_filter_le _ _
theorem tA (bs:List DBlock) (o:List Int) (n:Nat):∀ k,(qg bs o k n).length<=3 * k
 | 0=>by simp [qg]
 | k + 1=>by
  have h1:=tA bs o n k
  have h2:=vl o k n (ak bs (blk o k))
  have h3:=ep bs (blk o k)
  simp only [qg,List.length_append]
  omega
theorem Bo (bs:List DBlock) (o:List Int) (k j n:Nat):(l9 bs o k j n).length<=3 * k + 3:=by
 have h1:=tA bs o n k
 have h2:=vl o k n ((ak bs (blk o k)).take j)
 have h3:=ep bs (blk o k)
 rw [List.length_take] at h2
 simp only [l9,List.length_append]
 omega
theorem mH {bs:List DBlock} {o:List Int} {k j n:Nat} (h:n < o.length):(d6 bs o k j)[n]? = some (l9 bs o k j n):=by simp [d6,h]
theorem wt (bs:List DBlock) (o:List Int):d6 bs o 0 0=List.replicate o.length []:=by
 apply List.ext_getElem?
 intro n
 rw [List.getElem?_replicate]
 by_cases h:n < o.length
 ·rw [mH h,if_pos h]; simp [l9,qg,mc]
 ·rw [if_neg h,FI (by simp [d6]; omega)]
theorem yH (bs:List DBlock) (o:List Int):d6 bs o o.length 0=(List.range o.length).map (prL bs o):=by
 unfold d6
 refine List.map_congr_left fun n _=>?_
 simp [l9,mc,prL]
theorem xm (bs:List DBlock) (o:List Int) (k:Nat):d6 bs o k (ak bs (blk o k)).length=d6 bs o (k + 1) 0:=by
 unfold d6
 refine List.map_congr_left fun n _=>?_
 simp [l9,qg,mc]
theorem xI {bs:List DBlock} {o:List Int} (hI:OI bs o) {k j n:Nat} (hn:n < o.length) (hg:(ak bs (blk o k))[j]? = some ((blk o n:Nat):Int)):d6 bs o k (j + 1)=(d6 bs o k j).set n (l9 bs o k j n ++ [k]):=by
 apply List.ext_getElem?
 intro m
 by_cases hm:m < o.length
 ·rw [mH hm]
  by_cases hmn:n=m
  ·subst hmn
   rw [List.getElem?_set_self (by simp [d6]; exact hm)]
   simp only [l9,dS hg,mc,List.filter_append,List.map_append,List.append_assoc]
   simp
  ·rw [List.getElem?_set_ne hmn,mH hm]
   simp only [l9,dS hg,mc,List.filter_append,List.map_append]
   have:¬ ((blk o n:Nat):Int)=((blk o m:Nat):Int):=fun e=>hmn (hI.inj hn hm (by omega))
   simp [this]
 ·rw [FI (by simp [d6]; omega),FI (by simp [d6]; omega)]
end Go.Ab
namespace Go.Ab.Q12
open Go Go.Ab Go.Proofs
section
variable {q:Option Bool} {b:TV} {f:DFunc} (hf:RFunc q [I f.params,I f.regs,b] f) (hs:f.blocks.length<=1000) {x:TV} {o:List Int} {qx:Option Bool} (hx:RInts qx x o) (hI:OI f.blocks o) (hol:o.length<=1000)
include hf hs hx hI hol
theorem Eb {w6:TV} {M:List Int} (hM:RInts (some true) w6 M) (hMl:M.length=f.blocks.length) (hMa:∀ n,n < o.length->M[blk o n]? = some ((n:Nat):Int)):∀ (d k:Nat) (w:TV),k + d=o.length->RL (some true) 1 (RIL (some true)) w (d6 f.blocks o k 0) ->
  ∃ y,aa prog 74 (f74_2 x (I o.length) (I k) (I f.params) (I f.regs) b w6 w) y/\RL (some true) 1 (RIL (some true)) y ((List.range o.length).map (prL f.blocks o)):=by
 intro d
 induction d with
 | zero =>
  intro k w hk hw
  have hk:k=o.length:=by omega
  subst hk
  rw [yH] at hw
  refine ⟨w,?_,hw⟩
  unfold f74_2
  exact aa.tv rfl (aa.ite aW nofun fun _=>aa.chk (hw.own fun _ _ h=>h.own) aa.ret)
 | succ d ih =>
  intro k w hk hw
  have hkl:k < o.length:=by omega
  obtain ⟨e,he,rfl,hei⟩:=hx.idx (k:=.i64) (hI.at_ hkl)
  obtain ⟨v,hv,hvr⟩:=r71 hf ((blk o k:Nat):Int)
  rw [gA] at hvr
  have hnl:=ep f.blocks (blk o k)
  have inner:∀ (c j:Nat) (w:TV),j + c=(ak f.blocks (blk o k)).length->RL (some true) 1 (RIL (some true)) w (d6 f.blocks o k j) ->
    ∃ y,aa prog 74 (f74_3 (I k) x (I o.length) (I k) (I (ak f.blocks (blk o k)).length) (I j) (I f.params) (I f.regs) b w6 w v) y/\RL (some true) 1 (RIL (some true)) y ((List.range o.length).map (prL f.blocks o)):=by
   intro c
   induction c with
   | zero =>
    intro j w hj hw
    have hj:j=(ak f.blocks (blk o k)).length:=by omega
    subst hj
    rw [xm] at hw
    obtain ⟨y,hy,hr⟩:=ih (k + 1) w (by omega) hw
    refine ⟨y,?_,hr⟩
    unfold f74_3
    exact aa.tv rfl (aa.ite aW nofun fun _=>aa.tv (inc hkl (by omega)) (f74_2_J hy))
   | succ c ihc =>
    intro j w hj hw
    have hjl:j < (ak f.blocks (blk o k)).length:=by omega
    obtain ⟨g,hgg⟩:∃ g,g=(ak f.blocks (blk o k))[j]:=⟨_,rfl⟩
    have hg:(ak f.blocks (blk o k))[j]? = some g:=by rw [hgg]; exact Fx hjl
    have hgm:=FF hg
    have hgt:=aH hgm
    obtain ⟨n,hn,hnb⟩:=hI.rank (Rc.next (hI.rc hkl) hgm (by omega))
    have hgn:g=((blk o n:Nat):Int):=by omega
    subst hgn
    obtain ⟨e1,he1,rfl,_⟩:=hvr.pel hg
    obtain ⟨e2,he2,rfl,_⟩:=hM.pel (hMa n hn)
    obtain ⟨e3,he3,u,rfl,hu⟩:=hw.pel (mH (k:=k) (j:=j) hn)
    have hlen:=Bo f.blocks o k j n
    obtain ⟨u',hu1,hu2⟩:=hu.app (e:=[I k]) (a:=(k:Int)) ⟨rfl,by constructor <;> omega⟩ (by simp only [aS,List.length_map]; omega)
    obtain ⟨w1,t1,t2,t3,t4,t5⟩:=hw.zO he3
    obtain ⟨w2,s1,s2⟩:=t5 (v':=u') (l':=l9 f.blocks o k j n ++ [k]) (by rw [iJ]; exact hu2)
    rw [<- xI hI hn hg] at s2
    obtain ⟨y,hy,hr⟩:=ihc (j + 1) w2 (by omega) s2
    refine ⟨y,?_,hr⟩
    have hblt:=hI.ip hn
    have hrl:(d6 f.blocks o k j).length=o.length:=by simp [d6]
    have anb:ac (nth TV.hole [I ((blk o n:Nat):Int)] 0)=some (blk o n):=ah (by omega)
    have ann:ac (nth TV.hole [I ((n:Nat):Int)] 0)=some n:=ah (by omega)
    have c9:(Bool.and (slSize w6 1) (Nat.blt (blk o n) M.length))=true:=by rw [hM.slSize]; simp; omega
    unfold f74_3
    refine aa.tv rfl (aa.ite (aQ hjl) (fun _=>?_) nofun)
    refine aa.nat hvr.slLen (aa.nat (ah (by omega)) (aa.chk ?_ (aa.tvs he1 (aa.chk rfl ?_))))
    ·rw [hvr.slSize]; simpa using hjl
    refine aa.nat hM.slLen (aa.nat anb (aa.chk c9 (aa.tvs he2 (aa.chk rfl ?_))))
    refine aa.nat hM.slLen (aa.nat anb (aa.chk c9 (aa.tvs he2 (aa.chk rfl ?_))))
    refine aa.nat hw.slLen (aa.nat ann (aa.chk ?_ (aa.tvs he3 (aa.chk (aK hu.isSl) (aa.chk rfl (aa.rws rfl ?_))))))
    ·rw [hw.slSize,hrl]; simpa using hn
    refine aa.tv (hw.deep he3 (j:=0) (z:=u) rfl) (aa.tv hu1 (aa.tv t1 ?_))
    refine aa.nat t2 (aa.nat ann (aa.chk ?_ (aa.tvs t4 (aa.chk ?_ (aa.tv s1 (aa.tv (inc hjl (by omega)) (f74_3_J hy)))))))
    ·rw [t3,hrl]; simpa using hn
    ·rw [aK hu2.isSl]; rfl
  obtain ⟨y,hy,hr⟩:=inner _ 0 w (Nat.zero_add _) hw
  refine ⟨y,?_,hr⟩
  unfold f74_2
  exact aa.tv rfl (aa.ite (aQ hkl) (fun _=>aa.tvs he (aa.chk rfl (aa.call hv (aa.chk (aK hvr.isSl) (aa.tv hvr.len (f74_3_J hy)))))) nofun)
theorem befOf:∀ (d k:Nat) (w:TV) (M:List Int),k + d=o.length->RInts (some true) w M->M.length=f.blocks.length->(∀ n,n < k->M[blk o n]? = some ((n:Nat):Int)) ->
  ∃ y,aa prog 74 (f74_0 x x (I o.length) (I k) (I f.params) (I f.regs) b w) y/\RL (some true) 1 (RIL (some true)) y ((List.range o.length).map (prL f.blocks o)):=by
 intro d
 induction d with
 | zero =>
  intro k w M hk hw hl hm
  have hk:k=o.length:=by omega
  subst hk
  obtain ⟨y,hy,hr⟩:=Eb hf hs hx hI hol hw hl hm o.length 0 _ (by omega) (by rw [wt]; exact rI (n:=o.length) (by omega))
  refine ⟨y,?_,hr⟩
  unfold f74_0
  refine aa.tv rfl (aa.ite aW nofun fun _=>f74_1_J ?_)
  have hn:ac (I (o.length:Nat))=some o.length:=ah (by omega)
  unfold f74_1
  exact aa.tv hx.len (aa.nat hn (aa.nat hn (aa.chk (by simp; omega) (aa.tv hx.len (f74_2_J hy)))))
 | succ d ih =>
  intro k w M hk hw hl hm
  have hkl:k < o.length:=by omega
  obtain ⟨e,he,rfl,hei⟩:=hx.idx (k:=.i64) (hI.at_ hkl)
  have hblt:=hI.ip hkl
  have hbM:blk o k < M.length:=by omega
  obtain ⟨e2,he2,rfl,_⟩:=hw.pel (Fx hbM)
  obtain ⟨w',c1,c2⟩:=hw.iy he2 (d:=0) (ys:=[I k]) (a:=(k:Int)) ⟨rfl,by constructor <;> omega⟩
  obtain ⟨y,hy,hr⟩:=ih (k + 1) w' _ (by omega) c2 (by simpa using hl) (fun n hn=>by
   by_cases e:n=k
   ·subst e; exact List.getElem?_set_self hbM
   ·rw [List.getElem?_set_ne (fun h=>e (hI.inj (by omega) hkl h.symm))]
    exact hm n (by omega))
  refine ⟨y,?_,hr⟩
  unfold f74_0
  refine aa.tv rfl (aa.ite (aQ hkl) (fun _=>aa.tvs he (aa.chk rfl ?_)) nofun)
  refine aa.nat hw.slLen (aa.nat (ah (by omega)) (aa.chk ?_ (aa.chk rfl (aa.tvs he2 (aa.chk rfl (aa.tv c1 (aa.tv (inc hkl (by omega)) (f74_0_J hy))))))))
  rw [hw.slSize]; simpa using hbM
end
theorem Cg {q:Option Bool} {e:List TV} {f:DFunc} (he:RFunc q e f) (hs:f.blocks.length<=1000) {x:TV} {o:List Int} {qx:Option Bool} (hx:RInts qx x o) (hI:OI f.blocks o) (hol:o.length<=1000) :
  ∃ y,ba prog 74 [.agg e,x] y/\RL (some true) 1 (RIL (some true)) y ((List.range o.length).map (prL f.blocks o)):=by
 have he0:=he
 obtain ⟨b,rfl,hb,_⟩:=he
 obtain ⟨y,hy,hr⟩:=befOf he0 hs hx hI hol o.length 0 _ _ (by omega) (lL (n:=f.blocks.length) (a:=0) ⟨by decide,by decide⟩ (by omega)) (by simp) (fun n hn=>absurd hn (Nat.not_lt_zero _))
 refine ⟨y,?_,hr⟩
 have hn:ac (I (f.blocks.length:Nat))=some f.blocks.length:=ah (by omega)
 refine ba.of (f74_MR _ _) ?_
 unfold f74_M
 exact aa.chk rfl (aa.tv hb.len (aa.nat hn (aa.nat hn (aa.chk (by simp; omega) (aa.tv hx.len (f74_0_J hy))))))
end Go.Ab.Q12
end
section
set_option maxRecDepth 10000
namespace Go.Ab
theorem RL.Fv {α:Type} {q:Option Bool} {s:Nat} {R:List TV->α->Prop} {x:TV} {l:List α} (h:RL q s R x l) (hl:l≠[]):∃ o xs,x=.sl o s xs/\F2 R xs l:=by
 rcases h with ⟨_,rfl⟩ | ⟨o,xs,rfl,_,h,_⟩
 ·exact absurd rfl hl
 ·exact ⟨o,xs,rfl,h⟩
def fT (p:Nat->Nat) (N n:Nat):List Int:=(List.range N).map fun i=>if i≠0/\i < n then ((p i:Nat):Int) else 0
theorem j0 {p:Nat->Nat} {N n i:Nat} (h:i < N):(fT p N n)[i]? = some (if i≠0/\i < n then ((p i:Nat):Int) else 0):=by simp [fT,h]
theorem wg (p:Nat->Nat) (N:Nat):fT p N 1=List.replicate N 0:=by
 apply List.ext_getElem?
 intro i
 rw [List.getElem?_replicate]
 by_cases h:i < N
 ·rw [j0 h,if_pos h,if_neg (by omega)]
 ·rw [if_neg h,FI (by simp [fT]; omega)]
theorem wP {p:Nat->Nat} {N n:Nat} (h0:n≠0) (h:n < N):fT p N (n + 1)=(fT p N n).set n ((p n:Nat):Int):=by
 apply List.ext_getElem?
 intro i
 by_cases hi:i < N
 ·rw [j0 hi]
  by_cases e:n=i
  ·subst e
   rw [List.getElem?_set_self (by simp [fT]; exact h),if_pos ⟨h0,by omega⟩]
  ·rw [List.getElem?_set_ne e,j0 hi]
   by_cases h2:i≠0/\i < n
   ·rw [if_pos h2,if_pos ⟨h2.1,by omega⟩]
   ·rw [if_neg h2,if_neg (by omega)]
 ·rw [FI (by simp [fT]; omega),FI (by simp [fT]; omega)]
theorem zr (bs:List DBlock) (o:List Int) {n:Nat} (h:o.length<=n):iq o.length (fT (p0L bs o) o.length n) (p0Z bs o):=by
 refine ⟨by simp [fT],fun i hi=>?_⟩
 rw [j0 hi]
 unfold p0Z
 by_cases h0:i=0
 ·rw [if_pos h0,if_neg (by omega)]; rfl
 ·rw [if_neg h0,if_pos ⟨h0,by omega⟩]
theorem iq.upd {N:Nat} {l:List Int} {T:Nat->Nat} (h:iq N l T) {m v:Nat} (hm:m < N):iq N (l.set m ((v:Nat):Int)) (nw T m v):=by
 refine ⟨by rw [List.length_set]; exact h.1,fun n hn=>?_⟩
 by_cases e:m=n
 ·subst e; rw [iE,List.getElem?_set_self (by rw [h.1]; exact hm)]
 ·rw [gD (Ne.symm e),List.getElem?_set_ne e]; exact h.2 n hn
end Go.Ab
namespace Go.Ab.Q12
open Go Go.Ab Go.Proofs
theorem zL {y2 y3:TV} {q:Bool} {ov:List (List TV)} {o:List Int} (ho:F2 RI1 ov o) {a b r:Int} (h:Both o a b r):aa prog 91 (f91_0 (I a) (I b) y2 y3 (.sl q 1 ov)) (I r):=by
 induction h with
 | @done a =>
  unfold f91_0
  exact aa.tv rfl (aa.ite (v:=false) (by simp [asBool]) nofun fun _=>aa.ret)
 | @left a b a' r h1 h2 h3 h4 _ ih =>
  obtain ⟨e,he,rfl,_⟩:=ho.get h4
  unfold f91_0
  refine aa.tv rfl (aa.ite (v:=true) (by simp [asBool,h1]) (fun _=>aa.tv rfl (aa.ite (v:=true) (by simp [asBool]; omega) (fun _=>?_) nofun)) nofun)
  exact aa.tvs (v:=[I a']) (by simp [pidx,h3,he]) (aa.chk rfl (f91_0_J ih))
 | @right a b b' r h1 h2 h3 h4 _ ih =>
  obtain ⟨e,he,rfl,_⟩:=ho.get h4
  unfold f91_0
  refine aa.tv rfl (aa.ite (v:=true) (by simp [asBool,h1]) (fun _=>aa.tv rfl (aa.ite (v:=false) (by simp [asBool]; omega) nofun fun _=>?_)) nofun)
  exact aa.tvs (v:=[I b']) (by simp [pidx,h3,he]) (aa.chk rfl (f91_0_J ih))
theorem rBoth8 {x0 x1:TV} {q:Bool} {ov:List (List TV)} {o:List Int} (ho:F2 RI1 ov o) {a b r:Int} (h:Both o a b r):ba prog 91 [.agg [x0,x1,.sl q 1 ov],I a,I b] (I r):=by
 refine ba.of (f91_MR _ _ _) ?_
 unfold f91_M
 exact aa.chk rfl (f91_0_J (zL ho h))
theorem BF {y2 y3:TV} {q q':Bool} {ov ls:List (List TV)} {o l:List Int} (ho:F2 RI1 ov o) (hl:F2 RI1 ls l) (h1:l.length<=1000000):∀ (k:Nat) (v r:Int),k<=l.length->Bths o v (l.take k).reverse r ->
  aa prog 75 (f75_0 (I ((k:Int) - 1)) (.sl q' 1 ls) y2 y3 (.sl q 1 ov) (I v)) (I r):=by
 intro k
 induction k with
 | zero =>
  intro v r _ h
  cases h
  unfold f75_0
  exact aa.tv rfl (aa.ite (v:=false) (by simp [asBool]) nofun fun _=>aa.ret)
 | succ k ih =>
  intro v r hk h
  have hlt:k < l.length:=by omega
  rw [List.take_succ_eq_append_getElem hlt,List.reverse_append] at h
  simp only [List.reverse_cons,List.reverse_nil,List.nil_append,List.cons_append] at h
  cases h with
  | @cons _ n v' _ _ hb ht =>
   obtain ⟨e,he,rfl,hei⟩:=hl.get (Fx hlt)
   have e1:(((k + 1:Nat):Int) - 1)=(k:Int):=by omega
   rw [e1]
   have hsub:pbin (Kd.int IntKind.i64) BinOp.sub (I (k:Int)) (I 1)=some (I ((k:Int) - 1)):=by
    show some (I (IntKind.wrap .i64 ((k:Int) - 1)))=_
    rw [show IntKind.wrap .i64 ((k:Int) - 1)=(k:Int) - 1 by rw [IntKind.wrap_i64]; omega]
   unfold f75_0
   refine aa.tv rfl (aa.ite (v:=true) (by simp [asBool]) (fun _=>?_) nofun)
   exact aa.tvs (v:=[I l[k]]) (by simp [pidx,he]) (aa.chk rfl (aa.call (rBoth8 ho hb) (aa.chk rfl (aa.tv hsub (f75_0_J (ih v' r (by omega) ht))))))
theorem rAll8 {a b wv v:TV} {qa qb:Option Bool} {l:List Int} {T:Nat->Nat} {N:Nat} {ls:List Nat} (hw:RInts qa wv l) (hv:RInts qb v (aS ls)) (hT:iq N l T) (hL:Low N T) (h0:ls≠[]) (hN:∀ p ∈ ls,p < N) (hN1:N<=1000000) (hl1:ls.length<=1000000) {r:Nat} (hr:AllP l (aS ls) r) :
  ba prog 75 [.agg [a,b,wv],v] (I (r:Int)):=by
 have hpos:0 < N:=by
  cases ls with
  | nil=>exact absurd rfl h0
  | cons p ls=>exact Nat.lt_of_le_of_lt (Nat.zero_le _) (hN p FD)
 have hlp:0 < ls.length:=List.length_pos_iff.2 h0
 have hcl:(aS ls).length=ls.length:=by simp [aS]
 obtain ⟨o1,xs,rfl,hf⟩:=hw.Fv (by rintro rfl; have:=hT.1; simp at this; omega)
 obtain ⟨o2,ys,rfl,hg⟩:=hv.Fv (by intro e; simp [aS] at e; exact h0 e)
 obtain ⟨z,hz,hb⟩:=hr
 have hzl:(aS ls)[ls.length - 1]? = some z:=by rw [List.getLast?_eq_getElem?,hcl] at hz; exact hz
 obtain ⟨e,he,rfl,hei⟩:=hg.get hzl
 have hsub:pbin (Kd.int IntKind.i64) BinOp.sub (I ((aS ls).length:Nat)) (I 1)=some (I ((ls.length:Int) - 1)):=by
  show some (I (IntKind.wrap .i64 (((aS ls).length:Int) - 1)))=_
  rw [hcl,show IntKind.wrap .i64 ((ls.length:Int) - 1)=(ls.length:Int) - 1 by rw [IntKind.wrap_i64]; omega]
 have hpi:pidx 1 (.sl o2 1 ys) (I ((ls.length:Int) - 1))=some [I z]:=by
  have e1:(((ls.length:Int) - 1)).toNat=ls.length - 1:=by omega
  simp [pidx,e1,he]
  omega
 refine ba.of (f75_MR _ _) ?_
 unfold f75_M
 refine aa.chk rfl (aa.tv hv.len (aa.tv hsub (aa.tvs hpi (aa.chk rfl (aa.chk rfl (aa.tv hv.len (aa.tv hsub (f75_0_J ?_))))))))
 have:=BF (y2:=a) (y3:=b) (q:=o1) (q':=o2) hf hg (by rw [hcl]; exact hl1) (aS ls).length z r (Nat.le_refl _) (by rw [List.take_length]; exact hb)
 rw [hcl] at this
 exact this
theorem rRank8 {q:Option Bool} {e:List TV} {f:DFunc} (he:RFunc q e f) (hs:f.blocks.length<=1000):∃ v0 v1 v2 o l,ba prog 55 [.agg e] (.agg [v0,v1,v2])/\we f.blocks o/\RInts (some true) v0 o /\
  RL (some true) 1 (RIL (some true)) v1 ((List.range o.length).map (prL f.blocks o))/\RInts (some true) v2 l/\iq o.length l (p0Z f.blocks o):=by
 have he0:=he
 obtain ⟨b,rfl,hb,_⟩:=he
 obtain ⟨v0,o,hv0,k0,hO⟩:=r80 he0 hs
 have hI:=hO.keeps
 have hol:o.length<=1000:=Nat.le_trans hI.len hs
 obtain ⟨v1,hv1,k1⟩:=Cg he0 hs (k0.frz fun _ _ h=>h.frz) hI hol
 have loop:∀ (d n:Nat) (w:TV),o.length - n<=d->n≠0->RInts (some true) w (fT (p0L f.blocks o) o.length n)->∃ v2 l,aa prog 55 (f55_0 (I n) v0 v1 w) (.agg [v0,v1,v2])/\RInts (some true) v2 l/\iq o.length l (p0Z f.blocks o):=by
  intro d
  have fin:∀ (n:Nat) (w:TV),o.length<=n->n≠0->RInts (some true) w (fT (p0L f.blocks o) o.length n)->∃ v2 l,aa prog 55 (f55_0 (I n) v0 v1 w) (.agg [v0,v1,v2])/\RInts (some true) v2 l/\iq o.length l (p0Z f.blocks o):=by
   intro n w hn h0 hw
   refine ⟨w,_,?_,hw,zr f.blocks o hn⟩
   unfold f55_0
   refine aa.tv k0.len (aa.tv rfl (aa.ite (v:=false) (by simp [asBool]; omega) nofun fun _=>aa.chk ?_ aa.ret))
   have o0:=k0.own fun _ _ h=>h.own
   have o1:=k1.own fun _ _ h=>h.own
   have o2:=hw.own fun _ _ h=>h.own
   simp [bQ,dG,o0,o1,o2]
  induction d with
  | zero=>intro n w hd h0 hw; exact fin n w (by omega) h0 hw
  | succ d ih =>
   intro n w hd h0 hw
   by_cases hn:n < o.length
   ·obtain ⟨p,hp,_⟩:=hI.low h0 hn
    have hne:prL f.blocks o n≠[]:=fun e=>by rw [e] at hp; cases hp
    have hlen:0 < (prL f.blocks o n).length:=List.length_pos_iff.2 hne
    obtain ⟨e1,he1,u,rfl,hu⟩:=k1.pel (i:=n) (a:=prL f.blocks o n) (by simp [hn])
    obtain ⟨e2,he2,rfl,hei⟩:=hu.pel (i:=0) (a:=((p0L f.blocks o n:Nat):Int)) (by simp only [aS,FC,p0_at hne,FJ])
    obtain ⟨e3,he3,rfl,_⟩:=hw.pel (j0 hn)
    obtain ⟨w',c1,c2⟩:=hw.iy he3 (d:=0) (ys:=[I (p0L f.blocks o n:Nat)]) (a:=((p0L f.blocks o n:Nat):Int)) ⟨rfl,hei⟩
    rw [<- wP h0 hn] at c2
    obtain ⟨v2,l,hy,r1,r2⟩:=ih (n + 1) w' (by omega) (by omega) c2
    refine ⟨v2,l,?_,r1,r2⟩
    have ann:ac (I (n:Nat))=some n:=ah (by omega)
    have hgp:=k1.deep he1 (j:=0) (z:=u) rfl
    unfold f55_0
    refine aa.tv k0.len (aa.tv rfl (aa.ite (v:=true) (by simp [asBool]; omega) (fun _=>?_) nofun))
    refine aa.nat k1.slLen (aa.nat ann (aa.chk ?_ (aa.tvs he1 (aa.chk (aK hu.isSl) (aa.tv hgp (aa.nat hu.slLen (aa.nat (v:=0) rfl (aa.chk ?_ (aa.tv hgp (aa.tvs he2 (aa.chk rfl ?_)))))))))))
    ·rw [k1.slSize]; simp; omega
    ·rw [hu.slSize]; simp [aS]; omega
    refine aa.nat hw.slLen (aa.nat ann (aa.chk ?_ (aa.tvs he3 (aa.chk rfl (aa.tv c1 (aa.tv (inc hn (by omega)) (f55_0_J hy)))))))
    rw [hw.slSize]; simp [fT]; omega
   ·exact fin n w (by omega) h0 hw
 obtain ⟨v2,l,hy,r1,r2⟩:=loop o.length 1 _ (by omega) (by omega) (by rw [wg]; exact lL (n:=o.length) (a:=0) ⟨by decide,by decide⟩ (by omega))
 refine ⟨v0,v1,v2,o,l,?_,hO,k0,k1,r1,r2⟩
 have hn:ac (I (o.length:Nat))=some o.length:=ah (by omega)
 refine ba.of (f55_MR _) ?_
 unfold f55_M
 exact aa.chk rfl (aa.call hv0 (aa.chk (aK k0.isSl) (aa.call hv1 (aa.chk (aK k1.isSl) (aa.tv k0.len (aa.nat hn (aa.nat hn (aa.chk (by simp; omega) (f55_0_J hy)))))))))
section
variable {q:Option Bool} {b:TV} {f:DFunc} (hb:RL q 14 (RBlock q) b f.blocks) (hs:f.blocks.length<=1000) {v0 v1:TV} {o:List Int} (hI:OI f.blocks o) (hol:o.length<=1000) (k0:RInts (some true) v0 o) (k1:RL (some true) 1 (RIL (some true)) v1 ((List.range o.length).map (prL f.blocks o)))
include hb hs hI hol k0
theorem D0 {w4:TV} {l:List Int} {T:Nat->Nat} (k4:RInts (some true) w4 l) (hT:iq o.length l T) (hL:Low o.length T) (hov:∀ n,n≠0->n < o.length->ovN f.blocks (blk o n)=((blk o (T n):Nat):Int)):∀ (d n:Nat) (w:TV) (M:List Int),o.length - n<=d->n≠0->RInts (some true) w M->M.length=f.blocks.length ->
  (∀ i,i≠0->i < n->i < o.length->M[blk o i]? = some ((blk o (T i):Nat):Int))->(∀ b,b < f.blocks.length->(∀ i,i≠0->i < n->i < o.length->blk o i≠b)->M[b]? = some (-1)) ->
  ∃ y,aa prog 31 (f31_5 (I n) w v0 v1 w4) y/\RInts (some true) y (iR f.blocks):=by
 have fin : ∀ (n : Nat) (w : TV) (M : List Int), o.length ≤ n → n ≠ 0 → RInts (some true) w M → M.length = f.blocks.length →
   (∀ i,i≠0->i < n->i < o.length->M[blk o i]? = some ((blk o (T i):Nat):Int))->(∀ b,b < f.blocks.length->(∀ i,i≠0->i < n->i < o.length->blk o i≠b)->M[b]? = some (-1)) ->
   ∃ y,aa prog 31 (f31_5 (I n) w v0 v1 w4) y/\RInts (some true) y (iR f.blocks):=by
  intro n w M hn h0 hw hl hm hm2
  have e:M=iR f.blocks:=by
   apply List.ext_getElem?
   intro c
   by_cases hc:c < f.blocks.length
   ·rw [pM hc]
    by_cases hr:Rc f.blocks (-1) c/\c≠0
    ·obtain ⟨i,hi,rfl⟩:=hI.rank hr.1
     have hi0:i≠0:=fun e=>by
      subst e
      exact hr.2 (hI.zero (by rintro e; rw [e] at hc; cases hc)).2
     rw [hm i hi0 (by omega) hi,hov i hi0 hi]
    ·rw [Dk hr]
     refine hm2 c hc fun i hi0 _ hi e=>hr ?_
     subst e
     refine ⟨hI.rc hi,fun e=>hi0 ?_⟩
     have hz:=hI.zero (by rintro e; rw [e] at hc; cases hc)
     exact hI.inj hi hz.1 (by rw [e,hz.2])
   ·rw [FI (by omega),FI (by rw [qj]; omega)]
  subst e
  refine ⟨w,?_,hw⟩
  unfold f31_5
  exact aa.tv k0.len (aa.tv rfl (aa.ite (v:=false) (by simp [asBool]; omega) nofun fun _=>aa.chk (hw.own fun _ _ h=>h.own) aa.ret))
 intro d
 induction d with
 | zero=>intro n w M hd h0 hw hl hm hm2; exact fin n w M (by omega) h0 hw hl hm hm2
 | succ d ih =>
  intro n w M hd h0 hw hl hm hm2
  by_cases hn:n < o.length
  ·have hlow:=hL n h0 hn
   have htn:T n < o.length:=by omega
   have hblt:=hI.ip hn
   have hbt:=hI.ip htn
   obtain ⟨e1,he1,rfl,_⟩:=k0.pel (hI.at_ hn)
   obtain ⟨e2,he2,rfl,_⟩:=k4.pel (hT.2 n hn)
   obtain ⟨e3,he3,rfl,hei⟩:=k0.pel (hI.at_ htn)
   have hbM:blk o n < M.length:=by omega
   obtain ⟨e4,he4,rfl,_⟩:=hw.pel (Fx hbM)
   obtain ⟨w',c1,c2⟩:=hw.iy he4 (d:=0) (ys:=[I (blk o (T n):Nat)]) (a:=((blk o (T n):Nat):Int)) ⟨rfl,hei⟩
   obtain ⟨y,hy,hr⟩:=ih (n + 1) w' _ (by omega) (by omega) c2 (by rw [List.length_set]; exact hl) (fun i hi0 hin hil=>by
    by_cases e:i=n
    ·subst e; exact List.getElem?_set_self hbM
    ·rw [List.getElem?_set_ne (fun h=>e (hI.inj hil hn h.symm))]
     exact hm i hi0 (by omega) hil) (fun c hc hno=>by
    rw [List.getElem?_set_ne (hno n h0 (by omega) hn)]
    exact hm2 c hc fun i hi0 hin hil=>hno i hi0 (by omega) hil)
   refine ⟨y,?_,hr⟩
   have ann:ac (I (n:Nat))=some n:=ah (by omega)
   have hl4:l.length=o.length:=hT.1
   unfold f31_5
   refine aa.tv k0.len (aa.tv rfl (aa.ite (v:=true) (by simp [asBool]; omega) (fun _=>?_) nofun))
   refine aa.nat k0.slLen (aa.nat ann (aa.chk ?_ (aa.tvs he1 (aa.chk rfl (aa.nat k4.slLen (aa.nat ann (aa.chk ?_ (aa.tvs he2 (aa.chk rfl ?_)))))))))
   ·rw [k0.slSize]; simp; omega
   ·rw [k4.slSize]; simp; omega
   refine aa.nat k0.slLen (aa.nat (ah (k:=T n) (by omega)) (aa.chk ?_ (aa.tvs he3 (aa.chk rfl (aa.nat hw.slLen (aa.nat (ah (k:=blk o n) (by omega)) (aa.chk ?_ (aa.tvs he4 (aa.chk rfl (aa.tv c1 (aa.tv (inc hn (by omega)) (f31_5_J hy))))))))))))
   ·rw [k0.slSize]; simp; omega
   ·rw [hw.slSize]; simp; omega
  ·exact fin n w M (by omega) h0 hw hl hm hm2
theorem EF {w4:TV} {l:List Int} {T:Nat->Nat} (k4:RInts (some true) w4 l) (hT:iq o.length l T) (hL:Low o.length T) (hov:∀ n,n≠0->n < o.length->ovN f.blocks (blk o n)=((blk o (T n):Nat):Int)):∀ (d k:Nat) (w:TV) (M:List Int),k + d=f.blocks.length->RInts (some true) w M->M.length=f.blocks.length->(∀ i,i < k->M[i]? = some (-1)) ->
  ∃ y,aa prog 31 (f31_3 (I f.blocks.length) (I k) w v0 v1 w4) y/\RInts (some true) y (iR f.blocks):=by
 intro d
 induction d with
 | zero =>
  intro k w M hk hw hl hm
  have hk:k=f.blocks.length:=by omega
  subst hk
  obtain ⟨y,hy,hr⟩:=D0 hb hs hI hol k0 (v1:=v1) k4 hT hL hov o.length 1 w M (by omega) (by omega) hw hl (fun i h0 h1=>by omega) (fun c hc _=>hm c hc)
  refine ⟨y,?_,hr⟩
  unfold f31_3
  refine aa.tv rfl (aa.ite aW nofun fun _=>f31_4_J ?_)
  unfold f31_4
  exact f31_5_J hy
 | succ d ih =>
  intro k w M hk hw hl hm
  have hkl:k < f.blocks.length:=by omega
  have hkM:k < M.length:=by omega
  obtain ⟨e4,he4,rfl,_⟩:=hw.pel (Fx hkM)
  obtain ⟨w',c1,c2⟩:=hw.iy he4 (d:=0) (ys:=[I (-1)]) (a:=-1) ⟨rfl,⟨by decide,by decide⟩⟩
  obtain ⟨y,hy,hr⟩:=ih (k + 1) w' _ (by omega) c2 (by rw [List.length_set]; exact hl) (fun i hi=>by
   by_cases e:k=i
   ·subst e; exact List.getElem?_set_self hkM
   ·rw [List.getElem?_set_ne e]; exact hm i (by omega))
  refine ⟨y,?_,hr⟩
  unfold f31_3
  refine aa.tv rfl (aa.ite (aQ hkl) (fun _=>?_) nofun)
  refine aa.nat hw.slLen (aa.nat (ah (by omega)) (aa.chk ?_ (aa.tvs he4 (aa.chk rfl (aa.tv c1 (aa.tv (inc hkl (by omega)) (f31_3_J hy)))))))
  rw [hw.slSize]; simp; omega
include k1
theorem D8 {p0 : Nat → Nat} (hG : Grf o.length (prL f.blocks o) p0) : ∀ (z : Nat) (w : TV) (l : List Int) (T : Nat → Nat), high T o.length < z → RInts (some true) w l → iq o.length l T → TI o.length (prL f.blocks o) p0 1 T →
  ∃ y,aa prog 31 (f31_0 (I f.params) (I f.regs) b v0 v1 w) y/\RInts (some true) y (iR f.blocks):=by
 intro z
 induction z with
 | zero=>intro w l T hz; omega
 | succ z ihz =>
  intro w0 l0 T0 hz0 hw0 hT0 hTI0
  have sweep : ∀ (d n : Nat) (c : Bool) (w : TV) (l : List Int) (T : Nat → Nat), o.length - n ≤ d → n ≠ 0 → RInts (some true) w l → iq o.length l T → TI o.length (prL f.blocks o) p0 n T → high T o.length ≤ high T0 o.length → (c = true → high T o.length < high T0 o.length) →
    (c=false->∀ i,i≠0->i < n->i < o.length->∀ x,Up T (T i) x ↔ ∀ p ∈ prL f.blocks o i,Up T p x) ->
    ∃ y,aa prog 31 (f31_1 (B c) (I n) (I f.params) (I f.regs) b v0 v1 w) y/\RInts (some true) y (iR f.blocks):=by
   have fin:∀ (n:Nat) (c:Bool) (w:TV) (l:List Int) (T:Nat->Nat),o.length<=n->n≠0->RInts (some true) w l->iq o.length l T->TI o.length (prL f.blocks o) p0 n T->(c=true->high T o.length < high T0 o.length) ->
     (c=false->∀ i,i≠0->i < n->i < o.length->∀ x,Up T (T i) x ↔ ∀ p ∈ prL f.blocks o i,Up T p x) ->
     ∃ y,aa prog 31 (f31_1 (B c) (I n) (I f.params) (I f.regs) b v0 v1 w) y/\RInts (some true) y (iR f.blocks):=by
    intro n c w l T hn h0 hw hT hTI hc1 hc0
    have hl:l.length=o.length:=hT.1
    cases c with
    | true =>
     obtain ⟨y,hy,hr⟩:=ihz w l T (by have:=hc1 rfl; omega) hw hT (hTI.again hn)
     refine ⟨y,?_,hr⟩
     unfold f31_1
     exact aa.tv hw.len (aa.tv rfl (aa.ite (v:=false) (by simp [asBool]; omega) nofun fun _=>aa.ite (v:=true) rfl (fun _=>f31_0_J hy) nofun))
    | false =>
     obtain ⟨y,hy,hr⟩:=EF hb hs hI hol k0 (v1:=v1) hw hT hTI.low (fun i h0 hi=>hI.ov hG hTI (fun n h0 hn=>hc0 rfl n h0 (by omega) hn) h0 hi) f.blocks.length 0 _ _ (by omega) (lL (n:=f.blocks.length) (a:=0) ⟨by decide,by decide⟩ (by omega)) (by simp) (fun i hi=>absurd hi (Nat.not_lt_zero _))
     refine ⟨y,?_,hr⟩
     have hnb:ac (I (f.blocks.length:Nat))=some f.blocks.length:=ah (by omega)
     unfold f31_1
     refine aa.tv hw.len (aa.tv rfl (aa.ite (v:=false) (by simp [asBool]; omega) nofun fun _=>aa.ite (v:=false) rfl nofun fun _=>f31_2_J ?_))
     unfold f31_2
     exact aa.tv hb.len (aa.nat hnb (aa.nat hnb (aa.chk (by simp; omega) (aa.tv (lL (n:=f.blocks.length) (a:=0) ⟨by decide,by decide⟩ (by omega)).len (by
      rw [List.length_replicate]
      exact f31_3_J hy)))))
   intro d
   induction d with
   | zero=>intro n c w l T hd h0 hw hT hTI _ hc1 hc0; exact fin n c w l T (by omega) h0 hw hT hTI hc1 hc0
   | succ d ih =>
    intro n c w l T hd h0 hw hT hTI hhi hc1 hc0
    by_cases hn:n < o.length
    ·have hl:l.length=o.length:=hT.1
     obtain ⟨p,hp,_⟩:=hI.low h0 hn
     have hne:prL f.blocks o n≠[]:=fun e=>by rw [e] at hp; cases hp
     obtain ⟨r,a1,a2,a3⟩:=all_ex hT hTI.low hne (hG.in_ n hn)
     obtain ⟨e1,he1,u,rfl,hu⟩:=k1.pel (i:=n) (a:=prL f.blocks o n) (by simp [hn])
     obtain ⟨e2,he2,rfl,_⟩:=hw.pel (hT.2 n hn)
     have hgp:=k1.deep he1 (j:=0) (z:=u) rfl
     have hplen:(prL f.blocks o n).length<=1000000:=by
      have:=tA f.blocks o n o.length
      unfold prL
      omega
     have hcall:=rAll8 (a:=frz v0) (b:=frz v1) (hw.frz fun _ _ h=>h.frz) (hu.frz fun _ _ h=>h.frz) hT hTI.low hne (hG.in_ n hn) (by omega) hplen a1
     have ann:ac (I (n:Nat))=some n:=ah (by omega)
     have hle:=TI.yD hG hTI h0 hn a3
     have hnx:=TI.next hG hTI h0 hn a3
     have hup:=yu (T:=T) (m:=n) (v:=r) o.length hn
     have front:∀ {y:TV},(r=T n->aa prog 31 (f31_1 (B c) (I ((n + 1:Nat):Int)) (I f.params) (I f.regs) b v0 v1 w) y)->(∀ w',cB [] w n 0 [I (r:Int)]=some w'->r≠T n->aa prog 31 (f31_1 (B true) (I ((n + 1:Nat):Int)) (I f.params) (I f.regs) b v0 v1 w') y)->(∃ w',cB [] w n 0 [I (r:Int)]=some w') ->
       aa prog 31 (f31_1 (B c) (I n) (I f.params) (I f.regs) b v0 v1 w) y:=by
      rintro y g1 g2 ⟨w',hw'⟩
      unfold f31_1
      refine aa.tv hw.len (aa.tv rfl (aa.ite (v:=true) (by simp [asBool]; omega) (fun _=>?_) nofun))
      refine aa.nat k1.slLen (aa.nat ann (aa.chk ?_ (aa.tvs he1 (aa.chk (aK hu.isSl) (aa.tv hgp (aa.call hcall (aa.chk rfl ?_)))))))
      ·rw [k1.slSize]; simp; omega
      refine aa.nat hw.slLen (aa.nat ann (aa.chk ?_ (aa.tvs he2 (aa.chk rfl (aa.tv rfl (aa.ite rfl (fun h=>?_) fun h=>?_))))))
      ·rw [hw.slSize]; simp; omega
      ·have hne:r≠T n:=by
        have h1:((r:Int) != (T n:Int))=true:=h
        have h2:¬ (r:Int)=(T n:Int):=by simpa using h1
        omega
       refine aa.nat hw.slLen (aa.nat ann (aa.chk ?_ (aa.tvs he2 (aa.chk rfl (aa.tv hw' (aa.tv (inc hn (by omega)) (f31_1_J (g2 w' hw' hne))))))))
       rw [hw.slSize]; simp; omega
      ·have hre:r=T n:=by
        have h1:((r:Int) != (T n:Int))=false:=h
        have h2:(r:Int)=(T n:Int):=by simpa using h1
        omega
       exact aa.tv (inc hn (by omega)) (f31_1_J (g1 hre))
     have hrI:inI (r:Int):=by constructor <;> omega
     obtain ⟨w',c1,c2⟩:=hw.iy he2 (d:=0) (ys:=[I (r:Int)]) (a:=(r:Int)) ⟨rfl,hrI⟩
     by_cases e:r=T n
     ·have hsame:nw T n r=T:=by
       funext i
       by_cases hi:i=n
       ·subst hi; rw [iE,e]
       ·rw [gD hi]
      rw [hsame] at hnx
      obtain ⟨y,hy,hr⟩:=ih (n + 1) c w l T (by omega) (by omega) hw hT hnx hhi hc1 (fun hc i hi0 hin hil=>by
       by_cases hi:i=n
       ·subst hi; rw [<- e]; exact a3
       ·exact hc0 hc i hi0 (by omega) hil)
      exact ⟨y,front (fun _=>hy) (fun _ _ h=>absurd e h) ⟨w',c1⟩,hr⟩
     ·obtain ⟨y,hy,hr⟩:=ih (n + 1) true w' _ (nw T n r) (by omega) (by omega) c2 (hT.upd hn) hnx (by omega) (fun _=>by omega) nofun
      refine ⟨y,front (fun h=>absurd h e) (fun w'' h _=>?_) ⟨w',c1⟩,hr⟩
      rw [c1] at h
      cases h
      exact hy
    ·exact fin n c w l T (by omega) h0 hw hT hTI hc1 hc0
  obtain ⟨y,hy,hr⟩:=sweep o.length 1 false w0 l0 T0 (by omega) (by omega) hw0 hT0 hTI0 (Nat.le_refl _) nofun (fun _ i h0 h1=>by omega)
  refine ⟨y,?_,hr⟩
  unfold f31_0
  exact f31_1_J hy
end
theorem rOver8 {q:Option Bool} {e:List TV} {f:DFunc} (he:RFunc q e f) (hs:f.blocks.length<=1000):∃ y,ba prog 31 [.agg e] y/\RInts (some true) y (iR f.blocks):=by
 obtain ⟨v0,v1,v2,o,l,hv,hO,k0,k1,k2,hT⟩:=rRank8 he hs
 have he0:=he
 obtain ⟨b,rfl,hb,_⟩:=he
 have hI:=hO.keeps
 have hol:o.length<=1000:=Nat.le_trans hI.len hs
 obtain ⟨y,hy,hr⟩:=D8 hb hs hI hol k0 k1 hI.grfZ (high (p0Z f.blocks o) o.length + 1) v2 l _ (by omega) k2 hT (TI.start hI.grfZ 1)
 refine ⟨y,?_,hr⟩
 refine ba.of (f31_MR _) ?_
 unfold f31_M
 refine aa.chk rfl (aa.call hv (aa.chk ?_ (f31_0_J hy)))
 show (true && (v0.isSl && (v1.isSl && (v2.isSl && true))))=true
 rw [k0.isSl,k1.isSl,k2.isSl]; rfl
end Go.Ab.Q12
end
section
set_option maxRecDepth 10000
namespace Go.Ab
def DmI (bs:List DBlock) (n:Int) (b:Nat):Prop:=0<=n/\Dm bs n.toNat b
theorem nT {bs:List DBlock} {n b:Nat}:DmI bs (n:Int) b ↔ Dm bs n b:=by simp [DmI]
noncomputable def wJ (bs:List DBlock) (n:Int):List Bool:=(List.range bs.length).map fun b=>tt (DmI bs n b)
theorem xD (bs:List DBlock) (n:Int):(wJ bs n).length=bs.length:=by simp [wJ]
theorem wS {bs:List DBlock} {n:Int} {b:Nat} (h:b < bs.length):(wJ bs n)[b]? = some (tt (DmI bs n b)):=by simp [wJ,h]
theorem OI.yF {bs:List DBlock} {o:List Int} (hI:OI bs o) {x:Nat} (hx:x < o.length):∀ (n:Nat),n < o.length->Dm bs (blk o x) (blk o n)->x<=n:=by
 intro n
 induction n using Nat.strongRecOn with
 | _ n ih =>
  intro hn h
  by_cases e:x=n
  ·omega
  ·by_cases h0:n=0
   ·subst h0
    have hb:bs≠[]:=fun e=>by have:=hI.ip hn; rw [e] at this; cases this
    have hz:=(hI.zero hb).2
    rw [hz] at h
    have:=h.anti (.zero h.up)
    have:=hI.inj hx hn (by rw [this,hz])
    omega
   ·obtain ⟨p,hp,hpn⟩:=hI.low h0 hn
    obtain ⟨q1,q2⟩:=oY.1 hp
    have:=Dm.step (a:=blk o x) (hI.rc q1) q2 (by simpa using h) (fun e2=>e (hI.inj hx hn (by omega)))
    have:=ih p hpn q1 this
    omega
end Go.Ab
namespace Go.Ab.Q12
open Go Go.Ab Go.Proofs
end Go.Ab.Q12
end
section
set_option maxRecDepth 10000
namespace Go.Ab
def RBL (q:Option Bool) (e:List TV) (l:List Bool):Prop:=∃ v,e=[v]/\RBools q v l
noncomputable def ue (bs:List DBlock):List (List Bool):=(List.range bs.length).map fun a:Nat=>wJ bs (a:Int)
theorem sP (bs:List DBlock):(ue bs).length=bs.length:=by simp [ue]
theorem xd {bs:List DBlock} {a:Nat} (h:a < bs.length):(ue bs)[a]? = some (wJ bs (a:Int)):=by simp [ue,h]
theorem t8 {α:Type} (l:List α) {n:Nat} (h:l.length=n):l.take n=l:=by rw [<- h]; exact List.take_length
end Go.Ab
namespace Go.Ab.Q12
open Go Go.Ab Go.Proofs
theorem rm {F:FuncId} {bs:List DBlock} {w:TV} (kA:RL (some true) 1 (RBL (some true)) w (ue bs)) (hs:bs.length<=1000) {a b:Nat} (ha:a < bs.length) (hb:b < bs.length) {k:List TV->Prg TV} {r:TV} (h:aa prog F (k [B (tt (Dm bs a b))]) r) :
  aa prog F (Prg.nat (slLen w) fun n7=>Prg.nat (ac (I (a:Nat))) fun n8=>Prg.chk (Bool.and (slSize w 1) (Nat.blt n8 n7)) (Prg.tvs (pel w n8) fun e9=>Prg.chk (ab zSl e9 0) (Prg.tv (bF [(n8,0)] w) fun v10=>Prg.nat (slLen v10) fun n11=>Prg.nat (ac (I (b:Nat))) fun n12 =>
   Prg.chk (Bool.and (slSize v10 1) (Nat.blt n12 n11)) (Prg.tv (bF [(n8,0)] w) fun v13=>Prg.tvs (pel v13 n12) fun e14=>Prg.chk (ab bu e14 0) (k e14))))) r:=by
 obtain ⟨e1,he1,v,rfl,hv⟩:=kA.pel (xd ha)
 obtain ⟨e2,he2,hR⟩:=hv.pel (wS (n:=(a:Int)) hb)
 cases hR
 rw [lC (nT (bs:=bs) (n:=a) (b:=b))] at he2
 have hgp:=kA.deep he1 (j:=0) (z:=v) rfl
 refine aa.nat kA.slLen (aa.nat (ah (by omega)) (aa.chk ?_ (aa.tvs he1 (aa.chk (aK hv.isSl) (aa.tv hgp (aa.nat hv.slLen (aa.nat (ah (by omega)) (aa.chk ?_ (aa.tv hgp (aa.tvs he2 (aa.chk rfl h)))))))))))
 ·rw [kA.slSize,sP]; simp; omega
 ·rw [hv.slSize,xD]; simp; omega
theorem rAllR8 {q : Option Bool} {e : List TV} {f : DFunc} (he : RFunc q e f) (hs : f.blocks.length ≤ 1000) : ∃ y, ba prog 57 [.agg e] y ∧ RL (some true) 1 (RBL (some true)) y (ue f.blocks) := by
 obtain ⟨v0,M0,hv0,k0,F0⟩:=r84 he hs
 have he0:=he
 obtain ⟨b,rfl,hb,_⟩:=he
 have outer : ∀ (d a : Nat) (w : TV), a + d = f.blocks.length → RL (some true) 1 (RBL (some true)) w ((ue f.blocks).take a) → ∃ y, aa prog 57 (f57_0 (I a) (I f.params) (I f.regs) b v0 w) y ∧ RL (some true) 1 (RBL (some true)) y (ue f.blocks) := by
  intro d
  induction d with
  | zero =>
   intro a w ha hw
   have ha:a=f.blocks.length:=by omega
   subst ha
   rw [t8 _ (sP _)] at hw
   refine ⟨w,?_,hw⟩
   unfold f57_0
   exact aa.tv hb.len (aa.tv rfl (aa.ite aW nofun fun _=>aa.ret))
  | succ d ih =>
   intro a w ha hw
   have hal:a < f.blocks.length:=by omega
   obtain ⟨v3,M3,hv3,k3,F3⟩:=r83 he0 hs ((a:Nat):Int)
   have inner : ∀ (c j : Nat) (wr : TV) (M : List Bool), j + c = f.blocks.length → RBools (some true) wr M → M.length = f.blocks.length → (∀ g, g < j → M[g]? = some (tt (DmI f.blocks (a : Int) g))) →
     ∃ y,aa prog 57 (f57_1 (I a) (I j) (I f.params) (I f.regs) b v0 w v3 wr) y/\RL (some true) 1 (RBL (some true)) y (ue f.blocks):=by
    intro c
    induction c with
    | zero =>
     intro j wr M hj hwr hl hm
     have hj:j=f.blocks.length:=by omega
     subst hj
     have e:M=wJ f.blocks (a:Int):=by
      apply List.ext_getElem?
      intro g
      by_cases hg:g < f.blocks.length
      ·rw [wS hg,hm g hg]
      ·rw [FI (by omega),FI (by rw [xD]; omega)]
     subst e
     obtain ⟨w',h1,h2⟩:=hw.app (e:=[wr]) (a:=wJ f.blocks (a:Int)) ⟨wr,rfl,hwr⟩ (by rw [List.length_take,sP]; omega)
     rw [<- dS (xd hal)] at h2
     obtain ⟨y,hy,hr⟩:=ih (a + 1) w' (by omega) h2
     refine ⟨y,?_,hr⟩
     unfold f57_1
     refine aa.tv hb.len (aa.tv rfl (aa.ite aW nofun fun _=>f57_2_J ?_))
     unfold f57_2
     exact aa.rws rfl (aa.tv h1 (aa.tv (inc hal (by omega)) (f57_0_J hy)))
    | succ c ihc =>
     intro j wr M hj hwr hl hm
     have hjl:j < f.blocks.length:=by omega
     have hjM:j < M.length:=by omega
     have hj0:j < M0.length:=by have:=F0.1; omega
     have hj3:j < M3.length:=by have:=F3.1; omega
     obtain ⟨e1,he1,hR1⟩:=k0.pel (Fx hj0)
     cases hR1
     obtain ⟨e2,he2,hR2⟩:=hwr.pel (Fx hjM)
     cases hR2
     obtain ⟨e3,he3,hR3⟩:=k3.pel (Fx hj3)
     cases hR3
     have r0:M0[j]=true ↔ Rc f.blocks (-1) j:=by rw [<- F0.2 j,Fx hj0]; simp
     have r3:M3[j]=true ↔ Rc f.blocks ((a:Nat):Int) j:=by rw [<- F3.2 j,Fx hj3]; simp
     obtain ⟨wr',c1,c2⟩:=hwr.iy he2 (d:=0) (ys:=[B (tt (DmI f.blocks (a:Int) j))]) (a:=tt (DmI f.blocks (a:Int) j)) rfl
     obtain ⟨y,hy,hr⟩:=ihc (j + 1) wr' _ (by omega) c2 (by rw [List.length_set]; exact hl) (fun g hg=>by
      by_cases e:j=g
      ·subst e; exact List.getElem?_set_self hjM
      ·rw [List.getElem?_set_ne e]; exact hm g (by omega))
     refine ⟨y,?_,hr⟩
     have anj:ac (I (j:Nat))=some j:=ah (by omega)
     have cM:(Bool.and (slSize wr 1) (Nat.blt j M.length))=true:=by rw [hwr.slSize]; simp; omega
     unfold f57_1
     refine aa.tv hb.len (aa.tv rfl (aa.ite (aQ hjl) (fun _=>?_) nofun))
     refine aa.nat k0.slLen (aa.nat anj (aa.chk ?_ (aa.tvs he1 (aa.chk rfl (aa.ite rfl (fun h=>?_) fun h=>?_)))))
     ·rw [k0.slSize]; simp; omega
     ·have hrc:Rc f.blocks (-1) j:=r0.1 h
      refine aa.tv rfl (aa.ite rfl (fun h=>?_) fun h=>?_)
      ·have haj:a=j:=by
        have:((a:Nat):Int)=((j:Nat):Int):=by simpa using h
        omega
       rw [bE (nT.2 ⟨hrc,.inl haj⟩)] at c1
       exact aa.nat hwr.slLen (aa.nat anj (aa.chk cM (aa.tvs he2 (aa.chk rfl (aa.tv c1 (aa.tv (inc hjl (by omega)) (f57_1_J hy)))))))
      ·have haj:¬ a=j:=by
        have:¬ ((a:Nat):Int)=((j:Nat):Int):=by simpa using h
        omega
       have hval:tt (DmI f.blocks (a:Int) j)=!M3[j]:=by
        cases hM:M3[j] with
        | true =>
         refine bC fun h=>?_
         rcases (nT.1 h).2 with h | h
         ·exact haj h
         ·exact h (r3.1 hM)
        | false=>exact bE (nT.2 ⟨hrc,.inr fun h=>by rw [r3.2 h] at hM; cases hM⟩)
       rw [hval] at c1
       refine aa.nat k3.slLen (aa.nat anj (aa.chk ?_ (aa.tvs he3 (aa.chk rfl (aa.tv rfl (aa.nat hwr.slLen (aa.nat anj (aa.chk cM (aa.tvs he2 (aa.chk rfl (aa.tv c1 (aa.tv (inc hjl (by omega)) (f57_1_J hy)))))))))))))
       rw [k3.slSize]; simp; omega
     ·rw [bC fun hd=>by
       have:=r0.2 (nT.1 hd).1
       have h:M0[j]=false:=h
       rw [h] at this
       cases this] at c1
      exact aa.nat hwr.slLen (aa.nat anj (aa.chk cM (aa.tvs he2 (aa.chk rfl (aa.tv c1 (aa.tv (inc hjl (by omega)) (f57_1_J hy)))))))
   obtain ⟨y,hy,hr⟩:=inner f.blocks.length 0 _ _ (by omega) (pg (n:=f.blocks.length) (by omega)) (by simp) (fun g hg=>absurd hg (Nat.not_lt_zero _))
   refine ⟨y,?_,hr⟩
   have hnb:ac (I (f.blocks.length:Nat))=some f.blocks.length:=ah (by omega)
   unfold f57_0
   exact aa.tv hb.len (aa.tv rfl (aa.ite (aQ hal) (fun _=>aa.call hv3 (aa.chk (aK k3.isSl) (aa.tv hb.len (aa.nat hnb (aa.nat hnb (aa.chk (by simp; omega) (f57_1_J hy))))))) nofun))
 obtain ⟨y,hy,hr⟩:=outer f.blocks.length 0 (.lit aB) (by omega) (by simpa using RL.nil)
 refine ⟨y,?_,hr⟩
 refine ba.of (f57_MR _) ?_
 unfold f57_M
 exact aa.chk rfl (aa.call hv0 (aa.chk (aK k0.isSl) (aa.chk rfl (f57_0_J hy))))
end Go.Ab.Q12
end
section
set_option maxRecDepth 10000
namespace Go.Ab
def eW {α:Type} (g:Nat->α) (k:Nat) (v:α):Nat->α:=fun i=>if i=k then v else g i
theorem aJ {α:Type} {g:Nat->α} {k:Nat} {v:α}:eW g k v k=v:=if_pos rfl
theorem aF {α:Type} {g:Nat->α} {k i:Nat} {v:α} (h:i≠k):eW g k v i=g i:=if_neg h
def cL {α:Type} (n:Nat) (g:Nat->α):List α:=(List.range n).map g
theorem ao {α:Type} (n:Nat) (g:Nat->α):(cL n g).length=n:=by simp [cL]
theorem bV {α:Type} {n:Nat} {g:Nat->α} {k:Nat} (h:k < n):(cL n g)[k]? = some (g k):=by simp [cL,h]
theorem l6 {α:Type} {n:Nat} {g:Nat->α} {k:Nat} {v:α}:(cL n g).set k v=cL n (eW g k v):=by
 apply List.ext_getElem?
 intro i
 by_cases hi:i < n
 ·by_cases e:k=i
  ·subst e
   rw [List.getElem?_set_self (by rw [ao]; exact hi),bV hi,aJ]
  ·rw [List.getElem?_set_ne e,bV hi,bV hi,aF (Ne.symm e)]
 ·rw [FI (by simp [cL]; omega),FI (by simp [cL]; omega)]
theorem oQ {α:Type} (n:Nat) (a:α):List.replicate n a=cL n fun _=>a:=by
 apply List.ext_getElem?
 intro i
 by_cases hi:i < n
 ·rw [bV hi,List.getElem?_replicate,if_pos hi]
 ·rw [FI (by simp; omega),FI (by simp [cL]; omega)]
abbrev RArr (w:TV) (n:Nat) (g:Nat->Int):Prop:=RInts (some true) w (cL n g)
abbrev RBArr (w:TV) (n:Nat) (g:Nat->Bool):Prop:=RBools (some true) w (cL n g)
theorem RArr.get {w:TV} {n:Nat} {g:Nat->Int} (h:RArr w n g) {k:Nat} (hk:k < n):Go.Ab.pel w k=some [I (g k)]/\inI (g k):=by
 obtain ⟨e,he,rfl,hi⟩:=RL.pel h (bV hk)
 exact ⟨he,hi⟩
theorem RArr.set {w:TV} {n:Nat} {g:Nat->Int} (h:RArr w n g) {k:Nat} (hk:k < n) {v:Int} (hv:inI v):∃ w',cB [] w k 0 [I v]=some w'/\RArr w' n (eW g k v):=by
 obtain ⟨w',h1,h2⟩:=RL.iy h (h.get hk).1 (d:=0) (ys:=[I v]) (a:=v) ⟨rfl,hv⟩
 rw [l6] at h2
 exact ⟨w',h1,h2⟩
theorem RBArr.get {w:TV} {n:Nat} {g:Nat->Bool} (h:RBArr w n g) {k:Nat} (hk:k < n):Go.Ab.pel w k=some [B (g k)]:=by
 obtain ⟨e,he,rfl⟩:=RL.pel h (bV hk)
 exact he
theorem RBArr.set {w:TV} {n:Nat} {g:Nat->Bool} (h:RBArr w n g) {k:Nat} (hk:k < n) (v:Bool):∃ w',cB [] w k 0 [B v]=some w'/\RBArr w' n (eW g k v):=by
 obtain ⟨w',h1,h2⟩:=RL.iy h (h.get hk) (d:=0) (ys:=[B v]) (a:=v) rfl
 rw [l6] at h2
 exact ⟨w',h1,h2⟩
theorem tN {α:Type} {n:Nat} {g h:Nat->α} (e:∀ i,i < n->g i=h i):cL n g=cL n h:=by
 apply List.ext_getElem?
 intro i
 by_cases hi:i < n
 ·rw [bV hi,bV hi,e i hi]
 ·rw [FI (by rw [ao]; omega),FI (by rw [ao]; omega)]
end Go.Ab
end

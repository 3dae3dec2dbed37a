import Derived.Test.YtjdjnejdjhfmcaaIA10F41
import Derived.Test.YtjdjnejdjhfmcaaIA10F97
set_option linter.all false
section
set_option maxRecDepth 10000
namespace Go.Ab
noncomputable def onB (g:Nat→Bool) (l:List Int):Nat→Bool:=fun i=>g i || tt ((i:Int) ∈ l)
noncomputable def ya (g:Nat→Bool) (s:Option Int):Nat→Bool:=fun i=>g i && tt (s≠some (i:Int))
noncomputable def sT (x:DIns) (g:Nat→Bool):Nat→Bool:=onB (ya g (dc x)) (fu x)
noncomputable def ng (l:List DIns) (g:Nat→Bool):Nat→Bool:=l.foldr sT g
noncomputable def nX (b:DBlock) (g:Nat→Bool):Nat→Bool:=ng b.ins (onB g (dq b.fin))
def fG (bs:List DBlock) (A:Nat→Nat→Prop) (e:DEnd) (i:Nat):Prop :=
 ((e.kind=2∨e.kind=3∨e.kind=4∧e.dst≠(i:Int))∧A e.to.toNat i)∨(e.kind=3∧A e.els.toNat i)∨(e.kind=4∧∃ pb,bs[e.pad.toNat]? = some pb∧pb.pad.dst≠(i:Int)∧A e.pad.toNat i)
noncomputable def atT (bs:List DBlock) (H:Nat→Nat→Bool) (n:Nat):Nat→Bool:=match bs[n]? with | some b=>nX b (H n) | none=>fun _=>false
def atP (bs:List DBlock) (H:Nat→Nat→Bool) (n i:Nat):Prop:=atT bs H n i=true
noncomputable def lj (bs:List DBlock) (A:Nat→Nat→Prop) (e:DEnd):Nat→Bool:=fun i=>tt (fG bs A e i)
def LvN (bs:List DBlock) (n i:Nat):Prop:=Lv bs (i:Int) n 0
theorem lE {g:Nat→Bool} {l:List Int} {i:Nat}:onB g l i=true ↔ g i=true∨(i:Int) ∈ l:=by simp [onB,aP]
theorem yu {g:Nat→Bool} {s:Option Int} {i:Nat}:ya g s i=true ↔ g i=true∧s≠some (i:Int):=by simp [ya,aP]
theorem re {x:DIns} {g:Nat→Bool} {i:Nat}:sT x g i=true ↔ (g i=true∧dc x≠some (i:Int))∨(i:Int) ∈ fu x:=by rw [sT,lE,yu]
theorem fG.mono {bs:List DBlock} {A A':Nat→Nat→Prop} (h:∀ n i,A n i→A' n i) {e:DEnd} {i:Nat} (hn:fG bs A e i):fG bs A' e i:=by
 rcases hn with ⟨h1,h2⟩ | ⟨h1,h2⟩ | ⟨h1,pb,h2,h3,h4⟩
 ·exact .inl ⟨h1,h _ _ h2⟩
 ·exact .inr (.inl ⟨h1,h _ _ h2⟩)
 ·exact .inr (.inr ⟨h1,pb,h2,h3,h _ _ h4⟩)
theorem vd {g g':Nat→Bool} (h:∀ i,g i=true→g' i=true):∀ (l:List DIns) (i:Nat),ng l g i=true→ng l g' i=true
 | [],i,hi=>h i hi
 | x :: l,i,hi=>by
  have hi:sT x (ng l g) i=true:=hi
  show sT x (ng l g') i=true
  rw [re] at hi ⊢
  exact hi.imp (fun h1=>⟨vd h l i h1.1,h1.2⟩) id
theorem Aw {g g':Nat→Bool} (h:∀ i,g i=true→g' i=true) {b:DBlock} {i:Nat} (hi:nX b g i=true):nX b g' i=true :=
 vd (fun i hi=>by rw [lE] at hi ⊢; exact hi.imp (h i) id) _ _ hi
theorem xN {bs:List DBlock} {H H':Nat→Nat→Bool} (h:∀ n i,H n i=true→H' n i=true) {n i:Nat} (hi:atP bs H n i):atP bs H' n i:=by
 unfold atP atT at hi ⊢
 cases hb:bs[n]? with
 | none=>rw [hb] at hi; cases hi
 | some b=>rw [hb] at hi; exact Aw (h n) hi
structure fk (bs:List DBlock) (H:Nat→Nat→Bool):Prop where
 up:∀ n b,bs[n]? = some b→∀ i,H n i=true→fG bs (atP bs H) b.fin i
 snd:∀ n b,bs[n]? = some b→∀ i,H n i=true→fG bs (LvN bs) b.fin i
theorem fk.start (bs:List DBlock):fk bs fun _ _=>false:=⟨fun _ _ _ _ h=>(nomatch h),fun _ _ _ _ h=>(nomatch h)⟩
theorem DP {bs:List DBlock} {n i:Nat} {b:DBlock} (hb:bs[n]? = some b) (h:fG bs (LvN bs) b.fin i):Lv bs (i:Int) n b.ins.length:=by
 rcases h with ⟨h1,h2⟩ | ⟨h1,h2⟩ | ⟨h1,pb,h2,h3,h4⟩
 ·exact .to hb h1 h2
 ·exact .els hb h1 h2
 ·exact .pad hb h1 h2 h3 h4
theorem D6 {bs:List DBlock} {n:Nat} {b:DBlock} (hb:bs[n]? = some b) {g:Nat→Bool} (hg:∀ i,g i=true→fG bs (LvN bs) b.fin i):∀ (d k:Nat),k + d=b.ins.length→∀ i,ng (b.ins.drop k) (onB g (dq b.fin)) i=true→Lv bs (i:Int) n k:=by
 intro d
 induction d with
 | zero =>
  intro k hk i hi
  have hk:k=b.ins.length:=by omega
  subst hk
  rw [List.drop_length] at hi
  have hi:onB g (dq b.fin) i=true:=hi
  rcases lE.1 hi with h | h
  ·exact DP hb (hg i h)
  ·exact .askE hb h
 | succ d ih =>
  intro k hk i hi
  have hkl:k < b.ins.length:=by omega
  rw [List.drop_eq_getElem_cons hkl] at hi
  have hx:b.ins[k]? = some b.ins[k]:=EK hkl
  generalize b.ins[k]=x at hi hx
  have hi:sT x (ng (b.ins.drop (k + 1)) (onB g (dq b.fin))) i=true:=hi
  rcases re.1 hi with ⟨h1,h2⟩ | h
  ·exact .on hb hx h2 (ih (k + 1) (by omega) i h1)
  ·exact .ask hb hx h
theorem fk.lv {bs:List DBlock} {H:Nat→Nat→Bool} (h:fk bs H) {n i:Nat} (hi:atP bs H n i):LvN bs n i:=by
 unfold atP atT at hi
 cases hb:bs[n]? with
 | none=>rw [hb] at hi; cases hi
 | some b =>
  rw [hb] at hi
  exact D6 hb (h.snd n b hb) b.ins.length 0 (by omega) i (by simpa [nX] using hi)
theorem fk.grow {bs:List DBlock} {H:Nat→Nat→Bool} (h:fk bs H) {n:Nat} {b:DBlock} (hb:bs[n]? = some b):fk bs (je H n (lj bs (atP bs H) b.fin))∧∀ m i,H m i=true→je H n (lj bs (atP bs H) b.fin) m i=true:=by
 have hle:∀ m i,H m i=true→je H n (lj bs (atP bs H) b.fin) m i=true:=fun m i hm=>by
  by_cases e:m=n
  ·subst e; rw [b7]; exact dg (h.up m b hb i hm)
  ·rw [cg e]; exact hm
 refine ⟨⟨fun m c hc i hi=>?_,fun m c hc i hi=>?_⟩,hle⟩
 ·by_cases e:m=n
  ·subst e
   rw [hb] at hc
   cases hc
   rw [b7] at hi
   exact (aP.1 hi).mono fun n i ha=>xN hle ha
  ·rw [cg e] at hi
   exact (h.up m c hc i hi).mono fun n i ha=>xN hle ha
 ·by_cases e:m=n
  ·subst e
   rw [hb] at hc
   cases hc
   rw [b7] at hi
   exact (aP.1 hi).mono fun n i ha=>h.lv ha
  ·rw [cg e] at hi
   exact h.snd m c hc i hi
theorem vm {bs:List DBlock} {p:Int} {n k:Nat} (h:Lv bs p n k):∃ b,bs[n]? = some b:=by
 cases h <;> exact ⟨_,by assumption⟩
theorem yq {bs:List DBlock} {H:Nat→Nat→Bool} (hf:∀ n b,bs[n]? = some b→∀ i,fG bs (atP bs H) b.fin i→H n i=true) {p:Int} {n k:Nat} (h:Lv bs p n k):∀ (i:Nat),p=(i:Int)→∀ b,bs[n]? = some b→ng (b.ins.drop k) (onB (H n) (dq b.fin)) i=true:=by
 have dr:∀ {b:DBlock} {x:DIns} {k:Nat},b.ins[k]? = some x→b.ins.drop k=x :: b.ins.drop (k + 1):=fun hx=>by
  obtain ⟨hk,rfl⟩:=EJ.1 hx
  exact List.drop_eq_getElem_cons hk
 have at0:∀ {n i:Nat},(∃ b,bs[n]? = some b)→(∀ b,bs[n]? = some b→ng (b.ins.drop 0) (onB (H n) (dq b.fin)) i=true)→atP bs H n i:=by
  rintro n i ⟨b,hb⟩ h
  have:=h b hb
  unfold atP atT
  rw [hb]
  simpa [nX] using this
 induction h with
 | ask hb hx h =>
  rintro i rfl b' hb'
  rw [hb] at hb'; cases hb'
  rw [dr hx]
  exact re.2 (.inr h)
 | on hb hx h hl ih =>
  rintro i rfl b' hb'
  rw [hb] at hb'; cases hb'
  rw [dr hx]
  exact re.2 (.inl ⟨ih i rfl _ hb,h⟩)
 | askE hb h =>
  rintro i rfl b' hb'
  rw [hb] at hb'; cases hb'
  rw [List.drop_length]
  exact lE.2 (.inr h)
 | to hb h hl ih =>
  rintro i rfl b' hb'
  rw [hb] at hb'; cases hb'
  rw [List.drop_length]
  exact lE.2 (.inl (hf _ _ hb i (.inl ⟨h,at0 (vm hl) (ih i rfl)⟩)))
 | els hb h hl ih =>
  rintro i rfl b' hb'
  rw [hb] at hb'; cases hb'
  rw [List.drop_length]
  exact lE.2 (.inl (hf _ _ hb i (.inr (.inl ⟨h,at0 (vm hl) (ih i rfl)⟩))))
 | pad hb h hp hd hl ih =>
  rintro i rfl b' hb'
  rw [hb] at hb'; cases hb'
  rw [List.drop_length]
  exact lE.2 (.inl (hf _ _ hb i (.inr (.inr ⟨h,_,hp,hd,at0 (vm hl) (ih i rfl)⟩))))
theorem fk.done {bs:List DBlock} {H:Nat→Nat→Bool} (h:fk bs H) (hf:∀ n b,bs[n]? = some b→∀ i,fG bs (atP bs H) b.fin i→H n i=true) (n i:Nat):atP bs H n i ↔ LvN bs n i:=by
 refine ⟨h.lv,fun hl=>?_⟩
 obtain ⟨b,hb⟩:=vm hl
 have:=yq hf hl i rfl b hb
 unfold atP atT
 rw [hb]
 simpa [nX] using this
def qJ (g:Nat→Bool):Nat→Nat
 | 0=>0
 | k + 1=>qJ g k + (if g k=true then 0 else 1)
def cnt2 (R:Nat) (H:Nat→Nat→Bool):Nat→Nat
 | 0=>0
 | n + 1=>cnt2 R H n + qJ (H n) R
theorem zx {g g':Nat→Bool} (h:∀ i,g i=true→g' i=true):∀ R,qJ g' R≤qJ g R
 | 0=>Nat.le_refl _
 | R + 1=>by
  have:=zx h R
  simp only [qJ]
  have h0:=h R
  by_cases e:g R=true
  ·rw [if_pos e,if_pos (h0 e)]; exact this
  ·rw [if_neg e]; split <;> omega
theorem zt {g g':Nat→Bool} (h:∀ i,g i=true→g' i=true):∀ {R i:Nat},i < R→g i=false→g' i=true→qJ g' R < qJ g R
 | R + 1, i, hi, h1, h2 => by
  simp only [qJ]
  by_cases e:i=R
  ·subst e
   have:=zx h i
   rw [if_pos h2,if_neg (by rw [h1]; decide)]
   omega
  ·have:=zt h (R:=R) (by omega) h1 h2
   have h0:=h R
   by_cases e:g R=true
   ·rw [if_pos e,if_pos (h0 e)]; exact this
   ·rw [if_neg e]; split <;> omega
theorem uw {R:Nat} {H:Nat→Nat→Bool} {n:Nat} {g:Nat→Bool}:∀ {N:Nat},N≤n→cnt2 R (je H n g) N=cnt2 R H N
 | 0,_=>rfl
 | N + 1,h=>by simp only [cnt2]; rw [uw (by omega),cg (by omega)]
theorem zU {R:Nat} {H:Nat→Nat→Bool} {n:Nat} {g:Nat→Bool} (h:qJ g R < qJ (H n) R):∀ {N:Nat},n < N→cnt2 R (je H n g) N < cnt2 R H N
 | N + 1, hn => by
  simp only [cnt2]
  by_cases e:n=N
  ·subst e
   rw [uw (Nat.le_refl _),b7]
   omega
  ·rw [cg (fun e2=>e e2.symm)]
   have:=zU h (N:=N) (by omega)
   omega
theorem BI {R:Nat} {g g':Nat→Bool} (h:∀ i,g i=true→g' i=true) (hn:bY R g'≠bY R g):qJ g' R < qJ g R:=by
 have:∃ i,i < R∧g' i≠g i:=Classical.byContradiction fun hc=>hn (kI fun i hi=>Classical.byContradiction fun he=>hc ⟨i,hi,he⟩)
 obtain ⟨i,hi,hne⟩:=this
 have h0:=h i
 refine zt h hi ?_ ?_
 ·cases hg:g i with
  | false=>rfl
  | true=>rw [hg,h0 hg] at hne; exact absurd rfl hne
 ·cases hg:g i with
  | true=>exact h0 hg
  | false=>cases hg':g' i with
   | true=>rfl
   | false=>rw [hg,hg'] at hne; exact absurd rfl hne
end Go.Ab
end
section
set_option maxRecDepth 10000
namespace Go.Ab
def RRow (q:Option Bool) (e:List TV) (o:Option (List Bool)):Prop:=match o with | none=>e=[.lit aI] | some l=>∃ r,e=[r]∧RBools q r l
abbrev RTab (q:Option Bool) (w:TV) (N R:Nat) (F:Nat→Option (Nat→Bool)):Prop:=RL q 1 (RRow q) w (bY N fun n=>(F n).map (bY R))
theorem RRow.frz {q:Option Bool} {e:List TV} {o:Option (List Bool)} (h:RRow q e o):RRow (some false) (ms e) o:=by
 cases o with
 | none=>cases h; rfl
 | some l =>
  obtain ⟨r,rfl,hr⟩:=h
  exact ⟨Ab.frz r,rfl,hr.frz fun _ _ h=>h.frz⟩
theorem RRow.own {e:List TV} {o:Option (List Bool)} (h:RRow (some true) e o):aV e=true:=by
 cases o with
 | none=>cases h; rfl
 | some l =>
  obtain ⟨r,rfl,hr⟩:=h
  simp [aV,hr.own fun _ _ h=>h.own]
theorem RRow.isSl {q:Option Bool} {e:List TV} {o:Option (List Bool)} (h:RRow q e o):∃ r,e=[r]∧r.isSl=true:=by
 cases o with
 | none=>cases h; exact ⟨_,rfl,rfl⟩
 | some l =>
  obtain ⟨r,rfl,hr⟩:=h
  exact ⟨r,rfl,hr.isSl⟩
noncomputable def gR (g a:Nat→Bool) (s:Int) (k:Nat):Nat→Bool:=fun i=>g i || tt (i < k∧a i=true∧s≠(i:Int))
noncomputable def xP (g a:Nat→Bool) (s:Int):Nat→Bool:=fun i=>g i || tt (a i=true∧s≠(i:Int))
theorem j8 {g a:Nat→Bool} {s:Int} {k i:Nat}:gR g a s k i=true ↔ g i=true∨(i < k∧a i=true∧s≠(i:Int)):=by simp [gR,aP]
theorem we {g a:Nat→Bool} {s:Int} {i:Nat}:xP g a s i=true ↔ g i=true∨(a i=true∧s≠(i:Int)):=by simp [xP,aP]
theorem dF {a b:Bool} (h:a=true ↔ b=true):a=b:=by cases a <;> cases b <;> simp_all
theorem nj {g a:Nat→Bool} {s:Int}:gR g a s 0=g:=by
 funext i; apply dF; rw [j8]; simp
theorem oZ {g a:Nat→Bool} {s:Int} {R:Nat}:bY R (gR g a s R)=bY R (xP g a s):=kI fun i hi=>by
 apply dF; rw [j8,we]; simp [hi]
theorem oT {g a:Nat→Bool} {s:Int} {k:Nat} (h1:a k=true) (h2:s≠(k:Int)):je (gR g a s k) k true=gR g a s (k + 1):=by
 funext i
 apply dF
 by_cases e:i=k
 ·subst e; rw [b7,j8]; simp [h1,h2]
 ·rw [cg e,j8,j8]
  constructor
  ·rintro (h | ⟨h,h'⟩)
   ·exact .inl h
   ·exact .inr ⟨by omega,h'⟩
  ·rintro (h | ⟨h,h'⟩)
   ·exact .inl h
   ·exact .inr ⟨by omega,h'⟩
theorem jN {g a:Nat→Bool} {s:Int} {k:Nat} (h:¬ (a k=true∧s≠(k:Int))):gR g a s k=gR g a s (k + 1):=by
 funext i
 apply dF
 rw [j8,j8]
 constructor
 ·rintro (h | ⟨h,h'⟩)
  ·exact .inl h
  ·exact .inr ⟨by omega,h'⟩
 ·rintro (h0 | ⟨h0,h'⟩)
  ·exact .inl h0
  ·refine .inr ⟨?_,h'⟩
   by_cases e:i=k
   ·subst e; exact absurd h' h
   ·omega
theorem wM {g:Nat→Bool} {l:List Int} {k:Nat} {p:Int} (hp:l[k]? = some p) (h0:0≤p):je (onB g (l.take k)) p.toNat true=onB g (l.take (k + 1)):=by
 funext i
 apply dF
 rw [List.take_add_one,hp]
 by_cases e:i=p.toNat
 ·subst e; rw [b7,lE]; simp; exact .inr (.inr (by omega))
 ·rw [cg e,lE,lE]
  simp only [Option.toList_some,List.mem_append,List.mem_singleton]
  constructor
  ·rintro (h | h)
   ·exact .inl h
   ·exact .inr (.inl h)
  ·rintro (h | h | h)
   ·exact .inl h
   ·exact .inr h
   ·exact absurd (by omega) e
theorem xO {g:Nat→Bool} {l:List Int}:onB g (l.take 0)=g:=by
 funext i; apply dF; rw [lE]; simp
theorem AA {g:Nat→Bool} {d:Int} (h0:0≤d):je g d.toNat false=ya g (some d):=by
 funext i
 apply dF
 rw [yu]
 by_cases e:i=d.toNat
 ·subst e; rw [b7]; simp; intro _; omega
 ·rw [cg e]; simp; intro _; omega
theorem Ao {g:Nat→Bool}:ya g none=g:=by
 funext i; apply dF; rw [yu]; simp
def okL (R:Nat) (l:List Int):Prop:=∀ p ∈ l,0≤p∧p < R
structure OkB (R:Nat) (b:DBlock):Prop where
 ends:okL R (dq b.fin)
 asks:∀ x ∈ b.ins,okL R (fu x)
 sets:∀ x ∈ b.ins,∀ d,dc x=some d→0≤d∧d < R
end Go.Ab
namespace Go.Ab.A10
open Go Go.Ab Go.Proofs
section
variable {x y:TV} {l m:List Bool}
theorem rEqB {q q':Option Bool} (hx:RBools q x l) (hy:RBools q' y m):ak prog 48 [x,y] (B (tt (l=m))):=by
 refine ak.of (f48_MR _ _) ?_
 unfold f48_M
 repeat' (first
  | refine aa.chk rfl ?_
  | refine aa.tv rfl ?_
  | refine aa.tv (RL.len (by assumption)) ?_
  | refine aa.nat rfl ?_
  | refine aa.ite rfl (fun _=>?_) (fun _=>?_)
  | refine aa.call (by assumption) ?_
  | refine aa.tvs (by assumption) ?_)
 ·rename_i h
  have h:¬ l=m:=by rintro rfl; simp at h
  exact a9 h
 ·rename_i h
  have hlen:l.length=m.length:=by simp at h; omega
  refine f48_0_J ?_
  rw [cE (oD hlen)]
  refine jT (g:=fun k=>f48_0 x y (I l.length) (I k)) ?_ ?_
  ·unfold f48_0
   refine aa.tv rfl (aa.ite aZ (fun h=>nomatch h) fun _=>aa.ret)
  ·intro k hk r h1 h2
   have hk':k < m.length:=by omega
   have ha:l[k]? = some l[k]:=EK hk
   have hb:m[k]? = some m[k]:=EK hk'
   obtain ⟨e,he,hre⟩:=hx.idx (k:=.i64) ha
   obtain ⟨e',he',hre'⟩:=hy.idx (k:=.i64) hb
   cases hre
   cases hre'
   unfold f48_0
   refine aa.tv rfl (aa.ite (aK hk) (fun _=>?_) fun h=>nomatch h)
   refine aa.tvs he (aa.chk rfl (aa.tvs he' (aa.chk rfl (aa.tv rfl (aa.ite rfl (fun h=>?_) fun h=>?_)))))
   ·rw [h1 (by rw [ha,hb]; simpa using h)]; exact aa.ret
   ·refine aa.tv (inc hk hx.bnd) (f48_0_J (h2 ?_))
    rw [ha,hb]; simpa using h
end
theorem rOwnB {q:Option Bool} {x:TV} {l:List Bool} (hx:RBools q x l) (hl:l.length≤4294967296):∃ y,ak prog 59 [x] y∧RBools (some true) y l:=by
 obtain ⟨xs,hxs,_⟩:=hx.elems
 obtain ⟨y,hy,hr⟩:=oj hx [.lit (.bool false)] hxs
 have hn:=aS (k:=l.length) (by omega)
 have hle:(Nat.ble l.length 4294967296)=true:=by simpa using hl
 have hle':(Nat.ble l.length l.length)=true:=by simp
 have hown:=hr.own fun _ _ h=>h.own
 rcases hx with ⟨rfl,rfl⟩ | ⟨o,ys,rfl,hq,h,hb⟩
 ·refine ⟨.lit aI,?_,.nil⟩
  refine ak.of (f59_MR _) ?_
  unfold f59_M
  exact aa.tv rfl (aa.ite rfl (fun _=>aa.chk rfl aa.ret) fun h=>nomatch h)
 ·refine ⟨y,?_,hr⟩
  refine ak.of (f59_MR _) ?_
  unfold f59_M
  refine aa.tv rfl (aa.ite rfl (fun h=>nomatch h) fun _=>?_)
  refine aa.tv (v:=I l.length) (by simp [plen,h.length]) (aa.nat hn (aa.nat hn (aa.chk (by rw [hle,hle']; rfl) (aa.rws hxs (aa.tv hy (aa.nat rfl (aa.chk hown aa.ret)))))))
theorem rAsks {q:Option Bool} {e:List TV} {x:DIns} (he:RIns q e x) (hl:x.args.length≤4294967296):∃ y,ak prog 13 [.agg e] y∧RInts (some true) y (fu x):=by
 obtain ⟨g,rfl,hg,o1,o2,o3,o4,o5,o6⟩:=he
 obtain ⟨v,hv,hrv⟩:=r41 hg hl
 have two:RInts (some true) (.sl true 1 (chunks 1 2 [I x.a,I x.b])) [x.a,x.b]:=.sl (by simp) (.cons ⟨rfl,o3⟩ (.cons ⟨rfl,o4⟩ .nil)) (by simp [chunks])
 have one:RInts (some true) (.sl true 1 (chunks 1 1 [I x.a])) [x.a]:=.sl (by simp) (.cons ⟨rfl,o3⟩ .nil) (by simp [chunks])
 have h1:∀ b:Bool,(b=true ↔ (3≤x.op∧x.op≤8)∨x.op=10)→∃ y,aa prog 13 (f13_1 (I x.op) (B b) (I x.op) (I x.dst) (I x.a) (I x.b) (W x.k) (I x.f) g) y∧RInts (some true) y (if (3≤x.op∧x.op≤8)∨x.op=10 then [x.a,x.b] else if x.op=11 then x.args else []):=by
  intro b hb
  by_cases c:(3≤x.op∧x.op≤8)∨x.op=10
  ·have:b=true:=hb.2 c
   subst this
   rw [if_pos c]
   refine ⟨_,?_,two⟩
   unfold f13_1
   exact aa.ite rfl (fun _=>aa.chk rfl aa.ret) fun h=>nomatch h
  ·have:b=false:=by cases b with
    | false=>rfl
    | true=>exact absurd (hb.1 rfl) c
   subst this
   rw [if_neg c]
   by_cases c2:x.op=11
   ·rw [if_pos c2]
    refine ⟨v,?_,hrv⟩
    unfold f13_1
    exact aa.ite rfl (fun h=>nomatch h) fun _=>aa.tv rfl (aa.ite (v:=true) (by simp [asBool,c2]) (fun _=>aa.call hv (aa.chk (by simp [ab,zSl,aC,hrv.isSl]) (aa.chk (hrv.own fun _ _ h=>h.own) aa.ret))) fun h=>nomatch h)
   ·rw [if_neg c2]
    refine ⟨_,?_,.nil⟩
    unfold f13_1
    exact aa.ite rfl (fun h=>nomatch h) fun _=>aa.tv rfl (aa.ite (v:=false) (by simp [asBool,c2]) (fun h=>nomatch h) fun _=>aa.chk rfl aa.ret)
 have h0:∀ b:Bool,(b=true ↔ x.op=2∨x.op=9∨x.op=12)→∃ y,aa prog 13 (f13_0 (I x.op) (B b) (I x.op) (I x.dst) (I x.a) (I x.b) (W x.k) (I x.f) g) y∧RInts (some true) y (fu x):=by
  intro b hb
  unfold fu
  by_cases c:x.op=2∨x.op=9∨x.op=12
  ·have:b=true:=hb.2 c
   subst this
   rw [if_pos c]
   refine ⟨_,?_,one⟩
   unfold f13_0
   exact aa.ite rfl (fun _=>aa.chk rfl aa.ret) fun h=>nomatch h
  ·have:b=false:=by cases b with
    | false=>rfl
    | true=>exact absurd (hb.1 rfl) c
   subst this
   rw [if_neg c]
   have go:∀ b:Bool,(b=true ↔ (3≤x.op∧x.op≤8)∨x.op=10)→∀ r,aa prog 13 (f13_1 (I x.op) (B b) (I x.op) (I x.dst) (I x.a) (I x.b) (W x.k) (I x.f) g) r→aa prog 13 (f13_1 (I x.op) (B (tt ((3≤x.op∧x.op≤8)∨x.op=10))) (I x.op) (I x.dst) (I x.a) (I x.b) (W x.k) (I x.f) g) r:=fun b hb r h=>by
    rw [← xy hb]; exact h
   obtain ⟨y,hy,hr⟩:=h1 (tt ((3≤x.op∧x.op≤8)∨x.op=10)) aP
   refine ⟨y,?_,hr⟩
   have yes:∀ b:Bool,(b=true ↔ (3≤x.op∧x.op≤8)∨x.op=10)→aa prog 13 (f13_1 (I x.op) (B b) (I x.op) (I x.dst) (I x.a) (I x.b) (W x.k) (I x.f) g) y:=fun b hb=>by
    rw [xy hb]; exact hy
   unfold f13_0
   refine aa.ite rfl (fun h=>nomatch h) fun _=>?_
   repeat (refine aa.tv rfl (aa.ite rfl (fun h=>f13_1_J (yes _ ?_)) fun h=>?_); · simp at h ⊢; omega)
   refine aa.tv rfl (f13_1_J (yes _ ?_))
   simp at *
   omega
 have yes:∀ b:Bool,(b=true ↔ x.op=2∨x.op=9∨x.op=12)→∀ y,aa prog 13 (f13_0 (I x.op) (B (tt (x.op=2∨x.op=9∨x.op=12))) (I x.op) (I x.dst) (I x.a) (I x.b) (W x.k) (I x.f) g) y→aa prog 13 (f13_0 (I x.op) (B b) (I x.op) (I x.dst) (I x.a) (I x.b) (W x.k) (I x.f) g) y:=fun b hb y hy=>by
  rw [xy hb]; exact hy
 obtain ⟨y,hy,hr⟩:=h0 (tt (x.op=2∨x.op=9∨x.op=12)) aP
 refine ⟨y,?_,hr⟩
 refine ak.of (f13_MR _) ?_
 unfold f13_M
 refine aa.chk rfl ?_
 repeat (refine aa.tv rfl (aa.ite rfl (fun h=>f13_0_J (yes _ ?_ _ hy)) fun h=>?_); · simp at h ⊢; omega)
 refine aa.tv rfl (f13_0_J (yes _ ?_ _ hy))
 simp at *
 omega
theorem BA {q:Option Bool} {e:List TV} {x:DEnd} (he:REnd q e x) (hl:x.args.length≤4294967296):∃ y,ak prog 61 [.agg e] y∧RInts (some true) y (dq x):=by
 obtain ⟨g,rfl,hg,o1,o2,o3,o4,o5,o6,o7⟩:=he
 obtain ⟨v,hv,hrv⟩:=r41 hg hl
 have one:RInts (some true) (.sl true 1 (chunks 1 1 [I x.a])) [x.a]:=.sl (by simp) (.cons ⟨rfl,o2⟩ .nil) (by simp [chunks])
 have h0:∀ b:Bool,(b=true ↔ x.kind=1∨x.kind=3∨x.kind=5)→∃ y,aa prog 61 (f61_0 (I x.kind) (B b) (I x.kind) (I x.a) (I x.dst) (I x.f) g (I x.to) (I x.els) (I x.pad)) y∧RInts (some true) y (dq x):=by
  intro b hb
  unfold dq
  by_cases c:x.kind=1∨x.kind=3∨x.kind=5
  ·have:b=true:=hb.2 c
   subst this
   rw [if_pos c]
   refine ⟨_,?_,one⟩
   unfold f61_0
   exact aa.ite rfl (fun _=>aa.chk rfl aa.ret) fun h=>nomatch h
  ·have:b=false:=by cases b with
    | false=>rfl
    | true=>exact absurd (hb.1 rfl) c
   subst this
   rw [if_neg c]
   by_cases c2:x.kind=4
   ·rw [if_pos c2]
    refine ⟨v,?_,hrv⟩
    unfold f61_0
    exact aa.ite rfl (fun h=>nomatch h) fun _=>aa.tv rfl (aa.ite (v:=true) (by simp [asBool,c2]) (fun _=>aa.call hv (aa.chk (by simp [ab,zSl,aC,hrv.isSl]) (aa.chk (hrv.own fun _ _ h=>h.own) aa.ret))) fun h=>nomatch h)
   ·rw [if_neg c2]
    refine ⟨_,?_,.nil⟩
    unfold f61_0
    exact aa.ite rfl (fun h=>nomatch h) fun _=>aa.tv rfl (aa.ite (v:=false) (by simp [asBool,c2]) (fun h=>nomatch h) fun _=>aa.chk rfl aa.ret)
 obtain ⟨y,hy,hr⟩:=h0 (tt (x.kind=1∨x.kind=3∨x.kind=5)) aP
 have yes:∀ b:Bool,(b=true ↔ x.kind=1∨x.kind=3∨x.kind=5)→aa prog 61 (f61_0 (I x.kind) (B b) (I x.kind) (I x.a) (I x.dst) (I x.f) g (I x.to) (I x.els) (I x.pad)) y:=fun b hb=>by
  rw [xy hb]; exact hy
 refine ⟨y,?_,hr⟩
 refine ak.of (f61_MR _) ?_
 unfold f61_M
 refine aa.chk rfl ?_
 repeat (refine aa.tv rfl (aa.ite rfl (fun h=>f61_0_J (yes _ ?_)) fun h=>?_); · simp at h ⊢; omega)
 refine aa.tv rfl (f61_0_J (yes _ ?_))
 simp at *
 omega
theorem rSets {q:Option Bool} {e:List TV} {x:DIns} (he:RIns q e x):ak prog 63 [.agg e] (.tup [I ((dc x).getD 0),B (dc x).isSome]):=by
 obtain ⟨g,rfl,hg,ho⟩:=he
 have h0:∀ b:Bool,(b=true ↔ 1≤x.op∧x.op≤13∧x.op≠10∧x.op≠12)→aa prog 63 (f63_0 (B b) (I x.op) (I x.dst) (I x.a) (I x.b) (W x.k) (I x.f) g) (.tup [I ((dc x).getD 0),B (dc x).isSome]):=by
  intro b hb
  unfold f63_0 dc
  by_cases c:1≤x.op∧x.op≤13∧x.op≠10∧x.op≠12
  ·have:b=true:=hb.2 c
   subst this
   rw [if_pos c]
   exact aa.ite rfl (fun _=>aa.ret) fun h=>nomatch h
  ·have:b=false:=by cases b with
    | false=>rfl
    | true=>exact absurd (hb.1 rfl) c
   subst this
   rw [if_neg c]
   exact aa.ite rfl (fun h=>nomatch h) fun _=>aa.ret
 refine ak.of (f63_MR _) ?_
 unfold f63_M
 refine aa.chk rfl ?_
 repeat (refine aa.tv rfl (aa.ite rfl (fun h=>f63_0_J (h0 _ ?_)) fun h=>?_); · simp at h ⊢; omega)
 refine aa.tv rfl (f63_0_J (h0 _ ?_))
 simp at *
 omega
end Go.Ab.A10
end
section
set_option maxRecDepth 10000
namespace Go.Ab.A10
open Go Go.Ab Go.Proofs
theorem rAsk1 {x3:TV} {l:List Int} (h3:RInts (some true) x3 l) {R:Nat} (hR:R≤256) (hl:okL R l) {g:Nat→Bool} {y4 y5 y6 y7 y8 y9 y10 y11 y12 y13 y14 y15 y16 y17:TV} {K:TV→Prop}
  (hend:∀ w,RBArr w R (onB g l)→∃ r,aa prog 45 (f45_0 (I l.length) (I l.length) w x3 y4 y5 y6 y7 y8 y9 y10 y11 y12 y13 y14 y15 y16 y17) r∧K r):∀ (d k:Nat) (w:TV),k + d=l.length→RBArr w R (onB g (l.take k))→∃ r,aa prog 45 (f45_0 (I l.length) (I k) w x3 y4 y5 y6 y7 y8 y9 y10 y11 y12 y13 y14 y15 y16 y17) r∧K r:=by
 intro d
 induction d with
 | zero =>
  intro k w hk hw
  have hk:k=l.length:=by omega
  subst hk
  rw [List.take_length] at hw
  exact hend w hw
 | succ d ih =>
  intro k w hk hw
  have hkl:k < l.length:=by omega
  have ha:l[k]? = some l[k]:=EK hkl
  have hin:=hl _ (List.getElem_mem hkl)
  obtain ⟨e,he,rfl,hi⟩:=h3.pel ha
  have he2:=hw.get (k:=l[k].toNat) (by omega)
  have hbl:=h3.bnd
  obtain ⟨w',hs,hw'⟩:=hw.set (k:=l[k].toNat) (by omega) true
  rw [wM ha hin.1] at hw'
  obtain ⟨r,hr,hK⟩:=ih (k + 1) w' (by omega) hw'
  refine ⟨r,?_,hK⟩
  have c1:(Bool.and (Go.Ab.slSize x3 1) (Nat.blt k l.length))=true:=by rw [h3.slSize]; simpa using hkl
  have c2:(Bool.and (Go.Ab.slSize w 1) (Nat.blt l[k].toNat (bY R (onB g (l.take k))).length))=true:=by rw [hw.slSize,bS]; simp; omega
  unfold f45_0
  refine aa.tv rfl (aa.ite (aK hkl) (fun _=>?_) fun h=>nomatch h)
  exact aa.nat h3.slLen (aa.nat (aS (by omega)) (aa.chk c1 (aa.tvs he (aa.chk rfl (aa.nat hw.slLen (aa.nat (aH hin.1 ⟨by omega,by omega⟩) (aa.chk c2 (aa.tvs he2 (aa.chk rfl (aa.tv hs (aa.tv (inc hkl hbl) (f45_0_J hr))))))))))))
theorem rAsk2 {x3:TV} {l:List Int} (h3:RInts (some true) x3 l) {R:Nat} (hR:R≤256) (hl:okL R l) {g:Nat→Bool} {y4 x5:TV} {K:TV→Prop}
  (hend:∀ w,RBArr w R (onB g l)→∃ r,aa prog 45 (f45_3 (I l.length) (I l.length) w x3 y4 x5) r∧K r):∀ (d k:Nat) (w:TV),k + d=l.length→RBArr w R (onB g (l.take k))→∃ r,aa prog 45 (f45_3 (I l.length) (I k) w x3 y4 x5) r∧K r:=by
 intro d
 induction d with
 | zero =>
  intro k w hk hw
  have hk:k=l.length:=by omega
  subst hk
  rw [List.take_length] at hw
  exact hend w hw
 | succ d ih =>
  intro k w hk hw
  have hkl:k < l.length:=by omega
  have ha:l[k]? = some l[k]:=EK hkl
  have hin:=hl _ (List.getElem_mem hkl)
  obtain ⟨e,he,rfl,hi⟩:=h3.pel ha
  have he2:=hw.get (k:=l[k].toNat) (by omega)
  have hbl:=h3.bnd
  obtain ⟨w',hs,hw'⟩:=hw.set (k:=l[k].toNat) (by omega) true
  rw [wM ha hin.1] at hw'
  obtain ⟨r,hr,hK⟩:=ih (k + 1) w' (by omega) hw'
  refine ⟨r,?_,hK⟩
  have c1:(Bool.and (Go.Ab.slSize x3 1) (Nat.blt k l.length))=true:=by rw [h3.slSize]; simpa using hkl
  have c2:(Bool.and (Go.Ab.slSize w 1) (Nat.blt l[k].toNat (bY R (onB g (l.take k))).length))=true:=by rw [hw.slSize,bS]; simp; omega
  unfold f45_3
  refine aa.tv rfl (aa.ite (aK hkl) (fun _=>?_) fun h=>nomatch h)
  exact aa.nat h3.slLen (aa.nat (aS (by omega)) (aa.chk c1 (aa.tvs he (aa.chk rfl (aa.nat hw.slLen (aa.nat (aH hin.1 ⟨by omega,by omega⟩) (aa.chk c2 (aa.tvs he2 (aa.chk rfl (aa.tv hs (aa.tv (inc hkl hbl) (f45_3_J hr))))))))))))
theorem Bq {q q':Option Bool} {e:List TV} {b:DBlock} {x:TV} {R:Nat} {g:Nat→Bool} (he:RBlock q e b) (hx:RBools q' x (bY R g)) (hR:R≤256) (hb:OkB R b) (hi64:b.ins.length≤64)
  (hal:∀ y ∈ b.ins,y.args.length≤4294967296) (hel:b.fin.args.length≤4294967296):∃ y,ak prog 45 [.agg e,x] y∧RBArr y R (nX b g):=by
 obtain ⟨c,i,ga,rfl,hc,hd,hi,hg,ho⟩:=he
 obtain ⟨v0,h0,hv0⟩:=rOwnB hx (by rw [bS]; omega)
 obtain ⟨v1,h1,hv1⟩:=BA (q:=q) (x:=b.fin) (e:=[I b.fin.kind,I b.fin.a,I b.fin.dst,I b.fin.f,ga,I b.fin.to,I b.fin.els,I b.fin.pad]) ⟨ga,rfl,hg,ho⟩ hel
 have ins:∀ (k:Nat) (w:TV),k≤b.ins.length→RBArr w R (ng (b.ins.drop k) (onB g (dq b.fin)))→∃ r,aa prog 45 (f45_1 (I ((k:Int) - 1)) i w) r∧RBArr r R (nX b g):=by
  intro k
  induction k with
  | zero =>
   intro w hk hw
   refine ⟨w,?_,by simpa [nX] using hw⟩
   unfold f45_1
   exact aa.tv rfl (aa.ite (v:=false) (by simp [asBool]) (fun h=>nomatch h) fun _=>aa.chk (hw.own fun _ _ h=>h.own) aa.ret)
  | succ k ih =>
   intro w hk hw
   have hkl:k < b.ins.length:=by omega
   have ha:b.ins[k]? = some b.ins[k]:=EK hkl
   have hm:=List.getElem_mem hkl
   have hdr:=List.drop_eq_getElem_cons hkl
   generalize b.ins[k]=y at ha hm hdr
   have e1:((k + 1:Nat):Int) - 1=(k:Int):=by omega
   rw [e1]
   obtain ⟨ey,hey,hry⟩:=hi.idx (k:=.i64) ha
   have hsy:=rSets hry
   obtain ⟨v,hv,hrv⟩:=rAsks hry (hal y hm)
   obtain ⟨gy,rfl,_,_⟩:=hry
   have hbeg:ng (b.ins.drop k) (onB g (dq b.fin))=sT y (ng (b.ins.drop (k + 1)) (onB g (dq b.fin))):=by rw [hdr]; rfl
   have after:∀ w',RBArr w' R (ya (ng (b.ins.drop (k + 1)) (onB g (dq b.fin))) (dc y))→∃ r,aa prog 45 (f45_2 (I y.op) (I y.dst) (I y.a) (I y.b) (W y.k) (I y.f) gy i w' (I k)) r∧RBArr r R (nX b g):=by
    intro w' hw'
    obtain ⟨r,hr,hK⟩:=rAsk2 (y4:=i) (x5:=I k) (K:=fun r=>RBArr r R (nX b g)) hrv hR (hb.asks y hm) (g:=ya (ng (b.ins.drop (k + 1)) (onB g (dq b.fin))) (dc y)) (fun w2 hw2=>by
     obtain ⟨r,hr,hK⟩:=ih w2 (by omega) (by rw [hbeg]; exact hw2)
     refine ⟨r,?_,hK⟩
     unfold f45_3
     refine aa.tv rfl (aa.ite aZ (fun h=>nomatch h) fun _=>?_)
     exact aa.tv (psub (a:=(k:Int)) (b:=1) ⟨by omega,by omega⟩) (f45_1_J hr)) (fu y).length 0 w' (by omega) (by rw [xO]; exact hw')
    refine ⟨r,?_,hK⟩
    unfold f45_2
    exact aa.call hv (aa.chk (by simp [ab,zSl,aC,hrv.isSl]) (aa.tv hrv.len (f45_3_J hr)))
   have ge:asBool (.lit (.bool (decide ((k:Int) ≥ 0))))=some true:=by simp [asBool]
   cases hs:dc y with
   | none =>
    rw [hs] at hsy after
    rw [Ao] at after
    obtain ⟨r,hr,hK⟩:=after w hw
    refine ⟨r,?_,hK⟩
    unfold f45_1
    exact aa.tv rfl (aa.ite ge (fun _=>aa.tvs hey (aa.chk rfl (aa.call hsy (aa.chk rfl (aa.chk rfl (aa.chk rfl (aa.ite rfl (fun h=>nomatch h) fun _=>f45_2_J hr))))))) fun h=>nomatch h)
   | some d =>
    rw [hs] at hsy after
    obtain ⟨d0,dR⟩:=hb.sets y hm d hs
    have he2:=hw.get (k:=d.toNat) (by omega)
    obtain ⟨w',hs',hw'⟩:=hw.set (k:=d.toNat) (by omega) false
    rw [AA d0] at hw'
    obtain ⟨r,hr,hK⟩:=after w' hw'
    refine ⟨r,?_,hK⟩
    have c2:(Bool.and (Go.Ab.slSize w 1) (Nat.blt d.toNat (bY R (ng (b.ins.drop (k + 1)) (onB g (dq b.fin)))).length))=true:=by rw [hw.slSize,bS]; simp; omega
    unfold f45_1
    exact aa.tv rfl (aa.ite ge (fun _=>aa.tvs hey (aa.chk rfl (aa.call hsy (aa.chk rfl (aa.chk rfl (aa.chk rfl (aa.ite rfl (fun _=>aa.nat hw.slLen (aa.nat (aH (n:=d) d0 ⟨by omega,by omega⟩) (aa.chk c2 (aa.tvs he2 (aa.chk rfl (aa.tv hs' (f45_2_J hr))))))) fun h=>nomatch h))))))) fun h=>nomatch h)
 obtain ⟨r,hr,hK⟩:=rAsk1 (y4:=B b.landing) (y5:=I b.pad.dst) (y6:=c) (y7:=B b.pad.all) (y8:=B b.pad.cleanup) (y9:=i) (y10:=I b.fin.kind) (y11:=I b.fin.a) (y12:=I b.fin.dst) (y13:=I b.fin.f) (y14:=ga) (y15:=I b.fin.to) (y16:=I b.fin.els) (y17:=I b.fin.pad)
  (K := fun r => RBArr r R (nX b g)) hv1 hR hb.ends (g := g) (fun w hw => by
   obtain ⟨r,hr,hK⟩:=ins b.ins.length w (Nat.le_refl _) (by rw [List.drop_length]; exact hw)
   refine ⟨r,?_,hK⟩
   unfold f45_0
   refine aa.tv rfl (aa.ite aZ (fun h=>nomatch h) fun _=>?_)
   have hbi:=hi.bnd
   exact aa.tv hi.len (aa.tv (psub (a:=(b.ins.length:Int)) (b:=1) ⟨by omega,by omega⟩) (f45_1_J hr))) (dq b.fin).length 0 v0 (by omega) (by rw [xO]; exact hv0)
 refine ⟨r,?_,hK⟩
 refine ak.of (f45_MR _ _) ?_
 unfold f45_M
 exact aa.chk rfl (aa.call h0 (aa.chk (by simp [ab,zSl,aC,hv0.isSl]) (aa.call h1 (aa.chk (by simp [ab,zSl,aC,hv1.isSl]) (aa.tv hv1.len (f45_0_J hr))))))
theorem rAdd0 {q:Option Bool} {x1:TV} {R:Nat} {a g:Nat→Bool} (h1:RBools q x1 (bY R a)) (hR:R≤256) {s:Int} {y5 y6 y7 y8 y9 y10 y11 y12 y13 y14 y15 y16 y17 y18 y19 y20 y21 y22 y23:TV} {K:TV→Prop}
  (hend:∀ w,RBArr w R (xP g a s)→∃ r,aa prog 47 (f47_0 (I s) x1 (I R) (I R) w y5 y6 y7 y8 y9 y10 y11 y12 y13 y14 y15 y16 y17 y18 y19 y20 y21 y22 y23) r∧K r):∀ (d k:Nat) (w:TV),k + d=R→RBArr w R (gR g a s k)→∃ r,aa prog 47 (f47_0 (I s) x1 (I R) (I k) w y5 y6 y7 y8 y9 y10 y11 y12 y13 y14 y15 y16 y17 y18 y19 y20 y21 y22 y23) r∧K r:=by
 intro d
 induction d with
 | zero =>
  intro k w hk hw
  have hk:k=R:=by omega
  subst hk
  refine hend w ?_
  have:=hw
  unfold RBArr at this ⊢
  rw [oZ] at this
  exact this
 | succ d ih =>
  intro k w hk hw
  have hkl:k < R:=by omega
  obtain ⟨e,he,hre⟩:=h1.idx (k:=.i64) (bT hkl)
  cases hre
  have hbl:R≤9223372036854775807:=by omega
  have jn:∀ {w'},RBArr w' R (gR g a s (k + 1))→∃ r,aa prog 47 (.tv (pbin (.int .i64) .add (I k) (I 1)) fun v=>.jmp _ (f47_0_S (I s) x1 (I R) v w' y5 y6 y7 y8 y9 y10 y11 y12 y13 y14 y15 y16 y17 y18 y19 y20 y21 y22 y23)) r∧K r:=fun hw'=>by
   obtain ⟨r,hr,hK⟩:=ih (k + 1) _ (by omega) hw'
   exact ⟨r,aa.tv (inc hkl hbl) (f47_0_J hr),hK⟩
  cases hak:a k with
  | false =>
   rw [jN (by rw [hak]; rintro ⟨h,_⟩; cases h)] at hw
   obtain ⟨r,hr,hK⟩:=jn hw
   refine ⟨r,?_,hK⟩
   rw [hak] at he
   unfold f47_0
   refine aa.tv rfl (aa.ite (aK hkl) (fun _=>?_) fun h=>nomatch h)
   exact aa.tvs he (aa.chk rfl (aa.ite rfl (fun h=>nomatch h) fun _=>hr))
  | true =>
   rw [hak] at he
   by_cases hks:s=(k:Int)
   ·rw [jN (fun h=>h.2 hks)] at hw
    obtain ⟨r,hr,hK⟩:=jn hw
    refine ⟨r,?_,hK⟩
    unfold f47_0
    refine aa.tv rfl (aa.ite (aK hkl) (fun _=>?_) fun h=>nomatch h)
    exact aa.tvs he (aa.chk rfl (aa.ite rfl (fun _=>aa.tv rfl (aa.ite (v:=false) (by simp [asBool,hks]) (fun h=>nomatch h) fun _=>hr)) fun h=>nomatch h))
   ·have he2:=hw.get hkl
    obtain ⟨w',hs,hw'⟩:=hw.set hkl true
    rw [oT hak hks] at hw'
    obtain ⟨r,hr,hK⟩:=jn hw'
    refine ⟨r,?_,hK⟩
    have c2:(Bool.and (Go.Ab.slSize w 1) (Nat.blt k (bY R (gR g a s k)).length))=true:=by rw [hw.slSize,bS]; simpa using hkl
    unfold f47_0
    refine aa.tv rfl (aa.ite (aK hkl) (fun _=>?_) fun h=>nomatch h)
    exact aa.tvs he (aa.chk rfl (aa.ite rfl (fun _=>aa.tv rfl (aa.ite (v:=true) (by simp [asBool]; exact fun h=>hks h.symm) (fun _=>aa.nat hw.slLen (aa.nat (aS (by omega)) (aa.chk c2 (aa.tvs he2 (aa.chk rfl (aa.tv hs hr)))))) fun h=>nomatch h)) fun h=>nomatch h))
theorem rAdd2 {q:Option Bool} {x1:TV} {R:Nat} {a g:Nat→Bool} (h1:RBools q x1 (bY R a)) (hR:R≤256) {s:Int}  {K:TV→Prop}
  (hend:∀ w,RBArr w R (xP g a s)→∃ r,aa prog 47 (f47_2 (I s) x1 (I R) (I R) w ) r∧K r):∀ (d k:Nat) (w:TV),k + d=R→RBArr w R (gR g a s k)→∃ r,aa prog 47 (f47_2 (I s) x1 (I R) (I k) w ) r∧K r:=by
 intro d
 induction d with
 | zero =>
  intro k w hk hw
  have hk:k=R:=by omega
  subst hk
  refine hend w ?_
  have:=hw
  unfold RBArr at this ⊢
  rw [oZ] at this
  exact this
 | succ d ih =>
  intro k w hk hw
  have hkl:k < R:=by omega
  obtain ⟨e,he,hre⟩:=h1.idx (k:=.i64) (bT hkl)
  cases hre
  have hbl:R≤9223372036854775807:=by omega
  have jn:∀ {w'},RBArr w' R (gR g a s (k + 1))→∃ r,aa prog 47 (.tv (pbin (.int .i64) .add (I k) (I 1)) fun v=>.jmp _ (f47_2_S (I s) x1 (I R) v w' )) r∧K r:=fun hw'=>by
   obtain ⟨r,hr,hK⟩:=ih (k + 1) _ (by omega) hw'
   exact ⟨r,aa.tv (inc hkl hbl) (f47_2_J hr),hK⟩
  cases hak:a k with
  | false =>
   rw [jN (by rw [hak]; rintro ⟨h,_⟩; cases h)] at hw
   obtain ⟨r,hr,hK⟩:=jn hw
   refine ⟨r,?_,hK⟩
   rw [hak] at he
   unfold f47_2
   refine aa.tv rfl (aa.ite (aK hkl) (fun _=>?_) fun h=>nomatch h)
   exact aa.tvs he (aa.chk rfl (aa.ite rfl (fun h=>nomatch h) fun _=>hr))
  | true =>
   rw [hak] at he
   by_cases hks:s=(k:Int)
   ·rw [jN (fun h=>h.2 hks)] at hw
    obtain ⟨r,hr,hK⟩:=jn hw
    refine ⟨r,?_,hK⟩
    unfold f47_2
    refine aa.tv rfl (aa.ite (aK hkl) (fun _=>?_) fun h=>nomatch h)
    exact aa.tvs he (aa.chk rfl (aa.ite rfl (fun _=>aa.tv rfl (aa.ite (v:=false) (by simp [asBool,hks]) (fun h=>nomatch h) fun _=>hr)) fun h=>nomatch h))
   ·have he2:=hw.get hkl
    obtain ⟨w',hs,hw'⟩:=hw.set hkl true
    rw [oT hak hks] at hw'
    obtain ⟨r,hr,hK⟩:=jn hw'
    refine ⟨r,?_,hK⟩
    have c2:(Bool.and (Go.Ab.slSize w 1) (Nat.blt k (bY R (gR g a s k)).length))=true:=by rw [hw.slSize,bS]; simpa using hkl
    unfold f47_2
    refine aa.tv rfl (aa.ite (aK hkl) (fun _=>?_) fun h=>nomatch h)
    exact aa.tvs he (aa.chk rfl (aa.ite rfl (fun _=>aa.tv rfl (aa.ite (v:=true) (by simp [asBool]; exact fun h=>hks h.symm) (fun _=>aa.nat hw.slLen (aa.nat (aS (by omega)) (aa.chk c2 (aa.tvs he2 (aa.chk rfl (aa.tv hs hr)))))) fun h=>nomatch h)) fun h=>nomatch h))
theorem rAdd3 {q:Option Bool} {x1:TV} {R:Nat} {a g:Nat→Bool} (h1:RBools q x1 (bY R a)) (hR:R≤256) {s:Int} {y5 y6 y7 y8 y9 w10 x11 x12:TV} {K:TV→Prop}
  (hend:∀ w,RBArr w R (xP g a s)→∃ r,aa prog 47 (f47_3 (I s) x1 (I R) (I R) w y5 y6 y7 y8 y9 w10 x11 x12) r∧K r):∀ (d k:Nat) (w:TV),k + d=R→RBArr w R (gR g a s k)→∃ r,aa prog 47 (f47_3 (I s) x1 (I R) (I k) w y5 y6 y7 y8 y9 w10 x11 x12) r∧K r:=by
 intro d
 induction d with
 | zero =>
  intro k w hk hw
  have hk:k=R:=by omega
  subst hk
  refine hend w ?_
  have:=hw
  unfold RBArr at this ⊢
  rw [oZ] at this
  exact this
 | succ d ih =>
  intro k w hk hw
  have hkl:k < R:=by omega
  obtain ⟨e,he,hre⟩:=h1.idx (k:=.i64) (bT hkl)
  cases hre
  have hbl:R≤9223372036854775807:=by omega
  have jn:∀ {w'},RBArr w' R (gR g a s (k + 1))→∃ r,aa prog 47 (.tv (pbin (.int .i64) .add (I k) (I 1)) fun v=>.jmp _ (f47_3_S (I s) x1 (I R) v w' y5 y6 y7 y8 y9 w10 x11 x12)) r∧K r:=fun hw'=>by
   obtain ⟨r,hr,hK⟩:=ih (k + 1) _ (by omega) hw'
   exact ⟨r,aa.tv (inc hkl hbl) (f47_3_J hr),hK⟩
  cases hak:a k with
  | false =>
   rw [jN (by rw [hak]; rintro ⟨h,_⟩; cases h)] at hw
   obtain ⟨r,hr,hK⟩:=jn hw
   refine ⟨r,?_,hK⟩
   rw [hak] at he
   unfold f47_3
   refine aa.tv rfl (aa.ite (aK hkl) (fun _=>?_) fun h=>nomatch h)
   exact aa.tvs he (aa.chk rfl (aa.ite rfl (fun h=>nomatch h) fun _=>hr))
  | true =>
   rw [hak] at he
   by_cases hks:s=(k:Int)
   ·rw [jN (fun h=>h.2 hks)] at hw
    obtain ⟨r,hr,hK⟩:=jn hw
    refine ⟨r,?_,hK⟩
    unfold f47_3
    refine aa.tv rfl (aa.ite (aK hkl) (fun _=>?_) fun h=>nomatch h)
    exact aa.tvs he (aa.chk rfl (aa.ite rfl (fun _=>aa.tv rfl (aa.ite (v:=false) (by simp [asBool,hks]) (fun h=>nomatch h) fun _=>hr)) fun h=>nomatch h))
   ·have he2:=hw.get hkl
    obtain ⟨w',hs,hw'⟩:=hw.set hkl true
    rw [oT hak hks] at hw'
    obtain ⟨r,hr,hK⟩:=jn hw'
    refine ⟨r,?_,hK⟩
    have c2:(Bool.and (Go.Ab.slSize w 1) (Nat.blt k (bY R (gR g a s k)).length))=true:=by rw [hw.slSize,bS]; simpa using hkl
    unfold f47_3
    refine aa.tv rfl (aa.ite (aK hkl) (fun _=>?_) fun h=>nomatch h)
    exact aa.tvs he (aa.chk rfl (aa.ite rfl (fun _=>aa.tv rfl (aa.ite (v:=true) (by simp [asBool]; exact fun h=>hks h.symm) (fun _=>aa.nat hw.slLen (aa.nat (aS (by omega)) (aa.chk c2 (aa.tvs he2 (aa.chk rfl (aa.tv hs hr)))))) fun h=>nomatch h)) fun h=>nomatch h))
end Go.Ab.A10
end
section
set_option maxRecDepth 10000
namespace Go.Ab
structure OkG (N:Nat) (e:DEnd):Prop where
 to:e.kind=2∨e.kind=3∨e.kind=4→0≤e.to∧e.to.toNat < N
 els:e.kind=3→0≤e.els∧e.els.toNat < N
 pad:e.kind=4→0≤e.pad∧e.pad.toNat < N
def prA (A:Nat→Nat→Bool) (n i:Nat):Prop:=A n i=true
theorem RTab.row {q:Option Bool} {w:TV} {N R:Nat} {F:Nat→Option (Nat→Bool)} (h:RTab q w N R F) {n:Nat} (hn:n < N) {g:Nat→Bool} (hg:F n=some g):∃ r,Go.Ab.pel w n=some [r]∧RBools q r (bY R g):=by
 obtain ⟨e,he,hr⟩:=RL.pel h (i:=n) (a:=some (bY R g)) (by rw [bT hn,hg]; rfl)
 obtain ⟨r,rfl,hr⟩:=hr
 exact ⟨r,he,hr⟩
theorem RTab.rowI {q:Option Bool} {w:TV} {N R:Nat} {F:Nat→Option (Nat→Bool)} (h:RTab q w N R F) {n:Int} (h0:0≤n) (hn:n.toNat < N) {g:Nat→Bool} (hg:F n.toNat=some g):∃ r,pidx 1 w (I n)=some [r]∧RBools q r (bY R g):=by
 obtain ⟨e,he,hr⟩:=RL.bF h (k:=.i64) h0 (a:=some (bY R g)) (by rw [bT hn,hg]; rfl)
 obtain ⟨r,rfl,hr⟩:=hr
 exact ⟨r,he,hr⟩
theorem RTab.set {w:TV} {N R:Nat} {F:Nat→Option (Nat→Bool)} (h:RTab (some true) w N R F) {n:Nat} (hn:n < N) {g:Nat→Bool} {r:TV} (hr:RBArr r R g):∃ e w',Go.Ab.pel w n=some e∧a7 zSl e 0=true∧bI [] w n 0 [r]=some w'∧RTab (some true) w' N R (je F n (some g)):=by
 obtain ⟨e,he,hre⟩:=RL.pel h (bT hn)
 obtain ⟨r0,rfl,hs0⟩:=RRow.isSl hre
 obtain ⟨w',h1,h2⟩:=RL.oP h he (d:=0) (ys:=[r]) (a:=some (bY R g)) ⟨r,rfl,hr⟩
 refine ⟨[r0],w',he,by simp [a7,zSl,aC,hs0],h1,?_⟩
 rw [sw] at h2
 have e2:je (fun n=>(F n).map (bY R)) n (some (bY R g))=fun m=>(je F n (some g) m).map (bY R):=by
  funext m
  by_cases e:m=n
  ·subst e; rw [b7,b7]; rfl
  ·rw [cg e,cg e]
 rw [e2] at h2
 exact h2
theorem RTab.size {q:Option Bool} {w:TV} {N R:Nat} {F:Nat→Option (Nat→Bool)} (h:RTab q w N R F) {n:Nat} (hn:n < N):Go.Ab.slLen w=some N∧(Bool.and (Go.Ab.slSize w 1) (Nat.blt n N))=true:=by
 refine ⟨by rw [RL.slLen h,bS],?_⟩
 rw [RL.slSize h]
 simpa using hn
theorem RTab.frz {q:Option Bool} {w:TV} {N R:Nat} {F:Nat→Option (Nat→Bool)} (h:RTab q w N R F):RTab (some false) (Ab.frz w) N R F:=RL.frz h fun _ _ h=>h.frz
theorem CM (R:Nat) (hR:R≤256):RBArr (.sl true 1 (List.replicate R [B false])) R fun _=>false:=by
 refine .sl (by simp) ?_ (by simp; omega)
 rw [← xA]
 refine F2.ns (by simp) fun i e a h1 h2=>?_
 obtain ⟨hi,rfl⟩:=EJ.1 h1
 obtain ⟨hi2,rfl⟩:=EJ.1 h2
 rw [List.getElem_replicate,List.getElem_replicate]
 rfl
theorem Ez {R:Nat} (N:Nat) (hN:N≤64):RTab (some true) (.sl true 1 (List.replicate N [.lit aI])) N R fun _=>none:=by
 refine .sl (by simp) ?_ (by simp; omega)
 rw [show (bY N fun n=>(none:Option (Nat→Bool)).map (bY R))=List.replicate N none by rw [xA]; rfl]
 refine F2.ns (by simp) fun i e a h1 h2=>?_
 obtain ⟨hi,rfl⟩:=EJ.1 h1
 obtain ⟨hi2,rfl⟩:=EJ.1 h2
 rw [List.getElem_replicate,List.getElem_replicate]
 rfl
noncomputable def Ap (A:Nat→Nat→Bool) (l:List Int):Nat→Bool:=fun i=>tt (∃ t ∈ l,A t.toNat i=true)
theorem vA {A:Nat→Nat→Bool} {l:List Int} {i:Nat}:Ap A l i=true ↔ ∃ t ∈ l,A t.toNat i=true:=aP
theorem Bc {A:Nat→Nat→Bool} {l:List Int} {k:Nat} {p:Int} (hp:l[k]? = some p):xP (Ap A (l.take k)) (A p.toNat) (-1)=Ap A (l.take (k + 1)):=by
 funext i
 apply dF
 rw [we,vA,vA,List.take_add_one,hp]
 constructor
 ·rintro (⟨t,h1,h2⟩ | ⟨h1,h2⟩)
  ·exact ⟨t,List.mem_append_left _ h1,h2⟩
  ·exact ⟨p,List.mem_append_right _ (by simp),h1⟩
 ·rintro ⟨t,h1,h2⟩
  rcases List.mem_append.1 h1 with h1 | h1
  ·exact .inl ⟨t,h1,h2⟩
  ·simp at h1
   subst h1
   exact .inr ⟨h2,by omega⟩
end Go.Ab
namespace Go.Ab.A10
open Go Go.Ab Go.Proofs
theorem yJ {q qb qt : Option Bool} {bl at_ be : TV} {e : List TV} {params : Int} {bs : List DBlock} {b : DBlock} {R : Nat} {A : Nat → Nat → Bool} (hbl : RL q 14 (RBlock q) bl bs) (hat : RTab qt at_ bs.length R fun n => some (A n)) (he : RBlock qb e b) (hR : R ≤ 256) (hG : OkG bs.length b.fin) :
  ∃ y,ak prog 47 [.agg [I params,I (R:Int),bl,at_,be],.agg e] y∧RBArr y R (lj bs (prA A) b.fin):=by
 have hgo:=r15 he
 obtain ⟨c,i,ga,rfl,hc,hd,hi,hg,ho⟩:=he
 have hn:aj (I (R:Int))=some R:=aS (by omega)
 have hle:(Bool.and (Nat.ble R R) (Nat.ble R 4294967296))=true:=by simp; omega
 have fin:∀ {w:TV} {g:Nat→Bool},RBArr w R g→(∀ i,i < R→(g i=true ↔ fG bs (prA A) b.fin i))→RBArr w R (lj bs (prA A) b.fin):=fun {w g} hw h=>by
  have:bY R g=bY R (lj bs (prA A) b.fin):=kI fun i hi=>dF ((h i hi).trans aP.symm)
  unfold RBArr at hw ⊢
  rw [this] at hw
  exact hw
 by_cases k4:b.fin.kind=4
 ·obtain ⟨t0,tN⟩:=hG.to (.inr (.inr k4))
  obtain ⟨p0,pN⟩:=hG.pad k4
  obtain ⟨r1,hr1,hrr1⟩:=hat.rowI t0 tN rfl
  obtain ⟨r2,hr2,hrr2⟩:=hat.rowI p0 pN rfl
  have hpb:bs[b.fin.pad.toNat]? = some bs[b.fin.pad.toNat]:=EK pN
  generalize bs[b.fin.pad.toNat]=pb at hpb
  obtain ⟨ep,hep,hrp⟩:=hbl.bF (k:=.i64) p0 hpb
  obtain ⟨c2,i2,g2,rfl,_⟩:=hrp
  have hl1:=hrr1.len (t:=4)
  have hl2:=hrr2.len (t:=4)
  rw [bS] at hl1 hl2
  obtain ⟨r,hr,hK⟩:=rAdd0 (y5:=I params) (y6:=I (R:Int)) (y7:=bl) (y8:=at_) (y9:=be) (y10:=B b.landing) (y11:=I b.pad.dst) (y12:=c) (y13:=B b.pad.all) (y14:=B b.pad.cleanup) (y15:=i) (y16:=I b.fin.kind) (y17:=I b.fin.a) (y18:=I b.fin.dst) (y19:=I b.fin.f) (y20:=ga) (y21:=I b.fin.to) (y22:=I b.fin.els) (y23:=I b.fin.pad)
   (K := fun r => RBArr r R (lj bs (prA A) b.fin)) hrr1 hR (s := b.fin.dst) (g := fun _ => false) (fun w hw => by
    obtain ⟨r,hr,hK⟩:=rAdd2 (K:=fun r=>RBArr r R (lj bs (prA A) b.fin)) hrr2 hR (s:=pb.pad.dst) (g:=xP (fun _=>false) (A b.fin.to.toNat) b.fin.dst) (fun w2 hw2=>by
     refine ⟨w2,?_,fin hw2 fun i hi=>?_⟩
     ·unfold f47_2
      refine aa.tv rfl (aa.ite aZ (fun h=>nomatch h) fun _=>?_)
      exact aa.chk (hw2.own fun _ _ h=>h.own) aa.ret
     ·rw [we,we]
      unfold fG prA
      constructor
      ·rintro ((h | ⟨h1,h2⟩) | ⟨h1,h2⟩)
       ·cases h
       ·exact .inl ⟨.inr (.inr ⟨k4,h2⟩),h1⟩
       ·exact .inr (.inr ⟨k4,pb,hpb,h2,h1⟩)
      ·rintro (⟨h1,h2⟩ | ⟨h1,h2⟩ | ⟨h1,pb',h2,h3,h4⟩)
       ·rcases h1 with h1 | h1 | ⟨_,h1⟩
        ·omega
        ·omega
        ·exact .inl (.inr ⟨h2,h1⟩)
       ·omega
       ·rw [hpb] at h2
        cases h2
        exact .inr ⟨h4,h3⟩) R 0 w (by omega) (by rw [nj]; exact hw)
    refine ⟨r,?_,hK⟩
    unfold f47_0
    refine aa.tv rfl (aa.ite aZ (fun h=>nomatch h) fun _=>?_)
    exact aa.tvs hep (aa.chk rfl (aa.tvs hr2 (aa.chk rfl (aa.tv hl2 (f47_2_J hr)))))) R 0 _ (by omega) (by rw [nj]; exact CM R hR)
  refine ⟨r,?_,hK⟩
  refine ak.of (f47_MR _ _) ?_
  unfold f47_M
  exact aa.chk rfl (aa.chk rfl (aa.nat hn (aa.nat hn (aa.chk hle (aa.tv rfl (aa.ite (v:=true) (by simp [asBool,k4]) (fun _=>aa.tvs hr1 (aa.chk rfl (aa.tv hl1 (f47_0_J hr)))) fun h=>nomatch h))))))
 ·obtain ⟨y,hy,hry⟩:=hgo
  have hgl:∀ t ∈ gl b,0≤t∧t.toNat < bs.length:=by
   intro t ht
   unfold gl at ht
   rcases List.mem_append.1 ht with h | h
   ·split at h
    ·rename_i hk
     simp at h
     subst h
     exact hG.to hk
    ·cases h
   ·split at h
    ·rename_i hk
     simp at h
     subst h
     exact hG.els hk
    ·cases h
  have hyb:=hry.bnd
  have loop : ∀ (d j : Nat) (w : TV), j + d = (gl b).length → RBArr w R (Ap A ((gl b).take j)) → ∃ r, aa prog 47 (f47_1 (I (gl b).length) (I j) (I params) (I (R : Int)) bl at_ be w y) r ∧ RBArr r R (lj bs (prA A) b.fin) := by
   intro d
   induction d with
   | zero =>
    intro j w hj hw
    have hj:j=(gl b).length:=by omega
    subst hj
    rw [List.take_length] at hw
    refine ⟨w,?_,fin hw fun i hi=>?_⟩
    ·unfold f47_1
     refine aa.tv rfl (aa.ite aZ (fun h=>nomatch h) fun _=>?_)
     exact aa.chk (hw.own fun _ _ h=>h.own) aa.ret
    ·rw [vA]
     unfold fG prA gl
     constructor
     ·rintro ⟨t,h1,h2⟩
      rcases List.mem_append.1 h1 with h | h
      ·split at h
       ·rename_i hk
        simp at h
        subst h
        refine .inl ⟨?_,h2⟩
        rcases hk with hk | hk | hk
        ·exact .inl hk
        ·exact .inr (.inl hk)
        ·exact absurd hk k4
       ·cases h
      ·split at h
       ·rename_i hk
        simp at h
        subst h
        exact .inr (.inl ⟨hk,h2⟩)
       ·cases h
     ·rintro (⟨h1,h2⟩ | ⟨h1,h2⟩ | ⟨h1,_⟩)
      ·refine ⟨_,List.mem_append_left _ ?_,h2⟩
       rw [if_pos (by omega)]
       simp
      ·refine ⟨_,List.mem_append_right _ ?_,h2⟩
       rw [if_pos h1]
       simp
      ·exact absurd h1 k4
   | succ d ih =>
    intro j w hj hw
    have hjl:j < (gl b).length:=by omega
    have ha:(gl b)[j]? = some (gl b)[j]:=EK hjl
    obtain ⟨t0,tN⟩:=hgl _ (List.getElem_mem hjl)
    obtain ⟨e,he,rfl,_⟩:=hry.pel ha
    obtain ⟨r1,hr1,hrr1⟩:=hat.rowI t0 tN rfl
    have hl1:=hrr1.len (t:=4)
    rw [bS] at hl1
    obtain ⟨r,hr,hK⟩:=rAdd3 (y5:=I params) (y6:=I (R:Int)) (y7:=bl) (y8:=at_) (y9:=be) (w10:=y) (x11:=I (gl b).length) (x12:=I j) (K:=fun r=>RBArr r R (lj bs (prA A) b.fin)) hrr1 hR (s:=-1) (g:=Ap A ((gl b).take j)) (fun w2 hw2=>by
     rw [Bc ha] at hw2
     obtain ⟨r,hr,hK⟩:=ih (j + 1) w2 (by omega) hw2
     refine ⟨r,?_,hK⟩
     unfold f47_3
     refine aa.tv rfl (aa.ite aZ (fun h=>nomatch h) fun _=>?_)
     exact aa.tv (inc hjl hyb) (f47_1_J hr)) R 0 w (by omega) (by rw [nj]; exact hw)
    refine ⟨r,?_,hK⟩
    have c1:(Bool.and (Go.Ab.slSize y 1) (Nat.blt j (gl b).length))=true:=by rw [hry.slSize]; simpa using hjl
    unfold f47_1
    refine aa.tv rfl (aa.ite (aK hjl) (fun _=>?_) fun h=>nomatch h)
    exact aa.nat hry.slLen (aa.nat (aS (by omega)) (aa.chk c1 (aa.tvs he (aa.chk rfl (aa.tvs hr1 (aa.chk rfl (aa.tv hl1 (f47_3_J hr))))))))
  obtain ⟨r,hr,hK⟩:=loop (gl b).length 0 _ (by omega) (by
   have:=CM R hR
   have e:Ap A ((gl b).take 0)=fun _=>false:=by
    funext i
    apply dF
    rw [vA]
    simp
   rw [e]
   exact this)
  refine ⟨r,?_,hK⟩
  refine ak.of (f47_MR _ _) ?_
  unfold f47_M
  exact aa.chk rfl (aa.chk rfl (aa.nat hn (aa.nat hn (aa.chk hle (aa.tv rfl (aa.ite (v:=false) (by simp [asBool,k4]) (fun h=>nomatch h) fun _=>aa.call hy (aa.chk (by simp [ab,zSl,aC,hry.isSl]) (aa.tv hry.len (f47_1_J hr)))))))))
end Go.Ab.A10
end

import Derived.Test.YtljcpjlpggnolaaQC11F172
set_option linter.all false
section
set_option maxRecDepth 10000
namespace Go.Ab
theorem i5 {h:List Nat} {i:Nat} (hi:i < h.length):(af h)[i]? = some ((at0 h i:Nat):Int):=by
 unfold af
 rw [GA,A4 hi]
 rfl
theorem aQ (h:List Nat):(af h).length=h.length:=by simp [af]
theorem wa (h:List Nat) (i a:Nat):(af h).set i (a:Int)=af (h.set i a):=by
 unfold af
 rw [List.map_set]
theorem Bh {w:TV} {h:List Nat} (hw:RInts (some true) w (af h)) {i j:Nat} (hi:i < h.length) (hj:j < h.length):Go.Ab.pel w i=some [I (at0 h i:Nat)]∧Go.Ab.pel w j=some [I (at0 h j:Nat)] ∧
  ∃ w1,dN [] w i 0 [I (at0 h j:Nat)]=some w1∧Go.Ab.slLen w1=some h.length∧Go.Ab.slSize w1 1=true∧(∃ e:Int,Go.Ab.pel w1 j=some [I e])∧∃ w2,dN [] w1 j 0 [I (at0 h i:Nat)]=some w2∧RInts (some true) w2 (af (sw h i j)):=by
 obtain ⟨e1,he1,rfl,hi1⟩:=hw.pel (i5 hi)
 obtain ⟨e2,he2,rfl,hi2⟩:=hw.pel (i5 hj)
 obtain ⟨w1,a1,r1⟩:=hw.iO he1 (d:=0) (ys:=[I (at0 h j:Nat)]) (a:=((at0 h j:Nat):Int)) ⟨rfl,hi2⟩
 rw [wa] at r1
 have hj':j < (h.set i (at0 h j)).length:=by simpa using hj
 obtain ⟨e3,he3,rfl,_⟩:=r1.pel (i5 hj')
 obtain ⟨w2,a2,r2⟩:=r1.iO he3 (d:=0) (ys:=[I (at0 h i:Nat)]) (a:=((at0 h i:Nat):Int)) ⟨rfl,hi1⟩
 rw [wa] at r2
 refine ⟨he1,he2,w1,a1,?_,r1.slSize,⟨_,he3⟩,w2,a2,r2⟩
 rw [r1.slLen,aQ,List.length_set]
theorem half {j:Nat} (hj:j≤1000000):∃ v,pbin (.int .i64) .sub (I (j:Int)) (I 1)=some v∧pbin (.int .i64) .quo v (I 2)=some (I (((j - 1) / 2:Nat):Int)):=by
 refine ⟨_,AQ (by omega) (by omega),?_⟩
 show (if (2:Int)=0 then none else some (TV.lit (.int .i64 (IntKind.i64.wrap (((j:Int) - 1).tdiv 2)))))=_
 rw [if_neg (by omega)]
 have e:((j:Int) - 1).tdiv 2=(((j - 1) / 2:Nat):Int):=by
  by_cases h:j=0
  ·subst h; rfl
  ·have:(j:Int) - 1=((j - 1:Nat):Int):=by omega
   rw [this]
   rfl
 have e2:IntKind.i64.wrap ((((j - 1) / 2:Nat):Int))=(((j - 1) / 2:Nat):Int):=by
  rw [IntKind.wrap_i64]
  omega
 rw [e,e2]
theorem padd1 {a:Nat} (h:a≤1000000):pbin (.int .i64) .add (I (a:Int)) (I 1)=some (I ((a + 1:Nat):Int)):=inc (n:=2000000) (by omega) (by omega)
theorem pmul2 {a:Nat} (h:a≤1000000):pbin (.int .i64) .mul (I 2) (I (a:Int))=some (I ((2 * a:Nat):Int)):=by
 have e:IntKind.i64.wrap (2 * (a:Int))=((2 * a:Nat):Int):=by
  rw [IntKind.wrap_i64]
  omega
 show some (TV.lit (.int .i64 (IntKind.i64.wrap (2 * (a:Int)))))=_
 rw [e]
theorem A9 (a b:Nat):asBool (.lit (.bool (decide ((a:Int) < (b:Int)))))=some (decide (a < b)):=by simp [asBool]
theorem wU (a b:Nat):∃ v,pun .not (.lit (.bool (decide ((a:Int) < (b:Int)))))=some v∧asBool v=some (decide (¬ a < b)):=by
 refine ⟨_,rfl,?_⟩
 by_cases h:a < b
 ·have:(a:Int) < (b:Int):=by omega
  simp [asBool,h,this]
 ·have:¬ (a:Int) < (b:Int):=by omega
  simp [asBool,h,this]
theorem eqN (a b:Nat):asBool (.lit (.bool ((a:Int) == (b:Int))))=some (decide (a=b)):=by
 by_cases h:a=b
 ·subst h; simp [asBool]
 ·have h1:((a:Int) == (b:Int))=false:=by simp; omega
  simp only [asBool,h1,decide_eq_false h]
end Go.Ab
namespace Go.Ab.C11
open Go Go.Ab Go.Proofs
theorem up5 {w1 w2 x4 x5:TV} {g:Nat} (hg:g≤1000000) {h0:List Nat} {Z:TV→Prop} (hk:∀ (w:TV) (h:List Nat),RInts (some true) w (af h)→h.Perm h0→Heap h h.length→∃ y,aa prog 27 (f27_4 x4 x5 (I (g + 1:Nat)) w1 w2 w) y∧Z y) :
  ∀ (d j:Nat) (h:List Nat) (w:TV),j≤d→j < h.length→h.length≤100000→RInts (some true) w (af h)→h.Perm h0→HUp h h.length j→∃ y,aa prog 27 (f27_5 (I j) w1 w2 w x4 x5 (I g)) y∧Z y:=by
 intro d
 induction d with
 | zero =>
  intro j h w hjd hj hl hw hp hu
  have hj0:j=0:=by omega
  subst hj0
  obtain ⟨y,hy,hz⟩:=hk w h hw hp (hu.done (.inl rfl))
  refine ⟨y,?_,hz⟩
  obtain ⟨v,s1,s2⟩:=half (j:=0) (by omega)
  unfold f27_5
  exact aa.tv s1 (aa.tv s2 (aa.tv rfl (aa.ite (v:=true) rfl (fun _=>aa.tv (padd1 hg) (f27_4_J hy)) nofun)))
 | succ d ih =>
  intro j h w hjd hj hl hw hp hu
  obtain ⟨v,s1,s2⟩:=half (j:=j) (by omega)
  by_cases hj0:j=0
  ·subst hj0
   obtain ⟨y,hy,hz⟩:=hk w h hw hp (hu.done (.inl rfl))
   refine ⟨y,?_,hz⟩
   unfold f27_5
   exact aa.tv s1 (aa.tv s2 (aa.tv rfl (aa.ite (v:=true) rfl (fun _=>aa.tv (padd1 hg) (f27_4_J hy)) nofun)))
  ·obtain ⟨i,hi⟩:∃ i,i=(j - 1) / 2:=⟨_,rfl⟩
   rw [← hi] at s2
   have hij:i < j:=by omega
   have hil:i < h.length:=by omega
   obtain ⟨p1,p2,w1',a1,a2,a3,⟨e,a4⟩,w2',a5,a6⟩:=Bh hw hil hj
   have anj:ae (I (j:Int))=some j:=aj (by omega)
   have ani:ae (I (i:Int))=some i:=aj (by omega)
   have lw:=hw.slLen
   rw [aQ] at lw
   have hcj:(slSize w 1 && Nat.blt j h.length)=true:=by rw [hw.slSize]; simpa using hj
   have hci:(slSize w 1 && Nat.blt i h.length)=true:=by rw [hw.slSize]; simpa using hil
   obtain ⟨nv,n1,n2⟩:=wU (at0 h j) (at0 h i)
   have top:∀ {y:TV},(¬ at0 h j < at0 h i→aa prog 27 (f27_4 x4 x5 (I (g + 1:Nat)) w1 w2 w) y)→(at0 h j < at0 h i→aa prog 27 (f27_5 (I i) w1 w2 w2' x4 x5 (I g)) y)→aa prog 27 (f27_5 (I j) w1 w2 w x4 x5 (I g)) y:=by
    intro y g1 g2
    unfold f27_5
    refine aa.tv s1 (aa.tv s2 (aa.tv rfl (aa.ite (v:=false) (by rw [eqN]; simp; omega) nofun fun _=>?_)))
    refine aa.nat lw (aa.nat anj (aa.chk hcj (aa.tvs p2 (aa.chk rfl (aa.nat lw (aa.nat ani (aa.chk hci (aa.tvs p1 (aa.chk rfl (aa.tv rfl (aa.tv n1 (aa.ite n2 (fun hh=>?_) fun hh=>?_))))))))))))
    ·exact aa.tv (padd1 hg) (f27_4_J (g1 (of_decide_eq_true hh)))
    ·have hh:at0 h j < at0 h i:=by
      have:=of_decide_eq_false hh
      omega
     refine aa.nat lw (aa.nat anj (aa.chk hcj (aa.tvs p2 (aa.chk rfl (aa.nat lw (aa.nat ani (aa.chk hci (aa.tvs p1 (aa.chk rfl ?_)))))))))
     refine aa.nat lw (aa.nat ani (aa.chk hci (aa.tvs p1 (aa.chk rfl (aa.tv a1 (aa.nat a2 (aa.nat anj (aa.chk (by rw [a3]; simpa using hj) (aa.tvs a4 (aa.chk rfl (aa.tv a5 (f27_5_J (g2 hh)))))))))))))
   by_cases hlt:at0 h j < at0 h i
   ·have hs:=zM h i j
    obtain ⟨y,hy,hz⟩:=ih i (sw h i j) w2' (by omega) (by omega) (by omega) a6 ((rE hil hj).trans hp) (by
     have:=hu.step (Nat.le_refl _) (by omega) hj (by rw [← hi]; exact hlt)
     rw [← hi] at this
     rw [hs]
     exact this)
    exact ⟨y,top (fun h=>absurd hlt h) (fun _=>hy),hz⟩
   ·obtain ⟨y,hy,hz⟩:=hk w h hw hp (hu.done (.inr (by rw [← hi]; omega)))
    exact ⟨y,top (fun _=>hy) (fun h=>absurd h hlt),hz⟩
theorem up12 {w1 w2 w3 x5:TV} {k6:Nat} {x7:TV} {g:Nat} (hg:g≤1000000) {h0:List Nat} {Z:TV→Prop} (hk:∀ (w:TV) (h:List Nat),RInts (some true) w (af h)→h.Perm h0→Heap h h.length→∃ y,aa prog 27 (f27_11 x5 k6 x7 (I (g + 1:Nat)) w1 w2 w3 w) y∧Z y) :
  ∀ (d j:Nat) (h:List Nat) (w:TV),j≤d→j < h.length→h.length≤100000→RInts (some true) w (af h)→h.Perm h0→HUp h h.length j→∃ y,aa prog 27 (f27_12 (I j) w1 w2 w3 w x5 k6 x7 (I g)) y∧Z y:=by
 intro d
 induction d with
 | zero =>
  intro j h w hjd hj hl hw hp hu
  have hj0:j=0:=by omega
  subst hj0
  obtain ⟨y,hy,hz⟩:=hk w h hw hp (hu.done (.inl rfl))
  refine ⟨y,?_,hz⟩
  obtain ⟨v,s1,s2⟩:=half (j:=0) (by omega)
  unfold f27_12
  exact aa.tv s1 (aa.tv s2 (aa.tv rfl (aa.ite (v:=true) rfl (fun _=>aa.tv (padd1 hg) (f27_11_J hy)) nofun)))
 | succ d ih =>
  intro j h w hjd hj hl hw hp hu
  obtain ⟨v,s1,s2⟩:=half (j:=j) (by omega)
  by_cases hj0:j=0
  ·subst hj0
   obtain ⟨y,hy,hz⟩:=hk w h hw hp (hu.done (.inl rfl))
   refine ⟨y,?_,hz⟩
   unfold f27_12
   exact aa.tv s1 (aa.tv s2 (aa.tv rfl (aa.ite (v:=true) rfl (fun _=>aa.tv (padd1 hg) (f27_11_J hy)) nofun)))
  ·obtain ⟨i,hi⟩:∃ i,i=(j - 1) / 2:=⟨_,rfl⟩
   rw [← hi] at s2
   have hij:i < j:=by omega
   have hil:i < h.length:=by omega
   obtain ⟨p1,p2,w1',a1,a2,a3,⟨e,a4⟩,w2',a5,a6⟩:=Bh hw hil hj
   have anj:ae (I (j:Int))=some j:=aj (by omega)
   have ani:ae (I (i:Int))=some i:=aj (by omega)
   have lw:=hw.slLen
   rw [aQ] at lw
   have hcj:(slSize w 1 && Nat.blt j h.length)=true:=by rw [hw.slSize]; simpa using hj
   have hci:(slSize w 1 && Nat.blt i h.length)=true:=by rw [hw.slSize]; simpa using hil
   obtain ⟨nv,n1,n2⟩:=wU (at0 h j) (at0 h i)
   have top:∀ {y:TV},(¬ at0 h j < at0 h i→aa prog 27 (f27_11 x5 k6 x7 (I (g + 1:Nat)) w1 w2 w3 w) y)→(at0 h j < at0 h i→aa prog 27 (f27_12 (I i) w1 w2 w3 w2' x5 k6 x7 (I g)) y)→aa prog 27 (f27_12 (I j) w1 w2 w3 w x5 k6 x7 (I g)) y:=by
    intro y g1 g2
    unfold f27_12
    refine aa.tv s1 (aa.tv s2 (aa.tv rfl (aa.ite (v:=false) (by rw [eqN]; simp; omega) nofun fun _=>?_)))
    refine aa.nat lw (aa.nat anj (aa.chk hcj (aa.tvs p2 (aa.chk rfl (aa.nat lw (aa.nat ani (aa.chk hci (aa.tvs p1 (aa.chk rfl (aa.tv rfl (aa.tv n1 (aa.ite n2 (fun hh=>?_) fun hh=>?_))))))))))))
    ·exact aa.tv (padd1 hg) (f27_11_J (g1 (of_decide_eq_true hh)))
    ·have hh:at0 h j < at0 h i:=by
      have:=of_decide_eq_false hh
      omega
     refine aa.nat lw (aa.nat anj (aa.chk hcj (aa.tvs p2 (aa.chk rfl (aa.nat lw (aa.nat ani (aa.chk hci (aa.tvs p1 (aa.chk rfl ?_)))))))))
     refine aa.nat lw (aa.nat ani (aa.chk hci (aa.tvs p1 (aa.chk rfl (aa.tv a1 (aa.nat a2 (aa.nat anj (aa.chk (by rw [a3]; simpa using hj) (aa.tvs a4 (aa.chk rfl (aa.tv a5 (f27_12_J (g2 hh)))))))))))))
   by_cases hlt:at0 h j < at0 h i
   ·have hs:=zM h i j
    obtain ⟨y,hy,hz⟩:=ih i (sw h i j) w2' (by omega) (by omega) (by omega) a6 ((rE hil hj).trans hp) (by
     have:=hu.step (Nat.le_refl _) (by omega) hj (by rw [← hi]; exact hlt)
     rw [← hi] at this
     rw [hs]
     exact this)
    exact ⟨y,top (fun h=>absurd hlt h) (fun _=>hy),hz⟩
   ·obtain ⟨y,hy,hz⟩:=hk w h hw hp (hu.done (.inr (by rw [← hi]; omega)))
    exact ⟨y,top (fun _=>hy) (fun h=>absurd h hlt),hz⟩
theorem down8 {w3 w4 w5 x7:TV} {n:Nat} {h0:List Nat} (hn0:h0.length=n + 1) (hn:n≤100000) {Z:TV→Prop} (hk:∀ (w:TV) (h:List Nat) (i:Nat),RInts (some true) w (af h)→h.Perm h0→at0 h n=at0 h0 n→Heap h n→∃ y,aa prog 27 (f27_9 (I 0) (I i) w3 w4 w5 w x7) y∧Z y) :
  ∀ (d i:Nat) (h:List Nat) (w:TV),n < i + d + 1→i≤n→RInts (some true) w (af h)→h.Perm h0→at0 h n=at0 h0 n→HDn h n i→(i < n∨n=0)→∃ y,aa prog 27 (f27_8 (I 0) (I n) (I i) w3 w4 w5 w x7) y∧Z y:=by
 have out:∀ (i:Nat) (h:List Nat) (w:TV),i≤n→RInts (some true) w (af h)→h.Perm h0→at0 h n=at0 h0 n→HDn h n i→n≤2 * i + 1→∃ y,aa prog 27 (f27_8 (I 0) (I n) (I i) w3 w4 w5 w x7) y∧Z y:=by
  intro i h w hi hw hp hl hd h2
  obtain ⟨y,hy,hz⟩:=hk w h i hw hp hl (hd.done fun k h0 hk hp=>by omega)
  refine ⟨y,?_,hz⟩
  unfold f27_8
  exact aa.tv (pmul2 (by omega)) (aa.tv (padd1 (by omega)) (aa.tv rfl (aa.ite (v:=true) (by simp [asBool]; omega) (fun _=>f27_9_J hy) nofun)))
 intro d
 induction d with
 | zero =>
  intro i h w hd hi hw hp hl hD hin
  exact out i h w hi hw hp hl hD (by omega)
 | succ d ih =>
  intro i h w hd hi hw hp hl hD hin
  by_cases h2:n≤2 * i + 1
  ·exact out i h w hi hw hp hl hD h2
  ·have hlen:h.length=n + 1:=by rw [hp.length_eq,hn0]
   have lw:=hw.slLen
   rw [aQ,hlen] at lw
   have hsz:=hw.slSize
   have ten:∀ j:Nat,0 < j→j < n→(j - 1) / 2=i→(∀ k,0 < k→k < n→(k - 1) / 2=i→at0 h j≤at0 h k)→∃ y,aa prog 27 (f27_10 (I 0) (I n) (I i) (I j) w3 w4 w5 w x7) y∧Z y:=by
    intro j hj0 hj hpj hmin
    have hil:i < h.length:=by omega
    have hjl:j < h.length:=by omega
    obtain ⟨p1,p2,w1',a1,a2,a3,⟨e,a4⟩,w2',a5,a6⟩:=Bh hw hil hjl
    rw [hlen] at a2
    have anj:ae (I (j:Int))=some j:=aj (by omega)
    have ani:ae (I (i:Int))=some i:=aj (by omega)
    have hcj:(slSize w 1 && Nat.blt j (n + 1))=true:=by rw [hsz]; simp; omega
    have hci:(slSize w 1 && Nat.blt i (n + 1))=true:=by rw [hsz]; simp; omega
    obtain ⟨nv,n1,n2⟩:=wU (at0 h j) (at0 h i)
    have top:∀ {y:TV},(¬ at0 h j < at0 h i→aa prog 27 (f27_9 (I 0) (I i) w3 w4 w5 w x7) y)→(at0 h j < at0 h i→aa prog 27 (f27_8 (I 0) (I n) (I j) w3 w4 w5 w2' x7) y)→aa prog 27 (f27_10 (I 0) (I n) (I i) (I j) w3 w4 w5 w x7) y:=by
     intro y g1 g2
     unfold f27_10
     refine aa.nat lw (aa.nat anj (aa.chk hcj (aa.tvs p2 (aa.chk rfl (aa.nat lw (aa.nat ani (aa.chk hci (aa.tvs p1 (aa.chk rfl (aa.tv rfl (aa.tv n1 (aa.ite n2 (fun hh=>?_) fun hh=>?_))))))))))))
     ·exact f27_9_J (g1 (of_decide_eq_true hh))
     ·have hh:at0 h j < at0 h i:=by
       have:=of_decide_eq_false hh
       omega
      refine aa.nat lw (aa.nat anj (aa.chk hcj (aa.tvs p2 (aa.chk rfl (aa.nat lw (aa.nat ani (aa.chk hci (aa.tvs p1 (aa.chk rfl ?_)))))))))
      refine aa.nat lw (aa.nat ani (aa.chk hci (aa.tvs p1 (aa.chk rfl (aa.tv a1 (aa.nat a2 (aa.nat anj (aa.chk (by rw [a3]; simp; omega) (aa.tvs a4 (aa.chk rfl (aa.tv a5 (f27_8_J (g2 hh)))))))))))))
    by_cases hlt:at0 h j < at0 h i
    ·obtain ⟨y,hy,hz⟩:=ih j (sw h i j) w2' (by omega) (by omega) a6 ((rE hil hjl).trans hp) (by rw [lL hil hjl,if_neg (by omega),if_neg (by omega)]; exact hl) (hD.step (by omega) hj0 hj hpj hlt hmin) (.inl hj)
     exact ⟨y,top (fun h=>absurd hlt h) (fun _=>hy),hz⟩
    ·obtain ⟨y,hy,hz⟩:=hk w h i hw hp hl (hD.done fun k h0 hk hp=>by
      have:=hmin k h0 hk hp
      omega)
     exact ⟨y,top (fun _=>hy) (fun h=>absurd h hlt),hz⟩
   have ch:∀ k,0 < k→(k - 1) / 2=i→k=2 * i + 1∨k=2 * i + 2:=fun k h0 h=>by omega
   have an1:ae (I ((2 * i + 1:Nat):Int))=some (2 * i + 1):=aj (by omega)
   have an2:ae (I ((2 * i + 1 + 1:Nat):Int))=some (2 * i + 1 + 1):=aj (by omega)
   have hc1:(slSize w 1 && Nat.blt (2 * i + 1) (n + 1))=true:=by rw [hsz]; simp; omega
   have top:∀ {y:TV},(∀ (h3:2 * i + 2 < n),at0 h (2 * i + 2) < at0 h (2 * i + 1)→aa prog 27 (f27_10 (I 0) (I n) (I i) (I (2 * i + 1 + 1:Nat)) w3 w4 w5 w x7) y)→((2 * i + 2 < n→¬ at0 h (2 * i + 2) < at0 h (2 * i + 1))→aa prog 27 (f27_10 (I 0) (I n) (I i) (I (2 * i + 1:Nat)) w3 w4 w5 w x7) y)→aa prog 27 (f27_8 (I 0) (I n) (I i) w3 w4 w5 w x7) y:=by
    intro y g1 g2
    unfold f27_8
    refine aa.tv (pmul2 (by omega)) (aa.tv (padd1 (by omega)) (aa.tv rfl (aa.ite (v:=false) (by simp [asBool]; omega) nofun fun _=>?_)))
    refine aa.tv rfl (aa.ite (v:=false) (by simp [asBool]; omega) nofun fun _=>?_)
    refine aa.tv (padd1 (by omega)) (aa.tv rfl (aa.ite (A9 (2 * i + 1 + 1) n) (fun h3=>?_) fun h3=>?_))
    ·have h3:2 * i + 2 < n:=of_decide_eq_true h3
     have hc2:(slSize w 1 && Nat.blt (2 * i + 1 + 1) (n + 1))=true:=by rw [hsz]; simp; omega
     obtain ⟨e1,he1,rfl,_⟩:=hw.pel (i5 (h:=h) (i:=2 * i + 1) (by omega))
     obtain ⟨e2,he2,rfl,_⟩:=hw.pel (i5 (h:=h) (i:=2 * i + 1 + 1) (by omega))
     refine aa.nat lw (aa.nat an2 (aa.chk hc2 (aa.tvs he2 (aa.chk rfl (aa.nat lw (aa.nat an1 (aa.chk hc1 (aa.tvs he1 (aa.chk rfl (aa.tv rfl (aa.ite (A9 _ _) (fun h4=>?_) fun h4=>?_)))))))))))
     ·exact f27_10_J (g1 h3 (of_decide_eq_true h4))
     ·exact f27_10_J (g2 fun _=>of_decide_eq_false h4)
    ·have h3:¬ 2 * i + 2 < n:=of_decide_eq_false h3
     exact f27_10_J (g2 fun h=>absurd h h3)
   by_cases hb:2 * i + 2 < n∧at0 h (2 * i + 2) < at0 h (2 * i + 1)
   ·obtain ⟨y,hy,hz⟩:=ten (2 * i + 1 + 1) (by omega) (by omega) (by omega) fun k h0 hk hp=>by
     rcases ch k h0 hp with e | e
     ·subst e; exact Nat.le_of_lt hb.2
     ·subst e; exact Nat.le_refl _
    exact ⟨y,top (fun _ _=>hy) (fun h=>absurd hb.2 (h hb.1)),hz⟩
   ·obtain ⟨y,hy,hz⟩:=ten (2 * i + 1) (by omega) (by omega) (by omega) fun k h0 hk hp=>by
     rcases ch k h0 hp with e | e
     ·subst e; exact Nat.le_refl _
     ·subst e
      have:¬ at0 h (2 * i + 2) < at0 h (2 * i + 1):=fun h=>hb ⟨hk,h⟩
      omega
    exact ⟨y,top (fun h3 h4=>absurd ⟨h3,h4⟩ hb) (fun _=>hy),hz⟩
end Go.Ab.C11
end
section
set_option maxRecDepth 10000
namespace Go.Ab
def wsum (cl:Nat→List Nat) (P:List Nat) (c:Nat):Nat→Nat
 | 0=>0
 | k + 1=>wsum cl P c k + (if k ∈ P then 0 else (cl k).count c)
theorem vq {cl:Nat→List Nat} {P:List Nat} {g c:Nat}:∀ {k:Nat},k≤g→wsum cl (P ++ [g]) c k=wsum cl P c k
 | 0,_=>rfl
 | k + 1, h => by
  rw [wsum,wsum,vq (k:=k) (by omega)]
  have:k ∈ P ++ [g] ↔ k ∈ P:=by
   rw [List.mem_append,List.mem_singleton]
   exact ⟨fun h'=>h'.elim id fun e=>by omega,.inl⟩
  by_cases hk:k ∈ P
  ·rw [if_pos hk,if_pos (this.2 hk)]
  ·rw [if_neg hk,if_neg fun h'=>hk (this.1 h')]
theorem vO {cl:Nat→List Nat} {P:List Nat} {g c:Nat} (hg:g ∉ P):∀ {k:Nat},g < k→wsum cl P c k=wsum cl (P ++ [g]) c k + (cl g).count c
 | 0,h=>absurd h (Nat.not_lt_zero _)
 | k + 1, h => by
  rw [wsum,wsum]
  by_cases e:k=g
  ·subst e
   rw [if_neg hg,if_pos (List.mem_append.2 (.inr (List.mem_singleton.2 rfl))),vq (Nat.le_refl _)]
   omega
  ·rw [vO hg (k:=k) (by omega)]
   have:k ∈ P ++ [g] ↔ k ∈ P:=by
    rw [List.mem_append,List.mem_singleton]
    exact ⟨fun h'=>h'.elim id fun e'=>absurd e' e,.inl⟩
   by_cases hk:k ∈ P
   ·rw [if_pos hk,if_pos (this.2 hk)]
    omega
   ·rw [if_neg hk,if_neg fun h'=>hk (this.1 h')]
    omega
theorem pR {cl:Nat→List Nat} {P:List Nat} {c:Nat}:∀ {k:Nat},wsum cl P c k=0 ↔ ∀ g,g < k→c ∈ cl g→g ∈ P
 | 0=>⟨fun _ g h=>absurd h (Nat.not_lt_zero _),fun _=>rfl⟩
 | k + 1 => by
  rw [wsum,Nat.add_eq_zero_iff,pR]
  constructor
  ·rintro ⟨h1,h2⟩ g hg hc
   by_cases e:g=k
   ·subst e
    by_cases hk:g ∈ P
    ·exact hk
    ·rw [if_neg hk] at h2
     exact absurd hc (List.count_eq_zero.1 h2)
   ·exact h1 g (by omega) hc
  ·intro h
   refine ⟨fun g hg hc=>h g (by omega) hc,?_⟩
   by_cases hk:k ∈ P
   ·rw [if_pos hk]
   ·rw [if_neg hk]
    exact List.count_eq_zero.2 fun hc=>hk (h k (by omega) hc)
structure KI (cl:Nat→List Nat) (G:Nat) (P h:List Nat) (W:Nat→Nat) (rest:List Nat):Prop where
 wai:∀ c,c < G→W c=wsum cl P c G + rest.count c
 nod:(P ++ h).Nodup
 low:∀ g ∈ P ++ h,g < G
 zer:∀ c,c < G→(W c=0 ↔ c ∈ P ++ h)
 ord:∀ (l:List Nat) (g:Nat) (r:List Nat),P=l ++ g :: r→(∀ g',g' < G→g ∈ cl g'→g' ∈ l)∧∀ c,c < G→c ∉ l→(∀ g',g' < G→c ∈ cl g'→g' ∈ l)→g≤c
section
variable {cl:Nat→List Nat} {G:Nat} {P h:List Nat} {W:Nat→Nat}
theorem KI.pop (hK:KI cl G P h W []) {g:Nat} {h':List Nat} (hp:(h' ++ [g]).Perm h) (hmin:∀ c ∈ h,g≤c):KI cl G (P ++ [g]) h' W (cl g):=by
 have hgh:g ∈ h:=hp.mem_iff.1 (List.mem_append.2 (.inr (List.mem_singleton.2 rfl)))
 have hgG:=hK.low g (List.mem_append.2 (.inr hgh))
 have hnd:=List.nodup_append.1 hK.nod
 have hgP:g ∉ P:=fun hh=>hnd.2.2 g hh g hgh rfl
 have hperm:(P ++ [g] ++ h').Perm (P ++ h):=by
  rw [List.append_assoc]
  exact (List.Perm.append_left P ((List.perm_append_comm).trans hp))
 have hmem:∀ c,c ∈ P ++ [g] ++ h' ↔ c ∈ P ++ h:=fun c=>hperm.mem_iff
 have free:∀ c,c < G→(c ∈ P ++ h ↔ ∀ g',g' < G→c ∈ cl g'→g' ∈ P):=fun c hc=>by
  rw [← hK.zer c hc,hK.wai c hc]
  simp only [List.count_nil,Nat.add_zero]
  exact pR
 refine ⟨fun c hc=>?_,hperm.nodup_iff.2 hK.nod,fun c hc=>hK.low c ((hmem c).1 hc),fun c hc=>by rw [hmem c]; exact hK.zer c hc,fun l x r e=>?_⟩
 ·rw [hK.wai c hc,vO hgP hgG]
  simp
 ·by_cases hr:r=[]
  ·subst hr
   obtain ⟨e1,e2⟩:P=l∧g=x:=by
    have:=List.append_inj' e rfl
    exact ⟨this.1,by simpa using this.2⟩
   subst e1 e2
   refine ⟨(free g hgG).1 (List.mem_append.2 (.inr hgh)),fun c hc hcP hall=>?_⟩
   rcases List.mem_append.1 ((free c hc).2 hall) with a | a
   ·exact absurd a hcP
   ·exact hmin c a
  ·obtain ⟨r',z,rfl⟩:∃ r' z,r=r' ++ [z]:=⟨_,_,(List.dropLast_concat_getLast hr).symm⟩
   have e2:P=l ++ x :: r':=by
    have e3:P ++ [g]=(l ++ x :: r') ++ [z]:=by rw [e]; simp
    exact (List.append_inj' e3 rfl).1
   exact hK.ord l x r' e2
theorem KI.wait {c:Nat} {rest:List Nat} (hK:KI cl G P h W (c :: rest)) (hc:c < G):0 < W c∧(W c - 1≠0→KI cl G P h (xV W c (W c - 1)) rest)∧∀ h',h'.Perm (h ++ [c])→W c - 1=0→KI cl G P h' (xV W c (W c - 1)) rest:=by
 have hw:=hK.wai c hc
 rw [List.count_cons_self] at hw
 have hpos:0 < W c:=by omega
 have hno:c ∉ P ++ h:=fun hh=>by
  have:=(hK.zer c hc).2 hh
  omega
 have wai:∀ x,x < G→xV W c (W c - 1) x=wsum cl P x G + rest.count x:=fun x hx=>by
  by_cases e:x=c
  ·subst e; rw [eV]; omega
  ·rw [fy e,hK.wai x hx,List.count_cons_of_ne (Ne.symm e)]
 refine ⟨hpos,fun hne=>⟨wai,hK.nod,hK.low,fun x hx=>?_,hK.ord⟩,fun h' hp h0=>?_⟩
 ·by_cases e:x=c
  ·subst e
   rw [eV]
   exact ⟨fun h=>absurd h hne,fun h=>absurd h hno⟩
  ·rw [fy e]
   exact hK.zer x hx
 ·have hmem:∀ x,x ∈ P ++ h' ↔ x ∈ P ++ h∨x=c:=fun x=>by
   rw [List.mem_append,hp.mem_iff,List.mem_append,List.mem_append,List.mem_singleton]
   constructor
   ·rintro (a | a | a)
    ·exact .inl (.inl a)
    ·exact .inl (.inr a)
    ·exact .inr a
   ·rintro ((a | a) | a)
    ·exact .inl a
    ·exact .inr (.inl a)
    ·exact .inr (.inr a)
  refine ⟨wai,?_,fun x hx=>?_,fun x hx=>?_,hK.ord⟩
  ·refine ((List.Perm.append_left P hp).nodup_iff).2 ?_
   rw [← List.append_assoc]
   refine List.nodup_append.2 ⟨hK.nod,by simp,fun a ha b hb e=>?_⟩
   subst e
   rw [List.mem_singleton.1 hb] at ha
   exact hno ha
  ·rcases (hmem x).1 hx with a | a
   ·exact hK.low x a
   ·subst a; exact hc
  ·rw [hmem x]
   by_cases e:x=c
   ·subst e
    rw [eV]
    exact ⟨fun _=>.inr rfl,fun _=>h0⟩
   ·rw [fy e,hK.zer x hx]
    exact ⟨.inl,fun h=>h.elim id fun e'=>absurd e' e⟩
end
end Go.Ab
end
section
set_option maxRecDepth 10000
namespace Go.Ab
theorem wX {cl:Nat→List Nat} {P:List Nat} {c B:Nat} (hB:∀ g,(cl g).length≤B):∀ k,wsum cl P c k≤k * B
 | 0=>by simp [wsum]
 | k + 1=>by
  have h1:=wX hB (P:=P) (c:=c) k
  have h2:=hB k
  have h3:(cl k).count c≤(cl k).length:=List.count_le_length
  rw [wsum,Nat.add_mul,Nat.one_mul]
  split <;> omega
theorem wI (a:Int):∃ v,pifc 3 (I a)=some v∧pasrt 3 v=some (I a):=⟨.lit (.iface 3 (.int .i64 a)),rfl,rfl⟩
end Go.Ab
namespace Go.Ab.C11
open Go Go.Ab Go.Proofs
section
variable {x0 w3:TV} {cs:List (List Nat)} {cl:Nat→List Nat} (hx:RL (some false) 1 (RII (some false)) x0 (cs.map af)) (h3:RL (some true) 1 (RII (some true)) w3 (bR cs.length fun g=>af (cl g))) (hG:cs.length≤100) (hlow:∀ g c,c ∈ cl g→c < cs.length) (hB:∀ g,(cl g).length≤10000)
include hx h3 hG hlow hB
theorem waitIn {k:Nat} (hk:k < cs.length) {r:TV} (he:Go.Ab.pel w3 k=some [r]) (hr:RInts (some true) r (af (cl k))) {Z:TV→Prop}
  (hn:∀ w,RInts (some true) w (bR cs.length fun c=>((wsum cl [] c (k + 1):Nat):Int))→∃ y,aa prog 27 (f27_0 x0 (I cs.length) (I (k + 1:Nat)) w3 w) y∧Z y) :
  ∀ (d j:Nat) (w:TV),j + d=(cl k).length→RInts (some true) w (bR cs.length fun c=>((wsum cl [] c k + ((cl k).take j).count c:Nat):Int)) →
   ∃ y,aa prog 27 (f27_1 x0 (I cs.length) (I k) k (I (cl k).length) (I j) w3 w) y∧Z y:=by
 have hBk:=hB k
 intro d
 induction d with
 | zero =>
  intro j w hj hw
  have hj:j=(cl k).length:=by omega
  subst hj
  rw [List.take_length] at hw
  obtain ⟨y,hy,hz⟩:=hn w (by
   rw [aH (h:=fun c=>((wsum cl [] c k + (cl k).count c:Nat):Int)) fun c _=>by rw [wsum,if_neg (by simp)]]
   exact hw)
  refine ⟨y,?_,hz⟩
  unfold f27_1
  exact aa.tv rfl (aa.ite aJ nofun fun _=>aa.tv (inc hk (by omega)) (f27_0_J hy))
 | succ d ih =>
  intro j w hj hw
  have hjl:j < (cl k).length:=by omega
  obtain ⟨c,hc⟩:∃ c,(cl k)[j]? = some c:=⟨_,Gv hjl⟩
  have hcG:=hlow k c (GD hc)
  obtain ⟨ec,hec,rfl,_⟩:=hr.pel (show (af (cl k))[j]? = some (c:Int) by simp [af,hc])
  obtain ⟨ew,hew,rfl,hiw⟩:=hw.pel (aP hcG)
  have hb1:=wX hB (P:=[]) (c:=c) k
  have hb2:((cl k).take j).count c≤((cl k).take j).length:=List.count_le_length
  rw [List.length_take] at hb2
  have hb3:k * 10000≤100 * 10000:=Nat.mul_le_mul_right _ (by omega)
  obtain ⟨w',a1,hr'⟩:=hw.iO hew (d:=0) (ys:=[I (wsum cl [] c k + ((cl k).take j).count c + 1:Nat)]) (a:=((wsum cl [] c k + ((cl k).take j).count c + 1:Nat):Int)) ⟨rfl,by unfold inI; omega⟩
  have htk:(cl k).take (j + 1)=(cl k).take j ++ [c]:=by rw [List.take_add_one,hc]; rfl
  rw [jt,aH (h:=fun c=>((wsum cl [] c k + ((cl k).take (j + 1)).count c:Nat):Int)) fun x _=>by
   by_cases e:x=c
   ·subst e
    rw [eV,htk,List.count_append]
    simp
    omega
   ·rw [fy e,htk,List.count_append,List.count_singleton]
    have:(c == x)=false:=by simp; omega
    rw [this]
    rfl] at hr'
  obtain ⟨y,hy,hz⟩:=ih (j + 1) w' (by omega) hr'
  refine ⟨y,?_,hz⟩
  have anj:ae (I (j:Int))=some j:=aj (by omega)
  have anc:ae (I (c:Int))=some c:=aj (by omega)
  have lw:=hw.slLen
  rw [bc] at lw
  have lr:=hr.slLen
  rw [aQ] at lr
  have hcc:(slSize w 1 && Nat.blt c cs.length)=true:=by rw [hw.slSize]; simpa using hcG
  unfold f27_1
  refine aa.tv rfl (aa.ite (aF hjl) (fun _=>?_) nofun)
  refine aa.tv (h3.gc he rfl) (aa.nat lr (aa.nat anj (aa.chk (by rw [hr.slSize]; simpa using hjl) (aa.tv (h3.gc he rfl) (aa.tvs hec (aa.chk rfl ?_))))))
  refine aa.nat lw (aa.nat anc (aa.chk hcc (aa.tvs hew (aa.chk rfl (aa.tv (inc (n:=5000000) (by omega) (by omega)) ?_)))))
  exact aa.nat lw (aa.nat anc (aa.chk hcc (aa.tvs hew (aa.chk rfl (aa.tv a1 (aa.tv (inc hjl (by omega)) (f27_1_J hy)))))))
theorem FI {Z:TV→Prop} (hn:∀ w,RInts (some true) w (bR cs.length fun c=>((wsum cl [] c cs.length:Nat):Int))→∃ y,aa prog 27 (f27_2 x0 w3 w) y∧Z y) :
  ∀ (d k:Nat) (w:TV),k + d=cs.length→RInts (some true) w (bR cs.length fun c=>((wsum cl [] c k:Nat):Int))→∃ y,aa prog 27 (f27_0 x0 (I cs.length) (I k) w3 w) y∧Z y:=by
 intro d
 induction d with
 | zero =>
  intro k w hk hw
  have hk:k=cs.length:=by omega
  subst hk
  obtain ⟨y,hy,hz⟩:=hn w hw
  refine ⟨y,?_,hz⟩
  unfold f27_0
  exact aa.tv rfl (aa.ite aJ nofun fun _=>f27_2_J hy)
 | succ d ih =>
  intro k w hk hw
  have hkl:k < cs.length:=by omega
  obtain ⟨e,he,r,rfl,hr⟩:=h3.pel (aP hkl)
  obtain ⟨y,hy,hz⟩:=waitIn hx h3 hG hlow hB hkl he hr (fun w hw=>ih (k + 1) w (by omega) hw) (cl k).length 0 w (by omega) (by simpa using hw)
  refine ⟨y,?_,hz⟩
  have ank:ae (I (k:Int))=some k:=aj (by omega)
  have l3:=h3.slLen
  rw [bc] at l3
  have lr:=hr.len (t:=3)
  rw [aQ] at lr
  unfold f27_0
  refine aa.tv rfl (aa.ite (aF hkl) (fun _=>?_) nofun)
  exact aa.nat l3 (aa.nat ank (aa.chk (by rw [h3.slSize]; simpa using hkl) (aa.tvs he (aa.chk (aG hr.isSl) (aa.tv (h3.gc he rfl) (aa.tv lr (f27_1_J hy)))))))
theorem Ch {W:Nat→Nat} {w4:TV} (h4:RInts (some true) w4 (bR cs.length fun c=>((W c:Nat):Int))) {Z:TV→Prop}
  (hn:∀ (w5:TV) (h:List Nat),RInts (some true) w5 (af h)→h.Nodup→(∀ c,c ∈ h ↔ c < cs.length∧W c=0)→Heap h h.length→∃ y,aa prog 27 (f27_6 x0 w3 w4 w5) y∧Z y) :
  ∀ (d k:Nat) (w5:TV) (h:List Nat),k + d=cs.length→RInts (some true) w5 (af h)→h.Nodup→(∀ c,c ∈ h ↔ c < k∧W c=0)→Heap h h.length→h.length≤k→∃ y,aa prog 27 (f27_4 x0 (I cs.length) (I k) w3 w4 w5) y∧Z y:=by
 intro d
 induction d with
 | zero =>
  intro k w5 h hk h5 hnd hm hh hl
  have hk:k=cs.length:=by omega
  subst hk
  obtain ⟨y,hy,hz⟩:=hn w5 h h5 hnd hm hh
  refine ⟨y,?_,hz⟩
  unfold f27_4
  exact aa.tv rfl (aa.ite aJ nofun fun _=>f27_6_J hy)
 | succ d ih =>
  intro k w5 h hk h5 hnd hm hh hl
  have hkl:k < cs.length:=by omega
  obtain ⟨e,he,rfl,_⟩:=h4.pel (aP hkl)
  have ank:ae (I (k:Int))=some k:=aj (by omega)
  have l4:=h4.slLen
  rw [bc] at l4
  have hc4:(slSize w4 1 && Nat.blt k cs.length)=true:=by rw [h4.slSize]; simpa using hkl
  have heq:asBool (.lit (.bool (((W k:Nat):Int) == 0)))=some (decide (W k=0)):=eqN (W k) 0
  obtain ⟨vi,i1,i2⟩:=wI (k:Int)
  by_cases h0:W k=0
  ·have hkh:k ∉ h:=fun hh=>by have:=((hm k).1 hh).1; omega
   obtain ⟨w5',a1,hr⟩:=h5.app (e:=[I (k:Int)]) (a:=(k:Int)) ⟨rfl,by unfold inI; omega⟩ (by rw [aQ]; omega)
   have hr:RInts (some true) w5' (af (h ++ [k])):=by rw [gN]; exact hr
   have hpush:=hh.push (n:=h.length) k
   have hl1:(h ++ [k]).length=h.length + 1:=by simp
   obtain ⟨y,hy,hz⟩:=up5 (w1:=w3) (w2:=w4) (x4:=x0) (x5:=I cs.length) (g:=k) (by omega) (h0:=h ++ [k]) (Z:=Z) (fun w h' g1 g2 g3=>by
    have hpl:=g2.length_eq
    refine ih (k + 1) w h' (by omega) g1 (g2.nodup_iff.2 (List.nodup_append.2 ⟨hnd,by simp,fun a ha b hb e=>by subst e; rw [List.mem_singleton.1 hb] at ha; exact hkh ha⟩)) (fun c=>?_) g3 (by omega)
    rw [g2.mem_iff,List.mem_append,List.mem_singleton,hm c]
    constructor
    ·rintro (⟨a,b⟩ | a)
     ·exact ⟨by omega,b⟩
     ·subst a; exact ⟨by omega,h0⟩
    ·rintro ⟨a,b⟩
     by_cases e:c=k
     ·exact .inr e
     ·exact .inl ⟨by omega,b⟩) h.length h.length (h ++ [k]) w5' (Nat.le_refl _) (by omega) (by omega) hr (List.Perm.refl _) (by rw [hl1]; exact hpush)
   refine ⟨y,?_,hz⟩
   have lr:=hr.len (t:=3)
   rw [aQ,hl1] at lr
   unfold f27_4
   refine aa.tv rfl (aa.ite (aF hkl) (fun _=>?_) nofun)
   refine aa.nat l4 (aa.nat ank (aa.chk hc4 (aa.tvs he (aa.chk rfl (aa.tv rfl (aa.ite (v:=true) (by rw [heq,h0]; rfl) (fun _=>?_) nofun))))))
   exact aa.tv i1 (aa.tv i2 (aa.rws rfl (aa.tv a1 (aa.tv lr (aa.tv (psub1 (by omega) (by omega)) (f27_5_J hy))))))
  ·obtain ⟨y,hy,hz⟩:=ih (k + 1) w5 h (by omega) h5 hnd (fun c=>by
    rw [hm c]
    constructor
    ·rintro ⟨a,b⟩; exact ⟨by omega,b⟩
    ·rintro ⟨a,b⟩
     by_cases e:c=k
     ·subst e; exact absurd b h0
     ·exact ⟨by omega,b⟩) hh (by omega)
   refine ⟨y,?_,hz⟩
   unfold f27_4
   refine aa.tv rfl (aa.ite (aF hkl) (fun _=>?_) nofun)
   refine aa.nat l4 (aa.nat ank (aa.chk hc4 (aa.tvs he (aa.chk rfl (aa.tv rfl (aa.ite (v:=false) (by rw [heq]; simp [h0]) nofun fun _=>?_))))))
   exact aa.tv (inc hkl (by omega)) (f27_4_J hy)
theorem Fm {g:Nat} (hg:g < cs.length) {r:TV} (he:Go.Ab.pel w3 g=some [r]) (hr:RInts (some true) r (af (cl g))) {w6:TV} {P:List Nat} {Z:TV→Prop}
  (hn:∀ (w5 w7:TV) (h:List Nat) (W:Nat→Nat),RInts (some true) w5 (bR cs.length fun c=>((W c:Nat):Int))→RInts (some true) w7 (af h)→Heap h h.length→KI cl cs.length P h W []→∃ y,aa prog 27 (f27_7 x0 w3 w5 w6 w7) y∧Z y) :
  ∀ (d j:Nat) (w5 w7:TV) (h:List Nat) (W:Nat→Nat),j + d=(cl g).length→RInts (some true) w5 (bR cs.length fun c=>((W c:Nat):Int))→RInts (some true) w7 (af h)→Heap h h.length→KI cl cs.length P h W ((cl g).drop j) →
   ∃ y,aa prog 27 (f27_11 x0 g (I (cl g).length) (I j) w3 w5 w6 w7) y∧Z y:=by
 have hBg:=hB g
 intro d
 induction d with
 | zero =>
  intro j w5 w7 h W hj h5 h7 hh hK
  have hj:j=(cl g).length:=by omega
  subst hj
  rw [List.drop_length] at hK
  obtain ⟨y,hy,hz⟩:=hn w5 w7 h W h5 h7 hh hK
  refine ⟨y,?_,hz⟩
  unfold f27_11
  exact aa.tv rfl (aa.ite aJ nofun fun _=>f27_7_J hy)
 | succ d ih =>
  intro j w5 w7 h W hj h5 h7 hh hK
  have hjl:j < (cl g).length:=by omega
  obtain ⟨c,hc⟩:∃ c,(cl g)[j]? = some c:=⟨_,Gv hjl⟩
  have hcG:=hlow g c (GD hc)
  have hdr:(cl g).drop j=c :: (cl g).drop (j + 1):=by
   rw [List.drop_eq_getElem_cons hjl]
   obtain ⟨_,e⟩:=Gu.1 hc
   rw [e]
  rw [hdr] at hK
  obtain ⟨hpos,k1,k2⟩:=hK.wait hcG
  have hWb:W c≤2000000:=by
   rw [hK.wai c hcG]
   have hb1:=wX hB (P:=P) (c:=c) cs.length
   have hb3:cs.length * 10000≤100 * 10000:=Nat.mul_le_mul_right _ hG
   have hb2:(c :: (cl g).drop (j + 1)).count c≤(c :: (cl g).drop (j + 1)).length:=List.count_le_length
   rw [← hdr,List.length_drop] at hb2
   rw [← hdr]
   omega
  have hln:(P ++ h).length≤cs.length:=dO _ hK.nod hK.low
  rw [List.length_append] at hln
  obtain ⟨ec,hec,rfl,_⟩:=hr.pel (show (af (cl g))[j]? = some (c:Int) by simp [af,hc])
  obtain ⟨ew,hew,rfl,_⟩:=h5.pel (aP hcG)
  obtain ⟨w5',a1,hr5⟩:=h5.iO hew (d:=0) (ys:=[I (W c - 1:Nat)]) (a:=((W c - 1:Nat):Int)) ⟨rfl,by unfold inI; omega⟩
  rw [jt,aH (h:=fun x=>((xV W c (W c - 1) x:Nat):Int)) fun x _=>by
   by_cases e:x=c
   ·subst e; rw [eV,eV]
   ·rw [fy e,fy e]] at hr5
  have hew':Go.Ab.pel w5' c=some [I (W c - 1:Nat)]:=by
   obtain ⟨e,he,rfl,_⟩:=hr5.pel (aP hcG)
   rw [eV] at he
   exact he
  have anj:ae (I (j:Int))=some j:=aj (by omega)
  have anc:ae (I (c:Int))=some c:=aj (by omega)
  have l5:=h5.slLen
  have l5':=hr5.slLen
  rw [bc] at l5 l5'
  have lr:=hr.slLen
  rw [aQ] at lr
  have hc5:(slSize w5 1 && Nat.blt c cs.length)=true:=by rw [h5.slSize]; simpa using hcG
  have hc5':(slSize w5' 1 && Nat.blt c cs.length)=true:=by rw [hr5.slSize]; simpa using hcG
  have heq:asBool (.lit (.bool (((W c - 1:Nat):Int) == 0)))=some (decide (W c - 1=0)):=eqN (W c - 1) 0
  obtain ⟨vi,i1,i2⟩:=wI (c:Int)
  have top:∀ {y:TV},(W c - 1=0→∃ w7',papp 1 w7 [[I (c:Int)]]=some w7'∧plen (.slice 3) w7'=some (I (h.length + 1:Nat))∧aa prog 27 (f27_12 (I (h.length:Nat)) w3 w5' w6 w7' x0 g (I (cl g).length) (I j)) y)→(W c - 1≠0→aa prog 27 (f27_11 x0 g (I (cl g).length) (I (j + 1:Nat)) w3 w5' w6 w7) y)→aa prog 27 (f27_11 x0 g (I (cl g).length) (I j) w3 w5 w6 w7) y:=by
   intro y g1 g2
   unfold f27_11
   refine aa.tv rfl (aa.ite (aF hjl) (fun _=>?_) nofun)
   refine aa.tv (h3.gc he rfl) (aa.nat lr (aa.nat anj (aa.chk (by rw [hr.slSize]; simpa using hjl) (aa.tv (h3.gc he rfl) (aa.tvs hec (aa.chk rfl ?_))))))
   refine aa.nat l5 (aa.nat anc (aa.chk hc5 (aa.tvs hew (aa.chk rfl (aa.tv (psub1 hpos (by omega)) ?_)))))
   refine aa.nat l5 (aa.nat anc (aa.chk hc5 (aa.tvs hew (aa.chk rfl (aa.tv a1 ?_)))))
   refine aa.nat l5' (aa.nat anc (aa.chk hc5' (aa.tvs hew' (aa.chk rfl (aa.tv rfl ?_)))))
   by_cases h0:W c - 1=0
   ·obtain ⟨w7',b1,b2,b3⟩:=g1 h0
    refine aa.ite (v:=true) (by rw [heq,h0]; rfl) (fun _=>?_) nofun
    exact aa.tv i1 (aa.tv i2 (aa.rws rfl (aa.tv b1 (aa.tv b2 (aa.tv (psub1 (by omega) (by omega)) (f27_12_J b3))))))
   ·exact aa.ite (v:=false) (by rw [heq]; simp [h0]) nofun fun _=>aa.tv (inc hjl (by omega)) (f27_11_J (g2 h0))
  by_cases h0:W c - 1=0
  ·obtain ⟨w7',b1,hr7⟩:=h7.app (e:=[I (c:Int)]) (a:=(c:Int)) ⟨rfl,by unfold inI; omega⟩ (by rw [aQ]; omega)
   have hr7:RInts (some true) w7' (af (h ++ [c])):=by rw [gN]; exact hr7
   have hl1:(h ++ [c]).length=h.length + 1:=by simp
   have lr7:=hr7.len (t:=3)
   rw [aQ,hl1] at lr7
   obtain ⟨y,hy,hz⟩:=up12 (w1:=w3) (w2:=w5') (w3:=w6) (x5:=x0) (k6:=g) (x7:=I (cl g).length) (g:=j) (by omega) (h0:=h ++ [c]) (Z:=Z) (fun w h' g1 g2 g3=>ih (j + 1) w5' w h' _ (by omega) hr5 g1 g3 (k2 h' g2 h0)) h.length h.length (h ++ [c]) w7' (Nat.le_refl _) (by omega) (by omega) hr7 (List.Perm.refl _) (by rw [hl1]; exact hh.push (n:=h.length) c)
   exact ⟨y,top (fun _=>⟨w7',b1,lr7,hy⟩) (fun h=>absurd h0 h),hz⟩
  ·obtain ⟨y,hy,hz⟩:=ih (j + 1) w5' w7 h _ (by omega) hr5 h7 hh (k1 h0)
   exact ⟨y,top (fun h=>absurd h h0) (fun _=>hy),hz⟩
theorem E8:∀ (d:Nat) (P h:List Nat) (W:Nat→Nat) (w5 w6 w7:TV),P.length + d=cs.length→RInts (some true) w5 (bR cs.length fun c=>((W c:Nat):Int))→RL (some true) 1 (RII (some false)) w6 (P.map fun g=>af (cs.getD g []))→RInts (some true) w7 (af h)→Heap h h.length→KI cl cs.length P h W [] →
  ∃ y P' W',aa prog 27 (f27_7 x0 w3 w5 w6 w7) y∧RL (some true) 1 (RII (some false)) y (P'.map fun g=>af (cs.getD g []))∧KI cl cs.length P' [] W' []:=by
 have fin:∀ (P:List Nat) (W:Nat→Nat) (w5 w6 w7:TV),RL (some true) 1 (RII (some false)) w6 (P.map fun g=>af (cs.getD g []))→RInts (some true) w7 (af [])→KI cl cs.length P [] W [] →
   ∃ y P' W',aa prog 27 (f27_7 x0 w3 w5 w6 w7) y∧RL (some true) 1 (RII (some false)) y (P'.map fun g=>af (cs.getD g []))∧KI cl cs.length P' [] W' []:=by
  intro P W w5 w6 w7 h6 h7 hK
  refine ⟨w6,P,W,?_,h6,hK⟩
  unfold f27_7
  exact aa.tv h7.len (aa.tv rfl (aa.ite (v:=false) (by simp [asBool,af]) nofun fun _=>aa.ret))
 intro d
 induction d with
 | zero =>
  intro P h W w5 w6 w7 hd h5 h6 h7 hh hK
  have hln:(P ++ h).length≤cs.length:=dO _ hK.nod hK.low
  rw [List.length_append] at hln
  have:h=[]:=List.length_eq_zero_iff.1 (by omega)
  subst this
  exact fin P W w5 w6 w7 h6 h7 hK
 | succ d ih =>
  intro P h W w5 w6 w7 hd h5 h6 h7 hh hK
  by_cases he:h=[]
  ·subst he
   exact fin P W w5 w6 w7 h6 h7 hK
  ·have hln:(P ++ h).length≤cs.length:=dO _ hK.nod hK.low
   rw [List.length_append] at hln
   have hpos:0 < h.length:=List.length_pos_iff.2 he
   obtain ⟨n,hn⟩:∃ n,h.length=n + 1:=⟨h.length - 1,by omega⟩
   have l7:=h7.len (t:=3)
   have ls7:=h7.slLen
   rw [aQ,hn] at l7 ls7
   obtain ⟨p1,p2,w1',a1,a2,a3,⟨e,a4⟩,w2',a5,a6⟩:=Bh h7 (i:=0) (j:=n) (by omega) (by omega)
   rw [hn] at a2
   have ann:ae (I (n:Int))=some n:=aj (by omega)
   have hswl:=zM h 0 n
   have hs0:at0 (sw h 0 n) n=at0 h 0:=by rw [lL (by omega) (by omega),if_pos rfl]
   have hperm:=rE (h:=h) (i:=0) (j:=n) (by omega) (by omega)
   have hheap:Heap h (n + 1):=by rw [← hn]; exact hh
   obtain ⟨y,⟨P',W',hz1,hz2⟩,hy⟩:∃ y,(∃ P' W',RL (some true) 1 (RII (some false)) y (P'.map fun g=>af (cs.getD g []))∧KI cl cs.length P' [] W' [])∧aa prog 27 (f27_8 (I 0) (I n) (I (0:Nat)) w3 w5 w6 w2' x0) y:=by
    obtain ⟨y,hy,hz⟩:=down8 (w3:=w3) (w4:=w5) (w5:=w6) (x7:=x0) (n:=n) (h0:=sw h 0 n) (by omega) (by omega) (Z:=fun y=>∃ P' W',RL (some true) 1 (RII (some false)) y (P'.map fun g=>af (cs.getD g []))∧KI cl cs.length P' [] W' []) (fun w h' i g1 g2 g3 g4=>by
     have hpl:=g2.length_eq
     have hl':h'.length=n + 1:=by omega
     rw [hs0] at g3
     obtain ⟨t,ht⟩:∃ t,t=h'.take n:=⟨_,rfl⟩
     have htl:t.length=n:=by rw [ht,List.length_take]; omega
     have hsplit:h'=t ++ [at0 h 0]:=by
      have e:h'.take (n + 1)=h':=List.take_of_length_le (by omega)
      rw [List.take_add_one,A4 (by omega),g3] at e
      rw [ht]
      exact e.symm
     have hpm:(t ++ [at0 h 0]).Perm h:=by rw [← hsplit]; exact g2.trans hperm
     have hK':=hK.pop hpm fun c hc=>by
      obtain ⟨k,hk,rfl⟩:=List.mem_iff_getElem.1 hc
      have:=hheap.min k (by omega)
      rwa [show h[k]=at0 h k by unfold at0; rw [GJ,Gv hk]; rfl]
     obtain ⟨g,hg⟩:∃ g,g=at0 h 0:=⟨_,rfl⟩
     rw [← hg] at hK' hsplit g3
     have hgG:=hK'.low g (List.mem_append.2 (.inl (List.mem_append.2 (.inr (List.mem_singleton.2 rfl)))))
     have ht4:Heap t t.length:=by
      intro k h0 hk
      have:=g4 k h0 (by omega)
      have et:∀ k,k < n→at0 t k=at0 h' k:=fun k hk=>by
       rw [hsplit]
       unfold at0
       rw [GJ,GJ,GE (by omega)]
      rw [et k (by omega),et _ (by omega)]
      exact this
     obtain ⟨grp,hgrp⟩:∃ grp,cs[g]? = some grp:=⟨_,Gv hgG⟩
     have hgd:cs.getD g []=grp:=by rw [GJ,hgrp]; rfl
     obtain ⟨e1,he1,vg,rfl,hvg⟩:=hx.idx (k:=.i64) (show (cs.map af)[g]? = some (af grp) by simp [hgrp])
     obtain ⟨w6',b1,hr6⟩:=h6.app (e:=[vg]) (a:=af grp) ⟨vg,rfl,hvg⟩ (by rw [List.length_map]; omega)
     obtain ⟨e3,he3,r,rfl,hr⟩:=h3.pel (aP hgG)
     obtain ⟨wt,c1,c2⟩:=g1.win (k:=n) (by rw [aQ]; omega)
     have c2:RInts (some true) wt (af t):=by
      have:(af h').take n=af t:=by rw [ht]; unfold af; rw [List.map_take]
      rwa [this] at c2
     obtain ⟨y,hy,hz⟩:=Fm hx h3 hG hlow hB hgG he3 hr (w6:=w6') (P:=P ++ [g]) (Z:=fun y=>∃ P' W',RL (some true) 1 (RII (some false)) y (P'.map fun g=>af (cs.getD g []))∧KI cl cs.length P' [] W' []) (fun w5' w7' h'' W'' f1 f2 f3 f4=>by
      obtain ⟨y,P',W',q1,q2,q3⟩:=ih (P ++ [g]) h'' W'' w5' w6' w7' (by rw [List.length_append]; simp; omega) f1 (by
       rw [List.map_append]
       show RL (some true) 1 (RII (some false)) w6' (_ ++ [af (cs.getD g [])])
       rw [hgd]
       exact hr6) f2 f3 f4
      exact ⟨y,q1,P',W',q2,q3⟩) (cl g).length 0 w5 wt t W (by omega) h5 c2 ht4 (by rw [List.drop_zero]; exact hK')
     refine ⟨y,?_,hz⟩
     have lg1:=g1.len (t:=3)
     have lsg1:=g1.slLen
     rw [aQ,hl'] at lg1 lsg1
     have l3:=h3.slLen
     rw [bc] at l3
     have lr:=hr.len (t:=3)
     rw [aQ] at lr
     obtain ⟨e4,he4,rfl,_⟩:=g1.pel (i5 (h:=h') (i:=n) (by omega))
     rw [g3] at he4
     obtain ⟨vi,i1,i2⟩:=wI (g:Int)
     have ang:ae (I (g:Int))=some g:=aj (by omega)
     unfold f27_9
     refine aa.tv rfl (aa.tv lg1 (aa.tv (psub1 (by omega) (by omega)) (aa.nat lsg1 (aa.nat ann (aa.chk (by rw [g1.slSize]; simp) (aa.tvs he4 (aa.chk rfl ?_)))))))
     refine aa.nat lsg1 (aa.nat ann (aa.chk (by rw [g1.slSize]; simp) (aa.tv i1 (aa.tv i2 (aa.tvs he1 (aa.chk rfl (aa.rws rfl (aa.tv b1 ?_))))))))
     exact aa.nat l3 (aa.nat ang (aa.chk (by rw [h3.slSize]; simpa using hgG) (aa.tvs he3 (aa.chk (aG hr.isSl) (aa.tv (h3.gc he3 rfl) (aa.tv lr (aa.tv c1 (f27_11_J hy))))))))) n 0 (sw h 0 n) w2' (by omega) (Nat.zero_le _) a6 (List.Perm.refl _) rfl (hheap.pop hn) (by omega)
    exact ⟨y,hz,hy⟩
   refine ⟨y,P',W',?_,hz1,hz2⟩
   unfold f27_7
   refine aa.tv l7 (aa.tv rfl (aa.ite (v:=true) (by simp [asBool]) (fun _=>?_) nofun))
   refine aa.tv l7 (aa.tv (psub1 (by omega) (by omega)) (aa.nat ls7 (aa.nat ann (aa.chk (by rw [h7.slSize]; simp) (aa.tvs p2 (aa.chk rfl ?_))))))
   refine aa.nat ls7 (aa.nat rfl (aa.chk (by rw [h7.slSize]; simp) (aa.tvs p1 (aa.chk rfl (aa.nat ls7 (aa.nat rfl (aa.chk (by rw [h7.slSize]; simp) (aa.tvs p1 (aa.chk rfl ?_)))))))))
   exact aa.tv a1 (aa.nat a2 (aa.nat ann (aa.chk (by rw [a3]; simp) (aa.tvs a4 (aa.chk rfl (aa.tv a5 (f27_8_J hy)))))))
end
theorem rRow {c0 c1 x1:TV} {m:DMod} {cs:List (List Nat)} {gix:Nat→Nat} (h0:RL (some false) 1 (RII (some false)) c0 (bR m.funcs.length fun i=>ofL m (i:Int))) (hN:m.funcs.length≤100) (hC:CI m.funcs.length cs gix) (hx:RL (some false) 1 (RII (some false)) x1 (cs.map af)) :
  ∃ y P W,bu prog 27 [.agg [c0,c1],x1] y∧RL (some true) 1 (RII (some false)) y (P.map fun g=>af (cs.getD g []))∧KI (fun g=>gS m gix g m.funcs.length) cs.length P [] W []:=by
 have hcl:=hC.len
 obtain ⟨v0,g1,g2⟩:=zU h0 hN hC (c1:=c1) hx
 have hlow:∀ g c,c ∈ gS m gix g m.funcs.length→c < cs.length:=fun g c hc=>by
  obtain ⟨i,hi,rfl,_⟩:=oJ.1 hc
  exact hC.lt hi
 have hB:∀ g,(gS m gix g m.funcs.length).length≤10000:=fun g=>by
  have h1:=t8 m gix g m.funcs.length
  have h2:m.funcs.length * m.funcs.length≤100 * 100:=Nat.mul_le_mul hN hN
  omega
 have hG:cs.length≤100:=by omega
 have hzero:RI1 [I 0] 0:=⟨rfl,by unfold inI; omega⟩
 have hr:=RL.rep (s:=1) hzero (n:=cs.length) (by omega)
 have hac:ae (I (cs.length:Int))=some cs.length:=aj (by omega)
 have lx:=hx.len (t:=28)
 rw [List.length_map] at lx
 have l2:=g2.len (t:=28)
 rw [bc] at l2
 obtain ⟨y,hy,P,W,q1,q2⟩:=FI hx g2 hG hlow hB (Z:=fun y=>∃ P W,RL (some true) 1 (RII (some false)) y (P.map fun g=>af (cs.getD g []))∧KI (fun g=>gS m gix g m.funcs.length) cs.length P [] W []) (fun w hw=>by
  have lw:=hw.len (t:=3)
  rw [bc] at lw
  obtain ⟨y,hy,hz⟩:=Ch hx g2 hG hlow hB (W:=fun c=>wsum (fun g=>gS m gix g m.funcs.length) [] c cs.length) hw (Z:=fun y=>∃ P W,RL (some true) 1 (RII (some false)) y (P.map fun g=>af (cs.getD g []))∧KI (fun g=>gS m gix g m.funcs.length) cs.length P [] W []) (fun w5 h f1 f2 f3 f4=>by
   obtain ⟨y,P,W,q1,q2,q3⟩:=E8 hx g2 hG hlow hB cs.length [] h _ w (.lit aK) w5 (by simp) hw RL.nil f1 f4 ⟨fun c hc=>by simp,by simpa using f2,fun g hg=>((f3 g).1 (by simpa using hg)).1,fun c hc=>by
    rw [List.nil_append,f3 c]
    exact ⟨fun h=>⟨hc,h⟩,fun h=>h.2⟩,fun l g r e=>by
    have:=congrArg List.length e
    simp at this⟩
   refine ⟨y,?_,P,W,q2,q3⟩
   unfold f27_6
   exact aa.chk rfl (f27_7_J q1)) cs.length 0 (.lit aK) [] (by omega) RL.nil List.Pairwise.nil (fun c=>by simp) (fun k h0 hk=>by simp at hk) (by simp)
  refine ⟨y,?_,hz⟩
  unfold f27_2
  refine aa.chk rfl (f27_3_J ?_)
  unfold f27_3
  exact aa.tv lw (f27_4_J hy)) cs.length 0 _ (by omega) (by
   rw [aH (h:=fun _=>(0:Int)) fun c _=>by simp [wsum]]
   exact hr)
 refine ⟨y,P,W,?_,q1,q2⟩
 refine bu.of (f27_MR _ _) ?_
 unfold f27_M
 exact aa.chk rfl (aa.call g1 (aa.chk (aG g2.isSl) (aa.tv lx (aa.nat hac (aa.nat hac (aa.chk (by simp; omega) (aa.tv l2 (f27_0_J hy))))))))
end Go.Ab.C11
end

import Derived.Test.YtljcpjlpggnolaaQC11F167
import Derived.Test.YtljcpjlpggnolaaQM2
set_option linter.all false
section
set_option maxRecDepth 10000
namespace Go.Ab
def af (l:List Nat):List Int:=l.map fun n:Nat=>(n:Int)
theorem gN (l m:List Nat):af (l ++ m)=af l ++ af m:=by simp [af]
noncomputable def eQ (m:DMod) (n:Nat):List Nat:=(ofL m (n:Int)).map Int.toNat
theorem qj (m:DMod) (n:Nat):af (eQ m n)=ofL m (n:Int):=by
 unfold af eQ
 rw [List.map_map]
 refine (List.map_congr_left fun a ha=>?_).trans (List.map_id _)
 obtain ⟨k,rfl,_⟩:=fq.1 ha
 rfl
theorem mi {m:DMod} {n k:Nat}:k ∈ eQ m n ↔ ofP m n k:=by
 unfold eQ
 rw [List.mem_map]
 constructor
 ·rintro ⟨a,ha,rfl⟩
  obtain ⟨k,rfl,h⟩:=fq.1 ha
  exact h
 ·intro h
  exact ⟨(k:Int),fq.2 ⟨k,rfl,h⟩,rfl⟩
theorem oY (m:DMod) (n:Nat):(eQ m n).length≤m.funcs.length:=by
 unfold eQ
 rw [List.length_map]
 exact pr _ _
def RVZ (q:Option Bool) (e:List TV) (p:Nat × List Nat):Prop:=∃ v,e=[I p.1,v]∧RInts q v (af p.2)
theorem RL.uy {y:TV} {l:List (Nat × List Nat)} {q:Option Bool} (h:RL (some true) 2 (RVZ q) y l):RL (some true) 2 (RVZ (some false)) (cJ y) l:=by
 rcases h with ⟨rfl,rfl⟩ | ⟨o,xs,rfl,hq,h,hb⟩
 ·exact .nil
 ·refine .sl hq ?_ (by rw [kB,List.length_map]; exact hb)
  rw [kB]
  exact h.mapL fun e p hp=>by
   obtain ⟨v,rfl,hv⟩:=hp
   exact ⟨Ab.frz v,rfl,hv.frz fun _ _ h=>h.xq⟩
def ql (st:List (Nat × List Nat)):Nat:=(st.map fun p=>p.2.length + 1).sum
theorem tS (s t:List (Nat × List Nat)):ql (s ++ t)=ql s + ql t:=by simp [ql]
theorem pe (p:Nat × List Nat):ql [p]=p.2.length + 1:=by simp [ql]
def inM (M:List Bool) (v:Nat):Prop:=M[v]? = some true
theorem Fz {M:List Bool} {n:Nat} (h:n < M.length):inM (M.set n true)=fun v=>inM M v∨v=n:=by
 funext v
 apply propext
 unfold inM
 by_cases e:v=n
 ·subst e
  rw [List.getElem?_set_self h]
  simp
 ·rw [List.getElem?_set_ne (Ne.symm e)]
  simp [e]
structure LI (m:DMod) (M:List Bool) (way:List (Nat × List Nat)) (left:List Nat):Prop where
 len:M.length=m.funcs.length
 di:DI (ofP m) (inM M) way left
 low:∀ p ∈ way,p.1 < m.funcs.length∧∀ w ∈ p.2,ofP m p.1 w
theorem LI.enter {m:DMod} {M:List Bool} {way:List (Nat × List Nat)} {left:List Nat} (h:LI m M way left) {n:Nat} (hn:M[n]? = some false) (htop:∀ s p,way=s ++ [p]→ofP m p.1 n):LI m (M.set n true) (way ++ [(n,eQ m n)]) left:=by
 have hlt:n < M.length:=(Gu.1 hn).1
 have hno:¬ inM M n:=fun h=>by unfold inM at h; rw [hn] at h; cases h
 refine ⟨by rw [List.length_set]; exact h.len,?_,fun p hp=>?_⟩
 ·rw [Fz hlt]
  exact h.di.enter hno htop fun w hw=>mi.2 hw
 ·rcases List.mem_append.1 hp with hp | hp
  ·exact h.low p hp
  ·rw [List.mem_singleton.1 hp]
   exact ⟨by have:=h.len; show n < _; omega,fun w hw=>mi.1 hw⟩
theorem LI.drop {m:DMod} {M:List Bool} {t:List (Nat × List Nat)} {left:List Nat} {v n:Nat} {o:List Nat} (h:LI m M (t ++ [(v,n :: o)]) left) (hn:M[n]? = some true):LI m M (t ++ [(v,o)]) left:=by
 refine ⟨h.len,h.di.drop hn,fun p hp=>?_⟩
 rcases List.mem_append.1 hp with hp | hp
 ·exact h.low p (List.mem_append.2 (.inl hp))
 ·rw [List.mem_singleton.1 hp]
  obtain ⟨a,b⟩:=h.low (v,n :: o) (List.mem_append.2 (.inr (List.mem_singleton.2 rfl)))
  exact ⟨a,fun w hw=>b w (GC _ hw)⟩
theorem LI.new {m:DMod} {M:List Bool} {t:List (Nat × List Nat)} {left:List Nat} {v n:Nat} {o:List Nat} (h:LI m M (t ++ [(v,n :: o)]) left) (hn:M[n]? = some false):LI m (M.set n true) (t ++ [(v,o)] ++ [(n,eQ m n)]) left:=by
 have hlt:n < M.length:=(Gu.1 hn).1
 have hp:=(h.low (v,n :: o) (List.mem_append.2 (.inr (List.mem_singleton.2 rfl)))).2 n GB
 have h1:=h.enter hn fun s p e=>by
  have:=(List.append_inj' e rfl).2
  cases this
  exact hp
 have e1:t ++ [(v,n :: o)] ++ [(n,eQ m n)]=t ++ (v,n :: o) :: [(n,eQ m n)]:=by simp
 have e2:t ++ [(v,o)] ++ [(n,eQ m n)]=t ++ (v,o) :: [(n,eQ m n)]:=by simp
 rw [e1] at h1
 rw [e2]
 refine ⟨h1.len,h1.di.drop (List.getElem?_set_self hlt),fun p hp=>?_⟩
 rcases List.mem_append.1 hp with hp | hp
 ·exact h1.low p (List.mem_append.2 (.inl hp))
 ·rcases List.mem_cons.1 hp with rfl | hp
  ·obtain ⟨a,b⟩:=h1.low (v,n :: o) (List.mem_append.2 (.inr GB))
   exact ⟨a,fun w hw=>b w (GC _ hw)⟩
  ·exact h1.low p (List.mem_append.2 (.inr (GC _ hp)))
theorem LI.leave {m:DMod} {M:List Bool} {t:List (Nat × List Nat)} {left:List Nat} {v:Nat} (h:LI m M (t ++ [(v,[])]) left):LI m M t (left ++ [v]) :=
 ⟨h.len,h.di.leave,fun p hp=>h.low p (List.mem_append.2 (.inl hp))⟩
end Go.Ab
namespace Go.Ab.C11
open Go Go.Ab Go.Proofs
theorem AF {q:Option Bool} {c0 c1:TV} {ll:List (List Int)} (h0:RL q 1 (RII q) c0 ll) {n:Nat} {l:List Int} (hn:ll[n]? = some l):∃ v,bu prog 55 [I (n:Int),.agg [c0,c1]] v∧RInts q v l:=by
 obtain ⟨e,he,v,rfl,hv⟩:=h0.idx (k:=.i64) hn
 refine ⟨v,?_,hv⟩
 refine bu.of (f55_MR _ _ _) ?_
 unfold f55_M
 exact aa.chk rfl (aa.tvs he (aa.chk rfl aa.ret))
section
variable {c0 c1:TV} {m:DMod} (h0:RL (some false) 1 (RII (some false)) c0 (bR m.funcs.length fun i=>ofL m (i:Int))) (hN:m.funcs.length≤100) {w2:TV} {Z:TV→Prop}
include h0 hN
theorem Ee {i:Nat} (hi:i < m.funcs.length)
  (hk : ∀ (M : List Bool) (left : List Nat) (w5 w6 w7 : TV), RBools (some true) w5 M → RL (some true) 2 (RVZ (some false)) w6 [] → RInts (some true) w7 (af left) → LI m M [] left → (∀ j, j ≤ i → M[j]? = some true) → left.length + M.count false * (m.funcs.length + 2) ≤ 50000 →
   ∃ y,aa prog 36 (f36_3 (I m.funcs.length) (I (i + 1:Nat)) w2 c0 c1 w5 w6 w7) y∧Z y) :
  ∀ (d:Nat) (M:List Bool) (way:List (Nat × List Nat)) (left:List Nat) (w5 w6 w7:TV),M.count false * (m.funcs.length + 2) + ql way≤d→left.length + d≤50000→RBools (some true) w5 M→RL (some true) 2 (RVZ (some false)) w6 way→RInts (some true) w7 (af left)→LI m M way left→(∀ j,j≤i→M[j]? = some true) →
   ∃ y,aa prog 36 (f36_4 (I m.funcs.length) (I i) w2 c0 c1 w5 w6 w7) y∧Z y:=by
 intro d
 have fin:∀ (d:Nat) (M:List Bool) (left:List Nat) (w5 w6 w7:TV),M.count false * (m.funcs.length + 2)≤d→left.length + d≤50000→RBools (some true) w5 M→RL (some true) 2 (RVZ (some false)) w6 []→RInts (some true) w7 (af left)→LI m M [] left→(∀ j,j≤i→M[j]? = some true) →
   ∃ y,aa prog 36 (f36_4 (I m.funcs.length) (I i) w2 c0 c1 w5 w6 w7) y∧Z y:=by
  intro d M left w5 w6 w7 hd hb h5 h6 h7 hL hj
  obtain ⟨y,hy,hz⟩:=hk M left w5 (cJ w6) w7 h5 h6.uy h7 hL hj (by omega)
  refine ⟨y,?_,hz⟩
  unfold f36_4
  exact aa.tv h6.len (aa.tv rfl (aa.ite (v:=false) (by simp [asBool]) nofun fun _=>aa.tv (inc hi (by omega)) (f36_3_J hy)))
 induction d with
 | zero =>
  intro M way left w5 w6 w7 hd hb h5 h6 h7 hL hj
  have hw:way=[]:=by
   cases way with
   | nil=>rfl
   | cons p t=>simp [ql] at hd
  subst hw
  exact fin 0 M left w5 w6 w7 (by simpa [ql] using hd) hb h5 h6 h7 hL hj
 | succ d ih =>
  intro M way left w5 w6 w7 hd hb h5 h6 h7 hL hj
  by_cases hw:way=[]
  ·subst hw
   exact fin (d + 1) M left w5 w6 w7 (by simpa [ql] using hd) hb h5 h6 h7 hL hj
  ·obtain ⟨t,p,rfl⟩:∃ t p,way=t ++ [p]:=⟨_,_,(List.dropLast_concat_getLast hw).symm⟩
   obtain ⟨v,o⟩:=p
   have hlen:(t ++ [(v,o)]).length=t.length + 1:=by simp
   have hsum:=tS t [(v,o)]
   rw [pe] at hsum
   have htl:t.length≤ql t:=by
    clear hsum hL h6 hd hw hlen
    induction t with
    | nil=>simp
    | cons p t ih=>simp [ql] at ih ⊢; omega
   have hget:(t ++ [(v,o)])[t.length]? = some (v,o):=by simp
   obtain ⟨e,he,u,rfl,hu⟩:=h6.pel hget
   have l6:=h6.len (t:=125)
   have ls6:=h6.slLen
   rw [hlen] at l6 ls6
   have hsz6:=h6.slSize
   have anl:ae (I (t.length:Int))=some t.length:=aj (by omega)
   have hsub:pbin (.int .i64) .sub (I ((t.length + 1:Nat):Int)) (I 1)=some (I (t.length:Int)):=psub1 (by omega) (by omega)
   have hvN:=(hL.low (v,o) (List.mem_append.2 (.inr (List.mem_singleton.2 rfl))))
   have hc1:(slSize w6 2 && Nat.blt t.length (t.length + 1))=true:=by rw [hsz6]; simp
   have hu0:=hu.len (t:=3)
   cases o with
   | nil =>
    obtain ⟨w6',hw6',hr6'⟩:=h6.win (k:=t.length) (by omega)
    have et:(t ++ [(v,([]:List Nat))]).take t.length=t:=by simp
    rw [et] at hr6'
    obtain ⟨w7',hw7',hr7'⟩:=h7.app (e:=[I (v:Int)]) (a:=(v:Int)) ⟨rfl,by have:=hvN.1; unfold inI; show _≤(v:Int)∧(v:Int)≤_; simp only at this; omega⟩ (by simp [af]; omega)
    obtain ⟨y,hy,hz⟩:=ih M t (left ++ [v]) w5 (cJ w6') w7' (by simp at hsum; omega) (by rw [List.length_append]; simp; omega) h5 hr6'.uy (by rw [gN]; exact hr7') hL.leave hj
    refine ⟨y,?_,hz⟩
    have hc2:((slSize w6 2 && Nat.ble 0 t.length) && Nat.ble t.length (t.length + 1))=true:=by rw [hsz6]; simp
    unfold f36_4
    refine aa.tv l6 (aa.tv rfl (aa.ite (v:=true) (by simp [asBool]) (fun _=>?_) nofun))
    refine aa.tv l6 (aa.tv hsub (aa.nat ls6 (aa.nat anl (aa.chk hc1 (aa.tvs he (aa.chk (by have:=hu.isSl; simp [ab,zSl,aY,aK,this]) (aa.tv (h6.gc he rfl) (aa.tv hu0 (aa.tv rfl (aa.ite (v:=true) rfl (fun _=>?_) nofun)))))))))) 
    exact aa.tv l6 (aa.tv hsub (aa.nat ls6 (aa.nat anl (aa.chk hc1 (aa.tvs he (aa.chk rfl (aa.rws rfl (aa.tv hw7' (aa.nat ls6 (aa.nat anl (aa.chk hc2 (aa.tv hw6' (f36_4_J hy)))))))))))))
   | cons n o =>
    have hnp:=hvN.2 n GB
    have hnN:n < M.length:=by rw [hL.len]; exact hnp.1
    obtain ⟨c,hcM⟩:∃ c,M[n]? = some c:=⟨_,Gv hnN⟩
    have hun:(af (n :: o))[0]? = some (n:Int):=rfl
    obtain ⟨en,hen,rfl,_⟩:=hu.pel hun
    obtain ⟨u',hu',hur'⟩:=hu.winZ (k:=1) (by simp [af])
    have hur':RInts (some false) u' (af o):=hur'
    obtain ⟨w6',hw6',hr6'⟩:=h6.iO he (d:=1) (ys:=[u']) (a:=(v,o)) ⟨u',rfl,hur'⟩
    have eset:(t ++ [(v,n :: o)]).set t.length (v,o)=t ++ [(v,o)]:=by
     rw [List.set_append_right _ _ (Nat.le_refl _),Nat.sub_self]
     rfl
    rw [eset] at hr6'
    obtain ⟨eb,heb,hRb⟩:=h5.pel hcM
    cases hRb
    have ann:ae (I (n:Int))=some n:=aj (by have:=hL.len; omega)
    have hlu:=hu.slLen
    have hlc:(af (n :: o)).length=o.length + 1:=by simp [af]
    rw [hlc] at hlu
    have hc3:(slSize u 1 && Nat.blt 0 (o.length + 1))=true:=by rw [hu.slSize]; simp
    have hc4:((slSize u 1 && Nat.ble 1 (o.length + 1)) && Nat.ble (o.length + 1) (o.length + 1))=true:=by rw [hu.slSize]; simp
    have hc5:(slSize w5 1 && Nat.blt n M.length)=true:=by rw [h5.slSize]; simpa using hnN
    rw [hlc] at hu'
    have hfu:ab zSl [I (v:Int),u] 1=true:=by have:=hu.isSl; simp [ab,zSl,aY,aK,this]
    have top:∀ {y:TV},(c=true→aa prog 36 (f36_4 (I m.funcs.length) (I i) w2 c0 c1 w5 (cJ w6') w7) y) →
      (c=false→∃ w5' v' w6'',dN [] w5 n 0 [B true]=some w5'∧bu prog 55 [I (n:Int),.agg [c0,c1]] v'∧v'.isSl=true∧papp 2 w6' [[I (n:Int),v']]=some w6''∧aa prog 36 (f36_4 (I m.funcs.length) (I i) w2 c0 c1 w5' (cJ w6'') w7) y) →
      aa prog 36 (f36_4 (I m.funcs.length) (I i) w2 c0 c1 w5 w6 w7) y:=by
     intro y g1 g2
     unfold f36_4
     refine aa.tv l6 (aa.tv rfl (aa.ite (v:=true) (by simp [asBool]) (fun _=>?_) nofun))
     refine aa.tv l6 (aa.tv hsub (aa.nat ls6 (aa.nat anl (aa.chk hc1 (aa.tvs he (aa.chk hfu (aa.tv (h6.gc he rfl) (aa.tv hu0 (aa.tv rfl (aa.ite (v:=false) (by rw [hlc]; simp [asBool]; omega) nofun fun _=>?_))))))))))
     refine aa.tvs he (aa.chk hfu (aa.tv (h6.gc he rfl) (aa.nat hlu (aa.nat rfl (aa.chk hc3 (aa.tv (h6.gc he rfl) (aa.tvs hen (aa.chk rfl ?_))))))))
     refine aa.tvs he (aa.chk hfu (aa.tv (h6.gc he rfl) (aa.nat hlu (aa.nat rfl (aa.chk hc4 (aa.tv (h6.gc he rfl) (aa.tv hu' (aa.chk hur'.iK ?_))))))))
     refine aa.tvs he (aa.chk (by have:=hu.isSl; have:=hur'.isSl; simp [ei,ab,zSl,aY,aK, *]) (aa.tv hw6' (aa.nat h5.slLen (aa.nat ann (aa.chk hc5 (aa.tvs heb (aa.chk rfl (aa.tv rfl ?_))))))))
     cases c with
     | true=>exact aa.ite (v:=false) rfl nofun fun _=>f36_4_J (g1 rfl)
     | false =>
      obtain ⟨w5',v',w6'',a1,a2,a3,a4,a5⟩:=g2 rfl
      refine aa.ite (v:=true) rfl (fun _=>?_) nofun
      exact aa.nat h5.slLen (aa.nat ann (aa.chk hc5 (aa.tvs heb (aa.chk rfl (aa.tv a1 (aa.call a2 (aa.chk (aG a3) (aa.rws rfl (aa.tv a4 (f36_4_J a5))))))))))
    have hs2:=tS t [(v,o)]
    rw [pe] at hs2
    simp only [List.length_cons] at hsum
    simp only at hs2
    cases c with
    | true =>
     obtain ⟨y,hy,hz⟩:=ih M (t ++ [(v,o)]) left w5 (cJ w6') w7 (by omega) (by omega) h5 hr6'.uy h7 (hL.drop hcM) hj
     exact ⟨y,top (fun _=>hy) (fun h=>by cases h),hz⟩
    | false =>
     obtain ⟨w5',a1,hr5⟩:=h5.iO heb (d:=0) (ys:=[B true]) (a:=true) rfl
     obtain ⟨v',a2,hrv⟩:=AF h0 (c1:=c1) (n:=n) (aP hnp.1)
     rw [← qj] at hrv
     obtain ⟨w6'',a4,hr6''⟩:=hr6'.app (e:=[I (n:Int),v']) (a:=(n,eQ m n)) ⟨v',rfl,hrv⟩ (by simp; omega)
     have hcnt:=jx hcM
     have hmul:M.count false * (m.funcs.length + 2)=(M.set n true).count false * (m.funcs.length + 2) + (m.funcs.length + 2):=by rw [← hcnt,Nat.add_mul,Nat.one_mul]
     have hnl:=oY m n
     have hs3:=tS (t ++ [(v,o)]) [(n,eQ m n)]
     rw [pe] at hs3
     simp only at hs3
     obtain ⟨y,hy,hz⟩:=ih (M.set n true) (t ++ [(v,o)] ++ [(n,eQ m n)]) left w5' (cJ w6'') w7 (by omega) (by omega) hr5 hr6''.uy h7 (hL.new hcM) (fun j hjj=>by
      by_cases e:j=n
      ·subst e; exact List.getElem?_set_self hnN
      ·rw [List.getElem?_set_ne (Ne.symm e)]; exact hj j hjj)
     exact ⟨y,top (fun h=>by cases h) (fun _=>⟨w5',v',w6'',a1,a2,hrv.isSl,a4,hy⟩),hz⟩
theorem E4 (h2:RInts (some true) w2 (bR m.funcs.length fun i=>(i:Int))) (hZ:∀ (M:List Bool) (left:List Nat) (w7:TV),RInts (some true) w7 (af left)→LI m M [] left→(∀ j,j < m.funcs.length→M[j]? = some true)→Z w7) :
  ∀ (d i:Nat) (M:List Bool) (left:List Nat) (w5 w6 w7:TV),i + d=m.funcs.length→RBools (some true) w5 M→RL (some true) 2 (RVZ (some false)) w6 []→RInts (some true) w7 (af left)→LI m M [] left→(∀ j,j < i→M[j]? = some true)→left.length + M.count false * (m.funcs.length + 2)≤50000 →
   ∃ y,aa prog 36 (f36_3 (I m.funcs.length) (I i) w2 c0 c1 w5 w6 w7) y∧Z y:=by
 intro d
 induction d with
 | zero =>
  intro i M left w5 w6 w7 hi h5 h6 h7 hL hj hw
  have hi:i=m.funcs.length:=by omega
  subst hi
  refine ⟨w7,?_,hZ M left w7 h7 hL hj⟩
  unfold f36_3
  exact aa.tv rfl (aa.ite aJ nofun fun _=>aa.chk (h7.own fun _ _ h=>h.own) aa.ret)
 | succ d ih =>
  intro i M left w5 w6 w7 hi h5 h6 h7 hL hj hw
  have hil:i < m.funcs.length:=by omega
  have hiM:i < M.length:=by rw [hL.len]; exact hil
  obtain ⟨c,hcM⟩:∃ c,M[i]? = some c:=⟨_,Gv hiM⟩
  obtain ⟨e,he,rfl,_⟩:=h2.pel (aP hil)
  obtain ⟨eb,heb,hRb⟩:=h5.pel hcM
  cases hRb
  have ani:ae (I (i:Int))=some i:=aj (by omega)
  have l2:=h2.slLen
  rw [bc] at l2
  have hc1:(slSize w2 1 && Nat.blt i m.funcs.length)=true:=by rw [h2.slSize]; simpa using hil
  have hc5:(slSize w5 1 && Nat.blt i M.length)=true:=by rw [h5.slSize]; simpa using hiM
  have hk:∀ (M:List Bool) (left:List Nat) (w5 w6 w7:TV),RBools (some true) w5 M→RL (some true) 2 (RVZ (some false)) w6 []→RInts (some true) w7 (af left)→LI m M [] left→(∀ j,j≤i→M[j]? = some true)→left.length + M.count false * (m.funcs.length + 2)≤50000 →
   ∃ y,aa prog 36 (f36_3 (I m.funcs.length) (I (i + 1:Nat)) w2 c0 c1 w5 w6 w7) y∧Z y :=
   fun M left w5 w6 w7 g5 g6 g7 gL gj gw=>ih (i + 1) M left w5 w6 w7 (by omega) g5 g6 g7 gL (fun j hj=>gj j (by omega)) gw
  have top:∀ {y:TV},(c=true→aa prog 36 (f36_4 (I m.funcs.length) (I i) w2 c0 c1 w5 (cJ w6) w7) y) →
    (c=false→∃ w5' v' w6'',dN [] w5 i 0 [B true]=some w5'∧bu prog 55 [I (i:Int),.agg [c0,c1]] v'∧v'.isSl=true∧papp 2 w6 [[I (i:Int),v']]=some w6''∧aa prog 36 (f36_4 (I m.funcs.length) (I i) w2 c0 c1 w5' (cJ w6'') w7) y) →
    aa prog 36 (f36_3 (I m.funcs.length) (I i) w2 c0 c1 w5 w6 w7) y:=by
   intro y g1 g2
   unfold f36_3
   refine aa.tv rfl (aa.ite (aF hil) (fun _=>?_) nofun)
   refine aa.nat l2 (aa.nat ani (aa.chk hc1 (aa.tvs he (aa.chk rfl (aa.nat h5.slLen (aa.nat ani (aa.chk hc5 (aa.tvs heb (aa.chk rfl (aa.tv rfl ?_))))))))))
   cases c with
   | true=>exact aa.ite (v:=false) rfl nofun fun _=>f36_4_J (g1 rfl)
   | false =>
    obtain ⟨w5',v',w6'',a1,a2,a3,a4,a5⟩:=g2 rfl
    refine aa.ite (v:=true) rfl (fun _=>?_) nofun
    exact aa.nat h5.slLen (aa.nat ani (aa.chk hc5 (aa.tvs heb (aa.chk rfl (aa.tv a1 (aa.call a2 (aa.chk (aG a3) (aa.rws rfl (aa.tv a4 (f36_4_J a5))))))))))
  cases c with
  | true =>
   obtain ⟨y,hy,hz⟩:=Ee h0 hN hil hk _ M [] left w5 (cJ w6) w7 (Nat.le_refl _) (by simp [ql]; omega) h5 h6.uy h7 hL (fun j hjj=>by
    by_cases e:j=i
    ·subst e; exact hcM
    ·exact hj j (by omega))
   exact ⟨y,top (fun _=>hy) (fun h=>by cases h),hz⟩
  | false =>
   obtain ⟨w5',a1,hr5⟩:=h5.iO heb (d:=0) (ys:=[B true]) (a:=true) rfl
   obtain ⟨v',a2,hrv⟩:=AF h0 (c1:=c1) (n:=i) (aP hil)
   rw [← qj] at hrv
   obtain ⟨w6'',a4,hr6''⟩:=h6.app (e:=[I (i:Int),v']) (a:=(i,eQ m i)) ⟨v',rfl,hrv⟩ (by simp)
   have hcnt:=jx hcM
   have hmul:M.count false * (m.funcs.length + 2)=(M.set i true).count false * (m.funcs.length + 2) + (m.funcs.length + 2):=by rw [← hcnt,Nat.add_mul,Nat.one_mul]
   have hnl:=oY m i
   obtain ⟨y,hy,hz⟩:=Ee h0 hN hil hk _ (M.set i true) ([] ++ [(i,eQ m i)]) left w5' (cJ w6'') w7 (Nat.le_refl _) (by rw [List.nil_append,pe]; simp only; omega) hr5 hr6''.uy h7 (hL.enter hcM fun s p e=>by simp at e) (fun j hjj=>by
    by_cases e:j=i
    ·subst e; exact List.getElem?_set_self hiM
    ·rw [List.getElem?_set_ne (Ne.symm e)]; exact hj j (by omega))
   exact ⟨y,top (fun h=>by cases h) (fun _=>⟨w5',v',w6'',a1,a2,hrv.isSl,a4,hy⟩),hz⟩
theorem FA (hZ:∀ (M:List Bool) (left:List Nat) (w7:TV),RInts (some true) w7 (af left)→LI m M [] left→(∀ j,j < m.funcs.length→M[j]? = some true)→Z w7) :
  ∀ (d i:Nat) (w4:TV),i + d=m.funcs.length→RInts (some true) w4 (bR m.funcs.length fun k=>if k < i then (k:Int) else 0)→∃ y,aa prog 36 (f36_0 (I m.funcs.length) (I i) c0 c1 w4) y∧Z y:=by
 intro d
 induction d with
 | zero =>
  intro i w4 hi h4
  have hi:i=m.funcs.length:=by omega
  subst hi
  rw [aH (h:=fun k=>(k:Int)) fun k hk=>if_pos hk] at h4
  have hfalse:RB1 [B false] false:=rfl
  have hr:=RL.rep (s:=1) hfalse (n:=m.funcs.length) (by omega)
  rw [← sS] at hr
  have hno:∀ v,¬ inM (List.replicate m.funcs.length false) v:=fun v h=>by
   have:=List.eq_of_mem_replicate (GD h)
   cases this
  have hmul:m.funcs.length * (m.funcs.length + 2)≤100 * 102:=Nat.mul_le_mul hN (by omega)
  obtain ⟨y,hy,hz⟩:=E4 h0 hN (c1:=c1) h4 hZ m.funcs.length 0 _ [] _ (cJ (.lit aK)) (.lit aK) (by omega) hr (RL.uy (q:=some false) RL.nil) RL.nil ⟨by simp,DI.none hno,fun p hp=>by cases hp⟩ (fun j h=>absurd h (Nat.not_lt_zero _)) (by simp; omega)
  refine ⟨y,?_,hz⟩
  have han:ae (I (m.funcs.length:Int))=some m.funcs.length:=aj (by omega)
  have l4:=h4.len (t:=3)
  rw [bc] at l4
  unfold f36_0
  refine aa.tv rfl (aa.ite aJ nofun fun _=>f36_1_J ?_)
  unfold f36_1
  refine aa.tv l4 (aa.nat han (aa.nat han (aa.chk (by simp; omega) (aa.chk rfl (aa.chk rfl (f36_2_J ?_))))))
  unfold f36_2
  exact aa.tv l4 (f36_3_J hy)
 | succ d ih =>
  intro i w4 hi h4
  have hil:i < m.funcs.length:=by omega
  obtain ⟨e,he,rfl,_⟩:=h4.pel (aP hil)
  obtain ⟨w4',a1,hr⟩:=h4.iO he (d:=0) (ys:=[I (i:Int)]) (a:=(i:Int)) ⟨rfl,by unfold inI; omega⟩
  rw [jt,aH (h:=fun k=>if k < i + 1 then (k:Int) else 0) fun k _=>by
   by_cases e:k=i
   ·subst e; rw [eV,if_pos (by omega)]
   ·rw [fy e]
    by_cases h:k < i
    ·rw [if_pos h,if_pos (by omega)]
    ·rw [if_neg h,if_neg (by omega)]] at hr
  obtain ⟨y,hy,hz⟩:=ih (i + 1) w4' (by omega) hr
  refine ⟨y,?_,hz⟩
  have ani:ae (I (i:Int))=some i:=aj (by omega)
  have l4:=h4.slLen
  rw [bc] at l4
  unfold f36_0
  refine aa.tv rfl (aa.ite (aF hil) (fun _=>?_) nofun)
  exact aa.nat l4 (aa.nat ani (aa.chk (by rw [h4.slSize]; simpa using hil) (aa.chk rfl (aa.tvs he (aa.chk rfl (aa.tv a1 (aa.tv (inc hil (by omega)) (f36_0_J hy))))))))
theorem rLeft:∃ y M left,bu prog 36 [.agg [c0,c1]] y∧RInts (some true) y (af left)∧LI m M [] left∧∀ j,j < m.funcs.length→M[j]? = some true:=by
 have hzero:RI1 [I 0] 0:=⟨rfl,by unfold inI; omega⟩
 have hr:=RL.rep (s:=1) hzero (n:=m.funcs.length) (by omega)
 obtain ⟨y,hy,M,left,z1,z2,z3⟩:=FA h0 hN (c1:=c1) (Z:=fun y=>∃ M left,RInts (some true) y (af left)∧LI m M [] left∧∀ j,j < m.funcs.length→M[j]? = some true) (fun M left w7 a b c=>⟨M,left,a,b,c⟩) m.funcs.length 0 _ (by omega) (by rw [aH (h:=fun _=>(0:Int)) fun k _=>if_neg (Nat.not_lt_zero _)]; exact hr)
 refine ⟨y,M,left,?_,z1,z2,z3⟩
 have han:ae (I (m.funcs.length:Int))=some m.funcs.length:=aj (by omega)
 have l0:=h0.len (t:=28)
 rw [bc] at l0
 have lr:=hr.len (t:=3)
 rw [bc] at lr
 refine bu.of (f36_MR _) ?_
 unfold f36_M
 exact aa.chk rfl (aa.tv l0 (aa.nat han (aa.nat han (aa.chk (by simp; omega) (aa.tv lr (f36_0_J hy))))))
end
end Go.Ab.C11
end
section
set_option maxRecDepth 10000
namespace Go.Ab
theorem dO:∀ (n:Nat) {l:List Nat},l.Nodup→(∀ x ∈ l,x < n)→l.length≤n
 | 0,l,_,h=>by
  cases l with
  | nil=>exact Nat.le_refl _
  | cons a l=>exact absurd (h a GB) (Nat.not_lt_zero _)
 | n + 1, l, hd, h => by
  by_cases hn:n ∈ l
  ·have:=dO n (hd.erase n) (fun x hx=>by
    have h1:=h x (List.mem_of_mem_erase hx)
    have h2:x≠n:=fun e=>by subst e; exact absurd hx (hd.not_mem_erase)
    omega)
   rw [List.length_erase_of_mem hn] at this
   omega
  ·have:=dO n hd (fun x hx=>by
    have h1:=h x hx
    have h2:x≠n:=fun e=>by subst e; exact hn hx
    omega)
   omega
theorem Cl {α:Type} {p q:α→Bool}:∀ {l:List α},(∀ x ∈ l,p x=true→q x=true)→(∃ x ∈ l,q x=true∧p x=false)→(l.filter p).length < (l.filter q).length:=by
 intro l
 have le:∀ {l:List α},(∀ x ∈ l,p x=true→q x=true)→(l.filter p).length≤(l.filter q).length:=by
  intro l
  induction l with
  | nil=>intro _; exact Nat.le_refl _
  | cons x l ih =>
   intro h
   have:=ih fun y hy=>h y (GC _ hy)
   rw [List.filter_cons,List.filter_cons]
   by_cases hp:p x=true
   ·rw [if_pos hp,if_pos (h x GB hp)]
    simpa using this
   ·rw [if_neg hp]
    split
    ·simp; omega
    ·exact this
 induction l with
 | nil=>rintro _ ⟨x,hx,_⟩; cases hx
 | cons x l ih =>
  rintro h ⟨y,hy,hq,hp⟩
  have h':∀ z ∈ l,p z=true→q z=true:=fun z hz=>h z (GC _ hz)
  rw [List.filter_cons,List.filter_cons]
  rcases List.mem_cons.1 hy with rfl | hy
  ·rw [if_neg (by rw [hp]; simp),if_pos hq]
   have:=le h'
   simp; omega
  ·have:=ih h' ⟨y,hy,hq,hp⟩
   by_cases hpx:p x=true
   ·rw [if_pos hpx,if_pos (h x GB hpx)]
    simpa using this
   ·rw [if_neg hpx]
    split
    ·simp; omega
    ·exact this
theorem EO:∀ (n:Nat) {l:List Nat},l.Nodup→(∀ a,a < n→a ∈ l)→n≤l.length:=by
 intro n
 induction n with
 | zero=>intro l _ _; exact Nat.zero_le _
 | succ n ih =>
  intro l hn h
  have hm:=h n (by omega)
  have h1:=List.length_erase_of_mem hm
  have h2:=ih (l:=l.erase n) (hn.erase n) fun a ha=>(List.mem_erase_of_ne (by omega)).2 (h a (by omega))
  have h3:0 < l.length:=List.length_pos_of_mem hm
  omega
section
variable (R:Nat→Nat→Prop) (N:Nat)
open Classical in
noncomputable def ba (n:Nat):List Nat:=(List.range N).filter fun k=>decide (k=n∨R n k∧R k n)
def fX (done:List Nat) (n:Nat):Prop:=n ∉ done∧∀ k,k < N→R n k→¬ R k n→k ∈ done
open Classical in
noncomputable def grps:Nat→List Nat→List (List Nat)
 | 0,_=>[]
 | f + 1,done=>match (List.range N).find? fun n=>decide (fX R N done n) with
  | none=>[]
  | some n=>ba R N n :: grps f (done ++ ba R N n)
structure Dn (done:List Nat):Prop where
 low:∀ a ∈ done,a < N
 nod:done.Nodup
 cls:∀ a ∈ done,∀ b,R a b→b < N→b ∈ done
variable {R N}
theorem bq {n k:Nat}:k ∈ ba R N n ↔ k < N∧(k=n∨R n k∧R k n):=by simp [ba]
variable (hT:∀ a b c,R a b→R b c→R a c)
include hT
theorem Dn.step {done:List Nat} (hD:Dn R N done) {n:Nat} (hn:n < N) (hf:fX R N done n):Dn R N (done ++ ba R N n):=by
 refine ⟨fun a ha=>?_,?_,fun a ha b hab hb=>?_⟩
 ·rcases List.mem_append.1 ha with ha | ha
  ·exact hD.low a ha
  ·exact (bq.1 ha).1
 ·refine List.nodup_append.2 ⟨hD.nod,List.Pairwise.filter _ List.nodup_range,fun a ha b hb e=>?_⟩
  subst e
  obtain ⟨_,rfl | ⟨_,h⟩⟩:=bq.1 hb
  ·exact hf.1 ha
  ·exact hf.1 (hD.cls a ha n h hn)
 ·rcases List.mem_append.1 ha with ha | ha
  ·exact List.mem_append.2 (.inl (hD.cls a ha b hab hb))
  ·obtain ⟨_,h⟩:=bq.1 ha
   have hnb:R n b:=by
    rcases h with rfl | ⟨h,_⟩
    ·exact hab
    ·exact hT _ _ _ h hab
   by_cases hbn:R b n
   ·exact List.mem_append.2 (.inr (bq.2 ⟨hb,.inr ⟨hnb,hbn⟩⟩))
   ·exact List.mem_append.2 (.inl (hf.2 b hb hnb hbn))
open Classical in
theorem xl {done:List Nat}:∀ (z n:Nat),((List.range N).filter fun k=>decide (k=n∨R n k)).length < z→n < N→n ∉ done→∃ n',n' < N∧fX R N done n':=by
 intro z
 induction z with
 | zero=>intro n h; omega
 | succ z ih =>
  intro n hz hn hd
  by_cases hf:fX R N done n
  ·exact ⟨n,hn,hf⟩
  ·have:∃ k,k < N∧R n k∧¬ R k n∧k ∉ done:=by
    refine Classical.byContradiction fun hno=>hf ⟨hd,fun k hk h1 h2=>Classical.byContradiction fun h3=>hno ⟨k,hk,h1,h2,h3⟩⟩
   obtain ⟨k,hk,h1,h2,h3⟩:=this
   refine ih k ?_ hk h3
   have:((List.range N).filter fun j=>decide (j=k∨R k j)).length < ((List.range N).filter fun j=>decide (j=n∨R n j)).length:=by
    refine Cl (fun j _ hj=>?_) ⟨n,List.mem_range.2 hn,by simp,?_⟩
    ·have hj:j=k∨R k j:=by simpa using hj
     rcases hj with rfl | hj
     ·simp [h1]
     ·simp [hT _ _ _ h1 hj]
    ·have:¬ (n=k∨R k n):=by
      rintro (rfl | h)
      ·exact h2 h1
      ·exact h2 h
     simpa using this
   omega
open Classical in
theorem Cx {done:List Nat} (hD:Dn R N done) (f:Nat):(∀ a,a < N→a ∈ done)∧grps R N f done=[]∨∃ n,n < N∧fX R N done n∧∀ f',f=f' + 1→grps R N f done=ba R N n :: grps R N f' (done ++ ba R N n):=by
 by_cases hall:∀ a,a < N→a ∈ done
 ·refine .inl ⟨hall,?_⟩
  cases f with
  | zero=>rfl
  | succ f =>
   have:(List.range N).find? (fun n=>decide (fX R N done n))=none:=by
    rw [List.find?_eq_none]
    intro n hn
    have:=hall n (List.mem_range.1 hn)
    simp [fX,this]
   unfold grps
   rw [this]
 ·have:∃ a,a < N∧a ∉ done:=Classical.byContradiction fun h=>hall fun a ha=>Classical.byContradiction fun h2=>h ⟨a,ha,h2⟩
  obtain ⟨a,ha,hna⟩:=this
  obtain ⟨n',hn',hf'⟩:=xl hT _ a (Nat.lt_succ_self _) ha hna
  cases hfi:(List.range N).find? (fun n=>decide (fX R N done n)) with
  | none =>
   rw [List.find?_eq_none] at hfi
   exact absurd hf' (by simpa using hfi n' (List.mem_range.2 hn'))
  | some n =>
   have h1:fX R N done n:=by simpa using List.find?_some hfi
   have h2:n < N:=List.mem_range.1 (List.mem_of_find?_eq_some hfi)
   refine .inr ⟨n,h2,h1,fun f' e=>?_⟩
   subst e
   conv=>lhs; unfold grps
   rw [hfi]
end
end Go.Ab
end
section
set_option maxRecDepth 10000
namespace Go.Ab
structure BI (m:DMod) (M0:Nat→Prop) (n:Nat) (M:List Bool) (l:List Nat) (at_:Nat):Prop where
 len:M.length=m.funcs.length
 iff:∀ k,M[k]? = some true ↔ M0 k∨k ∈ l
 nod:l.Nodup
 new:∀ k ∈ l,¬ M0 k
 frm:∀ k ∈ l,k < m.funcs.length∧(k=n∨Rn (ofP m) k n)
 has:n ∈ l
 clo:∀ i,i < at_→∀ k,l[i]? = some k→∀ a,ofP m a k→M[a]? = some true
theorem Rn.left {E:Nat→Nat→Prop} {a b c:Nat} (h:E a b) (h':Rn E b c):Rn E a c:=(Rn.one h).trans h'
theorem BI.add {m:DMod} {M0:Nat→Prop} {n:Nat} {M:List Bool} {l:List Nat} {at_:Nat} (h:BI m M0 n M l at_) (hat:at_≤l.length) {a k:Nat} (ha:M[a]? = some false) (hk:k ∈ l) (hak:ofP m a k):BI m M0 n (M.set a true) (l ++ [a]) at_:=by
 have hlt:a < M.length:=(Gu.1 ha).1
 have hno:¬ (M0 a∨a ∈ l):=fun hh=>by have:=(h.iff a).2 hh; rw [ha] at this; cases this
 have up:∀ {j},M[j]? = some true→(M.set a true)[j]? = some true:=fun {j} hj=>by
  by_cases e:j=a
  ·subst e; exact List.getElem?_set_self hlt
  ·rw [List.getElem?_set_ne (Ne.symm e)]; exact hj
 refine ⟨by rw [List.length_set]; exact h.len,fun j=>?_,?_,fun j hj=>?_,fun j hj=>?_,List.mem_append.2 (.inl h.has),fun i hi j hj a' ha'=>?_⟩
 ·by_cases e:j=a
  ·subst e
   rw [List.getElem?_set_self hlt]
   simp
  ·rw [List.getElem?_set_ne (Ne.symm e),h.iff j,List.mem_append,List.mem_singleton]
   simp [e]
 ·refine List.nodup_append.2 ⟨h.nod,by simp,fun x hx y hy e=>?_⟩
  subst e
  rw [List.mem_singleton.1 hy] at hx
  exact hno (.inr hx)
 ·rcases List.mem_append.1 hj with hj | hj
  ·exact h.new j hj
  ·rw [List.mem_singleton.1 hj]
   exact fun hh=>hno (.inl hh)
 ·rcases List.mem_append.1 hj with hj | hj
  ·exact h.frm j hj
  ·rw [List.mem_singleton.1 hj]
   refine ⟨by have:=h.len; omega,.inr ?_⟩
   rcases (h.frm k hk).2 with e | e
   ·subst e; exact .one hak
   ·exact .left hak e
 ·rw [GE (by omega)] at hj
  exact up (h.clo i hi j hj a' ha')
theorem BI.closed {m:DMod} {M0:Nat→Prop} {n:Nat} {M:List Bool} {l:List Nat} (h:BI m M0 n M l l.length) (h0:∀ x y,M0 y→Rn (ofP m) x y→M0 x):∀ x y,M[y]? = some true→Rn (ofP m) x y→M[x]? = some true:=by
 have one:∀ x y,M[y]? = some true→ofP m x y→M[x]? = some true:=fun x y hy he=>by
  rcases (h.iff y).1 hy with a | a
  ·exact (h.iff x).2 (.inl (h0 x y a (.one he)))
  ·obtain ⟨i,hi,e⟩:=List.mem_iff_getElem.1 a
   exact h.clo i hi y (by rw [Gv hi,e]) x he
 intro x y hy hr
 induction hr with
 | one he=>exact one _ _ hy he
 | more _ he ih=>exact ih (one _ _ hy he)
theorem BI.mem {m:DMod} {M0:Nat→Prop} {n:Nat} {M:List Bool} {l:List Nat} (h:BI m M0 n M l l.length) (h0:∀ x y,M0 y→Rn (ofP m) x y→M0 x) (x:Nat):x ∈ l ↔ ¬ M0 x∧(x=n∨Rn (ofP m) x n):=by
 constructor
 ·intro hx
  exact ⟨h.new x hx,(h.frm x hx).2⟩
 ·rintro ⟨h1,rfl | h2⟩
  ·exact h.has
  ·rcases (h.iff x).1 (h.closed h0 x n ((h.iff n).2 (.inr h.has)) h2) with a | a
   ·exact absurd a h1
   ·exact a
noncomputable def comps (R:Nat→Nat→Prop) (N:Nat):List (List Nat):=((List.range N).filter fun n=>(ba R N n).head? == some n).map (ba R N)
theorem oD (R:Nat→Nat→Prop) (N n:Nat):(ba R N n).Pairwise (· < ·):=List.Pairwise.filter _ List.pairwise_lt_range
section
variable {R:Nat→Nat→Prop} {N:Nat} (hT:∀ a b c,R a b→R b c→R a c)
include hT
theorem gF {n k:Nat} (hn:n < N) (h:k ∈ ba R N n):ba R N k=ba R N n:=by
 obtain ⟨hk,h⟩:=bq.1 h
 rcases h with rfl | ⟨h1,h2⟩
 ·rfl
 ·unfold ba
  refine List.filter_congr fun x _=>?_
  apply decide_eq_decide.2
  constructor
  ·rintro (rfl | ⟨a,b⟩)
   ·exact .inr ⟨h1,h2⟩
   ·exact .inr ⟨hT _ _ _ h1 a,hT _ _ _ b h2⟩
  ·rintro (rfl | ⟨a,b⟩)
   ·exact .inr ⟨h2,h1⟩
   ·exact .inr ⟨hT _ _ _ h2 a,hT _ _ _ b h1⟩
theorem dT {g:List Nat}:g ∈ comps R N ↔ ∃ n,n < N∧g=ba R N n:=by
 unfold comps
 simp only [List.mem_map,List.mem_filter,List.mem_range,beq_iff_eq]
 constructor
 ·rintro ⟨n,⟨h1,_⟩,rfl⟩; exact ⟨n,h1,rfl⟩
 ·rintro ⟨n,hn,rfl⟩
  have hm:n ∈ ba R N n:=bq.2 ⟨hn,.inl rfl⟩
  cases hg:ba R N n with
  | nil=>rw [hg] at hm; cases hm
  | cons x t =>
   have hx:x ∈ ba R N n:=by rw [hg]; exact GB
   have e:=gF hT hn hx
   exact ⟨x,⟨(bq.1 hx).1,by rw [e,hg]; rfl⟩,by rw [e,hg]⟩
omit hT in
theorem oM:(comps R N).Pairwise fun a b=>∃ x s y t,a=x :: s∧b=y :: t∧x < y:=by
 unfold comps
 rw [List.pairwise_map]
 refine List.Pairwise.imp_of_mem (fun {a b} ha hb hab=>?_) (List.Pairwise.filter _ List.pairwise_lt_range)
 have ha:=(List.mem_filter.1 ha).2
 have hb:=(List.mem_filter.1 hb).2
 simp only [beq_iff_eq] at ha hb
 cases hga:ba R N a with
 | nil=>rw [hga] at ha; cases ha
 | cons x s =>
  cases hgb:ba R N b with
  | nil=>rw [hgb] at hb; cases hb
  | cons y t =>
   rw [hga] at ha
   rw [hgb] at hb
   cases ha
   cases hb
   exact ⟨a,s,b,t,rfl,rfl,hab⟩
end
theorem qV:∀ {l m:List (List Int)},l.Pairwise (fun a b=>dJ a b < 0)→m.Pairwise (fun a b=>dJ a b < 0)→(∀ a,a ∈ l ↔ a ∈ m)→l=m
 | [],[],_,_,_=>rfl
 | [],b :: m,_,_,h=>by have:=(h b).2 GB; cases this
 | a :: l,[],_,_,h=>by have:=(h a).1 GB; cases this
 | a :: l, b :: m, hl, hm, h => by
  rw [List.pairwise_cons] at hl hm
  have e:a=b:=by
   rcases List.mem_cons.1 ((h a).1 GB) with h1 | h1
   ·exact h1
   ·rcases List.mem_cons.1 ((h b).2 GB) with h2 | h2
    ·exact h2.symm
    ·have h3:=hm.1 a h1
     have h4:=hl.1 b h2
     rw [ia a b] at h3
     omega
  subst e
  have irr:∀ {x:List Int},dJ a x < 0→x≠a:=fun {x} hx e=>by subst e; rw [uZ] at hx; omega
  rw [qV hl.2 hm.2 fun x=>?_]
  constructor
  ·intro hx
   rcases List.mem_cons.1 ((h x).1 (GC _ hx)) with e | h'
   ·exact absurd e (irr (hl.1 x hx))
   ·exact h'
  ·intro hx
   rcases List.mem_cons.1 ((h x).2 (GC _ hx)) with e | h'
   ·exact absurd e (irr (hm.1 x hx))
   ·exact h'
theorem qt:∀ {a b:List Nat},af a=af b→a=b
 | [],[],_=>rfl
 | [],_ :: _,h=>by simp [af] at h
 | _ :: _,[],h=>by simp [af] at h
 | x :: a,y :: b,h=>by
  simp only [af,List.map_cons,List.cons.injEq] at h
  rw [qt (a:=a) (b:=b) h.2,show x=y by omega]
structure GI (m:DMod) (M:List Bool) (gs:List (List Nat)):Prop where
 len:M.length=m.funcs.length
 grp:∀ g ∈ gs,∃ n,n < m.funcs.length∧g=ba (Rn (ofP m)) m.funcs.length n
 nod:gs.Nodup
 iff:∀ k,M[k]? = some true ↔ ∃ g ∈ gs,k ∈ g
 clo:∀ x y,M[y]? = some true→Rn (ofP m) x y→M[x]? = some true
theorem GI.all {m:DMod} {M:List Bool} {gs:List (List Nat)} (h:GI m M gs) (hall:∀ k,k < m.funcs.length→M[k]? = some true):isB leL (gs.map af)=(comps (Rn (ofP m)) m.funcs.length).map af:=by
 have hT:∀ a b c,Rn (ofP m) a b→Rn (ofP m) b c→Rn (ofP m) a c:=fun a b c=>Rn.trans
 have hp:=ci (le:=leL) (gs.map af)
 have hs:=ju qg Bo (gs.map af)
 have hn:(isB leL (gs.map af)).Nodup:=hp.nodup_iff.2 (List.pairwise_map.2 (List.Pairwise.imp (fun {a b} hab e=>hab (qt e)) h.nod))
 refine qV ?_ ?_ fun a=>?_
 ·refine (hs.and hn).imp fun {a b} hab=>?_
  have h1:dJ a b≤0:=by simpa [leL] using hab.1
  have h2:dJ a b≠0:=fun e=>hab.2 (rL e)
  omega
 ·rw [List.pairwise_map]
  refine oM.imp fun {a b} hab=>?_
  obtain ⟨x,s,y,t,rfl,rfl,hxy⟩:=hab
  show dJ ((x:Int) :: af s) ((y:Int) :: af t) < 0
  rw [dJ,if_pos (by omega)]
  omega
 ·rw [hp.mem_iff,List.mem_map,List.mem_map]
  constructor
  ·rintro ⟨g,hg,rfl⟩
   exact ⟨g,(dT hT).2 (h.grp g hg),rfl⟩
  ·rintro ⟨g,hg,rfl⟩
   obtain ⟨n,hn,rfl⟩:=(dT hT).1 hg
   obtain ⟨g,hg,hng⟩:=(h.iff n).1 (hall n hn)
   obtain ⟨n',hn',rfl⟩:=h.grp g hg
   exact ⟨_,hg,by rw [gF hT hn' hng]⟩
theorem GI.next {m:DMod} {M M':List Bool} {gs:List (List Nat)} (h:GI m M gs) {L:List Bool} {left lo r:List Nat} {n:Nat} (hL:LI m L [] left) (hall:∀ j,j < m.funcs.length→L[j]? = some true) (e:left=lo ++ n :: r) (hr:∀ y ∈ r,M[y]? = some true) (hn:n < m.funcs.length) (hnM:¬ M[n]? = some true) {l:List Nat} (hb:BI m (fun k=>M[k]? = some true) n M' l l.length) :
  isB leI (af l)=af (ba (Rn (ofP m)) m.funcs.length n)∧GI m M' (gs ++ [ba (Rn (ofP m)) m.funcs.length n]):=by
 have hT:∀ a b c,Rn (ofP m) a b→Rn (ofP m) b c→Rn (ofP m) a c:=fun a b c=>Rn.trans
 have hE:∀ a b,ofP m a b→a < m.funcs.length∧b < m.funcs.length:=fun a b hab=>(Co.one hab).lt
 have mem:∀ x,x ∈ l ↔ x ∈ ba (Rn (ofP m)) m.funcs.length n:=fun x=>by
  rw [hb.mem h.clo x,bq]
  constructor
  ·rintro ⟨h1,h2⟩
   have hx:x < m.funcs.length:=(hb.frm x ((hb.mem h.clo x).2 ⟨h1,h2⟩)).1
   refine ⟨hx,?_⟩
   rcases h2 with e | h2
   ·exact .inl e
   ·rcases hL.di.behind hE (N:=m.funcs.length) (fun v hv=>hall v hv) (M:=fun k=>M[k]? = some true) h.clo e hr h1 h2 with h3 | h3
    ·exact .inr ⟨h3,h2⟩
    ·exact .inl h3
  ·rintro ⟨hx,h2⟩
   refine ⟨fun hM=>hnM ?_,?_⟩
   ·rcases h2 with e | ⟨h2,_⟩
    ·subst e; exact hM
    ·exact h.clo n x hM h2
   ·rcases h2 with e | ⟨_,h2⟩
    ·exact .inl e
    ·exact .inr h2
 refine ⟨?_,hb.len,fun g hg=>?_,?_,fun k=>?_,hb.closed h.clo⟩
 ·have hp:=ci (le:=leI) (af l)
  have hs:=ju mY rS (af l)
  have hnd:(isB leI (af l)).Nodup:=hp.nodup_iff.2 (List.pairwise_map.2 (List.Pairwise.imp (fun {a b} hab e=>hab (by omega)) hb.nod))
  refine nO ((hs.and hnd).imp fun {a b} hab=>?_) ?_ fun a=>?_
  ·have h1:a≤b:=by simpa [leI] using hab.1
   have h2:=hab.2
   omega
  ·exact List.pairwise_map.2 ((oD _ _ _).imp fun {a b} hab=>by omega)
  ·rw [hp.mem_iff]
   unfold af
   rw [List.mem_map,List.mem_map]
   exact ⟨fun ⟨x,hx,e⟩=>⟨x,(mem x).1 hx,e⟩,fun ⟨x,hx,e⟩=>⟨x,(mem x).2 hx,e⟩⟩
 ·rcases List.mem_append.1 hg with hg | hg
  ·exact h.grp g hg
  ·exact ⟨n,hn,List.mem_singleton.1 hg⟩
 ·refine List.nodup_append.2 ⟨h.nod,by simp,fun a ha b hbb e=>?_⟩
  subst e
  rw [List.mem_singleton.1 hbb] at ha
  exact hnM ((h.iff n).2 ⟨_,ha,bq.2 ⟨hn,.inl rfl⟩⟩)
 ·rw [hb.iff k,h.iff k,mem k]
  constructor
  ·rintro (⟨g,hg,hk⟩ | hk)
   ·exact ⟨g,List.mem_append.2 (.inl hg),hk⟩
   ·exact ⟨_,List.mem_append.2 (.inr (List.mem_singleton.2 rfl)),hk⟩
  ·rintro ⟨g,hg,hk⟩
   rcases List.mem_append.1 hg with hg | hg
   ·exact .inl ⟨g,hg,hk⟩
   ·rw [List.mem_singleton.1 hg] at hk
    exact .inr hk
end Go.Ab
end

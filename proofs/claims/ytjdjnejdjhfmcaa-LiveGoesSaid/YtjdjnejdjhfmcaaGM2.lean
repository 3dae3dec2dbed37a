import Derived.Test.YtjdjnejdjhfmcaaGA10F144
import Derived.Test.YtjdjnejdjhfmcaaGM0
import Derived.Below
import Derived.Orders
import Derived.Laws.Cells
import Derived.Laws.OwnMore
import Derived.Laws.CopyOwn
import Derived.Maps.AppendAt
import Derived.Lib.FrozenHead
section
set_option linter.unusedVariables false
set_option linter.unusedSectionVars false
set_option linter.unusedSimpArgs false
set_option maxRecDepth 10000
namespace Go.Ab
structure OkF (R:Nat) (bs:List DBlock):Prop where
 len:bs.length≤64
 reg:R≤256
 blk:∀ (n:Nat) (b:DBlock),bs[n]? = some b→OkB R b∧OkG bs.length b.fin∧b.ins.length≤64∧(∀ y ∈ b.ins,y.args.length≤4294967296)∧b.fin.args.length≤4294967296
theorem lv_lt {R:Nat} {bs:List DBlock} (h:OkF R bs) {p:Int} {n k:Nat} (hl:Lv bs p n k):0≤p∧p < R:=by
 induction hl with
 | ask hb hx hp=>exact (h.blk _ _ hb).1.asks _ (List.mem_of_getElem? hx) _ hp
 | on _ _ _ _ ih=>exact ih
 | askE hb hp=>exact (h.blk _ _ hb).1.ends _ hp
 | to _ _ _ ih=>exact ih
 | els _ _ _ ih=>exact ih
 | pad _ _ _ _ _ ih=>exact ih
theorem next_lt {R:Nat} {bs:List DBlock} (h:OkF R bs) {e:DEnd} {i:Nat} (hn:NextP bs (LvN bs) e i):i < R:=by
 have:∀ {n:Nat},LvN bs n i→i < R:=fun hl=>by have:=(lv_lt h hl).2; omega
 rcases hn with ⟨_,h1⟩ | ⟨_,h1⟩ | ⟨_,_,_,_,h1⟩ <;> exact this h1
noncomputable def behT (bs:List DBlock) (n:Nat):Nat→Bool:=match bs[n]? with | some b=>behB bs (LvN bs) b.fin | none=>fun _=>false
theorem LiveI.end_ {R:Nat} {bs:List DBlock} {H:Nat→Nat→Bool} (hI:LiveI bs H) (hF:OkF R bs) (h:∀ n b,bs[n]? = some b→tabL R (behB bs (atP bs H) b.fin)=tabL R (H n)):∀ n b,bs[n]? = some b→∀ i,NextP bs (atP bs H) b.fin i→H n i=true:=by
 intro n b hb i hn
 have hi:=next_lt hF (hn.mono fun n i ha=>hI.lv ha)
 have e:=congrArg (fun l=>l[i]?) (h n b hb)
 simp only [tabL_get hi,Option.some.injEq] at e
 rw [← e]
 exact tt_true hn
theorem LiveI.rowA {bs:List DBlock} {H:Nat→Nat→Bool} (hI:LiveI bs H) (hf:∀ n b,bs[n]? = some b→∀ i,NextP bs (atP bs H) b.fin i→H n i=true):(fun n=>some (atT bs H n))=fun n=>some fun i=>tt (LvN bs n i):=by
 funext n
 congr 1
 funext i
 exact bool_ext ((hI.done hf n i).trans tt_iff.symm)
theorem LiveI.rowH {bs:List DBlock} {H:Nat→Nat→Bool} {R:Nat} (hI:LiveI bs H) (hf:∀ n b,bs[n]? = some b→∀ i,NextP bs (atP bs H) b.fin i→H n i=true):(tabL bs.length fun n=>(some (H n)).map (tabL R))=tabL bs.length fun n=>(some (behT bs n)).map (tabL R):=tabL_congr fun n hn=>by
 have hb:bs[n]? = some bs[n]:=List.getElem?_eq_getElem hn
 have:H n=behT bs n:=by
  funext i
  unfold behT
  rw [hb]
  exact bool_ext ((hI.done2 hf hb i).trans tt_iff.symm)
 rw [this]
theorem atT_upd {bs:List DBlock} {H:Nat→Nat→Bool} {n:Nat} {b:DBlock} (hb:bs[n]? = some b) (g:Nat→Bool):updF (fun m=>some (atT bs H m)) n (some (begB b g))=fun m=>some (atT bs (updF H n g) m):=by
 funext m
 by_cases e:m=n
 ·subst e
  rw [updF_at]
  unfold atT
  rw [hb]
  simp only [updF_at]
 ·rw [updF_ne e]
  unfold atT
  rw [updF_ne e]
theorem some_upd {H:Nat→Nat→Bool} {n:Nat} (g:Nat→Bool):updF (fun m=>some (H m)) n (some g)=fun m=>some (updF H n g m):=by
 funext m
 by_cases e:m=n
 ·subst e; rw [updF_at,updF_at]
 ·rw [updF_ne e,updF_ne e]
def firstF (F:Nat→Nat→Bool) (k:Nat):Nat→Option (Nat→Bool):=fun n=>if n < k then some (F n) else none
theorem first_next {F:Nat→Nat→Bool} {k:Nat}:updF (firstF F k) k (some (F k))=firstF F (k + 1):=by
 funext n
 unfold firstF
 by_cases e:n=k
 ·subst e; rw [updF_at,if_pos (by omega)]
 ·rw [updF_ne e]
  by_cases h:n < k
  ·rw [if_pos h,if_pos (by omega)]
  ·rw [if_neg h,if_neg (by omega)]
theorem first_end {F:Nat→Nat→Bool} {N R:Nat}:(tabL N fun n=>(firstF F N n).map (tabL R))=tabL N fun n=>(some (F n)).map (tabL R):=tabL_congr fun n hn=>by unfold firstF; rw [if_pos hn]
end Go.Ab
namespace Go.Ab.A10
open Go Go.Ab Go.Proofs
def CouldP (f:DFunc):Prop:=funcP (fnL (suitL (fun _=>0) (f.blocks.flatMap callsB))) f
theorem could_okF {f:DFunc} (h:CouldP f):OkF f.regs.toNat f.blocks∧0≤f.regs∧f.regs≤256:=by
 obtain ⟨⟨h0,h1,h2,h3⟩,hl,_,hb⟩:=h
 refine ⟨⟨hl,by omega,fun n b hn=>?_⟩,by omega,h3⟩
 have hB:=hb n (List.getElem?_eq_some_iff.1 hn).1 b hn
 have P8:∀ g ∈ fnL (suitL (fun _=>0) (f.blocks.flatMap callsB)),g.params≤8:=by
  have ok:∀ (L:List (Int × List Int)) (P:Nat→Int),okPar P→okPar (suitL P L):=fun L=>by
   induction L with
   | nil=>exact fun P h=>h
   | cons c L ih=>exact fun P h=>ih _ (h.next _ _)
  intro g hg
  unfold fnL tabL at hg
  obtain ⟨n,_,rfl⟩:=List.mem_map.1 hg
  exact (ok _ _ (fun _=>by decide) n).2
 obtain ⟨a1,a2⟩:=args_short P8 hB
 exact ⟨block_okB (by omega) hB,block_okG hB,hB.1,fun y hy=>by have:=a1 y hy; omega,by omega⟩
section
variable {q:Option Bool} {bl:TV} {params:Int} {R:Nat} {bs:List DBlock} (hbl:RL q 14 (RBlock q) bl bs) (hF:OkF R bs)
include hbl hF
theorem rAt_sweep {K:TV→Prop} {c:Nat} (hK:∀ w9 w10 H,LiveI bs H→(∀ n b,bs[n]? = some b→∀ i,NextP bs (atP bs H) b.fin i→H n i=true)→RTab (some true) w9 bs.length R (fun n=>some (atT bs H n))→RTab (some true) w10 bs.length R (fun n=>some (H n))→K w9)
  (again:∀ w9 w10 H,LiveI bs H→cnt2 R H bs.length < c→RTab (some true) w9 bs.length R (fun n=>some (atT bs H n))→RTab (some true) w10 bs.length R (fun n=>some (H n))→∃ r,Goes prog 8 (f8_2 (I params) (I (R:Int)) bl w9 w10) r∧K r) :
  ∀ (k:Nat) (g:Bool) (w9 w10:TV) (H:Nat→Nat→Bool),k≤bs.length→LiveI bs H→cnt2 R H bs.length≤c→(g=true→cnt2 R H bs.length < c)→(g=false→∀ n b,k≤n→bs[n]? = some b→tabL R (behB bs (atP bs H) b.fin)=tabL R (H n)) →
   RTab (some true) w9 bs.length R (fun n=>some (atT bs H n))→RTab (some true) w10 bs.length R (fun n=>some (H n))→∃ r,Goes prog 8 (f8_3 (I ((k:Int) - 1)) bl (I params) (I (R:Int)) bl (I params) (I (R:Int)) bl (B g) w9 w10) r∧K r:=by
 intro k
 induction k with
 | zero =>
  intro g w9 w10 H hk hI hc hg hn h9 h10
  have lo:asBool (.lit (.bool (decide (((0:Nat):Int) - 1 ≥ 0))))=some false:=by simp [asBool]
  cases g with
  | true =>
   obtain ⟨r,hr,hK'⟩:=again w9 w10 H hI (hg rfl) h9 h10
   refine ⟨r,?_,hK'⟩
   unfold f8_3
   exact Goes.tv rfl (Goes.ite lo (fun h=>nomatch h) fun _=>Goes.ite rfl (fun _=>f8_2_J hr) fun h=>nomatch h)
  | false =>
   have hf:=hI.end_ hF fun n b hb=>hn rfl n b (Nat.zero_le _) hb
   refine ⟨w9,?_,hK w9 w10 H hI hf h9 h10⟩
   unfold f8_3
   exact Goes.tv rfl (Goes.ite lo (fun h=>nomatch h) fun _=>Goes.ite rfl (fun h=>nomatch h) fun _=>Goes.chk (RL.own h9 fun _ _ h=>h.own) Goes.ret)
 | succ k ih =>
  intro g w9 w10 H hk hI hc hg hn h9 h10
  have hkl:k < bs.length:=by omega
  have hb:bs[k]? = some bs[k]:=List.getElem?_eq_getElem hkl
  generalize bs[k]=b at hb
  have e1:((k + 1:Nat):Int) - 1=(k:Int):=by omega
  rw [e1]
  obtain ⟨o1,o2,o3,o4,o5⟩:=hF.blk k b hb
  obtain ⟨eb,heb,hrb⟩:=hbl.idx (k:=.i64) hb
  obtain ⟨v,hv,hrv⟩:=rBehindEnd (params:=params) (be:=Ab.frz w10) hbl h9.frz hrb hF.reg o2
  have hvf:RBools (some false) (Ab.frz v) (tabL R (behB bs (atP bs H) b.fin)):=hrv.frz fun _ _ h=>h.frz
  obtain ⟨v2,hv2,hrv2⟩:=rBegin (g:=behB bs (atP bs H) b.fin) hrb hvf hF.reg o1 o3 o4 o5
  obtain ⟨s9,c9⟩:=h9.size hkl
  obtain ⟨s10,c10⟩:=h10.size hkl
  have hkn:asNat (I (k:Int))=some k:=asNat_nat (by have:=hF.len; omega)
  obtain ⟨r0,hr0,hrr0⟩:=h10.row hkl rfl
  have fr0:fitsAt zSl [r0] 0=true:=by simp [fitsAt,zSl,isSlV,hrr0.isSl]
  have fv:fitsAt zSl [v] 0=true:=by simp [fitsAt,zSl,isSlV,RL.isSl hrv]
  have fv2:fitsAt zSl [v2] 0=true:=by simp [fitsAt,zSl,isSlV,RL.isSl hrv2]
  have heq:=rEqB hvf (hrr0.frz fun _ _ h=>h.frz)
  have ge:asBool (.lit (.bool (decide ((k:Int) ≥ 0))))=some true:=by simp [asBool]
  have dn:pbin (.int .i64) .sub (I (k:Int)) (I 1)=some (I ((k:Int) - 1)):=psub ⟨by omega,by have:=hF.len; omega⟩
  obtain ⟨ceb,ieb,geb,rfl,_⟩:=hrb
  by_cases same:tabL R (behB bs (atP bs H) b.fin)=tabL R (H k)
  ·obtain ⟨r,hr,hK'⟩:=ih g w9 w10 H (by omega) hI hc hg (fun h n b' hn' hb'=>by
    by_cases e:n=k
    ·subst e
     rw [hb] at hb'
     cases hb'
     exact same
    ·exact hn h n b' (by omega) hb') h9 h10
   refine ⟨r,?_,hK'⟩
   rw [tt_true same] at heq
   unfold f8_3
   refine Goes.tv rfl (Goes.ite ge (fun _=>?_) fun h=>nomatch h)
   refine Goes.tvs heb (Goes.chk rfl (Goes.call hv (Goes.chk fv (Goes.nat s10 (Goes.nat hkn (Goes.chk c10 (Goes.tvs hr0 (Goes.chk fr0 (Goes.tv (getP_of_pel hr0 rfl) (Goes.call heq (Goes.chk rfl (Goes.tv rfl (Goes.ite rfl (fun h=>nomatch h) fun _=>Goes.tv dn (f8_3_J hr))))))))))))))
  ·obtain ⟨hI',hle⟩:=hI.grow hb
   have hlt:cnt2 R (updF H k (behB bs (atP bs H) b.fin)) bs.length < cnt2 R H bs.length:=cnt2_lt (row_more (fun i hi=>by have:=hle k i hi; rw [updF_at] at this; exact this) same) hkl
   obtain ⟨e9,w9',p9,f9,q9,t9⟩:=h9.set hkl hrv2
   obtain ⟨e10,w10',p10,f10,q10,t10⟩:=h10.set hkl hrv
   rw [atT_upd hb] at t9
   have t10:=some_upd (H:=H) (n:=k) (behB bs (atP bs H) b.fin) ▸ t10
   obtain ⟨r,hr,hK'⟩:=ih true w9' w10' _ (by omega) hI' (by omega) (fun _=>by omega) (fun h=>nomatch h) t9 t10
   refine ⟨r,?_,hK'⟩
   rw [tt_false same] at heq
   unfold f8_3
   refine Goes.tv rfl (Goes.ite ge (fun _=>?_) fun h=>nomatch h)
   refine Goes.tvs heb (Goes.chk rfl (Goes.call hv (Goes.chk fv (Goes.nat s10 (Goes.nat hkn (Goes.chk c10 (Goes.tvs hr0 (Goes.chk fr0 (Goes.tv (getP_of_pel hr0 rfl) (Goes.call heq (Goes.chk rfl (Goes.tv rfl (Goes.ite rfl (fun _=>?_) fun h=>nomatch h)))))))))))))
   exact Goes.tvs heb (Goes.chk rfl (Goes.call hv2 (Goes.chk fv2 (Goes.nat s9 (Goes.nat hkn (Goes.chk c9 (Goes.tvs p9 (Goes.chk (by rw [f9,fv2]; rfl) (Goes.tv q9 (Goes.nat s10 (Goes.nat hkn (Goes.chk c10 (Goes.tvs p10 (Goes.chk (by rw [f10,fv]; rfl) (Goes.tv q10 (Goes.tv dn (f8_3_J hr)))))))))))))))))
theorem rAt_loop {K:TV→Prop} (hK:∀ w9 w10 H,LiveI bs H→(∀ n b,bs[n]? = some b→∀ i,NextP bs (atP bs H) b.fin i→H n i=true)→RTab (some true) w9 bs.length R (fun n=>some (atT bs H n))→RTab (some true) w10 bs.length R (fun n=>some (H n))→K w9) :
  ∀ (c:Nat) (w9 w10:TV) (H:Nat→Nat→Bool),LiveI bs H→cnt2 R H bs.length≤c→RTab (some true) w9 bs.length R (fun n=>some (atT bs H n))→RTab (some true) w10 bs.length R (fun n=>some (H n))→∃ r,Goes prog 8 (f8_2 (I params) (I (R:Int)) bl w9 w10) r∧K r:=by
 intro c
 induction c using Nat.strongRecOn with
 | _ c ih =>
  intro w9 w10 H hI hc h9 h10
  obtain ⟨r,hr,hK'⟩:=rAt_sweep hbl hF (c:=cnt2 R H bs.length) (params:=params) hK (fun w9 w10 H' hI' hc' h9' h10'=>ih (cnt2 R H' bs.length) (by omega) w9 w10 H' hI' (Nat.le_refl _) h9' h10') bs.length false w9 w10 H (Nat.le_refl _) hI (Nat.le_refl _) (fun h=>nomatch h) (fun _ n b hn hb=>by have:=(List.getElem?_eq_some_iff.1 hb).1; omega) h9 h10
  refine ⟨r,?_,hK'⟩
  unfold f8_2
  exact Goes.tv hbl.len (Goes.tv (psub ⟨by omega,by have:=hF.len; omega⟩) (f8_3_J hr))
theorem rAt_rows {K:TV→Prop} (hK:∀ w9 w10 H,LiveI bs H→(∀ n b,bs[n]? = some b→∀ i,NextP bs (atP bs H) b.fin i→H n i=true)→RTab (some true) w9 bs.length R (fun n=>some (atT bs H n))→RTab (some true) w10 bs.length R (fun n=>some (H n))→K w9) :
  ∀ (d j:Nat) (w8 w9:TV),j + d=bs.length→RTab (some true) w8 bs.length R (firstF (atT bs fun _ _=>false) j)→RTab (some true) w9 bs.length R (firstF (fun _ _=>false) j)→∃ r,Goes prog 8 (f8_0 (I bs.length) (I j) (I params) (I (R:Int)) bl (I params) (I (R:Int)) bl w8 w9) r∧K r:=by
 intro d
 induction d with
 | zero =>
  intro j w8 w9 hj h8 h9
  have hj:j=bs.length:=by omega
  subst hj
  have h8':RTab (some true) w8 bs.length R fun n=>some (atT bs (fun _ _=>false) n):=by
   have:=h8
   unfold RTab at this ⊢
   rw [first_end] at this
   exact this
  have h9':RTab (some true) w9 bs.length R fun n=>some ((fun _ _=>false:Nat→Nat→Bool) n):=by
   have:=h9
   unfold RTab at this ⊢
   rw [first_end] at this
   exact this
  obtain ⟨r,hr,hK'⟩:=rAt_loop hbl hF (params:=params) hK _ w8 w9 (fun _ _=>false) (LiveI.start bs) (Nat.le_refl _) h8' h9'
  refine ⟨r,?_,hK'⟩
  unfold f8_0
  refine Goes.tv rfl (Goes.ite asB_end (fun h=>nomatch h) fun _=>?_)
  refine f8_1_J ?_
  unfold f8_1
  exact f8_2_J hr
 | succ d ih =>
  intro j w8 w9 hj h8 h9
  have hjl:j < bs.length:=by omega
  have hb:bs[j]? = some bs[j]:=List.getElem?_eq_getElem hjl
  generalize bs[j]=b at hb
  obtain ⟨o1,o2,o3,o4,o5⟩:=hF.blk j b hb
  obtain ⟨eb,heb,hrb⟩:=hbl.idx (k:=.i64) hb
  have hz:=noRow R hF.reg
  obtain ⟨v,hv,hrv⟩:=rBegin (g:=fun _=>false) hrb (hz.frz (S:=RB1) fun _ _ h=>h.frz) hF.reg o1 o3 o4 o5
  obtain ⟨ceb,ieb,geb,rfl,_⟩:=hrb
  obtain ⟨s8,c8⟩:=h8.size hjl
  obtain ⟨s9,c9⟩:=h9.size hjl
  have hjn:asNat (I (j:Int))=some j:=asNat_nat (by have:=hF.len; omega)
  have hRn:asNat (I (R:Int))=some R:=asNat_nat (by have:=hF.reg; omega)
  have hle:(Bool.and (Nat.ble R R) (Nat.ble R 4294967296))=true:=by have:=hF.reg; simp; omega
  have fv:fitsAt zSl [v] 0=true:=by simp [fitsAt,zSl,isSlV,RL.isSl hrv]
  obtain ⟨e8,w8',p8,f8,q8,t8⟩:=h8.set hjl hrv
  obtain ⟨e9,w9',p9,f9,q9,t9⟩:=h9.set hjl hz
  have hat:begB b (fun _=>false)=atT bs (fun _ _=>false) j:=by unfold atT; rw [hb]
  rw [hat,first_next] at t8
  have t9:=first_next (F:=fun _ _=>false) (k:=j) ▸ t9
  obtain ⟨r,hr,hK'⟩:=ih (j + 1) w8' w9' (by omega) t8 t9
  refine ⟨r,?_,hK'⟩
  unfold f8_0
  refine Goes.tv rfl (Goes.ite (asB_lt hjl) (fun _=>?_) fun h=>nomatch h)
  exact Goes.nat hRn (Goes.nat hRn (Goes.chk hle (Goes.tvs heb (Goes.chk rfl (Goes.call hv (Goes.chk fv (Goes.nat s8 (Goes.nat hjn (Goes.chk c8 (Goes.tvs p8 (Goes.chk (by rw [f8,fv]; rfl) (Goes.tv q8
   (Goes.nat s9 (Goes.nat hjn (Goes.chk c9 (Goes.tvs p9 (Goes.chk (by rw [f9]; rfl) (Goes.tv q9 (Goes.tv (inc hjl hbl.bnd) (f8_0_J hr))))))))))))))))))))
end
theorem rAt {q:Option Bool} {e:List TV} {f:DFunc} (he:RFunc q e f):∃ y,Runs prog 8 [.agg e] y∧((¬ CouldP f∧y=.lit nilV)∨(CouldP f∧RTab (some true) y f.blocks.length f.regs.toNat fun n=>some fun i=>tt (LvN f.blocks n i))):=by
 have hc:=rCould he
 obtain ⟨bl,rfl,hbl,hp,hr⟩:=he
 by_cases hC:CouldP f
 ·obtain ⟨hF,hr0,hr1⟩:=could_okF hC
  have hreg:I f.regs=I (f.regs.toNat:Int):=by rw [Int.toNat_of_nonneg hr0]
  obtain ⟨r,hr,hK⟩:=rAt_rows hbl hF (params:=f.params) (K:=fun r=>RTab (some true) r f.blocks.length f.regs.toNat fun n=>some fun i=>tt (LvN f.blocks n i)) (fun w9 w10 H hI hf h9 h10=>by
   rw [← hI.rowA hf]; exact h9) f.blocks.length 0 _ _ (by omega) (noTab _ hF.len) (noTab _ hF.len)
  refine ⟨r,?_,.inr ⟨hC,hK⟩⟩
  have hn:asNat (I (f.blocks.length:Int))=some f.blocks.length:=asNat_nat (by have:=hF.len; omega)
  have hle:(Bool.and (Nat.ble f.blocks.length f.blocks.length) (Nat.ble f.blocks.length 4294967296))=true:=by have:=hF.len; simp; omega
  have hc':Runs prog 28 [.agg [I f.params,I f.regs,bl]] (B true):=by
   have:=hc
   rw [tt_true (show funcP _ f from hC)] at this
   exact this
  rw [hreg] at hc' ⊢
  refine Runs.of (f8_MR _) ?_
  unfold f8_M
  exact Goes.chk rfl (Goes.call hc' (Goes.chk rfl (Goes.tv rfl (Goes.ite (v:=false) rfl (fun h=>nomatch h) fun _=>Goes.tv hbl.len (Goes.nat hn (Goes.nat hn (Goes.chk hle (Goes.tv hbl.len (Goes.nat hn (Goes.nat hn (Goes.chk hle (Goes.tv hbl.len (f8_0_J hr)))))))))))))
 ·refine ⟨_,?_,.inl ⟨hC,rfl⟩⟩
  have hc':Runs prog 28 [.agg [I f.params,I f.regs,bl]] (B false):=by
   have:=hc
   rw [tt_false (show ¬ funcP _ f from hC)] at this
   exact this
  refine Runs.of (f8_MR _) ?_
  unfold f8_M
  exact Goes.chk rfl (Goes.call hc' (Goes.chk rfl (Goes.tv rfl (Goes.ite (v:=true) rfl (fun _=>Goes.chk rfl Goes.ret) fun h=>nomatch h))))
section
variable {q:Option Bool} {bl:TV} {params:Int} {R:Nat} {bs:List DBlock} (hbl:RL q 14 (RBlock q) bl bs) (hF:OkF R bs)
include hbl hF
theorem rBehind_sweep {K:TV→Prop} {c:Nat} (hK:∀ w9 w10 H,LiveI bs H→(∀ n b,bs[n]? = some b→∀ i,NextP bs (atP bs H) b.fin i→H n i=true)→RTab (some true) w9 bs.length R (fun n=>some (atT bs H n))→RTab (some true) w10 bs.length R (fun n=>some (H n))→K w10)
  (again:∀ w9 w10 H,LiveI bs H→cnt2 R H bs.length < c→RTab (some true) w9 bs.length R (fun n=>some (atT bs H n))→RTab (some true) w10 bs.length R (fun n=>some (H n))→∃ r,Goes prog 12 (f12_2 (I params) (I (R:Int)) bl w9 w10) r∧K r) :
  ∀ (k:Nat) (g:Bool) (w9 w10:TV) (H:Nat→Nat→Bool),k≤bs.length→LiveI bs H→cnt2 R H bs.length≤c→(g=true→cnt2 R H bs.length < c)→(g=false→∀ n b,k≤n→bs[n]? = some b→tabL R (behB bs (atP bs H) b.fin)=tabL R (H n)) →
   RTab (some true) w9 bs.length R (fun n=>some (atT bs H n))→RTab (some true) w10 bs.length R (fun n=>some (H n))→∃ r,Goes prog 12 (f12_3 (I ((k:Int) - 1)) bl (I params) (I (R:Int)) bl (I params) (I (R:Int)) bl (B g) w9 w10) r∧K r:=by
 intro k
 induction k with
 | zero =>
  intro g w9 w10 H hk hI hc hg hn h9 h10
  have lo:asBool (.lit (.bool (decide (((0:Nat):Int) - 1 ≥ 0))))=some false:=by simp [asBool]
  cases g with
  | true =>
   obtain ⟨r,hr,hK'⟩:=again w9 w10 H hI (hg rfl) h9 h10
   refine ⟨r,?_,hK'⟩
   unfold f12_3
   exact Goes.tv rfl (Goes.ite lo (fun h=>nomatch h) fun _=>Goes.ite rfl (fun _=>f12_2_J hr) fun h=>nomatch h)
  | false =>
   have hf:=hI.end_ hF fun n b hb=>hn rfl n b (Nat.zero_le _) hb
   refine ⟨w10,?_,hK w9 w10 H hI hf h9 h10⟩
   unfold f12_3
   exact Goes.tv rfl (Goes.ite lo (fun h=>nomatch h) fun _=>Goes.ite rfl (fun h=>nomatch h) fun _=>Goes.chk (RL.own h10 fun _ _ h=>h.own) Goes.ret)
 | succ k ih =>
  intro g w9 w10 H hk hI hc hg hn h9 h10
  have hkl:k < bs.length:=by omega
  have hb:bs[k]? = some bs[k]:=List.getElem?_eq_getElem hkl
  generalize bs[k]=b at hb
  have e1:((k + 1:Nat):Int) - 1=(k:Int):=by omega
  rw [e1]
  obtain ⟨o1,o2,o3,o4,o5⟩:=hF.blk k b hb
  obtain ⟨eb,heb,hrb⟩:=hbl.idx (k:=.i64) hb
  obtain ⟨v,hv,hrv⟩:=rBehindEnd (params:=params) (be:=Ab.frz w10) hbl h9.frz hrb hF.reg o2
  have hvf:RBools (some false) (Ab.frz v) (tabL R (behB bs (atP bs H) b.fin)):=hrv.frz fun _ _ h=>h.frz
  obtain ⟨v2,hv2,hrv2⟩:=rBegin (g:=behB bs (atP bs H) b.fin) hrb hvf hF.reg o1 o3 o4 o5
  obtain ⟨s9,c9⟩:=h9.size hkl
  obtain ⟨s10,c10⟩:=h10.size hkl
  have hkn:asNat (I (k:Int))=some k:=asNat_nat (by have:=hF.len; omega)
  obtain ⟨r0,hr0,hrr0⟩:=h10.row hkl rfl
  have fr0:fitsAt zSl [r0] 0=true:=by simp [fitsAt,zSl,isSlV,hrr0.isSl]
  have fv:fitsAt zSl [v] 0=true:=by simp [fitsAt,zSl,isSlV,RL.isSl hrv]
  have fv2:fitsAt zSl [v2] 0=true:=by simp [fitsAt,zSl,isSlV,RL.isSl hrv2]
  have heq:=rEqB hvf (hrr0.frz fun _ _ h=>h.frz)
  have ge:asBool (.lit (.bool (decide ((k:Int) ≥ 0))))=some true:=by simp [asBool]
  have dn:pbin (.int .i64) .sub (I (k:Int)) (I 1)=some (I ((k:Int) - 1)):=psub ⟨by omega,by have:=hF.len; omega⟩
  obtain ⟨ceb,ieb,geb,rfl,_⟩:=hrb
  by_cases same:tabL R (behB bs (atP bs H) b.fin)=tabL R (H k)
  ·obtain ⟨r,hr,hK'⟩:=ih g w9 w10 H (by omega) hI hc hg (fun h n b' hn' hb'=>by
    by_cases e:n=k
    ·subst e
     rw [hb] at hb'
     cases hb'
     exact same
    ·exact hn h n b' (by omega) hb') h9 h10
   refine ⟨r,?_,hK'⟩
   rw [tt_true same] at heq
   unfold f12_3
   refine Goes.tv rfl (Goes.ite ge (fun _=>?_) fun h=>nomatch h)
   refine Goes.tvs heb (Goes.chk rfl (Goes.call hv (Goes.chk fv (Goes.nat s10 (Goes.nat hkn (Goes.chk c10 (Goes.tvs hr0 (Goes.chk fr0 (Goes.tv (getP_of_pel hr0 rfl) (Goes.call heq (Goes.chk rfl (Goes.tv rfl (Goes.ite rfl (fun h=>nomatch h) fun _=>Goes.tv dn (f12_3_J hr))))))))))))))
  ·obtain ⟨hI',hle⟩:=hI.grow hb
   have hlt:cnt2 R (updF H k (behB bs (atP bs H) b.fin)) bs.length < cnt2 R H bs.length:=cnt2_lt (row_more (fun i hi=>by have:=hle k i hi; rw [updF_at] at this; exact this) same) hkl
   obtain ⟨e9,w9',p9,f9,q9,t9⟩:=h9.set hkl hrv2
   obtain ⟨e10,w10',p10,f10,q10,t10⟩:=h10.set hkl hrv
   rw [atT_upd hb] at t9
   have t10:=some_upd (H:=H) (n:=k) (behB bs (atP bs H) b.fin) ▸ t10
   obtain ⟨r,hr,hK'⟩:=ih true w9' w10' _ (by omega) hI' (by omega) (fun _=>by omega) (fun h=>nomatch h) t9 t10
   refine ⟨r,?_,hK'⟩
   rw [tt_false same] at heq
   unfold f12_3
   refine Goes.tv rfl (Goes.ite ge (fun _=>?_) fun h=>nomatch h)
   refine Goes.tvs heb (Goes.chk rfl (Goes.call hv (Goes.chk fv (Goes.nat s10 (Goes.nat hkn (Goes.chk c10 (Goes.tvs hr0 (Goes.chk fr0 (Goes.tv (getP_of_pel hr0 rfl) (Goes.call heq (Goes.chk rfl (Goes.tv rfl (Goes.ite rfl (fun _=>?_) fun h=>nomatch h)))))))))))))
   exact Goes.tvs heb (Goes.chk rfl (Goes.call hv2 (Goes.chk fv2 (Goes.nat s9 (Goes.nat hkn (Goes.chk c9 (Goes.tvs p9 (Goes.chk (by rw [f9,fv2]; rfl) (Goes.tv q9 (Goes.nat s10 (Goes.nat hkn (Goes.chk c10 (Goes.tvs p10 (Goes.chk (by rw [f10,fv]; rfl) (Goes.tv q10 (Goes.tv dn (f12_3_J hr)))))))))))))))))
theorem rBehind_loop {K:TV→Prop} (hK:∀ w9 w10 H,LiveI bs H→(∀ n b,bs[n]? = some b→∀ i,NextP bs (atP bs H) b.fin i→H n i=true)→RTab (some true) w9 bs.length R (fun n=>some (atT bs H n))→RTab (some true) w10 bs.length R (fun n=>some (H n))→K w10) :
  ∀ (c:Nat) (w9 w10:TV) (H:Nat→Nat→Bool),LiveI bs H→cnt2 R H bs.length≤c→RTab (some true) w9 bs.length R (fun n=>some (atT bs H n))→RTab (some true) w10 bs.length R (fun n=>some (H n))→∃ r,Goes prog 12 (f12_2 (I params) (I (R:Int)) bl w9 w10) r∧K r:=by
 intro c
 induction c using Nat.strongRecOn with
 | _ c ih =>
  intro w9 w10 H hI hc h9 h10
  obtain ⟨r,hr,hK'⟩:=rBehind_sweep hbl hF (c:=cnt2 R H bs.length) (params:=params) hK (fun w9 w10 H' hI' hc' h9' h10'=>ih (cnt2 R H' bs.length) (by omega) w9 w10 H' hI' (Nat.le_refl _) h9' h10') bs.length false w9 w10 H (Nat.le_refl _) hI (Nat.le_refl _) (fun h=>nomatch h) (fun _ n b hn hb=>by have:=(List.getElem?_eq_some_iff.1 hb).1; omega) h9 h10
  refine ⟨r,?_,hK'⟩
  unfold f12_2
  exact Goes.tv hbl.len (Goes.tv (psub ⟨by omega,by have:=hF.len; omega⟩) (f12_3_J hr))
theorem rBehind_rows {K:TV→Prop} (hK:∀ w9 w10 H,LiveI bs H→(∀ n b,bs[n]? = some b→∀ i,NextP bs (atP bs H) b.fin i→H n i=true)→RTab (some true) w9 bs.length R (fun n=>some (atT bs H n))→RTab (some true) w10 bs.length R (fun n=>some (H n))→K w10) :
  ∀ (d j:Nat) (w8 w9:TV),j + d=bs.length→RTab (some true) w8 bs.length R (firstF (atT bs fun _ _=>false) j)→RTab (some true) w9 bs.length R (firstF (fun _ _=>false) j)→∃ r,Goes prog 12 (f12_0 (I bs.length) (I j) (I params) (I (R:Int)) bl (I params) (I (R:Int)) bl w8 w9) r∧K r:=by
 intro d
 induction d with
 | zero =>
  intro j w8 w9 hj h8 h9
  have hj:j=bs.length:=by omega
  subst hj
  have h8':RTab (some true) w8 bs.length R fun n=>some (atT bs (fun _ _=>false) n):=by
   have:=h8
   unfold RTab at this ⊢
   rw [first_end] at this
   exact this
  have h9':RTab (some true) w9 bs.length R fun n=>some ((fun _ _=>false:Nat→Nat→Bool) n):=by
   have:=h9
   unfold RTab at this ⊢
   rw [first_end] at this
   exact this
  obtain ⟨r,hr,hK'⟩:=rBehind_loop hbl hF (params:=params) hK _ w8 w9 (fun _ _=>false) (LiveI.start bs) (Nat.le_refl _) h8' h9'
  refine ⟨r,?_,hK'⟩
  unfold f12_0
  refine Goes.tv rfl (Goes.ite asB_end (fun h=>nomatch h) fun _=>?_)
  refine f12_1_J ?_
  unfold f12_1
  exact f12_2_J hr
 | succ d ih =>
  intro j w8 w9 hj h8 h9
  have hjl:j < bs.length:=by omega
  have hb:bs[j]? = some bs[j]:=List.getElem?_eq_getElem hjl
  generalize bs[j]=b at hb
  obtain ⟨o1,o2,o3,o4,o5⟩:=hF.blk j b hb
  obtain ⟨eb,heb,hrb⟩:=hbl.idx (k:=.i64) hb
  have hz:=noRow R hF.reg
  obtain ⟨v,hv,hrv⟩:=rBegin (g:=fun _=>false) hrb (hz.frz (S:=RB1) fun _ _ h=>h.frz) hF.reg o1 o3 o4 o5
  obtain ⟨ceb,ieb,geb,rfl,_⟩:=hrb
  obtain ⟨s8,c8⟩:=h8.size hjl
  obtain ⟨s9,c9⟩:=h9.size hjl
  have hjn:asNat (I (j:Int))=some j:=asNat_nat (by have:=hF.len; omega)
  have hRn:asNat (I (R:Int))=some R:=asNat_nat (by have:=hF.reg; omega)
  have hle:(Bool.and (Nat.ble R R) (Nat.ble R 4294967296))=true:=by have:=hF.reg; simp; omega
  have fv:fitsAt zSl [v] 0=true:=by simp [fitsAt,zSl,isSlV,RL.isSl hrv]
  obtain ⟨e8,w8',p8,f8,q8,t8⟩:=h8.set hjl hrv
  obtain ⟨e9,w9',p9,f9,q9,t9⟩:=h9.set hjl hz
  have hat:begB b (fun _=>false)=atT bs (fun _ _=>false) j:=by unfold atT; rw [hb]
  rw [hat,first_next] at t8
  have t9:=first_next (F:=fun _ _=>false) (k:=j) ▸ t9
  obtain ⟨r,hr,hK'⟩:=ih (j + 1) w8' w9' (by omega) t8 t9
  refine ⟨r,?_,hK'⟩
  unfold f12_0
  refine Goes.tv rfl (Goes.ite (asB_lt hjl) (fun _=>?_) fun h=>nomatch h)
  exact Goes.nat hRn (Goes.nat hRn (Goes.chk hle (Goes.tvs heb (Goes.chk rfl (Goes.call hv (Goes.chk fv (Goes.nat s8 (Goes.nat hjn (Goes.chk c8 (Goes.tvs p8 (Goes.chk (by rw [f8,fv]; rfl) (Goes.tv q8
   (Goes.nat s9 (Goes.nat hjn (Goes.chk c9 (Goes.tvs p9 (Goes.chk (by rw [f9]; rfl) (Goes.tv q9 (Goes.tv (inc hjl hbl.bnd) (f12_0_J hr))))))))))))))))))))
end
theorem rBehind {q:Option Bool} {e:List TV} {f:DFunc} (he:RFunc q e f):∃ y,Runs prog 12 [.agg e] y∧((¬ CouldP f∧y=.lit nilV)∨(CouldP f∧RTab (some true) y f.blocks.length f.regs.toNat fun n=>some (behT f.blocks n))):=by
 have hc:=rCould he
 obtain ⟨bl,rfl,hbl,hp,hr⟩:=he
 by_cases hC:CouldP f
 ·obtain ⟨hF,hr0,hr1⟩:=could_okF hC
  have hreg:I f.regs=I (f.regs.toNat:Int):=by rw [Int.toNat_of_nonneg hr0]
  obtain ⟨r,hr,hK⟩:=rBehind_rows hbl hF (params:=f.params) (K:=fun r=>RTab (some true) r f.blocks.length f.regs.toNat fun n=>some (behT f.blocks n)) (fun w9 w10 H hI hf h9 h10=>by
   have:=h10; unfold RTab at this ⊢; rw [hI.rowH hf] at this; exact this) f.blocks.length 0 _ _ (by omega) (noTab _ hF.len) (noTab _ hF.len)
  refine ⟨r,?_,.inr ⟨hC,hK⟩⟩
  have hn:asNat (I (f.blocks.length:Int))=some f.blocks.length:=asNat_nat (by have:=hF.len; omega)
  have hle:(Bool.and (Nat.ble f.blocks.length f.blocks.length) (Nat.ble f.blocks.length 4294967296))=true:=by have:=hF.len; simp; omega
  have hc':Runs prog 28 [.agg [I f.params,I f.regs,bl]] (B true):=by
   have:=hc
   rw [tt_true (show funcP _ f from hC)] at this
   exact this
  rw [hreg] at hc' ⊢
  refine Runs.of (f12_MR _) ?_
  unfold f12_M
  exact Goes.chk rfl (Goes.call hc' (Goes.chk rfl (Goes.tv rfl (Goes.ite (v:=false) rfl (fun h=>nomatch h) fun _=>Goes.tv hbl.len (Goes.nat hn (Goes.nat hn (Goes.chk hle (Goes.tv hbl.len (Goes.nat hn (Goes.nat hn (Goes.chk hle (Goes.tv hbl.len (f12_0_J hr)))))))))))))
 ·refine ⟨_,?_,.inl ⟨hC,rfl⟩⟩
  have hc':Runs prog 28 [.agg [I f.params,I f.regs,bl]] (B false):=by
   have:=hc
   rw [tt_false (show ¬ funcP _ f from hC)] at this
   exact this
  refine Runs.of (f12_MR _) ?_
  unfold f12_M
  exact Goes.chk rfl (Goes.call hc' (Goes.chk rfl (Goes.tv rfl (Goes.ite (v:=true) rfl (fun _=>Goes.chk rfl Goes.ret) fun h=>nomatch h))))
end Go.Ab.A10
end
section
set_option linter.unusedVariables false
set_option linter.unusedSectionVars false
set_option linter.unusedSimpArgs false
set_option maxRecDepth 100000
namespace Go.Ab.A10
open Go Go.Ab Go.Proofs
theorem rAwake10:Runs prog 5 [] (B true):=⟨40,by kernel_rfl⟩
theorem RTab.rd {q:Option Bool} {w:TV} {N R:Nat} {F:Nat→Option (Nat→Bool)} (h:RTab q w N R F) {n:Nat} (hn:n < N) {g:Nat→Bool} (hg:F n=some g) {p:Nat} (hp:p < R) :
  ∃ r,Go.Ab.slLen w=some N∧(Bool.and (Go.Ab.slSize w 1) (Nat.blt n N))=true∧Go.Ab.pel w n=some [r]∧fitsAt zSl [r] 0=true∧getP [(n,0)] w=some r∧Go.Ab.slLen r=some R∧(Bool.and (Go.Ab.slSize r 1) (Nat.blt p R))=true∧Go.Ab.pel r p=some [B (g p)]:=by
 obtain ⟨s1,s2⟩:=h.size hn
 obtain ⟨r,hr,hrr⟩:=h.row hn hg
 obtain ⟨e,he,hre⟩:=RL.pel hrr (tabL_get hp)
 cases hre
 refine ⟨r,s1,s2,hr,by simp [fitsAt,zSl,isSlV,RL.isSl hrr],getP_of_pel hr rfl,by rw [RL.slLen hrr,tabL_len],?_,he⟩
 rw [RL.slSize hrr]
 simpa using hp
section
variable {q:Option Bool} {bl wa wb:TV} {params:Int} {R:Nat} {bs:List DBlock} (hbl:RL q 14 (RBlock q) bl bs) (hF:OkF R bs)
 (ha:RTab (some true) wa bs.length R fun n=>some fun i=>tt (LvN bs n i)) (hb:RTab (some true) wb bs.length R fun n=>some (behT bs n))
include hbl hF ha hb
section
variable {n p:Nat} {b:DBlock} (hbn:bs[n]? = some b) (hp:p < R) {c i ga:TV}
include hbn hp
theorem goes8 (hnx:Goes prog 4 (f4_2 (I n) (I (p + 1:Nat)) (I params) (I (R:Int)) bl wa wb (B b.landing) (I b.pad.dst) c (B b.pad.all) (B b.pad.cleanup) i (I b.fin.kind) (I b.fin.a) (I b.fin.dst) (I b.fin.f) ga (I b.fin.to) (I b.fin.els) (I b.fin.pad)) (B true)):Goes prog 4 (f4_8 (I n) (I p) (B (behT bs n p)) (I params) (I (R:Int)) bl wa wb (B b.landing) (I b.pad.dst) c (B b.pad.all) (B b.pad.cleanup) i (I b.fin.kind) (I b.fin.a) (I b.fin.dst) (I b.fin.f) ga (I b.fin.to) (I b.fin.els) (I b.fin.pad)) (B true):=by
 have hn:=(List.getElem?_eq_some_iff.1 hbn).1
 have h64:=hF.len
 have hR:=hF.reg
 obtain ⟨r,q1,q2,q3,q4,q5,q6,q7,q8⟩:=RTab.rd hb hn rfl hp
 unfold f4_8
 refine Goes.nat q1 (Goes.nat (asNat_nat (by omega)) (Goes.chk q2 (Goes.tvs q3 (Goes.chk q4 (Goes.tv q5 (Goes.nat q6 (Goes.nat (asNat_nat (by omega)) (Goes.chk q7 (Goes.tv q5 (Goes.tvs q8 (Goes.chk rfl (Goes.tv rfl (Goes.ite (v:=false) ?_ (fun h=>nomatch h) fun _=>Goes.tv (inc hp (by omega)) (f4_2_J hnx))))))))))))))
 show asBool (.lit (.bool !(behT bs n p == behT bs n p)))=some false
 simp [asBool]
theorem goes7 (hnx:Goes prog 4 (f4_2 (I n) (I (p + 1:Nat)) (I params) (I (R:Int)) bl wa wb (B b.landing) (I b.pad.dst) c (B b.pad.all) (B b.pad.cleanup) i (I b.fin.kind) (I b.fin.a) (I b.fin.dst) (I b.fin.f) ga (I b.fin.to) (I b.fin.els) (I b.fin.pad)) (B true)) {u:Bool} (hu:behT bs n p=true ↔ u=true∨(b.fin.kind=4∧∃ pb,bs[b.fin.pad.toNat]? = some pb∧pb.pad.dst≠(p:Int)∧LvN bs b.fin.pad.toNat p)) :
  Goes prog 4 (f4_7 (I n) (I p) (B u) (I params) (I (R:Int)) bl wa wb (B b.landing) (I b.pad.dst) c (B b.pad.all) (B b.pad.cleanup) i (I b.fin.kind) (I b.fin.a) (I b.fin.dst) (I b.fin.f) ga (I b.fin.to) (I b.fin.els) (I b.fin.pad)) (B true):=by
 have h8:=goes8 hbl hF ha hb hbn hp hnx (c:=c) (i:=i) (ga:=ga)
 have h64:=hF.len
 have hR:=hF.reg
 have same:∀ v:Bool,(behT bs n p=true ↔ v=true)→Goes prog 4 (f4_8 (I n) (I p) (B v) (I params) (I (R:Int)) bl wa wb (B b.landing) (I b.pad.dst) c (B b.pad.all) (B b.pad.cleanup) i (I b.fin.kind) (I b.fin.a) (I b.fin.dst) (I b.fin.f) ga (I b.fin.to) (I b.fin.els) (I b.fin.pad)) (B true):=fun v hv=>by
  rw [← bool_ext hv]; exact h8
 unfold f4_7
 by_cases k4:b.fin.kind=4
 ·obtain ⟨p0,pN⟩:=(hF.blk n b hbn).2.1.pad k4
  have hpb:bs[b.fin.pad.toNat]? = some bs[b.fin.pad.toNat]:=List.getElem?_eq_getElem pN
  generalize bs[b.fin.pad.toNat]=pb at hpb
  obtain ⟨ep,hep,hrp⟩:=hbl.idxI (k:=.i64) p0 hpb
  obtain ⟨c2,i2,g2,rfl,_⟩:=hrp
  refine Goes.tv rfl (Goes.ite (v:=true) (by simp [asBool,k4]) (fun _=>?_) fun h=>nomatch h)
  refine Goes.tvs hep (Goes.chk rfl ?_)
  by_cases hd:pb.pad.dst=(p:Int)
  ·refine Goes.tv rfl (Goes.ite (v:=false) (by simp [asBool,nth,hd]) (fun h=>nomatch h) fun _=>f4_8_J (same u ?_))
   rw [hu]
   constructor
   ·rintro (h | ⟨_,pb',h1,h2,_⟩)
    ·exact h
    ·rw [hpb] at h1; cases h1; exact absurd hd h2
   ·exact fun h=>.inl h
  ·refine Goes.tv rfl (Goes.ite (v:=true) (by simp [asBool,nth,hd]) (fun _=>?_) fun h=>nomatch h)
   refine Goes.ite (v:=u) rfl (fun h=>?_) fun h=>?_
   ·subst h
    exact f4_8_J (same true (by rw [hu]; simp))
   ·subst h
    obtain ⟨r,q1,q2,q3,q4,q5,q6,q7,q8⟩:=RTab.rd ha pN rfl hp
    refine Goes.nat q1 (Goes.nat (asNat_in p0 ⟨by omega,by omega⟩) (Goes.chk q2 (Goes.tvs q3 (Goes.chk q4 (Goes.tv q5 (Goes.nat q6 (Goes.nat (asNat_nat (by omega)) (Goes.chk q7 (Goes.tv q5 (Goes.tvs q8 (Goes.chk rfl (f4_8_J (same _ ?_)))))))))))))
    rw [hu,tt_iff]
    constructor
    ·rintro (h | ⟨_,pb',h1,h2,h3⟩)
     ·cases h
     ·exact h3
    ·exact fun h=>.inr ⟨k4,pb,hpb,hd,h⟩
 ·refine Goes.tv rfl (Goes.ite (v:=false) (by simp [asBool,k4]) (fun h=>nomatch h) fun _=>f4_8_J (same u ?_))
  rw [hu]
  exact ⟨fun h=>h.elim id fun h=>absurd h.1 k4,.inl⟩
theorem goes5 (hnx:Goes prog 4 (f4_2 (I n) (I (p + 1:Nat)) (I params) (I (R:Int)) bl wa wb (B b.landing) (I b.pad.dst) c (B b.pad.all) (B b.pad.cleanup) i (I b.fin.kind) (I b.fin.a) (I b.fin.dst) (I b.fin.f) ga (I b.fin.to) (I b.fin.els) (I b.fin.pad)) (B true)) {u:Bool} (hu:behT bs n p=true ↔ u=true∨(b.fin.kind=3∧LvN bs b.fin.els.toNat p)∨(b.fin.kind=4∧∃ pb,bs[b.fin.pad.toNat]? = some pb∧pb.pad.dst≠(p:Int)∧LvN bs b.fin.pad.toNat p)) :
  Goes prog 4 (f4_5 (I n) (I p) (B u) (I params) (I (R:Int)) bl wa wb (B b.landing) (I b.pad.dst) c (B b.pad.all) (B b.pad.cleanup) i (I b.fin.kind) (I b.fin.a) (I b.fin.dst) (I b.fin.f) ga (I b.fin.to) (I b.fin.els) (I b.fin.pad)) (B true):=by
 have h7:∀ v:Bool,_→Goes prog 4 (f4_7 (I n) (I p) (B v) (I params) (I (R:Int)) bl wa wb (B b.landing) (I b.pad.dst) c (B b.pad.all) (B b.pad.cleanup) i (I b.fin.kind) (I b.fin.a) (I b.fin.dst) (I b.fin.f) ga (I b.fin.to) (I b.fin.els) (I b.fin.pad)) (B true):=fun v=>goes7 hbl hF ha hb hbn hp hnx (c:=c) (i:=i) (ga:=ga) (u:=v)
 have h64:=hF.len
 have hR:=hF.reg
 unfold f4_5
 by_cases k3:b.fin.kind=3
 ·obtain ⟨p0,pN⟩:=(hF.blk n b hbn).2.1.els k3
  refine Goes.tv rfl (Goes.ite (v:=true) (by simp [asBool,k3]) (fun _=>?_) fun h=>nomatch h)
  refine Goes.ite (v:=u) rfl (fun h=>?_) fun h=>?_
  ·subst h
   exact f4_7_J (h7 true (by rw [hu]; simp))
  ·subst h
   obtain ⟨r,q1,q2,q3,q4,q5,q6,q7,q8⟩:=RTab.rd ha pN rfl hp
   refine Goes.nat q1 (Goes.nat (asNat_in p0 ⟨by omega,by omega⟩) (Goes.chk q2 (Goes.tvs q3 (Goes.chk q4 (Goes.tv q5 (Goes.nat q6 (Goes.nat (asNat_nat (by omega)) (Goes.chk q7 (Goes.tv q5 (Goes.tvs q8 (Goes.chk rfl (f4_7_J (h7 _ ?_)))))))))))))
   rw [hu,tt_iff]
   constructor
   ·rintro (h | h | h)
    ·cases h
    ·exact .inl h.2
    ·exact .inr h
   ·rintro (h | h)
    ·exact .inr (.inl ⟨k3,h⟩)
    ·exact .inr (.inr h)
 ·refine Goes.tv rfl (Goes.ite (v:=false) (by simp [asBool,k3]) (fun h=>nomatch h) fun _=>f4_7_J (h7 u ?_))
  rw [hu]
  constructor
  ·rintro (h | h | h)
   ·exact .inl h
   ·exact absurd h.1 k3
   ·exact .inr h
  ·rintro (h | h)
   ·exact .inl h
   ·exact .inr (.inr h)
theorem goes3 (hnx:Goes prog 4 (f4_2 (I n) (I (p + 1:Nat)) (I params) (I (R:Int)) bl wa wb (B b.landing) (I b.pad.dst) c (B b.pad.all) (B b.pad.cleanup) i (I b.fin.kind) (I b.fin.a) (I b.fin.dst) (I b.fin.f) ga (I b.fin.to) (I b.fin.els) (I b.fin.pad)) (B true)) {d:Bool} (hd:d=true ↔ (b.fin.kind=2∨b.fin.kind=3∨b.fin.kind=4∧b.fin.dst≠(p:Int))) :
  Goes prog 4 (f4_3 (I n) (I p) (B false) (B d) (I params) (I (R:Int)) bl wa wb (B b.landing) (I b.pad.dst) c (B b.pad.all) (B b.pad.cleanup) i (I b.fin.kind) (I b.fin.a) (I b.fin.dst) (I b.fin.f) ga (I b.fin.to) (I b.fin.els) (I b.fin.pad)) (B true):=by
 have h5:∀ v:Bool,_→Goes prog 4 (f4_5 (I n) (I p) (B v) (I params) (I (R:Int)) bl wa wb (B b.landing) (I b.pad.dst) c (B b.pad.all) (B b.pad.cleanup) i (I b.fin.kind) (I b.fin.a) (I b.fin.dst) (I b.fin.f) ga (I b.fin.to) (I b.fin.els) (I b.fin.pad)) (B true):=fun v=>goes5 hbl hF ha hb hbn hp hnx (c:=c) (i:=i) (ga:=ga) (u:=v)
 have h64:=hF.len
 have hR:=hF.reg
 have beh:behT bs n p=true ↔ NextP bs (LvN bs) b.fin p:=by
  unfold behT
  rw [hbn]
  exact tt_iff
 unfold f4_3
 refine Goes.ite (v:=d) rfl (fun h=>?_) fun h=>?_
 ·have hk:=hd.1 h
  obtain ⟨p0,pN⟩:=(hF.blk n b hbn).2.1.to (by omega)
  obtain ⟨r,q1,q2,q3,q4,q5,q6,q7,q8⟩:=RTab.rd ha pN rfl hp
  refine Goes.nat q1 (Goes.nat (asNat_in p0 ⟨by omega,by omega⟩) (Goes.chk q2 (Goes.tvs q3 (Goes.chk q4 (Goes.tv q5 (Goes.nat q6 (Goes.nat (asNat_nat (by omega)) (Goes.chk q7 (Goes.tv q5 (Goes.tvs q8 (Goes.chk rfl (f4_5_J (h5 _ ?_)))))))))))))
  rw [beh,tt_iff]
  unfold NextP
  constructor
  ·rintro (h | h | h)
   ·exact .inl h.2
   ·exact .inr (.inl h)
   ·exact .inr (.inr h)
  ·rintro (h | h | h)
   ·exact .inl ⟨hk,h⟩
   ·exact .inr (.inl h)
   ·exact .inr (.inr h)
 ·have hk:¬ (b.fin.kind=2∨b.fin.kind=3∨b.fin.kind=4∧b.fin.dst≠(p:Int)):=fun hk=>by rw [hd.2 hk] at h; cases h
  refine f4_5_J (h5 false ?_)
  rw [beh]
  unfold NextP
  constructor
  ·rintro (h | h | h)
   ·exact absurd h.1 hk
   ·exact .inr (.inl h)
   ·exact .inr (.inr h)
  ·rintro (h | h | h)
   ·cases h
   ·exact .inr (.inl h)
   ·exact .inr (.inr h)
end
theorem goes2 {n:Nat} {b:DBlock} (hbn:bs[n]? = some b) {c i ga:TV} (hend:Goes prog 4 (f4_4 (I n) (I params) (I (R:Int)) bl wa wb (B b.landing) (I b.pad.dst) c (B b.pad.all) (B b.pad.cleanup) i (I b.fin.kind) (I b.fin.a) (I b.fin.dst) (I b.fin.f) ga (I b.fin.to) (I b.fin.els) (I b.fin.pad)) (B true)):∀ (d p:Nat),p + d=R→Goes prog 4 (f4_2 (I n) (I p) (I params) (I (R:Int)) bl wa wb (B b.landing) (I b.pad.dst) c (B b.pad.all) (B b.pad.cleanup) i (I b.fin.kind) (I b.fin.a) (I b.fin.dst) (I b.fin.f) ga (I b.fin.to) (I b.fin.els) (I b.fin.pad)) (B true):=by
 intro d
 induction d with
 | zero =>
  intro p hp
  have hp:p=R:=by omega
  subst hp
  unfold f4_2
  refine Goes.tv rfl (Goes.ite asB_end (fun h=>nomatch h) fun _=>?_)
  exact f4_4_J hend
 | succ d ih =>
  intro p hp
  have hpl:p < R:=by omega
  have hnx:=ih (p + 1) (by omega)
  have h3:∀ v:Bool,_→Goes prog 4 (f4_3 (I n) (I p) (B false) (B v) (I params) (I (R:Int)) bl wa wb (B b.landing) (I b.pad.dst) c (B b.pad.all) (B b.pad.cleanup) i (I b.fin.kind) (I b.fin.a) (I b.fin.dst) (I b.fin.f) ga (I b.fin.to) (I b.fin.els) (I b.fin.pad)) (B true):=fun v=>goes3 hbl hF ha hb hbn hpl hnx (d:=v)
  unfold f4_2
  refine Goes.tv rfl (Goes.ite (asB_lt hpl) (fun _=>?_) fun h=>nomatch h)
  by_cases k2:b.fin.kind=2
  ·exact Goes.tv rfl (Goes.ite (v:=true) (by simp [asBool,k2]) (fun _=>f4_3_J (h3 true (by simp [k2]))) fun h=>nomatch h)
  refine Goes.tv rfl (Goes.ite (v:=false) (by simp [asBool,k2]) (fun h=>nomatch h) fun _=>?_)
  by_cases k3:b.fin.kind=3
  ·exact Goes.tv rfl (Goes.ite (v:=true) (by simp [asBool,k3]) (fun _=>f4_3_J (h3 true (by simp [k3]))) fun h=>nomatch h)
  refine Goes.tv rfl (Goes.ite (v:=false) (by simp [asBool,k3]) (fun h=>nomatch h) fun _=>?_)
  by_cases k4:b.fin.kind=4
  ·exact Goes.tv rfl (Goes.ite (v:=true) (by simp [asBool,k4]) (fun _=>Goes.tv rfl (f4_3_J (h3 _ (by simp [k4])))) fun h=>nomatch h)
  ·exact Goes.tv rfl (Goes.ite (v:=false) (by simp [asBool,k4]) (fun h=>nomatch h) fun _=>f4_3_J (h3 false (by simp [k2,k3,k4])))
theorem goes6 {n:Nat} {b:DBlock} (hbn:bs[n]? = some b) {x:DIns} (hx:b.ins[0]? = some x) {w:TV} (hw:RInts (some true) w (asksI x)) (hend:Goes prog 4 (f4_1 (I (n + 1:Nat)) (I params) (I (R:Int)) bl wa wb) (B true)):∀ (d j:Nat),j + d=(asksI x).length→Goes prog 4 (f4_6 (I n) (I j) (I params) (I (R:Int)) bl wa wb w) (B true):=by
 have hn:=(List.getElem?_eq_some_iff.1 hbn).1
 have h64:=hF.len
 have hR:=hF.reg
 have hwb:=hw.bnd
 intro d
 induction d with
 | zero =>
  intro j hj
  have hj:j=(asksI x).length:=by omega
  subst hj
  unfold f4_6
  exact Goes.tv hw.len (Goes.tv rfl (Goes.ite asB_end (fun h=>nomatch h) fun _=>Goes.tv (inc hn (by omega)) (f4_1_J hend)))
 | succ d ih =>
  intro j hj
  have hjl:j < (asksI x).length:=by omega
  have hg:(asksI x)[j]? = some (asksI x)[j]:=List.getElem?_eq_getElem hjl
  have hm:=List.getElem_mem hjl
  generalize (asksI x)[j]=p at hg hm
  obtain ⟨p0,pR⟩:=(hF.blk n b hbn).1.asks x (List.mem_of_getElem? hx) p hm
  obtain ⟨e,he,rfl,hi⟩:=hw.pel hg
  obtain ⟨r,q1,q2,q3,q4,q5,q6,q7,q8⟩:=RTab.rd ha hn rfl (p:=p.toNat) (by omega)
  have hlv:LvN bs n p.toNat:=by
   unfold LvN
   rw [Int.toNat_of_nonneg p0]
   exact .ask hbn hx hm
  have q8:Go.Ab.pel r p.toNat=some [B true]:=by
   have:=q8
   rw [tt_true hlv] at this
   exact this
  have cw:(Bool.and (Go.Ab.slSize w 1) (Nat.blt j (asksI x).length))=true:=by rw [hw.slSize]; simpa using hjl
  unfold f4_6
  refine Goes.tv hw.len (Goes.tv rfl (Goes.ite (asB_lt hjl) (fun _=>?_) fun h=>nomatch h))
  exact Goes.nat q1 (Goes.nat (asNat_nat (by omega)) (Goes.chk q2 (Goes.tvs q3 (Goes.chk q4 (Goes.nat hw.slLen (Goes.nat (asNat_nat (by omega)) (Goes.chk cw (Goes.tvs he (Goes.chk rfl (Goes.tv q5 (Goes.nat q6 (Goes.nat (asNat_in (n:=p) p0 hi) (Goes.chk q7 (Goes.tv q5 (Goes.tvs q8 (Goes.chk rfl (Goes.tv rfl (Goes.ite (v:=false) rfl (fun h=>nomatch h) fun _=>Goes.tv (inc hjl hwb) (f4_6_J (ih (j + 1) (by omega)))))))))))))))))))))
theorem goes1:∀ (d n:Nat),n + d=bs.length→Goes prog 4 (f4_1 (I n) (I params) (I (R:Int)) bl wa wb) (B true):=by
 have h64:=hF.len
 intro d
 induction d with
 | zero =>
  intro n hn
  have hn:n=bs.length:=by omega
  subst hn
  unfold f4_1
  exact Goes.tv hbl.len (Goes.tv rfl (Goes.ite asB_end (fun h=>nomatch h) fun _=>Goes.ret))
 | succ d ih =>
  intro n hn
  have hnl:n < bs.length:=by omega
  have hbn:bs[n]? = some bs[n]:=List.getElem?_eq_getElem hnl
  generalize bs[n]=b at hbn
  have hnx:=ih (n + 1) (by omega)
  obtain ⟨eb,heb,hrb⟩:=hbl.idx (k:=.i64) hbn
  obtain ⟨c,i,ga,rfl,hc,hd,hi,hg,ho⟩:=hrb
  have h4:Goes prog 4 (f4_4 (I n) (I params) (I (R:Int)) bl wa wb (B b.landing) (I b.pad.dst) c (B b.pad.all) (B b.pad.cleanup) i (I b.fin.kind) (I b.fin.a) (I b.fin.dst) (I b.fin.f) ga (I b.fin.to) (I b.fin.els) (I b.fin.pad)) (B true):=by
   unfold f4_4
   refine Goes.tv hi.len ?_
   by_cases h0:0 < b.ins.length
   ·have hx:b.ins[0]? = some b.ins[0]:=List.getElem?_eq_getElem h0
    have hxm:=List.getElem_mem h0
    generalize b.ins[0]=x at hx hxm
    obtain ⟨ex,hex,hrx⟩:=hi.idx (k:=.i64) hx
    obtain ⟨w,hw,hrw⟩:=rAsks hrx ((hF.blk n b hbn).2.2.2.1 x hxm)
    obtain ⟨gx,rfl,_⟩:=hrx
    refine Goes.tv rfl (Goes.ite (v:=true) (by show some (decide ((b.ins.length:Int) > 0))=some true; rw [decide_eq_true (by omega)]) (fun _=>?_) fun h=>nomatch h)
    exact Goes.tvs hex (Goes.chk rfl (Goes.call hw (Goes.chk (by simp [fitsAt,zSl,isSlV,hrw.isSl]) (f4_6_J (goes6 hbl hF ha hb hbn hx hrw hnx (asksI x).length 0 (by omega))))))
   ·have e0:b.ins=[]:=List.length_eq_zero_iff.1 (by omega)
    refine Goes.tv rfl (Goes.ite (v:=false) (by simp [asBool,e0]) (fun h=>nomatch h) fun _=>?_)
    exact Goes.tv (inc hnl (by omega)) (f4_1_J hnx)
  unfold f4_1
  refine Goes.tv hbl.len (Goes.tv rfl (Goes.ite (asB_lt hnl) (fun _=>?_) fun h=>nomatch h))
  exact Goes.tvs heb (Goes.chk rfl (f4_2_J (goes2 hbl hF ha hb hbn h4 R 0 (by omega))))
end
theorem rLiveGoes {q:Option Bool} {e:List TV} {f:DFunc} (he:RFunc q e f):Runs prog 4 [.agg e] (B true):=by
 obtain ⟨wa,hra,ha⟩:=rAt he
 obtain ⟨wb,hrb,hb⟩:=rBehind he
 obtain ⟨bl,rfl,hbl,hp,hr⟩:=he
 have hlen:∃ n:Nat,plen (.slice 45) wa=some (I n)∧plen (.slice 45) wb=some (I n)∧fitsAt zSl [wa] 0=true∧fitsAt zSl [wb] 0=true∧((CouldP f∧n=f.blocks.length)∨n=0∧¬ CouldP f):=by
  rcases ha with ⟨hn,rfl⟩ | ⟨hc,ha⟩
  ·rcases hb with ⟨_,rfl⟩ | ⟨hc,_⟩
   ·exact ⟨0,rfl,rfl,rfl,rfl,.inr ⟨rfl,hn⟩⟩
   ·exact absurd hc hn
  ·rcases hb with ⟨hn,_⟩ | ⟨_,hb⟩
   ·exact absurd hc hn
   ·refine ⟨f.blocks.length,?_,?_,by simp [fitsAt,zSl,isSlV,RL.isSl ha],by simp [fitsAt,zSl,isSlV,RL.isSl hb],.inl ⟨hc,rfl⟩⟩
    ·have:=RL.len (t:=45) ha; rw [tabL_len] at this; exact this
    ·have:=RL.len (t:=45) hb; rw [tabL_len] at this; exact this
 obtain ⟨n,la,lb,fa,fb,hn⟩:=hlen
 have yes:∀ v:TV,asBool v=some true→Goes prog 4 (f4_0 v (I f.params) (I f.regs) bl wa wb) (B true):=fun v hv=>by
  unfold f4_0
  refine Goes.ite hv (fun _=>Goes.tv la (Goes.tv lb (Goes.tv (v:=B true) ?_ Goes.ret))) fun h=>nomatch h
  show some (TV.lit (.bool ((n:Int) == (n:Int))))=some (B true)
  simp
 refine Runs.of (f4_MR _) ?_
 unfold f4_M
 refine Goes.chk rfl (Goes.call rAwake10 (Goes.chk rfl (Goes.tv rfl (Goes.ite (v:=false) rfl (fun h=>nomatch h) fun _=>Goes.call hra (Goes.chk fa (Goes.call hrb (Goes.chk fb (Goes.tv hbl.len ?_))))))))
 by_cases g1:(f.blocks.length:Int) > 30
 ·exact Goes.tv rfl (Goes.ite (v:=true) (by simp [asBool]; omega) (fun _=>f4_0_J (yes _ rfl)) fun h=>nomatch h)
 refine Goes.tv rfl (Goes.ite (v:=false) (by simp [asBool]; omega) (fun h=>nomatch h) fun _=>?_)
 by_cases g2:f.regs > 30
 ·exact Goes.tv rfl (Goes.ite (v:=true) (by simp [asBool,TV.cell,nth]; omega) (fun _=>f4_0_J (yes _ rfl)) fun h=>nomatch h)
 refine Goes.tv rfl (Goes.ite (v:=false) (by simp [asBool,TV.cell,nth]; omega) (fun h=>nomatch h) fun _=>?_)
 refine Goes.tv la (Goes.tv hbl.len ?_)
 by_cases g3:(n:Int)=f.blocks.length
 ·refine Goes.tv rfl (Goes.ite (v:=false) (by simp [asBool,g3]) (fun h=>nomatch h) fun _=>?_)
  refine Goes.tv lb (Goes.tv hbl.len (Goes.tv rfl (f4_0_J ?_)))
  have e:(!((n:Int) == (f.blocks.length:Int)))=false:=by simp [g3]
  show Goes prog 4 (f4_0 (.lit (.bool (!((n:Int) == (f.blocks.length:Int))))) (I f.params) (I f.regs) bl wa wb) (B true)
  rw [e]
  unfold f4_0
  refine Goes.ite rfl (fun h=>nomatch h) fun _=>f4_1_J ?_
  rcases ha with ⟨hnc,rfl⟩ | ⟨hc,ha⟩
  ·have e0:f.blocks.length=0:=by
    rcases hn with ⟨hc,_⟩ | ⟨h0,_⟩
    ·exact absurd hc hnc
    ·omega
   unfold f4_1
   refine Goes.tv hbl.len (Goes.tv rfl (Goes.ite (v:=false) ?_ (fun h=>nomatch h) fun _=>Goes.ret))
   simp [asBool,e0]
  ·rcases hb with ⟨hnc,_⟩ | ⟨_,hb⟩
   ·exact absurd hc hnc
   ·obtain ⟨hF,hr0,hr1⟩:=could_okF hc
    have:=goes1 hbl hF ha hb (params:=f.params) f.blocks.length 0 (by omega)
    rw [Int.toNat_of_nonneg hr0] at this
    exact this
 ·exact Goes.tv rfl (Goes.ite (v:=true) (by simp [asBool]; omega) (fun _=>f4_0_J (yes _ rfl)) fun h=>nomatch h)
end Go.Ab.A10
end
section
namespace Go.Ab
open Go.RowKit
set_option linter.unusedVariables false
theorem nth_eq {α:Type} (d:α):∀ (l:List α) (n:Nat),nth d l n=(l[n]?).getD d
 | [],n=>by simp [nth]
 | a :: l,0=>rfl
 | a :: l,n + 1=>by simp [nth,nth_eq d l n]
theorem setNth_eq {α:Type}:∀ (l:List α) (n:Nat) (b:α),setNth l n b=l.set n b
 | [],n,b=>by simp [setNth]
 | a :: l,0,b=>rfl
 | a :: l,n + 1,b=>by simp [setNth,setNth_eq l n b]
theorem nth_some {α:Type} {d:α} {l:List α} {n:Nat} {a:α} (h:l[n]? = some a):nth d l n=a:=by rw [nth_eq,h]; rfl
theorem beq_iff (a b:Nat):a.beq b=true ↔ a=b:=⟨Nat.eq_of_beq_eq_true,fun h=>h ▸ Nat.beq_refl a⟩
theorem memB_iff (n:Nat):∀ l:List Nat,memB n l=true ↔ n ∈ l
 | []=>by simp [memB]
 | a :: l => by
  cases h:a.beq n
  ·have:a≠n:=fun e=>by simp [e] at h
   simp only [memB,h,cond_false,memB_iff n l,List.mem_cons]
   constructor
   ·exact .inr
   ·rintro (e | e)
    ·exact absurd e.symm this
    ·exact e
  ·simp only [memB,h,cond_true,List.mem_cons,true_iff]
   exact .inl ((beq_iff a n).1 h).symm
theorem add_block (a:Addr) (k:Nat):(a.add k).block=a.block:=by unfold Addr.add; split <;> rfl
theorem add_add (a:Addr) (i j:Nat):(a.add i).add j=a.add (i + j):=by
 unfold Addr.add
 by_cases hi:i=0 <;> by_cases hj:j=0 <;> simp [hi,hj,Nat.add_assoc]
theorem add_lit (b o k:Nat):(⟨b,o,none⟩:Addr).add k=⟨b,o + k,none⟩:=by unfold Addr.add; split <;> simp_all
def spl {α:Type} (l:List α) (o:Nat) (ys:List α):List α:=l.take o ++ ys ++ l.drop (o + ys.length)
theorem spl_len {α:Type} {l ys:List α} {o:Nat} (h:o + ys.length≤l.length):(spl l o ys).length=l.length:=by
 simp only [spl,List.length_append,List.length_take,List.length_drop]
 omega
theorem spl_get {α:Type} {l ys:List α} {o:Nat} (h:o + ys.length≤l.length) (k:Nat):(spl l o ys)[k]? = if o≤k∧k < o + ys.length then ys[k - o]? else l[k]? := by
 have e1:(l.take o).length=o:=by simp; omega
 unfold spl
 by_cases h1:k < o
 ·rw [List.append_assoc,List.getElem?_append_left (by omega),List.getElem?_take,if_pos h1,if_neg (by omega)]
 ·by_cases h2:k < o + ys.length
  ·rw [List.append_assoc,List.getElem?_append_right (by omega),e1,List.getElem?_append_left (by omega),if_pos (by omega)]
  ·rw [List.getElem?_append_right (by simp; omega),List.getElem?_drop,if_neg (by omega)]
   congr 1
   simp
   omega
theorem setCells_eq {α:Type}:∀ (ps l:List α) (off:Nat),off + ps.length≤l.length→setCells l off ps=spl l off ps
 | [],l,off,h=>by simp [setCells,spl]
 | p :: ps, l, off, h => by
  have hlt:off < l.length:=by simp at h; omega
  simp only [setCells]
  rw [setNth_eq,setCells_eq ps (l.set off p) (off + 1) (by simp at h ⊢; omega)]
  apply List.ext_getElem?
  intro k
  rw [spl_get (by simp at h ⊢; omega),spl_get h]
  simp only [List.length_cons,List.getElem?_set]
  by_cases h1:k < off
  ·rw [if_neg (by omega),if_neg (by omega),if_neg (by omega)]
  ·by_cases h2:k=off
   ·subst h2
    rw [if_neg (by omega),if_pos (by omega)]
    simp [hlt]
   ·by_cases h3:k < off + (ps.length + 1)
    ·rw [if_pos (by omega),if_pos (by omega)]
     rw [show k - off=(k - (off + 1)) + 1 by omega,List.getElem?_cons_succ]
    ·rw [if_neg (by omega),if_neg (by omega),if_neg (by omega)]
theorem takeN_spec {α:Type}:∀ (l:List α) (o n:Nat) (r:List α),takeN l o n=some r→r.length=n∧(n=0∨o + n≤l.length)∧∀ j,j < n→r[j]? = l[o + j]?
 | l,o,0,r,h=>by cases l <;> simp [takeN] at h <;> subst h <;> simp
 | [],o,n + 1,r,h=>by simp [takeN] at h
 | a :: l, 0, n + 1, r, h => by
  simp only [takeN] at h
  cases h1:takeN l 0 n with
  | none=>simp [h1] at h
  | some r' =>
   simp only [h1,Option.some.injEq] at h
   subst h
   obtain ⟨i1,i2,i3⟩:=takeN_spec l 0 n r' h1
   refine ⟨by simp [i1],.inr (by simp; omega),fun j hj=>?_⟩
   cases j with
   | zero=>simp
   | succ j=>simpa using i3 j (by omega)
 | a :: l,o + 1,n + 1,r,h=>by
  simp only [takeN] at h
  obtain ⟨i1,i2,i3⟩:=takeN_spec l o (n + 1) r h
  refine ⟨i1,.inr (by rcases i2 with i2 | i2 <;> simp <;> omega),fun j hj=>?_⟩
  rw [i3 j hj,show o + 1 + j=(o + j) + 1 by omega,List.getElem?_cons_succ]
theorem flat_len {α:Type} {s:Nat}:∀ {xs:List (List α)},(∀ x ∈ xs,x.length=s)→xs.flatten.length=xs.length * s
 | [],_=>by simp
 | x :: xs,h=>by
  simp only [List.flatten_cons,List.length_append,List.length_cons,h x List.mem_cons_self,flat_len (fun y hy=>h y (List.mem_cons_of_mem _ hy)),Nat.add_mul]
  omega
theorem flat_get {α:Type} {s:Nat}:∀ {xs:List (List α)} {i j:Nat} {x:List α} {c:α},(∀ x ∈ xs,x.length=s)→xs[i]? = some x→x[j]? = some c→xs.flatten[i * s + j]? = some c
 | x :: xs,0,j,_,c,h,hi,hj=>by
  simp at hi
  subst hi
  rw [List.flatten_cons,List.getElem?_append_left (by simp; exact (List.getElem?_eq_some_iff.1 hj).1)]
  simpa using hj
 | x :: xs,i + 1,j,y,c,h,hi,hj=>by
  simp at hi
  have hx:=h x List.mem_cons_self
  rw [List.flatten_cons,List.getElem?_append_right (by rw [hx,Nat.add_mul]; omega),hx,show (i + 1) * s + j - s=i * s + j by rw [Nat.add_mul]; omega]
  exact flat_get (fun z hz=>h z (List.mem_cons_of_mem _ hz)) hi hj
theorem take_add {α:Type} {x l:List α} {s n:Nat} (h:x.length=s):(x ++ l).take (s + n)=x ++ l.take n:=by
 subst h
 exact List.take_length_add_append n
theorem drop_add {α:Type} {x l:List α} {s n:Nat} (h:x.length=s):(x ++ l).drop (s + n)=l.drop n:=by
 subst h
 exact List.drop_length_add_append n
theorem succ_mul' (n s:Nat):(n + 1) * s=s + n * s:=by rw [Nat.add_mul]; omega
theorem flat_take {α:Type} {s:Nat}:∀ {xs:List (List α)} (n:Nat),(∀ x ∈ xs,x.length=s)→(xs.take n).flatten=xs.flatten.take (n * s)
 | [],n,_=>by simp
 | x :: xs,0,_=>by simp
 | x :: xs,n + 1,h=>by
  have hx:=h x List.mem_cons_self
  rw [List.take_succ_cons,List.flatten_cons,List.flatten_cons,flat_take n (fun z hz=>h z (List.mem_cons_of_mem _ hz)),succ_mul',take_add hx]
theorem flat_drop {α:Type} {s:Nat}:∀ {xs:List (List α)} (n:Nat),(∀ x ∈ xs,x.length=s)→(xs.drop n).flatten=xs.flatten.drop (n * s)
 | [],n,_=>by simp
 | x :: xs,0,_=>by simp
 | x :: xs,n + 1,h=>by
  have hx:=h x List.mem_cons_self
  rw [List.drop_succ_cons,List.flatten_cons,flat_drop n (fun z hz=>h z (List.mem_cons_of_mem _ hz)),succ_mul',drop_add hx]
theorem flat_set {α:Type} {s:Nat}:∀ {xs:List (List α)} {i:Nat} {x y:List α},(∀ x ∈ xs,x.length=s)→xs[i]? = some x→y.length=s→(xs.set i y).flatten=spl xs.flatten (i * s) y
 | x :: xs,0,_,y,h,hi,hy=>by
  simp at hi
  subst hi
  have hx:=h x List.mem_cons_self
  simp only [List.set_cons_zero,List.flatten_cons,Nat.zero_mul,spl,List.take_zero,List.nil_append,Nat.zero_add,hy,List.drop_append,hx,Nat.sub_self,List.drop_zero]
  rw [List.drop_of_length_le (by omega),List.nil_append]
 | x :: xs,i + 1,z,y,h,hi,hy=>by
  simp at hi
  have hx:=h x List.mem_cons_self
  have ih:=flat_set (fun z hz=>h z (List.mem_cons_of_mem _ hz)) hi hy
  simp only [List.set_cons_succ,List.flatten_cons,ih,spl,succ_mul',take_add hx,hy]
  rw [show s + i * s + s=s + (i * s + s) by omega,drop_add hx]
  simp only [List.append_assoc]
theorem set_all {α:Type} {s:Nat} {xs:List (List α)} {i:Nat} {y:List α} (h:∀ x ∈ xs,x.length=s) (hy:y.length=s):∀ x ∈ xs.set i y,x.length=s:=by
 intro x hx
 rcases List.mem_or_eq_of_mem_set hx with h' | h'
 ·exact h x h'
 ·rw [h']; exact hy
theorem flat_spl {α:Type} {s:Nat} {xs:List (List α)} {i j:Nat} {x ys:List α} (h:∀ x ∈ xs,x.length=s) (hi:xs[i]? = some x) (hj:j + ys.length≤x.length) :
  (xs.set i (spl x j ys)).flatten=spl xs.flatten (i * s + j) ys∧i * s + j + ys.length≤xs.flatten.length:=by
 have hx:=h x (List.mem_of_getElem? hi)
 have hlt:i < xs.length:=(List.getElem?_eq_some_iff.1 hi).1
 have hle:i * s + s≤xs.flatten.length:=by
  rw [flat_len h]
  have:=Nat.mul_le_mul_right s (Nat.succ_le_of_lt hlt)
  rw [Nat.succ_mul] at this
  exact this
 refine ⟨?_,by omega⟩
 rw [flat_set h hi (by rw [spl_len hj,hx])]
 apply List.ext_getElem?
 intro k
 rw [spl_get (l:=xs.flatten) (ys:=spl x j ys) (by rw [spl_len hj]; omega),spl_get (l:=xs.flatten) (ys:=ys) (by omega),spl_len hj,hx]
 by_cases h1:i * s≤k∧k < i * s + s
 ·rw [if_pos h1,spl_get hj]
  by_cases h2:j≤k - i * s∧k - i * s < j + ys.length
  ·rw [if_pos h2,if_pos (by omega)]
   congr 1
   omega
  ·rw [if_neg h2,if_neg (by omega)]
   have hk:k - i * s < x.length:=by omega
   have:=flat_get h hi (List.getElem?_eq_getElem hk)
   rw [show i * s + (k - i * s)=k by omega] at this
   rw [this,List.getElem?_eq_getElem hk]
 ·rw [if_neg h1,if_neg (by omega)]
inductive Rep (w:World) (I:Nat→Prop):TV→Value→Prop
 | lit (v:Value):Rep w I (.lit v) v
 | hole (v:Value):Rep w I .hole v
 | buf {s:ByteArray} (e:TypeId) (h:s.size=0):Rep w I (.buf s e) nilV
 | sl {size : Nat} {xs : List (List TV)} {a : Addr} {cap : Nat} (cell : Nat → Value) (hI : 0 < xs.length → I a.block) (hc : xs.length ≤ cap) (hm : cap ≤ maxLen)
   (hl:∀ x ∈ xs,x.length=size) (hcell:∀ k,k < xs.length * size→w.cell? (a.add k)=some (cell k)) (h1:∀ k,k < xs.length * size→(cell k).oneCell'=true)
   (hr:∀ (i:Nat) (x:List TV),xs[i]? = some x→∀ (j:Nat) (c:TV),x[j]? = some c→Rep w I c (cell (i * size + j))):Rep w I (.sl false size xs) (.slice (some a) xs.length cap)
 | agg {cs : List TV} {vs : Array Value} (hl : vs.size = cs.length) (h1 : ∀ j, j < vs.size → (vs.getD j undef).oneCell' = true)
   (hr:∀ (j:Nat) (c:TV),cs[j]? = some c→Rep w I c (vs.getD j undef)):Rep w I (.agg cs) (.agg vs)
 | tup {cs:List TV} {vs:Array Value} (hl:vs.size=cs.length) (hr:∀ (j:Nat) (c:TV),cs[j]? = some c→Rep w I c (vs.getD j undef)):Rep w I (.tup cs) (.tuple vs)
theorem Rep.mv {w w':World} {I I':Nat→Prop} (hh:∀ b,I b→w'.heap[b]? = w.heap[b]?) (hI:∀ b,I b→I' b) {x:TV} {v:Value} (h:Rep w I x v):Rep w' I' x v:=by
 induction h with
 | lit v=>exact .lit v
 | hole v=>exact .hole v
 | buf e h=>exact .buf e h
 | sl cell i c m l hcell h1 _ ih =>
  exact .sl cell (fun h=>hI _ (i h)) c m l (fun k hk=>by rw [← hcell k hk]; exact World.cell?_of_block (by rw [add_block]; exact hh _ (i (Nat.pos_of_ne_zero (fun e=>by simp [e] at hk))))) h1 ih
 | agg hl h1 _ ih=>exact .agg hl h1 ih
 | tup hl _ ih=>exact .tup hl ih
structure Row (w:World) (a:Addr) (n cap size:Nat) (us:List Value) (vs:Array Value) (ty:TypeId):Prop where
 heap:w.heap[a.block]? = some (.cells vs ty (0,0))
 spot:a.spot=none
 le:n≤cap
 max:cap≤maxLen
 fit:a.off + cap * size≤vs.size
 len:us.length=n * size
 cells:∀ k,k < n * size→vs[a.off + k]? = us[k]?
 one:∀ u ∈ us,u.oneCell'=true
theorem Row.cell {w:World} {a:Addr} {n cap size:Nat} {us:List Value} {vs:Array Value} {ty:TypeId} (h:Row w a n cap size us vs ty) {k:Nat} {u:Value} (hk:us[k]? = some u):w.cell? (a.add k)=some u:=by
 have hlt:k < n * size:=by rw [← h.len]; exact (List.getElem?_eq_some_iff.1 hk).1
 have:a.add k=⟨a.block,a.off + k,none⟩:=by
  have:=h.spot
  obtain ⟨b,o,sp⟩:=a
  simp at this
  subst this
  exact add_lit b o k
 rw [this]
 simp only [World.cell?,h.heap]
 simp only [Option.isSome_none,Bool.false_eq_true,if_false]
 rw [h.cells k hlt,hk]
inductive RepO (w:World) (I:Nat→Prop):TV→Value→(Nat→Prop)→Prop
 | fr {x:TV} {v:Value} {S:Nat→Prop} (h:Rep w I x v):RepO w I x v S
 | sl {size : Nat} {xs : List (List TV)} {a : Addr} {cap : Nat} {S : Nat → Prop} (us : List Value) (vs : Array Value) (ty : TypeId) (F : Nat → Nat → Prop) (hS : S a.block)
   (row:Row w a xs.length cap size us vs ty) (hl:∀ x ∈ xs,x.length=size) (hr:∀ (k:Nat) (c:TV),xs.flatten[k]? = some c→RepO w I c (us.getD k undef) (F k))
   (hF:∀ k b,F k b→S b∧b≠a.block) (hd:∀ k k' b,F k b→F k' b→k=k'):RepO w I (.sl true size xs) (.slice (some a) xs.length cap) S
 | agg {cs : List TV} {vs : Array Value} {S : Nat → Prop} (F : Nat → Nat → Prop) (hl : vs.size = cs.length) (h1 : ∀ j, j < vs.size → (vs.getD j undef).oneCell' = true)
   (hr:∀ (j:Nat) (c:TV),cs[j]? = some c→RepO w I c (vs.getD j undef) (F j)) (hF:∀ j b,F j b→S b) (hd:∀ k k' b,F k b→F k' b→k=k'):RepO w I (.agg cs) (.agg vs) S
 | buf {s:ByteArray} {e:TypeId} {v:Value} {S:Nat→Prop} (h:w.ownsRowF 0 e 1 v s.size (Lib.strCells s)) (hS:∀ b,v.ownBlock=some b→S b):RepO w I (.buf s e) v S
 | tup {cs : List TV} {vs : Array Value} {S : Nat → Prop} (F : Nat → Nat → Prop) (hl : vs.size = cs.length)
   (hr:∀ (j:Nat) (c:TV),cs[j]? = some c→RepO w I c (vs.getD j undef) (F j)) (hF:∀ j b,F j b→S b) (hd:∀ k k' b,F k b→F k' b→k=k'):RepO w I (.tup cs) (.tuple vs) S
theorem _root_.Go.World.ownsRowF.moved {w w':World} {base:Nat} {e:TypeId} {size:Nat} {v:Value} {n:Nat} {xs:List Value} (h:w.ownsRowF base e size v n xs) (hh:∀ b,v.ownBlock=some b→w'.heap[b]? = w.heap[b]?):w'.ownsRowF base e size v n xs:=by
 refine ⟨h.1,?_⟩
 rcases h.2 with hn | ⟨g,cap,cur,fz,rfl,hb,hgg,rest⟩
 ·exact .inl hn
 ·exact .inr ⟨g,cap,cur,fz,rfl,hb,by rw [hh g rfl]; exact hgg,rest⟩
theorem RepO.mv {w w':World} {I I':Nat→Prop} (hI:∀ b,I b→w'.heap[b]? = w.heap[b]?) (hs:∀ b,I b→I' b) {x:TV} {v:Value} {S:Nat→Prop} (h:RepO w I x v S) :
  ∀ {S':Nat→Prop},(∀ b,S b→w'.heap[b]? = w.heap[b]?)→(∀ b,S b→S' b)→RepO w' I' x v S':=by
 induction h with
 | fr h=>intro S' _ _; exact .fr (h.mv hI hs)
 | @sl size xs a cap S us vs ty F hS row hl hr hF hd ih =>
  intro S' hh hSS
  exact .sl us vs ty F (hSS _ hS) ⟨by rw [hh _ hS]; exact row.heap,row.spot,row.le,row.max,row.fit,row.len,row.cells,row.one⟩ hl (fun k c hk=>ih k c hk (fun b hb=>hh b (hF k b hb).1) (fun b hb=>hb))
   (fun k b hb=>⟨hSS b (hF k b hb).1,(hF k b hb).2⟩) hd
 | @buf s e v S h hS =>
  intro S' hh hSS
  exact .buf (h.moved (fun b hb=>hh b (hS b hb))) (fun b hb=>hSS b (hS b hb))
 | @agg cs vs S F hl h1 hr hF hd ih =>
  intro S' hh hSS
  exact .agg F hl h1 (fun k c hk=>ih k c hk (fun b hb=>hh b (hF k b hb)) (fun b hb=>hb)) (fun k b hb=>hSS b (hF k b hb)) hd
 | @tup cs vs S F hl hr hF hd ih =>
  intro S' hh hSS
  exact .tup F hl (fun k c hk=>ih k c hk (fun b hb=>hh b (hF k b hb)) (fun b hb=>hb)) (fun k b hb=>hSS b (hF k b hb)) hd
theorem RepO.mono {w:World} {I:Nat→Prop} {x:TV} {v:Value} {S S':Nat→Prop} (h:RepO w I x v S) (hS:∀ b,S b→S' b):RepO w I x v S' :=
 h.mv (fun _ _=>rfl) (fun _ h=>h) (fun _ _=>rfl) hS
theorem rep_lit {w:World} {I:Nat→Prop} {v u:Value} (h:Rep w I (.lit v) u):u=v:=by cases h; rfl
theorem repO_lit {w:World} {I:Nat→Prop} {v u:Value} {S:Nat→Prop} (h:RepO w I (.lit v) u S):u=v:=by cases h with | fr h=>exact rep_lit h
theorem repO_frz {w:World} {I:Nat→Prop} {s:Nat} {xs:List (List TV)} {u:Value} {S:Nat→Prop} (h:RepO w I (.sl false s xs) u S):Rep w I (.sl false s xs) u:=by cases h with | fr h=>exact h
theorem repO_sl {w:World} {I:Nat→Prop} {o:Bool} {s:Nat} {xs:List (List TV)} {u:Value} {S:Nat→Prop} (h:RepO w I (.sl o s xs) u S):∃ a cap,u=.slice (some a) xs.length cap:=by
 cases h with
 | fr h=>cases h; exact ⟨_,_,rfl⟩
 | sl=>exact ⟨_,_,rfl⟩
theorem repO_isSl {w:World} {I:Nat→Prop} {x:TV} {u:Value} {S:Nat→Prop} (h:RepO w I x u S) (hx:x.isSl=true):∃ a n cap,u=.slice a n cap:=by
 cases x with
 | lit v =>
  have:=repO_lit h
  subst this
  cases u <;> simp [TV.isSl,isSlV] at hx ⊢
 | sl o s xs=>obtain ⟨a,cap,rfl⟩:=repO_sl h; exact ⟨_,_,_,rfl⟩
 | _=>simp [TV.isSl] at hx
theorem scV_one {v:Value} (h:scV v=true):v.oneCell'=true:=by cases v <;> first | rfl | simp [scV] at h
theorem repO_isSc {w:World} {I:Nat→Prop} {x:TV} {u:Value} {S:Nat→Prop} (h:RepO w I x u S) (hx:x.isSc=true):x=.lit u∧scV u=true:=by
 cases x with
 | lit v =>
  have:=repO_lit h
  subst this
  exact ⟨rfl,hx⟩
 | _=>simp [TV.isSc] at hx
theorem repO_lf {w:World} {I:Nat→Prop} {x:TV} {u:Value} {S:Nat→Prop} (h:RepO w I x u S):Rep w I x.lf u:=by
 cases x with
 | lit v=>have:=repO_lit h; subst this; exact .lit _
 | _=>exact .hole _
theorem frzL_eq:∀ l:List TV,frzL l=l.map frz
 | []=>rfl
 | x :: l=>by simp [frzL,frzL_eq l]
theorem frzLL_eq:∀ l:List (List TV),frzLL l=l.map fun x=>x.map frz
 | []=>rfl
 | x :: l=>by simp [frzLL,frzLL_eq l,frzL_eq]
theorem lfL_eq:∀ l:List TV,lfL l=l.map TV.lf
 | []=>rfl
 | x :: l=>by simp [lfL,lfL_eq l]
theorem lfLL_eq:∀ l:List (List TV),lfLL l=l.map fun x=>x.map TV.lf
 | []=>rfl
 | x :: l=>by simp [lfLL,lfLL_eq l,lfL_eq]
theorem Rep.frz {w:World} {I:Nat→Prop} {x:TV} {v:Value} (h:Rep w I x v):Rep w I (frz x) v:=by
 induction h with
 | lit v=>exact .lit v
 | hole v=>exact .hole v
 | buf e h=>exact .hole _
 | @sl size xs a cap cell hI hc hm hl hcell h1 _ ih =>
  simp only [Ab.frz,frzLL_eq]
  have hlen:(xs.map fun x=>x.map Ab.frz).length=xs.length:=by simp
  have key:Rep w I (.sl false size (xs.map fun x=>x.map Ab.frz)) (.slice (some a) (xs.map fun x=>x.map Ab.frz).length cap):=by
   refine .sl cell (by rw [hlen]; exact hI) (by rw [hlen]; exact hc) hm (fun x hx=>?_) (by rw [hlen]; exact hcell) (by rw [hlen]; exact h1) (fun i y hy j c hj=>?_)
   ·obtain ⟨y,hy,rfl⟩:=List.mem_map.1 hx
    simpa using hl y hy
   ·rw [List.getElem?_map] at hy
    cases hxi:xs[i]? with
    | none=>simp [hxi] at hy
    | some x =>
     simp only [hxi,Option.map_some,Option.some.injEq] at hy
     subst hy
     rw [List.getElem?_map] at hj
     cases hxj:x[j]? with
     | none=>simp [hxj] at hj
     | some c' =>
      simp only [hxj,Option.map_some,Option.some.injEq] at hj
      subst hj
      exact ih i x hxi j c' hxj
  rwa [hlen] at key
 | @agg cs vs hl h1 _ ih =>
  simp only [Ab.frz,frzL_eq]
  refine .agg (by simpa using hl) h1 (fun j c hj=>?_)
  rw [List.getElem?_map] at hj
  cases hxj:cs[j]? with
  | none=>simp [hxj] at hj
  | some c'=>simp only [hxj,Option.map_some,Option.some.injEq] at hj; subst hj; exact ih j c' hxj
 | @tup cs vs hl _ ih =>
  simp only [Ab.frz,frzL_eq]
  refine .tup (by simpa using hl) (fun j c hj=>?_)
  rw [List.getElem?_map] at hj
  cases hxj:cs[j]? with
  | none=>simp [hxj] at hj
  | some c'=>simp only [hxj,Option.map_some,Option.some.injEq] at hj; subst hj; exact ih j c' hxj
theorem RepO.frz {w:World} {I I':Nat→Prop} (hI:∀ b,I b→I' b) {x:TV} {v:Value} {S:Nat→Prop} (h:RepO w I x v S):(∀ b,S b→I' b)→Rep w I' (frz x) v:=by
 induction h with
 | fr h=>intro _; exact (h.mv (fun _ _=>rfl) hI).frz
 | buf _ _=>intro _; exact .hole _
 | @sl size xs a cap S us vs ty F hS row hl hr hF hd ih =>
  intro hSI
  simp only [Ab.frz,frzLL_eq]
  have hlen:(xs.map fun x=>x.map Ab.frz).length=xs.length:=by simp
  have key:Rep w I' (.sl false size (xs.map fun x=>x.map Ab.frz)) (.slice (some a) (xs.map fun x=>x.map Ab.frz).length cap):=by
   refine .sl (fun k=>us.getD k undef) (fun _=>hSI _ hS) (by rw [hlen]; exact row.le) row.max (fun x hx=>?_) (fun k hk=>?_) (fun k hk=>?_) (fun i y hy j c hj=>?_)
   ·obtain ⟨y,hy,rfl⟩:=List.mem_map.1 hx
    simpa using hl y hy
   ·rw [hlen] at hk
    have:k < us.length:=by rw [row.len]; exact hk
    exact row.cell (by simp [List.getElem?_eq_getElem this])
   ·rw [hlen] at hk
    have:k < us.length:=by rw [row.len]; exact hk
    simp only [List.getD_eq_getElem?_getD,List.getElem?_eq_getElem this,Option.getD_some]
    exact row.one _ (List.getElem_mem this)
   ·rw [List.getElem?_map] at hy
    cases hxi:xs[i]? with
    | none=>simp [hxi] at hy
    | some x =>
     simp only [hxi,Option.map_some,Option.some.injEq] at hy
     subst hy
     rw [List.getElem?_map] at hj
     cases hxj:x[j]? with
     | none=>simp [hxj] at hj
     | some c' =>
      simp only [hxj,Option.map_some,Option.some.injEq] at hj
      subst hj
      exact ih _ c' (flat_get hl hxi hxj) (fun b hb=>hSI b (hF _ b hb).1)
  rwa [hlen] at key
 | @agg cs vs S F hl h1 hr hF hd ih =>
  intro hSI
  simp only [Ab.frz,frzL_eq]
  refine .agg (by simpa using hl) h1 (fun j c hj=>?_)
  rw [List.getElem?_map] at hj
  cases hxj:cs[j]? with
  | none=>simp [hxj] at hj
  | some c'=>simp only [hxj,Option.map_some,Option.some.injEq] at hj; subst hj; exact ih j c' hxj (fun b hb=>hSI b (hF j b hb))
 | @tup cs vs S F hl hr hF hd ih =>
  intro hSI
  simp only [Ab.frz,frzL_eq]
  refine .tup (by simpa using hl) (fun j c hj=>?_)
  rw [List.getElem?_map] at hj
  cases hxj:cs[j]? with
  | none=>simp [hxj] at hj
  | some c'=>simp only [hxj,Option.map_some,Option.some.injEq] at hj; subst hj; exact ih j c' hxj (fun b hb=>hSI b (hF j b hb))
theorem isOwnL_mem:∀ {l:List TV},isOwnL l=true→∀ x ∈ l,isOwn x=true
 | [],_,x,hx=>by simp at hx
 | y :: l,h,x,hx=>by
  simp only [isOwnL,Bool.and_eq_true] at h
  rcases List.mem_cons.1 hx with rfl | hx
  ·exact h.1
  ·exact isOwnL_mem h.2 x hx
theorem isOwnLL_mem:∀ {l:List (List TV)},isOwnLL l=true→∀ x ∈ l,isOwnL x=true
 | [],_,x,hx=>by simp at hx
 | y :: l,h,x,hx=>by
  simp only [isOwnLL,Bool.and_eq_true] at h
  rcases List.mem_cons.1 hx with rfl | hx
  ·exact h.1
  ·exact isOwnLL_mem h.2 x hx
theorem Rep.own {w:World} {I I':Nat→Prop} {x:TV} {v:Value} (h:Rep w I x v):isOwn x=true→Rep w I' x v:=by
 induction h with
 | lit v=>intro _; exact .lit v
 | hole v=>intro _; exact .hole v
 | buf e h=>intro _; exact .buf e h
 | sl=>intro h; simp [isOwn] at h
 | @agg cs vs hl h1 _ ih=>intro h; simp only [isOwn] at h; exact .agg hl h1 (fun j c hj=>ih j c hj (isOwnL_mem h c (List.mem_of_getElem? hj)))
 | @tup cs vs hl _ ih=>intro h; simp only [isOwn] at h; exact .tup hl (fun j c hj=>ih j c hj (isOwnL_mem h c (List.mem_of_getElem? hj)))
theorem RepO.own {w:World} {I I':Nat→Prop} {x:TV} {v:Value} {S:Nat→Prop} (h:RepO w I x v S):isOwn x=true→RepO w I' x v S:=by
 induction h with
 | fr h=>intro ho; exact .fr (h.own ho)
 | buf h hS=>intro _; exact .buf h hS
 | @sl size xs a cap S us vs ty F hS row hl hr hF hd ih =>
  intro ho
  simp only [isOwn,Bool.true_and] at ho
  refine .sl us vs ty F hS row hl (fun k c hk=>ih k c hk ?_) hF hd
  obtain ⟨x,hx,hc⟩:=List.mem_flatten.1 (List.mem_of_getElem? hk)
  exact isOwnL_mem (isOwnLL_mem ho x hx) c hc
 | @agg cs vs S F hl h1 hr hF hd ih=>intro ho; simp only [isOwn] at ho; exact .agg F hl h1 (fun j c hj=>ih j c hj (isOwnL_mem ho c (List.mem_of_getElem? hj))) hF hd
 | @tup cs vs S F hl hr hF hd ih=>intro ho; simp only [isOwn] at ho; exact .tup F hl (fun j c hj=>ih j c hj (isOwnL_mem ho c (List.mem_of_getElem? hj))) hF hd
end Go.Ab
end
section
namespace Go.Ab
open Go.RowKit
set_option linter.unusedVariables false
def TV.nd (x:TV):Option (Nat × Nat):=match x with | .sl _ s xs=>some (s,xs.length) | _=>none
def Node (w:World):Way→TV→Value→Value→Option (Nat × Nat)→Prop
 | [],x,u,v,nd=>v=u∧nd=x.nd
 | (k,j) :: p,x,u,v,nd=>∃ o s xs a n cap e y u',x=.sl o s xs∧u=.slice (some a) n cap∧xs[k]? = some e∧e[j]? = some y∧w.cell? (a.add (k * s + j))=some u'∧Node w p y u' v nd
section
variable {w w':World} {I I':Nat→Prop} {x y:TV} {u v:Value} {S:Nat→Prop}
theorem getD_some {l:List Value} {k:Nat} {u:Value} (h:l[k]? = some u):l.getD k undef=u:=by simp [h]
theorem RepO.child {o:Bool} {s:Nat} {xs:List (List TV)} (h:RepO w I (.sl o s xs) u S) {k j:Nat} {e:List TV} {y:TV} (hk:xs[k]? = some e) (hj:e[j]? = some y) :
  ∃ a cap u' S',u=.slice (some a) xs.length cap∧w.cell? (a.add (k * s + j))=some u'∧u'.oneCell'=true∧RepO w I y u' S'∧(∀ b,S' b→S b)∧(S a.block∨I a.block)∧e.length=s:=by
 have hlt:k < xs.length:=(List.getElem?_eq_some_iff.1 hk).1
 cases h with
 | fr h =>
  cases h with
  | @sl _ _ a cap cell hI hc hm hl hcell h1 hr =>
   have hel:=hl e (List.mem_of_getElem? hk)
   have hf:k * s + j < xs.length * s:=by
    have hj':=(List.getElem?_eq_some_iff.1 hj).1
    have:=Nat.mul_le_mul_right s (Nat.succ_le_of_lt hlt)
    rw [Nat.succ_mul] at this
    omega
   exact ⟨a,cap,_,fun _=>False,rfl,hcell _ hf,h1 _ hf,.fr (hr k e hk j y hj),fun _ h=>h.elim,.inr (hI (by omega)),hel⟩
 | @sl _ _ a cap S us vs ty F hS row hl hr hF hd =>
  have hel:=hl e (List.mem_of_getElem? hk)
  have hfg:=flat_get hl hk hj
  have hlt2:k * s + j < us.length:=by
   rw [row.len,← flat_len hl]
   exact (List.getElem?_eq_some_iff.1 hfg).1
  have hu:=List.getElem?_eq_getElem hlt2
  refine ⟨a,cap,us[k * s + j],F (k * s + j),rfl,row.cell hu,row.one _ (List.getElem_mem hlt2),?_,fun b hb=>(hF _ b hb).1,.inl hS,hel⟩
  have:=hr _ _ hfg
  rwa [getD_some hu] at this
theorem Node.mv:∀ {p:Way} {x:TV} {u v:Value} {nd:Option (Nat × Nat)} {S:Nat→Prop},RepO w I x u S→(∀ b,I b→w'.heap[b]? = w.heap[b]?)→(∀ b,S b→w'.heap[b]? = w.heap[b]?)→Node w p x u v nd→Node w' p x u v nd
 | [],x,u,v,nd,S,_,_,_,h=>h
 | (k,j) :: p,x,u,v,nd,S,hr,hI,hS,⟨o,s,xs,a,n,cap,e,y,u',hx,hu,he,hy,hc,h⟩=>by
  subst hx
  obtain ⟨a',cap',u2,S',h1,h2,h3,h4,h5,h6,h7⟩:=hr.child he hy
  rw [hu] at h1
  cases h1
  rw [hc] at h2
  cases h2
  refine ⟨o,s,xs,a,_,_,e,y,u',rfl,hu,he,hy,?_,Node.mv h4 hI (fun b hb=>hS b (h5 b hb)) h⟩
  rw [← hc]
  refine World.cell?_of_block ?_
  rw [add_block]
  rcases h6 with h6 | h6
  ·exact hS _ h6
  ·exact hI _ h6
theorem RepO.get:∀ {p:Way} {x y:TV} {u:Value} {S:Nat→Prop},RepO w I x u S→getP p x=some y→∃ v S',Node w p x u v y.nd∧RepO w I y v S'∧(∀ b,S' b→S b)∧(p≠[]→v.oneCell'=true)
 | [],x,y,u,S,hr,h=>by
  simp only [getP,Option.some.injEq] at h
  subst h
  exact ⟨u,S,⟨rfl,rfl⟩,hr,fun _ h=>h,fun h=>absurd rfl h⟩
 | (k, j) :: p, x, y, u, S, hr, h => by
  cases x with
  | sl o s xs =>
   simp only [getP] at h
   cases he:xs[k]? with
   | none=>simp [he] at h
   | some e =>
    simp only [he] at h
    cases hz:e[j]? with
    | none=>simp [hz] at h
    | some z =>
     simp only [hz] at h
     obtain ⟨a,cap,u',S1,h1,h2,h3,h4,h5,h6,h7⟩:=hr.child he hz
     obtain ⟨v,S2,n1,n2,n3,n4⟩:=RepO.get h4 h
     refine ⟨v,S2,⟨o,s,xs,a,_,cap,e,z,u',rfl,h1,he,hz,h2,n1⟩,n2,fun b hb=>h5 b (n3 b hb),fun _=>?_⟩
     cases p with
     | nil=>rw [n1.1]; exact h3
     | cons=>exact n4 (by simp)
  | _=>simp [getP] at h
theorem Node.unique:∀ {p:Way} {x:TV} {u v v':Value} {nd nd':Option (Nat × Nat)},Node w p x u v nd→Node w p x u v' nd'→v=v'∧nd=nd'
 | [],x,u,v,v',nd,nd',h,h'=>⟨h.1.trans h'.1.symm,h.2.trans h'.2.symm⟩
 | (k,j) :: p,x,u,v,v',nd,nd',⟨o,s,xs,a,n,cap,e,y,u',hx,hu,he,hy,hc,h⟩,⟨o2,s2,xs2,a2,n2,cap2,e2,y2,u2,hx2,hu2,he2,hy2,hc2,h2⟩=>by
  subst hx
  cases hx2
  subst hu
  cases hu2
  rw [he] at he2
  cases he2
  rw [hy] at hy2
  cases hy2
  rw [hc] at hc2
  cases hc2
  exact Node.unique h h2
theorem RepO.sub : ∀ {p : Way} {x y : TV} {u : Value} {S : Nat → Prop}, RepO w I x u S → getP p x = some y →
  ∃ v Sy, RepO w I y v Sy ∧ (∀ b, Sy b → S b) ∧ Node w p x u v y.nd ∧ (p ≠ [] → v.oneCell' = true) ∧
   ∀ (w':World) (I':Nat→Prop) (y' x':TV) (S':Nat→Prop),setP p x y'=some x'→(∀ b,I b→w'.heap[b]? = w.heap[b]?)→(∀ b,I b→I' b)→(∀ b,S b→¬ Sy b→w'.heap[b]? = w.heap[b]?) →
    RepO w' I' y' v S'→(∀ b,S' b→S b→Sy b)→RepO w' I' x' u (fun b=>(S b∧¬ Sy b)∨S' b) ∧
    ∀ (q:Way) (v':Value) (nd:Option (Nat × Nat)),(∀ q',q=p ++ q'→Node w q' y v v' nd→Node w' q' y' v v' nd)→Node w q x u v' nd→Node w' q x' u v' nd
 | [],x,y,u,S,hr,h=>by
  simp only [Ab.getP,Option.some.injEq] at h
  subst h
  refine ⟨u,S,hr,fun _ h=>h,⟨rfl,rfl⟩,fun h=>absurd rfl h,?_⟩
  intro w' I' y' x' S' hs hI hII hh hr' hd
  simp only [setP,Option.some.injEq] at hs
  subst hs
  exact ⟨hr'.mono (fun b hb=>.inr hb),fun q v' nd hq hn=>hq q rfl hn⟩
 | (k, j) :: p, x, y, u, S, hr, h => by
  cases x with
  | sl o s xs =>
   simp only [Ab.getP] at h
   cases he:xs[k]? with
   | none=>simp [he] at h
   | some e =>
    simp only [he] at h
    cases hz:e[j]? with
    | none=>simp [hz] at h
    | some z =>
     simp only [hz] at h
     cases o with
     | false =>
      obtain ⟨v,S',n1,n2,n3,n4⟩:=RepO.get (p:=(k,j) :: p) (y:=y) hr (by simp only [Ab.getP,he,hz,h])
      refine ⟨v,S',n2,n3,n1,n4,?_⟩
      intro w' I' y' x' S2 hs
      simp [setP] at hs
     | true =>
      cases hr with
      | fr h=>cases h
      | @sl _ _ a cap S us vs ty F hS row hl hr hF hd =>
       have hel:=hl e (List.mem_of_getElem? he)
       have hjl:j < e.length:=(List.getElem?_eq_some_iff.1 hz).1
       have hfg:=flat_get hl he hz
       have hlt2:k * s + j < us.length:=by
        rw [row.len,← flat_len hl]
        exact (List.getElem?_eq_some_iff.1 hfg).1
       have hu:=List.getElem?_eq_getElem hlt2
       have hrz:=hr _ _ hfg
       rw [getD_some hu] at hrz
       obtain ⟨v,Sy,m1,m2,m3,m4,m5⟩:=RepO.sub hrz h
       have hSyF:∀ b,Sy b→F (k * s + j) b:=m2
       refine ⟨v,Sy,m1,fun b hb=>(hF _ b (m2 b hb)).1,⟨true,s,xs,a,_,cap,e,z,us[k * s + j],rfl,rfl,he,hz,row.cell hu,m3⟩,fun _=>?_,?_⟩
       ·cases p with
        | nil=>rw [m3.1]; exact row.one _ (List.getElem_mem hlt2)
        | cons=>exact m4 (by simp)
       intro w' I' y' x' S' hs hI hII hh hr' hdis
       simp only [setP,he,hz] at hs
       cases hz':setP p z y' with
       | none=>simp [hz'] at hs
       | some z' =>
        simp only [hz',Option.some.injEq,setNth_eq] at hs
        subst hs
        have hablk:¬ Sy a.block:=fun hb=>(hF _ _ (m2 _ hb)).2 rfl
        obtain ⟨r1,r2⟩:=m5 w' I' y' z' S' hz' hI hII (fun b hb hn=>hh b (hF _ b hb).1 hn) hr' (fun b hb hb2=>hdis b hb (hF _ b hb2).1)
        have hset:e.set j z'=spl e j [z']:=by
         apply List.ext_getElem?
         intro m
         rw [spl_get (by simp; omega),List.getElem?_set]
         by_cases hjm:j=m
         ·subst hjm; simp [hjl]
         ·rw [if_neg hjm,if_neg (by simp; omega)]
        obtain ⟨f1,f2⟩:=flat_spl (ys:=[z']) hl he (by simp; omega:j + [z'].length≤e.length)
        have hlen:(xs.set k (e.set j z')).length=xs.length:=by simp
        have hrow:Row w' a (xs.set k (e.set j z')).length cap s us vs ty:=by
         rw [hlen]
         exact ⟨by rw [hh _ hS hablk]; exact row.heap,row.spot,row.le,row.max,row.fit,row.len,row.cells,row.one⟩
        have hother:∀ m c,m≠k * s + j→xs.flatten[m]? = some c→RepO w' I' c (us.getD m undef) (F m):=fun m c hm hc =>
         (hr m c hc).mv hI hII (fun b hb=>hh b (hF m b hb).1 (fun hs=>hm (hd m _ b hb (m2 b hs)))) (fun _ h=>h)
        constructor
        ·have key:RepO w' I' (.sl true s (xs.set k (e.set j z'))) (.slice (some a) (xs.set k (e.set j z')).length cap) (fun b=>(S b∧¬ Sy b)∨S' b):=by
          refine .sl us vs ty (fun m b=>if m=k * s + j then (F (k * s + j) b∧¬ Sy b)∨S' b else F m b) (.inl ⟨hS,hablk⟩) hrow (set_all hl (by simp [hel])) (fun m c hc=>?_) (fun m b hb=>?_) (fun m m' b hb hb'=>?_)
          ·rw [hset,f1,spl_get f2] at hc
           by_cases hm:m=k * s + j
           ·subst hm
            simp only [List.length_singleton,Nat.sub_self] at hc
            rw [if_pos (by omega)] at hc
            simp only [List.getElem?_cons_zero,Option.some.injEq] at hc
            subst hc
            simp only [if_true]
            rw [getD_some hu]
            exact r1
           ·rw [if_neg (by simp only [List.length_singleton]; omega)] at hc
            simp only [hm,if_false]
            exact hother m c hm hc
          ·by_cases hm:m=k * s + j
           ·subst hm
            simp only [if_true] at hb
            rcases hb with ⟨h1,h2⟩ | h1
            ·exact ⟨.inl ⟨(hF _ b h1).1,h2⟩,(hF _ b h1).2⟩
            ·exact ⟨.inr h1,fun e=>by subst e; exact hablk (hdis _ h1 hS)⟩
           ·simp only [hm,if_false] at hb
            exact ⟨.inl ⟨(hF _ b hb).1,fun hs=>hm (hd _ _ b hb (m2 b hs))⟩,(hF _ b hb).2⟩
          ·by_cases hm:m=k * s + j <;> by_cases hm':m'=k * s + j
           ·rw [hm,hm']
           ·simp only [hm,hm',if_true,if_false] at hb hb'
            rcases hb with ⟨h1,h2⟩ | h1
            ·exact hm ▸ hd _ _ b h1 hb'
            ·exact hm ▸ hd _ _ b (m2 b (hdis b h1 (hF _ b hb').1)) hb'
           ·simp only [hm,hm',if_true,if_false] at hb hb'
            rcases hb' with ⟨h1,h2⟩ | h1
            ·exact hm' ▸ hd _ _ b hb h1
            ·exact hm' ▸ hd _ _ b hb (m2 b (hdis b h1 (hF _ b hb).1))
           ·simp only [hm,hm',if_false] at hb hb'
            exact hd _ _ b hb hb'
         rwa [hlen] at key
        ·intro q v' nd hq hn
         cases q with
         | nil =>
          obtain ⟨e1,e2⟩:=hn
          exact ⟨e1,by rw [e2]; simp [TV.nd]⟩
         | cons kj q =>
          obtain ⟨k1,j1⟩:=kj
          obtain ⟨o2,s2,xs2,a2,n2,cap2,e2,y2,u2,hx2,hu2,he2,hy2,hc2,hn2⟩:=hn
          cases hx2
          cases hu2
          have hblk:∀ m,w'.cell? (a.add m)=w.cell? (a.add m):=fun m=>World.cell?_of_block (by rw [add_block]; exact hh _ hS hablk)
          by_cases hk1:k1=k
          ·subst hk1
           rw [he] at he2
           cases he2
           have hk2:k1 < xs.length:=(List.getElem?_eq_some_iff.1 he).1
           by_cases hj1:j1=j
           ·subst hj1
            rw [hz] at hy2
            cases hy2
            have:u2=us[k1 * s + j1]:=by rw [row.cell hu] at hc2; exact (Option.some.inj hc2).symm
            subst this
            refine ⟨true,s,_,a,_,cap,e.set j1 z',z',us[k1 * s + j1],rfl,rfl,by rw [List.getElem?_set_self hk2],by rw [List.getElem?_set_self hjl],by rw [hblk]; exact hc2,?_⟩
            exact r2 q v' nd (fun q' hq'=>hq q' (by rw [hq']; rfl)) hn2
           ·refine ⟨true,s,_,a,_,cap,e.set j z',y2,u2,rfl,rfl,by rw [List.getElem?_set_self hk2],by rw [List.getElem?_set_ne (fun h=>hj1 h.symm)]; exact hy2,by rw [hblk]; exact hc2,?_⟩
            have hfg2:=flat_get hl he hy2
            have hm:k1 * s + j1≠k1 * s + j:=by omega
            have hr2:=hr _ _ hfg2
            have hlt3:k1 * s + j1 < us.length:=by rw [row.len,← flat_len hl]; exact (List.getElem?_eq_some_iff.1 hfg2).1
            rw [getD_some (List.getElem?_eq_getElem hlt3)] at hr2
            have:u2=us[k1 * s + j1]:=by rw [row.cell (List.getElem?_eq_getElem hlt3)] at hc2; exact (Option.some.inj hc2).symm
            subst this
            exact Node.mv hr2 hI (fun b hb=>hh b (hF _ b hb).1 (fun hs=>hm (hd _ _ b hb (m2 b hs)))) hn2
          ·refine ⟨true,s,_,a,_,cap,e2,y2,u2,rfl,rfl,by rw [List.getElem?_set_ne (fun h=>hk1 h.symm)]; exact he2,hy2,by rw [hblk]; exact hc2,?_⟩
           have hfg2:=flat_get hl he2 hy2
           have hel2:=hl e2 (List.mem_of_getElem? he2)
           have hj2:j1 < e2.length:=(List.getElem?_eq_some_iff.1 hy2).1
           have hm:k1 * s + j1≠k * s + j:=by
            intro heq
            rcases Nat.lt_or_gt_of_ne hk1 with h' | h'
            ·have:=Nat.mul_le_mul_right s (Nat.succ_le_of_lt h')
             rw [Nat.succ_mul] at this
             omega
            ·have:=Nat.mul_le_mul_right s (Nat.succ_le_of_lt h')
             rw [Nat.succ_mul] at this
             omega
           have hr2:=hr _ _ hfg2
           have hlt3:k1 * s + j1 < us.length:=by rw [row.len,← flat_len hl]; exact (List.getElem?_eq_some_iff.1 hfg2).1
           rw [getD_some (List.getElem?_eq_getElem hlt3)] at hr2
           have:u2=us[k1 * s + j1]:=by rw [row.cell (List.getElem?_eq_getElem hlt3)] at hc2; exact (Option.some.inj hc2).symm
           subst this
           exact Node.mv hr2 hI (fun b hb=>hh b (hF _ b hb).1 (fun hs=>hm (hd _ _ b hb (m2 b hs)))) hn2
  | _=>simp [Ab.getP] at h
end
end Go.Ab
end

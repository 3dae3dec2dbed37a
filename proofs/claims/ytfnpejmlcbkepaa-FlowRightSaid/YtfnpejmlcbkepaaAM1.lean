import Derived.Test.YtfnpejmlcbkepaaAQ12F73
import Derived.Test.YtfnpejmlcbkepaaAM0
import Derived.Below
import Derived.Orders
import Derived.Laws.Cells
import Derived.Laws.OwnMore
import Derived.Laws.CopyOwn
import Derived.Maps.AppendAt
import Derived.Lib.FrozenHead
set_option linter.all false
section
set_option maxRecDepth 10000
namespace Go.Ab
theorem zc {xs:List (List TV)} {l:List Int} (h:F2 RI1 xs l):ft xs=xs:=by
 induction h with
 | nil=>rfl
 | cons hr _ ih =>
  obtain ⟨rfl,_⟩:=hr
  simp only [ft,ih]
  rfl
theorem RL.appL {s:Nat} {α:Type} {R:List TV->α->Prop} {y:TV} {l:List α} (hy:RL (some true) s R y l) {es:List (List TV)} {m:List α} (hR:F2 R es m) (hm:m≠[]\/l≠[]) (hl:l.length + m.length<=4294967296):∃ y',papp s y es=some y'/\RL (some true) s R y' (l ++ m):=by
 have hel:=hR.length
 rcases hy with ⟨rfl,rfl⟩ | ⟨o,xs,rfl,hq,h,hb⟩
 ·cases hR with
  | nil=>simp at hm
  | @cons e a es m hr hR =>
   refine ⟨.sl true s (e :: es),?_,.sl (by simp) (.cons hr hR) (by simp at hel hl ⊢; omega)⟩
   simp only [papp,aJ]
   rw [if_pos (by simp [room] at hel hl ⊢; omega)]
   rfl
 ·have:o=true:=hq true rfl
  subst this
  have hxl:=h.length
  refine ⟨.sl true s (xs ++ es),?_,.sl (by simp) (h.append hR) (by simp; omega)⟩
  simp only [papp]
  rw [if_pos ⟨trivial,by simp [room]; omega⟩]
def nums (st:List (Nat × Nat)):List Int:=st.map fun p=>(p.1:Int)
def lookd (st:List (Nat × Nat)):List Int:=st.map fun p=>(p.2:Int)
def opens (bs:List DBlock) (st:List (Nat × Nat)):List (Nat × List Int):=st.map fun p=>(p.1,(au bs p.1).drop p.2)
end Go.Ab
namespace Go.Ab.Q12
open Go Go.Ab Go.Proofs
section
variable {q:Option Bool} {b:TV} {f:DFunc} (hf:RFunc q [I f.params,I f.regs,b] f) (hs:f.blocks.length<=1000)
include hf hs
theorem AO:∀ (d:Nat) (M:List Bool) (st:List (Nat × Nat)) (o:List Int) (w3 w4 w5 w6:TV),work M (opens f.blocks st) < d->WOk f.blocks M (opens f.blocks st) o->(∀ p ∈ st,p.2<=(au f.blocks p.1).length)->RBools (some true) w3 M->RInts (some true) w4 (nums st).reverse->RInts (some true) w5 (lookd st).reverse->RInts (some true) w6 o ->
  ∃ y M' o',aa prog 25 (f25_1 (I f.params) (I f.regs) b w3 w4 w5 w6) y/\RInts (some true) y o'/\Dfs f.blocks M (opens f.blocks st) o M' o':=by
 intro d
 induction d with
 | zero=>intro M st o w3 w4 w5 w6 hd; omega
 | succ d ih =>
  intro M st o w3 w4 w5 w6 hd hw hkk h3 h4 h5 h6
  have hcap:=hw.cap
  match st,hd,hw,hkk,h4,h5,hcap with
  | [],hd,hw,hkk,h4,h5,hcap =>
   refine ⟨w6,M,o,?_,h6,.done⟩
   unfold f25_1
   exact aa.tv h4.len (aa.tv rfl (aa.ite (v:=false) (by simp [asBool,nums]) nofun fun _=>aa.ret))
  | (n, k) :: t, hd, hw, hkk, h4, h5, hcap =>
   have hol:t.length + o.length < 1000:=by simp [opens] at hcap; omega
   have hnb:=(hw.at_ (n,(au f.blocks n).drop k) (by simp [opens])).1
   have hkl:k<=(au f.blocks n).length:=hkk (n,k) Cy
   have hn3:=jU f.blocks n
   have hL4:(nums ((n,k) :: t)).reverse.length=t.length + 1:=by simp [nums]
   have hL5:(lookd ((n,k) :: t)).reverse.length=t.length + 1:=by simp [lookd]
   have hl4:(nums ((n,k) :: t)).reverse[t.length]? = some (n:Int):=by
    have:=qy (l:=nums t) (a:=(n:Int))
    simp [nums]
   have hl5:(lookd ((n,k) :: t)).reverse[t.length]? = some (k:Int):=by
    have:=qy (l:=lookd t) (a:=(k:Int))
    simp [lookd]
   obtain ⟨e4,he4,rfl,hni⟩:=h4.pel hl4
   obtain ⟨e5,he5,rfl,hki⟩:=h5.pel hl5
   have hnat:al (I (t.length:Nat))=some t.length:=bi (by omega)
   have hsub:pbin (.int .i64) .sub (I ((nums ((n,k) :: t)).reverse.length:Nat)) (I 1)=some (I (t.length:Nat)):=by
    have:=dec7 (n:=(nums ((n,k) :: t)).reverse.length) (by omega) (by omega)
    rw [this,hL4]; rfl
   have hchk4:(Bool.and (slSize w4 1) (Nat.blt t.length (nums ((n,k) :: t)).reverse.length))=true:=by rw [h4.slSize,hL4]; simp
   have hchk5:(Bool.and (slSize w5 1) (Nat.blt t.length (lookd ((n,k) :: t)).reverse.length))=true:=by rw [h5.slSize,hL5]; simp
   have hgtr:asBool (.lit (.bool (decide ((((nums ((n,k) :: t)).reverse.length:Nat):Int) > 0))))=some true:=by rw [hL4]; simp [asBool]
   obtain ⟨v,hv,hvr⟩:=r72 hf (n:Int)
   rw [gU] at hvr
   have front:∀ {r:TV},(k=(au f.blocks n).length->aa prog 25 (Prg.nat (slLen w4) fun n26=>Prg.nat (al (I (t.length:Nat))) fun n27=>Prg.chk (Bool.and (slSize w4 1) (Nat.blt n27 n26)) (Prg.tvs (pel w4 n27) fun e28=>Prg.chk (ah ei e28 0) (Prg.rws (pelems 1 w6) fun r29 =>
      Prg.tv (papp 1 (TV.sl true 1 (chunks 1 1 [nth TV.hole e28 0])) (ft r29)) fun v30=>Prg.nat (slLen w4) fun n31=>Prg.nat (al (I (t.length:Nat))) fun n32=>Prg.chk (Bool.and (Bool.and (slSize w4 1) (Nat.ble 0 (Option.getD (Option.some n32) n31))) (Nat.ble (Option.getD (Option.some n32) n31) n31)) (
      Prg.nat (slLen w5) fun n33=>Prg.nat (al (I (t.length:Nat))) fun n34=>Prg.chk (Bool.and (Bool.and (slSize w5 1) (Nat.ble 0 (Option.getD (Option.some n34) n33))) (Nat.ble (Option.getD (Option.some n34) n33) n33)) (
      Prg.tv (d7 0 ((Option.getD (Option.some n32) n31) - 0) w4) fun v35=>Prg.tv (d7 0 ((Option.getD (Option.some n34) n33) - 0) w5) fun v36=>Prg.jmp [0,0,0,1,1,1,1] (f25_1_S (I f.params) (I f.regs) b w3 v35 v36 v30)))))) r) ->
     (k < (au f.blocks n).length → aa prog 25 (Prg.nat (slLen w5) fun n37 => Prg.nat (al (I (t.length : Nat))) fun n38 => Prg.chk (Bool.and (slSize w5 1) (Nat.blt n38 n37)) (Prg.tvs (pel w5 n38) fun e39 => Prg.chk (ah ei e39 0) (Prg.nat (slLen v) fun n40 => Prg.nat (al (nth TV.hole e39 0)) fun n41 =>
      Prg.chk (Bool.and (slSize v 1) (Nat.blt n41 n40)) (Prg.tvs (pel v n41) fun e42=>Prg.chk (ah ei e42 0) (Prg.nat (slLen w5) fun n43=>Prg.nat (al (I (t.length:Nat))) fun n44=>Prg.chk (Bool.and (slSize w5 1) (Nat.blt n44 n43)) (Prg.tvs (pel w5 n44) fun e45=>Prg.chk (ah ei e45 0) (
      Prg.tv (pbin (Kd.int IntKind.i64) BinOp.add (nth TV.hole e45 0) (TV.lit (Value.int IntKind.i64 (1:Int)))) fun v46=>Prg.nat (slLen w5) fun n47=>Prg.nat (al (I (t.length:Nat))) fun n48=>Prg.chk (Bool.and (slSize w5 1) (Nat.blt n48 n47)) (Prg.tvs (pel w5 n48) fun e49=>Prg.chk (ah ei e49 0) (
      Prg.tv (gY [] w5 n48 0 [v46]) fun v50=>Prg.nat (slLen w3) fun n51=>Prg.nat (al (nth TV.hole e42 0)) fun n52=>Prg.chk (Bool.and (slSize w3 1) (Nat.blt n52 n51)) (Prg.tvs (pel w3 n52) fun e53=>Prg.chk (ah ck e53 0) (Prg.tv (pun UnOp.not (nth TV.hole e53 0)) fun v54 =>
      Prg.ite (asBool v54) (Prg.nat (slLen w3) fun n55=>Prg.nat (al (nth TV.hole e42 0)) fun n56=>Prg.chk (Bool.and (slSize w3 1) (Nat.blt n56 n55)) (Prg.tvs (pel w3 n56) fun e57=>Prg.chk (ah ck e57 0) (Prg.tv (gY [] w3 n56 0 [TV.lit (Value.bool true)]) fun v58 =>
       Prg.rws (pelems 1 (TV.sl true 1 (chunks 1 1 [nth TV.hole e42 0]))) fun r59=>Prg.tv (papp 1 w4 (ft r59)) fun v60=>Prg.rws (pelems 1 (TV.sl true 1 (chunks 1 1 [TV.lit (Value.int IntKind.i64 (0:Int))]))) fun r61=>Prg.tv (papp 1 v50 (ft r61)) fun v62 =>
       Prg.jmp [0,0,0,1,1,1,1] (f25_1_S (I f.params) (I f.regs) b v58 v60 v62 w6)))) (Prg.jmp [0,0,0,1,1,1,1] (f25_1_S (I f.params) (I f.regs) b w3 w4 v50 w6))))))))))))) r) ->
     aa prog 25 (f25_1 (I f.params) (I f.regs) b w3 w4 w5 w6) r:=fun {r} k0 k9=>by
    unfold f25_1
    refine aa.tv h4.len (aa.tv rfl (aa.ite (v:=true) hgtr (fun _=>?_) nofun))
    refine aa.tv h4.len (aa.tv hsub (aa.nat h4.slLen (aa.nat hnat (aa.chk hchk4 (aa.tvs he4 (aa.chk rfl (aa.call hv (aa.chk (bD hvr.isSl) ?_))))))))
    refine aa.nat h5.slLen (aa.nat hnat (aa.chk hchk5 (aa.tvs he5 (aa.chk rfl (aa.tv hvr.len (aa.tv rfl (aa.ite rfl (fun h=>k0 ?_) fun h=>k9 ?_)))))))
    ·have h:(k:Int)=((au f.blocks n).length:Int):=by simpa using h
     omega
    ·have h:¬ (k:Int)=((au f.blocks n).length:Int):=by simpa using h
     omega
   by_cases hkL:k=(au f.blocks n).length
   ·have hop:opens f.blocks ((n,k) :: t)=(n,[]) :: opens f.blocks t:=by simp [opens,hkL]
    rw [hop] at hd hw ⊢
    obtain ⟨xs,hxs,hF⟩:=h6.elems
    obtain ⟨y30,c1,c2⟩:=(RL.sl (by simp) (.cons ⟨rfl,hni⟩ .nil) (by simp):RInts (some true) (.sl true 1 [[I (n:Int)]]) [(n:Int)]).appL hF (.inr (by simp)) (by simp; omega)
    obtain ⟨w4',k3,k4⟩:=h4.win (k:=t.length) (by omega)
    obtain ⟨w5',k5,k6⟩:=h5.win (k:=t.length) (by omega)
    have e4:(nums ((n,k) :: t)).reverse.take t.length=(nums t).reverse:=by
     have:(nums ((n,k) :: t)).reverse=(nums t).reverse ++ [(n:Int)]:=by simp [nums]
     rw [this,List.take_append_of_le_length (by simp [nums]),List.take_of_length_le (by simp [nums])]
    have e5:(lookd ((n,k) :: t)).reverse.take t.length=(lookd t).reverse:=by
     have:(lookd ((n,k) :: t)).reverse=(lookd t).reverse ++ [(k:Int)]:=by simp [lookd]
     rw [this,List.take_append_of_le_length (by simp [lookd]),List.take_of_length_le (by simp [lookd])]
    rw [e4] at k4
    rw [e5] at k6
    obtain ⟨y,M',o',hy,hr,hD⟩:=ih M t ((n:Int) :: o) w3 w4' w5' y30 (by simp [work] at hd ⊢; omega) hw.leave (fun p hp=>hkk p (Cz _ hp)) h3 k4 k6 c2
    refine ⟨y,M',o',front (fun _=>?_) (fun h=>by omega),hr,.leave hD⟩
    refine aa.nat h4.slLen (aa.nat hnat (aa.chk hchk4 (aa.tvs he4 (aa.chk rfl (aa.rws hxs (aa.tv (v:=y30) (by rw [zc hF]; exact c1) ?_))))))
    refine aa.nat h4.slLen (aa.nat hnat (aa.chk ?_ (aa.nat h5.slLen (aa.nat hnat (aa.chk ?_ (aa.tv k3 (aa.tv k5 (f25_1_J hy))))))))
    ·rw [h4.slSize,hL4]; simp
    ·rw [h5.slSize,hL5]; simp
   ·have hklt:k < (au f.blocks n).length:=by omega
    obtain ⟨g,hgg⟩:∃ g,g=(au f.blocks n)[k]:=⟨_,rfl⟩
    have hgk:(au f.blocks n)[k]? = some g:=by rw [hgg]; exact Cr hklt
    have hdr:(au f.blocks n).drop k=g :: (au f.blocks n).drop (k + 1):=by rw [hgg]; exact List.drop_eq_getElem_cons hklt
    have hop:opens f.blocks ((n,k) :: t)=(n,g :: (au f.blocks n).drop (k + 1)) :: opens f.blocks t:=by simp only [opens,List.map_cons,hdr]
    have hop2:opens f.blocks ((n,k + 1) :: t)=(n,(au f.blocks n).drop (k + 1)) :: opens f.blocks t:=rfl
    rw [hop] at hd hw ⊢
    have hg:=df (CB hgk)
    obtain ⟨eg,heg,rfl,hgi⟩:=hvr.pel hgk
    have hMl:g.toNat < M.length:=by rw [hw.len]; exact hg.2
    have hMg:M[g.toNat]? = some M[g.toNat]:=Cr hMl
    obtain ⟨em,hem,hRm⟩:=h3.pel hMg
    cases hRm
    have hgn:al (I g)=some g.toNat:=lL hg.1 hgi
    have hkn:al (I (k:Nat))=some k:=bi (by omega)
    obtain ⟨w5',c1,c2⟩:=h5.kq he5 (d:=0) (ys:=[I ((k + 1:Nat):Int)]) (a:=((k + 1:Nat):Int)) ⟨rfl,by constructor <;> omega⟩
    have e5:(lookd ((n,k) :: t)).reverse.set t.length ((k + 1:Nat):Int)=(lookd ((n,k + 1) :: t)).reverse:=by
     have h1:(lookd ((n,k) :: t)).reverse=(lookd t).reverse ++ [(k:Int)]:=by simp [lookd]
     have h2:(lookd ((n,k + 1) :: t)).reverse=(lookd t).reverse ++ [((k + 1:Nat):Int)]:=by simp [lookd]
     have h3:(lookd t).reverse.length=t.length:=by simp [lookd]
     rw [h1,h2,List.set_append_right _ _ (by omega),h3]
     simp
    rw [e5] at c2
    have mid:∀ {r:TV},(M[g.toNat]=false->aa prog 25 (Prg.nat (slLen w3) fun n55=>Prg.nat (al (I g)) fun n56=>Prg.chk (Bool.and (slSize w3 1) (Nat.blt n56 n55)) (Prg.tvs (pel w3 n56) fun e57=>Prg.chk (ah ck e57 0) (Prg.tv (gY [] w3 n56 0 [TV.lit (Value.bool true)]) fun v58 =>
       Prg.rws (pelems 1 (TV.sl true 1 (chunks 1 1 [I g]))) fun r59=>Prg.tv (papp 1 w4 (ft r59)) fun v60=>Prg.rws (pelems 1 (TV.sl true 1 (chunks 1 1 [TV.lit (Value.int IntKind.i64 (0:Int))]))) fun r61=>Prg.tv (papp 1 w5' (ft r61)) fun v62 =>
       Prg.jmp [0,0,0,1,1,1,1] (f25_1_S (I f.params) (I f.regs) b v58 v60 v62 w6)))) r)->(M[g.toNat]=true->aa prog 25 (Prg.jmp [0,0,0,1,1,1,1] (f25_1_S (I f.params) (I f.regs) b w3 w4 w5' w6)) r) ->
      aa prog 25 (f25_1 (I f.params) (I f.regs) b w3 w4 w5 w6) r:=fun {r} m0 m9=>front (fun h=>absurd h hkL) fun _=>by
     refine aa.nat h5.slLen (aa.nat hnat (aa.chk hchk5 (aa.tvs he5 (aa.chk rfl (aa.nat hvr.slLen (aa.nat hkn (aa.chk ?_ (aa.tvs heg (aa.chk rfl ?_)))))))))
     ·rw [hvr.slSize]; simpa using hklt
     refine aa.nat h5.slLen (aa.nat hnat (aa.chk hchk5 (aa.tvs he5 (aa.chk rfl (aa.tv (inc hklt (by omega)) ?_)))))
     refine aa.nat h5.slLen (aa.nat hnat (aa.chk hchk5 (aa.tvs he5 (aa.chk rfl (aa.tv c1 ?_)))))
     refine aa.nat h3.slLen (aa.nat hgn (aa.chk ?_ (aa.tvs hem (aa.chk rfl (aa.tv rfl (aa.ite rfl (fun h=>m0 ?_) fun h=>m9 ?_))))))
     ·rw [h3.slSize]; simpa using hMl
     ·simpa using h
     ·simpa using h
    have hkk2:∀ p ∈ (n,k + 1) :: t,p.2<=(au f.blocks p.1).length:=fun p hp=>by
     rcases List.mem_cons.1 hp with rfl | hp
     ·exact hklt
     ·exact hkk p (Cz _ hp)
    cases hm:M[g.toNat] with
    | true =>
     obtain ⟨y,M',o',hy,hr,hD⟩:=ih M ((n,k + 1) :: t) o w3 w4 w5' w6 (by rw [hop2]; simp [work] at hd ⊢; omega) hw.skip hkk2 h3 h4 c2 h6
     exact ⟨y,M',o',mid (fun h=>by rw [hm] at h; cases h) (fun _=>f25_1_J hy),hr,.skip (by rw [hMg,hm]) hD⟩
    | false =>
     rw [hm] at hMg
     obtain ⟨w3',c3,c4⟩:=h3.kq hem (d:=0) (ys:=[B true]) (a:=true) rfl
     have hgc:((g.toNat:Nat):Int)=g:=by omega
     obtain ⟨w4',c5,c6⟩:=h4.app (e:=[I g]) (a:=g) ⟨rfl,hgi⟩ (by omega)
     obtain ⟨w5'',c7,c8⟩:=c2.app (e:=[I ((0:Nat):Int)]) (a:=((0:Nat):Int)) ⟨rfl,by constructor <;> omega⟩ (by simp [lookd]; omega)
     have hop3:opens f.blocks ((g.toNat,0) :: (n,k + 1) :: t)=(g.toNat,au f.blocks g.toNat) :: (n,(au f.blocks n).drop (k + 1)) :: opens f.blocks t:=rfl
     obtain ⟨y,M',o',hy,hr,hD⟩:=ih (M.set g.toNat true) ((g.toNat,0) :: (n,k + 1) :: t) o w3' w4' w5'' w6 (by
      rw [hop3]
      have h1:=count_set hMg
      have h2:=jU f.blocks g.toNat
      simp only [work,List.map_cons,List.sum_cons,List.length_cons] at hd ⊢
      omega) (hw.enter hMg) (fun p hp=>by
       rcases List.mem_cons.1 hp with rfl | hp
       ·exact Nat.zero_le _
       ·exact hkk2 p hp) c4 (by
       have:(nums ((g.toNat,0) :: (n,k + 1) :: t)).reverse=(nums ((n,k) :: t)).reverse ++ [g]:=by simp [nums,hgc]
       rw [this]; exact c6) (by
       have:(lookd ((g.toNat,0) :: (n,k + 1) :: t)).reverse=(lookd ((n,k + 1) :: t)).reverse ++ [((0:Nat):Int)]:=by simp [lookd]
       rw [this]; exact c8) h6
     refine ⟨y,M',o',mid (fun _=>?_) (fun h=>by rw [hm] at h; cases h),hr,.enter hMg hD⟩
     refine aa.nat h3.slLen (aa.nat hgn (aa.chk ?_ (aa.tvs hem (aa.chk rfl (aa.tv c3 (aa.rws rfl (aa.tv c5 (aa.rws rfl (aa.tv c7 (f25_1_J hy))))))))))
     rw [h3.slSize]; simpa using hMl
end
theorem r81 {q:Option Bool} {e:List TV} {f:DFunc} (he:RFunc q e f) (hs:f.blocks.length<=1000):∃ y o,bn prog 25 [.agg e] y/\RInts (some true) y o/\mA f.blocks o:=by
 have he0:=he
 obtain ⟨b,rfl,hb,_⟩:=he
 have hn:al (I (f.blocks.length:Nat))=some f.blocks.length:=bi (by omega)
 have hck:(Bool.and (Nat.ble f.blocks.length f.blocks.length) (Nat.ble f.blocks.length 4294967296))=true:=by
  have:Nat.ble f.blocks.length 4294967296=true:=by simp; omega
  simp [this]
 by_cases h0:f.blocks=[]
 ·have hl:f.blocks.length=0:=by rw [h0]; rfl
  refine ⟨.lit aJ,[],?_,.nil,.inl ⟨h0,rfl⟩⟩
  refine bn.of (f25_MR _) ?_
  unfold f25_M
  refine aa.chk rfl (aa.tv hb.len (aa.nat hn (aa.nat hn (aa.chk hck (aa.tv hb.len (aa.tv rfl (aa.ite (v:=false) (by simp [asBool,hl]) nofun fun _=>?_)))))))
  refine aa.chk rfl (aa.chk rfl (aa.chk rfl (f25_0_J ?_)))
  unfold f25_0
  refine f25_1_J ?_
  unfold f25_1
  exact aa.tv rfl (aa.tv rfl (aa.ite (v:=false) rfl nofun fun _=>aa.ret))
 ·have hl:0 < f.blocks.length:=List.length_pos_iff.2 h0
  have hrep:RBools (some true) (.sl true 1 (List.replicate f.blocks.length [B false])) (List.replicate f.blocks.length false):=.sl (by simp) (F2.xd (by simp) fun i e a he ha=>by
   rw [List.getElem?_replicate] at he ha
   split at he
   ·rename_i h; rw [if_pos h] at ha; cases he; cases ha; rfl
   ·cases he) (by simp; omega)
  obtain ⟨e7,he7,hR⟩:=hrep.pel (i:=0) (a:=false) (by rw [List.getElem?_replicate,if_pos hl])
  cases hR
  obtain ⟨w3,c1,c2⟩:=hrep.kq he7 (d:=0) (ys:=[B true]) (a:=true) rfl
  have hone:RInts (some true) (.sl true 1 [[I 0]]) [((0:Nat):Int)]:=.sl (by simp) (.cons ⟨rfl,by constructor <;> omega⟩ .nil) (by simp)
  have hw:WOk f.blocks ((List.replicate f.blocks.length false).set 0 true) (opens f.blocks [(0,0)]) []:=⟨by simp,fun p hp=>by
   have hp:p ∈ [((0:Nat),au f.blocks 0)]:=hp
   rw [List.mem_singleton] at hp
   subst hp
   exact ⟨hl,fun g hg=>df hg⟩,by rw [lj (by rw [List.getElem?_replicate,if_pos hl])]; simp [opens]⟩
  obtain ⟨y,M',o',hy,hr,hD⟩:=AO he0 hs _ _ [(0,0)] [] w3 (.sl true 1 [[I 0]]) (.sl true 1 [[I 0]]) (.lit aJ) (Nat.lt_succ_self _) hw (fun p hp=>by rw [List.mem_singleton] at hp; subst hp; exact Nat.zero_le _) c2 hone hone .nil
  refine ⟨y,o',?_,hr,.inr ⟨h0,M',hD⟩⟩
  refine bn.of (f25_MR _) ?_
  unfold f25_M
  refine aa.chk rfl (aa.tv hb.len (aa.nat hn (aa.nat hn (aa.chk hck (aa.tv hb.len (aa.tv rfl (aa.ite (v:=true) (by simp [asBool]; omega) (fun _=>?_) nofun)))))))
  refine aa.rws rfl (aa.tv rfl (aa.rws rfl (aa.tv rfl (aa.nat hrep.slLen (aa.nat (v:=0) rfl (aa.chk ?_ (aa.tvs he7 (aa.chk rfl (aa.tv c1 (aa.chk rfl (f25_0_J ?_)))))))))))
  ·rw [hrep.slSize]; simpa using hl
  unfold f25_0
  exact f25_1_J hy
end Go.Ab.Q12
end
section
set_option maxRecDepth 10000
namespace Go.Ab
inductive Rc (bs:List DBlock) (no:Int):Nat->Prop
 | start (h:no≠0) (h0:0 < bs.length):Rc bs no 0
 | next {i:Nat} {g:Int} (hi:Rc bs no i) (hg:g ∈ au bs i) (hn:g≠no):Rc bs no g.toNat
def lO (bs:List DBlock) (no:Int) (M:List Bool):Prop:=M.length=bs.length/\∀ i:Nat,M[i]? = some true ↔ Rc bs no i
theorem Rc.lt {bs:List DBlock} {no:Int} {i:Nat} (h:Rc bs no i):i < bs.length:=by
 cases h with
 | start _ h0=>exact h0
 | next _ hg _=>exact (df hg).2
def Ckd (bs:List DBlock) (no:Int) (M:List Bool) (k:Nat):Prop:=∀ i:Nat,i < k->M[i]? = some true->∀ g ∈ au bs i,g≠no->M[g.toNat]? = some true
def wG (bs:List DBlock) (no:Int) (M:List Bool):Prop:=∀ i:Nat,M[i]? = some true->Rc bs no i
theorem nD {bs:List DBlock} {no:Int} {M:List Bool} (hl:M.length=bs.length) (h1:wG bs no M) (h2:no≠0->0 < bs.length->M[0]? = some true) (h3:Ckd bs no M bs.length):lO bs no M:=by
 refine ⟨hl,fun i=>⟨h1 i,fun h=>?_⟩⟩
 induction h with
 | start h h0=>exact h2 h h0
 | next hi hg hn ih=>exact h3 _ hi.lt ih _ hg hn
theorem zO {bs:List DBlock} {no:Int} {M M':List Bool} (h:lO bs no M) (h':lO bs no M'):M=M':=by
 apply List.ext_getElem?
 intro i
 by_cases hi:i < bs.length
 ·have h1:M[i]? = some (M[i]'(by rw [h.1]; exact hi)):=Cr _
  have h2:M'[i]? = some (M'[i]'(by rw [h'.1]; exact hi)):=Cr _
  have e:M[i]? = some true ↔ M'[i]? = some true:=(h.2 i).trans (h'.2 i).symm
  rw [h1,h2] at e ⊢
  simp only [Cs] at e ⊢
  cases ha:M[i]'(by rw [h.1]; exact hi) <;> cases hb:M'[i]'(by rw [h'.1]; exact hi) <;> simp_all
 ·rw [CE (by rw [h.1]; omega),CE (by rw [h'.1]; omega)]
theorem ng {M:List Bool} {g i:Nat} (h:M[i]? = some true):(M.set g true)[i]? = some true:=by
 rw [List.getElem?_set]
 split
 ·rename_i e
  subst e
  have:=(Cq.1 h).1
  simp [this]
 ·exact h
theorem tJ {n:Nat} (h:n<=9223372036854775807):RBools (some true) (.sl true 1 (List.replicate n [B false])) (List.replicate n false):=.sl (by simp) (F2.xd (by simp) fun i e a he ha=>by
 rw [List.getElem?_replicate] at he ha
 split at he
 ·rename_i h; rw [if_pos h] at ha; cases he; cases ha; rfl
 ·cases he) (by simpa using h)
end Go.Ab
namespace Go.Ab.Q12
open Go Go.Ab Go.Proofs
theorem r82 {q q':Option Bool} {x y:TV} {l m:List Bool} (hx:RBools q x l) (hy:RBools q' y m):bn prog 21 [x,y] (B (tt (l=m))):=by
 refine bn.of (f21_MR _ _) ?_
 unfold f21_M
 refine aa.tv hx.len (aa.tv hy.len (aa.tv rfl (aa.ite rfl (fun h=>?_) fun h=>?_)))
 ·have h:¬ l=m:=by rintro rfl; simp at h
  exact Aw h
 ·have hlen:l.length=m.length:=by simp at h; omega
  refine f21_0_J ?_
  rw [kU (na hlen)]
  refine uR (g:=fun k=>f21_0 x y (I k)) ?_ ?_
  ·unfold f21_0
   refine aa.tv hx.len (aa.tv rfl (aa.ite dV nofun fun _=>aa.ret))
  ·intro k hk r h1 h2
   have hk':k < m.length:=by omega
   have ha:l[k]? = some l[k]:=Cr hk
   have hb:m[k]? = some m[k]:=Cr hk'
   obtain ⟨e,he,hr1⟩:=hx.idx (k:=.i64) ha
   obtain ⟨e',he',hr2⟩:=hy.idx (k:=.i64) hb
   cases hr1
   cases hr2
   unfold f21_0
   refine aa.tv hx.len (aa.tv rfl (aa.ite (cN hk) (fun _=>?_) nofun))
   refine aa.tvs he (aa.chk rfl (aa.tvs he' (aa.chk rfl (aa.tv rfl (aa.ite rfl (fun h=>?_) fun h=>?_)))))
   ·rw [h1 (by rw [ha,hb]; simpa using h)]; exact aa.ret
   ·refine aa.tv (inc hk hx.bnd) (f21_0_J (h2 ?_))
    rw [ha,hb]; simpa using h
section
variable {q:Option Bool} {b:TV} {f:DFunc} (hf:RFunc q [I f.params,I f.regs,b] f) (hs:f.blocks.length<=1000) {no:Int}
include hs
theorem withL {P:TV->Prop} {c0:Nat} {k:Nat} (hk:k < f.blocks.length) {w8:TV} (h8:RInts (some true) w8 (au f.blocks k))
  (K:∀ (u:Bool) (M:List Bool) (w:TV),RBools (some true) w M->M.length=f.blocks.length->wG f.blocks no M->M[0]? = some true->(u=false->Ckd f.blocks no M (k + 1))->(u=true->c0 < M.count true)->c0<=M.count true->∃ y,aa prog 46 (f46_1 (I no) (B u) (I (k + 1:Nat)) (I f.params) (I f.regs) b w) y/\P y) :
  ∀ (d j:Nat) (u:Bool) (M:List Bool) (w:TV),j + d=(au f.blocks k).length->RBools (some true) w M->M.length=f.blocks.length->wG f.blocks no M->M[0]? = some true ->
   (u=false->Ckd f.blocks no M k/\(M[k]? = some true->∀ (j':Nat) (g:Int),j' < j->(au f.blocks k)[j']? = some g->g≠no->M[g.toNat]? = some true))->(u=true->c0 < M.count true)->c0<=M.count true ->
   ∃ y,aa prog 46 (f46_2 (I no) (B u) (I k) (I j) (I f.params) (I f.regs) b w w8) y/\P y:=by
 intro d
 have hk64:k < 9223372036854775807:=by omega
 have hn3:=jU f.blocks k
 induction d with
 | zero =>
  intro j u M w hj hw hl hsn hst hc h1 h2
  have hj:j=(au f.blocks k).length:=by omega
  subst hj
  obtain ⟨y,hy,hP⟩:=K u M w hw hl hsn hst (fun hu i hi hMi g hg hgn=>by
   rcases Nat.lt_or_ge i k with h | h
   ·exact (hc hu).1 i h hMi g hg hgn
   ·have:i=k:=by omega
    subst this
    obtain ⟨j',hj',rfl⟩:=List.mem_iff_getElem.1 hg
    exact (hc hu).2 hMi j' _ hj' (Cr hj') hgn) h1 h2
  refine ⟨y,?_,hP⟩
  unfold f46_2
  exact aa.tv h8.len (aa.tv rfl (aa.ite dV nofun fun _=>aa.tv (inc hk (by omega)) (f46_1_J hy)))
 | succ d ih =>
  intro j u M w hj hw hl hsn hst hc h1 h2
  have hjl:j < (au f.blocks k).length:=by omega
  obtain ⟨g,hgg⟩:∃ g,g=(au f.blocks k)[j]:=⟨_,rfl⟩
  have hgk:(au f.blocks k)[j]? = some g:=by rw [hgg]; exact Cr hjl
  have hgm:=CB hgk
  have hgt:=df hgm
  obtain ⟨eg,heg,rfl,hgi⟩:=h8.pel hgk
  have hkM:M[k]? = some M[k]:=Cr (by omega)
  obtain ⟨ek,hek,hRk⟩:=hw.pel hkM
  cases hRk
  have hMl:g.toNat < M.length:=by omega
  have hMg:M[g.toNat]? = some M[g.toNat]:=Cr hMl
  obtain ⟨em,hem,hRm⟩:=hw.pel hMg
  cases hRm
  have ank:al (I (k:Nat))=some k:=bi (by omega)
  have anj:al (I (j:Nat))=some j:=bi (by omega)
  have hgn:al (I g)=some g.toNat:=lL hgt.1 hgi
  have ck1:(Bool.and (slSize w 1) (Nat.blt k M.length))=true:=by rw [hw.slSize]; simp; omega
  have ck2:(Bool.and (slSize w8 1) (Nat.blt j (au f.blocks k).length))=true:=by rw [h8.slSize]; simpa using hjl
  have ck3:(Bool.and (slSize w 1) (Nat.blt g.toNat M.length))=true:=by rw [hw.slSize]; simpa using hMl
  have rest:(u=false->M[k]? = some true->g≠no->M[g.toNat]? = some true)->∃ y,aa prog 46 (f46_2 (I no) (B u) (I k) (I (j + 1:Nat)) (I f.params) (I f.regs) b w w8) y/\P y:=fun hh=>by
   refine ih (j + 1) u M w (by omega) hw hl hsn hst (fun hu=>⟨(hc hu).1,fun hMk j' g' hj' hg' hn'=>?_⟩) h1 h2
   rcases Nat.lt_or_ge j' j with h | h
   ·exact (hc hu).2 hMk j' g' h hg' hn'
   ·have:j'=j:=by omega
    subst this
    rw [hgk] at hg'
    cases hg'
    exact hh hu hMk hn'
  cases hmk:M[k] with
  | false =>
   rw [hmk] at hek hkM
   obtain ⟨y,hy,hP⟩:=rest (fun _ h=>by rw [hkM] at h; cases h)
   refine ⟨y,?_,hP⟩
   unfold f46_2
   exact aa.tv h8.len (aa.tv rfl (aa.ite (cN hjl) (fun _=>aa.nat hw.slLen (aa.nat ank (aa.chk ck1 (aa.tvs hek (aa.chk rfl (aa.ite (v:=false) rfl nofun fun _=>aa.tv (inc hjl (by omega)) (f46_2_J hy))))))) nofun))
  | true =>
   rw [hmk] at hek hkM
   by_cases hno:g=no
   ·obtain ⟨y,hy,hP⟩:=rest (fun _ _ h=>absurd hno h)
    refine ⟨y,?_,hP⟩
    unfold f46_2
    refine aa.tv h8.len (aa.tv rfl (aa.ite (cN hjl) (fun _=>aa.nat hw.slLen (aa.nat ank (aa.chk ck1 (aa.tvs hek (aa.chk rfl (aa.ite (v:=true) rfl (fun _=>?_) nofun)))))) nofun))
    exact aa.nat h8.slLen (aa.nat anj (aa.chk ck2 (aa.tvs heg (aa.chk rfl (aa.tv rfl (aa.ite (v:=false) (by simp [asBool,hno]) nofun fun _=>aa.tv (inc hjl (by omega)) (f46_2_J hy)))))))
   ·have front:∀ {r:TV},(M[g.toNat]=false->aa prog 46 (Prg.nat (slLen w8) fun n29=>Prg.nat (al (I (j:Nat))) fun n30=>Prg.chk (Bool.and (slSize w8 1) (Nat.blt n30 n29)) (Prg.tvs (pel w8 n30) fun e31=>Prg.chk (ah ei e31 0) (Prg.nat (slLen w) fun n32=>Prg.nat (al (nth TV.hole e31 0)) fun n33 =>
       Prg.chk (Bool.and (slSize w 1) (Nat.blt n33 n32)) (Prg.tvs (pel w n33) fun e34=>Prg.chk (ah ck e34 0) (Prg.tv (gY [] w n33 0 [TV.lit (Value.bool true)]) fun v35=>Prg.tv (pbin (Kd.int IntKind.i64) BinOp.add (I (j:Nat)) (TV.lit (Value.int IntKind.i64 (1:Int)))) fun v36 =>
       Prg.jmp [0,0,1,1,0,0,1,0,0,1,1,0,1,0,0,1,0,1,1,1,1] (f46_2_S (I no) (TV.lit (Value.bool true)) (I k) v36 (I f.params) (I f.regs) b v35 w8)))))) r) ->
      (M[g.toNat]=true->aa prog 46 (Prg.tv (pbin (Kd.int IntKind.i64) BinOp.add (I (j:Nat)) (TV.lit (Value.int IntKind.i64 (1:Int)))) fun v37=>Prg.jmp [0,0,1,1,0,0,1,0,0,1,1,0,1,0,0,1,0,1,1,1,1] (f46_2_S (I no) (B u) (I k) v37 (I f.params) (I f.regs) b w w8)) r) ->
      aa prog 46 (f46_2 (I no) (B u) (I k) (I j) (I f.params) (I f.regs) b w w8) r:=fun {r} m0 m9=>by
     unfold f46_2
     refine aa.tv h8.len (aa.tv rfl (aa.ite (cN hjl) (fun _=>aa.nat hw.slLen (aa.nat ank (aa.chk ck1 (aa.tvs hek (aa.chk rfl (aa.ite (v:=true) rfl (fun _=>?_) nofun)))))) nofun))
     refine aa.nat h8.slLen (aa.nat anj (aa.chk ck2 (aa.tvs heg (aa.chk rfl (aa.tv rfl (aa.ite (v:=true) (by simp [asBool,hno]) (fun _=>?_) nofun))))))
     refine aa.nat h8.slLen (aa.nat anj (aa.chk ck2 (aa.tvs heg (aa.chk rfl (aa.nat hw.slLen (aa.nat hgn (aa.chk ck3 (aa.tvs hem (aa.chk rfl (aa.tv rfl (aa.ite rfl (fun h=>m0 ?_) fun h=>m9 ?_)))))))))))
     ·simpa using h
     ·simpa using h
    cases hmg:M[g.toNat] with
    | true =>
     rw [hmg] at hMg
     obtain ⟨y,hy,hP⟩:=rest (fun _ _ _=>hMg)
     exact ⟨y,front (fun h=>by rw [hmg] at h; cases h) (fun _=>aa.tv (inc hjl (by omega)) (f46_2_J hy)),hP⟩
    | false =>
     rw [hmg] at hMg
     obtain ⟨w',c1,c2⟩:=hw.kq hem (d:=0) (ys:=[B true]) (a:=true) rfl
     have hcnt:=lj hMg
     obtain ⟨y,hy,hP⟩:=ih (j + 1) true (M.set g.toNat true) w' (by omega) c2 (by rw [List.length_set]; exact hl) (fun i hi=>by
      rcases (gH hMl).1 hi with rfl | h
      ·exact .next (hsn k hkM) hgm hno
      ·exact hsn i h) (ng hst) (fun h=>by cases h) (fun _=>by omega) (by omega)
     refine ⟨y,front (fun _=>?_) (fun h=>by rw [hmg] at h; cases h),hP⟩
     exact aa.nat h8.slLen (aa.nat anj (aa.chk ck2 (aa.tvs heg (aa.chk rfl (aa.nat hw.slLen (aa.nat hgn (aa.chk ck3 (aa.tvs hem (aa.chk rfl (aa.tv c1 (aa.tv (inc hjl (by omega)) (f46_2_J hy))))))))))))
include hf
theorem withR {P:TV->Prop} {c0:Nat}
  (K:∀ (u:Bool) (M:List Bool) (w:TV),RBools (some true) w M->M.length=f.blocks.length->wG f.blocks no M->M[0]? = some true->(u=false->Ckd f.blocks no M f.blocks.length)->(u=true->c0 < M.count true)->c0<=M.count true->∃ y,aa prog 46 (f46_0 (I no) (B u) (I f.params) (I f.regs) b w) y/\P y) :
  ∀ (d k:Nat) (u:Bool) (M:List Bool) (w:TV),k + d=f.blocks.length->RBools (some true) w M->M.length=f.blocks.length->wG f.blocks no M->M[0]? = some true->(u=false->Ckd f.blocks no M k)->(u=true->c0 < M.count true)->c0<=M.count true ->
   ∃ y,aa prog 46 (f46_1 (I no) (B u) (I k) (I f.params) (I f.regs) b w) y/\P y:=by
 intro d
 induction d with
 | zero =>
  intro k u M w hk hw hl hsn hst hc h1 h2
  have hk:k=f.blocks.length:=by omega
  subst hk
  obtain ⟨y,hy,hP⟩:=K u M w hw hl hsn hst hc h1 h2
  refine ⟨y,?_,hP⟩
  unfold f46_1
  exact aa.tv hw.len (aa.tv rfl (aa.ite (v:=false) (by rw [hl]; exact dV) nofun fun _=>f46_0_J hy))
 | succ d ih =>
  intro k u M w hk hw hl hsn hst hc h1 h2
  have hkl:k < f.blocks.length:=by omega
  obtain ⟨v,hv,hvr⟩:=r72 hf (k:Int)
  rw [gU] at hvr
  obtain ⟨y,hy,hP⟩:=withL (b:=b) hs hkl hvr (fun u' M' w' a1 a2 a3 a4 a5 a6 a7=>ih (k + 1) u' M' w' (by omega) a1 a2 a3 a4 a5 a6 a7) (au f.blocks k).length 0 u M w (by omega) hw hl hsn hst (fun hu=>⟨hc hu,fun _ j' g h=>by omega⟩) h1 h2
  refine ⟨y,?_,hP⟩
  unfold f46_1
  exact aa.tv hw.len (aa.tv rfl (aa.ite (v:=true) (by rw [hl]; exact cN hkl) (fun _=>aa.call hv (aa.chk (bD hvr.isSl) (f46_2_J hy))) nofun))
theorem By:∀ (d:Nat) (M:List Bool) (w:TV),f.blocks.length < M.count true + d->RBools (some true) w M->M.length=f.blocks.length->wG f.blocks no M->M[0]? = some true ->
  ∃ y,aa prog 46 (f46_0 (I no) (B true) (I f.params) (I f.regs) b w) y/\∃ M,RBools (some true) y M/\lO f.blocks no M:=by
 intro d
 induction d with
 | zero =>
  intro M w hd hw hl
  have:=wb M
  omega
 | succ d ih =>
  intro M w hd hw hl hsn hst
  obtain ⟨y,hy,hP⟩:=withR hf hs (no:=no) (c0:=M.count true) (P:=fun y=>∃ M,RBools (some true) y M/\lO f.blocks no M) (fun u M' w' a1 a2 a3 a4 a5 a6 a7=>by
   cases u with
   | true=>exact ih M' w' (by have:=a6 rfl; omega) a1 a2 a3 a4
   | false =>
    refine ⟨w',?_,M',a1,nD a2 a3 (fun _ _=>a4) (a5 rfl)⟩
    unfold f46_0
    exact aa.ite (v:=false) rfl nofun fun _=>aa.ret) f.blocks.length 0 false M w (by omega) hw hl hsn hst (fun _ i h=>by omega) (fun h=>by cases h) (Nat.le_refl _)
  refine ⟨y,?_,hP⟩
  unfold f46_0
  exact aa.ite (v:=true) rfl (fun _=>f46_1_J hy) nofun
end
theorem r83 {q:Option Bool} {e:List TV} {f:DFunc} (he:RFunc q e f) (hs:f.blocks.length<=1000) (no:Int):∃ y M,bn prog 46 [.agg e,I no] y/\RBools (some true) y M/\lO f.blocks no M:=by
 have he0:=he
 obtain ⟨b,rfl,hb,_⟩:=he
 have hn:al (I (f.blocks.length:Nat))=some f.blocks.length:=bi (by omega)
 have hck:(Bool.and (Nat.ble f.blocks.length f.blocks.length) (Nat.ble f.blocks.length 4294967296))=true:=by
  have:Nat.ble f.blocks.length 4294967296=true:=by simp; omega
  simp [this]
 have hrep:=tJ (n:=f.blocks.length) (by omega)
 have none_:∀ i:Nat,¬ (List.replicate f.blocks.length false)[i]? = some true:=fun i h=>by
  rw [List.getElem?_replicate] at h
  split at h <;> cases h
 have hlen:=hrep.len (t:=4)
 rw [List.length_replicate] at hlen
 by_cases h0:f.blocks.length=0
 ·refine ⟨_,_,?_,hrep,nD (by simp) (fun i h=>absurd h (none_ i)) (fun _ h=>by omega) (fun i h=>by omega)⟩
  refine bn.of (f46_MR _ _) ?_
  unfold f46_M
  exact aa.chk rfl (aa.tv hb.len (aa.nat hn (aa.nat hn (aa.chk hck (aa.tv hlen (aa.tv rfl (aa.ite (v:=true) (by simp [asBool,h0]) (fun _=>aa.ret) nofun)))))))
 have h00:f.blocks≠[]:=fun h=>h0 (by rw [h]; rfl)
 by_cases h1:no=0
 ·refine ⟨_,_,?_,hrep,nD (by simp) (fun i h=>absurd h (none_ i)) (fun h _=>absurd h1 h) (fun i _ h=>absurd h (none_ i))⟩
  refine bn.of (f46_MR _ _) ?_
  unfold f46_M
  exact aa.chk rfl (aa.tv hb.len (aa.nat hn (aa.nat hn (aa.chk hck (aa.tv hlen (aa.tv rfl (aa.ite (v:=false) (by simp [asBool,h00]) nofun fun _=>aa.tv rfl (aa.ite (v:=true) (by simp [asBool,h1]) (fun _=>aa.ret) nofun))))))))
 have hl:0 < f.blocks.length:=by omega
 have hf0:(List.replicate f.blocks.length false)[0]? = some false:=by rw [List.getElem?_replicate,if_pos hl]
 obtain ⟨e7,he7,hR⟩:=hrep.pel hf0
 cases hR
 obtain ⟨w,c1,c2⟩:=hrep.kq he7 (d:=0) (ys:=[B true]) (a:=true) rfl
 have hlr:0 < (List.replicate f.blocks.length false).length:=by simpa using hl
 obtain ⟨y,hy,M,hM,hF⟩:=By he0 hs (no:=no) (f.blocks.length + 1) _ w (by omega) c2 (by simp) (fun i hi=>by
  rcases (gH hlr).1 hi with rfl | h
  ·exact .start h1 hl
  ·exact absurd h (none_ i)) ((gH hlr).2 (.inl rfl))
 refine ⟨y,M,?_,hM,hF⟩
 refine bn.of (f46_MR _ _) ?_
 unfold f46_M
 refine aa.chk rfl (aa.tv hb.len (aa.nat hn (aa.nat hn (aa.chk hck (aa.tv hlen (aa.tv rfl (aa.ite (v:=false) (by simp [asBool,h00]) nofun fun _=>aa.tv rfl (aa.ite (v:=false) (by simp [asBool,h1]) nofun fun _=>?_))))))))
 refine aa.nat hrep.slLen (aa.nat (v:=0) rfl (aa.chk ?_ (aa.tvs he7 (aa.chk rfl (aa.tv c1 (f46_0_J hy))))))
 rw [hrep.slSize]; simpa using hl
theorem r84 {q:Option Bool} {e:List TV} {f:DFunc} (he:RFunc q e f) (hs:f.blocks.length<=1000):∃ y M,bn prog 23 [.agg e] y/\RBools (some true) y M/\lO f.blocks (-1) M:=by
 obtain ⟨y,M,hy,hM,hF⟩:=r83 he hs (-1)
 obtain ⟨b,rfl,hb,_⟩:=he
 refine ⟨y,M,?_,hM,hF⟩
 refine bn.of (f23_MR _) ?_
 unfold f23_M
 exact aa.chk rfl (aa.call hy (aa.chk (bD hM.isSl) aa.ret))
end Go.Ab.Q12
end
section
set_option maxRecDepth 10000
namespace Go.Ab
def LedO (bs:List DBlock) (S:Nat->Prop) (o:List Int):Prop:=∀ (A:List Int) (x:Int) (B:List Int),o=A ++ x :: B->x=0\/∃ p:Nat,x ∈ au bs p/\((p:Int) ∈ A\/S p)
def Chain (bs:List DBlock):List (Nat × List Int)->Prop
 | []=>True
 | [p]=>p.1=0
 | p :: r :: l=>(p.1:Int) ∈ au bs r.1/\Chain bs (r :: l)
structure DI (bs:List DBlock) (M:List Bool) (st:List (Nat × List Int)) (o:List Int):Prop where
 len:M.length=bs.length
 at_:∀ p ∈ st,p.1 < bs.length/\∀ g ∈ p.2,g ∈ au bs p.1
 mem:∀ i:Nat,M[i]? = some true ↔ (∃ p ∈ st,p.1=i)\/(i:Int) ∈ o
 nod:(o ++ st.map fun p=>(p.1:Int)).Nodup
 out:∀ x ∈ o,0<=x/\∀ g ∈ au bs x.toNat,M[g.toNat]? = some true
 todo:∀ p ∈ st,∀ g ∈ au bs p.1,g ∈ p.2\/M[g.toNat]? = some true
 snd:wG bs (-1) M
 led:LedO bs (fun p=>∃ r ∈ st,r.1=p) o
 chain:Chain bs st
 last:st=[]->o.head? = some 0
theorem l5 {g:Int} (h:0<=g):((g.toNat:Nat):Int)=g:=by omega
theorem DI.leave {bs:List DBlock} {M:List Bool} {n:Nat} {st:List (Nat × List Int)} {o:List Int} (h:DI bs M ((n,[]) :: st) o):DI bs M st ((n:Int) :: o):=by
 refine ⟨h.len,fun p hp=>h.at_ p (Cz _ hp),fun i=>?_,?_,fun x hx=>?_,fun p hp=>h.todo p (Cz _ hp),h.snd,?_,?_,fun hst=>?_⟩
 ·rw [h.mem i]
  constructor
  ·rintro (⟨p,hp,rfl⟩ | hi)
   ·rcases List.mem_cons.1 hp with rfl | hp
    ·exact .inr Cy
    ·exact .inl ⟨p,hp,rfl⟩
   ·exact .inr (Cz _ hi)
  ·rintro (⟨p,hp,rfl⟩ | hi)
   ·exact .inl ⟨p,Cz _ hp,rfl⟩
   ·rcases List.mem_cons.1 hi with hi | hi
    ·exact .inl ⟨(n,[]),Cy,by omega⟩
    ·exact .inr hi
 ·have:=h.nod
  rw [List.map_cons] at this
  exact List.perm_middle.nodup_iff.1 this
 ·rcases List.mem_cons.1 hx with rfl | hx
  ·refine ⟨by omega,fun g hg=>?_⟩
   rcases h.todo (n,[]) Cy g hg with h1 | h1
   ·cases h1
   ·exact h1
  ·exact h.out x hx
 ·intro A x B e
  cases A with
  | nil =>
   simp only [List.nil_append,List.cons.injEq] at e
   obtain ⟨rfl,_⟩:=e
   cases st with
   | nil=>left; have:=h.chain; simp only [Chain] at this; omega
   | cons r l=>right; exact ⟨r.1,h.chain.1,.inr ⟨r,Cy,rfl⟩⟩
  | cons a A =>
   simp only [List.cons_append,List.cons.injEq] at e
   obtain ⟨rfl,e⟩:=e
   rcases h.led A x B e with h1 | ⟨p,h1,h2⟩
   ·exact .inl h1
   ·refine .inr ⟨p,h1,?_⟩
    rcases h2 with h2 | ⟨r,hr,rfl⟩
    ·exact .inl (Cz _ h2)
    ·rcases List.mem_cons.1 hr with rfl | hr
     ·exact .inl Cy
     ·exact .inr ⟨r,hr,rfl⟩
 ·have:=h.chain
  cases st with
  | nil=>trivial
  | cons r l=>exact this.2
 ·subst hst
  have:=h.chain
  simp only [Chain] at this
  subst this
  rfl
theorem DI.skip {bs:List DBlock} {M:List Bool} {n:Nat} {g:Int} {l:List Int} {st:List (Nat × List Int)} {o:List Int} (h:DI bs M ((n,g :: l) :: st) o) (hg:M[g.toNat]? = some true):DI bs M ((n,l) :: st) o:=by
 refine ⟨h.len,fun p hp=>?_,fun i=>?_,h.nod,h.out,fun p hp g' hg'=>?_,h.snd,fun A x B e=>?_,?_,fun hst=>(by cases hst)⟩
 ·rcases List.mem_cons.1 hp with rfl | hp
  ·exact ⟨(h.at_ _ Cy).1,fun g' hg'=>(h.at_ (n,g :: l) Cy).2 g' (Cz _ hg')⟩
  ·exact h.at_ p (Cz _ hp)
 ·rw [h.mem i]
  simp
 ·rcases List.mem_cons.1 hp with rfl | hp
  ·rcases h.todo (n,g :: l) Cy g' hg' with h1 | h1
   ·rcases List.mem_cons.1 h1 with rfl | h1
    ·exact .inr hg
    ·exact .inl h1
   ·exact .inr h1
  ·exact h.todo p (Cz _ hp) g' hg'
 ·rcases h.led A x B e with h1 | ⟨p,h1,h2⟩
  ·exact .inl h1
  ·refine .inr ⟨p,h1,h2.imp id ?_⟩
   rintro ⟨r,hr,rfl⟩
   rcases List.mem_cons.1 hr with rfl | hr
   ·exact ⟨(n,l),Cy,rfl⟩
   ·exact ⟨r,Cz _ hr,rfl⟩
 ·have:=h.chain
  cases st with
  | nil=>exact this
  | cons r l=>exact this
theorem DI.enter {bs:List DBlock} {M:List Bool} {n:Nat} {g:Int} {l:List Int} {st:List (Nat × List Int)} {o:List Int} (h:DI bs M ((n,g :: l) :: st) o) (hg:M[g.toNat]? = some false):DI bs (M.set g.toNat true) ((g.toNat,au bs g.toNat) :: (n,l) :: st) o:=by
 have hgm:=(h.at_ (n,g :: l) Cy).2 g Cy
 have hgt:=df hgm
 have hlt:=(Cq.1 hg).1
 have hgc:=l5 hgt.1
 have hnM:∀ i:Nat,M[i]? = some true->i≠g.toNat:=fun i hi e=>by rw [e,hg] at hi; cases hi
 refine ⟨by rw [List.length_set]; exact h.len,fun p hp=>?_,fun i=>?_,?_,fun x hx=>⟨(h.out x hx).1,fun g' hg'=>ng ((h.out x hx).2 g' hg')⟩,fun p hp g' hg'=>?_,fun i hi=>?_,fun A x B e=>?_,?_,fun hst=>(by cases hst)⟩
 ·rcases List.mem_cons.1 hp with rfl | hp
  ·exact ⟨hgt.2,fun g' hg'=>hg'⟩
  ·rcases List.mem_cons.1 hp with rfl | hp
   ·exact ⟨(h.at_ _ Cy).1,fun g' hg'=>(h.at_ (n,g :: l) Cy).2 g' (Cz _ hg')⟩
   ·exact h.at_ p (Cz _ hp)
 ·rw [gH hlt,h.mem i]
  simp only [List.mem_cons,exists_eq_or_imp]
  constructor
  ·rintro (rfl | h1)
   ·exact .inl (.inl rfl)
   ·rcases h1 with h1 | h1
    ·exact .inl (.inr h1)
    ·exact .inr h1
  ·rintro ((h1 | h1) | h1)
   ·exact .inl h1.symm
   ·exact .inr (.inl h1)
   ·exact .inr (.inr h1)
 ·have h1:=h.nod
  rw [List.map_cons] at h1 ⊢
  rw [List.perm_middle.nodup_iff,List.nodup_cons]
  refine ⟨fun hin=>?_,by rw [List.map_cons]; exact h1⟩
  have:M[g.toNat]? = some true:=by
   rw [h.mem]
   rcases List.mem_append.1 hin with hin | hin
   ·exact .inr hin
   ·obtain ⟨p,hp,he⟩:=List.mem_map.1 hin
    have he:p.1=g.toNat:=by omega
    rcases List.mem_cons.1 hp with rfl | hp
    ·exact .inl ⟨(n,g :: l),Cy,he⟩
    ·exact .inl ⟨p,Cz _ hp,he⟩
  rw [hg] at this
  cases this
 ·rcases List.mem_cons.1 hp with rfl | hp
  ·exact .inl hg'
  ·rcases List.mem_cons.1 hp with rfl | hp
   ·rcases h.todo (n,g :: l) Cy g' hg' with h1 | h1
    ·rcases List.mem_cons.1 h1 with rfl | h1
     ·exact .inr ((gH hlt).2 (.inl rfl))
     ·exact .inl h1
    ·exact .inr (ng h1)
   ·exact (h.todo p (Cz _ hp) g' hg').imp id ng
 ·rcases (gH hlt).1 hi with rfl | h1
  ·have hn:M[n]? = some true:=(h.mem n).2 (.inl ⟨(n,g :: l),Cy,rfl⟩)
   exact .next (h.snd n hn) hgm (by omega)
  ·exact h.snd i h1
 ·rcases h.led A x B e with h1 | ⟨p,h1,h2⟩
  ·exact .inl h1
  ·refine .inr ⟨p,h1,h2.imp id ?_⟩
   rintro ⟨r,hr,rfl⟩
   rcases List.mem_cons.1 hr with rfl | hr
   ·exact ⟨(n,l),Cz _ Cy,rfl⟩
   ·exact ⟨r,Cz _ (Cz _ hr),rfl⟩
 ·have:=h.chain
  refine ⟨by rw [hgc]; exact hgm,?_⟩
  cases st with
  | nil=>exact this
  | cons r l=>exact this
theorem Dfs.keeps {bs:List DBlock} {M M':List Bool} {st:List (Nat × List Int)} {o o':List Int} (h:Dfs bs M st o M' o'):DI bs M st o->DI bs M' [] o':=by
 induction h with
 | done=>exact fun h=>h
 | leave _ ih=>exact fun h=>ih h.leave
 | skip hg _ ih=>exact fun h=>ih (h.skip hg)
 | enter hg _ ih=>exact fun h=>ih (h.enter hg)
theorem DI.start {bs:List DBlock} (h:bs≠[]):DI bs ((List.replicate bs.length false).set 0 true) [(0,au bs 0)] []:=by
 have hl:0 < bs.length:=List.length_pos_iff.2 h
 have hlr:0 < (List.replicate bs.length false).length:=by simpa using hl
 have none_:∀ i:Nat,¬ (List.replicate bs.length false)[i]? = some true:=fun i h=>by
  rw [List.getElem?_replicate] at h
  split at h <;> cases h
 refine ⟨by simp,fun p hp=>?_,fun i=>?_,by simp,fun x hx=>(by cases hx),fun p hp g hg=>?_,fun i hi=>?_,fun A x B e=>(by simp at e),rfl,fun hst=>(by cases hst)⟩
 ·rw [List.mem_singleton] at hp
  subst hp
  exact ⟨hl,fun g hg=>hg⟩
 ·rw [gH hlr]
  simp only [List.mem_singleton,exists_eq_left,List.not_mem_nil,or_false]
  constructor
  ·rintro (rfl | h)
   ·rfl
   ·exact absurd h (none_ i)
  ·rintro rfl
   exact .inl rfl
 ·rw [List.mem_singleton] at hp
  subst hp
  exact .inl hg
 ·rcases (gH hlr).1 hi with rfl | h
  ·exact .start (by omega) hl
  ·exact absurd h (none_ i)
structure OI (bs:List DBlock) (o:List Int):Prop where
 mem:∀ i:Nat,(i:Int) ∈ o ↔ Rc bs (-1) i
 pos:∀ x ∈ o,0<=x/\x < (bs.length:Int)
 nod:o.Nodup
 led:∀ (A:List Int) (x:Int) (B:List Int),o=A ++ x :: B->x=0\/∃ p:Nat,x ∈ au bs p/\(p:Int) ∈ A
 first:bs≠[]->o.head? = some 0
theorem mA.keeps {bs:List DBlock} {o:List Int} (h:mA bs o):OI bs o:=by
 rcases h with ⟨rfl,rfl⟩ | ⟨h0,M',hD⟩
 ·refine ⟨fun i=>⟨fun h=>(by cases h),fun h=>absurd h.lt (by simp)⟩,fun x hx=>(by cases hx),List.nodup_nil,fun A x B e=>(by simp at e),fun h=>absurd rfl h⟩
 ·have h:=hD.keeps (DI.start h0)
  have hmem:∀ i:Nat,M'[i]? = some true ↔ (i:Int) ∈ o:=fun i=>by rw [h.mem i]; simp
  have hfull:lO bs (-1) M':=by
   have hhd:=h.last rfl
   have h0o:(0:Int) ∈ o:=by
    cases o with
    | nil=>cases hhd
    | cons a o=>simp only [List.head?_cons,Cs] at hhd; subst hhd; exact Cy
   refine nD h.len h.snd (fun _ _=>(hmem 0).2 h0o) (fun i _ hi g hg _=>?_)
   have:=(h.out i ((hmem i).1 hi)).2 g (by simpa using hg)
   exact this
  refine ⟨fun i=>by rw [<- hmem i]; exact hfull.2 i,fun x hx=>?_,by have:=h.nod; simpa using this,fun A x B e=>?_,fun _=>h.last rfl⟩
  ·have hx0:=(h.out x hx).1
   have:Rc bs (-1) x.toNat:=(hfull.2 _).1 ((hmem _).2 (by rw [l5 hx0]; exact hx))
   have:=this.lt
   omega
  ·rcases h.led A x B e with h1 | ⟨p,h1,h2⟩
   ·exact .inl h1
   ·refine .inr ⟨p,h1,?_⟩
    rcases h2 with h2 | ⟨r,hr,_⟩
    ·exact h2
    ·cases hr
end Go.Ab
namespace Go.Ab.Q12
open Go Go.Ab Go.Proofs
theorem r85 {q:Option Bool} {e:List TV} {f:DFunc} (he:RFunc q e f) (hs:f.blocks.length<=1000):∃ y M,bn prog 22 [.agg e] y/\RBools (some true) y M/\lO f.blocks (-1) M:=by
 obtain ⟨v,o,hv,hvr,hO⟩:=r80 he hs
 obtain ⟨b,rfl,hb,_⟩:=he
 have hI:=hO.keeps
 have hvb:=hvr.bnd
 have loop:∀ (d k:Nat) (M:List Bool) (w:TV),k + d=o.length->RBools (some true) w M->M.length=f.blocks.length->(∀ i:Nat,M[i]? = some true ↔ (i:Int) ∈ o.take k)->∃ y M,aa prog 22 (f22_0 (I o.length) (I k) w v) y/\RBools (some true) y M/\lO f.blocks (-1) M:=by
  intro d
  induction d with
  | zero =>
   intro k M w hk hw hl hm
   have hk:k=o.length:=by omega
   subst hk
   rw [List.take_length] at hm
   refine ⟨w,M,?_,hw,hl,fun i=>by rw [hm i]; exact hI.mem i⟩
   unfold f22_0
   exact aa.tv rfl (aa.ite dV nofun fun _=>aa.ret)
  | succ d ih =>
   intro k M w hk hw hl hm
   have hkl:k < o.length:=by omega
   obtain ⟨x,hxx⟩:∃ x,x=o[k]:=⟨_,rfl⟩
   have hox:o[k]? = some x:=by rw [hxx]; exact Cr hkl
   have hxo:=hI.pos x (CB hox)
   obtain ⟨e,he,rfl,hei⟩:=hvr.pel hox
   have hxl:x.toNat < M.length:=by omega
   obtain ⟨e2,he2,hR⟩:=hw.pel (Cr hxl)
   cases hR
   obtain ⟨w',c1,c2⟩:=hw.kq he2 (d:=0) (ys:=[B true]) (a:=true) rfl
   obtain ⟨y,M',hy,hr,hF⟩:=ih (k + 1) (M.set x.toNat true) w' (by omega) c2 (by rw [List.length_set]; exact hl) (fun i=>by
    rw [gH hxl,hm i,rH hox,List.mem_append,List.mem_singleton]
    constructor
    ·rintro (rfl | h)
     ·exact .inr (l5 hxo.1)
     ·exact .inl h
    ·rintro (h | h)
     ·exact .inr h
     ·exact .inl (by omega))
   refine ⟨y,M',?_,hr,hF⟩
   unfold f22_0
   refine aa.tv rfl (aa.ite (cN hkl) (fun _=>?_) nofun)
   refine aa.nat hvr.slLen (aa.nat (bi (by omega)) (aa.chk ?_ (aa.tvs he (aa.chk rfl (aa.nat hw.slLen (aa.nat (lL hxo.1 hei) (aa.chk ?_ (aa.tvs he2 (aa.chk rfl (aa.tv c1 (aa.tv (inc hkl hvb) (f22_0_J hy))))))))))))
   ·rw [hvr.slSize]; simpa using hkl
   ·rw [hw.slSize]; simpa using hxl
 obtain ⟨y,M,hy,hr,hF⟩:=loop o.length 0 _ _ (by omega) (tJ (n:=f.blocks.length) (by omega)) (by simp) (fun i=>by
  rw [List.getElem?_replicate]
  simp)
 refine ⟨y,M,?_,hr,hF⟩
 have hn:al (I (f.blocks.length:Nat))=some f.blocks.length:=bi (by omega)
 refine bn.of (f22_MR _) ?_
 unfold f22_M
 refine aa.chk rfl (aa.tv hb.len (aa.nat hn (aa.nat hn (aa.chk ?_ (aa.call hv (aa.chk (bD hvr.isSl) (aa.tv hvr.len (f22_0_J hy))))))))
 have:Nat.ble f.blocks.length 4294967296=true:=by simp; omega
 simp [this]
end Go.Ab.Q12
end
section
set_option maxRecDepth 100000
namespace Go.Ab.Q12
open Go Go.Ab Go.Proofs
theorem Br:bn prog 15 [] (B true):=⟨40,by kernel_rfl⟩
end Go.Ab.Q12
end
section
set_option maxRecDepth 10000
namespace Go.Ab.Q12
open Go Go.Ab Go.Proofs
theorem oM {x y:TV} {l:List Int} (hx:RInts (some true) x l) (hy:RInts (some true) y l):bn prog 16 [frz x,frz y] (B true):=by
 have:=r14 (hx.frz fun _ _ h=>h.frz) (hy.frz fun _ _ h=>h.frz)
 rwa [um rfl] at this
theorem wx {x y:TV} {l:List Bool} (hx:RBools (some true) x l) (hy:RBools (some true) y l):bn prog 21 [frz x,frz y] (B true):=by
 have:=r82 (hx.frz fun _ _ h=>h.frz) (hy.frz fun _ _ h=>h.frz)
 rwa [um rfl] at this
theorem rFlowRight {q:Option Bool} {e:List TV} {f:DFunc} (he:RFunc q e f) (n:Int):bn prog 3 [.agg e,I n] (B true):=by
 have he0:=he
 obtain ⟨b,rfl,hb,_⟩:=he
 refine bn.of (f3_MR _ _) ?_
 unfold f3_M
 refine aa.chk rfl (aa.call Br (aa.chk rfl (aa.tv rfl (aa.ite (v:=false) rfl nofun fun _=>aa.tv hb.len (aa.tv rfl (aa.ite rfl (fun _=>aa.ret) fun h=>?_))))))
 have hs:f.blocks.length<=70:=by
  have:¬ (f.blocks.length:Int) > 70:=by simpa using h
  omega
 obtain ⟨y4,h4,k4⟩:=r71 he0 n
 obtain ⟨y5,h5,k5⟩:=r72 he0 n
 obtain ⟨y7,h7,k7⟩:=r76 he0 (by omega) n
 obtain ⟨y8,h8,k8⟩:=r77 he0 (by omega) n
 obtain ⟨y10,M,h10,k10,F10⟩:=r85 he0 (by omega)
 obtain ⟨y11,M',h11,k11,F11⟩:=r84 he0 (by omega)
 obtain ⟨y13,o,h13,k13,O13⟩:=r80 he0 (by omega)
 obtain ⟨y14,o',h14,k14,O14⟩:=r81 he0 (by omega)
 have:=zO F10 F11
 subst this
 have:=O13.det O14
 subst this
 refine aa.call h4 (aa.chk (bD k4.isSl) (aa.call h5 (aa.chk (bD k5.isSl) (aa.call (oM k4 k5) (aa.chk rfl (aa.ite (v:=true) rfl (fun _=>?_) nofun))))))
 refine aa.call h7 (aa.chk (bD k7.isSl) (aa.call h8 (aa.chk (bD k8.isSl) (aa.call (oM k7 k8) (aa.chk rfl (aa.ite (v:=true) rfl (fun _=>?_) nofun))))))
 refine aa.call h10 (aa.chk (bD k10.isSl) (aa.call h11 (aa.chk (bD k11.isSl) (aa.call (wx k10 k11) (aa.chk rfl (aa.ite (v:=true) rfl (fun _=>?_) nofun))))))
 exact aa.call h13 (aa.chk (bD k13.isSl) (aa.call h14 (aa.chk (bD k14.isSl) (aa.call (oM k13 k14) (aa.chk rfl aa.ret)))))
end Go.Ab.Q12
end
section
namespace Go.Ab
open Go.RowKit
theorem aI {α:Type} (d:α):∀ (l:List α) (n:Nat),nth d l n=(l[n]?).getD d
 | [],n=>by simp [nth]
 | a :: l,0=>rfl
 | a :: l,n + 1=>by simp [nth,aI d l n]
theorem ag {α:Type}:∀ (l:List α) (n:Nat) (b:α),am l n b=l.set n b
 | [],n,b=>by simp [am]
 | a :: l,0,b=>rfl
 | a :: l,n + 1,b=>by simp [am,ag l n b]
theorem bE {α:Type} {d:α} {l:List α} {n:Nat} {a:α} (h:l[n]? = some a):nth d l n=a:=by rw [aI,h]; rfl
theorem ao (a b:Nat):a.beq b=true ↔ a=b:=⟨Nat.eq_of_beq_eq_true,fun h=>h ▸ Nat.beq_refl a⟩
theorem bO (n:Nat):∀ l:List Nat,bz n l=true ↔ n ∈ l
 | []=>by simp [bz]
 | a :: l => by
  cases h:a.beq n
  ·have:a≠n:=fun e=>by simp [e] at h
   simp only [bz,h,cond_false,bO n l,List.mem_cons]
   constructor
   ·exact .inr
   ·rintro (e | e)
    ·exact absurd e.symm this
    ·exact e
  ·simp only [bz,h,cond_true,List.mem_cons,true_iff]
   exact .inl ((ao a n).1 h).symm
theorem dX (a:Addr) (k:Nat):(a.add k).block=a.block:=by unfold Addr.add; split <;> rfl
theorem AI {a:Addr} (h:a.spot=none) (k:Nat):(a.add k).spot=none:=by unfold Addr.add; split <;> simp [h]
theorem ep (a:Addr) (i j:Nat):(a.add i).add j=a.add (i + j):=by
 unfold Addr.add
 by_cases hi:i=0 <;> by_cases hj:j=0 <;> simp [hi,hj,Nat.add_assoc]
theorem dD (b o k:Nat):(⟨b,o,none⟩:Addr).add k=⟨b,o + k,none⟩:=by unfold Addr.add; split <;> simp_all
def spl {α:Type} (l:List α) (o:Nat) (ys:List α):List α:=l.take o ++ ys ++ l.drop (o + ys.length)
theorem er {α:Type} {l ys:List α} {o:Nat} (h:o + ys.length<=l.length):(spl l o ys).length=l.length:=by
 simp only [spl,List.length_append,List.length_take,List.length_drop]
 omega
theorem bq {α:Type} {l ys:List α} {o:Nat} (h:o + ys.length<=l.length) (k:Nat):(spl l o ys)[k]? = if o<=k/\k < o + ys.length then ys[k - o]? else l[k]? := by
 have e1:(l.take o).length=o:=by simp; omega
 unfold spl
 by_cases h1:k < o
 ·rw [List.append_assoc,CC (by omega),List.getElem?_take,if_pos h1,if_neg (by omega)]
 ·by_cases h2:k < o + ys.length
  ·rw [List.append_assoc,CD (by omega),e1,CC (by omega),if_pos (by omega)]
  ·rw [CD (by simp; omega),List.getElem?_drop,if_neg (by omega)]
   congr 1
   simp
   omega
theorem eQ {α:Type}:∀ (ps l:List α) (off:Nat),off + ps.length<=l.length->bM l off ps=spl l off ps
 | [],l,off,h=>by simp [bM,spl]
 | p :: ps, l, off, h => by
  have hlt:off < l.length:=by simp at h; omega
  simp only [bM]
  rw [ag,eQ ps (l.set off p) (off + 1) (by simp at h ⊢; omega)]
  apply List.ext_getElem?
  intro k
  rw [bq (by simp at h ⊢; omega),bq h]
  simp only [List.length_cons,List.getElem?_set]
  by_cases h1:k < off
  ·rw [if_neg (by omega),if_neg (by omega),if_neg (by omega)]
  ·by_cases h2:k=off
   ·subst h2
    rw [if_neg (by omega),if_pos (by omega)]
    simp [hlt]
   ·by_cases h3:k < off + (ps.length + 1)
    ·rw [if_pos (by omega),if_pos (by omega)]
     rw [show k - off=(k - (off + 1)) + 1 by omega,List.getElem?_cons_succ]
    ·rw [if_neg (by omega),if_neg (by omega),if_neg (by omega)]
theorem eG {α:Type}:∀ (l:List α) (o n:Nat) (r:List α),kg l o n=some r->r.length=n/\(n=0\/o + n<=l.length)/\∀ j,j < n->r[j]? = l[o + j]?
 | l,o,0,r,h=>by cases l <;> simp [kg] at h <;> subst h <;> simp
 | [],o,n + 1,r,h=>by simp [kg] at h
 | a :: l, 0, n + 1, r, h => by
  simp only [kg] at h
  cases h1:kg l 0 n with
  | none=>simp [h1] at h
  | some r' =>
   simp only [h1,Cs] at h
   subst h
   obtain ⟨i1,i2,i3⟩:=eG l 0 n r' h1
   refine ⟨by simp [i1],.inr (by simp; omega),fun j hj=>?_⟩
   cases j with
   | zero=>simp
   | succ j=>simpa using i3 j (by omega)
 | a :: l,o + 1,n + 1,r,h=>by
  simp only [kg] at h
  obtain ⟨i1,i2,i3⟩:=eG l o (n + 1) r h
  refine ⟨i1,.inr (by rcases i2 with i2 | i2 <;> simp <;> omega),fun j hj=>?_⟩
  rw [i3 j hj,show o + 1 + j=(o + j) + 1 by omega,List.getElem?_cons_succ]
theorem bF {α:Type} {s:Nat}:∀ {xs:List (List α)},(∀ x ∈ xs,x.length=s)->xs.flatten.length=xs.length * s
 | [],_=>by simp
 | x :: xs,h=>by
  simp only [List.flatten_cons,List.length_append,List.length_cons,h x Cy,bF (fun y hy=>h y (Cz _ hy)),Nat.add_mul]
  omega
theorem cI {α:Type} {s:Nat}:∀ {xs:List (List α)} {i j:Nat} {x:List α} {c:α},(∀ x ∈ xs,x.length=s)->xs[i]? = some x->x[j]? = some c->xs.flatten[i * s + j]? = some c
 | x :: xs,0,j,_,c,h,hi,hj=>by
  simp at hi
  subst hi
  rw [List.flatten_cons,CC (by simp; exact (Cq.1 hj).1)]
  simpa using hj
 | x :: xs,i + 1,j,y,c,h,hi,hj=>by
  simp at hi
  have hx:=h x Cy
  rw [List.flatten_cons,CD (by rw [hx,Nat.add_mul]; omega),hx,show (i + 1) * s + j - s=i * s + j by rw [Nat.add_mul]; omega]
  exact cI (fun z hz=>h z (Cz _ hz)) hi hj
theorem take_add {α:Type} {x l:List α} {s n:Nat} (h:x.length=s):(x ++ l).take (s + n)=x ++ l.take n:=by
 subst h
 exact List.take_length_add_append n
theorem uO {α:Type} {x l:List α} {s n:Nat} (h:x.length=s):(x ++ l).drop (s + n)=l.drop n:=by
 subst h
 exact List.drop_length_add_append n
theorem oh (n s:Nat):(n + 1) * s=s + n * s:=by rw [Nat.add_mul]; omega
theorem lC {α:Type} {s:Nat}:∀ {xs:List (List α)} (n:Nat),(∀ x ∈ xs,x.length=s)->(xs.take n).flatten=xs.flatten.take (n * s)
 | [],n,_=>by simp
 | x :: xs,0,_=>by simp
 | x :: xs,n + 1,h=>by
  have hx:=h x Cy
  rw [List.take_succ_cons,List.flatten_cons,List.flatten_cons,lC n (fun z hz=>h z (Cz _ hz)),oh,take_add hx]
theorem lw {α:Type} {s:Nat}:∀ {xs:List (List α)} (n:Nat),(∀ x ∈ xs,x.length=s)->(xs.drop n).flatten=xs.flatten.drop (n * s)
 | [],n,_=>by simp
 | x :: xs,0,_=>by simp
 | x :: xs,n + 1,h=>by
  have hx:=h x Cy
  rw [List.drop_succ_cons,List.flatten_cons,lw n (fun z hz=>h z (Cz _ hz)),oh,uO hx]
theorem vG {α:Type} {s:Nat}:∀ {xs:List (List α)} {i:Nat} {x y:List α},(∀ x ∈ xs,x.length=s)->xs[i]? = some x->y.length=s->(xs.set i y).flatten=spl xs.flatten (i * s) y
 | x :: xs,0,_,y,h,hi,hy=>by
  simp at hi
  subst hi
  have hx:=h x Cy
  simp only [List.set_cons_zero,List.flatten_cons,Nat.zero_mul,spl,List.take_zero,List.nil_append,Nat.zero_add,hy,List.drop_append,hx,Nat.sub_self,List.drop_zero]
  rw [List.drop_of_length_le (by omega),List.nil_append]
 | x :: xs,i + 1,z,y,h,hi,hy=>by
  simp at hi
  have hx:=h x Cy
  have ih:=vG (fun z hz=>h z (Cz _ hz)) hi hy
  simp only [List.set_cons_succ,List.flatten_cons,ih,spl,oh,take_add hx,hy]
  rw [show s + i * s + s=s + (i * s + s) by omega,uO hx]
  simp only [List.append_assoc]
theorem xv {α:Type} {s:Nat} {xs:List (List α)} {i:Nat} {y:List α} (h:∀ x ∈ xs,x.length=s) (hy:y.length=s):∀ x ∈ xs.set i y,x.length=s:=by
 intro x hx
 rcases List.mem_or_eq_of_mem_set hx with h' | h'
 ·exact h x h'
 ·rw [h']; exact hy
theorem vA {α:Type} {s:Nat} {xs:List (List α)} {i j:Nat} {x ys:List α} (h:∀ x ∈ xs,x.length=s) (hi:xs[i]? = some x) (hj:j + ys.length<=x.length) :
  (xs.set i (spl x j ys)).flatten=spl xs.flatten (i * s + j) ys/\i * s + j + ys.length<=xs.flatten.length:=by
 have hx:=h x (CB hi)
 have hlt:i < xs.length:=(Cq.1 hi).1
 have hle:i * s + s<=xs.flatten.length:=by
  rw [bF h]
  have:=Nat.mul_le_mul_right s (Nat.succ_le_of_lt hlt)
  rw [Nat.succ_mul] at this
  exact this
 refine ⟨?_,by omega⟩
 rw [vG h hi (by rw [er hj,hx])]
 apply List.ext_getElem?
 intro k
 rw [bq (l:=xs.flatten) (ys:=spl x j ys) (by rw [er hj]; omega),bq (l:=xs.flatten) (ys:=ys) (by omega),er hj,hx]
 by_cases h1:i * s<=k/\k < i * s + s
 ·rw [if_pos h1,bq hj]
  by_cases h2:j<=k - i * s/\k - i * s < j + ys.length
  ·rw [if_pos h2,if_pos (by omega)]
   congr 1
   omega
  ·rw [if_neg h2,if_neg (by omega)]
   have hk:k - i * s < x.length:=by omega
   have:=cI h hi (Cr hk)
   rw [show i * s + (k - i * s)=k by omega] at this
   rw [this,Cr hk]
 ·rw [if_neg h1,if_neg (by omega)]
inductive Rep (w:World) (I:Nat->Prop):TV->Value->Prop
 | lit (v:Value):Rep w I (.lit v) v
 | hole (v:Value):Rep w I .hole v
 | buf {s:ByteArray} (e:TypeId) (h:s.size=0):Rep w I (.buf s e) aJ
 | sl {size : Nat} {xs : List (List TV)} {a : Addr} {cap : Nat} (cell : Nat → Value) (hI : 0 < xs.length → I a.block) (hc : xs.length ≤ cap) (hm : cap ≤ maxLen)
   (hl:∀ x ∈ xs,x.length=size) (hcell:∀ k,k < xs.length * size->w.cell? (a.add k)=some (cell k)) (h1:∀ k,k < xs.length * size->(cell k).oneCell'=true)
   (hr:∀ (i:Nat) (x:List TV),xs[i]? = some x->∀ (j:Nat) (c:TV),x[j]? = some c->Rep w I c (cell (i * size + j))):Rep w I (.sl false size xs) (.slice (some a) xs.length cap)
 | agg {cs : List TV} {vs : Array Value} (hl : vs.size = cs.length) (h1 : ∀ j, j < vs.size → (vs.getD j undef).oneCell' = true)
   (hr:∀ (j:Nat) (c:TV),cs[j]? = some c->Rep w I c (vs.getD j undef)):Rep w I (.agg cs) (.agg vs)
 | tup {cs:List TV} {vs:Array Value} (hl:vs.size=cs.length) (hr:∀ (j:Nat) (c:TV),cs[j]? = some c->Rep w I c (vs.getD j undef)):Rep w I (.tup cs) (.tuple vs)
theorem Rep.mv {w w':World} {I I':Nat->Prop} (hh:∀ b,I b->w'.heap[b]? = w.heap[b]?) (hI:∀ b,I b->I' b) {x:TV} {v:Value} (h:Rep w I x v):Rep w' I' x v:=by
 induction h with
 | lit v=>exact .lit v
 | hole v=>exact .hole v
 | buf e h=>exact .buf e h
 | sl cell i c m l hcell h1 _ ih =>
  exact .sl cell (fun h=>hI _ (i h)) c m l (fun k hk=>by rw [<- hcell k hk]; exact World.cell?_of_block (by rw [dX]; exact hh _ (i (Nat.pos_of_ne_zero (fun e=>by simp [e] at hk))))) h1 ih
 | agg hl h1 _ ih=>exact .agg hl h1 ih
 | tup hl _ ih=>exact .tup hl ih
structure Row (w:World) (a:Addr) (n cap size:Nat) (us:List Value) (vs:Array Value) (ty:TypeId):Prop where
 heap:w.heap[a.block]? = some (.cells vs ty (0,0))
 spot:a.spot=none
 le:n<=cap
 max:cap<=maxLen
 fit:a.off + cap * size<=vs.size
 len:us.length=n * size
 cells:∀ k,k < n * size->vs[a.off + k]? = us[k]?
 one:∀ u ∈ us,u.oneCell'=true
theorem Row.cell {w:World} {a:Addr} {n cap size:Nat} {us:List Value} {vs:Array Value} {ty:TypeId} (h:Row w a n cap size us vs ty) {k:Nat} {u:Value} (hk:us[k]? = some u):w.cell? (a.add k)=some u:=by
 have hlt:k < n * size:=by rw [<- h.len]; exact (Cq.1 hk).1
 have:a.add k=⟨a.block,a.off + k,none⟩:=by
  have:=h.spot
  obtain ⟨b,o,sp⟩:=a
  simp at this
  subst this
  exact dD b o k
 rw [this]
 simp only [World.cell?,h.heap]
 simp only [Option.isSome_none,Bool.false_eq_true,if_false]
 rw [h.cells k hlt,hk]
inductive aj (w:World) (I:Nat->Prop):TV->Value->(Nat->Prop)->Prop
 | fr {x:TV} {v:Value} {S:Nat->Prop} (h:Rep w I x v):aj w I x v S
 | sl {size : Nat} {xs : List (List TV)} {a : Addr} {cap : Nat} {S : Nat → Prop} (us : List Value) (vs : Array Value) (ty : TypeId) (F : Nat → Nat → Prop) (hS : S a.block)
   (row:Row w a xs.length cap size us vs ty) (hl:∀ x ∈ xs,x.length=size) (hr:∀ (k:Nat) (c:TV),xs.flatten[k]? = some c->aj w I c (us.getD k undef) (F k))
   (hF:∀ k b,F k b->S b/\b≠a.block) (hd:∀ k k' b,F k b->F k' b->k=k'):aj w I (.sl true size xs) (.slice (some a) xs.length cap) S
 | agg {cs : List TV} {vs : Array Value} {S : Nat → Prop} (F : Nat → Nat → Prop) (hl : vs.size = cs.length) (h1 : ∀ j, j < vs.size → (vs.getD j undef).oneCell' = true)
   (hr:∀ (j:Nat) (c:TV),cs[j]? = some c->aj w I c (vs.getD j undef) (F j)) (hF:∀ j b,F j b->S b) (hd:∀ k k' b,F k b->F k' b->k=k'):aj w I (.agg cs) (.agg vs) S
 | buf {s:ByteArray} {e:TypeId} {v:Value} {S:Nat->Prop} (h:w.ownsRowF 0 e 1 v s.size (Lib.strCells s)) (hS:∀ b,v.ownBlock=some b->S b):aj w I (.buf s e) v S
 | tup {cs : List TV} {vs : Array Value} {S : Nat → Prop} (F : Nat → Nat → Prop) (hl : vs.size = cs.length)
   (hr:∀ (j:Nat) (c:TV),cs[j]? = some c->aj w I c (vs.getD j undef) (F j)) (hF:∀ j b,F j b->S b) (hd:∀ k k' b,F k b->F k' b->k=k'):aj w I (.tup cs) (.tuple vs) S
theorem _root_.Go.World.ownsRowF.moved {w w':World} {base:Nat} {e:TypeId} {size:Nat} {v:Value} {n:Nat} {xs:List Value} (h:w.ownsRowF base e size v n xs) (hh:∀ b,v.ownBlock=some b->w'.heap[b]? = w.heap[b]?):w'.ownsRowF base e size v n xs:=by
 refine ⟨h.1,?_⟩
 rcases h.2 with hn | ⟨g,cap,cur,fz,rfl,hb,hgg,rest⟩
 ·exact .inl hn
 ·exact .inr ⟨g,cap,cur,fz,rfl,hb,by rw [hh g rfl]; exact hgg,rest⟩
theorem aj.mv {w w':World} {I I':Nat->Prop} (hI:∀ b,I b->w'.heap[b]? = w.heap[b]?) (hs:∀ b,I b->I' b) {x:TV} {v:Value} {S:Nat->Prop} (h:aj w I x v S) :
  ∀ {S':Nat->Prop},(∀ b,S b->w'.heap[b]? = w.heap[b]?)->(∀ b,S b->S' b)->aj w' I' x v S':=by
 induction h with
 | fr h=>intro S' _ _; exact .fr (h.mv hI hs)
 | @sl size xs a cap S us vs ty F hS row hl hr hF hd ih =>
  intro S' hh hSS
  exact .sl us vs ty F (hSS _ hS) ⟨by rw [hh _ hS]; exact row.heap,row.spot,row.le,row.max,row.fit,row.len,row.cells,row.one⟩ hl (fun k c hk=>ih k c hk (fun b hb=>hh b (hF k b hb).1) (fun b hb=>hb))
   (fun k b hb=>⟨hSS b (hF k b hb).1,(hF k b hb).2⟩) hd
 | @buf s e v S h hS =>
  intro S' hh hSS
  exact .buf (h.moved (fun b hb=>hh b (hS b hb))) (fun b hb=>hSS b (hS b hb))
 | @agg cs vs S F hl h1 hr hF hd ih =>
  intro S' hh hSS
  exact .agg F hl h1 (fun k c hk=>ih k c hk (fun b hb=>hh b (hF k b hb)) (fun b hb=>hb)) (fun k b hb=>hSS b (hF k b hb)) hd
 | @tup cs vs S F hl hr hF hd ih =>
  intro S' hh hSS
  exact .tup F hl (fun k c hk=>ih k c hk (fun b hb=>hh b (hF k b hb)) (fun b hb=>hb)) (fun k b hb=>hSS b (hF k b hb)) hd
theorem aj.mono {w:World} {I:Nat->Prop} {x:TV} {v:Value} {S S':Nat->Prop} (h:aj w I x v S) (hS:∀ b,S b->S' b):aj w I x v S' :=
 h.mv (fun _ _=>rfl) (fun _ h=>h) (fun _ _=>rfl) hS
theorem bj {w:World} {I:Nat->Prop} {v u:Value} (h:Rep w I (.lit v) u):u=v:=by cases h; rfl
theorem aN {w:World} {I:Nat->Prop} {v u:Value} {S:Nat->Prop} (h:aj w I (.lit v) u S):u=v:=by cases h with | fr h=>exact bj h
theorem zT {w:World} {I:Nat->Prop} {s:Nat} {xs:List (List TV)} {u:Value} {S:Nat->Prop} (h:aj w I (.sl false s xs) u S):Rep w I (.sl false s xs) u:=by cases h with | fr h=>exact h
theorem pU {w:World} {I:Nat->Prop} {o:Bool} {s:Nat} {xs:List (List TV)} {u:Value} {S:Nat->Prop} (h:aj w I (.sl o s xs) u S):∃ a cap,u=.slice (some a) xs.length cap:=by
 cases h with
 | fr h=>cases h; exact ⟨_,_,rfl⟩
 | sl=>exact ⟨_,_,rfl⟩
theorem eY {w:World} {I:Nat->Prop} {x:TV} {u:Value} {S:Nat->Prop} (h:aj w I x u S) (hx:x.isSl=true):∃ a n cap,u=.slice a n cap:=by
 cases x with
 | lit v =>
  have:=aN h
  subst this
  cases u <;> simp [TV.isSl,aZ] at hx ⊢
 | sl o s xs=>obtain ⟨a,cap,rfl⟩:=pU h; exact ⟨_,_,_,rfl⟩
 | _=>simp [TV.isSl] at hx
theorem pQ {v:Value} (h:scV v=true):v.oneCell'=true:=by cases v <;> first | rfl | simp [scV] at h
theorem dW {w:World} {I:Nat->Prop} {x:TV} {u:Value} {S:Nat->Prop} (h:aj w I x u S) (hx:x.isSc=true):x=.lit u/\scV u=true:=by
 cases x with
 | lit v =>
  have:=aN h
  subst this
  exact ⟨rfl,hx⟩
 | _=>simp [TV.isSc] at hx
theorem Bz {w:World} {I:Nat->Prop} {x:TV} {u:Value} {S:Nat->Prop} (h:aj w I x u S):Rep w I x.lf u:=by
 cases x with
 | lit v=>have:=aN h; subst this; exact .lit _
 | _=>exact .hole _
theorem lE:∀ l:List TV,sk l=l.map frz
 | []=>rfl
 | x :: l=>by simp [sk,lE l]
theorem fX:∀ l:List (List TV),rF l=l.map fun x=>x.map frz
 | []=>rfl
 | x :: l=>by simp [rF,fX l,lE]
theorem Aj:∀ l:List TV,lfL l=l.map TV.lf
 | []=>rfl
 | x :: l=>by simp [lfL,Aj l]
theorem xF:∀ l:List (List TV),ft l=l.map fun x=>x.map TV.lf
 | []=>rfl
 | x :: l=>by simp [ft,xF l,Aj]
theorem Rep.frz {w:World} {I:Nat->Prop} {x:TV} {v:Value} (h:Rep w I x v):Rep w I (frz x) v:=by
 induction h with
 | lit v=>exact .lit v
 | hole v=>exact .hole v
 | buf e h=>exact .hole _
 | @sl size xs a cap cell hI hc hm hl hcell h1 _ ih =>
  simp only [Ab.frz,fX]
  have hlen:(xs.map fun x=>x.map Ab.frz).length=xs.length:=by simp
  have key:Rep w I (.sl false size (xs.map fun x=>x.map Ab.frz)) (.slice (some a) (xs.map fun x=>x.map Ab.frz).length cap):=by
   refine .sl cell (by rw [hlen]; exact hI) (by rw [hlen]; exact hc) hm (fun x hx=>?_) (by rw [hlen]; exact hcell) (by rw [hlen]; exact h1) (fun i y hy j c hj=>?_)
   ·obtain ⟨y,hy,rfl⟩:=List.mem_map.1 hx
    simpa using hl y hy
   ·rw [Cx] at hy
    cases hxi:xs[i]? with
    | none=>simp [hxi] at hy
    | some x =>
     simp only [hxi,CG,Cs] at hy
     subst hy
     rw [Cx] at hj
     cases hxj:x[j]? with
     | none=>simp [hxj] at hj
     | some c' =>
      simp only [hxj,CG,Cs] at hj
      subst hj
      exact ih i x hxi j c' hxj
  rwa [hlen] at key
 | @agg cs vs hl h1 _ ih =>
  simp only [Ab.frz,lE]
  refine .agg (by simpa using hl) h1 (fun j c hj=>?_)
  rw [Cx] at hj
  cases hxj:cs[j]? with
  | none=>simp [hxj] at hj
  | some c'=>simp only [hxj,CG,Cs] at hj; subst hj; exact ih j c' hxj
 | @tup cs vs hl _ ih =>
  simp only [Ab.frz,lE]
  refine .tup (by simpa using hl) (fun j c hj=>?_)
  rw [Cx] at hj
  cases hxj:cs[j]? with
  | none=>simp [hxj] at hj
  | some c'=>simp only [hxj,CG,Cs] at hj; subst hj; exact ih j c' hxj
theorem aj.frz {w:World} {I I':Nat->Prop} (hI:∀ b,I b->I' b) {x:TV} {v:Value} {S:Nat->Prop} (h:aj w I x v S):(∀ b,S b->I' b)->Rep w I' (frz x) v:=by
 induction h with
 | fr h=>intro _; exact (h.mv (fun _ _=>rfl) hI).frz
 | buf _ _=>intro _; exact .hole _
 | @sl size xs a cap S us vs ty F hS row hl hr hF hd ih =>
  intro hSI
  simp only [Ab.frz,fX]
  have hlen:(xs.map fun x=>x.map Ab.frz).length=xs.length:=by simp
  have key:Rep w I' (.sl false size (xs.map fun x=>x.map Ab.frz)) (.slice (some a) (xs.map fun x=>x.map Ab.frz).length cap):=by
   refine .sl (fun k=>us.getD k undef) (fun _=>hSI _ hS) (by rw [hlen]; exact row.le) row.max (fun x hx=>?_) (fun k hk=>?_) (fun k hk=>?_) (fun i y hy j c hj=>?_)
   ·obtain ⟨y,hy,rfl⟩:=List.mem_map.1 hx
    simpa using hl y hy
   ·rw [hlen] at hk
    have:k < us.length:=by rw [row.len]; exact hk
    exact row.cell (by simp [Cr this])
   ·rw [hlen] at hk
    have:k < us.length:=by rw [row.len]; exact hk
    simp only [CH,Cr this,Option.getD_some]
    exact row.one _ (List.getElem_mem this)
   ·rw [Cx] at hy
    cases hxi:xs[i]? with
    | none=>simp [hxi] at hy
    | some x =>
     simp only [hxi,CG,Cs] at hy
     subst hy
     rw [Cx] at hj
     cases hxj:x[j]? with
     | none=>simp [hxj] at hj
     | some c' =>
      simp only [hxj,CG,Cs] at hj
      subst hj
      exact ih _ c' (cI hl hxi hxj) (fun b hb=>hSI b (hF _ b hb).1)
  rwa [hlen] at key
 | @agg cs vs S F hl h1 hr hF hd ih =>
  intro hSI
  simp only [Ab.frz,lE]
  refine .agg (by simpa using hl) h1 (fun j c hj=>?_)
  rw [Cx] at hj
  cases hxj:cs[j]? with
  | none=>simp [hxj] at hj
  | some c'=>simp only [hxj,CG,Cs] at hj; subst hj; exact ih j c' hxj (fun b hb=>hSI b (hF j b hb))
 | @tup cs vs S F hl hr hF hd ih =>
  intro hSI
  simp only [Ab.frz,lE]
  refine .tup (by simpa using hl) (fun j c hj=>?_)
  rw [Cx] at hj
  cases hxj:cs[j]? with
  | none=>simp [hxj] at hj
  | some c'=>simp only [hxj,CG,Cs] at hj; subst hj; exact ih j c' hxj (fun b hb=>hSI b (hF j b hb))
theorem fD:∀ {l:List TV},io l=true->∀ x ∈ l,cC x=true
 | [],_,x,hx=>by simp at hx
 | y :: l,h,x,hx=>by
  simp only [io,Cu] at h
  rcases List.mem_cons.1 hx with rfl | hx
  ·exact h.1
  ·exact fD h.2 x hx
theorem pn:∀ {l:List (List TV)},ly l=true->∀ x ∈ l,io x=true
 | [],_,x,hx=>by simp at hx
 | y :: l,h,x,hx=>by
  simp only [ly,Cu] at h
  rcases List.mem_cons.1 hx with rfl | hx
  ·exact h.1
  ·exact pn h.2 x hx
theorem Rep.own {w:World} {I I':Nat->Prop} {x:TV} {v:Value} (h:Rep w I x v):cC x=true->Rep w I' x v:=by
 induction h with
 | lit v=>intro _; exact .lit v
 | hole v=>intro _; exact .hole v
 | buf e h=>intro _; exact .buf e h
 | sl=>intro h; simp [cC] at h
 | @agg cs vs hl h1 _ ih=>intro h; simp only [cC] at h; exact .agg hl h1 (fun j c hj=>ih j c hj (fD h c (CB hj)))
 | @tup cs vs hl _ ih=>intro h; simp only [cC] at h; exact .tup hl (fun j c hj=>ih j c hj (fD h c (CB hj)))
theorem aj.own {w:World} {I I':Nat->Prop} {x:TV} {v:Value} {S:Nat->Prop} (h:aj w I x v S):cC x=true->aj w I' x v S:=by
 induction h with
 | fr h=>intro ho; exact .fr (h.own ho)
 | buf h hS=>intro _; exact .buf h hS
 | @sl size xs a cap S us vs ty F hS row hl hr hF hd ih =>
  intro ho
  simp only [cC,Bool.true_and] at ho
  refine .sl us vs ty F hS row hl (fun k c hk=>ih k c hk ?_) hF hd
  obtain ⟨x,hx,hc⟩:=List.mem_flatten.1 (CB hk)
  exact fD (pn ho x hx) c hc
 | @agg cs vs S F hl h1 hr hF hd ih=>intro ho; simp only [cC] at ho; exact .agg F hl h1 (fun j c hj=>ih j c hj (fD ho c (CB hj))) hF hd
 | @tup cs vs S F hl hr hF hd ih=>intro ho; simp only [cC] at ho; exact .tup F hl (fun j c hj=>ih j c hj (fD ho c (CB hj))) hF hd
end Go.Ab
end

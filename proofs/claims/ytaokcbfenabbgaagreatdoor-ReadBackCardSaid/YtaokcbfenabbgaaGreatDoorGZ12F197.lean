import Derived.Test.YtaokcbfenabbgaaGreatDoorGZ12F193
import Derived.Test.YtaokcbfenabbgaaGreatDoorGM1
import Derived.Test.YtaokcbfenabbgaaGreatDoorGZ12Xb
set_option linter.all false
section
set_option maxRecDepth 20000
namespace Go.Ab
def fAt (ts:List (List UInt8)) (k j:Nat) (y:TV):TV:=if j < k then I (puV (ts.getD j [])) else y
theorem fc (ts:List (List UInt8)) (k j:Nat) (n:Int):aI (fAt ts k j (I n))=true:=by
 unfold fAt
 split <;> rfl
theorem ba {ts:List (List UInt8)} {k j:Nat} {y:TV} (h:j < k):fAt ts (k + 1) j y=fAt ts k j y:=by
 unfold fAt
 rw [if_pos (by omega),if_pos h]
theorem q9 (ts:List (List UInt8)) (j:Nat):fAt ts ts.length j (I 0)=I ((ts.map puV).getD j 0):=by
 unfold fAt
 split
 ·rename_i h
  rw [GR,GR,GJ,GE h]
  rfl
 ·rename_i h
  rw [GR,GP (by rw [List.length_map]; omega)]
  rfl
theorem cN {ts:List (List UInt8)} {k:Nat} (h:k < ts.length):ts[k]? = some (ts.getD k []):=by
 rw [GR,GE h]
 rfl
theorem dZ {ts:List (List UInt8)} {k:Nat} (h:k < ts.length):ts.getD k [] ∈ ts:=GM (cN h)
theorem cz {ts:List (List UInt8)} {k n:Nat} (h:k < ts.length) (hn:n<=k):(ts.take (k + 1)).drop n=(ts.take k).drop n ++ [ts.getD k []]:=by
 rw [List.take_add_one,cN h,List.drop_append_of_le_length (by rw [List.length_take]; omega)]
 rfl
theorem conv16 {a:Int} (h0:0<=a) (h:a<=65535):pconv (.int .u16) (I a)=some (W a):=by
 show some (TV.lit (.int .u16 (IntKind.u16.wrap a)))=_
 have e:IntKind.u16.wrap a=a:=by
  unfold IntKind.wrap
  simp only [IntKind.bits,IntKind.signed]
  have:a % 65536=a:=Int.emod_eq_of_lt h0 (by omega)
  simp [this]
 rw [e]
theorem Dn (ts:List (List UInt8)) (k j:Nat):pconv (.int .u16) (fAt ts k j (I 0))=some (W (if j < k then puV (ts.getD j []) else 0)):=by
 unfold fAt
 split
 ·have:=cI (ts.getD j [])
  exact conv16 this.1 this.2
 ·rfl
end Go.Ab
namespace Go.Ab.Z12
open Go Go.Ab Go.Proofs
theorem lI2 {q:Option Bool} {ws:TV} {ts:List (List UInt8)} (hx:RStrs q ws ts) (hl:ts.length<=1000000) (hs:∀ t,t ∈ ts->t.length<=4000000000) {op:Int}:∃ w',RInts (some true) w' ((ts.drop 2).map puV)/\aa prog 20 (f20_2 ws (I (ts.length:Nat)) (I (0:Int)) (.lit ah) (I op) (I 0) (I 0) (I 0) (W 0) (I 0) (.lit ah)) (.agg [I op,fAt ts ts.length 0 (I 0),fAt ts ts.length 1 (I 0),I 0,W 0,I 0,.lit ah]):=by
 have key:∀ (d k:Nat) (w:TV),k + d=ts.length->RInts (some true) w (((ts.take k).drop 2).map puV)->∃ w',RInts (some true) w' ((ts.drop 2).map puV)/\aa prog 20 (f20_2 ws (I (ts.length:Nat)) (I (k:Nat)) w (I op) (fAt ts k 0 (I 0)) (fAt ts k 1 (I 0)) (I 0) (W 0) (I 0) (.lit ah)) (.agg [I op,fAt ts ts.length 0 (I 0),fAt ts ts.length 1 (I 0),I 0,W 0,I 0,.lit ah]):=by
  intro d
  induction d with
  | zero =>
   intro k w hk hw
   have hk:k=ts.length:=by omega
   subst hk
   have ho:aI w=true:=RL.own hw fun _ _ h=>by rw [h.1]; rfl
   rw [List.take_length] at hw
   refine ⟨w,hw,?_⟩
   unfold f20_2
   refine aa.tv rfl (aa.ite aP nofun fun _=>aa.chk ?_ aa.ret)
   simp [ct,aI,fc,ho,ah]
  | succ d ih =>
   intro k w hk hw
   have hkl:k < ts.length:=by omega
   obtain ⟨e,he,hr⟩:=hx.idx (k:=.i64) (cN hkl)
   have hr:e=[Sb (ts.getD k [])]:=hr
   subst hr
   have hnum:aj prog 48 [Sb (ts.getD k [])] (I (puV (ts.getD k []))):=d8 (hs _ (dZ hkl))
   have hin:=cI (ts.getD k [])
   by_cases hkn:k < 2
   ·obtain ⟨w',h1,h2⟩:=ih (k + 1) w (by omega) (by rw [List.drop_eq_nil_of_le (by rw [List.length_take]; omega)] at hw ⊢; exact hw)
    refine ⟨w',h1,?_⟩
    unfold f20_2
    refine aa.tv rfl (aa.ite (aE hkl) (fun _=>?_) nofun)
    refine aa.tvs he (aa.chk rfl ?_)
    refine aa.tv rfl (aa.ite (v:=true) (by simp [asBool]; omega) (fun _=>?_) nofun)
    rcases (by omega:k=0\/k=1) with rfl | rfl
    ·refine aa.nat rfl (aa.ite (v:=false) rfl nofun fun _=>aa.ite (v:=true) rfl (fun _=>?_) nofun)
     exact aa.call hnum (aa.chk rfl (aa.tv (inc (n:=1) (by omega) (by omega)) (f20_2_J h2)))
    ·refine aa.nat rfl (aa.ite (v:=true) rfl (fun _=>?_) nofun)
     exact aa.call hnum (aa.chk rfl (aa.tv (inc (n:=2) (by omega) (by omega)) (f20_2_J h2)))
   ·have e:(ts.take (k + 1)).drop 2=(ts.take k).drop 2 ++ [ts.getD k []]:=cz hkl (by omega)
    obtain ⟨w2,c1,c2⟩:=RL.snoc hw (e:=[I (puV (ts.getD k []))]) (a:=puV (ts.getD k [])) ⟨rfl,by constructor <;> omega⟩ (by simp only [List.length_map,List.length_drop,List.length_take]; omega)
    obtain ⟨w',h1,h2⟩:=ih (k + 1) w2 (by omega) (by rw [e,List.map_append]; exact c2)
    refine ⟨w',h1,?_⟩
    rw [ba (k:=k) (j:=0) (by omega),ba (k:=k) (j:=1) (by omega)] at h2
    unfold f20_2
    refine aa.tv rfl (aa.ite (aE hkl) (fun _=>?_) nofun)
    refine aa.tvs he (aa.chk rfl ?_)
    refine aa.tv rfl (aa.ite (v:=false) (by simp [asBool]; omega) nofun fun _=>?_)
    exact aa.call hnum (aa.chk rfl (aa.rws rfl (aa.tv c1 (aa.tv (inc (n:=k + 1) (by omega) (by omega)) (f20_2_J h2)))))
 exact key ts.length 0 (.lit ah) (by omega) (by rw [List.take_zero,List.drop_nil]; exact RL.nil)
theorem lI4 {q:Option Bool} {ws:TV} {ts:List (List UInt8)} (hx:RStrs q ws ts) (hl:ts.length<=1000000) (hs:∀ t,t ∈ ts->t.length<=4000000000) {op:Int}:∃ w',RInts (some true) w' ((ts.drop 3).map puV)/\aa prog 20 (f20_4 ws (I (ts.length:Nat)) (I (0:Int)) (.lit ah) (I op) (I 0) (I 0) (I 0) (W 0) (I 0) (.lit ah)) (.agg [I op,fAt ts ts.length 0 (I 0),fAt ts ts.length 1 (I 0),fAt ts ts.length 2 (I 0),W 0,I 0,.lit ah]):=by
 have key:∀ (d k:Nat) (w:TV),k + d=ts.length->RInts (some true) w (((ts.take k).drop 3).map puV)->∃ w',RInts (some true) w' ((ts.drop 3).map puV)/\aa prog 20 (f20_4 ws (I (ts.length:Nat)) (I (k:Nat)) w (I op) (fAt ts k 0 (I 0)) (fAt ts k 1 (I 0)) (fAt ts k 2 (I 0)) (W 0) (I 0) (.lit ah)) (.agg [I op,fAt ts ts.length 0 (I 0),fAt ts ts.length 1 (I 0),fAt ts ts.length 2 (I 0),W 0,I 0,.lit ah]):=by
  intro d
  induction d with
  | zero =>
   intro k w hk hw
   have hk:k=ts.length:=by omega
   subst hk
   have ho:aI w=true:=RL.own hw fun _ _ h=>by rw [h.1]; rfl
   rw [List.take_length] at hw
   refine ⟨w,hw,?_⟩
   unfold f20_4
   refine aa.tv rfl (aa.ite aP nofun fun _=>aa.chk ?_ aa.ret)
   simp [ct,aI,fc,ho,ah]
  | succ d ih =>
   intro k w hk hw
   have hkl:k < ts.length:=by omega
   obtain ⟨e,he,hr⟩:=hx.idx (k:=.i64) (cN hkl)
   have hr:e=[Sb (ts.getD k [])]:=hr
   subst hr
   have hnum:aj prog 48 [Sb (ts.getD k [])] (I (puV (ts.getD k []))):=d8 (hs _ (dZ hkl))
   have hin:=cI (ts.getD k [])
   by_cases hkn:k < 3
   ·obtain ⟨w',h1,h2⟩:=ih (k + 1) w (by omega) (by rw [List.drop_eq_nil_of_le (by rw [List.length_take]; omega)] at hw ⊢; exact hw)
    refine ⟨w',h1,?_⟩
    unfold f20_4
    refine aa.tv rfl (aa.ite (aE hkl) (fun _=>?_) nofun)
    refine aa.tvs he (aa.chk rfl ?_)
    refine aa.tv rfl (aa.ite (v:=true) (by simp [asBool]; omega) (fun _=>?_) nofun)
    rcases (by omega:k=0\/k=1\/k=2) with rfl | rfl | rfl
    ·refine aa.nat rfl (aa.ite (v:=false) rfl nofun fun _=>aa.ite (v:=false) rfl nofun fun _=>aa.ite (v:=true) rfl (fun _=>?_) nofun)
     exact aa.call hnum (aa.chk rfl (aa.tv (inc (n:=1) (by omega) (by omega)) (f20_4_J h2)))
    ·refine aa.nat rfl (aa.ite (v:=false) rfl nofun fun _=>aa.ite (v:=true) rfl (fun _=>?_) nofun)
     exact aa.call hnum (aa.chk rfl (aa.tv (inc (n:=2) (by omega) (by omega)) (f20_4_J h2)))
    ·refine aa.nat rfl (aa.ite (v:=true) rfl (fun _=>?_) nofun)
     exact aa.call hnum (aa.chk rfl (aa.tv (inc (n:=3) (by omega) (by omega)) (f20_4_J h2)))
   ·have e:(ts.take (k + 1)).drop 3=(ts.take k).drop 3 ++ [ts.getD k []]:=cz hkl (by omega)
    obtain ⟨w2,c1,c2⟩:=RL.snoc hw (e:=[I (puV (ts.getD k []))]) (a:=puV (ts.getD k [])) ⟨rfl,by constructor <;> omega⟩ (by simp only [List.length_map,List.length_drop,List.length_take]; omega)
    obtain ⟨w',h1,h2⟩:=ih (k + 1) w2 (by omega) (by rw [e,List.map_append]; exact c2)
    refine ⟨w',h1,?_⟩
    rw [ba (k:=k) (j:=0) (by omega),ba (k:=k) (j:=1) (by omega),ba (k:=k) (j:=2) (by omega)] at h2
    unfold f20_4
    refine aa.tv rfl (aa.ite (aE hkl) (fun _=>?_) nofun)
    refine aa.tvs he (aa.chk rfl ?_)
    refine aa.tv rfl (aa.ite (v:=false) (by simp [asBool]; omega) nofun fun _=>?_)
    exact aa.call hnum (aa.chk rfl (aa.rws rfl (aa.tv c1 (aa.tv (inc (n:=k + 1) (by omega) (by omega)) (f20_4_J h2)))))
 exact key ts.length 0 (.lit ah) (by omega) (by rw [List.take_zero,List.drop_nil]; exact RL.nil)
theorem lI5 {q:Option Bool} {ws:TV} {ts:List (List UInt8)} (hx:RStrs q ws ts) (hl:ts.length<=1000000) (hs:∀ t,t ∈ ts->t.length<=4000000000) {op:Int}:∃ w',RInts (some true) w' ((ts.drop 2).map puV)/\aa prog 20 (f20_5 ws (I (ts.length:Nat)) (I (0:Int)) (.lit ah) (I op) (I 0) (I 0) (I 0) (W 0) (I 0) (.lit ah)) (.agg [I op,I 0,fAt ts ts.length 0 (I 0),fAt ts ts.length 1 (I 0),W 0,I 0,.lit ah]):=by
 have key:∀ (d k:Nat) (w:TV),k + d=ts.length->RInts (some true) w (((ts.take k).drop 2).map puV)->∃ w',RInts (some true) w' ((ts.drop 2).map puV)/\aa prog 20 (f20_5 ws (I (ts.length:Nat)) (I (k:Nat)) w (I op) (I 0) (fAt ts k 0 (I 0)) (fAt ts k 1 (I 0)) (W 0) (I 0) (.lit ah)) (.agg [I op,I 0,fAt ts ts.length 0 (I 0),fAt ts ts.length 1 (I 0),W 0,I 0,.lit ah]):=by
  intro d
  induction d with
  | zero =>
   intro k w hk hw
   have hk:k=ts.length:=by omega
   subst hk
   have ho:aI w=true:=RL.own hw fun _ _ h=>by rw [h.1]; rfl
   rw [List.take_length] at hw
   refine ⟨w,hw,?_⟩
   unfold f20_5
   refine aa.tv rfl (aa.ite aP nofun fun _=>aa.chk ?_ aa.ret)
   simp [ct,aI,fc,ho,ah]
  | succ d ih =>
   intro k w hk hw
   have hkl:k < ts.length:=by omega
   obtain ⟨e,he,hr⟩:=hx.idx (k:=.i64) (cN hkl)
   have hr:e=[Sb (ts.getD k [])]:=hr
   subst hr
   have hnum:aj prog 48 [Sb (ts.getD k [])] (I (puV (ts.getD k []))):=d8 (hs _ (dZ hkl))
   have hin:=cI (ts.getD k [])
   by_cases hkn:k < 2
   ·obtain ⟨w',h1,h2⟩:=ih (k + 1) w (by omega) (by rw [List.drop_eq_nil_of_le (by rw [List.length_take]; omega)] at hw ⊢; exact hw)
    refine ⟨w',h1,?_⟩
    unfold f20_5
    refine aa.tv rfl (aa.ite (aE hkl) (fun _=>?_) nofun)
    refine aa.tvs he (aa.chk rfl ?_)
    refine aa.tv rfl (aa.ite (v:=true) (by simp [asBool]; omega) (fun _=>?_) nofun)
    rcases (by omega:k=0\/k=1) with rfl | rfl
    ·refine aa.nat rfl (aa.ite (v:=false) rfl nofun fun _=>aa.ite (v:=true) rfl (fun _=>?_) nofun)
     exact aa.call hnum (aa.chk rfl (aa.tv (inc (n:=1) (by omega) (by omega)) (f20_5_J h2)))
    ·refine aa.nat rfl (aa.ite (v:=true) rfl (fun _=>?_) nofun)
     exact aa.call hnum (aa.chk rfl (aa.tv (inc (n:=2) (by omega) (by omega)) (f20_5_J h2)))
   ·have e:(ts.take (k + 1)).drop 2=(ts.take k).drop 2 ++ [ts.getD k []]:=cz hkl (by omega)
    obtain ⟨w2,c1,c2⟩:=RL.snoc hw (e:=[I (puV (ts.getD k []))]) (a:=puV (ts.getD k [])) ⟨rfl,by constructor <;> omega⟩ (by simp only [List.length_map,List.length_drop,List.length_take]; omega)
    obtain ⟨w',h1,h2⟩:=ih (k + 1) w2 (by omega) (by rw [e,List.map_append]; exact c2)
    refine ⟨w',h1,?_⟩
    rw [ba (k:=k) (j:=0) (by omega),ba (k:=k) (j:=1) (by omega)] at h2
    unfold f20_5
    refine aa.tv rfl (aa.ite (aE hkl) (fun _=>?_) nofun)
    refine aa.tvs he (aa.chk rfl ?_)
    refine aa.tv rfl (aa.ite (v:=false) (by simp [asBool]; omega) nofun fun _=>?_)
    exact aa.call hnum (aa.chk rfl (aa.rws rfl (aa.tv c1 (aa.tv (inc (n:=k + 1) (by omega) (by omega)) (f20_5_J h2)))))
 exact key ts.length 0 (.lit ah) (by omega) (by rw [List.take_zero,List.drop_nil]; exact RL.nil)
theorem lI6 {q:Option Bool} {ws:TV} {ts:List (List UInt8)} (hx:RStrs q ws ts) (hl:ts.length<=1000000) (hs:∀ t,t ∈ ts->t.length<=4000000000) {op:Int}:∃ w',RInts (some true) w' ((ts.drop 2).map puV)/\aa prog 20 (f20_6 ws (I (ts.length:Nat)) (I (0:Int)) (.lit ah) (I op) (I 0) (I 0) (I 0) (W 0) (I 0) (.lit ah)) (.agg [I op,fAt ts ts.length 0 (I 0),I 0,I 0,W 0,fAt ts ts.length 1 (I 0),w']):=by
 have key:∀ (d k:Nat) (w:TV),k + d=ts.length->RInts (some true) w (((ts.take k).drop 2).map puV)->∃ w',RInts (some true) w' ((ts.drop 2).map puV)/\aa prog 20 (f20_6 ws (I (ts.length:Nat)) (I (k:Nat)) w (I op) (fAt ts k 0 (I 0)) (I 0) (I 0) (W 0) (fAt ts k 1 (I 0)) (.lit ah)) (.agg [I op,fAt ts ts.length 0 (I 0),I 0,I 0,W 0,fAt ts ts.length 1 (I 0),w']):=by
  intro d
  induction d with
  | zero =>
   intro k w hk hw
   have hk:k=ts.length:=by omega
   subst hk
   have ho:aI w=true:=RL.own hw fun _ _ h=>by rw [h.1]; rfl
   rw [List.take_length] at hw
   refine ⟨w,hw,?_⟩
   unfold f20_6
   refine aa.tv rfl (aa.ite aP nofun fun _=>aa.chk ?_ aa.ret)
   simp [ct,aI,fc,ho,ah]
  | succ d ih =>
   intro k w hk hw
   have hkl:k < ts.length:=by omega
   obtain ⟨e,he,hr⟩:=hx.idx (k:=.i64) (cN hkl)
   have hr:e=[Sb (ts.getD k [])]:=hr
   subst hr
   have hnum:aj prog 48 [Sb (ts.getD k [])] (I (puV (ts.getD k []))):=d8 (hs _ (dZ hkl))
   have hin:=cI (ts.getD k [])
   by_cases hkn:k < 2
   ·obtain ⟨w',h1,h2⟩:=ih (k + 1) w (by omega) (by rw [List.drop_eq_nil_of_le (by rw [List.length_take]; omega)] at hw ⊢; exact hw)
    refine ⟨w',h1,?_⟩
    unfold f20_6
    refine aa.tv rfl (aa.ite (aE hkl) (fun _=>?_) nofun)
    refine aa.tvs he (aa.chk rfl ?_)
    refine aa.tv rfl (aa.ite (v:=true) (by simp [asBool]; omega) (fun _=>?_) nofun)
    rcases (by omega:k=0\/k=1) with rfl | rfl
    ·refine aa.nat rfl (aa.ite (v:=false) rfl nofun fun _=>aa.ite (v:=true) rfl (fun _=>?_) nofun)
     exact aa.call hnum (aa.chk rfl (aa.tv (inc (n:=1) (by omega) (by omega)) (f20_6_J h2)))
    ·refine aa.nat rfl (aa.ite (v:=true) rfl (fun _=>?_) nofun)
     exact aa.call hnum (aa.chk rfl (aa.tv (inc (n:=2) (by omega) (by omega)) (f20_6_J h2)))
   ·have e:(ts.take (k + 1)).drop 2=(ts.take k).drop 2 ++ [ts.getD k []]:=cz hkl (by omega)
    obtain ⟨w2,c1,c2⟩:=RL.snoc hw (e:=[I (puV (ts.getD k []))]) (a:=puV (ts.getD k [])) ⟨rfl,by constructor <;> omega⟩ (by simp only [List.length_map,List.length_drop,List.length_take]; omega)
    obtain ⟨w',h1,h2⟩:=ih (k + 1) w2 (by omega) (by rw [e,List.map_append]; exact c2)
    refine ⟨w',h1,?_⟩
    rw [ba (k:=k) (j:=0) (by omega),ba (k:=k) (j:=1) (by omega)] at h2
    unfold f20_6
    refine aa.tv rfl (aa.ite (aE hkl) (fun _=>?_) nofun)
    refine aa.tvs he (aa.chk rfl ?_)
    refine aa.tv rfl (aa.ite (v:=false) (by simp [asBool]; omega) nofun fun _=>?_)
    exact aa.call hnum (aa.chk rfl (aa.rws rfl (aa.tv c1 (aa.tv (inc (n:=k + 1) (by omega) (by omega)) (f20_6_J h2)))))
 exact key ts.length 0 (.lit ah) (by omega) (by rw [List.take_zero,List.drop_nil]; exact RL.nil)
theorem lI7 {q:Option Bool} {ws:TV} {ts:List (List UInt8)} (hx:RStrs q ws ts) (hl:ts.length<=1000000) (hs:∀ t,t ∈ ts->t.length<=4000000000) {op:Int}:∃ w',RInts (some true) w' ((ts.drop 1).map puV)/\aa prog 20 (f20_7 ws (I (ts.length:Nat)) (I (0:Int)) (.lit ah) (I op) (I 0) (I 0) (I 0) (W 0) (I 0) (.lit ah)) (.agg [I op,I 0,fAt ts ts.length 0 (I 0),I 0,W 0,I 0,.lit ah]):=by
 have key:∀ (d k:Nat) (w:TV),k + d=ts.length->RInts (some true) w (((ts.take k).drop 1).map puV)->∃ w',RInts (some true) w' ((ts.drop 1).map puV)/\aa prog 20 (f20_7 ws (I (ts.length:Nat)) (I (k:Nat)) w (I op) (I 0) (fAt ts k 0 (I 0)) (I 0) (W 0) (I 0) (.lit ah)) (.agg [I op,I 0,fAt ts ts.length 0 (I 0),I 0,W 0,I 0,.lit ah]):=by
  intro d
  induction d with
  | zero =>
   intro k w hk hw
   have hk:k=ts.length:=by omega
   subst hk
   have ho:aI w=true:=RL.own hw fun _ _ h=>by rw [h.1]; rfl
   rw [List.take_length] at hw
   refine ⟨w,hw,?_⟩
   unfold f20_7
   refine aa.tv rfl (aa.ite aP nofun fun _=>aa.chk ?_ aa.ret)
   simp [ct,aI,fc,ho,ah]
  | succ d ih =>
   intro k w hk hw
   have hkl:k < ts.length:=by omega
   obtain ⟨e,he,hr⟩:=hx.idx (k:=.i64) (cN hkl)
   have hr:e=[Sb (ts.getD k [])]:=hr
   subst hr
   have hnum:aj prog 48 [Sb (ts.getD k [])] (I (puV (ts.getD k []))):=d8 (hs _ (dZ hkl))
   have hin:=cI (ts.getD k [])
   by_cases hkn:k < 1
   ·obtain ⟨w',h1,h2⟩:=ih (k + 1) w (by omega) (by rw [List.drop_eq_nil_of_le (by rw [List.length_take]; omega)] at hw ⊢; exact hw)
    refine ⟨w',h1,?_⟩
    unfold f20_7
    refine aa.tv rfl (aa.ite (aE hkl) (fun _=>?_) nofun)
    refine aa.tvs he (aa.chk rfl ?_)
    refine aa.tv rfl (aa.ite (v:=true) (by simp [asBool]; omega) (fun _=>?_) nofun)
    obtain rfl:k=0:=by omega
    refine aa.nat rfl (aa.ite (v:=true) rfl (fun _=>?_) nofun)
    exact aa.call hnum (aa.chk rfl (aa.tv (inc (n:=1) (by omega) (by omega)) (f20_7_J h2)))
   ·have e:(ts.take (k + 1)).drop 1=(ts.take k).drop 1 ++ [ts.getD k []]:=cz hkl (by omega)
    obtain ⟨w2,c1,c2⟩:=RL.snoc hw (e:=[I (puV (ts.getD k []))]) (a:=puV (ts.getD k [])) ⟨rfl,by constructor <;> omega⟩ (by simp only [List.length_map,List.length_drop,List.length_take]; omega)
    obtain ⟨w',h1,h2⟩:=ih (k + 1) w2 (by omega) (by rw [e,List.map_append]; exact c2)
    refine ⟨w',h1,?_⟩
    rw [ba (k:=k) (j:=0) (by omega)] at h2
    unfold f20_7
    refine aa.tv rfl (aa.ite (aE hkl) (fun _=>?_) nofun)
    refine aa.tvs he (aa.chk rfl ?_)
    refine aa.tv rfl (aa.ite (v:=false) (by simp [asBool]; omega) nofun fun _=>?_)
    exact aa.call hnum (aa.chk rfl (aa.rws rfl (aa.tv c1 (aa.tv (inc (n:=k + 1) (by omega) (by omega)) (f20_7_J h2)))))
 exact key ts.length 0 (.lit ah) (by omega) (by rw [List.take_zero,List.drop_nil]; exact RL.nil)
theorem lI8 {q:Option Bool} {ws:TV} {ts:List (List UInt8)} (hx:RStrs q ws ts) (hl:ts.length<=1000000) (hs:∀ t,t ∈ ts->t.length<=4000000000) {op:Int}:∃ w',RInts (some true) w' ((ts.drop 1).map puV)/\aa prog 20 (f20_8 ws (I (ts.length:Nat)) (I (0:Int)) (.lit ah) (I op) (I 0) (I 0) (I 0) (W 0) (I 0) (.lit ah)) (.agg [I op,fAt ts ts.length 0 (I 0),I 0,I 0,W 0,I 0,.lit ah]):=by
 have key:∀ (d k:Nat) (w:TV),k + d=ts.length->RInts (some true) w (((ts.take k).drop 1).map puV)->∃ w',RInts (some true) w' ((ts.drop 1).map puV)/\aa prog 20 (f20_8 ws (I (ts.length:Nat)) (I (k:Nat)) w (I op) (fAt ts k 0 (I 0)) (I 0) (I 0) (W 0) (I 0) (.lit ah)) (.agg [I op,fAt ts ts.length 0 (I 0),I 0,I 0,W 0,I 0,.lit ah]):=by
  intro d
  induction d with
  | zero =>
   intro k w hk hw
   have hk:k=ts.length:=by omega
   subst hk
   have ho:aI w=true:=RL.own hw fun _ _ h=>by rw [h.1]; rfl
   rw [List.take_length] at hw
   refine ⟨w,hw,?_⟩
   unfold f20_8
   refine aa.tv rfl (aa.ite aP nofun fun _=>aa.chk ?_ aa.ret)
   simp [ct,aI,fc,ho,ah]
  | succ d ih =>
   intro k w hk hw
   have hkl:k < ts.length:=by omega
   obtain ⟨e,he,hr⟩:=hx.idx (k:=.i64) (cN hkl)
   have hr:e=[Sb (ts.getD k [])]:=hr
   subst hr
   have hnum:aj prog 48 [Sb (ts.getD k [])] (I (puV (ts.getD k []))):=d8 (hs _ (dZ hkl))
   have hin:=cI (ts.getD k [])
   by_cases hkn:k < 1
   ·obtain ⟨w',h1,h2⟩:=ih (k + 1) w (by omega) (by rw [List.drop_eq_nil_of_le (by rw [List.length_take]; omega)] at hw ⊢; exact hw)
    refine ⟨w',h1,?_⟩
    unfold f20_8
    refine aa.tv rfl (aa.ite (aE hkl) (fun _=>?_) nofun)
    refine aa.tvs he (aa.chk rfl ?_)
    refine aa.tv rfl (aa.ite (v:=true) (by simp [asBool]; omega) (fun _=>?_) nofun)
    obtain rfl:k=0:=by omega
    refine aa.nat rfl (aa.ite (v:=true) rfl (fun _=>?_) nofun)
    exact aa.call hnum (aa.chk rfl (aa.tv (inc (n:=1) (by omega) (by omega)) (f20_8_J h2)))
   ·have e:(ts.take (k + 1)).drop 1=(ts.take k).drop 1 ++ [ts.getD k []]:=cz hkl (by omega)
    obtain ⟨w2,c1,c2⟩:=RL.snoc hw (e:=[I (puV (ts.getD k []))]) (a:=puV (ts.getD k [])) ⟨rfl,by constructor <;> omega⟩ (by simp only [List.length_map,List.length_drop,List.length_take]; omega)
    obtain ⟨w',h1,h2⟩:=ih (k + 1) w2 (by omega) (by rw [e,List.map_append]; exact c2)
    refine ⟨w',h1,?_⟩
    rw [ba (k:=k) (j:=0) (by omega)] at h2
    unfold f20_8
    refine aa.tv rfl (aa.ite (aE hkl) (fun _=>?_) nofun)
    refine aa.tvs he (aa.chk rfl ?_)
    refine aa.tv rfl (aa.ite (v:=false) (by simp [asBool]; omega) nofun fun _=>?_)
    exact aa.call hnum (aa.chk rfl (aa.rws rfl (aa.tv c1 (aa.tv (inc (n:=k + 1) (by omega) (by omega)) (f20_8_J h2)))))
 exact key ts.length 0 (.lit ah) (by omega) (by rw [List.take_zero,List.drop_nil]; exact RL.nil)
theorem lI0 {q:Option Bool} {ws:TV} {ts:List (List UInt8)} (hx:RStrs q ws ts) (hl:ts.length<=1000000) (hs:∀ t,t ∈ ts->t.length<=4000000000) {op:Int}:∃ w',RInts (some true) w' ((ts.drop 2).map puV)/\aa prog 20 (f20_0 ws (I (ts.length:Nat)) (I (0:Int)) (.lit ah) (I 0) (I 0) (I 0) (I 0) (W 0) (I 0) (.lit ah) (I op) (I 0) (I 0) (I 0) (W 0) (I 0) (.lit ah) (I 0)) (.agg [I op,fAt ts ts.length 0 (I 0),I 0,I 0,W (if 1 < ts.length then puV (ts.getD 1 []) else 0),I 0,.lit ah]):=by
 have key:∀ (d k:Nat) (w:TV),k + d=ts.length->RInts (some true) w (((ts.take k).drop 2).map puV)->∃ w',RInts (some true) w' ((ts.drop 2).map puV)/\aa prog 20 (f20_0 ws (I (ts.length:Nat)) (I (k:Nat)) w (I 0) (I 0) (I 0) (I 0) (W 0) (I 0) (.lit ah) (I op) (fAt ts k 0 (I 0)) (I 0) (I 0) (W 0) (I 0) (.lit ah) (fAt ts k 1 (I 0))) (.agg [I op,fAt ts ts.length 0 (I 0),I 0,I 0,W (if 1 < ts.length then puV (ts.getD 1 []) else 0),I 0,.lit ah]):=by
  intro d
  induction d with
  | zero =>
   intro k w hk hw
   have hk:k=ts.length:=by omega
   subst hk
   have ho:aI w=true:=RL.own hw fun _ _ h=>by rw [h.1]; rfl
   rw [List.take_length] at hw
   refine ⟨w,hw,?_⟩
   unfold f20_0
   refine aa.tv rfl (aa.ite aP nofun fun _=>aa.tv (Dn _ _ _) (aa.chk ?_ aa.ret))
   simp [ct,aI,fc,ho,ah]
  | succ d ih =>
   intro k w hk hw
   have hkl:k < ts.length:=by omega
   obtain ⟨e,he,hr⟩:=hx.idx (k:=.i64) (cN hkl)
   have hr:e=[Sb (ts.getD k [])]:=hr
   subst hr
   have hnum:aj prog 48 [Sb (ts.getD k [])] (I (puV (ts.getD k []))):=d8 (hs _ (dZ hkl))
   have hin:=cI (ts.getD k [])
   by_cases hkn:k < 2
   ·obtain ⟨w',h1,h2⟩:=ih (k + 1) w (by omega) (by rw [List.drop_eq_nil_of_le (by rw [List.length_take]; omega)] at hw ⊢; exact hw)
    refine ⟨w',h1,?_⟩
    unfold f20_0
    refine aa.tv rfl (aa.ite (aE hkl) (fun _=>?_) nofun)
    refine aa.tvs he (aa.chk rfl ?_)
    refine aa.tv rfl (aa.ite (v:=true) (by simp [asBool]; omega) (fun _=>?_) nofun)
    rcases (by omega:k=0\/k=1) with rfl | rfl
    ·refine aa.nat rfl (aa.ite (v:=false) rfl nofun fun _=>aa.ite (v:=true) rfl (fun _=>?_) nofun)
     exact aa.call hnum (aa.chk rfl (aa.tv (inc (n:=1) (by omega) (by omega)) (f20_0_J h2)))
    ·refine aa.nat rfl (aa.ite (v:=true) rfl (fun _=>?_) nofun)
     exact aa.call hnum (aa.chk rfl (aa.tv (inc (n:=2) (by omega) (by omega)) (f20_0_J h2)))
   ·have e:(ts.take (k + 1)).drop 2=(ts.take k).drop 2 ++ [ts.getD k []]:=cz hkl (by omega)
    obtain ⟨w2,c1,c2⟩:=RL.snoc hw (e:=[I (puV (ts.getD k []))]) (a:=puV (ts.getD k [])) ⟨rfl,by constructor <;> omega⟩ (by simp only [List.length_map,List.length_drop,List.length_take]; omega)
    obtain ⟨w',h1,h2⟩:=ih (k + 1) w2 (by omega) (by rw [e,List.map_append]; exact c2)
    refine ⟨w',h1,?_⟩
    rw [ba (k:=k) (j:=0) (by omega),ba (k:=k) (j:=1) (by omega)] at h2
    unfold f20_0
    refine aa.tv rfl (aa.ite (aE hkl) (fun _=>?_) nofun)
    refine aa.tvs he (aa.chk rfl ?_)
    refine aa.tv rfl (aa.ite (v:=false) (by simp [asBool]; omega) nofun fun _=>?_)
    exact aa.call hnum (aa.chk rfl (aa.rws rfl (aa.tv c1 (aa.tv (inc (n:=k + 1) (by omega) (by omega)) (f20_0_J h2)))))
 exact key ts.length 0 (.lit ah) (by omega) (by rw [List.take_zero,List.drop_nil]; exact RL.nil)
theorem lE1 {q:Option Bool} {ws:TV} {ts:List (List UInt8)} (hx:RStrs q ws ts) (hl:ts.length<=1000000) (hs:∀ t,t ∈ ts->t.length<=4000000000) {op:Int}:∃ w',RInts (some true) w' ((ts.drop 1).map puV)/\aa prog 26 (f26_1 ws (I (ts.length:Nat)) (I (0:Int)) (.lit ah) (I op) (I 0) (I 0) (I 0) (.lit ah) (I 0) (I 0) (I 0)) (.agg [I op,fAt ts ts.length 0 (I 0),I 0,I 0,.lit ah,I 0,I 0,I 0]):=by
 have key:∀ (d k:Nat) (w:TV),k + d=ts.length->RInts (some true) w (((ts.take k).drop 1).map puV)->∃ w',RInts (some true) w' ((ts.drop 1).map puV)/\aa prog 26 (f26_1 ws (I (ts.length:Nat)) (I (k:Nat)) w (I op) (fAt ts k 0 (I 0)) (I 0) (I 0) (.lit ah) (I 0) (I 0) (I 0)) (.agg [I op,fAt ts ts.length 0 (I 0),I 0,I 0,.lit ah,I 0,I 0,I 0]):=by
  intro d
  induction d with
  | zero =>
   intro k w hk hw
   have hk:k=ts.length:=by omega
   subst hk
   have ho:aI w=true:=RL.own hw fun _ _ h=>by rw [h.1]; rfl
   rw [List.take_length] at hw
   refine ⟨w,hw,?_⟩
   unfold f26_1
   refine aa.tv rfl (aa.ite aP nofun fun _=>aa.chk ?_ aa.ret)
   simp [ct,aI,fc,ho,ah]
  | succ d ih =>
   intro k w hk hw
   have hkl:k < ts.length:=by omega
   obtain ⟨e,he,hr⟩:=hx.idx (k:=.i64) (cN hkl)
   have hr:e=[Sb (ts.getD k [])]:=hr
   subst hr
   have hnum:aj prog 48 [Sb (ts.getD k [])] (I (puV (ts.getD k []))):=d8 (hs _ (dZ hkl))
   have hin:=cI (ts.getD k [])
   by_cases hkn:k < 1
   ·obtain ⟨w',h1,h2⟩:=ih (k + 1) w (by omega) (by rw [List.drop_eq_nil_of_le (by rw [List.length_take]; omega)] at hw ⊢; exact hw)
    refine ⟨w',h1,?_⟩
    unfold f26_1
    refine aa.tv rfl (aa.ite (aE hkl) (fun _=>?_) nofun)
    refine aa.tvs he (aa.chk rfl ?_)
    refine aa.tv rfl (aa.ite (v:=true) (by simp [asBool]; omega) (fun _=>?_) nofun)
    obtain rfl:k=0:=by omega
    refine aa.nat rfl (aa.ite (v:=true) rfl (fun _=>?_) nofun)
    exact aa.call hnum (aa.chk rfl (aa.tv (inc (n:=1) (by omega) (by omega)) (f26_1_J h2)))
   ·have e:(ts.take (k + 1)).drop 1=(ts.take k).drop 1 ++ [ts.getD k []]:=cz hkl (by omega)
    obtain ⟨w2,c1,c2⟩:=RL.snoc hw (e:=[I (puV (ts.getD k []))]) (a:=puV (ts.getD k [])) ⟨rfl,by constructor <;> omega⟩ (by simp only [List.length_map,List.length_drop,List.length_take]; omega)
    obtain ⟨w',h1,h2⟩:=ih (k + 1) w2 (by omega) (by rw [e,List.map_append]; exact c2)
    refine ⟨w',h1,?_⟩
    rw [ba (k:=k) (j:=0) (by omega)] at h2
    unfold f26_1
    refine aa.tv rfl (aa.ite (aE hkl) (fun _=>?_) nofun)
    refine aa.tvs he (aa.chk rfl ?_)
    refine aa.tv rfl (aa.ite (v:=false) (by simp [asBool]; omega) nofun fun _=>?_)
    exact aa.call hnum (aa.chk rfl (aa.rws rfl (aa.tv c1 (aa.tv (inc (n:=k + 1) (by omega) (by omega)) (f26_1_J h2)))))
 exact key ts.length 0 (.lit ah) (by omega) (by rw [List.take_zero,List.drop_nil]; exact RL.nil)
theorem lE2 {q:Option Bool} {ws:TV} {ts:List (List UInt8)} (hx:RStrs q ws ts) (hl:ts.length<=1000000) (hs:∀ t,t ∈ ts->t.length<=4000000000) {op:Int}:∃ w',RInts (some true) w' ((ts.drop 1).map puV)/\aa prog 26 (f26_2 ws (I (ts.length:Nat)) (I (0:Int)) (.lit ah) (I op) (I 0) (I 0) (I 0) (.lit ah) (I 0) (I 0) (I 0)) (.agg [I op,I 0,I 0,I 0,.lit ah,fAt ts ts.length 0 (I 0),I 0,I 0]):=by
 have key:∀ (d k:Nat) (w:TV),k + d=ts.length->RInts (some true) w (((ts.take k).drop 1).map puV)->∃ w',RInts (some true) w' ((ts.drop 1).map puV)/\aa prog 26 (f26_2 ws (I (ts.length:Nat)) (I (k:Nat)) w (I op) (I 0) (I 0) (I 0) (.lit ah) (fAt ts k 0 (I 0)) (I 0) (I 0)) (.agg [I op,I 0,I 0,I 0,.lit ah,fAt ts ts.length 0 (I 0),I 0,I 0]):=by
  intro d
  induction d with
  | zero =>
   intro k w hk hw
   have hk:k=ts.length:=by omega
   subst hk
   have ho:aI w=true:=RL.own hw fun _ _ h=>by rw [h.1]; rfl
   rw [List.take_length] at hw
   refine ⟨w,hw,?_⟩
   unfold f26_2
   refine aa.tv rfl (aa.ite aP nofun fun _=>aa.chk ?_ aa.ret)
   simp [ct,aI,fc,ho,ah]
  | succ d ih =>
   intro k w hk hw
   have hkl:k < ts.length:=by omega
   obtain ⟨e,he,hr⟩:=hx.idx (k:=.i64) (cN hkl)
   have hr:e=[Sb (ts.getD k [])]:=hr
   subst hr
   have hnum:aj prog 48 [Sb (ts.getD k [])] (I (puV (ts.getD k []))):=d8 (hs _ (dZ hkl))
   have hin:=cI (ts.getD k [])
   by_cases hkn:k < 1
   ·obtain ⟨w',h1,h2⟩:=ih (k + 1) w (by omega) (by rw [List.drop_eq_nil_of_le (by rw [List.length_take]; omega)] at hw ⊢; exact hw)
    refine ⟨w',h1,?_⟩
    unfold f26_2
    refine aa.tv rfl (aa.ite (aE hkl) (fun _=>?_) nofun)
    refine aa.tvs he (aa.chk rfl ?_)
    refine aa.tv rfl (aa.ite (v:=true) (by simp [asBool]; omega) (fun _=>?_) nofun)
    obtain rfl:k=0:=by omega
    refine aa.nat rfl (aa.ite (v:=true) rfl (fun _=>?_) nofun)
    exact aa.call hnum (aa.chk rfl (aa.tv (inc (n:=1) (by omega) (by omega)) (f26_2_J h2)))
   ·have e:(ts.take (k + 1)).drop 1=(ts.take k).drop 1 ++ [ts.getD k []]:=cz hkl (by omega)
    obtain ⟨w2,c1,c2⟩:=RL.snoc hw (e:=[I (puV (ts.getD k []))]) (a:=puV (ts.getD k [])) ⟨rfl,by constructor <;> omega⟩ (by simp only [List.length_map,List.length_drop,List.length_take]; omega)
    obtain ⟨w',h1,h2⟩:=ih (k + 1) w2 (by omega) (by rw [e,List.map_append]; exact c2)
    refine ⟨w',h1,?_⟩
    rw [ba (k:=k) (j:=0) (by omega)] at h2
    unfold f26_2
    refine aa.tv rfl (aa.ite (aE hkl) (fun _=>?_) nofun)
    refine aa.tvs he (aa.chk rfl ?_)
    refine aa.tv rfl (aa.ite (v:=false) (by simp [asBool]; omega) nofun fun _=>?_)
    exact aa.call hnum (aa.chk rfl (aa.rws rfl (aa.tv c1 (aa.tv (inc (n:=k + 1) (by omega) (by omega)) (f26_2_J h2)))))
 exact key ts.length 0 (.lit ah) (by omega) (by rw [List.take_zero,List.drop_nil]; exact RL.nil)
theorem lE3 {q:Option Bool} {ws:TV} {ts:List (List UInt8)} (hx:RStrs q ws ts) (hl:ts.length<=1000000) (hs:∀ t,t ∈ ts->t.length<=4000000000) {op:Int}:∃ w',RInts (some true) w' ((ts.drop 3).map puV)/\aa prog 26 (f26_3 ws (I (ts.length:Nat)) (I (0:Int)) (.lit ah) (I op) (I 0) (I 0) (I 0) (.lit ah) (I 0) (I 0) (I 0)) (.agg [I op,fAt ts ts.length 0 (I 0),I 0,I 0,.lit ah,fAt ts ts.length 1 (I 0),fAt ts ts.length 2 (I 0),I 0]):=by
 have key:∀ (d k:Nat) (w:TV),k + d=ts.length->RInts (some true) w (((ts.take k).drop 3).map puV)->∃ w',RInts (some true) w' ((ts.drop 3).map puV)/\aa prog 26 (f26_3 ws (I (ts.length:Nat)) (I (k:Nat)) w (I op) (fAt ts k 0 (I 0)) (I 0) (I 0) (.lit ah) (fAt ts k 1 (I 0)) (fAt ts k 2 (I 0)) (I 0)) (.agg [I op,fAt ts ts.length 0 (I 0),I 0,I 0,.lit ah,fAt ts ts.length 1 (I 0),fAt ts ts.length 2 (I 0),I 0]):=by
  intro d
  induction d with
  | zero =>
   intro k w hk hw
   have hk:k=ts.length:=by omega
   subst hk
   have ho:aI w=true:=RL.own hw fun _ _ h=>by rw [h.1]; rfl
   rw [List.take_length] at hw
   refine ⟨w,hw,?_⟩
   unfold f26_3
   refine aa.tv rfl (aa.ite aP nofun fun _=>aa.chk ?_ aa.ret)
   simp [ct,aI,fc,ho,ah]
  | succ d ih =>
   intro k w hk hw
   have hkl:k < ts.length:=by omega
   obtain ⟨e,he,hr⟩:=hx.idx (k:=.i64) (cN hkl)
   have hr:e=[Sb (ts.getD k [])]:=hr
   subst hr
   have hnum:aj prog 48 [Sb (ts.getD k [])] (I (puV (ts.getD k []))):=d8 (hs _ (dZ hkl))
   have hin:=cI (ts.getD k [])
   by_cases hkn:k < 3
   ·obtain ⟨w',h1,h2⟩:=ih (k + 1) w (by omega) (by rw [List.drop_eq_nil_of_le (by rw [List.length_take]; omega)] at hw ⊢; exact hw)
    refine ⟨w',h1,?_⟩
    unfold f26_3
    refine aa.tv rfl (aa.ite (aE hkl) (fun _=>?_) nofun)
    refine aa.tvs he (aa.chk rfl ?_)
    refine aa.tv rfl (aa.ite (v:=true) (by simp [asBool]; omega) (fun _=>?_) nofun)
    rcases (by omega:k=0\/k=1\/k=2) with rfl | rfl | rfl
    ·refine aa.nat rfl (aa.ite (v:=false) rfl nofun fun _=>aa.ite (v:=false) rfl nofun fun _=>aa.ite (v:=true) rfl (fun _=>?_) nofun)
     exact aa.call hnum (aa.chk rfl (aa.tv (inc (n:=1) (by omega) (by omega)) (f26_3_J h2)))
    ·refine aa.nat rfl (aa.ite (v:=false) rfl nofun fun _=>aa.ite (v:=true) rfl (fun _=>?_) nofun)
     exact aa.call hnum (aa.chk rfl (aa.tv (inc (n:=2) (by omega) (by omega)) (f26_3_J h2)))
    ·refine aa.nat rfl (aa.ite (v:=true) rfl (fun _=>?_) nofun)
     exact aa.call hnum (aa.chk rfl (aa.tv (inc (n:=3) (by omega) (by omega)) (f26_3_J h2)))
   ·have e:(ts.take (k + 1)).drop 3=(ts.take k).drop 3 ++ [ts.getD k []]:=cz hkl (by omega)
    obtain ⟨w2,c1,c2⟩:=RL.snoc hw (e:=[I (puV (ts.getD k []))]) (a:=puV (ts.getD k [])) ⟨rfl,by constructor <;> omega⟩ (by simp only [List.length_map,List.length_drop,List.length_take]; omega)
    obtain ⟨w',h1,h2⟩:=ih (k + 1) w2 (by omega) (by rw [e,List.map_append]; exact c2)
    refine ⟨w',h1,?_⟩
    rw [ba (k:=k) (j:=0) (by omega),ba (k:=k) (j:=1) (by omega),ba (k:=k) (j:=2) (by omega)] at h2
    unfold f26_3
    refine aa.tv rfl (aa.ite (aE hkl) (fun _=>?_) nofun)
    refine aa.tvs he (aa.chk rfl ?_)
    refine aa.tv rfl (aa.ite (v:=false) (by simp [asBool]; omega) nofun fun _=>?_)
    exact aa.call hnum (aa.chk rfl (aa.rws rfl (aa.tv c1 (aa.tv (inc (n:=k + 1) (by omega) (by omega)) (f26_3_J h2)))))
 exact key ts.length 0 (.lit ah) (by omega) (by rw [List.take_zero,List.drop_nil]; exact RL.nil)
theorem lE4 {q:Option Bool} {ws:TV} {ts:List (List UInt8)} (hx:RStrs q ws ts) (hl:ts.length<=1000000) (hs:∀ t,t ∈ ts->t.length<=4000000000) {op:Int}:∃ w',RInts (some true) w' ((ts.drop 4).map puV)/\aa prog 26 (f26_4 ws (I (ts.length:Nat)) (I (0:Int)) (.lit ah) (I op) (I 0) (I 0) (I 0) (.lit ah) (I 0) (I 0) (I 0)) (.agg [I op,I 0,fAt ts ts.length 0 (I 0),fAt ts ts.length 1 (I 0),w',fAt ts ts.length 2 (I 0),I 0,fAt ts ts.length 3 (I 0)]):=by
 have key:∀ (d k:Nat) (w:TV),k + d=ts.length->RInts (some true) w (((ts.take k).drop 4).map puV)->∃ w',RInts (some true) w' ((ts.drop 4).map puV)/\aa prog 26 (f26_4 ws (I (ts.length:Nat)) (I (k:Nat)) w (I op) (I 0) (fAt ts k 0 (I 0)) (fAt ts k 1 (I 0)) (.lit ah) (fAt ts k 2 (I 0)) (I 0) (fAt ts k 3 (I 0))) (.agg [I op,I 0,fAt ts ts.length 0 (I 0),fAt ts ts.length 1 (I 0),w',fAt ts ts.length 2 (I 0),I 0,fAt ts ts.length 3 (I 0)]):=by
  intro d
  induction d with
  | zero =>
   intro k w hk hw
   have hk:k=ts.length:=by omega
   subst hk
   have ho:aI w=true:=RL.own hw fun _ _ h=>by rw [h.1]; rfl
   rw [List.take_length] at hw
   refine ⟨w,hw,?_⟩
   unfold f26_4
   refine aa.tv rfl (aa.ite aP nofun fun _=>aa.chk ?_ aa.ret)
   simp [ct,aI,fc,ho,ah]
  | succ d ih =>
   intro k w hk hw
   have hkl:k < ts.length:=by omega
   obtain ⟨e,he,hr⟩:=hx.idx (k:=.i64) (cN hkl)
   have hr:e=[Sb (ts.getD k [])]:=hr
   subst hr
   have hnum:aj prog 48 [Sb (ts.getD k [])] (I (puV (ts.getD k []))):=d8 (hs _ (dZ hkl))
   have hin:=cI (ts.getD k [])
   by_cases hkn:k < 4
   ·obtain ⟨w',h1,h2⟩:=ih (k + 1) w (by omega) (by rw [List.drop_eq_nil_of_le (by rw [List.length_take]; omega)] at hw ⊢; exact hw)
    refine ⟨w',h1,?_⟩
    unfold f26_4
    refine aa.tv rfl (aa.ite (aE hkl) (fun _=>?_) nofun)
    refine aa.tvs he (aa.chk rfl ?_)
    refine aa.tv rfl (aa.ite (v:=true) (by simp [asBool]; omega) (fun _=>?_) nofun)
    rcases (by omega:k=0\/k=1\/k=2\/k=3) with rfl | rfl | rfl | rfl
    ·refine aa.nat rfl (aa.ite (v:=false) rfl nofun fun _=>aa.ite (v:=false) rfl nofun fun _=>aa.ite (v:=false) rfl nofun fun _=>aa.ite (v:=true) rfl (fun _=>?_) nofun)
     exact aa.call hnum (aa.chk rfl (aa.tv (inc (n:=1) (by omega) (by omega)) (f26_4_J h2)))
    ·refine aa.nat rfl (aa.ite (v:=false) rfl nofun fun _=>aa.ite (v:=false) rfl nofun fun _=>aa.ite (v:=true) rfl (fun _=>?_) nofun)
     exact aa.call hnum (aa.chk rfl (aa.tv (inc (n:=2) (by omega) (by omega)) (f26_4_J h2)))
    ·refine aa.nat rfl (aa.ite (v:=false) rfl nofun fun _=>aa.ite (v:=true) rfl (fun _=>?_) nofun)
     exact aa.call hnum (aa.chk rfl (aa.tv (inc (n:=3) (by omega) (by omega)) (f26_4_J h2)))
    ·refine aa.nat rfl (aa.ite (v:=true) rfl (fun _=>?_) nofun)
     exact aa.call hnum (aa.chk rfl (aa.tv (inc (n:=4) (by omega) (by omega)) (f26_4_J h2)))
   ·have e:(ts.take (k + 1)).drop 4=(ts.take k).drop 4 ++ [ts.getD k []]:=cz hkl (by omega)
    obtain ⟨w2,c1,c2⟩:=RL.snoc hw (e:=[I (puV (ts.getD k []))]) (a:=puV (ts.getD k [])) ⟨rfl,by constructor <;> omega⟩ (by simp only [List.length_map,List.length_drop,List.length_take]; omega)
    obtain ⟨w',h1,h2⟩:=ih (k + 1) w2 (by omega) (by rw [e,List.map_append]; exact c2)
    refine ⟨w',h1,?_⟩
    rw [ba (k:=k) (j:=0) (by omega),ba (k:=k) (j:=1) (by omega),ba (k:=k) (j:=2) (by omega),ba (k:=k) (j:=3) (by omega)] at h2
    unfold f26_4
    refine aa.tv rfl (aa.ite (aE hkl) (fun _=>?_) nofun)
    refine aa.tvs he (aa.chk rfl ?_)
    refine aa.tv rfl (aa.ite (v:=false) (by simp [asBool]; omega) nofun fun _=>?_)
    exact aa.call hnum (aa.chk rfl (aa.rws rfl (aa.tv c1 (aa.tv (inc (n:=k + 1) (by omega) (by omega)) (f26_4_J h2)))))
 exact key ts.length 0 (.lit ah) (by omega) (by rw [List.take_zero,List.drop_nil]; exact RL.nil)
end Go.Ab.Z12
end
section
set_option maxRecDepth 20000
namespace Go.Ab
theorem iZ {l:List Int} (h:∀ n,n ∈ l->0<=n/\n<=65535) (i:Nat):0<=l.getD i 0/\l.getD i 0<=65535:=by
 rw [GR]
 cases hi:l[i]? with
 | none=>simp
 | some a=>exact h a (GM hi)
theorem mkI_ok {k:Int} (hk:0<=k/\k<=13) {l:List Int} (h:∀ n,n ∈ l->0<=n/\n<=65535):(mkI k l).ok:=by
 have g0:=iZ h 0
 have g1:=iZ h 1
 have g2:=iZ h 2
 unfold mkI DIns.ok inI inW
 repeat' split
 all_goals (dsimp only; refine ⟨⟨?_,?_⟩,⟨?_,?_⟩,⟨?_,?_⟩,⟨?_,?_⟩,⟨?_,?_⟩,⟨?_,?_⟩⟩ <;> omega)
theorem mkE_ok {k:Int} (hk:0<=k/\k<=6) {l:List Int} (h:∀ n,n ∈ l->0<=n/\n<=65535):(mkE k l).ok:=by
 have g0:=iZ h 0
 have g1:=iZ h 1
 have g2:=iZ h 2
 have g3:=iZ h 3
 unfold mkE DEnd.ok inI
 repeat' split
 all_goals (dsimp only; refine ⟨⟨?_,?_⟩,⟨?_,?_⟩,⟨?_,?_⟩,⟨?_,?_⟩,⟨?_,?_⟩,⟨?_,?_⟩,⟨?_,?_⟩⟩ <;> omega)
theorem FZ (ts:List (List UInt8)) (j:Nat):(if j < ts.length then puV (ts.getD j []) else 0)=(ts.map puV).getD j 0:=by
 split
 ·rename_i h
  rw [GR,GR,GJ,GE h]
  rfl
 ·rename_i h
  rw [GR,GP (by rw [List.length_map]; omega)]
  rfl
end Go.Ab
namespace Go.Ab.Z12
open Go Go.Ab Go.Proofs
theorem rInsOf {q:Option Bool} {ws:TV} {ts:List (List UInt8)} (hx:RStrs q ws ts) (hl:ts.length<=1000000) (hs:∀ t,t ∈ ts->t.length<=4000000000) {k:Int} (hk:0<=k/\k<=13) :
  ∃ e,aj prog 20 [I k,ws] (.agg e)/\RIns (some true) e (mkI k (ts.map puV)):=by
 have hok:(mkI k (ts.map puV)).ok:=mkI_ok hk fun n hn=>by
  obtain ⟨t,_,rfl⟩:=List.mem_map.1 hn
  exact cI t
 obtain ⟨w0,g0,p0⟩:=lI0 hx hl hs (op:=k)
 obtain ⟨w2,g2,p2⟩:=lI2 hx hl hs (op:=k)
 obtain ⟨w4,g4,p4⟩:=lI4 hx hl hs (op:=k)
 obtain ⟨w5,g5,p5⟩:=lI5 hx hl hs (op:=k)
 obtain ⟨w6,g6,p6⟩:=lI6 hx hl hs (op:=k)
 obtain ⟨w7,g7,p7⟩:=lI7 hx hl hs (op:=k)
 obtain ⟨w8,g8,p8⟩:=lI8 hx hl hs (op:=k)
 simp only [q9,FZ] at p0 p2 p4 p5 p6 p7 p8
 rcases (by omega:k=0\/k=1\/k=2\/k=3\/k=4\/k=5\/k=6\/k=7\/k=8\/k=9\/k=10\/k=11\/k=12\/k=13) with rfl | rfl | rfl | rfl | rfl | rfl | rfl | rfl | rfl | rfl | rfl | rfl | rfl | rfl
 ·have hr:aa prog 20 (f20_M (I 0) ws) (.agg [I 0,I 0,I 0,I 0,W 0,I 0,.lit ah]):=by
   unfold f20_M
   refine aa.chk rfl ?_
   refine aa.tv rfl (aa.ite (v:=false) rfl nofun fun _=>?_)
   refine aa.tv rfl (aa.ite (v:=false) rfl nofun fun _=>?_)
   refine aa.tv rfl (f20_1_J ?_)
   unfold f20_1
   refine aa.ite (v:=false) rfl nofun fun _=>?_
   refine aa.tv rfl (aa.ite (v:=false) rfl nofun fun _=>?_)
   refine aa.tv rfl (aa.ite (v:=false) rfl nofun fun _=>?_)
   refine aa.tv rfl (aa.ite (v:=false) rfl nofun fun _=>?_)
   refine aa.tv rfl (aa.ite (v:=false) rfl nofun fun _=>?_)
   refine aa.tv rfl (aa.ite (v:=false) rfl nofun fun _=>?_)
   refine aa.tv rfl (f20_3_J ?_)
   unfold f20_3
   refine aa.ite (v:=false) rfl nofun fun _=>?_
   refine aa.tv rfl (aa.ite (v:=false) rfl nofun fun _=>?_)
   refine aa.tv rfl (aa.ite (v:=false) rfl nofun fun _=>?_)
   refine aa.tv rfl (aa.ite (v:=false) rfl nofun fun _=>?_)
   refine aa.tv rfl (aa.ite (v:=false) rfl nofun fun _=>?_)
   exact aa.chk rfl aa.ret
  exact ⟨_,aj.of (f20_MR _ _) hr,_,rfl,RL.nil,hok⟩
 ·have hr:aa prog 20 (f20_M (I 1) ws) (.agg [I 1,I ((ts.map puV).getD 0 0),I 0,I 0,W ((ts.map puV).getD 1 0),I 0,.lit ah]):=by
   unfold f20_M
   refine aa.chk rfl ?_
   refine aa.tv rfl (aa.ite (v:=true) rfl (fun _=>?_) nofun)
   exact aa.tv hx.len (aa.chk rfl (f20_0_J p0))
  exact ⟨_,aj.of (f20_MR _ _) hr,_,rfl,RL.nil,hok⟩
 ·have hr:aa prog 20 (f20_M (I 2) ws) (.agg [I 2,I ((ts.map puV).getD 0 0),I ((ts.map puV).getD 1 0),I 0,W 0,I 0,.lit ah]):=by
   unfold f20_M
   refine aa.chk rfl ?_
   refine aa.tv rfl (aa.ite (v:=false) rfl nofun fun _=>?_)
   refine aa.tv rfl (aa.ite (v:=true) rfl (fun _=>?_) nofun)
   refine f20_1_J ?_
   unfold f20_1
   refine aa.ite (v:=true) rfl (fun _=>?_) nofun
   exact aa.tv hx.len (aa.chk rfl (f20_2_J p2))
  exact ⟨_,aj.of (f20_MR _ _) hr,_,rfl,RL.nil,hok⟩
 ·have hr:aa prog 20 (f20_M (I 3) ws) (.agg [I 3,I ((ts.map puV).getD 0 0),I ((ts.map puV).getD 1 0),I ((ts.map puV).getD 2 0),W 0,I 0,.lit ah]):=by
   unfold f20_M
   refine aa.chk rfl ?_
   refine aa.tv rfl (aa.ite (v:=false) rfl nofun fun _=>?_)
   refine aa.tv rfl (aa.ite (v:=false) rfl nofun fun _=>?_)
   refine aa.tv rfl (f20_1_J ?_)
   unfold f20_1
   refine aa.ite (v:=false) rfl nofun fun _=>?_
   refine aa.tv rfl (aa.ite (v:=true) rfl (fun _=>?_) nofun)
   refine f20_3_J ?_
   unfold f20_3
   refine aa.ite (v:=true) rfl (fun _=>?_) nofun
   exact aa.tv hx.len (aa.chk rfl (f20_4_J p4))
  exact ⟨_,aj.of (f20_MR _ _) hr,_,rfl,RL.nil,hok⟩
 ·have hr:aa prog 20 (f20_M (I 4) ws) (.agg [I 4,I ((ts.map puV).getD 0 0),I ((ts.map puV).getD 1 0),I ((ts.map puV).getD 2 0),W 0,I 0,.lit ah]):=by
   unfold f20_M
   refine aa.chk rfl ?_
   refine aa.tv rfl (aa.ite (v:=false) rfl nofun fun _=>?_)
   refine aa.tv rfl (aa.ite (v:=false) rfl nofun fun _=>?_)
   refine aa.tv rfl (f20_1_J ?_)
   unfold f20_1
   refine aa.ite (v:=false) rfl nofun fun _=>?_
   refine aa.tv rfl (aa.ite (v:=false) rfl nofun fun _=>?_)
   refine aa.tv rfl (aa.ite (v:=true) rfl (fun _=>?_) nofun)
   refine f20_3_J ?_
   unfold f20_3
   refine aa.ite (v:=true) rfl (fun _=>?_) nofun
   exact aa.tv hx.len (aa.chk rfl (f20_4_J p4))
  exact ⟨_,aj.of (f20_MR _ _) hr,_,rfl,RL.nil,hok⟩
 ·have hr:aa prog 20 (f20_M (I 5) ws) (.agg [I 5,I ((ts.map puV).getD 0 0),I ((ts.map puV).getD 1 0),I ((ts.map puV).getD 2 0),W 0,I 0,.lit ah]):=by
   unfold f20_M
   refine aa.chk rfl ?_
   refine aa.tv rfl (aa.ite (v:=false) rfl nofun fun _=>?_)
   refine aa.tv rfl (aa.ite (v:=false) rfl nofun fun _=>?_)
   refine aa.tv rfl (f20_1_J ?_)
   unfold f20_1
   refine aa.ite (v:=false) rfl nofun fun _=>?_
   refine aa.tv rfl (aa.ite (v:=false) rfl nofun fun _=>?_)
   refine aa.tv rfl (aa.ite (v:=false) rfl nofun fun _=>?_)
   refine aa.tv rfl (aa.ite (v:=true) rfl (fun _=>?_) nofun)
   refine f20_3_J ?_
   unfold f20_3
   refine aa.ite (v:=true) rfl (fun _=>?_) nofun
   exact aa.tv hx.len (aa.chk rfl (f20_4_J p4))
  exact ⟨_,aj.of (f20_MR _ _) hr,_,rfl,RL.nil,hok⟩
 ·have hr:aa prog 20 (f20_M (I 6) ws) (.agg [I 6,I ((ts.map puV).getD 0 0),I ((ts.map puV).getD 1 0),I ((ts.map puV).getD 2 0),W 0,I 0,.lit ah]):=by
   unfold f20_M
   refine aa.chk rfl ?_
   refine aa.tv rfl (aa.ite (v:=false) rfl nofun fun _=>?_)
   refine aa.tv rfl (aa.ite (v:=false) rfl nofun fun _=>?_)
   refine aa.tv rfl (f20_1_J ?_)
   unfold f20_1
   refine aa.ite (v:=false) rfl nofun fun _=>?_
   refine aa.tv rfl (aa.ite (v:=false) rfl nofun fun _=>?_)
   refine aa.tv rfl (aa.ite (v:=false) rfl nofun fun _=>?_)
   refine aa.tv rfl (aa.ite (v:=false) rfl nofun fun _=>?_)
   refine aa.tv rfl (aa.ite (v:=true) rfl (fun _=>?_) nofun)
   refine f20_3_J ?_
   unfold f20_3
   refine aa.ite (v:=true) rfl (fun _=>?_) nofun
   exact aa.tv hx.len (aa.chk rfl (f20_4_J p4))
  exact ⟨_,aj.of (f20_MR _ _) hr,_,rfl,RL.nil,hok⟩
 ·have hr:aa prog 20 (f20_M (I 7) ws) (.agg [I 7,I ((ts.map puV).getD 0 0),I ((ts.map puV).getD 1 0),I ((ts.map puV).getD 2 0),W 0,I 0,.lit ah]):=by
   unfold f20_M
   refine aa.chk rfl ?_
   refine aa.tv rfl (aa.ite (v:=false) rfl nofun fun _=>?_)
   refine aa.tv rfl (aa.ite (v:=false) rfl nofun fun _=>?_)
   refine aa.tv rfl (f20_1_J ?_)
   unfold f20_1
   refine aa.ite (v:=false) rfl nofun fun _=>?_
   refine aa.tv rfl (aa.ite (v:=false) rfl nofun fun _=>?_)
   refine aa.tv rfl (aa.ite (v:=false) rfl nofun fun _=>?_)
   refine aa.tv rfl (aa.ite (v:=false) rfl nofun fun _=>?_)
   refine aa.tv rfl (aa.ite (v:=false) rfl nofun fun _=>?_)
   refine aa.tv rfl (aa.ite (v:=true) rfl (fun _=>?_) nofun)
   refine f20_3_J ?_
   unfold f20_3
   refine aa.ite (v:=true) rfl (fun _=>?_) nofun
   exact aa.tv hx.len (aa.chk rfl (f20_4_J p4))
  exact ⟨_,aj.of (f20_MR _ _) hr,_,rfl,RL.nil,hok⟩
 ·have hr:aa prog 20 (f20_M (I 8) ws) (.agg [I 8,I ((ts.map puV).getD 0 0),I ((ts.map puV).getD 1 0),I ((ts.map puV).getD 2 0),W 0,I 0,.lit ah]):=by
   unfold f20_M
   refine aa.chk rfl ?_
   refine aa.tv rfl (aa.ite (v:=false) rfl nofun fun _=>?_)
   refine aa.tv rfl (aa.ite (v:=false) rfl nofun fun _=>?_)
   refine aa.tv rfl (f20_1_J ?_)
   unfold f20_1
   refine aa.ite (v:=false) rfl nofun fun _=>?_
   refine aa.tv rfl (aa.ite (v:=false) rfl nofun fun _=>?_)
   refine aa.tv rfl (aa.ite (v:=false) rfl nofun fun _=>?_)
   refine aa.tv rfl (aa.ite (v:=false) rfl nofun fun _=>?_)
   refine aa.tv rfl (aa.ite (v:=false) rfl nofun fun _=>?_)
   refine aa.tv rfl (aa.ite (v:=false) rfl nofun fun _=>?_)
   refine aa.tv rfl (f20_3_J ?_)
   unfold f20_3
   refine aa.ite (v:=true) rfl (fun _=>?_) nofun
   exact aa.tv hx.len (aa.chk rfl (f20_4_J p4))
  exact ⟨_,aj.of (f20_MR _ _) hr,_,rfl,RL.nil,hok⟩
 ·have hr:aa prog 20 (f20_M (I 9) ws) (.agg [I 9,I ((ts.map puV).getD 0 0),I ((ts.map puV).getD 1 0),I 0,W 0,I 0,.lit ah]):=by
   unfold f20_M
   refine aa.chk rfl ?_
   refine aa.tv rfl (aa.ite (v:=false) rfl nofun fun _=>?_)
   refine aa.tv rfl (aa.ite (v:=false) rfl nofun fun _=>?_)
   refine aa.tv rfl (f20_1_J ?_)
   unfold f20_1
   refine aa.ite (v:=true) rfl (fun _=>?_) nofun
   exact aa.tv hx.len (aa.chk rfl (f20_2_J p2))
  exact ⟨_,aj.of (f20_MR _ _) hr,_,rfl,RL.nil,hok⟩
 ·have hr:aa prog 20 (f20_M (I 10) ws) (.agg [I 10,I 0,I ((ts.map puV).getD 0 0),I ((ts.map puV).getD 1 0),W 0,I 0,.lit ah]):=by
   unfold f20_M
   refine aa.chk rfl ?_
   refine aa.tv rfl (aa.ite (v:=false) rfl nofun fun _=>?_)
   refine aa.tv rfl (aa.ite (v:=false) rfl nofun fun _=>?_)
   refine aa.tv rfl (f20_1_J ?_)
   unfold f20_1
   refine aa.ite (v:=false) rfl nofun fun _=>?_
   refine aa.tv rfl (aa.ite (v:=false) rfl nofun fun _=>?_)
   refine aa.tv rfl (aa.ite (v:=false) rfl nofun fun _=>?_)
   refine aa.tv rfl (aa.ite (v:=false) rfl nofun fun _=>?_)
   refine aa.tv rfl (aa.ite (v:=false) rfl nofun fun _=>?_)
   refine aa.tv rfl (aa.ite (v:=false) rfl nofun fun _=>?_)
   refine aa.tv rfl (f20_3_J ?_)
   unfold f20_3
   refine aa.ite (v:=false) rfl nofun fun _=>?_
   refine aa.tv rfl (aa.ite (v:=true) rfl (fun _=>?_) nofun)
   exact aa.tv hx.len (aa.chk rfl (f20_5_J p5))
  exact ⟨_,aj.of (f20_MR _ _) hr,_,rfl,RL.nil,hok⟩
 ·have hr:aa prog 20 (f20_M (I 11) ws) (.agg [I 11,I ((ts.map puV).getD 0 0),I 0,I 0,W 0,I ((ts.map puV).getD 1 0),w6]):=by
   unfold f20_M
   refine aa.chk rfl ?_
   refine aa.tv rfl (aa.ite (v:=false) rfl nofun fun _=>?_)
   refine aa.tv rfl (aa.ite (v:=false) rfl nofun fun _=>?_)
   refine aa.tv rfl (f20_1_J ?_)
   unfold f20_1
   refine aa.ite (v:=false) rfl nofun fun _=>?_
   refine aa.tv rfl (aa.ite (v:=false) rfl nofun fun _=>?_)
   refine aa.tv rfl (aa.ite (v:=false) rfl nofun fun _=>?_)
   refine aa.tv rfl (aa.ite (v:=false) rfl nofun fun _=>?_)
   refine aa.tv rfl (aa.ite (v:=false) rfl nofun fun _=>?_)
   refine aa.tv rfl (aa.ite (v:=false) rfl nofun fun _=>?_)
   refine aa.tv rfl (f20_3_J ?_)
   unfold f20_3
   refine aa.ite (v:=false) rfl nofun fun _=>?_
   refine aa.tv rfl (aa.ite (v:=false) rfl nofun fun _=>?_)
   refine aa.tv rfl (aa.ite (v:=true) rfl (fun _=>?_) nofun)
   exact aa.tv hx.len (aa.chk rfl (f20_6_J p6))
  exact ⟨_,aj.of (f20_MR _ _) hr,_,rfl,(by show RInts _ w6 ((ts.map puV).drop 2); rw [<- List.map_drop]; exact g6),hok⟩
 ·have hr:aa prog 20 (f20_M (I 12) ws) (.agg [I 12,I 0,I ((ts.map puV).getD 0 0),I 0,W 0,I 0,.lit ah]):=by
   unfold f20_M
   refine aa.chk rfl ?_
   refine aa.tv rfl (aa.ite (v:=false) rfl nofun fun _=>?_)
   refine aa.tv rfl (aa.ite (v:=false) rfl nofun fun _=>?_)
   refine aa.tv rfl (f20_1_J ?_)
   unfold f20_1
   refine aa.ite (v:=false) rfl nofun fun _=>?_
   refine aa.tv rfl (aa.ite (v:=false) rfl nofun fun _=>?_)
   refine aa.tv rfl (aa.ite (v:=false) rfl nofun fun _=>?_)
   refine aa.tv rfl (aa.ite (v:=false) rfl nofun fun _=>?_)
   refine aa.tv rfl (aa.ite (v:=false) rfl nofun fun _=>?_)
   refine aa.tv rfl (aa.ite (v:=false) rfl nofun fun _=>?_)
   refine aa.tv rfl (f20_3_J ?_)
   unfold f20_3
   refine aa.ite (v:=false) rfl nofun fun _=>?_
   refine aa.tv rfl (aa.ite (v:=false) rfl nofun fun _=>?_)
   refine aa.tv rfl (aa.ite (v:=false) rfl nofun fun _=>?_)
   refine aa.tv rfl (aa.ite (v:=true) rfl (fun _=>?_) nofun)
   exact aa.tv hx.len (aa.chk rfl (f20_7_J p7))
  exact ⟨_,aj.of (f20_MR _ _) hr,_,rfl,RL.nil,hok⟩
 ·have hr:aa prog 20 (f20_M (I 13) ws) (.agg [I 13,I ((ts.map puV).getD 0 0),I 0,I 0,W 0,I 0,.lit ah]):=by
   unfold f20_M
   refine aa.chk rfl ?_
   refine aa.tv rfl (aa.ite (v:=false) rfl nofun fun _=>?_)
   refine aa.tv rfl (aa.ite (v:=false) rfl nofun fun _=>?_)
   refine aa.tv rfl (f20_1_J ?_)
   unfold f20_1
   refine aa.ite (v:=false) rfl nofun fun _=>?_
   refine aa.tv rfl (aa.ite (v:=false) rfl nofun fun _=>?_)
   refine aa.tv rfl (aa.ite (v:=false) rfl nofun fun _=>?_)
   refine aa.tv rfl (aa.ite (v:=false) rfl nofun fun _=>?_)
   refine aa.tv rfl (aa.ite (v:=false) rfl nofun fun _=>?_)
   refine aa.tv rfl (aa.ite (v:=false) rfl nofun fun _=>?_)
   refine aa.tv rfl (f20_3_J ?_)
   unfold f20_3
   refine aa.ite (v:=false) rfl nofun fun _=>?_
   refine aa.tv rfl (aa.ite (v:=false) rfl nofun fun _=>?_)
   refine aa.tv rfl (aa.ite (v:=false) rfl nofun fun _=>?_)
   refine aa.tv rfl (aa.ite (v:=false) rfl nofun fun _=>?_)
   refine aa.tv rfl (aa.ite (v:=true) rfl (fun _=>?_) nofun)
   exact aa.tv hx.len (aa.chk rfl (f20_8_J p8))
  exact ⟨_,aj.of (f20_MR _ _) hr,_,rfl,RL.nil,hok⟩
theorem rEndOf {q:Option Bool} {ws:TV} {ts:List (List UInt8)} (hx:RStrs q ws ts) (hl:ts.length<=1000000) (hs:∀ t,t ∈ ts->t.length<=4000000000) {k:Int} (hk:0<=k/\k<=6) :
  ∃ e,aj prog 26 [I k,ws] (.agg e)/\REnd (some true) e (mkE k (ts.map puV)):=by
 have hok:(mkE k (ts.map puV)).ok:=mkE_ok hk fun n hn=>by
  obtain ⟨t,_,rfl⟩:=List.mem_map.1 hn
  exact cI t
 obtain ⟨w1,g1,p1⟩:=lE1 hx hl hs (op:=k)
 obtain ⟨w2,g2,p2⟩:=lE2 hx hl hs (op:=k)
 obtain ⟨w3,g3,p3⟩:=lE3 hx hl hs (op:=k)
 obtain ⟨w4,g4,p4⟩:=lE4 hx hl hs (op:=k)
 simp only [q9] at p1 p2 p3 p4
 rcases (by omega:k=0\/k=1\/k=2\/k=3\/k=4\/k=5\/k=6) with rfl | rfl | rfl | rfl | rfl | rfl | rfl
 ·have hr:aa prog 26 (f26_M (I 0) ws) (.agg [I 0,I 0,I 0,I 0,.lit ah,I 0,I 0,I 0]):=by
   unfold f26_M
   refine aa.chk rfl ?_
   refine aa.tv rfl (aa.ite (v:=false) rfl nofun fun _=>?_)
   refine aa.tv rfl (f26_0_J ?_)
   unfold f26_0
   refine aa.ite (v:=false) rfl nofun fun _=>?_
   refine aa.tv rfl (aa.ite (v:=false) rfl nofun fun _=>?_)
   refine aa.tv rfl (aa.ite (v:=false) rfl nofun fun _=>?_)
   refine aa.tv rfl (aa.ite (v:=false) rfl nofun fun _=>?_)
   exact aa.chk rfl aa.ret
  exact ⟨_,aj.of (f26_MR _ _) hr,_,rfl,RL.nil,hok⟩
 ·have hr:aa prog 26 (f26_M (I 1) ws) (.agg [I 1,I ((ts.map puV).getD 0 0),I 0,I 0,.lit ah,I 0,I 0,I 0]):=by
   unfold f26_M
   refine aa.chk rfl ?_
   refine aa.tv rfl (aa.ite (v:=true) rfl (fun _=>?_) nofun)
   refine f26_0_J ?_
   unfold f26_0
   refine aa.ite (v:=true) rfl (fun _=>?_) nofun
   exact aa.tv hx.len (aa.chk rfl (f26_1_J p1))
  exact ⟨_,aj.of (f26_MR _ _) hr,_,rfl,RL.nil,hok⟩
 ·have hr:aa prog 26 (f26_M (I 2) ws) (.agg [I 2,I 0,I 0,I 0,.lit ah,I ((ts.map puV).getD 0 0),I 0,I 0]):=by
   unfold f26_M
   refine aa.chk rfl ?_
   refine aa.tv rfl (aa.ite (v:=false) rfl nofun fun _=>?_)
   refine aa.tv rfl (f26_0_J ?_)
   unfold f26_0
   refine aa.ite (v:=false) rfl nofun fun _=>?_
   refine aa.tv rfl (aa.ite (v:=true) rfl (fun _=>?_) nofun)
   exact aa.tv hx.len (aa.chk rfl (f26_2_J p2))
  exact ⟨_,aj.of (f26_MR _ _) hr,_,rfl,RL.nil,hok⟩
 ·have hr:aa prog 26 (f26_M (I 3) ws) (.agg [I 3,I ((ts.map puV).getD 0 0),I 0,I 0,.lit ah,I ((ts.map puV).getD 1 0),I ((ts.map puV).getD 2 0),I 0]):=by
   unfold f26_M
   refine aa.chk rfl ?_
   refine aa.tv rfl (aa.ite (v:=false) rfl nofun fun _=>?_)
   refine aa.tv rfl (f26_0_J ?_)
   unfold f26_0
   refine aa.ite (v:=false) rfl nofun fun _=>?_
   refine aa.tv rfl (aa.ite (v:=false) rfl nofun fun _=>?_)
   refine aa.tv rfl (aa.ite (v:=true) rfl (fun _=>?_) nofun)
   exact aa.tv hx.len (aa.chk rfl (f26_3_J p3))
  exact ⟨_,aj.of (f26_MR _ _) hr,_,rfl,RL.nil,hok⟩
 ·have hr:aa prog 26 (f26_M (I 4) ws) (.agg [I 4,I 0,I ((ts.map puV).getD 0 0),I ((ts.map puV).getD 1 0),w4,I ((ts.map puV).getD 2 0),I 0,I ((ts.map puV).getD 3 0)]):=by
   unfold f26_M
   refine aa.chk rfl ?_
   refine aa.tv rfl (aa.ite (v:=false) rfl nofun fun _=>?_)
   refine aa.tv rfl (f26_0_J ?_)
   unfold f26_0
   refine aa.ite (v:=false) rfl nofun fun _=>?_
   refine aa.tv rfl (aa.ite (v:=false) rfl nofun fun _=>?_)
   refine aa.tv rfl (aa.ite (v:=false) rfl nofun fun _=>?_)
   refine aa.tv rfl (aa.ite (v:=true) rfl (fun _=>?_) nofun)
   exact aa.tv hx.len (aa.chk rfl (f26_4_J p4))
  exact ⟨_,aj.of (f26_MR _ _) hr,_,rfl,(by show RInts _ w4 ((ts.map puV).drop 4); rw [<- List.map_drop]; exact g4),hok⟩
 ·have hr:aa prog 26 (f26_M (I 5) ws) (.agg [I 5,I ((ts.map puV).getD 0 0),I 0,I 0,.lit ah,I 0,I 0,I 0]):=by
   unfold f26_M
   refine aa.chk rfl ?_
   refine aa.tv rfl (aa.ite (v:=false) rfl nofun fun _=>?_)
   refine aa.tv rfl (f26_0_J ?_)
   unfold f26_0
   refine aa.ite (v:=true) rfl (fun _=>?_) nofun
   exact aa.tv hx.len (aa.chk rfl (f26_1_J p1))
  exact ⟨_,aj.of (f26_MR _ _) hr,_,rfl,RL.nil,hok⟩
 ·have hr:aa prog 26 (f26_M (I 6) ws) (.agg [I 6,I 0,I 0,I 0,.lit ah,I 0,I 0,I 0]):=by
   unfold f26_M
   refine aa.chk rfl ?_
   refine aa.tv rfl (aa.ite (v:=false) rfl nofun fun _=>?_)
   refine aa.tv rfl (f26_0_J ?_)
   unfold f26_0
   refine aa.ite (v:=false) rfl nofun fun _=>?_
   refine aa.tv rfl (aa.ite (v:=false) rfl nofun fun _=>?_)
   refine aa.tv rfl (aa.ite (v:=false) rfl nofun fun _=>?_)
   refine aa.tv rfl (aa.ite (v:=false) rfl nofun fun _=>?_)
   exact aa.chk rfl aa.ret
  exact ⟨_,aj.of (f26_MR _ _) hr,_,rfl,RL.nil,hok⟩
end Go.Ab.Z12
end
section
set_option maxRecDepth 100000
namespace Go.Ab
theorem RL.wO {α:Type} {q:Option Bool} {s:Nat} {R:List TV->α->Prop} {y:TV} {l:List α} (hy:RL q s R y l) {k:Nat} (hk:k<=l.length):∃ y',ib k (l.length - k) y=some y'/\RL q s R y' (l.drop k):=by
 rcases hy with ⟨rfl,rfl⟩ | ⟨o,xs,rfl,hq,h,hb⟩
 ·have:k=0:=by simpa using hk
  subst this
  exact ⟨.lit ah,rfl,by simpa using RL.nil⟩
 ·have hxl:=h.length
  refine ⟨.sl o s ((xs.drop k).take (l.length - k)),?_,.sl hq ?_ (by simp; omega)⟩
  ·simp [ib]; omega
  ·have:=(h.drop k).take (l.length - k)
   rwa [List.take_of_length_le (l:=l.drop k) (by simp)] at this
end Go.Ab
namespace Go.Ab.Z12
open Go Go.Ab Go.Proofs
end Go.Ab.Z12
end
section
set_option maxRecDepth 20000
namespace Go.Ab
open Go.Ab.Z12
theorem sQ:∀ (k:Nat) (s t:List UInt8),t ∈ Lib.splitK [32] 0 k s->t.length<=s.length
 | 0,s,t,h=>by
  rw [Lib.splitK,List.mem_singleton] at h
  rw [h]; exact Nat.le_refl _
 | k + 1, s, t, h => by
  rw [Lib.splitK] at h
  split at h
  ·rw [List.mem_singleton] at h
   rw [h]; exact Nat.le_refl _
  ·rcases List.mem_cons.1 h with rfl | h
   ·rw [List.length_take]; omega
   ·have:=sQ k _ t h
    rw [List.length_drop] at this
    omega
theorem j3 {s t:List UInt8} (h:t ∈ j8 s):t.length<=s.length:=by
 rw [pc] at h
 exact sQ _ _ _ h
theorem nQ {s w:List UInt8} {ts:List (List UInt8)} (hw:j8 s=w :: ts):∀ (w':List UInt8) (ts':List (List UInt8)),plain w'->(∀ t,t ∈ ts'->plain t)->ts'.length<=13->s=cW w' ts'->w=w'/\ts=ts':=by
 intro w' ts' h1 h2 h3 h4
 subst h4
 rw [zE h1 h2 h3] at hw
 cases hw
 exact ⟨rfl,rfl⟩
theorem kM (a b:List UInt8):pbin .str .neq (Sb a) (Sb b)=some (B (!decide (a=b))):=by
 by_cases h:a=b
 ·subst h; simp [pbin,kn]
 ·simp [pbin,kn,h]
theorem sX (n:Nat):pbin (.int .i64) .gtr (I (n:Int)) (I 8)=some (B (decide (8 < n))):=by
 by_cases h:8 < n
 ·simp [pbin,fx,h]; omega
 ·simp [pbin,fx,h]; omega
end Go.Ab
namespace Go.Ab.Z12
open Go Go.Ab Go.Proofs
theorem rIns {s:List UInt8} (hs:s.length<=4000000000):∃ e,aj prog 6 [Sb s] (.tup [.agg e,B (jd s).isSome])/\RIns (some true) e ((jd s).getD ⟨0,0,0,0,0,0,[]⟩):=by
 obtain ⟨v0,h0,hv⟩:=wM hs
 obtain ⟨w,ts,hw,hl⟩:=ja s
 rw [hw] at hv
 have hmem:∀ t,t ∈ ts->t.length<=4000000000:=fun t ht=>Nat.le_trans (j3 (s:=s) (by rw [hw]; exact GL _ ht)) hs
 have hk:0<=opN w/\opN w<=13:=by
  rcases wH w with h | ⟨h,_⟩ <;> omega
 obtain ⟨e3,he3,hr3⟩:=RL.pel hv (i:=0) rfl
 have hr3:e3=[Sb w]:=hr3
 subst hr3
 obtain ⟨y,hy1,hy2⟩:=RL.wO hv (k:=1) (by simp)
 have hyf:RStrs (some false) (Ab.frz y) ts:=hy2.frz fun _ _ h=>by rw [show _=_ from h]; rfl
 obtain ⟨e,hi,ei⟩:=rInsOf hyf (by omega) hmem hk
 have heq:=fun x=>DL (s:=s) (w:=w) (ts:=ts) (pu:=puV) cI (fun n h1 h2=>oG h1 h2) (nQ hw) (x:=x)
 obtain ⟨x,hx⟩:∃ x,x=mkI (opN w) (ts.map puV):=⟨_,rfl⟩
 rw [<- hx] at ei heq
 have hargs:x.args.length<=20:=by
  rw [hx]
  unfold mkI
  repeat' split
  all_goals (simp only [List.length_nil,List.length_drop,List.length_map]; omega)
 have hsz:(Bool.and (slSize v0 1) (Nat.blt 0 (w :: ts).length))=true:=by rw [RL.slSize hv]; simp
 have hsz2:(Bool.and (Bool.and (slSize v0 1) (Nat.ble 1 (w :: ts).length)) (Nat.ble (w :: ts).length (w :: ts).length))=true:=by rw [RL.slSize hv]; simp
 have hfit:ab zSl [v0] 0=true:=by simp [ab,zSl,aG,RL.isSl hv]
 obtain ⟨g,rfl,hg,hok⟩:=ei
 have hfit2:(Bool.and (TV.isAgg (.agg [I x.op,I x.dst,I x.a,I x.b,W x.k,I x.f,g]) 7) (ab ED (TV.cellsL true (.agg [I x.op,I x.dst,I x.a,I x.b,W x.k,I x.f,g])) 0))=true:=by simp [TV.isAgg,TV.cellsL,ab,ED,aG,hg.isSl,TV.isSc,scV]
 have none_of:¬ (x.op≠0/\x.args.length<=8/\em x=s)->jd s=none:=fun h=>by
  cases hq:jd s with
  | none=>rfl
  | some z =>
   obtain ⟨h1,h2⟩:=(heq z).2 hq
   subst h1
   exact absurd h2 h
 have some_of:x.op≠0->x.args.length<=8->em x=s->jd s=some x:=fun h1 h2 h3=>(heq x).1 ⟨rfl,h1,h2,h3⟩
 suffices H:∃ e,aa prog 6 (f6_M (Sb s)) (.tup [.agg e,B (jd s).isSome])/\RIns (some true) e ((jd s).getD ⟨0,0,0,0,0,0,[]⟩) by
  obtain ⟨e,h1,h2⟩:=H
  exact ⟨e,aj.of (f6_MR _) h1,h2⟩
 have zero:RIns (some true) [I 0,I 0,I 0,I 0,W 0,I 0,.lit ah] ⟨0,0,0,0,0,0,[]⟩:=⟨_,rfl,RL.nil,by unfold DIns.ok inI inW; decide⟩
 unfold f6_M
 have start:∀ {r:TV} {K:TV->Prg TV},aa prog 6 (K (B (decide (x.op=0)))) r->aa prog 6 (Prg.tv (pbin (Kd.int IntKind.i64) BinOp.eql (TV.cell (.agg [I x.op,I x.dst,I x.a,I x.b,W x.k,I x.f,g]) 0) (TV.lit (Value.int IntKind.i64 (0:Int)))) K) r:=fun h=>aa.tv (iEq _ _) h
 by_cases h1:x.op=0
 ·rw [none_of fun h=>h.1 h1]
  refine ⟨_,aa.call h0 (aa.chk hfit (aa.nat hv.slLen (aa.nat (v:=0) rfl (aa.chk hsz (aa.tvs he3 (aa.chk rfl (aa.call (yu w) (aa.chk rfl (aa.nat hv.slLen (aa.nat (v:=1) rfl (aa.chk hsz2 (aa.tv hy1 (aa.call hi (aa.chk hfit2 (start (aa.ite (v:=true) (by simp [asBool,h1]) (fun _=>aa.ret) nofun)))))))))))))))),zero⟩
 by_cases h2:x.args.length<=8
 case neg =>
  rw [none_of fun h=>h2 h.2.1]
  refine ⟨_,aa.call h0 (aa.chk hfit (aa.nat hv.slLen (aa.nat (v:=0) rfl (aa.chk hsz (aa.tvs he3 (aa.chk rfl (aa.call (yu w) (aa.chk rfl (aa.nat hv.slLen (aa.nat (v:=1) rfl (aa.chk hsz2 (aa.tv hy1 (aa.call hi (aa.chk hfit2 (start (aa.ite (v:=false) (by simp [asBool,h1]) nofun fun _=>aa.tv hg.len (aa.tv (sX _) (aa.ite (v:=true) (by simp [asBool]; omega) (fun _=>aa.ret) nofun)))))))))))))))))),zero⟩
 have hshow:=xv (q:=some false) (e:=[I x.op,I x.dst,I x.a,I x.b,W x.k,I x.f,Ab.frz g]) ⟨_,rfl,hg.frz fun _ _ h=>h.frz,hok⟩ hargs
 by_cases h3:em x=s
 ·rw [some_of h1 h2 h3]
  refine ⟨_,aa.call h0 (aa.chk hfit (aa.nat hv.slLen (aa.nat (v:=0) rfl (aa.chk hsz (aa.tvs he3 (aa.chk rfl (aa.call (yu w) (aa.chk rfl (aa.nat hv.slLen (aa.nat (v:=1) rfl (aa.chk hsz2 (aa.tv hy1 (aa.call hi (aa.chk hfit2 (start (aa.ite (v:=false) (by simp [asBool,h1]) nofun fun _=>aa.tv hg.len (aa.tv (sX _) (aa.ite (v:=false) (by simp [asBool]; omega) nofun fun _=>aa.call hshow (aa.chk rfl (aa.tv (kM _ _) (aa.ite (v:=false) (by simp [asBool,h3]) nofun fun _=>aa.ret))))))))))))))))))))),⟨g,rfl,hg,hok⟩⟩
 ·rw [none_of fun h=>h3 h.2.2]
  refine ⟨_,aa.call h0 (aa.chk hfit (aa.nat hv.slLen (aa.nat (v:=0) rfl (aa.chk hsz (aa.tvs he3 (aa.chk rfl (aa.call (yu w) (aa.chk rfl (aa.nat hv.slLen (aa.nat (v:=1) rfl (aa.chk hsz2 (aa.tv hy1 (aa.call hi (aa.chk hfit2 (start (aa.ite (v:=false) (by simp [asBool,h1]) nofun fun _=>aa.tv hg.len (aa.tv (sX _) (aa.ite (v:=false) (by simp [asBool]; omega) nofun fun _=>aa.call hshow (aa.chk rfl (aa.tv (kM _ _) (aa.ite (v:=true) (by simp [asBool,h3]) (fun _=>aa.ret) nofun))))))))))))))))))))),zero⟩
theorem rEnd {s:List UInt8} (hs:s.length<=4000000000):∃ e,aj prog 8 [Sb s] (.tup [.agg e,B (jV s).isSome])/\REnd (some true) e ((jV s).getD ⟨0,0,0,0,[],0,0,0⟩):=by
 obtain ⟨v0,h0,hv⟩:=wM hs
 obtain ⟨w,ts,hw,hl⟩:=ja s
 rw [hw] at hv
 have hmem:∀ t,t ∈ ts->t.length<=4000000000:=fun t ht=>Nat.le_trans (j3 (s:=s) (by rw [hw]; exact GL _ ht)) hs
 have hk:0<=kN w/\kN w<=6:=by
  rcases Aw w with h | ⟨h,_⟩ <;> omega
 obtain ⟨e3,he3,hr3⟩:=RL.pel hv (i:=0) rfl
 have hr3:e3=[Sb w]:=hr3
 subst hr3
 obtain ⟨y,hy1,hy2⟩:=RL.wO hv (k:=1) (by simp)
 have hyf:RStrs (some false) (Ab.frz y) ts:=hy2.frz fun _ _ h=>by rw [show _=_ from h]; rfl
 obtain ⟨e,hi,ei⟩:=rEndOf hyf (by omega) hmem hk
 have heq:=fun x=>Dt (s:=s) (w:=w) (ts:=ts) (pu:=puV) cI (fun n h1 h2=>oG h1 h2) (nQ hw) (x:=x)
 obtain ⟨x,hx⟩:∃ x,x=mkE (kN w) (ts.map puV):=⟨_,rfl⟩
 rw [<- hx] at ei heq
 have hargs:x.args.length<=20:=by
  rw [hx]
  unfold mkE
  repeat' split
  all_goals (simp only [List.length_nil,List.length_drop,List.length_map]; omega)
 have hsz:(Bool.and (slSize v0 1) (Nat.blt 0 (w :: ts).length))=true:=by rw [RL.slSize hv]; simp
 have hsz2:(Bool.and (Bool.and (slSize v0 1) (Nat.ble 1 (w :: ts).length)) (Nat.ble (w :: ts).length (w :: ts).length))=true:=by rw [RL.slSize hv]; simp
 have hfit:ab zSl [v0] 0=true:=by simp [ab,zSl,aG,RL.isSl hv]
 obtain ⟨g,rfl,hg,hok⟩:=ei
 have hfit2:(Bool.and (TV.isAgg (.agg [I x.kind,I x.a,I x.dst,I x.f,g,I x.to,I x.els,I x.pad]) 8) (ab xG (TV.cellsL true (.agg [I x.kind,I x.a,I x.dst,I x.f,g,I x.to,I x.els,I x.pad])) 0))=true:=by simp [TV.isAgg,TV.cellsL,ab,xG,aG,hg.isSl,TV.isSc,scV]
 have none_of:¬ (x.kind≠0/\x.args.length<=8/\gW x=s)->jV s=none:=fun h=>by
  cases hq:jV s with
  | none=>rfl
  | some z =>
   obtain ⟨h1,h2⟩:=(heq z).2 hq
   subst h1
   exact absurd h2 h
 have some_of:x.kind≠0->x.args.length<=8->gW x=s->jV s=some x:=fun h1 h2 h3=>(heq x).1 ⟨rfl,h1,h2,h3⟩
 suffices H:∃ e,aa prog 8 (f8_M (Sb s)) (.tup [.agg e,B (jV s).isSome])/\REnd (some true) e ((jV s).getD ⟨0,0,0,0,[],0,0,0⟩) by
  obtain ⟨e,h1,h2⟩:=H
  exact ⟨e,aj.of (f8_MR _) h1,h2⟩
 have zero:REnd (some true) [I 0,I 0,I 0,I 0,.lit ah,I 0,I 0,I 0] ⟨0,0,0,0,[],0,0,0⟩:=⟨_,rfl,RL.nil,by unfold DEnd.ok inI; decide⟩
 unfold f8_M
 have start:∀ {r:TV} {K:TV->Prg TV},aa prog 8 (K (B (decide (x.kind=0)))) r->aa prog 8 (Prg.tv (pbin (Kd.int IntKind.i64) BinOp.eql (TV.cell (.agg [I x.kind,I x.a,I x.dst,I x.f,g,I x.to,I x.els,I x.pad]) 0) (TV.lit (Value.int IntKind.i64 (0:Int)))) K) r:=fun h=>aa.tv (iEq _ _) h
 by_cases h1:x.kind=0
 ·rw [none_of fun h=>h.1 h1]
  refine ⟨_,aa.call h0 (aa.chk hfit (aa.nat hv.slLen (aa.nat (v:=0) rfl (aa.chk hsz (aa.tvs he3 (aa.chk rfl (aa.call (oL w) (aa.chk rfl (aa.nat hv.slLen (aa.nat (v:=1) rfl (aa.chk hsz2 (aa.tv hy1 (aa.call hi (aa.chk hfit2 (start (aa.ite (v:=true) (by simp [asBool,h1]) (fun _=>aa.ret) nofun)))))))))))))))),zero⟩
 by_cases h2:x.args.length<=8
 case neg =>
  rw [none_of fun h=>h2 h.2.1]
  refine ⟨_,aa.call h0 (aa.chk hfit (aa.nat hv.slLen (aa.nat (v:=0) rfl (aa.chk hsz (aa.tvs he3 (aa.chk rfl (aa.call (oL w) (aa.chk rfl (aa.nat hv.slLen (aa.nat (v:=1) rfl (aa.chk hsz2 (aa.tv hy1 (aa.call hi (aa.chk hfit2 (start (aa.ite (v:=false) (by simp [asBool,h1]) nofun fun _=>aa.tv hg.len (aa.tv (sX _) (aa.ite (v:=true) (by simp [asBool]; omega) (fun _=>aa.ret) nofun)))))))))))))))))),zero⟩
 have hshow:=yz (q:=some false) (e:=[I x.kind,I x.a,I x.dst,I x.f,Ab.frz g,I x.to,I x.els,I x.pad]) ⟨_,rfl,hg.frz fun _ _ h=>h.frz,hok⟩ hargs
 by_cases h3:gW x=s
 ·rw [some_of h1 h2 h3]
  refine ⟨_,aa.call h0 (aa.chk hfit (aa.nat hv.slLen (aa.nat (v:=0) rfl (aa.chk hsz (aa.tvs he3 (aa.chk rfl (aa.call (oL w) (aa.chk rfl (aa.nat hv.slLen (aa.nat (v:=1) rfl (aa.chk hsz2 (aa.tv hy1 (aa.call hi (aa.chk hfit2 (start (aa.ite (v:=false) (by simp [asBool,h1]) nofun fun _=>aa.tv hg.len (aa.tv (sX _) (aa.ite (v:=false) (by simp [asBool]; omega) nofun fun _=>aa.call hshow (aa.chk rfl (aa.tv (kM _ _) (aa.ite (v:=false) (by simp [asBool,h3]) nofun fun _=>aa.ret))))))))))))))))))))),⟨g,rfl,hg,hok⟩⟩
 ·rw [none_of fun h=>h3 h.2.2]
  refine ⟨_,aa.call h0 (aa.chk hfit (aa.nat hv.slLen (aa.nat (v:=0) rfl (aa.chk hsz (aa.tvs he3 (aa.chk rfl (aa.call (oL w) (aa.chk rfl (aa.nat hv.slLen (aa.nat (v:=1) rfl (aa.chk hsz2 (aa.tv hy1 (aa.call hi (aa.chk hfit2 (start (aa.ite (v:=false) (by simp [asBool,h1]) nofun fun _=>aa.tv hg.len (aa.tv (sX _) (aa.ite (v:=false) (by simp [asBool]; omega) nofun fun _=>aa.call hshow (aa.chk rfl (aa.tv (kM _ _) (aa.ite (v:=true) (by simp [asBool,h3]) (fun _=>aa.ret) nofun))))))))))))))))))))),zero⟩
end Go.Ab.Z12
end
section
set_option maxRecDepth 20000
namespace Go.Ab
open Go.Ab.Z12
theorem zT {α β:Type} (f:β->α->β) (b:β) {l:List α} {k:Nat} {a:α} (h:l[k]? = some a):(l.take (k + 1)).foldl f b=f ((l.take k).foldl f b) a:=by
 rw [List.take_add_one,h,List.foldl_append]
 rfl
theorem Dx (k:Nat):pbin (.int .i64) .eql (I (k:Int)) (I 0)=some (B (decide (k=0))):=by
 rw [iEq]
 congr 3
 by_cases h:k=0 <;> simp [h]
end Go.Ab
namespace Go.Ab.Z12
open Go Go.Ab Go.Proofs
theorem rPadOf {q:Option Bool} {ws:TV} {ts:List (List UInt8)} (hx:RStrs q ws ts) (hl:ts.length<=1000000) (hs:∀ t,t ∈ ts->t.length<=4000000000) :
  ∃ e,aj prog 30 [ws] (.agg e)/\RPad (some true) e (qN puV ts):=by
 have key : ∀ (d k : Nat) (g : TV) (p : DPad), k + d = ts.length → p = qN puV (ts.take k) → RWords (some true) g p.catches → p.catches.length ≤ k → (0 ≤ p.dst ∧ p.dst ≤ 65535) →
   ∃ e,aa prog 30 (f30_0 ws (I (ts.length:Nat)) (I (k:Nat)) (I p.dst) (B p.all) (B p.cleanup) g) (.agg e)/\RPad (some true) e (qN puV ts):=by
  intro d
  induction d with
  | zero =>
   intro k g p hk hp hg hc hd
   have hk:k=ts.length:=by omega
   subst hk
   rw [List.take_length] at hp
   subst hp
   have ho:aI g=true:=RL.own hg fun _ _ h=>by rw [h.1]; rfl
   refine ⟨_,?_,g,rfl,hg,by unfold inI; omega⟩
   unfold f30_0
   refine aa.tv rfl (aa.ite aP nofun fun _=>aa.chk ?_ aa.ret)
   simp [ct,aI,ho]
  | succ d ih =>
   intro k g p hk hp hg hc hd
   have hkl:k < ts.length:=by omega
   obtain ⟨e,he,hr⟩:=hx.idx (k:=.i64) (cN hkl)
   have hr:e=[Sb (ts.getD k [])]:=hr
   subst hr
   have hnum:aj prog 48 [Sb (ts.getD k [])] (I (puV (ts.getD k []))):=d8 (hs _ (dZ hkl))
   have hin:=cI (ts.getD k [])
   have hat:=cN hkl
   generalize ts.getD k []=t at he hnum hin hat
   unfold f30_0
   by_cases h0:k=0
   ·subst h0
    have e1:qN puV (ts.take 1)=⟨puV t,[],false,false⟩:=by
     rw [List.take_add_one,hat]; rfl
    have e0:p=⟨0,[],false,false⟩:=by rw [hp]; rfl
    subst e0
    obtain ⟨e,i1,i2⟩:=ih 1 g ⟨puV t,[],false,false⟩ (by omega) e1.symm hg (by simp) hin
    refine ⟨e,?_,i2⟩
    refine aa.tv rfl (aa.ite (aE hkl) (fun _=>?_) nofun)
    refine aa.tvs he (aa.chk rfl (aa.tv (Dx _) (aa.ite (v:=true) rfl (fun _=>?_) nofun)))
    exact aa.call hnum (aa.chk rfl (aa.tv (inc (n:=1) (by omega) (by omega)) (f30_0_J i1)))
   ·have est:qN puV (ts.take (k + 1))=cD puV p t:=by
     obtain ⟨j,rfl⟩:∃ j,k=j + 1:=⟨k - 1,by omega⟩
     cases ts with
     | nil=>simp at hkl
     | cons a r =>
      rw [hp]
      simp only [List.take_succ_cons,qN]
      exact zT _ _ (by simpa using hat)
    have step:aa prog 30=aa prog 30:=rfl
    by_cases h1:t=[99,97,116,99,104]
    ·obtain ⟨e,i1,i2⟩:=ih (k + 1) g p (by omega) (by rw [est]; unfold cD; rw [if_pos h1]) hg (by omega) hd
     refine ⟨e,?_,i2⟩
     refine aa.tv rfl (aa.ite (aE hkl) (fun _=>?_) nofun)
     refine aa.tvs he (aa.chk rfl (aa.tv (Dx _) (aa.ite (v:=false) (by simp [asBool,h0]) nofun fun _=>?_)))
     exact aa.tv (dR t _) (aa.ite (v:=true) (by simp [asBool,h1]) (fun _=>aa.tv (inc (n:=k + 1) (by omega) (by omega)) (f30_0_J i1)) nofun)
    by_cases h2:t=[97,108,108]
    ·obtain ⟨e,i1,i2⟩:=ih (k + 1) g { p with all:=true } (by omega) (by rw [est]; unfold cD; rw [if_neg h1,if_pos h2]) hg (by show p.catches.length<=_; omega) hd
     refine ⟨e,?_,i2⟩
     refine aa.tv rfl (aa.ite (aE hkl) (fun _=>?_) nofun)
     refine aa.tvs he (aa.chk rfl (aa.tv (Dx _) (aa.ite (v:=false) (by simp [asBool,h0]) nofun fun _=>?_)))
     refine aa.tv (dR t _) (aa.ite (v:=false) (by simp [asBool,h1]) nofun fun _=>?_)
     exact aa.tv (dR t _) (aa.ite (v:=true) (by simp [asBool,h2]) (fun _=>aa.tv (inc (n:=k + 1) (by omega) (by omega)) (f30_0_J i1)) nofun)
    by_cases h3:t=[99,108,101,97,110,117,112]
    ·obtain ⟨e,i1,i2⟩:=ih (k + 1) g { p with cleanup:=true } (by omega) (by rw [est]; unfold cD; rw [if_neg h1,if_neg h2,if_pos h3]) hg (by show p.catches.length<=_; omega) hd
     refine ⟨e,?_,i2⟩
     refine aa.tv rfl (aa.ite (aE hkl) (fun _=>?_) nofun)
     refine aa.tvs he (aa.chk rfl (aa.tv (Dx _) (aa.ite (v:=false) (by simp [asBool,h0]) nofun fun _=>?_)))
     refine aa.tv (dR t _) (aa.ite (v:=false) (by simp [asBool,h1]) nofun fun _=>?_)
     refine aa.tv (dR t _) (aa.ite (v:=false) (by simp [asBool,h2]) nofun fun _=>?_)
     exact aa.tv (dR t _) (aa.ite (v:=true) (by simp [asBool,h3]) (fun _=>aa.tv (inc (n:=k + 1) (by omega) (by omega)) (f30_0_J i1)) nofun)
    ·obtain ⟨g',c1,c2⟩:=RL.snoc hg (e:=[W (puV t)]) (a:=puV t) ⟨rfl,by unfold inW; omega⟩ (by omega)
     obtain ⟨e,i1,i2⟩:=ih (k + 1) g' { p with catches:=p.catches ++ [puV t] } (by omega) (by rw [est]; unfold cD; rw [if_neg h1,if_neg h2,if_neg h3]) c2 (by simp; omega) hd
     refine ⟨e,?_,i2⟩
     refine aa.tv rfl (aa.ite (aE hkl) (fun _=>?_) nofun)
     refine aa.tvs he (aa.chk rfl (aa.tv (Dx _) (aa.ite (v:=false) (by simp [asBool,h0]) nofun fun _=>?_)))
     refine aa.tv (dR t _) (aa.ite (v:=false) (by simp [asBool,h1]) nofun fun _=>?_)
     refine aa.tv (dR t _) (aa.ite (v:=false) (by simp [asBool,h2]) nofun fun _=>?_)
     refine aa.tv (dR t _) (aa.ite (v:=false) (by simp [asBool,h3]) nofun fun _=>?_)
     exact aa.call hnum (aa.chk rfl (aa.tv (conv16 hin.1 hin.2) (aa.rws rfl (aa.tv c1 (aa.tv (inc (n:=k + 1) (by omega) (by omega)) (f30_0_J i1))))))
 obtain ⟨e,h1,h2⟩:=key ts.length 0 (.lit ah) ⟨0,[],false,false⟩ (by omega) rfl RL.nil (by simp) (by decide)
 refine ⟨e,aj.of (f30_MR _) ?_,h2⟩
 unfold f30_M
 exact aa.tv hx.len (aa.chk rfl (f30_0_J h1))
theorem rPad {s:List UInt8} (hs:s.length<=4000000000):∃ e,aj prog 10 [Sb s] (.tup [.agg e,B (iQ s).isSome])/\RPad (some true) e ((iQ s).getD ⟨0,[],false,false⟩):=by
 obtain ⟨v0,h0,hv⟩:=wM hs
 obtain ⟨w,ts,hw,hl⟩:=ja s
 rw [hw] at hv
 have hmem:∀ t,t ∈ ts->t.length<=4000000000:=fun t ht=>Nat.le_trans (j3 (s:=s) (by rw [hw]; exact GL _ ht)) hs
 obtain ⟨y,hy1,hy2⟩:=RL.wO hv (k:=1) (by simp)
 have hyf:RStrs (some false) (Ab.frz y) ts:=hy2.frz fun _ _ h=>by rw [show _=_ from h]; rfl
 obtain ⟨e,hi,ei⟩:=rPadOf hyf (by omega) hmem
 have heq:=fun x=>C2 (s:=s) (w:=w) (ts:=ts) (pu:=puV) cI (fun n h1 h2=>oG h1 h2) (nQ hw) (p:=x)
 obtain ⟨x,hx⟩:∃ x,x=qN puV ts:=⟨_,rfl⟩
 rw [<- hx] at ei heq
 have hsz2:(Bool.and (Bool.and (slSize v0 1) (Nat.ble 1 (w :: ts).length)) (Nat.ble (w :: ts).length (w :: ts).length))=true:=by rw [RL.slSize hv]; simp
 have hfit:ab zSl [v0] 0=true:=by simp [ab,zSl,aG,RL.isSl hv]
 obtain ⟨g,rfl,hg,hok⟩:=ei
 have hfit2:(Bool.and (TV.isAgg (.agg [I x.dst,g,B x.all,B x.cleanup]) 4) (ab EJ (TV.cellsL true (.agg [I x.dst,g,B x.all,B x.cleanup])) 0))=true:=by simp [TV.isAgg,TV.cellsL,ab,EJ,aG,hg.isSl,TV.isSc,scV]
 have none_of:¬ (x.catches.length<=8/\kZ x=s)->iQ s=none:=fun h=>by
  cases hq:iQ s with
  | none=>rfl
  | some z =>
   obtain ⟨h1,h2⟩:=(heq z).2 hq
   subst h1
   exact absurd h2 h
 have some_of:x.catches.length<=8->kZ x=s->iQ s=some x:=fun h2 h3=>(heq x).1 ⟨rfl,h2,h3⟩
 suffices H:∃ e,aa prog 10 (f10_M (Sb s)) (.tup [.agg e,B (iQ s).isSome])/\RPad (some true) e ((iQ s).getD ⟨0,[],false,false⟩) by
  obtain ⟨e,h1,h2⟩:=H
  exact ⟨e,aj.of (f10_MR _) h1,h2⟩
 have zero:RPad (some true) [I 0,.lit ah,B false,B false] ⟨0,[],false,false⟩:=⟨_,rfl,RL.nil,by unfold inI; decide⟩
 unfold f10_M
 have start:∀ {r:TV},aa prog 10 (Prg.ite (asBool (B (decide (8 < x.catches.length)))) (Prg.ret (.tup [.agg [I 0,.lit ah,B false,B false],B false])) (Prg.call 31 [.agg [I x.dst,Ab.frz g,B x.all,B x.cleanup]] fun v7=>Prg.chk (ab cp [v7] 0) (Prg.tv (pbin Kd.str BinOp.neq v7 (Sb s)) fun v8=>Prg.ite (asBool v8) (Prg.ret (.tup [.agg [I 0,.lit ah,B false,B false],B false])) (Prg.ret (.tup [.agg [I x.dst,g,B x.all,B x.cleanup],B true]))))) r->aa prog 10 (f10_M (Sb s)) r:=fun h=>by
  unfold f10_M
  exact aa.call h0 (aa.chk hfit (aa.nat hv.slLen (aa.nat (v:=1) rfl (aa.chk hsz2 (aa.tv hy1 (aa.call hi (aa.chk hfit2 (aa.tv hg.len (aa.tv (sX _) h)))))))))
 by_cases h2:x.catches.length<=8
 case neg =>
  rw [none_of fun h=>h2 h.1]
  exact ⟨_,start (aa.ite (v:=true) (by simp [asBool]; omega) (fun _=>aa.ret) nofun),zero⟩
 have hshow:=yb (q:=some false) (e:=[I x.dst,Ab.frz g,B x.all,B x.cleanup]) ⟨_,rfl,hg.frz fun _ _ h=>⟨by rw [h.1]; rfl,h.2⟩,hok⟩ (by omega)
 by_cases h3:kZ x=s
 ·rw [some_of h2 h3]
  exact ⟨_,start (aa.ite (v:=false) (by simp [asBool]; omega) nofun fun _=>aa.call hshow (aa.chk rfl (aa.tv (kM _ _) (aa.ite (v:=false) (by simp [asBool,h3]) nofun fun _=>aa.ret)))),g,rfl,hg,hok⟩
 ·rw [none_of fun h=>h3 h.2]
  exact ⟨_,start (aa.ite (v:=false) (by simp [asBool]; omega) nofun fun _=>aa.call hshow (aa.chk rfl (aa.tv (kM _ _) (aa.ite (v:=true) (by simp [asBool,h3]) (fun _=>aa.ret) nofun)))),zero⟩
end Go.Ab.Z12
end

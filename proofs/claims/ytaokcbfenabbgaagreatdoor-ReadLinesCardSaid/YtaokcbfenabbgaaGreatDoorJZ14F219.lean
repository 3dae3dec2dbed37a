import Derived.Test.YtaokcbfenabbgaaGreatDoorJZ14F193
import Derived.Test.YtaokcbfenabbgaaGreatDoorJZ14F192
set_option linter.all false
section
set_option maxRecDepth 20000
namespace Go.Ab
def fAt (ts:List (List UInt8)) (k j:Nat) (y:TV):TV:=if j < k then I (puV (ts.getD j [])) else y
theorem er (ts:List (List UInt8)) (k j:Nat) (n:Int):aD (fAt ts k j (I n))=true:=by
 unfold fAt
 split <;> rfl
theorem a7 {ts:List (List UInt8)} {k j:Nat} {y:TV} (h:j < k):fAt ts (k + 1) j y=fAt ts k j y:=by
 unfold fAt
 rw [if_pos (by omega),if_pos h]
theorem yO (ts:List (List UInt8)) (j:Nat):fAt ts ts.length j (I 0)=I ((ts.map puV).getD j 0):=by
 unfold fAt
 split
 ·rename_i h
  rw [D7,D7,DY,DT h]
  rfl
 ·rename_i h
  rw [D7,D5 (by rw [List.length_map]; omega)]
  rfl
theorem cO {ts:List (List UInt8)} {k:Nat} (h:k < ts.length):ts[k]? = some (ts.getD k []):=by
 rw [D7,DT h]
 rfl
theorem dQ {ts:List (List UInt8)} {k:Nat} (h:k < ts.length):ts.getD k [] ∈ ts:=D1 (cO h)
theorem cw {ts:List (List UInt8)} {k n:Nat} (h:k < ts.length) (hn:n<=k):(ts.take (k + 1)).drop n=(ts.take k).drop n ++ [ts.getD k []]:=by
 rw [List.take_add_one,cO h,List.drop_append_of_le_length (by rw [List.length_take]; omega)]
 rfl
theorem conv16 {a:Int} (h0:0<=a) (h:a<=65535):pconv (.int .u16) (I a)=some (W a):=by
 show some (TV.lit (.int .u16 (IntKind.u16.wrap a)))=_
 have e:IntKind.u16.wrap a=a:=by
  unfold IntKind.wrap
  simp only [IntKind.bits,IntKind.signed]
  have:a % 65536=a:=Int.emod_eq_of_lt h0 (by omega)
  simp [this]
 rw [e]
theorem Cy (ts:List (List UInt8)) (k j:Nat):pconv (.int .u16) (fAt ts k j (I 0))=some (W (if j < k then puV (ts.getD j []) else 0)):=by
 unfold fAt
 split
 ·have:=c9 (ts.getD j [])
  exact conv16 this.1 this.2
 ·rfl
end Go.Ab
namespace Go.Ab.Z14
open Go Go.Ab Go.Proofs
theorem lI2 {q:Option Bool} {ws:TV} {ts:List (List UInt8)} (hx:RStrs q ws ts) (hl:ts.length<=1000000) (hs:∀ t,t ∈ ts->t.length<=4000000000) {op:Int}:∃ w',RInts (some true) w' ((ts.drop 2).map puV)/\aa prog 20 (f20_2 ws (I (ts.length:Nat)) (I (0:Int)) (.lit af) (I op) (I 0) (I 0) (I 0) (W 0) (I 0) (.lit af)) (.agg [I op,fAt ts ts.length 0 (I 0),fAt ts ts.length 1 (I 0),I 0,W 0,I 0,.lit af]):=by
 have key:∀ (d k:Nat) (w:TV),k + d=ts.length->RInts (some true) w (((ts.take k).drop 2).map puV)->∃ w',RInts (some true) w' ((ts.drop 2).map puV)/\aa prog 20 (f20_2 ws (I (ts.length:Nat)) (I (k:Nat)) w (I op) (fAt ts k 0 (I 0)) (fAt ts k 1 (I 0)) (I 0) (W 0) (I 0) (.lit af)) (.agg [I op,fAt ts ts.length 0 (I 0),fAt ts ts.length 1 (I 0),I 0,W 0,I 0,.lit af]):=by
  intro d
  induction d with
  | zero =>
   intro k w hk hw
   have hk:k=ts.length:=by omega
   subst hk
   have ho:aD w=true:=RL.own hw fun _ _ h=>by rw [h.1]; rfl
   rw [List.take_length] at hw
   refine ⟨w,hw,?_⟩
   unfold f20_2
   refine aa.tv rfl (aa.ite bw nofun fun _=>aa.chk ?_ aa.ret)
   simp [bR,aD,er,ho,af]
  | succ d ih =>
   intro k w hk hw
   have hkl:k < ts.length:=by omega
   obtain ⟨e,he,hr⟩:=hx.idx (k:=.i64) (cO hkl)
   have hr:e=[Sb (ts.getD k [])]:=hr
   subst hr
   have hnum:aw prog 48 [Sb (ts.getD k [])] (I (puV (ts.getD k []))):=dR (hs _ (dQ hkl))
   have hin:=c9 (ts.getD k [])
   by_cases hkn:k < 2
   ·obtain ⟨w',h1,h2⟩:=ih (k + 1) w (by omega) (by rw [List.drop_eq_nil_of_le (by rw [List.length_take]; omega)] at hw ⊢; exact hw)
    refine ⟨w',h1,?_⟩
    unfold f20_2
    refine aa.tv rfl (aa.ite (aK hkl) (fun _=>?_) nofun)
    refine aa.tvs he (aa.chk rfl ?_)
    refine aa.tv rfl (aa.ite (v:=true) (by simp [asBool]; omega) (fun _=>?_) nofun)
    rcases (by omega:k=0\/k=1) with rfl | rfl
    ·refine aa.nat rfl (aa.ite (v:=false) rfl nofun fun _=>aa.ite (v:=true) rfl (fun _=>?_) nofun)
     exact aa.call hnum (aa.chk rfl (aa.tv (inc (n:=1) (by omega) (by omega)) (f20_2_J h2)))
    ·refine aa.nat rfl (aa.ite (v:=true) rfl (fun _=>?_) nofun)
     exact aa.call hnum (aa.chk rfl (aa.tv (inc (n:=2) (by omega) (by omega)) (f20_2_J h2)))
   ·have e:(ts.take (k + 1)).drop 2=(ts.take k).drop 2 ++ [ts.getD k []]:=cw hkl (by omega)
    obtain ⟨w2,c1,c2⟩:=RL.snoc hw (e:=[I (puV (ts.getD k []))]) (a:=puV (ts.getD k [])) ⟨rfl,by constructor <;> omega⟩ (by simp only [List.length_map,List.length_drop,List.length_take]; omega)
    obtain ⟨w',h1,h2⟩:=ih (k + 1) w2 (by omega) (by rw [e,List.map_append]; exact c2)
    refine ⟨w',h1,?_⟩
    rw [a7 (k:=k) (j:=0) (by omega),a7 (k:=k) (j:=1) (by omega)] at h2
    unfold f20_2
    refine aa.tv rfl (aa.ite (aK hkl) (fun _=>?_) nofun)
    refine aa.tvs he (aa.chk rfl ?_)
    refine aa.tv rfl (aa.ite (v:=false) (by simp [asBool]; omega) nofun fun _=>?_)
    exact aa.call hnum (aa.chk rfl (aa.rws rfl (aa.tv c1 (aa.tv (inc (n:=k + 1) (by omega) (by omega)) (f20_2_J h2)))))
 exact key ts.length 0 (.lit af) (by omega) (by rw [List.take_zero,List.drop_nil]; exact RL.nil)
theorem lI4 {q:Option Bool} {ws:TV} {ts:List (List UInt8)} (hx:RStrs q ws ts) (hl:ts.length<=1000000) (hs:∀ t,t ∈ ts->t.length<=4000000000) {op:Int}:∃ w',RInts (some true) w' ((ts.drop 3).map puV)/\aa prog 20 (f20_4 ws (I (ts.length:Nat)) (I (0:Int)) (.lit af) (I op) (I 0) (I 0) (I 0) (W 0) (I 0) (.lit af)) (.agg [I op,fAt ts ts.length 0 (I 0),fAt ts ts.length 1 (I 0),fAt ts ts.length 2 (I 0),W 0,I 0,.lit af]):=by
 have key:∀ (d k:Nat) (w:TV),k + d=ts.length->RInts (some true) w (((ts.take k).drop 3).map puV)->∃ w',RInts (some true) w' ((ts.drop 3).map puV)/\aa prog 20 (f20_4 ws (I (ts.length:Nat)) (I (k:Nat)) w (I op) (fAt ts k 0 (I 0)) (fAt ts k 1 (I 0)) (fAt ts k 2 (I 0)) (W 0) (I 0) (.lit af)) (.agg [I op,fAt ts ts.length 0 (I 0),fAt ts ts.length 1 (I 0),fAt ts ts.length 2 (I 0),W 0,I 0,.lit af]):=by
  intro d
  induction d with
  | zero =>
   intro k w hk hw
   have hk:k=ts.length:=by omega
   subst hk
   have ho:aD w=true:=RL.own hw fun _ _ h=>by rw [h.1]; rfl
   rw [List.take_length] at hw
   refine ⟨w,hw,?_⟩
   unfold f20_4
   refine aa.tv rfl (aa.ite bw nofun fun _=>aa.chk ?_ aa.ret)
   simp [bR,aD,er,ho,af]
  | succ d ih =>
   intro k w hk hw
   have hkl:k < ts.length:=by omega
   obtain ⟨e,he,hr⟩:=hx.idx (k:=.i64) (cO hkl)
   have hr:e=[Sb (ts.getD k [])]:=hr
   subst hr
   have hnum:aw prog 48 [Sb (ts.getD k [])] (I (puV (ts.getD k []))):=dR (hs _ (dQ hkl))
   have hin:=c9 (ts.getD k [])
   by_cases hkn:k < 3
   ·obtain ⟨w',h1,h2⟩:=ih (k + 1) w (by omega) (by rw [List.drop_eq_nil_of_le (by rw [List.length_take]; omega)] at hw ⊢; exact hw)
    refine ⟨w',h1,?_⟩
    unfold f20_4
    refine aa.tv rfl (aa.ite (aK hkl) (fun _=>?_) nofun)
    refine aa.tvs he (aa.chk rfl ?_)
    refine aa.tv rfl (aa.ite (v:=true) (by simp [asBool]; omega) (fun _=>?_) nofun)
    rcases (by omega:k=0\/k=1\/k=2) with rfl | rfl | rfl
    ·refine aa.nat rfl (aa.ite (v:=false) rfl nofun fun _=>aa.ite (v:=false) rfl nofun fun _=>aa.ite (v:=true) rfl (fun _=>?_) nofun)
     exact aa.call hnum (aa.chk rfl (aa.tv (inc (n:=1) (by omega) (by omega)) (f20_4_J h2)))
    ·refine aa.nat rfl (aa.ite (v:=false) rfl nofun fun _=>aa.ite (v:=true) rfl (fun _=>?_) nofun)
     exact aa.call hnum (aa.chk rfl (aa.tv (inc (n:=2) (by omega) (by omega)) (f20_4_J h2)))
    ·refine aa.nat rfl (aa.ite (v:=true) rfl (fun _=>?_) nofun)
     exact aa.call hnum (aa.chk rfl (aa.tv (inc (n:=3) (by omega) (by omega)) (f20_4_J h2)))
   ·have e:(ts.take (k + 1)).drop 3=(ts.take k).drop 3 ++ [ts.getD k []]:=cw hkl (by omega)
    obtain ⟨w2,c1,c2⟩:=RL.snoc hw (e:=[I (puV (ts.getD k []))]) (a:=puV (ts.getD k [])) ⟨rfl,by constructor <;> omega⟩ (by simp only [List.length_map,List.length_drop,List.length_take]; omega)
    obtain ⟨w',h1,h2⟩:=ih (k + 1) w2 (by omega) (by rw [e,List.map_append]; exact c2)
    refine ⟨w',h1,?_⟩
    rw [a7 (k:=k) (j:=0) (by omega),a7 (k:=k) (j:=1) (by omega),a7 (k:=k) (j:=2) (by omega)] at h2
    unfold f20_4
    refine aa.tv rfl (aa.ite (aK hkl) (fun _=>?_) nofun)
    refine aa.tvs he (aa.chk rfl ?_)
    refine aa.tv rfl (aa.ite (v:=false) (by simp [asBool]; omega) nofun fun _=>?_)
    exact aa.call hnum (aa.chk rfl (aa.rws rfl (aa.tv c1 (aa.tv (inc (n:=k + 1) (by omega) (by omega)) (f20_4_J h2)))))
 exact key ts.length 0 (.lit af) (by omega) (by rw [List.take_zero,List.drop_nil]; exact RL.nil)
theorem lI5 {q:Option Bool} {ws:TV} {ts:List (List UInt8)} (hx:RStrs q ws ts) (hl:ts.length<=1000000) (hs:∀ t,t ∈ ts->t.length<=4000000000) {op:Int}:∃ w',RInts (some true) w' ((ts.drop 2).map puV)/\aa prog 20 (f20_5 ws (I (ts.length:Nat)) (I (0:Int)) (.lit af) (I op) (I 0) (I 0) (I 0) (W 0) (I 0) (.lit af)) (.agg [I op,I 0,fAt ts ts.length 0 (I 0),fAt ts ts.length 1 (I 0),W 0,I 0,.lit af]):=by
 have key:∀ (d k:Nat) (w:TV),k + d=ts.length->RInts (some true) w (((ts.take k).drop 2).map puV)->∃ w',RInts (some true) w' ((ts.drop 2).map puV)/\aa prog 20 (f20_5 ws (I (ts.length:Nat)) (I (k:Nat)) w (I op) (I 0) (fAt ts k 0 (I 0)) (fAt ts k 1 (I 0)) (W 0) (I 0) (.lit af)) (.agg [I op,I 0,fAt ts ts.length 0 (I 0),fAt ts ts.length 1 (I 0),W 0,I 0,.lit af]):=by
  intro d
  induction d with
  | zero =>
   intro k w hk hw
   have hk:k=ts.length:=by omega
   subst hk
   have ho:aD w=true:=RL.own hw fun _ _ h=>by rw [h.1]; rfl
   rw [List.take_length] at hw
   refine ⟨w,hw,?_⟩
   unfold f20_5
   refine aa.tv rfl (aa.ite bw nofun fun _=>aa.chk ?_ aa.ret)
   simp [bR,aD,er,ho,af]
  | succ d ih =>
   intro k w hk hw
   have hkl:k < ts.length:=by omega
   obtain ⟨e,he,hr⟩:=hx.idx (k:=.i64) (cO hkl)
   have hr:e=[Sb (ts.getD k [])]:=hr
   subst hr
   have hnum:aw prog 48 [Sb (ts.getD k [])] (I (puV (ts.getD k []))):=dR (hs _ (dQ hkl))
   have hin:=c9 (ts.getD k [])
   by_cases hkn:k < 2
   ·obtain ⟨w',h1,h2⟩:=ih (k + 1) w (by omega) (by rw [List.drop_eq_nil_of_le (by rw [List.length_take]; omega)] at hw ⊢; exact hw)
    refine ⟨w',h1,?_⟩
    unfold f20_5
    refine aa.tv rfl (aa.ite (aK hkl) (fun _=>?_) nofun)
    refine aa.tvs he (aa.chk rfl ?_)
    refine aa.tv rfl (aa.ite (v:=true) (by simp [asBool]; omega) (fun _=>?_) nofun)
    rcases (by omega:k=0\/k=1) with rfl | rfl
    ·refine aa.nat rfl (aa.ite (v:=false) rfl nofun fun _=>aa.ite (v:=true) rfl (fun _=>?_) nofun)
     exact aa.call hnum (aa.chk rfl (aa.tv (inc (n:=1) (by omega) (by omega)) (f20_5_J h2)))
    ·refine aa.nat rfl (aa.ite (v:=true) rfl (fun _=>?_) nofun)
     exact aa.call hnum (aa.chk rfl (aa.tv (inc (n:=2) (by omega) (by omega)) (f20_5_J h2)))
   ·have e:(ts.take (k + 1)).drop 2=(ts.take k).drop 2 ++ [ts.getD k []]:=cw hkl (by omega)
    obtain ⟨w2,c1,c2⟩:=RL.snoc hw (e:=[I (puV (ts.getD k []))]) (a:=puV (ts.getD k [])) ⟨rfl,by constructor <;> omega⟩ (by simp only [List.length_map,List.length_drop,List.length_take]; omega)
    obtain ⟨w',h1,h2⟩:=ih (k + 1) w2 (by omega) (by rw [e,List.map_append]; exact c2)
    refine ⟨w',h1,?_⟩
    rw [a7 (k:=k) (j:=0) (by omega),a7 (k:=k) (j:=1) (by omega)] at h2
    unfold f20_5
    refine aa.tv rfl (aa.ite (aK hkl) (fun _=>?_) nofun)
    refine aa.tvs he (aa.chk rfl ?_)
    refine aa.tv rfl (aa.ite (v:=false) (by simp [asBool]; omega) nofun fun _=>?_)
    exact aa.call hnum (aa.chk rfl (aa.rws rfl (aa.tv c1 (aa.tv (inc (n:=k + 1) (by omega) (by omega)) (f20_5_J h2)))))
 exact key ts.length 0 (.lit af) (by omega) (by rw [List.take_zero,List.drop_nil]; exact RL.nil)
theorem lI6 {q:Option Bool} {ws:TV} {ts:List (List UInt8)} (hx:RStrs q ws ts) (hl:ts.length<=1000000) (hs:∀ t,t ∈ ts->t.length<=4000000000) {op:Int}:∃ w',RInts (some true) w' ((ts.drop 2).map puV)/\aa prog 20 (f20_6 ws (I (ts.length:Nat)) (I (0:Int)) (.lit af) (I op) (I 0) (I 0) (I 0) (W 0) (I 0) (.lit af)) (.agg [I op,fAt ts ts.length 0 (I 0),I 0,I 0,W 0,fAt ts ts.length 1 (I 0),w']):=by
 have key:∀ (d k:Nat) (w:TV),k + d=ts.length->RInts (some true) w (((ts.take k).drop 2).map puV)->∃ w',RInts (some true) w' ((ts.drop 2).map puV)/\aa prog 20 (f20_6 ws (I (ts.length:Nat)) (I (k:Nat)) w (I op) (fAt ts k 0 (I 0)) (I 0) (I 0) (W 0) (fAt ts k 1 (I 0)) (.lit af)) (.agg [I op,fAt ts ts.length 0 (I 0),I 0,I 0,W 0,fAt ts ts.length 1 (I 0),w']):=by
  intro d
  induction d with
  | zero =>
   intro k w hk hw
   have hk:k=ts.length:=by omega
   subst hk
   have ho:aD w=true:=RL.own hw fun _ _ h=>by rw [h.1]; rfl
   rw [List.take_length] at hw
   refine ⟨w,hw,?_⟩
   unfold f20_6
   refine aa.tv rfl (aa.ite bw nofun fun _=>aa.chk ?_ aa.ret)
   simp [bR,aD,er,ho,af]
  | succ d ih =>
   intro k w hk hw
   have hkl:k < ts.length:=by omega
   obtain ⟨e,he,hr⟩:=hx.idx (k:=.i64) (cO hkl)
   have hr:e=[Sb (ts.getD k [])]:=hr
   subst hr
   have hnum:aw prog 48 [Sb (ts.getD k [])] (I (puV (ts.getD k []))):=dR (hs _ (dQ hkl))
   have hin:=c9 (ts.getD k [])
   by_cases hkn:k < 2
   ·obtain ⟨w',h1,h2⟩:=ih (k + 1) w (by omega) (by rw [List.drop_eq_nil_of_le (by rw [List.length_take]; omega)] at hw ⊢; exact hw)
    refine ⟨w',h1,?_⟩
    unfold f20_6
    refine aa.tv rfl (aa.ite (aK hkl) (fun _=>?_) nofun)
    refine aa.tvs he (aa.chk rfl ?_)
    refine aa.tv rfl (aa.ite (v:=true) (by simp [asBool]; omega) (fun _=>?_) nofun)
    rcases (by omega:k=0\/k=1) with rfl | rfl
    ·refine aa.nat rfl (aa.ite (v:=false) rfl nofun fun _=>aa.ite (v:=true) rfl (fun _=>?_) nofun)
     exact aa.call hnum (aa.chk rfl (aa.tv (inc (n:=1) (by omega) (by omega)) (f20_6_J h2)))
    ·refine aa.nat rfl (aa.ite (v:=true) rfl (fun _=>?_) nofun)
     exact aa.call hnum (aa.chk rfl (aa.tv (inc (n:=2) (by omega) (by omega)) (f20_6_J h2)))
   ·have e:(ts.take (k + 1)).drop 2=(ts.take k).drop 2 ++ [ts.getD k []]:=cw hkl (by omega)
    obtain ⟨w2,c1,c2⟩:=RL.snoc hw (e:=[I (puV (ts.getD k []))]) (a:=puV (ts.getD k [])) ⟨rfl,by constructor <;> omega⟩ (by simp only [List.length_map,List.length_drop,List.length_take]; omega)
    obtain ⟨w',h1,h2⟩:=ih (k + 1) w2 (by omega) (by rw [e,List.map_append]; exact c2)
    refine ⟨w',h1,?_⟩
    rw [a7 (k:=k) (j:=0) (by omega),a7 (k:=k) (j:=1) (by omega)] at h2
    unfold f20_6
    refine aa.tv rfl (aa.ite (aK hkl) (fun _=>?_) nofun)
    refine aa.tvs he (aa.chk rfl ?_)
    refine aa.tv rfl (aa.ite (v:=false) (by simp [asBool]; omega) nofun fun _=>?_)
    exact aa.call hnum (aa.chk rfl (aa.rws rfl (aa.tv c1 (aa.tv (inc (n:=k + 1) (by omega) (by omega)) (f20_6_J h2)))))
 exact key ts.length 0 (.lit af) (by omega) (by rw [List.take_zero,List.drop_nil]; exact RL.nil)
theorem lI7 {q:Option Bool} {ws:TV} {ts:List (List UInt8)} (hx:RStrs q ws ts) (hl:ts.length<=1000000) (hs:∀ t,t ∈ ts->t.length<=4000000000) {op:Int}:∃ w',RInts (some true) w' ((ts.drop 1).map puV)/\aa prog 20 (f20_7 ws (I (ts.length:Nat)) (I (0:Int)) (.lit af) (I op) (I 0) (I 0) (I 0) (W 0) (I 0) (.lit af)) (.agg [I op,I 0,fAt ts ts.length 0 (I 0),I 0,W 0,I 0,.lit af]):=by
 have key:∀ (d k:Nat) (w:TV),k + d=ts.length->RInts (some true) w (((ts.take k).drop 1).map puV)->∃ w',RInts (some true) w' ((ts.drop 1).map puV)/\aa prog 20 (f20_7 ws (I (ts.length:Nat)) (I (k:Nat)) w (I op) (I 0) (fAt ts k 0 (I 0)) (I 0) (W 0) (I 0) (.lit af)) (.agg [I op,I 0,fAt ts ts.length 0 (I 0),I 0,W 0,I 0,.lit af]):=by
  intro d
  induction d with
  | zero =>
   intro k w hk hw
   have hk:k=ts.length:=by omega
   subst hk
   have ho:aD w=true:=RL.own hw fun _ _ h=>by rw [h.1]; rfl
   rw [List.take_length] at hw
   refine ⟨w,hw,?_⟩
   unfold f20_7
   refine aa.tv rfl (aa.ite bw nofun fun _=>aa.chk ?_ aa.ret)
   simp [bR,aD,er,ho,af]
  | succ d ih =>
   intro k w hk hw
   have hkl:k < ts.length:=by omega
   obtain ⟨e,he,hr⟩:=hx.idx (k:=.i64) (cO hkl)
   have hr:e=[Sb (ts.getD k [])]:=hr
   subst hr
   have hnum:aw prog 48 [Sb (ts.getD k [])] (I (puV (ts.getD k []))):=dR (hs _ (dQ hkl))
   have hin:=c9 (ts.getD k [])
   by_cases hkn:k < 1
   ·obtain ⟨w',h1,h2⟩:=ih (k + 1) w (by omega) (by rw [List.drop_eq_nil_of_le (by rw [List.length_take]; omega)] at hw ⊢; exact hw)
    refine ⟨w',h1,?_⟩
    unfold f20_7
    refine aa.tv rfl (aa.ite (aK hkl) (fun _=>?_) nofun)
    refine aa.tvs he (aa.chk rfl ?_)
    refine aa.tv rfl (aa.ite (v:=true) (by simp [asBool]; omega) (fun _=>?_) nofun)
    obtain rfl:k=0:=by omega
    refine aa.nat rfl (aa.ite (v:=true) rfl (fun _=>?_) nofun)
    exact aa.call hnum (aa.chk rfl (aa.tv (inc (n:=1) (by omega) (by omega)) (f20_7_J h2)))
   ·have e:(ts.take (k + 1)).drop 1=(ts.take k).drop 1 ++ [ts.getD k []]:=cw hkl (by omega)
    obtain ⟨w2,c1,c2⟩:=RL.snoc hw (e:=[I (puV (ts.getD k []))]) (a:=puV (ts.getD k [])) ⟨rfl,by constructor <;> omega⟩ (by simp only [List.length_map,List.length_drop,List.length_take]; omega)
    obtain ⟨w',h1,h2⟩:=ih (k + 1) w2 (by omega) (by rw [e,List.map_append]; exact c2)
    refine ⟨w',h1,?_⟩
    rw [a7 (k:=k) (j:=0) (by omega)] at h2
    unfold f20_7
    refine aa.tv rfl (aa.ite (aK hkl) (fun _=>?_) nofun)
    refine aa.tvs he (aa.chk rfl ?_)
    refine aa.tv rfl (aa.ite (v:=false) (by simp [asBool]; omega) nofun fun _=>?_)
    exact aa.call hnum (aa.chk rfl (aa.rws rfl (aa.tv c1 (aa.tv (inc (n:=k + 1) (by omega) (by omega)) (f20_7_J h2)))))
 exact key ts.length 0 (.lit af) (by omega) (by rw [List.take_zero,List.drop_nil]; exact RL.nil)
theorem lI8 {q:Option Bool} {ws:TV} {ts:List (List UInt8)} (hx:RStrs q ws ts) (hl:ts.length<=1000000) (hs:∀ t,t ∈ ts->t.length<=4000000000) {op:Int}:∃ w',RInts (some true) w' ((ts.drop 1).map puV)/\aa prog 20 (f20_8 ws (I (ts.length:Nat)) (I (0:Int)) (.lit af) (I op) (I 0) (I 0) (I 0) (W 0) (I 0) (.lit af)) (.agg [I op,fAt ts ts.length 0 (I 0),I 0,I 0,W 0,I 0,.lit af]):=by
 have key:∀ (d k:Nat) (w:TV),k + d=ts.length->RInts (some true) w (((ts.take k).drop 1).map puV)->∃ w',RInts (some true) w' ((ts.drop 1).map puV)/\aa prog 20 (f20_8 ws (I (ts.length:Nat)) (I (k:Nat)) w (I op) (fAt ts k 0 (I 0)) (I 0) (I 0) (W 0) (I 0) (.lit af)) (.agg [I op,fAt ts ts.length 0 (I 0),I 0,I 0,W 0,I 0,.lit af]):=by
  intro d
  induction d with
  | zero =>
   intro k w hk hw
   have hk:k=ts.length:=by omega
   subst hk
   have ho:aD w=true:=RL.own hw fun _ _ h=>by rw [h.1]; rfl
   rw [List.take_length] at hw
   refine ⟨w,hw,?_⟩
   unfold f20_8
   refine aa.tv rfl (aa.ite bw nofun fun _=>aa.chk ?_ aa.ret)
   simp [bR,aD,er,ho,af]
  | succ d ih =>
   intro k w hk hw
   have hkl:k < ts.length:=by omega
   obtain ⟨e,he,hr⟩:=hx.idx (k:=.i64) (cO hkl)
   have hr:e=[Sb (ts.getD k [])]:=hr
   subst hr
   have hnum:aw prog 48 [Sb (ts.getD k [])] (I (puV (ts.getD k []))):=dR (hs _ (dQ hkl))
   have hin:=c9 (ts.getD k [])
   by_cases hkn:k < 1
   ·obtain ⟨w',h1,h2⟩:=ih (k + 1) w (by omega) (by rw [List.drop_eq_nil_of_le (by rw [List.length_take]; omega)] at hw ⊢; exact hw)
    refine ⟨w',h1,?_⟩
    unfold f20_8
    refine aa.tv rfl (aa.ite (aK hkl) (fun _=>?_) nofun)
    refine aa.tvs he (aa.chk rfl ?_)
    refine aa.tv rfl (aa.ite (v:=true) (by simp [asBool]; omega) (fun _=>?_) nofun)
    obtain rfl:k=0:=by omega
    refine aa.nat rfl (aa.ite (v:=true) rfl (fun _=>?_) nofun)
    exact aa.call hnum (aa.chk rfl (aa.tv (inc (n:=1) (by omega) (by omega)) (f20_8_J h2)))
   ·have e:(ts.take (k + 1)).drop 1=(ts.take k).drop 1 ++ [ts.getD k []]:=cw hkl (by omega)
    obtain ⟨w2,c1,c2⟩:=RL.snoc hw (e:=[I (puV (ts.getD k []))]) (a:=puV (ts.getD k [])) ⟨rfl,by constructor <;> omega⟩ (by simp only [List.length_map,List.length_drop,List.length_take]; omega)
    obtain ⟨w',h1,h2⟩:=ih (k + 1) w2 (by omega) (by rw [e,List.map_append]; exact c2)
    refine ⟨w',h1,?_⟩
    rw [a7 (k:=k) (j:=0) (by omega)] at h2
    unfold f20_8
    refine aa.tv rfl (aa.ite (aK hkl) (fun _=>?_) nofun)
    refine aa.tvs he (aa.chk rfl ?_)
    refine aa.tv rfl (aa.ite (v:=false) (by simp [asBool]; omega) nofun fun _=>?_)
    exact aa.call hnum (aa.chk rfl (aa.rws rfl (aa.tv c1 (aa.tv (inc (n:=k + 1) (by omega) (by omega)) (f20_8_J h2)))))
 exact key ts.length 0 (.lit af) (by omega) (by rw [List.take_zero,List.drop_nil]; exact RL.nil)
theorem lI0 {q:Option Bool} {ws:TV} {ts:List (List UInt8)} (hx:RStrs q ws ts) (hl:ts.length<=1000000) (hs:∀ t,t ∈ ts->t.length<=4000000000) {op:Int}:∃ w',RInts (some true) w' ((ts.drop 2).map puV)/\aa prog 20 (f20_0 ws (I (ts.length:Nat)) (I (0:Int)) (.lit af) (I 0) (I 0) (I 0) (I 0) (W 0) (I 0) (.lit af) (I op) (I 0) (I 0) (I 0) (W 0) (I 0) (.lit af) (I 0)) (.agg [I op,fAt ts ts.length 0 (I 0),I 0,I 0,W (if 1 < ts.length then puV (ts.getD 1 []) else 0),I 0,.lit af]):=by
 have key:∀ (d k:Nat) (w:TV),k + d=ts.length->RInts (some true) w (((ts.take k).drop 2).map puV)->∃ w',RInts (some true) w' ((ts.drop 2).map puV)/\aa prog 20 (f20_0 ws (I (ts.length:Nat)) (I (k:Nat)) w (I 0) (I 0) (I 0) (I 0) (W 0) (I 0) (.lit af) (I op) (fAt ts k 0 (I 0)) (I 0) (I 0) (W 0) (I 0) (.lit af) (fAt ts k 1 (I 0))) (.agg [I op,fAt ts ts.length 0 (I 0),I 0,I 0,W (if 1 < ts.length then puV (ts.getD 1 []) else 0),I 0,.lit af]):=by
  intro d
  induction d with
  | zero =>
   intro k w hk hw
   have hk:k=ts.length:=by omega
   subst hk
   have ho:aD w=true:=RL.own hw fun _ _ h=>by rw [h.1]; rfl
   rw [List.take_length] at hw
   refine ⟨w,hw,?_⟩
   unfold f20_0
   refine aa.tv rfl (aa.ite bw nofun fun _=>aa.tv (Cy _ _ _) (aa.chk ?_ aa.ret))
   simp [bR,aD,er,ho,af]
  | succ d ih =>
   intro k w hk hw
   have hkl:k < ts.length:=by omega
   obtain ⟨e,he,hr⟩:=hx.idx (k:=.i64) (cO hkl)
   have hr:e=[Sb (ts.getD k [])]:=hr
   subst hr
   have hnum:aw prog 48 [Sb (ts.getD k [])] (I (puV (ts.getD k []))):=dR (hs _ (dQ hkl))
   have hin:=c9 (ts.getD k [])
   by_cases hkn:k < 2
   ·obtain ⟨w',h1,h2⟩:=ih (k + 1) w (by omega) (by rw [List.drop_eq_nil_of_le (by rw [List.length_take]; omega)] at hw ⊢; exact hw)
    refine ⟨w',h1,?_⟩
    unfold f20_0
    refine aa.tv rfl (aa.ite (aK hkl) (fun _=>?_) nofun)
    refine aa.tvs he (aa.chk rfl ?_)
    refine aa.tv rfl (aa.ite (v:=true) (by simp [asBool]; omega) (fun _=>?_) nofun)
    rcases (by omega:k=0\/k=1) with rfl | rfl
    ·refine aa.nat rfl (aa.ite (v:=false) rfl nofun fun _=>aa.ite (v:=true) rfl (fun _=>?_) nofun)
     exact aa.call hnum (aa.chk rfl (aa.tv (inc (n:=1) (by omega) (by omega)) (f20_0_J h2)))
    ·refine aa.nat rfl (aa.ite (v:=true) rfl (fun _=>?_) nofun)
     exact aa.call hnum (aa.chk rfl (aa.tv (inc (n:=2) (by omega) (by omega)) (f20_0_J h2)))
   ·have e:(ts.take (k + 1)).drop 2=(ts.take k).drop 2 ++ [ts.getD k []]:=cw hkl (by omega)
    obtain ⟨w2,c1,c2⟩:=RL.snoc hw (e:=[I (puV (ts.getD k []))]) (a:=puV (ts.getD k [])) ⟨rfl,by constructor <;> omega⟩ (by simp only [List.length_map,List.length_drop,List.length_take]; omega)
    obtain ⟨w',h1,h2⟩:=ih (k + 1) w2 (by omega) (by rw [e,List.map_append]; exact c2)
    refine ⟨w',h1,?_⟩
    rw [a7 (k:=k) (j:=0) (by omega),a7 (k:=k) (j:=1) (by omega)] at h2
    unfold f20_0
    refine aa.tv rfl (aa.ite (aK hkl) (fun _=>?_) nofun)
    refine aa.tvs he (aa.chk rfl ?_)
    refine aa.tv rfl (aa.ite (v:=false) (by simp [asBool]; omega) nofun fun _=>?_)
    exact aa.call hnum (aa.chk rfl (aa.rws rfl (aa.tv c1 (aa.tv (inc (n:=k + 1) (by omega) (by omega)) (f20_0_J h2)))))
 exact key ts.length 0 (.lit af) (by omega) (by rw [List.take_zero,List.drop_nil]; exact RL.nil)
theorem lE1 {q:Option Bool} {ws:TV} {ts:List (List UInt8)} (hx:RStrs q ws ts) (hl:ts.length<=1000000) (hs:∀ t,t ∈ ts->t.length<=4000000000) {op:Int}:∃ w',RInts (some true) w' ((ts.drop 1).map puV)/\aa prog 26 (f26_1 ws (I (ts.length:Nat)) (I (0:Int)) (.lit af) (I op) (I 0) (I 0) (I 0) (.lit af) (I 0) (I 0) (I 0)) (.agg [I op,fAt ts ts.length 0 (I 0),I 0,I 0,.lit af,I 0,I 0,I 0]):=by
 have key:∀ (d k:Nat) (w:TV),k + d=ts.length->RInts (some true) w (((ts.take k).drop 1).map puV)->∃ w',RInts (some true) w' ((ts.drop 1).map puV)/\aa prog 26 (f26_1 ws (I (ts.length:Nat)) (I (k:Nat)) w (I op) (fAt ts k 0 (I 0)) (I 0) (I 0) (.lit af) (I 0) (I 0) (I 0)) (.agg [I op,fAt ts ts.length 0 (I 0),I 0,I 0,.lit af,I 0,I 0,I 0]):=by
  intro d
  induction d with
  | zero =>
   intro k w hk hw
   have hk:k=ts.length:=by omega
   subst hk
   have ho:aD w=true:=RL.own hw fun _ _ h=>by rw [h.1]; rfl
   rw [List.take_length] at hw
   refine ⟨w,hw,?_⟩
   unfold f26_1
   refine aa.tv rfl (aa.ite bw nofun fun _=>aa.chk ?_ aa.ret)
   simp [bR,aD,er,ho,af]
  | succ d ih =>
   intro k w hk hw
   have hkl:k < ts.length:=by omega
   obtain ⟨e,he,hr⟩:=hx.idx (k:=.i64) (cO hkl)
   have hr:e=[Sb (ts.getD k [])]:=hr
   subst hr
   have hnum:aw prog 48 [Sb (ts.getD k [])] (I (puV (ts.getD k []))):=dR (hs _ (dQ hkl))
   have hin:=c9 (ts.getD k [])
   by_cases hkn:k < 1
   ·obtain ⟨w',h1,h2⟩:=ih (k + 1) w (by omega) (by rw [List.drop_eq_nil_of_le (by rw [List.length_take]; omega)] at hw ⊢; exact hw)
    refine ⟨w',h1,?_⟩
    unfold f26_1
    refine aa.tv rfl (aa.ite (aK hkl) (fun _=>?_) nofun)
    refine aa.tvs he (aa.chk rfl ?_)
    refine aa.tv rfl (aa.ite (v:=true) (by simp [asBool]; omega) (fun _=>?_) nofun)
    obtain rfl:k=0:=by omega
    refine aa.nat rfl (aa.ite (v:=true) rfl (fun _=>?_) nofun)
    exact aa.call hnum (aa.chk rfl (aa.tv (inc (n:=1) (by omega) (by omega)) (f26_1_J h2)))
   ·have e:(ts.take (k + 1)).drop 1=(ts.take k).drop 1 ++ [ts.getD k []]:=cw hkl (by omega)
    obtain ⟨w2,c1,c2⟩:=RL.snoc hw (e:=[I (puV (ts.getD k []))]) (a:=puV (ts.getD k [])) ⟨rfl,by constructor <;> omega⟩ (by simp only [List.length_map,List.length_drop,List.length_take]; omega)
    obtain ⟨w',h1,h2⟩:=ih (k + 1) w2 (by omega) (by rw [e,List.map_append]; exact c2)
    refine ⟨w',h1,?_⟩
    rw [a7 (k:=k) (j:=0) (by omega)] at h2
    unfold f26_1
    refine aa.tv rfl (aa.ite (aK hkl) (fun _=>?_) nofun)
    refine aa.tvs he (aa.chk rfl ?_)
    refine aa.tv rfl (aa.ite (v:=false) (by simp [asBool]; omega) nofun fun _=>?_)
    exact aa.call hnum (aa.chk rfl (aa.rws rfl (aa.tv c1 (aa.tv (inc (n:=k + 1) (by omega) (by omega)) (f26_1_J h2)))))
 exact key ts.length 0 (.lit af) (by omega) (by rw [List.take_zero,List.drop_nil]; exact RL.nil)
theorem lE2 {q:Option Bool} {ws:TV} {ts:List (List UInt8)} (hx:RStrs q ws ts) (hl:ts.length<=1000000) (hs:∀ t,t ∈ ts->t.length<=4000000000) {op:Int}:∃ w',RInts (some true) w' ((ts.drop 1).map puV)/\aa prog 26 (f26_2 ws (I (ts.length:Nat)) (I (0:Int)) (.lit af) (I op) (I 0) (I 0) (I 0) (.lit af) (I 0) (I 0) (I 0)) (.agg [I op,I 0,I 0,I 0,.lit af,fAt ts ts.length 0 (I 0),I 0,I 0]):=by
 have key:∀ (d k:Nat) (w:TV),k + d=ts.length->RInts (some true) w (((ts.take k).drop 1).map puV)->∃ w',RInts (some true) w' ((ts.drop 1).map puV)/\aa prog 26 (f26_2 ws (I (ts.length:Nat)) (I (k:Nat)) w (I op) (I 0) (I 0) (I 0) (.lit af) (fAt ts k 0 (I 0)) (I 0) (I 0)) (.agg [I op,I 0,I 0,I 0,.lit af,fAt ts ts.length 0 (I 0),I 0,I 0]):=by
  intro d
  induction d with
  | zero =>
   intro k w hk hw
   have hk:k=ts.length:=by omega
   subst hk
   have ho:aD w=true:=RL.own hw fun _ _ h=>by rw [h.1]; rfl
   rw [List.take_length] at hw
   refine ⟨w,hw,?_⟩
   unfold f26_2
   refine aa.tv rfl (aa.ite bw nofun fun _=>aa.chk ?_ aa.ret)
   simp [bR,aD,er,ho,af]
  | succ d ih =>
   intro k w hk hw
   have hkl:k < ts.length:=by omega
   obtain ⟨e,he,hr⟩:=hx.idx (k:=.i64) (cO hkl)
   have hr:e=[Sb (ts.getD k [])]:=hr
   subst hr
   have hnum:aw prog 48 [Sb (ts.getD k [])] (I (puV (ts.getD k []))):=dR (hs _ (dQ hkl))
   have hin:=c9 (ts.getD k [])
   by_cases hkn:k < 1
   ·obtain ⟨w',h1,h2⟩:=ih (k + 1) w (by omega) (by rw [List.drop_eq_nil_of_le (by rw [List.length_take]; omega)] at hw ⊢; exact hw)
    refine ⟨w',h1,?_⟩
    unfold f26_2
    refine aa.tv rfl (aa.ite (aK hkl) (fun _=>?_) nofun)
    refine aa.tvs he (aa.chk rfl ?_)
    refine aa.tv rfl (aa.ite (v:=true) (by simp [asBool]; omega) (fun _=>?_) nofun)
    obtain rfl:k=0:=by omega
    refine aa.nat rfl (aa.ite (v:=true) rfl (fun _=>?_) nofun)
    exact aa.call hnum (aa.chk rfl (aa.tv (inc (n:=1) (by omega) (by omega)) (f26_2_J h2)))
   ·have e:(ts.take (k + 1)).drop 1=(ts.take k).drop 1 ++ [ts.getD k []]:=cw hkl (by omega)
    obtain ⟨w2,c1,c2⟩:=RL.snoc hw (e:=[I (puV (ts.getD k []))]) (a:=puV (ts.getD k [])) ⟨rfl,by constructor <;> omega⟩ (by simp only [List.length_map,List.length_drop,List.length_take]; omega)
    obtain ⟨w',h1,h2⟩:=ih (k + 1) w2 (by omega) (by rw [e,List.map_append]; exact c2)
    refine ⟨w',h1,?_⟩
    rw [a7 (k:=k) (j:=0) (by omega)] at h2
    unfold f26_2
    refine aa.tv rfl (aa.ite (aK hkl) (fun _=>?_) nofun)
    refine aa.tvs he (aa.chk rfl ?_)
    refine aa.tv rfl (aa.ite (v:=false) (by simp [asBool]; omega) nofun fun _=>?_)
    exact aa.call hnum (aa.chk rfl (aa.rws rfl (aa.tv c1 (aa.tv (inc (n:=k + 1) (by omega) (by omega)) (f26_2_J h2)))))
 exact key ts.length 0 (.lit af) (by omega) (by rw [List.take_zero,List.drop_nil]; exact RL.nil)
theorem lE3 {q:Option Bool} {ws:TV} {ts:List (List UInt8)} (hx:RStrs q ws ts) (hl:ts.length<=1000000) (hs:∀ t,t ∈ ts->t.length<=4000000000) {op:Int}:∃ w',RInts (some true) w' ((ts.drop 3).map puV)/\aa prog 26 (f26_3 ws (I (ts.length:Nat)) (I (0:Int)) (.lit af) (I op) (I 0) (I 0) (I 0) (.lit af) (I 0) (I 0) (I 0)) (.agg [I op,fAt ts ts.length 0 (I 0),I 0,I 0,.lit af,fAt ts ts.length 1 (I 0),fAt ts ts.length 2 (I 0),I 0]):=by
 have key:∀ (d k:Nat) (w:TV),k + d=ts.length->RInts (some true) w (((ts.take k).drop 3).map puV)->∃ w',RInts (some true) w' ((ts.drop 3).map puV)/\aa prog 26 (f26_3 ws (I (ts.length:Nat)) (I (k:Nat)) w (I op) (fAt ts k 0 (I 0)) (I 0) (I 0) (.lit af) (fAt ts k 1 (I 0)) (fAt ts k 2 (I 0)) (I 0)) (.agg [I op,fAt ts ts.length 0 (I 0),I 0,I 0,.lit af,fAt ts ts.length 1 (I 0),fAt ts ts.length 2 (I 0),I 0]):=by
  intro d
  induction d with
  | zero =>
   intro k w hk hw
   have hk:k=ts.length:=by omega
   subst hk
   have ho:aD w=true:=RL.own hw fun _ _ h=>by rw [h.1]; rfl
   rw [List.take_length] at hw
   refine ⟨w,hw,?_⟩
   unfold f26_3
   refine aa.tv rfl (aa.ite bw nofun fun _=>aa.chk ?_ aa.ret)
   simp [bR,aD,er,ho,af]
  | succ d ih =>
   intro k w hk hw
   have hkl:k < ts.length:=by omega
   obtain ⟨e,he,hr⟩:=hx.idx (k:=.i64) (cO hkl)
   have hr:e=[Sb (ts.getD k [])]:=hr
   subst hr
   have hnum:aw prog 48 [Sb (ts.getD k [])] (I (puV (ts.getD k []))):=dR (hs _ (dQ hkl))
   have hin:=c9 (ts.getD k [])
   by_cases hkn:k < 3
   ·obtain ⟨w',h1,h2⟩:=ih (k + 1) w (by omega) (by rw [List.drop_eq_nil_of_le (by rw [List.length_take]; omega)] at hw ⊢; exact hw)
    refine ⟨w',h1,?_⟩
    unfold f26_3
    refine aa.tv rfl (aa.ite (aK hkl) (fun _=>?_) nofun)
    refine aa.tvs he (aa.chk rfl ?_)
    refine aa.tv rfl (aa.ite (v:=true) (by simp [asBool]; omega) (fun _=>?_) nofun)
    rcases (by omega:k=0\/k=1\/k=2) with rfl | rfl | rfl
    ·refine aa.nat rfl (aa.ite (v:=false) rfl nofun fun _=>aa.ite (v:=false) rfl nofun fun _=>aa.ite (v:=true) rfl (fun _=>?_) nofun)
     exact aa.call hnum (aa.chk rfl (aa.tv (inc (n:=1) (by omega) (by omega)) (f26_3_J h2)))
    ·refine aa.nat rfl (aa.ite (v:=false) rfl nofun fun _=>aa.ite (v:=true) rfl (fun _=>?_) nofun)
     exact aa.call hnum (aa.chk rfl (aa.tv (inc (n:=2) (by omega) (by omega)) (f26_3_J h2)))
    ·refine aa.nat rfl (aa.ite (v:=true) rfl (fun _=>?_) nofun)
     exact aa.call hnum (aa.chk rfl (aa.tv (inc (n:=3) (by omega) (by omega)) (f26_3_J h2)))
   ·have e:(ts.take (k + 1)).drop 3=(ts.take k).drop 3 ++ [ts.getD k []]:=cw hkl (by omega)
    obtain ⟨w2,c1,c2⟩:=RL.snoc hw (e:=[I (puV (ts.getD k []))]) (a:=puV (ts.getD k [])) ⟨rfl,by constructor <;> omega⟩ (by simp only [List.length_map,List.length_drop,List.length_take]; omega)
    obtain ⟨w',h1,h2⟩:=ih (k + 1) w2 (by omega) (by rw [e,List.map_append]; exact c2)
    refine ⟨w',h1,?_⟩
    rw [a7 (k:=k) (j:=0) (by omega),a7 (k:=k) (j:=1) (by omega),a7 (k:=k) (j:=2) (by omega)] at h2
    unfold f26_3
    refine aa.tv rfl (aa.ite (aK hkl) (fun _=>?_) nofun)
    refine aa.tvs he (aa.chk rfl ?_)
    refine aa.tv rfl (aa.ite (v:=false) (by simp [asBool]; omega) nofun fun _=>?_)
    exact aa.call hnum (aa.chk rfl (aa.rws rfl (aa.tv c1 (aa.tv (inc (n:=k + 1) (by omega) (by omega)) (f26_3_J h2)))))
 exact key ts.length 0 (.lit af) (by omega) (by rw [List.take_zero,List.drop_nil]; exact RL.nil)
theorem lE4 {q:Option Bool} {ws:TV} {ts:List (List UInt8)} (hx:RStrs q ws ts) (hl:ts.length<=1000000) (hs:∀ t,t ∈ ts->t.length<=4000000000) {op:Int}:∃ w',RInts (some true) w' ((ts.drop 4).map puV)/\aa prog 26 (f26_4 ws (I (ts.length:Nat)) (I (0:Int)) (.lit af) (I op) (I 0) (I 0) (I 0) (.lit af) (I 0) (I 0) (I 0)) (.agg [I op,I 0,fAt ts ts.length 0 (I 0),fAt ts ts.length 1 (I 0),w',fAt ts ts.length 2 (I 0),I 0,fAt ts ts.length 3 (I 0)]):=by
 have key:∀ (d k:Nat) (w:TV),k + d=ts.length->RInts (some true) w (((ts.take k).drop 4).map puV)->∃ w',RInts (some true) w' ((ts.drop 4).map puV)/\aa prog 26 (f26_4 ws (I (ts.length:Nat)) (I (k:Nat)) w (I op) (I 0) (fAt ts k 0 (I 0)) (fAt ts k 1 (I 0)) (.lit af) (fAt ts k 2 (I 0)) (I 0) (fAt ts k 3 (I 0))) (.agg [I op,I 0,fAt ts ts.length 0 (I 0),fAt ts ts.length 1 (I 0),w',fAt ts ts.length 2 (I 0),I 0,fAt ts ts.length 3 (I 0)]):=by
  intro d
  induction d with
  | zero =>
   intro k w hk hw
   have hk:k=ts.length:=by omega
   subst hk
   have ho:aD w=true:=RL.own hw fun _ _ h=>by rw [h.1]; rfl
   rw [List.take_length] at hw
   refine ⟨w,hw,?_⟩
   unfold f26_4
   refine aa.tv rfl (aa.ite bw nofun fun _=>aa.chk ?_ aa.ret)
   simp [bR,aD,er,ho,af]
  | succ d ih =>
   intro k w hk hw
   have hkl:k < ts.length:=by omega
   obtain ⟨e,he,hr⟩:=hx.idx (k:=.i64) (cO hkl)
   have hr:e=[Sb (ts.getD k [])]:=hr
   subst hr
   have hnum:aw prog 48 [Sb (ts.getD k [])] (I (puV (ts.getD k []))):=dR (hs _ (dQ hkl))
   have hin:=c9 (ts.getD k [])
   by_cases hkn:k < 4
   ·obtain ⟨w',h1,h2⟩:=ih (k + 1) w (by omega) (by rw [List.drop_eq_nil_of_le (by rw [List.length_take]; omega)] at hw ⊢; exact hw)
    refine ⟨w',h1,?_⟩
    unfold f26_4
    refine aa.tv rfl (aa.ite (aK hkl) (fun _=>?_) nofun)
    refine aa.tvs he (aa.chk rfl ?_)
    refine aa.tv rfl (aa.ite (v:=true) (by simp [asBool]; omega) (fun _=>?_) nofun)
    rcases (by omega:k=0\/k=1\/k=2\/k=3) with rfl | rfl | rfl | rfl
    ·refine aa.nat rfl (aa.ite (v:=false) rfl nofun fun _=>aa.ite (v:=false) rfl nofun fun _=>aa.ite (v:=false) rfl nofun fun _=>aa.ite (v:=true) rfl (fun _=>?_) nofun)
     exact aa.call hnum (aa.chk rfl (aa.tv (inc (n:=1) (by omega) (by omega)) (f26_4_J h2)))
    ·refine aa.nat rfl (aa.ite (v:=false) rfl nofun fun _=>aa.ite (v:=false) rfl nofun fun _=>aa.ite (v:=true) rfl (fun _=>?_) nofun)
     exact aa.call hnum (aa.chk rfl (aa.tv (inc (n:=2) (by omega) (by omega)) (f26_4_J h2)))
    ·refine aa.nat rfl (aa.ite (v:=false) rfl nofun fun _=>aa.ite (v:=true) rfl (fun _=>?_) nofun)
     exact aa.call hnum (aa.chk rfl (aa.tv (inc (n:=3) (by omega) (by omega)) (f26_4_J h2)))
    ·refine aa.nat rfl (aa.ite (v:=true) rfl (fun _=>?_) nofun)
     exact aa.call hnum (aa.chk rfl (aa.tv (inc (n:=4) (by omega) (by omega)) (f26_4_J h2)))
   ·have e:(ts.take (k + 1)).drop 4=(ts.take k).drop 4 ++ [ts.getD k []]:=cw hkl (by omega)
    obtain ⟨w2,c1,c2⟩:=RL.snoc hw (e:=[I (puV (ts.getD k []))]) (a:=puV (ts.getD k [])) ⟨rfl,by constructor <;> omega⟩ (by simp only [List.length_map,List.length_drop,List.length_take]; omega)
    obtain ⟨w',h1,h2⟩:=ih (k + 1) w2 (by omega) (by rw [e,List.map_append]; exact c2)
    refine ⟨w',h1,?_⟩
    rw [a7 (k:=k) (j:=0) (by omega),a7 (k:=k) (j:=1) (by omega),a7 (k:=k) (j:=2) (by omega),a7 (k:=k) (j:=3) (by omega)] at h2
    unfold f26_4
    refine aa.tv rfl (aa.ite (aK hkl) (fun _=>?_) nofun)
    refine aa.tvs he (aa.chk rfl ?_)
    refine aa.tv rfl (aa.ite (v:=false) (by simp [asBool]; omega) nofun fun _=>?_)
    exact aa.call hnum (aa.chk rfl (aa.rws rfl (aa.tv c1 (aa.tv (inc (n:=k + 1) (by omega) (by omega)) (f26_4_J h2)))))
 exact key ts.length 0 (.lit af) (by omega) (by rw [List.take_zero,List.drop_nil]; exact RL.nil)
end Go.Ab.Z14
end
section
set_option maxRecDepth 20000
namespace Go.Ab.Z14
open Go Go.Ab Go.Proofs
theorem gS:RIns none [I 0,I 0,I 0,I 0,W 0,I 0,.lit af] (⟨0,0,0,0,0,0,[]⟩:DIns) :=
 have z:inI 0:=⟨by decide,by decide⟩
 ⟨.lit af,rfl,.nil,z,z,z,z,by unfold inW; decide,z⟩
theorem rIns4 {s:List UInt8} (hs:s.length<=1000):∃ e,aw prog 7 [Sb s] (.tup [.agg e,B (iZ s).isSome])/\RIns none e ((iZ s).getD ⟨0,0,0,0,0,0,[]⟩):=by
 obtain ⟨v0,h0,hv⟩:=uE (s:=s) (by omega)
 have hsl:=jq s
 obtain ⟨w,hw⟩:∃ w,w=(aC s).1:=⟨_,rfl⟩
 obtain ⟨ts,hts⟩:∃ ts,ts=(aC s).2:=⟨_,rfl⟩
 rw [<- hw,<- hts] at hv
 rw [<- hts] at hsl
 have hvf:RStrs (some false) (Ab.frz v0) (w :: ts):=hv.frz fun _ _ h=>by rw [show _=_ from h]; rfl
 obtain ⟨vn,bn,hn,hy,hno⟩:=Bv hvf (by simp; omega) (k:=1) (by simp)
 simp only [List.drop_succ_cons,List.drop_zero] at hy hno
 have hsn:vn.isSl=true:=by
  by_cases hq:∀ n,n ∈ ts.map aA->0<=n
  ·exact RL.isSl (hy hq).2
  ·rw [(hno hq).2]; rfl
 have hkk:=rOp4 w
 obtain ⟨e3,he3,hr3⟩:=RL.pel hv (i:=0) rfl
 have hr3:e3=[Sb w]:=hr3
 subst hr3
 have hsz:(Bool.and (slSize v0 1) (Nat.blt 0 (w :: ts).length))=true:=by rw [RL.slSize hv]; simp
 have hfit:ab zSl [v0] 0=true:=by simp [ab,zSl,aG,RL.isSl hv]
 have hfit2:ab zSl [vn] 0=true:=by simp [ab,zSl,aG,hsn]
 have none_of:¬ (opN w≠0/\(∀ n,n ∈ ts.map aA->0<=n)/\gN (opN w) ts.length)->iZ s=none:=fun h=>by
  unfold iZ
  rw [<- hw,<- hts]
  exact if_neg h
 have some_of:opN w≠0->(∀ n,n ∈ ts.map aA->0<=n)->gN (opN w) ts.length->iZ s=some (mkI (opN w) (ts.map aA)):=fun h1 h2 h3=>by
  unfold iZ
  rw [<- hw,<- hts]
  exact if_pos ⟨h1,h2,h3⟩
 have hkc:opN w=0\/opN w=1\/opN w=2\/opN w=3\/opN w=4\/opN w=5\/opN w=6\/opN w=7\/opN w=8\/opN w=9\/opN w=10\/opN w=11\/opN w=12\/opN w=13:=by
  rcases u5 w with h | ⟨h,_⟩
  ·exact .inl h
  ·exact .inr (qH h)
 suffices H:∃ e,aa prog 7 (f7_M (Sb s)) (.tup [.agg e,B (iZ s).isSome])/\RIns none e ((iZ s).getD ⟨0,0,0,0,0,0,[]⟩) by
  obtain ⟨e,h1,h2⟩:=H
  exact ⟨e,aw.of (f7_MR _) h1,h2⟩
 unfold f7_M
 have start:∀ {k:Nat} {r:TV} {K:TV->TV->Nat->Prg TV},opN w=(k:Int)->k<=13->aa prog 7 (K (I (k:Nat)) (.tup [vn,B bn]) k) r ->
   aa prog 7 (Prg.call 23 [Sb s,TV.lit (Value.int IntKind.u8 (32:Int))] fun v0=>Prg.chk (ab zSl [v0] 0) (Prg.nat (slLen v0) fun n1=>Prg.nat (al (TV.lit (Value.int IntKind.i64 (0:Int)))) fun n2 =>
    Prg.chk (Bool.and (slSize v0 1) (Nat.blt n2 n1)) (Prg.tvs (pel v0 n2) fun e3=>Prg.chk (ab cq e3 0) (Prg.call 24 [nth TV.hole e3 0] fun v4=>Prg.chk (ab aT [v4] 0) (Prg.call 25 [Ab.frz v0,TV.lit (Value.int IntKind.i64 (1:Int))] fun v5 =>
    Prg.chk (TV.isTup v5 2) (Prg.chk (ab zSl [TV.comp v5 0] 0) (Prg.chk (ab gm [TV.comp v5 1] 0) (Prg.nat (al v4) fun n6=>Prg.chk (Nat.blt n6 14) (K v4 v5 n6))))))))) r:=fun {k r K} hk hk6 hK=>by
  rw [hk] at hkk
  exact aa.call h0 (aa.chk hfit (aa.nat (RL.slLen hv) (aa.nat (v:=0) rfl (aa.chk hsz (aa.tvs he3 (aa.chk rfl (aa.call hkk (aa.chk rfl (aa.call hn (aa.chk rfl (aa.chk hfit2 (aa.chk rfl (aa.nat (v:=k) (by simp [al]; omega) (aa.chk (by simp; omega) hK))))))))))))))
 by_cases hk0:opN w=0
 ·rw [none_of fun h=>h.1 hk0]
  refine ⟨_,start (k:=0) hk0 (by omega) ?_,gS⟩
  exact aa.tv rfl (aa.tv (v:=B true) rfl (aa.ite (v:=true) rfl (fun _=>aa.ret) nofun))
 by_cases hQ:∀ n,n ∈ ts.map aA->0<=n
 case neg =>
  rw [none_of fun h=>hQ h.2.1]
  obtain ⟨rfl,_⟩:=hno hQ
  rcases hkc with h | h | h | h | h | h | h | h | h | h | h | h | h | h
  ·exact absurd h hk0
  all_goals refine ⟨_,start h (by decide) ?_,gS⟩
  all_goals exact aa.tv rfl (aa.tv (v:=B false) rfl (aa.ite (v:=false) rfl nofun fun _=>aa.tv (v:=B true) rfl (aa.ite (v:=true) rfl (fun _=>aa.ret) nofun)))
 obtain ⟨rfl,hl⟩:=hy hQ
 have hgood:=(i5 hQ).2
 have hlen:(ts.map aA).length=ts.length:=List.length_map _
 obtain ⟨l,hldef⟩:∃ l,l=ts.map aA:=⟨_,rfl⟩
 rw [<- hldef] at hl hgood hlen
 have hin:∀ {n:Int},n ∈ l->inI n:=fun h=>by have:=hgood _ h; constructor <;> omega
 have z:inI 0:=⟨by decide,by decide⟩
 have zw:inW 0:=by unfold inW; decide
 have kI:∀ n:Int,0<=n/\n<=13->inI n:=fun n h=>by constructor <;> omega
 have hpl:plen (.slice 3) vn=some (I (ts.length:Nat)):=by rw [<- hlen]; exact RL.len hl
 by_cases hcnt:gN (opN w) ts.length
 case neg =>
  rw [none_of fun h=>hcnt h.2.2]
  rcases hkc with h | h | h | h | h | h | h | h | h | h | h | h | h | h
  ·exact absurd h hk0
  ·rw [h] at hcnt; simp [gN] at hcnt
   exact ⟨_,start h (by decide) (aa.tv rfl (aa.tv (v:=B false) rfl (aa.ite (v:=false) rfl nofun fun _=>aa.tv (v:=B false) rfl (aa.ite (v:=false) rfl nofun fun _=>aa.tv (v:=B true) rfl (aa.ite (v:=true) rfl (fun _=>aa.tv hpl (aa.tv rfl (aa.ite (v:=true) (by simp [asBool]; omega) (fun _=>aa.ret) nofun))) nofun))))),gS⟩
  ·rw [h] at hcnt; simp [gN] at hcnt
   exact ⟨_,start h (by decide) (aa.tv rfl (aa.tv (v:=B false) rfl (aa.ite (v:=false) rfl nofun fun _=>aa.tv (v:=B false) rfl (aa.ite (v:=false) rfl nofun fun _=>aa.tv (v:=B true) rfl (aa.ite (v:=true) rfl (fun _=>aa.tv hpl (aa.tv rfl (aa.ite (v:=true) (by simp [asBool]; omega) (fun _=>aa.ret) nofun))) nofun))))),gS⟩
  ·rw [h] at hcnt; simp [gN] at hcnt
   exact ⟨_,start h (by decide) (aa.tv rfl (aa.tv (v:=B false) rfl (aa.ite (v:=false) rfl nofun fun _=>aa.tv (v:=B false) rfl (aa.ite (v:=false) rfl nofun fun _=>aa.tv (v:=B true) rfl (aa.ite (v:=true) rfl (fun _=>aa.tv hpl (aa.tv rfl (aa.ite (v:=true) (by simp [asBool]; omega) (fun _=>aa.ret) nofun))) nofun))))),gS⟩
  ·rw [h] at hcnt; simp [gN] at hcnt
   exact ⟨_,start h (by decide) (aa.tv rfl (aa.tv (v:=B false) rfl (aa.ite (v:=false) rfl nofun fun _=>aa.tv (v:=B false) rfl (aa.ite (v:=false) rfl nofun fun _=>aa.tv (v:=B true) rfl (aa.ite (v:=true) rfl (fun _=>aa.tv hpl (aa.tv rfl (aa.ite (v:=true) (by simp [asBool]; omega) (fun _=>aa.ret) nofun))) nofun))))),gS⟩
  ·rw [h] at hcnt; simp [gN] at hcnt
   exact ⟨_,start h (by decide) (aa.tv rfl (aa.tv (v:=B false) rfl (aa.ite (v:=false) rfl nofun fun _=>aa.tv (v:=B false) rfl (aa.ite (v:=false) rfl nofun fun _=>aa.tv (v:=B true) rfl (aa.ite (v:=true) rfl (fun _=>aa.tv hpl (aa.tv rfl (aa.ite (v:=true) (by simp [asBool]; omega) (fun _=>aa.ret) nofun))) nofun))))),gS⟩
  ·rw [h] at hcnt; simp [gN] at hcnt
   exact ⟨_,start h (by decide) (aa.tv rfl (aa.tv (v:=B false) rfl (aa.ite (v:=false) rfl nofun fun _=>aa.tv (v:=B false) rfl (aa.ite (v:=false) rfl nofun fun _=>aa.tv (v:=B true) rfl (aa.ite (v:=true) rfl (fun _=>aa.tv hpl (aa.tv rfl (aa.ite (v:=true) (by simp [asBool]; omega) (fun _=>aa.ret) nofun))) nofun))))),gS⟩
  ·rw [h] at hcnt; simp [gN] at hcnt
   exact ⟨_,start h (by decide) (aa.tv rfl (aa.tv (v:=B false) rfl (aa.ite (v:=false) rfl nofun fun _=>aa.tv (v:=B false) rfl (aa.ite (v:=false) rfl nofun fun _=>aa.tv (v:=B true) rfl (aa.ite (v:=true) rfl (fun _=>aa.tv hpl (aa.tv rfl (aa.ite (v:=true) (by simp [asBool]; omega) (fun _=>aa.ret) nofun))) nofun))))),gS⟩
  ·rw [h] at hcnt; simp [gN] at hcnt
   exact ⟨_,start h (by decide) (aa.tv rfl (aa.tv (v:=B false) rfl (aa.ite (v:=false) rfl nofun fun _=>aa.tv (v:=B false) rfl (aa.ite (v:=false) rfl nofun fun _=>aa.tv (v:=B true) rfl (aa.ite (v:=true) rfl (fun _=>aa.tv hpl (aa.tv rfl (aa.ite (v:=true) (by simp [asBool]; omega) (fun _=>aa.ret) nofun))) nofun))))),gS⟩
  ·rw [h] at hcnt; simp [gN] at hcnt
   exact ⟨_,start h (by decide) (aa.tv rfl (aa.tv (v:=B false) rfl (aa.ite (v:=false) rfl nofun fun _=>aa.tv (v:=B false) rfl (aa.ite (v:=false) rfl nofun fun _=>aa.tv (v:=B true) rfl (aa.ite (v:=true) rfl (fun _=>aa.tv hpl (aa.tv rfl (aa.ite (v:=true) (by simp [asBool]; omega) (fun _=>aa.ret) nofun))) nofun))))),gS⟩
  ·rw [h] at hcnt; simp [gN] at hcnt
   exact ⟨_,start h (by decide) (aa.tv rfl (aa.tv (v:=B false) rfl (aa.ite (v:=false) rfl nofun fun _=>aa.tv (v:=B false) rfl (aa.ite (v:=false) rfl nofun fun _=>aa.tv (v:=B true) rfl (aa.ite (v:=true) rfl (fun _=>aa.tv hpl (aa.tv rfl (aa.ite (v:=true) (by simp [asBool]; omega) (fun _=>aa.ret) nofun))) nofun))))),gS⟩
  ·rw [h] at hcnt; simp [gN] at hcnt
   refine ⟨_,start h (by decide) (aa.tv rfl (aa.tv (v:=B false) rfl (aa.ite (v:=false) rfl nofun fun _=>aa.tv (v:=B false) rfl (aa.ite (v:=false) rfl nofun fun _=>aa.tv (v:=B false) rfl (aa.ite (v:=false) rfl nofun fun _=>aa.tv (v:=B true) rfl (aa.ite (v:=true) rfl (fun _=>aa.tv hpl (aa.tv rfl ?_)) nofun)))))),gS⟩
   by_cases h4:ts.length < 2
   ·exact aa.ite (v:=true) (by simp [asBool]; omega) (fun _=>aa.ret) nofun
   ·exact aa.ite (v:=false) (by simp [asBool]; omega) nofun fun _=>aa.tv hpl (aa.tv rfl (aa.ite (v:=true) (by simp [asBool]; have:=hcnt (by omega); omega) (fun _=>aa.ret) nofun))
  ·rw [h] at hcnt; simp [gN] at hcnt
   exact ⟨_,start h (by decide) (aa.tv rfl (aa.tv (v:=B false) rfl (aa.ite (v:=false) rfl nofun fun _=>aa.tv (v:=B false) rfl (aa.ite (v:=false) rfl nofun fun _=>aa.tv (v:=B true) rfl (aa.ite (v:=true) rfl (fun _=>aa.tv hpl (aa.tv rfl (aa.ite (v:=true) (by simp [asBool]; omega) (fun _=>aa.ret) nofun))) nofun))))),gS⟩
  ·rw [h] at hcnt; simp [gN] at hcnt
   exact ⟨_,start h (by decide) (aa.tv rfl (aa.tv (v:=B false) rfl (aa.ite (v:=false) rfl nofun fun _=>aa.tv (v:=B false) rfl (aa.ite (v:=false) rfl nofun fun _=>aa.tv (v:=B true) rfl (aa.ite (v:=true) rfl (fun _=>aa.tv hpl (aa.tv rfl (aa.ite (v:=true) (by simp [asBool]; omega) (fun _=>aa.ret) nofun))) nofun))))),gS⟩
 rw [some_of hk0 hQ hcnt,<- hldef]
 show ∃ e,_/\RIns none e (mkI (opN w) l)
 rcases hkc with h | h | h | h | h | h | h | h | h | h | h | h | h | h
 ·exact absurd h hk0
 all_goals (rw [h] at hcnt ⊢; simp [gN] at hcnt)
 ·obtain ⟨a,b,rfl⟩:=len2 (hlen.trans hcnt)
  rw [show (mkI 1 [a,b]:DIns)=⟨1,a,0,0,b,0,[]⟩ from by simp [mkI]]
  refine ⟨_,start h (by decide) (aa.tv rfl (aa.tv (v:=B false) rfl (aa.ite (v:=false) rfl nofun fun _=>aa.tv (v:=B false) rfl (aa.ite (v:=false) rfl nofun fun _=>aa.tv (v:=B true) rfl (aa.ite (v:=true) rfl (fun _=>aa.tv hpl (aa.tv rfl (aa.ite (v:=false) (by simp [asBool]; omega) nofun fun _=>aa.tv (v:=B false) rfl (aa.ite (v:=false) rfl nofun fun _=>f7_0_J ?_)))) nofun))))),⟨.lit af,rfl,.nil,kI 1 (by decide),hin (by simp),z,z,(by have:=hgood b (by simp); unfold inW; omega),z⟩⟩
  unfold f7_0
  exact aa.chk rfl (aa.tv (v:=B true) rfl (aa.ite (v:=true) rfl (fun _=>rdI hl (i:=0) rfl (by omega) (rdI hl (i:=1) rfl (by omega) (aa.tv (conv16 (hgood b (by simp)).1 (hgood b (by simp)).2) aa.ret))) nofun))
 ·obtain ⟨a,b,rfl⟩:=len2 (hlen.trans hcnt)
  rw [show (mkI 2 [a,b]:DIns)=⟨2,a,b,0,0,0,[]⟩ from by simp [mkI]]
  refine ⟨_,start h (by decide) (aa.tv rfl (aa.tv (v:=B false) rfl (aa.ite (v:=false) rfl nofun fun _=>aa.tv (v:=B false) rfl (aa.ite (v:=false) rfl nofun fun _=>aa.tv (v:=B true) rfl (aa.ite (v:=true) rfl (fun _=>aa.tv hpl (aa.tv rfl (aa.ite (v:=false) (by simp [asBool]; omega) nofun fun _=>aa.tv (v:=B false) rfl (aa.ite (v:=false) rfl nofun fun _=>f7_0_J ?_)))) nofun))))),⟨.lit af,rfl,.nil,kI 2 (by decide),hin (by simp),hin (by simp),z,zw,z⟩⟩
  unfold f7_0
  refine aa.chk rfl (aa.tv (v:=B false) rfl (aa.ite (v:=false) rfl nofun fun _=>aa.tv (v:=B true) rfl (aa.ite (v:=true) rfl (fun _=>f7_1_J ?_) nofun)))
  unfold f7_1
  exact aa.ite (v:=true) rfl (fun _=>rdI hl (i:=0) rfl (by omega) (rdI hl (i:=1) rfl (by omega) (aa.ret))) nofun
 ·obtain ⟨a,b,c,rfl⟩:=len3 (hlen.trans hcnt)
  rw [show (mkI 3 [a,b,c]:DIns)=⟨3,a,b,c,0,0,[]⟩ from by simp [mkI]]
  refine ⟨_,start h (by decide) (aa.tv rfl (aa.tv (v:=B false) rfl (aa.ite (v:=false) rfl nofun fun _=>aa.tv (v:=B false) rfl (aa.ite (v:=false) rfl nofun fun _=>aa.tv (v:=B true) rfl (aa.ite (v:=true) rfl (fun _=>aa.tv hpl (aa.tv rfl (aa.ite (v:=false) (by simp [asBool]; omega) nofun fun _=>aa.tv (v:=B false) rfl (aa.ite (v:=false) rfl nofun fun _=>f7_0_J ?_)))) nofun))))),⟨.lit af,rfl,.nil,kI 3 (by decide),hin (by simp),hin (by simp),hin (by simp),zw,z⟩⟩
  unfold f7_0
  refine aa.chk rfl (aa.tv (v:=B false) rfl (aa.ite (v:=false) rfl nofun fun _=>aa.tv (v:=B false) rfl (aa.ite (v:=false) rfl nofun fun _=>aa.tv (v:=B false) rfl (f7_1_J ?_))))
  unfold f7_1
  refine aa.ite (v:=false) rfl nofun fun _=>aa.tv (v:=B false) rfl (aa.ite (v:=false) rfl nofun fun _=>aa.tv (v:=B false) rfl (aa.ite (v:=false) rfl nofun fun _=>aa.tv (v:=B false) rfl (aa.ite (v:=false) rfl nofun fun _=>aa.tv (v:=B false) rfl (aa.ite (v:=false) rfl nofun fun _=>rdI hl (i:=0) rfl (by omega) (rdI hl (i:=1) rfl (by omega) (rdI hl (i:=2) rfl (by omega) (aa.ret)))))))
 ·obtain ⟨a,b,c,rfl⟩:=len3 (hlen.trans hcnt)
  rw [show (mkI 4 [a,b,c]:DIns)=⟨4,a,b,c,0,0,[]⟩ from by simp [mkI]]
  refine ⟨_,start h (by decide) (aa.tv rfl (aa.tv (v:=B false) rfl (aa.ite (v:=false) rfl nofun fun _=>aa.tv (v:=B false) rfl (aa.ite (v:=false) rfl nofun fun _=>aa.tv (v:=B true) rfl (aa.ite (v:=true) rfl (fun _=>aa.tv hpl (aa.tv rfl (aa.ite (v:=false) (by simp [asBool]; omega) nofun fun _=>aa.tv (v:=B false) rfl (aa.ite (v:=false) rfl nofun fun _=>f7_0_J ?_)))) nofun))))),⟨.lit af,rfl,.nil,kI 4 (by decide),hin (by simp),hin (by simp),hin (by simp),zw,z⟩⟩
  unfold f7_0
  refine aa.chk rfl (aa.tv (v:=B false) rfl (aa.ite (v:=false) rfl nofun fun _=>aa.tv (v:=B false) rfl (aa.ite (v:=false) rfl nofun fun _=>aa.tv (v:=B false) rfl (f7_1_J ?_))))
  unfold f7_1
  refine aa.ite (v:=false) rfl nofun fun _=>aa.tv (v:=B false) rfl (aa.ite (v:=false) rfl nofun fun _=>aa.tv (v:=B false) rfl (aa.ite (v:=false) rfl nofun fun _=>aa.tv (v:=B false) rfl (aa.ite (v:=false) rfl nofun fun _=>aa.tv (v:=B false) rfl (aa.ite (v:=false) rfl nofun fun _=>rdI hl (i:=0) rfl (by omega) (rdI hl (i:=1) rfl (by omega) (rdI hl (i:=2) rfl (by omega) (aa.ret)))))))
 ·obtain ⟨a,b,c,rfl⟩:=len3 (hlen.trans hcnt)
  rw [show (mkI 5 [a,b,c]:DIns)=⟨5,a,b,c,0,0,[]⟩ from by simp [mkI]]
  refine ⟨_,start h (by decide) (aa.tv rfl (aa.tv (v:=B false) rfl (aa.ite (v:=false) rfl nofun fun _=>aa.tv (v:=B false) rfl (aa.ite (v:=false) rfl nofun fun _=>aa.tv (v:=B true) rfl (aa.ite (v:=true) rfl (fun _=>aa.tv hpl (aa.tv rfl (aa.ite (v:=false) (by simp [asBool]; omega) nofun fun _=>aa.tv (v:=B false) rfl (aa.ite (v:=false) rfl nofun fun _=>f7_0_J ?_)))) nofun))))),⟨.lit af,rfl,.nil,kI 5 (by decide),hin (by simp),hin (by simp),hin (by simp),zw,z⟩⟩
  unfold f7_0
  refine aa.chk rfl (aa.tv (v:=B false) rfl (aa.ite (v:=false) rfl nofun fun _=>aa.tv (v:=B false) rfl (aa.ite (v:=false) rfl nofun fun _=>aa.tv (v:=B false) rfl (f7_1_J ?_))))
  unfold f7_1
  refine aa.ite (v:=false) rfl nofun fun _=>aa.tv (v:=B false) rfl (aa.ite (v:=false) rfl nofun fun _=>aa.tv (v:=B false) rfl (aa.ite (v:=false) rfl nofun fun _=>aa.tv (v:=B false) rfl (aa.ite (v:=false) rfl nofun fun _=>aa.tv (v:=B false) rfl (aa.ite (v:=false) rfl nofun fun _=>rdI hl (i:=0) rfl (by omega) (rdI hl (i:=1) rfl (by omega) (rdI hl (i:=2) rfl (by omega) (aa.ret)))))))
 ·obtain ⟨a,b,c,rfl⟩:=len3 (hlen.trans hcnt)
  rw [show (mkI 6 [a,b,c]:DIns)=⟨6,a,b,c,0,0,[]⟩ from by simp [mkI]]
  refine ⟨_,start h (by decide) (aa.tv rfl (aa.tv (v:=B false) rfl (aa.ite (v:=false) rfl nofun fun _=>aa.tv (v:=B false) rfl (aa.ite (v:=false) rfl nofun fun _=>aa.tv (v:=B true) rfl (aa.ite (v:=true) rfl (fun _=>aa.tv hpl (aa.tv rfl (aa.ite (v:=false) (by simp [asBool]; omega) nofun fun _=>aa.tv (v:=B false) rfl (aa.ite (v:=false) rfl nofun fun _=>f7_0_J ?_)))) nofun))))),⟨.lit af,rfl,.nil,kI 6 (by decide),hin (by simp),hin (by simp),hin (by simp),zw,z⟩⟩
  unfold f7_0
  refine aa.chk rfl (aa.tv (v:=B false) rfl (aa.ite (v:=false) rfl nofun fun _=>aa.tv (v:=B false) rfl (aa.ite (v:=false) rfl nofun fun _=>aa.tv (v:=B false) rfl (f7_1_J ?_))))
  unfold f7_1
  refine aa.ite (v:=false) rfl nofun fun _=>aa.tv (v:=B false) rfl (aa.ite (v:=false) rfl nofun fun _=>aa.tv (v:=B false) rfl (aa.ite (v:=false) rfl nofun fun _=>aa.tv (v:=B false) rfl (aa.ite (v:=false) rfl nofun fun _=>aa.tv (v:=B false) rfl (aa.ite (v:=false) rfl nofun fun _=>rdI hl (i:=0) rfl (by omega) (rdI hl (i:=1) rfl (by omega) (rdI hl (i:=2) rfl (by omega) (aa.ret)))))))
 ·obtain ⟨a,b,c,rfl⟩:=len3 (hlen.trans hcnt)
  rw [show (mkI 7 [a,b,c]:DIns)=⟨7,a,b,c,0,0,[]⟩ from by simp [mkI]]
  refine ⟨_,start h (by decide) (aa.tv rfl (aa.tv (v:=B false) rfl (aa.ite (v:=false) rfl nofun fun _=>aa.tv (v:=B false) rfl (aa.ite (v:=false) rfl nofun fun _=>aa.tv (v:=B true) rfl (aa.ite (v:=true) rfl (fun _=>aa.tv hpl (aa.tv rfl (aa.ite (v:=false) (by simp [asBool]; omega) nofun fun _=>aa.tv (v:=B false) rfl (aa.ite (v:=false) rfl nofun fun _=>f7_0_J ?_)))) nofun))))),⟨.lit af,rfl,.nil,kI 7 (by decide),hin (by simp),hin (by simp),hin (by simp),zw,z⟩⟩
  unfold f7_0
  refine aa.chk rfl (aa.tv (v:=B false) rfl (aa.ite (v:=false) rfl nofun fun _=>aa.tv (v:=B false) rfl (aa.ite (v:=false) rfl nofun fun _=>aa.tv (v:=B false) rfl (f7_1_J ?_))))
  unfold f7_1
  refine aa.ite (v:=false) rfl nofun fun _=>aa.tv (v:=B false) rfl (aa.ite (v:=false) rfl nofun fun _=>aa.tv (v:=B false) rfl (aa.ite (v:=false) rfl nofun fun _=>aa.tv (v:=B false) rfl (aa.ite (v:=false) rfl nofun fun _=>aa.tv (v:=B false) rfl (aa.ite (v:=false) rfl nofun fun _=>rdI hl (i:=0) rfl (by omega) (rdI hl (i:=1) rfl (by omega) (rdI hl (i:=2) rfl (by omega) (aa.ret)))))))
 ·obtain ⟨a,b,c,rfl⟩:=len3 (hlen.trans hcnt)
  rw [show (mkI 8 [a,b,c]:DIns)=⟨8,a,b,c,0,0,[]⟩ from by simp [mkI]]
  refine ⟨_,start h (by decide) (aa.tv rfl (aa.tv (v:=B false) rfl (aa.ite (v:=false) rfl nofun fun _=>aa.tv (v:=B false) rfl (aa.ite (v:=false) rfl nofun fun _=>aa.tv (v:=B true) rfl (aa.ite (v:=true) rfl (fun _=>aa.tv hpl (aa.tv rfl (aa.ite (v:=false) (by simp [asBool]; omega) nofun fun _=>aa.tv (v:=B false) rfl (aa.ite (v:=false) rfl nofun fun _=>f7_0_J ?_)))) nofun))))),⟨.lit af,rfl,.nil,kI 8 (by decide),hin (by simp),hin (by simp),hin (by simp),zw,z⟩⟩
  unfold f7_0
  refine aa.chk rfl (aa.tv (v:=B false) rfl (aa.ite (v:=false) rfl nofun fun _=>aa.tv (v:=B false) rfl (aa.ite (v:=false) rfl nofun fun _=>aa.tv (v:=B false) rfl (f7_1_J ?_))))
  unfold f7_1
  refine aa.ite (v:=false) rfl nofun fun _=>aa.tv (v:=B false) rfl (aa.ite (v:=false) rfl nofun fun _=>aa.tv (v:=B false) rfl (aa.ite (v:=false) rfl nofun fun _=>aa.tv (v:=B false) rfl (aa.ite (v:=false) rfl nofun fun _=>aa.tv (v:=B false) rfl (aa.ite (v:=false) rfl nofun fun _=>rdI hl (i:=0) rfl (by omega) (rdI hl (i:=1) rfl (by omega) (rdI hl (i:=2) rfl (by omega) (aa.ret)))))))
 ·obtain ⟨a,b,rfl⟩:=len2 (hlen.trans hcnt)
  rw [show (mkI 9 [a,b]:DIns)=⟨9,a,b,0,0,0,[]⟩ from by simp [mkI]]
  refine ⟨_,start h (by decide) (aa.tv rfl (aa.tv (v:=B false) rfl (aa.ite (v:=false) rfl nofun fun _=>aa.tv (v:=B false) rfl (aa.ite (v:=false) rfl nofun fun _=>aa.tv (v:=B true) rfl (aa.ite (v:=true) rfl (fun _=>aa.tv hpl (aa.tv rfl (aa.ite (v:=false) (by simp [asBool]; omega) nofun fun _=>aa.tv (v:=B false) rfl (aa.ite (v:=false) rfl nofun fun _=>f7_0_J ?_)))) nofun))))),⟨.lit af,rfl,.nil,kI 9 (by decide),hin (by simp),hin (by simp),z,zw,z⟩⟩
  unfold f7_0
  refine aa.chk rfl (aa.tv (v:=B false) rfl (aa.ite (v:=false) rfl nofun fun _=>aa.tv (v:=B false) rfl (aa.ite (v:=false) rfl nofun fun _=>aa.tv (v:=B true) rfl (f7_1_J ?_))))
  unfold f7_1
  exact aa.ite (v:=true) rfl (fun _=>rdI hl (i:=0) rfl (by omega) (rdI hl (i:=1) rfl (by omega) (aa.ret))) nofun
 ·obtain ⟨a,b,rfl⟩:=len2 (hlen.trans hcnt)
  rw [show (mkI 10 [a,b]:DIns)=⟨10,0,a,b,0,0,[]⟩ from by simp [mkI]]
  refine ⟨_,start h (by decide) (aa.tv rfl (aa.tv (v:=B false) rfl (aa.ite (v:=false) rfl nofun fun _=>aa.tv (v:=B false) rfl (aa.ite (v:=false) rfl nofun fun _=>aa.tv (v:=B true) rfl (aa.ite (v:=true) rfl (fun _=>aa.tv hpl (aa.tv rfl (aa.ite (v:=false) (by simp [asBool]; omega) nofun fun _=>aa.tv (v:=B false) rfl (aa.ite (v:=false) rfl nofun fun _=>f7_0_J ?_)))) nofun))))),⟨.lit af,rfl,.nil,kI 10 (by decide),z,hin (by simp),hin (by simp),zw,z⟩⟩
  unfold f7_0
  refine aa.chk rfl (aa.tv (v:=B false) rfl (aa.ite (v:=false) rfl nofun fun _=>aa.tv (v:=B false) rfl (aa.ite (v:=false) rfl nofun fun _=>aa.tv (v:=B false) rfl (f7_1_J ?_))))
  unfold f7_1
  refine aa.ite (v:=false) rfl nofun fun _=>aa.tv (v:=B true) rfl (aa.ite (v:=true) rfl (fun _=>rdI hl (i:=0) rfl (by omega) (rdI hl (i:=1) rfl (by omega) (aa.ret))) nofun)
 ·obtain ⟨a,b,r,rfl⟩:=len2m (l:=l) (by omega)
  obtain ⟨v',g1,g2⟩:=RL.so hl (k:=2) (by simp)
  rw [show (mkI 11 (a :: b :: r):DIns)=⟨11,a,0,0,0,b,r⟩ from by simp [mkI]]
  refine ⟨_,start h (by decide) (aa.tv rfl (aa.tv (v:=B false) rfl (aa.ite (v:=false) rfl nofun fun _=>aa.tv (v:=B false) rfl (aa.ite (v:=false) rfl nofun fun _=>aa.tv (v:=B false) rfl (aa.ite (v:=false) rfl nofun fun _=>aa.tv (v:=B true) rfl (aa.ite (v:=true) rfl (fun _=>aa.tv hpl (aa.tv rfl (aa.ite (v:=false) (by simp [asBool]; omega) nofun fun _=>aa.tv hpl (aa.tv rfl (aa.ite (v:=false) (by simp [asBool]; omega) nofun fun _=>f7_0_J ?_))))) nofun)))))),⟨v',rfl,RL.weak g2 fun _ _ h=>h,kI 11 (by decide),hin (by simp),z,z,zw,hin (by simp)⟩⟩
  unfold f7_0
  refine aa.chk rfl (aa.tv (v:=B false) rfl (aa.ite (v:=false) rfl nofun fun _=>aa.tv (v:=B false) rfl (aa.ite (v:=false) rfl nofun fun _=>aa.tv (v:=B false) rfl (f7_1_J ?_))))
  unfold f7_1
  refine aa.ite (v:=false) rfl nofun fun _=>aa.tv (v:=B false) rfl (aa.ite (v:=false) rfl nofun fun _=>aa.tv (v:=B true) rfl (aa.ite (v:=true) rfl (fun _=>rdI hl (i:=0) rfl (by omega) (rdI hl (i:=1) rfl (by omega) (?_))) nofun))
  refine aa.nat (RL.slLen hl) (aa.nat (v:=2) rfl (aa.chk ?_ (aa.tv g1 aa.ret)))
  show (slSize vn 1 && (2:Nat).ble (a :: b :: r).length && (a :: b :: r).length.ble (a :: b :: r).length)=true
  rw [RL.slSize hl]
  simp [Nat.ble_eq]
 ·obtain ⟨a,rfl⟩:=ix (hlen.trans hcnt)
  rw [show (mkI 12 [a]:DIns)=⟨12,0,a,0,0,0,[]⟩ from by simp [mkI]]
  refine ⟨_,start h (by decide) (aa.tv rfl (aa.tv (v:=B false) rfl (aa.ite (v:=false) rfl nofun fun _=>aa.tv (v:=B false) rfl (aa.ite (v:=false) rfl nofun fun _=>aa.tv (v:=B true) rfl (aa.ite (v:=true) rfl (fun _=>aa.tv hpl (aa.tv rfl (aa.ite (v:=false) (by simp [asBool]; omega) nofun fun _=>aa.tv (v:=B false) rfl (aa.ite (v:=false) rfl nofun fun _=>f7_0_J ?_)))) nofun))))),⟨.lit af,rfl,.nil,kI 12 (by decide),z,hin (by simp),z,zw,z⟩⟩
  unfold f7_0
  refine aa.chk rfl (aa.tv (v:=B false) rfl (aa.ite (v:=false) rfl nofun fun _=>aa.tv (v:=B false) rfl (aa.ite (v:=false) rfl nofun fun _=>aa.tv (v:=B false) rfl (f7_1_J ?_))))
  unfold f7_1
  refine aa.ite (v:=false) rfl nofun fun _=>aa.tv (v:=B false) rfl (aa.ite (v:=false) rfl nofun fun _=>aa.tv (v:=B false) rfl (aa.ite (v:=false) rfl nofun fun _=>aa.tv (v:=B true) rfl (aa.ite (v:=true) rfl (fun _=>rdI hl (i:=0) rfl (by omega) (aa.ret)) nofun)))
 ·obtain ⟨a,rfl⟩:=ix (hlen.trans hcnt)
  rw [show (mkI 13 [a]:DIns)=⟨13,a,0,0,0,0,[]⟩ from by simp [mkI]]
  refine ⟨_,start h (by decide) (aa.tv rfl (aa.tv (v:=B false) rfl (aa.ite (v:=false) rfl nofun fun _=>aa.tv (v:=B false) rfl (aa.ite (v:=false) rfl nofun fun _=>aa.tv (v:=B true) rfl (aa.ite (v:=true) rfl (fun _=>aa.tv hpl (aa.tv rfl (aa.ite (v:=false) (by simp [asBool]; omega) nofun fun _=>aa.tv (v:=B false) rfl (aa.ite (v:=false) rfl nofun fun _=>f7_0_J ?_)))) nofun))))),⟨.lit af,rfl,.nil,kI 13 (by decide),hin (by simp),z,z,zw,z⟩⟩
  unfold f7_0
  refine aa.chk rfl (aa.tv (v:=B false) rfl (aa.ite (v:=false) rfl nofun fun _=>aa.tv (v:=B false) rfl (aa.ite (v:=false) rfl nofun fun _=>aa.tv (v:=B false) rfl (f7_1_J ?_))))
  unfold f7_1
  refine aa.ite (v:=false) rfl nofun fun _=>aa.tv (v:=B false) rfl (aa.ite (v:=false) rfl nofun fun _=>aa.tv (v:=B false) rfl (aa.ite (v:=false) rfl nofun fun _=>aa.tv (v:=B false) rfl (aa.ite (v:=false) rfl nofun fun _=>aa.tv (v:=B true) rfl (aa.ite (v:=true) rfl (fun _=>rdI hl (i:=0) rfl (by omega) (aa.ret)) nofun))))
end Go.Ab.Z14
end

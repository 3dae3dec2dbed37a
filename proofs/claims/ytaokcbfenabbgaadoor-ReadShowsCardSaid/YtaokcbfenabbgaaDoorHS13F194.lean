import Derived.Test.YtaokcbfenabbgaaDoorHS13F193
set_option linter.all false
set_option maxRecDepth 20000
namespace Go.Ab
def fAt (ts:List (List UInt8)) (k j:Nat) (y:TV):TV:=if j < k then I (puV (ts.getD j [])) else y
theorem ez (ts:List (List UInt8)) (k j:Nat) (n:Int):aB (fAt ts k j (I n))=true:=by
 unfold fAt
 split <;> rfl
theorem aW {ts:List (List UInt8)} {k j:Nat} {y:TV} (h:j < k):fAt ts (k + 1) j y=fAt ts k j y:=by
 unfold fAt
 rw [if_pos (by omega),if_pos h]
theorem xJ (ts:List (List UInt8)) (j:Nat):fAt ts ts.length j (I 0)=I ((ts.map puV).getD j 0):=by
 unfold fAt
 split
 ·rename_i h
  rw [DH,DH,Dz,Du h]
  rfl
 ·rename_i h
  rw [DH,DF (by rw [List.length_map]; omega)]
  rfl
theorem cB {ts:List (List UInt8)} {k:Nat} (h:k < ts.length):ts[k]? = some (ts.getD k []):=by
 rw [DH,Du h]
 rfl
theorem dN {ts:List (List UInt8)} {k:Nat} (h:k < ts.length):ts.getD k [] ∈ ts:=DC (cB h)
theorem cp {ts:List (List UInt8)} {k n:Nat} (h:k < ts.length) (hn:n<=k):(ts.take (k + 1)).drop n=(ts.take k).drop n ++ [ts.getD k []]:=by
 rw [List.take_add_one,cB h,List.drop_append_of_le_length (by rw [List.length_take]; omega)]
 rfl
theorem conv16 {a:Int} (h0:0<=a) (h:a<=65535):pconv (.int .u16) (I a)=some (W a):=by
 show some (TV.lit (.int .u16 (IntKind.u16.wrap a)))=_
 have e:IntKind.u16.wrap a=a:=by
  unfold IntKind.wrap
  simp only [IntKind.bits,IntKind.signed]
  have:a % 65536=a:=Int.emod_eq_of_lt h0 (by omega)
  simp [this]
 rw [e]
theorem AZ (ts:List (List UInt8)) (k j:Nat):pconv (.int .u16) (fAt ts k j (I 0))=some (W (if j < k then puV (ts.getD j []) else 0)):=by
 unfold fAt
 split
 ·have:=c8 (ts.getD j [])
  exact conv16 this.1 this.2
 ·rfl
end Go.Ab
namespace Go.Ab.S13
open Go Go.Ab Go.Proofs
theorem lI2 {q:Option Bool} {ws:TV} {ts:List (List UInt8)} (hx:RStrs q ws ts) (hl:ts.length<=1000000) (hs:∀ t,t ∈ ts->t.length<=4000000000) {op:Int}:∃ w',RInts (some true) w' ((ts.drop 2).map puV)/\aa prog 15 (f15_2 ws (I (ts.length:Nat)) (I (0:Int)) (.lit aj) (I op) (I 0) (I 0) (I 0) (W 0) (I 0) (.lit aj)) (.agg [I op,fAt ts ts.length 0 (I 0),fAt ts ts.length 1 (I 0),I 0,W 0,I 0,.lit aj]):=by
 have key:∀ (d k:Nat) (w:TV),k + d=ts.length->RInts (some true) w (((ts.take k).drop 2).map puV)->∃ w',RInts (some true) w' ((ts.drop 2).map puV)/\aa prog 15 (f15_2 ws (I (ts.length:Nat)) (I (k:Nat)) w (I op) (fAt ts k 0 (I 0)) (fAt ts k 1 (I 0)) (I 0) (W 0) (I 0) (.lit aj)) (.agg [I op,fAt ts ts.length 0 (I 0),fAt ts ts.length 1 (I 0),I 0,W 0,I 0,.lit aj]):=by
  intro d
  induction d with
  | zero =>
   intro k w hk hw
   have hk:k=ts.length:=by omega
   subst hk
   have ho:aB w=true:=RL.own hw fun _ _ h=>by rw [h.1]; rfl
   rw [List.take_length] at hw
   refine ⟨w,hw,?_⟩
   unfold f15_2
   refine aa.tv rfl (aa.ite cA nofun fun _=>aa.chk ?_ aa.ret)
   simp [bY,aB,ez,ho,aj]
  | succ d ih =>
   intro k w hk hw
   have hkl:k < ts.length:=by omega
   obtain ⟨e,he,hr⟩:=hx.idx (k:=.i64) (cB hkl)
   have hr:e=[Sb (ts.getD k [])]:=hr
   subst hr
   have hnum:aC prog 30 [Sb (ts.getD k [])] (I (puV (ts.getD k []))):=dL (hs _ (dN hkl))
   have hin:=c8 (ts.getD k [])
   by_cases hkn:k < 2
   ·obtain ⟨w',h1,h2⟩:=ih (k + 1) w (by omega) (by rw [List.drop_eq_nil_of_le (by rw [List.length_take]; omega)] at hw ⊢; exact hw)
    refine ⟨w',h1,?_⟩
    unfold f15_2
    refine aa.tv rfl (aa.ite (bg hkl) (fun _=>?_) nofun)
    refine aa.tvs he (aa.chk rfl ?_)
    refine aa.tv rfl (aa.ite (v:=true) (by simp [asBool]; omega) (fun _=>?_) nofun)
    rcases (by omega:k=0\/k=1) with rfl | rfl
    ·refine aa.nat rfl (aa.ite (v:=false) rfl nofun fun _=>aa.ite (v:=true) rfl (fun _=>?_) nofun)
     exact aa.call hnum (aa.chk rfl (aa.tv (inc (n:=1) (by omega) (by omega)) (f15_2_J h2)))
    ·refine aa.nat rfl (aa.ite (v:=true) rfl (fun _=>?_) nofun)
     exact aa.call hnum (aa.chk rfl (aa.tv (inc (n:=2) (by omega) (by omega)) (f15_2_J h2)))
   ·have e:(ts.take (k + 1)).drop 2=(ts.take k).drop 2 ++ [ts.getD k []]:=cp hkl (by omega)
    obtain ⟨w2,c1,c2⟩:=RL.snoc hw (e:=[I (puV (ts.getD k []))]) (a:=puV (ts.getD k [])) ⟨rfl,by constructor <;> omega⟩ (by simp only [List.length_map,List.length_drop,List.length_take]; omega)
    obtain ⟨w',h1,h2⟩:=ih (k + 1) w2 (by omega) (by rw [e,List.map_append]; exact c2)
    refine ⟨w',h1,?_⟩
    rw [aW (k:=k) (j:=0) (by omega),aW (k:=k) (j:=1) (by omega)] at h2
    unfold f15_2
    refine aa.tv rfl (aa.ite (bg hkl) (fun _=>?_) nofun)
    refine aa.tvs he (aa.chk rfl ?_)
    refine aa.tv rfl (aa.ite (v:=false) (by simp [asBool]; omega) nofun fun _=>?_)
    exact aa.call hnum (aa.chk rfl (aa.rws rfl (aa.tv c1 (aa.tv (inc (n:=k + 1) (by omega) (by omega)) (f15_2_J h2)))))
 exact key ts.length 0 (.lit aj) (by omega) (by rw [List.take_zero,List.drop_nil]; exact RL.nil)
theorem lI4 {q:Option Bool} {ws:TV} {ts:List (List UInt8)} (hx:RStrs q ws ts) (hl:ts.length<=1000000) (hs:∀ t,t ∈ ts->t.length<=4000000000) {op:Int}:∃ w',RInts (some true) w' ((ts.drop 3).map puV)/\aa prog 15 (f15_4 ws (I (ts.length:Nat)) (I (0:Int)) (.lit aj) (I op) (I 0) (I 0) (I 0) (W 0) (I 0) (.lit aj)) (.agg [I op,fAt ts ts.length 0 (I 0),fAt ts ts.length 1 (I 0),fAt ts ts.length 2 (I 0),W 0,I 0,.lit aj]):=by
 have key:∀ (d k:Nat) (w:TV),k + d=ts.length->RInts (some true) w (((ts.take k).drop 3).map puV)->∃ w',RInts (some true) w' ((ts.drop 3).map puV)/\aa prog 15 (f15_4 ws (I (ts.length:Nat)) (I (k:Nat)) w (I op) (fAt ts k 0 (I 0)) (fAt ts k 1 (I 0)) (fAt ts k 2 (I 0)) (W 0) (I 0) (.lit aj)) (.agg [I op,fAt ts ts.length 0 (I 0),fAt ts ts.length 1 (I 0),fAt ts ts.length 2 (I 0),W 0,I 0,.lit aj]):=by
  intro d
  induction d with
  | zero =>
   intro k w hk hw
   have hk:k=ts.length:=by omega
   subst hk
   have ho:aB w=true:=RL.own hw fun _ _ h=>by rw [h.1]; rfl
   rw [List.take_length] at hw
   refine ⟨w,hw,?_⟩
   unfold f15_4
   refine aa.tv rfl (aa.ite cA nofun fun _=>aa.chk ?_ aa.ret)
   simp [bY,aB,ez,ho,aj]
  | succ d ih =>
   intro k w hk hw
   have hkl:k < ts.length:=by omega
   obtain ⟨e,he,hr⟩:=hx.idx (k:=.i64) (cB hkl)
   have hr:e=[Sb (ts.getD k [])]:=hr
   subst hr
   have hnum:aC prog 30 [Sb (ts.getD k [])] (I (puV (ts.getD k []))):=dL (hs _ (dN hkl))
   have hin:=c8 (ts.getD k [])
   by_cases hkn:k < 3
   ·obtain ⟨w',h1,h2⟩:=ih (k + 1) w (by omega) (by rw [List.drop_eq_nil_of_le (by rw [List.length_take]; omega)] at hw ⊢; exact hw)
    refine ⟨w',h1,?_⟩
    unfold f15_4
    refine aa.tv rfl (aa.ite (bg hkl) (fun _=>?_) nofun)
    refine aa.tvs he (aa.chk rfl ?_)
    refine aa.tv rfl (aa.ite (v:=true) (by simp [asBool]; omega) (fun _=>?_) nofun)
    rcases (by omega:k=0\/k=1\/k=2) with rfl | rfl | rfl
    ·refine aa.nat rfl (aa.ite (v:=false) rfl nofun fun _=>aa.ite (v:=false) rfl nofun fun _=>aa.ite (v:=true) rfl (fun _=>?_) nofun)
     exact aa.call hnum (aa.chk rfl (aa.tv (inc (n:=1) (by omega) (by omega)) (f15_4_J h2)))
    ·refine aa.nat rfl (aa.ite (v:=false) rfl nofun fun _=>aa.ite (v:=true) rfl (fun _=>?_) nofun)
     exact aa.call hnum (aa.chk rfl (aa.tv (inc (n:=2) (by omega) (by omega)) (f15_4_J h2)))
    ·refine aa.nat rfl (aa.ite (v:=true) rfl (fun _=>?_) nofun)
     exact aa.call hnum (aa.chk rfl (aa.tv (inc (n:=3) (by omega) (by omega)) (f15_4_J h2)))
   ·have e:(ts.take (k + 1)).drop 3=(ts.take k).drop 3 ++ [ts.getD k []]:=cp hkl (by omega)
    obtain ⟨w2,c1,c2⟩:=RL.snoc hw (e:=[I (puV (ts.getD k []))]) (a:=puV (ts.getD k [])) ⟨rfl,by constructor <;> omega⟩ (by simp only [List.length_map,List.length_drop,List.length_take]; omega)
    obtain ⟨w',h1,h2⟩:=ih (k + 1) w2 (by omega) (by rw [e,List.map_append]; exact c2)
    refine ⟨w',h1,?_⟩
    rw [aW (k:=k) (j:=0) (by omega),aW (k:=k) (j:=1) (by omega),aW (k:=k) (j:=2) (by omega)] at h2
    unfold f15_4
    refine aa.tv rfl (aa.ite (bg hkl) (fun _=>?_) nofun)
    refine aa.tvs he (aa.chk rfl ?_)
    refine aa.tv rfl (aa.ite (v:=false) (by simp [asBool]; omega) nofun fun _=>?_)
    exact aa.call hnum (aa.chk rfl (aa.rws rfl (aa.tv c1 (aa.tv (inc (n:=k + 1) (by omega) (by omega)) (f15_4_J h2)))))
 exact key ts.length 0 (.lit aj) (by omega) (by rw [List.take_zero,List.drop_nil]; exact RL.nil)
theorem lI5 {q:Option Bool} {ws:TV} {ts:List (List UInt8)} (hx:RStrs q ws ts) (hl:ts.length<=1000000) (hs:∀ t,t ∈ ts->t.length<=4000000000) {op:Int}:∃ w',RInts (some true) w' ((ts.drop 2).map puV)/\aa prog 15 (f15_5 ws (I (ts.length:Nat)) (I (0:Int)) (.lit aj) (I op) (I 0) (I 0) (I 0) (W 0) (I 0) (.lit aj)) (.agg [I op,I 0,fAt ts ts.length 0 (I 0),fAt ts ts.length 1 (I 0),W 0,I 0,.lit aj]):=by
 have key:∀ (d k:Nat) (w:TV),k + d=ts.length->RInts (some true) w (((ts.take k).drop 2).map puV)->∃ w',RInts (some true) w' ((ts.drop 2).map puV)/\aa prog 15 (f15_5 ws (I (ts.length:Nat)) (I (k:Nat)) w (I op) (I 0) (fAt ts k 0 (I 0)) (fAt ts k 1 (I 0)) (W 0) (I 0) (.lit aj)) (.agg [I op,I 0,fAt ts ts.length 0 (I 0),fAt ts ts.length 1 (I 0),W 0,I 0,.lit aj]):=by
  intro d
  induction d with
  | zero =>
   intro k w hk hw
   have hk:k=ts.length:=by omega
   subst hk
   have ho:aB w=true:=RL.own hw fun _ _ h=>by rw [h.1]; rfl
   rw [List.take_length] at hw
   refine ⟨w,hw,?_⟩
   unfold f15_5
   refine aa.tv rfl (aa.ite cA nofun fun _=>aa.chk ?_ aa.ret)
   simp [bY,aB,ez,ho,aj]
  | succ d ih =>
   intro k w hk hw
   have hkl:k < ts.length:=by omega
   obtain ⟨e,he,hr⟩:=hx.idx (k:=.i64) (cB hkl)
   have hr:e=[Sb (ts.getD k [])]:=hr
   subst hr
   have hnum:aC prog 30 [Sb (ts.getD k [])] (I (puV (ts.getD k []))):=dL (hs _ (dN hkl))
   have hin:=c8 (ts.getD k [])
   by_cases hkn:k < 2
   ·obtain ⟨w',h1,h2⟩:=ih (k + 1) w (by omega) (by rw [List.drop_eq_nil_of_le (by rw [List.length_take]; omega)] at hw ⊢; exact hw)
    refine ⟨w',h1,?_⟩
    unfold f15_5
    refine aa.tv rfl (aa.ite (bg hkl) (fun _=>?_) nofun)
    refine aa.tvs he (aa.chk rfl ?_)
    refine aa.tv rfl (aa.ite (v:=true) (by simp [asBool]; omega) (fun _=>?_) nofun)
    rcases (by omega:k=0\/k=1) with rfl | rfl
    ·refine aa.nat rfl (aa.ite (v:=false) rfl nofun fun _=>aa.ite (v:=true) rfl (fun _=>?_) nofun)
     exact aa.call hnum (aa.chk rfl (aa.tv (inc (n:=1) (by omega) (by omega)) (f15_5_J h2)))
    ·refine aa.nat rfl (aa.ite (v:=true) rfl (fun _=>?_) nofun)
     exact aa.call hnum (aa.chk rfl (aa.tv (inc (n:=2) (by omega) (by omega)) (f15_5_J h2)))
   ·have e:(ts.take (k + 1)).drop 2=(ts.take k).drop 2 ++ [ts.getD k []]:=cp hkl (by omega)
    obtain ⟨w2,c1,c2⟩:=RL.snoc hw (e:=[I (puV (ts.getD k []))]) (a:=puV (ts.getD k [])) ⟨rfl,by constructor <;> omega⟩ (by simp only [List.length_map,List.length_drop,List.length_take]; omega)
    obtain ⟨w',h1,h2⟩:=ih (k + 1) w2 (by omega) (by rw [e,List.map_append]; exact c2)
    refine ⟨w',h1,?_⟩
    rw [aW (k:=k) (j:=0) (by omega),aW (k:=k) (j:=1) (by omega)] at h2
    unfold f15_5
    refine aa.tv rfl (aa.ite (bg hkl) (fun _=>?_) nofun)
    refine aa.tvs he (aa.chk rfl ?_)
    refine aa.tv rfl (aa.ite (v:=false) (by simp [asBool]; omega) nofun fun _=>?_)
    exact aa.call hnum (aa.chk rfl (aa.rws rfl (aa.tv c1 (aa.tv (inc (n:=k + 1) (by omega) (by omega)) (f15_5_J h2)))))
 exact key ts.length 0 (.lit aj) (by omega) (by rw [List.take_zero,List.drop_nil]; exact RL.nil)
theorem lI6 {q:Option Bool} {ws:TV} {ts:List (List UInt8)} (hx:RStrs q ws ts) (hl:ts.length<=1000000) (hs:∀ t,t ∈ ts->t.length<=4000000000) {op:Int}:∃ w',RInts (some true) w' ((ts.drop 2).map puV)/\aa prog 15 (f15_6 ws (I (ts.length:Nat)) (I (0:Int)) (.lit aj) (I op) (I 0) (I 0) (I 0) (W 0) (I 0) (.lit aj)) (.agg [I op,fAt ts ts.length 0 (I 0),I 0,I 0,W 0,fAt ts ts.length 1 (I 0),w']):=by
 have key:∀ (d k:Nat) (w:TV),k + d=ts.length->RInts (some true) w (((ts.take k).drop 2).map puV)->∃ w',RInts (some true) w' ((ts.drop 2).map puV)/\aa prog 15 (f15_6 ws (I (ts.length:Nat)) (I (k:Nat)) w (I op) (fAt ts k 0 (I 0)) (I 0) (I 0) (W 0) (fAt ts k 1 (I 0)) (.lit aj)) (.agg [I op,fAt ts ts.length 0 (I 0),I 0,I 0,W 0,fAt ts ts.length 1 (I 0),w']):=by
  intro d
  induction d with
  | zero =>
   intro k w hk hw
   have hk:k=ts.length:=by omega
   subst hk
   have ho:aB w=true:=RL.own hw fun _ _ h=>by rw [h.1]; rfl
   rw [List.take_length] at hw
   refine ⟨w,hw,?_⟩
   unfold f15_6
   refine aa.tv rfl (aa.ite cA nofun fun _=>aa.chk ?_ aa.ret)
   simp [bY,aB,ez,ho,aj]
  | succ d ih =>
   intro k w hk hw
   have hkl:k < ts.length:=by omega
   obtain ⟨e,he,hr⟩:=hx.idx (k:=.i64) (cB hkl)
   have hr:e=[Sb (ts.getD k [])]:=hr
   subst hr
   have hnum:aC prog 30 [Sb (ts.getD k [])] (I (puV (ts.getD k []))):=dL (hs _ (dN hkl))
   have hin:=c8 (ts.getD k [])
   by_cases hkn:k < 2
   ·obtain ⟨w',h1,h2⟩:=ih (k + 1) w (by omega) (by rw [List.drop_eq_nil_of_le (by rw [List.length_take]; omega)] at hw ⊢; exact hw)
    refine ⟨w',h1,?_⟩
    unfold f15_6
    refine aa.tv rfl (aa.ite (bg hkl) (fun _=>?_) nofun)
    refine aa.tvs he (aa.chk rfl ?_)
    refine aa.tv rfl (aa.ite (v:=true) (by simp [asBool]; omega) (fun _=>?_) nofun)
    rcases (by omega:k=0\/k=1) with rfl | rfl
    ·refine aa.nat rfl (aa.ite (v:=false) rfl nofun fun _=>aa.ite (v:=true) rfl (fun _=>?_) nofun)
     exact aa.call hnum (aa.chk rfl (aa.tv (inc (n:=1) (by omega) (by omega)) (f15_6_J h2)))
    ·refine aa.nat rfl (aa.ite (v:=true) rfl (fun _=>?_) nofun)
     exact aa.call hnum (aa.chk rfl (aa.tv (inc (n:=2) (by omega) (by omega)) (f15_6_J h2)))
   ·have e:(ts.take (k + 1)).drop 2=(ts.take k).drop 2 ++ [ts.getD k []]:=cp hkl (by omega)
    obtain ⟨w2,c1,c2⟩:=RL.snoc hw (e:=[I (puV (ts.getD k []))]) (a:=puV (ts.getD k [])) ⟨rfl,by constructor <;> omega⟩ (by simp only [List.length_map,List.length_drop,List.length_take]; omega)
    obtain ⟨w',h1,h2⟩:=ih (k + 1) w2 (by omega) (by rw [e,List.map_append]; exact c2)
    refine ⟨w',h1,?_⟩
    rw [aW (k:=k) (j:=0) (by omega),aW (k:=k) (j:=1) (by omega)] at h2
    unfold f15_6
    refine aa.tv rfl (aa.ite (bg hkl) (fun _=>?_) nofun)
    refine aa.tvs he (aa.chk rfl ?_)
    refine aa.tv rfl (aa.ite (v:=false) (by simp [asBool]; omega) nofun fun _=>?_)
    exact aa.call hnum (aa.chk rfl (aa.rws rfl (aa.tv c1 (aa.tv (inc (n:=k + 1) (by omega) (by omega)) (f15_6_J h2)))))
 exact key ts.length 0 (.lit aj) (by omega) (by rw [List.take_zero,List.drop_nil]; exact RL.nil)
theorem lI7 {q:Option Bool} {ws:TV} {ts:List (List UInt8)} (hx:RStrs q ws ts) (hl:ts.length<=1000000) (hs:∀ t,t ∈ ts->t.length<=4000000000) {op:Int}:∃ w',RInts (some true) w' ((ts.drop 1).map puV)/\aa prog 15 (f15_7 ws (I (ts.length:Nat)) (I (0:Int)) (.lit aj) (I op) (I 0) (I 0) (I 0) (W 0) (I 0) (.lit aj)) (.agg [I op,I 0,fAt ts ts.length 0 (I 0),I 0,W 0,I 0,.lit aj]):=by
 have key:∀ (d k:Nat) (w:TV),k + d=ts.length->RInts (some true) w (((ts.take k).drop 1).map puV)->∃ w',RInts (some true) w' ((ts.drop 1).map puV)/\aa prog 15 (f15_7 ws (I (ts.length:Nat)) (I (k:Nat)) w (I op) (I 0) (fAt ts k 0 (I 0)) (I 0) (W 0) (I 0) (.lit aj)) (.agg [I op,I 0,fAt ts ts.length 0 (I 0),I 0,W 0,I 0,.lit aj]):=by
  intro d
  induction d with
  | zero =>
   intro k w hk hw
   have hk:k=ts.length:=by omega
   subst hk
   have ho:aB w=true:=RL.own hw fun _ _ h=>by rw [h.1]; rfl
   rw [List.take_length] at hw
   refine ⟨w,hw,?_⟩
   unfold f15_7
   refine aa.tv rfl (aa.ite cA nofun fun _=>aa.chk ?_ aa.ret)
   simp [bY,aB,ez,ho,aj]
  | succ d ih =>
   intro k w hk hw
   have hkl:k < ts.length:=by omega
   obtain ⟨e,he,hr⟩:=hx.idx (k:=.i64) (cB hkl)
   have hr:e=[Sb (ts.getD k [])]:=hr
   subst hr
   have hnum:aC prog 30 [Sb (ts.getD k [])] (I (puV (ts.getD k []))):=dL (hs _ (dN hkl))
   have hin:=c8 (ts.getD k [])
   by_cases hkn:k < 1
   ·obtain ⟨w',h1,h2⟩:=ih (k + 1) w (by omega) (by rw [List.drop_eq_nil_of_le (by rw [List.length_take]; omega)] at hw ⊢; exact hw)
    refine ⟨w',h1,?_⟩
    unfold f15_7
    refine aa.tv rfl (aa.ite (bg hkl) (fun _=>?_) nofun)
    refine aa.tvs he (aa.chk rfl ?_)
    refine aa.tv rfl (aa.ite (v:=true) (by simp [asBool]; omega) (fun _=>?_) nofun)
    obtain rfl:k=0:=by omega
    refine aa.nat rfl (aa.ite (v:=true) rfl (fun _=>?_) nofun)
    exact aa.call hnum (aa.chk rfl (aa.tv (inc (n:=1) (by omega) (by omega)) (f15_7_J h2)))
   ·have e:(ts.take (k + 1)).drop 1=(ts.take k).drop 1 ++ [ts.getD k []]:=cp hkl (by omega)
    obtain ⟨w2,c1,c2⟩:=RL.snoc hw (e:=[I (puV (ts.getD k []))]) (a:=puV (ts.getD k [])) ⟨rfl,by constructor <;> omega⟩ (by simp only [List.length_map,List.length_drop,List.length_take]; omega)
    obtain ⟨w',h1,h2⟩:=ih (k + 1) w2 (by omega) (by rw [e,List.map_append]; exact c2)
    refine ⟨w',h1,?_⟩
    rw [aW (k:=k) (j:=0) (by omega)] at h2
    unfold f15_7
    refine aa.tv rfl (aa.ite (bg hkl) (fun _=>?_) nofun)
    refine aa.tvs he (aa.chk rfl ?_)
    refine aa.tv rfl (aa.ite (v:=false) (by simp [asBool]; omega) nofun fun _=>?_)
    exact aa.call hnum (aa.chk rfl (aa.rws rfl (aa.tv c1 (aa.tv (inc (n:=k + 1) (by omega) (by omega)) (f15_7_J h2)))))
 exact key ts.length 0 (.lit aj) (by omega) (by rw [List.take_zero,List.drop_nil]; exact RL.nil)
theorem lI8 {q:Option Bool} {ws:TV} {ts:List (List UInt8)} (hx:RStrs q ws ts) (hl:ts.length<=1000000) (hs:∀ t,t ∈ ts->t.length<=4000000000) {op:Int}:∃ w',RInts (some true) w' ((ts.drop 1).map puV)/\aa prog 15 (f15_8 ws (I (ts.length:Nat)) (I (0:Int)) (.lit aj) (I op) (I 0) (I 0) (I 0) (W 0) (I 0) (.lit aj)) (.agg [I op,fAt ts ts.length 0 (I 0),I 0,I 0,W 0,I 0,.lit aj]):=by
 have key:∀ (d k:Nat) (w:TV),k + d=ts.length->RInts (some true) w (((ts.take k).drop 1).map puV)->∃ w',RInts (some true) w' ((ts.drop 1).map puV)/\aa prog 15 (f15_8 ws (I (ts.length:Nat)) (I (k:Nat)) w (I op) (fAt ts k 0 (I 0)) (I 0) (I 0) (W 0) (I 0) (.lit aj)) (.agg [I op,fAt ts ts.length 0 (I 0),I 0,I 0,W 0,I 0,.lit aj]):=by
  intro d
  induction d with
  | zero =>
   intro k w hk hw
   have hk:k=ts.length:=by omega
   subst hk
   have ho:aB w=true:=RL.own hw fun _ _ h=>by rw [h.1]; rfl
   rw [List.take_length] at hw
   refine ⟨w,hw,?_⟩
   unfold f15_8
   refine aa.tv rfl (aa.ite cA nofun fun _=>aa.chk ?_ aa.ret)
   simp [bY,aB,ez,ho,aj]
  | succ d ih =>
   intro k w hk hw
   have hkl:k < ts.length:=by omega
   obtain ⟨e,he,hr⟩:=hx.idx (k:=.i64) (cB hkl)
   have hr:e=[Sb (ts.getD k [])]:=hr
   subst hr
   have hnum:aC prog 30 [Sb (ts.getD k [])] (I (puV (ts.getD k []))):=dL (hs _ (dN hkl))
   have hin:=c8 (ts.getD k [])
   by_cases hkn:k < 1
   ·obtain ⟨w',h1,h2⟩:=ih (k + 1) w (by omega) (by rw [List.drop_eq_nil_of_le (by rw [List.length_take]; omega)] at hw ⊢; exact hw)
    refine ⟨w',h1,?_⟩
    unfold f15_8
    refine aa.tv rfl (aa.ite (bg hkl) (fun _=>?_) nofun)
    refine aa.tvs he (aa.chk rfl ?_)
    refine aa.tv rfl (aa.ite (v:=true) (by simp [asBool]; omega) (fun _=>?_) nofun)
    obtain rfl:k=0:=by omega
    refine aa.nat rfl (aa.ite (v:=true) rfl (fun _=>?_) nofun)
    exact aa.call hnum (aa.chk rfl (aa.tv (inc (n:=1) (by omega) (by omega)) (f15_8_J h2)))
   ·have e:(ts.take (k + 1)).drop 1=(ts.take k).drop 1 ++ [ts.getD k []]:=cp hkl (by omega)
    obtain ⟨w2,c1,c2⟩:=RL.snoc hw (e:=[I (puV (ts.getD k []))]) (a:=puV (ts.getD k [])) ⟨rfl,by constructor <;> omega⟩ (by simp only [List.length_map,List.length_drop,List.length_take]; omega)
    obtain ⟨w',h1,h2⟩:=ih (k + 1) w2 (by omega) (by rw [e,List.map_append]; exact c2)
    refine ⟨w',h1,?_⟩
    rw [aW (k:=k) (j:=0) (by omega)] at h2
    unfold f15_8
    refine aa.tv rfl (aa.ite (bg hkl) (fun _=>?_) nofun)
    refine aa.tvs he (aa.chk rfl ?_)
    refine aa.tv rfl (aa.ite (v:=false) (by simp [asBool]; omega) nofun fun _=>?_)
    exact aa.call hnum (aa.chk rfl (aa.rws rfl (aa.tv c1 (aa.tv (inc (n:=k + 1) (by omega) (by omega)) (f15_8_J h2)))))
 exact key ts.length 0 (.lit aj) (by omega) (by rw [List.take_zero,List.drop_nil]; exact RL.nil)
theorem lI0 {q:Option Bool} {ws:TV} {ts:List (List UInt8)} (hx:RStrs q ws ts) (hl:ts.length<=1000000) (hs:∀ t,t ∈ ts->t.length<=4000000000) {op:Int}:∃ w',RInts (some true) w' ((ts.drop 2).map puV)/\aa prog 15 (f15_0 ws (I (ts.length:Nat)) (I (0:Int)) (.lit aj) (I 0) (I 0) (I 0) (I 0) (W 0) (I 0) (.lit aj) (I op) (I 0) (I 0) (I 0) (W 0) (I 0) (.lit aj) (I 0)) (.agg [I op,fAt ts ts.length 0 (I 0),I 0,I 0,W (if 1 < ts.length then puV (ts.getD 1 []) else 0),I 0,.lit aj]):=by
 have key:∀ (d k:Nat) (w:TV),k + d=ts.length->RInts (some true) w (((ts.take k).drop 2).map puV)->∃ w',RInts (some true) w' ((ts.drop 2).map puV)/\aa prog 15 (f15_0 ws (I (ts.length:Nat)) (I (k:Nat)) w (I 0) (I 0) (I 0) (I 0) (W 0) (I 0) (.lit aj) (I op) (fAt ts k 0 (I 0)) (I 0) (I 0) (W 0) (I 0) (.lit aj) (fAt ts k 1 (I 0))) (.agg [I op,fAt ts ts.length 0 (I 0),I 0,I 0,W (if 1 < ts.length then puV (ts.getD 1 []) else 0),I 0,.lit aj]):=by
  intro d
  induction d with
  | zero =>
   intro k w hk hw
   have hk:k=ts.length:=by omega
   subst hk
   have ho:aB w=true:=RL.own hw fun _ _ h=>by rw [h.1]; rfl
   rw [List.take_length] at hw
   refine ⟨w,hw,?_⟩
   unfold f15_0
   refine aa.tv rfl (aa.ite cA nofun fun _=>aa.tv (AZ _ _ _) (aa.chk ?_ aa.ret))
   simp [bY,aB,ez,ho,aj]
  | succ d ih =>
   intro k w hk hw
   have hkl:k < ts.length:=by omega
   obtain ⟨e,he,hr⟩:=hx.idx (k:=.i64) (cB hkl)
   have hr:e=[Sb (ts.getD k [])]:=hr
   subst hr
   have hnum:aC prog 30 [Sb (ts.getD k [])] (I (puV (ts.getD k []))):=dL (hs _ (dN hkl))
   have hin:=c8 (ts.getD k [])
   by_cases hkn:k < 2
   ·obtain ⟨w',h1,h2⟩:=ih (k + 1) w (by omega) (by rw [List.drop_eq_nil_of_le (by rw [List.length_take]; omega)] at hw ⊢; exact hw)
    refine ⟨w',h1,?_⟩
    unfold f15_0
    refine aa.tv rfl (aa.ite (bg hkl) (fun _=>?_) nofun)
    refine aa.tvs he (aa.chk rfl ?_)
    refine aa.tv rfl (aa.ite (v:=true) (by simp [asBool]; omega) (fun _=>?_) nofun)
    rcases (by omega:k=0\/k=1) with rfl | rfl
    ·refine aa.nat rfl (aa.ite (v:=false) rfl nofun fun _=>aa.ite (v:=true) rfl (fun _=>?_) nofun)
     exact aa.call hnum (aa.chk rfl (aa.tv (inc (n:=1) (by omega) (by omega)) (f15_0_J h2)))
    ·refine aa.nat rfl (aa.ite (v:=true) rfl (fun _=>?_) nofun)
     exact aa.call hnum (aa.chk rfl (aa.tv (inc (n:=2) (by omega) (by omega)) (f15_0_J h2)))
   ·have e:(ts.take (k + 1)).drop 2=(ts.take k).drop 2 ++ [ts.getD k []]:=cp hkl (by omega)
    obtain ⟨w2,c1,c2⟩:=RL.snoc hw (e:=[I (puV (ts.getD k []))]) (a:=puV (ts.getD k [])) ⟨rfl,by constructor <;> omega⟩ (by simp only [List.length_map,List.length_drop,List.length_take]; omega)
    obtain ⟨w',h1,h2⟩:=ih (k + 1) w2 (by omega) (by rw [e,List.map_append]; exact c2)
    refine ⟨w',h1,?_⟩
    rw [aW (k:=k) (j:=0) (by omega),aW (k:=k) (j:=1) (by omega)] at h2
    unfold f15_0
    refine aa.tv rfl (aa.ite (bg hkl) (fun _=>?_) nofun)
    refine aa.tvs he (aa.chk rfl ?_)
    refine aa.tv rfl (aa.ite (v:=false) (by simp [asBool]; omega) nofun fun _=>?_)
    exact aa.call hnum (aa.chk rfl (aa.rws rfl (aa.tv c1 (aa.tv (inc (n:=k + 1) (by omega) (by omega)) (f15_0_J h2)))))
 exact key ts.length 0 (.lit aj) (by omega) (by rw [List.take_zero,List.drop_nil]; exact RL.nil)
theorem lE1 {q:Option Bool} {ws:TV} {ts:List (List UInt8)} (hx:RStrs q ws ts) (hl:ts.length<=1000000) (hs:∀ t,t ∈ ts->t.length<=4000000000) {op:Int}:∃ w',RInts (some true) w' ((ts.drop 1).map puV)/\aa prog 17 (f17_1 ws (I (ts.length:Nat)) (I (0:Int)) (.lit aj) (I op) (I 0) (I 0) (I 0) (.lit aj) (I 0) (I 0) (I 0)) (.agg [I op,fAt ts ts.length 0 (I 0),I 0,I 0,.lit aj,I 0,I 0,I 0]):=by
 have key:∀ (d k:Nat) (w:TV),k + d=ts.length->RInts (some true) w (((ts.take k).drop 1).map puV)->∃ w',RInts (some true) w' ((ts.drop 1).map puV)/\aa prog 17 (f17_1 ws (I (ts.length:Nat)) (I (k:Nat)) w (I op) (fAt ts k 0 (I 0)) (I 0) (I 0) (.lit aj) (I 0) (I 0) (I 0)) (.agg [I op,fAt ts ts.length 0 (I 0),I 0,I 0,.lit aj,I 0,I 0,I 0]):=by
  intro d
  induction d with
  | zero =>
   intro k w hk hw
   have hk:k=ts.length:=by omega
   subst hk
   have ho:aB w=true:=RL.own hw fun _ _ h=>by rw [h.1]; rfl
   rw [List.take_length] at hw
   refine ⟨w,hw,?_⟩
   unfold f17_1
   refine aa.tv rfl (aa.ite cA nofun fun _=>aa.chk ?_ aa.ret)
   simp [bY,aB,ez,ho,aj]
  | succ d ih =>
   intro k w hk hw
   have hkl:k < ts.length:=by omega
   obtain ⟨e,he,hr⟩:=hx.idx (k:=.i64) (cB hkl)
   have hr:e=[Sb (ts.getD k [])]:=hr
   subst hr
   have hnum:aC prog 30 [Sb (ts.getD k [])] (I (puV (ts.getD k []))):=dL (hs _ (dN hkl))
   have hin:=c8 (ts.getD k [])
   by_cases hkn:k < 1
   ·obtain ⟨w',h1,h2⟩:=ih (k + 1) w (by omega) (by rw [List.drop_eq_nil_of_le (by rw [List.length_take]; omega)] at hw ⊢; exact hw)
    refine ⟨w',h1,?_⟩
    unfold f17_1
    refine aa.tv rfl (aa.ite (bg hkl) (fun _=>?_) nofun)
    refine aa.tvs he (aa.chk rfl ?_)
    refine aa.tv rfl (aa.ite (v:=true) (by simp [asBool]; omega) (fun _=>?_) nofun)
    obtain rfl:k=0:=by omega
    refine aa.nat rfl (aa.ite (v:=true) rfl (fun _=>?_) nofun)
    exact aa.call hnum (aa.chk rfl (aa.tv (inc (n:=1) (by omega) (by omega)) (f17_1_J h2)))
   ·have e:(ts.take (k + 1)).drop 1=(ts.take k).drop 1 ++ [ts.getD k []]:=cp hkl (by omega)
    obtain ⟨w2,c1,c2⟩:=RL.snoc hw (e:=[I (puV (ts.getD k []))]) (a:=puV (ts.getD k [])) ⟨rfl,by constructor <;> omega⟩ (by simp only [List.length_map,List.length_drop,List.length_take]; omega)
    obtain ⟨w',h1,h2⟩:=ih (k + 1) w2 (by omega) (by rw [e,List.map_append]; exact c2)
    refine ⟨w',h1,?_⟩
    rw [aW (k:=k) (j:=0) (by omega)] at h2
    unfold f17_1
    refine aa.tv rfl (aa.ite (bg hkl) (fun _=>?_) nofun)
    refine aa.tvs he (aa.chk rfl ?_)
    refine aa.tv rfl (aa.ite (v:=false) (by simp [asBool]; omega) nofun fun _=>?_)
    exact aa.call hnum (aa.chk rfl (aa.rws rfl (aa.tv c1 (aa.tv (inc (n:=k + 1) (by omega) (by omega)) (f17_1_J h2)))))
 exact key ts.length 0 (.lit aj) (by omega) (by rw [List.take_zero,List.drop_nil]; exact RL.nil)
theorem lE2 {q:Option Bool} {ws:TV} {ts:List (List UInt8)} (hx:RStrs q ws ts) (hl:ts.length<=1000000) (hs:∀ t,t ∈ ts->t.length<=4000000000) {op:Int}:∃ w',RInts (some true) w' ((ts.drop 1).map puV)/\aa prog 17 (f17_2 ws (I (ts.length:Nat)) (I (0:Int)) (.lit aj) (I op) (I 0) (I 0) (I 0) (.lit aj) (I 0) (I 0) (I 0)) (.agg [I op,I 0,I 0,I 0,.lit aj,fAt ts ts.length 0 (I 0),I 0,I 0]):=by
 have key:∀ (d k:Nat) (w:TV),k + d=ts.length->RInts (some true) w (((ts.take k).drop 1).map puV)->∃ w',RInts (some true) w' ((ts.drop 1).map puV)/\aa prog 17 (f17_2 ws (I (ts.length:Nat)) (I (k:Nat)) w (I op) (I 0) (I 0) (I 0) (.lit aj) (fAt ts k 0 (I 0)) (I 0) (I 0)) (.agg [I op,I 0,I 0,I 0,.lit aj,fAt ts ts.length 0 (I 0),I 0,I 0]):=by
  intro d
  induction d with
  | zero =>
   intro k w hk hw
   have hk:k=ts.length:=by omega
   subst hk
   have ho:aB w=true:=RL.own hw fun _ _ h=>by rw [h.1]; rfl
   rw [List.take_length] at hw
   refine ⟨w,hw,?_⟩
   unfold f17_2
   refine aa.tv rfl (aa.ite cA nofun fun _=>aa.chk ?_ aa.ret)
   simp [bY,aB,ez,ho,aj]
  | succ d ih =>
   intro k w hk hw
   have hkl:k < ts.length:=by omega
   obtain ⟨e,he,hr⟩:=hx.idx (k:=.i64) (cB hkl)
   have hr:e=[Sb (ts.getD k [])]:=hr
   subst hr
   have hnum:aC prog 30 [Sb (ts.getD k [])] (I (puV (ts.getD k []))):=dL (hs _ (dN hkl))
   have hin:=c8 (ts.getD k [])
   by_cases hkn:k < 1
   ·obtain ⟨w',h1,h2⟩:=ih (k + 1) w (by omega) (by rw [List.drop_eq_nil_of_le (by rw [List.length_take]; omega)] at hw ⊢; exact hw)
    refine ⟨w',h1,?_⟩
    unfold f17_2
    refine aa.tv rfl (aa.ite (bg hkl) (fun _=>?_) nofun)
    refine aa.tvs he (aa.chk rfl ?_)
    refine aa.tv rfl (aa.ite (v:=true) (by simp [asBool]; omega) (fun _=>?_) nofun)
    obtain rfl:k=0:=by omega
    refine aa.nat rfl (aa.ite (v:=true) rfl (fun _=>?_) nofun)
    exact aa.call hnum (aa.chk rfl (aa.tv (inc (n:=1) (by omega) (by omega)) (f17_2_J h2)))
   ·have e:(ts.take (k + 1)).drop 1=(ts.take k).drop 1 ++ [ts.getD k []]:=cp hkl (by omega)
    obtain ⟨w2,c1,c2⟩:=RL.snoc hw (e:=[I (puV (ts.getD k []))]) (a:=puV (ts.getD k [])) ⟨rfl,by constructor <;> omega⟩ (by simp only [List.length_map,List.length_drop,List.length_take]; omega)
    obtain ⟨w',h1,h2⟩:=ih (k + 1) w2 (by omega) (by rw [e,List.map_append]; exact c2)
    refine ⟨w',h1,?_⟩
    rw [aW (k:=k) (j:=0) (by omega)] at h2
    unfold f17_2
    refine aa.tv rfl (aa.ite (bg hkl) (fun _=>?_) nofun)
    refine aa.tvs he (aa.chk rfl ?_)
    refine aa.tv rfl (aa.ite (v:=false) (by simp [asBool]; omega) nofun fun _=>?_)
    exact aa.call hnum (aa.chk rfl (aa.rws rfl (aa.tv c1 (aa.tv (inc (n:=k + 1) (by omega) (by omega)) (f17_2_J h2)))))
 exact key ts.length 0 (.lit aj) (by omega) (by rw [List.take_zero,List.drop_nil]; exact RL.nil)
theorem lE3 {q:Option Bool} {ws:TV} {ts:List (List UInt8)} (hx:RStrs q ws ts) (hl:ts.length<=1000000) (hs:∀ t,t ∈ ts->t.length<=4000000000) {op:Int}:∃ w',RInts (some true) w' ((ts.drop 3).map puV)/\aa prog 17 (f17_3 ws (I (ts.length:Nat)) (I (0:Int)) (.lit aj) (I op) (I 0) (I 0) (I 0) (.lit aj) (I 0) (I 0) (I 0)) (.agg [I op,fAt ts ts.length 0 (I 0),I 0,I 0,.lit aj,fAt ts ts.length 1 (I 0),fAt ts ts.length 2 (I 0),I 0]):=by
 have key:∀ (d k:Nat) (w:TV),k + d=ts.length->RInts (some true) w (((ts.take k).drop 3).map puV)->∃ w',RInts (some true) w' ((ts.drop 3).map puV)/\aa prog 17 (f17_3 ws (I (ts.length:Nat)) (I (k:Nat)) w (I op) (fAt ts k 0 (I 0)) (I 0) (I 0) (.lit aj) (fAt ts k 1 (I 0)) (fAt ts k 2 (I 0)) (I 0)) (.agg [I op,fAt ts ts.length 0 (I 0),I 0,I 0,.lit aj,fAt ts ts.length 1 (I 0),fAt ts ts.length 2 (I 0),I 0]):=by
  intro d
  induction d with
  | zero =>
   intro k w hk hw
   have hk:k=ts.length:=by omega
   subst hk
   have ho:aB w=true:=RL.own hw fun _ _ h=>by rw [h.1]; rfl
   rw [List.take_length] at hw
   refine ⟨w,hw,?_⟩
   unfold f17_3
   refine aa.tv rfl (aa.ite cA nofun fun _=>aa.chk ?_ aa.ret)
   simp [bY,aB,ez,ho,aj]
  | succ d ih =>
   intro k w hk hw
   have hkl:k < ts.length:=by omega
   obtain ⟨e,he,hr⟩:=hx.idx (k:=.i64) (cB hkl)
   have hr:e=[Sb (ts.getD k [])]:=hr
   subst hr
   have hnum:aC prog 30 [Sb (ts.getD k [])] (I (puV (ts.getD k []))):=dL (hs _ (dN hkl))
   have hin:=c8 (ts.getD k [])
   by_cases hkn:k < 3
   ·obtain ⟨w',h1,h2⟩:=ih (k + 1) w (by omega) (by rw [List.drop_eq_nil_of_le (by rw [List.length_take]; omega)] at hw ⊢; exact hw)
    refine ⟨w',h1,?_⟩
    unfold f17_3
    refine aa.tv rfl (aa.ite (bg hkl) (fun _=>?_) nofun)
    refine aa.tvs he (aa.chk rfl ?_)
    refine aa.tv rfl (aa.ite (v:=true) (by simp [asBool]; omega) (fun _=>?_) nofun)
    rcases (by omega:k=0\/k=1\/k=2) with rfl | rfl | rfl
    ·refine aa.nat rfl (aa.ite (v:=false) rfl nofun fun _=>aa.ite (v:=false) rfl nofun fun _=>aa.ite (v:=true) rfl (fun _=>?_) nofun)
     exact aa.call hnum (aa.chk rfl (aa.tv (inc (n:=1) (by omega) (by omega)) (f17_3_J h2)))
    ·refine aa.nat rfl (aa.ite (v:=false) rfl nofun fun _=>aa.ite (v:=true) rfl (fun _=>?_) nofun)
     exact aa.call hnum (aa.chk rfl (aa.tv (inc (n:=2) (by omega) (by omega)) (f17_3_J h2)))
    ·refine aa.nat rfl (aa.ite (v:=true) rfl (fun _=>?_) nofun)
     exact aa.call hnum (aa.chk rfl (aa.tv (inc (n:=3) (by omega) (by omega)) (f17_3_J h2)))
   ·have e:(ts.take (k + 1)).drop 3=(ts.take k).drop 3 ++ [ts.getD k []]:=cp hkl (by omega)
    obtain ⟨w2,c1,c2⟩:=RL.snoc hw (e:=[I (puV (ts.getD k []))]) (a:=puV (ts.getD k [])) ⟨rfl,by constructor <;> omega⟩ (by simp only [List.length_map,List.length_drop,List.length_take]; omega)
    obtain ⟨w',h1,h2⟩:=ih (k + 1) w2 (by omega) (by rw [e,List.map_append]; exact c2)
    refine ⟨w',h1,?_⟩
    rw [aW (k:=k) (j:=0) (by omega),aW (k:=k) (j:=1) (by omega),aW (k:=k) (j:=2) (by omega)] at h2
    unfold f17_3
    refine aa.tv rfl (aa.ite (bg hkl) (fun _=>?_) nofun)
    refine aa.tvs he (aa.chk rfl ?_)
    refine aa.tv rfl (aa.ite (v:=false) (by simp [asBool]; omega) nofun fun _=>?_)
    exact aa.call hnum (aa.chk rfl (aa.rws rfl (aa.tv c1 (aa.tv (inc (n:=k + 1) (by omega) (by omega)) (f17_3_J h2)))))
 exact key ts.length 0 (.lit aj) (by omega) (by rw [List.take_zero,List.drop_nil]; exact RL.nil)
theorem lE4 {q:Option Bool} {ws:TV} {ts:List (List UInt8)} (hx:RStrs q ws ts) (hl:ts.length<=1000000) (hs:∀ t,t ∈ ts->t.length<=4000000000) {op:Int}:∃ w',RInts (some true) w' ((ts.drop 4).map puV)/\aa prog 17 (f17_4 ws (I (ts.length:Nat)) (I (0:Int)) (.lit aj) (I op) (I 0) (I 0) (I 0) (.lit aj) (I 0) (I 0) (I 0)) (.agg [I op,I 0,fAt ts ts.length 0 (I 0),fAt ts ts.length 1 (I 0),w',fAt ts ts.length 2 (I 0),I 0,fAt ts ts.length 3 (I 0)]):=by
 have key:∀ (d k:Nat) (w:TV),k + d=ts.length->RInts (some true) w (((ts.take k).drop 4).map puV)->∃ w',RInts (some true) w' ((ts.drop 4).map puV)/\aa prog 17 (f17_4 ws (I (ts.length:Nat)) (I (k:Nat)) w (I op) (I 0) (fAt ts k 0 (I 0)) (fAt ts k 1 (I 0)) (.lit aj) (fAt ts k 2 (I 0)) (I 0) (fAt ts k 3 (I 0))) (.agg [I op,I 0,fAt ts ts.length 0 (I 0),fAt ts ts.length 1 (I 0),w',fAt ts ts.length 2 (I 0),I 0,fAt ts ts.length 3 (I 0)]):=by
  intro d
  induction d with
  | zero =>
   intro k w hk hw
   have hk:k=ts.length:=by omega
   subst hk
   have ho:aB w=true:=RL.own hw fun _ _ h=>by rw [h.1]; rfl
   rw [List.take_length] at hw
   refine ⟨w,hw,?_⟩
   unfold f17_4
   refine aa.tv rfl (aa.ite cA nofun fun _=>aa.chk ?_ aa.ret)
   simp [bY,aB,ez,ho,aj]
  | succ d ih =>
   intro k w hk hw
   have hkl:k < ts.length:=by omega
   obtain ⟨e,he,hr⟩:=hx.idx (k:=.i64) (cB hkl)
   have hr:e=[Sb (ts.getD k [])]:=hr
   subst hr
   have hnum:aC prog 30 [Sb (ts.getD k [])] (I (puV (ts.getD k []))):=dL (hs _ (dN hkl))
   have hin:=c8 (ts.getD k [])
   by_cases hkn:k < 4
   ·obtain ⟨w',h1,h2⟩:=ih (k + 1) w (by omega) (by rw [List.drop_eq_nil_of_le (by rw [List.length_take]; omega)] at hw ⊢; exact hw)
    refine ⟨w',h1,?_⟩
    unfold f17_4
    refine aa.tv rfl (aa.ite (bg hkl) (fun _=>?_) nofun)
    refine aa.tvs he (aa.chk rfl ?_)
    refine aa.tv rfl (aa.ite (v:=true) (by simp [asBool]; omega) (fun _=>?_) nofun)
    rcases (by omega:k=0\/k=1\/k=2\/k=3) with rfl | rfl | rfl | rfl
    ·refine aa.nat rfl (aa.ite (v:=false) rfl nofun fun _=>aa.ite (v:=false) rfl nofun fun _=>aa.ite (v:=false) rfl nofun fun _=>aa.ite (v:=true) rfl (fun _=>?_) nofun)
     exact aa.call hnum (aa.chk rfl (aa.tv (inc (n:=1) (by omega) (by omega)) (f17_4_J h2)))
    ·refine aa.nat rfl (aa.ite (v:=false) rfl nofun fun _=>aa.ite (v:=false) rfl nofun fun _=>aa.ite (v:=true) rfl (fun _=>?_) nofun)
     exact aa.call hnum (aa.chk rfl (aa.tv (inc (n:=2) (by omega) (by omega)) (f17_4_J h2)))
    ·refine aa.nat rfl (aa.ite (v:=false) rfl nofun fun _=>aa.ite (v:=true) rfl (fun _=>?_) nofun)
     exact aa.call hnum (aa.chk rfl (aa.tv (inc (n:=3) (by omega) (by omega)) (f17_4_J h2)))
    ·refine aa.nat rfl (aa.ite (v:=true) rfl (fun _=>?_) nofun)
     exact aa.call hnum (aa.chk rfl (aa.tv (inc (n:=4) (by omega) (by omega)) (f17_4_J h2)))
   ·have e:(ts.take (k + 1)).drop 4=(ts.take k).drop 4 ++ [ts.getD k []]:=cp hkl (by omega)
    obtain ⟨w2,c1,c2⟩:=RL.snoc hw (e:=[I (puV (ts.getD k []))]) (a:=puV (ts.getD k [])) ⟨rfl,by constructor <;> omega⟩ (by simp only [List.length_map,List.length_drop,List.length_take]; omega)
    obtain ⟨w',h1,h2⟩:=ih (k + 1) w2 (by omega) (by rw [e,List.map_append]; exact c2)
    refine ⟨w',h1,?_⟩
    rw [aW (k:=k) (j:=0) (by omega),aW (k:=k) (j:=1) (by omega),aW (k:=k) (j:=2) (by omega),aW (k:=k) (j:=3) (by omega)] at h2
    unfold f17_4
    refine aa.tv rfl (aa.ite (bg hkl) (fun _=>?_) nofun)
    refine aa.tvs he (aa.chk rfl ?_)
    refine aa.tv rfl (aa.ite (v:=false) (by simp [asBool]; omega) nofun fun _=>?_)
    exact aa.call hnum (aa.chk rfl (aa.rws rfl (aa.tv c1 (aa.tv (inc (n:=k + 1) (by omega) (by omega)) (f17_4_J h2)))))
 exact key ts.length 0 (.lit aj) (by omega) (by rw [List.take_zero,List.drop_nil]; exact RL.nil)
end Go.Ab.S13

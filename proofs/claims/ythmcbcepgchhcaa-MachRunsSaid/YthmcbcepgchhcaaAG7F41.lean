import Derived.Test.YthmcbcepgchhcaaAG7F32
section
set_option linter.unusedVariables false
set_option maxRecDepth 10000
namespace Go.Ab
theorem asNat_in {n:Int} (h0:0≤n) (h:inI n):asNat (I n)=some n.toNat:=by
 have:=h.2
 simp [asNat,h0]; omega
theorem words_make {xs:List (List TV)} {args:List Int} (h:F2 RW1 xs args) {n:Nat} (hn:n≤4294967296):RWords (some true) (.sl true 1 (xs.take (List.replicate n [W 0]).length ++ (List.replicate n [W 0]).drop xs.length)) (args.take n ++ List.replicate (n - args.length) 0):=by
 have hlen:=h.length
 refine .sl (by simp) ?_ (by simp; omega)
 rw [List.length_replicate,List.drop_replicate,hlen]
 refine (h.take n).append ?_
 exact F2.of_get (by simp) fun i e a he ha=>by
  have h1:=(List.getElem?_eq_some_iff.1 he)
  have h2:=(List.getElem?_eq_some_iff.1 ha)
  obtain ⟨_,h1⟩:=h1
  obtain ⟨_,h2⟩:=h2
  simp at h1 h2
  subst h1 h2
  exact ⟨rfl,by decide,by decide⟩
theorem own_tup {a b c d e:Int} {y:TV} (h:isOwn y=true):isOwnL [.agg [I a,I b,I c,y,W d],I e]=true:=by
 simp [isOwn,isOwnL,h]
theorem RW0:RW1 [W 0] 0:=⟨rfl,by decide,by decide⟩
end Go.Ab
namespace Go.Ab.G7
open Go Go.Ab Go.Proofs
theorem mod_func {m:DMod} {g:DFunc} {n:Nat} (h:modP m) (hg:m.funcs[n]? = some g):funcP m.funcs g:=h.2.2 n (List.getElem?_eq_some_iff.1 hg).1 g hg
theorem mod_regs {m:DMod} {g:DFunc} {n:Nat} (h:modP m) (hg:m.funcs[n]? = some g):0≤g.regs∧g.regs≤256:=by
 obtain ⟨⟨h1,h2,h3,h4⟩,_⟩:=mod_func h hg
 exact ⟨by omega,h4⟩
theorem mod_dst {m:DMod} {g:DFunc} {b:DBlock} {n k:Nat} (h:modP m) (hg:m.funcs[n]? = some g) (hb:g.blocks[k]? = some b) (hl:b.landing=true):within b.pad.dst g.regs:=by
 obtain ⟨_,_,_,h4⟩:=mod_func h hg
 exact ((h4 k (List.getElem?_eq_some_iff.1 hb).1 b hb).2.1.2 hl).1
noncomputable def newD (m:DMod) (n:Int) (args:List Int):Option DFrame:=bif tt (modP m) then newT m n args else none
theorem rNew {q q':Option Bool} {e:List TV} {x:TV} {m:DMod} {n:Int} {args:List Int} (hm:RMod q e m) (hn:inI n) (hx:RWords q' x args):∃ e',Runs prog 54 [.agg e,I n,x] (.tup [.agg e',I (errOf (newD m n args))])∧RFrame (some true) e' ((newD m n args).getD noFrame):=by
 have h8:=r8 hm
 obtain ⟨y,rfl,hy⟩:=hm
 have no:newD m n args=none→Runs prog 54 [.agg [y],I n,x] (.tup [.agg [I 0,I 0,I 0,.lit nilV,W 0],I 1])→∃ e',Runs prog 54 [.agg [y],I n,x] (.tup [.agg e',I (errOf (newD m n args))])∧RFrame (some true) e' ((newD m n args).getD noFrame):=by
  intro h hr
  rw [h]
  exact ⟨_,hr,RNo⟩
 by_cases hM:modP m
 rotate_left
 ·refine no (by simp [newD,tt_false hM]) ?_
  rw [tt_false hM] at h8
  refine Runs.of (f54_MR _ _ _) ?_
  unfold f54_M
  exact Goes.chk rfl (Goes.call h8 (Goes.chk rfl (Goes.tv rfl (Goes.ite rfl (fun _=>Goes.chk rfl Goes.ret) fun h=>nomatch h))))
 rw [tt_true hM] at h8
 have hD:newD m n args=newT m n args:=by simp [newD,tt_true hM]
 by_cases hF:within n m.funcs.length
 rotate_left
 ·have hN:newD m n args=none:=by
   rw [hD]
   unfold newT
   split
   ·rename_i h0
    rw [within_none h0 fun h=>hF ⟨h0,h⟩]
    rfl
   ·rfl
  refine no hN ?_
  refine Runs.of (f54_MR _ _ _) ?_
  unfold f54_M
  refine Goes.chk rfl (Goes.call h8 (Goes.chk rfl (Goes.tv rfl (Goes.ite rfl (fun h=>nomatch h) fun _=>?_))))
  refine Goes.tv hy.len (Goes.call (rOneOf _ _) (Goes.chk rfl (Goes.tv rfl (Goes.ite rfl (fun _=>Goes.chk rfl Goes.ret) fun h=>?_))))
  exact absurd (tt_iff.1 (by simpa using h)) hF
 have hlt:n.toNat < m.funcs.length:=by have:=hF.1; have:=hF.2; omega
 have hu:m.funcs[n.toNat]? = some m.funcs[n.toNat]:=List.getElem?_eq_getElem hlt
 obtain ⟨e,he,hr⟩:=hy.idxI (k:=.i64) hF.1 hu
 generalize m.funcs[n.toNat]=u at hu hr
 obtain ⟨hr0,hr1⟩:=mod_regs hM hu
 obtain ⟨b,rfl,hb,_⟩:=hr
 have hT:newT m n args=if (args.length:Int)=u.params then some ⟨n,0,0,args.take u.regs.toNat ++ List.replicate (u.regs.toNat - args.length) 0,0⟩ else none:=by simp [newT,hF.1,hu]
 by_cases hP:(args.length:Int)=u.params
 rotate_left
 ·refine no (by rw [hD,hT,if_neg hP]) ?_
  refine Runs.of (f54_MR _ _ _) ?_
  unfold f54_M
  refine Goes.chk rfl (Goes.call h8 (Goes.chk rfl (Goes.tv rfl (Goes.ite rfl (fun h=>nomatch h) fun _=>?_))))
  refine Goes.tv hy.len (Goes.call (rOneOf _ _) (Goes.chk rfl (Goes.tv rfl (Goes.ite rfl (fun h=>?_) fun _=>?_))))
  ·exact absurd hF (tt_iff0.1 (by simpa using h))
  refine Goes.tv hx.len (Goes.tvs he (Goes.chk rfl (Goes.tv rfl (Goes.ite rfl (fun _=>Goes.chk rfl Goes.ret) fun h=>?_))))
  simp at h
  exact absurd h hP
 rw [hD,hT,if_pos hP]
 obtain ⟨xs,hxs,hF2⟩:=hx.elems
 have hmk:=words_make hF2 (n:=u.regs.toNat) (by omega)
 have hnat:asNat (I u.regs)=some u.regs.toNat:=asNat_in hr0 ⟨by omega,by omega⟩
 refine ⟨[I n,I 0,I 0,_,W 0],?_,⟨_,rfl,hmk,hn,in0,in0,inW0⟩⟩
 refine Runs.of (f54_MR _ _ _) ?_
 unfold f54_M
 refine Goes.chk rfl (Goes.call h8 (Goes.chk rfl (Goes.tv rfl (Goes.ite rfl (fun h=>nomatch h) fun _=>?_))))
 refine Goes.tv hy.len (Goes.call (rOneOf _ _) (Goes.chk rfl (Goes.tv rfl (Goes.ite rfl (fun h=>?_) fun _=>?_))))
 ·exact absurd hF (tt_iff0.1 (by simpa using h))
 refine Goes.tv hx.len (Goes.tvs he (Goes.chk rfl (Goes.tv rfl (Goes.ite rfl (fun h=>?_) fun _=>?_))))
 ·simp at h
  exact absurd hP h
 refine Goes.tvs he (Goes.chk rfl (Goes.nat hnat (Goes.nat hnat (Goes.chk ?_ (Goes.rws hxs (Goes.tv (by simp only [pcopy,if_true]) (Goes.nat rfl (Goes.chk rfl (Goes.chk ?_ Goes.ret)))))))))
 ·have:u.regs.toNat≤4294967296:=by omega
  simp [this]
 ·exact own_tup (RWords.isOwn hmk)
end Go.Ab.G7
end
section
set_option linter.unusedVariables false
set_option maxRecDepth 10000
namespace Go.Ab
theorem goal_landT {m:DMod} {f:DFrame} {u:DFunc} {pad w:Int} (hu:m.funcs[f.f.toNat]? = some u) (h:¬ goalAt u.blocks pad true):landT m f pad w=none:=by
 unfold landT
 rw [hu]
 simp only [Option.bind_some]
 split
 ·rename_i h0
  cases hb:u.blocks[pad.toNat]? with
  | none=>rfl
  | some b =>
   simp only [Option.bind_some]
   split
   ·rename_i hl
    exact absurd ⟨h0,b,hb,hl⟩ h
   ·rfl
 ·rfl
theorem landT_some {m:DMod} {f:DFrame} {u:DFunc} {b:DBlock} {pad w:Int} (hu:m.funcs[f.f.toNat]? = some u) (h0:0≤pad) (hb:u.blocks[pad.toNat]? = some b) (hl:b.landing=true) :
  landT m f pad w=some ⟨f.f,pad,0,f.regs.set b.pad.dst.toNat w,w⟩:=by
 simp [landT,hu,h0,hb,hl]
theorem len_of_within {n:Int} {k:Nat} (h:within n k):n.toNat < k:=by have:=h.1; have:=h.2; omega
theorem blt_true {a b:Nat} (h:a < b):Nat.blt a b=true:=by simpa using h
end Go.Ab
namespace Go.Ab.G7
open Go Go.Ab Go.Proofs
theorem rWith {q:Option Bool} {e:List TV} {f:DFrame} {n w:Int} (hf:RFrame q e f) (hl:f.regs.length≤4294967296) (hn:within n f.regs.length) (hni:inI n) (hw:inW w) :
  ∃ e2,Runs prog 93 [.agg e,I n,W w] (.agg e2)∧RFrame (some true) e2 { f with regs:=f.regs.set n.toNat w }:=by
 obtain ⟨g,rfl,hg,ho⟩:=hf
 obtain ⟨xs,hxs,hF2⟩:=hg.elems
 have hlen:=hF2.length
 have hv:RWords (some true) (.sl true 1 xs) f.regs:=.sl (by simp) hF2 (by omega)
 have hlt:=len_of_within hn
 obtain ⟨a,v',hpe,hs,hrl⟩:=RWords.put hv hlt hw
 refine ⟨[I f.f,I f.block,I f.at_,v',W f.fly],?_,⟨_,rfl,hrl,ho⟩⟩
 refine Runs.of (f93_MR _ _ _) ?_
 unfold f93_M
 refine Goes.chk rfl (Goes.rws hxs (Goes.tv (v:=.sl true 1 xs) (by simp [papp,chunks,room]; omega) (Goes.nat hv.slLen (Goes.nat (asNat_in hn.1 hni) (Goes.chk ?_ (Goes.chk rfl (Goes.tvs hpe (Goes.chk rfl (Goes.tv hs (Goes.chk ?_ Goes.ret))))))))))
 ·rw [blt_true hlt]; exact (Bool.and_true _).trans hv.slSize
 ·simp [isOwn,isOwnL,RWords.isOwn hrl,TV.cell,nth]
theorem rLand' {q q':Option Bool} {e e':List TV} {m:DMod} {f:DFrame} {pad w:Int} (hm:RMod q e m) (hf:RFrame q' e' f) (hl:f.regs.length≤4294967296) (hp:inI pad) (hw:inW w) (hM:modP m) (hQ:frameQ m f) :
  ∃ e2,Runs prog 95 [.agg e,.agg e',I pad,W w] (.tup [.agg e2,I (errOf (landT m f pad w))])∧RFrame none e2 ((landT m f pad w).getD f):=by
 have hf':=hf
 obtain ⟨y,rfl,hy⟩:=hm
 obtain ⟨g,rfl,hg,ho⟩:=hf
 obtain ⟨h0,u,hu,hL,_⟩:=hQ
 obtain ⟨e,he,hr⟩:=hy.idxI (k:=.i64) h0 hu
 obtain ⟨bs,rfl,hbs,_⟩:=hr
 by_cases hp0:0≤pad
 rotate_left
 ·rw [goal_landT hu fun h=>hp0 h.1]
  refine ⟨_,?_,hf'.weak⟩
  refine Runs.of (f95_MR _ _ _ _) ?_
  unfold f95_M
  refine Goes.chk rfl (Goes.chk rfl (Goes.tvs he (Goes.chk rfl (Goes.tv rfl (Goes.ite rfl (fun _=>Goes.ret) fun h=>?_)))))
  simp at h; omega
 by_cases hp1:pad < (u.blocks.length:Int)
 rotate_left
 ·rw [goal_landT hu fun h=>by
   obtain ⟨_,b,hb,_⟩:=h
   have:=(List.getElem?_eq_some_iff.1 hb).1
   omega]
  refine ⟨_,?_,hf'.weak⟩
  refine Runs.of (f95_MR _ _ _ _) ?_
  unfold f95_M
  refine Goes.chk rfl (Goes.chk rfl (Goes.tvs he (Goes.chk rfl (Goes.tv rfl (Goes.ite rfl (fun h=>?_) fun _=>?_)))))
  ·simp at h; omega
  refine Goes.tv (RL.len hbs) (Goes.tv rfl (Goes.ite rfl (fun _=>Goes.ret) fun h=>?_))
  simp at h; omega
 have hlt2:pad.toNat < u.blocks.length:=by omega
 have hb:u.blocks[pad.toNat]? = some u.blocks[pad.toNat]:=List.getElem?_eq_getElem hlt2
 obtain ⟨eb,heb,hrb⟩:=hbs.idxI (k:=.i64) hp0 hb
 generalize u.blocks[pad.toNat]=b at hb hrb
 obtain ⟨c,is,ga,rfl,hc,hdi,_⟩:=hrb
 cases hbl:b.landing with
 | false =>
  rw [goal_landT hu fun h=>by
   obtain ⟨_,b',hb',hl'⟩:=h
   rw [hb] at hb'
   cases hb'
   rw [hbl] at hl'
   cases hl']
  refine ⟨_,?_,hf'.weak⟩
  rw [hbl] at heb
  refine Runs.of (f95_MR _ _ _ _) ?_
  unfold f95_M
  refine Goes.chk rfl (Goes.chk rfl (Goes.tvs he (Goes.chk rfl (Goes.tv rfl (Goes.ite rfl (fun h=>?_) fun _=>?_)))))
  ·simp at h; omega
  refine Goes.tv (RL.len hbs) (Goes.tv rfl (Goes.ite rfl (fun h=>?_) fun _=>?_))
  ·simp at h; omega
  exact Goes.tvs heb (Goes.chk rfl (Goes.tv rfl (Goes.ite rfl (fun _=>Goes.ret) fun h=>nomatch h)))
 | true =>
  have hdw:=mod_dst hM hu hb hbl
  have hdw':within b.pad.dst f.regs.length:=by rw [hL]; exact hdw
  rw [landT_some hu hp0 hb hbl]
  obtain ⟨e2,hr2,hf2⟩:=rWith (f:=⟨f.f,pad,0,f.regs,w⟩) (n:=b.pad.dst) (w:=w) (q:=q') ⟨g,rfl,hg,ho.1,hp,in0,hw⟩ hl hdw' hdi hw
  obtain ⟨v,rfl,hv,hov⟩:=hf2
  refine ⟨_,?_,⟨v,rfl,hv.weak fun _ _ h=>h,hov⟩⟩
  rw [hbl] at heb
  refine Runs.of (f95_MR _ _ _ _) ?_
  unfold f95_M
  refine Goes.chk rfl (Goes.chk rfl (Goes.tvs he (Goes.chk rfl (Goes.tv rfl (Goes.ite rfl (fun h=>?_) fun _=>?_)))))
  ·simp at h; omega
  refine Goes.tv (RL.len hbs) (Goes.tv rfl (Goes.ite rfl (fun h=>?_) fun _=>?_))
  ·simp at h; omega
  refine Goes.tvs heb (Goes.chk rfl (Goes.tv rfl (Goes.ite rfl (fun h=>nomatch h) fun _=>?_)))
  exact Goes.chk rfl (Goes.chk rfl (Goes.tvs heb (Goes.chk rfl (Goes.call hr2 (Goes.chk (fit_frame hv.isSl) Goes.ret)))))
theorem rFSame {q q':Option Bool} {e e':List TV} {a b:DFrame} (ha:RFrame q e a) (hb:RFrame q' e' b):Runs prog 21 [.agg e,.agg e'] (B (tt (a=b))):=by
 obtain ⟨x,rfl,hx,_⟩:=ha
 obtain ⟨y,rfl,hy,_⟩:=hb
 refine Runs.of (f21_MR _ _) ?_
 unfold f21_M
 repeat' (first
  | refine Goes.chk rfl ?_
  | refine Goes.tv rfl ?_
  | refine Goes.tv (RL.len (by assumption)) ?_
  | refine Goes.nat rfl ?_
  | refine Goes.ite rfl (fun _=>?_) (fun _=>?_)
  | refine Goes.call (by assumption) ?_
  | refine Goes.tvs (by assumption) ?_)
 ·apply ret_no; rw [frame_eq]; simp_all
 ·apply ret_no; rw [frame_eq]; simp_all
 ·apply ret_no; rw [frame_eq]; simp_all
 ·apply ret_no; rw [frame_eq]; simp_all
 ·rename_i h
  apply ret_no; rw [frame_eq]
  intro h'
  rw [h'.2.2.2.1] at h
  simp at h
 ·rename_i h1 h2 h3 h4 h
  have hlen:a.regs.length=b.regs.length:=by simp at h; omega
  have hiff:a=b ↔ a.regs=b.regs:=by
   rw [frame_eq]
   simp at h1 h2 h3 h4
   simp [h1,h2,h3,h4]
  refine f21_0_J ?_
  rw [tt_congr (hiff.trans (list_eq_iff' hlen))]
  refine allLoop' (g:=fun k=>f21_0 (I k) (I a.f) (I a.block) (I a.at_) x (W a.fly) (I b.f) (I b.block) (I b.at_) y (W b.fly)) ?_ ?_
  ·unfold f21_0
   refine Goes.tv (RL.len (by assumption)) (Goes.tv rfl (Goes.ite asB_end (fun h=>nomatch h) fun _=>?_))
   exact Goes.ret
  ·intro k hk r h1 h2
   have hk':k < b.regs.length:=by omega
   have hak:a.regs[k]? = some a.regs[k]:=List.getElem?_eq_getElem hk
   have hbk:b.regs[k]? = some b.regs[k]:=List.getElem?_eq_getElem hk'
   obtain ⟨e,he,rfl,_⟩:=hx.idx (k:=.i64) hak
   obtain ⟨e',he',rfl,_⟩:=hy.idx (k:=.i64) hbk
   unfold f21_0
   refine Goes.tv (RL.len (by assumption)) (Goes.tv rfl (Goes.ite (asB_lt hk) (fun _=>?_) fun h=>nomatch h))
   refine Goes.tvs he (Goes.chk rfl (Goes.tvs he' (Goes.chk rfl (Goes.tv rfl (Goes.ite rfl (fun h=>?_) fun h=>?_)))))
   ·rw [h1 (by rw [hak,hbk]; simpa [nth] using h)]; exact Goes.ret
   ·refine Goes.tv (inc hk hx.bnd) (f21_0_J (h2 ?_))
    rw [hak,hbk]; simpa [nth] using h
end Go.Ab.G7
end
section
set_option linter.unusedVariables false
set_option maxRecDepth 10000
namespace Go.Ab
theorem reckon_no {f:DFrame} {x:DIns} (h:¬ within x.dst f.regs.length):reckonT f x=(f,false):=by
 have h':¬ (0≤x.dst∧x.dst < (f.regs.length:Int)):=h
 unfold reckonT
 cases answerT f.regs x with
 | none=>rfl
 | some v=>simp only [if_neg h']
theorem reckon_none {f:DFrame} {x:DIns} (h:answerT f.regs x=none):reckonT f x=(f,false):=by simp [reckonT,h]
theorem reckon_some {f:DFrame} {x:DIns} {v:Int} (hD:within x.dst f.regs.length) (h:answerT f.regs x=some v) :
  reckonT f x=({ f with regs:=f.regs.set x.dst.toNat v,at_:=IntKind.i64.wrap (f.at_ + 1) },true):=by
 have h':0≤x.dst∧x.dst < (f.regs.length:Int):=hD
 simp only [reckonT,h,if_pos h']
theorem doW_none {op a b:Int} (h:¬ (2≤op∧op≤8)):doW op a b=none:=by
 unfold doW
 rw [if_neg (by omega),if_neg (by omega),if_neg (by omega),if_neg (by omega),if_neg (by omega),if_neg (by omega),if_neg (by omega)]
theorem answer_op {l:List Int} {x:DIns} (h:¬ (1≤x.op∧x.op≤8)):answerT l x=none:=by
 unfold answerT
 rw [if_neg (by omega)]
 cases regAt l x.a with
 | none=>rfl
 | some u =>
  simp only [Option.bind_some]
  rw [if_neg (by omega)]
  exact doW_none (by omega)
theorem answer_two {l:List Int} {x:DIns} {u:Int} (h:x.op=2) (ha:regAt l x.a=some u):answerT l x=doW x.op u 0:=by
 unfold answerT
 rw [if_neg (by omega),ha]
 simp only [Option.bind_some]
 rw [if_neg (by omega)]
theorem answer_more {l:List Int} {x:DIns} {u v:Int} (h:3≤x.op∧x.op≤8) (ha:regAt l x.a=some u) (hb:regAt l x.b=some v):answerT l x=doW x.op u v:=by
 unfold answerT
 rw [if_neg (by omega),ha]
 simp only [Option.bind_some]
 rw [if_pos h,hb]
 rfl
theorem answer_noA {l:List Int} {x:DIns} (h:¬ x.op=1) (ha:¬ within x.a l.length):answerT l x=none:=by
 unfold answerT
 rw [if_neg h,regAt_none ha]
 rfl
theorem answer_noB {l:List Int} {x:DIns} {u:Int} (h:3≤x.op∧x.op≤8) (ha:regAt l x.a=some u) (hb:¬ within x.b l.length):answerT l x=none:=by
 unfold answerT
 rw [if_neg (by omega),ha]
 simp only [Option.bind_some]
 rw [if_pos h,regAt_none hb]
 rfl
def partRegs (args:List Int) (k:Nat):List Int:=args.take k ++ List.replicate (k - args.length) 0
theorem part_lt {args:List Int} {k:Nat} {a:Int} (h:args[k]? = some a):partRegs args (k + 1)=partRegs args k ++ [a]:=by
 have hk:=(List.getElem?_eq_some_iff.1 h).1
 unfold partRegs
 rw [List.take_add_one,h,show k + 1 - args.length=0 by omega,show k - args.length=0 by omega]
 simp
theorem part_ge {args:List Int} {k:Nat} (h:args.length≤k):partRegs args (k + 1)=partRegs args k ++ [0]:=by
 unfold partRegs
 rw [List.take_of_length_le (by omega),List.take_of_length_le (by omega),show k + 1 - args.length=(k - args.length) + 1 by omega,List.replicate_succ',List.append_assoc]
theorem part_len {args:List Int} {k:Nat}:(partRegs args k).length=k:=by
 unfold partRegs
 simp; omega
end Go.Ab
namespace Go.Ab.G7
open Go Go.Ab Go.Proofs
theorem rReckon' {q q' : Option Bool} {e e' : List TV} {f : DFrame} {x : DIns} (hf : RFrame q e f) (hx : RIns q' e' x) (hl : f.regs.length ≤ 4294967296) :
  ∃ e2,Runs prog 91 [.agg e,.agg e'] (.tup [.agg e2,B (reckonT f x).2])∧RFrame none e2 (reckonT f x).1:=by
 have hf':=hf
 have hD':=rThere hf x.dst
 have hA':=rThere hf x.a
 have hB':=rThere hf x.b
 obtain ⟨g,rfl,hg,ho⟩:=hf
 obtain ⟨z,rfl,hz,hxo⟩:=hx
 have no:reckonT f x=(f,false)→Runs prog 91 [.agg [I f.f,I f.block,I f.at_,g,W f.fly],.agg [I x.op,I x.dst,I x.a,I x.b,W x.k,I x.f,z]] (.tup [.agg [I f.f,I f.block,I f.at_,g,W f.fly],B false])→∃ e2,Runs prog 91 [.agg [I f.f,I f.block,I f.at_,g,W f.fly],.agg [I x.op,I x.dst,I x.a,I x.b,W x.k,I x.f,z]] (.tup [.agg e2,B (reckonT f x).2])∧RFrame none e2 (reckonT f x).1:=by
  intro h hr
  rw [h]
  exact ⟨_,hr,hf'.weak⟩
 by_cases hD:within x.dst f.regs.length
 rotate_left
 ·refine no (reckon_no hD) ?_
  rw [tt_false hD] at hD'
  refine Runs.of (f91_MR _ _) ?_
  unfold f91_M
  exact Goes.chk rfl (Goes.chk rfl (Goes.call hD' (Goes.chk rfl (Goes.tv rfl (Goes.ite rfl (fun _=>Goes.ret) fun h=>nomatch h)))))
 rw [tt_true hD] at hD'
 by_cases h1:x.op < 1
 ·refine no (reckon_none (answer_op (by omega))) ?_
  refine Runs.of (f91_MR _ _) ?_
  unfold f91_M
  refine Goes.chk rfl (Goes.chk rfl (Goes.call hD' (Goes.chk rfl (Goes.tv rfl (Goes.ite rfl (fun h=>nomatch h) fun _=>?_)))))
  refine Goes.tv rfl (Goes.ite rfl (fun _=>Goes.ret) fun h=>?_)
  simp at h; omega
 by_cases h8:8 < x.op
 ·refine no (reckon_none (answer_op (by omega))) ?_
  refine Runs.of (f91_MR _ _) ?_
  unfold f91_M
  refine Goes.chk rfl (Goes.chk rfl (Goes.call hD' (Goes.chk rfl (Goes.tv rfl (Goes.ite rfl (fun h=>nomatch h) fun _=>?_)))))
  refine Goes.tv rfl (Goes.ite rfl (fun _=>Goes.ret) fun _=>?_)
  refine Goes.tv rfl (Goes.ite rfl (fun _=>Goes.ret) fun h=>?_)
  simp at h; omega
 have fin:∀ v,inW v→answerT f.regs x=some v→∃ e2,Goes prog 91 (f91_1 (W v) (I f.f) (I f.block) (I f.at_) g (W f.fly) (I x.op) (I x.dst) (I x.a) (I x.b) (W x.k) (I x.f) z) (.tup [.agg e2,B (reckonT f x).2])∧RFrame none e2 (reckonT f x).1:=by
  intro v hv hT
  rw [reckon_some hD hT]
  obtain ⟨e2,hr2,hf2⟩:=rWith (w:=v) hf' hl hD hxo.2.1 hv
  obtain ⟨y,rfl,hy,hoy⟩:=hf2
  refine ⟨_,?_,⟨y,rfl,hy.weak fun _ _ h=>h,hoy.1,hoy.2.1,wrap_i64 _,hoy.2.2.2⟩⟩
  unfold f91_1
  exact Goes.call hr2 (Goes.chk (fit_frame hy.isSl) (Goes.tv rfl Goes.ret))
 have start : ∀ r, Goes prog 91 (.tv (pbin (Kd.int IntKind.i64) BinOp.gtr (I x.op) (I 1)) fun v4 => .ite (asBool v4) (
   Prg.call 106 [TV.agg [I f.f,I f.block,I f.at_,g,W f.fly],I x.a] fun v5 =>
     Prg.chk (fitsAt zBool [v5] 0) (
     Prg.tv (pun UnOp.not v5) fun v6 =>
     Prg.ite (asBool v6) (
      Prg.ret (TV.tup [TV.agg [I f.f,I f.block,I f.at_,g,W f.fly],B false])) (
      Prg.tv (pbin (Kd.int IntKind.i64) BinOp.gtr (I x.op) (I 2)) fun v7 =>
      Prg.ite (asBool v7) (
       Prg.call 106 [TV.agg [I f.f,I f.block,I f.at_,g,W f.fly],I x.b] fun v8 =>
       Prg.chk (fitsAt zBool [v8] 0) (
       Prg.tv (pun UnOp.not v8) fun v9 =>
       Prg.ite (asBool v9) (
        Prg.ret (TV.tup [TV.agg [I f.f,I f.block,I f.at_,g,W f.fly],B false])) (
        Prg.tv (pbin (Kd.int IntKind.i64) BinOp.gtr (I x.op) (I 2)) fun v10 =>
        Prg.jmp [1,0,1,1,0,1,0,1,1,1] (f91_0_S (W 0) v10 (I f.f) (I f.block) (I f.at_) g (W f.fly) (I x.op) (I x.dst) (I x.a) (I x.b) (W x.k) (I x.f) z)))) (
       Prg.tv (pbin (Kd.int IntKind.i64) BinOp.gtr (I x.op) (I 2)) fun v11 =>
       Prg.jmp [1,0,1,1,0,1,0,1,1,1] (f91_0_S (W 0) v11 (I f.f) (I f.block) (I f.at_) g (W f.fly) (I x.op) (I x.dst) (I x.a) (I x.b) (W x.k) (I x.f) z)))))
   (Prg.jmp [1,1,1,1] (f91_1_S (W x.k) (I f.f) (I f.block) (I f.at_) g (W f.fly) (I x.op) (I x.dst) (I x.a) (I x.b) (W x.k) (I x.f) z))) r→Runs prog 91 [.agg [I f.f,I f.block,I f.at_,g,W f.fly],.agg [I x.op,I x.dst,I x.a,I x.b,W x.k,I x.f,z]] r:=by
  intro r hr
  refine Runs.of (f91_MR _ _) ?_
  unfold f91_M
  refine Goes.chk rfl (Goes.chk rfl (Goes.call hD' (Goes.chk rfl (Goes.tv rfl (Goes.ite rfl (fun h=>nomatch h) fun _=>?_)))))
  refine Goes.tv rfl (Goes.ite rfl (fun h=>?_) fun _=>?_)
  ·simp at h; omega
  refine Goes.tv rfl (Goes.ite rfl (fun h=>?_) fun _=>hr)
  simp at h; omega
 by_cases he1:x.op=1
 ·obtain ⟨e2,hg2,hf2⟩:=fin x.k hxo.2.2.2.2.1 (by simp [answerT,he1])
  refine ⟨e2,start _ ?_,hf2⟩
  refine Goes.tv rfl (Goes.ite rfl (fun h=>?_) fun _=>f91_1_J hg2)
  simp at h; omega
 by_cases hA:within x.a f.regs.length
 rotate_left
 ·refine no (reckon_none (answer_noA he1 hA)) (start _ ?_)
  rw [tt_false hA] at hA'
  refine Goes.tv rfl (Goes.ite rfl (fun _=>?_) fun h=>?_)
  ·exact Goes.call hA' (Goes.chk rfl (Goes.tv rfl (Goes.ite rfl (fun _=>Goes.ret) fun h=>nomatch h)))
  ·simp at h; omega
 rw [tt_true hA] at hA'
 obtain ⟨u,hu,hul⟩:=within_at hA
 obtain ⟨hi,hui⟩:=RWords.at_ hg (k:=.i64) hA.1 hu
 have hRA:=regAt_some hA.1 hu
 have last:∀ v,inW v→answerT f.regs x=doW x.op u v→∃ e2,Goes prog 91 (f91_2 (W v) (I f.f) (I f.block) (I f.at_) g (W f.fly) (I x.op) (I x.dst) (I x.a) (I x.b) (W x.k) (I x.f) z) (.tup [.agg e2,B (reckonT f x).2])∧RFrame none e2 (reckonT f x).1:=by
  intro v hv hT
  have hd:=rDo' x.op hui hv
  cases hdo:doW x.op u v with
  | none =>
   rw [hdo] at hd hT
   rw [reckon_none hT]
   refine ⟨_,?_,hf'.weak⟩
   unfold f91_2
   exact Goes.tvs hi (Goes.chk rfl (Goes.call hd (Goes.chk rfl (Goes.chk rfl (Goes.chk rfl (Goes.tv rfl (Goes.ite rfl (fun _=>Goes.ret) fun h=>nomatch h)))))))
  | some w =>
   rw [hdo] at hd hT
   obtain ⟨e2,hg2,hf2⟩:=fin w (doW_in hui hdo) hT
   refine ⟨e2,?_,hf2⟩
   unfold f91_2
   exact Goes.tvs hi (Goes.chk rfl (Goes.call hd (Goes.chk rfl (Goes.chk rfl (Goes.chk rfl (Goes.tv rfl (Goes.ite rfl (fun h=>nomatch h) fun _=>f91_1_J hg2)))))))
 by_cases he2:x.op=2
 ·obtain ⟨e2,hg2,hf2⟩:=last 0 inW0 (answer_two he2 hRA)
  refine ⟨e2,start _ ?_,hf2⟩
  refine Goes.tv rfl (Goes.ite rfl (fun _=>?_) fun h=>?_)
  ·refine Goes.call hA' (Goes.chk rfl (Goes.tv rfl (Goes.ite rfl (fun h=>nomatch h) fun _=>?_)))
   refine Goes.tv rfl (Goes.ite rfl (fun h=>?_) fun _=>?_)
   ·simp at h; omega
   refine Goes.tv rfl (f91_0_J ?_)
   unfold f91_0
   refine Goes.ite rfl (fun h=>?_) fun _=>f91_2_J hg2
   simp at h; omega
  ·simp at h; omega
 have h3:3≤x.op∧x.op≤8:=by omega
 by_cases hB:within x.b f.regs.length
 rotate_left
 ·refine no (reckon_none (answer_noB h3 hRA hB)) (start _ ?_)
  rw [tt_false hB] at hB'
  refine Goes.tv rfl (Goes.ite rfl (fun _=>?_) fun h=>?_)
  ·refine Goes.call hA' (Goes.chk rfl (Goes.tv rfl (Goes.ite rfl (fun h=>nomatch h) fun _=>?_)))
   refine Goes.tv rfl (Goes.ite rfl (fun _=>?_) fun h=>?_)
   ·exact Goes.call hB' (Goes.chk rfl (Goes.tv rfl (Goes.ite rfl (fun _=>Goes.ret) fun h=>nomatch h)))
   ·simp at h; omega
  ·simp at h; omega
 rw [tt_true hB] at hB'
 obtain ⟨v,hv,hvl⟩:=within_at hB
 obtain ⟨hi',hvi⟩:=RWords.at_ hg (k:=.i64) hB.1 hv
 obtain ⟨e2,hg2,hf2⟩:=last v hvi (answer_more h3 hRA (regAt_some hB.1 hv))
 refine ⟨e2,start _ ?_,hf2⟩
 refine Goes.tv rfl (Goes.ite rfl (fun _=>?_) fun h=>?_)
 ·refine Goes.call hA' (Goes.chk rfl (Goes.tv rfl (Goes.ite rfl (fun h=>nomatch h) fun _=>?_)))
  refine Goes.tv rfl (Goes.ite rfl (fun _=>?_) fun h=>?_)
  ·refine Goes.call hB' (Goes.chk rfl (Goes.tv rfl (Goes.ite rfl (fun h=>nomatch h) fun _=>?_)))
   refine Goes.tv rfl (f91_0_J ?_)
   unfold f91_0
   refine Goes.ite rfl (fun _=>?_) fun h=>?_
   ·exact Goes.tvs hi' (Goes.chk rfl (f91_2_J hg2))
   ·simp at h; omega
  ·simp at h; omega
 ·simp at h; omega
theorem rCatches' {q:Option Bool} {e:List TV} {p:DPad} {w:Int} (he:RPad q e p):Runs prog 108 [.agg e,W w] (B (tt (p.all=true∨w ∈ p.catches))):=by
 obtain ⟨x,rfl,hx,_⟩:=he
 have loop : ∀ d k, k + d = p.catches.length → Goes prog 108 (f108_0 (W w) (I k) (I p.dst) x (B p.all) (B p.cleanup)) (B (tt (p.all = true ∨ ∃ i, k ≤ i ∧ p.catches[i]? = some w))) := by
  intro d
  induction d with
  | zero =>
   intro k hk
   have hk:k=p.catches.length:=by omega
   subst hk
   unfold f108_0
   refine Goes.tv (RL.len (by assumption)) (Goes.tv rfl (Goes.ite asB_end (fun h=>nomatch h) fun _=>?_))
   apply ret_tt
   constructor
   ·intro h; exact .inl h
   ·rintro (h | ⟨i,hi,h⟩)
    ·exact h
    ·rw [List.getElem?_eq_none hi] at h; cases h
  | succ d ih =>
   intro k hk
   have hk':k < p.catches.length:=by omega
   have ha:p.catches[k]? = some p.catches[k]:=List.getElem?_eq_getElem hk'
   obtain ⟨e,he,rfl,_⟩:=hx.idx (k:=.i64) ha
   unfold f108_0
   refine Goes.tv (RL.len (by assumption)) (Goes.tv rfl (Goes.ite (asB_lt hk') (fun _=>?_) fun h=>nomatch h))
   refine Goes.tvs he (Goes.chk rfl (Goes.tv rfl (Goes.ite rfl (fun h=>?_) fun h=>?_)))
   ·have h:p.catches[k]=w:=by simpa [nth] using h
    exact ret_yes (.inr ⟨k,Nat.le_refl _,by rw [ha,h]⟩)
   ·have h:¬ p.catches[k]=w:=by simpa [nth] using h
    refine Goes.tv (inc hk' hx.bnd) (f108_0_J ?_)
    rw [show tt (p.all=true∨∃ i,k≤i∧p.catches[i]? = some w)=tt (p.all=true∨∃ i,k + 1≤i∧p.catches[i]? = some w) from tt_congr ⟨by
     rintro (h' | ⟨i,hi,h'⟩)
     ·exact .inl h'
     ·by_cases hik:i=k
      ·subst hik; rw [ha] at h'; cases h'; exact absurd rfl h
      ·exact .inr ⟨i,by omega,h'⟩,by
     rintro (h' | ⟨i,hi,h'⟩)
     ·exact .inl h'
     ·exact .inr ⟨i,by omega,h'⟩⟩]
    exact ih (k + 1) (by omega)
 refine Runs.of (f108_MR _ _) ?_
 unfold f108_M
 refine Goes.chk rfl (f108_0_J ?_)
 rw [show tt (p.all=true∨w ∈ p.catches)=tt (p.all=true∨∃ i,0≤i∧p.catches[i]? = some w) from tt_congr (by rw [List.mem_iff_getElem?]; simp)]
 exact loop p.catches.length 0 (by omega)
theorem rNew' {q q':Option Bool} {e:List TV} {x:TV} {m:DMod} {n:Int} {args:List Int} (hm:RMod q e m) (hn:inI n) (hx:RWords q' x args) (hM:modP m):∃ e',Runs prog 63 [.agg e,I n,x] (.tup [.agg e',I (errOf (newT m n args))])∧RFrame (some true) e' ((newT m n args).getD noFrame):=by
 obtain ⟨y,rfl,hy⟩:=hm
 have no:newT m n args=none→Runs prog 63 [.agg [y],I n,x] (.tup [.agg [I 0,I 0,I 0,.lit nilV,W 0],I 1])→∃ e',Runs prog 63 [.agg [y],I n,x] (.tup [.agg e',I (errOf (newT m n args))])∧RFrame (some true) e' ((newT m n args).getD noFrame):=by
  intro h hr
  rw [h]
  exact ⟨_,hr,RNo⟩
 by_cases h0:0≤n
 rotate_left
 ·refine no (by simp [newT,h0]) ?_
  refine Runs.of (f63_MR _ _ _) ?_
  unfold f63_M
  refine Goes.chk rfl (Goes.tv rfl (Goes.ite rfl (fun _=>Goes.chk rfl Goes.ret) fun h=>?_))
  simp at h; omega
 by_cases h1:n < (m.funcs.length:Int)
 rotate_left
 ·refine no (by simp [newT,h0,within_none h0 h1]) ?_
  refine Runs.of (f63_MR _ _ _) ?_
  unfold f63_M
  refine Goes.chk rfl (Goes.tv rfl (Goes.ite rfl (fun h=>?_) fun _=>?_))
  ·simp at h; omega
  refine Goes.tv hy.len (Goes.tv rfl (Goes.ite rfl (fun _=>Goes.chk rfl Goes.ret) fun h=>?_))
  simp at h; omega
 have hlt:n.toNat < m.funcs.length:=by omega
 have hu:m.funcs[n.toNat]? = some m.funcs[n.toNat]:=List.getElem?_eq_getElem hlt
 obtain ⟨e,he,hr⟩:=hy.idxI (k:=.i64) h0 hu
 generalize m.funcs[n.toNat]=u at hu hr
 obtain ⟨hr0,hr1⟩:=mod_regs hM hu
 obtain ⟨b,rfl,hb,_⟩:=hr
 have hT:newT m n args=if (args.length:Int)=u.params then some ⟨n,0,0,partRegs args u.regs.toNat,0⟩ else none:=by simp [newT,h0,hu,partRegs]
 by_cases hP:(args.length:Int)=u.params
 rotate_left
 ·refine no (by rw [hT,if_neg hP]) ?_
  refine Runs.of (f63_MR _ _ _) ?_
  unfold f63_M
  refine Goes.chk rfl (Goes.tv rfl (Goes.ite rfl (fun h=>?_) fun _=>?_))
  ·simp at h; omega
  refine Goes.tv hy.len (Goes.tv rfl (Goes.ite rfl (fun h=>?_) fun _=>?_))
  ·simp at h; omega
  refine Goes.tv hx.len (Goes.tvs he (Goes.chk rfl (Goes.tv rfl (Goes.ite rfl (fun _=>Goes.chk rfl Goes.ret) fun h=>?_))))
  simp at h
  exact absurd h hP
 rw [hT,if_pos hP]
 obtain ⟨K,hK⟩:∃ K:Nat,u.regs=(K:Int):=⟨u.regs.toNat,by omega⟩
 rw [hK] at he hr1 ⊢
 simp only [Int.toNat_natCast]
 have loop:∀ d k w,k + d=K→RWords (some true) w (partRegs args k)→∃ w',Goes prog 63 (f63_0 (I n) x (I (k:Int)) y (I n) (I 0) (I 0) (W 0) w) (.tup [.agg [I n,I 0,I 0,w',W 0],I 0])∧RWords (some true) w' (partRegs args K):=by
  intro d
  induction d with
  | zero =>
   intro k w hk hw
   have hk:k=K:=by omega
   subst hk
   refine ⟨w,?_,hw⟩
   unfold f63_0
   exact Goes.tvs he (Goes.chk rfl (Goes.tv rfl (Goes.ite asB_end (fun h=>nomatch h) fun _=>Goes.chk (own_tup (RWords.isOwn hw)) Goes.ret)))
  | succ d ih =>
   intro k w hk hw
   have hk':k < K:=by omega
   have hbd:(partRegs args k).length + 1≤4294967296:=by rw [part_len]; omega
   by_cases hka:k < args.length
   ·have ha:args[k]? = some args[k]:=List.getElem?_eq_getElem hka
    obtain ⟨ea,hea,hra⟩:=hx.idx (k:=.i64) ha
    obtain ⟨w2,hw2,hr2⟩:=hw.app1 hra hbd
    rw [← part_lt ha] at hr2
    obtain ⟨w',hw',hr'⟩:=ih (k + 1) w2 (by omega) hr2
    obtain ⟨rfl,_⟩:=hra
    refine ⟨w',?_,hr'⟩
    unfold f63_0
    refine Goes.tvs he (Goes.chk rfl (Goes.tv rfl (Goes.ite (asB_lt hk') (fun _=>?_) fun h=>nomatch h)))
    refine Goes.tv hx.len (Goes.tv rfl (Goes.ite (asB_lt hka) (fun _=>?_) fun h=>nomatch h))
    exact Goes.tvs hea (Goes.chk rfl (Goes.rws rfl (Goes.tv hw2 (Goes.tv (inc hk' (by omega)) (f63_0_J hw')))))
   ·obtain ⟨w2,hw2,hr2⟩:=hw.app1 RW0 hbd
    rw [← part_ge (by omega)] at hr2
    obtain ⟨w',hw',hr'⟩:=ih (k + 1) w2 (by omega) hr2
    refine ⟨w',?_,hr'⟩
    unfold f63_0
    refine Goes.tvs he (Goes.chk rfl (Goes.tv rfl (Goes.ite (asB_lt hk') (fun _=>?_) fun h=>nomatch h)))
    refine Goes.tv hx.len (Goes.tv rfl (Goes.ite rfl (fun h=>?_) fun _=>?_))
    ·simp at h; omega
    exact Goes.rws rfl (Goes.tv hw2 (Goes.tv (inc hk' (by omega)) (f63_0_J hw')))
 obtain ⟨w',hw',hr'⟩:=loop K 0 (.lit nilV) (by omega) (by simp [partRegs]; exact .nil)
 refine ⟨_,?_,⟨w',rfl,hr',hn,in0,in0,inW0⟩⟩
 refine Runs.of (f63_MR _ _ _) ?_
 unfold f63_M
 refine Goes.chk rfl (Goes.tv rfl (Goes.ite rfl (fun h=>?_) fun _=>?_))
 ·simp at h; omega
 refine Goes.tv hy.len (Goes.tv rfl (Goes.ite rfl (fun h=>?_) fun _=>?_))
 ·simp at h; omega
 refine Goes.tv hx.len (Goes.tvs he (Goes.chk rfl (Goes.tv rfl (Goes.ite rfl (fun h=>?_) fun _=>?_))))
 ·simp at h
  exact absurd hP h
 exact Goes.chk rfl (Goes.chk rfl (f63_0_J hw'))
end Go.Ab.G7
end
section
set_option linter.unusedVariables false
set_option maxRecDepth 10000
namespace Go.Ab
theorem RL.appM {α:Type} {s:Nat} {R:List TV→α→Prop} {y:TV} {l m:List α} {rows:List (List TV)} (hy:RL (some true) s R y l) (hr:F2 R rows m) (hl:l.length + m.length≤4294967296):∃ y',papp s y rows=some y'∧RL (some true) s R y' (l ++ m):=by
 have hlen:=hr.length
 rcases hy with ⟨rfl,rfl⟩ | ⟨o,xs,rfl,hq,h,hb⟩
 ·simp only [List.length_nil,Nat.zero_add] at hl
  have hp:papp s (.lit nilV) rows=some (rowT s rows):=by
   simp only [papp,nilV]
   rw [if_pos (show rows.length≤room by simp only [room]; omega)]
  refine ⟨_,hp,?_⟩
  cases hr with
  | nil=>exact .nil
  | cons h1 h2=>exact .sl (by simp) (.cons h1 h2) (by simp only [List.length_cons] at hlen ⊢; simp only [List.length_cons] at hl; omega)
 ·have hlen2:=h.length
  rw [hq true rfl]
  refine ⟨.sl true s (xs ++ rows),?_,.sl (by simp) (h.append hr) (by simp; omega)⟩
  simp [papp,room]; omega
structure DMach where
 stack:List DFrame
 cells:List Int
 inputs:List Int
 events:List Int
 done:Int
 value:Int
def DMach.c (s:DMach) (k:Nat):Int:=s.cells.getD k 0
def DMach.ok (s:DMach):Prop:=s.cells.length=16∧(∀ k,inW (s.c k))∧inI s.done∧inW s.value
def machCells (s:DMach) (g i v:TV):List TV:=[g,W (s.c 0),W (s.c 1),W (s.c 2),W (s.c 3),W (s.c 4),W (s.c 5),W (s.c 6),W (s.c 7),W (s.c 8),W (s.c 9),W (s.c 10),W (s.c 11),W (s.c 12),W (s.c 13),W (s.c 14),W (s.c 15),i,v,I s.done,W s.value]
def RMach (e:List TV) (s:DMach):Prop:=∃ g i v,e=machCells s g i v∧RL none 5 (RFrame none) g s.stack∧RWords none i s.inputs∧RInts none v s.events∧s.ok
def zMach:List Value:=[.slice none 0 0,.int .u16 0,.int .u16 0,.int .u16 0,.int .u16 0,.int .u16 0,.int .u16 0,.int .u16 0,.int .u16 0,.int .u16 0,.int .u16 0,.int .u16 0,.int .u16 0,.int .u16 0,.int .u16 0,.int .u16 0,.int .u16 0,.slice none 0 0,.slice none 0 0,.int .i64 0,.int .u16 0]
theorem fit_mach {s:DMach} {g i v:TV} (h1:g.isSl=true) (h2:i.isSl=true) (h3:v.isSl=true):(Bool.and ((TV.agg (machCells s g i v)).isAgg 21) (fitsAt zMach ((TV.agg (machCells s g i v)).cellsL true) 0))=true:=by
 simp [fitsAt,TV.isAgg,TV.cellsL,zMach,machCells,isSlV,h1,h2,h3,TV.isSc,scV]
theorem dec {n:Nat} (h:0 < n) (hn:n≤9223372036854775807):pbin (.int .i64) .sub (I (n:Int)) (I (1:Int))=some (I ((n - 1:Nat):Int)):=by
 have h1:IntKind.i64.wrap ((n:Int) - 1)=((n - 1:Nat):Int):=by rw [IntKind.wrap_i64]; omega
 show some (TV.lit (.int .i64 (IntKind.i64.wrap ((n:Int) - 1))))=_
 rw [h1]
theorem asNat_of {n:Nat} (h:n≤9223372036854775807):asNat (I (n:Int))=some n:=by
 have:=asNat_in (n:=(n:Int)) (by omega) ⟨by omega,by omega⟩
 simpa using this
def withT (s:DMach) (f:DFrame):DMach:={ s with stack:=s.stack.take (s.stack.length - 1) ++ [f] }
def endedT (s:DMach) (how w:Int):DMach:={ s with done:=how,value:=w }
def wordsAt (regs places:List Int):List Int:=places.map fun p=>regs.getD p.toNat 0
def topT (s:DMach):Option DFrame:=s.stack[s.stack.length - 1]?
def calledT (m:DMod) (s:DMach) (n:Int) (places:List Int):DMach :=
 if 32≤s.stack.length then endedT s 5 0 else
 match topT s with
 | none=>s
 | some f=>{ s with stack:=s.stack ++ [(newT m n (wordsAt f.regs places)).getD noFrame] }
end Go.Ab
namespace Go.Ab.G7
open Go Go.Ab Go.Proofs
theorem rStands {q q':Option Bool} {e e':List TV} {m:DMod} {f:DFrame} {u:DFunc} {b:DBlock} (hm:RMod q e m) (hf:RFrame q' e' f) (h0:0≤f.f) (hu:m.funcs[f.f.toNat]? = some u) (hb0:0≤f.block) (hb:u.blocks[f.block.toNat]? = some b) :
  ∃ eb,Runs prog 64 [.agg e,.agg e'] (.tup [.agg eb,B (tt (f.at_=b.ins.length))])∧RBlock q eb b:=by
 obtain ⟨y,rfl,hy⟩:=hm
 obtain ⟨g,rfl,hg,ho⟩:=hf
 obtain ⟨e,he,hr⟩:=hy.idxI (k:=.i64) h0 hu
 obtain ⟨bs,rfl,hbs,_⟩:=hr
 obtain ⟨eb,heb,hrb⟩:=hbs.idxI (k:=.i64) hb0 hb
 have hrb':=hrb
 obtain ⟨c,is,ga,rfl,hc,hdi,his,hga,_⟩:=hrb
 refine ⟨_,?_,hrb'⟩
 refine Runs.of (f64_MR _ _) ?_
 unfold f64_M
 refine Goes.chk rfl (Goes.chk rfl (Goes.tvs he (Goes.chk rfl (Goes.tvs heb (Goes.chk rfl (Goes.tv (RL.len his) (Goes.tv rfl ?_)))))))
 rw [← tt_eq (p:=f.at_=b.ins.length) (b:=decide (f.at_=(b.ins.length:Int))) (by simp)]
 exact Goes.ret
theorem rMWith {q':Option Bool} {e e':List TV} {s:DMach} {f:DFrame} (hs:RMach e s) (hf:RFrame q' e' f) (h0:0 < s.stack.length) (hl:s.stack.length≤4294967296) :
  ∃ e2,Runs prog 69 [.agg e,.agg e'] (.agg e2)∧RMach e2 (withT s f):=by
 obtain ⟨g,i,v,rfl,hg,hi,hv,ho⟩:=hs
 have hf':RFrame none e' f:=hf.weak
 obtain ⟨r,rfl,_,_⟩:=hf
 obtain ⟨y,hy,hry⟩:=hg.slice (t:=47) (lo:=none) (hi:=some (s.stack.length - 1)) (by simp) (by simp)
 obtain ⟨rs,hrs,hF⟩:=hry.elems
 have hF:F2 (RFrame none) rs (s.stack.take (s.stack.length - 1)):=by simpa using hF
 have hnil:RL (some true) 5 (RFrame none) (.sl true 5 []) ([]:List DFrame):=.sl (by simp) .nil (by simp)
 obtain ⟨z,hz,hrz⟩:=hnil.appM hF (by simp; omega)
 obtain ⟨z',hz',hrz'⟩:=hrz.app1 hf' (by simp; omega)
 refine ⟨machCells (withT s f) z' i v,?_,⟨z',i,v,rfl,?_,hi,hv,ho⟩⟩
 rotate_left
 ·exact (by simpa [withT] using hrz':RL (some true) 5 (RFrame none) z' (withT s f).stack).weak fun _ _ h=>h
 refine Runs.of (f69_MR _ _) ?_
 unfold f69_M
 refine Goes.chk rfl (Goes.chk rfl (Goes.tv (RL.len hg) (Goes.tv (dec h0 (by omega)) (Goes.nat (asNat_of (by omega)) (Goes.tv hy (Goes.rws hrs (Goes.tv hz (Goes.rws rfl (Goes.tv hz' ?_)))))))))
 exact Goes.ret
theorem rEnded {e:List TV} {s:DMach} {how w:Int} (hs:RMach e s) (hh:inI how) (hw:inW w):∃ e2,Runs prog 92 [.agg e,I how,W w] (.agg e2)∧RMach e2 (endedT s how w):=by
 obtain ⟨g,i,v,rfl,hg,hi,hv,ho⟩:=hs
 refine ⟨machCells (endedT s how w) g i v,?_,⟨g,i,v,rfl,hg,hi,hv,ho.1,ho.2.1,hh,hw⟩⟩
 refine Runs.of (f92_MR _ _ _) ?_
 unfold f92_M
 exact Goes.chk rfl (Goes.chk rfl (Goes.chk rfl Goes.ret))
end Go.Ab.G7
end
section
set_option linter.unusedVariables false
set_option maxRecDepth 10000
namespace Go.Ab
theorem wordsAt_take {regs places:List Int} {k:Nat} {p:Int} (h:places[k]? = some p):wordsAt regs (places.take (k + 1))=wordsAt regs (places.take k) ++ [regs.getD p.toNat 0]:=by
 unfold wordsAt
 rw [List.take_add_one,h]
 simp
theorem wordsAt_len {regs places:List Int}:(wordsAt regs places).length=places.length:=by simp [wordsAt]
theorem getD_at {l:List Int} {n:Nat} {a:Int} (h:l[n]? = some a):l.getD n 0=a:=by simp [List.getD,h]
end Go.Ab
namespace Go.Ab.G7
open Go Go.Ab Go.Proofs
theorem rCalled {q q':Option Bool} {e e':List TV} {x:TV} {m:DMod} {s:DMach} {n:Int} {places:List Int} {f:DFrame} (hm:RMod q e m) (hM:modP m) (hs:RMach e' s) (hn:inI n) (hx:RInts q' x places) (ht:topT s=some f)
  (hp:∀ (k:Nat) (p:Int),places[k]? = some p→within p f.regs.length) (hl:places.length≤4294967295) :
  ∃ e2,Runs prog 67 [.agg e,.agg e',I n,x] (.agg e2)∧RMach e2 (calledT m s n places):=by
 have hs':=hs
 obtain ⟨g,i,v,rfl,hg,hi,hv,ho⟩:=hs
 by_cases h32:32≤s.stack.length
 ·obtain ⟨e2,hr2,h2⟩:=rEnded (how:=5) (w:=0) hs' ⟨by decide,by decide⟩ inW0
  have hT:calledT m s n places=endedT s 5 0:=by simp [calledT,h32]
  rw [hT]
  obtain ⟨g2,i2,v2,rfl,hg2,hi2,hv2,ho2⟩:=id h2
  refine ⟨_,?_,h2⟩
  obtain ⟨y,rfl,hy⟩:=hm
  refine Runs.of (f67_MR _ _ _ _) ?_
  unfold f67_M
  refine Goes.chk rfl (Goes.chk rfl (Goes.tv (RL.len hg) (Goes.tv rfl (Goes.ite rfl (fun _=>?_) fun h=>?_))))
  ·exact Goes.call hr2 (Goes.chk (fit_mach hg2.isSl hi2.isSl hv2.isSl) Goes.ret)
  ·simp at h; omega
 have hT:calledT m s n places={ s with stack:=s.stack ++ [(newT m n (wordsAt f.regs places)).getD noFrame] }:=by simp [calledT,h32,ht]
 rw [hT]
 obtain ⟨ef,hef,hrf⟩:=hg.idx (k:=.i64) ht
 have h0:0 < s.stack.length:=by
  have:=(List.getElem?_eq_some_iff.1 ht).1
  omega
 obtain ⟨gr,rfl,hgr,hof⟩:=hrf
 have hm':=hm
 obtain ⟨y,rfl,hy⟩:=hm
 have loop:∀ d k w,k + d=places.length→RWords (some true) w (wordsAt f.regs (places.take k))→∃ w',RWords (some true) w' (wordsAt f.regs places)∧∀ r,Goes prog 67 (f67_1 (I n) y g (W (s.c 0)) (W (s.c 1)) (W (s.c 2)) (W (s.c 3)) (W (s.c 4)) (W (s.c 5)) (W (s.c 6)) (W (s.c 7)) (W (s.c 8)) (W (s.c 9)) (W (s.c 10)) (W (s.c 11)) (W (s.c 12)) (W (s.c 13)) (W (s.c 14)) (W (s.c 15)) i v (I s.done) (W s.value) w') r→Goes prog 67 (f67_0 (I n) x (I k) y g (W (s.c 0)) (W (s.c 1)) (W (s.c 2)) (W (s.c 3)) (W (s.c 4)) (W (s.c 5)) (W (s.c 6)) (W (s.c 7)) (W (s.c 8)) (W (s.c 9)) (W (s.c 10)) (W (s.c 11)) (W (s.c 12)) (W (s.c 13)) (W (s.c 14)) (W (s.c 15)) i v (I s.done) (W s.value) (I f.f) (I f.block) (I f.at_) gr (W f.fly) w) r:=by
  intro d
  induction d with
  | zero =>
   intro k w hk hw
   have hk:k=places.length:=by omega
   subst hk
   rw [List.take_length] at hw
   refine ⟨w,hw,fun r hr=>?_⟩
   unfold f67_0
   refine Goes.tv (RL.len (by assumption)) (Goes.tv rfl (Goes.ite asB_end (fun h=>nomatch h) fun _=>?_))
   exact f67_1_J hr
  | succ d ih =>
   intro k w hk hw
   have hlt:k < places.length:=by omega
   have hpk:places[k]? = some places[k]:=List.getElem?_eq_getElem hlt
   obtain ⟨e1,he1,rfl,_⟩:=hx.idx (k:=.i64) hpk
   have hwi:=hp k _ hpk
   obtain ⟨a,ha,hal⟩:=within_at hwi
   obtain ⟨hia,haw⟩:=RWords.at_ hgr (k:=.i64) hwi.1 ha
   obtain ⟨w2,hw2,hr2⟩:=hw.app1 (e:=[W a]) (a:=a) ⟨rfl,haw⟩ (by rw [wordsAt_len]; simp; omega)
   have hr2:RWords (some true) w2 (wordsAt f.regs (places.take (k + 1))):=by
    rw [wordsAt_take hpk,getD_at ha]
    exact hr2
   obtain ⟨w',hw',hgo⟩:=ih (k + 1) w2 (by omega) hr2
   refine ⟨w',hw',fun r hr=>?_⟩
   unfold f67_0
   refine Goes.tv (RL.len (by assumption)) (Goes.tv rfl (Goes.ite (asB_lt hlt) (fun _=>?_) fun h=>nomatch h))
   exact Goes.tvs he1 (Goes.chk rfl (Goes.tvs hia (Goes.chk rfl (Goes.rws rfl (Goes.tv hw2 (Goes.tv (inc hlt hx.bnd) (f67_0_J (hgo r hr))))))))
 obtain ⟨w',hw',hgo⟩:=loop places.length 0 (.lit nilV) (by omega) (by simpa [wordsAt] using RL.nil)
 obtain ⟨en,hrn,hfn⟩:=rNew' hm' hn (hw'.frz (S:=RW1) fun _ _ h=>h.frz) hM
 have hfz:=hfn.frz.weak
 generalize (newT m n (wordsAt f.regs places)).getD noFrame=f2 at hfn hfz hrn
 obtain ⟨yn,rfl,hyn,_⟩:=hfn
 obtain ⟨rs,hrs,hF⟩:=hg.elems
 have hnil:RL (some true) 5 (RFrame none) (.sl true 5 []) ([]:List DFrame):=.sl (by simp) .nil (by simp)
 obtain ⟨z,hz,hrz⟩:=hnil.appM hF (by simp; omega)
 obtain ⟨z',hz',hrz'⟩:=hrz.app1 hfz (by simp; omega)
 refine ⟨machCells { s with stack:=s.stack ++ [f2] } z' i v,?_,⟨z',i,v,rfl,?_,hi,hv,ho⟩⟩
 rotate_left
 ·exact (by simpa using hrz':RL (some true) 5 (RFrame none) z' (s.stack ++ [f2])).weak fun _ _ h=>h
 refine Runs.of (f67_MR _ _ _ _) ?_
 unfold f67_M
 refine Goes.chk rfl (Goes.chk rfl (Goes.tv (RL.len hg) (Goes.tv rfl (Goes.ite rfl (fun h=>?_) fun _=>?_))))
 ·simp at h; omega
 refine Goes.tv (RL.len hg) (Goes.tv (dec h0 (by omega)) (Goes.tvs hef (Goes.chk rfl (Goes.chk rfl (f67_0_J (hgo _ ?_))))))
 unfold f67_1
 refine Goes.call hrn (Goes.chk rfl (Goes.chk (fit_frame hyn.isSl) (Goes.chk rfl (f67_2_J ?_))))
 unfold f67_2
 exact Goes.rws hrs (Goes.tv hz (Goes.rws rfl (Goes.tv hz' Goes.ret)))
end Go.Ab.G7
end

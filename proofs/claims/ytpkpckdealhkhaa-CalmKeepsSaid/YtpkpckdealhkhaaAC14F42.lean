import Derived.Test.YtpkpckdealhkhaaAC14F33
set_option linter.all false
section
set_option maxRecDepth 10000
namespace Go.Ab
theorem kW {m:DMod} {f:DFrame} {u:DFunc} {pad w:Int} (hu:m.funcs[f.f.toNat]? = some u) (h:¬dk u.blocks pad true):im m f pad w=none:=by
 unfold im
 rw[hu]
 simp only[Option.bind_some]
 split
 ·rename_i h0
  cases hb:u.blocks[pad.toNat]? with
  | none=>rfl
  | some b =>
   simp only[Option.bind_some]
   split
   ·rename_i hl
    exact absurd ⟨h0,b,hb,hl⟩ h
   ·rfl
 ·rfl
theorem sR {m:DMod} {f:DFrame} {u:DFunc} {b:DBlock} {pad w:Int} (hu:m.funcs[f.f.toNat]? = some u) (h0:0<=pad) (hb:u.blocks[pad.toNat]? = some b) (hl:b.landing=true) :
  im m f pad w=some ⟨f.f,pad,0,f.regs.set b.pad.dst.toNat w,w⟩:=by
 simp[im,hu,h0,hb,hl]
theorem ua {n:Int} {k:Nat} (h:within n k):n.toNat<k:=by have:=h.1;have:=h.2;omega
theorem j8 {a b:Nat} (h:a<b):Nat.blt a b=true:=by simpa using h
end Go.Ab
namespace Go.Ab.C14
open Go Go.Ab Go.Proofs
theorem ug {q:Option Bool} {e:List TV} {f:DFrame} {n w:Int} (hf:RFrame q e f) (hl:f.regs.length<=4294967296) (hn:within n f.regs.length) (hni:inI n) (hw:inW w) :
  ∃e2,aj prog 81 [.agg e,I n,W w] (.agg e2)/\RFrame (some true) e2 { f with regs:=f.regs.set n.toNat w }:=by
 obtain⟨g,rfl,hg,ho⟩:=hf
 obtain⟨xs,hxs,hF2⟩:=hg.elems
 have hlen:=hF2.length
 have hv:RWords (some true) (.sl true 1 xs) f.regs:=.sl (by simp) hF2 (by omega)
 have hlt:=ua hn
 obtain⟨a,v',hpe,hs,hrl⟩:=RWords.put hv hlt hw
 refine⟨[I f.f,I f.block,I f.at_,v',W f.fly],?_,⟨_,rfl,hrl,ho⟩⟩
 refine aj.of (f81_MR _ _ _) ?_
 unfold f81_M
 refine aa.chk rfl (aa.rws hxs (aa.tv (v:=.sl true 1 xs) (by simp[papp,chunks,room];omega) (aa.nat hv.slLen (aa.nat (jY hn.1 hni) (aa.chk ?_ (aa.chk rfl (aa.tvs hpe (aa.chk rfl (aa.tv hs (aa.chk ?_ aa.ret))))))))))
 ·rw[j8 hlt];exact(Bool.and_true _).trans hv.slSize
 ·simp[isOwn,bE,RWords.isOwn hrl,TV.cell,nth]
theorem rLand' {q q':Option Bool} {e e':List TV} {m:DMod} {f:DFrame} {pad w:Int} (hm:RMod q e m) (hf:RFrame q' e' f) (hl:f.regs.length<=4294967296) (hp:inI pad) (hw:inW w) (hM:cF m) (hQ:ca m f) :
  ∃e2,aj prog 83 [.agg e,.agg e',I pad,W w] (.tup [.agg e2,I (DQ (im m f pad w))])/\RFrame none e2 ((im m f pad w).getD f):=by
 have hf':=hf
 obtain⟨y,rfl,hy⟩:=hm
 obtain⟨g,rfl,hg,ho⟩:=hf
 obtain⟨h0,u,hu,hL,_⟩:=hQ
 obtain⟨e,he,hr⟩:=hy.kX (k:=.i64) h0 hu
 obtain⟨bs,rfl,hbs,_⟩:=hr
 by_cases hp0:0<=pad
 rotate_left
 ·rw[kW hu fun h=>hp0 h.1]
  refine⟨_,?_,hf'.weak⟩
  refine aj.of (f83_MR _ _ _ _) ?_
  unfold f83_M
  refine aa.chk rfl (aa.chk rfl (aa.tvs he (aa.chk rfl (aa.tv rfl (aa.ite rfl (fun _=>aa.ret) fun h=>?_)))))
  simp at h;omega
 by_cases hp1:pad<(u.blocks.length:Int)
 rotate_left
 ·rw[kW hu fun h=>by
   obtain⟨_,b,hb,_⟩:=h
   have:=(FP.1 hb).1
   omega]
  refine⟨_,?_,hf'.weak⟩
  refine aj.of (f83_MR _ _ _ _) ?_
  unfold f83_M
  refine aa.chk rfl (aa.chk rfl (aa.tvs he (aa.chk rfl (aa.tv rfl (aa.ite rfl (fun h=>?_) fun _=>?_)))))
  ·simp at h;omega
  refine aa.tv (RL.len hbs) (aa.tv rfl (aa.ite rfl (fun _=>aa.ret) fun h=>?_))
  simp at h;omega
 have hlt2:pad.toNat<u.blocks.length:=by omega
 have hb:u.blocks[pad.toNat]? = some u.blocks[pad.toNat]:=FQ hlt2
 obtain⟨eb,heb,hrb⟩:=hbs.kX (k:=.i64) hp0 hb
 generalize u.blocks[pad.toNat]=b at hb hrb
 obtain⟨c,is,ga,rfl,hc,hdi,_⟩:=hrb
 cases hbl:b.landing with
 | false =>
  rw[kW hu fun h=>by
   obtain⟨_,b',hb',hl'⟩:=h
   rw[hb]at hb'
   cases hb'
   rw[hbl]at hl'
   cases hl']
  refine⟨_,?_,hf'.weak⟩
  rw[hbl]at heb
  refine aj.of (f83_MR _ _ _ _) ?_
  unfold f83_M
  refine aa.chk rfl (aa.chk rfl (aa.tvs he (aa.chk rfl (aa.tv rfl (aa.ite rfl (fun h=>?_) fun _=>?_)))))
  ·simp at h;omega
  refine aa.tv (RL.len hbs) (aa.tv rfl (aa.ite rfl (fun h=>?_) fun _=>?_))
  ·simp at h;omega
  exact aa.tvs heb (aa.chk rfl (aa.tv rfl (aa.ite rfl (fun _=>aa.ret) nofun)))
 | true =>
  have hdw:=EE hM hu hb hbl
  have hdw':within b.pad.dst f.regs.length:=by rw[hL];exact hdw
  rw[sR hu hp0 hb hbl]
  obtain⟨e2,hr2,hf2⟩:=ug (f:=⟨f.f,pad,0,f.regs,w⟩) (n:=b.pad.dst) (w:=w) (q:=q') ⟨g,rfl,hg,ho.1,hp,in0,hw⟩ hl hdw' hdi hw
  obtain⟨v,rfl,hv,hov⟩:=hf2
  refine⟨_,?_,⟨v,rfl,hv.weak fun _ _ h=>h,hov⟩⟩
  rw[hbl]at heb
  refine aj.of (f83_MR _ _ _ _) ?_
  unfold f83_M
  refine aa.chk rfl (aa.chk rfl (aa.tvs he (aa.chk rfl (aa.tv rfl (aa.ite rfl (fun h=>?_) fun _=>?_)))))
  ·simp at h;omega
  refine aa.tv (RL.len hbs) (aa.tv rfl (aa.ite rfl (fun h=>?_) fun _=>?_))
  ·simp at h;omega
  refine aa.tvs heb (aa.chk rfl (aa.tv rfl (aa.ite rfl nofun fun _=>?_)))
  exact aa.chk rfl (aa.chk rfl (aa.tvs heb (aa.chk rfl (aa.call hr2 (aa.chk (dl hv.isSl) aa.ret)))))
end Go.Ab.C14
end
section
set_option maxRecDepth 10000
namespace Go.Ab
theorem BO {f:DFrame} {x:DIns} (h:¬within x.dst f.regs.length):bR f x=(f,false):=by
 have h':¬(0<=x.dst/\x.dst<(f.regs.length:Int)):=h
 unfold bR
 cases cK f.regs x with
 | none=>rfl
 | some v=>simp only[if_neg h']
theorem gX {f:DFrame} {x:DIns} (h:cK f.regs x=none):bR f x=(f,false):=by simp[bR,h]
theorem xY {f:DFrame} {x:DIns} {v:Int} (hD:within x.dst f.regs.length) (h:cK f.regs x=some v) :
  bR f x=({ f with regs:=f.regs.set x.dst.toNat v,at_:=IntKind.i64.wrap (f.at_+1) },true):=by
 have h':0<=x.dst/\x.dst<(f.regs.length:Int):=hD
 simp only[bR,h,if_pos h']
theorem D1 {op a b:Int} (h:¬(2<=op/\op<=8)):doW op a b=none:=by
 unfold doW
 rw[if_neg (by omega),if_neg (by omega),if_neg (by omega),if_neg (by omega),if_neg (by omega),if_neg (by omega),if_neg (by omega)]
theorem uH {l:List Int} {x:DIns} (h:¬(1<=x.op/\x.op<=8)):cK l x=none:=by
 unfold cK
 rw[if_neg (by omega)]
 cases lp l x.a with
 | none=>rfl
 | some u =>
  simp only[Option.bind_some]
  rw[if_neg (by omega)]
  exact D1 (by omega)
theorem zk {l:List Int} {x:DIns} {u:Int} (h:x.op=2) (ha:lp l x.a=some u):cK l x=doW x.op u 0:=by
 unfold cK
 rw[if_neg (by omega),ha]
 simp only[Option.bind_some]
 rw[if_neg (by omega)]
theorem xO {l:List Int} {x:DIns} {u v:Int} (h:3<=x.op/\x.op<=8) (ha:lp l x.a=some u) (hb:lp l x.b=some v):cK l x=doW x.op u v:=by
 unfold cK
 rw[if_neg (by omega),ha]
 simp only[Option.bind_some]
 rw[if_pos h,hb]
 rfl
theorem zg {l:List Int} {x:DIns} (h:¬x.op=1) (ha:¬within x.a l.length):cK l x=none:=by
 unfold cK
 rw[if_neg h,tB ha]
 rfl
theorem yO {l:List Int} {x:DIns} {u:Int} (h:3<=x.op/\x.op<=8) (ha:lp l x.a=some u) (hb:¬within x.b l.length):cK l x=none:=by
 unfold cK
 rw[if_neg (by omega),ha]
 simp only[Option.bind_some]
 rw[if_pos h,tB hb]
 rfl
def cR (args:List Int) (k:Nat):List Int:=args.take k++List.replicate (k-args.length) 0
theorem ET {args:List Int} {k:Nat} {a:Int} (h:args[k]? = some a):cR args (k+1)=cR args k ++ [a]:=by
 have hk:=(FP.1 h).1
 unfold cR
 rw[List.take_add_one,h,show k+1-args.length=0 by omega,show k-args.length=0 by omega]
 simp
theorem Ez {args:List Int} {k:Nat} (h:args.length<=k):cR args (k+1)=cR args k ++ [0]:=by
 unfold cR
 rw[List.take_of_length_le (by omega),List.take_of_length_le (by omega),show k+1-args.length=(k-args.length)+1 by omega,List.replicate_succ',List.append_assoc]
theorem DP {args:List Int} {k:Nat}:(cR args k).length=k:=by
 unfold cR
 simp;omega
end Go.Ab
namespace Go.Ab.C14
open Go Go.Ab Go.Proofs
theorem Cp {q q' : Option Bool} {e e' : List TV} {f : DFrame} {x : DIns} (hf : RFrame q e f) (hx : RIns q' e' x) (hl : f.regs.length ≤ 4294967296) :
  ∃e2,aj prog 79 [.agg e,.agg e'] (.tup [.agg e2,B (bR f x).2])/\RFrame none e2 (bR f x).1:=by
 have hf':=hf
 have hD':=zj hf x.dst
 have hA':=zj hf x.a
 have hB':=zj hf x.b
 obtain⟨g,rfl,hg,ho⟩:=hf
 obtain⟨z,rfl,hz,hxo⟩:=hx
 have no:bR f x=(f,false)->aj prog 79 [.agg [I f.f,I f.block,I f.at_,g,W f.fly],.agg [I x.op,I x.dst,I x.a,I x.b,W x.k,I x.f,z]] (.tup [.agg [I f.f,I f.block,I f.at_,g,W f.fly],B false])->∃e2,aj prog 79 [.agg [I f.f,I f.block,I f.at_,g,W f.fly],.agg [I x.op,I x.dst,I x.a,I x.b,W x.k,I x.f,z]] (.tup [.agg e2,B (bR f x).2])/\RFrame none e2 (bR f x).1:=by
  intro h hr
  rw[h]
  exact⟨_,hr,hf'.weak⟩
 by_cases hD:within x.dst f.regs.length
 rotate_left
 ·refine no (BO hD) ?_
  rw[ck hD]at hD'
  refine aj.of (f79_MR _ _) ?_
  unfold f79_M
  exact aa.chk rfl (aa.chk rfl (aa.call hD' (aa.chk rfl (aa.tv rfl (aa.ite rfl (fun _=>aa.ret) nofun)))))
 rw[bp hD]at hD'
 by_cases h1:x.op<1
 ·refine no (gX (uH (by omega))) ?_
  refine aj.of (f79_MR _ _) ?_
  unfold f79_M
  refine aa.chk rfl (aa.chk rfl (aa.call hD' (aa.chk rfl (aa.tv rfl (aa.ite rfl nofun fun _=>?_)))))
  refine aa.tv rfl (aa.ite rfl (fun _=>aa.ret) fun h=>?_)
  simp at h;omega
 by_cases h8:8<x.op
 ·refine no (gX (uH (by omega))) ?_
  refine aj.of (f79_MR _ _) ?_
  unfold f79_M
  refine aa.chk rfl (aa.chk rfl (aa.call hD' (aa.chk rfl (aa.tv rfl (aa.ite rfl nofun fun _=>?_)))))
  refine aa.tv rfl (aa.ite rfl (fun _=>aa.ret) fun _=>?_)
  refine aa.tv rfl (aa.ite rfl (fun _=>aa.ret) fun h=>?_)
  simp at h;omega
 have fin:∀v,inW v->cK f.regs x=some v->∃e2,aa prog 79 (f79_1 (W v) (I f.f) (I f.block) (I f.at_) g (W f.fly) (I x.op) (I x.dst) (I x.a) (I x.b) (W x.k) (I x.f) z) (.tup [.agg e2,B (bR f x).2])/\RFrame none e2 (bR f x).1:=by
  intro v hv hT
  rw[xY hD hT]
  obtain⟨e2,hr2,hf2⟩:=ug (w:=v) hf' hl hD hxo.2.1 hv
  obtain⟨y,rfl,hy,hoy⟩:=hf2
  refine⟨_,?_,⟨y,rfl,hy.weak fun _ _ h=>h,hoy.1,hoy.2.1,wrap_i64 _,hoy.2.2.2⟩⟩
  unfold f79_1
  exact aa.call hr2 (aa.chk (dl hy.isSl) (aa.tv rfl aa.ret))
 have start : ∀ r, aa prog 79 (.tv (pbin (Kd.int IntKind.i64) BinOp.gtr (I x.op) (I 1)) fun v4 => .ite (asBool v4) (
   Prg.call 85 [TV.agg [I f.f,I f.block,I f.at_,g,W f.fly],I x.a] fun v5 =>
     Prg.chk (ab am [v5] 0) (
     Prg.tv (pun UnOp.not v5) fun v6 =>
     Prg.ite (asBool v6) (
      Prg.ret (TV.tup [TV.agg [I f.f,I f.block,I f.at_,g,W f.fly],B false])) (
      Prg.tv (pbin (Kd.int IntKind.i64) BinOp.gtr (I x.op) (I 2)) fun v7 =>
      Prg.ite (asBool v7) (
       Prg.call 85 [TV.agg [I f.f,I f.block,I f.at_,g,W f.fly],I x.b] fun v8 =>
       Prg.chk (ab am [v8] 0) (
       Prg.tv (pun UnOp.not v8) fun v9 =>
       Prg.ite (asBool v9) (
        Prg.ret (TV.tup [TV.agg [I f.f,I f.block,I f.at_,g,W f.fly],B false])) (
        Prg.tv (pbin (Kd.int IntKind.i64) BinOp.gtr (I x.op) (I 2)) fun v10 =>
        Prg.jmp [1,0,1,1,0,1,0,1,1,1] (f79_0_S (W 0) v10 (I f.f) (I f.block) (I f.at_) g (W f.fly) (I x.op) (I x.dst) (I x.a) (I x.b) (W x.k) (I x.f) z)))) (
       Prg.tv (pbin (Kd.int IntKind.i64) BinOp.gtr (I x.op) (I 2)) fun v11 =>
       Prg.jmp [1,0,1,1,0,1,0,1,1,1] (f79_0_S (W 0) v11 (I f.f) (I f.block) (I f.at_) g (W f.fly) (I x.op) (I x.dst) (I x.a) (I x.b) (W x.k) (I x.f) z)))))
   (Prg.jmp [1,1,1,1] (f79_1_S (W x.k) (I f.f) (I f.block) (I f.at_) g (W f.fly) (I x.op) (I x.dst) (I x.a) (I x.b) (W x.k) (I x.f) z))) r->aj prog 79 [.agg [I f.f,I f.block,I f.at_,g,W f.fly],.agg [I x.op,I x.dst,I x.a,I x.b,W x.k,I x.f,z]] r:=by
  intro r hr
  refine aj.of (f79_MR _ _) ?_
  unfold f79_M
  refine aa.chk rfl (aa.chk rfl (aa.call hD' (aa.chk rfl (aa.tv rfl (aa.ite rfl nofun fun _=>?_)))))
  refine aa.tv rfl (aa.ite rfl (fun h=>?_) fun _=>?_)
  ·simp at h;omega
  refine aa.tv rfl (aa.ite rfl (fun h=>?_) fun _=>hr)
  simp at h;omega
 by_cases he1:x.op=1
 ·obtain⟨e2,hg2,hf2⟩:=fin x.k hxo.2.2.2.2.1 (by simp[cK,he1])
  refine⟨e2,start _ ?_,hf2⟩
  refine aa.tv rfl (aa.ite rfl (fun h=>?_) fun _=>f79_1_J hg2)
  simp at h;omega
 by_cases hA:within x.a f.regs.length
 rotate_left
 ·refine no (gX (zg he1 hA)) (start _ ?_)
  rw[ck hA]at hA'
  refine aa.tv rfl (aa.ite rfl (fun _=>?_) fun h=>?_)
  ·exact aa.call hA' (aa.chk rfl (aa.tv rfl (aa.ite rfl (fun _=>aa.ret) nofun)))
  ·simp at h;omega
 rw[bp hA]at hA'
 obtain⟨u,hu,hul⟩:=gj hA
 obtain⟨hi,hui⟩:=RWords.at_ hg (k:=.i64) hA.1 hu
 have hRA:=rE hA.1 hu
 have last:∀v,inW v->cK f.regs x=doW x.op u v->∃e2,aa prog 79 (f79_2 (W v) (I f.f) (I f.block) (I f.at_) g (W f.fly) (I x.op) (I x.dst) (I x.a) (I x.b) (W x.k) (I x.f) z) (.tup [.agg e2,B (bR f x).2])/\RFrame none e2 (bR f x).1:=by
  intro v hv hT
  have hd:=rDo' x.op hui hv
  cases hdo:doW x.op u v with
  | none =>
   rw[hdo]at hd hT
   rw[gX hT]
   refine⟨_,?_,hf'.weak⟩
   unfold f79_2
   exact aa.tvs hi (aa.chk rfl (aa.call hd (aa.chk rfl (aa.chk rfl (aa.chk rfl (aa.tv rfl (aa.ite rfl (fun _=>aa.ret) nofun)))))))
  | some w =>
   rw[hdo]at hd hT
   obtain⟨e2,hg2,hf2⟩:=fin w (doW_in hui hdo) hT
   refine⟨e2,?_,hf2⟩
   unfold f79_2
   exact aa.tvs hi (aa.chk rfl (aa.call hd (aa.chk rfl (aa.chk rfl (aa.chk rfl (aa.tv rfl (aa.ite rfl nofun fun _=>f79_1_J hg2)))))))
 by_cases he2:x.op=2
 ·obtain⟨e2,hg2,hf2⟩:=last 0 wz (zk he2 hRA)
  refine⟨e2,start _ ?_,hf2⟩
  refine aa.tv rfl (aa.ite rfl (fun _=>?_) fun h=>?_)
  ·refine aa.call hA' (aa.chk rfl (aa.tv rfl (aa.ite rfl nofun fun _=>?_)))
   refine aa.tv rfl (aa.ite rfl (fun h=>?_) fun _=>?_)
   ·simp at h;omega
   refine aa.tv rfl (f79_0_J ?_)
   unfold f79_0
   refine aa.ite rfl (fun h=>?_) fun _=>f79_2_J hg2
   simp at h;omega
  ·simp at h;omega
 have h3:3<=x.op/\x.op<=8:=by omega
 by_cases hB:within x.b f.regs.length
 rotate_left
 ·refine no (gX (yO h3 hRA hB)) (start _ ?_)
  rw[ck hB]at hB'
  refine aa.tv rfl (aa.ite rfl (fun _=>?_) fun h=>?_)
  ·refine aa.call hA' (aa.chk rfl (aa.tv rfl (aa.ite rfl nofun fun _=>?_)))
   refine aa.tv rfl (aa.ite rfl (fun _=>?_) fun h=>?_)
   ·exact aa.call hB' (aa.chk rfl (aa.tv rfl (aa.ite rfl (fun _=>aa.ret) nofun)))
   ·simp at h;omega
  ·simp at h;omega
 rw[bp hB]at hB'
 obtain⟨v,hv,hvl⟩:=gj hB
 obtain⟨hi',hvi⟩:=RWords.at_ hg (k:=.i64) hB.1 hv
 obtain⟨e2,hg2,hf2⟩:=last v hvi (xO h3 hRA (rE hB.1 hv))
 refine⟨e2,start _ ?_,hf2⟩
 refine aa.tv rfl (aa.ite rfl (fun _=>?_) fun h=>?_)
 ·refine aa.call hA' (aa.chk rfl (aa.tv rfl (aa.ite rfl nofun fun _=>?_)))
  refine aa.tv rfl (aa.ite rfl (fun _=>?_) fun h=>?_)
  ·refine aa.call hB' (aa.chk rfl (aa.tv rfl (aa.ite rfl nofun fun _=>?_)))
   refine aa.tv rfl (f79_0_J ?_)
   unfold f79_0
   refine aa.ite rfl (fun _=>?_) fun h=>?_
   ·exact aa.tvs hi' (aa.chk rfl (f79_2_J hg2))
   ·simp at h;omega
  ·simp at h;omega
 ·simp at h;omega
theorem BA {q:Option Bool} {e:List TV} {p:DPad} {w:Int} (he:RPad q e p):aj prog 87 [.agg e,W w] (B (tt (p.all=true\/w∈p.catches))):=by
 obtain⟨x,rfl,hx,_⟩:=he
 have loop : ∀ d k, k + d = p.catches.length → aa prog 87 (f87_0 (W w) (I k) (I p.dst) x (B p.all) (B p.cleanup)) (B (tt (p.all = true ∨ ∃ i, k ≤ i ∧ p.catches[i]? = some w))) := by
  intro d
  induction d with
  | zero =>
   intro k hk
   have hk:k=p.catches.length:=by omega
   subst hk
   unfold f87_0
   refine aa.tv (RL.len (by assumption)) (aa.tv rfl (aa.ite aM nofun fun _=>?_))
   apply aH
   constructor
   ·intro h;exact .inl h
   ·rintro(h|⟨i,hi,h⟩)
    ·exact h
    ·rw[F5 hi]at h;cases h
  | succ d ih =>
   intro k hk
   have hk':k<p.catches.length:=by omega
   have ha:p.catches[k]? = some p.catches[k]:=FQ hk'
   obtain⟨e,he,rfl,_⟩:=hx.idx (k:=.i64) ha
   unfold f87_0
   refine aa.tv (RL.len (by assumption)) (aa.tv rfl (aa.ite (aQ hk') (fun _=>?_) nofun))
   refine aa.tvs he (aa.chk rfl (aa.tv rfl (aa.ite rfl (fun h=>?_) fun h=>?_)))
   ·have h:p.catches[k]=w:=by simpa[nth]using h
    exact Af (.inr ⟨k,Nat.le_refl _,by rw[ha,h]⟩)
   ·have h:¬p.catches[k]=w:=by simpa[nth]using h
    refine aa.tv (inc hk' hx.bnd) (f87_0_J ?_)
    rw[show tt (p.all=true\/∃i,k<=i/\p.catches[i]? = some w)=tt (p.all=true\/∃i,k+1<=i/\p.catches[i]? = some w) from aX ⟨by
     rintro(h'|⟨i,hi,h'⟩)
     ·exact .inl h'
     ·by_cases hik:i=k
      ·subst hik;rw[ha]at h';cases h';exact absurd rfl h
      ·exact .inr ⟨i,by omega,h'⟩,by
     rintro(h'|⟨i,hi,h'⟩)
     ·exact .inl h'
     ·exact .inr ⟨i,by omega,h'⟩⟩]
    exact ih (k+1) (by omega)
 refine aj.of (f87_MR _ _) ?_
 unfold f87_M
 refine aa.chk rfl (f87_0_J ?_)
 rw[show tt (p.all=true\/w∈p.catches)=tt (p.all=true\/∃i,0<=i/\p.catches[i]? = some w) from aX (by rw[List.mem_iff_getElem?];simp)]
 exact loop p.catches.length 0 (by omega)
theorem FA {q q':Option Bool} {e:List TV} {x:TV} {m:DMod} {n:Int} {args:List Int} (hm:RMod q e m) (hn:inI n) (hx:RWords q' x args) (hM:cF m):∃e',aj prog 65 [.agg e,I n,x] (.tup [.agg e',I (DQ (ij m n args))])/\RFrame (some true) e' ((ij m n args).getD fc):=by
 obtain⟨y,rfl,hy⟩:=hm
 have no:ij m n args=none->aj prog 65 [.agg [y],I n,x] (.tup [.agg [I 0,I 0,I 0,.lit bc,W 0],I 1])->∃e',aj prog 65 [.agg [y],I n,x] (.tup [.agg e',I (DQ (ij m n args))])/\RFrame (some true) e' ((ij m n args).getD fc):=by
  intro h hr
  rw[h]
  exact⟨_,hr,RNo⟩
 by_cases h0:0<=n
 rotate_left
 ·refine no (by simp[ij,h0]) ?_
  refine aj.of (f65_MR _ _ _) ?_
  unfold f65_M
  refine aa.chk rfl (aa.tv rfl (aa.ite rfl (fun _=>aa.chk rfl aa.ret) fun h=>?_))
  simp at h;omega
 by_cases h1:n<(m.funcs.length:Int)
 rotate_left
 ·refine no (by simp[ij,h0,xL h0 h1]) ?_
  refine aj.of (f65_MR _ _ _) ?_
  unfold f65_M
  refine aa.chk rfl (aa.tv rfl (aa.ite rfl (fun h=>?_) fun _=>?_))
  ·simp at h;omega
  refine aa.tv hy.len (aa.tv rfl (aa.ite rfl (fun _=>aa.chk rfl aa.ret) fun h=>?_))
  simp at h;omega
 have hlt:n.toNat<m.funcs.length:=by omega
 have hu:m.funcs[n.toNat]? = some m.funcs[n.toNat]:=FQ hlt
 obtain⟨e,he,hr⟩:=hy.kX (k:=.i64) h0 hu
 generalize m.funcs[n.toNat]=u at hu hr
 obtain⟨hr0,hr1⟩:=sM hM hu
 obtain⟨b,rfl,hb,_⟩:=hr
 have hT:ij m n args=if(args.length:Int)=u.params then some ⟨n,0,0,cR args u.regs.toNat,0⟩else none:=by simp[ij,h0,hu,cR]
 by_cases hP:(args.length:Int)=u.params
 rotate_left
 ·refine no (by rw[hT,if_neg hP]) ?_
  refine aj.of (f65_MR _ _ _) ?_
  unfold f65_M
  refine aa.chk rfl (aa.tv rfl (aa.ite rfl (fun h=>?_) fun _=>?_))
  ·simp at h;omega
  refine aa.tv hy.len (aa.tv rfl (aa.ite rfl (fun h=>?_) fun _=>?_))
  ·simp at h;omega
  refine aa.tv hx.len (aa.tvs he (aa.chk rfl (aa.tv rfl (aa.ite rfl (fun _=>aa.chk rfl aa.ret) fun h=>?_))))
  simp at h
  exact absurd h hP
 rw[hT,if_pos hP]
 obtain⟨K,hK⟩:∃K:Nat,u.regs=(K:Int):=⟨u.regs.toNat,by omega⟩
 rw[hK]at he hr1 ⊢
 simp only[Int.toNat_natCast]
 have loop:∀d k w,k+d=K->RWords (some true) w (cR args k)->∃w',aa prog 65 (f65_0 (I n) x (I (k:Int)) y (I n) (I 0) (I 0) (W 0) w) (.tup [.agg [I n,I 0,I 0,w',W 0],I 0])/\RWords (some true) w' (cR args K):=by
  intro d
  induction d with
  | zero =>
   intro k w hk hw
   have hk:k=K:=by omega
   subst hk
   refine⟨w,?_,hw⟩
   unfold f65_0
   exact aa.tvs he (aa.chk rfl (aa.tv rfl (aa.ite aM nofun fun _=>aa.chk (EC (RWords.isOwn hw)) aa.ret)))
  | succ d ih =>
   intro k w hk hw
   have hk':k<K:=by omega
   have hbd:(cR args k).length+1<=4294967296:=by rw[DP];omega
   by_cases hka:k<args.length
   ·have ha:args[k]? = some args[k]:=FQ hka
    obtain⟨ea,hea,hra⟩:=hx.idx (k:=.i64) ha
    obtain⟨w2,hw2,hr2⟩:=hw.app1 hra hbd
    rw[<-ET ha]at hr2
    obtain⟨w',hw',hr'⟩:=ih (k+1) w2 (by omega) hr2
    obtain⟨rfl,_⟩:=hra
    refine⟨w',?_,hr'⟩
    unfold f65_0
    refine aa.tvs he (aa.chk rfl (aa.tv rfl (aa.ite (aQ hk') (fun _=>?_) nofun)))
    refine aa.tv hx.len (aa.tv rfl (aa.ite (aQ hka) (fun _=>?_) nofun))
    exact aa.tvs hea (aa.chk rfl (aa.rws rfl (aa.tv hw2 (aa.tv (inc hk' (by omega)) (f65_0_J hw')))))
   ·obtain⟨w2,hw2,hr2⟩:=hw.app1 RW0 hbd
    rw[<-Ez (by omega)]at hr2
    obtain⟨w',hw',hr'⟩:=ih (k+1) w2 (by omega) hr2
    refine⟨w',?_,hr'⟩
    unfold f65_0
    refine aa.tvs he (aa.chk rfl (aa.tv rfl (aa.ite (aQ hk') (fun _=>?_) nofun)))
    refine aa.tv hx.len (aa.tv rfl (aa.ite rfl (fun h=>?_) fun _=>?_))
    ·simp at h;omega
    exact aa.rws rfl (aa.tv hw2 (aa.tv (inc hk' (by omega)) (f65_0_J hw')))
 obtain⟨w',hw',hr'⟩:=loop K 0 (.lit bc) (by omega) (by simp[cR];exact .nil)
 refine⟨_,?_,⟨w',rfl,hr',hn,in0,in0,wz⟩⟩
 refine aj.of (f65_MR _ _ _) ?_
 unfold f65_M
 refine aa.chk rfl (aa.tv rfl (aa.ite rfl (fun h=>?_) fun _=>?_))
 ·simp at h;omega
 refine aa.tv hy.len (aa.tv rfl (aa.ite rfl (fun h=>?_) fun _=>?_))
 ·simp at h;omega
 refine aa.tv hx.len (aa.tvs he (aa.chk rfl (aa.tv rfl (aa.ite rfl (fun h=>?_) fun _=>?_))))
 ·simp at h
  exact absurd hP h
 exact aa.chk rfl (aa.chk rfl (f65_0_J hw'))
end Go.Ab.C14
end
section
set_option maxRecDepth 10000
namespace Go.Ab
theorem RL.Fm {α:Type} {s:Nat} {R:List TV->α->Prop} {y:TV} {l m:List α} {rows:List (List TV)} (hy:RL (some true) s R y l) (hr:F2 R rows m) (hl:l.length+m.length<=4294967296):∃y',papp s y rows=some y'/\RL (some true) s R y' (l++m):=by
 have hlen:=hr.length
 rcases hy with⟨rfl,rfl⟩|⟨o,xs,rfl,hq,h,hb⟩
 ·simp only[List.length_nil,Nat.zero_add]at hl
  have hp:papp s (.lit bc) rows=some (Bc s rows):=by
   simp only[papp,bc]
   rw[if_pos (show rows.length<=room by simp only[room];omega)]
  refine⟨_,hp,?_⟩
  cases hr with
  | nil=>exact .nil
  | cons h1 h2=>exact .sl (by simp) (.cons h1 h2) (by simp only[List.length_cons]at hlen ⊢;simp only[List.length_cons]at hl;omega)
 ·have hlen2:=h.length
  rw[hq true rfl]
  refine⟨.sl true s (xs++rows),?_,.sl (by simp) (h.append hr) (by simp;omega)⟩
  simp[papp,room];omega
structure DMach where
 stack:List DFrame
 cells:List Int
 inputs:List Int
 events:List Int
 done:Int
 value:Int
def DMach.c (s:DMach) (k:Nat):Int:=s.cells.getD k 0
def DMach.ok (s:DMach):Prop:=s.cells.length=16/\(∀k,inW (s.c k))/\inI s.done/\inW s.value
def ar (s:DMach) (g i v:TV):List TV:=[g,W (s.c 0),W (s.c 1),W (s.c 2),W (s.c 3),W (s.c 4),W (s.c 5),W (s.c 6),W (s.c 7),W (s.c 8),W (s.c 9),W (s.c 10),W (s.c 11),W (s.c 12),W (s.c 13),W (s.c 14),W (s.c 15),i,v,I s.done,W s.value]
def RMach (e:List TV) (s:DMach):Prop:=∃g i v,e=ar s g i v/\RL none 5 (RFrame none) g s.stack/\RWords none i s.inputs/\RInts none v s.events/\s.ok
def Dl:List Value:=[.slice none 0 0,.int .u16 0,.int .u16 0,.int .u16 0,.int .u16 0,.int .u16 0,.int .u16 0,.int .u16 0,.int .u16 0,.int .u16 0,.int .u16 0,.int .u16 0,.int .u16 0,.int .u16 0,.int .u16 0,.int .u16 0,.int .u16 0,.slice none 0 0,.slice none 0 0,.int .i64 0,.int .u16 0]
theorem bD {s:DMach} {g i v:TV} (h1:g.isSl=true) (h2:i.isSl=true) (h3:v.isSl=true):(Bool.and ((TV.agg (ar s g i v)).isAgg 21) (ab Dl ((TV.agg (ar s g i v)).cellsL true) 0))=true:=by
 simp[ab,TV.isAgg,TV.cellsL,Dl,ar,aF,h1,h2,h3,TV.isSc,scV]
theorem dec {n:Nat} (h:0<n) (hn:n<=9223372036854775807):pbin (.int .i64) .sub (I (n:Int)) (I (1:Int))=some (I ((n-1:Nat):Int)):=by
 have h1:IntKind.i64.wrap ((n:Int)-1)=((n-1:Nat):Int):=by rw[IntKind.wrap_i64];omega
 show some (TV.lit (.int .i64 (IntKind.i64.wrap ((n:Int)-1))))=_
 rw[h1]
theorem iY {n:Nat} (h:n<=9223372036854775807):aJ (I (n:Int))=some n:=by
 have:=jY (n:=(n:Int)) (by omega) ⟨by omega,by omega⟩
 simpa using this
def bJ (s:DMach) (f:DFrame):DMach:={ s with stack:=s.stack.take (s.stack.length-1) ++ [f] }
def d7 (s:DMach) (how w:Int):DMach:={ s with done:=how,value:=w }
def bY (regs places:List Int):List Int:=places.map fun p=>regs.getD p.toNat 0
def jT (s:DMach):Option DFrame:=s.stack[s.stack.length-1]?
def bQ (m:DMod) (s:DMach) (n:Int) (places:List Int):DMach :=
 if 32<=s.stack.length then d7 s 5 0 else
 match jT s with
 | none=>s
 | some f=>{ s with stack:=s.stack ++ [(ij m n (bY f.regs places)).getD fc] }
end Go.Ab
namespace Go.Ab.C14
open Go Go.Ab Go.Proofs
theorem vG {q q':Option Bool} {e e':List TV} {m:DMod} {f:DFrame} {u:DFunc} {b:DBlock} (hm:RMod q e m) (hf:RFrame q' e' f) (h0:0<=f.f) (hu:m.funcs[f.f.toNat]? = some u) (hb0:0<=f.block) (hb:u.blocks[f.block.toNat]? = some b) :
  ∃eb,aj prog 66 [.agg e,.agg e'] (.tup [.agg eb,B (tt (f.at_=b.ins.length))])/\RBlock q eb b:=by
 obtain⟨y,rfl,hy⟩:=hm
 obtain⟨g,rfl,hg,ho⟩:=hf
 obtain⟨e,he,hr⟩:=hy.kX (k:=.i64) h0 hu
 obtain⟨bs,rfl,hbs,_⟩:=hr
 obtain⟨eb,heb,hrb⟩:=hbs.kX (k:=.i64) hb0 hb
 have hrb':=hrb
 obtain⟨c,is,ga,rfl,hc,hdi,his,hga,_⟩:=hrb
 refine⟨_,?_,hrb'⟩
 refine aj.of (f66_MR _ _) ?_
 unfold f66_M
 refine aa.chk rfl (aa.chk rfl (aa.tvs he (aa.chk rfl (aa.tvs heb (aa.chk rfl (aa.tv (RL.len his) (aa.tv rfl ?_)))))))
 rw[<-FI (p:=f.at_=b.ins.length) (b:=decide (f.at_=(b.ins.length:Int))) (by simp)]
 exact aa.ret
theorem tz {q':Option Bool} {e e':List TV} {s:DMach} {f:DFrame} (hs:RMach e s) (hf:RFrame q' e' f) (h0:0<s.stack.length) (hl:s.stack.length<=4294967296) :
  ∃e2,aj prog 71 [.agg e,.agg e'] (.agg e2)/\RMach e2 (bJ s f):=by
 obtain⟨g,i,v,rfl,hg,hi,hv,ho⟩:=hs
 have hf':RFrame none e' f:=hf.weak
 obtain⟨r,rfl,_,_⟩:=hf
 obtain⟨y,hy,hry⟩:=hg.slice (t:=97) (lo:=none) (hi:=some (s.stack.length-1)) (by simp) (by simp)
 obtain⟨rs,hrs,hF⟩:=hry.elems
 have hF:F2 (RFrame none) rs (s.stack.take (s.stack.length-1)):=by simpa using hF
 have hnil:RL (some true) 5 (RFrame none) (.sl true 5 []) ([]:List DFrame):=.sl (by simp) .nil (by simp)
 obtain⟨z,hz,hrz⟩:=hnil.Fm hF (by simp;omega)
 obtain⟨z',hz',hrz'⟩:=hrz.app1 hf' (by simp;omega)
 refine⟨ar (bJ s f) z' i v,?_,⟨z',i,v,rfl,?_,hi,hv,ho⟩⟩
 rotate_left
 ·exact(by simpa[bJ]using hrz':RL (some true) 5 (RFrame none) z' (bJ s f).stack).weak fun _ _ h=>h
 refine aj.of (f71_MR _ _) ?_
 unfold f71_M
 refine aa.chk rfl (aa.chk rfl (aa.tv (RL.len hg) (aa.tv (dec h0 (by omega)) (aa.nat (iY (by omega)) (aa.tv hy (aa.rws hrs (aa.tv hz (aa.rws rfl (aa.tv hz' ?_)))))))))
 exact aa.ret
theorem pq {e:List TV} {s:DMach} {how w:Int} (hs:RMach e s) (hh:inI how) (hw:inW w):∃e2,aj prog 80 [.agg e,I how,W w] (.agg e2)/\RMach e2 (d7 s how w):=by
 obtain⟨g,i,v,rfl,hg,hi,hv,ho⟩:=hs
 refine⟨ar (d7 s how w) g i v,?_,⟨g,i,v,rfl,hg,hi,hv,ho.1,ho.2.1,hh,hw⟩⟩
 refine aj.of (f80_MR _ _ _) ?_
 unfold f80_M
 exact aa.chk rfl (aa.chk rfl (aa.chk rfl aa.ret))
end Go.Ab.C14
end
section
set_option maxRecDepth 10000
namespace Go.Ab
theorem wE {regs places:List Int} {k:Nat} {p:Int} (h:places[k]? = some p):bY regs (places.take (k+1))=bY regs (places.take k) ++ [regs.getD p.toNat 0]:=by
 unfold bY
 rw[List.take_add_one,h]
 simp
theorem qI {regs places:List Int}:(bY regs places).length=places.length:=by simp[bY]
theorem nz {l:List Int} {n:Nat} {a:Int} (h:l[n]? = some a):l.getD n 0=a:=by simp[List.getD,h]
end Go.Ab
namespace Go.Ab.C14
open Go Go.Ab Go.Proofs
theorem AB {q q':Option Bool} {e e':List TV} {x:TV} {m:DMod} {s:DMach} {n:Int} {places:List Int} {f:DFrame} (hm:RMod q e m) (hM:cF m) (hs:RMach e' s) (hn:inI n) (hx:RInts q' x places) (ht:jT s=some f)
  (hp:∀(k:Nat) (p:Int),places[k]? = some p->within p f.regs.length) (hl:places.length<=4294967295) :
  ∃e2,aj prog 69 [.agg e,.agg e',I n,x] (.agg e2)/\RMach e2 (bQ m s n places):=by
 have hs':=hs
 obtain⟨g,i,v,rfl,hg,hi,hv,ho⟩:=hs
 by_cases h32:32<=s.stack.length
 ·obtain⟨e2,hr2,h2⟩:=pq (how:=5) (w:=0) hs' ⟨by decide,by decide⟩ wz
  have hT:bQ m s n places=d7 s 5 0:=by simp[bQ,h32]
  rw[hT]
  obtain⟨g2,i2,v2,rfl,hg2,hi2,hv2,ho2⟩:=id h2
  refine⟨_,?_,h2⟩
  obtain⟨y,rfl,hy⟩:=hm
  refine aj.of (f69_MR _ _ _ _) ?_
  unfold f69_M
  refine aa.chk rfl (aa.chk rfl (aa.tv (RL.len hg) (aa.tv rfl (aa.ite rfl (fun _=>?_) fun h=>?_))))
  ·exact aa.call hr2 (aa.chk (bD hg2.isSl hi2.isSl hv2.isSl) aa.ret)
  ·simp at h;omega
 have hT:bQ m s n places={ s with stack:=s.stack ++ [(ij m n (bY f.regs places)).getD fc] }:=by simp[bQ,h32,ht]
 rw[hT]
 obtain⟨ef,hef,hrf⟩:=hg.idx (k:=.i64) ht
 have h0:0<s.stack.length:=by
  have:=(FP.1 ht).1
  omega
 obtain⟨gr,rfl,hgr,hof⟩:=hrf
 have hm':=hm
 obtain⟨y,rfl,hy⟩:=hm
 have loop:∀d k w,k+d=places.length->RWords (some true) w (bY f.regs (places.take k))->∃w',RWords (some true) w' (bY f.regs places)/\∀r,aa prog 69 (f69_1 (I n) y g (W (s.c 0)) (W (s.c 1)) (W (s.c 2)) (W (s.c 3)) (W (s.c 4)) (W (s.c 5)) (W (s.c 6)) (W (s.c 7)) (W (s.c 8)) (W (s.c 9)) (W (s.c 10)) (W (s.c 11)) (W (s.c 12)) (W (s.c 13)) (W (s.c 14)) (W (s.c 15)) i v (I s.done) (W s.value) w') r->aa prog 69 (f69_0 (I n) x (I k) y g (W (s.c 0)) (W (s.c 1)) (W (s.c 2)) (W (s.c 3)) (W (s.c 4)) (W (s.c 5)) (W (s.c 6)) (W (s.c 7)) (W (s.c 8)) (W (s.c 9)) (W (s.c 10)) (W (s.c 11)) (W (s.c 12)) (W (s.c 13)) (W (s.c 14)) (W (s.c 15)) i v (I s.done) (W s.value) (I f.f) (I f.block) (I f.at_) gr (W f.fly) w) r:=by
  intro d
  induction d with
  | zero =>
   intro k w hk hw
   have hk:k=places.length:=by omega
   subst hk
   rw[List.take_length]at hw
   refine⟨w,hw,fun r hr=>?_⟩
   unfold f69_0
   refine aa.tv (RL.len (by assumption)) (aa.tv rfl (aa.ite aM nofun fun _=>?_))
   exact f69_1_J hr
  | succ d ih =>
   intro k w hk hw
   have hlt:k<places.length:=by omega
   have hpk:places[k]? = some places[k]:=FQ hlt
   obtain⟨e1,he1,rfl,_⟩:=hx.idx (k:=.i64) hpk
   have hwi:=hp k _ hpk
   obtain⟨a,ha,hal⟩:=gj hwi
   obtain⟨hia,haw⟩:=RWords.at_ hgr (k:=.i64) hwi.1 ha
   obtain⟨w2,hw2,hr2⟩:=hw.app1 (e:=[W a]) (a:=a) ⟨rfl,haw⟩ (by rw[qI];simp;omega)
   have hr2:RWords (some true) w2 (bY f.regs (places.take (k+1))):=by
    rw[wE hpk,nz ha]
    exact hr2
   obtain⟨w',hw',hgo⟩:=ih (k+1) w2 (by omega) hr2
   refine⟨w',hw',fun r hr=>?_⟩
   unfold f69_0
   refine aa.tv (RL.len (by assumption)) (aa.tv rfl (aa.ite (aQ hlt) (fun _=>?_) nofun))
   exact aa.tvs he1 (aa.chk rfl (aa.tvs hia (aa.chk rfl (aa.rws rfl (aa.tv hw2 (aa.tv (inc hlt hx.bnd) (f69_0_J (hgo r hr))))))))
 obtain⟨w',hw',hgo⟩:=loop places.length 0 (.lit bc) (by omega) (by simpa[bY]using RL.nil)
 obtain⟨en,hrn,hfn⟩:=FA hm' hn (hw'.frz (S:=RW1) fun _ _ h=>h.frz) hM
 have hfz:=hfn.frz.weak
 generalize (ij m n (bY f.regs places)).getD fc=f2 at hfn hfz hrn
 obtain⟨yn,rfl,hyn,_⟩:=hfn
 obtain⟨rs,hrs,hF⟩:=hg.elems
 have hnil:RL (some true) 5 (RFrame none) (.sl true 5 []) ([]:List DFrame):=.sl (by simp) .nil (by simp)
 obtain⟨z,hz,hrz⟩:=hnil.Fm hF (by simp;omega)
 obtain⟨z',hz',hrz'⟩:=hrz.app1 hfz (by simp;omega)
 refine⟨ar { s with stack:=s.stack ++ [f2] } z' i v,?_,⟨z',i,v,rfl,?_,hi,hv,ho⟩⟩
 rotate_left
 ·exact(by simpa using hrz':RL (some true) 5 (RFrame none) z' (s.stack ++ [f2])).weak fun _ _ h=>h
 refine aj.of (f69_MR _ _ _ _) ?_
 unfold f69_M
 refine aa.chk rfl (aa.chk rfl (aa.tv (RL.len hg) (aa.tv rfl (aa.ite rfl (fun h=>?_) fun _=>?_))))
 ·simp at h;omega
 refine aa.tv (RL.len hg) (aa.tv (dec h0 (by omega)) (aa.tvs hef (aa.chk rfl (aa.chk rfl (f69_0_J (hgo _ ?_))))))
 unfold f69_1
 refine aa.call hrn (aa.chk rfl (aa.chk (dl hyn.isSl) (aa.chk rfl (f69_2_J ?_))))
 unfold f69_2
 exact aa.rws hrs (aa.tv hz (aa.rws rfl (aa.tv hz' aa.ret)))
end Go.Ab.C14
end
section
set_option maxRecDepth 10000
namespace Go.Ab
def zBlk:List Value:=[.bool false,.int .i64 0,.slice none 0 0,.bool false,.bool false,.slice none 0 0,.int .i64 0,.int .i64 0,.int .i64 0,.int .i64 0,.slice none 0 0,.int .i64 0,.int .i64 0,.int .i64 0]
theorem o9 {q:Option Bool} {e:List TV} {b:DBlock} (h:RBlock q e b):(Bool.and ((TV.agg e).isAgg 14) (ab zBlk ((TV.agg e).cellsL true) 0))=true:=by
 obtain⟨c,is,ga,rfl,hc,hdi,his,hga,_⟩:=h
 simp[ab,TV.isAgg,TV.cellsL,zBlk,aF,hc.isSl,his.isSl,hga.isSl,TV.isSc,scV]
def iN (m:DMod) (f:DFrame) (w:Int) (cl:Bool):Prop :=
 ∃u b p,m.funcs[f.f.toNat]? = some u/\u.blocks[f.block.toNat]? = some b/\f.at_=b.ins.length/\b.fin.kind=4/\u.blocks[b.fin.pad.toNat]? = some p/\((p.pad.all=true\/w∈p.pad.catches)\/cl=true/\p.pad.cleanup=true)
theorem iN.more {m:DMod} {f:DFrame} {w:Int} (h:iN m f w false):iN m f w true:=by
 obtain⟨u,b,p,h1,h2,h3,h4,h5,h6⟩:=h
 refine⟨u,b,p,h1,h2,h3,h4,h5,.inl ?_⟩
 rcases h6 with h|⟨h,_⟩
 ·exact h
 ·cases h
open Classical in
noncomputable def d8 (P:Nat->Prop):Nat->Option Nat
 | 0=>none
 | n+1=>if P n then some n else d8 P n
theorem pQ {P:Nat->Prop} {k:Nat} (h:P k):∀{n:Nat},k<n->(∀j,k<j->j<n->¬P j)->d8 P n=some k
 | 0,hk,_=>absurd hk (Nat.not_lt_zero _)
 | n + 1, hk, hn => by
  by_cases he:k=n
  ·subst he
   simp[d8,h]
  ·simp only[d8]
   rw[if_neg (hn n (by omega) (by omega))]
   exact pQ h (by omega) fun j h1 h2=>hn j h1 (by omega)
def qj (m:DMod) (f:DFrame):Int:=((((m.funcs[f.f.toNat]?).bind fun u=>u.blocks[f.block.toNat]?).map fun b=>b.fin.pad).getD 0)
def aV (m:DMod) (l:List DFrame) (w:Int) (cl:Bool) (i:Nat):Prop:=∃f,l[i]? = some f/\iN m f w cl
open Classical in
noncomputable def bI (m:DMod) (s:DMach) (w:Int):DMach :=
 if ∃i,aV m (s.stack.take (s.stack.length-1)) w false i then
  match d8 (aV m (s.stack.take (s.stack.length-1)) w true) (s.stack.length-1)with
  | none=>s
  | some k=>match s.stack[k]? with
   | none=>s
   | some f=>bJ { s with stack:=s.stack.take (k+1) } ((im m f (qj m f) w).getD f)
 else d7 { s with stack:=s.stack.take (s.stack.length-1) } 2 w
end Go.Ab
namespace Go.Ab.C14
open Go Go.Ab Go.Proofs
theorem j6 {m:DMod} {g:DFunc} {b:DBlock} {n k:Nat} (h:cF m) (hg:m.funcs[n]? = some g) (hb:g.blocks[k]? = some b):i7 m.funcs g.regs g.blocks b :=
 (lK h hg).2.2.2 k (FP.1 hb).1 b hb
theorem nJ {m:DMod} {g:DFunc} {b:DBlock} {n k:Nat} (h:cF m) (hg:m.funcs[n]? = some g) (hb:g.blocks[k]? = some b) (h4:b.fin.kind=4):dk g.blocks b.fin.pad true:=by
 have:=(j6 h hg hb).2.2.2.2.2.2.2.2.2.1
 rw[h4]at this
 exact this rfl
theorem pm {m:DMod} {f:DFrame} (h:cF m) (hQ:ca m f):f.regs.length<=256:=by
 obtain⟨h0,u,hu,hL,_⟩:=hQ
 have:=sM h hu
 omega
theorem rX {q q':Option Bool} {e e':List TV} {m:DMod} {f:DFrame} {w:Int} {cl:Bool} (hm:RMod q e m) (hM:cF m) (hf:RFrame q' e' f) (hQ:ca m f) :
  aj prog 82 [.agg e,.agg e',W w,B cl] (B (tt (iN m f w cl))):=by
 obtain⟨h0,u,hu,hL,hb0,b,hb,ha0,ha1⟩:=hQ
 obtain⟨eb,hrs,hrb⟩:=vG hm hf h0 hu hb0 hb
 have hfit:=o9 hrb
 obtain⟨y,rfl,hy⟩:=hm
 obtain⟨g,rfl,hg,ho⟩:=hf
 obtain⟨c,is,ga,rfl,hc,hdi,his,hga,_⟩:=hrb
 refine aj.of (f82_MR _ _ _ _) ?_
 unfold f82_M
 by_cases hat:f.at_=(b.ins.length:Int)
 rotate_left
 ·rw[ck hat]at hrs
  refine aa.chk rfl (aa.chk rfl (aa.call hrs (aa.chk rfl (aa.chk hfit (aa.chk rfl (aa.tv rfl (aa.ite rfl (fun _=>?_) nofun)))))))
  refine aB ?_
  rintro⟨u',b',p,hu',hb',h,_⟩
  rw[hu]at hu'
  cases hu'
  rw[hb]at hb'
  cases hb'
  exact hat h
 rw[bp hat]at hrs
 refine aa.chk rfl (aa.chk rfl (aa.call hrs (aa.chk rfl (aa.chk hfit (aa.chk rfl (aa.tv rfl (aa.ite rfl nofun fun _=>?_)))))))
 refine aa.tv rfl (aa.ite rfl (fun h=>?_) fun h=>?_)
 ·have h:¬b.fin.kind=4:=by simpa[TV.cell,TV.comp,nth]using h
  refine aB ?_
  rintro⟨u',b',p,hu',hb',_,h',_⟩
  rw[hu]at hu'
  cases hu'
  rw[hb]at hb'
  cases hb'
  exact h h'
 have h4:b.fin.kind=4:=by simpa[TV.cell,TV.comp,nth]using h
 obtain⟨hp0,p,hp,_⟩:=nJ hM hu hb h4
 obtain⟨eu,heu,hru⟩:=hy.kX (k:=.i64) h0 hu
 obtain⟨bs,rfl,hbs,_⟩:=hru
 obtain⟨ep,hep,hrp⟩:=hbs.kX (k:=.i64) hp0 hp
 obtain⟨c2,is2,ga2,rfl,hc2,hdi2,_⟩:=hrp
 have hcat:=BA (w:=w) (q:=q) (e:=[I p.pad.dst,c2,B p.pad.all,B p.pad.cleanup]) (p:=p.pad) ⟨_,rfl,hc2,hdi2⟩
 refine aa.tvs heu (aa.chk rfl (aa.tvs hep (aa.chk rfl (aa.call hcat (aa.chk rfl ?_)))))
 have hiff:iN m f w cl ↔ ((p.pad.all=true\/w∈p.pad.catches)\/cl=true/\p.pad.cleanup=true):=by
  constructor
  ·rintro⟨u',b',p',hu',hb',_,_,hp',h⟩
   rw[hu]at hu'
   cases hu'
   rw[hb]at hb'
   cases hb'
   rw[hp]at hp'
   cases hp'
   exact h
  ·exact fun h=>⟨u,b,p,hu,hb,hat,h4,hp,h⟩
 rw[aX hiff]
 by_cases hc:p.pad.all=true\/w∈p.pad.catches
 ·rw[bp hc]
  refine aa.ite rfl (fun _=>?_) nofun
  exact Af (.inl hc)
 rw[ck hc]
 refine aa.ite rfl nofun fun _=>?_
 cases cl with
 | true =>
  refine aa.ite rfl (fun _=>?_) nofun
  apply aH
  simp[hc]
 | false =>
  refine aa.ite rfl nofun fun _=>?_
  exact aB fun h=>by
   rcases h with h|⟨h,_⟩
   ·exact hc h
   ·cases h
theorem Aa {q:Option Bool} {e e':List TV} {m:DMod} {s:DMach} {w:Int} (hm:RMod q e m) (hM:cF m) (hs:RMach e' s) (hw:inW w) (h0:0<s.stack.length) (hl:s.stack.length<=4294967296) (hQ:∀(k:Nat) f,s.stack[k]? = some f->ca m f) :
  ∃e2,aj prog 70 [.agg e,.agg e',W w] (.agg e2)/\RMach e2 (bI m s w):=by
 obtain⟨g,i,v,rfl,hg,hi,hv,ho⟩:=hs
 obtain⟨st,hst,hrst⟩:=hg.slice (t:=97) (lo:=none) (hi:=some (s.stack.length-1)) (by simp) (by simp)
 have hrst:RL none 5 (RFrame none) st (s.stack.take (s.stack.length-1)):=by simpa using hrst
 have hm':=hm
 obtain⟨y,rfl,hy⟩:=hm
 generalize hTe:s.stack.take (s.stack.length-1)=t at hrst
 have htl:t.length=s.stack.length-1:=by rw[<-hTe];simp
 have hQt:∀(k:Nat) f,t[k]? = some f->ca m f:=by
  intro k f hk
  rw[<-hTe,List.getElem?_take]at hk
  split at hk
  ·exact hQ k f hk
  ·cases hk
 have s1:∀{r:TV},aa prog 70 (f70_0 (W w) (I (0:Nat)) y st (W (s.c 0)) (W (s.c 1)) (W (s.c 2)) (W (s.c 3)) (W (s.c 4)) (W (s.c 5)) (W (s.c 6)) (W (s.c 7)) (W (s.c 8)) (W (s.c 9)) (W (s.c 10)) (W (s.c 11)) (W (s.c 12)) (W (s.c 13)) (W (s.c 14)) (W (s.c 15)) i v (I s.done) (W s.value)) r->aj prog 70 [.agg [y],.agg (ar s g i v),W w] r:=by
  intro r hr
  refine aj.of (f70_MR _ _ _) ?_
  unfold f70_M
  exact aa.chk rfl (aa.chk rfl (aa.tv (RL.len hg) (aa.tv (dec h0 (by omega)) (aa.nat (iY (by omega)) (aa.tv hst (f70_0_J hr))))))
 have outer:∀{r:TV},((∀j,¬aV m t w false j)->aa prog 70 (f70_2 (W w) st (W (s.c 0)) (W (s.c 1)) (W (s.c 2)) (W (s.c 3)) (W (s.c 4)) (W (s.c 5)) (W (s.c 6)) (W (s.c 7)) (W (s.c 8)) (W (s.c 9)) (W (s.c 10)) (W (s.c 11)) (W (s.c 12)) (W (s.c 13)) (W (s.c 14)) (W (s.c 15)) i v (I s.done) (W s.value)) r) ->
   ((∃j,aV m t w false j)->aa prog 70 (f70_1 (W w) (I ((t.length-1:Nat):Int)) y st (W (s.c 0)) (W (s.c 1)) (W (s.c 2)) (W (s.c 3)) (W (s.c 4)) (W (s.c 5)) (W (s.c 6)) (W (s.c 7)) (W (s.c 8)) (W (s.c 9)) (W (s.c 10)) (W (s.c 11)) (W (s.c 12)) (W (s.c 13)) (W (s.c 14)) (W (s.c 15)) i v (I s.done) (W s.value)) r) ->
   ∀d k,k+d=t.length->(∀j,j<k->¬aV m t w false j)->aa prog 70 (f70_0 (W w) (I (k:Int)) y st (W (s.c 0)) (W (s.c 1)) (W (s.c 2)) (W (s.c 3)) (W (s.c 4)) (W (s.c 5)) (W (s.c 6)) (W (s.c 7)) (W (s.c 8)) (W (s.c 9)) (W (s.c 10)) (W (s.c 11)) (W (s.c 12)) (W (s.c 13)) (W (s.c 14)) (W (s.c 15)) i v (I s.done) (W s.value)) r:=by
  intro r hno hyes d
  induction d with
  | zero =>
   intro k hk hn
   have hk:k=t.length:=by omega
   subst hk
   unfold f70_0
   refine aa.tv (RL.len (by assumption)) (aa.tv rfl (aa.ite aM nofun fun _=>?_))
   refine f70_2_J (hno fun j hj=>?_)
   by_cases hlt:j<t.length
   ·exact hn j hlt hj
   ·obtain⟨f,hf,_⟩:=hj
    exact hlt (FP.1 hf).1
  | succ d ih =>
   intro k hk hn
   have hlt:k<t.length:=by omega
   have hkf:t[k]? = some t[k]:=FQ hlt
   obtain⟨ef,hef,hrf⟩:=hrst.idx (k:=.i64) hkf
   have hcat:=rX (w:=w) (cl:=false) hm' hM hrf (hQt k _ hkf)
   obtain⟨gr,rfl,hgr,hof⟩:=hrf
   unfold f70_0
   refine aa.tv (RL.len (by assumption)) (aa.tv rfl (aa.ite (aQ hlt) (fun _=>?_) nofun))
   refine aa.tvs hef (aa.chk rfl (aa.call hcat (aa.chk rfl ?_)))
   by_cases hc:iN m t[k] w false
   ·rw[bp hc]
    refine aa.ite rfl (fun _=>?_) nofun
    exact aa.tv (RL.len hrst) (aa.tv (dec (by omega) (by omega)) (f70_1_J (hyes ⟨k,_,hkf,hc⟩)))
   ·rw[ck hc]
    refine aa.ite rfl nofun fun _=>?_
    refine aa.tv (inc hlt hrst.bnd) (f70_0_J (ih (k+1) (by omega) fun j hj=>?_))
    by_cases hjk:j<k
    ·exact hn j hjk
    ·have:j=k:=by omega
     subst this
     rintro⟨f,hf,h⟩
     rw[hkf]at hf
     cases hf
     exact hc h
 have inner:∀{r:TV},(∀k,k<t.length->aV m t w true k->(∀j,k<j->j<t.length->¬aV m t w true j)->aa prog 70 (f70_3 (W w) (I (k:Int)) y st (W (s.c 0)) (W (s.c 1)) (W (s.c 2)) (W (s.c 3)) (W (s.c 4)) (W (s.c 5)) (W (s.c 6)) (W (s.c 7)) (W (s.c 8)) (W (s.c 9)) (W (s.c 10)) (W (s.c 11)) (W (s.c 12)) (W (s.c 13)) (W (s.c 14)) (W (s.c 15)) i v (I s.done) (W s.value)) r) ->
   ∀k,k<t.length->(∃j,j<=k/\aV m t w true j)->(∀j,k<j->j<t.length->¬aV m t w true j)->aa prog 70 (f70_1 (W w) (I (k:Int)) y st (W (s.c 0)) (W (s.c 1)) (W (s.c 2)) (W (s.c 3)) (W (s.c 4)) (W (s.c 5)) (W (s.c 6)) (W (s.c 7)) (W (s.c 8)) (W (s.c 9)) (W (s.c 10)) (W (s.c 11)) (W (s.c 12)) (W (s.c 13)) (W (s.c 14)) (W (s.c 15)) i v (I s.done) (W s.value)) r:=by
  intro r hyes k
  induction k with
  | zero =>
   intro hlt hex hn
   obtain⟨j,hj,hc⟩:=hex
   have hj:j=0:=by omega
   subst hj
   have hc':=hc
   obtain⟨f,hkf,hc⟩:=hc
   obtain⟨ef,hef,hrf⟩:=hrst.idx (k:=.i64) hkf
   have hcat:=rX (w:=w) (cl:=true) hm' hM hrf (hQt _ _ hkf)
   obtain⟨gr,rfl,hgr,hof⟩:=hrf
   rw[bp hc]at hcat
   unfold f70_1
   refine aa.tvs hef (aa.chk rfl (aa.call hcat (aa.chk rfl (aa.tv rfl (aa.ite rfl nofun fun _=>?_)))))
   exact f70_3_J (hyes 0 hlt hc' hn)
  | succ k ih =>
   intro hlt hex hn
   have hkf:t[k+1]? = some t[k+1]:=FQ hlt
   obtain⟨ef,hef,hrf⟩:=hrst.idx (k:=.i64) hkf
   have hcat:=rX (w:=w) (cl:=true) hm' hM hrf (hQt _ _ hkf)
   obtain⟨gr,rfl,hgr,hof⟩:=hrf
   unfold f70_1
   refine aa.tvs hef (aa.chk rfl (aa.call hcat (aa.chk rfl ?_)))
   by_cases hc:iN m t[k+1] w true
   ·rw[bp hc]
    refine aa.tv rfl (aa.ite rfl nofun fun _=>?_)
    exact f70_3_J (hyes (k+1) hlt ⟨_,hkf,hc⟩ hn)
   ·rw[ck hc]
    refine aa.tv rfl (aa.ite rfl (fun _=>?_) nofun)
    have hno:¬aV m t w true (k+1):=by
     rintro⟨f,hf,h⟩
     rw[hkf]at hf
     cases hf
     exact hc h
    refine aa.tv (dec (by omega) (by have:=hrst.bnd;omega)) (f70_1_J (ih (by omega) ?_ ?_))
    ·obtain⟨j,hj,h⟩:=hex
     refine⟨j,?_,h⟩
     by_cases hjk:j=k+1
     ·subst hjk;exact absurd h hno
     ·omega
    ·intro j h1 h2
     by_cases hjk:j=k+1
     ·subst hjk;exact hno
     ·exact hn j (by omega) h2
 by_cases hC:∃j,aV m t w false j
 rotate_left
 ·have hT:bI m s w=d7 { s with stack:=t } 2 w:=by
   unfold bI
   rw[if_neg (by rw[hTe];exact hC),hTe]
  rw[hT]
  obtain⟨e2,hr2,h2⟩:=pq (e:=ar { s with stack:=t } st i v) (s:={ s with stack:=t }) (how:=2) (w:=w) ⟨st,i,v,rfl,hrst,hi,hv,ho⟩ ⟨by decide,by decide⟩ hw
  refine⟨e2,s1 (outer (fun _=>?_) (fun h=>absurd h hC) t.length 0 (by omega) fun j hj=>by omega),h2⟩
  obtain⟨g2,i2,v2,rfl,hg2,hi2,hv2,ho2⟩:=h2
  unfold f70_2
  exact aa.call hr2 (aa.chk (bD hg2.isSl hi2.isSl hv2.isSl) aa.ret)
 obtain⟨j0,hj0⟩:=hC
 have hj1:j0<t.length:=by
  obtain⟨f,hf,_⟩:=hj0
  exact(FP.1 hf).1
 have hup:aV m t w true j0:=by
  obtain⟨f,hf,h⟩:=hj0
  exact⟨f,hf,h.more⟩
 have hbig : ∃ k, k < t.length ∧ aV m t w true k ∧ ∀ j, k < j → j < t.length → ¬ aV m t w true j := by
  have key:∀n,n<=t.length->(∃j,j<n/\aV m t w true j)->∃k,k<n/\aV m t w true k/\∀j,k<j->j<n->¬aV m t w true j:=by
   intro n
   induction n with
   | zero=>intro _ ⟨j,hj,_⟩;omega
   | succ n ih =>
    intro hn ⟨j,hj,hjc⟩
    by_cases hc:aV m t w true n
    ·exact⟨n,by omega,hc,fun j h1 h2=>by omega⟩
    ·have hjn:j<n:=by
      by_cases h:j=n
      ·subst h;exact absurd hjc hc
      ·omega
     obtain⟨k,hk,hkc,hkn⟩:=ih (by omega) ⟨j,hjn,hjc⟩
     refine⟨k,by omega,hkc,fun j h1 h2=>?_⟩
     by_cases h:j=n
     ·subst h;exact hc
     ·exact hkn j h1 (by omega)
  exact key t.length (Nat.le_refl _) ⟨j0,hj1,hup⟩
 obtain⟨k,hk,hkc,hkn⟩:=hbig
 have hlast:d8 (aV m t w true) (s.stack.length-1)=some k:=by
  rw[<-htl]
  exact pQ hkc hk hkn
 obtain⟨f,hkf,hcf⟩:=id hkc
 have hsk:s.stack[k]? = some f:=by
  rw[<-hTe,List.getElem?_take]at hkf
  split at hkf
  ·exact hkf
  ·cases hkf
 have hT:bI m s w=bJ { s with stack:=s.stack.take (k+1) } ((im m f (qj m f) w).getD f):=by
  unfold bI
  rw[if_pos ⟨j0,by rw[hTe];exact hj0⟩]
  simp only[hTe,hlast,hsk]
 have htk:t.take (k+1)=s.stack.take (k+1):=by
  rw[<-hTe,List.take_take]
  congr 1
  omega
 rw[hT]
 have hQf:=hQt k f hkf
 obtain⟨u,b,p,hu,hb,hat,h4,hp,_⟩:=hcf
 obtain⟨hf0,u',hu',hL',hb0,b',hb',_⟩:=id hQf
 obtain⟨hp0,_⟩:=nJ hM hu hb h4
 have hpad:qj m f=b.fin.pad:=by simp[qj,hu,hb]
 rw[hpad]
 obtain⟨v18,hv18,hr18⟩:=hrst.slice (t:=97) (lo:=none) (hi:=some (k+1)) (by simp) (by simp;omega)
 have hr18:RL none 5 (RFrame none) v18 (s.stack.take (k+1)):=by
  rw[<-htk]
  simpa using hr18
 have hk18:(s.stack.take (k+1))[k]? = some f:=by
  rw[<-htk,List.getElem?_take]
  simp[hkf]
 obtain⟨ef,hef,hrf⟩:=hr18.idx (k:=.i64) hk18
 obtain⟨eu,heu,hru⟩:=hy.kX (k:=.i64) hf0 hu
 obtain⟨bs,rfl,hbs,_⟩:=hru
 obtain⟨eb,heb,hrb⟩:=hbs.kX (k:=.i64) hb0 hb
 obtain⟨c,is,ga,rfl,hc,hdi,his,hga,hfo⟩:=hrb
 have hreg:=pm hM hQf
 obtain⟨e3,hr3,hf3⟩:=rLand' (pad:=b.fin.pad) (w:=w) hm' hrf (by omega) hfo.2.2.2.2.2.2 hw hM hQf
 have hfz:=hf3.frz
 generalize hld:(im m f b.fin.pad w).getD f=f3 at hf3 hfz ⊢
 obtain⟨y3,rfl,hy3,ho3⟩:=hf3
 obtain⟨e4,hr4,h4'⟩:=tz (e:=ar { s with stack:=s.stack.take (k+1) } v18 i v) (s:={ s with stack:=s.stack.take (k+1) }) ⟨v18,i,v,rfl,hr18,hi,hv,ho⟩ hfz (by simp;omega) (by simp;omega)
 refine⟨e4,s1 (outer (fun h=>absurd hj0 (h j0)) (fun _=>?_) t.length 0 (by omega) fun j hj=>by omega),h4'⟩
 refine inner (fun k2 hk2 hc2 hn2=>?_) (t.length-1) (by omega) ⟨k,by omega,hkc⟩ fun j h1 h2=>by omega
 have:k2=k:=by
  by_cases h1:k2<k
  ·exact absurd hkc (hn2 k h1 hk)
  ·by_cases h2:k<k2
   ·exact absurd hc2 (hkn k2 h2 hk2)
   ·omega
 subst this
 obtain⟨g4,i4,v4,rfl,hg4,hi4,hv4,ho4⟩:=h4'
 obtain⟨gr,rfl,hgr,hof⟩:=hrf
 unfold f70_3
 refine aa.tv (inc hk hrst.bnd) (aa.nat (iY (by have:=hrst.bnd;omega)) (aa.tv hv18 (aa.tvs hef (aa.chk rfl (aa.tvs heu (aa.chk rfl (aa.tvs heb (aa.chk rfl ?_))))))))
 refine aa.call hr3 (aa.chk rfl (aa.chk (dl hy3.isSl) (aa.chk rfl ?_)))
 exact aa.call hr4 (aa.chk (bD hg4.isSl hi4.isSl hv4.isSl) aa.ret)
end Go.Ab.C14
end

import Derived.Test.YtfnpejmlcbkepaaAQ12F12
set_option linter.all false
section
set_option maxRecDepth 10000
namespace Go.Ab
def cl (n:Nat) (g:Int):Bool:=decide (0<=g/\g < (n:Int))
def nx (b:DBlock):List Int:=gl b ++ (if b.fin.kind=4 then [b.fin.pad] else [])
def au (bs:List DBlock) (i:Nat):List Int:=match bs[i]? with
 | some b=>(nx b).filter (cl bs.length)
 | none=>[]
def gC (bs:List DBlock) (n:Int):List Int:=if 0<=n then au bs n.toNat else []
theorem df {bs:List DBlock} {i:Nat} {g:Int} (h:g ∈ au bs i):0<=g/\g.toNat < bs.length:=by
 unfold au at h
 split at h
 ·have:=(List.mem_filter.1 h).2
  simp only [cl,decide_eq_true_eq] at this
  omega
 ·cases h
theorem gU (bs:List DBlock) (i:Nat):gC bs (i:Int)=au bs i:=by simp [gC]
theorem nx_len (b:DBlock):(nx b).length<=3:=by
 unfold nx gl
 split <;> split <;> split <;> simp
theorem yG (bs:List DBlock) (n:Int):(gC bs n).length<=3:=by
 unfold gC
 split
 ·unfold au
  split
  ·exact Nat.le_trans (List.length_filter_le _ _) (nx_len _)
  ·simp
 ·simp
theorem tr {bs:List DBlock} {n:Int} (h:cl bs.length n=false):gC bs n=[]:=by
 unfold gC
 split
 ·rename_i h0
  unfold au
  rw [CE (by simp [cl] at h; omega)]
 ·rfl
theorem vN {bs:List DBlock} {n:Int} (h:cl bs.length n=true):∃ b,bs[n.toNat]? = some b/\gC bs n=(nx b).filter (cl bs.length)/\n=(n.toNat:Int):=by
 simp only [cl,decide_eq_true_eq] at h
 have hl:n.toNat < bs.length:=by omega
 refine ⟨bs[n.toNat],Cr hl,?_,by omega⟩
 simp only [gC,h.1,if_true,au,Cr hl]
theorem d0 {P:Int->Bool} {l:List Int} {j:Nat} {a:Int} (h:l[j]? = some a):(l.take (j + 1)).filter P=(l.take j).filter P ++ (if P a then [a] else []):=by
 rw [List.take_add_one,h,List.filter_append]
 cases hp:P a <;> simp [hp]
section
variable {s:Nat} {α:Type} {R:List TV->α->Prop} {y:TV} {l:List α}
theorem RL.clr (hy:RL (some true) s R y l) {k:Nat} (hk:k<=l.length) (z:List TV):∃ y',pclear s z k (l.length - k) y=some y'/\Go.Ab.slLen y'=some l.length/\Go.Ab.slSize y' s=true/\∃ y'',d7 0 k y'=some y''/\RL (some true) s R y'' (l.take k):=by
 rcases hy with ⟨rfl,rfl⟩ | ⟨o,xs,rfl,hq,h,hb⟩
 ·have:k=0:=by simpa using hk
  subst this
  exact ⟨.lit aJ,rfl,rfl,rfl,.lit aJ,rfl,by simpa using RL.nil⟩
 ·have:o=true:=hq true rfl
  subst this
  have hxl:=h.length
  refine ⟨.sl true s (xs.take k ++ (List.replicate (l.length - k) z ++ xs.drop (k + (l.length - k)))),by simp only [pclear]; rw [if_pos ⟨trivial,by omega⟩],?_,by simp [Go.Ab.slSize],.sl true s (xs.take k),?_,.sl (by simp) (h.take k) (by simp; omega)⟩
  ·simp [Go.Ab.slLen]; omega
  ·simp only [d7]
   rw [if_pos (by simp; omega),List.drop_zero,List.take_append_of_le_length (by simp; omega),List.take_take,Nat.min_self]
end
end Go.Ab
namespace Go.Ab.Q12
open Go Go.Ab Go.Proofs
theorem r70 {q:Option Bool} {e:List TV} {f:DFunc} (he:RFunc q e f) (n:Int):bn prog 41 [.agg e,I n] (B (cl f.blocks.length n)):=by
 obtain ⟨b,rfl,hb,_⟩:=he
 refine bn.of (f41_MR _ _) ?_
 unfold f41_M
 refine aa.chk rfl (aa.tv rfl (aa.ite rfl (fun h=>aa.tv hb.len (aa.tv rfl ?_)) fun h=>?_))
 ·refine ia.2 ?_
  have h:0<=n:=by simpa using h
  simp [cl,h]
 ·refine ia.2 ?_
  have h:¬ 0<=n:=by simpa using h
  simp [cl,h]
theorem bD {v:TV} (h:v.isSl=true):ah zSl [v] 0=true:=by
 show (v.isSl && true)=true
 rw [h]; rfl
theorem del2 {y3 y4 y5:TV} {P:Int->Bool} (hP:∀ g,bn prog 41 [.agg [y3,y4,y5],I g] (B (P g))) {l:List Int}:∀ (d i j:Nat) (w:TV) (cur:List Int),j + d=l.length->i<=j->RInts (some true) w cur->cur.length=l.length ->
  cur.take i=(l.take j).filter P->(∀ m,j<=m->cur[m]? = l[m]?)->∃ y,aa prog 17 (f17_2 (I i) (I j) w y3 y4 y5) y/\RInts (some true) y (l.filter P):=by
 intro d
 induction d with
 | zero =>
  intro i j w cur hj hij hw hcl hti _
  have hj:j=l.length:=by omega
  subst hj
  have hbn:=hw.bnd
  have hil:i<=cur.length:=by omega
  obtain ⟨y',c1,c2,c3,y'',c4,c5⟩:=hw.clr hil [I 0]
  rw [hti,List.take_length] at c5
  refine ⟨y'',?_,c5⟩
  unfold f17_2
  refine aa.tv hw.len (aa.tv rfl (aa.ite (v:=false) (by rw [hcl]; exact dV) nofun fun _=>?_))
  refine f17_3_J ?_
  unfold f17_3
  have han:al (I i)=some i:=bi (by omega)
  have hle:Nat.ble i cur.length=true:=by simpa using hil
  refine aa.nat hw.slLen (aa.nat han (aa.chk (by simp [hw.slSize,hle]) (aa.tv c1 (aa.nat c2 (aa.nat han (aa.chk (by simp [c3,hle]) (aa.tv c4 (aa.chk (c5.own fun _ _ h=>h.own) aa.ret))))))))
 | succ d ih =>
  intro i j w cur hj hij hw hcl hti hd
  have hjl:j < l.length:=by omega
  have hjc:j < cur.length:=by omega
  have hbn:=hw.bnd
  have ha:l[j]? = some l[j]:=Cr hjl
  obtain ⟨a,haa⟩:∃ a,a=l[j]:=⟨_,rfl⟩
  rw [<- haa] at ha
  have hca:cur[j]? = some a:=by rw [hd j (Nat.le_refl _)]; exact ha
  obtain ⟨e,he,rfl,hea⟩:=hw.pel hca
  have anj:al (I j)=some j:=bi (by omega)
  have ani:al (I i)=some i:=bi (by omega)
  cases hp:P a with
  | true =>
   have hic:i < cur.length:=by omega
   obtain ⟨e',he',rfl,_⟩:=hw.pel (Cr hic)
   obtain ⟨w',hw',hr⟩:=hw.kq he' (d:=0) (ys:=[I a]) (a:=a) ⟨rfl,hea⟩
   obtain ⟨y,hy,hry⟩:=ih (i + 1) (j + 1) w' (cur.set i a) (by omega) (by omega) hr (by simpa using hcl) (by
    rw [d0 ha,hp,if_pos rfl,<- hti,List.take_add_one,List.getElem?_set_self hic]
    congr 1
    rw [List.take_set_of_le (Nat.le_refl _)]) (fun m hm=>by
    rw [List.getElem?_set_ne (by omega)]
    exact hd m (by omega))
   refine ⟨y,?_,hry⟩
   unfold f17_2
   refine aa.tv hw.len (aa.tv rfl (aa.ite (cN hjc) (fun _=>?_) nofun))
   refine aa.nat hw.slLen (aa.nat anj (aa.chk (by simp [hw.slSize,hjc]) (aa.tvs he (aa.chk rfl (aa.call (hP a) (aa.chk rfl (aa.tv rfl (aa.tv rfl (aa.ite (v:=true) (by rw [hp]; rfl) (fun _=>?_) nofun)))))))))
   exact aa.nat hw.slLen (aa.nat ani (aa.chk (by simp [hw.slSize,hic]) (aa.tvs he' (aa.chk rfl (aa.tv hw' (aa.tv (inc hic hbn) (aa.tv (inc hjc hbn) (f17_2_J hy))))))))
  | false =>
   obtain ⟨y,hy,hry⟩:=ih i (j + 1) w cur (by omega) (by omega) hw hcl (by rw [d0 ha,hp,hti]; simp) (fun m hm=>hd m (by omega))
   refine ⟨y,?_,hry⟩
   unfold f17_2
   refine aa.tv hw.len (aa.tv rfl (aa.ite (cN hjc) (fun _=>?_) nofun))
   exact aa.nat hw.slLen (aa.nat anj (aa.chk (by simp [hw.slSize,hjc]) (aa.tvs he (aa.chk rfl (aa.call (hP a) (aa.chk rfl (aa.tv rfl (aa.tv rfl (aa.ite (v:=false) (by rw [hp]; rfl) nofun fun _=>aa.tv (inc hjc hbn) (f17_2_J hy))))))))))
theorem del1 {y3 y4 y5:TV} {P:Int->Bool} (hP:∀ g,bn prog 41 [.agg [y3,y4,y5],I g] (B (P g))) {l:List Int} {w:TV} (hw:RInts (some true) w l):∀ (d k:Nat),k + d=l.length->(l.take k).filter P=l.take k ->
  ∃ y,aa prog 17 (f17_1 (I l.length) (I k) w y3 y4 y5) y/\RInts (some true) y (l.filter P):=by
 intro d
 have hbn:=hw.bnd
 induction d with
 | zero =>
  intro k hk hf
  have hk:k=l.length:=by omega
  subst hk
  rw [List.take_length] at hf
  refine ⟨w,?_,by rw [hf]; exact hw⟩
  unfold f17_1
  exact aa.tv rfl (aa.ite dV nofun fun _=>aa.tv rfl (aa.ite (v:=true) rfl (fun _=>aa.chk (hw.own fun _ _ h=>h.own) aa.ret) nofun))
 | succ d ih =>
  intro k hk hf
  have hkl:k < l.length:=by omega
  obtain ⟨a,haa⟩:∃ a,a=l[k]:=⟨_,rfl⟩
  have ha:l[k]? = some a:=by rw [haa]; exact Cr hkl
  obtain ⟨e,he,rfl,hea⟩:=hw.pel ha
  have ank:al (I k)=some k:=bi (by omega)
  cases hp:P a with
  | true =>
   obtain ⟨y,hy,hry⟩:=ih (k + 1) (by omega) (by rw [d0 ha,hp,hf,List.take_add_one,ha]; rfl)
   refine ⟨y,?_,hry⟩
   unfold f17_1
   refine aa.tv rfl (aa.ite (cN hkl) (fun _=>?_) nofun)
   exact aa.nat hw.slLen (aa.nat ank (aa.chk (by simp [hw.slSize,hkl]) (aa.tvs he (aa.chk rfl (aa.call (hP a) (aa.chk rfl (aa.tv rfl (aa.ite (v:=false) (by rw [hp]; rfl) nofun fun _=>aa.tv (inc hkl hbn) (f17_1_J hy)))))))))
  | false =>
   obtain ⟨y,hy,hry⟩:=del2 hP d k (k + 1) w l (by omega) (by omega) hw rfl (by rw [d0 ha,hp,hf]; simp) (fun m _=>rfl)
   refine ⟨y,?_,hry⟩
   unfold f17_1
   refine aa.tv rfl (aa.ite (cN hkl) (fun _=>?_) nofun)
   refine aa.nat hw.slLen (aa.nat ank (aa.chk (by simp [hw.slSize,hkl]) (aa.tvs he (aa.chk rfl (aa.call (hP a) (aa.chk rfl (aa.tv rfl (aa.ite (v:=true) (by rw [hp]; rfl) (fun _=>?_) nofun))))))))
   have hne:((k:Int) == (-1:Int))=false:=by simp
   exact aa.tv rfl (aa.ite (v:=false) (by simp only [asBool,hne]) nofun fun _=>aa.tv (inc hkl hbn) (f17_2_J hy))
theorem r71 {q:Option Bool} {e:List TV} {f:DFunc} (he:RFunc q e f) (n:Int):∃ y,bn prog 17 [.agg e,I n] y/\RInts (some true) y (gC f.blocks n):=by
 have he0:=he
 obtain ⟨b,rfl,hb,_⟩:=he
 cases ht:cl f.blocks.length n with
 | false =>
  refine ⟨.lit aJ,?_,by rw [tr ht]; exact .nil⟩
  refine bn.of (f17_MR _ _) ?_
  unfold f17_M
  refine aa.chk rfl (aa.call (r70 he0 n) (aa.chk rfl (aa.tv rfl (aa.ite (v:=true) (by rw [ht]; rfl) (fun _=>aa.chk rfl aa.ret) nofun))))
 | true =>
  obtain ⟨bk,hbk,hnl,hn⟩:=vN ht
  have key:∀ (w:TV),RInts (some true) w (nx bk)->∃ y,aa prog 17 (f17_0 (I f.params) (I f.regs) b w) y/\RInts (some true) y (gC f.blocks n):=fun w hw=>by
   obtain ⟨y,hy,hr⟩:=del1 (fun g=>r70 he0 g) hw (nx bk).length 0 (by omega) (by simp)
   refine ⟨y,?_,by rw [hnl]; exact hr⟩
   unfold f17_0
   exact aa.tv hw.len (f17_1_J hy)
  obtain ⟨e2,he2,hR⟩:=hb.idx (k:=.i64) hbk
  obtain ⟨v,hv,hvr⟩:=r15 hR
  have hR0:=hR
  obtain ⟨c,i,g,rfl,hc,hd,hi,hg,ho⟩:=hR
  rw [<- hn] at he2
  by_cases h4:bk.fin.kind=4
  ·obtain ⟨w,hw,hwr⟩:=hvr.app (e:=[I bk.fin.pad]) (a:=bk.fin.pad) ⟨rfl,ho.2.2.2.2.2.2⟩ (by have:(gl bk).length<=2:=by { unfold gl; split <;> split <;> simp }; omega)
   obtain ⟨y,hy,hr⟩:=key w (by unfold nx; rw [if_pos h4]; exact hwr)
   refine ⟨y,?_,hr⟩
   refine bn.of (f17_MR _ _) ?_
   unfold f17_M
   refine aa.chk rfl (aa.call (r70 he0 n) (aa.chk rfl (aa.tv rfl (aa.ite (v:=false) (by rw [ht]; rfl) nofun fun _=>?_))))
   exact aa.tvs he2 (aa.chk rfl (aa.call hv (aa.chk (bD hvr.isSl) (aa.tv rfl (aa.ite (v:=true) (by simp [asBool,h4]) (fun _=>aa.rws rfl (aa.tv hw (f17_0_J hy))) nofun)))))
  ·obtain ⟨y,hy,hr⟩:=key v (by unfold nx; rw [if_neg h4,List.append_nil]; exact hvr)
   refine ⟨y,?_,hr⟩
   refine bn.of (f17_MR _ _) ?_
   unfold f17_M
   refine aa.chk rfl (aa.call (r70 he0 n) (aa.chk rfl (aa.tv rfl (aa.ite (v:=false) (by rw [ht]; rfl) nofun fun _=>?_))))
   exact aa.tvs he2 (aa.chk rfl (aa.call hv (aa.chk (bD hvr.isSl) (aa.tv rfl (aa.ite (v:=false) (by simp [asBool,h4]) nofun fun _=>f17_0_J hy)))))
end Go.Ab.Q12
end
section
set_option maxRecDepth 10000
namespace Go.Ab
theorem rH {α:Type} {l:List α} {j:Nat} {a:α} (h:l[j]? = some a):l.take (j + 1)=l.take j ++ [a]:=by
 rw [List.take_add_one,h]; rfl
def pb (bs:List DBlock) (n:Int) (k:Nat):List Int:=((List.range k).filter fun i=>decide (n ∈ au bs i)).map (fun i:Nat=>(i:Int))
def Bu (bs:List DBlock) (n:Int):List Int:=pb bs n bs.length
theorem jL (bs:List DBlock) (n:Int) (k:Nat):pb bs n (k + 1)=pb bs n k ++ (if n ∈ au bs k then [(k:Int)] else []):=by
 unfold pb
 rw [List.range_succ,List.filter_append,List.map_append]
 by_cases h:n ∈ au bs k <;> simp [h]
theorem sq (bs:List DBlock) (n:Int) (k:Nat):(pb bs n k).length<=k:=by
 unfold pb
 rw [List.length_map]
 exact Nat.le_trans (List.length_filter_le _ _) (by simp)
end Go.Ab
namespace Go.Ab.Q12
open Go Go.Ab Go.Proofs
section
variable {q:Option Bool} {b:TV} {bs:List DBlock} (hb:RL q 14 (RBlock q) b bs)
include hb
theorem nxLoop {y1 y2 w4:TV} {l:List Int} (hw:RInts (some true) w4 l) (hl:l.length<=1000):∀ (d j:Nat) (acc:TV) (m:List Int),j + d=l.length->RInts (some true) acc m->m=(l.take j).filter (cl bs.length) ->
  ∃ y,aa prog 18 (f18_4 (I j) y1 y2 b w4 acc) y/\RInts (some true) y (l.filter (cl bs.length)):=by
 intro d
 have hbn:=hw.bnd
 induction d with
 | zero =>
  intro j acc m hj ha hm
  have hj:j=l.length:=by omega
  subst hj
  rw [List.take_length] at hm
  subst hm
  refine ⟨acc,?_,ha⟩
  unfold f18_4
  exact aa.tv hw.len (aa.tv rfl (aa.ite dV nofun fun _=>aa.ret))
 | succ d ih =>
  intro j acc m hj ha hm
  have hjl:j < l.length:=by omega
  obtain ⟨a,haa⟩:∃ a,a=l[j]:=⟨_,rfl⟩
  have hla:l[j]? = some a:=by rw [haa]; exact Cr hjl
  obtain ⟨e,he,rfl,hea⟩:=hw.pel hla
  have anj:al (I j)=some j:=bi (by omega)
  have hml:m.length<=j:=by rw [hm]; exact Nat.le_trans (List.length_filter_le _ _) (by simp; omega)
  cases hp:cl bs.length a with
  | true =>
   have hp':0<=a/\a < (bs.length:Int):=by simpa [cl] using hp
   obtain ⟨acc',h1,h2⟩:=ha.app (e:=[I a]) (a:=a) ⟨rfl,hea⟩ (by omega)
   obtain ⟨y,hy,hr⟩:=ih (j + 1) acc' (m ++ [a]) (by omega) h2 (by rw [d0 hla,hp,if_pos rfl,hm])
   refine ⟨y,?_,hr⟩
   unfold f18_4
   refine aa.tv hw.len (aa.tv rfl (aa.ite (cN hjl) (fun _=>?_) nofun))
   refine aa.nat hw.slLen (aa.nat anj (aa.chk (by simp [hw.slSize,hjl]) (aa.tvs he (aa.chk rfl (aa.tv rfl (aa.ite (v:=true) (by simp [asBool,hp'.1]) (fun _=>?_) nofun))))))
   refine aa.nat hw.slLen (aa.nat anj (aa.chk (by simp [hw.slSize,hjl]) (aa.tvs he (aa.chk rfl (aa.tv hb.len (aa.tv rfl (aa.ite (v:=true) (by simp [asBool,hp'.2]) (fun _=>?_) nofun)))))))
   exact aa.nat hw.slLen (aa.nat anj (aa.chk (by simp [hw.slSize,hjl]) (aa.tvs he (aa.chk rfl (aa.rws rfl (aa.tv h1 (aa.tv (inc hjl hbn) (f18_4_J hy))))))))
  | false =>
   obtain ⟨y,hy,hr⟩:=ih (j + 1) acc m (by omega) ha (by rw [d0 hla,hp,hm]; simp)
   refine ⟨y,?_,hr⟩
   unfold f18_4
   refine aa.tv hw.len (aa.tv rfl (aa.ite (cN hjl) (fun _=>?_) nofun))
   refine aa.nat hw.slLen (aa.nat anj (aa.chk (by simp [hw.slSize,hjl]) (aa.tvs he (aa.chk rfl (aa.tv rfl (aa.ite rfl (fun h=>?_) fun h=>?_))))))
   ·have h0:0<=a:=by simpa using h
    have h1:¬ a < (bs.length:Int):=by
     intro h; simp [cl,h0,h] at hp
    exact aa.nat hw.slLen (aa.nat anj (aa.chk (by simp [hw.slSize,hjl]) (aa.tvs he (aa.chk rfl (aa.tv hb.len (aa.tv rfl (aa.ite (v:=false) (by simp [asBool,h1]) nofun fun _=>aa.tv (inc hjl hbn) (f18_4_J hy))))))))
   ·exact aa.tv (inc hjl hbn) (f18_4_J hy)
theorem Cn {y1 y2 g:TV} {x:DEnd} (ho:x.ok):∀ (w:TV) (l:List Int) (u:Bool),RInts (some true) w l->l.length<=2->u=(x.kind == 4) ->
  ∃ y,aa prog 18 (f18_2 (B u) y1 y2 b (I x.kind) (I x.a) (I x.dst) (I x.f) g (I x.to) (I x.els) (I x.pad) w) y/\RInts (some true) y ((l ++ (if x.kind=4 then [x.pad] else [])).filter (cl bs.length)):=by
 intro w l u hw hl hu
 have key:∀ (w:TV) (m:List Int),RInts (some true) w m->m.length<=3->∃ y,aa prog 18 (f18_3 (I 0) y1 y2 b w (.lit aJ)) y/\RInts (some true) y (m.filter (cl bs.length)):=fun w m hw hm=>by
  obtain ⟨y,hy,hr⟩:=nxLoop hb (y1:=y1) (y2:=y2) hw (by omega) m.length 0 (.lit aJ) [] (by omega) .nil (by simp)
  exact ⟨y,by unfold f18_3; exact f18_4_J hy,hr⟩
 subst hu
 by_cases h4:x.kind=4
 ·obtain ⟨w',h1,h2⟩:=hw.app (e:=[I x.pad]) (a:=x.pad) ⟨rfl,ho.2.2.2.2.2.2⟩ (by omega)
  obtain ⟨y,hy,hr⟩:=key w' _ h2 (by simp; omega)
  refine ⟨y,?_,by rw [if_pos h4]; exact hr⟩
  unfold f18_2
  exact aa.ite (v:=true) (by simp [asBool,h4]) (fun _=>aa.rws rfl (aa.tv h1 (aa.chk rfl (f18_3_J hy)))) nofun
 ·obtain ⟨y,hy,hr⟩:=key w _ hw (by omega)
  refine ⟨y,?_,by rw [if_neg h4,List.append_nil]; exact hr⟩
  unfold f18_2
  exact aa.ite (v:=false) (by simp [asBool,h4]) nofun fun _=>aa.chk rfl (f18_3_J hy)
theorem Cd {y1 y2 g:TV} {x:DEnd} (ho:x.ok):∀ (w:TV) (l:List Int) (u:Bool),RInts (some true) w l->l.length<=1->u=(x.kind == 3) ->
  ∃ y,aa prog 18 (f18_1 (B u) y1 y2 b (I x.kind) (I x.a) (I x.dst) (I x.f) g (I x.to) (I x.els) (I x.pad) w) y/\RInts (some true) y ((l ++ (if x.kind=3 then [x.els] else []) ++ (if x.kind=4 then [x.pad] else [])).filter (cl bs.length)):=by
 intro w l u hw hl hu
 subst hu
 by_cases h3:x.kind=3
 ·obtain ⟨w',h1,h2⟩:=hw.app (e:=[I x.els]) (a:=x.els) ⟨rfl,ho.2.2.2.2.2.1⟩ (by omega)
  obtain ⟨y,hy,hr⟩:=Cn hb (y1:=y1) (y2:=y2) (g:=g) ho w' _ _ h2 (by simp; omega) rfl
  refine ⟨y,?_,by rw [if_pos h3]; exact hr⟩
  unfold f18_1
  exact aa.ite (v:=true) (by simp [asBool,h3]) (fun _=>aa.rws rfl (aa.tv h1 (aa.tv rfl (f18_2_J hy)))) nofun
 ·obtain ⟨y,hy,hr⟩:=Cn hb (y1:=y1) (y2:=y2) (g:=g) ho w _ _ hw (by omega) rfl
  refine ⟨y,?_,by rw [if_neg h3,List.append_nil]; exact hr⟩
  unfold f18_1
  exact aa.ite (v:=false) (by simp [asBool,h3]) nofun fun _=>aa.tv rfl (f18_2_J hy)
theorem nxTop {y1 y2 g:TV} {x:DEnd} (ho:x.ok) (u:Bool) (hu:u=true ↔ x.kind=2\/x.kind=3\/x.kind=4) :
  ∃ y,aa prog 18 (f18_0 (B u) y1 y2 b (I x.kind) (I x.a) (I x.dst) (I x.f) g (I x.to) (I x.els) (I x.pad) (.lit aJ)) y /\
   RInts (some true) y (((if x.kind=2\/x.kind=3\/x.kind=4 then [x.to] else []) ++ (if x.kind=3 then [x.els] else []) ++ (if x.kind=4 then [x.pad] else [])).filter (cl bs.length)):=by
 cases u with
 | true =>
  have h:=hu.1 rfl
  obtain ⟨w',h1,h2⟩:=(RL.nil:RInts (some true) (.lit aJ) []).app (e:=[I x.to]) (a:=x.to) ⟨rfl,ho.2.2.2.2.1⟩ (by simp)
  obtain ⟨y,hy,hr⟩:=Cd hb (y1:=y1) (y2:=y2) (g:=g) ho w' _ _ h2 (by simp) rfl
  refine ⟨y,?_,by rw [if_pos h]; exact hr⟩
  unfold f18_0
  exact aa.ite rfl (fun _=>aa.rws rfl (aa.tv h1 (aa.tv rfl (f18_1_J hy)))) nofun
 | false =>
  have h:¬ (x.kind=2\/x.kind=3\/x.kind=4):=fun h=>by have:=hu.2 h; cases this
  obtain ⟨y,hy,hr⟩:=Cd hb (y1:=y1) (y2:=y2) (g:=g) ho (.lit aJ) [] _ .nil (by simp) rfl
  refine ⟨y,?_,by rw [if_neg h]; exact hr⟩
  unfold f18_0
  exact aa.ite rfl nofun fun _=>aa.tv rfl (f18_1_J hy)
end
theorem r72 {q:Option Bool} {e:List TV} {f:DFunc} (he:RFunc q e f) (n:Int):∃ y,bn prog 18 [.agg e,I n] y/\RInts (some true) y (gC f.blocks n):=by
 obtain ⟨b,rfl,hb,_⟩:=he
 by_cases h0:n < 0
 ·refine ⟨.lit aJ,?_,by rw [gC,if_neg (by omega)]; exact .nil⟩
  refine bn.of (f18_MR _ _) ?_
  unfold f18_M
  exact aa.chk rfl (aa.tv rfl (aa.ite (v:=true) (by simp [asBool,h0]) (fun _=>aa.ret) nofun))
 by_cases h1:n >= (f.blocks.length:Int)
 ·refine ⟨.lit aJ,?_,by rw [tr (by simp [cl]; omega)]; exact .nil⟩
  refine bn.of (f18_MR _ _) ?_
  unfold f18_M
  exact aa.chk rfl (aa.tv rfl (aa.ite (v:=false) (by simp [asBool]; omega) nofun fun _=>aa.tv hb.len (aa.tv rfl (aa.ite (v:=true) (by simp [asBool]; omega) (fun _=>aa.ret) nofun))))
 obtain ⟨bk,hbk,hnl,hn⟩:=vN (bs:=f.blocks) (n:=n) (by simp [cl]; omega)
 obtain ⟨e2,he2,hR⟩:=hb.idx (k:=.i64) hbk
 obtain ⟨c,i,g,rfl,hc,hd,hi,hg,ho⟩:=hR
 rw [<- hn] at he2
 have key:∀ u:Bool,(u=true ↔ bk.fin.kind=2\/bk.fin.kind=3\/bk.fin.kind=4)->∃ y,aa prog 18 (f18_0 (B u) (I f.params) (I f.regs) b (I bk.fin.kind) (I bk.fin.a) (I bk.fin.dst) (I bk.fin.f) g (I bk.fin.to) (I bk.fin.els) (I bk.fin.pad) (.lit aJ)) y/\RInts (some true) y (gC f.blocks n):=fun u hu=>by
  obtain ⟨y,hy,hr⟩:=nxTop hb (y1:=I f.params) (y2:=I f.regs) (g:=g) ho u hu
  exact ⟨y,hy,by rw [hnl]; exact hr⟩
 have start:∀ {r:TV},(∀ (h2:bk.fin.kind=2),aa prog 18 (f18_0 (B true) (I f.params) (I f.regs) b (I bk.fin.kind) (I bk.fin.a) (I bk.fin.dst) (I bk.fin.f) g (I bk.fin.to) (I bk.fin.els) (I bk.fin.pad) (.lit aJ)) r) ->
   (∀ (h3:bk.fin.kind=3),aa prog 18 (f18_0 (B true) (I f.params) (I f.regs) b (I bk.fin.kind) (I bk.fin.a) (I bk.fin.dst) (I bk.fin.f) g (I bk.fin.to) (I bk.fin.els) (I bk.fin.pad) (.lit aJ)) r) ->
   (∀ (h2:¬ bk.fin.kind=2) (h3:¬ bk.fin.kind=3),aa prog 18 (f18_0 (B (bk.fin.kind == 4)) (I f.params) (I f.regs) b (I bk.fin.kind) (I bk.fin.a) (I bk.fin.dst) (I bk.fin.f) g (I bk.fin.to) (I bk.fin.els) (I bk.fin.pad) (.lit aJ)) r) ->
   bn prog 18 [.agg [I f.params,I f.regs,b],I n] r:=fun {r} k2 k3 k4=>by
  refine bn.of (f18_MR _ _) ?_
  unfold f18_M
  refine aa.chk rfl (aa.tv rfl (aa.ite (v:=false) (by simp [asBool]; omega) nofun fun _=>aa.tv hb.len (aa.tv rfl (aa.ite (v:=false) (by simp [asBool]; omega) nofun fun _=>?_))))
  refine aa.tvs he2 (aa.chk rfl (aa.tv rfl (aa.ite rfl (fun h=>?_) fun h=>?_)))
  ·exact aa.chk rfl (f18_0_J (k2 (by simpa using h)))
  ·have h2:¬ bk.fin.kind=2:=by simpa using h
   refine aa.tv rfl (aa.ite rfl (fun h=>?_) fun h=>?_)
   ·exact aa.chk rfl (f18_0_J (k3 (by simpa using h)))
   ·exact aa.tv rfl (aa.chk rfl (f18_0_J (k4 h2 (by simpa using h))))
 by_cases h23:bk.fin.kind=2\/bk.fin.kind=3
 ·obtain ⟨y,hy,hr⟩:=key true ⟨fun _=>(by rcases h23 with h | h <;> simp [h]),fun _=>rfl⟩
  exact ⟨y,start (fun _=>hy) (fun _=>hy) (fun h2 h3=>absurd h23 (by simp [h2,h3])),hr⟩
 ·have h2:¬ bk.fin.kind=2:=fun h=>h23 (.inl h)
  have h3:¬ bk.fin.kind=3:=fun h=>h23 (.inr h)
  obtain ⟨y,hy,hr⟩:=key (bk.fin.kind == 4) (by simp [h2,h3])
  exact ⟨y,start (fun h=>absurd h h2) (fun h=>absurd h h3) (fun _ _=>hy),hr⟩
theorem r73 {q:Option Bool} {x:TV} {l:List Int} (hx:RInts q x l) (n:Int):∃ k:Int,bn prog 65 [x,I n] (I k)/\(0<=k ↔ n ∈ l):=by
 have hbn:=hx.bnd
 have loop:∀ (d j:Nat),j + d=l.length->n ∉ l.take j->∃ k:Int,aa prog 65 (f65_0 x (I n) (I l.length) (I j)) (I k)/\(0<=k ↔ n ∈ l):=by
  intro d
  induction d with
  | zero =>
   intro j hj hn
   have hj:j=l.length:=by omega
   subst hj
   rw [List.take_length] at hn
   refine ⟨-1,?_,⟨fun h=>by omega,fun h=>absurd h hn⟩⟩
   unfold f65_0
   exact aa.tv rfl (aa.ite dV nofun fun _=>aa.ret)
  | succ d ih =>
   intro j hj hn
   have hjl:j < l.length:=by omega
   obtain ⟨a,haa⟩:∃ a,a=l[j]:=⟨_,rfl⟩
   have hla:l[j]? = some a:=by rw [haa]; exact Cr hjl
   obtain ⟨e,he,rfl,hea⟩:=hx.idx (k:=.i64) hla
   by_cases ha:n=a
   ·refine ⟨(j:Int),?_,⟨fun _=>by rw [ha]; exact CB hla,fun _=>by omega⟩⟩
    unfold f65_0
    exact aa.tv rfl (aa.ite (cN hjl) (fun _=>aa.tvs he (aa.chk rfl (aa.tv rfl (aa.ite (v:=true) (by simp [asBool,ha]) (fun _=>aa.ret) nofun)))) nofun)
   ·obtain ⟨k,hk,hr⟩:=ih (j + 1) (by omega) (by rw [rH hla]; simp [hn,ha])
    refine ⟨k,?_,hr⟩
    unfold f65_0
    exact aa.tv rfl (aa.ite (cN hjl) (fun _=>aa.tvs he (aa.chk rfl (aa.tv rfl (aa.ite (v:=false) (by simp [asBool,ha]) nofun fun _=>aa.tv (inc hjl hbn) (f65_0_J hk))))) nofun)
 obtain ⟨k,hk,hr⟩:=loop l.length 0 (by omega) (by simp)
 refine ⟨k,?_,hr⟩
 refine bn.of (f65_MR _ _) ?_
 unfold f65_M
 exact aa.tv hx.len (f65_0_J hk)
theorem r74 {q:Option Bool} {x:TV} {l:List Int} (hx:RInts q x l) (n:Int):bn prog 45 [x,I n] (B (decide (n ∈ l))):=by
 obtain ⟨k,hk,hr⟩:=r73 hx n
 refine bn.of (f45_MR _ _) ?_
 unfold f45_M
 refine aa.call hk (aa.chk rfl (aa.tv rfl (ia.2 ?_)))
 simp [<- hr]
theorem r75 {q:Option Bool} {x:TV} {l:List Int} (hx:RInts q x l) (n:Int):bn prog 26 [x,I n] (B (decide (n ∈ l))):=by
 have hbn:=hx.bnd
 have loop:∀ (d j:Nat),j + d=l.length->n ∉ l.take j->aa prog 26 (f26_0 x (I n) (I j)) (B (decide (n ∈ l))):=by
  intro d
  induction d with
  | zero =>
   intro j hj hn
   have hj:j=l.length:=by omega
   subst hj
   rw [List.take_length] at hn
   unfold f26_0
   exact aa.tv hx.len (aa.tv rfl (aa.ite dV nofun fun _=>ia.2 (by simp [hn])))
  | succ d ih =>
   intro j hj hn
   have hjl:j < l.length:=by omega
   obtain ⟨a,haa⟩:∃ a,a=l[j]:=⟨_,rfl⟩
   have hla:l[j]? = some a:=by rw [haa]; exact Cr hjl
   obtain ⟨e,he,rfl,hea⟩:=hx.idx (k:=.i64) hla
   unfold f26_0
   refine aa.tv hx.len (aa.tv rfl (aa.ite (cN hjl) (fun _=>aa.tvs he (aa.chk rfl (aa.tv rfl (aa.ite rfl (fun h=>?_) fun h=>?_)))) nofun))
   ·have ha:a=n:=by simpa using h
    have:n ∈ l:=by rw [<- ha]; exact CB hla
    exact ia.2 (by simp [this])
   ·have ha:¬ a=n:=by simpa using h
    exact aa.tv (inc hjl hbn) (f26_0_J (ih (j + 1) (by omega) (by rw [rH hla]; simp [hn]; exact fun h=>ha h.symm)))
 refine bn.of (f26_MR _ _) ?_
 unfold f26_M
 exact f26_0_J (loop l.length 0 (by omega) (by simp))
theorem r76 {q:Option Bool} {e:List TV} {f:DFunc} (he:RFunc q e f) (hs:f.blocks.length<=1000) (n:Int):∃ y,bn prog 19 [.agg e,I n] y/\RInts (some true) y (Bu f.blocks n):=by
 have he0:=he
 obtain ⟨b,rfl,hb,_⟩:=he
 have loop:∀ (d k:Nat) (w:TV),k + d=f.blocks.length->RInts (some true) w (pb f.blocks n k)->∃ y,aa prog 19 (f19_0 (I n) (I f.blocks.length) (I k) (I f.params) (I f.regs) b w) y/\RInts (some true) y (Bu f.blocks n):=by
  intro d
  induction d with
  | zero =>
   intro k w hk hw
   have hk:k=f.blocks.length:=by omega
   subst hk
   refine ⟨w,?_,hw⟩
   unfold f19_0
   exact aa.tv rfl (aa.ite dV nofun fun _=>aa.chk (hw.own fun _ _ h=>h.own) aa.ret)
  | succ d ih =>
   intro k w hk hw
   have hkl:k < f.blocks.length:=by omega
   obtain ⟨v,hv,hvr⟩:=r71 he0 (k:Int)
   have hc:=r74 (hvr.frz fun _ _ h=>h.frz) n
   rw [gU] at hc
   have hlen:=sq f.blocks n k
   by_cases hm:n ∈ au f.blocks k
   ·obtain ⟨w',h1,h2⟩:=hw.app (e:=[I k]) (a:=(k:Int)) ⟨rfl,by constructor <;> omega⟩ (by omega)
    obtain ⟨y,hy,hr⟩:=ih (k + 1) w' (by omega) (by rw [jL,if_pos hm]; exact h2)
    refine ⟨y,?_,hr⟩
    unfold f19_0
    exact aa.tv rfl (aa.ite (cN hkl) (fun _=>aa.call hv (aa.chk (bD hvr.isSl) (aa.call hc (aa.chk rfl (aa.ite (v:=true) (by simp [asBool,hm]) (fun _=>aa.chk rfl (aa.rws rfl (aa.tv h1 (aa.tv (inc hkl (by omega)) (f19_0_J hy))))) nofun))))) nofun)
   ·obtain ⟨y,hy,hr⟩:=ih (k + 1) w (by omega) (by rw [jL,if_neg hm,List.append_nil]; exact hw)
    refine ⟨y,?_,hr⟩
    unfold f19_0
    exact aa.tv rfl (aa.ite (cN hkl) (fun _=>aa.call hv (aa.chk (bD hvr.isSl) (aa.call hc (aa.chk rfl (aa.ite (v:=false) (by simp [asBool,hm]) nofun fun _=>aa.tv (inc hkl (by omega)) (f19_0_J hy)))))) nofun)
 obtain ⟨y,hy,hr⟩:=loop f.blocks.length 0 (.lit aJ) (by omega) .nil
 refine ⟨y,?_,hr⟩
 refine bn.of (f19_MR _ _) ?_
 unfold f19_M
 exact aa.chk rfl (aa.tv hb.len (aa.chk rfl (f19_0_J hy)))
theorem r77 {q:Option Bool} {e:List TV} {f:DFunc} (he:RFunc q e f) (hs:f.blocks.length<=1000) (n:Int):∃ y,bn prog 20 [.agg e,I n] y/\RInts (some true) y (Bu f.blocks n):=by
 have he0:=he
 obtain ⟨b,rfl,hb,_⟩:=he
 have loop:∀ (d k:Nat) (w:TV),k + d=f.blocks.length->RInts (some true) w (pb f.blocks n k)->∃ y,aa prog 20 (f20_0 (I n) (I k) (I f.params) (I f.regs) b w) y/\RInts (some true) y (Bu f.blocks n):=by
  intro d
  induction d with
  | zero =>
   intro k w hk hw
   have hk:k=f.blocks.length:=by omega
   subst hk
   refine ⟨w,?_,hw⟩
   unfold f20_0
   exact aa.tv hb.len (aa.tv rfl (aa.ite dV nofun fun _=>aa.ret))
  | succ d ih =>
   intro k w hk hw
   have hkl:k < f.blocks.length:=by omega
   obtain ⟨v,hv,hvr⟩:=r72 he0 (k:Int)
   have hc:=r75 (hvr.frz fun _ _ h=>h.frz) n
   rw [gU] at hc
   have hlen:=sq f.blocks n k
   by_cases hm:n ∈ au f.blocks k
   ·obtain ⟨w',h1,h2⟩:=hw.app (e:=[I k]) (a:=(k:Int)) ⟨rfl,by constructor <;> omega⟩ (by omega)
    obtain ⟨y,hy,hr⟩:=ih (k + 1) w' (by omega) (by rw [jL,if_pos hm]; exact h2)
    refine ⟨y,?_,hr⟩
    unfold f20_0
    exact aa.tv hb.len (aa.tv rfl (aa.ite (cN hkl) (fun _=>aa.call hv (aa.chk (bD hvr.isSl) (aa.call hc (aa.chk rfl (aa.ite (v:=true) (by simp [asBool,hm]) (fun _=>aa.chk rfl (aa.rws rfl (aa.tv h1 (aa.tv (inc hkl (by omega)) (f20_0_J hy))))) nofun))))) nofun))
   ·obtain ⟨y,hy,hr⟩:=ih (k + 1) w (by omega) (by rw [jL,if_neg hm,List.append_nil]; exact hw)
    refine ⟨y,?_,hr⟩
    unfold f20_0
    exact aa.tv hb.len (aa.tv rfl (aa.ite (cN hkl) (fun _=>aa.call hv (aa.chk (bD hvr.isSl) (aa.call hc (aa.chk rfl (aa.ite (v:=false) (by simp [asBool,hm]) nofun fun _=>aa.tv (inc hkl (by omega)) (f20_0_J hy)))))) nofun))
 obtain ⟨y,hy,hr⟩:=loop f.blocks.length 0 (.lit aJ) (by omega) .nil
 refine ⟨y,?_,hr⟩
 refine bn.of (f20_MR _ _) ?_
 unfold f20_M
 exact aa.chk rfl (aa.chk rfl (f20_0_J hy))
end Go.Ab.Q12
end
section
set_option maxRecDepth 10000
namespace Go.Ab
inductive Dfs (bs:List DBlock):List Bool->List (Nat × List Int)->List Int->List Bool->List Int->Prop
 | done {M:List Bool} {o:List Int}:Dfs bs M [] o M o
 | leave {M M':List Bool} {n:Nat} {st:List (Nat × List Int)} {o o':List Int}:Dfs bs M st ((n:Int) :: o) M' o'->Dfs bs M ((n,[]) :: st) o M' o'
 | skip {M M':List Bool} {n:Nat} {g:Int} {l:List Int} {st:List (Nat × List Int)} {o o':List Int}:M[g.toNat]? = some true->Dfs bs M ((n,l) :: st) o M' o'->Dfs bs M ((n,g :: l) :: st) o M' o'
 | enter {M M':List Bool} {n:Nat} {g:Int} {l:List Int} {st:List (Nat × List Int)} {o o':List Int}:M[g.toNat]? = some false->Dfs bs (M.set g.toNat true) ((g.toNat,au bs g.toNat) :: (n,l) :: st) o M' o'->Dfs bs M ((n,g :: l) :: st) o M' o'
theorem Dfs.det {bs:List DBlock} {M M1 M2:List Bool} {st:List (Nat × List Int)} {o o1 o2:List Int} (h:Dfs bs M st o M1 o1) (h':Dfs bs M st o M2 o2):M1=M2/\o1=o2:=by
 induction h with
 | done=>cases h'; exact ⟨rfl,rfl⟩
 | leave _ ih=>cases h' with | leave h=>exact ih h
 | skip hg _ ih=>cases h' with
  | skip _ h=>exact ih h
  | enter hg' _=>rw [hg] at hg'; cases hg'
 | enter hg _ ih=>cases h' with
  | skip hg' _=>rw [hg] at hg'; cases hg'
  | enter _ h=>exact ih h
def mA (bs:List DBlock) (o:List Int):Prop:=(bs=[]/\o=[])\/(bs≠[]/\∃ M',Dfs bs ((List.replicate bs.length false).set 0 true) [(0,au bs 0)] [] M' o)
theorem mA.det {bs:List DBlock} {o o':List Int} (h:mA bs o) (h':mA bs o'):o=o':=by
 rcases h with ⟨h1,rfl⟩ | ⟨h1,M,h⟩
 ·rcases h' with ⟨_,rfl⟩ | ⟨h2,_⟩
  ·rfl
  ·exact absurd h1 h2
 ·rcases h' with ⟨h2,_⟩ | ⟨_,M',h'⟩
  ·exact absurd h2 h1
  ·exact (h.det h').2
def work (M:List Bool) (st:List (Nat × List Int)):Nat:=M.count false * 5 + (st.map fun p=>p.2.length + 1).sum
theorem count_set {M:List Bool} {g:Nat} (h:M[g]? = some false):(M.set g true).count false + 1=M.count false:=by
 have hlt:=(Cq.1 h).1
 have hv:=(Cq.1 h).2
 have hm:false ∈ M:=CB h
 have:=List.count_pos_iff.2 hm
 rw [List.count_set hlt]
 simp [hv]
 omega
theorem jU (bs:List DBlock) (i:Nat):(au bs i).length<=3:=by
 have:=yG bs (i:Int)
 rwa [gU] at this
structure WOk (bs:List DBlock) (M:List Bool) (st:List (Nat × List Int)) (o:List Int):Prop where
 len:M.length=bs.length
 at_:∀ p ∈ st,p.1 < bs.length/\∀ g ∈ p.2,0<=g/\g.toNat < bs.length
 room:st.length + o.length<=M.count true
theorem WOk.leave {bs:List DBlock} {M:List Bool} {st:List (Nat × List Int)} {o:List Int} {n:Nat} (h:WOk bs M ((n,[]) :: st) o):WOk bs M st ((n:Int) :: o) :=
 ⟨h.len,fun p hp=>h.at_ p (Cz _ hp),by have:=h.room; simp at this ⊢; omega⟩
theorem WOk.skip {bs:List DBlock} {M:List Bool} {st:List (Nat × List Int)} {o:List Int} {n:Nat} {g:Int} {l:List Int} (h:WOk bs M ((n,g :: l) :: st) o):WOk bs M ((n,l) :: st) o :=
 ⟨h.len, fun p hp => by
  rcases List.mem_cons.1 hp with rfl | hp
  ·exact ⟨(h.at_ _ Cy).1,fun g' hg=>(h.at_ _ Cy).2 g' (Cz _ hg)⟩
  ·exact h.at_ p (Cz _ hp),h.room⟩
theorem WOk.enter {bs:List DBlock} {M:List Bool} {st:List (Nat × List Int)} {o:List Int} {n:Nat} {g:Int} {l:List Int} (h:WOk bs M ((n,g :: l) :: st) o) (hg:M[g.toNat]? = some false):WOk bs (M.set g.toNat true) ((g.toNat,au bs g.toNat) :: (n,l) :: st) o:=by
 refine ⟨by rw [List.length_set]; exact h.len,fun p hp=>?_,?_⟩
 ·rcases List.mem_cons.1 hp with rfl | hp
  ·exact ⟨((h.at_ _ Cy).2 g Cy).2,fun g' hg=>df hg⟩
  ·exact h.skip.at_ p hp
 ·have:=h.room
  rw [lj hg]
  simp at this ⊢
  omega
theorem WOk.cap {bs:List DBlock} {M:List Bool} {st:List (Nat × List Int)} {o:List Int} (h:WOk bs M st o):st.length + o.length<=bs.length:=by
 have:=wb M
 have:=h.room
 rw [<- h.len]
 omega
theorem dec7 {n:Nat} (h:0 < n) (hn:n<=9223372036854775807):pbin (.int .i64) .sub (I (n:Int)) (I (1:Int))=some (I ((n - 1:Nat):Int)):=by
 have h1:IntKind.i64.wrap ((n:Int) - 1)=((n - 1:Nat):Int):=by rw [IntKind.wrap_i64]; omega
 show some (TV.lit (.int .i64 (IntKind.i64.wrap ((n:Int) - 1))))=_
 rw [h1]
theorem lL {g:Int} (h0:0<=g) (hi:inI g):al (I g)=some g.toNat:=by
 show (if 0<=g/\g<=9223372036854775807 then some g.toNat else none)=some g.toNat
 exact if_pos ⟨h0,hi.2⟩
section
variable {s:Nat} {α:Type} {R:List TV->α->Prop} {y:TV} {l:List α} {q:Option Bool}
theorem RL.deep (hy:RL q s R y l) {i j:Nat} {e:List TV} {z:TV} (he:Go.Ab.pel y i=some e) (hj:e[j]? = some z):cD [(i,j)] y=some z:=by
 rcases hy with ⟨rfl,rfl⟩ | ⟨o,xs,rfl,hq,h,hb⟩
 ·simp [Go.Ab.pel] at he
 ·have he:xs[i]? = some e:=he
  simp only [cD,he,hj]
theorem RL.winD (hy:RL q s R y l) {k:Nat} (hk:k<=l.length):∃ y',d7 k (l.length - k) y=some y'/\RL q s R y' (l.drop k):=by
 rcases hy with ⟨rfl,rfl⟩ | ⟨o,xs,rfl,hq,h,hb⟩
 ·have:k=0:=by simpa using hk
  subst this
  exact ⟨.lit aJ,rfl,by simpa using RL.nil⟩
 ·have hxl:=h.length
  refine ⟨.sl o s ((xs.drop k).take (l.length - k)),?_,.sl hq ?_ (by simp; omega)⟩
  ·simp only [d7]
   rw [if_pos (by omega)]
  ·have:=(h.drop k).take (l.length - k)
   rwa [List.take_of_length_le (l:=l.drop k) (by simp)] at this
end
def RV (q:Option Bool) (e:List TV) (p:Nat × List Int):Prop:=∃ v,e=[I p.1,v]/\RInts q v p.2
theorem RV.weak {q:Option Bool} {e:List TV} {p:Nat × List Int} (h:RV q e p):RV none e p:=by
 obtain ⟨v,rfl,h⟩:=h
 exact ⟨v,rfl,h.weak fun _ _ h=>h⟩
theorem RL.toN {y:TV} {l:List (Nat × List Int)} {q:Option Bool} (h:RL (some true) 2 (RV q) y l):RL (some true) 2 (RV none) y l:=by
 rcases h with ⟨rfl,rfl⟩ | ⟨o,xs,rfl,hq,h,hb⟩
 ·exact .nil
 ·exact .sl hq (h.mono fun _ _ h=>h.weak) hb
theorem RL.cooled {y:TV} {l:List (Nat × List Int)} {q:Option Bool} (h:RL (some true) 2 (RV q) y l):RL (some true) 2 (RV (some false)) (di y) l:=by
 rcases h with ⟨rfl,rfl⟩ | ⟨o,xs,rfl,hq,h,hb⟩
 ·exact .nil
 ·refine .sl hq ?_ (by rw [iS,List.length_map]; exact hb)
  rw [iS]
  exact h.mapL fun e p hp=>by
   obtain ⟨v,rfl,hv⟩:=hp
   exact ⟨Ab.frz v,rfl,hv.frz fun _ _ h=>h.frz⟩
end Go.Ab
namespace Go.Ab.Q12
open Go Go.Ab Go.Proofs
theorem Bb {L:List Int}:∀ (d i:Nat) (j:Int) (w:TV) (cur:List Int),(i:Int) + j=(L.length:Int) - 1->j - (i:Int)<=(d:Int)->i<=L.length->RInts (some true) w cur->cur.length=L.length ->
  (∀ k:Nat,k < L.length->cur[k]? = if k < i\/j < (k:Int) then L[L.length - 1 - k]? else L[k]?)->∃ y,aa prog 24 (f24_3 (I i) (I j) w) y/\RInts (some true) y L.reverse:=by
 have fin:∀ (i:Nat) (j:Int) (w:TV) (cur:List Int),(i:Int) + j=(L.length:Int) - 1->¬ (i:Int) < j->RInts (some true) w cur->cur.length=L.length ->
  (∀ k:Nat,k < L.length->cur[k]? = if k < i\/j < (k:Int) then L[L.length - 1 - k]? else L[k]?)->∃ y,aa prog 24 (f24_3 (I i) (I j) w) y/\RInts (some true) y L.reverse:=by
  intro i j w cur hij hn hw hcl hk
  have e:cur=L.reverse:=by
   apply List.ext_getElem?
   intro k
   by_cases h:k < L.length
   ·rw [hk k h,List.getElem?_reverse h]
    split
    ·rfl
    ·have:L.length - 1 - k=k:=by omega
     rw [this]
   ·rw [CE (by omega),CE (by simp; omega)]
  subst e
  refine ⟨w,?_,hw⟩
  unfold f24_3
  exact aa.tv rfl (aa.ite (v:=false) (by simp [asBool]; omega) nofun fun _=>aa.chk (hw.own fun _ _ h=>h.own) aa.ret)
 intro d
 induction d with
 | zero =>
  intro i j w cur hij hd hi hw hcl hk
  exact fin i j w cur hij (by omega) hw hcl hk
 | succ d ih =>
  intro i j w cur hij hd hi hw hcl hk
  by_cases hlt:(i:Int) < j
  ·have hbn:=hw.bnd
   obtain ⟨m,rfl⟩:∃ m:Nat,j=(m:Int):=⟨j.toNat,by omega⟩
   have hmc:m < cur.length:=by omega
   have hic:i < cur.length:=by omega
   obtain ⟨a,haa⟩:∃ a,a=cur[i]:=⟨_,rfl⟩
   obtain ⟨b,hbb⟩:∃ b,b=cur[m]:=⟨_,rfl⟩
   have ha:cur[i]? = some a:=by rw [haa]; exact Cr hic
   have hb:cur[m]? = some b:=by rw [hbb]; exact Cr hmc
   obtain ⟨e1,he1,rfl,hea⟩:=hw.pel ha
   obtain ⟨e2,he2,rfl,heb⟩:=hw.pel hb
   obtain ⟨w1,hw1,hr1⟩:=hw.kq he1 (d:=0) (ys:=[I b]) (a:=b) ⟨rfl,heb⟩
   have hb1:(cur.set i b)[m]? = some b:=by rw [List.getElem?_set_ne (by omega)]; exact hb
   obtain ⟨e3,he3,rfl,_⟩:=hr1.pel hb1
   obtain ⟨w2,hw2,hr2⟩:=hr1.kq he3 (d:=0) (ys:=[I a]) (a:=a) ⟨rfl,hea⟩
   obtain ⟨y,hy,hry⟩:=ih (i + 1) ((m - 1:Nat):Int) w2 _ (by omega) (by omega) (by omega) hr2 (by simpa using hcl) (fun k hkl=>by
    have hki:=hk i (by omega)
    have hkm:=hk m (by omega)
    rw [if_neg (by omega)] at hki hkm
    rw [List.getElem?_set,List.getElem?_set]
    by_cases h1:m=k
    ·subst h1
     rw [if_pos rfl,if_pos (by simpa using hmc),if_pos (by omega),<- ha,hki]
     congr 1
     omega
    ·rw [if_neg h1]
     by_cases h2:i=k
     ·subst h2
      rw [if_pos rfl,if_pos hic,if_pos (by omega),<- hb,hkm]
      congr 1
      omega
     ·rw [if_neg h2,hk k hkl]
      by_cases h3:k < i\/(m:Int) < (k:Int)
      ·rw [if_pos h3,if_pos (by omega)]
      ·rw [if_neg h3,if_neg (by omega)])
   refine ⟨y,?_,hry⟩
   have ani:al (I i)=some i:=bi (by omega)
   have anm:al (I m)=some m:=bi (by omega)
   have hm1:m < (cur.set i b).length:=by simpa using hmc
   unfold f24_3
   refine aa.tv rfl (aa.ite (v:=true) (by simp only [asBool]; exact congrArg some (decide_eq_true hlt)) (fun _=>?_) nofun)
   refine aa.nat hw.slLen (aa.nat anm (aa.chk (by simp [hw.slSize,hmc]) (aa.tvs he2 (aa.chk rfl ?_))))
   refine aa.nat hw.slLen (aa.nat ani (aa.chk (by simp [hw.slSize,hic]) (aa.tvs he1 (aa.chk rfl ?_))))
   refine aa.nat hw.slLen (aa.nat ani (aa.chk (by simp [hw.slSize,hic]) (aa.tvs he1 (aa.chk rfl (aa.tv hw1 ?_)))))
   refine aa.nat hr1.slLen (aa.nat anm (aa.chk (by simp only [hr1.slSize]; simpa using hmc) (aa.tvs he3 (aa.chk rfl (aa.tv hw2 ?_)))))
   exact aa.tv (inc hic hbn) (aa.tv (dec7 (by omega) (by omega)) (f24_3_J hy))
  ·exact fin i j w cur hij hlt hw hcl hk
end Go.Ab.Q12
end
section
set_option maxRecDepth 10000
namespace Go.Ab
theorem qy {α:Type} {l:List α} {a:α}:(l.reverse ++ [a])[l.length]? = some a:=by
 rw [CD (by simp)]; simp
end Go.Ab
namespace Go.Ab.Q12
open Go Go.Ab Go.Proofs
theorem xW {q:Option Bool} {b:TV} {f:DFunc} (hf:RFunc q [I f.params,I f.regs,b] f) (g:Int):∃ y,bn prog 48 [I g,.agg [I f.params,I f.regs,b]] y/\RInts (some true) y (gC f.blocks g):=by
 obtain ⟨v,h1,h2⟩:=r71 hf g
 refine ⟨v,?_,h2⟩
 refine bn.of (f48_MR _ _ _ _) ?_
 unfold f48_M
 exact aa.call h1 (aa.chk (bD h2.isSl) (aa.chk (h2.own fun _ _ h=>h.own) aa.ret))
section
variable {q:Option Bool} {b:TV} {f:DFunc} (hf:RFunc q [I f.params,I f.regs,b] f) (hs:f.blocks.length<=1000) {w2:TV} (h2:RInts (some true) w2 [0])
include hf hs h2
theorem yo:∀ (d:Nat) (M:List Bool) (st:List (Nat × List Int)) (o:List Int) (w3 w4 w5:TV),work M st < d->WOk f.blocks M st o->RBools (some true) w3 M->RL (some true) 2 (RV (some false)) w4 st.reverse->RInts (some true) w5 o.reverse ->
  ∃ y M' o',aa prog 24 (f24_2 (I ((1:Nat):Int)) (I ((0:Nat):Int)) w2 (I f.params) (I f.regs) b w3 w4 w5) y/\RInts (some true) y o'/\Dfs f.blocks M st o M' o':=by
 intro d
 induction d with
 | zero=>intro M st o w3 w4 w5 hd; omega
 | succ d ih =>
  intro M st o w3 w4 w5 hd hw h3 h4 h5
  have hcap:=hw.cap
  match st,hd,hw,h4,hcap with
  | [],hd,hw,h4,hcap =>
   have hol:o.length<=1000:=by simp at hcap; omega
   obtain ⟨y,hy,hr⟩:=Bb (L:=o.reverse) o.reverse.length 0 ((o.reverse.length:Int) - 1) w5 o.reverse (by simp) (by simp; omega) (by simp) h5 rfl (fun k hk=>by rw [if_neg (by omega)])
   refine ⟨y,M,o,?_,by simpa using hr,.done⟩
   unfold f24_2
   refine aa.tv h4.len (aa.tv rfl (aa.ite (v:=false) (by simp [asBool]) nofun fun _=>aa.tv (inc (k:=0) (n:=1) (by omega) (by omega)) (f24_1_J ?_)))
   unfold f24_1
   exact aa.tv rfl (aa.ite dV nofun fun _=>aa.tv h5.len (aa.tv (psub (by simp only [List.length_reverse]; constructor <;> omega)) (f24_3_J hy)))
  | (n, l) :: st', hd, hw, h4, hcap =>
   have hol:st'.length + o.length < 1000:=by simp at hcap; omega
   have hlen:((n,l) :: st').reverse.length=st'.length + 1:=by simp
   have hlast:((n,l) :: st').reverse[st'.length]? = some (n,l):=by rw [List.reverse_cons]; exact qy
   have h4b:=h4.bnd
   obtain ⟨e,he,v,rfl,hv⟩:=h4.pel hlast
   have hgp:=h4.deep he (j:=1) (z:=v) rfl
   have hnat:al (I (st'.length:Nat))=some st'.length:=bi (by omega)
   have hsub:pbin (.int .i64) .sub (I (((n,l) :: st').reverse.length:Nat)) (I 1)=some (I (st'.length:Nat)):=by
    have:=dec7 (n:=((n,l) :: st').reverse.length) (by omega) (by omega)
    rw [this,hlen]; rfl
   have hchk:(Bool.and (slSize w4 2) (Nat.blt st'.length ((n,l) :: st').reverse.length))=true:=by rw [h4.slSize,hlen]; simp
   have hfit1:ah zSl [I (n:Int),v] 1=true:=by
    show (v.isSl && true)=true
    rw [hv.isSl]; rfl
   have hfit2:gI zSl [I (n:Int),v] 1=true:=by
    show ((v.isSl || v.A8) && true)=true
    rw [hv.isSl]; rfl
   have hgtr:asBool (.lit (.bool (decide (((((n,l) :: st').reverse.length:Nat):Int) > 0))))=some true:=by rw [hlen]; simp [asBool]
   match l,hd,hw,h4,hlast,hv,hsub,hchk,hlen,hgtr with
   | [], hd, hw, h4, hlast, hv, hsub, hchk, hlen, hgtr =>
    obtain ⟨w5',k1,k2⟩:=h5.app (e:=[I (n:Int)]) (a:=(n:Int)) ⟨rfl,by constructor <;> (have:=(hw.at_ _ Cy).1; simp at this; omega)⟩ (by simp; omega)
    obtain ⟨w4',k3,k4⟩:=h4.win (k:=st'.length) (by omega)
    have e4:((n,([]:List Int)) :: st').reverse.take st'.length=st'.reverse:=by
     rw [List.reverse_cons,List.take_append_of_le_length (by simp),List.take_of_length_le (by simp)]
    rw [e4] at k4
    obtain ⟨y,M',o',hy,hr,hD⟩:=ih M st' ((n:Int) :: o) w3 (di w4') w5' (by simp [work] at hd ⊢; omega) hw.leave h3 k4.cooled (by rw [List.reverse_cons]; exact k2)
    refine ⟨y,M',o',?_,hr,.leave hD⟩
    unfold f24_2
    refine aa.tv h4.len (aa.tv rfl (aa.ite (v:=true) hgtr (fun _=>?_) nofun))
    refine aa.tv h4.len (aa.tv hsub (aa.nat h4.slLen (aa.nat hnat (aa.chk hchk (aa.tvs he (aa.chk hfit1 (aa.tv hgp (aa.tv hv.len (aa.tv rfl (aa.ite (v:=true) rfl (fun _=>?_) nofun)))))))))) 
    refine aa.tv h4.len (aa.tv hsub (aa.nat h4.slLen (aa.nat hnat (aa.chk hchk (aa.tvs he (aa.chk rfl (aa.rws rfl (aa.tv k1 (aa.nat h4.slLen (aa.nat hnat (aa.chk ?_ (aa.tv k3 (f24_2_J hy)))))))))))))
    rw [h4.slSize,hlen]; simp
   | g :: l, hd, hw, h4, hlast, hv, hsub, hchk, hlen, hgtr =>
    have hg:=(hw.at_ _ Cy).2 g Cy
    obtain ⟨eg,heg,rfl,hgi⟩:=hv.pel (i:=0) (a:=g) rfl
    obtain ⟨v',c1,c2⟩:=hv.winD (k:=1) (by simp)
    have e1:(g :: l).drop 1=l:=rfl
    rw [e1] at c2
    obtain ⟨w4',k1,k2⟩:=h4.kq he (d:=1) (ys:=[v']) (a:=(n,l)) ⟨v',rfl,c2⟩
    have e4:((n,g :: l) :: st').reverse.set st'.length (n,l)=((n,l) :: st').reverse:=by
     rw [List.reverse_cons,List.reverse_cons,List.set_append_right _ _ (by simp)]
     simp
    rw [e4] at k2
    have hMl:g.toNat < M.length:=by rw [hw.len]; exact hg.2
    have hMg:M[g.toNat]? = some M[g.toNat]:=Cr hMl
    obtain ⟨em,hem,hRm⟩:=h3.pel hMg
    cases hRm
    have hgn:al (I g)=some g.toNat:=lL hg.1 hgi
    have h3b:=h3.bnd
    have hvl:(g :: l).length=l.length + 1:=rfl
    have front:∀ {r:TV},(M[g.toNat]=false->aa prog 24 (Prg.nat (slLen w3) fun n50=>Prg.nat (al (nth TV.hole [I g] 0)) fun n51=>Prg.chk (Bool.and (slSize w3 1) (Nat.blt n51 n50)) (Prg.tvs (pel w3 n51) fun e52=>Prg.chk (ah ck e52 0) (Prg.tv (gY [] w3 n51 0 [TV.lit (Value.bool true)]) fun v53 =>
      Prg.call 48 [sU (nth TV.hole [I g] 0),TV.agg [I f.params,I f.regs,b]] fun v54=>Prg.chk (ah zSl [v54] 0) (Prg.rws (pelems 2 (TV.sl true 2 (chunks 2 1 [nth TV.hole [I g] 0,v54]))) fun r55=>Prg.tv (papp 2 w4' r55) fun v56=>Prg.jmp [0,0,1,1,0,0,1,1,0,0,1,0,1,1,12,0,1,1] (f24_2_S (I ((1:Nat):Int)) (I ((0:Nat):Int)) w2 (I f.params) (I f.regs) b v53 (di v56) w5))))) r) ->
      (M[g.toNat]=true->aa prog 24 (Prg.jmp [0,0,1,1,0,0,1,1,0,0,1,0,1,1,12,0,1,1] (f24_2_S (I ((1:Nat):Int)) (I ((0:Nat):Int)) w2 (I f.params) (I f.regs) b w3 (di w4') w5)) r)->aa prog 24 (f24_2 (I ((1:Nat):Int)) (I ((0:Nat):Int)) w2 (I f.params) (I f.regs) b w3 w4 w5) r:=fun {r} k0 k9=>by
     unfold f24_2
     refine aa.tv h4.len (aa.tv rfl (aa.ite (v:=true) hgtr (fun _=>?_) nofun))
     refine aa.tv h4.len (aa.tv hsub (aa.nat h4.slLen (aa.nat hnat (aa.chk hchk (aa.tvs he (aa.chk hfit1 (aa.tv hgp (aa.tv hv.len (aa.tv rfl (aa.ite (v:=false) (by simp [asBool]; omega) nofun fun _=>?_))))))))))
     refine aa.tvs he (aa.chk hfit1 (aa.tv hgp (aa.nat hv.slLen (aa.nat (v:=0) rfl (aa.chk ?_ (aa.tv hgp (aa.tvs heg (aa.chk rfl ?_))))))))
     ·rw [hv.slSize]; simp
     refine aa.tvs he (aa.chk hfit1 (aa.tv hgp (aa.nat hv.slLen (aa.nat (v:=1) rfl (aa.chk ?_ (aa.tv hgp (aa.tv c1 (aa.chk c2.gB ?_))))))))
     ·rw [hv.slSize]; simp
     refine aa.tvs he (aa.chk ?_ (aa.tv k1 (aa.nat h3.slLen (aa.nat hgn (aa.chk ?_ (aa.tvs hem (aa.chk rfl (aa.tv rfl (aa.ite rfl (fun h=>k0 ?_) fun h=>k9 ?_)))))))))
     ·rw [hfit2,bD c2.isSl]; rfl
     ·rw [h3.slSize]; simpa using hMl
     ·simpa using h
     ·simpa using h
    cases hm:M[g.toNat] with
    | true =>
     obtain ⟨y,M',o',hy,hr,hD⟩:=ih M ((n,l) :: st') o w3 (di w4') w5 (by simp [work] at hd ⊢; omega) hw.skip h3 k2.cooled h5
     exact ⟨y,M',o',front (fun h=>by rw [hm] at h; cases h) (fun _=>f24_2_J hy),hr,.skip (by rw [hMg,hm]) hD⟩
    | false =>
     rw [hm] at hMg
     obtain ⟨w3',c3,c4⟩:=h3.kq hem (d:=0) (ys:=[B true]) (a:=true) rfl
     obtain ⟨vn,c5,c6⟩:=xW hf g
     have e6:gC f.blocks g=au f.blocks g.toNat:=by rw [gC,if_pos hg.1]
     rw [e6] at c6
     have hgg:((g.toNat:Nat):Int)=g:=by omega
     obtain ⟨w4'',c7,c8⟩:=(RL.app (R:=RV none) (k2.toN) (e:=[I g,vn]) (a:=(g.toNat,au f.blocks g.toNat)) ⟨vn,by rw [hgg],c6.weak fun _ _ h=>h⟩ (by simp; omega))
     obtain ⟨y,M',o',hy,hr,hD⟩:=ih (M.set g.toNat true) ((g.toNat,au f.blocks g.toNat) :: (n,l) :: st') o w3' (di w4'') w5 (by
      have h1:=count_set hMg
      have h2:=jU f.blocks g.toNat
      simp only [work,List.map_cons,List.sum_cons,List.length_cons] at hd ⊢
      omega) (hw.enter hMg) c4 (by rw [List.reverse_cons]; exact c8.cooled) h5
     refine ⟨y,M',o',front (fun _=>?_) (fun h=>by rw [hm] at h; cases h),hr,.enter hMg hD⟩
     refine aa.nat h3.slLen (aa.nat hgn (aa.chk ?_ (aa.tvs hem (aa.chk rfl (aa.tv c3 (aa.call c5 (aa.chk (bD c6.isSl) (aa.rws rfl (aa.tv c7 (f24_2_J hy))))))))))
     rw [h3.slSize]; simpa using hMl
end
theorem r80 {q:Option Bool} {e:List TV} {f:DFunc} (he:RFunc q e f) (hs:f.blocks.length<=1000):∃ y o,bn prog 24 [.agg e] y/\RInts (some true) y o/\mA f.blocks o:=by
 have he0:=he
 obtain ⟨b,rfl,hb,_⟩:=he
 by_cases h0:f.blocks=[]
 ·refine ⟨.lit aJ,[],?_,.nil,.inl ⟨h0,rfl⟩⟩
  refine bn.of (f24_MR _) ?_
  unfold f24_M
  exact aa.chk rfl (aa.tv hb.len (aa.tv rfl (aa.ite (v:=true) (by simp [asBool,h0]) (fun _=>aa.chk rfl aa.ret) nofun)))
 ·have hl:0 < f.blocks.length:=List.length_pos_iff.2 h0
  have hrep:RBools (some true) (.sl true 1 (List.replicate f.blocks.length [B false])) (List.replicate f.blocks.length false):=.sl (by simp) (F2.xd (by simp) fun i e a he ha=>by
   rw [List.getElem?_replicate] at he ha
   split at he
   ·rename_i h; rw [if_pos h] at ha; cases he; cases ha; rfl
   ·cases he) (by simp; omega)
  obtain ⟨e7,he7,hR⟩:=hrep.pel (i:=0) (a:=false) (by rw [List.getElem?_replicate,if_pos hl])
  cases hR
  obtain ⟨w3,c1,c2⟩:=hrep.kq he7 (d:=0) (ys:=[B true]) (a:=true) rfl
  obtain ⟨v,c3,c4⟩:=xW he0 ((0:Nat):Int)
  rw [gU] at c4
  have h2:RInts (some true) (.sl true 1 [[I ((0:Nat):Int)]]) [0]:=.sl (by simp) (.cons ⟨rfl,by constructor <;> decide⟩ .nil) (by decide)
  obtain ⟨w4,c5,c6⟩:=(RL.nil:RL (some true) 2 (RV none) (.lit aJ) []).app (e:=[I ((0:Nat):Int),v]) (a:=(0,au f.blocks 0)) ⟨v,rfl,c4.weak fun _ _ h=>h⟩ (by simp)
  have hw:WOk f.blocks ((List.replicate f.blocks.length false).set 0 true) [(0,au f.blocks 0)] []:=⟨by simp,fun p hp=>by
   rw [List.mem_singleton] at hp
   subst hp
   exact ⟨hl,fun g hg=>df hg⟩,by rw [lj (by rw [List.getElem?_replicate,if_pos hl])]; simp⟩
  obtain ⟨y,M',o',hy,hr,hD⟩:=yo he0 hs h2 _ _ _ [] w3 (di w4) (.lit aJ) (Nat.lt_succ_self _) hw c2 c6.cooled .nil
  refine ⟨y,o',?_,hr,.inr ⟨h0,M',hD⟩⟩
  have hn:al (I (f.blocks.length:Nat))=some f.blocks.length:=bi (by omega)
  refine bn.of (f24_MR _) ?_
  unfold f24_M
  have hk:Nat.ble f.blocks.length 4294967296=true:=by simp; omega
  refine aa.chk rfl (aa.tv hb.len (aa.tv rfl (aa.ite (v:=false) (by simp [asBool]; omega) nofun fun _=>?_)))
  refine aa.tv hb.len (aa.nat hn (aa.nat hn (aa.chk (by simp [hk]) (aa.chk rfl (aa.chk rfl (f24_0_J ?_))))))
  unfold f24_0
  refine aa.tv h2.len (f24_1_J ?_)
  unfold f24_1
  have hck:(Bool.and (slSize (.sl true 1 (List.replicate f.blocks.length [B false])) 1) (Nat.blt 0 (List.replicate f.blocks.length false).length))=true:=by rw [hrep.slSize]; simpa using hl
  refine aa.tv rfl (aa.ite (v:=true) rfl (fun _=>?_) nofun)
  refine aa.nat h2.slLen (aa.nat (v:=0) rfl (aa.chk rfl (aa.tvs (v:=[I ((0:Nat):Int)]) rfl (aa.chk rfl ?_))))
  refine aa.nat hrep.slLen (aa.nat (v:=0) rfl (aa.chk hck (aa.tvs he7 (aa.chk rfl (aa.tv rfl (aa.ite (v:=true) rfl (fun _=>?_) nofun))))))
  refine aa.nat hrep.slLen (aa.nat (v:=0) rfl (aa.chk hck (aa.tvs he7 (aa.chk rfl (aa.tv c1 ?_)))))
  exact aa.call c3 (aa.chk (bD c4.isSl) (aa.rws rfl (aa.tv c5 (f24_2_J hy))))
end Go.Ab.Q12
end

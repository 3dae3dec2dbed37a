import Derived.Test.YtljcpjlpggnolaaQX11S
import Derived.Shelf.SlSortCmp.NoneTotal
import Derived.Shelf.Sort.Plain
import Derived.Shelf.Slices.In.SortNone
import Derived.Test.YtljcpjlpggnolaaQM2
set_option linter.all false
section
set_option maxRecDepth 10000
namespace Go.Ab
open Go.Sort Go.RowKit Go.Proofs Go.Shelf
variable {P:Program} {ρ:Ren} {G:Laid}
theorem xc:∀ {rows:List (List TV)} {l:List Int},rx rows=some l→rows=bC l
 | [],l,h=>by simp only [rx,Gw] at h; subst h; rfl
 | r :: rows, l, h => by
  unfold rx at h
  split at h
  ·rename_i he
   cases he
  ·rename_i n l' he
   injection he with e1 e2
   subst e1 e2
   cases hr:rx rows with
   | none=>rw [hr] at h; cases h
   | some r =>
    rw [hr] at h
    cases h
    rw [xc hr]
    rfl
  ·cases h
theorem wc {α:Type} {l:List α} (h:mI l=true):l.length < 4611686018427387904:=Nat.le_of_ble_eq_true h
theorem am.rY {w:World} {I:Nat→Prop} {c u:Value} {S:Nat→Prop} (h:am w I (.lit c) u S):u=c:=by
 cases h with
 | fr h=>cases h; rfl
theorem Rep.rY {w:World} {I:Nat→Prop} {c u:Value} (h:Rep w I (.lit c) u):u=c:=by
 cases h; rfl
theorem args1 {vals:Array Value} {n:Nat} {v:Value} (hs:vals.size=1) (h:vals.getD 0 undef=v):vals=#[v]:=by
 match vals,hs with
 | ⟨[x]⟩,_ => 
  have h:x=v:=h
  rw [h]
theorem args2 {vals:Array Value} {v u:Value} (hs:vals.size=2) (h:vals.getD 0 undef=v) (h':vals.getD 1 undef=u):vals=#[v,u]:=by
 match vals,hs with
 | ⟨[x,y]⟩,_ => 
  have h:x=v:=h
  have h':y=u:=h'
  rw [h,h']
theorem wG {a:Addr} (h:a.spot=none):a=⟨a.block,a.off,none⟩:=by cases a; simp only at h; subst h; rfl
theorem sM {w:World}:Below w.heap.size w w:=Below.refl _ _
theorem xA {f:FuncId} (Ly:Lays.n189 P ρ) (hf:ρ.f 189=f) (he:∀ args w,(callFunc f args).run P w=.ok (.enter f args) w) {xs:List TV} {r:TV} (h:uR xs=some r):s7 P G f xs r:=by
 subst hf
 unfold uR at h
 split at h
 ·cases h
  refine ⟨.lit aK,[],rfl,.inl ⟨rfl,rfl,fun I w vals hs h0 _=>⟨he _ _,?_⟩⟩⟩
  rw [args1 (n:=0) hs h0]
  exact (Any.slices_Sort_int_none Ly none 0 w).mono fun e w' ⟨h1,h2⟩=>⟨h1,by rw [h2]; exact sM⟩
 ·rename_i rows
  cases hr:rx rows with
  | none=>rw [hr] at h; cases h
  | some zs =>
   rw [hr] at h
   cases hsh:mI zs with
   | false=>simp only [hsh,cond_false] at h; cases h
   | true =>
    simp only [hsh,cond_true,Gw] at h
    subst h
    have hsh:=wc hsh
    have hrows:=xc hr
    have hlen:rows.length=zs.length:=by rw [hrows]; simp [bC]
    refine ⟨.sl true 1 rows,[],rfl,.inr ⟨rows,bC (isB leI zs),rfl,rfl,by rw [hlen]; simp [bC,(ci (le:=leI) zs).length_eq],?_⟩⟩
    intro I w a cap us vs ty F vals hG hIl hheap hspot hnI hfit hul hus hone hrl hrep hF hvs h0 _
    refine ⟨he _ _,?_⟩
    rw [args1 (n:=0) hvs h0]
    have hu:us=zs.map (Value.int .i64):=by
     refine List.ext_getElem? fun k=>?_
     by_cases hk:k < rows.length
     ·have hz:k < zs.length:=by omega
      have h1:rows[k]? = some [.lit (.int .i64 zs[k])]:=by rw [hrows]; simp [bC,hz]
      have:=(hrep k _ (.lit (.int .i64 zs[k])) h1 rfl).rY
      rw [GJ,Gv (by omega)] at this
      have this:us[k]=.int .i64 zs[k]:=this
      rw [Gv (by omega),this]
      simp [hz]
     ·rw [GG (by omega),GG (by simp; omega)]
    have hH:Holds (Value.int .i64) w a.block a.off zs.toArray:=by
     refine xF hheap fun k hk=>?_
     have hk:k < zs.length:=by simpa using hk
     rw [hus k (by omega),hu]
     simp [hk]
    have hw:=Any.slices_Sort_int Ly a.block a.off cap zs w hH (Gz.1 hheap).1 hsh
    rw [wG hspot,hlen]
    refine hw.mono fun e w' ⟨h1,n,os,h2⟩=>⟨h1,?_⟩
    rw [CD] at h2
    have hl2:=(ci (le:=leI) zs).length_eq
    obtain ⟨g1,g2,g3,g4,g5,g6⟩:=kI hheap (by simp only [List.size_toArray]; omega) h2
    obtain ⟨σ,s1,s2⟩:=xB (ci (le:=leI) zs)
    refine ⟨g1,g2,g3,g4,g5,(isB leI zs).map (Value.int .i64),σ,by rw [hul,hlen]; simp [hl2],by simpa using g6,fun k hk=>?_,fun k k' hk hk'=>s2 k k' (by omega) (by omega)⟩
    obtain ⟨t1,t2⟩:=s1 k (by omega)
    refine ⟨by omega,?_,?_⟩
    ·rw [hu,GA,GA,t2]
    ·rw [hrows]
     simp only [bC,GA,t2]
 ·cases h
theorem AZ:∀ {rows:List (List TV)} {l:List (List Int)},yH rows=some l→rows=gH l
 | [],l,h=>by simp only [yH,Gw] at h; subst h; rfl
 | r :: rows, l, h => by
  unfold yH at h
  split at h
  ·rename_i he
   cases he
  ·rename_i x l' he
   injection he with e1 e2
   subst e1 e2
   split at h
   ·rename_i k r hk hr
    cases h
    rw [AZ hr]
    unfold FK at hk
    split at hk
    ·rw [xc hk]
     rfl
    ·cases hk
   ·cases h
  ·cases h
def Cmps (P:Program) (g:FuncId):Prop:=∀ (b1 o1 n c b2 o2 m d:Nat) (xs ys:List Int) (w:World),xs.length=n→ys.length=m→n≤9223372036854775807→m≤9223372036854775807→(∀ j,j < xs.length→w.cell? ⟨b1,o1 + j,none⟩=some (.int .i64 (xs.getD j 0)))→(∀ j,j < ys.length→w.cell? ⟨b2,o2 + j,none⟩=some (.int .i64 (ys.getD j 0))) →
  Calls P g #[.slice (some ⟨b1,o1,none⟩) n c,.slice (some ⟨b2,o2,none⟩) m d] w fun e w'=>e=.returned (.int .i64 (dJ xs ys))∧∃ q,w'=w.drewN q
def Els (w:World) (blk:Nat) (p:Value × List Int):Prop:=∃ b off cap vs ty,p.1=.slice (some ⟨b,off,none⟩) p.2.length cap∧b≠blk∧b < w.heap.size∧p.2.length≤9223372036854775807∧w.heap[b]? = some (.cells vs ty (0,0))∧∀ j,j < p.2.length→vs[off + j]? = some (.int .i64 (p.2.getD j 0))
theorem yj (ks:List Int):(bC ks).flatten=ks.map fun n=>.lit (.int .i64 n):=by
 induction ks with
 | nil=>rfl
 | cons x l ih =>
  show [TV.lit (.int .i64 x)] ++ (bC l).flatten=_
  rw [ih]
  rfl
theorem els_of {w:World} {I:Nat→Prop} {ks:List Int} {v:Value} {S:Nat→Prop} {blk:Nat} (h:am w I (.sl true 1 (bC ks)) v S) (hS:∀ b,S b→b≠blk∧b < w.heap.size):Els w blk (v,ks):=by
 cases h with
 | fr h=>cases h
 | @sl _ _ a cap S us vs ty F hSa row hl hr hF hd =>
  have hlen:(bC ks).length=ks.length:=by simp [bC]
  refine ⟨a.block,a.off,cap,vs,ty,by rw [← wG row.spot,hlen],(hS _ hSa).1,(hS _ hSa).2,?_,row.heap,fun j hj=>?_⟩
  ·have h1:=row.le
   have h2:=row.max
   unfold maxLen at h2
   show ks.length≤_
   omega
  ·have hj:j < ks.length:=hj
   have e1:(bC ks).flatten[j]? = some (.lit (.int .i64 (ks.getD j 0))):=by
    rw [yj,GA,Gv hj,GJ,Gv hj]
    rfl
   have e2:=(hr j _ e1).rY
   have hrl:=row.len
   rw [row.cells j (by omega),Gv (by omega)]
   rw [GJ,Gv (by omega)] at e2
   have e2:us[j]'(by omega)=_:=e2
   rw [e2]
section
variable {w:World} {blk:Nat}
abbrev El (w:World) (blk:Nat):={ p:Value × List Int // Els w blk p }
def ym (p:El w blk):Value:=p.1.1
def cfE (x y:El w blk):Int:=dJ x.1.2 y.1.2
theorem ltE (x y:El w blk):ltOf cfE x y=decide (dJ x.1.2 y.1.2 < 0):=rfl
theorem swoE:SWO (ltOf (cfE (w:=w) (blk:=blk))) where
 irrefl x:=by rw [ltE,uZ]; rfl
 trans x y z h1 h2:=by
  rw [ltE,decide_eq_true_eq] at *
  exact wk h1 (by omega)
 ntrans x y z h1 h2:=by
  rw [ltE,decide_eq_false_iff_not] at *
  have a:leL y.1.2 x.1.2=true:=by rw [leL,decide_eq_true_eq,ia x.1.2 y.1.2]; omega
  have b:leL z.1.2 y.1.2=true:=by rw [leL,decide_eq_true_eq,ia y.1.2 z.1.2]; omega
  have c:=qg _ _ _ b a
  rw [leL,decide_eq_true_eq,ia x.1.2 z.1.2] at c
  omega
theorem laysE [Inhabited (El w blk)] {g:FuncId} (hg:Cmps P g) {vs:Array Value} {ty:TypeId} (hb:w.heap[blk]? = some (.cells vs ty (0,0))) {off size:Nat} (hfit:off + size≤vs.size):CmpLays1 P g #[] (ym (w:=w) (blk:=blk)) cfE blk off size w:=by
 intro m os dk hdk x y
 obtain ⟨⟨v1,k1⟩,b1,o1,c1,vs1,ty1,h11,h12,h13,h14,h15,h16⟩:=x
 obtain ⟨⟨v2,k2⟩,b2,o2,c2,vs2,ty2,h21,h22,h23,h24,h25,h26⟩:=y
 have h11:v1=.slice (some ⟨b1,o1,none⟩) k1.length c1:=h11
 have h21:v2=.slice (some ⟨b2,o2,none⟩) k2.length c2:=h21
 subst h11 h21
 obtain ⟨W,hW⟩:∃ W,sortWorld (ym (w:=w) (blk:=blk)) w blk off m dk os=W:=⟨_,rfl⟩
 obtain ⟨_,_,_,_,g5,_⟩:=kI (enc:=ym (w:=w) (blk:=blk)) (off:=off) (n:=m) (d:=dk) (os:=os) hb (by omega) (w':=W) hW.symm
 rw [hW]
 have hc:∀ {b o:Nat} {k:List Int} {vs:Array Value} {ty:TypeId},b≠blk→b < w.heap.size→w.heap[b]? = some (.cells vs ty (0,0))→(∀ j,j < k.length→vs[o + j]? = some (.int .i64 (k.getD j 0)))→∀ j,j < k.length→W.cell? ⟨b,o + j,none⟩=some (.int .i64 (k.getD j 0)):=by
  intro b o k vs ty hne hlt hh hk j hj
  unfold World.cell?
  rw [show ((⟨b,o + j,none⟩:Addr).block)=b from rfl,g5 b hlt hne,hh]
  exact hk j hj
 exact (hg b1 o1 k1.length c1 b2 o2 k2.length c2 k1 k2 W rfl rfl h14 h24 (hc h12 h13 h15 h16) (hc h22 h23 h25 h26)).mono fun e w' ⟨e1,q,e2⟩=>⟨e1,q,#[],by rw [e2,grow_empty]⟩
end
theorem wj {f cmp : FuncId} (L : SlLaysF.n6 P ρ) (hf : ρ.f 6 = f) (he : ∀ args w, (callFunc f args).run P w = .ok (.enter f args) w) (hce : ∀ args w, (callFunc cmp args).run P w = .ok (.enter cmp args) w) (hcmp : Cmps P cmp) {xs : List TV} {r : TV} (h : oj cmp xs = some r) : s7 P G f xs r := by
 subst hf
 unfold oj at h
 split at h
 ·rename_i f as1 bs1
  cases hc:f.beq cmp && as1.toList.isEmpty && bs1.toList.isEmpty with
  | false=>rw [hc] at h; cases h
  | true =>
   rw [hc] at h
   cases h
   refine ⟨.lit aK,[_],rfl,.inl ⟨rfl,rfl,fun I w vals hs h0 h1=>⟨he _ _,?_⟩⟩⟩
   rw [args2 (u:=vals.getD 1 undef) hs h0 rfl]
   exact (AnyF.slices_SortFunc_none (P:=P) (ρ:=ρ) { L with } none 0 _ w).mono fun e w' ⟨g1,g2⟩=>⟨g1,by rw [g2]; exact sM⟩
 ·rename_i rows f as1 bs1
  cases hc:f.beq cmp && as1.toList.isEmpty && bs1.toList.isEmpty with
  | false=>rw [hc] at h; cases h
  | true =>
   rw [hc] at h
   simp only [Gx] at hc
   obtain ⟨⟨hc1,hc2⟩,hc3⟩:=hc
   have hc1:=Nat.eq_of_beq_eq_true hc1
   have hc2:as1=#[]:=by simpa using hc2
   have hc3:bs1=#[]:=by simpa using hc3
   subst hc1 hc2 hc3
   simp only [cond_true] at h
   cases hr:yH rows with
   | none=>rw [hr] at h; cases h
   | some ks =>
    rw [hr] at h
    cases hsh:mI ks with
    | false=>simp only [hsh,cond_false] at h; cases h
    | true =>
     simp only [hsh,cond_true,Gw] at h
     subst h
     have hsh:=wc hsh
     have hrows:=AZ hr
     have hlen:rows.length=ks.length:=by rw [hrows]; simp [gH]
     refine ⟨.sl true 1 rows,[_],rfl,.inr ⟨rows,gH (isB leL ks),rfl,rfl,by rw [hlen]; simp [gH,(ci (le:=leL) ks).length_eq],?_⟩⟩
     intro I w a cap us vs ty F vals hG hIl hheap hspot hnI hfit hul hus hone hrl hrep hF hvs h0 h1
     refine ⟨he _ _,?_⟩
     have hfun:vals.getD 1 undef=.func (.func f) #[] #[]:=by
      exact (h1 0 _ rfl).rY
     rw [args2 hvs h0 hfun,wG hspot,hlen]
     have hel:∀ k (hk:k < ks.length),Els w a.block (us.getD k undef,ks[k]):=fun k hk=>by
      have e1:rows[k]? = some [.sl true 1 (bC ks[k])]:=by rw [hrows]; simp [gH,hk]
      exact els_of (hrep k _ _ e1 rfl) fun b hb=>⟨(hF k b hb).1,(hF k b hb).2.1⟩
     by_cases hz:ks=[]
     ·subst hz
      have hus0:us=[]:=List.length_eq_zero_iff.1 (by rw [hul,hlen]; rfl)
      have hr0:rows=[]:=List.length_eq_zero_iff.1 hlen
      refine (AnyF.slices_SortFunc_none (P:=P) (ρ:=ρ) { L with } (some ⟨a.block,a.off,none⟩) cap (.func (.func f) #[] #[]) w).mono fun e w' ⟨g1,g2⟩=>⟨g1,?_⟩
      subst g2 hus0 hr0
      refine ⟨rfl,rfl,rfl,Nat.le_refl _,fun _ _ _=>rfl,[],id,rfl,?_,fun k hk=>absurd hk (Nat.not_lt_zero _),fun k k' hk=>absurd hk (Nat.not_lt_zero _)⟩
      rw [hheap]
      simp [spl]
     ·have hpos:0 < ks.length:=List.length_pos_iff.2 hz
      have:Inhabited (El w a.block):=⟨⟨_,hel 0 hpos⟩⟩
      obtain ⟨d,hd⟩:∃ d:Array (El w a.block),d=Array.ofFn fun k:Fin ks.length=>(⟨(us.getD k.1 undef,ks[k.1]),hel k.1 k.2⟩:El w a.block):=⟨_,rfl⟩
      have hds:d.size=ks.length:=by rw [hd]; simp
      have hdg:∀ k (hk:k < ks.length),d[k]'(by omega)=(⟨(us.getD k undef,ks[k]),hel k hk⟩:El w a.block):=fun k hk=>by simp [hd]
      have hdu:d.toList.map ym=us:=by
       refine List.ext_getElem? fun k=>?_
       by_cases hk:k < ks.length
       ·rw [GA,Gy,Array.getElem?_eq_getElem (by omega),hdg k hk,Gv (by omega)]
        show some (us.getD k undef)=_
        rw [GJ,Gv (by omega)]
        rfl
       ·rw [GG (by simp; omega),GG (by omega)]
      have hdk:d.toList.map (fun p=>p.1.2)=ks:=by
       refine List.ext_getElem? fun k=>?_
       by_cases hk:k < ks.length
       ·rw [GA,Gy,Array.getElem?_eq_getElem (by omega),hdg k hk,Gv (by omega)]
        rfl
       ·rw [GG (by simp; omega),GG (by omega)]
      have hH:Holds (ym (w:=w) (blk:=a.block)) w a.block a.off d:=by
       refine xF hheap fun k hk=>?_
       rw [hus k (by omega),← hdu,GA,Gy,Array.getElem?_eq_getElem hk,getElem!_pos d k hk]
       rfl
      have h1c:OneCell (ym (w:=w) (blk:=a.block)):=fun p=>by
       obtain ⟨⟨v,k⟩,b,o,c,vs,ty,hv,_⟩:=p
       have hv:v=.slice (some ⟨b,o,none⟩) k.length c:=hv
       show v.oneCell'=true
       rw [hv]
       rfl
      have hw:=Any.slices_SortFunc L (ym (w:=w) (blk:=a.block)) h1c cfE swoE f #[] a.block a.off cap d w hce (laysE hcmp hheap (by omega)) hH (Gz.1 hheap).1 (by omega)
      rw [← hds]
      refine hw.mono fun e w' ⟨e1,d',n,os,hp,hso,hw'⟩=>⟨e1,?_⟩
      have hds':=hp.1
      have hperm:d'.toList.Perm d.toList:=by
       have:=hp.2.2
       rw [← hds'] at this
       have e:d'.toList.take d.size=d'.toList:=List.take_of_length_le (by simp; omega)
       simp [hds'] at this
       rwa [e] at this
      have hkeys:d'.toList.map (fun p=>p.1.2)=isB leL ks:=by
       refine CW qg Bo Dm (by have:=hperm.map (fun p:El w a.block=>p.1.2); rwa [hdk] at this) ?_
       rw [List.pairwise_map,List.pairwise_iff_getElem]
       intro i j hi hj hij
       have hj:j < d'.size:=by simpa using hj
       have h:=hso i j (Nat.zero_le _) hij (by omega)
       rw [getElem!_pos d' j hj,getElem!_pos d' i (by omega),ltE,decide_eq_false_iff_not] at h
       rw [leL,decide_eq_true_eq,Array.getElem_toList,Array.getElem_toList,ia]
       omega
      obtain ⟨g1,g2,g3,g4,g5,g6⟩:=kI hheap (by omega) hw'
      obtain ⟨σ,s1,s2⟩:=xB hperm
      have hdl:d.toList.length=ks.length:=by simpa using hds
      refine ⟨g1,g2,g3,g4,g5,d'.toList.map ym,σ,by rw [hul,hlen]; simp; omega,g6,fun k hk=>?_,fun k k' hk hk'=>s2 k k' (by omega) (by omega)⟩
      obtain ⟨t1,t2⟩:=s1 k (by omega)
      refine ⟨by omega,?_,?_⟩
      ·rw [← hdu,GA,GA,t2]
      ·rw [hrows,← hkeys,← hdk]
       simp only [gH,GA,t2]
 ·cases h
end Go.Ab
end
section
set_option maxRecDepth 10000
namespace Go.Ab
def vL (l:List Int) (j:Nat):Bool:=j == 0 || l[j]? != l[j - 1]?
def dq (l:List Int):Nat→List Int
 | 0=>[]
 | n + 1=>dq l n ++ (if vL l n then [l.getD n 0] else [])
theorem oa {l:List Int} {j:Nat} {a c:Int} (hj:0 < j) (ha:l[j]? = some a) (hc:l[j - 1]? = some c) (hne:a≠c):dq l (j + 1)=dq l j ++ [a]:=by
 have:vL l j=true:=by unfold vL; rw [ha,hc]; simp [hne]
 rw [dq,if_pos this,GJ,ha]
 rfl
theorem oo {l:List Int} {j:Nat} {a:Int} (hj:0 < j) (ha:l[j]? = some a) (hc:l[j - 1]? = some a):dq l (j + 1)=dq l j:=by
 have:vL l j=false:=by unfold vL; rw [ha,hc]; simp; omega
 rw [dq,if_neg (by rw [this]; simp),List.append_nil]
theorem BP {l:List Int} (h:0 < l.length):dq l 1=l.take 1:=by
 cases l with
 | nil=>cases h
 | cons a l=>rfl
theorem zC {l:List Int} (hs:∀ i j:Nat,i < j→∀ a c,l[i]? = some a→l[j]? = some c→a≤c):∀ n:Nat,n≤l.length →
  (∀ a ∈ dq l n,∃ i,i < n∧l[i]? = some a)∧(∀ i,i < n→∀ a,l[i]? = some a→a ∈ dq l n)∧(dq l n).Pairwise (· < ·):=by
 intro n
 induction n with
 | zero=>intro _; exact ⟨fun a h=>by simp [dq] at h,fun i h=>absurd h (Nat.not_lt_zero _),by simp [dq]⟩
 | succ n ih =>
  intro hn
  obtain ⟨h1,h2,h3⟩:=ih (by omega)
  obtain ⟨a,ha⟩:∃ a,l[n]? = some a:=⟨_,Gv (by omega)⟩
  by_cases h0:n=0
  ·subst h0
   have e:dq l 1=[a]:=by
    rw [dq,if_pos (by simp [vL]),GJ,ha]; rfl
   rw [e]
   refine ⟨fun x hx=>⟨0,by omega,by rw [List.mem_singleton.1 hx]; exact ha⟩,fun i hi x hx=>?_,by simp⟩
   have:i=0:=by omega
   subst this
   rw [ha] at hx
   exact List.mem_singleton.2 (Option.some.inj hx).symm
  ·obtain ⟨c,hc⟩:∃ c,l[n - 1]? = some c:=⟨_,Gv (by omega)⟩
   by_cases hac:a=c
   ·subst hac
    rw [oo (by omega) ha hc]
    refine ⟨fun x hx=>?_,fun i hi x hx=>?_,h3⟩
    ·obtain ⟨i,hi,h⟩:=h1 x hx
     exact ⟨i,by omega,h⟩
    ·by_cases hin:i=n
     ·subst hin
      rw [ha] at hx
      cases hx
      exact h2 (i - 1) (by omega) a hc
     ·exact h2 i (by omega) x hx
   ·rw [oa (by omega) ha hc hac]
    refine ⟨fun x hx=>?_,fun i hi x hx=>?_,?_⟩
    ·rcases List.mem_append.1 hx with hx | hx
     ·obtain ⟨i,hi,h⟩:=h1 x hx
      exact ⟨i,by omega,h⟩
     ·exact ⟨n,by omega,by rw [List.mem_singleton.1 hx]; exact ha⟩
    ·by_cases hin:i=n
     ·subst hin
      rw [ha] at hx
      cases hx
      exact List.mem_append.2 (.inr (List.mem_singleton.2 rfl))
     ·exact List.mem_append.2 (.inl (h2 i (by omega) x hx))
    ·refine List.pairwise_append.2 ⟨h3,by simp,fun x hx y hy=>?_⟩
     rw [List.mem_singleton.1 hy]
     obtain ⟨i,hi,h⟩:=h1 x hx
     have hca:=hs (n - 1) n (by omega) c a hc ha
     by_cases hin:i=n - 1
     ·subst hin
      rw [hc] at h
      cases h
      omega
     ·have:=hs i (n - 1) (by omega) x c h hc
      omega
theorem nO:∀ {l m:List Int},l.Pairwise (· < ·)→m.Pairwise (· < ·)→(∀ a,a ∈ l ↔ a ∈ m)→l=m
 | [],[],_,_,_=>rfl
 | [],b :: m,_,_,h=>by have:=(h b).2 GB; cases this
 | a :: l,[],_,_,h=>by have:=(h a).1 GB; cases this
 | a :: l, b :: m, hl, hm, h => by
  rw [List.pairwise_cons] at hl hm
  have e:a=b:=by
   have h1:=(h a).1 GB
   have h2:=(h b).2 GB
   rcases List.mem_cons.1 h1 with h1 | h1
   ·exact h1
   ·rcases List.mem_cons.1 h2 with h2 | h2
    ·exact h2.symm
    ·have:=hm.1 a h1
     have:=hl.1 b h2
     omega
  subst e
  rw [nO hl.2 hm.2 fun x=>?_]
  constructor
  ·intro hx
   rcases List.mem_cons.1 ((h x).1 (GC _ hx)) with e | h'
   ·subst e; have:=hl.1 x hx; omega
   ·exact h'
  ·intro hx
   rcases List.mem_cons.1 ((h x).2 (GC _ hx)) with e | h'
   ·subst e; have:=hm.1 x hx; omega
   ·exact h'
open Classical in
noncomputable def ofF (u:DFunc) (N:Nat):List Int:=((List.range N).filter fun k=>decide (jV u k)).map fun k:Nat=>(k:Int)
theorem BD {u:DFunc} {N:Nat} {a:Int}:a ∈ ofF u N ↔ ∃ k:Nat,a=(k:Int)∧k < N∧jV u k:=by
 unfold ofF
 simp only [List.mem_map,List.mem_filter,List.mem_range,decide_eq_true_eq]
 constructor
 ·rintro ⟨k,⟨h1,h2⟩,rfl⟩; exact ⟨k,rfl,h1,h2⟩
 ·rintro ⟨k,rfl,h1,h2⟩; exact ⟨k,⟨h1,h2⟩,rfl⟩
theorem Be (u:DFunc) (N:Nat):(ofF u N).length≤N:=by
 unfold ofF
 rw [List.length_map]
 exact Nat.le_trans (List.length_filter_le _ _) (by simp)
theorem sI (u:DFunc) (N:Nat):(ofF u N).Pairwise (· < ·):=by
 unfold ofF
 refine List.pairwise_map.2 (List.Pairwise.filter _ (List.Pairwise.imp (fun {a b} h=>?_) List.pairwise_lt_range))
 exact Int.ofNat_lt.2 h
noncomputable def ofL (m:DMod) (n:Int):List Int:=match (if 0≤n then m.funcs[n.toNat]? else none) with
 | some u=>ofF u m.funcs.length
 | none=>[]
theorem fq {m:DMod} {n:Nat} {a:Int}:a ∈ ofL m n ↔ ∃ k:Nat,a=(k:Int)∧ofP m n k:=by
 unfold ofL ofP
 rw [if_pos (by omega),Int.toNat_natCast]
 cases hu:m.funcs[n]? with
 | none=>simp
 | some u =>
  show a ∈ ofF u _ ↔ _
  rw [BD]
  simp
theorem pr (m:DMod) (n:Int):(ofL m n).length≤m.funcs.length:=by
 unfold ofL
 split
 ·exact Be _ _
 ·exact Nat.zero_le _
theorem wW {m:DMod} {n:Int} (h:dm m.funcs.length n=false):ofL m n=[]:=by
 unfold ofL
 have h:¬ (0≤n∧n < (m.funcs.length:Int)):=by simpa [dm] using h
 split
 ·rename_i u hu
  exfalso
  split at hu
  ·have:=(Gu.1 hu).1
   omega
  ·cases hu
 ·rfl
theorem zE {m:DMod} {n:Int} (h:dm m.funcs.length n=true):∃ u,m.funcs[n.toNat]? = some u∧n=(n.toNat:Int)∧ofL m n=ofF u m.funcs.length:=by
 have h:0≤n∧n < (m.funcs.length:Int):=by simpa [dm] using h
 have hl:n.toNat < m.funcs.length:=by omega
 refine ⟨_,Gv hl,by omega,?_⟩
 unfold ofL
 rw [if_pos h.1,Gv hl]
theorem ofF_eq (u:DFunc) (N:Nat) {s:List Int} (hs:s=isB leI ((fd u.blocks).filter (dm N))):dq s s.length=ofF u N:=by
 have hp:=ci (le:=leI) ((fd u.blocks).filter (dm N))
 rw [← hs] at hp
 have ho:=ju mY rS ((fd u.blocks).filter (dm N))
 rw [← hs,List.pairwise_iff_getElem] at ho
 obtain ⟨h1,h2,h3⟩:=zC (l:=s) (fun i j hij a c ha hc=>by
  obtain ⟨hi,rfl⟩:=Gu.1 ha
  obtain ⟨hj,rfl⟩:=Gu.1 hc
  simpa [leI] using ho i j hi hj hij) s.length (Nat.le_refl _)
 refine nO h3 (sI u N) fun a=>?_
 rw [BD]
 have e:a ∈ dq s s.length ↔ a ∈ s:=by
  constructor
  ·intro h
   obtain ⟨i,_,h⟩:=h1 a h
   exact GD h
  ·intro h
   obtain ⟨i,hi,rfl⟩:=List.mem_iff_getElem.1 h
   exact h2 i hi _ (Gv hi)
 rw [e,hp.mem_iff,List.mem_filter]
 constructor
 ·rintro ⟨h,ht⟩
  have ht:0≤a∧a < (N:Int):=by simpa [dm] using ht
  refine ⟨a.toNat,by omega,by omega,ve.1 ?_⟩
  rw [show ((a.toNat:Nat):Int)=a by omega]
  exact h
 ·rintro ⟨k,rfl,hk,h⟩
  exact ⟨ve.2 h,by simp [dm]; omega⟩
theorem RL.winZ {α:Type} {q:Option Bool} {s:Nat} {R:List TV→α→Prop} {y:TV} {l:List α} (hy:RL q s R y l) {k:Nat} (hk:k≤l.length):∃ y',cX k (l.length - k) y=some y'∧RL q s R y' (l.drop k):=by
 rcases hy with ⟨rfl,rfl⟩ | ⟨o,xs,rfl,hq,h,hb⟩
 ·have:k=0:=by simpa using hk
  subst this
  exact ⟨.lit aK,rfl,by simpa using RL.nil⟩
 ·have hxl:=h.length
  refine ⟨.sl o s ((xs.drop k).take (l.length - k)),?_,.sl hq ?_ (by simp; omega)⟩
  ·simp only [cX]
   rw [if_pos (by omega)]
  ·have:=(h.drop k).take (l.length - k)
   rwa [List.take_of_length_le (l:=l.drop k) (by simp)] at this
theorem psub1 {n:Nat} (h:0 < n) (hn:n≤9223372036854775807):pbin (.int .i64) .sub (I (n:Int)) (I 1)=some (I ((n - 1:Nat):Int)):=by
 show some (TV.lit (.int .i64 (IntKind.i64.wrap ((n:Int) - 1))))=_
 rw [IntKind.wrap_i64]
 congr 4
 omega
theorem rT:∀ {xs:List (List TV)} {l:List Int},F2 RI1 xs l→rx xs=some l
 | _,_,.nil=>rfl
 | _,_,.cons h t=>by
  obtain ⟨rfl,_⟩:=h
  show (match rx _ with | some r=>_ | none=>_)=_
  rw [rT t]
theorem mN:∀ {l:List Int},(∀ n ∈ l,inI n)→F2 RI1 (bC l) l
 | [],_=>.nil
 | n :: l,h=>.cons ⟨rfl,h n GB⟩ (mN fun m hm=>h m (GC _ hm))
theorem wM:∀ {xs:List (List TV)} {l:List Int},F2 RI1 xs l→∀ n ∈ l,inI n
 | _,_,.nil,n,h=>by cases h
 | _,_,.cons h t,n,hn=>by
  rcases List.mem_cons.1 hn with rfl | hn
  ·exact h.2
  ·exact wM t n hn
theorem Fe {y' y'':TV} {k:Nat} {l:List Int} (hk:cX 0 k y'=some y'') (hr:RInts (some true) y'' l) (hl:l.length < 4611686018427387904):∃ v v',uR [y'']=some v∧pput 0 y' v=some v'∧∃ z,cX 0 k v'=some z∧RInts (some true) z (isB leI l):=by
 rcases hr with ⟨rfl,rfl⟩ | ⟨o,xs,rfl,hq,h,hb⟩
 ·unfold cX at hk
  split at hk
  ·split at hk <;> cases hk
  ·split at hk
   ·rename_i h0
    exact ⟨.lit aK,.lit aK,rfl,rfl,.lit aK,by rw [show k=0 from h0.2]; rfl,RL.nil⟩
   ·cases hk
  ·cases hk
 ·have:o=true:=hq true rfl
  subst this
  have hxl:=h.length
  have hlen:=(ci (le:=leI) l).length_eq
  unfold cX at hk
  split at hk
  ·rename_i o s ys
   split at hk
   ·rename_i hle
    injection hk with e
    injection e with e1 e2 e3
    subst e1 e2
    rw [List.drop_zero] at e3
    have hkl:k=l.length:=by
     rw [← hxl,← e3,List.length_take]; omega
    refine ⟨.sl true 1 (bC (isB leI l)),.sl true 1 (bC (isB leI l) ++ ys.drop k),?_,?_,.sl true 1 (bC (isB leI l)),?_,.sl (by simp) (mN fun n hn=>wM h n ((ci l).mem_iff.1 hn)) (by simp [bC]; omega)⟩
    ·show (match rx xs with | some l=>_ | none=>_)=_
     rw [rT h]
     have:mI l=true:=Nat.ble_eq_true_of_le hl
     simp only [this,cond_true]
    ·have hml:(bC (isB leI l)).length=k:=by simp [bC]; omega
     simp only [pput]
     rw [if_pos ⟨trivial,by omega⟩,Nat.zero_add,hml]
     rfl
    ·have hml:(bC (isB leI l)).length=k:=by simp [bC]; omega
     simp only [cX]
     rw [if_pos (by simp; omega),List.drop_zero,List.take_append_of_le_length (by omega),List.take_of_length_le (by omega)]
   ·cases hk
  ·split at hk <;> cases hk
  ·cases hk
theorem yG {y:TV} {l:List Int} (hr:RInts (some true) y l) (hl:l.length < 4611686018427387904):∃ v v',uR [y]=some v∧pput 0 y v=some v'∧RInts (some true) v' (isB leI l):=by
 rcases hr with ⟨rfl,rfl⟩ | ⟨o,xs,rfl,hq,h,hb⟩
 ·exact ⟨.lit aK,.lit aK,rfl,rfl,RL.nil⟩
 ·have:o=true:=hq true rfl
  subst this
  have hxl:=h.length
  have hlen:=(ci (le:=leI) l).length_eq
  refine ⟨.sl true 1 (bC (isB leI l)),.sl true 1 (bC (isB leI l)),?_,?_,.sl (by simp) (mN fun n hn=>wM h n ((ci l).mem_iff.1 hn)) (by simp [bC]; omega)⟩
  ·show (match rx xs with | some l=>_ | none=>_)=_
   rw [rT h]
   have:mI l=true:=Nat.ble_eq_true_of_le hl
   simp only [this,cond_true]
  ·have hml:(bC (isB leI l)).length=xs.length:=by simp [bC]; omega
   simp only [pput]
   rw [if_pos ⟨trivial,by omega⟩,Nat.zero_add,hml,List.drop_length,List.append_nil]
   rfl
end Go.Ab
end
section
set_option maxRecDepth 10000
namespace Go.Ab.C11
open Go Go.Ab Go.Proofs
theorem Bl {x:TV} {v:TV} (h:uR [x]=some v):bu prog 22 [x] v:=⟨1,h⟩
section
variable {l:List Int} (hll:l.length≤1000000)
include hll
theorem cmp2 {K:Nat} (hK:0 < K):∀ (d j i:Nat) (w:TV) (cur:List Int),j + d=l.length→i < j→K < j→RInts (some true) w cur→cur.length=l.length→cur.take i=dq l j→(∀ m,j≤m + 1→cur[m]? = l[m]?) →
  ∃ y,aa prog 9 (f9_3 (I i) K (l.length - K) (I ((j - K:Nat):Int)) w) y∧RInts (some true) y (dq l l.length):=by
 intro d
 induction d with
 | zero =>
  intro j i w cur hj hij hKj hw hcl hti _
  have hj:j=l.length:=by omega
  subst hj
  have hil:i≤cur.length:=by omega
  obtain ⟨y',c1,c2,c3,y'',c4,c5⟩:=hw.clr hil [I 0]
  obtain ⟨w',hw',hwr⟩:=hw.winZ (k:=K) (by omega)
  rw [hti] at c5
  refine ⟨y'',?_,c5⟩
  unfold f9_3
  rw [hcl] at hw'
  refine aa.tv hw' (aa.tv hwr.len (aa.tv rfl (aa.ite (v:=false) (by rw [List.length_drop,hcl]; exact aJ) nofun fun _=>?_)))
  refine f9_5_J ?_
  unfold f9_5
  have han:ae (I i)=some i:=aj (by omega)
  have hle:Nat.ble i cur.length=true:=by simpa using hil
  exact aa.nat hw.slLen (aa.nat han (aa.chk (by simp [hw.slSize,hle]) (aa.tv c1 (aa.nat c2 (aa.nat han (aa.chk (by simp [c3,hle]) (aa.tv c4 (aa.chk (c5.own fun _ _ h=>h.own) aa.ret))))))))
 | succ d ih =>
  intro j i w cur hj hij hKj hw hcl hti hd
  have hjl:j < l.length:=by omega
  obtain ⟨a,ha⟩:∃ a,l[j]? = some a:=⟨_,Gv hjl⟩
  obtain ⟨c,hc⟩:∃ c,l[j - 1]? = some c:=⟨_,Gv (by omega)⟩
  have hca:cur[j]? = some a:=by rw [hd j (by omega)]; exact ha
  have hcc:cur[j - 1]? = some c:=by rw [hd (j - 1) (by omega)]; exact hc
  obtain ⟨e1,he1,rfl,hea⟩:=hw.pel hca
  obtain ⟨e2,he2,rfl,_⟩:=hw.pel hcc
  obtain ⟨w',hw',hwr⟩:=hw.winZ (k:=K) (by omega)
  rw [hcl] at hw'
  have an1:ae (I ((j - K:Nat):Int))=some (j - K):=aj (by omega)
  have an2:ae (I ((j - K - 1:Nat):Int))=some (j - K - 1):=aj (by omega)
  have ani:ae (I i)=some i:=aj (by omega)
  have hlt:asBool (.lit (.bool (decide (((j - K:Nat):Int) < ((cur.drop K).length:Int)))))=some true:=by
   rw [List.length_drop,hcl]; exact aF (by omega)
  have he1':Go.Ab.pel w (K + (j - K))=some [I a]:=by rw [show K + (j - K)=j by omega]; exact he1
  have he2':Go.Ab.pel w (K + (j - K - 1))=some [I c]:=by rw [show K + (j - K - 1)=j - 1 by omega]; exact he2
  have hinc:pbin (.int .i64) .add (I ((j - K:Nat):Int)) (I (1:Int))=some (I ((j + 1 - K:Nat):Int)):=by
   have:=inc (k:=j - K) (n:=l.length) (by omega) (by omega)
   rwa [show j - K + 1=j + 1 - K by omega] at this
  by_cases hac:a=c
  ·subst hac
   obtain ⟨y,hy,hry⟩:=ih (j + 1) i w cur (by omega) (by omega) (by omega) hw hcl (by rw [oo (by omega) ha hc]; exact hti) fun m hm=>hd m (by omega)
   refine ⟨y,?_,hry⟩
   unfold f9_3
   refine aa.tv hw' (aa.tv hwr.len (aa.tv rfl (aa.ite hlt (fun _=>?_) nofun)))
   refine aa.nat an1 (aa.chk (by simp [hw.slSize]; omega) (aa.tvs he1' (aa.chk rfl (aa.tv (psub1 (by omega) (by omega)) (aa.nat an2 (aa.chk (by simp [hw.slSize]; omega) (aa.tvs he2' (aa.chk rfl (aa.tv rfl ?_)))))))))
   exact aa.ite (v:=false) (by simp [asBool]) nofun fun _=>aa.tv hinc (f9_3_J hy)
  ·have hic:i < cur.length:=by omega
   obtain ⟨e',he',rfl,_⟩:=hw.pel (Gv hic)
   obtain ⟨w2,hw2,hr2⟩:=hw.iO he' (d:=0) (ys:=[I a]) (a:=a) ⟨rfl,hea⟩
   obtain ⟨y,hy,hry⟩:=ih (j + 1) (i + 1) w2 (cur.set i a) (by omega) (by omega) (by omega) hr2 (by simpa using hcl) (by
    rw [oa (by omega) ha hc hac,← hti,List.take_add_one,List.getElem?_set_self hic,List.take_set_of_le (Nat.le_refl _)]
    rfl) (fun m hm=>by
    rw [List.getElem?_set_ne (by omega)]
    exact hd m (by omega))
   refine ⟨y,?_,hry⟩
   unfold f9_3
   refine aa.tv hw' (aa.tv hwr.len (aa.tv rfl (aa.ite hlt (fun _=>?_) nofun)))
   refine aa.nat an1 (aa.chk (by simp [hw.slSize]; omega) (aa.tvs he1' (aa.chk rfl (aa.tv (psub1 (by omega) (by omega)) (aa.nat an2 (aa.chk (by simp [hw.slSize]; omega) (aa.tvs he2' (aa.chk rfl (aa.tv rfl ?_)))))))))
   refine aa.ite (v:=true) (by simp [asBool,hac]) (fun _=>?_) nofun
   exact aa.nat an1 (aa.chk (by simp [hw.slSize]; omega) (aa.tvs he1' (aa.chk rfl (aa.nat hw.slLen (aa.nat ani (aa.chk (by simp [hw.slSize,hic]) (aa.tvs he' (aa.chk rfl (aa.tv hw2 (aa.tv (inc hic (by omega)) (aa.tv hinc (f9_3_J hy))))))))))))
theorem cmp1 {w:TV} (hw:RInts (some true) w l):∀ (d k:Nat),k + d=l.length→0 < k→dq l k=l.take k→∃ y,aa prog 9 (f9_1 (I k) w) y∧RInts (some true) y (dq l l.length):=by
 intro d
 induction d with
 | zero =>
  intro k hk _ hf
  have hk:k=l.length:=by omega
  subst hk
  refine ⟨w,?_,by rw [hf,List.take_length]; exact hw⟩
  unfold f9_1
  exact aa.tv hw.len (aa.tv rfl (aa.ite aJ nofun fun _=>aa.chk (hw.own fun _ _ h=>h.own) aa.ret))
 | succ d ih =>
  intro k hk h0 hf
  have hkl:k < l.length:=by omega
  obtain ⟨a,ha⟩:∃ a,l[k]? = some a:=⟨_,Gv hkl⟩
  obtain ⟨c,hc⟩:∃ c,l[k - 1]? = some c:=⟨_,Gv (by omega)⟩
  obtain ⟨e1,he1,rfl,hea⟩:=hw.pel ha
  obtain ⟨e2,he2,rfl,_⟩:=hw.pel hc
  have ank:ae (I k)=some k:=aj (by omega)
  have ank1:ae (I ((k - 1:Nat):Int))=some (k - 1):=aj (by omega)
  by_cases hac:a=c
  ·subst hac
   obtain ⟨y,hy,hry⟩:=cmp2 hll h0 d (k + 1) k w l (by omega) (by omega) (by omega) hw rfl (by rw [oo h0 ha hc,hf]) (fun m _=>rfl)
   refine ⟨y,?_,hry⟩
   unfold f9_1
   refine aa.tv hw.len (aa.tv rfl (aa.ite (aF hkl) (fun _=>?_) nofun))
   refine aa.nat hw.slLen (aa.nat ank (aa.chk (by simp [hw.slSize,hkl]) (aa.tvs he1 (aa.chk rfl (aa.tv (psub1 h0 (by omega)) (aa.nat hw.slLen (aa.nat ank1 (aa.chk (by simp [hw.slSize]; omega) (aa.tvs he2 (aa.chk rfl (aa.tv rfl ?_)))))))))))
   refine aa.ite (v:=true) (by simp [asBool]) (fun _=>?_) nofun
   refine aa.nat hw.slLen (aa.nat ank (aa.chk (by simp [hw.slSize]; omega) (f9_3_J ?_)))
   rw [show k + 1 - k=1 by omega] at hy
   exact hy
  ·obtain ⟨y,hy,hry⟩:=ih (k + 1) (by omega) (by omega) (by rw [oa h0 ha hc hac,hf,List.take_add_one,ha]; rfl)
   refine ⟨y,?_,hry⟩
   unfold f9_1
   refine aa.tv hw.len (aa.tv rfl (aa.ite (aF hkl) (fun _=>?_) nofun))
   refine aa.nat hw.slLen (aa.nat ank (aa.chk (by simp [hw.slSize,hkl]) (aa.tvs he1 (aa.chk rfl (aa.tv (psub1 h0 (by omega)) (aa.nat hw.slLen (aa.nat ank1 (aa.chk (by simp [hw.slSize]; omega) (aa.tvs he2 (aa.chk rfl (aa.tv rfl ?_)))))))))))
   exact aa.ite (v:=false) (by simp [asBool,hac]) nofun fun _=>aa.tv (inc hkl (by omega)) (f9_1_J hy)
theorem cmp0 {w:TV} (hw:RInts (some true) w l) (h2:¬ l.length < 2):∃ y,aa prog 9 (f9_1 (I (1:Int)) w) y∧RInts (some true) y (dq l l.length) :=
 cmp1 hll hw (l.length - 1) 1 (by omega) (by omega) (BP (by omega))
theorem vJ (h2:l.length < 2):dq l l.length=l:=by
 match l,h2 with
 | [],_=>rfl
 | [a],_=>rfl
end
section
variable {y3:TV} {P:Int→Bool} (hP:∀ g,bu prog 18 [.agg [y3],I g] (B (P g))) {l:List Int} (hll:l.length≤1000000) {s:List Int} (hs:s=isB leI (l.filter P))
include hP hll hs
theorem del2c:∀ (d i j:Nat) (w:TV) (cur:List Int),j + d=l.length→i≤j→RInts (some true) w cur→cur.length=l.length →
  cur.take i=(l.take j).filter P→(∀ m,j≤m→cur[m]? = l[m]?)→∃ y,aa prog 9 (f9_2 (I i) (I j) w y3) y∧RInts (some true) y (dq s s.length):=by
 have hsl:s.length≤l.length:=by rw [hs,(ci _).length_eq]; exact List.length_filter_le _ _
 intro d
 induction d with
 | zero =>
  intro i j w cur hj hij hw hcl hti _
  have hj:j=l.length:=by omega
  subst hj
  have hil:i≤cur.length:=by omega
  obtain ⟨y',c1,c2,c3,y'',c4,c5⟩:=hw.clr hil [I 0]
  rw [hti,List.take_length] at c5
  obtain ⟨v,v',s1,s2,z,s3,s4⟩:=Fe c4 c5 (by have:=List.length_filter_le P l; omega)
  rw [← hs] at s4
  have han:ae (I i)=some i:=aj (by omega)
  have hle:Nat.ble i cur.length=true:=by simpa using hil
  have key:∃ y,aa prog 9 (f9_4 (I i) w) y∧RInts (some true) y (dq s s.length):=by
   by_cases h2:s.length < 2
   ·refine ⟨z,?_,by rw [vJ (by omega) h2]; exact s4⟩
    unfold f9_4
    exact aa.nat hw.slLen (aa.nat han (aa.chk (by simp [hw.slSize,hle]) (aa.tv c1 (aa.nat c2 (aa.nat han (aa.chk (by simp [c3,hle]) (aa.tv c4 (aa.call (Bl s1) (aa.tv s2 (aa.tv s3 (aa.tv s4.len (aa.tv rfl (aa.ite (v:=true) (by simp [asBool]; omega) (fun _=>aa.tv s3 (aa.chk (s4.own fun _ _ h=>h.own) aa.ret)) nofun)))))))))))))
   ·obtain ⟨y,hy,hr⟩:=cmp0 (l:=s) (by omega) s4 h2
    refine ⟨y,?_,hr⟩
    unfold f9_4
    exact aa.nat hw.slLen (aa.nat han (aa.chk (by simp [hw.slSize,hle]) (aa.tv c1 (aa.nat c2 (aa.nat han (aa.chk (by simp [c3,hle]) (aa.tv c4 (aa.call (Bl s1) (aa.tv s2 (aa.tv s3 (aa.tv s4.len (aa.tv rfl (aa.ite (v:=false) (by simp [asBool]; omega) nofun fun _=>aa.tv s3 (f9_1_J hy))))))))))))))
  obtain ⟨y,hy,hr⟩:=key
  refine ⟨y,?_,hr⟩
  unfold f9_2
  exact aa.tv hw.len (aa.tv rfl (aa.ite (v:=false) (by rw [hcl]; exact aJ) nofun fun _=>f9_4_J hy))
 | succ d ih =>
  intro i j w cur hj hij hw hcl hti hd
  have hjl:j < l.length:=by omega
  have hjc:j < cur.length:=by omega
  have hbn:=hw.bnd
  have ha:l[j]? = some l[j]:=Gv hjl
  obtain ⟨a,haa⟩:∃ a,a=l[j]:=⟨_,rfl⟩
  rw [← haa] at ha
  have hca:cur[j]? = some a:=by rw [hd j (Nat.le_refl _)]; exact ha
  obtain ⟨e,he,rfl,hea⟩:=hw.pel hca
  have anj:ae (I j)=some j:=aj (by omega)
  have ani:ae (I i)=some i:=aj (by omega)
  cases hp:P a with
  | true =>
   have hic:i < cur.length:=by omega
   obtain ⟨e',he',rfl,_⟩:=hw.pel (Gv hic)
   obtain ⟨w',hw',hr⟩:=hw.iO he' (d:=0) (ys:=[I a]) (a:=a) ⟨rfl,hea⟩
   obtain ⟨y,hy,hry⟩:=ih (i + 1) (j + 1) w' (cur.set i a) (by omega) (by omega) hr (by simpa using hcl) (by
    rw [iS ha,hp,if_pos rfl,← hti,List.take_add_one,List.getElem?_set_self hic]
    congr 1
    rw [List.take_set_of_le (Nat.le_refl _)]) (fun m hm=>by
    rw [List.getElem?_set_ne (by omega)]
    exact hd m (by omega))
   refine ⟨y,?_,hry⟩
   unfold f9_2
   refine aa.tv hw.len (aa.tv rfl (aa.ite (aF hjc) (fun _=>?_) nofun))
   refine aa.nat hw.slLen (aa.nat anj (aa.chk (by simp [hw.slSize,hjc]) (aa.tvs he (aa.chk rfl (aa.call (hP a) (aa.chk rfl (aa.tv rfl (aa.tv rfl (aa.ite (v:=true) (by rw [hp]; rfl) (fun _=>?_) nofun)))))))))
   exact aa.nat hw.slLen (aa.nat ani (aa.chk (by simp [hw.slSize,hic]) (aa.tvs he' (aa.chk rfl (aa.tv hw' (aa.tv (inc hic hbn) (aa.tv (inc hjc hbn) (f9_2_J hy))))))))
  | false =>
   obtain ⟨y,hy,hry⟩:=ih i (j + 1) w cur (by omega) (by omega) hw hcl (by rw [iS ha,hp,hti]; simp) (fun m hm=>hd m (by omega))
   refine ⟨y,?_,hry⟩
   unfold f9_2
   refine aa.tv hw.len (aa.tv rfl (aa.ite (aF hjc) (fun _=>?_) nofun))
   exact aa.nat hw.slLen (aa.nat anj (aa.chk (by simp [hw.slSize,hjc]) (aa.tvs he (aa.chk rfl (aa.call (hP a) (aa.chk rfl (aa.tv rfl (aa.tv rfl (aa.ite (v:=false) (by rw [hp]; rfl) nofun fun _=>aa.tv (inc hjc hbn) (f9_2_J hy))))))))))
theorem del1c {w:TV} (hw:RInts (some true) w l):∀ (d k:Nat),k + d=l.length→(l.take k).filter P=l.take k→∃ y,aa prog 9 (f9_0 (I l.length) (I k) w y3) y∧RInts (some true) y (dq s s.length):=by
 have hsl:s.length≤l.length:=by rw [hs,(ci _).length_eq]; exact List.length_filter_le _ _
 intro d
 have hbn:=hw.bnd
 induction d with
 | zero =>
  intro k hk hf
  have hk:k=l.length:=by omega
  subst hk
  rw [List.take_length] at hf
  rw [hf] at hs
  obtain ⟨v,v',s1,s2,s4⟩:=yG hw (by omega)
  rw [← hs] at s4
  have top:∀ {y:TV},(s.length < 2→y=v')→(¬ s.length < 2→aa prog 9 (f9_1 (I (1:Int)) v') y)→aa prog 9 (f9_0 (I l.length) (I l.length) w y3) y:=by
   intro y h1 h2
   unfold f9_0
   refine aa.tv rfl (aa.ite aJ nofun fun _=>aa.tv rfl (aa.ite (v:=true) rfl (fun _=>?_) nofun))
   refine aa.call (Bl s1) (aa.tv s2 (aa.tv s4.len (aa.tv rfl ?_)))
   by_cases h:s.length < 2
   ·refine aa.ite (v:=true) (by simp [asBool]; omega) (fun _=>?_) nofun
    rw [h1 h]
    exact aa.chk (s4.own fun _ _ h=>h.own) aa.ret
   ·exact aa.ite (v:=false) (by simp [asBool]; omega) nofun fun _=>f9_1_J (h2 h)
  by_cases h:s.length < 2
  ·exact ⟨v',top (fun _=>rfl) (fun h'=>absurd h h'),by rw [vJ (by omega) h]; exact s4⟩
  ·obtain ⟨y,hy,hr⟩:=cmp0 (l:=s) (by omega) s4 h
   exact ⟨y,top (fun h'=>absurd h' h) (fun _=>hy),hr⟩
 | succ d ih =>
  intro k hk hf
  have hkl:k < l.length:=by omega
  obtain ⟨a,haa⟩:∃ a,a=l[k]:=⟨_,rfl⟩
  have ha:l[k]? = some a:=by rw [haa]; exact Gv hkl
  obtain ⟨e,he,rfl,hea⟩:=hw.pel ha
  have ank:ae (I k)=some k:=aj (by omega)
  cases hp:P a with
  | true =>
   obtain ⟨y,hy,hry⟩:=ih (k + 1) (by omega) (by rw [iS ha,hp,hf,List.take_add_one,ha]; rfl)
   refine ⟨y,?_,hry⟩
   unfold f9_0
   refine aa.tv rfl (aa.ite (aF hkl) (fun _=>?_) nofun)
   exact aa.nat hw.slLen (aa.nat ank (aa.chk (by simp [hw.slSize,hkl]) (aa.tvs he (aa.chk rfl (aa.call (hP a) (aa.chk rfl (aa.tv rfl (aa.ite (v:=false) (by rw [hp]; rfl) nofun fun _=>aa.tv (inc hkl hbn) (f9_0_J hy)))))))))
  | false =>
   obtain ⟨y,hy,hry⟩:=del2c hP hll hs d k (k + 1) w l (by omega) (by omega) hw rfl (by rw [iS ha,hp,hf]; simp) (fun m _=>rfl)
   refine ⟨y,?_,hry⟩
   unfold f9_0
   refine aa.tv rfl (aa.ite (aF hkl) (fun _=>?_) nofun)
   refine aa.nat hw.slLen (aa.nat ank (aa.chk (by simp [hw.slSize,hkl]) (aa.tvs he (aa.chk rfl (aa.call (hP a) (aa.chk rfl (aa.tv rfl (aa.ite (v:=true) (by rw [hp]; rfl) (fun _=>?_) nofun))))))))
   have hne:((k:Int) == (-1:Int))=false:=by simp
   exact aa.tv rfl (aa.ite (v:=false) (by simp only [asBool,hne]) nofun fun _=>aa.tv (inc hkl hbn) (f9_2_J hy))
end
theorem AD {q:Option Bool} {b:TV} {m:DMod} (hb:RL q 3 (RFunc q) b m.funcs) (hs:kS m) (n:Int):∃ y,bu prog 9 [.agg [b],I n] y∧RInts (some true) y (ofL m n):=by
 cases ht:dm m.funcs.length n with
 | false =>
  refine ⟨.lit aK,?_,by rw [wW ht]; exact .nil⟩
  refine bu.of (f9_MR _ _) ?_
  unfold f9_M
  exact aa.chk rfl (aa.call (md hb n) (aa.chk rfl (aa.tv rfl (aa.ite (v:=true) (by rw [ht]; rfl) (fun _=>aa.chk rfl aa.ret) nofun))))
 | true =>
  obtain ⟨u,hu,hn,ho⟩:=zE ht
  obtain ⟨e,he,hR⟩:=hb.idx (k:=.i64) hu
  have hsu:=hs.2 u (GD hu)
  obtain ⟨v,hv,hvr⟩:=rNamed hR hsu
  have hlen:=nM u.blocks hsu.2
  have h100:=hsu.1
  obtain ⟨y,hy,hr⟩:=del1c (fun g=>md hb g) (by omega) rfl hvr (fd u.blocks).length 0 (by omega) (by simp)
  rw [ofF_eq u _ rfl,← ho] at hr
  refine ⟨y,?_,hr⟩
  obtain ⟨bl,rfl,_⟩:=hR
  rw [← hn] at he
  refine bu.of (f9_MR _ _) ?_
  unfold f9_M
  refine aa.chk rfl (aa.call (md hb n) (aa.chk rfl (aa.tv rfl (aa.ite (v:=false) (by rw [ht]; rfl) nofun fun _=>?_))))
  exact aa.tvs he (aa.chk rfl (aa.call hv (aa.chk (aG hvr.isSl) (aa.tv hvr.len (f9_0_J hy)))))
end Go.Ab.C11
end

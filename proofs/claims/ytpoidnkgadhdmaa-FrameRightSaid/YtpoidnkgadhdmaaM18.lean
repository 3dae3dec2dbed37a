/- A law over plain types: if the machine over closed values answers true at all closed values of its types, the row's statement follows. No condition but that the tables are the program's. -/
import Derived.Test.YtpoidnkgadhdmaaM17
namespace Go.Ab
open Go.RowKit Go.ChangeShapes Go.WideShapes
set_option linter.unusedVariables false

/-- Closed values of these types. -/
def ValsTy (P : Program) : List TypeId → List TV → Prop
  | [], [] => True
  | t :: ts, x :: xs => ValTy P t x ∧ ValsTy P ts xs
  | _, _ => False

section
variable {H : Type} {enc : TypeId × Value → H} {P : Program} {W W' : World}

theorem trodAll_vals : ∀ (ts : List TypeId) (vs : List Value) (ds : List (DataW H)) (ps : List MemPlace) {base : Nat}, (∀ t ∈ ts, plainTy P 24 t = true) → (∀ (j : Nat) t v, ts[j]? = some t → vs[j]? = some v → Value.okWide P W .any base t v) →
    DataW.TrodAll enc P W 0 (fun _ => true) true ts vs ds ps → ∃ xs, ValsTy P ts xs ∧ xs.length = vs.length ∧ ∀ (j : Nat) (x : TV) (v : Value), xs[j]? = some x → vs[j]? = some v → Rep W (fun b => b < W.heap.size) x v
  | [], vs, ds, ps, base, hp, hv, h => by
    obtain ⟨rfl, rfl, rfl⟩ := trodAll_nil h
    exact ⟨[], trivial, rfl, fun j x v hx => by simp at hx⟩
  | t :: ts, vs, ds, ps, base, hp, hv, h => by
    obtain ⟨v, vs1, d, ds1, a, b, rfl, rfl, rfl, h1, h2⟩ := trodAll_cons h
    obtain ⟨x, hx, hr⟩ := trod_val (hp t List.mem_cons_self) (hv 0 t v rfl rfl) h1
    obtain ⟨xs, hxs, hl, hrs⟩ := trodAll_vals ts vs1 ds1 b (fun t' ht' => hp t' (List.mem_cons_of_mem _ ht')) (fun j t' v' h1' h2' => hv (j + 1) t' v' (by simpa using h1') (by simpa using h2')) h2
    refine ⟨x :: xs, ⟨hx, hxs⟩, by simp [hl], fun j y u hy hu => ?_⟩
    cases j with
    | zero => simp at hy hu; subst hy hu; exact hr
    | succ j => simp at hy hu; exact hrs j y u hy hu

theorem trodAll_keeps (hl : laidOutB P = true) (hb : Below W.heap.size W W') : ∀ (ts : List TypeId) (vs : List Value) (ds : List (DataW H)) (ps : List MemPlace), (∀ t ∈ ts, P.readableRec t = true ∧ t < P.types.size) → (∀ p ∈ ps, p.block < W.heap.size) →
    DataW.TrodAll enc P W 0 (fun _ => true) true ts vs ds ps → DataW.TrodAll enc P W' 0 (fun b => decide (b < W.heap.size)) true ts vs ds ps
  | [], vs, ds, ps, hr, hlt, h => by
    obtain ⟨rfl, rfl, rfl⟩ := trodAll_nil h
    rfl
  | t :: ts, vs, ds, ps, hr, hlt, h => by
    obtain ⟨v, vs1, d, ds1, a, b, rfl, rfl, rfl, h1, h2⟩ := trodAll_cons h
    exact ⟨a, b, Below.trod hl (hr t List.mem_cons_self).1 (hr t List.mem_cons_self).2 h1 hb (fun p hp => hlt p (List.mem_append_left _ hp)), trodAll_keeps hl hb ts vs1 ds1 b (fun t' ht' => hr t' (List.mem_cons_of_mem _ ht')) (fun p hp => hlt p (List.mem_append_right _ hp)) h2, rfl⟩

theorem law_core {A : AProg} {G : Laid} (hA : A.Ok P G) (hG : G.P W (fun b => b < W.heap.size)) {fid : FuncId} (hln : A.lent fid = none) {f : Func} (hlaid : laidOutB P = true) (hpar : ∀ t ∈ f.params.toList, plainTy P 24 t = true ∧ P.readableRec t = true ∧ t < P.types.size)
    {bt : TypeId} (hres : f.resultTypes = #[bt]) (hbt : P.underlying bt = some .bool) {s : ChangeSpec} (hvars : s.vars = [])
    (hs : ∀ ds : List (DataW H), ds.length = f.params.size → s.fn H ds = { results := [.lit (.bool true)], args := ds })
    (hlaw : ∀ xs, ValsTy P f.params.toList xs → ∃ n, acall A n fid xs = some (.lit (.bool true)))
    {args : Array Value} {ds gs : List (DataW H)} {before : List MemPlace} {base : Nat} (hval : ∀ (j : Nat) t v, f.params[j]? = some t → args[j]? = some v → Value.okWide P W .any base t v)
    (hW : DataW.Whole enc P f.params.toList s.vars false W args.toList ds gs before) :
    Calls P fid args W fun e W' => ∃ v, e = .returned v ∧ s.post enc P f false true false false W args v W' := by
  have hW' := hW
  obtain ⟨p, q, hT, hV, hpq, hfz, hnd⟩ := hW
  rw [hvars] at hV
  have hgs : gs = [] ∧ q = [] := trodVars_none hV
  obtain ⟨hg0, hq0⟩ := hgs
  subst hg0 hq0
  rw [List.append_nil] at hpq
  subst hpq
  obtain ⟨xs, hxs, hxl, hxr⟩ := trodAll_vals f.params.toList args.toList ds before (fun t ht => (hpar t ht).1) (fun j t v h1 h2 => hval j t v (by simpa using h1) (by simpa using h2)) hT
  obtain ⟨n, hn⟩ := hlaw xs hxs
  have hc := (((acall_sound hA n fid xs _ hn).1 hln).1 (fun b => b < W.heap.size) W args hG (fun _ h => h) (by simpa using hxl.symm) (fun j x hx => by
    have hj : j < args.size := by have := (List.getElem?_eq_some_iff.1 hx).1; simp at hxl; omega
    exact hxr j x _ hx (by rw [Array.getElem?_toList, Array.getElem?_eq_getElem hj]; simp [hj]))).2
  refine hc.mono ?_
  rintro e W' ⟨v, rfl, hb, I2, S, _, _, _, _, hv⟩
  have := repO_lit hv
  subst this
  have hlen : ds.length = f.params.size := by
    have : ∀ (ts : List TypeId) (vs : List Value) (ds : List (DataW H)) (ps : List MemPlace), DataW.TrodAll enc P W 0 (fun _ => true) true ts vs ds ps → ds.length = ts.length := by
      intro ts
      induction ts with
      | nil => intro vs ds ps h; obtain ⟨rfl, rfl, rfl⟩ := trodAll_nil h; rfl
      | cons t ts ih => intro vs ds ps h; obtain ⟨v, vs1, d, ds1, a, b, rfl, rfl, rfl, h1, h2⟩ := trodAll_cons h; simp [ih _ _ _ h2]
    simpa using this _ _ _ _ hT
  have hlt : ∀ p ∈ before, p.block < W.heap.size := fun p hp => hW'.lt p hp
  refine ⟨_, rfl, ds, [], before, [], before, [], hW', ?_, ?_, ?_, ?_, fun h => by cases h⟩
  · rw [List.append_nil, hs ds hlen, hres]
    exact trodAll_cons_mk (shut_bool hbt true) rfl
  · rw [List.append_nil, hs ds hlen]
    exact trodAll_keeps hlaid hb _ _ _ _ (fun t ht => (hpar t ht).2) hlt hT
  · rw [List.append_nil, hs ds hlen, hvars]
    rfl
  · exact World.keptBut_mono (fun p hp => ⟨hp, .inr (.inl hp)⟩) (hb.frame (· ∈ before))
end
end Go.Ab

/- What operations of a class do to a state. No condition. -/
import Derived.Test.YtpoidnkgadhdmaaM13
namespace Go.Ab
open Go.RowKit
set_option linter.unusedVariables false

def Prg.All {R : Type} (p : R → Prop) : Prg R → Prop
  | .fail => True
  | .ret e => p e
  | .tv _ k => ∀ v, (k v).All p
  | .tvs _ k => ∀ v, (k v).All p
  | .rws _ k => ∀ v, (k v).All p
  | .nat _ k => ∀ v, (k v).All p
  | .chk _ k => k.All p
  | .ite _ t e => t.All p ∧ e.All p
  | .call _ _ k => ∀ v, (k v).All p
  | .jmp _ _ => True

theorem Prg.All.hits {R : Type} {C : Cal} {p : R → Prop} {e : R} : ∀ {o : Prg R}, o.All p → o.hits C e → p e
  | .ret e', h, h' => by cases h'; exact h
  | .tv _ k, h, ⟨v, _, h'⟩ => (h v).hits h'
  | .tvs _ k, h, ⟨v, _, h'⟩ => (h v).hits h'
  | .rws _ k, h, ⟨v, _, h'⟩ => (h v).hits h'
  | .nat _ k, h, ⟨v, _, h'⟩ => (h v).hits h'
  | .chk _ k, h, ⟨_, h'⟩ => Prg.All.hits (o := k) h h'
  | .ite _ t e, h, ⟨v, _, .inl ⟨_, h'⟩⟩ => Prg.All.hits (o := t) h.1 h'
  | .ite _ t e, h, ⟨v, _, .inr ⟨_, h'⟩⟩ => Prg.All.hits (o := e) h.2 h'
  | .call _ _ k, h, ⟨v, _, h'⟩ => (h v).hits h'

theorem Prg.All.imp {R : Type} {p q : R → Prop} (h : ∀ e, p e → q e) : ∀ {o : Prg R}, o.All p → o.All q
  | .fail, _ => trivial
  | .ret e, hh => h e hh
  | .tv _ k, hh => fun v => Prg.All.imp h (hh v)
  | .tvs _ k, hh => fun v => Prg.All.imp h (hh v)
  | .rws _ k, hh => fun v => Prg.All.imp h (hh v)
  | .nat _ k, hh => fun v => Prg.All.imp h (hh v)
  | .chk _ k, hh => Prg.All.imp (o := k) h hh
  | .ite _ t e, hh => ⟨Prg.All.imp (o := t) h hh.1, Prg.All.imp (o := e) h hh.2⟩
  | .call _ _ k, hh => fun v => Prg.All.imp h (hh v)
  | .jmp _ _, _ => trivial

section
variable {E : Env} {look look' : Look} {p : Eff → Prop} {id : Nat}

theorem all_bif {b : Bool} {x y : Out} (hx : x.All p) (hy : y.All p) : (bif b then x else y).All p := by cases b <;> assumption
theorem all_getO {q : Way} {x : TV} {k : TV → Out} (h : ∀ y, (k y).All p) : (getO q x k).All p := by
  unfold getO
  split
  · exact h _
  · exact h
theorem all_setO {q : Way} {x y : TV} {k : TV → Out} (h : ∀ y, (k y).All p) : (setO q x y k).All p := by
  unfold setO
  split
  · exact h _
  · exact h
theorem all_resT {c : CA} {k : TV → Out} (h : ∀ y, (k y).All p) : (resT look c k).All p := by
  unfold resT
  split
  · exact h _
  · split
    · exact all_getO h
    · exact trivial
  · split
    · exact all_getO fun y z => h z
    · exact trivial
  · exact trivial
theorem all_resA {v : AV} {k : TV → Out} (h : ∀ y, (k y).All p) : (resA look v k).All p := by
  unfold resA
  split
  · exact all_resT h
  · exact h _
  · exact h _
  · exact trivial
theorem all_lendC {c : CA} {k : TV → Out} (h : ∀ y, (k y).All p) : (lendC look c k).All p := by
  unfold lendC
  split
  · exact h _
  · exact all_resT fun y => h _
  · exact all_resT fun y => h _
  · exact trivial
theorem all_lendL {k : List TV → Out} : ∀ {cs : List CA} {k : List TV → Out}, (∀ y, (k y).All p) → (lendL look cs k).All p
  | [], k, h => h _
  | c :: cs, k, h => all_lendC fun y => all_lendL (k := fun _ => .fail) fun ys => h _
theorem all_lendA {v : AV} {k : TV → Out} (h : ∀ y, (k y).All p) : (lendA look v k).All p := by
  unfold lendA
  split
  · exact all_lendC h
  · exact h _
  · exact all_lendL (k := fun _ => .fail) fun ys => h _
  · exact trivial
  · exact h _
theorem all_lends : ∀ {vs : List AV} {k : List TV → Out}, (∀ y, (k y).All p) → (lends look vs k).All p
  | [], k, h => h _
  | v :: vs, k, h => all_lendA fun y => all_lends fun ys => h _
theorem all_handC {c : CA} {k : TV → List (Nat × Nat) → Out} (h : ∀ y r, (k y r).All p) : (handC look c k).All p := by
  unfold handC
  split
  · exact h _ _
  · split
    · split
      · exact h _ _
      · exact fun y => h _ _
    · exact trivial
  · split
    · split
      · exact fun y => h _ _
      · exact fun z y => h _ _
    · exact trivial
  · exact trivial
theorem all_handL : ∀ {cs : List CA} {k : List TV → List (Nat × Nat) → Out}, (∀ y r, (k y r).All p) → (handL look cs k).All p
  | [], k, h => h _ _
  | c :: cs, k, h => all_handC fun y r => all_handL fun ys rs => h _ _
theorem all_handA {v : AV} {k : TV → List (Nat × Nat) → Out} (h : ∀ y r, (k y r).All p) : (handA look v k).All p := by
  unfold handA
  split
  · exact all_handC h
  · exact h _ _
  · exact all_handL fun ys rs => h _ _
  · exact trivial
  · exact h _ _
theorem all_hands : ∀ {vs : List AV} {k : List TV → List (Nat × Nat) → Out}, (∀ y r, (k y r).All p) → (hands look vs k).All p
  | [], k, h => h _ _
  | v :: vs, k, h => all_handA fun y r => all_hands fun ys rs => h _ _
theorem all_gather : ∀ {cs : List CA} {k : List TV → List Prim → List (Nat × Nat) → Out}, (∀ y q r, (k y q r).All p) → (gatherO look cs k).All p
  | [], k, h => h _ _ _
  | .t x :: l, k, h => by
    simp only [gatherO]
    exact all_gather (cs := l) fun xs ps ts => h _ _ _
  | .sref i r q :: l, k, h => by
    simp only [gatherO]
    split
    · split
      · exact all_gather (cs := l) fun xs ps ts => h _ _ _
      · exact fun y => all_gather (cs := l) fun xs ps ts => h _ _ _
    · exact trivial
  | .swin i r q lo len :: l, k, h => by
    simp only [gatherO]
    split
    · split
      · exact fun y => all_gather (cs := l) fun xs ps ts => h _ _ _
      · exact fun z y => all_gather (cs := l) fun xs ps ts => h _ _ _
    · exact trivial
  | .ptr _ _ :: l, k, h => trivial
  | .ref _ _ :: l, k, h => trivial
  | .tptr _ _ _ _ _ :: l, k, h => trivial
  | .may _ _ :: l, k, h => trivial
  | .aptr _ _ _ _ :: l, k, h => trivial
  | .undef :: l, k, h => trivial
  | .junk :: l, k, h => trivial
theorem all_cellsO {agg : Bool} {n : Nat} {x : AV} {k : List CA → Out} (h : ∀ cs, (k cs).All p) : (x.cellsO agg n k).All p := by
  unfold AV.cellsO
  split
  · rename_i c; cases c.kept <;> first | exact trivial | exact h _
  · exact h _
  · exact h _
  · rename_i cs; cases cs.length.beq n <;> first | exact trivial | exact h _
  · exact h _
  · exact trivial
theorem all_fill {at_ : Nat → Option (Nat × Bool × Nat)} {k : List CA → Out} (h : ∀ cs, (k cs).All p) : ∀ (is : List Nat) (vs : List AV) (cs : List CA), (fillParts at_ is vs cs k).All p
  | [], [], cs => h cs
  | i :: is, x :: vs, cs => by
    simp only [fillParts]
    split
    · refine all_cellsO (fun ps => ?_)
      exact all_bif (all_fill h is vs _) trivial
    · exact trivial
  | [], _ :: _, cs => trivial
  | _ :: _, [], cs => trivial
theorem all_optNat {v : Option AV} {k : Option Nat → Out} (h : ∀ n, (k n).All p) : (optNat v k).All p := by
  unfold optNat
  split
  · exact h _
  · split
    · exact fun v => h _
    · exact trivial

abbrev isVal (e : Eff) : Prop := ∃ v, e = .val v
abbrev isNew (e : Eff) : Prop := ∃ b v, e = .new b v
theorem all_loadRef {d : TyD} {x : List TV} {off : Nat} : (loadRef d x off).All isVal := by
  unfold loadRef
  cases d.kd.isAgg
  · exact ⟨_, rfl⟩
  · exact ⟨_, rfl⟩

theorem cls_N {op : Op} (h : clsOf op = .N) (vs : List AV) : (opL E id look op vs).All isVal := by
  cases op with
  | move x => rcases vs with _ | ⟨v, _ | ⟨v', r⟩⟩ <;> first | exact trivial | exact ⟨_, rfl⟩
  | assign x => rcases vs with _ | ⟨v, _ | ⟨v', r⟩⟩ <;> first | exact trivial | exact ⟨_, rfl⟩
  | pick c x y =>
    rcases vs with _ | ⟨v, _ | ⟨v', _ | ⟨v'', _ | ⟨v3, r⟩⟩⟩⟩ <;> first | exact trivial | skip
    simp only [opL]
    split <;> first | exact trivial | exact ⟨_, rfl⟩
  | build t parts =>
    simp only [opL]
    split
    · refine all_bif ?_ trivial
      refine all_fill ?_ _ _ _
      exact fun cs => ⟨_, rfl⟩
    · exact trivial
  | nilCheck x =>
    rcases vs with _ | ⟨v, _ | ⟨v', r⟩⟩ <;> first | exact trivial | skip
    simp only [opL]
    split <;> first | exact trivial | exact ⟨_, rfl⟩
  | unOp op xt x =>
    rcases vs with _ | ⟨v, _ | ⟨v', r⟩⟩ <;> first | exact trivial | skip
    simp only [opL]
    split
    · exact ⟨_, rfl⟩
    · split
      · exact fun v => ⟨_, rfl⟩
      · exact trivial
  | fieldAddr t x f =>
    rcases vs with _ | ⟨v, _ | ⟨v', r⟩⟩ <;> first | exact trivial | skip
    simp only [opL]
    split
    · split
      · refine all_bif ?_ trivial
        split <;> first | exact trivial | exact ⟨_, rfl⟩
      · exact trivial
    · exact trivial
  | field t x f =>
    rcases vs with _ | ⟨v, _ | ⟨v', r⟩⟩ <;> first | exact trivial | skip
    simp only [opL]
    split
    · split
      · unfold fieldO
        split
        · split
          · split <;> first | exact trivial | exact ⟨_, rfl⟩
          · exact trivial
        · exact ⟨_, rfl⟩
        · exact trivial
      · exact trivial
    · exact trivial
  | index t x y =>
    rcases vs with _ | ⟨v, _ | ⟨v', _ | ⟨v'', r⟩⟩⟩ <;> first | exact trivial | skip
    simp only [opL]
    split <;> first | exact trivial | exact fun v => ⟨_, rfl⟩
  | extract x j =>
    rcases vs with _ | ⟨v, _ | ⟨v', r⟩⟩ <;> first | exact trivial | skip
    simp only [opL]
    split
    · split
      · split <;> first | exact trivial | exact ⟨_, rfl⟩
      · exact trivial
    · exact trivial
  | call c =>
    obtain ⟨callee, args, tys⟩ := c
    cases callee with
    | builtin b => cases b <;> simp [clsOf] at h
    | value f => cases f <;> simp [clsOf] at h
    | invoke r m => simp [clsOf] at h
  | _ => simp [clsOf] at h

theorem cls_R {op : Op} (h : clsOf op = .R) (vs : List AV) : (opL E id look op vs).All isVal := by
  cases op with
  | load t x =>
    rcases vs with _ | ⟨v, _ | ⟨v', r⟩⟩ <;> first | exact trivial | skip
    simp only [opL]
    split
    · unfold loadO
      split
      · refine all_bif trivial ?_
        split
        · exact fun v => ⟨_, rfl⟩
        · exact trivial
      · split
        · split
          · split
            · exact ⟨_, rfl⟩
            · exact trivial
          · exact trivial
        · exact trivial
      · exact all_loadRef
      · split
        · refine all_getO (fun s e => ?_)
          simp only [Prg.All]
          split
          · exact ⟨_, rfl⟩
          · exact trivial
        · exact trivial
      · exact trivial
    · exact trivial
  | convert xt dt x =>
    rcases vs with _ | ⟨v, _ | ⟨v', r⟩⟩ <;> first | exact trivial | skip
    simp only [opL]
    split
    · unfold convO
      split
      · split
        · exact all_bif (all_resA fun y => fun rows => fun v => ⟨_, rfl⟩) trivial
        · exact trivial
      · split
        · exact fun v => ⟨_, rfl⟩
        · exact trivial
    · exact trivial
  | binOp op xt x y yt =>
    rcases vs with _ | ⟨v, _ | ⟨v', _ | ⟨v'', r⟩⟩⟩ <;> first | exact trivial | skip
    simp only [opL]
    split
    · unfold binT
      split
      · split
        · refine all_cellsO fun cs => all_cellsO fun cs' => ?_
          split
          · exact fun v => ⟨_, rfl⟩
          · exact trivial
        · exact trivial
      · unfold binP
        split
        · exact ⟨_, rfl⟩
        · exact ⟨_, rfl⟩
        · exact trivial
      unfold binO
      refine all_bif (all_resA fun x => all_resA fun y => fun v => ⟨_, rfl⟩) ?_
      split
      · exact fun v => ⟨_, rfl⟩
      · exact trivial
    · exact trivial
  | slice t x lo hi mx =>
    have sl : ∀ {kd : Kd} {sz : Nat} {x : AV} {lo hi : Option AV}, (sliceO look kd sz x lo hi).All isVal := by
      intro kd sz x lo hi
      unfold sliceO
      split
      · exact all_optNat fun lo => all_optNat fun hi => fun v => ⟨_, rfl⟩
      · split
        · exact all_resT fun s n => all_optNat fun lo => all_optNat fun hi => ⟨_, rfl⟩
        · split
          · exact all_resT fun s => all_optNat fun hi => ⟨_, rfl⟩
          · exact trivial
        · exact trivial
    cases mx with
    | some m => rcases vs with _ | ⟨v, r⟩ <;> exact trivial
    | none =>
      rcases vs with _ | ⟨v, r⟩
      · exact trivial
      · simp only [opL]
        split
        · split
          · split <;> first | exact trivial | exact sl
          · exact trivial
        · exact trivial
  | indexAddr t x y =>
    rcases vs with _ | ⟨v, _ | ⟨v', _ | ⟨v'', r⟩⟩⟩ <;> first | exact trivial | skip
    simp only [opL]
    split
    · unfold indexO
      split
      · split
        · exact fun v => ⟨_, rfl⟩
        · split
          · exact all_resT fun s n k => ⟨_, rfl⟩
          · exact all_resT fun s k => ⟨_, rfl⟩
          · exact trivial
      · exact trivial
    · unfold arrIdxO
      split
      · split
        · exact all_bif (fun k => ⟨_, rfl⟩) trivial
        · exact trivial
      · exact trivial
  | call c =>
    obtain ⟨callee, args, tys⟩ := c
    cases callee with
    | builtin b =>
      cases b <;> simp [clsOf] at h
      simp only [opL]
      unfold builtinO
      split <;> first | exact trivial | skip
      · split
        · unfold lenO
          split
          · exact ⟨_, rfl⟩
          · exact all_resA fun s v => ⟨_, rfl⟩
        · exact trivial
      all_goals (rename_i hb _; cases hb)
    | value f => cases f <;> simp [clsOf] at h
    | invoke r m => simp [clsOf] at h
  | _ => simp [clsOf] at h

theorem cls_A {op : Op} (h : clsOf op = .A) (vs : List AV) : (opL E id look op vs).All isNew := by
  cases op with
  | alloc t =>
    rcases vs with _ | ⟨v, r⟩ <;> first | exact trivial | skip
    simp only [opL]
    split
    · exact ⟨_, _, rfl⟩
    · exact trivial
  | box t x =>
    rcases vs with _ | ⟨v, _ | ⟨v', r⟩⟩ <;> first | exact trivial | skip
    simp only [opL]
    split
    · exact all_cellsO (fun cs => ⟨_, _, rfl⟩)
    · exact trivial
  | makeSlice t x y =>
    rcases vs with _ | ⟨v, _ | ⟨v', _ | ⟨v'', r⟩⟩⟩ <;> first | exact trivial | skip
    simp only [opL]
    split
    · refine all_bif ?_ trivial
      exact fun n m => ⟨_, _, rfl⟩
    · exact trivial
  | call c =>
    obtain ⟨callee, args, tys⟩ := c
    cases callee with
    | builtin b => cases b <;> simp [clsOf] at h
    | value f => cases f <;> simp [clsOf] at h
    | invoke r m => simp [clsOf] at h
  | _ => simp [clsOf] at h

theorem mkNew_plain {ps : List Prim} {b : BC} {v : AV} : (mkNew ps b v).plain = true → isVal (mkNew ps b v) ∨ isNew (mkNew ps b v) := by
  cases ps with
  | nil => exact fun _ => .inr ⟨_, _, rfl⟩
  | cons q l => exact fun h => by cases h
theorem ans_plain {ps : List Prim} {v : AV} : (match ps with | [] => Eff.val v | _ => .gen ps v).plain = true → isVal (match ps with | [] => Eff.val v | _ => .gen ps v) ∨ isNew (match ps with | [] => Eff.val v | _ => .gen ps v) := by
  cases ps with
  | nil => exact fun _ => .inl ⟨_, rfl⟩
  | cons q l => exact fun h => by cases h
theorem all_ansOne {d : TyD} {x : TV} {k : Out} (h : k.All p) : (ansOne d x k).All p := by
  unfold ansOne
  exact all_bif h h
theorem all_ansSome {x : TV} {k : Out} (h : k.All p) : ∀ (ds : List TyD) (j : Nat), (ansSome x ds j k).All p
  | [], j => h
  | d :: ds, j => all_ansOne (all_ansSome h ds (j + 1))
theorem all_ansO {ds : List TyD} {v : TV} {ps : List Prim} : (ansO id ds v ps).All fun e => e.plain = true → isVal e ∨ isNew e := by
  have many : ∀ ds : List TyD, (Prg.chk (v.isTup ds.length) (ansSome v ds 0 (bif anySl ds then .ret (mkNew ps (.tree (ansAllRoots v ds 0)) (.tups (ansAll id v ds 0 0)))
      else .ret (match ps with | [] => .val (.tups (ansAll id v ds 0 0)) | _ => .gen ps (.tups (ansAll id v ds 0 0)))))).All fun e => e.plain = true → isVal e ∨ isNew e := by
    intro ds
    refine all_ansSome ?_ ds 0
    exact all_bif mkNew_plain ans_plain
  match ds with
  | [] => exact many []
  | [d] =>
    simp only [ansO]
    refine all_ansOne ?_
    split
    · exact all_bif mkNew_plain ans_plain
    · exact trivial
  | d :: d' :: l => exact many _

theorem all_ansV {ds : List TyD} {v : TV} {k : AV → Out} {p : Eff → Prop} (h : ∀ av, (k av).All p) : (ansV id ds v k).All p := by
  have some : ∀ (ds : List TyD) (j : Nat) (k : Out), k.All p → (ansSome v ds j k).All p := by
    intro ds
    induction ds with
    | nil => intro j k h; exact h
    | cons d ds ih => intro j k h; exact all_ansOne (ih (j + 1) k h)
  unfold ansV
  split
  · refine all_ansOne ?_
    split
    · exact h _
    · exact trivial
  · exact some _ 0 _ (h _)
theorem all_lentO {f : FuncId} {ld : LentD} {vs : List AV} : (lentO E id look f ld vs).All fun e => e.plain = true → isVal e ∨ isNew e := by
  unfold lentO
  split
  · split
    · refine all_bif trivial ?_
      exact all_hands fun xs rs => all_gather fun ys qs ts => all_bif (fun v => all_ansV fun av => fun h => by simp [Eff.plain] at h) trivial
    · exact trivial
  · exact trivial

theorem cls_B {op : Op} (h : clsOf op = .B) (vs : List AV) : (opL E id look op vs).All fun e => e.plain = true → isVal e ∨ isNew e := by
  cases op with
  | buildSlice t len parts =>
    simp only [opL]
    split
    · refine all_fill (fun cs => ?_) _ _ _
      refine all_gather fun ys qs ts => ?_
      exact all_bif mkNew_plain trivial
    · exact trivial
  | call c =>
    obtain ⟨callee, args, tys⟩ := c
    cases callee with
    | builtin b => cases b <;> simp [clsOf] at h
    | value f =>
      cases f with
      | func f =>
        rcases vs with _ | ⟨v, r⟩
        · exact trivial
        · simp only [opL, callO]
          split
          · exact all_lentO
          · split
            · refine all_bif ?_ ?_
              · exact all_lends fun xs => fun v => all_ansO
              · exact all_hands fun xs rs => all_bif (fun v => all_ansO) trivial
            · exact trivial
      | tmp t =>
        rcases vs with _ | ⟨v, r⟩
        · exact trivial
        · simp only [opL]
          split
          · exact fun f => all_lends fun xs v => fun _ => .inl ⟨_, rfl⟩
          · exact trivial
      | _ => simp [clsOf] at h
    | invoke r m => simp [clsOf] at h
  | _ => simp [clsOf] at h

abbrev isUpd (look : Look) (e : Eff) : Prop := ∃ i b v, e = .upd i b v ∧ (look i).isSome = true
theorem cls_W {op : Op} (h : clsOf op = .W) (vs : List AV) : (opL E id look op vs).All fun e => e.plain = true → isUpd look e := by
  cases op with
  | store t x y =>
    rcases vs with _ | ⟨v, _ | ⟨v', _ | ⟨v'', r⟩⟩⟩ <;> first | exact trivial | skip
    simp only [opL]
    split
    · unfold storeO
      split
      · refine all_bif trivial ?_
        split
        · rename_i cs xs hrow
          refine all_cellsO (fun ps => ?_)
          split
          · exact fun _ => ⟨_, _, _, rfl, by simp [(rowOfC_spec hrow).1]⟩
          · exact trivial
        · exact trivial
      · refine all_cellsO (fun ps => ?_)
        split
        · rename_i cs hl
          exact all_bif (fun _ => ⟨_, _, _, rfl, by simp [hl]⟩) trivial
        · exact trivial
      · refine all_cellsO (fun ps => ?_)
        split
        · refine all_bif trivial (all_bif ?_ ?_)
          · refine all_gather fun ys qs ts => all_bif ?_ trivial
            exact all_getO fun s e => fun x' hp => by cases hp
          · refine all_gather fun ys qs ts => ?_
            split
            · refine all_bif ?_ trivial
              refine all_getO fun s e => ?_
              simp only [Prg.All]
              intro x'
              split
              · rename_i b hb
                refine fun _ => ⟨_, _, _, rfl, ?_⟩
                unfold setRoot at hb
                split at hb
                · rename_i hl; simp [hl]
                · cases hb
              · exact trivial
            · exact trivial
        · exact trivial
      · exact trivial
    · exact trivial
  | call c =>
    obtain ⟨callee, args, tys⟩ := c
    cases callee with
    | builtin b => cases b <;> simp [clsOf] at h
    | value f => cases f <;> simp [clsOf] at h
    | invoke r m => simp [clsOf] at h
  | _ => simp [clsOf] at h

theorem all_appendK {d : TyD} {s : AV} {news : List (List TV)} {ps : List Prim} : (appendK id look d s news ps).All fun e => e.plain = true → isVal e ∨ isNew e := by
  unfold appendK
  split
  · exact all_bif (fun y => mkNew_plain) trivial
  · split
    · split
      · split
        · exact fun y h => by cases h
        · exact fun z y x' h => by cases h
      · exact trivial
    · split
      · split
        · exact fun z y h => by cases h
        · exact fun z0 z y x' h => by cases h
      · exact trivial
    · exact trivial
theorem all_srcO {d : TyD} {dest : Option Nat} {x : AV} {k : List (List TV) → List Prim → Out} (h : ∀ xs ps, (k xs ps).All p) : (srcO look d dest x k).All p := by
  unfold srcO
  split
  · exact fun xs => h _ _
  · split
    · refine all_bif ?_ ?_
      · split
        · split
          · split
            · exact all_bif trivial (fun xs => h _ _)
            · exact fun y => fun xs => h _ _
          · exact trivial
        · split
          · split
            · exact all_bif trivial (fun y xs => h _ _)
            · exact fun z y => fun xs => h _ _
          · exact trivial
        · exact trivial
      · exact all_resT (fun s xs => h _ _)
    · exact trivial
theorem cls_P {op : Op} (h : clsOf op = .P) (vs : List AV) : (opL E id look op vs).All fun e => e.plain = true → isVal e ∨ isNew e := by
  cases op with
  | call c =>
    obtain ⟨callee, args, tys⟩ := c
    cases callee with
    | builtin b =>
      cases b <;> simp [clsOf] at h
      simp only [opL]
      unfold builtinO
      split <;> try (first | exact trivial | contradiction)
      split
      · refine all_bif ?_ ?_
        · unfold appendO
          exact all_bif (all_srcO (fun xs ps => all_appendK)) trivial
        · split
          · unfold appendSO
            refine all_bif ?_ trivial
            split
            · exact fun news => all_appendK
            · exact trivial
          · exact trivial
      · exact trivial
    | value f => cases f <;> simp [clsOf] at h
    | invoke r m => simp [clsOf] at h
  | _ => simp [clsOf] at h

theorem look_free {op : Op} (h : clsOf op = .N ∨ clsOf op = .A) (vs : List AV) : opL E id look op vs = opL E id look' op vs := by
  cases op <;> first
    | (rcases vs with _ | ⟨a, _ | ⟨b, _ | ⟨c, _ | ⟨d, r⟩⟩⟩⟩ <;> rfl)
    | (simp [clsOf] at h; done)
    | skip
  all_goals
    rename_i c
    obtain ⟨callee, args, tys⟩ := c
    cases callee with
    | builtin b => cases b <;> simp [clsOf] at h
    | value f => cases f <;> simp [clsOf] at h
    | invoke r m => simp [clsOf] at h
end
end Go.Ab

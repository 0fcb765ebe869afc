import PyProof.Rows.All
import Wide.All
import OpenK.AllK
import Wide.FinOn
import HandS.ForMost
import HandS.Evl
import HandS.Strs
import HandS.Wide
import HandS.IsInst
import HandS.SortInts
import HandS.SortOrd
import KE.GoesEnum
import PyProof.TupleOfSeq
import PyProof.WalkInts
import HandS.Rev
import PyProof.ListNew
import HandS.TupAny
import HandS.SetFor
import HandS.Zip
import PyProof.Rows.CountFlat
import PyProof.P3In
import KE.KDictWalk
import HandS.Style
import HandS.Conv
import HandS.Defaults
import PyProof.DictMoreH
import PyProof.ReprRoads
import HandS.ExcOwn
import HandS.ExcIs
import HandS.Small
import HandS.SortRule
import HandS.Codes
import PyProof.Rows.MatchSeqLen
import PyProof.Rows.TupIter
import HandS.ExcInit
import HandS.ExcField
import KE.KExcIs
import HandS.Flow
import HandS.DictComp
import HandS.DictSubView
import HandS.More
import KE.KDictSum
import KE.KDictCopyH
import HandS.TupSets
import HandS.SetBool
import HandS.FStr
import KE.KUnpackStar
import KE.GoesEnumKw
import PyProof.StrBlock2
import HandS.HotCalls
import KE.KxField
import HandS.TupLe
import PyProof.ZipIter
import PyProof.CallType
import PyProof.WalkLemmas
import PyProof.RulesTry
import HandS.RepeatKit
import HandS.DictSubView0
import KE.RegKIsAll
import KE.RegKTryMore
import HandS.EndBits
import PySem.Challenge.RW_pairwarden_k23_count_faults
section
set_option Elab.async false
set_option linter.all false
set_option maxRecDepth 100000
set_option autoImplicit false
set_option maxHeartbeats 2000000
/-! Data as trees over the layer: what is represented, what is owned. -/
namespace Zk
open PySem L2
open Evl (Ex)

inductive D where
  | non | bl (b : Bool) | int (i : Int) | str (s : Str)
  | lst (ds : List D) | tup (ds : List D)
  | scr (ns : List Int)
  | ins (C : Addr) (fs : List (Str × D))
  | dct (kvs : List (List Key × D))
  | dck (kvs : List (Key × D))
  | sti (w : World) (ns : List Int)
  | exn (a dd C : Addr) (fs : List (Str × D))
  | adr (a : Addr) (d : D)
  | ty (n : String) | cls (C : Addr)

def D.flat : D → Bool
  | .non => true | .bl _ => true | .int _ => true | .str _ => true | .ty _ => true | .cls _ => true | _ => false

variable {K : PySem.W.Frag}

mutual
inductive Rp (K : PySem.W.Frag) (O : Addr → Prop) (H : Hp) : V → D → Prop
  | non : Rp K O H .non .non
  | bl (b : Bool) : Rp K O H (.bl b) (.bl b)
  | int (i : Int) : Rp K O H (.int i) (.int i)
  | str (s : Str) : Rp K O H (.str s) (.str s)
  | ty (n : String) : Rp K O H (.ty n) (.ty n)
  | cls (C : Addr) : Rp K O H (.ref C) (.cls C)
  | lst {a : Addr} {xs : List V} {ds : List D} : ¬ O a → H a = some (.lst xs) → RpA K O H xs ds → Rp K O H (.ref a) (.lst ds)
  | tup {a : Addr} {xs : List V} {ds : List D} : ¬ O a → H a = some (.tup xs) → RpA K O H xs ds → Rp K O H (.ref a) (.tup ds)
  | dct {a : Addr} {xs : List (List Key × V)} {kvs : List (List Key × D)} : ¬ O a → H a = some (.dT xs) → xs.map (·.1) = kvs.map (·.1) → RpA K O H (xs.map (·.2)) (kvs.map (·.2)) → Rp K O H (.ref a) (.dct kvs)
  | dck {a : Addr} {xs : List (Key × V)} {kvs : List (Key × D)} : ¬ O a → H a = some (.dK xs) → xs.map (·.1) = kvs.map (·.1) → RpA K O H (xs.map (·.2)) (kvs.map (·.2)) → Rp K O H (.ref a) (.dck kvs)
  | sti {a : Addr} {w : World} {ns : List Int} : ¬ O a → H a = some (SetO w a (fun i => ns.contains i) ns.length) → Rp K O H (.ref a) (.sti w ns)
  | exn {a dd C : Addr} {fs : List (Str × V)} {gs : List (Str × D)} : ¬ O dd → H dd = some (.xd fs) → RpF K O H fs gs → Rp K O H (.ref a) (.exn a dd C gs)
  | adr {a : Addr} {d : D} : Rp K O H (.ref a) d → Rp K O H (.ref a) (.adr a d)
  | scr {a : Addr} {ns : List Int} : ¬ O a → Rd H a (.lst (ns.map V.int)) → Rp K O H (.ref a) (.scr ns)
  | kscr {a : Addr} {ns : List Int} : (∀ G : Hp, SqL K G a (ns.map V.int)) → Rp K O H (.ref a) (.scr ns)
  | ins {a C dx : Addr} {fs : List (Str × V)} {gs : List (Str × D)} : ¬ O a → H a = some (.ins C dx fs) → RpF K O H fs gs → Rp K O H (.ref a) (.ins C gs)
inductive RpA (K : PySem.W.Frag) (O : Addr → Prop) (H : Hp) : List V → List D → Prop
  | nil : RpA K O H [] []
  | cons {v : V} {vs : List V} {d : D} {ds : List D} : Rp K O H v d → RpA K O H vs ds → RpA K O H (v :: vs) (d :: ds)
inductive RpF (K : PySem.W.Frag) (O : Addr → Prop) (H : Hp) : List (Str × V) → List (Str × D) → Prop
  | nil : RpF K O H [] []
  | cons {n : Str} {v : V} {vs : List (Str × V)} {d : D} {ds : List (Str × D)} : Rp K O H v d → RpF K O H vs ds → RpF K O H ((n, v) :: vs) ((n, d) :: ds)
end

/-- what H and O know stays known by H' and O' -/
def Kp (O : Addr → Prop) (H : Hp) (O' : Addr → Prop) (H' : Hp) : Prop := ∀ a o, ¬ O a → H a = some o → ¬ O' a ∧ H' a = some o
theorem Kp.refl (O : Addr → Prop) (H : Hp) : Kp O H O H := fun _ _ h e => ⟨h, e⟩
theorem Kp.trans {O O1 O2 : Addr → Prop} {H H1 H2 : Hp} (x : Kp O H O1 H1) (y : Kp O1 H1 O2 H2) : Kp O H O2 H2 := fun a o h e => y a o (x a o h e).1 (x a o h e).2
theorem Kp.ex {O : Addr → Prop} {H H' : Hp} (e : Ex H H') : Kp O H O H' := fun a o h q => ⟨h, e a o q⟩

mutual
theorem Rp.kp {O O' : Addr → Prop} {H H' : Hp} (k : Kp O H O' H') : ∀ {v : V} {d : D}, Rp K O H v d → Rp K O' H' v d
  | _, _, .non => .non
  | _, _, .bl b => .bl b
  | _, _, .int i => .int i
  | _, _, .str s => .str s
  | _, _, .ty n => .ty n
  | _, _, .cls C => .cls C
  | _, _, .lst n h r => .lst (k _ _ n h).1 (k _ _ n h).2 (RpA.kp k r)
  | _, _, .tup n h r => .tup (k _ _ n h).1 (k _ _ n h).2 (RpA.kp k r)
  | _, _, .dct n h e r => .dct (k _ _ n h).1 (k _ _ n h).2 e (RpA.kp k r)
  | _, _, .dck n h e r => .dck (k _ _ n h).1 (k _ _ n h).2 e (RpA.kp k r)
  | _, _, .sti n h => .sti (k _ _ n h).1 (k _ _ n h).2
  | _, _, .exn n h r => .exn (k _ _ n h).1 (k _ _ n h).2 (RpF.kp k r)
  | _, _, .adr r => .adr (Rp.kp k r)
  | _, _, .scr n (.inl h) => .scr (k _ _ n h).1 (.inl (k _ _ n h).2)
  | _, _, .scr n (.inr ⟨o, h⟩) => .scr (k _ _ n h).1 (.inr ⟨o, (k _ _ n h).2⟩)
  | _, _, .kscr h => .kscr h
  | _, _, .ins n h r => .ins (k _ _ n h).1 (k _ _ n h).2 (RpF.kp k r)
theorem RpA.kp {O O' : Addr → Prop} {H H' : Hp} (k : Kp O H O' H') : ∀ {v : List V} {d : List D}, RpA K O H v d → RpA K O' H' v d
  | _, _, .nil => .nil
  | _, _, .cons h r => .cons (Rp.kp k h) (RpA.kp k r)
theorem RpF.kp {O O' : Addr → Prop} {H H' : Hp} (k : Kp O H O' H') : ∀ {v : List (Str × V)} {d : List (Str × D)}, RpF K O H v d → RpF K O' H' v d
  | _, _, .nil => .nil
  | _, _, .cons h r => .cons (Rp.kp k h) (RpF.kp k r)
end

theorem Rp.ex {O : Addr → Prop} {H H' : Hp} {v : V} {d : D} (r : Rp K O H v d) (e : Ex H H') : Rp K O H' v d := r.kp (Kp.ex e)
theorem RpA.ex {O : Addr → Prop} {H H' : Hp} {v : List V} {d : List D} (r : RpA K O H v d) (e : Ex H H') : RpA K O H' v d := r.kp (Kp.ex e)
theorem RpF.ex {O : Addr → Prop} {H H' : Hp} {v : List (Str × V)} {d : List (Str × D)} (r : RpF K O H v d) (e : Ex H H') : RpF K O H' v d := r.kp (Kp.ex e)
/-- flat data wants no heap -/
theorem Rp.flat {O O' : Addr → Prop} {H H' : Hp} {v : V} {d : D} (r : Rp K O H v d) (f : d.flat = true) : Rp K O' H' v d := by
  cases r <;> first | (cases f; done) | exact .non | exact .bl _ | exact .int _ | exact .str _ | exact .ty _ | exact .cls _

theorem RpA.len {O : Addr → Prop} {H : Hp} : ∀ {v : List V} {d : List D}, RpA K O H v d → v.length = d.length
  | _, _, .nil => rfl
  | _, _, .cons _ r => congrArg (· + 1) r.len
theorem RpA.get {O : Addr → Prop} {H : Hp} : ∀ {vs : List V} {ds : List D} {i : Nat} {d : D}, RpA K O H vs ds → ds[i]? = some d → ∃ v, vs[i]? = some v ∧ Rp K O H v d
  | _, _, i, d, .nil, e => by simp at e
  | _, _, 0, d, .cons h r, e => by
    simp at e
    subst e
    exact ⟨_, rfl, h⟩
  | _, _, i + 1, d, .cons h r, e => by
    simp at e
    obtain ⟨v, e1, e2⟩ := RpA.get r e
    exact ⟨v, by simpa using e1, e2⟩
theorem RpA.app {O : Addr → Prop} {H : Hp} : ∀ {vs : List V} {ds : List D} {ws : List V} {es : List D}, RpA K O H vs ds → RpA K O H ws es → RpA K O H (vs ++ ws) (ds ++ es)
  | _, _, _, _, .nil, r => r
  | _, _, _, _, .cons h q, r => .cons h (q.app r)
theorem RpA.one {O : Addr → Prop} {H : Hp} {v : V} {d : D} (r : Rp K O H v d) : RpA K O H [v] [d] := .cons r .nil
theorem RpA.take {O : Addr → Prop} {H : Hp} : ∀ {vs : List V} {ds : List D} (n : Nat), RpA K O H vs ds → RpA K O H (vs.take n) (ds.take n)
  | _, _, 0, _ => .nil
  | _, _, n + 1, .nil => .nil
  | _, _, n + 1, .cons h r => .cons h (r.take n)
theorem RpA.drop {O : Addr → Prop} {H : Hp} : ∀ {vs : List V} {ds : List D} (n : Nat), RpA K O H vs ds → RpA K O H (vs.drop n) (ds.drop n)
  | _, _, 0, r => r
  | _, _, n + 1, .nil => .nil
  | _, _, n + 1, .cons _ r => r.drop n
theorem RpA.set {O : Addr → Prop} {H : Hp} {v : V} {d : D} (h : Rp K O H v d) : ∀ {vs : List V} {ds : List D} (n : Nat), RpA K O H vs ds → RpA K O H (vs.set n v) (ds.set n d)
  | _, _, _, .nil => .nil
  | _, _, 0, .cons _ r => .cons h r
  | _, _, n + 1, .cons q r => .cons q (r.set h n)
theorem RpA.reverse {O : Addr → Prop} {H : Hp} {vs : List V} {ds : List D} (r : RpA K O H vs ds) : RpA K O H vs.reverse ds.reverse := by
  induction r using RpA.rec (motive_1 := fun _ _ _ => True) (motive_3 := fun _ _ _ => True) with
  | nil => exact .nil
  | cons h _ _ ih => rw [List.reverse_cons, List.reverse_cons]; exact ih.app (.one h)
  | _ => trivial
/-- a list of ints -/
def iL (ns : List Int) : List D := ns.map D.int
theorem RpA.toInts {O : Addr → Prop} {H : Hp} : ∀ {vs : List V} {ns : List Int}, RpA K O H vs (Zk.iL ns) → vs = ns.map V.int
  | _, [], .nil => rfl
  | _, n :: ns, .cons (.int _) r => by rw [List.map_cons, r.toInts]
theorem RpA.ofInts {O : Addr → Prop} {H : Hp} : ∀ (ns : List Int), RpA K O H (ns.map V.int) (Zk.iL ns)
  | [] => .nil
  | n :: ns => .cons (.int n) (RpA.ofInts ns)
/-! ### the state of a def: slots, what is owned -/
inductive Wd where
  | v (d : D) | o (d : D)
abbrev Gm : Type := List (Option Wd)

/-- an owned thing: its top stands apart, what it holds is known -/
def RpO (K : PySem.W.Frag) (O : Addr → Prop) (H : Hp) (a : Addr) : D → Prop
  | .lst ds => ∃ xs, H a = some (.lst xs) ∧ RpA K O H xs ds
  | .ins C gs => ∃ dx fs, H a = some (.ins C dx fs) ∧ RpF K O H fs gs
  | .dct kvs => ∃ xs, H a = some (.dT xs) ∧ xs.map (·.1) = kvs.map (·.1) ∧ RpA K O H (xs.map (·.2)) (kvs.map (·.2))
  | .dck kvs => ∃ xs, H a = some (.dK xs) ∧ xs.map (·.1) = kvs.map (·.1) ∧ RpA K O H (xs.map (·.2)) (kvs.map (·.2))
  | .sti w ns => H a = some (SetO w a (fun i => ns.contains i) ns.length)
  | _ => False
theorem RpO.kp {O O' : Addr → Prop} {H H' : Hp} {a : Addr} {d : D} (k : Kp O H O' H') (e : H' a = H a) (r : RpO K O H a d) : RpO K O' H' a d := by
  cases d with
  | lst ds => obtain ⟨xs, h, q⟩ := r; exact ⟨xs, e.trans h, q.kp k⟩
  | ins C gs => obtain ⟨dx, fs, h, q⟩ := r; exact ⟨dx, fs, e.trans h, q.kp k⟩
  | dct kvs => obtain ⟨xs, h, e1, q⟩ := r; exact ⟨xs, e.trans h, e1, q.kp k⟩
  | dck kvs => obtain ⟨xs, h, e1, q⟩ := r; exact ⟨xs, e.trans h, e1, q.kp k⟩
  | sti w ns => exact e.trans r
  | _ => exact r.elim
theorem RpO.rp {O O' : Addr → Prop} {H : Hp} {a : Addr} {d : D} (k : Kp O H O' H) (n : ¬ O' a) (r : RpO K O H a d) : Rp K O' H (.ref a) d := by
  cases d with
  | lst ds => obtain ⟨xs, h, q⟩ := r; exact .lst n h (q.kp k)
  | ins C gs => obtain ⟨dx, fs, h, q⟩ := r; exact .ins n h (q.kp k)
  | dct kvs => obtain ⟨xs, h, e1, q⟩ := r; exact .dct n h e1 (q.kp k)
  | dck kvs => obtain ⟨xs, h, e1, q⟩ := r; exact .dck n h e1 (q.kp k)
  | sti w ns => exact .sti n r
  | _ => exact r.elim
/-- there, and no tuple -/
def Lv (H : Hp) (a : Addr) : Prop := H a ≠ none ∧ ∀ xs, H a ≠ some (.tup xs)
theorem Lv.ex {H H' : Hp} {a : Addr} (h : Lv H a) (e : Ex H H') : Lv H' a := by
  cases z : H a with
  | none => exact absurd z h.1
  | some o =>
    have := e a o z
    exact ⟨fun q => (by rw [this] at q; cases q), fun xs q => (by rw [this] at q; exact h.2 xs (z.trans q))⟩
theorem RpO.lv {O : Addr → Prop} {H : Hp} {a : Addr} {d : D} (r : RpO K O H a d) : Lv H a := by
  cases d with
  | lst ds => obtain ⟨xs, h, q⟩ := r; exact ⟨fun z => (by rw [h] at z; cases z), fun _ z => (by rw [h] at z; cases z)⟩
  | ins C gs => obtain ⟨dx, fs, h, q⟩ := r; exact ⟨fun z => (by rw [h] at z; cases z), fun _ z => (by rw [h] at z; cases z)⟩
  | dct kvs => obtain ⟨xs, h, e1, q⟩ := r; exact ⟨fun z => (by rw [h] at z; cases z), fun _ z => (by rw [h] at z; cases z)⟩
  | dck kvs => obtain ⟨xs, h, e1, q⟩ := r; exact ⟨fun z => (by rw [h] at z; cases z), fun _ z => (by rw [h] at z; cases z)⟩
  | sti w ns =>
    have h : H a = some (SetO w a (fun i => ns.contains i) ns.length) := r
    exact ⟨fun z => (by rw [h] at z; cases z), fun _ z => (by rw [h] at z; cases z)⟩
  | _ => exact r.elim
theorem RpO.there {O : Addr → Prop} {H : Hp} {a : Addr} {d : D} (r : RpO K O H a d) : H a ≠ none := by
  cases d with
  | lst ds => obtain ⟨xs, h, q⟩ := r; rw [h]; exact fun z => by cases z
  | ins C gs => obtain ⟨dx, fs, h, q⟩ := r; rw [h]; exact fun z => by cases z
  | dct kvs => obtain ⟨xs, h, e1, q⟩ := r; rw [h]; exact fun z => by cases z
  | dck kvs => obtain ⟨xs, h, e1, q⟩ := r; rw [h]; exact fun z => by cases z
  | sti w ns =>
    have h : H a = some (SetO w a (fun i => ns.contains i) ns.length) := r
    rw [h]; exact fun z => by cases z
  | _ => exact r.elim

abbrev OW := Nat → Option Addr
def OO (Oc : Addr → Prop) (ow : OW) : Addr → Prop := fun a => Oc a ∨ ∃ i, ow i = some a
def noOw : OW := fun _ => none

/-- what is kept in sight: values that stay known; the object that slot 0 makes -/
structure Pn where
  ps : List (V × D)
  me : Option Addr

structure Reps (K : PySem.W.Frag) (H0 : Hp) (Oc : Addr → Prop) (pins : Pn) (ow : OW) (σ : L2.St) (H : Hp) (g : Gm) : Prop where
  len : σ.length = g.length
  ex : Ex H0 H
  oc : ∀ a, Oc a → Lv H0 a
  fr : ∀ (i : Nat) (a : Addr), ow i = some a → H0 a = none ∧ Lv H a
  inj : ∀ (i j : Nat) (a : Addr), ow i = some a → ow j = some a → i = j
  is : ∀ (i : Nat) (a : Addr), ow i = some a → ∃ d : D, g[i]? = some (some (Wd.o d))
  val : ∀ (i : Nat) (d : D), g[i]? = some (some (Wd.v d)) → ∃ v, σ[i]? = some (some v) ∧ Rp K (OO Oc ow) H v d
  own : ∀ (i : Nat) (d : D), g[i]? = some (some (Wd.o d)) → ∃ a, ow i = some a ∧ σ[i]? = some (some (.ref a)) ∧ RpO K (OO Oc ow) H a d
  pin : ∀ p ∈ pins.ps, Rp K (OO Oc ow) H p.1 p.2
  slf : ∀ x, pins.me = some x → ow 0 = some x

section
variable {H0 H H' : Hp} {Oc : Addr → Prop} {pins : Pn} {ow : OW} {σ : L2.St} {g : Gm}
theorem Reps.oo (R : Reps K H0 Oc pins ow σ H g) : ∀ a, OO Oc ow a → Lv H a := fun a h => by
  rcases h with h | ⟨i, h⟩
  · exact (R.oc a h).ex R.ex
  · exact (R.fr i a h).2
theorem Reps.grow (R : Reps K H0 Oc pins ow σ H g) (e : Ex H H') : Reps K H0 Oc pins ow σ H' g where
  len := R.len
  ex := R.ex.trans e
  oc := R.oc
  fr := fun i a h => ⟨(R.fr i a h).1, (R.fr i a h).2.ex e⟩
  inj := R.inj
  is := R.is
  val := fun i d h => let ⟨v, h1, h2⟩ := R.val i d h; ⟨v, h1, h2.ex e⟩
  own := fun i d h => let ⟨a, h1, h2, h3⟩ := R.own i d h; ⟨a, h1, h2, h3.kp (Kp.ex e) (by
    cases z : H a with
    | none => exact absurd z h3.there
    | some o => exact e a o z)⟩
  pin := fun p h => (R.pin p h).ex e
  slf := R.slf
theorem Reps.new {p : Addr} (R : Reps K H0 Oc pins ow σ H g) (h : H p = none) : ¬ OO Oc ow p := fun q => (R.oo p q).1 h
end

/-! ### freezing -/
def Wd.frz : Wd → Wd
  | .v d => .v d
  | .o d => .v d
def frzAll (g : Gm) : Gm := g.map (Option.map Wd.frz)
theorem frzAll_get (g : Gm) (i : Nat) : (frzAll g)[i]? = (g[i]?).map (Option.map Wd.frz) := by unfold frzAll; rw [List.getElem?_map]
def frz1 (g : Gm) (i : Nat) : Gm := if i = 0 then g else match g[i]? with
  | some (some (Wd.o d)) => g.set i (some (Wd.v d))
  | _ => g
def frzs (g : Gm) : List Nat → Gm
  | [] => g
  | i :: is => frzs (frz1 g i) is

section
variable {H0 H H' : Hp} {Oc : Addr → Prop} {pins : Pn} {ow : OW} {σ : L2.St} {g : Gm}
theorem Reps.kpDrop (R : Reps K H0 Oc pins ow σ H g) {ow' : OW} (h : ∀ i a, ow' i = some a → ow i = some a) : Kp (OO Oc ow) H (OO Oc ow') H := fun a o n e =>
  ⟨fun q => n (q.imp id fun ⟨i, z⟩ => ⟨i, h i a z⟩), e⟩
theorem Reps.frzAll (R : Reps K H0 Oc pins ow σ H g) : Reps K H0 Oc ⟨pins.ps, none⟩ noOw σ H (frzAll g) where
  len := by unfold Zk.frzAll; rw [List.length_map]; exact R.len
  ex := R.ex
  oc := R.oc
  fr := fun i a h => by cases h
  inj := fun i j a h => by cases h
  is := fun i a h => by cases h
  val := fun i d h => by
    have k := R.kpDrop (ow' := noOw) (fun i a z => by cases z)
    rw [frzAll_get] at h
    cases q : g[i]? with
    | none => rw [q] at h; cases h
    | some o =>
      rw [q] at h
      cases o with
      | none => cases h
      | some w =>
        cases w with
        | v d' =>
          cases h
          obtain ⟨v, h1, h2⟩ := R.val i d q
          exact ⟨v, h1, h2.kp k⟩
        | o d' =>
          cases h
          obtain ⟨a, h1, h2, h3⟩ := R.own i d q
          refine ⟨.ref a, h2, h3.rp k fun z => ?_⟩
          rcases z with z | ⟨j, z⟩
          · exact (R.oc a z).1 (R.fr i a h1).1
          · cases z
  own := fun i d h => by
    rw [frzAll_get] at h
    cases q : g[i]? with
    | none => rw [q] at h; cases h
    | some o =>
      rw [q] at h
      cases o with
      | none => cases h
      | some w => cases w <;> cases h
  pin := fun p h => (R.pin p h).kp (R.kpDrop (fun i a z => by cases z))
  slf := fun x h => by cases h
theorem Reps.frz1 (R : Reps K H0 Oc pins ow σ H g) (i : Nat) : ∃ ow', Reps K H0 Oc pins ow' σ H (frz1 g i) := by
  unfold Zk.frz1
  by_cases i0 : i = 0
  · rw [if_pos i0]; exact ⟨ow, R⟩
  rw [if_neg i0]
  split
  · rename_i d hd
    have hi : i < g.length := (List.getElem?_eq_some_iff.mp hd).1
    have hk : ∀ j a, (fun j => if j = i then none else ow j) j = some a → ow j = some a := fun j a z => by
      dsimp only at z
      split at z
      · cases z
      · exact z
    have k := R.kpDrop hk
    obtain ⟨ai, hi1, hi2, hi3⟩ := R.own i d hd
    refine ⟨fun j => if j = i then none else ow j, ?_⟩
    exact {
      len := by rw [List.length_set]; exact R.len
      ex := R.ex
      oc := R.oc
      fr := fun j a h => R.fr j a (hk j a h)
      inj := fun j l a h h' => R.inj j l a (hk j a h) (hk l a h')
      is := fun j a h => by
        have q := R.is j a (hk j a h)
        have n : j ≠ i := fun z => by
          rw [if_pos z] at h; cases h
        rw [List.getElem?_set_ne (Ne.symm n)]
        exact q
      val := fun j d' h => by
        by_cases n : j = i
        · subst n
          rw [List.getElem?_set_self hi] at h
          cases h
          refine ⟨.ref ai, hi2, hi3.rp k fun z => ?_⟩
          rcases z with z | ⟨l, z⟩
          · exact (R.oc ai z).1 (R.fr j ai hi1).1
          · have e := R.inj l j ai (hk l ai z) hi1
            have z' : (if l = j then none else ow l) = some ai := z
            rw [if_pos e] at z'
            cases z'
        · rw [List.getElem?_set_ne (Ne.symm n)] at h
          obtain ⟨v, h1, h2⟩ := R.val j d' h
          exact ⟨v, h1, h2.kp k⟩
      own := fun j d' h => by
        by_cases n : j = i
        · subst n
          rw [List.getElem?_set_self hi] at h
          cases h
        · rw [List.getElem?_set_ne (Ne.symm n)] at h
          obtain ⟨a, h1, h2, h3⟩ := R.own j d' h
          exact ⟨a, by rw [if_neg n]; exact h1, h2, h3.kp k rfl⟩
      pin := fun p h => (R.pin p h).kp k
      slf := fun x h => by rw [if_neg (Ne.symm i0)]; exact R.slf x h }
  · exact ⟨ow, R⟩
theorem Reps.frzs : ∀ (is : List Nat) {ow : OW} {g : Gm}, Reps K H0 Oc pins ow σ H g → ∃ ow', Reps K H0 Oc pins ow' σ H (Zk.frzs g is)
  | [], ow, g, R => ⟨ow, R⟩
  | i :: is, ow, g, R => by
    obtain ⟨ow1, R1⟩ := R.frz1 i
    exact Reps.frzs is R1
end
end Zk
end

section
set_option Elab.async false
set_option linter.all false
set_option maxRecDepth 100000
set_option autoImplicit false
set_option maxHeartbeats 2000000
/-! What expressions are worth, as data. -/
namespace Zk
open PySem L2
open Evl (Ex)

abbrev DF : Type := Gm → Option D
abbrev DAF : Type := Gm → Option (List D)
abbrev DTF : Type := Gm → Option Bool
def dVar (i : Nat) : DF := fun g => match g[i]? with
  | some (some (.v d)) => some d
  | _ => none
def dC (d : D) : DF := fun _ => some d
def d1 (f : D → Option D) (a : DF) : DF := fun g => (a g).bind f
def d2 (f : D → D → Option D) (a b : DF) : DF := fun g => (a g).bind fun x => (b g).bind fun y => f x y
def dN (f : List D → Option D) (a : DAF) : DF := fun g => (a g).bind f
def aNil : DAF := fun _ => some []
def aCons (a : DF) (r : DAF) : DAF := fun g => (a g).bind fun x => (r g).bind fun xs => some (x :: xs)
def mkTup (xs : List D) : Option D := if xs.length ≤ 100000 then some (.tup xs) else none
def mkLst (xs : List D) : Option D := if xs.length ≤ 100000 then some (.lst xs) else none

section
variable (K : PySem.W.Frag)
/-- an expression's reading te is worth t -/
def ER (te : TE) (t : DF) : Prop := ∀ g d, t g = some d → ∀ H0 Oc pins ow σ H, Reps K H0 Oc pins ow σ H g → ∀ Q : VK, (∀ v H', Ex H H' → Rp K (OO Oc ow) H' v d → Q v H') → te σ H Q
def AR (ta : TA) (t : DAF) : Prop := ∀ g ds, t g = some ds → ∀ H0 Oc pins ow σ H, Reps K H0 Oc pins ow σ H g → ∀ Q : List V → Hp → Prop, (∀ vs H', Ex H H' → RpA K (OO Oc ow) H' vs ds → Q vs H') → ta σ H Q
def TR (tt : TT) (t : DTF) : Prop := ∀ g b, t g = some b → ∀ H0 Oc pins ow σ H, Reps K H0 Oc pins ow σ H g → ∀ Q : Bool → Hp → Prop, (∀ H', Ex H H' → Q b H') → tt σ H Q
/-- operations by values -/
def RR (r : R2) (f : D → D → Option D) : Prop := ∀ x y d, f x y = some d → ∀ (O : Addr → Prop) H v u, (∀ a, O a → Lv H a) → Rp K O H v x → Rp K O H u y → ∀ Q : VK, (∀ w H', Ex H H' → Rp K O H' w d → Q w H') → r v u H Q
def RC (r : List V → Hp → VK → Prop) (f : List D → Option D) : Prop := ∀ xs d, f xs = some d → ∀ (O : Addr → Prop) H vs, (∀ a, O a → Lv H a) → RpA K O H vs xs → ∀ Q : VK, (∀ w H', Ex H H' → Rp K O H' w d → Q w H') → r vs H Q
end

section
variable {K : PySem.W.Frag} {ta tb tc te : TE} {a b c : DF} {tt tu : TT} {t u : DTF}
theorem er_var (i : Nat) : ER K (tVar i) (dVar i) := fun g d h H0 Oc pins ow σ H R Q q => by
  unfold dVar at h
  split at h
  · rename_i d' e
    cases h
    obtain ⟨v, h1, h2⟩ := R.val i d e
    exact ⟨v, h1, q v H (Evl.Ex.refl H) h2⟩
  · cases h
theorem er_int {i : Int} : ER K (tC (.int i)) (dC (.int i)) := fun g d h H0 Oc pins ow σ H R Q q => by cases h; exact q _ H (Evl.Ex.refl H) (.int i)
theorem er_bl {i : Bool} : ER K (tC (.bl i)) (dC (.bl i)) := fun g d h H0 Oc pins ow σ H R Q q => by cases h; exact q _ H (Evl.Ex.refl H) (.bl i)
theorem er_non : ER K (tC .non) (dC .non) := fun g d h H0 Oc pins ow σ H R Q q => by cases h; exact q _ H (Evl.Ex.refl H) .non
theorem er_ty {n : String} : ER K (tC (.ty n)) (dC (.ty n)) := fun g d h H0 Oc pins ow σ H R Q q => by cases h; exact q _ H (Evl.Ex.refl H) (.ty n)
theorem er_2 {r : R2} {f : D → D → Option D} (hf : RR K r f) (ha : ER K ta a) (hb : ER K tb b) : ER K (tOp r ta tb) (d2 f a b) := fun g d h H0 Oc pins ow σ H R Q q => by
  unfold d2 at h
  cases ea : a g with
  | none => rw [ea] at h; cases h
  | some x =>
    rw [ea] at h
    cases eb : b g with
    | none => simp [eb] at h
    | some y =>
      simp only [Option.bind_some, eb] at h
      refine ha g x ea H0 Oc pins ow σ H R _ fun v H1 e1 r1 => ?_
      refine hb g y eb H0 Oc pins ow σ H1 (R.grow e1) _ fun w H2 e2 r2 => ?_
      exact hf x y d h (OO Oc ow) H2 v w ((R.grow e1).grow e2).oo (r1.ex e2) r2 Q fun z H3 e3 r3 => q z H3 ((e1.trans e2).trans e3) r3
theorem ar_nil : AR K tNil aNil := fun g d h H0 Oc pins ow σ H R Q q => by cases h; exact q _ H (Evl.Ex.refl H) .nil
theorem ar_cons {tr : TA} {r : DAF} (ha : ER K ta a) (hr : AR K tr r) : AR K (tCons ta tr) (aCons a r) := fun g d h H0 Oc pins ow σ H R Q q => by
  unfold aCons at h
  cases ea : a g with
  | none => rw [ea] at h; cases h
  | some x =>
    rw [ea] at h
    cases eb : r g with
    | none => simp [eb] at h
    | some y =>
      simp only [Option.bind_some, eb] at h
      cases h
      refine ha g x ea H0 Oc pins ow σ H R _ fun v H1 e1 r1 => ?_
      refine hr g y eb H0 Oc pins ow σ H1 (R.grow e1) _ fun w H2 e2 r2 => ?_
      exact q _ H2 (e1.trans e2) (.cons (r1.ex e2) r2)
theorem er_n {r : List V → Hp → VK → Prop} {f : List D → Option D} {tr : TA} {s : DAF} (hf : RC K r f) (ha : AR K tr s) : ER K (tCB r tr) (dN f s) := fun g d h H0 Oc pins ow σ H R Q q => by
  unfold dN at h
  cases ea : s g with
  | none => rw [ea] at h; cases h
  | some x =>
    rw [ea] at h
    refine ha g x ea H0 Oc pins ow σ H R _ fun v H1 e1 r1 => ?_
    exact hf x d h (OO Oc ow) H1 v (R.grow e1).oo r1 Q fun z H3 e3 r3 => q z H3 (e1.trans e3) r3
theorem new_not {O : Addr → Prop} {H : Hp} {p : Addr} (o : ∀ a, O a → Lv H a) (h : H p = none) : ¬ O p := fun z => (o p z).1 h
theorem er_tup {tr : TA} {s : DAF} (ha : AR K tr s) : ER K (tTup tr) (dN mkTup s) := fun g d h H0 Oc pins ow σ H R Q q => by
  unfold dN at h
  cases ea : s g with
  | none => rw [ea] at h; cases h
  | some x =>
    rw [ea] at h
    unfold mkTup at h
    simp only [Option.bind_some] at h
    split at h
    · rename_i hl
      cases h
      refine ha g x ea H0 Oc pins ow σ H R _ fun v H1 e1 r1 => ⟨by rw [r1.len]; exact Evl.sz_of hl, fun p hp => ?_⟩
      have e2 := Evl.Ex.new (o := .tup v) hp
      exact q _ _ (e1.trans e2) (.tup (new_not (R.grow e1).oo hp) upd_same (r1.ex e2))
    · cases h
theorem er_lst {tr : TA} {s : DAF} (ha : AR K tr s) : ER K (tLst tr) (dN mkLst s) := fun g d h H0 Oc pins ow σ H R Q q => by
  unfold dN at h
  cases ea : s g with
  | none => rw [ea] at h; cases h
  | some x =>
    rw [ea] at h
    unfold mkLst at h
    simp only [Option.bind_some] at h
    split at h
    · rename_i hl
      cases h
      refine ha g x ea H0 Oc pins ow σ H R _ fun v H1 e1 r1 => ⟨by rw [r1.len]; exact Evl.sz_of hl, fun p hp => ?_⟩
      have e2 := Evl.Ex.new (o := .lst v) hp
      exact q _ _ (e1.trans e2) (.lst (new_not (R.grow e1).oo hp) upd_same (r1.ex e2))
    · cases h

/-! ### tests -/
def truD : D → Option Bool
  | .non => some false
  | .bl b => some b
  | .int i => some (i != 0)
  | .str s => if s.length ≤ 100000 then some ((s.length : Int) != 0) else none
  | .lst ds => some (!ds.isEmpty)
  | .tup ds => some (!ds.isEmpty)
  | _ => none
theorem RpA.isEmpty {O : Addr → Prop} {H : Hp} {vs : List V} {ds : List D} (r : RpA K O H vs ds) : vs.isEmpty = ds.isEmpty := by
  cases r <;> rfl
theorem tru_rp {O : Addr → Prop} {H : Hp} {v : V} {d : D} {b : Bool} (r : Rp K O H v d) (h : truD d = some b) : TruV K v H b := by
  cases r with
  | non => cases h; exact rfl
  | bl b => cases h; exact rfl
  | int i => cases h; exact rfl
  | str s =>
    have h : (if s.length ≤ 100000 then some ((s.length : Int) != 0) else none) = some b := h
    split at h
    · rename_i hl
      cases h
      exact ⟨Evl.sz_of hl, rfl⟩
    · cases h
  | lst n e x => cases h; exact .inl ⟨_, .of e, by rw [x.isEmpty]⟩
  | tup n e x => cases h; exact .inr (.inl ⟨_, .of e, by rw [x.isEmpty]⟩)
  | dct n e x r => cases h
  | dck n e x r => cases h
  | sti n e => cases h
  | exn n e r => cases h
  | adr r => cases h
  | scr n e => cases h
  | kscr e => cases h
  | ins n e x => cases h
  | ty n => cases h
  | cls C => cases h
/-- a test by the truth of a value -/
def tTru (K : PySem.W.Frag) (te : TE) : TT := fun σ H Q => te σ H fun x H1 => ∃ k, TruV K x H1 k ∧ Q k H1
def tDt (f : D → Option Bool) (a : DF) : DTF := fun g => (a g).bind f
theorem tr_tru (ha : ER K ta a) : TR K (tTru K ta) (tDt truD a) := fun g d h H0 Oc pins ow σ H R Q q => by
  unfold tDt at h
  cases ea : a g with
  | none => rw [ea] at h; cases h
  | some x =>
    rw [ea] at h
    exact ha g x ea H0 Oc pins ow σ H R _ fun v H1 e1 r1 => ⟨d, tru_rp r1 h, q H1 e1⟩
def blD : D → Option Bool
  | .bl b => some b
  | _ => none
theorem tr_test (ha : ER K ta a) : TR K (tTest ta) (tDt blD a) := fun g d h H0 Oc pins ow σ H R Q q => by
  unfold tDt at h
  cases ea : a g with
  | none => rw [ea] at h; cases h
  | some x =>
    rw [ea] at h
    cases x <;> first | cases h | skip
    exact ha g _ ea H0 Oc pins ow σ H R _ fun v H1 e1 r1 => by
      cases r1
      exact ⟨_, rfl, q H1 e1⟩
def dAndT (a b : DTF) : DTF := fun g => (a g).bind fun x => if x = true then b g else some false
def dOrT (a b : DTF) : DTF := fun g => (a g).bind fun x => if x = true then some true else b g
def dNotT (a : DTF) : DTF := fun g => (a g).map (!·)
theorem tr_and (ha : TR K tt t) (hb : TR K tu u) : TR K (tAnd tt tu) (dAndT t u) := fun g d h H0 Oc pins ow σ H R Q q => by
  unfold dAndT at h
  cases ea : t g with
  | none => rw [ea] at h; cases h
  | some x =>
    rw [ea] at h
    simp only [Option.bind_some] at h
    refine ha g x ea H0 Oc pins ow σ H R _ fun H1 e1 => ?_
    cases x with
    | true =>
      rw [if_pos rfl] at h
      show tu σ H1 Q
      exact hb g d h H0 Oc pins ow σ H1 (R.grow e1) Q fun H2 e2 => q H2 (e1.trans e2)
    | false =>
      rw [if_neg Bool.false_ne_true] at h
      cases h
      show Q false H1
      exact q H1 e1
theorem tr_or (ha : TR K tt t) (hb : TR K tu u) : TR K (tOr tt tu) (dOrT t u) := fun g d h H0 Oc pins ow σ H R Q q => by
  unfold dOrT at h
  cases ea : t g with
  | none => rw [ea] at h; cases h
  | some x =>
    rw [ea] at h
    simp only [Option.bind_some] at h
    refine ha g x ea H0 Oc pins ow σ H R _ fun H1 e1 => ?_
    cases x with
    | true =>
      rw [if_pos rfl] at h
      cases h
      show Q true H1
      exact q H1 e1
    | false =>
      rw [if_neg Bool.false_ne_true] at h
      show tu σ H1 Q
      exact hb g d h H0 Oc pins ow σ H1 (R.grow e1) Q fun H2 e2 => q H2 (e1.trans e2)
theorem tr_not (ha : TR K tt t) : TR K (tNot tt) (dNotT t) := fun g d h H0 Oc pins ow σ H R Q q => by
  unfold dNotT at h
  cases ea : t g with
  | none => rw [ea] at h; cases h
  | some x =>
    rw [ea] at h
    cases h
    exact ha g x ea H0 Oc pins ow σ H R _ fun H1 e1 => q H1 e1
/-- and, or, not as values (bools) -/
def dAndV (a b : DF) : DF := fun g => (a g).bind fun x => match x with
  | .bl true => b g
  | .bl false => some (.bl false)
  | _ => none
def dOrV (a b : DF) : DF := fun g => (a g).bind fun x => match x with
  | .bl true => some (.bl true)
  | .bl false => b g
  | _ => none
def notD : D → Option D
  | .bl b => some (.bl (!b))
  | _ => none
theorem er_and (ha : ER K ta a) (hb : ER K tb b) : ER K (tAndV ta tb) (dAndV a b) := fun g d h H0 Oc pins ow σ H R Q q => by
  unfold dAndV at h
  cases ea : a g with
  | none => rw [ea] at h; cases h
  | some x =>
    rw [ea] at h
    simp only [Option.bind_some] at h
    cases x <;> first | cases h | skip
    rename_i k
    refine ha g _ ea H0 Oc pins ow σ H R _ fun v H1 e1 r1 => ?_
    cases r1
    refine ⟨k, rfl, ?_⟩
    cases k with
    | true =>
      show tb σ H1 Q
      exact hb g d h H0 Oc pins ow σ H1 (R.grow e1) Q fun v H2 e2 => q v H2 (e1.trans e2)
    | false =>
      cases h
      show Q (.bl false) H1
      exact q _ H1 e1 (.bl false)
theorem er_or (ha : ER K ta a) (hb : ER K tb b) : ER K (tOrV ta tb) (dOrV a b) := fun g d h H0 Oc pins ow σ H R Q q => by
  unfold dOrV at h
  cases ea : a g with
  | none => rw [ea] at h; cases h
  | some x =>
    rw [ea] at h
    simp only [Option.bind_some] at h
    cases x <;> first | cases h | skip
    rename_i k
    refine ha g _ ea H0 Oc pins ow σ H R _ fun v H1 e1 r1 => ?_
    cases r1
    refine ⟨k, rfl, ?_⟩
    cases k with
    | true =>
      cases h
      show Q (.bl true) H1
      exact q _ H1 e1 (.bl true)
    | false =>
      show tb σ H1 Q
      exact hb g d h H0 Oc pins ow σ H1 (R.grow e1) Q fun v H2 e2 => q v H2 (e1.trans e2)
theorem er_not (ha : ER K ta a) : ER K (tNotV ta) (d1 notD a) := fun g d h H0 Oc pins ow σ H R Q q => by
  unfold d1 at h
  cases ea : a g with
  | none => rw [ea] at h; cases h
  | some x =>
    rw [ea] at h
    simp only [Option.bind_some] at h
    cases x <;> first | cases h | skip
    rename_i k
    refine ha g _ ea H0 Oc pins ow σ H R _ fun v H1 e1 r1 => ?_
    cases r1
    exact ⟨k, rfl, q _ H1 e1 (.bl _)⟩
/-- x if c else y -/
def dIf (t : DTF) (a b : DF) : DF := fun g => (t g).bind fun x => if x = true then a g else b g
/-- a < b < c -/
def dChain (f f' : D → D → Option D) (a b c : DF) : DF := fun g => (a g).bind fun x => (b g).bind fun y => (f x y).bind fun z => match z with
  | .bl true => (c g).bind fun w => f' y w
  | .bl false => some (.bl false)
  | _ => none
/-- peeking: a test, or a flat value, may look at what is owned -/
def peekT (t : DTF) : DTF := fun g => t (frzAll g)
theorem tr_peek (ht : TR K tt t) : TR K tt (peekT t) := fun g d h H0 Oc pins ow σ H R Q q => ht _ d h H0 Oc _ noOw σ H R.frzAll Q q
end
end Zk
end

section
set_option Elab.async false
set_option linter.all false
set_option maxRecDepth 100000
set_option autoImplicit false
set_option maxHeartbeats 2000000
/-! Operators, calls, subscripts on data. -/
namespace Zk
open PySem L2 PyProof.Rows
open Evl (Ex)

/-! ### what the machine's rules are joined to -/
def CMulX (i j : Int) : Prop := i.natAbs.log2 + j.natAbs.log2 < 100000000
theorem CMulX.ok {i j : Int} (h : CMulX i j) : IntMulOk i j := by
  have b : ∀ x : Int, Builtin.Int.intBits x ≤ x.natAbs.log2 + 1 := fun x => by
    unfold Builtin.Int.intBits
    split <;> omega
  have h1 := b i
  have h2 := b j
  have h3 : i.natAbs.log2 + j.natAbs.log2 < 100000000 := h
  have e : bitsLine = 134217728 := by decide
  unfold IntMulOk
  intro z
  rw [Bool.and_eq_true] at z
  have z2 := z.2
  unfold Builtin.Int.intTooBig at z2
  have z3 := of_decide_eq_true z2
  rw [e] at z3
  omega
section
variable {X : Cx}
theorem op_mulX : OpR X (binaryOp .Mult) (rI CMulX fun i j => .int (i * j)) := opI fun _ _ _ _ _ _ _ hc q => mul_int q hc.ok
def rAddA : R2 := fun x y H Q => rI0 (fun i j => .int (i + j)) x y H Q ∨ (∃ i j, x = .str i ∧ y = .str j ∧ i.length + j.length ≤ sizeLine ∧ Q (.str (i ++ j)) H) ∨ rCat x y H Q
theorem op_addA : OpR X (binaryOp .Add) rAddA := op_add.or (op_add_str.or op_cat)
def rMulA : R2 := fun x y H Q => rI CMulX (fun i j => .int (i * j)) x y H Q ∨ rRep x y H Q
theorem op_mulA : OpR X (binaryOp .Mult) rMulA := op_mulX.or op_rep
def rLenA (K : PySem.W.Frag) : List V → Hp → VK → Prop := fun xs H Q => (∃ p ys, xs = [.ref p] ∧ (SqL K H p ys ∨ SqT K H p ys) ∧ Q (.int ys.length) H) ∨ ∃ z, xs = [.str z] ∧ z.length ≤ sizeLine ∧ Q (.int z.length) H
theorem call_lenA : CallR X (.builtin "len") (rLenA X.K) := call_len_seq.or call_len_str
def rMaxA (K : PySem.W.Frag) : List V → Hp → VK → Prop := fun xs H Q => rMax K xs H Q ∨ (∃ i j, xs = [.int i, .int j] ∧ Q (.int (if j > i then j else i)) H)
theorem call_maxA (hc : X.calm = true) : CallR X (.builtin "max") (rMaxA X.K) := (cr_max hc).or (call_max2 hc)
end

/-! ### the same on data -/
def addD : D → D → Option D
  | .int i, .int j => some (.int (i + j))
  | .str a, .str b => if a.length + b.length ≤ 100000 then some (.str (a ++ b)) else none
  | .lst a, .lst b => if a.length + b.length ≤ 100000 then some (.lst (a ++ b)) else none
  | _, _ => none
def subD : D → D → Option D
  | .int i, .int j => some (.int (i - j))
  | _, _ => none
def mulD : D → D → Option D
  | .int i, .int j => if i.natAbs.log2 + j.natAbs.log2 < 100000000 then some (.int (i * j)) else none
  | .lst a, .int k => if k ≤ 100000 ∧ -100000 ≤ k ∧ a.length * k.toNat ≤ 100000 then some (.lst (List.replicate k.toNat a).flatten) else none
  | _, _ => none
def fdivD : D → D → Option D
  | .int i, .int j => if 0 < j ∧ j.natAbs.log2 < 9000 then some (.int (i / j)) else none
  | _, _ => none
def modD : D → D → Option D
  | .int i, .int j => if 0 < j then some (.int (i % j)) else none
  | _, _ => none
def powD : D → D → Option D
  | .int i, .int j => if 0 ≤ j ∧ j ≤ 1000000 ∧ i.natAbs < 2 ^ 64 then some (.int (i ^ j.toNat)) else none
  | _, _ => none
def ltD : D → D → Option D
  | .int i, .int j => some (.bl (decide (i < j)))
  | _, _ => none
def leD : D → D → Option D
  | .int i, .int j => some (.bl (decide (i ≤ j)))
  | _, _ => none
def gtD : D → D → Option D
  | .int i, .int j => some (.bl (decide (j < i)))
  | _, _ => none
def geD : D → D → Option D
  | .int i, .int j => some (.bl (decide (j ≤ i)))
  | _, _ => none

section
variable {K : PySem.W.Frag}
theorem rr_fin {O : Addr → Prop} {H : Hp} {Q : VK} {v : V} {d : D} (q : ∀ w H', Ex H H' → Rp K O H' w d → Q w H') (r : Rp K O H v d) : Q v H := q v H (Evl.Ex.refl H) r
theorem rr_newL {O : Addr → Prop} {H : Hp} {Q : VK} {vs : List V} {ds : List D} (o : ∀ a, O a → Lv H a) (q : ∀ w H', Ex H H' → Rp K O H' w (.lst ds) → Q w H') (r : RpA K O H vs ds) : ∀ p, H p = none → Q (.ref p) (upd H p (.lst vs)) := fun p hp =>
  q _ _ (Evl.Ex.new hp) (.lst (new_not o hp) upd_same (r.ex (Evl.Ex.new hp)))
theorem rr_newT {O : Addr → Prop} {H : Hp} {Q : VK} {vs : List V} {ds : List D} (o : ∀ a, O a → Lv H a) (q : ∀ w H', Ex H H' → Rp K O H' w (.tup ds) → Q w H') (r : RpA K O H vs ds) : ∀ p, H p = none → Q (.ref p) (upd H p (.tup vs)) := fun p hp =>
  q _ _ (Evl.Ex.new hp) (.tup (new_not o hp) upd_same (r.ex (Evl.Ex.new hp)))
theorem rr_add : RR K rAddA addD := fun x y d h O H v u o rx ry Q q => by
  unfold addD at h
  split at h
  · cases h; cases rx; cases ry
    exact .inl ⟨_, _, rfl, rfl, rr_fin q (.int _)⟩
  · split at h
    · rename_i hl
      cases h; cases rx; cases ry
      exact .inr (.inl ⟨_, _, rfl, rfl, Evl.sz_of hl, rr_fin q (.str _)⟩)
    · cases h
  · split at h
    · rename_i hl
      cases h
      cases rx with
      | lst n e r =>
        cases ry with
        | lst n' e' r' => exact .inr (.inr ⟨_, _, _, _, rfl, rfl, e, e', by rw [r.len, r'.len]; exact Evl.sz_of hl, rr_newL o q (r.app r')⟩)
    · cases h
  · cases h
theorem rr_ii {f : D → D → Option D} {g : Int → Int → V} (gd : Int → Int → D) (hf : ∀ x y d, f x y = some d → ∃ i j, x = .int i ∧ y = .int j ∧ d = gd i j) (hg : ∀ (i j : Int) (O : Addr → Prop) (H : Hp), Rp K O H (g i j) (gd i j)) : RR K (rI0 g) f := fun x y d h O H v u o rx ry Q q => by
  obtain ⟨i, j, rfl, rfl, rfl⟩ := hf x y d h
  cases rx; cases ry
  exact ⟨i, j, rfl, rfl, rr_fin q (hg i j O H)⟩
theorem rr_iic {C : Int → Int → Prop} {f : D → D → Option D} {g : Int → Int → V} (gd : Int → Int → D) (hf : ∀ x y d, f x y = some d → ∃ i j, x = .int i ∧ y = .int j ∧ C i j ∧ d = gd i j) (hg : ∀ (i j : Int) (O : Addr → Prop) (H : Hp), Rp K O H (g i j) (gd i j)) : RR K (rI C g) f := fun x y d h O H v u o rx ry Q q => by
  obtain ⟨i, j, rfl, rfl, hc, rfl⟩ := hf x y d h
  cases rx; cases ry
  exact ⟨i, j, rfl, rfl, hc, rr_fin q (hg i j O H)⟩
theorem rr_sub : RR K (rI0 fun i j => .int (i - j)) subD := rr_ii (fun i j => .int (i - j)) (fun x y d h => by unfold subD at h; split at h <;> first | (cases h; exact ⟨_, _, rfl, rfl, rfl⟩) | cases h) fun i j O H => .int _
theorem rr_lt : RR K (rI0 fun i j => .bl (decide (i < j))) ltD := rr_ii (fun i j => .bl (decide (i < j))) (fun x y d h => by unfold ltD at h; split at h <;> first | (cases h; exact ⟨_, _, rfl, rfl, rfl⟩) | cases h) fun i j O H => .bl _
theorem rr_gt : RR K (rI0 fun i j => .bl (decide (j < i))) gtD := rr_ii (fun i j => .bl (decide (j < i))) (fun x y d h => by unfold gtD at h; split at h <;> first | (cases h; exact ⟨_, _, rfl, rfl, rfl⟩) | cases h) fun i j O H => .bl _
theorem rr_ge : RR K (rI0 fun i j => .bl (decide (j ≤ i))) geD := rr_ii (fun i j => .bl (decide (j ≤ i))) (fun x y d h => by unfold geD at h; split at h <;> first | (cases h; exact ⟨_, _, rfl, rfl, rfl⟩) | cases h) fun i j O H => .bl _
theorem rr_fdiv : RR K (rI CDivW fun i j => .int (i / j)) fdivD := rr_iic (fun i j => .int (i / j)) (fun x y d h => by
  unfold fdivD at h
  split at h
  · split at h
    · rename_i hc
      cases h; exact ⟨_, _, rfl, rfl, hc, rfl⟩
    · cases h
  · cases h) fun i j O H => .int _
theorem rr_mod : RR K (rI (fun _ j => 0 < j) fun i j => .int (i % j)) modD := rr_iic (fun i j => .int (i % j)) (fun x y d h => by
  unfold modD at h
  split at h
  · split at h
    · rename_i hc
      cases h; exact ⟨_, _, rfl, rfl, hc, rfl⟩
    · cases h
  · cases h) fun i j O H => .int _
theorem rr_pow : RR K (rI CPow fun i j => .int (i ^ j.toNat)) powD := rr_iic (fun i j => .int (i ^ j.toNat)) (fun x y d h => by
  unfold powD at h
  split at h
  · split at h
    · rename_i hc
      cases h; exact ⟨_, _, rfl, rfl, hc, rfl⟩
    · cases h
  · cases h) fun i j O H => .int _
theorem RpA.rep {O : Addr → Prop} {H : Hp} {vs : List V} {ds : List D} (r : RpA K O H vs ds) : ∀ k : Nat, RpA K O H (List.replicate k vs).flatten (List.replicate k ds).flatten
  | 0 => .nil
  | k + 1 => by
    rw [List.replicate_succ, List.replicate_succ, List.flatten_cons, List.flatten_cons]
    exact r.app (RpA.rep r k)
theorem rr_mul : RR K rMulA mulD := fun x y d h O H v u o rx ry Q q => by
  unfold mulD at h
  split at h
  · split at h
    · rename_i hc
      cases h; cases rx; cases ry
      exact .inl ⟨_, _, rfl, rfl, hc, rr_fin q (.int _)⟩
    · cases h
  · split at h
    · rename_i hc
      cases h
      cases rx with
      | lst n e r =>
        cases ry
        obtain ⟨h1, h2, h3⟩ := hc
        exact .inr ⟨_, _, _, rfl, rfl, e, by omega, by omega, by rw [r.len]; exact Evl.sz_of h3, rr_newL o q (r.rep _)⟩
    · cases h
  · cases h
end
end Zk
end

section
set_option Elab.async false
set_option linter.all false
set_option maxRecDepth 100000
set_option autoImplicit false
set_option maxHeartbeats 2000000
/-! Comparisons, subscripts, built-in calls on data. -/
namespace Zk
open PySem L2 PyProof.Rows
open Evl (Ex)

/-! ### ==, != at any depth -/
mutual
def toP : D → Option PyData
  | .non => some .none
  | .bl b => some (.bool b)
  | .int i => some (.int i)
  | .str s => some (.str s)
  | .lst ds => (toPs ds).map .list
  | .tup ds => (toPs ds).map .tuple
  | _ => none
def toPs : List D → Option (List PyData)
  | [] => some []
  | d :: ds => (toP d).bind fun p => (toPs ds).map (p :: ·)
end
section
variable {K : PySem.W.Frag} {O : Addr → Prop} {H : Hp}
mutual
theorem dp_of : ∀ {d : D} {v : V} {p : PyData}, Rp K O H v d → toP d = some p → Dp K H v p
  | .non, _, _, .non, e => by cases e; exact .non
  | .bl _, _, _, .bl b, e => by cases e; exact .bl b
  | .int _, _, _, .int i, e => by cases e; exact .int i
  | .str _, _, _, .str s, e => by cases e; exact .str s
  | .lst ds, _, p, .lst n h r, e => by
    unfold toP at e
    cases q : toPs ds with
    | none => rw [q] at e; cases e
    | some ps =>
      rw [q] at e
      cases e
      exact .lst (.of h) (dps_of r q)
  | .tup ds, _, p, .tup n h r, e => by
    unfold toP at e
    cases q : toPs ds with
    | none => rw [q] at e; cases e
    | some ps =>
      rw [q] at e
      cases e
      exact .tup (.of h) (dps_of r q)
  | .scr _, _, _, _, e => by cases e
  | .ins _ _, _, _, _, e => by cases e
  | .dct _, _, _, _, e => by cases e
  | .dck _, _, _, _, e => by cases e
  | .sti _ _, _, _, _, e => by cases e
  | .exn _ _ _ _, _, _, _, e => by cases e
  | .adr _ _, _, _, _, e => by cases e
  | .ty _, _, _, _, e => by cases e
  | .cls _, _, _, _, e => by cases e
theorem dps_of : ∀ {ds : List D} {vs : List V} {ps : List PyData}, RpA K O H vs ds → toPs ds = some ps → DpAll K H vs ps
  | [], _, _, .nil, e => by cases e; exact .nil
  | d :: ds, _, ps, .cons h r, e => by
    unfold toPs at e
    cases q : toP d with
    | none => rw [q] at e; cases e
    | some p =>
      rw [q] at e
      cases q2 : toPs ds with
      | none => simp [q2] at e
      | some ps' =>
        simp only [Option.bind_some, q2, Option.map_some] at e
        cases e
        exact .cons (dp_of h q) (dps_of r q2)
end
end
def eqB (x y : D) : Option Bool := (toP x).bind fun p => (toP y).bind fun q => if SeqAt.shaped p && SeqAt.shaped q then some (PyData.eqv p q) else none
def eqD (x y : D) : Option D := (eqB x y).map .bl
def neD (x y : D) : Option D := (eqB x y).map fun b => .bl (!b)
theorem eqB_get {x y : D} {b : Bool} (h : eqB x y = some b) : ∃ p q, toP x = some p ∧ toP y = some q ∧ SeqAt.shaped p = true ∧ SeqAt.shaped q = true ∧ b = PyData.eqv p q := by
  unfold eqB at h
  cases hx : toP x with
  | none => rw [hx] at h; cases h
  | some p =>
    rw [hx] at h
    cases hy : toP y with
    | none => simp [hy] at h
    | some q =>
      simp only [Option.bind_some, hy] at h
      split at h
      · rename_i c
        cases h
        rw [Bool.and_eq_true] at c
        exact ⟨p, q, rfl, rfl, c.1, c.2, rfl⟩
      · cases h
section
variable {K : PySem.W.Frag}
theorem rr_eq : RR K (rEqD K) eqD := fun x y d h O H v u o rx ry Q q => by
  unfold eqD at h
  cases e : eqB x y with
  | none => rw [e] at h; cases h
  | some b =>
    rw [e] at h
    cases h
    obtain ⟨p, p', h1, h2, h3, h4, rfl⟩ := eqB_get e
    exact ⟨p, p', dp_of rx h1, dp_of ry h2, h3, h4, rr_fin q (.bl _)⟩
theorem rr_ne : RR K (rNeD K) neD := fun x y d h O H v u o rx ry Q q => by
  unfold neD at h
  cases e : eqB x y with
  | none => rw [e] at h; cases h
  | some b =>
    rw [e] at h
    cases h
    obtain ⟨p, p', h1, h2, h3, h4, rfl⟩ := eqB_get e
    exact ⟨p, p', dp_of rx h1, dp_of ry h2, h3, h4, rr_fin q (.bl _)⟩
/-- is None -/
def rIsN : R2 := fun x y H Q => y = .non ∧ Q (.bl (decide (x = .non))) H
def isNonD : D → Bool
  | .non => true
  | _ => false
def isD (x : D) : D → Option D
  | .non => some (.bl (isNonD x))
  | _ => none
def isntD (x : D) : D → Option D
  | .non => some (.bl (!isNonD x))
  | _ => none
theorem isNon_rp {O : Addr → Prop} {H : Hp} {v : V} {d : D} (r : Rp K O H v d) : decide (v = .non) = isNonD d := by
  cases r <;> first | rfl | (show decide (V.ref _ = V.non) = false; exact decide_eq_false (fun q => by cases q)) | exact decide_eq_false (fun q => by cases q)
theorem rr_is : RR K rIsN isD := fun x y d h O H v u o rx ry Q q => by
  unfold isD at h
  split at h
  · cases h; cases ry
    exact ⟨rfl, by rw [isNon_rp rx]; exact rr_fin q (.bl _)⟩
  · cases h
/-! ### in: flat items -/
def D.flat4 : D → Bool
  | .non => true | .bl _ => true | .int _ => true | .str _ => true | _ => false
def eqF : D → D → Bool
  | .non, .non => true
  | .bl a, .bl b => a == b
  | .bl a, .int b => (if a then 1 else 0) == b
  | .int a, .bl b => a == (if b then 1 else 0)
  | .int a, .int b => a == b
  | .str a, .str b => a == b
  | _, _ => false
theorem flat4_rp {O : Addr → Prop} {H : Hp} {v : V} {d : D} (r : Rp K O H v d) (f : d.flat4 = true) : flatV v = true := by
  cases r <;> first | rfl | cases f
theorem eqF_rp {O O' : Addr → Prop} {H H' : Hp} {v u : V} {d e : D} (r : Rp K O H v d) (s : Rp K O' H' u e) (f : d.flat4 = true) (f' : e.flat4 = true) : eqV v u = eqF d e := by
  cases r <;> first | (cases f; done) | (cases s <;> first | (cases f'; done) | rfl)
theorem flats_rp {O : Addr → Prop} {H : Hp} : ∀ {vs : List V} {ds : List D}, RpA K O H vs ds → ds.all D.flat4 = true → vs.all flatV = true
  | _, _, .nil, _ => rfl
  | _, _, .cons h r, f => by
    rw [List.all_cons, Bool.and_eq_true] at f ⊢
    exact ⟨flat4_rp h f.1, flats_rp r f.2⟩
theorem inV_rp {O : Addr → Prop} {H : Hp} {u : V} {e : D} (s : Rp K O H u e) (f' : e.flat4 = true) : ∀ {vs : List V} {ds : List D}, RpA K O H vs ds → ds.all D.flat4 = true → inV u vs = ds.any fun z => eqF z e
  | _, _, .nil, _ => rfl
  | _, _, .cons h r, f => by
    rw [List.all_cons, Bool.and_eq_true] at f
    have ih := inV_rp s f' r f.2
    unfold inV at ih ⊢
    rw [List.any_cons, List.any_cons, ih, eqF_rp h s f.1 f']
def inB (x : D) : D → Option Bool
  | .lst ds => if x.flat4 && ds.all D.flat4 then some (ds.any fun z => eqF z x) else none
  | .tup ds => if x.flat4 && ds.all D.flat4 then some (ds.any fun z => eqF z x) else none
  | _ => none
def inD (x y : D) : Option D := (inB x y).map .bl
def ninD (x y : D) : Option D := (inB x y).map fun b => .bl (!b)
theorem in_rp {O : Addr → Prop} {H : Hp} {x y : D} {v u : V} {b : Bool} (h : inB x y = some b) (rx : Rp K O H v x) (ry : Rp K O H u y) : ∃ p xs, u = .ref p ∧ (SqL K H p xs ∨ SqT K H p xs) ∧ flatV v = true ∧ xs.all flatV = true ∧ inV v xs = b := by
  unfold inB at h
  split at h
  · split at h
    · rename_i c
      cases h
      rw [Bool.and_eq_true] at c
      cases ry with
      | lst n e r => exact ⟨_, _, rfl, .inl (.of e), flat4_rp rx c.1, flats_rp r c.2, inV_rp rx c.1 r c.2⟩
    · cases h
  · split at h
    · rename_i c
      cases h
      rw [Bool.and_eq_true] at c
      cases ry with
      | tup n e r => exact ⟨_, _, rfl, .inr (.of e), flat4_rp rx c.1, flats_rp r c.2, inV_rp rx c.1 r c.2⟩
    · cases h
  · cases h
theorem rr_in : RR K (rIn K false) inD := fun x y d h O H v u o rx ry Q q => by
  unfold inD at h
  cases e : inB x y with
  | none => rw [e] at h; cases h
  | some b =>
    rw [e] at h
    cases h
    obtain ⟨p, xs, h1, h2, h3, h4, h5⟩ := in_rp e rx ry
    refine ⟨p, xs, h1, h2, h3, h4, ?_⟩
    rw [if_neg Bool.false_ne_true, h5]
    exact rr_fin q (.bl _)
theorem rr_nin : RR K (rIn K true) ninD := fun x y d h O H v u o rx ry Q q => by
  unfold ninD at h
  cases e : inB x y with
  | none => rw [e] at h; cases h
  | some b =>
    rw [e] at h
    cases h
    obtain ⟨p, xs, h1, h2, h3, h4, h5⟩ := in_rp e rx ry
    refine ⟨p, xs, h1, h2, h3, h4, ?_⟩
    rw [if_pos rfl, h5]
    exact rr_fin q (.bl _)
/-! ### subscripts -/
def ixD : D → D → Option D
  | .lst ds, .int i => atI ds i
  | .tup ds, .int i => atI ds i
  | .scr ns, .int i => (atI ns i).map .int
  | .str s, .int i => if s.length ≤ 100000 then (atI s.cps.toList i).map fun c => .str ⟨#[c]⟩ else none
  | _, _ => none
theorem RpA.at {O : Addr → Prop} {H : Hp} {vs : List V} {ds : List D} {i : Int} {d : D} (r : RpA K O H vs ds) (h : atI ds i = some d) : ∃ v, atI vs i = some v ∧ Rp K O H v d := by
  unfold atI at h ⊢
  rw [r.len]
  cases e : ixN ds.length i with
  | none => rw [e] at h; cases h
  | some j =>
    rw [e] at h
    obtain ⟨v, h1, h2⟩ := r.get h
    exact ⟨v, h1, h2⟩
theorem atI_map {α β : Type} (f : α → β) (xs : List α) (i : Int) : atI (xs.map f) i = (atI xs i).map f := by
  unfold atI
  rw [List.length_map]
  cases ixN xs.length i with
  | none => rfl
  | some j => simp [List.getElem?_map]
theorem rr_ix : RR K (rIx K) ixD := fun x y d h O H v u o rx ry Q q => by
  unfold ixD at h
  split at h
  · cases ry
    cases rx with
    | lst n e r =>
      obtain ⟨w, h1, h2⟩ := r.at h
      exact .inl ⟨_, _, _, w, rfl, rfl, .of e, h1, rr_fin q h2⟩
  · cases ry
    cases rx with
    | tup n e r =>
      obtain ⟨w, h1, h2⟩ := r.at h
      exact .inr (.inl ⟨_, _, _, w, rfl, rfl, .of e, h1, rr_fin q h2⟩)
  · rename_i ns i
    cases ry
    cases e : atI ns i with
    | none => rw [e] at h; cases h
    | some k =>
      rw [e] at h
      cases h
      have e2 : atI (ns.map V.int) i = some (.int k) := by rw [atI_map, e] <;> rfl
      cases rx with
      | scr n r => exact .inl ⟨_, _, _, _, rfl, rfl, .inl r, e2, rr_fin q (.int k)⟩
      | kscr r => exact .inl ⟨_, _, _, _, rfl, rfl, r H, e2, rr_fin q (.int k)⟩
  · rename_i s i
    split at h
    · rename_i hl
      cases e : atI s.cps.toList i with
      | none => rw [e] at h; cases h
      | some k =>
        rw [e] at h
        cases h; cases rx; cases ry
        exact .inr (.inr ⟨_, _, _, rfl, rfl, Evl.sz_of hl, e, rr_fin q (.str _)⟩)
    · cases h
  · cases h
/-! ### slices -/
abbrev DOF : Type := Gm → Option (Option Int)
def oNone : DOF := fun _ => some none
def oSome (a : DF) : DOF := fun g => (a g).bind fun x => match x with
  | .int i => some (some i)
  | _ => none
def OR (K : PySem.W.Frag) (to : TO) (t : DOF) : Prop := ∀ g b, t g = some b → ∀ H0 Oc pins ow σ H, Reps K H0 Oc pins ow σ H g → ∀ Q : Option Int → Hp → Prop, (∀ H', Ex H H' → Q b H') → to σ H Q
theorem or_none : OR K tNoPart oNone := fun g d h H0 Oc pins ow σ H R Q q => by cases h; exact q H (Evl.Ex.refl H)
theorem or_some {te : TE} {a : DF} (ha : ER K te a) : OR K (tPart te) (oSome a) := fun g d h H0 Oc pins ow σ H R Q q => by
  unfold oSome at h
  cases ea : a g with
  | none => rw [ea] at h; cases h
  | some x =>
    rw [ea] at h
    simp only [Option.bind_some] at h
    split at h
    · cases h
      exact ha g _ ea H0 Oc pins ow σ H R _ fun v H1 e1 r1 => by
        cases r1
        exact ⟨_, rfl, q H1 e1⟩
    · cases h
def cutL {α : Type} (xs : List α) (lo hi : Option Int) : List α := (xs.drop (HT.sIx xs.length 0 lo)).take (HT.sIx xs.length xs.length hi - HT.sIx xs.length 0 lo)
theorem RpA.cut {O : Addr → Prop} {H : Hp} {vs : List V} {ds : List D} (r : RpA K O H vs ds) (lo hi : Option Int) : RpA K O H (cutV vs lo hi) (cutL ds lo hi) := by
  unfold cutV cutL
  rw [r.len]
  exact (r.drop _).take _
def slD : D → Option Int → Option Int → Option D
  | .lst ds, lo, hi => some (.lst (cutL ds lo hi))
  | _, _, _ => none
def dSl (a : DF) (lo hi : DOF) : DF := fun g => (a g).bind fun x => (lo g).bind fun l => (hi g).bind fun h => slD x l h
theorem er_sl {te : TE} {tl th : TO} {a : DF} {lo hi : DOF} (ha : ER K te a) (hl : OR K tl lo) (hh : OR K th hi) : ER K (tSl (rSlL K) te tl th) (dSl a lo hi) := fun g d h H0 Oc pins ow σ H R Q q => by
  unfold dSl at h
  cases ea : a g with
  | none => rw [ea] at h; cases h
  | some x =>
    rw [ea] at h
    cases el : lo g with
    | none => simp [el] at h
    | some l =>
      simp only [Option.bind_some, el] at h
      cases eh : hi g with
      | none => simp [eh] at h
      | some u =>
        simp only [Option.bind_some, eh] at h
        refine ha g x ea H0 Oc pins ow σ H R _ fun v H1 e1 r1 => ?_
        refine hl g l el H0 Oc pins ow σ H1 (R.grow e1) _ fun H2 e2 => ?_
        refine hh g u eh H0 Oc pins ow σ H2 ((R.grow e1).grow e2) _ fun H3 e3 => ?_
        unfold slD at h
        split at h
        · cases h
          have r3 := (r1.ex e2).ex e3
          cases r3 with
          | lst n e r =>
            exact ⟨_, _, rfl, .of e, rr_newL (((R.grow e1).grow e2).grow e3).oo (fun w H' e' r' => q w H' (((e1.trans e2).trans e3).trans e') r') (r.cut l u)⟩
        · cases h
/-! ### calls -/
def lenD : List D → Option D
  | [.lst ds] => some (.int ds.length)
  | [.tup ds] => some (.int ds.length)
  | [.scr ns] => some (.int ns.length)
  | [.str s] => if s.length ≤ 100000 then some (.int s.length) else none
  | _ => none
theorem rc_len : RC K (rLenA K) lenD := fun xs d h O H vs o r Q q => by
  unfold lenD at h
  split at h
  · cases h
    cases r with
    | cons r rr =>
      cases rr
      cases r with
      | lst n e r => exact .inl ⟨_, _, rfl, .inl (.of e), by rw [r.len]; exact rr_fin q (.int _)⟩
  · cases h
    cases r with
    | cons r rr =>
      cases rr
      cases r with
      | tup n e r => exact .inl ⟨_, _, rfl, .inr (.of e), by rw [r.len]; exact rr_fin q (.int _)⟩
  · cases h
    cases r with
    | cons r rr =>
      cases rr
      cases r with
      | scr n e => exact .inl ⟨_, _, rfl, .inl (.inl e), by rw [List.length_map]; exact rr_fin q (.int _)⟩
      | kscr e => exact .inl ⟨_, _, rfl, .inl (e H), by rw [List.length_map]; exact rr_fin q (.int _)⟩
  · split at h
    · rename_i hl
      cases h
      cases r with
      | cons r rr =>
        cases rr
        cases r
        exact .inr ⟨_, rfl, Evl.sz_of hl, rr_fin q (.int _)⟩
    · cases h
  · cases h
def rAbs : List V → Hp → VK → Prop := fun xs H Q => ∃ i, xs = [.int i] ∧ Q (.int (if i < 0 then -i else i)) H
def absD : List D → Option D
  | [.int i] => some (.int (if i < 0 then -i else i))
  | _ => none
theorem rc_abs : RC K rAbs absD := fun xs d h O H vs o r Q q => by
  unfold absD at h
  split at h
  · cases h
    cases r with
    | cons r rr => cases rr; cases r; exact ⟨_, rfl, rr_fin q (.int _)⟩
  · cases h
def rInt1 : List V → Hp → VK → Prop := fun xs H Q => (∃ i, xs = [.int i] ∧ Q (.int i) H) ∨ ∃ k, xs = [.bl k] ∧ Q (.int (if k then 1 else 0)) H
def intD : List D → Option D
  | [.int i] => some (.int i)
  | [.bl k] => some (.int (if k = true then 1 else 0))
  | _ => none
theorem rc_int : RC K rInt1 intD := fun xs d h O H vs o r Q q => by
  unfold intD at h
  split at h
  · cases h
    cases r with
    | cons r rr => cases rr; cases r; exact .inl ⟨_, rfl, rr_fin q (.int _)⟩
  · cases h
    cases r with
    | cons r rr => cases rr; cases r; exact .inr ⟨_, rfl, rr_fin q (.int _)⟩
  · cases h
def rListOf (K : PySem.W.Frag) : List V → Hp → VK → Prop := fun xs H Q => ∃ p ys, xs = [.ref p] ∧ (SqL K H p ys ∨ SqT K H p ys) ∧ ∀ l, H l = none → Q (.ref l) (upd H l (.lst ys))
def listD : List D → Option D
  | [.lst ds] => some (.lst ds)
  | [.tup ds] => some (.lst ds)
  | _ => none
theorem rc_list : RC K (rListOf K) listD := fun xs d h O H vs o r Q q => by
  unfold listD at h
  split at h
  · cases h
    cases r with
    | cons r rr =>
      cases rr
      cases r with
      | lst n e r => exact ⟨_, _, rfl, .inl (.of e), rr_newL o q r⟩
  · cases h
    cases r with
    | cons r rr =>
      cases rr
      cases r with
      | tup n e r => exact ⟨_, _, rfl, .inr (.of e), rr_newL o q r⟩
  · cases h
def rTupleOf (K : PySem.W.Frag) : List V → Hp → VK → Prop := fun xs H Q => ∃ p ys, xs = [.ref p] ∧ ((SqL K H p ys ∧ ∀ l, H l = none → Q (.ref l) (upd H l (.tup ys))) ∨ (SqT K H p ys ∧ Q (.ref p) H))
def tupleD : List D → Option D
  | [.lst ds] => some (.tup ds)
  | [.tup ds] => some (.tup ds)
  | _ => none
theorem rc_tuple : RC K (rTupleOf K) tupleD := fun xs d h O H vs o r Q q => by
  unfold tupleD at h
  split at h
  · cases h
    cases r with
    | cons r rr =>
      cases rr
      cases r with
      | lst n e r => exact ⟨_, _, rfl, .inl ⟨.of e, rr_newT o q r⟩⟩
  · cases h
    cases r with
    | cons r rr =>
      cases rr
      cases r with
      | tup n e r => exact ⟨_, _, rfl, .inr ⟨.of e, rr_fin q (.tup n e r)⟩⟩
  · cases h
def asInts : List D → Option (List Int)
  | [] => some []
  | .int i :: ds => (asInts ds).map (i :: ·)
  | _ => none
theorem asInts_iL : ∀ {ds : List D} {ns : List Int}, asInts ds = some ns → ds = iL ns
  | [], ns, h => by cases h; rfl
  | .int i :: ds, ns, h => by
    unfold asInts at h
    cases e : asInts ds with
    | none => rw [e] at h; cases h
    | some ms =>
      rw [e] at h
      cases h
      show D.int i :: ds = D.int i :: iL ms
      rw [asInts_iL e]
  | .non :: _, _, h => by cases h
  | .bl _ :: _, _, h => by cases h
  | .str _ :: _, _, h => by cases h
  | .lst _ :: _, _, h => by cases h
  | .tup _ :: _, _, h => by cases h
  | .scr _ :: _, _, h => by cases h
  | .ins _ _ :: _, _, h => by cases h
  | .dct _ :: _, _, h => by cases h
  | .dck _ :: _, _, h => by cases h
  | .sti _ _ :: _, _, h => by cases h
  | .exn _ _ _ _ :: _, _, h => by cases h
  | .adr _ _ :: _, _, h => by cases h
  | .ty _ :: _, _, h => by cases h
  | .cls _ :: _, _, h => by cases h
theorem asInts_of : ∀ ns : List Int, asInts (iL ns) = some ns
  | [] => rfl
  | n :: ns => by
    show (asInts (iL ns)).map (n :: ·) = _
    rw [asInts_of ns] <;> rfl
def asBls : List D → Option (List Bool)
  | [] => some []
  | .bl i :: ds => (asBls ds).map (i :: ·)
  | _ => none
theorem asBls_vs {O : Addr → Prop} {H : Hp} : ∀ {ds : List D} {vs : List V} {ns : List Bool}, RpA K O H vs ds → asBls ds = some ns → vs = ns.map V.bl
  | [], _, ns, .nil, h => by cases h; rfl
  | d :: ds, _, ns, .cons r rr, h => by
    cases r <;> first | (cases h; done) | skip
    unfold asBls at h
    cases e : asBls ds with
    | none => rw [e] at h; cases h
    | some ms =>
      rw [e] at h
      cases h
      rw [List.map_cons, asBls_vs rr e]
def minD : List D → Option D
  | [.lst ds] => (asInts ds).bind fun ns => ns.min?.map .int
  | [.tup ds] => (asInts ds).bind fun ns => ns.min?.map .int
  | [.int i, .int j] => some (.int (if j < i then j else i))
  | _ => none
def maxD : List D → Option D
  | [.lst ds] => (asInts ds).bind fun ns => ns.max?.map .int
  | [.int i, .int j] => some (.int (if j > i then j else i))
  | _ => none
theorem rc_max : RC K (rMaxA K) maxD := fun xs d h O H vs o r Q q => by
  unfold maxD at h
  split at h
  · rename_i ds
    cases e : asInts ds with
    | none => rw [e] at h; cases h
    | some ns =>
      rw [e] at h
      simp only [Option.bind_some] at h
      cases em : ns.max? with
      | none => rw [em] at h; cases h
      | some m =>
        rw [em] at h
        cases h
        obtain rfl := asInts_iL e
        cases r with
        | cons r rr =>
          cases rr
          cases r with
          | lst n e r =>
            rw [r.toInts] at e
            refine .inl ⟨_, ns, rfl, .of e, ?_, fun k hk hle => ?_⟩
            · cases ns with
              | nil => cases em
              | cons a b => exact Nat.succ_pos _
            · have hm := List.max?_eq_some_iff.mp em
              have : k = m := Int.le_antisymm (hm.2 k hk) (hle m hm.1)
              rw [this]
              exact rr_fin q (.int m)
  · cases h
    cases r with
    | cons r rr =>
      cases rr with
      | cons r' rr =>
        cases rr; cases r; cases r'
        exact .inr ⟨_, _, rfl, rr_fin q (.int _)⟩
  · cases h
def allD : List D → Option D
  | [.lst ds] => (asBls ds).map fun bs => .bl (bs.all id)
  | _ => none
theorem rc_all : RC K (rAll K) allD := fun xs d h O H vs o r Q q => by
  unfold allD at h
  split at h
  · rename_i ds
    cases e : asBls ds with
    | none => rw [e] at h; cases h
    | some ns =>
      rw [e] at h
      cases h
      cases r with
      | cons r rr =>
        cases rr
        cases r with
        | lst n e' r =>
          rw [asBls_vs r e] at e'
          exact ⟨_, ns, rfl, .of e', rr_fin q (.bl _)⟩
  · cases h
/-- sorted ints -/
def srt (ns : List Int) : List Int := ns.mergeSort (fun a b => decide (a ≤ b))
theorem perm_sorted : ∀ {xs ys : List Int}, xs.Perm ys → xs.Pairwise (· ≤ ·) → ys.Pairwise (· ≤ ·) → xs = ys
  | [], ys, p, _, _ => (List.nil_perm.mp p).symm ▸ rfl
  | x :: xs, [], p, _, _ => absurd (List.perm_nil.mp p) (by simp)
  | x :: xs, y :: ys, p, h1, h2 => by
    have hx : x ∈ y :: ys := p.mem_iff.mp List.mem_cons_self
    have hy : y ∈ x :: xs := p.mem_iff.mpr List.mem_cons_self
    have h1' := List.pairwise_cons.mp h1
    have h2' := List.pairwise_cons.mp h2
    have le1 : y ≤ x := by
      rcases List.mem_cons.mp hx with e | e
      · omega
      · exact h2'.1 x e
    have le2 : x ≤ y := by
      rcases List.mem_cons.mp hy with e | e
      · omega
      · exact h1'.1 y e
    have e : x = y := Int.le_antisymm le2 le1
    subst e
    rw [perm_sorted (List.perm_cons x |>.mp p) h1'.2 h2'.2]
theorem srt_perm (ns : List Int) : (srt ns).Perm ns := List.mergeSort_perm _ _
/-! ### sum of a list of ints -/
/-! ### isinstance of a built-in type -/
def tyN : D → Option String
  | .non => some "NoneType"
  | .bl _ => some "bool"
  | .int _ => some "int"
  | .str _ => some "str"
  | .lst _ => some "list"
  | .tup _ => some "tuple"
  | _ => none
theorem ty_rp {O : Addr → Prop} {H : Hp} {v : V} {d : D} {n : String} (r : Rp K O H v d) (h : tyN d = some n) : TyX K H v (.type n) := by
  cases r with
  | non => cases h; exact .base .non
  | bl b => cases h; exact .base (.bl b)
  | int b => cases h; exact .base (.int b)
  | str b => cases h; exact .base (.str b)
  | lst m e r => cases h; exact .base (.lst e)
  | tup m e r => cases h; exact .base (.tup e)
  | dct m e x r => cases h
  | dck m e x r => cases h
  | sti m e => cases h
  | exn m e r => cases h
  | adr r => cases h
  | scr m e => cases h
  | kscr e => cases h
  | ins m e r => cases h
  | ty n => cases h
  | cls C => cases h
def isiD : List D → Option D
  | [x, .ty T] => (tyN x).bind fun n => (kitB n T).map .bl
  | _ => none
theorem rc_isi : RC K (rIsi K) isiD := fun xs d h O H vs o r Q q => by
  unfold isiD at h
  split at h
  · rename_i x T
    cases e : tyN x with
    | none => rw [e] at h; cases h
    | some n =>
      rw [e] at h
      simp only [Option.bind_some] at h
      cases ek : kitB n T with
      | none => rw [ek] at h; cases h
      | some b =>
        rw [ek] at h
        cases h
        cases r with
        | cons r rr =>
          cases rr with
          | cons r' rr =>
            cases rr; cases r'
            exact ⟨_, _, _, _, b, rfl, .ty T, ty_rp r e, kit_ty ek, rr_fin q (.bl b)⟩
  · cases h
/-- list(reversed(xs)) -/
def revD : D → Option D
  | .lst ds => some (.lst ds.reverse)
  | _ => none
end
end Zk
end

section
set_option Elab.async false
set_option linter.all false
set_option maxRecDepth 100000
set_option autoImplicit false
set_option maxHeartbeats 2000000
/-! What is walked; comprehensions; calls; statements. -/
namespace Zk
open PySem L2 PyProof.Rows
open Evl (Ex)

section
variable {K : PySem.W.Frag} {H0 H H' H1 : Hp} {Oc : Addr → Prop} {pins : Pn} {ow : OW} {σ : L2.St} {g : Gm}

/-! ### slots and owned things change -/
theorem Reps.lt (R : Reps K H0 Oc pins ow σ H g) {i : Nat} (hi : i < g.length) : i < σ.length := by rw [R.len]; exact hi
def dropW (ow : OW) (i : Nat) : OW := fun j => if j = i then none else ow j
theorem dropW_of {ow : OW} {i j : Nat} {a : Addr} (h : dropW ow i j = some a) : j ≠ i ∧ ow j = some a := by
  unfold dropW at h
  split at h
  · cases h
  · rename_i n; exact ⟨n, h⟩
theorem dropW_ne {ow : OW} {i j : Nat} (h : j ≠ i) : dropW ow i j = ow j := by
  unfold dropW
  rw [if_neg h]
def ownAt (g : Gm) (i : Nat) : Bool := match g[i]? with
  | some (some (.o _)) => true
  | _ => false
/-- slot i may be stored to: it is there, and it is not the object that a def is making -/
def okSlot (g : Gm) (i : Nat) : Bool := decide (i < g.length) && (i != 0 || !ownAt g 0)
theorem okSlot_lt {g : Gm} {i : Nat} (h : okSlot g i = true) : i < g.length := by
  unfold okSlot at h
  rw [Bool.and_eq_true] at h
  exact of_decide_eq_true h.1
theorem okSlot_me {g : Gm} {i : Nat} (h : okSlot g i = true) (R : Reps K H0 Oc pins ow σ H g) {x : Addr} (e : pins.me = some x) : 0 ≠ i := fun z => by
  unfold okSlot at h
  rw [Bool.and_eq_true] at h
  obtain ⟨d, hd⟩ := R.is 0 x (R.slf x e)
  have o : ownAt g 0 = true := by unfold ownAt; rw [hd]
  rw [o, ← z] at h
  exact absurd h.2 (by decide)
/-- slot i is given a known value -/
theorem Reps.setV (R : Reps K H0 Oc pins ow σ H g) {i : Nat} {v : V} {d : D} (hi : okSlot g i = true) (r : Rp K (OO Oc ow) H v d) : Reps K H0 Oc pins (dropW ow i) (σ.set i (some v)) H (g.set i (some (.v d))) where
  len := by rw [List.length_set, List.length_set]; exact R.len
  ex := R.ex
  oc := R.oc
  fr := fun j a h => R.fr j a (dropW_of h).2
  inj := fun j l a h h' => R.inj j l a (dropW_of h).2 (dropW_of h').2
  is := fun j a h => by
    obtain ⟨n, h⟩ := dropW_of h
    rw [List.getElem?_set_ne (Ne.symm n)]
    exact R.is j a h
  val := fun j d' h => by
    have k := R.kpDrop (ow' := dropW ow i) (fun j a z => (dropW_of z).2)
    by_cases n : j = i
    · subst n
      rw [List.getElem?_set_self (okSlot_lt hi)] at h
      cases h
      exact ⟨v, List.getElem?_set_self (R.lt (okSlot_lt hi)), r.kp k⟩
    · rw [List.getElem?_set_ne (Ne.symm n)] at h ⊢
      obtain ⟨w, h1, h2⟩ := R.val j d' h
      exact ⟨w, h1, h2.kp k⟩
  own := fun j d' h => by
    have k := R.kpDrop (ow' := dropW ow i) (fun j a z => (dropW_of z).2)
    by_cases n : j = i
    · subst n
      rw [List.getElem?_set_self (okSlot_lt hi)] at h
      cases h
    · rw [List.getElem?_set_ne (Ne.symm n)] at h ⊢
      obtain ⟨a, h1, h2, h3⟩ := R.own j d' h
      exact ⟨a, (dropW_ne n).trans h1, h2, h3.kp k rfl⟩
  pin := fun p h => (R.pin p h).kp (R.kpDrop (fun j a z => (dropW_of z).2))
  slf := fun x e => (dropW_ne (okSlot_me hi R e)).trans (R.slf x e)
/-- slot i is given a new thing of its own -/
def putW (ow : OW) (i : Nat) (p : Addr) : OW := fun j => if j = i then some p else ow j
theorem putW_of {ow : OW} {i j : Nat} {p a : Addr} (h : putW ow i p j = some a) : (j = i ∧ a = p) ∨ (j ≠ i ∧ ow j = some a) := by
  unfold putW at h
  split at h
  · rename_i n; cases h; exact .inl ⟨n, rfl⟩
  · rename_i n; exact .inr ⟨n, h⟩
theorem Reps.fresh0 (R : Reps K H0 Oc pins ow σ H g) {p : Addr} (h : H p = none) : H0 p = none := Evl.fresh_back R.ex h
theorem Reps.setO (R : Reps K H0 Oc pins ow σ H g) {i : Nat} {p : Addr} {d : D} (hi0 : okSlot g i = true) (hp : H p = none) (e : Ex H H') (r : RpO K (fun a => OO Oc ow a ∨ a = p) H' p d) :
    Reps K H0 Oc pins (putW ow i p) (σ.set i (some (.ref p))) H' (g.set i (some (.o d))) := by
  have hi := okSlot_lt hi0
  have np : ∀ j a, ow j = some a → a ≠ p := fun j a h z => by rw [z] at h; exact (R.fr j p h).2.1 hp
  have k : Kp (OO Oc ow) H (OO Oc (putW ow i p)) H' := fun a o n h => by
    refine ⟨fun z => ?_, e a o h⟩
    rcases z with z | ⟨j, z⟩
    · exact n (.inl z)
    · rcases putW_of z with ⟨_, z⟩ | ⟨_, z⟩
      · rw [z, hp] at h; cases h
      · exact n (.inr ⟨j, z⟩)
  have k2 : Kp (fun a => OO Oc ow a ∨ a = p) H' (OO Oc (putW ow i p)) H' := fun a o n h => by
    refine ⟨fun z => ?_, h⟩
    rcases z with z | ⟨j, z⟩
    · exact n (.inl (.inl z))
    · rcases putW_of z with ⟨_, z⟩ | ⟨_, z⟩
      · exact n (.inr z)
      · exact n (.inl (.inr ⟨j, z⟩))
  exact {
    len := by rw [List.length_set, List.length_set]; exact R.len
    ex := R.ex.trans e
    oc := R.oc
    fr := fun j a h => by
      rcases putW_of h with ⟨_, z⟩ | ⟨_, z⟩
      · rw [z]; exact ⟨R.fresh0 hp, r.lv⟩
      · exact ⟨(R.fr j a z).1, (R.fr j a z).2.ex e⟩
    inj := fun j l a h h' => by
      rcases putW_of h with ⟨z, y⟩ | ⟨_, z⟩
      · rcases putW_of h' with ⟨z', _⟩ | ⟨_, z'⟩
        · rw [z, z']
        · exact absurd y (np l a z')
      · rcases putW_of h' with ⟨_, y⟩ | ⟨_, z'⟩
        · exact absurd y (np j a z)
        · exact R.inj j l a z z'
    is := fun j a h => by
      rcases putW_of h with ⟨z, _⟩ | ⟨n, z⟩
      · rw [z, List.getElem?_set_self hi]; exact ⟨d, rfl⟩
      · rw [List.getElem?_set_ne (Ne.symm n)]; exact R.is j a z
    val := fun j d' h => by
      by_cases n : j = i
      · subst n
        rw [List.getElem?_set_self hi] at h
        cases h
      · rw [List.getElem?_set_ne (Ne.symm n)] at h ⊢
        obtain ⟨w, h1, h2⟩ := R.val j d' h
        exact ⟨w, h1, h2.kp k⟩
    own := fun j d' h => by
      by_cases n : j = i
      · subst n
        rw [List.getElem?_set_self hi] at h
        cases h
        exact ⟨p, by unfold putW; rw [if_pos rfl], List.getElem?_set_self (R.lt hi), r.kp k2 rfl⟩
      · rw [List.getElem?_set_ne (Ne.symm n)] at h ⊢
        obtain ⟨a, h1, h2, h3⟩ := R.own j d' h
        refine ⟨a, by unfold putW; rw [if_neg n]; exact h1, h2, h3.kp k ?_⟩
        cases y : H a with
        | none => exact absurd y h3.there
        | some o => exact e a o y
    pin := fun q h => (R.pin q h).kp k
    slf := fun x h => by unfold putW; rw [if_neg (okSlot_me hi0 R h)]; exact R.slf x h }
/-- the thing of slot i is changed -/
theorem Reps.upd (R : Reps K H0 Oc pins ow σ H g) {i : Nat} {a : Addr} {d d' : D} {o : HO} (hg : g[i]? = some (some (Wd.o d))) (ha : ow i = some a) (r : RpO K (OO Oc ow) (upd H a o) a d') :
    Reps K H0 Oc pins ow σ (L2.upd H a o) (g.set i (some (.o d'))) := by
  have hi : i < g.length := (List.getElem?_eq_some_iff.mp hg).1
  have k : Kp (OO Oc ow) H (OO Oc ow) (L2.upd H a o) := fun b u n h => ⟨n, by rw [upd_ne (fun z => n (.inr ⟨i, by rw [z]; exact ha⟩))]; exact h⟩
  exact {
    len := by rw [List.length_set]; exact R.len
    ex := Evl.Ex.mut R.ex (R.fr i a ha).1
    oc := R.oc
    fr := fun j b h => ⟨(R.fr j b h).1, by
      by_cases z : b = a
      · rw [z]; exact r.lv
      · unfold Lv; rw [upd_ne z]; exact (R.fr j b h).2⟩
    inj := R.inj
    is := fun j b h => by
      by_cases n : j = i
      · subst n
        rw [List.getElem?_set_self hi]; exact ⟨d', rfl⟩
      · rw [List.getElem?_set_ne (Ne.symm n)]; exact R.is j b h
    val := fun j e h => by
      by_cases n : j = i
      · subst n
        rw [List.getElem?_set_self hi] at h; cases h
      · rw [List.getElem?_set_ne (Ne.symm n)] at h
        obtain ⟨w, h1, h2⟩ := R.val j e h
        exact ⟨w, h1, h2.kp k⟩
    own := fun j e h => by
      by_cases n : j = i
      · subst n
        rw [List.getElem?_set_self hi] at h
        cases h
        obtain ⟨b, h1, h2, _⟩ := R.own j d hg
        rw [ha] at h1
        cases h1
        exact ⟨a, ha, h2, r⟩
      · rw [List.getElem?_set_ne (Ne.symm n)] at h
        obtain ⟨b, h1, h2, h3⟩ := R.own j e h
        exact ⟨b, h1, h2, h3.kp k (upd_ne (fun z => n (R.inj j i b h1 (by rw [z]; exact ha))))⟩
    pin := fun p h => (R.pin p h).kp k
    slf := R.slf }
def Pn.more (pins : Pn) (ps : List (V × D)) : Pn := ⟨ps ++ pins.ps, pins.me⟩
theorem Reps.morePins (R : Reps K H0 Oc pins ow σ H g) {ps : List (V × D)} (h : ∀ p ∈ ps, Rp K (OO Oc ow) H p.1 p.2) : Reps K H0 Oc (pins.more ps) ow σ H g :=
  ⟨R.len, R.ex, R.oc, R.fr, R.inj, R.is, R.val, R.own, fun p hp => (List.mem_append.mp hp).elim (h p) (R.pin p), R.slf⟩
theorem Reps.lessPins {ps : List (V × D)} (R : Reps K H0 Oc (pins.more ps) ow σ H g) : Reps K H0 Oc pins ow σ H g :=
  ⟨R.len, R.ex, R.oc, R.fr, R.inj, R.is, R.val, R.own, fun p hp => R.pin p (List.mem_append_right _ hp), R.slf⟩
end

/-! ### what a loop walks -/
abbrev DIF : Type := Gm → Option (List D)
structure WkP (K : PySem.W.Frag) (J : It) (ds : List D) (ps : List (V × D)) (Φ : Hp → Prop) : Prop where
  go : ∀ (O : Addr → Prop) (i : Nat) (H : Hp), i < ds.length → (∀ p ∈ ps, Rp K O H p.1 p.2) → Φ H → J.go i H
  yld : ∀ (O : Addr → Prop) (i : Nat) (H : Hp) (v : V) (H' : Hp) (d : D), (∀ a, O a → Lv H a) → (∀ p ∈ ps, Rp K O H p.1 p.2) → J.yld i H v H' → ds[i]? = some d → Ex H H' ∧ Rp K O H' v d
  stop : ∀ (O : Addr → Prop) (H : Hp), (∀ p ∈ ps, Rp K O H p.1 p.2) → Φ H → J.stop ds.length H
/-- .. that needs nothing but what is known -/
abbrev Wk (K : PySem.W.Frag) (J : It) (ds : List D) (ps : List (V × D)) : Prop := WkP K J ds ps fun _ => True
def IR (K : PySem.W.Frag) (wi : TI) (it : DIF) : Prop := ∀ g ds, it g = some ds → ∀ H0 Oc pins ow σ H, Reps K H0 Oc pins ow σ H g → ∀ R : It → Hp → Prop,
  (∀ J H' ps, Ex H H' → (∀ p ∈ ps, Rp K (OO Oc ow) H' p.1 p.2) → Wk K J ds ps → R J H') → wi σ H R
def itemsD : D → Option (List D)
  | .lst ds => some ds
  | .tup ds => some ds
  | .scr ns => some (iL ns)
  | _ => none
def iSeq (K : PySem.W.Frag) (te : TE) : TI := fun σ H R => iList K te σ H R ∨ iTup K te σ H R
theorem pi_or {X : Cx} {tg e : Expr} {w1 w2 : TI} (h1 : PI X tg e w1) (h2 : PI X tg e w2) : PI X tg e (fun σ H R => w1 σ H R ∨ w2 σ H R) := ⟨fun pins s σ H R I h => h.elim (h1.run pins s σ H R I) (h2.run pins s σ H R I)⟩
theorem pi_seq {X : Cx} {tg e : Expr} {te : TE} (h : PE X e te) : PI X tg e (iSeq X.K te) := pi_or (pi_list h) (pi_tup h)
def dItems (a : DF) : DIF := fun g => (a g).bind itemsD
section
variable {K : PySem.W.Frag}
theorem wk_list {a : Addr} {ds : List D} {v : V} {d : D} (hv : v = .ref a) (hd : itemsD d = some ds) (hl : ∀ (O : Addr → Prop) (H : Hp), Rp K O H v d → ∃ xs, SqL K H a xs ∧ RpA K O H xs ds) : Wk K (Itl K a) ds [(v, d)] where
  go := fun O i H hi h _ => by
    obtain ⟨xs, h1, h2⟩ := hl O H (h _ List.mem_cons_self)
    have : i < xs.length := by rw [h2.len]; exact hi
    exact ⟨xs, xs[i], h1, List.getElem?_eq_getElem this⟩
  yld := fun O i H w H' e o h y he => by
    obtain ⟨xs, h1, h2⟩ := hl O H (h _ List.mem_cons_self)
    obtain ⟨rfl, y⟩ := y
    obtain ⟨u, e1, e2⟩ := h2.get he
    have e3 := y xs h1
    rw [e1] at e3
    cases e3
    exact ⟨Evl.Ex.refl _, e2⟩
  stop := fun O H h _ => by
    obtain ⟨xs, h1, h2⟩ := hl O H (h _ List.mem_cons_self)
    exact ⟨xs, h1, by rw [h2.len]; exact Nat.le_refl _⟩
theorem wk_tup {a : Addr} {ds : List D} {v : V} {d : D} (hv : v = .ref a) (hd : itemsD d = some ds) (hl : ∀ (O : Addr → Prop) (H : Hp), Rp K O H v d → ∃ xs, SqT K H a xs ∧ RpA K O H xs ds) : Wk K (Itt K a) ds [(v, d)] where
  go := fun O i H hi h _ => by
    obtain ⟨xs, h1, h2⟩ := hl O H (h _ List.mem_cons_self)
    have : i < xs.length := by rw [h2.len]; exact hi
    exact ⟨xs, xs[i], h1, List.getElem?_eq_getElem this⟩
  yld := fun O i H w H' e o h y he => by
    obtain ⟨xs, h1, h2⟩ := hl O H (h _ List.mem_cons_self)
    obtain ⟨rfl, y⟩ := y
    obtain ⟨u, e1, e2⟩ := h2.get he
    have e3 := y xs h1
    rw [e1] at e3
    cases e3
    exact ⟨Evl.Ex.refl _, e2⟩
  stop := fun O H h _ => by
    obtain ⟨xs, h1, h2⟩ := hl O H (h _ List.mem_cons_self)
    exact ⟨xs, h1, by rw [h2.len]; exact Nat.le_refl _⟩
theorem ir_seq {te : TE} {a : DF} (ha : ER K te a) : IR K (iSeq K te) (dItems a) := fun g ds h H0 Oc pins ow σ H R Q q => by
  unfold dItems at h
  cases ea : a g with
  | none => rw [ea] at h; cases h
  | some x =>
    rw [ea] at h
    simp only [Option.bind_some] at h
    cases x <;> first | (cases h; done) | skip
    · cases h
      refine .inl (ha g _ ea H0 Oc pins ow σ H R _ fun v H1 e1 r1 => ?_)
      have r0 := r1
      cases r1 with
      | @lst a xs _ n e r => exact ⟨a, rfl, ⟨_, .of e⟩, q _ H1 _ e1 (fun p hp => by rw [List.mem_singleton.mp hp]; exact r0) (wk_list rfl rfl fun O H r => by cases r with | lst n e r => exact ⟨_, .of e, r⟩)⟩
    · cases h
      refine .inr (ha g _ ea H0 Oc pins ow σ H R _ fun v H1 e1 r1 => ?_)
      have r0 := r1
      have w : ∀ a, Wk K (Itt K a) ds [(.ref a, .tup ds)] := fun a => wk_tup rfl rfl fun O H r => by
        cases r with
        | tup n e r => exact ⟨_, .of e, r⟩
      cases r1 with
      | @tup a xs _ n e r => exact ⟨a, rfl, ⟨_, .of e⟩, q _ H1 _ e1 (fun p hp => by rw [List.mem_singleton.mp hp]; exact r0) (w a)⟩
    · rename_i ns
      cases h
      refine .inl (ha g _ ea H0 Oc pins ow σ H R _ fun v H1 e1 r1 => ?_)
      have r0 := r1
      have w : ∀ a, Wk K (Itl K a) (iL ns) [(.ref a, .scr ns)] := fun a => wk_list rfl rfl fun O H r => by
        cases r with
        | scr n e => exact ⟨_, .inl e, RpA.ofInts ns⟩
        | kscr e => exact ⟨_, e H, RpA.ofInts ns⟩
      cases r1 with
      | @scr a _ n e => exact ⟨a, rfl, ⟨_, .inl e⟩, q _ H1 _ e1 (fun p hp => by rw [List.mem_singleton.mp hp]; exact r0) (w a)⟩
      | @kscr a _ e => exact ⟨a, rfl, ⟨_, e H1⟩, q _ H1 _ e1 (fun p hp => by rw [List.mem_singleton.mp hp]; exact r0) (w a)⟩
/-- ranges -/
def rngL (lo : Int) (n : Nat) : List D := (List.range n).map fun i => .int (lo + (i : Nat))
theorem wk_rng (lo : Int) (n : Nat) : Wk K (Itr lo n) (rngL lo n) [] where
  go := fun O i H hi h _ => by unfold rngL at hi; rw [List.length_map, List.length_range] at hi; exact hi
  yld := fun O i H w H' e o h y he => by
    obtain ⟨rfl, rfl⟩ := y
    unfold rngL at he
    rw [List.getElem?_map] at he
    have hi : i < n := by
      cases z : (List.range n)[i]? with
      | none => rw [z] at he; cases he
      | some j => have := (List.getElem?_eq_some_iff.mp z).1; rw [List.length_range] at this; exact this
    rw [List.getElem?_range hi] at he
    cases he
    exact ⟨Evl.Ex.refl _, .int _⟩
  stop := fun O H h _ => by unfold rngL; rw [List.length_map, List.length_range]; exact Nat.le_refl _
def dRng1 (a : DAF) : DIF := fun g => (a g).bind fun xs => match xs with
  | [.int n] => if n ≤ 1000000 ∧ -1000000 ≤ n then some (rngL 0 n.toNat) else none
  | _ => none
def dRng2 (a : DAF) : DIF := fun g => (a g).bind fun xs => match xs with
  | [.int i, .int j] => if (i ≤ 1000000 ∧ -1000000 ≤ i) ∧ j ≤ 1000000 ∧ -1000000 ≤ j then some (rngL i (j - i).toNat) else none
  | _ => none
theorem ir_rng1 {ta : TA} {a : DAF} (ha : AR K ta a) : IR K (iRng1 ta) (dRng1 a) := fun g ds h H0 Oc pins ow σ H R Q q => by
  unfold dRng1 at h
  cases ea : a g with
  | none => rw [ea] at h; cases h
  | some x =>
    rw [ea] at h
    simp only [Option.bind_some] at h
    split at h
    · rename_i n
      split at h
      · rename_i hn
        cases h
        refine ha g _ ea H0 Oc pins ow σ H R _ fun vs H1 e1 r1 => ?_
        cases r1 with
        | cons r rr =>
          cases rr; cases r
          exact ⟨n, rfl, by omega, by omega, q _ H1 [] e1 (fun p hp => by cases hp) (wk_rng 0 _)⟩
      · cases h
    · cases h
/-- enumerate(a list) -/
def enumL : Nat → List D → List D
  | _, [] => []
  | n, d :: ds => .tup [.int (n : Int), d] :: enumL (n + 1) ds
def dEnum (a : DAF) : DIF := fun g => (a g).bind fun xs => match xs with
  | [.lst ds] => some (enumL 0 ds)
  | [.tup ds] => some (enumL 0 ds)
  | _ => none
end

/-! ### targets -/
abbrev DGF : Type := D → Gm → Option Gm
abbrev DGFs : Type := List D → Gm → Option Gm
def dName (i : Nat) : DGF := fun d g => if okSlot g i = true then some (g.set i (some (.v d))) else none
section
variable {K : PySem.W.Frag}
def dgNil : DGFs := fun ds g => match ds with
  | [] => some g
  | _ => none
def dgCons (f : DGF) (r : DGFs) : DGFs := fun ds g => match ds with
  | d :: ds => (f d g).bind fun g1 => r ds g1
  | [] => none
end
section
variable {K : PySem.W.Frag}
/-- targets drop what their slots owned, no more: said with the owners told -/
def GR' (K : PySem.W.Frag) (tg : TG) (f : DGF) : Prop := ∀ d g g', f d g = some g' → ∀ H0 Oc pins ow σ H v, Reps K H0 Oc pins ow σ H g → Rp K (OO Oc ow) H v d → ∀ Q : L2.St → Hp → Prop,
  (∀ ow' σ', (∀ i a, ow' i = some a → ow i = some a) → Reps K H0 Oc pins ow' σ' H g' → Q σ' H) → tg v σ H Q
theorem gr'_name (i : Nat) : GR' K (gName i) (dName i) := fun d g g' h H0 Oc pins ow σ H v R r Q q => by
  unfold dName at h
  split at h
  · rename_i hi
    cases h
    exact q _ _ (fun j a z => (dropW_of z).2) (R.setV hi r)
  · cases h
def dgTup (n : Nat) (r : DGFs) : DGF := fun d g => match d with
  | .tup ds => if ds.length = n then r ds g else none
  | _ => none
end
end Zk
end

section
set_option Elab.async false
set_option linter.all false
set_option maxRecDepth 100000
set_option autoImplicit false
set_option maxHeartbeats 2000000
/-! Comprehensions; statements; loops; a def's promise. -/
namespace Zk
open PySem L2 PyProof.Rows
open Evl (Ex)

/-! ### what comes out of statements -/
inductive Out where
  | nx (g : Gm) | bk (g : Gm) | ct (g : Gm) | rt (w : Wd)
abbrev SF : Type := Gm → Option Out
def Post (K : PySem.W.Frag) (H0 : Hp) (Oc : Addr → Prop) (pins : Pn) (De : Ends) : Out → Prop
  | .nx g => ∀ ow σ H, Reps K H0 Oc pins ow σ H g → De.nx σ H
  | .bk g => ∀ ow σ H, Reps K H0 Oc pins ow σ H g → De.bk σ H
  | .ct g => ∀ ow σ H, Reps K H0 Oc pins ow σ H g → De.ct σ H
  | .rt (.v d) => ∀ v H, Ex H0 H → Rp K Oc H v d → De.rt v H
  | .rt (.o d) => ∀ p H, Ex H0 H → H0 p = none → RpO K (fun a => Oc a ∨ a = p) H p d → De.rt (.ref p) H
def SR (K : PySem.W.Frag) (ts : TS) (t : SF) : Prop := ∀ g out, t g = some out → ∀ H0 Oc pins ow σ H, Reps K H0 Oc pins ow σ H g → ∀ De : Ends, Post K H0 Oc pins De out → ts De σ H
/-- an expression that makes a thing of one's own -/
def EO (K : PySem.W.Frag) (te : TE) (t : DF) : Prop := ∀ g d, t g = some d → ∀ H0 Oc pins ow σ H, Reps K H0 Oc pins ow σ H g → ∀ Q : VK, (∀ p H', Ex H H' → H p = none → RpO K (fun a => OO Oc ow a ∨ a = p) H' p d → Q (.ref p) H') → te σ H Q

section
variable {K : PySem.W.Frag} {ta tb te : TE} {a b : DF} {ts tu : TS} {s u : SF} {tt : TT} {t : DTF}
theorem eo_lst {tr : TA} {s : DAF} (ha : AR K tr s) : EO K (tLst tr) (dN mkLst s) := fun g d h H0 Oc pins ow σ H R Q q => by
  unfold dN at h
  cases ea : s g with
  | none => rw [ea] at h; cases h
  | some x =>
    rw [ea] at h
    unfold mkLst at h
    simp only [Option.bind_some] at h
    split at h
    · rename_i hl
      cases h
      refine ha g x ea H0 Oc pins ow σ H R _ fun v H1 e1 r1 => ⟨by rw [r1.len]; exact Evl.sz_of hl, fun p hp => ?_⟩
      have e2 := Evl.Ex.new (o := .lst v) hp
      refine q _ _ (e1.trans e2) (Evl.fresh_back e1 hp) ⟨v, upd_same, r1.kp fun b o n e => ⟨fun z => ?_, e2 b o e⟩⟩
      rcases z with z | z
      · exact n z
      · rw [z, hp] at e; cases e
    · cases h
theorem eo_list {ta : TE} {a : DF} (ha : ER K ta a) : EO K (tCB (rListOf K) (tCons ta tNil)) (dN listD (aCons a aNil)) := fun g d h H0 Oc pins ow σ H R Q q => by
  unfold dN aCons aNil at h
  cases ea : a g with
  | none => rw [ea] at h; cases h
  | some x =>
    rw [ea] at h
    simp only [Option.bind_some] at h
    refine ha g x ea H0 Oc pins ow σ H R _ fun v H1 e1 r1 => ?_
    have fin : ∀ {xs : List V} {ds : List D}, RpA K (OO Oc ow) H1 xs ds → ∀ l, H1 l = none → d = .lst ds → Q (.ref l) (upd H1 l (.lst xs)) := fun {xs ds} r l hl hd => by
      have e2 := Evl.Ex.new (o := .lst xs) hl
      rw [hd] at q
      refine q _ _ (e1.trans e2) (Evl.fresh_back e1 hl) ⟨xs, upd_same, r.kp fun b o n e => ⟨fun z => ?_, e2 b o e⟩⟩
      rcases z with z | z
      · exact n z
      · rw [z, hl] at e; cases e
    unfold listD at h
    split at h
    · rename_i ds z
      cases z
      cases h
      cases r1 with
      | lst n e r => exact ⟨_, _, rfl, .inl (.of e), fun l hl => fin r l hl rfl⟩
    · rename_i ds z
      cases z
      cases h
      cases r1 with
      | tup n e r => exact ⟨_, _, rfl, .inr (.of e), fun l hl => fin r l hl rfl⟩
    · cases h

/-! ### comprehensions -/
/-- the comprehension's items -/
def lcL (tg : DGF) (tt : DTF) (te : DF) (g : Gm) : List D → Option (List D)
  | [] => some []
  | d :: ds => (tg d g).bind fun g1 => (tt g1).bind fun b => if b = true then (te g1).bind fun e => (lcL tg tt te g ds).map (e :: ·) else lcL tg tt te g ds
def free (g : Gm) (vs : List Nat) : Bool := vs.all fun v => !ownAt g v
def wipeG (g : Gm) : List Nat → Gm
  | [] => g
  | v :: vs => (wipeG g vs).set v none
def dLc (it : DIF) (tg : DGF) (tt : DTF) (te : DF) (vs : List Nat) : DF := fun g => if free g vs = true then (it g).bind fun ds => if ds.length ≤ 100000 then (lcL tg tt te (wipeG g vs) ds).map .lst else none else none
def dYes : DTF := fun _ => some true
theorem tr_yes : TR K tYes dYes := fun g b h H0 Oc pins ow σ H R Q q => by cases h; exact q H (Evl.Ex.refl H)
theorem wipe_get (σ : L2.St) : ∀ (vs : List Nat) (i : Nat), (L2.wipe σ vs)[i]? = if i ∈ vs then (if i < σ.length then some none else none) else σ[i]?
  | [], i => by simp [L2.wipe]
  | v :: vs, i => by
    show ((L2.wipe σ vs).set v none)[i]? = _
    rw [List.getElem?_set, L2.wipe_length, wipe_get σ vs i]
    by_cases h : v = i
    · subst h
      simp
    · rw [if_neg h]
      have : (i ∈ v :: vs) = (i ∈ vs) := by
        rw [List.mem_cons]
        exact propext ⟨fun q => q.resolve_left (fun z => h z.symm), .inr⟩
      simp only [this]
theorem wipe_set (σ τ : L2.St) (vs : List Nat) {j : Nat} {x : Option V} (hj : j ∈ vs) (h : L2.wipe τ vs = L2.wipe σ vs) : L2.wipe (τ.set j x) vs = L2.wipe σ vs := by
  rw [← h]
  apply List.ext_getElem?
  intro i
  rw [wipe_get, wipe_get]
  by_cases hi : i ∈ vs
  · rw [if_pos hi, if_pos hi, List.length_set]
  · rw [if_neg hi, if_neg hi, List.getElem?_set_ne (fun z => hi (by rw [← z]; exact hj))]
theorem wipe_wipe (σ : L2.St) (vs : List Nat) : L2.wipe (L2.wipe σ vs) vs = L2.wipe σ vs := by
  apply List.ext_getElem?
  intro i
  rw [wipe_get, wipe_get]
  by_cases hi : i ∈ vs
  · rw [if_pos hi, if_pos hi, L2.wipe_length]
  · rw [if_neg hi, if_neg hi]
theorem wipeG_length (g : Gm) : ∀ vs : List Nat, (wipeG g vs).length = g.length
  | [] => rfl
  | v :: vs => by unfold wipeG; rw [List.length_set, wipeG_length g vs]
theorem wipeG_get (g : Gm) : ∀ (vs : List Nat) (i : Nat), (wipeG g vs)[i]? = if i ∈ vs then (if i < g.length then some none else none) else g[i]?
  | [], i => by simp [wipeG]
  | v :: vs, i => by
    show ((wipeG g vs).set v none)[i]? = _
    rw [List.getElem?_set, wipeG_length, wipeG_get g vs i]
    by_cases h : v = i
    · subst h
      simp
    · rw [if_neg h]
      have : (i ∈ v :: vs) = (i ∈ vs) := by
        rw [List.mem_cons]
        exact propext ⟨fun q => q.resolve_left (fun z => h z.symm), .inr⟩
      simp only [this]
theorem free_at {g : Gm} {vs : List Nat} (h : free g vs = true) {v : Nat} (hv : v ∈ vs) (d : D) : g[v]? ≠ some (some (.o d)) := fun e => by
  have := List.all_eq_true.mp h v hv
  unfold ownAt at this
  rw [e] at this
  cases this
theorem wipeG_not {g : Gm} {vs : List Nat} {v : Nat} (hv : v ∈ vs) (d : Wd) : (wipeG g vs)[v]? ≠ some (some d) := fun e => by
  rw [wipeG_get, if_pos hv] at e
  split at e <;> cases e
theorem Reps.wipe {H0 H : Hp} {Oc : Addr → Prop} {pins : Pn} {ow : OW} {σ : L2.St} {g : Gm} (R : Reps K H0 Oc pins ow σ H g) {vs : List Nat} (hf : free g vs = true) : Reps K H0 Oc pins ow (L2.wipe σ vs) H (wipeG g vs) where
  len := by rw [L2.wipe_length, wipeG_length]; exact R.len
  ex := R.ex
  oc := R.oc
  fr := R.fr
  inj := R.inj
  is := fun i a h => by
    obtain ⟨d, e⟩ := R.is i a h
    have : i ∉ vs := fun z => free_at hf z d e
    rw [wipeG_get, if_neg this]
    exact ⟨d, e⟩
  val := fun i d h => by
    have : i ∉ vs := fun z => wipeG_not z _ h
    rw [wipeG_get, if_neg this] at h
    rw [wipe_get, if_neg this]
    exact R.val i d h
  own := fun i d h => by
    have : i ∉ vs := fun z => wipeG_not z _ h
    rw [wipeG_get, if_neg this] at h
    rw [wipe_get, if_neg this]
    exact R.own i d h
  pin := R.pin
  slf := R.slf
/-- a target that stores into the comprehension's own slots alone -/
def GRc (K : PySem.W.Frag) (tg : TG) (f : DGF) (vs : List Nat) : Prop := ∀ d g g', (∀ v ∈ vs, ∀ d', g[v]? ≠ some (some (Wd.o d'))) → f d g = some g' → ∀ H0 Oc pins ow σ H v, Reps K H0 Oc pins ow σ H g → Rp K (OO Oc ow) H v d → ∀ Q : L2.St → Hp → Prop,
  (∀ σ', Reps K H0 Oc pins ow σ' H g' → L2.wipe σ' vs = L2.wipe σ vs → (∀ v ∈ vs, ∀ d', g'[v]? ≠ some (some (Wd.o d'))) → Q σ' H) → tg v σ H Q
theorem dropW_id {H0 H : Hp} {Oc : Addr → Prop} {pins : Pn} {ow : OW} {σ : L2.St} {g : Gm} (R : Reps K H0 Oc pins ow σ H g) {j : Nat} (h : ∀ d', g[j]? ≠ some (some (Wd.o d'))) : dropW ow j = ow := by
  funext i
  unfold dropW
  split
  · rename_i e
    cases q : ow i with
    | none => rfl
    | some a =>
      obtain ⟨d, hd⟩ := R.is i a q
      rw [e] at hd
      exact absurd hd (h d)
  · rfl
theorem grc_name {j : Nat} {vs : List Nat} (hj : j ∈ vs) : GRc K (gName j) (dName j) vs := fun d g g' hn h H0 Oc pins ow σ H v R r Q q => by
  unfold dName at h
  split at h
  · rename_i hi
    cases h
    have R1 := R.setV hi r
    rw [dropW_id R (hn j hj)] at R1
    refine q _ R1 (wipe_set σ σ vs hj rfl) fun w hw d' z => ?_
    by_cases e : w = j
    · rw [e, List.getElem?_set_self (okSlot_lt hi)] at z; cases z
    · rw [List.getElem?_set_ne (Ne.symm e)] at z; exact hn w hw d' z
  · cases h
open Classical in
theorem Reps.rebase {H0 H H2 : Hp} {Oc : Addr → Prop} {pins : Pn} {ow : OW} {σ : L2.St} {g : Gm} {Dl : Addr} (R : Reps K H0 Oc pins ow σ H g) (hD : H Dl = none) (e : Ex H H2) (h2 : Lv H2 Dl) :
    ∃ B, Reps K B (fun a => Oc a ∨ a = Dl) pins ow σ H2 g := by
  have k : Kp (OO Oc ow) H (OO (fun a => Oc a ∨ a = Dl) ow) H2 := fun a o n h => ⟨fun z => by
    rcases z with (z | z) | z
    · exact n (.inl z)
    · rw [z, hD] at h; cases h
    · exact n (.inr z), e a o h⟩
  refine ⟨fun b => if ∃ i, ow i = some b then none else H2 b, ?_⟩
  exact {
    len := R.len
    ex := fun a o h => by
      have h : (if ∃ i, ow i = some a then none else H2 a) = some o := h
      split at h
      · cases h
      · exact h
    oc := fun a h => by
      have nw : ¬ ∃ i, ow i = some a := fun ⟨i, z⟩ => by
        rcases h with h | h
        · exact (R.oc a h).1 (R.fr i a z).1
        · rw [h] at z; exact (R.fr i Dl z).2.1 hD
      show (if ∃ i, ow i = some a then none else H2 a) ≠ none ∧ ∀ xs, (if ∃ i, ow i = some a then none else H2 a) ≠ some (.tup xs)
      rw [if_neg nw]
      rcases h with h | h
      · exact (R.oo a (.inl h)).ex e
      · rw [h]; exact h2
    fr := fun i a h => ⟨if_pos ⟨i, h⟩, (R.fr i a h).2.ex e⟩
    inj := R.inj
    is := R.is
    val := fun i d h => let ⟨v, h1, h2⟩ := R.val i d h; ⟨v, h1, h2.kp k⟩
    own := fun i d h => let ⟨a, h1, h2, h3⟩ := R.own i d h; ⟨a, h1, h2, h3.kp k (by
      cases y : H a with
      | none => exact absurd y h3.there
      | some o => exact e a o y)⟩
    pin := fun p h => (R.pin p h).kp k
    slf := R.slf }
/-- the comprehension, at the new list's place -/
theorem lc_go {J : It} {tg : TG} {f : DGF} {tte : TT} {ft : DTF} {tee : TE} {fe : DF} {vs : List Nat} {ds es : List D} {ps : List (V × D)} {H0 H1 : Hp} {Oc : Addr → Prop} {pins : Pn} {ow : OW} {σ : L2.St} {g : Gm} {Q : VK}
    {Φ : Hp → Prop} (hw : WkP K J ds ps Φ) (hg : GRc K tg f vs) (ht : TR K tte ft) (he : ER K tee fe) (R : Reps K H0 Oc pins ow σ H1 g) (hf : free g vs = true) (hps : ∀ p ∈ ps, Rp K (OO Oc ow) H1 p.1 p.2)
    (hz : ds.length ≤ 100000) (h : lcL f ft fe (wipeG g vs) ds = some es) (hΦ : ∀ H, Ex H1 H → Φ H) (hq : ∀ p H', H1 p = none → Ex H1 H' → RpO K (fun a => OO Oc ow a ∨ a = p) H' p (.lst es) → Q (.ref p) H') :
    ∀ Dl, H1 Dl = none → ∃ W : Nat → Nat → Hp → Prop, (∃ m, W 0 m (L2.upd H1 Dl (.lst []))) ∧ ∀ i m H, W i m H →
      (J.stop i H ∧ Q (.ref Dl) H) ∨ (J.go i H ∧ ∃ Nx : Hp → Prop, (∀ H', Nx H' → ∃ m', m' < m ∧ W (i + 1) m' H') ∧ ∀ x H', J.yld i H x H' → tg x (L2.wipe σ vs) H' fun σ2 H2 => L2.wipe σ2 vs = L2.wipe σ vs ∧ tte σ2 H2 fun b H3 =>
        if b = true then tee σ2 H3 fun y H4 => ∃ acc, H4 Dl = some (.lst acc) ∧ acc.length < sizeLine ∧ Nx (L2.upd H4 Dl (.lst (acc ++ [y]))) else Nx H3) := by
  intro Dl hD
  have oeq : ∀ a, OO (fun a => Oc a ∨ a = Dl) ow a ↔ (OO Oc ow a ∨ a = Dl) := fun a =>
    ⟨fun z => z.elim (fun z => z.elim (fun z => .inl (.inl z)) .inr) (fun z => .inl (.inr z)), fun z => z.elim (fun z => z.elim (fun z => .inl (.inl z)) (fun z => .inr z)) (fun z => .inl (.inr z))⟩
  -- what is held between turns: made so far
  let P : Nat → Hp → Prop := fun i H => ∃ acc done_ rest, Ex H1 H ∧ H Dl = some (.lst acc) ∧ RpA K (OO (fun a => Oc a ∨ a = Dl) ow) H acc done_ ∧ lcL f ft fe (wipeG g vs) (ds.drop i) = some rest ∧ es = done_ ++ rest ∧ done_.length ≤ i
  refine ⟨fun i m H => m = ds.length - i ∧ i ≤ ds.length ∧ P i H, ⟨ds.length, rfl, Nat.zero_le _, ⟨[], [], es, Evl.Ex.new hD, upd_same, .nil, h, rfl, Nat.le_refl _⟩⟩, ?_⟩
  rintro i m H ⟨rfl, hi, ⟨acc, dn, rest, e1, hl, ra, hr, hes, hln⟩⟩
  obtain ⟨B, RB⟩ := R.rebase hD e1 ⟨by rw [hl]; exact fun z => (by cases z), by rw [hl]; exact fun _ z => (by cases z)⟩
  have kps : ∀ p ∈ ps, Rp K (OO (fun a => Oc a ∨ a = Dl) ow) H p.1 p.2 := fun p hp => (hps p hp).kp fun a o n q => ⟨fun z => (by
    rcases (oeq a).mp z with z | z
    · exact n z
    · rw [z, hD] at q; cases q), e1 a o q⟩
  by_cases hlt : i < ds.length
  · refine .inr ⟨hw.go _ i H hlt kps (hΦ H e1), fun H' => P (i + 1) H', fun H' p => ⟨ds.length - (i + 1), by omega, rfl, hlt, p⟩, fun x H' y => ?_⟩
    have hd : ds[i]? = some ds[i] := List.getElem?_eq_getElem hlt
    obtain ⟨e2, rx⟩ := hw.yld _ i H x H' ds[i] RB.oo kps y hd
    have hdrop : ds.drop i = ds[i] :: ds.drop (i + 1) := by rw [List.drop_eq_getElem_cons hlt]
    rw [hdrop] at hr
    unfold lcL at hr
    cases e3 : f ds[i] (wipeG g vs) with
    | none => rw [e3] at hr; cases hr
    | some g1 =>
      rw [e3] at hr
      simp only [Option.bind_some] at hr
      cases e4 : ft g1 with
      | none => rw [e4] at hr; cases hr
      | some b =>
        rw [e4] at hr
        simp only [Option.bind_some] at hr
        have RW := ((RB.grow e2).wipe hf)
        refine hg ds[i] (wipeG g vs) g1 (fun v hv d' => wipeG_not hv _) e3 B _ pins ow _ H' x RW rx _ fun σ2 R2 w2 _ => ⟨w2.trans (wipe_wipe σ vs), ?_⟩
        refine ht g1 b e4 B _ pins ow σ2 H' R2 _ fun H3 e5 => ?_
        cases b with
        | true =>
          rw [if_pos rfl] at hr ⊢
          cases e6 : fe g1 with
          | none => rw [e6] at hr; cases hr
          | some e =>
            rw [e6] at hr
            simp only [Option.bind_some] at hr
            cases e7 : lcL f ft fe (wipeG g vs) (ds.drop (i + 1)) with
            | none => rw [e7] at hr; cases hr
            | some rest' =>
              rw [e7] at hr
              have hr2 : e :: rest' = rest := Option.some.inj hr
              refine he g1 e e6 B _ pins ow σ2 H3 (R2.grow e5) _ fun yv H4 e8 ry => ?_
              have hl4 : H4 Dl = some (.lst acc) := e8 _ _ (e5 _ _ (e2 _ _ hl))
              have k4 : Kp (OO (fun a => Oc a ∨ a = Dl) ow) H4 (OO (fun a => Oc a ∨ a = Dl) ow) (L2.upd H4 Dl (.lst (acc ++ [yv]))) := fun a o n q => ⟨n, by
                rw [upd_ne (fun z => n ((oeq a).mpr (.inr z)))]; exact q⟩
              refine ⟨acc, hl4, Evl.sz_lt (by rw [ra.len]; omega), ⟨acc ++ [yv], dn ++ [e], rest', Evl.Ex.mut (((e1.trans e2).trans e5).trans e8) hD, upd_same, ?_, e7, ?_, ?_⟩⟩
              · exact RpA.app ((((ra.ex e2).ex e5).ex e8).kp k4) (.one (ry.kp k4))
              · rw [hes, ← hr2, List.append_assoc]; rfl
              · rw [List.length_append, List.length_singleton]; omega
        | false =>
          rw [if_neg Bool.false_ne_true] at hr ⊢
          exact ⟨acc, dn, rest, (e1.trans e2).trans e5, e5 _ _ (e2 _ _ hl), (ra.ex e2).ex e5, hr, hes, by omega⟩
  · have hi2 : i = ds.length := by omega
    subst hi2
    refine .inl ⟨hw.stop _ H kps (hΦ H e1), ?_⟩
    rw [List.drop_length] at hr
    have hr' : rest = [] := (Option.some.inj hr).symm
    rw [hr', List.append_nil] at hes
    refine hq Dl H hD e1 ⟨acc, hl, ?_⟩
    rw [hes]
    exact ra.kp fun a o n q => ⟨fun z => n ((oeq a).mpr z), q⟩
theorem eo_lc {wi : TI} {it : DIF} {tg : TG} {f : DGF} {tte : TT} {ft : DTF} {tee : TE} {fe : DF} {vs : List Nat} (hi : IR K wi it) (hg : GRc K tg f vs) (ht : TR K tte ft) (he : ER K tee fe) : EO K (tLc wi tg tte tee vs) (dLc it f ft fe vs) := fun g d h H0 Oc pins ow σ H R Q q => by
  unfold dLc at h
  split at h
  · rename_i hf
    cases ei : it g with
    | none => rw [ei] at h; cases h
    | some ds =>
      rw [ei] at h
      simp only [Option.bind_some] at h
      split at h
      · rename_i hz
        cases el : lcL f ft fe (wipeG g vs) ds with
        | none => rw [el] at h; cases h
        | some es =>
          rw [el] at h
          cases h
          exact hi g ds ei H0 Oc pins ow σ H R _ fun J H1 ps e1 hps hw => lc_go hw hg ht he (R.grow e1) hf hps hz el (fun _ _ => trivial) fun p H' hp e' r => q p H' (e1.trans e') (Evl.fresh_back e1 hp) r
      · cases h
  · cases h
theorem er_of_eo (h : EO K te a) : ER K te a := fun g d e H0 Oc pins ow σ H R Q q => h g d e H0 Oc pins ow σ H R Q fun p H' e' hp r => q _ H' e' (by
  have n : ¬ OO Oc ow p := R.new hp
  cases d with
  | lst ds => obtain ⟨xs, h, r⟩ := r; exact .lst n h (r.kp fun a o z q => ⟨fun y => z (.inl y), q⟩)
  | ins C gs => obtain ⟨dx, fs, h, r⟩ := r; exact .ins n h (r.kp fun a o z q => ⟨fun y => z (.inl y), q⟩)
  | dct kvs => obtain ⟨xs, h, e1, r⟩ := r; exact .dct n h e1 (r.kp fun a o z q => ⟨fun y => z (.inl y), q⟩)
  | dck kvs => obtain ⟨xs, h, e1, r⟩ := r; exact .dck n h e1 (r.kp fun a o z q => ⟨fun y => z (.inl y), q⟩)
  | sti w ns => exact .sti n r
  | _ => exact r.elim)
end
end Zk
end

section
set_option Elab.async false
set_option linter.all false
set_option maxRecDepth 100000
set_option autoImplicit false
set_option maxHeartbeats 2000000
/-! Statements, loops, a def's promise, calls. -/
namespace Zk
open PySem L2 PyProof.Rows
open Evl (Ex)

section
variable {K : PySem.W.Frag} {ta tb te : TE} {a b : DF} {ts tu : TS} {s u : SF} {tt : TT} {t : DTF}
def sAsg (a : DF) (f : DGF) : SF := fun g => (a g).bind fun d => (f d g).map .nx
theorem sr_asg {tg : TG} {f : DGF} (ha : ER K te a) (hg : GR' K tg f) : SR K (tAsg te tg) (sAsg a f) := fun g out h H0 Oc pins ow σ H R De P => by
  unfold sAsg at h
  cases ea : a g with
  | none => rw [ea] at h; cases h
  | some d =>
    rw [ea] at h
    simp only [Option.bind_some] at h
    cases ef : f d g with
    | none => rw [ef] at h; cases h
    | some g1 =>
      rw [ef] at h
      cases h
      exact ha g d ea H0 Oc pins ow σ H R _ fun v H1 e1 r1 => hg d g g1 ef H0 Oc pins ow σ H1 v (R.grow e1) r1 _ fun ow' σ' _ R' => P ow' σ' H1 R'
/-- a slot is given a new thing of one's own -/
def sAsgO (a : DF) (i : Nat) : SF := fun g => (a g).bind fun d => if okSlot g i = true then some (.nx (g.set i (some (.o d)))) else none
theorem sr_asgO {i : Nat} (ha : EO K te a) : SR K (tAsg te (gName i)) (sAsgO a i) := fun g out h H0 Oc pins ow σ H R De P => by
  unfold sAsgO at h
  cases ea : a g with
  | none => rw [ea] at h; cases h
  | some d =>
    rw [ea] at h
    simp only [Option.bind_some] at h
    split at h
    · rename_i hi
      cases h
      exact ha g d ea H0 Oc pins ow σ H R _ fun p H1 e1 hp r1 => P _ _ H1 (R.setO hi hp e1 r1)
    · cases h
def sNext : SF := fun g => some (.nx g)
theorem sr_next : SR K tNext sNext := fun g out h H0 Oc pins ow σ H R De P => by cases h; exact P ow σ H R
def sBreak : SF := fun g => some (.bk g)
def sCont : SF := fun g => some (.ct g)
def sThen (o : Out) (u : SF) : Option Out := match o with
  | .nx g => u g
  | .bk g => some (.bk g)
  | .ct g => some (.ct g)
  | .rt w => some (.rt w)
def sSeq (s u : SF) : SF := fun g => (s g).bind fun o => sThen o u
theorem sr_seq (h1 : SR K ts s) (h2 : SR K tu u) : SR K (tSeq ts tu) (sSeq s u) := fun g out h H0 Oc pins ow σ H R De P => by
  unfold sSeq at h
  cases e1 : s g with
  | none => rw [e1] at h; cases h
  | some o =>
    rw [e1] at h
    simp only [Option.bind_some] at h
    refine h1 g o e1 H0 Oc pins ow σ H R _ ?_
    cases o with
    | nx g1 => exact fun ow' σ' H' R' => h2 g1 out h H0 Oc pins ow' σ' H' R' De P
    | bk g1 => cases h; exact P
    | ct g1 => cases h; exact P
    | rt w =>
      cases h
      cases w with
      | v d => exact P
      | o d => exact P
def sRet (a : DF) : SF := fun g => (a g).map fun d => .rt (.v d)
theorem kp_oc (Oc : Addr → Prop) (ow : OW) (H : Hp) : Kp (OO Oc ow) H Oc H := fun a o n e => ⟨fun z => n (.inl z), e⟩
theorem sr_ret (ha : ER K te a) : SR K (tRet te) (sRet a) := fun g out h H0 Oc pins ow σ H R De P => by
  unfold sRet at h
  cases ea : a g with
  | none => rw [ea] at h; cases h
  | some d =>
    rw [ea] at h
    cases h
    exact ha g d ea H0 Oc pins ow σ H R _ fun v H1 e1 r1 => P v H1 (R.ex.trans e1) (r1.kp (kp_oc Oc ow H1))
def sRetO (a : DF) : SF := fun g => (a g).map fun d => .rt (.o d)
theorem sr_retO (ha : EO K te a) : SR K (tRet te) (sRetO a) := fun g out h H0 Oc pins ow σ H R De P => by
  unfold sRetO at h
  cases ea : a g with
  | none => rw [ea] at h; cases h
  | some d =>
    rw [ea] at h
    cases h
    exact ha g d ea H0 Oc pins ow σ H R _ fun p H1 e1 hp r1 => P p H1 (R.ex.trans e1) (R.fresh0 hp) (r1.kp (fun b o n q => ⟨fun z => n (z.imp .inl id), q⟩) rfl)
/-- return x, x a list of one's own -/
def sRetV (i : Nat) : SF := fun g => match g[i]? with
  | some (some (.o d)) => some (.rt (.o d))
  | _ => none
theorem sr_retV (i : Nat) : SR K (tRet (tVar i)) (sRetV i) := fun g out h H0 Oc pins ow σ H R De P => by
  unfold sRetV at h
  split at h
  · rename_i d hd
    cases h
    obtain ⟨p, h1, h2, h3⟩ := R.own i d hd
    refine ⟨.ref p, h2, P p H R.ex (R.fr i p h1).1 (h3.kp (fun b o n q => ⟨fun z => ?_, q⟩) rfl)⟩
    rcases z with z | z
    · exact n (.inl z)
    · exact n (.inr ⟨i, by rw [z]; exact h1⟩)
  · cases h
def sRetN : SF := fun _ => some (.rt (.v .non))
def sIf (t : DTF) (s u : SF) : SF := fun g => (t g).bind fun b => if b = true then s g else u g
theorem sr_if (ht : TR K tt t) (h1 : SR K ts s) (h2 : SR K tu u) : SR K (tIfS tt ts tu) (sIf t s u) := fun g out h H0 Oc pins ow σ H R De P => by
  unfold sIf at h
  cases ea : t g with
  | none => rw [ea] at h; cases h
  | some b =>
    rw [ea] at h
    simp only [Option.bind_some] at h
    refine ht g b ea H0 Oc pins ow σ H R _ fun H1 e1 => ?_
    cases b with
    | true =>
      rw [if_pos rfl] at h ⊢
      exact h1 g out h H0 Oc pins ow σ H1 (R.grow e1) De P
    | false =>
      rw [if_neg Bool.false_ne_true] at h ⊢
      exact h2 g out h H0 Oc pins ow σ H1 (R.grow e1) De P
/-- owned things read by name are handed on: known from here on -/
def sFrz (fz : List Nat) (s : SF) : SF := fun g => s (frzs g fz)
theorem sr_frz (fz : List Nat) (h1 : SR K ts s) : SR K ts (sFrz fz s) := fun g out h H0 Oc pins ow σ H R De P => by
  obtain ⟨ow', R'⟩ := R.frzs fz
  exact h1 _ out h H0 Oc pins ow' σ H R' De P
/-- xs.append(e) -/
def sApp (i : Nat) (a : DF) : SF := fun g => (a g).bind fun d => match g[i]? with
  | some (some (.o (.lst ds))) => if ds.length < 100000 then some (.nx (g.set i (some (.o (.lst (ds ++ [d])))))) else none
  | _ => none
theorem sr_app {i : Nat} (ha : ER K te a) : SR K (tDrop (tBM K "list" rAppend (tVar i) (tCons te tNil))) (sApp i a) := fun g out h H0 Oc pins ow σ H R De P => by
  unfold sApp at h
  cases ea : a g with
  | none => rw [ea] at h; cases h
  | some d =>
    rw [ea] at h
    simp only [Option.bind_some] at h
    split at h
    · rename_i ds hd
      split at h
      · rename_i hl
        cases h
        obtain ⟨p, h1, h2, xs, h3, h4⟩ := R.own i _ hd
        refine ⟨.ref p, h2, .inl ⟨rfl, _, .of h3⟩, ?_⟩
        refine ha g d ea H0 Oc pins ow σ H R _ fun v H1 e1 r1 => ?_
        have k : Kp (OO Oc ow) H1 (OO Oc ow) (upd H1 p (.lst (xs ++ [v]))) := fun b o n q => ⟨n, by rw [upd_ne (fun z => n (.inr ⟨i, by rw [z]; exact h1⟩))]; exact q⟩
        refine ⟨p, xs, v, rfl, rfl, e1 _ _ h3, Evl.sz_lt (by rw [h4.len]; exact hl), P ow σ _ ((R.grow e1).upd hd h1 ⟨xs ++ [v], upd_same, RpA.app ((h4.ex e1).kp k) (.one (r1.kp k))⟩)⟩
      · cases h
    · cases h
/-- xs[i] = e -/
def sSetI (i : Nat) (b : DF) (a : DF) : SF := fun g => (a g).bind fun d => (b g).bind fun x => match x, g[i]? with
  | .int k, some (some (.o (.lst ds))) => (ixN ds.length k).map fun j => .nx (g.set i (some (.o (.lst (ds.set j d)))))
  | _, _ => none
/-- self.f = e -/
def putD (f : Str) (d : D) : List (Str × D) → List (Str × D)
  | [] => [(f, d)]
  | (n, e) :: r => if n = f then (n, d) :: r else (n, e) :: putD f d r
theorem RpF.put {O : Addr → Prop} {H : Hp} {f : Str} {v : V} {d : D} (r : Rp K O H v d) : ∀ {fs : List (Str × V)} {gs : List (Str × D)}, RpF K O H fs gs → RpF K O H (putF f v fs) (putD f d gs)
  | _, _, .nil => .cons r .nil
  | _, _, .cons (n := n) h t => by
    unfold putF putD
    by_cases e : n = f
    · rw [if_pos e, if_pos e]; exact .cons r t
    · rw [if_neg e, if_neg e]; exact .cons h (t.put r)
theorem RpF.len {O : Addr → Prop} {H : Hp} : ∀ {fs : List (Str × V)} {gs : List (Str × D)}, RpF K O H fs gs → fs.length = gs.length
  | _, _, .nil => rfl
  | _, _, .cons _ t => congrArg (· + 1) t.len
/-! ### for -/
def loopD (f : DGF) (s : SF) : List D → SF
  | [], g => some (.nx g)
  | d :: ds, g => (f d g).bind fun g1 => (s g1).bind fun o => match o with
    | .nx g2 => loopD f s ds g2
    | .ct g2 => loopD f s ds g2
    | .bk g2 => some (.nx g2)
    | .rt w => some (.rt w)
def sFor (it : DIF) (f : DGF) (s : SF) : SF := fun g => (it g).bind fun ds => loopD f s ds g
theorem sr_for {wi : TI} {it : DIF} {tg : TG} {f : DGF} (hi : IR K wi it) (hg : GR' K tg f) (hs : SR K ts s) : SR K (tFor wi tg ts) (sFor it f s) := fun g out h H0 Oc pins ow σ H R De P => by
  unfold sFor at h
  cases ei : it g with
  | none => rw [ei] at h; cases h
  | some ds =>
    rw [ei] at h
    simp only [Option.bind_some] at h
    refine hi g ds ei H0 Oc pins ow σ H R _ fun J H1 ps e1 hps hw => ?_
    let Pv : Nat → L2.St → Hp → Prop := fun i σ' H' => ∃ ow' g', Reps K H0 Oc (pins.more ps) ow' σ' H' g' ∧ loopD f s (ds.drop i) g' = some out
    refine ⟨fun i m σ' H' => m = ds.length - i ∧ i ≤ ds.length ∧ Pv i σ' H', ⟨ds.length, rfl, Nat.zero_le _, ⟨ow, g, (R.grow e1).morePins hps, h⟩⟩, ?_⟩
    rintro i m σ' H' ⟨rfl, hi, ⟨ow', g', R', hl⟩⟩
    have kps : ∀ p ∈ ps, Rp K (OO Oc ow') H' p.1 p.2 := fun p hp => R'.pin p (List.mem_append_left _ hp)
    by_cases hlt : i < ds.length
    · refine .inr ⟨hw.go _ i H' hlt kps trivial, Pv (i + 1), fun σ2 H2 p => ⟨ds.length - (i + 1), by omega, rfl, hlt, p⟩, fun x H2 y => ?_⟩
      have hd : ds[i]? = some ds[i] := List.getElem?_eq_getElem hlt
      obtain ⟨e2, rx⟩ := hw.yld _ i H' x H2 ds[i] R'.oo kps y hd
      rw [show ds.drop i = ds[i] :: ds.drop (i + 1) from List.drop_eq_getElem_cons hlt] at hl
      unfold loopD at hl
      cases e3 : f ds[i] g' with
      | none => rw [e3] at hl; cases hl
      | some g1 =>
        rw [e3] at hl
        simp only [Option.bind_some] at hl
        cases e4 : s g1 with
        | none => rw [e4] at hl; cases hl
        | some o =>
          rw [e4] at hl
          simp only [Option.bind_some] at hl
          refine hg ds[i] g' g1 e3 H0 Oc _ ow' σ' H2 x (R'.grow e2) rx _ fun ow2 σ2 _ R2 => ?_
          refine hs g1 o e4 H0 Oc _ ow2 σ2 H2 R2 _ ?_
          cases o with
          | nx g2 => exact fun ow3 σ3 H3 R3 => ⟨ow3, g2, R3, hl⟩
          | ct g2 => exact fun ow3 σ3 H3 R3 => ⟨ow3, g2, R3, hl⟩
          | bk g2 =>
            cases hl
            exact fun ow3 σ3 H3 R3 => P ow3 σ3 H3 R3.lessPins
          | rt w =>
            cases hl
            cases w with
            | v d => exact P
            | o d => exact P
    · have e : i = ds.length := by omega
      subst e
      refine .inl ⟨hw.stop _ H' kps trivial, ?_⟩
      rw [List.drop_length] at hl
      cases hl
      exact P ow' σ' H' R'.lessPins
end

/-! ### a def's promise -/
def Wd.d : Wd → D
  | .v d => d
  | .o d => d
def Ret (K : PySem.W.Frag) (H0 : Hp) (Oc : Addr → Prop) (Q : VK) : Wd → Prop
  | .v d => ∀ v H, Ex H0 H → Rp K Oc H v d → Q v H
  | .o d => ∀ p H, Ex H0 H → H0 p = none → RpO K (fun a => Oc a ∨ a = p) H p d → Q (.ref p) H
abbrev PF : Type := List D → Option Wd
def spG (K : PySem.W.Frag) (n : Nat) (gf : PF) : Sp := fun vs H Q _ => ∃ (Oc : Addr → Prop) (ds : List D) (w : Wd), vs.length = n ∧ (∀ a, Oc a → Lv H a) ∧ RpA K Oc H vs ds ∧ gf ds = some w ∧ Ret K H Oc Q w
def runG (m : Nat) (t : SF) : PF := fun ds => match t (ds.map (fun d => some (.v d)) ++ List.replicate m none) with
  | some (.rt w) => some w
  | some (.nx _) => some (.v .non)
  | _ => none
theorem reps_start {K : PySem.W.Frag} {H : Hp} {Oc : Addr → Prop} (oc : ∀ a, Oc a → Lv H a) (N : List Str) {vs : List V} {ds : List D} (r : RpA K Oc H vs ds) {m : Nat} (hm : N.length = vs.length + m) :
    Reps K H Oc ⟨[], none⟩ noOw (L2.start N vs) H (ds.map (fun d => some (.v d)) ++ List.replicate m none) where
  len := by
    unfold L2.start
    simp only [List.length_append, List.length_map, List.length_replicate]
    have := r.len
    omega
  ex := Evl.Ex.refl H
  oc := oc
  fr := fun i a h => by cases h
  inj := fun i j a h => by cases h
  is := fun i a h => by cases h
  val := fun i d h => by
    have k : Kp Oc H (OO Oc noOw) H := fun a o n e => ⟨fun z => z.elim n fun ⟨i, z⟩ => (by cases z), e⟩
    have hi : i < ds.length := by
      by_cases hi : i < ds.length
      · exact hi
      · rw [List.getElem?_append_right (by simp; omega)] at h
        rw [List.getElem?_replicate] at h
        split at h <;> cases h
    rw [List.getElem?_append_left (by simp; exact hi), List.getElem?_map] at h
    cases e : ds[i]? with
    | none => rw [e] at h; cases h
    | some d' =>
      rw [e] at h
      cases h
      obtain ⟨v, h1, h2⟩ := r.get e
      refine ⟨v, ?_, h2.kp k⟩
      unfold L2.start
      have : i < vs.length := by rw [r.len]; exact hi
      rw [List.getElem?_append_left (by simp; exact this), List.getElem?_map, h1]
      rfl
  own := fun i d h => by
    have hi : ¬ i < ds.length := fun hi => by
      rw [List.getElem?_append_left (by simp; exact hi), List.getElem?_map] at h
      cases e : ds[i]? with
      | none => rw [e] at h; cases h
      | some d' => rw [e] at h; cases h
    rw [List.getElem?_append_right (by simp; omega)] at h
    rw [List.getElem?_replicate] at h
    split at h <;> cases h
  pin := fun p h => by cases h
  slf := fun x h => by cases h
section
variable {P : Program} {w : World} {K : PySem.W.Frag} {mg : Str → Option Value} {base : Heap}
theorem fnG {x qual : Str} {st : Stmt} {f : Addr} {fd : FuncData} {N ps : List Str} {k n m : Nat} {t : SF} (F : Fun K x qual st f fd) (S : FnScope N ps (defScope st)) (hn : n = ps.length) (hm : N.length = n + m)
    (hb : ∀ (cdv : Value) (A : Around) (outer : List Env) (s : Shared) (H : Hp) (E : XK), Room k (A.deeper (envOfC qual (defScope st) s.heap.objs.size f cdv)) → ∃ ts, PSs (cxOf CX0 P w K mg base N qual (defScope st) f cdv A outer s H E).nox (defBody st) ts ∧ SR K ts t) : FnOk P w K mg base CX0 (k + 1) f fd ps (spG K n (runG m t)) := by
  subst hn
  refine F.ok S (fun vs H Q E h => ?_) (fun cdv A outer s H vs Q E hr h => ?_)
  · obtain ⟨_, _, _, h, _⟩ := h
    exact h
  · obtain ⟨Oc, ds, wd, hl, oc, r, hg, q⟩ := h
    obtain ⟨ts, hts, hs⟩ := hb cdv A outer s H E hr
    refine ⟨ts, hts, ?_⟩
    have R := reps_start oc N r (m := m) (by rw [hl]; exact hm)
    unfold runG at hg
    split at hg
    · rename_i w' e
      cases hg
      refine hs _ _ e H Oc _ noOw _ H R _ ?_
      cases wd with
      | v d => exact q
      | o d => exact q
    · rename_i g e
      cases hg
      exact hs _ _ e H Oc _ noOw _ H R _ fun ow σ H' R' => q .non H' R'.ex .non
    · cases hg
theorem FnOk.gf {f : Addr} {fd : FuncData} {ps : List Str} {k n : Nat} {gf gf' : PF} (F : FnOk P w K mg base CX0 k f fd ps (spG K n gf)) (h : ∀ ds w, gf' ds = some w → gf ds = some w) : FnOk P w K mg base CX0 k f fd ps (spG K n gf') :=
  F.imp fun vs H Q E ⟨Oc, ds, w, h1, h2, h3, h4, h5⟩ => ⟨Oc, ds, w, h1, h2, h3, h ds w h4, h5⟩
end
section
variable {K : PySem.W.Frag}
def dCall (n : Nat) (gf : PF) (a : DAF) : DF := fun g => (a g).bind fun ds => if ds.length = n then (gf ds).map Wd.d else none
theorem RpO.toRp {O : Addr → Prop} {H : Hp} {p : Addr} {d : D} (n : ¬ O p) (r : RpO K (fun a => O a ∨ a = p) H p d) : Rp K O H (.ref p) d := r.rp (fun b o m q => ⟨fun z => m (.inl z), q⟩) n
theorem er_call {n : Nat} {gf : PF} {E : XK} {ta : TA} {a : DAF} (ha : AR K ta a) : ER K (tCall (spG K n gf) [] E ta) (dCall n gf a) := fun g d h H0 Oc pins ow σ H R Q q => by
  unfold dCall at h
  cases ea : a g with
  | none => rw [ea] at h; cases h
  | some ds =>
    rw [ea] at h
    simp only [Option.bind_some] at h
    split at h
    · rename_i hn
      cases ew : gf ds with
      | none => rw [ew] at h; cases h
      | some wd =>
        rw [ew] at h
        cases h
        refine ha g ds ea H0 Oc pins ow σ H R _ fun vs H1 e1 r1 => ?_
        refine ⟨OO Oc ow, ds, wd, by rw [List.append_nil, r1.len]; exact hn, (R.grow e1).oo, by rw [List.append_nil]; exact r1, ew, ?_⟩
        cases wd with
        | v d => exact fun v H2 e2 r2 => q v H2 (e1.trans e2) r2
        | o d => exact fun p H2 e2 hp r2 => q _ H2 (e1.trans e2) (r2.toRp ((R.grow e1).new hp))
    · cases h
def dCallO (n : Nat) (gf : PF) (a : DAF) : DF := fun g => (a g).bind fun ds => if ds.length = n then (match gf ds with
  | some (.o d) => some d
  | _ => none) else none
/-! ### __init__ and C(..) -/
def dMake (C : Addr) (n : Nat) (gf : List D → Option (List (Str × D))) (a : DAF) : DF := fun g => (a g).bind fun ds => if ds.length = n then (gf ds).map (.ins C) else none
end
end Zk
end

section
set_option Elab.async false
set_option linter.all false
set_option maxRecDepth 100000
set_option autoImplicit false
set_option maxHeartbeats 2000000
/-! len(set(ints)); names of the built-ins; odds. -/
namespace Zk
open PySem L2 PyProof.Rows
open Evl (Ex)

/-! ### how many different ones -/
def dd : List Int → List Int
  | [] => []
  | x :: xs => if x ∈ xs then dd xs else x :: dd xs
section
variable {K : PySem.W.Frag}
def negD : D → Option D
  | .int i => some (.int (-i))
  | _ => none
/-- a flat value may look at what is owned -/
def peekF (a : DF) : DF := fun g => match a (frzAll g) with
  | some d => if d.flat = true then some d else none
  | none => none
end
/-! ### the built-ins by name -/
theorem bt_len : bootBuiltins "len" = some (.builtin "len") := by decide +kernel
theorem bt_abs : bootBuiltins "abs" = some (.builtin "abs") := by decide +kernel
theorem bt_max : bootBuiltins "max" = some (.builtin "max") := by decide +kernel
theorem bt_all : bootBuiltins "all" = some (.builtin "all") := by decide +kernel
theorem bt_isinstance : bootBuiltins "isinstance" = some (.builtin "isinstance") := by decide +kernel
theorem bt_int : bootBuiltins "int" = some (.type "int") := by decide +kernel
theorem bt_bool : bootBuiltins "bool" = some (.type "bool") := by decide +kernel
theorem bt_list : bootBuiltins "list" = some (.type "list") := by decide +kernel
theorem bt_tuple : bootBuiltins "tuple" = some (.type "tuple") := by decide +kernel
end Zk
end

section
set_option Elab.async false
set_option linter.all false
set_option maxRecDepth 100000
set_option autoImplicit false
set_option maxHeartbeats 2000000
/-! Comprehensions of two clauses. -/
namespace Zk
open PySem L2 PyProof.Rows
open Evl (Ex)

/-- all but what stands at Dl is kept -/
def Tch (Dl : Addr) (H H2 : Hp) : Prop := ∀ a o, a ≠ Dl → H a = some o → H2 a = some o
theorem Tch.refl (Dl : Addr) (H : Hp) : Tch Dl H H := fun _ _ _ h => h
theorem Tch.trans {Dl : Addr} {H H1 H2 : Hp} (a : Tch Dl H H1) (b : Tch Dl H1 H2) : Tch Dl H H2 := fun c o n h => b c o n (a c o n h)
theorem Tch.ex {Dl : Addr} {H H1 : Hp} (e : Ex H H1) : Tch Dl H H1 := fun a o _ h => e a o h
theorem Tch.upd {Dl : Addr} {H : Hp} {o : HO} : Tch Dl H (L2.upd H Dl o) := fun a u n h => by rw [upd_ne n]; exact h
section
variable {K : PySem.W.Frag}
theorem Tch.kp {Dl : Addr} {O : Addr → Prop} {H H2 : Hp} (e : Tch Dl H H2) (hD : O Dl) : Kp O H O H2 := fun a o n h => ⟨n, e a o (fun z => n (z ▸ hD)) h⟩
open Classical in
theorem Reps.touch {B H H2 : Hp} {Oc : Addr → Prop} {pins : Pn} {ow : OW} {σ : L2.St} {g : Gm} {Dl : Addr} (R : Reps K B Oc pins ow σ H g) (hD : Oc Dl) (e : Tch Dl H H2) (h2 : Lv H2 Dl) :
    ∃ B', Reps K B' Oc pins ow σ H2 g := by
  have k : Kp (OO Oc ow) H (OO Oc ow) H2 := e.kp (.inl hD)
  have nD : ∀ i a, ow i = some a → a ≠ Dl := fun i a h z => (R.oc Dl hD).1 (by rw [← z]; exact (R.fr i a h).1)
  have there : ∀ a, a ≠ Dl → Lv H a → Lv H2 a := fun a n h => by
    cases y : H a with
    | none => exact absurd y h.1
    | some o =>
      have q := e a o n y
      exact ⟨fun z => (by rw [q] at z; cases z), fun xs z => (by rw [q] at z; exact h.2 xs (y.trans z))⟩
  refine ⟨fun b => if ∃ i, ow i = some b then none else H2 b, ?_⟩
  exact {
    len := R.len
    ex := fun a o h => by
      have h : (if ∃ i, ow i = some a then none else H2 a) = some o := h
      split at h
      · cases h
      · exact h
    oc := fun a h => by
      have nw : ¬ ∃ i, ow i = some a := fun ⟨i, z⟩ => (R.oc a h).1 (R.fr i a z).1
      show (if ∃ i, ow i = some a then none else H2 a) ≠ none ∧ ∀ xs, (if ∃ i, ow i = some a then none else H2 a) ≠ some (.tup xs)
      rw [if_neg nw]
      by_cases q : a = Dl
      · rw [q]; exact h2
      · exact there a q (R.oo a (.inl h))
    fr := fun i a h => ⟨if_pos ⟨i, h⟩, there a (nD i a h) (R.fr i a h).2⟩
    inj := R.inj
    is := R.is
    val := fun i d h => let ⟨v, h1, h2⟩ := R.val i d h; ⟨v, h1, h2.kp k⟩
    own := fun i d h => let ⟨a, h1, h2, h3⟩ := R.own i d h; ⟨a, h1, h2, h3.kp k (by
      cases y : H a with
      | none => exact absurd y h3.there
      | some o => exact e a o (nD i a h1) y)⟩
    pin := fun p h => (R.pin p h).kp k
    slf := R.slf }
end
end Zk
end

section
set_option Elab.async false
set_option linter.all false
set_option maxRecDepth 100000
set_option autoImplicit false
set_option maxHeartbeats 2000000
/-! in and count over items of any shape. -/
namespace Zk
open PySem L2 PyProof.Rows
open Evl (Ex)
/-- small data -/
def small (p : PyData) : Bool := p.canLay0 && decide (p.depth ≤ 60)
section
variable {X : Cx}
end
def inPB (x : D) : D → Option Bool
  | .lst ds => (toP x).bind fun d => (toPs ds).bind fun ps => if small d && PyData.canLayAll0 ps then some (ps.any fun z => PyData.eqv z d) else none
  | .tup ds => (toP x).bind fun d => (toPs ds).bind fun ps => if small d && PyData.canLayAll0 ps then some (ps.any fun z => PyData.eqv z d) else none
  | _ => none
def inPD (x y : D) : Option D := (inPB x y).map .bl
def ninPD (x y : D) : Option D := (inPB x y).map fun b => .bl (!b)
section
variable {K : PySem.W.Frag}
def countD (y x : D) : Option D := match y with
  | .lst ds => (toP x).bind fun d => (toPs ds).bind fun ps => if small d && PyData.canLayAll0 ps then some (.int ((ps.countP fun z => PyData.eqv z d : Nat) : Int)) else none
  | _ => none
/-- a new list of flat items may be made of what is owned -/
def peekO (a : DF) : DF := fun g => match a (frzAll g) with
  | some (.lst ds) => if ds.all D.flat then some (.lst ds) else none
  | _ => none
end
end Zk
end

section
set_option Elab.async false
set_option linter.all false
set_option maxRecDepth 100000
set_option autoImplicit false
set_option maxHeartbeats 2000000
/-! Dicts as data. -/
namespace Zk
open PySem L2
open Evl (Ex)
/-! ### keys -/
variable {K : PySem.W.Frag}
/-! ### look-up, store -/
def getK (kvs : List (List Key × D)) (k : List Key) : Option D := (kvs.find? fun kv => decide (kv.1 = k)).map (·.2)
def setK (kvs : List (List Key × D)) (k : List Key) (d : D) : List (List Key × D) :=
  if (kvs.any fun kv => decide (kv.1 = k)) = true then kvs.map (fun kv => if kv.1 = k then (kv.1, d) else kv) else kvs ++ [(k, d)]
/-- a dict's pairs and their data -/
def RpD (K : PySem.W.Frag) (O : Addr → Prop) (H : Hp) (xs : List (List Key × V)) (kvs : List (List Key × D)) : Prop := xs.map (·.1) = kvs.map (·.1) ∧ RpA K O H (xs.map (·.2)) (kvs.map (·.2))
theorem RpD.nil {O : Addr → Prop} {H : Hp} : RpD K O H [] [] := ⟨rfl, .nil⟩
theorem RpD.inv {O : Addr → Prop} {H : Hp} {x : List Key × V} {xs : List (List Key × V)} {kvs : List (List Key × D)} (r : RpD K O H (x :: xs) kvs) : ∃ d kvs', kvs = (x.1, d) :: kvs' ∧ Rp K O H x.2 d ∧ RpD K O H xs kvs' := by
  obtain ⟨e, r⟩ := r
  cases kvs with
  | nil => cases e
  | cons kv kvs =>
    rw [List.map_cons, List.map_cons] at e r
    have e1 := (List.cons.inj e).1
    cases r with
    | cons a b => exact ⟨kv.2, kvs, by rw [e1], a, (List.cons.inj e).2, b⟩
theorem RpD.get {O : Addr → Prop} {H : Hp} : ∀ {xs : List (List Key × V)} {kvs : List (List Key × D)} (k : List Key), RpD K O H xs kvs →
    (getK kvs k = none ∧ valV xs k = none) ∨ ∃ d v, getK kvs k = some d ∧ valV xs k = some v ∧ Rp K O H v d
  | [], kvs, k, r => by
    obtain ⟨e, _⟩ := r
    cases kvs with
    | nil => exact .inl ⟨rfl, rfl⟩
    | cons a b => cases e
  | x :: xs, kvs, k, r => by
    obtain ⟨d, kvs', rfl, h1, h2⟩ := r.inv
    by_cases hk : x.1 = k
    · refine .inr ⟨d, x.2, ?_, valV_pos hk, h1⟩
      unfold getK
      rw [List.find?_cons, decide_eq_true hk]
      rfl
    · have ih := RpD.get k h2
      rw [valV_neg hk]
      have e : getK ((x.1, d) :: kvs') k = getK kvs' k := by
        unfold getK
        rw [List.find?_cons, decide_eq_false hk]
      rw [e]
      exact ih
theorem RpD.set {O : Addr → Prop} {H : Hp} {xs : List (List Key × V)} {kvs : List (List Key × D)} (k : List Key) {v : V} {d : D} (r : RpD K O H xs kvs) (hv : Rp K O H v d) : RpD K O H (putK xs k v) (setK kvs k d) := by
  have ha : (xs.any fun kv => decide (kv.1 = k)) = (kvs.any fun kv => decide (kv.1 = k)) := by
    have e1 : ∀ l : List (List Key × V), (l.any fun kv => decide (kv.1 = k)) = ((l.map (·.1)).any fun z => decide (z = k)) := fun l => by rw [List.any_map]; rfl
    have e2 : ∀ l : List (List Key × D), (l.any fun kv => decide (kv.1 = k)) = ((l.map (·.1)).any fun z => decide (z = k)) := fun l => by rw [List.any_map]; rfl
    rw [e1, e2, r.1]
  unfold putK setK
  rw [ha]
  split
  · have go : ∀ (xs : List (List Key × V)) (kvs : List (List Key × D)), RpD K O H xs kvs → RpD K O H (xs.map fun kv => if kv.1 = k then (kv.1, v) else kv) (kvs.map fun kv => if kv.1 = k then (kv.1, d) else kv) := by
      intro xs
      induction xs with
      | nil =>
        intro kvs r
        cases kvs with
        | nil => exact .nil
        | cons a b => cases r.1
      | cons x xs ih =>
        intro kvs r
        obtain ⟨d', kvs', rfl, h1, h2⟩ := r.inv
        have ih := ih kvs' h2
        rw [List.map_cons, List.map_cons]
        by_cases hk : x.1 = k
        · rw [if_pos hk, if_pos hk]
          exact ⟨by rw [List.map_cons, List.map_cons, ih.1], .cons hv ih.2⟩
        · rw [if_neg hk, if_neg hk]
          exact ⟨by rw [List.map_cons, List.map_cons, ih.1], .cons h1 ih.2⟩
    exact go xs kvs r
  · exact ⟨by rw [List.map_append, List.map_append, r.1]; rfl, by rw [List.map_append, List.map_append]; exact r.2.app (.one hv)⟩
theorem RpD.kp {O O' : Addr → Prop} {H H' : Hp} (k : Kp O H O' H') {xs : List (List Key × V)} {kvs : List (List Key × D)} (r : RpD K O H xs kvs) : RpD K O' H' xs kvs := ⟨r.1, r.2.kp k⟩
theorem RpD.len {O : Addr → Prop} {H : Hp} {xs : List (List Key × V)} {kvs : List (List Key × D)} (r : RpD K O H xs kvs) : xs.length = kvs.length := by
  have := congrArg List.length r.1
  rw [List.length_map, List.length_map] at this
  exact this
/-! ### a dict in a slot, owned or not -/
section
variable {tk tx tv : TE} {k x a : DF} {i : Nat}
end
end Zk
end

section
set_option Elab.async false
set_option linter.all false
set_option maxRecDepth 100000
set_option autoImplicit false
set_option maxHeartbeats 2000000
/-! A dict of lists that are filled in their places. -/
namespace Zk
open PySem L2
open Evl (Ex)
variable {K : PySem.W.Frag}
abbrev SeatL : Type := List (List Key × List Int)
def addSeat (kvs : SeatL) (k : List Key) (i : Int) : SeatL := if (kvs.any fun kv => decide (kv.1 = k)) = true then kvs.map (fun kv => if kv.1 = k then (kv.1, kv.2 ++ [i]) else kv) else kvs ++ [(k, [i])]
/-- the dict at d, its lists new and each by itself -/
structure Dp (H0 H : Hp) (d : Addr) (xs : List (List Key × V)) (kvs : SeatL) : Prop where
  keys : xs.map (·.1) = kvs.map (·.1)
  nod : (kvs.map (·.1)).Nodup
  val : ∀ (j : Nat) (k : List Key) (es : List Int), kvs[j]? = some (k, es) → ∃ b, xs[j]? = some (k, .ref b) ∧ H0 b = none ∧ b ≠ d ∧ H b = some (.lst (es.map V.int))
  inj : ∀ (j l : Nat) (k k' : List Key) (b : Addr), xs[j]? = some (k, .ref b) → xs[l]? = some (k', .ref b) → j = l
theorem Dp.len {H0 H : Hp} {d : Addr} {xs : List (List Key × V)} {kvs : SeatL} (p : Dp H0 H d xs kvs) : xs.length = kvs.length := by
  have := congrArg List.length p.keys
  rw [List.length_map, List.length_map] at this
  exact this
theorem Dp.ex {H0 H H' : Hp} {d : Addr} {xs : List (List Key × V)} {kvs : SeatL} (p : Dp H0 H d xs kvs) (e : ∀ b o, H b = some o → b ≠ d → H' b = some o) : Dp H0 H' d xs kvs :=
  ⟨p.keys, p.nod, fun j k es h => let ⟨b, h1, h2, h3, h4⟩ := p.val j k es h; ⟨b, h1, h2, h3, e b _ h4 h3⟩, p.inj⟩
theorem any_key {α : Type} (l : List (List Key × α)) (k : List Key) : (l.any fun kv => decide (kv.1 = k)) = true ↔ k ∈ l.map (fun kv => kv.1) := by
  rw [List.any_eq_true, List.mem_map]
  exact ⟨fun ⟨x, h1, h2⟩ => ⟨x, h1, of_decide_eq_true h2⟩, fun ⟨x, h1, h2⟩ => ⟨x, h1, decide_eq_true h2⟩⟩
/-- one more item in the list of a key that is there -/
theorem Dp.more {H0 H : Hp} {d b : Addr} {xs : List (List Key × V)} {kvs : SeatL} (p : Dp H0 H d xs kvs) {k : List Key} {j : Nat} (hj : xs[j]? = some (k, .ref b)) (i : Int) :
    ∃ es, kvs[j]? = some (k, es) ∧ H b = some (.lst (es.map V.int)) ∧ Dp H0 (upd H b (.lst (es.map V.int ++ [.int i]))) d xs (addSeat kvs k i) := by
  have hk : (kvs.map (·.1))[j]? = some k := by rw [← p.keys, List.getElem?_map, hj]; rfl
  obtain ⟨es, e⟩ : ∃ es, kvs[j]? = some (k, es) := by
    rw [List.getElem?_map] at hk
    cases e : kvs[j]? with
    | none => rw [e] at hk; cases hk
    | some kv =>
      rw [e] at hk
      exact ⟨kv.2, by rw [← Option.some.inj hk]⟩
  · obtain ⟨b', h1, h2, h3, h4⟩ := p.val j k es e
    rw [hj] at h1
    cases h1
    refine ⟨es, e, h4, ?_⟩
    have hin : k ∈ kvs.map (·.1) := List.mem_map.mpr ⟨(k, es), List.mem_of_getElem? e, rfl⟩
    have ea : addSeat kvs k i = kvs.map fun kv => if kv.1 = k then (kv.1, kv.2 ++ [i]) else kv := by
      unfold addSeat
      rw [if_pos ((any_key kvs k).mpr hin)]
    have ek : (kvs.map fun kv => if kv.1 = k then (kv.1, kv.2 ++ [i]) else kv).map (·.1) = kvs.map (·.1) := by
      rw [List.map_map]
      refine List.map_congr_left fun kv _ => ?_
      show (if kv.1 = k then (kv.1, kv.2 ++ [i]) else kv).1 = kv.1
      split <;> rfl
    rw [ea]
    refine ⟨by rw [ek]; exact p.keys, by rw [ek]; exact p.nod, fun l k' es' hl => ?_, p.inj⟩
    rw [List.getElem?_map] at hl
    cases e2 : kvs[l]? with
    | none => rw [e2] at hl; cases hl
    | some kv =>
      rw [e2] at hl
      obtain ⟨k2, es2⟩ := kv
      obtain ⟨b2, g1, g2, g3, g4⟩ := p.val l k2 es2 e2
      by_cases hkk : k2 = k
      · have hl2 : (if k2 = k then (k2, es2 ++ [i]) else (k2, es2)) = (k', es') := Option.some.inj hl
        rw [if_pos hkk] at hl2
        cases hl2
        rw [hkk] at e2 g1 ⊢
        have hjl : j = l := by
          have a1 : (kvs.map (·.1))[j]? = some k := by rw [List.getElem?_map, e]; rfl
          have a2 : (kvs.map (·.1))[l]? = some k := by rw [List.getElem?_map, e2]; rfl
          exact (List.getElem?_inj (List.getElem?_eq_some_iff.mp a1).1 p.nod).mp (a1.trans a2.symm)
        subst hjl
        rw [hj] at g1
        cases g1
        rw [e] at e2
        cases e2
        exact ⟨b, hj, g2, g3, by rw [upd_same, List.map_append]; rfl⟩
      · have hl2 : (if k2 = k then (k2, es2 ++ [i]) else (k2, es2)) = (k', es') := Option.some.inj hl
        rw [if_neg hkk] at hl2
        cases hl2
        have nb : b2 ≠ b := fun z => by
          subst z
          have := p.inj j l _ _ _ hj g1
          subst this
          rw [e] at e2
          cases e2
          exact hkk rfl
        exact ⟨b2, g1, g2, g3, by rw [upd_ne nb]; exact g4⟩
/-- a new key -/
theorem Dp.new {H0 H : Hp} {d l : Addr} {xs : List (List Key × V)} {kvs : SeatL} (p : Dp H0 H d xs kvs) {k : List Key} (hk : k ∉ xs.map (·.1)) (hl0 : H0 l = none) (hld : l ≠ d) (hl : H l = none) (i : Int) {H' : Hp} (e : ∀ b o, H b = some o → b ≠ d → H' b = some o) (h' : H' l = some (.lst [.int i])) :
    Dp H0 H' d (xs ++ [(k, .ref l)]) (addSeat kvs k i) := by
  have hk2 : k ∉ kvs.map (·.1) := by rw [← p.keys]; exact hk
  have ea : addSeat kvs k i = kvs ++ [(k, [i])] := by
    unfold addSeat
    rw [if_neg fun z => hk2 ((any_key kvs k).mp z)]
  have hlen := p.len
  have old : ∀ (j : Nat) (k' : List Key) (b : Addr), xs[j]? = some (k', .ref b) → b ≠ l := fun j k' b h z => by
    have hj : j < kvs.length := by rw [← hlen]; exact (List.getElem?_eq_some_iff.mp h).1
    obtain ⟨b', h1, _, _, h4⟩ := p.val j _ _ (List.getElem?_eq_getElem hj)
    rw [h] at h1
    cases h1
    rw [z, hl] at h4
    cases h4
  rw [ea]
  refine ⟨by rw [List.map_append, List.map_append, p.keys]; rfl, ?_, fun j k' es h => ?_, fun j j' k1 k2 b h1 h2 => ?_⟩
  · rw [List.map_append, List.nodup_append]
    exact ⟨p.nod, by simp, fun a ha b hb z => hk2 (by simp at hb; rw [← hb, ← z]; exact ha)⟩
  · by_cases hj : j < kvs.length
    · rw [List.getElem?_append_left hj] at h
      obtain ⟨b, h1, h2, h3, h4⟩ := p.val j k' es h
      exact ⟨b, by rw [List.getElem?_append_left (by omega)]; exact h1, h2, h3, e b _ h4 h3⟩
    · rw [List.getElem?_append_right (by omega)] at h
      have h0 : j - kvs.length = 0 := by
        by_cases h0 : j - kvs.length = 0
        · exact h0
        · rw [List.getElem?_eq_none (by simp; omega)] at h; cases h
      rw [h0] at h
      cases h
      exact ⟨l, by rw [List.getElem?_append_right (by omega), hlen, h0]; rfl, hl0, hld, h'⟩
  · have lem : ∀ (j : Nat) (k1 : List Key), (xs ++ [(k, V.ref l)])[j]? = some (k1, .ref b) → (j < xs.length ∧ xs[j]? = some (k1, .ref b)) ∨ (j = xs.length ∧ b = l) := fun j k1 h => by
      by_cases hj : j < xs.length
      · rw [List.getElem?_append_left hj] at h; exact .inl ⟨hj, h⟩
      · rw [List.getElem?_append_right (by omega)] at h
        by_cases h0 : j - xs.length = 0
        · rw [h0] at h; cases h; exact .inr ⟨by omega, rfl⟩
        · rw [List.getElem?_eq_none (by simp; omega)] at h; cases h
    rcases lem j k1 h1 with ⟨a1, a2⟩ | ⟨a1, a2⟩ <;> rcases lem j' k2 h2 with ⟨b1, b2⟩ | ⟨b1, b2⟩
    · exact p.inj j j' k1 k2 b a2 b2
    · exact absurd b2 (old j k1 b a2)
    · exact absurd a2 (old j' k2 b b2)
    · omega
end Zk
end

section
set_option Elab.async false
set_option linter.all false
set_option maxRecDepth 100000
set_option autoImplicit false
set_option maxHeartbeats 4000000
/-! Defs that are called where no guard stands; repr of data. -/
namespace Zg
open PySem PySem.Spec L2 Zk PyProof.Rows
open Evl (Ex)
/-- as FnOk, where no guard stands -/
structure FnG (P : Program) (w : World) (K : PySem.W.Frag) (mg : Str → Option Value) (base : Heap) (k : Nat) (f : Addr) (fd : FuncData) (ps : List Str) (sp : Sp) : Prop where
  len : ∀ vs H Q E, sp vs H Q E → vs.length = ps.length
  run : ∀ (A : Around), A.guards = some [] → ∀ (outer : List Env) (s : Shared) (H : Hp) (args : Args) (us : List Value) (vs : List V) (Q : VK) (E : XK), Room k A → Env0 P w K mg base A outer s H → BindsTo s fd args (ps.zip us) → Vals vs us → sp vs H Q E →
    codeAny (model P w) A (.call (.ref f) args) (CR CX0 outer P w H s Q E) s
section
variable {P : Program} {w : World} {K : PySem.W.Frag} {mg : Str → Option Value} {base : Heap}
theorem FnG.imp {k : Nat} {f : Addr} {fd : FuncData} {ps : List Str} {sp sp' : Sp} (F : FnG P w K mg base k f fd ps sp) (h : ∀ vs H Q E, sp' vs H Q E → sp vs H Q E) : FnG P w K mg base k f fd ps sp' :=
  ⟨fun vs H Q E q => F.len vs H Q E (h _ _ _ _ q), fun A hg outer s H args us vs Q E hr he hb hv hs => F.run A hg outer s H args us vs Q E hr he hb hv (h _ _ _ _ hs)⟩
theorem FnG.mono {j k : Nat} {f : Addr} {fd : FuncData} {ps : List Str} {sp : Sp} (F : FnG P w K mg base j f fd ps sp) (h : j ≤ k) : FnG P w K mg base k f fd ps sp :=
  ⟨F.len, fun A hg outer s H args us vs Q E hr => F.run A hg outer s H args us vs Q E (hr.mono h)⟩
end
/-! ### calls -/
section
variable {X : Cx} {k : Nat} {f : Addr} {fd : FuncData} {ps : List Str} {sp : Sp} {x : Str} {p pos : Pos} {e : Expr} {es : List Expr} {t : TA}
/-! ### the law's own call -/
section
variable {P : Program} {w : World} {K : PySem.W.Frag} {mg mb : Str → Option Value} {k : Nat} {fa a : Addr} {fd : FuncData} {x : Str} {sp : Sp} {s₁ : Shared} {vs : List Value} {ns : List Int}
end
/-! ### repr -/
end
/-! ### tuples may be read off what is owned -/
mutual
def shD : D → Bool
  | .non => true | .bl _ => true | .int _ => true | .str _ => true | .ty _ => true | .cls _ => true
  | .tup ds => shDs ds
  | _ => false
def shDs : List D → Bool
  | [] => true
  | d :: ds => shD d && shDs ds
end
section
variable {K : PySem.W.Frag} {O O' : Addr → Prop} {H : Hp}
mutual
theorem rp_sh (o : ∀ a, O' a → Lv H a) : ∀ {d : D} {v : V}, Rp K O H v d → shD d = true → Rp K O' H v d
  | .non, _, .non, _ => .non
  | .bl _, _, .bl b, _ => .bl b
  | .int _, _, .int i, _ => .int i
  | .str _, _, .str s, _ => .str s
  | .ty _, _, .ty n, _ => .ty n
  | .cls _, _, .cls C, _ => .cls C
  | .tup ds, _, .tup n h r, f => .tup (fun z => (o _ z).2 _ h) h (rps_sh o r f)
  | .lst _, _, _, f => by cases f
  | .scr _, _, _, f => by cases f
  | .ins _ _, _, _, f => by cases f
  | .dct _, _, _, f => by cases f
  | .dck _, _, _, f => by cases f
  | .sti _ _, _, _, f => by cases f
  | .exn _ _ _ _, _, _, f => by cases f
  | .adr _ _, _, _, f => by cases f
theorem rps_sh (o : ∀ a, O' a → Lv H a) : ∀ {ds : List D} {vs : List V}, RpA K O H vs ds → shDs ds = true → RpA K O' H vs ds
  | [], _, .nil, _ => .nil
  | d :: ds, _, .cons r t, f => by
    unfold shDs at f
    rw [Bool.and_eq_true] at f
    exact .cons (rp_sh o r f.1) (rps_sh o t f.2)
end
end
def peekS (a : DF) : DF := fun g => match a (frzAll g) with
  | some d => if shD d = true then some d else none
  | none => none
theorem er_peekS {K : PySem.W.Frag} {te : TE} {a : DF} (ha : ER K te a) : ER K te (peekS a) := fun g d h H0 Oc pins ow σ H R Q q => by
  unfold peekS at h
  split at h
  · rename_i d' e
    split at h
    · rename_i f
      cases h
      exact ha _ d e H0 Oc _ noOw σ H R.frzAll Q fun v H' e' r => q v H' e' (rp_sh (R.grow e').oo r f)
    · cases h
  · cases h
/-! ### is True -/
end Zg
end

section
set_option Elab.async false
set_option linter.all false
set_option maxRecDepth 100000
set_option autoImplicit false
set_option maxHeartbeats 4000000
/-! Defs that raise: what leaves them, and what catches it. -/
namespace Zx
open PyProof.Rows hiding St
open PySem PySem.Spec L2 Zk
open Evl (Ex)
/-- what a statement raises: the class, and the slots as they stand then -/
abbrev XF : Type := Gm → Option (Addr × Gm)
section
variable {K : PySem.W.Frag} {W : WX} {ts tu : TS} {x y : XF} {t : SF} {tt : TT} {c : DTF}
end
/-! ### X() -/
section
variable {X : Cx} {C : Addr} {bmB : List Value} {B newId initId : String} {st : Stmt} {t : TS}
end
/-! ### a def that raises -/
section
variable {P : Program} {w : World} {K : PySem.W.Frag} {mg : Str → Option Value} {base : Heap}
end
/-! ### a call that raises, within a try -/
section
variable {X : Cx} {CX : CXT} {k : Nat} {f : Addr} {fd : FuncData} {ps ks : List Str} {sp : Sp} {E : St → XK} {x : Str} {p pos : Pos} {e : Expr} {es : List Expr} {kws : List Keyword} {ta tb : TA}
variable {g : List Value → List Value → List Value} {gV : List V → List V → List V}
end
section
variable {K : PySem.W.Frag} {W : WX} {ta tb : TA} {a b : DAF} {te : TE} {x : XF}
end
/-! ### the suite: slot i holds the exception at a -/
section
variable {i : Nat} {a : Addr} {σ : St} {te : TE} {tt : TT} {ts : TS}
end
section
variable {K : PySem.W.Frag} {i : Nat} {a : Addr} {te tf : TE} {tt tu : TT} {ts tv : TS} {d d2 : DF} {t u : DTF} {s v : SF}
end
/-! ### isinstance(e, C), isinstance(e, (A, B)) -/
section
variable {K : PySem.W.Frag} {i : Nat} {a D : Addr} {c : V} {cv : Value} {b : Bool}
end
/-! ### try -/
section
variable {K : PySem.W.Frag} {i : Nat} {c : Value} {x : XF} {hd : SF} {tb : WX → TS} {tsD : Addr → Addr → TS} {Wout : WX}
end
end Zx
end

section
set_option Elab.async false
set_option linter.all false
set_option maxRecDepth 100000
set_option autoImplicit false
set_option maxHeartbeats 4000000
/-! sorted(a list of pairs of ints), any number of them. -/
namespace Zv
open PyProof.Rows hiding St
open PySem PySem.Spec L2 Zk
open Evl (Ex)
abbrev Pr := Int × Int
/-- not behind -/
def LexLe (p q : Pr) : Prop := p.1 < q.1 ∨ (p.1 = q.1 ∧ p.2 ≤ q.2)
instance (p q : Pr) : Decidable (LexLe p q) := by unfold LexLe; infer_instance
def adr : Value → Addr
  | .ref t => t
  | _ => 0
section
variable {X : Cx}
end
/-! ### the same on data -/
section
variable {K : PySem.W.Frag} {O : Addr → Prop} {H : Hp}
end
end Zv
end

section
set_option Elab.async false
set_option linter.all false
set_option maxRecDepth 100000
set_option autoImplicit false
set_option maxHeartbeats 2000000
/-! match x: case (tag, a, b): .. -/
namespace Zm
open PySem L2 Zk PyProof.Rows
open Evl (Ex)
section
variable {X : Cx} {pins : List (Addr × Obj)} {σ : L2.St} {H : Hp} {s : Shared}
/-- plain captures, into slots -/
inductive CapsOk (X : Cx) : List Pattern → List Nat → Prop
  | nil : CapsOk X [] []
  | cons {x : Str} {p : Pos} {j : Nat} {ps : List Pattern} {js : List Nat} (hj : X.N[j]? = some x) (hl : X.env.scope.names.lookup x = some .local) (h : CapsOk X ps js) : CapsOk X (.MatchAs none (some x) p :: ps) (j :: js)
theorem CapsOk.len : ∀ {ps : List Pattern} {js : List Nat}, CapsOk X ps js → ps.length = js.length
  | _, _, .nil => rfl
  | _, _, .cons _ _ h => congrArg (· + 1) h.len
/-- the cases, each with its tag, its slots and its body's reading -/
inductive PMs (X : Cx) : List MatchCase → List (Str × List Nat × TS) → Prop
  | nil : PMs X [] []
  | cons {tag : Str} {kk : Nat} {pp p1 pos : Pos} {caps : List Pattern} {js : List Nat} {body : List Stmt} {ts : TS} {rest : List MatchCase} {cs : List (Str × List Nat × TS)}
    (ck : CapsOk X caps js) (hb : PSs X body ts) (h : PMs X rest cs) : PMs X (⟨.MatchSequence (.MatchValue (.Constant (.str tag) kk pp) p1 :: caps) pos, none, body⟩ :: rest) ((tag, js, ts) :: cs)
end
/-! ### the same on data -/
section
variable {K : PySem.W.Frag}
abbrev Cse := Str × List Nat × SF
inductive SRs (K : PySem.W.Frag) : List (Str × List Nat × TS) → List Cse → Prop
  | nil : SRs K [] []
  | cons {tag : Str} {js : List Nat} {ts : TS} {s : SF} {cs : List (Str × List Nat × TS)} {ds : List Cse} (h : SR K ts s) (r : SRs K cs ds) : SRs K ((tag, js, ts) :: cs) ((tag, js, s) :: ds)
/-! step by step -/
end
end Zm
end

section
set_option Elab.async false
set_option linter.all false
set_option maxRecDepth 100000
set_option autoImplicit false
set_option maxHeartbeats 2000000
/-! Tuples joined and cut. -/
namespace Zm
open PySem L2 Zk
open Evl (Ex)
section
variable {K : PySem.W.Frag}
def catD : D → D → Option D
  | .tup a, .tup b => if a.length + b.length ≤ 100000 then some (.tup (a ++ b)) else none
  | _, _ => none
theorem rr_cat : RR K (rCatA K) catD := fun x y d h O H v u o rx ry Q q => by
  unfold catD at h
  split at h
  · split at h
    · rename_i hl
      cases h
      cases rx with
      | tup n e r =>
        cases ry with
        | tup n' e' r' =>
          refine ⟨_, _, _, _, rfl, rfl, .of e, .of e', by rw [r.len, r'.len]; exact Evl.sz_of hl, fun z => ?_, fun _ z => ?_, fun _ _ p hp => rr_newT o q (r.app r') p hp⟩
          · subst z
            cases r
            exact q _ H (Evl.Ex.refl H) (.tup n' e' r')
          · subst z
            cases r'
            refine q _ H (Evl.Ex.refl H) (.tup n e ?_)
            rw [List.append_nil]
            exact r
    · cases h
  · cases h
theorem cat_tt {a b : List D} (h : a.length + b.length ≤ 100000) : catD (.tup a) (.tup b) = some (.tup (a ++ b)) := if_pos h
end
end Zm
end

section
set_option Elab.async false
set_option linter.all false
set_option maxRecDepth 100000
set_option autoImplicit false
set_option maxHeartbeats 2000000
/-! Reckoning with the data. -/
namespace Zk
open PySem L2
/-- a loop by a word over the turn's number -/
theorem loop_inv {f : DGF} {s : SF} {ds : List D} (I : Nat → Gm → Prop) {g : Gm} (h0 : I 0 g) (hs : ∀ (i : Nat) (d : D) (g : Gm), ds[i]? = some d → I i g → ∃ g1 g2, f d g = some g1 ∧ (s g1 = some (.nx g2) ∨ s g1 = some (.ct g2)) ∧ I (i + 1) g2) :
    ∃ g', loopD f s ds g = some (.nx g') ∧ I ds.length g' := by
  induction ds generalizing I g with
  | nil => exact ⟨g, rfl, h0⟩
  | cons d ds ih =>
    obtain ⟨g1, g2, h1, h2, h3⟩ := hs 0 d g rfl h0
    obtain ⟨g', e, h4⟩ := ih (fun i g => I (i + 1) g) h3 fun i e g he hI => hs (i + 1) e g (by simpa using he) hI
    refine ⟨g', ?_, h4⟩
    unfold loopD
    rw [h1, Option.bind_some]
    rcases h2 with h2 | h2
    · rw [h2]; exact e
    · rw [h2]; exact e
end Zk
end

section
set_option Elab.async false
set_option linter.all false
set_option maxRecDepth 100000
set_option autoImplicit false
set_option maxHeartbeats 2000000
/-! The combinators, step by step. -/
namespace Zk
open PySem L2
section
variable {f f' : D → D → Option D} {h : D → Option D} {hN : List D → Option D} {a b c : DF} {r : DAF} {g : Gm} {x y d e : D} {xs ds : List D} {t u : DTF} {s q : SF} {i n : Nat} {o : Option Wd} {k : Bool} {tg : DGF}
def ap1 {α : Type} (h : D → Option α) : Option D → Option α := fun x => x.bind h
theorem ap1_some {α : Type} {h : D → Option α} : ap1 h (some x) = h x := rfl
def ap2 (f : D → D → Option D) : Option D → Option D → Option D := fun x y => x.bind fun x => y.bind fun y => f x y
theorem ap2_some : ap2 f (some x) (some y) = f x y := rfl
def apN (h : List D → Option D) : Option (List D) → Option D := fun x => x.bind h
theorem apN_some : apN hN (some xs) = hN xs := rfl
def apC : Option D → Option (List D) → Option (List D) := fun x r => x.bind fun x => r.bind fun xs => some (x :: xs)
theorem apC_some : apC (some x) (some xs) = some (x :: xs) := rfl
theorem d1_a : d1 h a g = ap1 h (a g) := rfl
theorem d2_a : d2 f a b g = ap2 f (a g) (b g) := rfl
theorem dN_a : dN hN r g = apN hN (r g) := rfl
theorem aNil_a : aNil g = some [] := rfl
theorem aCons_a : aCons a r g = apC (a g) (r g) := rfl
theorem dC_a : dC d g = some d := rfl
theorem dVar_z : dVar 0 (some (.v d) :: g) = some d := rfl
theorem dVar_s : dVar (i + 1) (o :: g) = dVar i g := rfl
theorem tDt_a {h : D → Option Bool} : tDt h a g = ap1 h (a g) := rfl
def apAnd : Option Bool → DTF → Gm → Option Bool := fun x b g => x.bind fun x => if x = true then b g else some false
theorem apAnd_t : apAnd (some true) u g = u g := rfl
theorem apAnd_f : apAnd (some false) u g = some false := rfl
def apOr : Option Bool → DTF → Gm → Option Bool := fun x b g => x.bind fun x => if x = true then some true else b g
theorem apOr_t : apOr (some true) u g = some true := rfl
theorem apOr_f : apOr (some false) u g = u g := rfl
theorem dAndT_a : dAndT t u g = apAnd (t g) u g := rfl
theorem dOrT_a : dOrT t u g = apOr (t g) u g := rfl
def apNot : Option Bool → Option Bool := fun x => x.map (!·)
theorem apNot_some : apNot (some k) = some (!k) := rfl
theorem dNotT_a : dNotT t g = apNot (t g) := rfl
def apAndV : Option D → DF → Gm → Option D := fun x b g => x.bind fun x => match x with
  | .bl true => b g
  | .bl false => some (.bl false)
  | _ => none
theorem apAndV_t : apAndV (some (.bl true)) b g = b g := rfl
theorem apAndV_f : apAndV (some (.bl false)) b g = some (.bl false) := rfl
theorem dAndV_a : dAndV a b g = apAndV (a g) b g := rfl
def apOrV : Option D → DF → Gm → Option D := fun x b g => x.bind fun x => match x with
  | .bl true => some (.bl true)
  | .bl false => b g
  | _ => none
theorem apOrV_t : apOrV (some (.bl true)) b g = some (.bl true) := rfl
theorem apOrV_f : apOrV (some (.bl false)) b g = b g := rfl
theorem dOrV_a : dOrV a b g = apOrV (a g) b g := rfl
def apIf : Option Bool → DF → DF → Gm → Option D := fun x a b g => x.bind fun x => if x = true then a g else b g
theorem apIf_t : apIf (some true) a b g = a g := rfl
theorem apIf_f : apIf (some false) a b g = b g := rfl
theorem dIf_a : dIf t a b g = apIf (t g) a b g := rfl
def apCh (f' : D → D → Option D) (y : D) (c : DF) (g : Gm) : Option D → Option D := fun z => z.bind fun z => match z with
  | .bl true => (c g).bind fun w => f' y w
  | .bl false => some (.bl false)
  | _ => none
theorem apCh_t : apCh f' y c g (some (.bl true)) = ap2 f' (some y) (c g) := rfl
theorem apCh_f : apCh f' y c g (some (.bl false)) = some (.bl false) := rfl
def apChain (f f' : D → D → Option D) : Option D → Option D → DF → Gm → Option D := fun x y c g => x.bind fun x => y.bind fun y => apCh f' y c g (f x y)
theorem apChain_some : apChain f f' (some x) (some y) c g = apCh f' y c g (f x y) := rfl
theorem dChain_a : dChain f f' a b c g = apChain f f' (a g) (b g) c g := rfl
/-! ### statements -/
def apSeq : Option Out → SF → Option Out := fun o u => o.bind fun o => sThen o u
theorem apSeq_nx {g : Gm} : apSeq (some (.nx g)) q = q g := (rfl)
theorem apSeq_rt {w : Wd} : apSeq (some (.rt w)) q = some (.rt w) := rfl
theorem apSeq_ct {g : Gm} : apSeq (some (.ct g)) q = some (.ct g) := rfl
theorem apSeq_bk {g : Gm} : apSeq (some (.bk g)) q = some (.bk g) := rfl
theorem sSeq_a : sSeq s q g = apSeq (s g) q := rfl
def apIfS : Option Bool → SF → SF → Gm → Option Out := fun x s u g => x.bind fun x => if x = true then s g else u g
theorem apIfS_t : apIfS (some true) s q g = s g := rfl
theorem apIfS_f : apIfS (some false) s q g = q g := rfl
theorem sIf_a : sIf t s q g = apIfS (t g) s q g := rfl
theorem sNext_a : sNext g = some (.nx g) := rfl
theorem sCont_a : sCont g = some (.ct g) := rfl
theorem sBreak_a : sBreak g = some (.bk g) := rfl
def apRet : Option D → Option Out := fun x => x.map fun d => .rt (.v d)
theorem apRet_some : apRet (some d) = some (.rt (.v d)) := rfl
theorem sRet_a : sRet a g = apRet (a g) := rfl
def apRetO : Option D → Option Out := fun x => x.map fun d => .rt (.o d)
theorem apRetO_some : apRetO (some d) = some (.rt (.o d)) := rfl
theorem sRetO_a : sRetO a g = apRetO (a g) := rfl
theorem sRetN_a : sRetN g = some (.rt (.v .non)) := rfl
def getO : Gm → Nat → Option D := fun g i => match g[i]? with
  | some (some (.o d)) => some d
  | _ => none
theorem getO_z : getO (some (.o d) :: g) 0 = some d := rfl
theorem getO_s : getO (o :: g) (i + 1) = getO g i := rfl
def apRetV : Option D → Option Out := fun x => x.map fun d => .rt (.o d)
theorem apRetV_some : apRetV (some d) = some (.rt (.o d)) := rfl
theorem sRetV_a : sRetV i g = apRetV (getO g i) := by
  unfold sRetV apRetV getO
  cases e : g[i]? with
  | none => rfl
  | some o =>
    cases o with
    | none => rfl
    | some w => cases w <;> rfl
def ltB : Gm → Nat → Bool := fun g i => decide (i < g.length)
theorem ltB_z : ltB (o :: g) 0 = true := rfl
theorem ltB_s : ltB (o :: g) (i + 1) = ltB g i := by
  unfold ltB
  rw [List.length_cons]
  simp
theorem okSlot_s : okSlot (o :: g) (i + 1) = ltB g i := by
  unfold okSlot ltB
  rw [List.length_cons]
  simp
def apAsg : Option D → DGF → Gm → Option Out := fun x f g => x.bind fun d => (f d g).map .nx
theorem apAsg_some : apAsg (some d) tg g = (tg d g).map .nx := rfl
theorem sAsg_a : sAsg a tg g = apAsg (a g) tg g := rfl
theorem dName_ok (h : okSlot g i = true) : dName i d g = some (g.set i (some (.v d))) := if_pos h
def apG : Option Gm → (Gm → Option Gm) → Option Gm := fun x k => x.bind k
theorem apG_some {k : Gm → Option Gm} : apG (some g) k = k g := rfl
theorem dgCons_a {m : DGFs} : dgCons tg m (d :: ds) g = apG (tg d g) (m ds) := rfl
theorem dgNil_a : dgNil [] g = some g := rfl
def apAsgO : Option D → Nat → Gm → Option Out := fun x i g => x.bind fun d => if okSlot g i = true then some (.nx (g.set i (some (.o d)))) else none
theorem apAsgO_some (h : okSlot g i = true) : apAsgO (some d) i g = some (.nx (g.set i (some (.o d)))) := if_pos h
theorem sAsgO_a : sAsgO a i g = apAsgO (a g) i g := rfl
def apApp : Option D → Option D → Nat → Gm → Option Out := fun x y i g => x.bind fun d => match y with
  | some (.lst ds) => if ds.length < 100000 then some (.nx (g.set i (some (.o (.lst (ds ++ [d])))))) else none
  | _ => none
theorem apApp_some (h : ds.length < 100000) : apApp (some d) (some (.lst ds)) i g = some (.nx (g.set i (some (.o (.lst (ds ++ [d])))))) := if_pos h
theorem sApp_a : sApp i a g = apApp (a g) (getO g i) i g := by
  unfold sApp apApp getO
  congr 1
  funext d
  cases e : g[i]? with
  | none => rfl
  | some o =>
    cases o with
    | none => rfl
    | some w =>
      cases w with
      | v d => rfl
      | o d => cases d <;> rfl
def apSetI : Option D → Option D → Option D → Nat → Gm → Option Out := fun x z y i g => x.bind fun d => z.bind fun z => match z, y with
  | .int k, some (.lst ds) => (ixN ds.length k).map fun j => .nx (g.set i (some (.o (.lst (ds.set j d)))))
  | _, _ => none
theorem apSetI_some {j : Nat} (h : j < ds.length) : apSetI (some d) (some (.int (j : Int))) (some (.lst ds)) i g = some (.nx (g.set i (some (.o (.lst (ds.set j d)))))) := by
  unfold apSetI
  simp only [Option.bind_some]
  rw [Evl.ixN_nat h] <;> rfl
theorem sSetI_a : sSetI i b a g = apSetI (a g) (b g) (getO g i) i g := by
  unfold sSetI apSetI getO
  congr 1
  funext d
  congr 1
  funext z
  cases e : g[i]? with
  | none => cases z <;> rfl
  | some o =>
    cases o with
    | none => cases z <;> rfl
    | some w =>
      cases w with
      | v d => cases z <;> rfl
      | o d => cases d <;> cases z <;> rfl
def apFor : Option (List D) → DGF → SF → Gm → Option Out := fun x f s g => x.bind fun ds => loopD f s ds g
theorem apFor_some : apFor (some ds) tg s g = loopD tg s ds g := rfl
theorem sFor_a {it : DIF} : sFor it tg s g = apFor (it g) tg s g := rfl
theorem dItems_a : dItems a g = ap1 itemsD (a g) := rfl
def apR1 : Option (List D) → Option (List D) := fun x => x.bind fun xs => match xs with
  | [.int n] => if n ≤ 1000000 ∧ -1000000 ≤ n then some (rngL 0 n.toNat) else none
  | _ => none
theorem apR1_some {n : Nat} (h : n ≤ 1000000) : apR1 (some [.int (n : Int)]) = some (rngL 0 n) := if_pos (by omega)
theorem dRng1_a : dRng1 r g = apR1 (r g) := rfl
def apR2 : Option (List D) → Option (List D) := fun x => x.bind fun xs => match xs with
  | [.int i, .int j] => if (i ≤ 1000000 ∧ -1000000 ≤ i) ∧ j ≤ 1000000 ∧ -1000000 ≤ j then some (rngL i (j - i).toNat) else none
  | _ => none
theorem apR2_some {i j : Int} (h : (i ≤ 1000000 ∧ -1000000 ≤ i) ∧ j ≤ 1000000 ∧ -1000000 ≤ j) : apR2 (some [.int i, .int j]) = some (rngL i (j - i).toNat) := if_pos h
theorem dRng2_a : dRng2 r g = apR2 (r g) := rfl
def apEn : Option (List D) → Option (List D) := fun x => x.bind fun xs => match xs with
  | [.lst ds] => some (enumL 0 ds)
  | [.tup ds] => some (enumL 0 ds)
  | _ => none
theorem apEn_some : apEn (some [.lst ds]) = some (enumL 0 ds) := rfl
theorem apEn_tup : apEn (some [.tup ds]) = some (enumL 0 ds) := rfl
theorem dEnum_a : dEnum r g = apEn (r g) := rfl
/-! ### freezing -/
theorem sFrz_a {l : List Nat} : sFrz l s g = s (frzs g l) := rfl
def frzI : Gm → Nat → Gm := fun g i => match g[i]? with
  | some (some (.o d)) => g.set i (some (.v d))
  | _ => g
theorem frzs_nil : frzs g [] = g := rfl
theorem frzs_cons {l : List Nat} : frzs g (i :: l) = frzs (frz1 g i) l := rfl
theorem frzI_o : frzI (some (.o d) :: g) 0 = some (.v d) :: g := rfl
theorem frzI_v : frzI (some (.v d) :: g) 0 = some (.v d) :: g := rfl
theorem frzI_n : frzI (none :: g) 0 = none :: g := rfl
theorem frzI_s : frzI (o :: g) (i + 1) = o :: frzI g i := by
  unfold frzI
  rw [List.getElem?_cons_succ]
  cases e : g[i]? with
  | none => rfl
  | some p =>
    cases p with
    | none => rfl
    | some w => cases w <;> rfl
theorem frz1_s : frz1 (o :: g) (i + 1) = o :: frzI g i := by
  rw [← frzI_s]
  unfold frz1 frzI
  rw [if_neg (Nat.succ_ne_zero i)] <;> rfl
theorem frzAll_nil : frzAll [] = [] := rfl
theorem frzAll_o : frzAll (some (.o d) :: g) = some (.v d) :: frzAll g := rfl
theorem frzAll_v : frzAll (some (.v d) :: g) = some (.v d) :: frzAll g := rfl
theorem frzAll_n : frzAll (none :: g) = none :: frzAll g := rfl
theorem peekT_a : peekT t g = t (frzAll g) := rfl
def apPk : Option D → Option D := fun x => match x with
  | some d => if d.flat = true then some d else none
  | none => none
theorem apPk_int {j : Int} : apPk (some (.int j)) = some (.int j) := rfl
theorem apPk_bl {j : Bool} : apPk (some (.bl j)) = some (.bl j) := rfl
theorem apPk_str {j : Str} : apPk (some (.str j)) = some (.str j) := rfl
theorem apPk_non : apPk (some .non) = some .non := rfl
theorem peekF_a : peekF a g = apPk (a (frzAll g)) := rfl
/-! ### calls -/
def apCall (n : Nat) (gf : PF) : Option (List D) → Option D := fun x => x.bind fun ds => if ds.length = n then (gf ds).map Wd.d else none
theorem dCall_a {gf : PF} : dCall n gf r g = apCall n gf (r g) := rfl
def toO : Option Wd → Option D := fun x => match x with
  | some (.o d) => some d
  | _ => none
theorem toO_o : toO (some (.o d)) = some d := rfl
def apCallO (n : Nat) (gf : PF) : Option (List D) → Option D := fun x => x.bind fun ds => if ds.length = n then toO (gf ds) else none
theorem dCallO_a {gf : PF} : dCallO n gf r g = apCallO n gf (r g) := by
  unfold dCallO apCallO toO
  rfl
def apMake (C : Addr) (n : Nat) (gf : List D → Option (List (Str × D))) : Option (List D) → Option D := fun x => x.bind fun ds => if ds.length = n then (gf ds).map (.ins C) else none
theorem dMake_a {C : Addr} {gf : List D → Option (List (Str × D))} : dMake C n gf r g = apMake C n gf (r g) := rfl
theorem Wd_v : Wd.d (.v d) = d := rfl
theorem Wd_o : Wd.d (.o d) = d := rfl
/-! ### comprehensions, slices -/
theorem dLc_eq {it : DIF} {tt : DTF} {te : DF} {vs : List Nat} {es : List D} (hf : free g vs = true) (hi : it g = some ds) (hz : ds.length ≤ 100000) (h : lcL tg tt te (wipeG g vs) ds = some es) : dLc it tg tt te vs g = some (.lst es) := by
  unfold dLc
  rw [if_pos hf, hi, Option.bind_some, if_pos hz, h] <;> rfl
def apSl : Option D → Option (Option Int) → Option (Option Int) → Option D := fun x l h => x.bind fun x => l.bind fun l => h.bind fun h => slD x l h
theorem dSl_a {lo hi : DOF} : dSl a lo hi g = apSl (a g) (lo g) (hi g) := rfl
theorem apSl_some {lo hi : Option Int} : apSl (some (.lst ds)) (some lo) (some hi) = some (.lst (cutL ds lo hi)) := rfl
theorem oNone_a : oNone g = some none := rfl
def apO : Option D → Option (Option Int) := fun x => x.bind fun x => match x with
  | .int i => some (some i)
  | _ => none
theorem oSome_a : oSome a g = apO (a g) := rfl
theorem apO_some {j : Int} : apO (some (.int j)) = some (some j) := rfl
/-! ### operators -/
variable {j k' : Int} {p p' : Str}
theorem add_ii : addD (.int j) (.int k') = some (.int (j + k')) := rfl
theorem add_ll {es : List D} (h : ds.length + es.length ≤ 100000) : addD (.lst ds) (.lst es) = some (.lst (ds ++ es)) := if_pos h
theorem sub_ii : subD (.int j) (.int k') = some (.int (j - k')) := rfl
theorem mul_ii (h : j.natAbs.log2 + k'.natAbs.log2 < 100000000) : mulD (.int j) (.int k') = some (.int (j * k')) := if_pos h
theorem log2_lt_of {m n : Nat} (h : m < 2 ^ n) (hn : 0 < n) : m.log2 < n := by
  by_cases e : m = 0
  · rw [e]; simpa using hn
  · exact (Nat.log2_lt e).mpr h
theorem mul_small (h : j.natAbs < 2 ^ 1000) (h' : k'.natAbs < 2 ^ 1000) : mulD (.int j) (.int k') = some (.int (j * k')) := mul_ii (by
  have h1 := log2_lt_of h (by decide)
  have h2 := log2_lt_of h' (by decide)
  omega)
theorem fdiv_ii (h : 0 < k') (h' : k'.natAbs < 2 ^ 8000) : fdivD (.int j) (.int k') = some (.int (j / k')) := if_pos ⟨h, by
  have := log2_lt_of h' (by decide)
  omega⟩
theorem mod_ii (h : 0 < k') : modD (.int j) (.int k') = some (.int (j % k')) := if_pos h
theorem lt_ii : ltD (.int j) (.int k') = some (.bl (decide (j < k'))) := rfl
theorem le_ii : leD (.int j) (.int k') = some (.bl (decide (j ≤ k'))) := rfl
theorem gt_ii : gtD (.int j) (.int k') = some (.bl (decide (k' < j))) := rfl
theorem ge_ii : geD (.int j) (.int k') = some (.bl (decide (k' ≤ j))) := rfl
theorem eq_ii : eqD (.int j) (.int k') = some (.bl (j == k')) := rfl
theorem ne_ii : neD (.int j) (.int k') = some (.bl (!(j == k'))) := rfl
theorem neg_i : negD (.int j) = some (.int (-j)) := rfl
theorem not_b : notD (.bl k) = some (.bl (!k)) := rfl
theorem bl_b : blD (.bl k) = some k := rfl
theorem tru_b : truD (.bl k) = some k := rfl
theorem tru_i : truD (.int j) = some (j != 0) := rfl
theorem tru_l : truD (.lst ds) = some (!ds.isEmpty) := rfl
theorem tru_t : truD (.tup ds) = some (!ds.isEmpty) := rfl
theorem tru_n : truD .non = some false := rfl
theorem len_l : lenD [.lst ds] = some (.int ds.length) := rfl
theorem len_t : lenD [.tup ds] = some (.int ds.length) := rfl
theorem len_scr {ns : List Int} : lenD [.scr ns] = some (.int ns.length) := rfl
theorem abs_i : absD [.int j] = some (.int (if j < 0 then -j else j)) := rfl
theorem int_i : intD [.int j] = some (.int j) := rfl
theorem list_l : listD [.lst ds] = some (.lst ds) := rfl
theorem list_t : listD [.tup ds] = some (.lst ds) := rfl
theorem tuple_l : tupleD [.lst ds] = some (.tup ds) := rfl
theorem tuple_t : tupleD [.tup ds] = some (.tup ds) := rfl
theorem min_ii : minD [.int j, .int k'] = some (.int (if k' < j then k' else j)) := rfl
theorem max_ii : maxD [.int j, .int k'] = some (.int (if k' > j then k' else j)) := rfl
theorem mkLst_some (h : ds.length ≤ 100000) : mkLst ds = some (.lst ds) := if_pos h
theorem mkTup_some (h : ds.length ≤ 100000) : mkTup ds = some (.tup ds) := if_pos h
theorem rev_l : revD (.lst ds) = some (.lst ds.reverse) := rfl
theorem items_l : itemsD (.lst ds) = some ds := rfl
theorem items_t : itemsD (.tup ds) = some ds := rfl
theorem ix_l {m : Nat} (h : ds[m]? = some d) : ixD (.lst ds) (.int (m : Int)) = some d := atI_nat h
theorem ix_t {m : Nat} (h : ds[m]? = some d) : ixD (.tup ds) (.int (m : Int)) = some d := atI_nat h
theorem ix_scr {ns : List Int} {m : Nat} (h : ns[m]? = some j) : ixD (.scr ns) (.int (m : Int)) = some (.int j) := by
  show (atI ns (m : Int)).map D.int = _
  rw [atI_nat h] <;> rfl
theorem iL_get {ns : List Int} {m : Nat} : (iL ns)[m]? = (ns[m]?).map D.int := by unfold iL; rw [List.getElem?_map]
theorem iL_len {ns : List Int} : (iL ns).length = ns.length := by unfold iL; rw [List.length_map]
theorem iL_app {ns ms : List Int} : iL ns ++ iL ms = iL (ns ++ ms) := by unfold iL; rw [List.map_append]
theorem iL_one : [D.int j] = iL [j] := rfl
theorem rng_get {lo : Int} {n i : Nat} (h : (rngL lo n)[i]? = some d) : i < n ∧ d = .int (lo + i) := by
  unfold rngL at h
  rw [List.getElem?_map] at h
  have hi : i < n := by
    cases z : (List.range n)[i]? with
    | none => rw [z] at h; cases h
    | some j => have := (List.getElem?_eq_some_iff.mp z).1; rw [List.length_range] at this; exact this
  rw [List.getElem?_range hi] at h
  cases h
  exact ⟨hi, rfl⟩
theorem rng_len {lo : Int} {n : Nat} : (rngL lo n).length = n := by unfold rngL; rw [List.length_map, List.length_range]
def outW : Option Out → Option Wd := fun x => match x with
  | some (.rt w) => some w
  | some (.nx _) => some (.v .non)
  | _ => none
theorem run_a {m : Nat} {t : SF} {ds : List D} : runG m t ds = outW (t (ds.map (fun d => some (.v d)) ++ List.replicate m none)) := rfl
theorem outW_rt {w : Wd} : outW (some (.rt w)) = some w := rfl
theorem outW_nx : outW (some (.nx g)) = some (.v .non) := rfl
end
end Zk
end

section
set_option Elab.async false
set_option linter.all false
set_option maxRecDepth 100000
set_option autoImplicit false
set_option maxHeartbeats 2000000
/-! Sets of ints; dicts whose keys are ints or texts. -/
namespace Zn
open PySem L2 Zk
open Evl (Ex)
variable {K : PySem.W.Frag}
/-! ### dicts -/
def getK (kvs : List (Key × D)) (k : Key) : Option D := (kvs.find? fun kv => decide (kv.1 = k)).map (·.2)
def setK (kvs : List (Key × D)) (k : Key) (d : D) : List (Key × D) :=
  if (kvs.any fun kv => decide (kv.1 = k)) = true then kvs.map (fun kv => if kv.1 = k then (kv.1, d) else kv) else kvs ++ [(k, d)]
def RpD (K : PySem.W.Frag) (O : Addr → Prop) (H : Hp) (xs : List (Key × V)) (kvs : List (Key × D)) : Prop := xs.map (·.1) = kvs.map (·.1) ∧ RpA K O H (xs.map (·.2)) (kvs.map (·.2))
theorem RpD.nil {O : Addr → Prop} {H : Hp} : RpD K O H [] [] := ⟨rfl, .nil⟩
theorem RpD.inv {O : Addr → Prop} {H : Hp} {x : Key × V} {xs : List (Key × V)} {kvs : List (Key × D)} (r : RpD K O H (x :: xs) kvs) : ∃ d kvs', kvs = (x.1, d) :: kvs' ∧ Rp K O H x.2 d ∧ RpD K O H xs kvs' := by
  obtain ⟨e, r⟩ := r
  cases kvs with
  | nil => cases e
  | cons kv kvs =>
    rw [List.map_cons, List.map_cons] at e r
    have e1 := (List.cons.inj e).1
    cases r with
    | cons a b => exact ⟨kv.2, kvs, by rw [e1], a, (List.cons.inj e).2, b⟩
theorem RpD.get {O : Addr → Prop} {H : Hp} : ∀ {xs : List (Key × V)} {kvs : List (Key × D)} (k : Key), RpD K O H xs kvs →
    (getK kvs k = none ∧ valV xs k = none) ∨ ∃ d v, getK kvs k = some d ∧ valV xs k = some v ∧ Rp K O H v d
  | [], kvs, k, r => by
    obtain ⟨e, _⟩ := r
    cases kvs with
    | nil => exact .inl ⟨rfl, rfl⟩
    | cons a b => cases e
  | x :: xs, kvs, k, r => by
    obtain ⟨d, kvs', rfl, h1, h2⟩ := r.inv
    by_cases hk : x.1 = k
    · refine .inr ⟨d, x.2, ?_, valV_pos hk, h1⟩
      unfold getK
      rw [List.find?_cons, decide_eq_true hk]
      rfl
    · have ih := RpD.get k h2
      rw [valV_neg hk]
      have e : getK ((x.1, d) :: kvs') k = getK kvs' k := by
        unfold getK
        rw [List.find?_cons, decide_eq_false hk]
      rw [e]
      exact ih
theorem RpD.set {O : Addr → Prop} {H : Hp} {xs : List (Key × V)} {kvs : List (Key × D)} (k : Key) {v : V} {d : D} (r : RpD K O H xs kvs) (hv : Rp K O H v d) : RpD K O H (putK xs k v) (setK kvs k d) := by
  have ha : (xs.any fun kv => decide (kv.1 = k)) = (kvs.any fun kv => decide (kv.1 = k)) := by
    have e1 : ∀ l : List (Key × V), (l.any fun kv => decide (kv.1 = k)) = ((l.map (·.1)).any fun z => decide (z = k)) := fun l => by rw [List.any_map]; rfl
    have e2 : ∀ l : List (Key × D), (l.any fun kv => decide (kv.1 = k)) = ((l.map (·.1)).any fun z => decide (z = k)) := fun l => by rw [List.any_map]; rfl
    rw [e1, e2, r.1]
  unfold putK setK
  rw [ha]
  split
  · have go : ∀ (xs : List (Key × V)) (kvs : List (Key × D)), RpD K O H xs kvs → RpD K O H (xs.map fun kv => if kv.1 = k then (kv.1, v) else kv) (kvs.map fun kv => if kv.1 = k then (kv.1, d) else kv) := by
      intro xs
      induction xs with
      | nil =>
        intro kvs r
        cases kvs with
        | nil => exact .nil
        | cons a b => cases r.1
      | cons x xs ih =>
        intro kvs r
        obtain ⟨d', kvs', rfl, h1, h2⟩ := r.inv
        have ih := ih kvs' h2
        rw [List.map_cons, List.map_cons]
        by_cases hk : x.1 = k
        · rw [if_pos hk, if_pos hk]
          exact ⟨by rw [List.map_cons, List.map_cons, ih.1], .cons hv ih.2⟩
        · rw [if_neg hk, if_neg hk]
          exact ⟨by rw [List.map_cons, List.map_cons, ih.1], .cons h1 ih.2⟩
    exact go xs kvs r
  · exact ⟨by rw [List.map_append, List.map_append, r.1]; rfl, by rw [List.map_append, List.map_append]; exact r.2.app (.one hv)⟩
theorem RpD.kp {O O' : Addr → Prop} {H H' : Hp} (k : Kp O H O' H') {xs : List (Key × V)} {kvs : List (Key × D)} (r : RpD K O H xs kvs) : RpD K O' H' xs kvs := ⟨r.1, r.2.kp k⟩
theorem RpD.len {O : Addr → Prop} {H : Hp} {xs : List (Key × V)} {kvs : List (Key × D)} (r : RpD K O H xs kvs) : xs.length = kvs.length := by
  have := congrArg List.length r.1
  rw [List.length_map, List.length_map] at this
  exact this
section
variable {tk tx tv : TE} {k x a : DF} {i : Nat}
end
/-! ### sets of ints -/
section
variable {w : World} {tk : TE} {k : DF} {i : Nat}
end
/-! ### steps -/
section
variable {g : Gm} {d e : D} {i : Nat} {kvs : List (Key × D)} {o : Option Wd} {a k : DF} {j : Int} {w : World} {ns : List Int}
end
end Zn
end

section
set_option Elab.async false
set_option linter.all false
set_option maxRecDepth 100000
set_option autoImplicit false
set_option maxHeartbeats 4000000
/-! Errors with a field: raised in loops and behind calls, caught, their field read. -/
namespace Zr
open PyProof.Rows hiding St
open PySem PySem.Spec L2 Zk
open Evl (Ex)
/-- what is raised: the class, its fields; the slots as they stand then -/
abbrev XV : Type := Addr × List (Str × D)
abbrev XF : Type := Gm → Option (XV × Gm)
section
variable {K : PySem.W.Frag} {W : WX} {ts tu : TS} {x y : XF} {t : SF} {tt : TT} {c : DTF}
end
/-! ### raise C(e): C keeps e in its one field -/
section
variable {P : Program} {w : World} {K : PySem.W.Frag} {mg : Str → Option Value} {base : Heap}
end
section
variable {K : PySem.W.Frag} {W : WX} {te : TE} {a : DF} {C : Addr} {fld : Str}
end
/-! ### a def that raises -/
section
variable {P : Program} {w : World} {K : PySem.W.Frag} {mg : Str → Option Value} {base : Heap}
end
/-! ### expressions that raise -/
section
variable {K : PySem.W.Frag} {W : WX} {ta tb : TA} {a b : DAF} {te : TE} {x : XF} {d : DF}
end
/-! ### in the except suite: slot i holds the error at a, its dict at dd -/
section
variable {K : PySem.W.Frag} {i : Nat} {a dd D : Addr} {fld : Str}
end
/-! ### try -/
section
variable {K : PySem.W.Frag} {i : Nat} {c : Value} {x : XF} {s : SF} {hd : Addr → Addr → SF} {tb : WX → TS} {tsD : Addr → Addr → TS} {Wout : WX} {D : Addr} {g : Gm}
end
/-! ### list(range(i, j)) -/
section
variable {K : PySem.W.Frag} {ta tb : TE} {a b : DF}
end
end Zr
end

section
set_option Elab.async false
set_option linter.all false
set_option maxRecDepth 100000
set_option autoImplicit false
set_option maxHeartbeats 2000000
/-! A def that hands back what it was handed, or a new list. -/
namespace Zb
open PySem L2 Zk
open Evl (Ex)
variable {K : PySem.W.Frag}
section
variable {gf : PF} {i : Nat} {a b : DF} {g : Gm} {x y : D} {dl dl' : List D}
end
/-! ### x or y, values -/
def dOrT (a b : DF) : DF := fun g => (a g).bind fun x => (truD x).bind fun k => if k = true then some x else b g
end Zb
end

section
set_option Elab.async false
set_option linter.all false
set_option maxRecDepth 100000
set_option autoImplicit false
set_option maxHeartbeats 2000000
/-! Set comprehensions of pairs over two clauses, sorted. -/
namespace Zt
open PySem PySem.Spec PyProof.Rows L2 Zk
open Evl (Ex)

section
variable {prog : Program} {w : World} {A : Around} {R : Result → Shared → Prop} {s : Shared}
end
section
variable {X : Cx}
end

section
variable {X : Cx}
/-! ### two clauses -/
end
/-! ### on data -/
section
variable {K : PySem.W.Frag}
abbrev Pr := Int × Int
def dd : List Pr → List Pr
  | [] => []
  | p :: ps => if p ∈ ps then dd ps else p :: dd ps
theorem mem_dd {q : Pr} : ∀ {ps : List Pr}, q ∈ dd ps ↔ q ∈ ps
  | [] => Iff.rfl
  | p :: ps => by
    unfold dd
    have ih := mem_dd (q := q) (ps := ps)
    split
    · rename_i hp
      rw [ih, List.mem_cons]
      exact ⟨.inr, fun z => z.elim (fun e => e ▸ hp) id⟩
    · rw [List.mem_cons, List.mem_cons, ih]
theorem nodup_sub {α : Type} [DecidableEq α] : ∀ {l1 l2 : List α}, l1.Nodup → (∀ x ∈ l1, x ∈ l2) → l1.length ≤ l2.length
  | [], _, _, _ => Nat.zero_le _
  | a :: l1, l2, h, hs => by
    obtain ⟨h1, h2⟩ := List.nodup_cons.mp h
    have ih := nodup_sub (l2 := l2.erase a) h2 fun x hx => (List.mem_erase_of_ne fun e => h1 (by rw [← e]; exact hx)).mpr (hs x (List.mem_cons_of_mem _ hx))
    have ha := hs a List.mem_cons_self
    rw [List.length_erase_of_mem ha] at ih
    have := List.length_pos_of_mem ha
    rw [List.length_cons]
    omega
def lp (q : Pr) : List Int := [q.1, q.2]
/-- the set at D holds just these pairs -/
structure SetP (P : Program) (w : World) (O : Addr → Prop) (Dl : Addr) (H : Hp) (ps : List Pr) (L : List (Addr × List Int)) : Prop where
  at_ : H Dl = some (SetTO P w Dl L)
  tup : ∀ p ∈ L, ∃ q ∈ ps, p.2 = lp q ∧ ¬ O p.1 ∧ H p.1 = some (.tup [V.int q.1, V.int q.2])
  all : ∀ q ∈ ps, lp q ∈ L.map (·.2)
  nd : (L.map (·.2)).Nodup
theorem SetP.len {P : Program} {w : World} {O : Addr → Prop} {Dl : Addr} {H : Hp} {ps qs : List Pr} {L : List (Addr × List Int)} (h : SetP P w O Dl H ps L) (hs : ∀ q ∈ ps, q ∈ qs) : L.length ≤ (dd qs).length := by
  have e : L.length = (L.map (·.2)).length := by rw [List.length_map]
  have e2 : (dd qs).length = ((dd qs).map lp).length := by rw [List.length_map]
  rw [e, e2]
  refine nodup_sub h.nd fun x hx => ?_
  obtain ⟨p, hp, e⟩ := List.mem_map.mp hx
  obtain ⟨q, hq, e3, _⟩ := h.tup p hp
  rw [← e, e3]
  exact List.mem_map.mpr ⟨q, mem_dd.mpr (hs q hq), rfl⟩
def inB (q : Pr) : Prop := 0 ≤ q.1 ∧ q.1 < 64 ∧ 0 ≤ q.2 ∧ q.2 < 64
instance (q : Pr) : Decidable (inB q) := by unfold inB; exact inferInstance
theorem SetP.put {P : Program} {w : World} {O : Addr → Prop} {Dl t : Addr} {H : Hp} {ps : List Pr} {q : Pr} {L L' : List (Addr × List Int)} (h : SetP P w O Dl H ps L) (hO : O Dl) (nt : ¬ O t) (ht : H t = some (.tup [V.int q.1, V.int q.2]))
    (c1 : lp q ∈ L.map (·.2) → L' = L) (c2 : lp q ∉ L.map (·.2) → L'.Perm ((t, lp q) :: L)) : SetP P w O Dl (upd H Dl (SetTO P w Dl L')) (ps ++ [q]) L' := by
  have keep : ∀ a, ¬ O a → upd H Dl (SetTO P w Dl L') a = H a := fun a n => upd_ne fun z => n (by rw [z]; exact hO)
  have old : ∀ p ∈ L, ∃ r ∈ ps ++ [q], p.2 = lp r ∧ ¬ O p.1 ∧ upd H Dl (SetTO P w Dl L') p.1 = some (.tup [V.int r.1, V.int r.2]) := fun p hp => by
    obtain ⟨r, hr, e, n, z⟩ := h.tup p hp
    exact ⟨r, List.mem_append_left _ hr, e, n, by rw [keep _ n]; exact z⟩
  by_cases hm : lp q ∈ L.map (·.2)
  · have e := c1 hm
    subst e
    refine ⟨upd_same, old, fun r hr => ?_, h.nd⟩
    rcases List.mem_append.mp hr with hr | hr
    · exact h.all r hr
    · rw [List.mem_singleton.mp hr]; exact hm
  · have pm := c2 hm
    have pm2 := pm.map (·.2)
    refine ⟨upd_same, fun p hp => ?_, fun r hr => ?_, ?_⟩
    · rcases List.mem_cons.mp (pm.mem_iff.mp hp) with z | z
      · rw [z]
        exact ⟨q, List.mem_append_right _ List.mem_cons_self, rfl, nt, by rw [keep _ nt]; exact ht⟩
      · exact old p z
    · refine pm2.mem_iff.mpr ?_
      rw [List.map_cons]
      rcases List.mem_append.mp hr with hr | hr
      · exact List.mem_cons_of_mem _ (h.all r hr)
      · rw [List.mem_singleton.mp hr]; exact List.mem_cons_self
    · refine pm2.nodup_iff.mpr ?_
      rw [List.map_cons]
      exact List.nodup_cons.mpr ⟨hm, h.nd⟩
theorem SetP.ex {P : Program} {w : World} {O : Addr → Prop} {Dl : Addr} {H H2 : Hp} {ps : List Pr} {L : List (Addr × List Int)} (h : SetP P w O Dl H ps L) (e : Ex H H2) : SetP P w O Dl H2 ps L :=
  ⟨e _ _ h.at_, fun p hp => let ⟨q, a, b, c, d⟩ := h.tup p hp; ⟨q, a, b, c, e _ _ d⟩, h.all, h.nd⟩
end
end Zt
end

section
set_option Elab.async false
set_option linter.all false
set_option maxRecDepth 100000
set_option autoImplicit false
set_option maxHeartbeats 2000000
/-! A def that returns (x, list of its own); x, y = f(..). -/
namespace Zw
open PyProof.Rows hiding St
open PySem PySem.Spec L2 Zk
open Evl (Ex)
/-- what a body that ends so does -/
abbrev SF2 : Type := Gm → Option (D × D)
section
variable {K : PySem.W.Frag} {ts tu : TS} {s : SF} {u : SF2}
end
section
variable {K : PySem.W.Frag}
end
section
variable {P : Program} {w : World} {K : PySem.W.Frag} {mg : Str → Option Value} {base : Heap}
end
end Zw
end

section
set_option Elab.async false
set_option linter.all false
set_option maxRecDepth 100000
set_option autoImplicit false
set_option maxHeartbeats 2000000
/-! Texts: str(n), int(text), methods, slices, in; *xs, y = a list; enumerate(xs, start=k). -/
namespace L2
open PySem PySem.Spec PyProof.Rows

/-! ### a starred target -/
section
variable {X : Cx} {pos p' : Pos}
theorem Vals.app {xs ys : List V} {us ws : List Value} (r : Vals xs us) (q : Vals ys ws) : Vals (xs ++ ys) (us ++ ws) := by
  induction r with
  | nil => exact q
  | cons h _ ih => exact .cons h ih
end

/-! ### enumerate(a list, start=k) -/
end L2
namespace Zj
open PyProof.Rows hiding St
open PySem PySem.Spec L2 Zk
open Evl (Ex)
section
variable {K : PySem.W.Frag}
/-! ### str(n), int(text) -/
/-! ### methods of texts -/
/-! ### in, order, slices -/
/-! ### f-strings -/
inductive JR (K : PySem.W.Frag) : List TE → List DF → Prop where
  | nil : JR K [] []
  | cons {t : TE} {a : DF} {ts : List TE} {as : List DF} (h : ER K t a) (r : JR K ts as) : JR K (t :: ts) (a :: as)
/-! ### a starred target -/
/-! ### enumerate(a list, start=k) -/
end
/-! ### a def that returns (list of its own, value): the data is (value, list) all the same -/
/-- what a body that ends so does -/
abbrev SF2 : Type := Gm → Option (D × D)
section
variable {K : PySem.W.Frag} {ts tu : TS} {s : SF} {u : SF2}
end
section
variable {P : Program} {w : World} {K : PySem.W.Frag} {mg : Str → Option Value} {base : Heap}
end
end Zj
end

section
set_option Elab.async false
set_option linter.all false
set_option maxRecDepth 100000
set_option autoImplicit false
set_option maxHeartbeats 2000000
/-! A text times a number; suites of a try that go on behind it. -/
namespace L2
open PySem PySem.Spec PyProof.Rows
end L2
namespace Zj
open PyProof.Rows hiding St
open PySem PySem.Spec L2 Zk
open Evl (Ex)
section
variable {K : PySem.W.Frag}
end
/-! ### try: a suite that may go on -/
section
variable {K : PySem.W.Frag} {i : Nat} {c : Value} {x : Zr.XF} {s : SF} {hd : Addr → Addr → SF} {tb : WX → TS} {tsD : Addr → Addr → TS} {Wout : WX} {D : Addr} {g : Gm}
end
end Zj
/-! ### defs called within a suite that catches (they do not raise) -/
namespace L2W
open PySem PySem.Spec PyProof.Rows L2 L2H
abbrev St := L2.St
/-- p's object is the exception that is handled -/
def Hot0 (A : Around) (p : Addr × Obj) : Prop := A.handled = some (.ref p.1) ∧ ∃ vs : Array Value, p.2.data = .fields vs
structure FnW (P : Program) (w : World) (K : PySem.W.Frag) (mg : Str → Option Value) (base : Heap) (CX : CXT) (k : Nat) (f : Addr) (fd : FuncData) (ps : List Str) (sp : Sp) : Prop where
  len : ∀ vs H Q E, sp vs H Q E → vs.length = ps.length
  run : ∀ (A : Around) (outer : List Env) (s : Shared) (H : Hp) (args : Args) (us : List Value) (vs : List V) (Q : VK) (E : XK) (p : Addr × Obj), RoomH k A → Hot0 A p → PinOk outer H s p → Env0 P w K mg base A outer s H → BindsTo s fd args (ps.zip us) → Vals vs us → sp vs H Q E →
    codeAny (model P w) A (.call (.ref f) args) (CR CX outer P w H s Q E) s
section
variable {X : Cx} {CX : CXT} {k : Nat} {f C : Addr} {fd : FuncData} {ps : List Str} {sp : Sp} {E : XK} {x m : Str} {q pos apos : Pos} {e o : Expr} {es : List Expr} {ta : TE} {t : TA}
end
end L2W
namespace Zj
open PyProof.Rows hiding St
open PySem PySem.Spec L2 L2H L2W Zk
open Evl (Ex)
section
variable {P : Program} {w : World} {K : PySem.W.Frag} {mg : Str → Option Value} {base : Heap}
end
end Zj
end

section
set_option Elab.async false
set_option linter.all false
set_option maxRecDepth 100000
set_option autoImplicit false
set_option maxHeartbeats 2000000
/-! match with `_` among the captures; list.index. -/
namespace Zm
open PySem L2 Zk PyProof.Rows
open Evl (Ex)
section
variable {X : Cx} {pins : List (Addr × Obj)} {σ : L2.St} {H : Hp} {s : Shared}
/-- captures, or `_` -/
inductive CapsW (X : Cx) : List Pattern → List (Option Nat) → Prop
  | nil : CapsW X [] []
  | cons {x : Str} {p : Pos} {j : Nat} {ps : List Pattern} {js : List (Option Nat)} (hj : X.N[j]? = some x) (hl : X.env.scope.names.lookup x = some .local) (h : CapsW X ps js) : CapsW X (.MatchAs none (some x) p :: ps) (some j :: js)
  | wild {p : Pos} {ps : List Pattern} {js : List (Option Nat)} (h : CapsW X ps js) : CapsW X (.MatchAs none none p :: ps) (none :: js)
theorem CapsW.len : ∀ {ps : List Pattern} {js : List (Option Nat)}, CapsW X ps js → ps.length = js.length
  | _, _, .nil => rfl
  | _, _, .cons _ _ h => congrArg (· + 1) h.len
  | _, _, .wild h => congrArg (· + 1) h.len
inductive PMsW (X : Cx) : List MatchCase → List (Str × List (Option Nat) × TS) → Prop
  | nil : PMsW X [] []
  | cons {tag : Str} {kk : Nat} {pp p1 pos : Pos} {caps : List Pattern} {js : List (Option Nat)} {body : List Stmt} {ts : TS} {rest : List MatchCase} {cs : List (Str × List (Option Nat) × TS)}
    (ck : CapsW X caps js) (hb : PSs X body ts) (h : PMsW X rest cs) : PMsW X (⟨.MatchSequence (.MatchValue (.Constant (.str tag) kk pp) p1 :: caps) pos, none, body⟩ :: rest) ((tag, js, ts) :: cs)
end
/-! ### the same on data -/
section
variable {K : PySem.W.Frag}
abbrev CseW := Str × List (Option Nat) × SF
inductive SRsW (K : PySem.W.Frag) : List (Str × List (Option Nat) × TS) → List CseW → Prop
  | nil : SRsW K [] []
  | cons {tag : Str} {js : List (Option Nat)} {ts : TS} {s : SF} {cs : List (Str × List (Option Nat) × TS)} {ds : List CseW} (h : SR K ts s) (r : SRsW K cs ds) : SRsW K ((tag, js, ts) :: cs) ((tag, js, s) :: ds)
end
end Zm
namespace Zk2
open PySem Zk L2 PyProof.Rows
open Evl (Ex)
section
variable {X : Cx}
end
section
variable {K : PySem.W.Frag}
end
end Zk2
end

section
set_option Elab.async false
set_option linter.all false
set_option maxRecDepth 100000
set_option autoImplicit false
set_option maxHeartbeats 2000000
/-! Objects of one's own that change: fields read, methods that change them. -/
namespace Zq5
open PySem L2 Zk PyProof.Rows
open Evl (Ex)
section
variable {K : PySem.W.Frag}
/-! step by step -/
/-- a new list of plain data may be made of what is owned -/
def peekN (a : DF) : DF := fun g => match a (frzAll g) with
  | some (.lst ds) => if Zg.shDs ds then some (.lst ds) else none
  | _ => none
theorem er_peekN {te : TE} {a : DF} (ha : EO K te a) : ER K te (peekN a) := fun g d h H0 Oc pins ow σ H R Q q => by
  unfold peekN at h
  split at h
  · rename_i ds e
    split at h
    · rename_i f
      cases h
      refine ha _ _ e H0 Oc _ noOw σ H R.frzAll Q fun p H' e' hp r => q _ H' e' ?_
      obtain ⟨xs, h1, h2⟩ := r
      exact .lst (R.new hp) h1 (Zg.rps_sh (R.grow e').oo h2 f)
    · cases h
  · cases h
/-! ### an object handed over for good to a def that may change it; it answers plain data -/
end
end Zq5
end

section
set_option Elab.async false
set_option linter.all false
set_option maxRecDepth 100000
set_option autoImplicit false
set_option maxHeartbeats 4000000
/-! itertools.combinations(a list of ints, n) as what a loop walks. -/
namespace Zq8
open PySem PySem.Spec
open Sem (wp)
/-! ### the class -/
theorem c_mro : mroOf (.type "itertools.combinations") = pure [.type "itertools.combinations", .type "object"] := by rw [mroOf_type]; kernel_rfl
theorem c_lookup : typeLookup (.type "itertools.combinations") "__new__" = pure (some (.builtin "itertools.combinations.__new__")) := by rw [typeLookup_type, builtinLookup_eq_fast]; kernel_rfl
theorem c_init : Slot "itertools.combinations" "__init__" "object.__init__" := .of (owner := "object") (n := "__init__") (by rw [typeLookup_type, builtinLookup_eq_fast]; kernel_rfl)
  (by decide +kernel) (by decide +kernel) (by decide +kernel) (by first | exact .inr (by decide +kernel) | exact .inl (by decide +kernel)) (by rw [isSubtype_type]; kernel_rfl)
theorem c_sub : isSubtype (.type "itertools.combinations") (.type "itertools.combinations") = pure true := by rw [isSubtype_type]; kernel_rfl
theorem c_called : TypeCalled "itertools.combinations" "itertools.combinations.__new__" "object.__init__" where
  notType := by decide +kernel
  canCreate := by decide +kernel
  mro := ⟨_, _, c_mro⟩
  made := madeBy_type c_mro c_lookup (by decide +kernel)
  plain := by decide +kernel
  sub := c_sub
  init := c_init
theorem c_typeCall (a b : Value) : checkTypeCall "itertools.combinations" ⟨[a, b], []⟩ = pure () := by kernel_rfl
theorem c_newCall (a b : Value) : checkBuiltinCall "itertools.combinations.__new__" ⟨[.type "itertools.combinations", a, b], []⟩ = pure () := by kernel_rfl
theorem c_new : entryFor table "itertools.combinations.__new__" = some Builtin.«itertools.combinations.__new__» := entryFor_of_tree (by kernel_rfl)
theorem c_iterS : Slot "itertools.combinations" "__iter__" "itertools.combinations.__iter__" := .of (owner := "itertools.combinations") (n := "__iter__") (by rw [typeLookup_type, builtinLookup_eq_fast]; kernel_rfl)
  (by decide +kernel) (by decide +kernel) (by decide +kernel) (by first | exact .inr (by decide +kernel) | exact .inl (by decide +kernel)) c_sub
theorem c_nextS : Slot "itertools.combinations" "__next__" "itertools.combinations.__next__" := .of (owner := "itertools.combinations") (n := "__next__") (by rw [typeLookup_type, builtinLookup_eq_fast]; kernel_rfl)
  (by decide +kernel) (by decide +kernel) (by decide +kernel) (by first | exact .inr (by decide +kernel) | exact .inl (by decide +kernel)) c_sub
theorem c_iter : entryFor table "itertools.combinations.__iter__" = some Builtin.«dict_keyiterator.__iter__» := entryFor_alias (id' := "dict_keyiterator.__iter__") (by kernel_rfl)
  (by first | rfl | decide +kernel | (unfold String.splitOn; simp +decide [String.splitOnAux])) (by decide +kernel) (by kernel_rfl)
theorem c_next : entryFor table "itertools.combinations.__next__" = some Builtin.«itertools.combinations.__next__» := entryFor_of_tree (by kernel_rfl)
theorem c_owner : Manifest.owners.lookup (String.ofList "snoitanibmoc.slootreti".toList.reverse) = some Manifest.sig_itertools_combinations := by kernel_rfl
theorem c_argsI (a : Value) : argsOk "itertools.combinations.__iter__" ⟨[a], []⟩ := by
  unfold argsOk
  rw [signature?_of (id := "itertools.combinations.__iter__") (n := "__reti__".toList) (o := "snoitanibmoc.slootreti".toList) (by kernel_rfl) c_owner]
  kernel_rfl
theorem c_argsN (a : Value) : argsOk "itertools.combinations.__next__" ⟨[a], []⟩ := by
  unfold argsOk
  rw [signature?_of (id := "itertools.combinations.__next__") (n := "__txen__".toList) (o := "snoitanibmoc.slootreti".toList) (by kernel_rfl) c_owner]
  kernel_rfl
theorem c_noDict : typeHasDict (.type "itertools.combinations") = false := by decide +kernel
/-! ### a combinations object -/
def cObj (pool : Addr) (st : Int) (last : Value) (ix : List Nat) : Obj := { cls := .type "itertools.combinations", dict := none, data := .fields (([.ref pool, .int st 0, last] ++ ix.map fun (j : Nat) => Value.int (j : Int) 0).toArray), slots := #[] }
end Zq8
end

section
set_option Elab.async false
set_option linter.all false
set_option maxRecDepth 100000
set_option autoImplicit false
set_option maxHeartbeats 4000000
namespace Zq8
open PySem PySem.Spec
open Sem (wp)
theorem ss_ok2 {r : Nat} (hr : r ≤ 1000) : ¬ ((decide ((r : Int) < -2 ^ 63) || decide ((r : Int) ≥ 2 ^ 63)) = true) := by
  have a : decide ((r : Int) < -2 ^ 63) = false := decide_eq_false (by omega)
  have b : decide ((r : Int) ≥ 2 ^ 63) = false := decide_eq_false (by omega)
  rw [a, b]
  decide
theorem tooMany_no {r : Nat} (hr : r ≤ 1000) : ¬ (Builtin.Itertools.itTooMany (r : Int) = true) := by
  unfold Builtin.Itertools.itTooMany
  rw [decide_eq_true_eq]
  omega
theorem c_meets (l : Addr) (vs : List Value) (r : Nat) (t : Tok) (hr : r ≤ 1000) (hsz : vs.length ≤ sizeLine) :
    Meets (Builtin.«itertools.combinations.__new__» ⟨[.type "itertools.combinations", .ref l, .int (r : Int) t], []⟩)
      (fun _ R s => s.heap.IsList l vs.toArray ∧ ∀ h' : Heap, h'.objs.size = s.heap.objs.size + 1 → (∀ b o', s.heap.get? b = some o' → h'.get? b = some o') →
        R (.ok (.ret (.ref (h'.objs.size + 1)))) { s with heap := (h'.push { cls := .type "tuple", data := .seq vs.toArray }).push (cObj h'.objs.size (if r > vs.length then 2 else 0) .none (List.range r)) }) :=
  .of_wp fun prog w A R s h => by
    obtain ⟨hp, g, dd, tk, os⟩ := s
    obtain ⟨ht, h⟩ := h
    have hsub : isSubtype (.type "itertools.combinations") (.type ("itertools." ++ "combinations")) = pure true := c_sub
    have hd2 := c_noDict
    repeat (first
      | wp_step
      | simp only [List.head?_cons, Option.some_or, List.getElem?_cons_succ, List.getElem?_cons_zero, List.length_cons, List.length_nil, List.forIn_nil])
    refine L2.wp_if_neg (ss_ok2 hr) ?_
    refine wpAny_pure ?_
    refine wpAny_bind (PyProof.Rows.collect_list ht ?_ hsz)
    refine L2.wp_if_neg (show ¬ ((r : Int) < 0) by omega) ?_
    refine L2.wp_if_neg (tooMany_no hr) ?_
    refine wpAny_bind (wpAny_newTuple ?_ hsz)
    refine wpAny_pure ?_
    show wpAny _ _ (Builtin.Itertools.itNewRecord _ _ >>= _) _ _ _
    refine wpAny_bind ?_
    unfold Builtin.Itertools.itNewRecord
    refine L2.wp_if_pos (by rw [hd2]; rfl) ?_
    show wpAny _ _ (newObj (.type "itertools.combinations") _ none) _ _ _
    have q := h ((hp.push (PyProof.Rows.seqObj "list" #[] 0)).update hp.objs.size (Obj.mapSeq (· ++ vs.toArray))) (by rw [Heap.size_update, Heap.size_push]) (fun b o' hb => (Heap.get?_update_other _ _ (Nat.ne_of_gt (Heap.lt_size hb))).trans (Heap.get?_push_of_some _ hb))
    generalize (hp.push (PyProof.Rows.seqObj "list" #[] 0)).update hp.objs.size (Obj.mapSeq (· ++ vs.toArray)) = h' at q ⊢
    refine wpAny_newObj_type (wpAny_pure ?_) ?_
    · refine ⟨_, rfl, ?_⟩
      have e1 : (h'.push { cls := .type "tuple", data := .seq vs.toArray }).objs.size = h'.objs.size + 1 := Heap.size_push ..
      rw [← e1] at q
      exact q
    · show Array.size _ ≤ sizeLine + 2
      rw [List.size_toArray, List.length_append, List.length_map, List.length_range, sizeLine_eq]
      show 3 + (Int.toNat (r : Int)) ≤ _
      rw [Int.toNat_natCast]
      omega
end Zq8
end

section
set_option Elab.async false
set_option linter.all false
set_option maxRecDepth 100000
set_option autoImplicit false
set_option maxHeartbeats 4000000
/-! The rows of indices, one behind the other. -/
namespace Zq8
/-- the rising rows of r of the m numbers from lo on, in their order -/
def cmb : Nat → Nat → Nat → List (List Nat)
  | _, _, 0 => [[]]
  | 0, _, _ + 1 => []
  | m + 1, lo, r + 1 => (cmb m (lo + 1) r).map (lo :: ·) ++ cmb m (lo + 1) (r + 1)
def pz (n : Nat) (ix : List Nat) (j : Nat) : Bool := ix.getD j 0 != j + n - ix.length
/-- the row behind ix -/
def nxt (n : Nat) (ix : List Nat) : Option (List Nat) := match (List.range ix.length).reverse.find? (pz n ix) with
  | none => none
  | some j => some (ix.take j ++ (List.range (ix.length - j)).map fun q => ix.getD j 0 + 1 + q)
theorem cmb_zero : ∀ m lo, cmb m lo 0 = [[]]
  | 0, _ => rfl
  | _ + 1, _ => rfl
theorem cmb_len : ∀ (m lo r : Nat) (x : List Nat), x ∈ cmb m lo r → x.length = r ∧ ∀ j ∈ x, lo ≤ j ∧ j < lo + m
  | m, lo, 0, x, h => by
    rw [cmb_zero, List.mem_singleton] at h
    subst h
    exact ⟨rfl, fun j hj => by cases hj⟩
  | 0, lo, r + 1, x, h => by cases h
  | m + 1, lo, r + 1, x, h => by
    rcases List.mem_append.mp h with z | z
    · obtain ⟨y, hy, rfl⟩ := List.mem_map.mp z
      obtain ⟨h1, h2⟩ := cmb_len m (lo + 1) r y hy
      refine ⟨by rw [List.length_cons, h1], fun j hj => ?_⟩
      rcases List.mem_cons.mp hj with q | q
      · omega
      · have := h2 j q
        omega
    · obtain ⟨h1, h2⟩ := cmb_len m (lo + 1) (r + 1) x z
      exact ⟨h1, fun j hj => by have := h2 j hj; omega⟩
theorem cmb_first : ∀ (m lo r : Nat), (cmb m lo r)[0]? = if r ≤ m then some ((List.range r).map (lo + ·)) else none
  | m, lo, 0 => by rw [cmb_zero, if_pos (Nat.zero_le _)]; rfl
  | 0, lo, r + 1 => by rw [if_neg (by omega)]; rfl
  | m + 1, lo, r + 1 => by
    have h := cmb_first m (lo + 1) r
    have h2 := cmb_first m (lo + 1) (r + 1)
    show ((cmb m (lo + 1) r).map (lo :: ·) ++ cmb m (lo + 1) (r + 1))[0]? = _
    by_cases z : r ≤ m
    · rw [if_pos z] at h
      rw [if_pos (by omega)]
      cases e : cmb m (lo + 1) r with
      | nil => rw [e] at h; cases h
      | cons y ys =>
        rw [e] at h
        have h : some y = some ((List.range r).map (lo + 1 + ·)) := h
        cases h
        show some (lo :: (List.range r).map (lo + 1 + ·)) = _
        rw [List.range_succ_eq_map, List.map_cons, List.map_map]
        refine congrArg some (congrArg (lo :: ·) (List.map_congr_left fun j _ => ?_))
        show lo + 1 + j = lo + (j + 1)
        omega
    · rw [if_neg z] at h
      rw [if_neg (by omega)] at h2 ⊢
      cases e : cmb m (lo + 1) r with
      | nil => exact h2
      | cons y ys => rw [e] at h; cases h
theorem nxt_cons (n lo : Nat) (x : List Nat) : nxt n (lo :: x) = match nxt n x with
    | some y => some (lo :: y)
    | none => if lo != n - (x.length + 1) then some ((List.range (x.length + 1)).map (lo + 1 + ·)) else none := by
  unfold nxt
  have e : (List.range (lo :: x).length).reverse = ((List.range x.length).reverse.map (· + 1)) ++ [0] := by
    rw [List.length_cons, List.range_succ_eq_map, List.reverse_cons, List.map_reverse]
  have ep : (pz n (lo :: x)) ∘ (· + 1) = pz n x := by
    funext j
    show ((lo :: x).getD (j + 1) 0 != j + 1 + n - (lo :: x).length) = _
    unfold pz
    rw [List.getD_cons_succ, List.length_cons, show j + 1 + n - (x.length + 1) = j + n - x.length by omega]
  rw [e, List.find?_append, List.find?_map, ep]
  cases hf : (List.range x.length).reverse.find? (pz n x) with
  | some j =>
    show some _ = some _
    rw [List.take_succ_cons, List.length_cons, List.getD_cons_succ, show x.length + 1 - (j + 1) = x.length - j by omega]
    rfl
  | none =>
    have e0 : pz n (lo :: x) 0 = (lo != n - (x.length + 1)) := by
      unfold pz
      rw [List.length_cons, Nat.zero_add]
      rfl
    show (match ([0].find? (pz n (lo :: x))) with | none => none | some j => _) = _
    rw [List.find?_cons, e0]
    by_cases z : (lo != n - (x.length + 1)) = true
    · rw [z, if_pos rfl]
      rfl
    · rw [if_neg z, show (lo != n - (x.length + 1)) = false from by simpa using z]
      rfl
theorem cmb_next : ∀ (m lo r i : Nat) (x : List Nat), (cmb m lo r)[i]? = some x → nxt (lo + m) x = (cmb m lo r)[i + 1]?
  | m, lo, 0, i, x, h => by
    rw [cmb_zero] at h ⊢
    match i, h with
    | 0, h => cases h; rfl
  | 0, lo, r + 1, i, x, h => by cases h
  | m + 1, lo, r + 1, i, x, h => by
    have h : ((cmb m (lo + 1) r).map (lo :: ·) ++ cmb m (lo + 1) (r + 1))[i]? = some x := h
    show nxt (lo + (m + 1)) x = ((cmb m (lo + 1) r).map (lo :: ·) ++ cmb m (lo + 1) (r + 1))[i + 1]?
    rw [show lo + (m + 1) = lo + 1 + m by omega]
    by_cases hi : i < (cmb m (lo + 1) r).length
    · rw [List.getElem?_append_left (by rw [List.length_map]; exact hi), List.getElem?_map] at h
      obtain ⟨y, hy, rfl⟩ := Option.map_eq_some_iff.mp h
      have ih := cmb_next m (lo + 1) r i y hy
      have hl := (cmb_len m (lo + 1) r y (List.mem_of_getElem? hy)).1
      rw [nxt_cons, ih]
      cases e : (cmb m (lo + 1) r)[i + 1]? with
      | some z =>
        have hz := (List.getElem?_eq_some_iff.mp e).1
        rw [List.getElem?_append_left (by rw [List.length_map]; exact hz), List.getElem?_map, e]
        rfl
      | none =>
        have hz := List.getElem?_eq_none_iff.mp e
        rw [List.getElem?_append_right (by rw [List.length_map]; omega), List.length_map, show i + 1 - (cmb m (lo + 1) r).length = 0 by omega, cmb_first, hl]
        have hr : r ≤ m := by
          have f := cmb_first m (lo + 1) r
          by_cases q : r ≤ m
          · exact q
          · rw [if_neg q, List.getElem?_eq_none_iff] at f
            omega
        show (if (lo != lo + 1 + m - (r + 1)) = true then _ else _) = _
        by_cases q : r + 1 ≤ m
        · rw [if_pos (by rw [bne_iff_ne]; omega), if_pos q]
        · rw [if_neg (by rw [bne_iff_ne]; omega), if_neg q]
    · rw [List.getElem?_append_right (by rw [List.length_map]; omega), List.length_map] at h
      rw [List.getElem?_append_right (by rw [List.length_map]; omega), List.length_map, cmb_next m (lo + 1) (r + 1) _ x h, show i + 1 - (cmb m (lo + 1) r).length = i - (cmb m (lo + 1) r).length + 1 by omega]
end Zq8
end

section
set_option Elab.async false
set_option linter.all false
set_option maxRecDepth 100000
set_option autoImplicit false
set_option maxHeartbeats 4000000
/-! One step of a combinations object. -/
namespace Zq8
open PySem PySem.Spec
abbrev tObj (items : Array Value) : Obj := { cls := .type "tuple", data := .seq items }
def pickV (items : Array Value) (ix : List Nat) : List Value := ix.map fun j => items.getD j .none
theorem c_set1 {pool : Addr} {st st' : Int} {last : Value} {ix : List Nat} : Obj.mapFields (fun x => x.setIfInBounds 1 (.int st' 0)) (cObj pool st last ix) = cObj pool st' last ix := by
  unfold cObj Obj.mapFields
  simp
theorem c_set2 {pool : Addr} {st : Int} {last last' : Value} {ix : List Nat} : Obj.mapFields (fun x => x.setIfInBounds 2 last') (cObj pool st last ix) = cObj pool st last' ix := by
  unfold cObj Obj.mapFields
  simp
theorem c_setN {pool : Addr} {st : Int} {last : Value} {ix ix' : List Nat} : Obj.mapFields (fun fs => fs.extract 0 3 ++ (ix'.map fun (n : Nat) => rawInt n).toArray) (cObj pool st last ix) = cObj pool st last ix' := by
  unfold cObj Obj.mapFields
  simp
  intro j _
  rfl
section
variable {M : Model} {A : Around} {s : Shared} {E : Value → Shared → Prop} {c pool : Addr} {st : Int} {last : Value} {ix : List Nat}
theorem nums_at {Q : List Nat → Shared → Prop} (ho : s.heap.get? c = some (cObj pool st last ix)) (h : Q ix s) : wpAny M A (Builtin.Itertools.itNumbersFrom (.ref c) 3) Q E s := by
  unfold Builtin.Itertools.itNumbersFrom
  show wpAny M A (load c >>= _) Q E s
  refine wpAny_bind (wpAny_load ho ?_)
  refine wpAny_pure ?_
  have e : ∀ f : Value → Nat, (∀ j : Nat, f (.int (j : Int) 0) = j) → List.map f (List.drop 3 (([.ref pool, .int st 0, last] ++ ix.map fun (j : Nat) => Value.int (j : Int) 0).toArray.toList)) = ix := fun f hf => by
    rw [List.toList_toArray]
    show List.map f (ix.map fun (j : Nat) => Value.int (j : Int) 0) = ix
    rw [List.map_map]
    have : (f ∘ fun (j : Nat) => Value.int (j : Int) 0) = id := by
      funext j
      exact hf j
    rw [this, List.map_id]
  show Q (List.map _ (List.drop 3 (([.ref pool, .int st 0, last] ++ ix.map fun (j : Nat) => Value.int (j : Int) 0).toArray.toList))) s
  rw [e _ fun j => rfl]
  exact h
theorem field_at {i : Nat} {x : Value} {Q : Value → Shared → Prop} (ho : s.heap.get? c = some (cObj pool st last ix)) (hi : ([Value.ref pool, .int st 0, last])[i]? = some x) (h : Q x s) : wpAny M A (field (.ref c) i) Q E s := by
  refine wpAny_field ho rfl (x := x) ?_ h
  have := (List.getElem?_eq_some_iff.mp hi).1
  rw [List.getElem?_toArray, List.getElem?_append_left this]
  exact hi
theorem setField_at {i : Nat} {x : Value} {Q : Unit → Shared → Prop} (ho : s.heap.get? c = some (cObj pool st last ix)) (hi : i < 3) (h : Q () { s with heap := s.heap.update c (Obj.mapFields (·.setIfInBounds i x)) }) : wpAny M A (setField (.ref c) i x) Q E s := by
  refine wpAny_setField ho rfl ?_ h
  rw [List.size_toArray, List.length_append]
  exact Nat.lt_of_lt_of_le hi (Nat.le_add_right _ _)
end
section
variable {M : Model} {A : Around} {s : Shared} {E : Value → Shared → Prop} {c pool : Addr} {st : Int} {last : Value} {ix : List Nat} {items : Array Value}
theorem hand_at {R : Fin → Shared → Prop} (ho : s.heap.get? c = some (cObj pool st last ix)) (hp : s.heap.get? pool = some (tObj items)) (hl : ix.length ≤ 1000)
    (hQ : ∀ h' : Heap, h'.get? c = some (cObj pool st (.ref s.heap.objs.size) ix) → h'.get? s.heap.objs.size = some (tObj (pickV items ix).toArray) → (∀ b o, b ≠ c → s.heap.get? b = some o → h'.get? b = some o) → R (.done (.ret (.ref s.heap.objs.size))) { s with heap := h' }) :
    wpAny M A ((Builtin.Itertools.itPoolItems (.ref pool) >>= fun xs => newTuple (ix.map fun i => xs.getD i .none)) >>= fun result => field (.ref c) 2 >>= fun before => setField (.ref c) 2 result >>= fun _ => letGo [before] [result] >>= fun _ => ret result) R E s := by
  refine wpAny_bind (wpAny_bind ?_)
  unfold Builtin.Itertools.itPoolItems
  refine wpAny_bind (wpAny_seqItems hp rfl ?_)
  refine wpAny_pure ?_
  refine wpAny_newTuple ?_ (by rw [List.length_map, sizeLine_eq]; omega)
  have hlt := Heap.lt_size ho
  have ho1 : (s.heap.push (tObj (pickV items ix).toArray)).get? c = some (cObj pool st last ix) := Heap.get?_push_of_some _ ho
  refine wpAny_bind (field_at (s := { s with heap := s.heap.push (tObj (pickV items ix).toArray) }) ho1 rfl ?_)
  refine wpAny_bind (setField_at (s := { s with heap := s.heap.push (tObj (pickV items ix).toArray) }) ho1 (by decide) ?_)
  refine wpAny_bind (wpAny_letGo ?_)
  refine wpAny_pure ?_
  refine hQ _ ?_ ?_ fun b o hb q => ?_
  · rw [← c_set2 (last := last)]
    exact Heap.get?_update_self _ ho1 rfl
  · exact (Heap.get?_update_other _ _ (Nat.ne_of_lt hlt)).trans (Heap.get?_push_size _ rfl)
  · exact (Heap.get?_update_other _ _ (Ne.symm hb)).trans (Heap.get?_push_of_some _ q)
end
section
variable {P : Program} {w : World} {A : Around} {s : Shared} {E : Value → Shared → Prop} {c pool : Addr} {st : Int} {last : Value} {ix ix' : List Nat} {items : Array Value}
theorem next_item {Q : Option Value → Shared → Prop} (ho : s.heap.get? c = some (cObj pool st last ix)) (hp : s.heap.get? pool = some (tObj items)) (hne : c ≠ pool)
    (h : (st = 0 ∧ ix' = ix) ∨ (st = 1 ∧ nxt items.size ix = some ix')) (hl : ix'.length ≤ 1000)
    (hQ : ∀ h' : Heap, h'.get? c = some (cObj pool 1 (.ref s.heap.objs.size) ix') → h'.get? s.heap.objs.size = some (tObj (pickV items ix').toArray) → (∀ b o, b ≠ c → s.heap.get? b = some o → h'.get? b = some o) → Q (some (.ref s.heap.objs.size)) { s with heap := h' }) :
    wpAny (model P w) A (pyNext (.ref c)) Q E s := by
  have hT : s.TypeIs (.ref c) "itertools.combinations" := ⟨_, ho, rfl⟩
  unfold pyNext
  refine wpAny_bind (wpAny_attempt (wpAny_callSpecial?_slot (name := Str.ofString "__next__") hT c_nextS (wpAny_call_entry c_nextS hT c_next ?_ (c_argsN _))))
  show wpAny _ _ (field (.ref c) 0 >>= _) _ _ s
  refine wpAny_bind (field_at ho rfl ?_)
  refine wpAny_bind (nums_at ho ?_)
  show wpAny _ _ ((field (.ref c) 1 >>= _) >>= _) _ _ s
  refine wpAny_bind (wpAny_bind (field_at ho rfl (wpAny_pure ?_)))
  rcases h with ⟨rfl, rfl⟩ | ⟨rfl, hn⟩
  · show wpAny _ _ (setField (.ref c) 1 (.int 1 0) >>= _) _ _ s
    refine wpAny_bind (setField_at ho (by decide) ?_)
    have ho1 : (s.heap.update c (Obj.mapFields (·.setIfInBounds 1 (.int 1 0)))).get? c = some (cObj pool 1 last ix') := by
      rw [← c_set1 (st := 0)]
      exact Heap.get?_update_self _ ho rfl
    have hp1 : (s.heap.update c (Obj.mapFields (·.setIfInBounds 1 (.int 1 0)))).get? pool = some (tObj items) := (Heap.get?_update_other _ _ hne).trans hp
    have hz : (s.heap.update c (Obj.mapFields (·.setIfInBounds 1 (.int 1 0)))).objs.size = s.heap.objs.size := Heap.size_update ..
    refine hand_at (s := { s with heap := s.heap.update c (Obj.mapFields (·.setIfInBounds 1 (.int 1 0))) }) ho1 hp1 hl fun h' h1 h2 h3 => ?_
    rw [hz] at h1 h2 ⊢
    exact ⟨_, rfl, wpAny_pure (hQ h' h1 h2 fun b o hb q => h3 b o hb ((Heap.get?_update_other _ _ (Ne.symm hb)).trans q))⟩
  · show wpAny _ _ (Builtin.Itertools.itPoolItems (.ref pool) >>= _) _ _ s
    refine wpAny_bind ?_
    unfold Builtin.Itertools.itPoolItems
    refine wpAny_bind (wpAny_seqItems hp rfl ?_)
    refine wpAny_pure ?_
    show wpAny _ _ (match nxt items.size ix with | some nx => _ | none => _) _ _ s
    rw [hn]
    show wpAny _ _ (Builtin.Itertools.itSetNumbersFrom (.ref c) 3 ix' >>= _) _ _ s
    refine wpAny_bind ?_
    unfold Builtin.Itertools.itSetNumbersFrom
    show wpAny _ _ (updateFields c _) _ _ s
    have hz : (s.heap.update c (Obj.mapFields fun fs => fs.extract 0 3 ++ (ix'.map fun (n : Nat) => rawInt n).toArray)).objs.size = s.heap.objs.size := Heap.size_update ..
    have ho1 : (s.heap.update c (Obj.mapFields fun fs => fs.extract 0 3 ++ (ix'.map fun (n : Nat) => rawInt n).toArray)).get? c = some (cObj pool 1 last ix') := by
      rw [← c_setN (ix := ix)]
      exact Heap.get?_update_self _ ho rfl
    have hp1 : (s.heap.update c (Obj.mapFields fun fs => fs.extract 0 3 ++ (ix'.map fun (n : Nat) => rawInt n).toArray)).get? pool = some (tObj items) := (Heap.get?_update_other _ _ hne).trans hp
    refine wpAny_updateFields ho rfl ?_ ?_
    · refine hand_at (s := { s with heap := s.heap.update c (Obj.mapFields fun fs => fs.extract 0 3 ++ (ix'.map fun (n : Nat) => rawInt n).toArray) }) ho1 hp1 hl fun h' h1 h2 h3 => ?_
      rw [hz] at h1 h2 ⊢
      exact ⟨_, rfl, wpAny_pure (hQ h' h1 h2 fun b o hb q => h3 b o hb ((Heap.get?_update_other _ _ (Ne.symm hb)).trans q))⟩
    · rw [Array.size_append, Array.size_extract, sizeLine_eq]
      have e : (ix'.map fun (n : Nat) => rawInt n).toArray.size = ix'.length := by rw [List.size_toArray, List.length_map]
      rw [e]
      omega
theorem next_end {Q : Option Value → Shared → Prop} (hh : A.handled = none) (ho : s.heap.get? c = some (cObj pool st last ix)) (hp : s.heap.get? pool = some (tObj items)) (hne : c ≠ pool)
    (h : st = 2 ∨ (st = 1 ∧ nxt items.size ix = none)) (hQ : ∀ h' : Heap, (∀ b o, b ≠ c → s.heap.get? b = some o → h'.get? b = some o) → Q none { s with heap := h' }) :
    wpAny (model P w) A (pyNext (.ref c)) Q E s := by
  have hT : s.TypeIs (.ref c) "itertools.combinations" := ⟨_, ho, rfl⟩
  unfold pyNext
  refine wpAny_bind (wpAny_attempt (wpAny_callSpecial?_slot (name := Str.ofString "__next__") hT c_nextS (wpAny_call_entry c_nextS hT c_next ?_ (c_argsN _))))
  show wpAny _ _ (field (.ref c) 0 >>= _) _ _ s
  refine wpAny_bind (field_at ho rfl ?_)
  refine wpAny_bind (nums_at ho ?_)
  show wpAny _ _ ((field (.ref c) 1 >>= _) >>= _) _ _ s
  refine wpAny_bind (wpAny_bind (field_at ho rfl (wpAny_pure ?_)))
  have stop : ∀ h1 : Heap, (∀ b o, b ≠ c → s.heap.get? b = some o → h1.get? b = some o) → wpAny (model P w) A.in1 Builtin.Itertools.itStop
    (fun (fin : Fin) s' => ∃ v, fin = Fin.done (Flow.ret v) ∧ wpAny (model P w) A (pure (some v)) Q E s')
    (fun e s' => wpAny (model P w) A (isInstance e (.type "StopIteration") >>= fun b => if b = true then pure none else throw e) Q E s') { s with heap := h1 } := fun h1 k1 => by
    unfold Builtin.Itertools.itStop
    refine DVw.raise_stop (s := { s with heap := h1 }) (show A.in1.handled = none from hh) fun h2 e oe k2 he hc => ?_
    refine wpAny_bind (wpAny_isInstance (T := "StopIteration") (b := true) ⟨oe, he, hc⟩ isSubtype_stop ?_)
    exact wpAny_pure (hQ _ fun b o hb q => k2 b o (k1 b o hb q))
  rcases h with rfl | ⟨rfl, hn⟩
  · show wpAny _ _ (rule _ >>= _) _ _ s
    refine wpAny_bind (wpAny_rule ?_)
    exact stop s.heap fun b o _ q => q
  · show wpAny _ _ (Builtin.Itertools.itPoolItems (.ref pool) >>= _) _ _ s
    refine wpAny_bind ?_
    unfold Builtin.Itertools.itPoolItems
    refine wpAny_bind (wpAny_seqItems hp rfl ?_)
    refine wpAny_pure ?_
    show wpAny _ _ (match nxt items.size ix with | some nx => _ | none => _) _ _ s
    rw [hn]
    show wpAny _ _ (setField (.ref c) 1 (.int 2 0) >>= _) _ _ s
    refine wpAny_bind (setField_at ho (by decide) ?_)
    exact stop _ fun b o hb q => (Heap.get?_update_other _ _ (Ne.symm hb)).trans q
end
end Zq8
end

section
set_option Elab.async false
set_option linter.all false
set_option maxRecDepth 100000
set_option autoImplicit false
set_option maxHeartbeats 4000000
/-! combinations(a list of ints, n) in a for. -/
namespace Zq8
open PySem PySem.Spec L2 Zk
open PyProof.Rows hiding St
open Evl (Ex)
def combs (ns : List Int) (r : Nat) : List (List Int) := (cmb ns.length 0 r).map fun ix => ix.map fun j => ns.getD j 0
theorem combs_len (ns : List Int) (r : Nat) : (combs ns r).length = (cmb ns.length 0 r).length := by unfold combs; rw [List.length_map]
/-- the rows, each as a new tuple -/
def ItC (rows : List (List Int)) : It := ⟨fun i _ => i < rows.length, fun i H v H' => ∃ T row, v = .ref T ∧ H T = none ∧ H' = upd H T (.tup (row.map V.int)) ∧ rows[i]? = some row, fun i _ => i = rows.length⟩
def stI (n r i : Nat) : Int := if i = 0 then (if r > n then 2 else 0) else 1
def ixI (n r i : Nat) : List Nat := if i = 0 then List.range r else (cmb n 0 r).getD (i - 1) []
def stand (c pool : Addr) (its : List Value) (r i : Nat) (h : Heap) : Prop := ∃ last, h.get? c = some (cObj pool (stI its.length r i) last (ixI its.length r i)) ∧ h.get? pool = some (tObj its.toArray)
theorem vals_pick {ns : List Int} {its : List Value} (rv : Vals (ns.map V.int) its) : ∀ ix : List Nat, (∀ j ∈ ix, j < ns.length) → Vals ((ix.map fun j => ns.getD j 0).map V.int) (pickV its.toArray ix)
  | [], _ => .nil
  | j :: ix, h => by
    have hj := h j List.mem_cons_self
    refine .cons ?_ (vals_pick rv ix fun k hk => h k (List.mem_cons_of_mem _ hk))
    have hx : (ns.map V.int)[j]? = some (.int (ns.getD j 0)) := by
      rw [List.getElem?_map, List.getElem?_eq_getElem hj, List.getD_eq_getElem?_getD, List.getElem?_eq_getElem hj]
      rfl
    obtain ⟨u, hu, ru⟩ := rv.get hx
    have e : its.toArray.getD j .none = u := by
      rw [Array.getD_eq_getD_getElem?, List.getElem?_toArray, hu]
      rfl
    show RelV (V.int (ns.getD j 0)) (its.toArray.getD j .none)
    rw [e]
    exact ru
theorem row_at {n r i : Nat} {ix : List Nat} (h : (cmb n 0 r)[i]? = some ix) : (stI n r i = 0 ∧ ix = ixI n r i) ∨ (stI n r i = 1 ∧ nxt n (ixI n r i) = some ix) := by
  by_cases z : i = 0
  · subst z
    have f := cmb_first n 0 r
    rw [h] at f
    by_cases q : r ≤ n
    · rw [if_pos q] at f
      cases f
      refine .inl ⟨?_, ?_⟩
      · unfold stI
        rw [if_pos rfl, if_neg (by omega)]
      · unfold ixI
        rw [if_pos rfl]
        have : (fun j => 0 + j) = (id : Nat → Nat) := by
          funext j
          exact Nat.zero_add j
        show (List.range r).map (fun j => 0 + j) = _
        rw [this, List.map_id]
    · rw [if_neg q] at f
      cases f
  · have hi := (List.getElem?_eq_some_iff.mp h).1
    have hp : (cmb n 0 r)[i - 1]? = some ((cmb n 0 r).getD (i - 1) []) := by
      rw [List.getD_eq_getElem?_getD, List.getElem?_eq_getElem (by omega)]
      rfl
    have nx := cmb_next n 0 r (i - 1) _ hp
    rw [Nat.zero_add, show i - 1 + 1 = i by omega, h] at nx
    refine .inr ⟨if_neg z, ?_⟩
    unfold ixI
    rw [if_neg z]
    exact nx
theorem row_end {n r : Nat} : stI n r (cmb n 0 r).length = 2 ∨ (stI n r (cmb n 0 r).length = 1 ∧ nxt n (ixI n r (cmb n 0 r).length) = none) := by
  by_cases z : (cmb n 0 r).length = 0
  · left
    have f := cmb_first n 0 r
    rw [List.getElem?_eq_none (by omega)] at f
    unfold stI
    rw [if_pos z]
    by_cases q : r ≤ n
    · rw [if_pos q] at f
      cases f
    · rw [if_pos (by omega)]
  · right
    have hp : (cmb n 0 r)[(cmb n 0 r).length - 1]? = some ((cmb n 0 r).getD ((cmb n 0 r).length - 1) []) := by
      rw [List.getD_eq_getElem?_getD, List.getElem?_eq_getElem (by omega)]
      rfl
    have nx := cmb_next n 0 r _ _ hp
    rw [Nat.zero_add, show (cmb n 0 r).length - 1 + 1 = (cmb n 0 r).length by omega, List.getElem?_eq_none (Nat.le_refl _)] at nx
    refine ⟨if_neg z, ?_⟩
    unfold ixI
    rw [if_neg z]
    exact nx
theorem turn_comb {P : Program} {w : World} {K : PySem.W.Frag} {tg : Expr} {c pool : Addr} {ns : List Int} {its : List Value} {r : Nat} (hne : c ≠ pool) (hl : its.length = ns.length) (rv : Vals (ns.map V.int) its) (hr : r ≤ 1000) :
    Turn P w K tg (ItC (combs ns r)) [c, pool] c (stand c pool its r) where
  mem := List.mem_cons_self
  obj := fun i h st b hb => by
    obtain ⟨last, h1, h2⟩ := st
    rcases List.mem_cons.mp hb with z | z
    · rw [z]; exact ⟨_, h1, fun v q => nomatch q⟩
    · rw [List.mem_singleton.mp z]; exact ⟨_, h2, fun v q => nomatch q⟩
  keep := fun i h h' st k => by
    obtain ⟨last, h1, h2⟩ := st
    exact ⟨last, k c (by simp) _ h1, k pool (by simp) _ h2⟩
  item := by
    intro X hP hw hK hc i pins s σ H E I hf st hg
    subst hP hw hK
    obtain ⟨last, h1, h2⟩ := st
    have hg : i < (combs ns r).length := hg
    rw [combs_len] at hg
    have hi : (cmb its.length 0 r)[i]? = some ((cmb its.length 0 r)[i]'(by rw [hl]; exact hg)) := List.getElem?_eq_getElem _
    generalize (cmb its.length 0 r)[i]'(by rw [hl]; exact hg) = ix at hi
    obtain ⟨xl, xb⟩ := cmb_len _ _ _ _ (List.mem_of_getElem? hi)
    have hsz : its.toArray.size = its.length := List.size_toArray ..
    refine next_item h1 h2 hne (by rw [hsz]; exact row_at hi) (by omega) fun h' a1 a2 a3 => ?_
    have hcl : c < s.heap.objs.size := Heap.lt_size h1
    have hpl : pool < s.heap.objs.size := Heap.lt_size h2
    have vr := vals_pick rv ix fun j hj => by have := (xb j hj).2; omega
    have new : ObjOk X.prog X.w (upd H s.heap.objs.size (.tup ((ix.map fun j => ns.getD j 0).map V.int))) h' s.heap.objs.size (.tup ((ix.map fun j => ns.getD j 0).map V.int)) :=
      ⟨by rw [List.length_map, List.length_map, sizeLine_eq]; omega, _, vr, ⟨_, a2, rfl, _, rfl⟩⟩
    have I1 : Inv X pins σ (upd H s.heap.objs.size (.tup ((ix.map fun j => ns.getD j 0).map V.int))) { s with heap := h' } :=
      I.turnedNew (t' := s.toks) (ch := [c, pool]) (fun b o hb q => a3 b o (fun z => hb (by rw [z]; exact List.mem_cons_self)) q) hf (Nat.le_refl _) new
    refine ⟨_, rfl, go_of (s := { s with heap := h' }) a1 rfl rfl (by decide) ⟨.ref s.heap.objs.size, _, I1, rfl, ⟨_, ix.map fun j => ns.getD j 0, rfl, I.hok.fresh (Nat.le_refl _), rfl, ?_⟩, ⟨.ref s.heap.objs.size, ?_, a3 pool _ (Ne.symm hne) h2⟩, fun b hb => ?_⟩⟩
    · unfold combs
      rw [List.getElem?_map, ← hl, hi]
      rfl
    · have e1 : stI its.length r (i + 1) = 1 := if_neg (by omega)
      have e2 : ixI its.length r (i + 1) = ix := by
        unfold ixI
        rw [if_neg (by omega), Nat.add_sub_cancel, List.getD_eq_getElem?_getD, hi]
        rfl
      rw [e1, e2]
      exact a1
    · have hlt : b < s.heap.objs.size := by
        rcases List.mem_cons.mp hb with z | z
        · rw [z]; exact hcl
        · rw [List.mem_singleton.mp z]; exact hpl
      rw [upd_ne (Nat.ne_of_lt hlt)]
      exact (hf b hb).1
  done := by
    intro X hP hw hK hc i pins s σ H E I hf st hg
    subst hP hw hK
    obtain ⟨last, h1, h2⟩ := st
    have hg : i = (combs ns r).length := hg
    rw [combs_len, ← hl] at hg
    subst hg
    have hsz : its.toArray.size = its.length := List.size_toArray ..
    exact next_end (I.ok.hd hc) h1 h2 hne (by rw [hsz]; exact row_end) fun h' k => ⟨rfl, I.turnedL (t' := s.toks) (ch := [c, pool]) (fun b o hb q => k b o (fun z => hb (by rw [z]; exact List.mem_cons_self)) q) hf⟩
  self := fun A i s Q E st h => by
    obtain ⟨last, h1, h2⟩ := st
    have hT : s.TypeIs (.ref c) "itertools.combinations" := ⟨_, h1, rfl⟩
    refine wpAny_pyIter_slot hT c_iterS (wpAny_call_entry c_iterS hT c_iter ?_ (c_argsI _))
    show wpAny _ _ (ret (.ref c)) _ _ s
    exact wpAny_pure ⟨_, rfl, "itertools.combinations", _, hT, c_nextS.lookup, h⟩
def iComb (K : PySem.W.Frag) (ta : TA) : TI := fun σ H R => ta σ H fun vs H1 => ∃ l ns r, vs = [.ref l, .int r] ∧ SqL K H1 l (ns.map V.int) ∧ 0 ≤ r ∧ r ≤ 1000 ∧ R (ItC (combs ns r.toNat)) H1
theorem pi_comb {X : Cx} {tg e e2 : Expr} {ta : TA} {x : Str} {p pos : Pos} (hg : Gl X x) (hm : X.mg x = some (.type "itertools.combinations")) (ha : PA X [e, e2] ta)
    (hs : starEach [e, e2] X.env = (false, eval e X.env) :: starEach [e2] X.env := by rfl) (hpl : (backTo pos (starEach [e2] X.env)).any (·.1) = false := by rfl) (hd : (x == ("__debug__" : Str)) = false := by decide) :
    PI X tg (.Call (.Name x p) [e, e2] [] pos) (iComb X.K ta) := by
  refine ⟨fun pins s σ H R I h => ?_⟩
  refine Call_ (ld_glob I hg hm (PyProof.Rows.callWith_type1 (thn (ha.run pos pins s σ H _ I h) fun us s1 ⟨vs, H1, I1, r1, q1⟩ => ?_) hs hpl) hd)
  obtain ⟨l, ns, r, ex, hq, h0, h1, q⟩ := q1
  subst ex
  cases r1 with
  | cons r' rr =>
    cases rr with
    | cons r'' rr =>
      cases rr
      cases r'
      obtain ⟨t, rfl⟩ := r''
      obtain ⟨its, rv, p1, hz⟩ := I1.list hq
      obtain ⟨n, rfl⟩ := Int.eq_ofNat_of_zero_le h0
      have hl : its.length = ns.length := by
        have := rv.length
        rw [List.length_map] at this
        omega
      rw [Int.toNat_natCast] at q
      refine callType_new c_called (by decide +kernel) (c_typeCall _ _) (c_newCall _ _) (fun obj => F.args_object_init_3 obj _ _) c_new (c_meets l its n t (by omega) (by rw [hl]; rw [List.length_map] at hz; exact hz)) ?_
      refine ⟨p1.isList, fun h' hs' hk => ?_⟩
      have e1 : (h'.push (tObj its.toArray)).objs.size = h'.objs.size + 1 := Heap.size_push ..
      have gc : ((h'.push (tObj its.toArray)).push (cObj h'.objs.size (if n > its.length then 2 else 0) .none (List.range n))).get? (h'.objs.size + 1) = some (cObj h'.objs.size (if n > its.length then 2 else 0) .none (List.range n)) := by
        rw [← e1]
        exact Heap.get?_push_size _ rfl
      have gp : ((h'.push (tObj its.toArray)).push (cObj h'.objs.size (if n > its.length then 2 else 0) .none (List.range n))).get? h'.objs.size = some (tObj its.toArray) := Heap.get?_push_of_some _ (Heap.get?_push_size _ rfl)
      have hk2 : ∀ b o, s1.heap.get? b = some o → ((h'.push (tObj its.toArray)).push (cObj h'.objs.size (if n > its.length then 2 else 0) .none (List.range n))).get? b = some o := fun b o z => Heap.get?_push_of_some _ (Heap.get?_push_of_some _ (hk b o z))
      refine ⟨⟨_, gc, rfl⟩, ?_⟩
      have T : Turn X.prog X.w X.K tg (ItC (combs ns n)) [h'.objs.size + 1, h'.objs.size] (h'.objs.size + 1) (stand (h'.objs.size + 1) h'.objs.size its n) := turn_comb (Nat.succ_ne_self _) hl rv (by omega)
      have st0 : stand (h'.objs.size + 1) h'.objs.size its n 0 ((h'.push (tObj its.toArray)).push (cObj h'.objs.size (if n > its.length then 2 else 0) .none (List.range n))) := ⟨.none, gc, gp⟩
      have I2 : Inv X pins σ H1 { s1 with heap := (h'.push (tObj its.toArray)).push (cObj h'.objs.size (if n > its.length then 2 else 0) .none (List.range n)) } := I1.kept (t' := s1.toks) hk2
      refine T.self X.A 0 _ _ _ st0 ⟨_, [h'.objs.size + 1, h'.objs.size], _, _, H1, rfl, I2, T, st0, fun b hb => ?_, q⟩
      have hle : s1.heap.objs.size ≤ b := by
        rcases List.mem_cons.mp hb with z | z
        · rw [z]; omega
        · rw [List.mem_singleton.mp z]; omega
      exact I1.fpOk hle (I1.hok.fresh hle)
def dComb (a : DAF) : DIF := fun g => (a g).bind fun xs => match xs with
  | [.lst ds, .int r] => (asInts ds).bind fun ns => if 0 ≤ r ∧ r ≤ 1000 then some ((combs ns r.toNat).map fun row => .tup (iL row)) else none
  | _ => none
theorem wk_comb {K : PySem.W.Frag} (rows : List (List Int)) : Wk K (ItC rows) (rows.map fun row => .tup (iL row)) [] where
  go := fun O i H hi h _ => by
    rw [List.length_map] at hi
    exact hi
  yld := fun O i H w H' e o h y he => by
    obtain ⟨T, row, rfl, hT, rfl, hr⟩ := y
    rw [List.getElem?_map, hr] at he
    cases he
    exact ⟨Evl.Ex.new hT, .tup (fun z => (o T z).1 hT) upd_same (RpA.ofInts row)⟩
  stop := fun O H h _ => by rw [List.length_map]; rfl
theorem ir_comb {K : PySem.W.Frag} {ta : TA} {a : DAF} (ha : AR K ta a) : IR K (iComb K ta) (dComb a) := fun g ds h H0 Oc pins ow σ H R Q q => by
  unfold dComb at h
  cases ea : a g with
  | none => rw [ea] at h; cases h
  | some x =>
    rw [ea] at h
    simp only [Option.bind_some] at h
    split at h
    · rename_i es r
      cases ei : asInts es with
      | none => rw [ei] at h; cases h
      | some ns =>
        rw [ei, Option.bind_some] at h
        split at h
        · rename_i hr
          cases h
          refine ha g _ ea H0 Oc pins ow σ H R _ fun vs H1 e1 r1 => ?_
          obtain rfl := asInts_iL ei
          cases r1 with
          | cons a1 as =>
            cases as with
            | cons a2 as =>
              cases as
              cases a2
              cases a1 with
              | lst n e rr =>
                rw [rr.toInts] at e
                exact ⟨_, ns, _, rfl, .of e, hr.1, hr.2, q _ H1 [] e1 (fun p hp => by cases hp) (wk_comb _)⟩
        · cases h
    · cases h
end Zq8
end

section
set_option Elab.async false
set_option linter.all false
set_option maxRecDepth 100000
set_option maxHeartbeats 4000000
namespace Y
open PySem L2 Zk
abbrev top (i : Nat) : Stmt := PySem.Challenge.pw_pairwarden_k23_count_faults.main.body.getD i (.Pass ⟨0, 0, 0, 0⟩)
abbrev s_count_fault : Stmt := top 2
abbrev N_count_fault : List Str := ["choice", "seats", "cap", "at_once", "seat", "others", "many", "most", "group", "other"]
abbrev s_count_within : Stmt := top 3
abbrev N_count_within : List Str := ["choice", "seat", "others", "rows", "row", "other"]
abbrev s_law_cell : Stmt := top 5
abbrev N_law_cell : List Str := ["_law_script", "_law_k"]
abbrev s_law_draws : Stmt := top 6
abbrev N_law_draws : List Str := ["_law_cell_here", "_law_sizes", "_law_left", "_law_digits", "_law_drawn", "_law_k", "_law_size", "_law_mixed"]
abbrev s_law_bits : Stmt := top 7
abbrev N_law_bits : List Str := ["_law_mask", "_law_count", "_law_k"]
abbrev s_law_is_integer : Stmt := top 8
abbrev N_law_is_integer : List Str := ["_law_actual"]
abbrev s_law_rows : Stmt := top 9
abbrev N_law_rows : List Str := ["_law_seats", "_law_count", "_law_cell_here", "_law_drawn", "_law_rows_here", "_law_k", "_law_first", "_law_row", "_law_second", "_law_j"]
abbrev s_law_tuples : Stmt := top 10
abbrev N_law_tuples : List Str := ["_law_items", "_law_listed", "_law_layer", "_law_k", "_law_grown", "_law_row", "_law_j"]
abbrev s_law_fault : Stmt := top 11
abbrev N_law_fault : List Str := ["_law_choice", "_law_seats", "_law_cap", "_law_at_once", "_law_seat", "_law_here", "_law_others", "_law_count", "_law_row", "_law_j"]
abbrev s_law_is_fault : Stmt := top 12
abbrev N_law_is_fault : List Str := ["_law_actual", "_law_due", "_law_seat"]
abbrev s_law : Stmt := top 13
abbrev N_law : List Str := ["_law_script", "_law_drawn", "_law_most", "_law_seats", "_law_count", "_law_cap", "_law_at_once", "_law_rows_here", "_law_choice", "_law_handed", "_law_actual", "_law_more"]
/-- the classes -/
structure Cs where

  z : Unit := ()
def t_count_within : SF :=
 (sSeq (sAsg (dLc (dItems (dVar 0)) (dName 4) (tDt blD (d2 inD (dVar 1) (dVar 4))) (dVar 4) [4]) (dName 3))
 (sRet (dN lenD (aCons (dLc (dItems (dVar 3)) (dName 4) (tDt truD (dN allD (aCons (dLc (dItems (dVar 4)) (dName 5) dYes (dOrV (d2 eqD (dVar 5) (dVar 1)) (d2 inD (dVar 5) (dVar 2))) [5]) aNil))) (dVar 4) [4]) aNil))))
def g_count_within : PF := runG 3 (t_count_within)
def t_count_fault : SF :=
 (sSeq (sFor (dRng1 (aCons (dVar 1) aNil)) (dName 4)
 (sSeq (sAsg (dLc (dRng1 (aCons (dVar 1) aNil)) (dName 9) (tDt blD (d2 neD (dVar 9) (dVar 4))) (dVar 9) [9]) (dName 5))
 (sFor (dRng1 (aCons (dVar 1) aNil)) (dName 6)
 (sSeq (sAsg (d2 mulD (dVar 2) (dN maxD (aCons (dC (.int 0)) (aCons (d2 addD (d2 subD (dVar 6) (dVar 3)) (dC (.int 1))) aNil)))) (dName 7))
 (sFor (Zq8.dComb (aCons (dVar 5) (aCons (dVar 6) aNil))) (dName 8)
 (sIf (tDt blD (d2 gtD (dCall 3 (g_count_within) (aCons (dVar 0) (aCons (dVar 4) (aCons (dVar 8) aNil)))) (dVar 7)))
 (sRet (dN mkTup (aCons (dVar 4) (aCons (dVar 8) aNil))))
 sNext))))))
 (sRet (dC .non)))
def g_count_fault : PF := runG 6 (t_count_fault)
def t_law_cell : SF :=
 (sSeq (sIf (tDt blD (d2 ltD (dVar 1) (dN lenD (aCons (dVar 0) aNil))))
 (sRet (d2 ixD (dVar 0) (dVar 1)))
 sNext)
 (sRet (dC (.int 0))))
def g_law_cell : PF := runG 0 (t_law_cell)
def t_law_draws : SF :=
 (sSeq (sAsg (dN absD (aCons (dN intD (aCons (dVar 0) aNil)) aNil)) (dName 2))
 (sSeq (sAsg (d2 geD (dVar 2) (d2 powD (dC (.int 10)) (dC (.int 18)))) (dName 3))
 (sSeq (sAsgO (dN mkLst aNil) 4)
 (sSeq (sFor (dRng1 (aCons (dN lenD (aCons (dVar 1) aNil)) aNil)) (dName 5)
 (sSeq (sAsg (d2 ixD (dVar 1) (dVar 5)) (dName 6))
 (sIf (dAndT (tDt truD (dVar 3)) (tDt blD (d2 gtD (dVar 2) (dC (.int 0)))))
 (sSeq (sApp 4 (d2 modD (dN intD (aCons (dVar 2) aNil)) (dVar 6)))
 (sAsg (d2 fdivD (dVar 2) (dVar 6)) (dName 2)))
 (sSeq (sAsg (d2 modD (dN intD (aCons (d2 addD (d2 addD (dN absD (aCons (dN intD (aCons (dVar 0) aNil)) aNil)) (d2 mulD (dC (.int 7919)) (dVar 5))) (dC (.int 13))) aNil)) (dC (.int 2147483647))) (dName 7))
 (sSeq (sAsg (d2 modD (dN intD (aCons (d2 mulD (dVar 7) (d2 addD (dVar 7) (dC (.int 48271)))) aNil)) (dC (.int 2147483629))) (dName 7))
 (sSeq (sAsg (d2 modD (dN intD (aCons (d2 addD (d2 mulD (dVar 7) (d2 addD (dVar 7) (dC (.int 69621)))) (d2 mulD (dC (.int 31)) (dVar 5))) aNil)) (dC (.int 2147483647))) (dName 7))
 (sApp 4 (d2 modD (dN intD (aCons (d2 fdivD (dVar 7) (dC (.int 9))) aNil)) (dVar 6)))))))))
 (sRetV 4)))))
def g_law_draws : PF := runG 6 (t_law_draws)
def t_law_bits : SF :=
 (sRetO (dLc (dRng1 (aCons (dVar 1) aNil)) (dName 2) (tDt blD (d2 eqD (d2 modD (dN intD (aCons (d2 fdivD (dVar 0) (d2 ixD (dN mkTup (aCons (dC (.int 1)) (aCons (dC (.int 2)) (aCons (dC (.int 4)) (aCons (dC (.int 8)) (aCons (dC (.int 16)) (aCons (dC (.int 32)) (aCons (dC (.int 64)) aNil)))))))) (dVar 2))) aNil)) (dC (.int 2))) (dC (.int 1)))) (dVar 2) [2]))
def g_law_bits : PF := runG 1 (t_law_bits)
def t_law_is_integer : SF :=
 (sRet (dAndV (dN isiD (aCons (dVar 0) (aCons (dC (.ty "int")) aNil))) (d1 notD (dN isiD (aCons (dVar 0) (aCons (dC (.ty "bool")) aNil))))))
def g_law_is_integer : PF := runG 0 (t_law_is_integer)
def t_law_rows : SF :=
 (sSeq (sAsg (dCall 2 (g_law_draws) (aCons (dVar 2) (aCons (d2 addD (d2 addD (dN mkLst (aCons (dC (.int 4)) aNil)) (d2 mulD (dN mkLst (aCons (dC (.int 64)) aNil)) (dC (.int 9)))) (d2 mulD (dN mkLst (aCons (dC (.int 60)) aNil)) (dC (.int 9)))) aNil))) (dName 3))
 (sSeq (sAsgO (dN mkLst aNil) 4)
 (sSeq (sFor (dRng1 (aCons (dVar 1) aNil)) (dName 5)
 (sSeq (sAsg (d2 modD (dN intD (aCons (d2 ixD (dVar 3) (d2 addD (dC (.int 10)) (dVar 5))) aNil)) (dVar 0)) (dName 6))
 (sSeq (sAsg (dCall 2 (g_law_bits) (aCons (d2 ixD (dVar 3) (d2 addD (dC (.int 1)) (dVar 5))) (aCons (dVar 0) aNil))) (dName 7))
 (sSeq (sIf (tDt blD (d2 eqD (d2 ixD (dVar 3) (dC (.int 0))) (dC (.int 1))))
 (sSeq (sAsg (d2 modD (dN intD (aCons (d2 ixD (dVar 3) (d2 addD (dC (.int 1)) (dVar 5))) aNil)) (dVar 0)) (dName 8))
 (sAsg (dLc (dRng1 (aCons (dVar 0) aNil)) (dName 9) (dOrT (tDt blD (d2 eqD (dVar 9) (dVar 6))) (tDt blD (d2 eqD (dVar 9) (dVar 8)))) (dVar 9) [9]) (dName 7)))
 sNext)
 (sSeq (sIf (dAndT (tDt blD (d2 eqD (d2 ixD (dVar 3) (dC (.int 0))) (dC (.int 2)))) (tDt blD (d2 gtD (dN lenD (aCons (dVar 7) aNil)) (dC (.int 3)))))
 (sAsg (dSl (dVar 7) (oSome (dC (.int 1))) (oSome (dC (.int 4)))) (dName 7))
 sNext)
 (sSeq (sIf (dAndT (tDt blD (d2 eqD (d2 ixD (dVar 3) (dC (.int 0))) (dC (.int 3)))) (tDt blD (d2 gtD (dVar 5) (dC (.int 1)))))
 (sAsg (Zq5.peekN (dN listD (aCons (d2 ixD (dVar 4) (d2 modD (dN intD (aCons (d2 ixD (dVar 3) (d2 addD (dC (.int 1)) (dVar 5))) aNil)) (dC (.int 2)))) aNil))) (dName 7))
 sNext)
 (sSeq (sIf (tDt blD (d2 eqD (dN lenD (aCons (dVar 7) aNil)) (dC (.int 0))))
 (sAsg (dN mkLst (aCons (dVar 6) aNil)) (dName 7))
 sNext)
 (sApp 4 (dN tupleD (aCons (dVar 7) aNil))))))))))
 (sRetV 4))))
def g_law_rows : PF := runG 7 (t_law_rows)
def t_law_tuples : SF :=
 (sSeq (sAsg (dN mkLst (aCons (dN mkTup aNil) aNil)) (dName 1))
 (sSeq (sAsg (dN mkLst (aCons (dN mkTup aNil) aNil)) (dName 2))
 (sSeq (sFor (dRng1 (aCons (dN lenD (aCons (dVar 0) aNil)) aNil)) (dName 3)
 (sSeq (sAsgO (dN mkLst aNil) 4)
 (sSeq (sFor (dItems (dN listD (aCons (dVar 2) aNil))) (dName 5)
 (sFor (dItems (dVar 0)) (dName 6)
 (sIf (dOrT (tDt blD (d2 eqD (dN lenD (aCons (dVar 5) aNil)) (dC (.int 0)))) (tDt blD (d2 ltD (d2 ixD (dVar 5) (d2 subD (dN lenD (aCons (dVar 5) aNil)) (dC (.int 1)))) (dVar 6))))
 (sApp 4 (d2 Zm.catD (dVar 5) (dN mkTup (aCons (dVar 6) aNil))))
 sNext)))
 (sSeq (sFrz [4] (sAsg (d2 addD (dVar 1) (dVar 4)) (dName 1)))
 (sFrz [4] (sAsg (dVar 4) (dName 2)))))))
 (sRet (dVar 1)))))
def g_law_tuples : PF := runG 6 (t_law_tuples)
def t_law_fault : SF :=
 (sSeq (sFor (dRng1 (aCons (dVar 1) aNil)) (dName 4)
 (sSeq (sAsg (dLc (dItems (dVar 0)) (dName 8) (tDt blD (d2 inD (dVar 4) (dVar 8))) (dVar 8) [8]) (dName 5))
 (sFor (dItems (dCall 1 (g_law_tuples) (aCons (dLc (dRng1 (aCons (dVar 1) aNil)) (dName 9) (tDt blD (d2 neD (dVar 9) (dVar 4))) (dVar 9) [9]) aNil))) (dName 6)
 (sSeq (sAsg (dC (.int 0)) (dName 7))
 (sSeq (sFor (dItems (dVar 5)) (dName 8)
 (sIf (tDt blD (d2 eqD (dN lenD (aCons (dLc (dItems (dVar 8)) (dName 9) (dAndT (tDt blD (d2 neD (dVar 9) (dVar 4))) (tDt blD (d2 ninD (dVar 9) (dVar 6)))) (dVar 9) [9]) aNil)) (dC (.int 0))))
 (sAsg (d2 addD (dVar 7) (dC (.int 1))) (dName 7))
 sNext))
 (sIf (tDt blD (d2 gtD (dVar 7) (d2 mulD (dVar 2) (dN maxD (aCons (dC (.int 0)) (aCons (d2 addD (d2 subD (dN lenD (aCons (dVar 6) aNil)) (dVar 3)) (dC (.int 1))) aNil))))))
 (sRet (dN mkTup (aCons (dVar 4) (aCons (dVar 6) aNil))))
 sNext))))))
 (sRet (dC .non)))
def g_law_fault : PF := runG 6 (t_law_fault)
def t_law_is_fault : SF :=
 (sSeq (sIf (tDt blD (d2 isD (dVar 1) (dC .non)))
 (sRet (d2 isD (dVar 0) (dC .non)))
 sNext)
 (sSeq (sIf (dOrT (dNotT (tDt truD (dN isiD (aCons (dVar 0) (aCons (dC (.ty "tuple")) aNil))))) (dOrT (tDt blD (d2 neD (dN lenD (aCons (dVar 0) aNil)) (dC (.int 2)))) (dNotT (tDt truD (dCall 1 (g_law_is_integer) (aCons (d2 ixD (dVar 0) (dC (.int 0))) aNil))))))
 (sRet (dC (.bl false)))
 sNext)
 (sSeq (sIf (dNotT (tDt truD (dN isiD (aCons (d2 ixD (dVar 0) (dC (.int 1))) (aCons (dC (.ty "tuple")) aNil)))))
 (sRet (dC (.bl false)))
 sNext)
 (sSeq (sFor (dItems (d2 ixD (dVar 0) (dC (.int 1)))) (dName 2)
 (sIf (dNotT (tDt truD (dCall 1 (g_law_is_integer) (aCons (dVar 2) aNil))))
 (sRet (dC (.bl false)))
 sNext))
 (sRet (d2 eqD (dVar 0) (dVar 1)))))))
def g_law_is_fault : PF := runG 1 (t_law_is_fault)
def t_law : SF :=
 (sSeq (sAsg (dCall 2 (g_law_draws) (aCons (dCall 2 (g_law_cell) (aCons (dVar 0) (aCons (dC (.int 0)) aNil))) (aCons (dN mkLst (aCons (dC (.int 8)) (aCons (dC (.int 840)) (aCons (dC (.int 840)) (aCons (dC (.int 7)) (aCons (dC (.int 12)) (aCons (dC (.int 3)) aNil))))))) aNil))) (dName 1))
 (sSeq (sAsg (dC (.int 5)) (dName 2))
 (sSeq (sIf (tDt blD (d2 eqD (d2 ixD (dVar 1) (dC (.int 0))) (dC (.int 0))))
 (sAsg (dC (.int 6)) (dName 2))
 sNext)
 (sSeq (sAsg (d2 addD (dC (.int 1)) (d2 modD (dN intD (aCons (d2 ixD (dVar 1) (dC (.int 1))) aNil)) (dVar 2))) (dName 3))
 (sSeq (sAsg (d2 modD (dN intD (aCons (d2 ixD (dVar 1) (dC (.int 2))) aNil)) (d2 addD (dVar 2) (dC (.int 2)))) (dName 4))
 (sSeq (sAsg (d2 ixD (dN mkTup (aCons (dC (.int 0)) (aCons (dC (.int 1)) (aCons (dC (.int 1)) (aCons (dC (.int 1)) (aCons (dC (.int 2)) (aCons (dC (.int 3)) (aCons (d2 addD (d2 powD (dC (.int 10)) (dC (.int 30))) (d2 ixD (dVar 1) (dC (.int 1)))) aNil)))))))) (d2 ixD (dVar 1) (dC (.int 3)))) (dName 5))
 (sSeq (sAsg (d2 ixD (dN mkTup (aCons (dC (.int 1)) (aCons (dC (.int 1)) (aCons (dC (.int 1)) (aCons (dC (.int 1)) (aCons (dC (.int 1)) (aCons (dC (.int 2)) (aCons (dC (.int 2)) (aCons (dC (.int 3)) (aCons (dC (.int 4)) (aCons (dC (.int 5)) (aCons (dC (.int 6)) (aCons (d2 addD (d2 powD (dC (.int 10)) (dC (.int 15))) (d2 ixD (dVar 1) (dC (.int 2)))) aNil))))))))))))) (d2 ixD (dVar 1) (dC (.int 4)))) (dName 6))
 (sSeq (sAsg (dCall 3 (g_law_rows) (aCons (dVar 3) (aCons (d2 addD (dVar 4) (dC (.int 1))) (aCons (dCall 2 (g_law_cell) (aCons (dVar 0) (aCons (dC (.int 1)) aNil))) aNil)))) (dName 7))
 (sSeq (sAsg (dSl (dVar 7) oNone (oSome (dVar 4))) (dName 8))
 (sSeq (sAsgO (dN listD (aCons (dVar 8) aNil)) 9)
 (sSeq (sAsg (Zg.peekS (dCall 4 (g_count_fault) (aCons (dVar 9) (aCons (dVar 3) (aCons (dVar 5) (aCons (dVar 6) aNil)))))) (dName 10))
 (sSeq (sIf (peekT (dOrT (tDt blD (d2 neD (dVar 9) (dVar 8))) (dNotT (tDt truD (dCall 2 (g_law_is_fault) (aCons (dVar 10) (aCons (dCall 4 (g_law_fault) (aCons (dVar 8) (aCons (dVar 3) (aCons (dVar 5) (aCons (dVar 6) aNil))))) aNil)))))))
 (sRet (dC (.bl false)))
 sNext)
 (sSeq (sAsg (d2 ixD (dVar 7) (dVar 4)) (dName 11))
 (sSeq (sIf (tDt blD (d2 eqD (d2 ixD (dVar 1) (dC (.int 5))) (dC (.int 0))))
 (sAsg (d2 ixD (dVar 7) (dC (.int 0))) (dName 11))
 sNext)
 (sSeq (sApp 9 (dVar 11))
 (sSeq (sAsg (Zg.peekS (dCall 4 (g_count_fault) (aCons (dVar 9) (aCons (dVar 3) (aCons (dVar 5) (aCons (dVar 6) aNil)))))) (dName 10))
 (sSeq (sIf (peekT (tDt blD (d2 neD (dVar 9) (d2 addD (dVar 8) (dN mkLst (aCons (dVar 11) aNil))))))
 (sRet (dC (.bl false)))
 sNext)
 (sRet (dCall 2 (g_law_is_fault) (aCons (dVar 10) (aCons (dCall 4 (g_law_fault) (aCons (d2 addD (dVar 8) (dN mkLst (aCons (dVar 11) aNil))) (aCons (dVar 3) (aCons (dVar 5) (aCons (dVar 6) aNil))))) aNil)))))))))))))))))))))
def g_law : PF := runG 11 (t_law)
structure Txt (K : PySem.W.Frag) (mg : Str → Option Value) where
  c : Cs
  m_abs : mg "abs" = none
  m_all : mg "all" = none
  m_bool : mg "bool" = none
  m_int : mg "int" = none
  m_isinstance : mg "isinstance" = none
  m_len : mg "len" = none
  m_list : mg "list" = none
  m_max : mg "max" = none
  m_range : mg "range" = none
  m_tuple : mg "tuple" = none
  i_combinations : mg "combinations" = some (.type "itertools.combinations")
  f_count_fault : Addr
  fd_count_fault : FuncData
  F_count_fault : Fun K "count_fault" "count_fault" s_count_fault f_count_fault fd_count_fault
  b_count_fault : Binds K fd_count_fault ["choice", "seats", "cap", "at_once"] []
  g_count_fault : mg "count_fault" = some (.ref f_count_fault)
  f_count_within : Addr
  fd_count_within : FuncData
  F_count_within : Fun K "_count_within" "_count_within" s_count_within f_count_within fd_count_within
  b_count_within : Binds K fd_count_within ["choice", "seat", "others"] []
  g_count_within : mg "_count_within" = some (.ref f_count_within)
  f_law_cell : Addr
  fd_law_cell : FuncData
  F_law_cell : Fun K "_law_cell" "_law_cell" s_law_cell f_law_cell fd_law_cell
  b_law_cell : Binds K fd_law_cell ["_law_script", "_law_k"] []
  g_law_cell : mg "_law_cell" = some (.ref f_law_cell)
  f_law_draws : Addr
  fd_law_draws : FuncData
  F_law_draws : Fun K "_law_draws" "_law_draws" s_law_draws f_law_draws fd_law_draws
  b_law_draws : Binds K fd_law_draws ["_law_cell_here", "_law_sizes"] []
  g_law_draws : mg "_law_draws" = some (.ref f_law_draws)
  f_law_bits : Addr
  fd_law_bits : FuncData
  F_law_bits : Fun K "_law_bits" "_law_bits" s_law_bits f_law_bits fd_law_bits
  b_law_bits : Binds K fd_law_bits ["_law_mask", "_law_count"] []
  g_law_bits : mg "_law_bits" = some (.ref f_law_bits)
  f_law_is_integer : Addr
  fd_law_is_integer : FuncData
  F_law_is_integer : Fun K "_law_is_integer" "_law_is_integer" s_law_is_integer f_law_is_integer fd_law_is_integer
  b_law_is_integer : Binds K fd_law_is_integer ["_law_actual"] []
  g_law_is_integer : mg "_law_is_integer" = some (.ref f_law_is_integer)
  f_law_rows : Addr
  fd_law_rows : FuncData
  F_law_rows : Fun K "_law_rows" "_law_rows" s_law_rows f_law_rows fd_law_rows
  b_law_rows : Binds K fd_law_rows ["_law_seats", "_law_count", "_law_cell_here"] []
  g_law_rows : mg "_law_rows" = some (.ref f_law_rows)
  f_law_tuples : Addr
  fd_law_tuples : FuncData
  F_law_tuples : Fun K "_law_tuples" "_law_tuples" s_law_tuples f_law_tuples fd_law_tuples
  b_law_tuples : Binds K fd_law_tuples ["_law_items"] []
  g_law_tuples : mg "_law_tuples" = some (.ref f_law_tuples)
  f_law_fault : Addr
  fd_law_fault : FuncData
  F_law_fault : Fun K "_law_fault" "_law_fault" s_law_fault f_law_fault fd_law_fault
  b_law_fault : Binds K fd_law_fault ["_law_choice", "_law_seats", "_law_cap", "_law_at_once"] []
  g_law_fault : mg "_law_fault" = some (.ref f_law_fault)
  f_law_is_fault : Addr
  fd_law_is_fault : FuncData
  F_law_is_fault : Fun K "_law_is_fault" "_law_is_fault" s_law_is_fault f_law_is_fault fd_law_is_fault
  b_law_is_fault : Binds K fd_law_is_fault ["_law_actual", "_law_due"] []
  g_law_is_fault : mg "_law_is_fault" = some (.ref f_law_is_fault)
  f_law : Addr
  fd_law : FuncData
  F_law : Fun K "law" "law" s_law f_law fd_law
  b_law : Binds K fd_law ["_law_script"] []
  g_law : mg "law" = some (.ref f_law)
section
variable {P : Program} {w : World} {K : PySem.W.Frag} {mg : Str → Option Value} {base : Heap}
theorem sc_count_within : FnScope N_count_within ["choice", "seat", "others"] (defScope s_count_within) := ⟨rfl, rfl, rfl, by decide +kernel, rfl, by decide +kernel, by decide +kernel⟩
theorem ok_count_within (T : Txt K mg) : FnOk P w K mg base CX0 1 T.f_count_within T.fd_count_within ["choice", "seat", "others"] (spG K 3 (g_count_within)) := by
  refine fnG (m := 3) T.F_count_within sc_count_within rfl rfl (fun cdv A outer s H E hr => ?_)
  have hu := hr.units
  refine ⟨_, (pss_cons (ps_setLc (i := 3) (own := [("row", 4)]) (g := (gName 4)) (tt := (tTest (tOp (rIn K false) (tVar 1) (tVar 4)))) (te := (tVar 4)) rfl sc_count_within.nd rfl rfl (sw_true rfl rfl rfl (by decide +kernel)) (pi_seq (pv 0)) (blkOk_by (N := N_count_within) (sc := defScope s_count_within) (by decide +kernel)) (fun _ _ _ _ _ => (pg_name (i := 4) sc_count_within.nd rfl (by first | exact Or.inl rfl | exact Or.inr rfl))) (fun _ _ _ _ _ => (pts_one (pt_cmpR op_in_seq (pv 1) (pv 4) (by rfl)))) (fun _ _ _ _ _ => (pv 4)))
 (pss_one (ps_ret (pe_callB call_lenA (by rfl) T.m_len bt_len (pa_cons (pe_lc (own := [("row", 4)]) (g := (gName 4)) (tt := (tTru K (tCB (rAll K) (tCons (tLc (iSeq K (tVar 4)) (gName 5) tYes (tOrV (tOp (rEqD K) (tVar 5) (tVar 1)) (tOp (rIn K false) (tVar 5) (tVar 2))) [5]) tNil)))) (te := (tVar 4)) rfl sc_count_within.nd (pi_seq (pv 3)) (blkOk_by (N := N_count_within) (sc := defScope s_count_within) (by decide +kernel)) (fun _ _ _ _ _ => (pg_name (i := 4) sc_count_within.nd rfl (by first | exact Or.inl rfl | exact Or.inr rfl))) (fun _ _ _ _ _ => (pts_one (pt_truth (pe_callB (cr_all rfl) (by rfl) T.m_all bt_all (pa_cons (pe_lc (own := [("other", 5)]) (g := (gName 5)) (tt := tYes) (te := (tOrV (tOp (rEqD K) (tVar 5) (tVar 1)) (tOp (rIn K false) (tVar 5) (tVar 2)))) rfl sc_count_within.nd (pi_seq (pv 4)) (blkOk_by (by kernel_rfl)) (fun _ _ _ _ _ => (pg_name (i := 5) sc_count_within.nd rfl (by first | exact Or.inl rfl | exact Or.inr rfl))) (fun _ _ _ _ _ => pts_nil) (fun _ _ _ _ _ => (pe_or (pe_cmpR (op_eqD hu) (pv 5) (pv 1) (nomark _)) (pe_one (pe_cmpR op_in_seq (pv 5) (pv 2) (by rfl)))))) pa_nil)) (fun _ => rfl)))) (fun _ _ _ _ _ => (pv 4))) pa_nil))))), ?_⟩
  exact ((sr_seq (sr_asg (er_of_eo (eo_lc (vs := [4]) (ir_seq (er_var 0)) (grc_name (j := 4) (by decide)) (tr_test (er_2 rr_in (er_var 1) (er_var 4))) (er_var 4))) (gr'_name 3))
 (sr_ret (er_n rc_len (ar_cons (er_of_eo (eo_lc (vs := [4]) (ir_seq (er_var 3)) (grc_name (j := 4) (by decide)) (tr_tru (er_n rc_all (ar_cons (er_of_eo (eo_lc (vs := [5]) (ir_seq (er_var 4)) (grc_name (j := 5) (by decide)) tr_yes (er_or (er_2 rr_eq (er_var 5) (er_var 1)) (er_2 rr_in (er_var 5) (er_var 2))))) ar_nil))) (er_var 4))) ar_nil)))) : SR K _ (t_count_within))
theorem sc_count_fault : FnScope N_count_fault ["choice", "seats", "cap", "at_once"] (defScope s_count_fault) := ⟨rfl, rfl, rfl, by decide +kernel, rfl, by decide +kernel, by decide +kernel⟩
theorem ok_count_fault (T : Txt K mg) : FnOk P w K mg base CX0 2 T.f_count_fault T.fd_count_fault ["choice", "seats", "cap", "at_once"] (spG K 4 (g_count_fault)) := by
  have G_count_within := ok_count_within (P := P) (w := w) (base := base) T
  refine fnG (m := 6) T.F_count_fault sc_count_fault rfl rfl (fun cdv A outer s H E hr => ?_)
  have hu := hr.units
  refine ⟨_, (pss_cons (ps_for PassesOwn.never rfl (pi_range1 (by rfl) T.m_range (pa_cons (pv 1) pa_nil)) (pg_name (i := 4) sc_count_fault.nd rfl (by first | exact Or.inl rfl | exact Or.inr rfl))
 (pss_cons (ps_setLc (i := 5) (own := [("other", 9)]) (g := (gName 9)) (tt := (tTest (tOp (rNeD K) (tVar 9) (tVar 4)))) (te := (tVar 9)) rfl sc_count_fault.nd rfl rfl (sw_true rfl rfl rfl (by decide +kernel)) (pi_range1 (by rfl) T.m_range (pa_cons (pv 1) pa_nil)) (blkOk_by (N := N_count_fault) (sc := defScope s_count_fault) (by decide +kernel)) (fun _ _ _ _ _ => (pg_name (i := 9) sc_count_fault.nd rfl (by first | exact Or.inl rfl | exact Or.inr rfl))) (fun _ _ _ _ _ => (pts_one (pt_cmpR (op_neD hu) (pv 9) (pv 4) (nomark _)))) (fun _ _ _ _ _ => (pv 9)))
 (pss_one (ps_for PassesOwn.never rfl (pi_range1 (by rfl) T.m_range (pa_cons (pv 1) pa_nil)) (pg_name (i := 6) sc_count_fault.nd rfl (by first | exact Or.inl rfl | exact Or.inr rfl))
 (pss_cons (ps_set (i := 7) sc_count_fault.nd rfl (by first | exact Or.inl rfl | exact Or.inr rfl) (pe_op op_mulA (pv 2) (pe_callB (call_maxA rfl) (by rfl) T.m_max bt_max (pa_cons pe_int (pa_cons (pe_op op_addA (pe_op op_sub (pv 6) (pv 3)) pe_int) pa_nil)))))
 (pss_one (ps_for PassesOwn.never rfl (Zq8.pi_comb (by rfl) T.i_combinations (pa_cons (pv 5) (pa_cons (pv 6) pa_nil))) (pg_name (i := 8) sc_count_fault.nd rfl (by first | exact Or.inl rfl | exact Or.inr rfl))
 (pss_one (ps_if (pt_cmpR op_gt (pe_call G_count_within (hr.mono (by decide)) (by rfl) T.g_count_within T.F_count_within.kp T.b_count_within .nil pass0 (pa_cons (pv 0) (pa_cons (pv 4) (pa_cons (pv 8) pa_nil)))) (pv 7) (nomark _))
 (pss_one (ps_ret (pe_tup (pa_cons (pv 4) (pa_cons (pv 8) pa_nil)))))
 pss_nil)))))))))
 (pss_one (ps_ret pe_non))), ?_⟩
  exact ((sr_seq (sr_for (ir_rng1 (ar_cons (er_var 1) ar_nil)) (gr'_name 4)
 (sr_seq (sr_asg (er_of_eo (eo_lc (vs := [9]) (ir_rng1 (ar_cons (er_var 1) ar_nil)) (grc_name (j := 9) (by decide)) (tr_test (er_2 rr_ne (er_var 9) (er_var 4))) (er_var 9))) (gr'_name 5))
 (sr_for (ir_rng1 (ar_cons (er_var 1) ar_nil)) (gr'_name 6)
 (sr_seq (sr_asg (er_2 rr_mul (er_var 2) (er_n rc_max (ar_cons er_int (ar_cons (er_2 rr_add (er_2 rr_sub (er_var 6) (er_var 3)) er_int) ar_nil)))) (gr'_name 7))
 (sr_for (Zq8.ir_comb (ar_cons (er_var 5) (ar_cons (er_var 6) ar_nil))) (gr'_name 8)
 (sr_if (tr_test (er_2 rr_gt (er_call (ar_cons (er_var 0) (ar_cons (er_var 4) (ar_cons (er_var 8) ar_nil)))) (er_var 7)))
 (sr_ret (er_tup (ar_cons (er_var 4) (ar_cons (er_var 8) ar_nil))))
 sr_next))))))
 (sr_ret er_non)) : SR K _ (t_count_fault))
theorem sc_law_cell : FnScope N_law_cell ["_law_script", "_law_k"] (defScope s_law_cell) := ⟨rfl, rfl, rfl, by decide +kernel, rfl, by decide +kernel, by decide +kernel⟩
theorem ok_law_cell (T : Txt K mg) : FnOk P w K mg base CX0 1 T.f_law_cell T.fd_law_cell ["_law_script", "_law_k"] (spG K 2 (g_law_cell)) := by
  refine fnG (m := 0) T.F_law_cell sc_law_cell rfl rfl (fun cdv A outer s H E hr => ?_)
  have hu := hr.units
  refine ⟨_, (pss_cons (ps_if (pt_cmpR op_lt (pv 1) (pe_callB call_lenA (by rfl) T.m_len bt_len (pa_cons (pv 0) pa_nil)) (nomark _))
 (pss_one (ps_ret (pe_ix ix_seq (pv 0) (pv 1) (fun _ _ => rfl))))
 pss_nil)
 (pss_one (ps_ret pe_int))), ?_⟩
  exact ((sr_seq (sr_if (tr_test (er_2 rr_lt (er_var 1) (er_n rc_len (ar_cons (er_var 0) ar_nil))))
 (sr_ret (er_2 rr_ix (er_var 0) (er_var 1)))
 sr_next)
 (sr_ret er_int)) : SR K _ (t_law_cell))
theorem sc_law_draws : FnScope N_law_draws ["_law_cell_here", "_law_sizes"] (defScope s_law_draws) := ⟨rfl, rfl, rfl, by decide +kernel, rfl, by decide +kernel, by decide +kernel⟩
theorem ok_law_draws (T : Txt K mg) : FnOk P w K mg base CX0 1 T.f_law_draws T.fd_law_draws ["_law_cell_here", "_law_sizes"] (spG K 2 (g_law_draws)) := by
  refine fnG (m := 6) T.F_law_draws sc_law_draws rfl rfl (fun cdv A outer s H E hr => ?_)
  have hu := hr.units
  refine ⟨_, (pss_cons (ps_set (i := 2) sc_law_draws.nd rfl (by first | exact Or.inl rfl | exact Or.inr rfl) (pe_callB call_abs (by rfl) T.m_abs bt_abs (pa_cons (pe_callTy call_int1 (by rfl) T.m_int bt_int (pa_cons (pv 0) pa_nil)) pa_nil)))
 (pss_cons (ps_set (i := 3) sc_law_draws.nd rfl (by first | exact Or.inl rfl | exact Or.inr rfl) (pe_cmpR op_ge (pv 2) (pe_op op_pow pe_int pe_int) (nomark _)))
 (pss_cons (ps_set (i := 4) sc_law_draws.nd rfl (by first | exact Or.inl rfl | exact Or.inr rfl) (pe_lst pa_nil))
 (pss_cons (ps_for PassesOwn.never rfl (pi_range1 (by rfl) T.m_range (pa_cons (pe_callB call_lenA (by rfl) T.m_len bt_len (pa_cons (pv 1) pa_nil)) pa_nil)) (pg_name (i := 5) sc_law_draws.nd rfl (by first | exact Or.inl rfl | exact Or.inr rfl))
 (pss_cons (ps_set (i := 6) sc_law_draws.nd rfl (by first | exact Or.inl rfl | exact Or.inr rfl) (pe_ix ix_seq (pv 1) (pv 5) (fun _ _ => rfl)))
 (pss_one (ps_if ((pw_and (pt_truth (pv 3) (fun _ => rfl)) (pw_and1 (pt_cmpR op_gt (pv 2) pe_int (nomark _))))).pt
 (pss_cons (ps_expr (pe_bm PySem.F.plainAttrs_list PySem.F.slot_list_append PySem.F.type_list_append mt_append (pv 4) (pa_cons (pe_op op_mod (pe_callTy call_int1 (by rfl) T.m_int bt_int (pa_cons (pv 2) pa_nil)) (pv 6)) pa_nil)))
 (pss_one (ps_set (i := 2) sc_law_draws.nd rfl (by first | exact Or.inl rfl | exact Or.inr rfl) (pe_op op_fdivW (pv 2) (pv 6)))))
 (pss_cons (ps_set (i := 7) sc_law_draws.nd rfl (by first | exact Or.inl rfl | exact Or.inr rfl) (pe_op op_mod (pe_callTy call_int1 (by rfl) T.m_int bt_int (pa_cons (pe_op op_addA (pe_op op_addA (pe_callB call_abs (by rfl) T.m_abs bt_abs (pa_cons (pe_callTy call_int1 (by rfl) T.m_int bt_int (pa_cons (pv 0) pa_nil)) pa_nil)) (pe_op op_mulA pe_int (pv 5))) pe_int) pa_nil)) pe_int))
 (pss_cons (ps_set (i := 7) sc_law_draws.nd rfl (by first | exact Or.inl rfl | exact Or.inr rfl) (pe_op op_mod (pe_callTy call_int1 (by rfl) T.m_int bt_int (pa_cons (pe_op op_mulA (pv 7) (pe_op op_addA (pv 7) pe_int)) pa_nil)) pe_int))
 (pss_cons (ps_set (i := 7) sc_law_draws.nd rfl (by first | exact Or.inl rfl | exact Or.inr rfl) (pe_op op_mod (pe_callTy call_int1 (by rfl) T.m_int bt_int (pa_cons (pe_op op_addA (pe_op op_mulA (pv 7) (pe_op op_addA (pv 7) pe_int)) (pe_op op_mulA pe_int (pv 5))) pa_nil)) pe_int))
 (pss_one (ps_expr (pe_bm PySem.F.plainAttrs_list PySem.F.slot_list_append PySem.F.type_list_append mt_append (pv 4) (pa_cons (pe_op op_mod (pe_callTy call_int1 (by rfl) T.m_int bt_int (pa_cons (pe_op op_fdivW (pv 7) pe_int) pa_nil)) (pv 6)) pa_nil)))))))))))
 (pss_one (ps_ret (pv 4))))))), ?_⟩
  exact ((sr_seq (sr_asg (er_n rc_abs (ar_cons (er_n rc_int (ar_cons (er_var 0) ar_nil)) ar_nil)) (gr'_name 2))
 (sr_seq (sr_asg (er_2 rr_ge (er_var 2) (er_2 rr_pow er_int er_int)) (gr'_name 3))
 (sr_seq (sr_asgO (eo_lst ar_nil))
 (sr_seq (sr_for (ir_rng1 (ar_cons (er_n rc_len (ar_cons (er_var 1) ar_nil)) ar_nil)) (gr'_name 5)
 (sr_seq (sr_asg (er_2 rr_ix (er_var 1) (er_var 5)) (gr'_name 6))
 (sr_if (tr_and (tr_tru (er_var 3)) (tr_test (er_2 rr_gt (er_var 2) er_int)))
 (sr_seq (sr_app (i := 4) (er_2 rr_mod (er_n rc_int (ar_cons (er_var 2) ar_nil)) (er_var 6)))
 (sr_asg (er_2 rr_fdiv (er_var 2) (er_var 6)) (gr'_name 2)))
 (sr_seq (sr_asg (er_2 rr_mod (er_n rc_int (ar_cons (er_2 rr_add (er_2 rr_add (er_n rc_abs (ar_cons (er_n rc_int (ar_cons (er_var 0) ar_nil)) ar_nil)) (er_2 rr_mul er_int (er_var 5))) er_int) ar_nil)) er_int) (gr'_name 7))
 (sr_seq (sr_asg (er_2 rr_mod (er_n rc_int (ar_cons (er_2 rr_mul (er_var 7) (er_2 rr_add (er_var 7) er_int)) ar_nil)) er_int) (gr'_name 7))
 (sr_seq (sr_asg (er_2 rr_mod (er_n rc_int (ar_cons (er_2 rr_add (er_2 rr_mul (er_var 7) (er_2 rr_add (er_var 7) er_int)) (er_2 rr_mul er_int (er_var 5))) ar_nil)) er_int) (gr'_name 7))
 (sr_app (i := 4) (er_2 rr_mod (er_n rc_int (ar_cons (er_2 rr_fdiv (er_var 7) er_int) ar_nil)) (er_var 6)))))))))
 (sr_retV 4))))) : SR K _ (t_law_draws))
theorem sc_law_bits : FnScope N_law_bits ["_law_mask", "_law_count"] (defScope s_law_bits) := ⟨rfl, rfl, rfl, by decide +kernel, rfl, by decide +kernel, by decide +kernel⟩
theorem ok_law_bits (T : Txt K mg) : FnOk P w K mg base CX0 1 T.f_law_bits T.fd_law_bits ["_law_mask", "_law_count"] (spG K 2 (g_law_bits)) := by
  refine fnG (m := 1) T.F_law_bits sc_law_bits rfl rfl (fun cdv A outer s H E hr => ?_)
  have hu := hr.units
  refine ⟨_, (pss_one (ps_ret (pe_lc (own := [("_law_k", 2)]) (g := (gName 2)) (tt := (tTest (tOp (rEqD K) (tOp _ (tCB _ (tCons (tOp _ (tVar 0) (tOp (rIx K) (tTup (tCons (tC (.int 1)) (tCons (tC (.int 2)) (tCons (tC (.int 4)) (tCons (tC (.int 8)) (tCons (tC (.int 16)) (tCons (tC (.int 32)) (tCons (tC (.int 64)) tNil)))))))) (tVar 2))) tNil)) (tC (.int 2))) (tC (.int 1))))) (te := (tVar 2)) rfl sc_law_bits.nd (pi_range1 (by rfl) T.m_range (pa_cons (pv 1) pa_nil)) (blkOk_by (N := N_law_bits) (sc := defScope s_law_bits) (by decide +kernel)) (fun _ _ _ _ _ => (pg_name (i := 2) sc_law_bits.nd rfl (by first | exact Or.inl rfl | exact Or.inr rfl))) (fun _ _ _ _ _ => (pts_one (pt_cmpR (op_eqD hu) (pe_op op_mod (pe_callTy call_int1 (by rfl) T.m_int bt_int (pa_cons (pe_op op_fdivW (pv 0) (pe_ix ix_seq (pe_tup (pa_cons pe_int (pa_cons pe_int (pa_cons pe_int (pa_cons pe_int (pa_cons pe_int (pa_cons pe_int (pa_cons pe_int pa_nil)))))))) (pv 2) (fun _ _ => rfl))) pa_nil)) pe_int) pe_int (nomark _)))) (fun _ _ _ _ _ => (pv 2))))), ?_⟩
  exact ((sr_retO (eo_lc (vs := [2]) (ir_rng1 (ar_cons (er_var 1) ar_nil)) (grc_name (j := 2) (by decide)) (tr_test (er_2 rr_eq (er_2 rr_mod (er_n rc_int (ar_cons (er_2 rr_fdiv (er_var 0) (er_2 rr_ix (er_tup (ar_cons er_int (ar_cons er_int (ar_cons er_int (ar_cons er_int (ar_cons er_int (ar_cons er_int (ar_cons er_int ar_nil)))))))) (er_var 2))) ar_nil)) er_int) er_int)) (er_var 2))) : SR K _ (t_law_bits))
theorem sc_law_is_integer : FnScope N_law_is_integer ["_law_actual"] (defScope s_law_is_integer) := ⟨rfl, rfl, rfl, by decide +kernel, rfl, by decide +kernel, by decide +kernel⟩
theorem ok_law_is_integer (T : Txt K mg) : FnOk P w K mg base CX0 1 T.f_law_is_integer T.fd_law_is_integer ["_law_actual"] (spG K 1 (g_law_is_integer)) := by
  refine fnG (m := 0) T.F_law_is_integer sc_law_is_integer rfl rfl (fun cdv A outer s H E hr => ?_)
  have hu := hr.units
  refine ⟨_, (pss_one (ps_ret (pe_and (pe_callB call_isi (by rfl) T.m_isinstance bt_isinstance (pa_cons (pv 0) (pa_cons (pe_bltn (v := .ty "int") (by rfl) T.m_int bt_int rfl) pa_nil))) (pe_one (pe_not (pe_callB call_isi (by rfl) T.m_isinstance bt_isinstance (pa_cons (pv 0) (pa_cons (pe_bltn (v := .ty "bool") (by rfl) T.m_bool bt_bool rfl) pa_nil)))))))), ?_⟩
  exact ((sr_ret (er_and (er_n rc_isi (ar_cons (er_var 0) (ar_cons er_ty ar_nil))) (er_not (er_n rc_isi (ar_cons (er_var 0) (ar_cons er_ty ar_nil)))))) : SR K _ (t_law_is_integer))
theorem sc_law_rows : FnScope N_law_rows ["_law_seats", "_law_count", "_law_cell_here"] (defScope s_law_rows) := ⟨rfl, rfl, rfl, by decide +kernel, rfl, by decide +kernel, by decide +kernel⟩
theorem ok_law_rows (T : Txt K mg) : FnOk P w K mg base CX0 2 T.f_law_rows T.fd_law_rows ["_law_seats", "_law_count", "_law_cell_here"] (spG K 3 (g_law_rows)) := by
  have G_law_draws := ok_law_draws (P := P) (w := w) (base := base) T
  have G_law_bits := ok_law_bits (P := P) (w := w) (base := base) T
  refine fnG (m := 7) T.F_law_rows sc_law_rows rfl rfl (fun cdv A outer s H E hr => ?_)
  have hu := hr.units
  refine ⟨_, (pss_cons (ps_set (i := 3) sc_law_rows.nd rfl (by first | exact Or.inl rfl | exact Or.inr rfl) (pe_call G_law_draws (hr.mono (by decide)) (by rfl) T.g_law_draws T.F_law_draws.kp T.b_law_draws .nil pass0 (pa_cons (pv 2) (pa_cons (pe_op op_addA (pe_op op_addA (pe_lst (pa_cons pe_int pa_nil)) (pe_op op_mulA (pe_lst (pa_cons pe_int pa_nil)) pe_int)) (pe_op op_mulA (pe_lst (pa_cons pe_int pa_nil)) pe_int)) pa_nil))))
 (pss_cons (ps_set (i := 4) sc_law_rows.nd rfl (by first | exact Or.inl rfl | exact Or.inr rfl) (pe_lst pa_nil))
 (pss_cons (ps_for PassesOwn.never rfl (pi_range1 (by rfl) T.m_range (pa_cons (pv 1) pa_nil)) (pg_name (i := 5) sc_law_rows.nd rfl (by first | exact Or.inl rfl | exact Or.inr rfl))
 (pss_cons (ps_set (i := 6) sc_law_rows.nd rfl (by first | exact Or.inl rfl | exact Or.inr rfl) (pe_op op_mod (pe_callTy call_int1 (by rfl) T.m_int bt_int (pa_cons (pe_ix ix_seq (pv 3) (pe_op op_addA pe_int (pv 5)) (fun _ _ => rfl)) pa_nil)) (pv 0)))
 (pss_cons (ps_set (i := 7) sc_law_rows.nd rfl (by first | exact Or.inl rfl | exact Or.inr rfl) (pe_call G_law_bits (hr.mono (by decide)) (by rfl) T.g_law_bits T.F_law_bits.kp T.b_law_bits .nil pass0 (pa_cons (pe_ix ix_seq (pv 3) (pe_op op_addA pe_int (pv 5)) (fun _ _ => rfl)) (pa_cons (pv 0) pa_nil))))
 (pss_cons (ps_if (pt_cmpR (op_eqD hu) (pe_ix ix_seq (pv 3) pe_int (fun _ _ => rfl)) pe_int (nomark _))
 (pss_cons (ps_set (i := 8) sc_law_rows.nd rfl (by first | exact Or.inl rfl | exact Or.inr rfl) (pe_op op_mod (pe_callTy call_int1 (by rfl) T.m_int bt_int (pa_cons (pe_ix ix_seq (pv 3) (pe_op op_addA pe_int (pv 5)) (fun _ _ => rfl)) pa_nil)) (pv 0)))
 (pss_one (ps_setLc (i := 7) (own := [("_law_j", 9)]) (g := (gName 9)) (tt := (tOr (tTest (tOp (rEqD K) (tVar 9) (tVar 6))) (tTest (tOp (rEqD K) (tVar 9) (tVar 8))))) (te := (tVar 9)) rfl sc_law_rows.nd rfl rfl (sw_true rfl rfl rfl (by decide +kernel)) (pi_range1 (by rfl) T.m_range (pa_cons (pv 0) pa_nil)) (blkOk_by (N := N_law_rows) (sc := defScope s_law_rows) (by decide +kernel)) (fun _ _ _ _ _ => (pg_name (i := 9) sc_law_rows.nd rfl (by first | exact Or.inl rfl | exact Or.inr rfl))) (fun _ _ _ _ _ => (pts_one ((pw_or (pt_cmpR (op_eqD hu) (pv 9) (pv 6) (nomark _)) (pw_or1 (pt_cmpR (op_eqD hu) (pv 9) (pv 8) (nomark _))))).pt)) (fun _ _ _ _ _ => (pv 9)))))
 pss_nil)
 (pss_cons (ps_if ((pw_and (pt_cmpR (op_eqD hu) (pe_ix ix_seq (pv 3) pe_int (fun _ _ => rfl)) pe_int (nomark _)) (pw_and1 (pt_cmpR op_gt (pe_callB call_lenA (by rfl) T.m_len bt_len (pa_cons (pv 7) pa_nil)) pe_int (nomark _))))).pt
 (pss_one (ps_set (i := 7) sc_law_rows.nd rfl (by first | exact Or.inl rfl | exact Or.inr rfl) (pe_slice sl_list (pv 7) (po_some pe_int) (po_some pe_int))))
 pss_nil)
 (pss_cons (ps_if ((pw_and (pt_cmpR (op_eqD hu) (pe_ix ix_seq (pv 3) pe_int (fun _ _ => rfl)) pe_int (nomark _)) (pw_and1 (pt_cmpR op_gt (pv 5) pe_int (nomark _))))).pt
 (pss_one (ps_set (i := 7) sc_law_rows.nd rfl (by first | exact Or.inl rfl | exact Or.inr rfl) (pe_callTy call_list_of (by rfl) T.m_list bt_list (pa_cons (pe_ix ix_seq (pv 4) (pe_op op_mod (pe_callTy call_int1 (by rfl) T.m_int bt_int (pa_cons (pe_ix ix_seq (pv 3) (pe_op op_addA pe_int (pv 5)) (fun _ _ => rfl)) pa_nil)) pe_int) (fun _ _ => rfl)) pa_nil))))
 pss_nil)
 (pss_cons (ps_if (pt_cmpR (op_eqD hu) (pe_callB call_lenA (by rfl) T.m_len bt_len (pa_cons (pv 7) pa_nil)) pe_int (nomark _))
 (pss_one (ps_set (i := 7) sc_law_rows.nd rfl (by first | exact Or.inl rfl | exact Or.inr rfl) (pe_lst (pa_cons (pv 6) pa_nil))))
 pss_nil)
 (pss_one (ps_expr (pe_bm PySem.F.plainAttrs_list PySem.F.slot_list_append PySem.F.type_list_append mt_append (pv 4) (pa_cons (pe_callTy call_tuple_of (by rfl) T.m_tuple bt_tuple (pa_cons (pv 7) pa_nil)) pa_nil)))))))))))
 (pss_one (ps_ret (pv 4)))))), ?_⟩
  exact ((sr_seq (sr_asg (er_call (ar_cons (er_var 2) (ar_cons (er_2 rr_add (er_2 rr_add (er_lst (ar_cons er_int ar_nil)) (er_2 rr_mul (er_lst (ar_cons er_int ar_nil)) er_int)) (er_2 rr_mul (er_lst (ar_cons er_int ar_nil)) er_int)) ar_nil))) (gr'_name 3))
 (sr_seq (sr_asgO (eo_lst ar_nil))
 (sr_seq (sr_for (ir_rng1 (ar_cons (er_var 1) ar_nil)) (gr'_name 5)
 (sr_seq (sr_asg (er_2 rr_mod (er_n rc_int (ar_cons (er_2 rr_ix (er_var 3) (er_2 rr_add er_int (er_var 5))) ar_nil)) (er_var 0)) (gr'_name 6))
 (sr_seq (sr_asg (er_call (ar_cons (er_2 rr_ix (er_var 3) (er_2 rr_add er_int (er_var 5))) (ar_cons (er_var 0) ar_nil))) (gr'_name 7))
 (sr_seq (sr_if (tr_test (er_2 rr_eq (er_2 rr_ix (er_var 3) er_int) er_int))
 (sr_seq (sr_asg (er_2 rr_mod (er_n rc_int (ar_cons (er_2 rr_ix (er_var 3) (er_2 rr_add er_int (er_var 5))) ar_nil)) (er_var 0)) (gr'_name 8))
 (sr_asg (er_of_eo (eo_lc (vs := [9]) (ir_rng1 (ar_cons (er_var 0) ar_nil)) (grc_name (j := 9) (by decide)) (tr_or (tr_test (er_2 rr_eq (er_var 9) (er_var 6))) (tr_test (er_2 rr_eq (er_var 9) (er_var 8)))) (er_var 9))) (gr'_name 7)))
 sr_next)
 (sr_seq (sr_if (tr_and (tr_test (er_2 rr_eq (er_2 rr_ix (er_var 3) er_int) er_int)) (tr_test (er_2 rr_gt (er_n rc_len (ar_cons (er_var 7) ar_nil)) er_int)))
 (sr_asg (er_sl (er_var 7) (or_some er_int) (or_some er_int)) (gr'_name 7))
 sr_next)
 (sr_seq (sr_if (tr_and (tr_test (er_2 rr_eq (er_2 rr_ix (er_var 3) er_int) er_int)) (tr_test (er_2 rr_gt (er_var 5) er_int)))
 (sr_asg (Zq5.er_peekN (eo_list (er_2 rr_ix (er_var 4) (er_2 rr_mod (er_n rc_int (ar_cons (er_2 rr_ix (er_var 3) (er_2 rr_add er_int (er_var 5))) ar_nil)) er_int)))) (gr'_name 7))
 sr_next)
 (sr_seq (sr_if (tr_test (er_2 rr_eq (er_n rc_len (ar_cons (er_var 7) ar_nil)) er_int))
 (sr_asg (er_lst (ar_cons (er_var 6) ar_nil)) (gr'_name 7))
 sr_next)
 (sr_app (i := 4) (er_n rc_tuple (ar_cons (er_var 7) ar_nil))))))))))
 (sr_retV 4)))) : SR K _ (t_law_rows))
theorem sc_law_tuples : FnScope N_law_tuples ["_law_items"] (defScope s_law_tuples) := ⟨rfl, rfl, rfl, by decide +kernel, rfl, by decide +kernel, by decide +kernel⟩
theorem ok_law_tuples (T : Txt K mg) : FnOk P w K mg base CX0 1 T.f_law_tuples T.fd_law_tuples ["_law_items"] (spG K 1 (g_law_tuples)) := by
  refine fnG (m := 6) T.F_law_tuples sc_law_tuples rfl rfl (fun cdv A outer s H E hr => ?_)
  have hu := hr.units
  refine ⟨_, (pss_cons (ps_set (i := 1) sc_law_tuples.nd rfl (by first | exact Or.inl rfl | exact Or.inr rfl) (pe_lst (pa_cons (pe_tup pa_nil) pa_nil)))
 (pss_cons (ps_set (i := 2) sc_law_tuples.nd rfl (by first | exact Or.inl rfl | exact Or.inr rfl) (pe_lst (pa_cons (pe_tup pa_nil) pa_nil)))
 (pss_cons (ps_for PassesOwn.never rfl (pi_range1 (by rfl) T.m_range (pa_cons (pe_callB call_lenA (by rfl) T.m_len bt_len (pa_cons (pv 0) pa_nil)) pa_nil)) (pg_name (i := 3) sc_law_tuples.nd rfl (by first | exact Or.inl rfl | exact Or.inr rfl))
 (pss_cons (ps_set (i := 4) sc_law_tuples.nd rfl (by first | exact Or.inl rfl | exact Or.inr rfl) (pe_lst pa_nil))
 (pss_cons (ps_for PassesOwn.never rfl (pi_seq (pe_callTy call_list_of (by rfl) T.m_list bt_list (pa_cons (pv 2) pa_nil))) (pg_name (i := 5) sc_law_tuples.nd rfl (by first | exact Or.inl rfl | exact Or.inr rfl))
 (pss_one (ps_for PassesOwn.never rfl (pi_seq (pv 0)) (pg_name (i := 6) sc_law_tuples.nd rfl (by first | exact Or.inl rfl | exact Or.inr rfl))
 (pss_one (ps_if ((pw_or (pt_cmpR (op_eqD hu) (pe_callB call_lenA (by rfl) T.m_len bt_len (pa_cons (pv 5) pa_nil)) pe_int (nomark _)) (pw_or1 (pt_cmpR op_lt (pe_ix ix_seq (pv 5) (pe_op op_sub (pe_callB call_lenA (by rfl) T.m_len bt_len (pa_cons (pv 5) pa_nil)) pe_int) (fun _ _ => rfl)) (pv 6) (nomark _))))).pt
 (pss_one (ps_expr (pe_bm PySem.F.plainAttrs_list PySem.F.slot_list_append PySem.F.type_list_append mt_append (pv 4) (pa_cons (pe_op op_catA (pv 5) (pe_tup (pa_cons (pv 6) pa_nil))) pa_nil))))
 pss_nil)))))
 (pss_cons (ps_set (i := 1) sc_law_tuples.nd rfl (by first | exact Or.inl rfl | exact Or.inr rfl) (pe_op op_addA (pv 1) (pv 4)))
 (pss_one (ps_set (i := 2) sc_law_tuples.nd rfl (by first | exact Or.inl rfl | exact Or.inr rfl) (pv 4)))))))
 (pss_one (ps_ret (pv 1)))))), ?_⟩
  exact ((sr_seq (sr_asg (er_lst (ar_cons (er_tup ar_nil) ar_nil)) (gr'_name 1))
 (sr_seq (sr_asg (er_lst (ar_cons (er_tup ar_nil) ar_nil)) (gr'_name 2))
 (sr_seq (sr_for (ir_rng1 (ar_cons (er_n rc_len (ar_cons (er_var 0) ar_nil)) ar_nil)) (gr'_name 3)
 (sr_seq (sr_asgO (eo_lst ar_nil))
 (sr_seq (sr_for (ir_seq (er_n rc_list (ar_cons (er_var 2) ar_nil))) (gr'_name 5)
 (sr_for (ir_seq (er_var 0)) (gr'_name 6)
 (sr_if (tr_or (tr_test (er_2 rr_eq (er_n rc_len (ar_cons (er_var 5) ar_nil)) er_int)) (tr_test (er_2 rr_lt (er_2 rr_ix (er_var 5) (er_2 rr_sub (er_n rc_len (ar_cons (er_var 5) ar_nil)) er_int)) (er_var 6))))
 (sr_app (i := 4) (er_2 Zm.rr_cat (er_var 5) (er_tup (ar_cons (er_var 6) ar_nil))))
 sr_next)))
 (sr_seq (sr_frz [4] (sr_asg (er_2 rr_add (er_var 1) (er_var 4)) (gr'_name 1)))
 (sr_frz [4] (sr_asg (er_var 4) (gr'_name 2)))))))
 (sr_ret (er_var 1))))) : SR K _ (t_law_tuples))
theorem sc_law_fault : FnScope N_law_fault ["_law_choice", "_law_seats", "_law_cap", "_law_at_once"] (defScope s_law_fault) := ⟨rfl, rfl, rfl, by decide +kernel, rfl, by decide +kernel, by decide +kernel⟩
theorem ok_law_fault (T : Txt K mg) : FnOk P w K mg base CX0 2 T.f_law_fault T.fd_law_fault ["_law_choice", "_law_seats", "_law_cap", "_law_at_once"] (spG K 4 (g_law_fault)) := by
  have G_law_tuples := ok_law_tuples (P := P) (w := w) (base := base) T
  refine fnG (m := 6) T.F_law_fault sc_law_fault rfl rfl (fun cdv A outer s H E hr => ?_)
  have hu := hr.units
  refine ⟨_, (pss_cons (ps_for PassesOwn.never rfl (pi_range1 (by rfl) T.m_range (pa_cons (pv 1) pa_nil)) (pg_name (i := 4) sc_law_fault.nd rfl (by first | exact Or.inl rfl | exact Or.inr rfl))
 (pss_cons (ps_setLc (i := 5) (own := [("_law_row", 8)]) (g := (gName 8)) (tt := (tTest (tOp (rIn K false) (tVar 4) (tVar 8)))) (te := (tVar 8)) rfl sc_law_fault.nd rfl rfl (sw_true rfl rfl rfl (by decide +kernel)) (pi_seq (pv 0)) (blkOk_by (N := N_law_fault) (sc := defScope s_law_fault) (by decide +kernel)) (fun _ _ _ _ _ => (pg_name (i := 8) sc_law_fault.nd rfl (by first | exact Or.inl rfl | exact Or.inr rfl))) (fun _ _ _ _ _ => (pts_one (pt_cmpR op_in_seq (pv 4) (pv 8) (by rfl)))) (fun _ _ _ _ _ => (pv 8)))
 (pss_one (ps_for PassesOwn.never rfl (pi_seq (pe_call G_law_tuples (hr.mono (by decide)) (by rfl) T.g_law_tuples T.F_law_tuples.kp T.b_law_tuples .nil pass0 (pa_cons (pe_lc (own := [("_law_j", 9)]) (g := (gName 9)) (tt := (tTest (tOp (rNeD K) (tVar 9) (tVar 4)))) (te := (tVar 9)) rfl sc_law_fault.nd (pi_range1 (by rfl) T.m_range (pa_cons (pv 1) pa_nil)) (blkOk_by (N := N_law_fault) (sc := defScope s_law_fault) (by decide +kernel)) (fun _ _ _ _ _ => (pg_name (i := 9) sc_law_fault.nd rfl (by first | exact Or.inl rfl | exact Or.inr rfl))) (fun _ _ _ _ _ => (pts_one (pt_cmpR (op_neD hu) (pv 9) (pv 4) (nomark _)))) (fun _ _ _ _ _ => (pv 9))) pa_nil))) (pg_name (i := 6) sc_law_fault.nd rfl (by first | exact Or.inl rfl | exact Or.inr rfl))
 (pss_cons (ps_set (i := 7) sc_law_fault.nd rfl (by first | exact Or.inl rfl | exact Or.inr rfl) pe_int)
 (pss_cons (ps_for PassesOwn.never rfl (pi_seq (pv 5)) (pg_name (i := 8) sc_law_fault.nd rfl (by first | exact Or.inl rfl | exact Or.inr rfl))
 (pss_one (ps_if (pt_cmpR (op_eqD hu) (pe_callB call_lenA (by rfl) T.m_len bt_len (pa_cons (pe_lc (own := [("_law_j", 9)]) (g := (gName 9)) (tt := (tAnd (tTest (tOp (rNeD K) (tVar 9) (tVar 4))) (tTest (tOp (rIn K true) (tVar 9) (tVar 6))))) (te := (tVar 9)) rfl sc_law_fault.nd (pi_seq (pv 8)) (blkOk_by (N := N_law_fault) (sc := defScope s_law_fault) (by decide +kernel)) (fun _ _ _ _ _ => (pg_name (i := 9) sc_law_fault.nd rfl (by first | exact Or.inl rfl | exact Or.inr rfl))) (fun _ _ _ _ _ => (pts_one ((pw_and (pt_cmpR (op_neD hu) (pv 9) (pv 4) (nomark _)) (pw_and1 (pt_cmpR op_notIn_seq (pv 9) (pv 6) (by rfl))))).pt)) (fun _ _ _ _ _ => (pv 9))) pa_nil)) pe_int (nomark _))
 (pss_one (ps_set (i := 7) sc_law_fault.nd rfl (by first | exact Or.inl rfl | exact Or.inr rfl) (pe_op op_addA (pv 7) pe_int)))
 pss_nil)))
 (pss_one (ps_if (pt_cmpR op_gt (pv 7) (pe_op op_mulA (pv 2) (pe_callB (call_maxA rfl) (by rfl) T.m_max bt_max (pa_cons pe_int (pa_cons (pe_op op_addA (pe_op op_sub (pe_callB call_lenA (by rfl) T.m_len bt_len (pa_cons (pv 6) pa_nil)) (pv 3)) pe_int) pa_nil)))) (nomark _))
 (pss_one (ps_ret (pe_tup (pa_cons (pv 4) (pa_cons (pv 6) pa_nil)))))
 pss_nil))))))))
 (pss_one (ps_ret pe_non))), ?_⟩
  exact ((sr_seq (sr_for (ir_rng1 (ar_cons (er_var 1) ar_nil)) (gr'_name 4)
 (sr_seq (sr_asg (er_of_eo (eo_lc (vs := [8]) (ir_seq (er_var 0)) (grc_name (j := 8) (by decide)) (tr_test (er_2 rr_in (er_var 4) (er_var 8))) (er_var 8))) (gr'_name 5))
 (sr_for (ir_seq (er_call (ar_cons (er_of_eo (eo_lc (vs := [9]) (ir_rng1 (ar_cons (er_var 1) ar_nil)) (grc_name (j := 9) (by decide)) (tr_test (er_2 rr_ne (er_var 9) (er_var 4))) (er_var 9))) ar_nil))) (gr'_name 6)
 (sr_seq (sr_asg er_int (gr'_name 7))
 (sr_seq (sr_for (ir_seq (er_var 5)) (gr'_name 8)
 (sr_if (tr_test (er_2 rr_eq (er_n rc_len (ar_cons (er_of_eo (eo_lc (vs := [9]) (ir_seq (er_var 8)) (grc_name (j := 9) (by decide)) (tr_and (tr_test (er_2 rr_ne (er_var 9) (er_var 4))) (tr_test (er_2 rr_nin (er_var 9) (er_var 6)))) (er_var 9))) ar_nil)) er_int))
 (sr_asg (er_2 rr_add (er_var 7) er_int) (gr'_name 7))
 sr_next))
 (sr_if (tr_test (er_2 rr_gt (er_var 7) (er_2 rr_mul (er_var 2) (er_n rc_max (ar_cons er_int (ar_cons (er_2 rr_add (er_2 rr_sub (er_n rc_len (ar_cons (er_var 6) ar_nil)) (er_var 3)) er_int) ar_nil))))))
 (sr_ret (er_tup (ar_cons (er_var 4) (ar_cons (er_var 6) ar_nil))))
 sr_next))))))
 (sr_ret er_non)) : SR K _ (t_law_fault))
theorem sc_law_is_fault : FnScope N_law_is_fault ["_law_actual", "_law_due"] (defScope s_law_is_fault) := ⟨rfl, rfl, rfl, by decide +kernel, rfl, by decide +kernel, by decide +kernel⟩
theorem ok_law_is_fault (T : Txt K mg) : FnOk P w K mg base CX0 2 T.f_law_is_fault T.fd_law_is_fault ["_law_actual", "_law_due"] (spG K 2 (g_law_is_fault)) := by
  have G_law_is_integer := ok_law_is_integer (P := P) (w := w) (base := base) T
  refine fnG (m := 1) T.F_law_is_fault sc_law_is_fault rfl rfl (fun cdv A outer s H E hr => ?_)
  have hu := hr.units
  refine ⟨_, (pss_cons (ps_if (pt_cmpR op_isN (pv 1) pe_non (nomark _))
 (pss_one (ps_ret (pe_cmpR op_isN (pv 0) pe_non (nomark _))))
 pss_nil)
 (pss_cons (ps_if ((pw_or (pt_not (pt_truth (pe_callB call_isi (by rfl) T.m_isinstance bt_isinstance (pa_cons (pv 0) (pa_cons (pe_bltn (v := .ty "tuple") (by rfl) T.m_tuple bt_tuple rfl) pa_nil))) (fun _ => rfl))) (pw_or (pt_cmpR (op_neD hu) (pe_callB call_lenA (by rfl) T.m_len bt_len (pa_cons (pv 0) pa_nil)) pe_int (nomark _)) (pw_or1 (pt_not (pt_truth (pe_call G_law_is_integer (hr.mono (by decide)) (by rfl) T.g_law_is_integer T.F_law_is_integer.kp T.b_law_is_integer .nil pass0 (pa_cons (pe_ix ix_seq (pv 0) pe_int (fun _ _ => rfl)) pa_nil)) (fun _ => rfl))))))).pt
 (pss_one (ps_ret pe_bl))
 pss_nil)
 (pss_cons (ps_if (pt_not (pt_truth (pe_callB call_isi (by rfl) T.m_isinstance bt_isinstance (pa_cons (pe_ix ix_seq (pv 0) pe_int (fun _ _ => rfl)) (pa_cons (pe_bltn (v := .ty "tuple") (by rfl) T.m_tuple bt_tuple rfl) pa_nil))) (fun _ => rfl)))
 (pss_one (ps_ret pe_bl))
 pss_nil)
 (pss_cons (ps_for PassesOwn.never rfl (pi_seq (pe_ix ix_seq (pv 0) pe_int (fun _ _ => rfl))) (pg_name (i := 2) sc_law_is_fault.nd rfl (by first | exact Or.inl rfl | exact Or.inr rfl))
 (pss_one (ps_if (pt_not (pt_truth (pe_call G_law_is_integer (hr.mono (by decide)) (by rfl) T.g_law_is_integer T.F_law_is_integer.kp T.b_law_is_integer .nil pass0 (pa_cons (pv 2) pa_nil)) (fun _ => rfl)))
 (pss_one (ps_ret pe_bl))
 pss_nil)))
 (pss_one (ps_ret (pe_cmpR (op_eqD hu) (pv 0) (pv 1) (nomark _)))))))), ?_⟩
  exact ((sr_seq (sr_if (tr_test (er_2 rr_is (er_var 1) er_non))
 (sr_ret (er_2 rr_is (er_var 0) er_non))
 sr_next)
 (sr_seq (sr_if (tr_or (tr_not (tr_tru (er_n rc_isi (ar_cons (er_var 0) (ar_cons er_ty ar_nil))))) (tr_or (tr_test (er_2 rr_ne (er_n rc_len (ar_cons (er_var 0) ar_nil)) er_int)) (tr_not (tr_tru (er_call (ar_cons (er_2 rr_ix (er_var 0) er_int) ar_nil))))))
 (sr_ret er_bl)
 sr_next)
 (sr_seq (sr_if (tr_not (tr_tru (er_n rc_isi (ar_cons (er_2 rr_ix (er_var 0) er_int) (ar_cons er_ty ar_nil)))))
 (sr_ret er_bl)
 sr_next)
 (sr_seq (sr_for (ir_seq (er_2 rr_ix (er_var 0) er_int)) (gr'_name 2)
 (sr_if (tr_not (tr_tru (er_call (ar_cons (er_var 2) ar_nil))))
 (sr_ret er_bl)
 sr_next))
 (sr_ret (er_2 rr_eq (er_var 0) (er_var 1))))))) : SR K _ (t_law_is_fault))
theorem sc_law : FnScope N_law ["_law_script"] (defScope s_law) := ⟨rfl, rfl, rfl, by decide +kernel, rfl, by decide +kernel, by decide +kernel⟩
theorem ok_law (T : Txt K mg) : FnOk P w K mg base CX0 3 T.f_law T.fd_law ["_law_script"] (spG K 1 (g_law)) := by
  have G_law_cell := ok_law_cell (P := P) (w := w) (base := base) T
  have G_law_draws := ok_law_draws (P := P) (w := w) (base := base) T
  have G_law_rows := ok_law_rows (P := P) (w := w) (base := base) T
  have G_count_fault := ok_count_fault (P := P) (w := w) (base := base) T
  have G_law_fault := ok_law_fault (P := P) (w := w) (base := base) T
  have G_law_is_fault := ok_law_is_fault (P := P) (w := w) (base := base) T
  refine fnG (m := 11) T.F_law sc_law rfl rfl (fun cdv A outer s H E hr => ?_)
  have hu := hr.units
  refine ⟨_, (pss_cons (ps_set (i := 1) sc_law.nd rfl (by first | exact Or.inl rfl | exact Or.inr rfl) (pe_call G_law_draws (hr.mono (by decide)) (by rfl) T.g_law_draws T.F_law_draws.kp T.b_law_draws .nil pass0 (pa_cons (pe_call G_law_cell (hr.mono (by decide)) (by rfl) T.g_law_cell T.F_law_cell.kp T.b_law_cell .nil pass0 (pa_cons (pv 0) (pa_cons pe_int pa_nil))) (pa_cons (pe_lst (pa_cons pe_int (pa_cons pe_int (pa_cons pe_int (pa_cons pe_int (pa_cons pe_int (pa_cons pe_int pa_nil))))))) pa_nil))))
 (pss_cons (ps_set (i := 2) sc_law.nd rfl (by first | exact Or.inl rfl | exact Or.inr rfl) pe_int)
 (pss_cons (ps_if (pt_cmpR (op_eqD hu) (pe_ix ix_seq (pv 1) pe_int (fun _ _ => rfl)) pe_int (nomark _))
 (pss_one (ps_set (i := 2) sc_law.nd rfl (by first | exact Or.inl rfl | exact Or.inr rfl) pe_int))
 pss_nil)
 (pss_cons (ps_set (i := 3) sc_law.nd rfl (by first | exact Or.inl rfl | exact Or.inr rfl) (pe_op op_addA pe_int (pe_op op_mod (pe_callTy call_int1 (by rfl) T.m_int bt_int (pa_cons (pe_ix ix_seq (pv 1) pe_int (fun _ _ => rfl)) pa_nil)) (pv 2))))
 (pss_cons (ps_set (i := 4) sc_law.nd rfl (by first | exact Or.inl rfl | exact Or.inr rfl) (pe_op op_mod (pe_callTy call_int1 (by rfl) T.m_int bt_int (pa_cons (pe_ix ix_seq (pv 1) pe_int (fun _ _ => rfl)) pa_nil)) (pe_op op_addA (pv 2) pe_int)))
 (pss_cons (ps_set (i := 5) sc_law.nd rfl (by first | exact Or.inl rfl | exact Or.inr rfl) (pe_ix ix_seq (pe_tup (pa_cons pe_int (pa_cons pe_int (pa_cons pe_int (pa_cons pe_int (pa_cons pe_int (pa_cons pe_int (pa_cons (pe_op op_addA (pe_op op_pow pe_int pe_int) (pe_ix ix_seq (pv 1) pe_int (fun _ _ => rfl))) pa_nil)))))))) (pe_ix ix_seq (pv 1) pe_int (fun _ _ => rfl)) (fun _ _ => rfl)))
 (pss_cons (ps_set (i := 6) sc_law.nd rfl (by first | exact Or.inl rfl | exact Or.inr rfl) (pe_ix ix_seq (pe_tup (pa_cons pe_int (pa_cons pe_int (pa_cons pe_int (pa_cons pe_int (pa_cons pe_int (pa_cons pe_int (pa_cons pe_int (pa_cons pe_int (pa_cons pe_int (pa_cons pe_int (pa_cons pe_int (pa_cons (pe_op op_addA (pe_op op_pow pe_int pe_int) (pe_ix ix_seq (pv 1) pe_int (fun _ _ => rfl))) pa_nil))))))))))))) (pe_ix ix_seq (pv 1) pe_int (fun _ _ => rfl)) (fun _ _ => rfl)))
 (pss_cons (ps_set (i := 7) sc_law.nd rfl (by first | exact Or.inl rfl | exact Or.inr rfl) (pe_call G_law_rows (hr.mono (by decide)) (by rfl) T.g_law_rows T.F_law_rows.kp T.b_law_rows .nil pass0 (pa_cons (pv 3) (pa_cons (pe_op op_addA (pv 4) pe_int) (pa_cons (pe_call G_law_cell (hr.mono (by decide)) (by rfl) T.g_law_cell T.F_law_cell.kp T.b_law_cell .nil pass0 (pa_cons (pv 0) (pa_cons pe_int pa_nil))) pa_nil)))))
 (pss_cons (ps_set (i := 8) sc_law.nd rfl (by first | exact Or.inl rfl | exact Or.inr rfl) (pe_slice sl_list (pv 7) po_none (po_some (pv 4))))
 (pss_cons (ps_set (i := 9) sc_law.nd rfl (by first | exact Or.inl rfl | exact Or.inr rfl) (pe_callTy call_list_of (by rfl) T.m_list bt_list (pa_cons (pv 8) pa_nil)))
 (pss_cons (ps_set (i := 10) sc_law.nd rfl (by first | exact Or.inl rfl | exact Or.inr rfl) (pe_call G_count_fault (hr.mono (by decide)) (by rfl) T.g_count_fault T.F_count_fault.kp T.b_count_fault .nil pass0 (pa_cons (pv 9) (pa_cons (pv 3) (pa_cons (pv 5) (pa_cons (pv 6) pa_nil))))))
 (pss_cons (ps_if ((pw_or (pt_cmpR (op_neD hu) (pv 9) (pv 8) (nomark _)) (pw_or1 (pt_not (pt_truth (pe_call G_law_is_fault (hr.mono (by decide)) (by rfl) T.g_law_is_fault T.F_law_is_fault.kp T.b_law_is_fault .nil pass0 (pa_cons (pv 10) (pa_cons (pe_call G_law_fault (hr.mono (by decide)) (by rfl) T.g_law_fault T.F_law_fault.kp T.b_law_fault .nil pass0 (pa_cons (pv 8) (pa_cons (pv 3) (pa_cons (pv 5) (pa_cons (pv 6) pa_nil))))) pa_nil))) (fun _ => rfl)))))).pt
 (pss_one (ps_ret pe_bl))
 pss_nil)
 (pss_cons (ps_set (i := 11) sc_law.nd rfl (by first | exact Or.inl rfl | exact Or.inr rfl) (pe_ix ix_seq (pv 7) (pv 4) (fun _ _ => rfl)))
 (pss_cons (ps_if (pt_cmpR (op_eqD hu) (pe_ix ix_seq (pv 1) pe_int (fun _ _ => rfl)) pe_int (nomark _))
 (pss_one (ps_set (i := 11) sc_law.nd rfl (by first | exact Or.inl rfl | exact Or.inr rfl) (pe_ix ix_seq (pv 7) pe_int (fun _ _ => rfl))))
 pss_nil)
 (pss_cons (ps_expr (pe_bm PySem.F.plainAttrs_list PySem.F.slot_list_append PySem.F.type_list_append mt_append (pv 9) (pa_cons (pv 11) pa_nil)))
 (pss_cons (ps_set (i := 10) sc_law.nd rfl (by first | exact Or.inl rfl | exact Or.inr rfl) (pe_call G_count_fault (hr.mono (by decide)) (by rfl) T.g_count_fault T.F_count_fault.kp T.b_count_fault .nil pass0 (pa_cons (pv 9) (pa_cons (pv 3) (pa_cons (pv 5) (pa_cons (pv 6) pa_nil))))))
 (pss_cons (ps_if (pt_cmpR (op_neD hu) (pv 9) (pe_op op_addA (pv 8) (pe_lst (pa_cons (pv 11) pa_nil))) (nomark _))
 (pss_one (ps_ret pe_bl))
 pss_nil)
 (pss_one (ps_ret (pe_call G_law_is_fault (hr.mono (by decide)) (by rfl) T.g_law_is_fault T.F_law_is_fault.kp T.b_law_is_fault .nil pass0 (pa_cons (pv 10) (pa_cons (pe_call G_law_fault (hr.mono (by decide)) (by rfl) T.g_law_fault T.F_law_fault.kp T.b_law_fault .nil pass0 (pa_cons (pe_op op_addA (pv 8) (pe_lst (pa_cons (pv 11) pa_nil))) (pa_cons (pv 3) (pa_cons (pv 5) (pa_cons (pv 6) pa_nil))))) pa_nil)))))))))))))))))))))), ?_⟩
  exact ((sr_seq (sr_asg (er_call (ar_cons (er_call (ar_cons (er_var 0) (ar_cons er_int ar_nil))) (ar_cons (er_lst (ar_cons er_int (ar_cons er_int (ar_cons er_int (ar_cons er_int (ar_cons er_int (ar_cons er_int ar_nil))))))) ar_nil))) (gr'_name 1))
 (sr_seq (sr_asg er_int (gr'_name 2))
 (sr_seq (sr_if (tr_test (er_2 rr_eq (er_2 rr_ix (er_var 1) er_int) er_int))
 (sr_asg er_int (gr'_name 2))
 sr_next)
 (sr_seq (sr_asg (er_2 rr_add er_int (er_2 rr_mod (er_n rc_int (ar_cons (er_2 rr_ix (er_var 1) er_int) ar_nil)) (er_var 2))) (gr'_name 3))
 (sr_seq (sr_asg (er_2 rr_mod (er_n rc_int (ar_cons (er_2 rr_ix (er_var 1) er_int) ar_nil)) (er_2 rr_add (er_var 2) er_int)) (gr'_name 4))
 (sr_seq (sr_asg (er_2 rr_ix (er_tup (ar_cons er_int (ar_cons er_int (ar_cons er_int (ar_cons er_int (ar_cons er_int (ar_cons er_int (ar_cons (er_2 rr_add (er_2 rr_pow er_int er_int) (er_2 rr_ix (er_var 1) er_int)) ar_nil)))))))) (er_2 rr_ix (er_var 1) er_int)) (gr'_name 5))
 (sr_seq (sr_asg (er_2 rr_ix (er_tup (ar_cons er_int (ar_cons er_int (ar_cons er_int (ar_cons er_int (ar_cons er_int (ar_cons er_int (ar_cons er_int (ar_cons er_int (ar_cons er_int (ar_cons er_int (ar_cons er_int (ar_cons (er_2 rr_add (er_2 rr_pow er_int er_int) (er_2 rr_ix (er_var 1) er_int)) ar_nil))))))))))))) (er_2 rr_ix (er_var 1) er_int)) (gr'_name 6))
 (sr_seq (sr_asg (er_call (ar_cons (er_var 3) (ar_cons (er_2 rr_add (er_var 4) er_int) (ar_cons (er_call (ar_cons (er_var 0) (ar_cons er_int ar_nil))) ar_nil)))) (gr'_name 7))
 (sr_seq (sr_asg (er_sl (er_var 7) or_none (or_some (er_var 4))) (gr'_name 8))
 (sr_seq (sr_asgO (eo_list (er_var 8)))
 (sr_seq (sr_asg (Zg.er_peekS (er_call (ar_cons (er_var 9) (ar_cons (er_var 3) (ar_cons (er_var 5) (ar_cons (er_var 6) ar_nil)))))) (gr'_name 10))
 (sr_seq (sr_if (tr_peek (tr_or (tr_test (er_2 rr_ne (er_var 9) (er_var 8))) (tr_not (tr_tru (er_call (ar_cons (er_var 10) (ar_cons (er_call (ar_cons (er_var 8) (ar_cons (er_var 3) (ar_cons (er_var 5) (ar_cons (er_var 6) ar_nil))))) ar_nil)))))))
 (sr_ret er_bl)
 sr_next)
 (sr_seq (sr_asg (er_2 rr_ix (er_var 7) (er_var 4)) (gr'_name 11))
 (sr_seq (sr_if (tr_test (er_2 rr_eq (er_2 rr_ix (er_var 1) er_int) er_int))
 (sr_asg (er_2 rr_ix (er_var 7) er_int) (gr'_name 11))
 sr_next)
 (sr_seq (sr_app (i := 9) (er_var 11))
 (sr_seq (sr_asg (Zg.er_peekS (er_call (ar_cons (er_var 9) (ar_cons (er_var 3) (ar_cons (er_var 5) (ar_cons (er_var 6) ar_nil)))))) (gr'_name 10))
 (sr_seq (sr_if (tr_peek (tr_test (er_2 rr_ne (er_var 9) (er_2 rr_add (er_var 8) (er_lst (ar_cons (er_var 11) ar_nil))))))
 (sr_ret er_bl)
 sr_next)
 (sr_ret (er_call (ar_cons (er_var 10) (ar_cons (er_call (ar_cons (er_2 rr_add (er_var 8) (er_lst (ar_cons (er_var 11) ar_nil))) (ar_cons (er_var 3) (ar_cons (er_var 5) (ar_cons (er_var 6) ar_nil))))) ar_nil))))))))))))))))))))) : SR K _ (t_law))
end
end Y
end

section
set_option Elab.async false
set_option linter.all false
set_option maxRecDepth 100000
set_option autoImplicit false
set_option maxHeartbeats 2000000
/-! Loops by a word. -/
namespace Zk
open PySem L2
def StepTo (o : Option Out) (J : Gm → Prop) : Prop := ∃ g, (o = some (.nx g) ∨ o = some (.ct g)) ∧ J g
theorem step_nx {g : Gm} {J : Gm → Prop} (h : J g) : StepTo (some (.nx g)) J := ⟨g, .inl rfl, h⟩
def Gets (o : Option Wd) (C : Wd → Prop) : Prop := ∃ w, o = some w ∧ C w
theorem gets_some {w : Wd} {C : Wd → Prop} (h : C w) : Gets (some w) C := ⟨w, rfl, h⟩
theorem loop_by {f : DGF} {s : SF} {ds : List D} (I : Nat → Gm → Prop) {g : Gm} (h0 : I 0 g) (hs : ∀ (i : Nat) (d : D) (g : Gm), ds[i]? = some d → I i g → ∃ g1, f d g = some g1 ∧ StepTo (s g1) (I (i + 1))) :
    ∃ g', loopD f s ds g = some (.nx g') ∧ I ds.length g' := loop_inv I h0 fun i d g hd hI => by
  obtain ⟨g1, h1, g2, h2, h3⟩ := hs i d g hd hI
  exact ⟨g1, g2, h1, h2, h3⟩
theorem loop_then {f : DGF} {s q : SF} {ds : List D} {C : Option Out → Prop} (I : Nat → Gm → Prop) {g : Gm} (h0 : I 0 g) (hs : ∀ (i : Nat) (d : D) (g : Gm), ds[i]? = some d → I i g → ∃ g1, f d g = some g1 ∧ StepTo (s g1) (I (i + 1)))
    (k : ∀ g', I ds.length g' → C (q g')) : C (apSeq (loopD f s ds g) q) := by
  obtain ⟨g', e, h⟩ := loop_by I h0 hs
  rw [e]
  exact k g' h
/-- over a range, the turn's number in slot k -/
theorem rng_by {s : SF} {n k : Nat} (I : Nat → Gm → Prop) {g : Gm} (h0 : I 0 g) (hk : ∀ i g, I i g → okSlot g k = true) (hs : ∀ (i : Nat) (g : Gm), i < n → I i g → StepTo (s (g.set k (some (.v (.int (i : Int)))))) (I (i + 1))) :
    ∃ g', loopD (dName k) s (rngL 0 n) g = some (.nx g') ∧ I n g' := by
  obtain ⟨g', e, h⟩ := loop_by (f := dName k) (s := s) (ds := rngL 0 n) I h0 fun i d g hd hI => by
    obtain ⟨hi, rfl⟩ := rng_get hd
    exact ⟨_, dName_ok (hk i g hI), by rw [Int.zero_add]; exact hs i g hi hI⟩
  rw [rng_len] at h
  exact ⟨g', e, h⟩
theorem rng_then {s q : SF} {n k : Nat} {C : Option Out → Prop} (I : Nat → Gm → Prop) {g : Gm} (h0 : I 0 g) (hk : ∀ i g, I i g → okSlot g k = true) (hs : ∀ (i : Nat) (g : Gm), i < n → I i g → StepTo (s (g.set k (some (.v (.int (i : Int)))))) (I (i + 1)))
    (kk : ∀ g', I n g' → C (q g')) : C (apSeq (loopD (dName k) s (rngL 0 n) g) q) := by
  obtain ⟨g', e, h⟩ := rng_by I h0 hk hs
  rw [e]
  exact kk g' h
/-- numbers below their sizes -/
def Below (ds sizes : List Int) : Prop := ds.length = sizes.length ∧ ∀ (i : Nat) (d s : Int), ds[i]? = some d → sizes[i]? = some s → 0 ≤ d ∧ d < s
theorem Below.get {ds sizes : List Int} (h : Below ds sizes) {i : Nat} {s : Int} (hs : sizes[i]? = some s) : ∃ d, ds[i]? = some d ∧ 0 ≤ d ∧ d < s := by
  have hi : i < sizes.length := (List.getElem?_eq_some_iff.mp hs).1
  rw [← h.1] at hi
  exact ⟨ds[i], List.getElem?_eq_getElem hi, h.2 i _ s (List.getElem?_eq_getElem hi) hs⟩
theorem pow10_12 : powD (.int 10) (.int 12) = some (.int 1000000000000) := by rfl
theorem pow10_18 : powD (.int 10) (.int 18) = some (.int 1000000000000000000) := by rfl
theorem pow10_39 : powD (.int 10) (.int 39) = some (.int (10 ^ 39)) := by rfl
theorem pow10_41 : powD (.int 10) (.int 41) = some (.int (10 ^ 41)) := by rfl
theorem pow10_59 : powD (.int 10) (.int 59) = some (.int (10 ^ 59)) := by rfl
theorem pow10_60 : powD (.int 10) (.int 60) = some (.int (10 ^ 60)) := by rfl
theorem ix_i {ns : List Int} {m : Nat} {j : Int} (h : ns[m]? = some j) : ixD (.lst (iL ns)) (.int (m : Int)) = some (.int j) := ix_l (by rw [iL_get, h] <;> rfl)

theorem mul_lz {ds : List D} {k : Int} (h : k ≤ 100000 ∧ -100000 ≤ k ∧ ds.length * k.toNat ≤ 100000) : mulD (.lst ds) (.int k) = some (.lst (List.replicate k.toNat ds).flatten) := if_pos h
/-- ascending numbers below n -/
def Asc (n : Nat) (hs : List Int) : Prop := hs.Pairwise (· < ·) ∧ ∀ h ∈ hs, 0 ≤ h ∧ h < (n : Int)
def rngI (lo : Int) (n : Nat) : List Int := (List.range n).map fun i => lo + ((i : Nat) : Int)
theorem rngI_iL {lo : Int} {n : Nat} : rngL lo n = iL (rngI lo n) := by unfold rngL rngI iL; rw [List.map_map]; rfl
theorem rngI_pw (lo : Int) (n : Nat) : (rngI lo n).Pairwise (· < ·) := by
  unfold rngI
  rw [List.pairwise_map]
  exact List.pairwise_lt_range.imp fun {a b} h => by omega
theorem rngI_mem {lo : Int} {n : Nat} {k : Int} : k ∈ rngI lo n ↔ lo ≤ k ∧ k < lo + n := by
  unfold rngI
  rw [List.mem_map]
  constructor
  · rintro ⟨i, hi, rfl⟩
    rw [List.mem_range] at hi
    omega
  · rintro ⟨h1, h2⟩
    exact ⟨(k - lo).toNat, List.mem_range.mpr (by omega), by omega⟩
theorem Asc.sub {n : Nat} {hs : List Int} (h : hs.Sublist (rngI 0 n)) : Asc n hs :=
  ⟨(rngI_pw 0 n).sublist h, fun k hk => by have := rngI_mem.mp (h.subset hk); omega⟩
theorem Asc.nodup {n : Nat} {hs : List Int} (h : Asc n hs) : hs.Nodup := h.1.imp fun q => by omega
theorem Asc.len {n : Nat} {hs : List Int} (h : Asc n hs) : hs.length ≤ n := by
  have s : ∀ (ks : List Int) (m : Int), ks.Pairwise (· < ·) → (∀ k ∈ ks, m ≤ k ∧ k < (n : Int)) → m ≤ n → (ks.length : Int) ≤ n - m := by
    intro ks
    induction ks with
    | nil => intro m _ _ hm; simp; omega
    | cons k ks ih =>
      intro m hp hk hm
      have hp' := List.pairwise_cons.mp hp
      have := hk k List.mem_cons_self
      have ih := ih (k + 1) hp'.2 (fun j hj => ⟨by have := hp'.1 j hj; omega, (hk j (List.mem_cons_of_mem _ hj)).2⟩) (by omega)
      rw [List.length_cons]
      omega
  have := s hs 0 h.1 (fun k hk => h.2 k hk) (by omega)
  omega
/-- a comprehension over a range that hands on its own numbers -/
theorem lc_sub {tg : DGF} {tt : DTF} {te : DF} {g : Gm} (lo : Int) : ∀ (is : List Nat), (∀ i, i ∈ is → ∃ g1 b, tg (.int (lo + (i : Nat))) g = some g1 ∧ tt g1 = some b ∧ te g1 = some (.int (lo + (i : Nat)))) →
    ∃ ns, lcL tg tt te g (is.map fun i => .int (lo + ((i : Nat) : Int))) = some (iL ns) ∧ ns.Sublist (is.map fun i => lo + ((i : Nat) : Int))
  | [], _ => ⟨[], rfl, .slnil⟩
  | i :: is, h => by
    obtain ⟨g1, b, h1, h2, h3⟩ := h i List.mem_cons_self
    obtain ⟨ns, h4, h5⟩ := lc_sub lo is fun i hi => h i (List.mem_cons_of_mem _ hi)
    rw [List.map_cons, List.map_cons]
    unfold lcL
    rw [h1, Option.bind_some, h2, Option.bind_some]
    cases b with
    | true => exact ⟨(lo + (i : Nat)) :: ns, by rw [if_pos rfl, h3, Option.bind_some, h4]; rfl, h5.cons_cons _⟩
    | false => exact ⟨ns, by rw [if_neg Bool.false_ne_true, h4], h5.cons _⟩
theorem lc_rng {tg : DGF} {tt : DTF} {te : DF} {g : Gm} {n : Nat} (h : ∀ i, i < n → ∃ g1 b, tg (.int (i : Nat)) g = some g1 ∧ tt g1 = some b ∧ te g1 = some (.int (i : Nat))) :
    ∃ ns, lcL tg tt te g (rngL 0 n) = some (iL ns) ∧ Asc n ns := by
  obtain ⟨ns, h1, h2⟩ := lc_sub (tg := tg) (tt := tt) (te := te) (g := g) 0 (List.range n) fun i hi => by
    rw [Int.zero_add]
    exact h i (List.mem_range.mp hi)
  exact ⟨ns, h1, Asc.sub h2⟩
/-- pairs -/
def pr (a b : Int) : D := .tup [.int a, .int b]
def rowP (n a : Nat) : List D := (List.range (n - (a + 1))).map fun j => pr (a : Int) (((a + 1 + j : Nat)) : Int)
theorem rowP_len (n a : Nat) : (rowP n a).length = n - (a + 1) := by unfold rowP; rw [List.length_map, List.length_range]
theorem flat_len (n : Nat) : ∀ m : Nat, ((List.range m).flatMap (rowP n)).length ≤ m * n
  | 0 => by simp
  | m + 1 => by
    rw [List.range_succ, List.flatMap_append, List.length_append]
    have := flat_len n m
    have e : ([m].flatMap (rowP n)).length = n - (m + 1) := by simp [rowP_len]
    rw [e, Nat.add_one_mul]
    omega

theorem seq_then {o : Option Out} {q : SF} {C : Option Out → Prop} (J : Gm → Prop) (h : ∃ g, o = some (.nx g) ∧ J g) (k : ∀ g, J g → C (q g)) : C (apSeq o q) := by
  obtain ⟨g, e, h⟩ := h
  rw [e]
  exact k g h
/-- what was drawn, at a place -/
theorem Below.ix {ds sizes : List Int} (h : Below ds sizes) {m : Nat} {k s : Int} (e : k = (m : Int)) (hs : sizes[m]? = some s) : ∃ d, ixD (.lst (iL ds)) (.int k) = some (.int d) ∧ 0 ≤ d ∧ d < s := by
  obtain ⟨d, h1, h2⟩ := h.get hs
  exact ⟨d, by rw [e]; exact ix_i h1, h2⟩
theorem flat4_iL (ns : List Int) : (iL ns).all D.flat4 = true := by
  unfold iL
  rw [List.all_map]
  exact List.all_eq_true.mpr fun x _ => rfl
theorem any_iL (ns : List Int) (k : Int) : ((iL ns).any fun z => eqF z (.int k)) = ns.contains k := by
  unfold iL
  rw [List.any_map, List.contains_eq_any_beq]
  congr 1
  funext x
  show (x == k) = (k == x)
  exact Bool.eq_iff_iff.mpr ⟨fun h => by rw [eq_of_beq h]; exact beq_self_eq_true _, fun h => by rw [eq_of_beq h]; exact beq_self_eq_true _⟩
theorem in_l {ns : List Int} {k : Int} : inD (.int k) (.lst (iL ns)) = some (.bl (ns.contains k)) := by
  show (if ((D.int k).flat4 && (iL ns).all D.flat4) = true then some ((iL ns).any fun z => eqF z (.int k)) else none).map D.bl = _
  rw [flat4_iL, any_iL]
  rfl
theorem in_t {ns : List Int} {k : Int} : inD (.int k) (.tup (iL ns)) = some (.bl (ns.contains k)) := by
  show (if ((D.int k).flat4 && (iL ns).all D.flat4) = true then some ((iL ns).any fun z => eqF z (.int k)) else none).map D.bl = _
  rw [flat4_iL, any_iL]
  rfl
theorem in_pr {a b k : Int} : inD (.int k) (pr a b) = some (.bl ([a, b].contains k)) := in_t (ns := [a, b])
/-- rows of seats -/
def rowsL (hs : List (List Int)) : List D := hs.map fun h => .lst (iL h)
def rowsT (hs : List (List Int)) : List D := hs.map fun h => .tup (iL h)
structure PoolOk (caps : List Int) (hs : List (List Int)) (m : Nat) : Prop where
  s1 : 1 ≤ caps.length
  s12 : caps.length ≤ 12
  c0 : ∀ c ∈ caps, 0 ≤ c ∧ c < 10 ^ 60
  pm : hs.length ≤ m
  asc : ∀ h ∈ hs, Asc caps.length h
theorem cutL_sub {α : Type} (xs : List α) (lo hi : Option Int) : (cutL xs lo hi).Sublist xs := by
  unfold cutL
  exact (List.take_sublist _ _).trans (List.drop_sublist _ _)
theorem call1 {gf : PF} {a0 : D} : apCall 1 gf (some [a0]) = (gf [a0]).map Wd.d := (rfl)
theorem callO1 {gf : PF} {a0 : D} : apCallO 1 gf (some [a0]) = toO (gf [a0]) := (rfl)
theorem call2 {gf : PF} {a0 a1 : D} : apCall 2 gf (some [a0, a1]) = (gf [a0, a1]).map Wd.d := (rfl)
theorem callO2 {gf : PF} {a0 a1 : D} : apCallO 2 gf (some [a0, a1]) = toO (gf [a0, a1]) := (rfl)
theorem call3 {gf : PF} {a0 a1 a2 : D} : apCall 3 gf (some [a0, a1, a2]) = (gf [a0, a1, a2]).map Wd.d := (rfl)
theorem callO3 {gf : PF} {a0 a1 a2 : D} : apCallO 3 gf (some [a0, a1, a2]) = toO (gf [a0, a1, a2]) := (rfl)
theorem call4 {gf : PF} {a0 a1 a2 a3 : D} : apCall 4 gf (some [a0, a1, a2, a3]) = (gf [a0, a1, a2, a3]).map Wd.d := (rfl)
theorem callO4 {gf : PF} {a0 a1 a2 a3 : D} : apCallO 4 gf (some [a0, a1, a2, a3]) = toO (gf [a0, a1, a2, a3]) := (rfl)
theorem call5 {gf : PF} {a0 a1 a2 a3 a4 : D} : apCall 5 gf (some [a0, a1, a2, a3, a4]) = (gf [a0, a1, a2, a3, a4]).map Wd.d := (rfl)
theorem callO5 {gf : PF} {a0 a1 a2 a3 a4 : D} : apCallO 5 gf (some [a0, a1, a2, a3, a4]) = toO (gf [a0, a1, a2, a3, a4]) := (rfl)
theorem call6 {gf : PF} {a0 a1 a2 a3 a4 a5 : D} : apCall 6 gf (some [a0, a1, a2, a3, a4, a5]) = (gf [a0, a1, a2, a3, a4, a5]).map Wd.d := (rfl)
theorem callO6 {gf : PF} {a0 a1 a2 a3 a4 a5 : D} : apCallO 6 gf (some [a0, a1, a2, a3, a4, a5]) = toO (gf [a0, a1, a2, a3, a4, a5]) := (rfl)
theorem dgTup2_a {m : DGFs} {a b : D} {g : Gm} : dgTup 2 m (.tup [a, b]) g = m [a, b] g := rfl
theorem dgTup3_a {m : DGFs} {a b e : D} {g : Gm} : dgTup 3 m (.tup [a, b, e]) g = m [a, b, e] g := rfl
end Zk
end

section
set_option Elab.async false
set_option linter.all false
set_option maxRecDepth 100000
set_option maxHeartbeats 2000000
/-! What the laws' own helpers are worth. -/
namespace Zc
open PySem L2 Zk
structure Cs where
  Pool : Addr
def t_law_cell : SF :=
 (sSeq (sIf (tDt blD (d2 ltD (dVar 1) (dN lenD (aCons (dVar 0) aNil))))
 (sRet (d2 ixD (dVar 0) (dVar 1)))
 sNext)
 (sRet (dC (.int 0))))
def g_law_cell : PF := runG 0 (t_law_cell)
def t_law_draws : SF :=
 (sSeq (sAsg (dN absD (aCons (dN intD (aCons (dVar 0) aNil)) aNil)) (dName 2))
 (sSeq (sAsg (d2 geD (dVar 2) (d2 powD (dC (.int 10)) (dC (.int 18)))) (dName 3))
 (sSeq (sAsgO (dN mkLst aNil) 4)
 (sSeq (sFor (dRng1 (aCons (dN lenD (aCons (dVar 1) aNil)) aNil)) (dName 5)
 (sSeq (sAsg (d2 ixD (dVar 1) (dVar 5)) (dName 6))
 (sIf (dAndT (tDt truD (dVar 3)) (tDt blD (d2 gtD (dVar 2) (dC (.int 0)))))
 (sSeq (sApp 4 (d2 modD (dN intD (aCons (dVar 2) aNil)) (dVar 6)))
 (sAsg (d2 fdivD (dVar 2) (dVar 6)) (dName 2)))
 (sSeq (sAsg (d2 modD (dN intD (aCons (d2 addD (d2 addD (dN absD (aCons (dN intD (aCons (dVar 0) aNil)) aNil)) (d2 mulD (dC (.int 7919)) (dVar 5))) (dC (.int 13))) aNil)) (dC (.int 2147483647))) (dName 7))
 (sSeq (sAsg (d2 modD (dN intD (aCons (d2 mulD (dVar 7) (d2 addD (dVar 7) (dC (.int 48271)))) aNil)) (dC (.int 2147483629))) (dName 7))
 (sSeq (sAsg (d2 modD (dN intD (aCons (d2 addD (d2 mulD (dVar 7) (d2 addD (dVar 7) (dC (.int 69621)))) (d2 mulD (dC (.int 31)) (dVar 5))) aNil)) (dC (.int 2147483647))) (dName 7))
 (sApp 4 (d2 modD (dN intD (aCons (d2 fdivD (dVar 7) (dC (.int 9))) aNil)) (dVar 6)))))))))
 (sRetV 4)))))
def g_law_draws : PF := runG 6 (t_law_draws)
def t_law_bits : SF :=
 (sRetO (dLc (dRng1 (aCons (dVar 1) aNil)) (dName 2) (tDt blD (d2 eqD (d2 modD (dN intD (aCons (d2 fdivD (dVar 0) (d2 ixD (dN mkTup (aCons (dC (.int 1)) (aCons (dC (.int 2)) (aCons (dC (.int 4)) (aCons (dC (.int 8)) (aCons (dC (.int 16)) (aCons (dC (.int 32)) (aCons (dC (.int 64)) aNil)))))))) (dVar 2))) aNil)) (dC (.int 2))) (dC (.int 1)))) (dVar 2) [2]))
def g_law_bits : PF := runG 1 (t_law_bits)
def t_law_is_integer : SF :=
 (sRet (dAndV (dN isiD (aCons (dVar 0) (aCons (dC (.ty "int")) aNil))) (d1 notD (dN isiD (aCons (dVar 0) (aCons (dC (.ty "bool")) aNil))))))
def g_law_is_integer : PF := runG 0 (t_law_is_integer)
local macro_rules | `(tactic| walk_at "zs") => `(tactic| simp only [mul_lz, List.flatten_cons, List.flatten_nil, Int.reduceToNat, add_ll, pow10_12, pow10_18, pow10_39, pow10_41, pow10_59, pow10_60, mkLst_some, mkTup_some, List.length_cons, List.length_nil, Nat.zero_le, Nat.reduceAdd, Nat.reduceLeDiff, call1, callO1, call2, callO2, call3, callO3, call4, callO4, call5, callO5, call6, callO6, ap1_some, ap2_some, apN_some, apC_some, d1_a, d2_a, dN_a, aNil_a, aCons_a, dC_a, dVar_z, dVar_s, tDt_a, apAnd_t, apAnd_f, apOr_t, apOr_f, dAndT_a, dOrT_a, apNot_some, dNotT_a, apAndV_t, apAndV_f, dAndV_a, apOrV_t, apOrV_f, dOrV_a, apIf_t, apIf_f, dIf_a, apCh_t, apCh_f, apChain_some, dChain_a, apSeq_nx, apSeq_rt, apSeq_ct, apSeq_bk, sSeq_a, apIfS_t, apIfS_f, sIf_a, sNext_a, sCont_a, sBreak_a, apRet_some, sRet_a, apRetO_some, sRetO_a, sRetN_a, getO_z, getO_s, apRetV_some, sRetV_a, ltB_z, ltB_s, okSlot_s, apAsg_some, sAsg_a, dName_ok, apG_some, dgCons_a, dgNil_a, apAsgO_some, sAsgO_a, sApp_a, sSetI_a, apFor_some, sFor_a, dItems_a, dRng1_a, dRng2_a, apEn_some, dEnum_a, sFrz_a, frzs_nil, frzs_cons, frzI_o, frzI_v, frzI_n, frzI_s, frz1_s, frzAll_nil, frzAll_o, frzAll_v, frzAll_n, peekT_a, apPk_int, apPk_bl, apPk_str, apPk_non, peekF_a, dCall_a, toO_o, dCallO_a, dMake_a, Wd_v, Wd_o, dSl_a, apSl_some, oNone_a, oSome_a, apO_some, add_ii, sub_ii, lt_ii, le_ii, gt_ii, ge_ii, eq_ii, ne_ii, neg_i, not_b, bl_b, tru_b, tru_i, tru_l, tru_t, tru_n, len_l, len_t, len_scr, abs_i, int_i, list_l, list_t, tuple_l, tuple_t, min_ii, max_ii, rev_l, items_l, items_t, iL_len, run_a, outW_rt, outW_nx, List.map_cons, List.map_nil, List.replicate, List.append_nil, List.cons_append, List.nil_append, List.set_cons_zero, List.set_cons_succ, Option.map_some])
/-! ### draws -/
theorem draws_spec (c : Int) (sizes : List Int) (hs : ∀ s ∈ sizes, 0 < s ∧ s < 2 ^ 60) (hl : sizes.length ≤ 1000) : Gets (g_law_draws [.int c, .lst (iL sizes)]) fun w => ∃ ds, w = .o (.lst (iL ds)) ∧ Below ds sizes := by
  unfold g_law_draws t_law_draws
  walk_at "zs"
  rw [apR1_some (by omega)]
  walk_at "zs"
  refine rng_then (C := fun o => Gets (outW o) _) (fun i g => ∃ (left : Int) (acc : List Int) (dg : Bool) (k sz mx : Option Wd), g = [some (.v (.int c)), some (.v (.lst (iL sizes))), some (.v (.int left)), some (.v (.bl dg)), some (.o (.lst (iL acc))), k, sz, mx] ∧ acc.length = i ∧
    ∀ (j : Nat) (d s : Int), acc[j]? = some d → sizes[j]? = some s → 0 ≤ d ∧ d < s) ?_ ?_ ?_ ?_
  · exact ⟨_, [], _, _, _, _, rfl, rfl, fun j d s h => by simp at h⟩
  · rintro i g ⟨left, acc, dg, k, sz, mx, rfl, _⟩
    rfl
  · rintro i g hi ⟨left, acc, dg, k, sz, mx, rfl, hlen, hb⟩
    have hsz : sizes[i]? = some sizes[i] := List.getElem?_eq_getElem hi
    obtain ⟨p1, p2⟩ := hs sizes[i] (List.getElem_mem hi)
    have fin : ∀ (x : Int), 0 ≤ x ∧ x < sizes[i] → ∀ (j : Nat) (d s : Int), (acc ++ [x])[j]? = some d → sizes[j]? = some s → 0 ≤ d ∧ d < s := fun x hx j d s h1 h2 => by
      by_cases hj : j < acc.length
      · rw [List.getElem?_append_left hj] at h1
        exact hb j d s h1 h2
      · rw [List.getElem?_append_right (by omega)] at h1
        have e : j = acc.length := by
          by_cases e : j = acc.length
          · exact e
          · rw [List.getElem?_eq_none (by simp; omega)] at h1; cases h1
        subst e
        simp at h1
        rw [hlen, hsz] at h2
        cases h2
        rw [← h1]
        exact hx
    have modb : ∀ x : Int, 0 ≤ x % sizes[i] ∧ x % sizes[i] < sizes[i] := fun x => ⟨Int.emod_nonneg _ (by omega), Int.emod_lt_of_pos _ p1⟩
    have mb : ∀ x m : Int, 0 < m → m < 2 ^ 31 → 0 ≤ x % m ∧ x % m < 2 ^ 31 := fun x m h h' => ⟨Int.emod_nonneg _ (by omega), Int.lt_trans (Int.emod_lt_of_pos _ h) h'⟩
    walk_at "zs"
    rw [ix_i hsz]
    walk_at "zs"
    have step2 : StepTo ((sSeq (sAsg (d2 modD (dN intD (aCons (d2 addD (d2 addD (dN absD (aCons (dN intD (aCons (dVar 0) aNil)) aNil)) (d2 mulD (dC (.int 7919)) (dVar 5))) (dC (.int 13))) aNil)) (dC (.int 2147483647))) (dName 7))
 (sSeq (sAsg (d2 modD (dN intD (aCons (d2 mulD (dVar 7) (d2 addD (dVar 7) (dC (.int 48271)))) aNil)) (dC (.int 2147483629))) (dName 7))
 (sSeq (sAsg (d2 modD (dN intD (aCons (d2 addD (d2 mulD (dVar 7) (d2 addD (dVar 7) (dC (.int 69621)))) (d2 mulD (dC (.int 31)) (dVar 5))) aNil)) (dC (.int 2147483647))) (dName 7))
 (sApp 4 (d2 modD (dN intD (aCons (d2 fdivD (dVar 7) (dC (.int 9))) aNil)) (dVar 6)))))) [some (.v (.int c)), some (.v (.lst (iL sizes))), some (.v (.int left)), some (.v (.bl dg)), some (.o (.lst (iL acc))), some (.v (.int (i : Int))), some (.v (.int sizes[i])), mx]) (fun g => ∃ (left : Int) (acc : List Int) (dg : Bool) (k sz mx : Option Wd), g = [some (.v (.int c)), some (.v (.lst (iL sizes))), some (.v (.int left)), some (.v (.bl dg)), some (.o (.lst (iL acc))), k, sz, mx] ∧ acc.length = i + 1 ∧
    ∀ (j : Nat) (d s : Int), acc[j]? = some d → sizes[j]? = some s → 0 ≤ d ∧ d < s) := by
      walk_at "zs"
      rw [mul_small (by decide) (by omega)]
      walk_at "zs"
      rw [mod_ii (by decide)]
      walk_at "zs"
      have b1 := mb ((if c < 0 then -c else c) + 7919 * (i : Int) + 13) 2147483647 (by decide) (by decide)
      generalize ((if c < 0 then -c else c) + 7919 * (i : Int) + 13) % 2147483647 = m1 at b1 ⊢
      rw [mul_small (by omega) (by omega)]
      walk_at "zs"
      rw [mod_ii (by decide)]
      walk_at "zs"
      have b2 := mb (m1 * (m1 + 48271)) 2147483629 (by decide) (by decide)
      generalize (m1 * (m1 + 48271)) % 2147483629 = m2 at b2 ⊢
      rw [mul_small (by omega) (by omega), mul_small (by decide) (by omega)]
      walk_at "zs"
      rw [mod_ii (by decide)]
      walk_at "zs"
      rw [fdiv_ii (by decide) (by decide)]
      walk_at "zs"
      rw [mod_ii p1, apApp_some (by rw [iL_len]; omega), iL_one, iL_app]
      walk_at "zs"
      exact step_nx ⟨left, _, dg, _, _, _, rfl, by simp [hlen], fin _ (modb _)⟩
    cases dg with
    | false =>
      walk_at "zs"
      exact step2
    | true =>
      walk_at "zs"
      by_cases h0 : 0 < left
      · rw [decide_eq_true h0]
        walk_at "zs"
        rw [mod_ii p1, apApp_some (by rw [iL_len]; omega), iL_one, iL_app]
        walk_at "zs"
        rw [fdiv_ii p1 (by omega)]
        walk_at "zs"
        exact step_nx ⟨_, _, true, _, _, _, rfl, by simp [hlen], fin _ (modb _)⟩
      · rw [decide_eq_false h0]
        walk_at "zs"
        exact step2
  · rintro g' ⟨left, acc, dg, k, sz, mx, rfl, hlen, hb⟩
    walk_at "zs"
    exact gets_some ⟨acc, rfl, hlen, hb⟩
/-! ### bits, pairs -/
theorem bits_spec (m : Int) (n : Nat) (hn : n ≤ 7) : Gets (g_law_bits [.int m, .int (n : Int)]) fun w => ∃ hs, w = .o (.lst (iL hs)) ∧ Asc n hs := by
  unfold g_law_bits t_law_bits
  walk_at "zs"
  obtain ⟨hs, h1, h2⟩ := lc_rng (n := n) (tg := dName 2) (tt := (tDt blD (d2 eqD (d2 modD (dN intD (aCons (d2 fdivD (dVar 0) (d2 ixD (dN mkTup (aCons (dC (.int 1)) (aCons (dC (.int 2)) (aCons (dC (.int 4)) (aCons (dC (.int 8)) (aCons (dC (.int 16)) (aCons (dC (.int 32)) (aCons (dC (.int 64)) aNil)))))))) (dVar 2))) aNil)) (dC (.int 2))) (dC (.int 1))))) (te := dVar 2)
    (g := [some (.v (.int m)), some (.v (.int (n : Int))), none]) fun i hi => by
    refine ⟨_, (m / [1, 2, 4, 8, 16, 32, 64].getD i 1 % 2 == 1), dName_ok rfl, ?_, rfl⟩
    walk_at "zs"
    have hi7 : i < 7 := by omega
    have key : ∃ p : Int, ixD (.tup [.int 1, .int 2, .int 4, .int 8, .int 16, .int 32, .int 64]) (.int (i : Int)) = some (.int p) ∧ p = [1, 2, 4, 8, 16, 32, 64].getD i 1 ∧ 0 < p ∧ p ≤ 64 := by
      match i, hi7 with
      | 0, _ => exact ⟨1, rfl, rfl, by decide, by decide⟩
      | 1, _ => exact ⟨2, rfl, rfl, by decide, by decide⟩
      | 2, _ => exact ⟨4, rfl, rfl, by decide, by decide⟩
      | 3, _ => exact ⟨8, rfl, rfl, by decide, by decide⟩
      | 4, _ => exact ⟨16, rfl, rfl, by decide, by decide⟩
      | 5, _ => exact ⟨32, rfl, rfl, by decide, by decide⟩
      | 6, _ => exact ⟨64, rfl, rfl, by decide, by decide⟩
    obtain ⟨p, e1, e2, e3, e4⟩ := key
    rw [e1]
    walk_at "zs"
    rw [fdiv_ii e3 (by have : p.natAbs ≤ 64 := by omega
                       exact Nat.lt_of_le_of_lt this (by decide))]
    walk_at "zs"
    rw [mod_ii (by decide)]
    walk_at "zs"
    rw [e2]
  rw [dLc_eq (ds := rngL 0 n) rfl (by walk_at "zs"; exact apR1_some (by omega)) (by rw [rng_len]; omega) h1]
  walk_at "zs"
  exact gets_some ⟨hs, rfl, h2⟩
/-! ### pools -/
theorem rowsL_snoc {hs : List (List Int)} {h : List Int} : rowsL hs ++ [.lst (iL h)] = rowsL (hs ++ [h]) := by unfold rowsL; rw [List.map_append] <;> rfl
end Zc
end

section
set_option Elab.async false
set_option linter.all false
set_option maxRecDepth 100000
set_option maxHeartbeats 2000000
/-! The pool's own class and functions, as the laws use them. -/
namespace Zc
open PySem L2 Zk
/-! ### items that differ -/
theorem asInts_of (ns : List Int) : asInts (iL ns) = some ns := by
  induction ns with
  | nil => rfl
  | cons n ns ih => show (asInts (iL ns)).map (n :: ·) = _; rw [ih]; rfl
def Hold (n : Nat) (h : List Int) : Prop := h.Nodup ∧ ∀ k ∈ h, 0 ≤ k ∧ k < (n : Int)
theorem Asc.hold {n : Nat} {h : List Int} (a : Asc n h) : Hold n h := ⟨a.nodup, a.2⟩
theorem srt_le (h : List Int) : (srt h).Pairwise (· ≤ ·) := by
  have e := List.pairwise_mergeSort (le := fun a b : Int => decide (a ≤ b)) (fun a b c h1 h2 => by simp at h1 h2 ⊢; omega) (fun a b => by simp; omega) h
  exact e.imp fun q => of_decide_eq_true q
theorem Hold.asc {n : Nat} {h : List Int} (a : Hold n h) : Asc n (srt h) := by
  refine ⟨?_, fun k hk => a.2 k ((srt_perm h).mem_iff.mp hk)⟩
  have e := (srt_le h).and ((srt_perm h).nodup_iff.mpr a.1)
  exact e.imp fun ⟨q, r⟩ => by omega
theorem Hold.len {n : Nat} {h : List Int} (a : Hold n h) : h.length ≤ n := by
  rw [← (srt_perm h).length_eq]
  exact a.asc.len
/-! ### pools -/
end Zc
end

section
set_option Elab.async false
set_option linter.all false
set_option maxRecDepth 100000
set_option maxHeartbeats 2000000
/-! Rooms and held pairs. -/
namespace Zc
open PySem L2 Zk
theorem cut_from {α : Type} (xs : List α) (n : Nat) : cutL xs (some (n : Int)) none = xs.drop n := by
  unfold cutL HT.sIx
  have e : ¬ ((n : Int) < 0) := by omega
  simp only [if_neg e, Int.toNat_natCast]
  by_cases h : n ≤ xs.length
  · rw [Nat.min_eq_left h, List.take_of_length_le (by rw [List.length_drop]; exact Nat.le_refl _)]
  · rw [Nat.min_eq_right (by omega), List.drop_of_length_le (Nat.le_refl _), List.drop_of_length_le (by omega), List.take_nil]
theorem cut_to {α : Type} (xs : List α) (n : Nat) : cutL xs none (some (n : Int)) = xs.take n := by
  unfold cutL HT.sIx
  have e : ¬ ((n : Int) < 0) := by omega
  simp only [if_neg e, Int.toNat_natCast, Nat.sub_zero, List.drop_zero]
  by_cases h : n ≤ xs.length
  · rw [Nat.min_eq_left h]
  · rw [Nat.min_eq_right (by omega), List.take_of_length_le (Nat.le_refl _), List.take_of_length_le (by omega)]
theorem rowsT_len (hs : List (List Int)) : (rowsT hs).length = hs.length := by unfold rowsT; rw [List.length_map]
theorem rowsL_len (hs : List (List Int)) : (rowsL hs).length = hs.length := by unfold rowsL; rw [List.length_map]
theorem ix_p0 {a b : D} : ixD (.tup [a, b]) (.int 0) = some a := rfl
theorem ix_p1 {a b : D} : ixD (.tup [a, b]) (.int 1) = some b := rfl
def capAt (caps : List Int) (k : Int) : Int := caps[k.toNat]?.getD 0
theorem isi_ii {j : Int} : isiD [.int j, .ty "int"] = some (.bl true) := rfl
theorem isi_ib {j : Int} : isiD [.int j, .ty "bool"] = some (.bl false) := rfl
theorem isi_tt {ds : List D} : isiD [.tup ds, .ty "tuple"] = some (.bl true) := rfl
theorem isi_ll {ds : List D} : isiD [.lst ds, .ty "list"] = some (.bl true) := rfl
theorem is_integer_call (j : Int) : (g_law_is_integer [.int j]).map Wd.d = some (.bl true) := rfl
/-! ### held pairs -/
end Zc
end

section
set_option Elab.async false
set_option linter.all false
set_option maxRecDepth 100000
set_option autoImplicit false
set_option maxHeartbeats 2000000
/-! Values laid out as data: ==, in, count. -/
namespace Zk
open PySem L2
structure Enc {α : Type} [DecidableEq α] (f : α → D) (p : α → PyData) (k : Nat) : Prop where
  to : ∀ a, toP (f a) = some (p a)
  eqv : ∀ a b, PyData.eqv (p a) (p b) = decide (a = b)
  lay : ∀ a, (p a).canLay0 = true
  dep : ∀ a, (p a).depth ≤ k
section
variable {α : Type} [DecidableEq α] {f : α → D} {p : α → PyData} {k : Nat}
theorem Enc.tos (e : Enc f p k) : ∀ xs : List α, toPs (xs.map f) = some (xs.map p)
  | [] => rfl
  | x :: xs => by
    show (toP (f x)).bind (fun q => (toPs (xs.map f)).map (q :: ·)) = _
    rw [e.to, e.tos xs]
    rfl
theorem Enc.lays (e : Enc f p k) : ∀ xs : List α, PyData.canLayAll0 (xs.map p) = true
  | [] => rfl
  | x :: xs => by
    show PyData.canLayAll0 (p x :: xs.map p) = true
    unfold PyData.canLayAll0
    rw [e.lay, e.lays xs]
    rfl
theorem Enc.deps (e : Enc f p k) : ∀ xs : List α, PyData.depthAll (xs.map p) ≤ k
  | [] => Nat.zero_le _
  | x :: xs => by
    show PyData.depthAll (p x :: xs.map p) ≤ k
    unfold PyData.depthAll
    exact Nat.max_le.mpr ⟨e.dep x, e.deps xs⟩
theorem Enc.eqvs (e : Enc f p k) : ∀ xs ys : List α, PyData.eqvAll (xs.map p) (ys.map p) = decide (xs = ys)
  | [], [] => by simp [PyData.eqvAll]
  | [], y :: ys => by simp [PyData.eqvAll]
  | x :: xs, [] => by simp [PyData.eqvAll]
  | x :: xs, y :: ys => by
    show PyData.eqvAll (p x :: xs.map p) (p y :: ys.map p) = _
    unfold PyData.eqvAll
    rw [e.eqv, e.eqvs xs ys]
    by_cases h : x = y <;> by_cases h2 : xs = ys <;> simp [h, h2]
theorem Enc.lst (e : Enc f p k) : Enc (fun xs : List α => D.lst (xs.map f)) (fun xs => PyData.list (xs.map p)) (k + 1) where
  to xs := by
    show (toPs (xs.map f)).map PyData.list = _
    rw [e.tos]
    rfl
  eqv xs ys := by
    show PyData.eqv (.list (xs.map p)) (.list (ys.map p)) = _
    unfold PyData.eqv
    exact e.eqvs xs ys
  lay xs := by
    show (PyData.list (xs.map p)).canLay0 = true
    unfold PyData.canLay0
    exact e.lays xs
  dep xs := by
    show (PyData.list (xs.map p)).depth ≤ k + 1
    unfold PyData.depth
    have := e.deps xs
    omega
theorem Enc.tup (e : Enc f p k) : Enc (fun xs : List α => D.tup (xs.map f)) (fun xs => PyData.tuple (xs.map p)) (k + 1) where
  to xs := by
    show (toPs (xs.map f)).map PyData.tuple = _
    rw [e.tos]
    rfl
  eqv xs ys := by
    show PyData.eqv (.tuple (xs.map p)) (.tuple (ys.map p)) = _
    unfold PyData.eqv
    exact e.eqvs xs ys
  lay xs := by
    show (PyData.tuple (xs.map p)).canLay0 = true
    unfold PyData.canLay0
    exact e.lays xs
  dep xs := by
    show (PyData.tuple (xs.map p)).depth ≤ k + 1
    unfold PyData.depth
    have := e.deps xs
    omega
theorem Enc.shaped (e : Enc f p k) (hk : k ≤ 64) (a : α) : SeqAt.shaped (p a) = true := by
  unfold SeqAt.shaped
  rw [e.lay, decide_eq_true (Nat.le_trans (e.dep a) hk)]
  rfl
theorem Enc.small (e : Enc f p k) (hk : k ≤ 60) (a : α) : small (p a) = true := by
  unfold Zk.small
  rw [e.lay, decide_eq_true (Nat.le_trans (e.dep a) hk)]
  rfl
theorem Enc.eqB (e : Enc f p k) (hk : k ≤ 64) (a b : α) : eqB (f a) (f b) = some (decide (a = b)) := by
  unfold Zk.eqB
  rw [e.to, e.to, Option.bind_some, Option.bind_some, e.shaped hk, e.shaped hk, e.eqv]
  rfl
theorem Enc.eqD (e : Enc f p k) (hk : k ≤ 64) (a b : α) : eqD (f a) (f b) = some (.bl (decide (a = b))) := by
  unfold Zk.eqD
  rw [e.eqB hk]
  rfl
theorem Enc.neD (e : Enc f p k) (hk : k ≤ 64) (a b : α) : neD (f a) (f b) = some (.bl (!decide (a = b))) := by
  unfold Zk.neD
  rw [e.eqB hk]
  rfl
theorem Enc.any (e : Enc f p k) (xs : List α) (a : α) : ((xs.map p).any fun z => PyData.eqv z (p a)) = decide (a ∈ xs) := by
  rw [List.any_map]
  have e1 : ((fun z => PyData.eqv z (p a)) ∘ p) = fun b => decide (b = a) := by
    funext b
    exact e.eqv b a
  rw [e1, Bool.eq_iff_iff, List.any_eq_true, decide_eq_true_iff]
  exact ⟨fun ⟨b, h1, h2⟩ => of_decide_eq_true h2 ▸ h1, fun h => ⟨a, h, decide_eq_true rfl⟩⟩
theorem Enc.inL (e : Enc f p k) (hk : k ≤ 60) (a : α) (xs : List α) [di : Decidable (a ∈ xs)] : inPD (f a) (.lst (xs.map f)) = some (.bl (decide (a ∈ xs))) := by
  show ((toP (f a)).bind fun d => (toPs (xs.map f)).bind fun ps => if (Zk.small d && PyData.canLayAll0 ps) = true then some (ps.any fun z => PyData.eqv z d) else none).map D.bl = _
  rw [e.to, e.tos, Option.bind_some, Option.bind_some, e.small hk, e.lays, e.any]
  exact congrArg (fun b => some (D.bl b)) (decide_eq_decide.mpr Iff.rfl)
theorem Enc.ninL (e : Enc f p k) (hk : k ≤ 60) (a : α) (xs : List α) [di : Decidable (a ∈ xs)] : ninPD (f a) (.lst (xs.map f)) = some (.bl (!decide (a ∈ xs))) := by
  show ((toP (f a)).bind fun d => (toPs (xs.map f)).bind fun ps => if (Zk.small d && PyData.canLayAll0 ps) = true then some (ps.any fun z => PyData.eqv z d) else none).map (fun b => D.bl (!b)) = _
  rw [e.to, e.tos, Option.bind_some, Option.bind_some, e.small hk, e.lays, e.any]
  exact congrArg (fun b => some (D.bl (!b))) (decide_eq_decide.mpr Iff.rfl)
theorem Enc.count (e : Enc f p k) (hk : k ≤ 60) (a : α) (xs : List α) [BEq α] [LawfulBEq α] : countD (.lst (xs.map f)) (f a) = some (.int ((xs.count a : Nat) : Int)) := by
  show ((toP (f a)).bind fun d => (toPs (xs.map f)).bind fun ps => if (Zk.small d && PyData.canLayAll0 ps) = true then some (D.int ((ps.countP fun z => PyData.eqv z d : Nat) : Int)) else none) = _
  rw [e.to, e.tos, Option.bind_some, Option.bind_some, e.small hk, e.lays, List.countP_map]
  have e1 : ((fun z => PyData.eqv z (p a)) ∘ p) = fun b => b == a := by
    funext b
    show PyData.eqv (p b) (p a) = _
    rw [e.eqv]
    rw [Bool.eq_iff_iff]; simp
  rw [e1]
  rfl
end
theorem encInt : Enc D.int PyData.int 1 where
  to _ := rfl
  eqv a b := by simp only [PyData.eqv]; rw [Bool.eq_iff_iff]; simp
  lay _ := rfl
  dep _ := by simp [PyData.depth]
/-- a pair of two things -/
theorem Enc.two {α β : Type} [DecidableEq α] [DecidableEq β] {f : α → D} {p : α → PyData} {f' : β → D} {p' : β → PyData} {k : Nat} (e : Enc f p k) (e' : Enc f' p' k) :
    Enc (fun x : α × β => D.tup [f x.1, f' x.2]) (fun x => PyData.tuple [p x.1, p' x.2]) (k + 1) where
  to x := by
    show ((toP (f x.1)).bind fun q => ((toP (f' x.2)).bind fun q' => some [q']).map (q :: ·)).map PyData.tuple = _
    rw [e.to, e'.to]
    rfl
  eqv x y := by
    show PyData.eqv (.tuple [p x.1, p' x.2]) (.tuple [p y.1, p' y.2]) = _
    simp only [PyData.eqv, PyData.eqvAll, e.eqv, e'.eqv]
    obtain ⟨a, b⟩ := x
    obtain ⟨c, d⟩ := y
    by_cases h : a = c <;> by_cases h2 : b = d <;> simp [h, h2]
  lay x := by
    show (PyData.tuple [p x.1, p' x.2]).canLay0 = true
    simp only [PyData.canLay0, PyData.canLayAll0, e.lay, e'.lay]
    rfl
  dep x := by
    show (PyData.tuple [p x.1, p' x.2]).depth ≤ k + 1
    simp only [PyData.depth, PyData.depthAll]
    have h1 := e.dep x.1
    have h2 := e'.dep x.2
    omega
/-- a thing or None -/
def optD {α : Type} (f : α → D) : Option α → D
  | none => .non
  | some a => f a
def optP {α : Type} (p : α → PyData) : Option α → PyData
  | none => .none
  | some a => p a
theorem Enc.opt {α : Type} [DecidableEq α] {f : α → D} {p : α → PyData} {k : Nat} (e : Enc f p k) (h1 : ∀ a, PyData.eqv .none (p a) = false) (h2 : ∀ a, PyData.eqv (p a) .none = false) : Enc (optD f) (optP p) (k + 1) where
  to x := by cases x with | none => rfl | some a => exact e.to a
  eqv x y := by
    cases x with
    | none => cases y with
      | none => simp [optP, PyData.eqv]
      | some b => exact (h1 b).trans (by simp)
    | some a => cases y with
      | none => exact (h2 a).trans (by simp)
      | some b => show PyData.eqv (p a) (p b) = _; rw [e.eqv]; simp
  lay x := by cases x with | none => rfl | some a => exact e.lay a
  dep x := by
    cases x with
    | none => simp [optP, PyData.depth]
    | some a => exact Nat.le_succ_of_le (e.dep a)
theorem Enc.mono {α : Type} [DecidableEq α] {f : α → D} {p : α → PyData} {k : Nat} (e : Enc f p k) {m : Nat} (h : k ≤ m) : Enc f p m := ⟨e.to, e.eqv, e.lay, fun a => Nat.le_trans (e.dep a) h⟩
/-- a comprehension over values laid out -/
theorem lc_filt {α : Type} {tg : DGF} {tt : DTF} {te : DF} {g : Gm} (f : α → D) (T : α → Bool) (F : α → D) : ∀ {xs : List α}, (∀ a, a ∈ xs → ∃ g1, tg (f a) g = some g1 ∧ tt g1 = some (T a) ∧ (T a = true → te g1 = some (F a))) → lcL tg tt te g (xs.map f) = some ((xs.filter T).map F)
  | [], _ => rfl
  | a :: xs, h => by
    obtain ⟨g1, h1, h2, h3⟩ := h a List.mem_cons_self
    have ih := lc_filt (tg := tg) (tt := tt) (te := te) (g := g) f T F (xs := xs) fun d hd => h d (List.mem_cons_of_mem _ hd)
    show lcL tg tt te g (f a :: xs.map f) = _
    unfold lcL
    rw [h1, Option.bind_some, h2, Option.bind_some, ih, List.filter_cons]
    cases ht : T a with
    | true => simp [h3 ht]
    | false => simp
end Zk
end

section
set_option Elab.async false
set_option linter.all false
set_option maxRecDepth 100000
set_option autoImplicit false
set_option maxHeartbeats 2000000
/-! Loops that may end early. -/
namespace Zk
open PySem L2
/-- how a turn ends: on, out by return, out by break -/
def Turn (o : Option Out) (J : Gm → Prop) (R : Wd → Prop) (B : Gm → Prop) : Prop := StepTo o J ∨ (∃ w, o = some (.rt w) ∧ R w) ∨ ∃ g, o = some (.bk g) ∧ B g
end Zk
end

section
set_option Elab.async false
set_option linter.all false
set_option maxRecDepth 100000
set_option maxHeartbeats 2000000
/-! Items that differ, whatever they are. -/
namespace Zc
open PySem L2 Zk
instance {n : Nat} {h : List Int} : Decidable (Hold n h) := by unfold Hold; exact inferInstance
theorem asBls_map {α : Type} (xs : List α) (T : α → Bool) : asBls (xs.map fun x => D.bl (T x)) = some (xs.map T) := by
  induction xs with
  | nil => rfl
  | cons n ns ih => show (asBls (ns.map _)).map (T n :: ·) = _; rw [ih]; rfl
end Zc
end

section
set_option Elab.async false
set_option linter.all false
set_option maxRecDepth 100000
set_option autoImplicit false
set_option maxHeartbeats 2000000
/-! Total words for items, and steps that leave less to say. -/
namespace Zk
open PySem L2
/-- the item at a place -/
def at_ {α : Type} [Inhabited α] (xs : List α) (k : Int) : α := xs[k.toNat]?.getD default
section
variable {α : Type} [Inhabited α]
theorem at_eq {xs : List α} {k : Int} {m : Nat} {a : α} (e : k = (m : Int)) (h : xs[m]? = some a) : at_ xs k = a := by
  unfold at_
  rw [e, Int.toNat_natCast, h]; rfl
theorem at_get {xs : List α} {k : Int} (h0 : 0 ≤ k) (h : k < (xs.length : Nat)) : xs[k.toNat]? = some (at_ xs k) := by
  have hm : k.toNat < xs.length := by omega
  unfold at_
  rw [List.getElem?_eq_getElem hm]; rfl
theorem at_mem {xs : List α} {k : Int} (h0 : 0 ≤ k) (h : k < (xs.length : Nat)) : at_ xs k ∈ xs := List.mem_of_getElem? (at_get h0 h)
theorem ix_at {f : α → D} {xs : List α} {k : Int} (h0 : 0 ≤ k) (h : k < (xs.length : Nat)) : ixD (.lst (xs.map f)) (.int k) = some (f (at_ xs k)) := by
  have e := ix_l (ds := xs.map f) (m := k.toNat) (d := f (at_ xs k)) (by rw [List.getElem?_map, at_get h0 h]; rfl)
  rw [show ((k.toNat : Nat) : Int) = k by omega] at e
  exact e
theorem ix_atT {f : α → D} {xs : List α} {k : Int} (h0 : 0 ≤ k) (h : k < (xs.length : Nat)) : ixD (.tup (xs.map f)) (.int k) = some (f (at_ xs k)) := by
  have e := ix_t (ds := xs.map f) (m := k.toNat) (d := f (at_ xs k)) (by rw [List.getElem?_map, at_get h0 h]; rfl)
  rw [show ((k.toNat : Nat) : Int) = k by omega] at e
  exact e
end
theorem ix_atI {xs : List Int} {k : Int} (h0 : 0 ≤ k) (h : k < (xs.length : Nat)) : ixD (.lst (iL xs)) (.int k) = some (.int (at_ xs k)) := ix_at h0 h
theorem ix_atIT {xs : List Int} {k : Int} (h0 : 0 ≤ k) (h : k < (xs.length : Nat)) : ixD (.tup (iL xs)) (.int k) = some (.int (at_ xs k)) := ix_atT h0 h
theorem ix_atR {xs : List (List Int)} {k : Int} (h0 : 0 ≤ k) (h : k < (xs.length : Nat)) : ixD (.lst (rowsL xs)) (.int k) = some (.lst (iL (at_ xs k))) := ix_at h0 h
theorem ix_atRT {xs : List (List Int)} {k : Int} (h0 : 0 ≤ k) (h : k < (xs.length : Nat)) : ixD (.tup (rowsT xs)) (.int k) = some (.tup (iL (at_ xs k))) := ix_atT h0 h
theorem ix_lit2 {x0 x1 k : Int} (h0 : 0 ≤ k) (h : k < 2) : ixD (.tup [.int x0, .int x1]) (.int k) = some (.int (at_ [x0, x1] k)) := ix_atIT (xs := [x0, x1]) h0 h
theorem ix_lit3 {x0 x1 x2 k : Int} (h0 : 0 ≤ k) (h : k < 3) : ixD (.tup [.int x0, .int x1, .int x2]) (.int k) = some (.int (at_ [x0, x1, x2] k)) := ix_atIT (xs := [x0, x1, x2]) h0 h
theorem ix_lit4 {x0 x1 x2 x3 k : Int} (h0 : 0 ≤ k) (h : k < 4) : ixD (.tup [.int x0, .int x1, .int x2, .int x3]) (.int k) = some (.int (at_ [x0, x1, x2, x3] k)) := ix_atIT (xs := [x0, x1, x2, x3]) h0 h
theorem ix_lit5 {x0 x1 x2 x3 x4 k : Int} (h0 : 0 ≤ k) (h : k < 5) : ixD (.tup [.int x0, .int x1, .int x2, .int x3, .int x4]) (.int k) = some (.int (at_ [x0, x1, x2, x3, x4] k)) := ix_atIT (xs := [x0, x1, x2, x3, x4]) h0 h
theorem ix_lit6 {x0 x1 x2 x3 x4 x5 k : Int} (h0 : 0 ≤ k) (h : k < 6) : ixD (.tup [.int x0, .int x1, .int x2, .int x3, .int x4, .int x5]) (.int k) = some (.int (at_ [x0, x1, x2, x3, x4, x5] k)) := ix_atIT (xs := [x0, x1, x2, x3, x4, x5]) h0 h
theorem ix_lit7 {x0 x1 x2 x3 x4 x5 x6 k : Int} (h0 : 0 ≤ k) (h : k < 7) : ixD (.tup [.int x0, .int x1, .int x2, .int x3, .int x4, .int x5, .int x6]) (.int k) = some (.int (at_ [x0, x1, x2, x3, x4, x5, x6] k)) := ix_atIT (xs := [x0, x1, x2, x3, x4, x5, x6]) h0 h
theorem ix_lit8 {x0 x1 x2 x3 x4 x5 x6 x7 k : Int} (h0 : 0 ≤ k) (h : k < 8) : ixD (.tup [.int x0, .int x1, .int x2, .int x3, .int x4, .int x5, .int x6, .int x7]) (.int k) = some (.int (at_ [x0, x1, x2, x3, x4, x5, x6, x7] k)) := ix_atIT (xs := [x0, x1, x2, x3, x4, x5, x6, x7]) h0 h
theorem ix_lit9 {x0 x1 x2 x3 x4 x5 x6 x7 x8 k : Int} (h0 : 0 ≤ k) (h : k < 9) : ixD (.tup [.int x0, .int x1, .int x2, .int x3, .int x4, .int x5, .int x6, .int x7, .int x8]) (.int k) = some (.int (at_ [x0, x1, x2, x3, x4, x5, x6, x7, x8] k)) := ix_atIT (xs := [x0, x1, x2, x3, x4, x5, x6, x7, x8]) h0 h
theorem ix_lit10 {x0 x1 x2 x3 x4 x5 x6 x7 x8 x9 k : Int} (h0 : 0 ≤ k) (h : k < 10) : ixD (.tup [.int x0, .int x1, .int x2, .int x3, .int x4, .int x5, .int x6, .int x7, .int x8, .int x9]) (.int k) = some (.int (at_ [x0, x1, x2, x3, x4, x5, x6, x7, x8, x9] k)) := ix_atIT (xs := [x0, x1, x2, x3, x4, x5, x6, x7, x8, x9]) h0 h
theorem ix_lit11 {x0 x1 x2 x3 x4 x5 x6 x7 x8 x9 x10 k : Int} (h0 : 0 ≤ k) (h : k < 11) : ixD (.tup [.int x0, .int x1, .int x2, .int x3, .int x4, .int x5, .int x6, .int x7, .int x8, .int x9, .int x10]) (.int k) = some (.int (at_ [x0, x1, x2, x3, x4, x5, x6, x7, x8, x9, x10] k)) := ix_atIT (xs := [x0, x1, x2, x3, x4, x5, x6, x7, x8, x9, x10]) h0 h
theorem ix_lit12 {x0 x1 x2 x3 x4 x5 x6 x7 x8 x9 x10 x11 k : Int} (h0 : 0 ≤ k) (h : k < 12) : ixD (.tup [.int x0, .int x1, .int x2, .int x3, .int x4, .int x5, .int x6, .int x7, .int x8, .int x9, .int x10, .int x11]) (.int k) = some (.int (at_ [x0, x1, x2, x3, x4, x5, x6, x7, x8, x9, x10, x11] k)) := ix_atIT (xs := [x0, x1, x2, x3, x4, x5, x6, x7, x8, x9, x10, x11]) h0 h
theorem ix_lit13 {x0 x1 x2 x3 x4 x5 x6 x7 x8 x9 x10 x11 x12 k : Int} (h0 : 0 ≤ k) (h : k < 13) : ixD (.tup [.int x0, .int x1, .int x2, .int x3, .int x4, .int x5, .int x6, .int x7, .int x8, .int x9, .int x10, .int x11, .int x12]) (.int k) = some (.int (at_ [x0, x1, x2, x3, x4, x5, x6, x7, x8, x9, x10, x11, x12] k)) := ix_atIT (xs := [x0, x1, x2, x3, x4, x5, x6, x7, x8, x9, x10, x11, x12]) h0 h
theorem ix_lit14 {x0 x1 x2 x3 x4 x5 x6 x7 x8 x9 x10 x11 x12 x13 k : Int} (h0 : 0 ≤ k) (h : k < 14) : ixD (.tup [.int x0, .int x1, .int x2, .int x3, .int x4, .int x5, .int x6, .int x7, .int x8, .int x9, .int x10, .int x11, .int x12, .int x13]) (.int k) = some (.int (at_ [x0, x1, x2, x3, x4, x5, x6, x7, x8, x9, x10, x11, x12, x13] k)) := ix_atIT (xs := [x0, x1, x2, x3, x4, x5, x6, x7, x8, x9, x10, x11, x12, x13]) h0 h
theorem ix_lit15 {x0 x1 x2 x3 x4 x5 x6 x7 x8 x9 x10 x11 x12 x13 x14 k : Int} (h0 : 0 ≤ k) (h : k < 15) : ixD (.tup [.int x0, .int x1, .int x2, .int x3, .int x4, .int x5, .int x6, .int x7, .int x8, .int x9, .int x10, .int x11, .int x12, .int x13, .int x14]) (.int k) = some (.int (at_ [x0, x1, x2, x3, x4, x5, x6, x7, x8, x9, x10, x11, x12, x13, x14] k)) := ix_atIT (xs := [x0, x1, x2, x3, x4, x5, x6, x7, x8, x9, x10, x11, x12, x13, x14]) h0 h
theorem Below.at {ds sizes : List Int} (h : Below ds sizes) {k : Int} (s : Int) (h0 : 0 ≤ k) (h1 : sizes[k.toNat]? = some s) : 0 ≤ at_ ds k ∧ at_ ds k < s := by
  obtain ⟨d, e, h2⟩ := h.get h1
  rw [show at_ ds k = d from at_eq (m := k.toNat) (by omega) e]
  exact h2
theorem Below.len {ds sizes : List Int} (h : Below ds sizes) : ds.length = sizes.length := h.1
theorem apR1_any {k : Int} (h : k ≤ 1000000 ∧ -1000000 ≤ k) : apR1 (some [.int k]) = some (rngL 0 k.toNat) := if_pos h
/-! ### steps -/
section
variable {s u q : SF} {g : Gm} {C : Option Out → Prop}
/-- loops at the end of a turn -/
theorem step_loop {f : DGF} {ds : List D} {J : Gm → Prop} (I : Nat → Gm → Prop) (h0 : I 0 g) (hs : ∀ (i : Nat) (d : D) (g : Gm), ds[i]? = some d → I i g → ∃ g1, f d g = some g1 ∧ StepTo (s g1) (I (i + 1)))
    (k : ∀ g', I ds.length g' → J g') : StepTo (loopD f s ds g) J := by
  obtain ⟨g', e, h⟩ := loop_by I h0 hs
  rw [e]
  exact step_nx (k g' h)
/-- a loop over things laid out -/
theorem loop_each {α : Type} {f : DGF} (enc : α → D) (xs : List α) (I : Nat → Gm → Prop) (h0 : I 0 g) (hs : ∀ (i : Nat) (a : α) (g : Gm), xs[i]? = some a → I i g → ∃ g1, f (enc a) g = some g1 ∧ StepTo (s g1) (I (i + 1)))
    (k : ∀ g', I xs.length g' → C (q g')) : C (apSeq (loopD f s (xs.map enc) g) q) :=
  loop_then I h0 (fun i d g hd hI => by
    rw [List.getElem?_map] at hd
    cases e : xs[i]? with
    | none => rw [e] at hd; cases hd
    | some a => rw [e] at hd; cases hd; exact hs i a g e hI) fun g' h => k g' (by rw [List.length_map] at h; exact h)
theorem step_each {α : Type} {f : DGF} {J : Gm → Prop} (enc : α → D) (xs : List α) (I : Nat → Gm → Prop) (h0 : I 0 g) (hs : ∀ (i : Nat) (a : α) (g : Gm), xs[i]? = some a → I i g → ∃ g1, f (enc a) g = some g1 ∧ StepTo (s g1) (I (i + 1)))
    (k : ∀ g', I xs.length g' → J g') : StepTo (loopD f s (xs.map enc) g) J :=
  step_loop I h0 (fun i d g hd hI => by
    rw [List.getElem?_map] at hd
    cases e : xs[i]? with
    | none => rw [e] at hd; cases hd
    | some a => rw [e] at hd; cases hd; exact hs i a g e hI) fun g' h => k g' (by rw [List.length_map] at h; exact h)
end
/-! ### comprehensions -/
section
variable {it : DIF} {tg : DGF} {tt : DTF} {te : DF} {vs : List Nat} {g : Gm}
theorem dLc_filt {α : Type} (f : α → D) {xs : List α} {T : α → Bool} {F : α → D} (hf : free g vs = true) (hi : it g = some (xs.map f)) (hl : xs.length ≤ 100000)
    (h : ∀ a, a ∈ xs → ∃ g1, tg (f a) (wipeG g vs) = some g1 ∧ tt g1 = some (T a) ∧ (T a = true → te g1 = some (F a))) : dLc it tg tt te vs g = some (.lst ((xs.filter T).map F)) :=
  dLc_eq hf hi (by rw [List.length_map]; exact hl) (lc_filt f T F h)
theorem dLc_map {α : Type} (f : α → D) {xs : List α} {F : α → D} (hf : free g vs = true) (hi : it g = some (xs.map f)) (hl : xs.length ≤ 100000)
    (h : ∀ a, a ∈ xs → ∃ g1, tg (f a) (wipeG g vs) = some g1 ∧ te g1 = some (F a)) : dLc it tg dYes te vs g = some (.lst (xs.map F)) := by
  have e := dLc_filt (tt := dYes) f (T := fun _ => true) (F := F) hf hi hl (fun a ha => by obtain ⟨g1, h1, h2⟩ := h a ha; exact ⟨g1, h1, rfl, fun _ => h2⟩)
  rw [List.filter_eq_self.mpr fun _ _ => rfl] at e
  exact e
end
theorem frz_wo {d : D} : (Wd.o d).frz = .v d := rfl
theorem frz_wv {d : D} : (Wd.v d).frz = .v d := rfl
theorem frz_kk {k : Option Wd} {g : Gm} : frzAll (k :: g) = k.map Wd.frz :: frzAll g := rfl
theorem wipeG_nil {g : Gm} : wipeG g [] = g := rfl
theorem wipeG_cons {g : Gm} {v : Nat} {vs : List Nat} : wipeG g (v :: vs) = (wipeG g vs).set v none := rfl
/-- ints of a range, some of them -/
def pickI (n : Nat) (T : Nat → Bool) : List Int := ((List.range n).filter T).map fun i => ((i : Nat) : Int)
theorem pickI_asc (n : Nat) (T : Nat → Bool) : Asc n (pickI n T) := by
  refine Asc.sub ?_
  unfold pickI rngI
  have : (List.range n).map (fun i => (0 : Int) + ((i : Nat) : Int)) = (List.range n).map fun i => ((i : Nat) : Int) := List.map_congr_left fun i _ => by rw [Int.zero_add]
  rw [this]
  exact List.Sublist.map _ (List.filter_sublist)
theorem pickI_mem {n : Nat} {T : Nat → Bool} {k : Int} : k ∈ pickI n T ↔ ∃ i : Nat, k = (i : Int) ∧ i < n ∧ T i = true := by
  unfold pickI
  rw [List.mem_map]
  constructor
  · rintro ⟨i, hi, rfl⟩
    rw [List.mem_filter, List.mem_range] at hi
    exact ⟨i, rfl, hi.1, hi.2⟩
  · rintro ⟨i, rfl, h1, h2⟩
    exact ⟨i, List.mem_filter.mpr ⟨List.mem_range.mpr h1, h2⟩, rfl⟩
/-! ### and, or, chains without cases -/
def orB (k : Bool) (o : Option Bool) : Option Bool := if k then some true else o
def andB (k : Bool) (o : Option Bool) : Option Bool := if k then o else some false
def orV (k : Bool) (o : Option D) : Option D := if k then some (.bl true) else o
def andV (k : Bool) (o : Option D) : Option D := if k then o else some (.bl false)
theorem orB_s {k k' : Bool} : orB k (some k') = some (k || k') := by cases k <;> rfl
theorem orB_t {o : Option Bool} : orB true o = some true := rfl
theorem orB_f {o : Option Bool} : orB false o = o := rfl
theorem andB_s {k k' : Bool} : andB k (some k') = some (k && k') := by cases k <;> rfl
theorem andB_t {o : Option Bool} : andB true o = o := rfl
theorem andB_f {o : Option Bool} : andB false o = some false := rfl
theorem orV_s {k k' : Bool} : orV k (some (.bl k')) = some (.bl (k || k')) := by cases k <;> rfl
theorem orV_t {o : Option D} : orV true o = some (.bl true) := rfl
theorem orV_f {o : Option D} : orV false o = o := rfl
theorem andV_s {k k' : Bool} : andV k (some (.bl k')) = some (.bl (k && k')) := by cases k <;> rfl
theorem andV_t {o : Option D} : andV true o = o := rfl
theorem andV_f {o : Option D} : andV false o = some (.bl false) := rfl
theorem apOr_b {k : Bool} {u : DTF} {g : Gm} : apOr (some k) u g = orB k (u g) := by cases k <;> rfl
theorem apAnd_b {k : Bool} {u : DTF} {g : Gm} : apAnd (some k) u g = andB k (u g) := by cases k <;> rfl
theorem apOrV_b {k : Bool} {u : DF} {g : Gm} : apOrV (some (.bl k)) u g = orV k (u g) := by cases k <;> rfl
theorem apAndV_b {k : Bool} {u : DF} {g : Gm} : apAndV (some (.bl k)) u g = andV k (u g) := by cases k <;> rfl
theorem apCh_b {k : Bool} {f' : D → D → Option D} {y : D} {c : DF} {g : Gm} : apCh f' y c g (some (.bl k)) = andV k (ap2 f' (some y) (c g)) := by cases k <;> rfl
def apPkO : Option D → Option D := fun x => match x with
  | some (.lst ds) => if ds.all D.flat then some (.lst ds) else none
  | _ => none
theorem peekO_a {a : DF} {g : Gm} : peekO a g = apPkO (a (frzAll g)) := rfl
theorem apPkO_i {xs : List Int} : apPkO (some (.lst (iL xs))) = some (.lst (iL xs)) := by
  unfold apPkO iL
  exact if_pos (by rw [List.all_map]; exact List.all_eq_true.mpr fun _ _ => rfl)
end Zk
end

section
set_option Elab.async false
set_option linter.all false
set_option maxRecDepth 100000
set_option maxHeartbeats 2000000
/-! The laws' own functions on pairs: rooms, counts, held pairs, dealings. -/
namespace Zc
open PySem L2 Zk
abbrev Pr := Int × Int
def prD (x : Pr) : D := .tup [.int x.1, .int x.2]
abbrev opD : Option Pr → D := optD prD
def stD (s : Int × Pr) : D := .tup [.int s.1, prD s.2]
def prP (x : Pr) : PyData := .tuple [.int x.1, .int x.2]
abbrev opP : Option Pr → PyData := optP prP
theorem encPr : Enc prD prP 2 := encInt.two encInt
theorem encOp : Enc opD opP 3 := encPr.opt (fun a => by simp [prP, PyData.eqv]) (fun a => by simp [prP, PyData.eqv])
theorem encSt : Enc stD (fun s => .tuple [.int s.1, prP s.2]) 3 := (encInt.mono (by decide)).two encPr
theorem eq_op_op (a b : Option Pr) : eqD (opD a) (opD b) = some (.bl (decide (a = b))) := encOp.eqD (by decide) a b
theorem eq_op_pr (a : Option Pr) (q : Pr) : eqD (opD a) (prD q) = some (.bl (decide (a = some q))) := encOp.eqD (by decide) a (some q)
theorem eq_pr_op (a : Option Pr) (q : Pr) : eqD (prD q) (opD a) = some (.bl (decide (some q = a))) := encOp.eqD (by decide) (some q) a
theorem eq_pr_pr (p q : Pr) : eqD (prD p) (prD q) = some (.bl (decide (p = q))) := encPr.eqD (by decide) p q
theorem ne_op_op (a b : Option Pr) : neD (opD a) (opD b) = some (.bl (!decide (a = b))) := encOp.neD (by decide) a b
theorem ne_op_pr (a : Option Pr) (q : Pr) : neD (opD a) (prD q) = some (.bl (!decide (a = some q))) := encOp.neD (by decide) a (some q)
theorem ne_pr_op (a : Option Pr) (q : Pr) : neD (prD q) (opD a) = some (.bl (!decide (some q = a))) := encOp.neD (by decide) (some q) a
theorem ne_pr_pr (p q : Pr) : neD (prD p) (prD q) = some (.bl (!decide (p = q))) := encPr.neD (by decide) p q
theorem isnt_op (o : Option Pr) : isntD (opD o) .non = some (.bl (!decide (o = none))) := by cases o <;> rfl
theorem is_op (o : Option Pr) : isD (opD o) .non = some (.bl (decide (o = none))) := by cases o <;> rfl
theorem prD_eq (a b : Int) : D.tup [.int a, .int b] = prD (a, b) := rfl
theorem pr_0 (q : Pr) : ixD (prD q) (.int 0) = some (.int q.1) := rfl
theorem pr_1 (q : Pr) : ixD (prD q) (.int 1) = some (.int q.2) := rfl
theorem st_0 (s : Int × Pr) : ixD (stD s) (.int 0) = some (.int s.1) := rfl
theorem st_1 (s : Int × Pr) : ixD (stD s) (.int 1) = some (prD s.2) := rfl
theorem inP_pr (q : Pr) (xs : List Pr) : inPD (prD q) (.lst (xs.map prD)) = some (.bl (decide (q ∈ xs))) := encPr.inL (by decide) q xs
theorem ninP_pr (q : Pr) (xs : List Pr) : ninPD (prD q) (.lst (xs.map prD)) = some (.bl (!decide (q ∈ xs))) := encPr.ninL (by decide) q xs
theorem nin_l {ns : List Int} {k : Int} : ninD (.int k) (.lst (iL ns)) = some (.bl (!ns.contains k)) := by
  show (if ((D.int k).flat4 && (iL ns).all D.flat4) = true then some ((iL ns).any fun z => eqF z (.int k)) else none).map (fun b => D.bl (!b)) = _
  rw [flat4_iL, any_iL]
  rfl
theorem isi_prt (q : Pr) : isiD [prD q, .ty "tuple"] = some (.bl true) := rfl
theorem len_pr (q : Pr) : lenD [prD q] = some (.int 2) := rfl
theorem op_some (q : Pr) : opD (some q) = prD q := rfl
def roomOf (caps : List Int) (q : Pr) : Int := if Zc.capAt caps q.2 < Zc.capAt caps q.1 then Zc.capAt caps q.2 else Zc.capAt caps q.1
def InR (caps : List Int) (q : Pr) : Prop := (0 ≤ q.1 ∧ q.1 < (caps.length : Nat)) ∧ (0 ≤ q.2 ∧ q.2 < (caps.length : Nat))
/-- the pairs of a row that have room -/
def heldP (caps : List Int) : List Int → List Pr
  | [] => []
  | a :: r => ((r.filter fun b => decide (0 < roomOf caps (a, b))).map fun b => (a, b)) ++ heldP caps r
theorem heldP_mem {caps : List Int} {n : Nat} : ∀ {h : List Int}, Asc n h → ∀ q : Pr, q ∈ heldP caps h ↔ q.1 ∈ h ∧ q.2 ∈ h ∧ q.1 < q.2 ∧ 0 < roomOf caps q
  | [], _, q => by simp [heldP]
  | a :: r, ha, q => by
    obtain ⟨x, y⟩ := q
    have h2 := List.pairwise_cons.mp ha.1
    have ih := heldP_mem (caps := caps) (n := n) (h := r) ⟨h2.2, fun k hk => ha.2 k (List.mem_cons_of_mem _ hk)⟩ (x, y)
    unfold heldP
    rw [List.mem_append, ih, List.mem_map]
    simp only [List.mem_filter, decide_eq_true_eq, List.mem_cons, Prod.mk.injEq]
    constructor
    · rintro (⟨b, ⟨hb, hp⟩, rfl, rfl⟩ | ⟨h1, h3, h4, h5⟩)
      · exact ⟨.inl rfl, .inr hb, h2.1 _ hb, hp⟩
      · exact ⟨.inr h1, .inr h3, h4, h5⟩
    · rintro ⟨h1 | h1, h3 | h3, h4, h5⟩
      · subst h1; subst h3; omega
      · subst h1; exact .inl ⟨y, ⟨h3, h5⟩, rfl, rfl⟩
      · subst h3; have := h2.1 x h1; omega
      · exact .inr ⟨h1, h3, h4, h5⟩
theorem held_in {caps h : List Int} (ha : Asc caps.length h) {q : Pr} (hq : q ∈ heldP caps h) : InR caps q := by
  have e := (heldP_mem ha q).mp hq
  exact ⟨ha.2 _ e.1, ha.2 _ e.2.1⟩
end Zc
end

section
set_option Elab.async false
set_option linter.all false
set_option maxRecDepth 100000
set_option maxHeartbeats 2000000
/-! Dealings, as the laws judge them. -/
namespace Zc
open PySem L2 Zk
/-- a row lies below another by its pieces -/
structure IsDeal (caps : List Int) (hs : List (List Int)) (dl : List (Option Pr)) : Prop where
  len : dl.length = hs.length
  held : ∀ (p : Nat) (q : Pr), dl[p]? = some (some q) → q.1 < q.2 ∧ q.1 ∈ at_ hs p ∧ q.2 ∈ at_ hs p
  room : ∀ q : Pr, some q ∈ dl → ((dl.count (some q) : Nat) : Int) ≤ roomOf caps q
end Zc
end

section
set_option Elab.async false
set_option linter.all false
set_option maxRecDepth 100000
set_option maxHeartbeats 2000000
/-! Changing what is laid out; dealings and pools that the laws draw. -/
namespace Zc
open PySem L2 Zk
theorem setI_at {α : Type} {f : α → D} {a : α} {xs : List α} {k : Int} {i : Nat} {g : Gm} {d : D} (e : d = f a) (h0 : 0 ≤ k) (h : k < (xs.length : Nat)) :
    apSetI (some d) (some (.int k)) (some (.lst (xs.map f))) i g = some (.nx (g.set i (some (.o (.lst ((xs.set k.toNat a).map f)))))) := by
  have e1 := apSetI_some (d := d) (ds := xs.map f) (i := i) (g := g) (j := k.toNat) (by rw [List.length_map]; omega)
  rw [show ((k.toNat : Nat) : Int) = k by omega] at e1
  rw [e1, e, List.map_set]
section
variable {k x : Int} {i : Nat} {g : Gm} {q : Pr} {o : Option Pr}
theorem setI_i {xs : List Int} (h0 : 0 ≤ k) (h : k < (xs.length : Nat)) : apSetI (some (.int x)) (some (.int k)) (some (.lst (iL xs))) i g = some (.nx (g.set i (some (.o (.lst (iL (xs.set k.toNat x))))))) := setI_at (f := D.int) rfl h0 h
theorem setI_p {xs : List (Option Pr)} (h0 : 0 ≤ k) (h : k < (xs.length : Nat)) : apSetI (some (prD q)) (some (.int k)) (some (.lst (xs.map opD))) i g = some (.nx (g.set i (some (.o (.lst ((xs.set k.toNat (some q)).map opD)))))) := setI_at (f := opD) rfl h0 h
theorem setI_o {xs : List (Option Pr)} (h0 : 0 ≤ k) (h : k < (xs.length : Nat)) : apSetI (some (opD o)) (some (.int k)) (some (.lst (xs.map opD))) i g = some (.nx (g.set i (some (.o (.lst ((xs.set k.toNat o).map opD)))))) := setI_at (f := opD) rfl h0 h
theorem setI_n {xs : List (Option Pr)} (h0 : 0 ≤ k) (h : k < (xs.length : Nat)) : apSetI (some .non) (some (.int k)) (some (.lst (xs.map opD))) i g = some (.nx (g.set i (some (.o (.lst ((xs.set k.toNat none).map opD)))))) := setI_at (f := opD) (a := none) rfl h0 h
theorem snoc_i {xs : List Int} : iL xs ++ [D.int x] = iL (xs ++ [x]) := by unfold iL; rw [List.map_append]; rfl
theorem snoc_r {hs : List (List Int)} {h : List Int} : rowsL hs ++ [.lst (iL h)] = rowsL (hs ++ [h]) := rowsL_snoc
theorem snoc_p {xs : List (Option Pr)} : xs.map opD ++ [prD q] = (xs ++ [some q]).map opD := by rw [List.map_append]; rfl
theorem snoc_n {xs : List (Option Pr)} : xs.map opD ++ [D.non] = (xs ++ [none]).map opD := by rw [List.map_append]; rfl
theorem snoc_o {xs : List (Option Pr)} : xs.map opD ++ [opD o] = (xs ++ [o]).map opD := by rw [List.map_append]; rfl
theorem snoc_pp {xs : List Pr} : xs.map prD ++ [prD q] = (xs ++ [q]).map prD := by rw [List.map_append]; rfl
theorem snoc_s {xs : List (Int × Pr)} : xs.map stD ++ [D.tup [.int x, prD q]] = (xs ++ [(x, q)]).map stD := by rw [List.map_append]; rfl
theorem eq_ol {xs ys : List (Option Pr)} : eqD (.lst (xs.map opD)) (.lst (ys.map opD)) = some (.bl (decide (xs = ys))) := encOp.lst.eqD (by decide) xs ys
theorem ne_ol {xs ys : List (Option Pr)} : neD (.lst (xs.map opD)) (.lst (ys.map opD)) = some (.bl (!decide (xs = ys))) := encOp.lst.neD (by decide) xs ys
theorem eq_pl {xs ys : List Pr} : eqD (.lst (xs.map prD)) (.lst (ys.map prD)) = some (.bl (decide (xs = ys))) := encPr.lst.eqD (by decide) xs ys
theorem ne_pl {xs ys : List Pr} : neD (.lst (xs.map prD)) (.lst (ys.map prD)) = some (.bl (!decide (xs = ys))) := encPr.lst.neD (by decide) xs ys
theorem eq_sl {xs ys : List (Int × Pr)} : eqD (.lst (xs.map stD)) (.lst (ys.map stD)) = some (.bl (decide (xs = ys))) := encSt.lst.eqD (by decide) xs ys
theorem ne_sl {xs ys : List (Int × Pr)} : neD (.lst (xs.map stD)) (.lst (ys.map stD)) = some (.bl (!decide (xs = ys))) := encSt.lst.neD (by decide) xs ys
theorem eq_il {xs ys : List Int} : eqD (.lst (iL xs)) (.lst (iL ys)) = some (.bl (decide (xs = ys))) := encInt.lst.eqD (by decide) xs ys
theorem ne_il {xs ys : List Int} : neD (.lst (iL xs)) (.lst (iL ys)) = some (.bl (!decide (xs = ys))) := encInt.lst.neD (by decide) xs ys
theorem eq_rl {xs ys : List (List Int)} : eqD (.lst (rowsL xs)) (.lst (rowsL ys)) = some (.bl (decide (xs = ys))) := encInt.lst.lst.eqD (by decide) xs ys
theorem ne_rl {xs ys : List (List Int)} : neD (.lst (rowsL xs)) (.lst (rowsL ys)) = some (.bl (!decide (xs = ys))) := encInt.lst.lst.neD (by decide) xs ys
theorem eq_il1 {xs : List Int} : eqD (.lst (iL xs)) (.lst [.int x]) = some (.bl (decide (xs = [x]))) := eq_il (ys := [x])
theorem isi_bb {b : Bool} : isiD [.bl b, .ty "bool"] = some (.bl true) := rfl
theorem eq_bb {a b : Bool} : eqD (.bl a) (.bl b) = some (.bl (a == b)) := rfl
theorem ne_bb {a b : Bool} : neD (.bl a) (.bl b) = some (.bl (!(a == b))) := rfl
end
/-! ### rich pools -/
/-! ### pools with many seats -/
theorem snoc_get {α : Type} {xs : List α} {x y : α} {p : Nat} (h : (xs ++ [x])[p]? = some y) : xs[p]? = some y ∨ (p = xs.length ∧ y = x) := by
  by_cases hp : p < xs.length
  · rw [List.getElem?_append_left hp] at h; exact .inl h
  · rw [List.getElem?_append_right (by omega)] at h
    by_cases h0 : p - xs.length = 0
    · rw [h0] at h
      cases h
      exact .inr ⟨by omega, rfl⟩
    · rw [List.getElem?_eq_none (by simp; omega)] at h; cases h
end Zc
end

section
set_option Elab.async false
set_option linter.all false
set_option maxRecDepth 100000
set_option maxHeartbeats 2000000
/-! Walks as the laws count them, taken. -/
namespace Zc
open PySem L2 Zk
abbrev Steps := List (Int × Pr)
def StepOk (caps : List Int) (hs : List (List Int)) (dl : List (Option Pr)) (l : Option Pr) (u : List Int) (s : Int × Pr) : Prop :=
  (0 ≤ s.1 ∧ s.1 < (hs.length : Nat)) ∧ s.1 ∉ u ∧ dl[s.1.toNat]? = some l ∧ s.2 ∈ heldP caps (hs[s.1.toNat]?.getD []) ∧ some s.2 ≠ l
instance {caps : List Int} {hs : List (List Int)} {dl : List (Option Pr)} {l : Option Pr} {u : List Int} {s : Int × Pr} : Decidable (StepOk caps hs dl l u s) := by unfold StepOk; exact inferInstance
def walkB (caps : List Int) (hs : List (List Int)) (dl : List (Option Pr)) : Option Pr → List Int → Steps → Option (Option Pr)
  | l, _, [] => some l
  | l, u, s :: r => if StepOk caps hs dl l u s then walkB caps hs dl (some s.2) (u ++ [s.1]) r else none
def dueB (caps : List Int) (hs : List (List Int)) (dl : List (Option Pr)) (sts : Steps) : Bool := match walkB caps hs dl none [] sts with
  | some (some q) => decide (((dl.count (some q) : Nat) : Int) < roomOf caps q)
  | _ => false
structure DealOk (caps : List Int) (hs : List (List Int)) (dl : List (Option Pr)) : Prop where
  len : dl.length = hs.length
  held : ∀ (p : Nat) (q : Pr), dl[p]? = some (some q) → ∃ h, hs[p]? = some h ∧ q ∈ heldP caps h
  room : ∀ q : Pr, dl.count (some q) = 0 ∨ ((dl.count (some q) : Nat) : Int) ≤ roomOf caps q
theorem walkB_yes {caps : List Int} {hs : List (List Int)} {dl : List (Option Pr)} {l : Option Pr} {u : List Int} {s : Int × Pr} {r : Steps} (h : StepOk caps hs dl l u s) : walkB caps hs dl l u (s :: r) = walkB caps hs dl (some s.2) (u ++ [s.1]) r := if_pos h
def one (a b : Option Pr) : Nat := if a = b then 1 else 0
section
variable {caps : List Int} {hs : List (List Int)} {dl : List (Option Pr)}
end
theorem DealOk.of {caps : List Int} {hs : List (List Int)} {m : Nat} (ok : PoolOk caps hs m) {dl : List (Option Pr)} (d : IsDeal caps hs dl) (hr : ∀ q, some q ∈ dl → 0 < roomOf caps q) : DealOk caps hs dl where
  len := d.len
  held p q e := by
    have hp : p < hs.length := by rw [← d.len]; exact (List.getElem?_eq_some_iff.mp e).1
    have h1 := d.held p q e
    have e2 : hs[p]? = some (at_ hs p) := by have := at_get (xs := hs) (k := (p : Int)) (by omega) (by omega); rw [Int.toNat_natCast] at this; exact this
    exact ⟨_, e2, (heldP_mem (ok.asc _ (List.mem_of_getElem? e2)) q).mpr ⟨h1.2.1, h1.2.2, h1.1, hr q (List.mem_of_getElem? e)⟩⟩
  room q := by
    by_cases h : some q ∈ dl
    · exact .inr (d.room q h)
    · exact .inl (List.count_eq_zero.mpr h)
theorem take_succ {α : Type} {xs : List α} {i : Nat} {a : α} (h : xs[i]? = some a) : xs.take (i + 1) = xs.take i ++ [a] := by rw [List.take_add_one, h]; rfl
end Zc
end

section
set_option Elab.async false
set_option linter.all false
set_option maxRecDepth 100000
set_option maxHeartbeats 2000000
/-! The search for a walk: its tree, its waiting list, what stands when it fails. -/
namespace Zc
open PySem L2 Zk
/-! ### while -/
/-! ### keys -/
def prK (q : Pr) : List Key := [.inl q.1, .inl q.2]
theorem prK_eq {q r : Pr} : prK q = prK r ↔ q = r := ⟨fun h => by
  unfold prK at h
  injection h with h1 h2
  injection h1 with h1
  injection h2 with h2 h3
  injection h2 with h2
  exact Prod.ext h1 h2, fun h => by rw [h]⟩
abbrev Tk := List (Pr × Int)
def tkD (tk : Tk) : List (List Key × D) := tk.map fun e => (prK e.1, D.int e.2)
theorem getK_tk (q : Pr) : ∀ tk : Tk, getK (tkD tk) (prK q) = (tk.find? fun e => decide (e.1 = q)).map fun e => D.int e.2
  | [] => rfl
  | e :: tk => by
    have ih := getK_tk q tk
    unfold getK tkD at ih ⊢
    rw [List.map_cons, List.find?_cons, List.find?_cons]
    by_cases h : e.1 = q
    · rw [decide_eq_true (show (prK e.1, D.int e.2).1 = prK q by rw [h]), decide_eq_true h]; rfl
    · rw [decide_eq_false (show ¬ (prK e.1, D.int e.2).1 = prK q from fun z => h (prK_eq.mp z)), decide_eq_false h]; exact ih
def keys (tk : Tk) : List Pr := tk.map (·.1)
theorem keys_get {tk : Tk} {j : Nat} {q : Pr} {p : Int} (h : tk[j]? = some (q, p)) : (keys tk)[j]? = some q := by unfold keys; rw [List.getElem?_map, h]; rfl
theorem keys_inj {tk : Tk} (n : (keys tk).Nodup) {j l : Nat} {q : Pr} {p p' : Int} (h : tk[j]? = some (q, p)) (h' : tk[l]? = some (q, p')) : j = l :=
  (List.getElem?_inj (List.getElem?_eq_some_iff.mp (keys_get h)).1 n).mp ((keys_get h).trans (keys_get h').symm)
/-! ### who sits where -/
def seatsOf : Nat → List (Option Pr) → Pr → List Int
  | _, [], _ => []
  | n, o :: r, q => if o = some q then (n : Int) :: seatsOf (n + 1) r q else seatsOf (n + 1) r q
theorem seatsOf_cons (n : Nat) (o : Option Pr) (r : List (Option Pr)) (q : Pr) : seatsOf n (o :: r) q = if o = some q then (n : Int) :: seatsOf (n + 1) r q else seatsOf (n + 1) r q := rfl
theorem seatsOf_mem {q : Pr} {x : Int} : ∀ {dl : List (Option Pr)} {n : Nat}, x ∈ seatsOf n dl q ↔ ∃ p : Nat, x = ((n + p : Nat) : Int) ∧ dl[p]? = some (some q)
  | [], n => by unfold seatsOf; simp
  | o :: r, n => by
    have ih := seatsOf_mem (q := q) (x := x) (dl := r) (n := n + 1)
    have key : (∃ p : Nat, x = ((n + p : Nat) : Int) ∧ (o :: r)[p]? = some (some q)) ↔ (x = (n : Int) ∧ o = some q) ∨ ∃ p : Nat, x = ((n + 1 + p : Nat) : Int) ∧ r[p]? = some (some q) := by
      constructor
      · rintro ⟨p, h1, h2⟩
        cases p with
        | zero => exact .inl ⟨by simpa using h1, by simpa using h2⟩
        | succ p => exact .inr ⟨p, by rw [h1]; congr 1; omega, by simpa using h2⟩
      · rintro (⟨h1, h2⟩ | ⟨p, h1, h2⟩)
        · exact ⟨0, by simpa using h1, by simpa using h2⟩
        · exact ⟨p + 1, by rw [h1]; congr 1; omega, by simpa using h2⟩
    rw [key, ← ih, seatsOf_cons]
    split
    · rename_i h
      rw [List.mem_cons]
      simp [h]
    · rename_i h
      simp [h]
theorem seatsOf_nodup (q : Pr) : ∀ (dl : List (Option Pr)) (n : Nat), (seatsOf n dl q).Nodup
  | [], _ => List.nodup_nil
  | o :: r, n => by
    unfold seatsOf
    split
    · refine List.nodup_cons.mpr ⟨fun h => ?_, seatsOf_nodup q r (n + 1)⟩
      obtain ⟨p, h1, _⟩ := seatsOf_mem.mp h
      omega
    · exact seatsOf_nodup q r (n + 1)
/-- what pieces_by_pair answers -/
structure Seats (dl : List (Option Pr)) (kvs : List (List Key × D)) : Prop where
  at_ : ∀ q, (getK kvs (prK q)).getD (.lst []) = .lst (iL (seatsOf 0 dl q))
end Zc
end

section
set_option Elab.async false
set_option linter.all false
set_option maxRecDepth 100000
set_option maxHeartbeats 2000000
/-! The search for a walk, as the program writes it. -/
namespace Zc
open PySem L2 Zk
/-! ### the program -/
section
variable {g : Gm} {d e : D} {ds es : List D} {i : Nat} {q : Pr} {kvs : List (List Key × D)} {o : Option Wd} {a k : DF}
end
/-! ### the tree -/
section
variable {caps : List Int} {hs : List (List Int)} {dl : List (Option Pr)} {S : List Int}
structure Tree (caps : List Int) (hs : List (List Int)) (dl : List (Option Pr)) (S : List Int) (tk : Tk) : Prop where
  kn : (keys tk).Nodup
  tr : ∀ (j : Nat) (q : Pr) (p : Int), tk[j]? = some (q, p) → ∃ n : Nat, p = n ∧ n < hs.length ∧ q ∈ heldP caps (hs[n]?.getD []) ∧ ((dl[n]? = some none ∧ p ∈ S) ∨ ∃ (l : Nat) (q' : Pr) (p' : Int), dl[n]? = some (some q') ∧ tk[l]? = some (q', p') ∧ l < j)
/-- what walk_to holds: the walk's end wk, behind the pair o -/
structure Sfx (caps : List Int) (hs : List (List Int)) (dl : List (Option Pr)) (S : List Int) (tk : Tk) (q0 : Pr) (i : Nat) (o : Option Pr) (wk : Steps) : Prop where
  ln : wk.length = i
  wb : ∀ u : List Int, (∀ s ∈ wk, s.1 ∉ u) → walkB caps hs dl o u wk = some (some q0)
  hold : Hold hs.length (wk.map (·.1))
  top : o = none → ∃ s, wk.head? = some s ∧ s.1 ∈ S
  mid : ∀ q, o = some q → ∃ (j : Nat) (p : Int), tk[j]? = some (q, p) ∧ j + i < tk.length ∧ ∀ s ∈ wk, ∃ (m : Nat) (q' : Pr) (p' : Int), dl[s.1.toNat]? = some (some q') ∧ tk[m]? = some (q', p') ∧ j ≤ m
theorem Sfx.step {tk : Tk} (T : Tree caps hs dl S tk) {q0 : Pr} {i : Nat} {q : Pr} {wk : Steps} (h : Sfx caps hs dl S tk q0 i (some q) wk) :
    ∃ (j : Nat) (n : Nat) (l : Option Pr), tk[j]? = some (q, (n : Int)) ∧ dl[n]? = some l ∧ n < hs.length ∧ i < tk.length ∧ Sfx caps hs dl S tk q0 (i + 1) l (((n : Int), q) :: wk) := by
  obtain ⟨j, p, hj, hji, hm⟩ := h.mid q rfl
  obtain ⟨n, rfl, hn, hq, hor⟩ := T.tr j q p hj
  have fresh : ∀ l, dl[n]? = some l → (∀ q', l = some q' → ∃ (x : Nat) (p' : Int), tk[x]? = some (q', p') ∧ x < j) → ∀ s ∈ wk, s.1 ≠ (n : Int) := fun l hl hlt s hs' e => by
    obtain ⟨m, q', p', h1, h2, h3⟩ := hm s hs'
    rw [e, Int.toNat_natCast, hl] at h1
    obtain ⟨x, p2, h4, h5⟩ := hlt q' (Option.some.inj h1)
    have := keys_inj T.kn h2 h4
    omega
  have main : ∀ l, dl[n]? = some l → some q ≠ l → (∀ q', l = some q' → ∃ (x : Nat) (p' : Int), tk[x]? = some (q', p') ∧ x < j) → (l = none → (n : Int) ∈ S) → Sfx caps hs dl S tk q0 (i + 1) l (((n : Int), q) :: wk) := fun l hl hne hlt hnone => by
    have fr := fresh l hl hlt
    refine ⟨by rw [List.length_cons, h.ln], fun u hu => ?_, ⟨?_, ?_⟩, fun e => ⟨_, rfl, hnone e⟩, fun q' e => ?_⟩
    · have hok : StepOk caps hs dl l u ((n : Int), q) := ⟨⟨by show (0 : Int) ≤ (n : Int); omega, by show (n : Int) < _; omega⟩, hu _ List.mem_cons_self, by show dl[((n : Nat) : Int).toNat]? = _; rw [Int.toNat_natCast]; exact hl, by show q ∈ heldP caps (hs[((n : Nat) : Int).toNat]?.getD []); rw [Int.toNat_natCast]; exact hq, hne⟩
      rw [walkB_yes hok]
      refine h.wb _ fun s hs' z => ?_
      rcases List.mem_append.mp z with z | z
      · exact hu s (List.mem_cons_of_mem _ hs') z
      · exact fr s hs' (List.mem_singleton.mp z)
    · rw [List.map_cons]
      exact List.nodup_cons.mpr ⟨fun z => by obtain ⟨s, h1, h2⟩ := List.mem_map.mp z; exact fr s h1 h2, h.hold.1⟩
    · intro k hk
      rw [List.map_cons] at hk
      rcases List.mem_cons.mp hk with z | z
      · rw [z]; show 0 ≤ (n : Int) ∧ (n : Int) < _; omega
      · exact h.hold.2 k z
    · obtain ⟨x, p', h4, h5⟩ := hlt q' e
      refine ⟨x, p', h4, by omega, fun s hs' => ?_⟩
      rcases List.mem_cons.mp hs' with z | z
      · rw [z]
        exact ⟨x, q', p', by show dl[((n : Nat) : Int).toNat]? = _; rw [Int.toNat_natCast, hl, e], h4, Nat.le_refl _⟩
      · obtain ⟨m, q2, p2, h1, h2, h3⟩ := hm s z
        exact ⟨m, q2, p2, h1, h2, by omega⟩
  refine ⟨j, n, ?_⟩
  rcases hor with ⟨h1, h2⟩ | ⟨l, q', p', h1, h2, h3⟩
  · exact ⟨none, hj, h1, hn, by omega, main none h1 (by simp) (fun q' z => by cases z) fun _ => h2⟩
  · refine ⟨some q', hj, h1, hn, by omega, main (some q') h1 (fun z => ?_) (fun q2 z => by cases z; exact ⟨l, p', h2, h3⟩) fun z => by cases z⟩
    cases z
    have := keys_inj T.kn hj h2
    omega
theorem Tree.grow {tk : Tk} (T : Tree caps hs dl S tk) {q : Pr} {n : Nat} (hq : q ∉ keys tk) (hn : n < hs.length) (hh : q ∈ heldP caps (hs[n]?.getD [])) (hw : (dl[n]? = some none ∧ (n : Int) ∈ S) ∨ ∃ q', dl[n]? = some (some q') ∧ q' ∈ keys tk) :
    Tree caps hs dl S (tk ++ [(q, (n : Int))]) where
  kn := by
    unfold keys
    rw [List.map_append, List.nodup_append]
    exact ⟨T.kn, by simp, fun a ha b hb z => hq (by simp at hb; rw [← hb, ← z]; exact ha)⟩
  tr j q' p h := by
    rcases snoc_get h with h | ⟨h1, h2⟩
    · obtain ⟨m, e, h1, h2, h3⟩ := T.tr j q' p h
      refine ⟨m, e, h1, h2, h3.imp id ?_⟩
      rintro ⟨l, q2, p2, a1, a2, a3⟩
      exact ⟨l, q2, p2, a1, by rw [List.getElem?_append_left (List.getElem?_eq_some_iff.mp a2).1]; exact a2, a3⟩
    · cases h2
      refine ⟨n, rfl, hn, hh, hw.imp id ?_⟩
      rintro ⟨q2, a1, a2⟩
      obtain ⟨l, hl⟩ := List.mem_iff_getElem?.mp a2
      unfold keys at hl
      rw [List.getElem?_map] at hl
      cases e : tk[l]? with
      | none => rw [e] at hl; cases hl
      | some x =>
        rw [e] at hl
        obtain ⟨x1, x2⟩ := x
        cases hl
        have hlt := (List.getElem?_eq_some_iff.mp e).1
        exact ⟨l, _, x2, a1, by rw [List.getElem?_append_left hlt]; exact e, by omega⟩
/-- what the search holds between two turns -/
structure Bfs (caps : List Int) (hs : List (List Int)) (dl : List (Option Pr)) (S : List Int) (tk : Tk) (wl : List Int) : Prop where
  tree : Tree caps hs dl S tk
  wn : Hold hs.length wl
  wi : ∀ n : Nat, (n : Int) ∈ wl → (dl[n]? = some none ∧ (n : Int) ∈ S) ∨ ∃ q', dl[n]? = some (some q') ∧ q' ∈ keys tk
  full : ∀ q ∈ keys tk, roomOf caps q ≤ (dl.count (some q) : Nat) ∧ ∀ n : Nat, dl[n]? = some (some q) → (n : Int) ∈ wl
  st : ∀ n : Nat, (n : Int) ∈ S → dl[n]? = some none → (n : Int) ∈ wl
theorem Bfs.new (hS : Hold hs.length S) (hl : dl.length = hs.length) : Bfs caps hs dl S [] (S.filter fun p => decide (at_ dl p = none)) := by
  have ge : ∀ n : Nat, (n : Int) ∈ S → dl[n]? = some (at_ dl (n : Int)) := fun n h => by
    have := (hS.2 _ h).2
    have := at_get (xs := dl) (k := (n : Int)) (by omega) (by omega)
    rw [Int.toNat_natCast] at this
    exact this
  refine ⟨⟨List.nodup_nil, fun j q p h => by cases h⟩, ⟨hS.1.sublist List.filter_sublist, fun k hk => hS.2 k (List.mem_filter.mp hk).1⟩, fun n hn => .inl ?_, fun q h => (by cases h), fun n h1 h2 => List.mem_filter.mpr ⟨h1, ?_⟩⟩
  · obtain ⟨h1, h2⟩ := List.mem_filter.mp hn
    exact ⟨by rw [ge n h1, of_decide_eq_true h2], h1⟩
  · rw [ge n h1] at h2
    exact decide_eq_true (Option.some.inj h2)
theorem Bfs.more {tk : Tk} {wl : List Int} (b : Bfs caps hs dl S tk wl) (hl : dl.length = hs.length) {q : Pr} {n : Nat} (hq : q ∉ keys tk) (hn : (n : Int) ∈ wl) (hh : q ∈ heldP caps (hs[n]?.getD [])) (hf : roomOf caps q ≤ (dl.count (some q) : Nat)) :
    Bfs caps hs dl S (tk ++ [(q, (n : Int))]) (wl ++ seatsOf 0 dl q) := by
  have ks : ∀ x, x ∈ keys (tk ++ [(q, (n : Int))]) ↔ x ∈ keys tk ∨ x = q := fun x => by unfold keys; rw [List.map_append, List.mem_append]; simp
  have hnl : n < hs.length := by have := (b.wn.2 _ hn).2; omega
  have hsm : ∀ m : Nat, (m : Int) ∈ seatsOf 0 dl q ↔ dl[m]? = some (some q) := fun m => by
    rw [seatsOf_mem]
    constructor
    · rintro ⟨p, h1, h2⟩; rw [show m = p by omega]; exact h2
    · exact fun h => ⟨m, by omega, h⟩
  refine ⟨b.tree.grow hq hnl hh (b.wi n hn), ⟨?_, fun k hk => ?_⟩, fun m hm => ?_, fun q' h => ?_, fun m h1 h2 => List.mem_append_left _ (b.st m h1 h2)⟩
  · rw [List.nodup_append]
    refine ⟨b.wn.1, seatsOf_nodup q dl 0, fun x hx y hy z => ?_⟩
    rw [z] at hx
    obtain ⟨p, h1, h2⟩ := seatsOf_mem.mp hy
    rw [show (0 + p : Nat) = p by omega] at h1
    rw [h1] at hx
    rcases b.wi p hx with ⟨h3, _⟩ | ⟨q', h3, h4⟩
    · rw [h2] at h3; cases h3
    · rw [h2] at h3; cases h3; exact hq h4
  · rcases List.mem_append.mp hk with z | z
    · exact b.wn.2 k z
    · obtain ⟨p, h1, h2⟩ := seatsOf_mem.mp z
      have := (List.getElem?_eq_some_iff.mp h2).1
      omega
  · rcases List.mem_append.mp hm with z | z
    · exact (b.wi m z).imp id fun ⟨q', h1, h2⟩ => ⟨q', h1, (ks q').mpr (.inl h2)⟩
    · exact .inr ⟨q, (hsm m).mp z, (ks q).mpr (.inr rfl)⟩
  · rcases (ks q').mp h with z | z
    · exact ⟨(b.full q' z).1, fun m hm => List.mem_append_left _ ((b.full q' z).2 m hm)⟩
    · rw [z]
      exact ⟨hf, fun m hm => List.mem_append_right _ ((hsm m).mpr hm)⟩
/-- what stands when no walk is found -/
structure Stuck (caps : List Int) (hs : List (List Int)) (dl : List (Option Pr)) (S : List Int) (K : List Pr) : Prop where
  nd : K.Nodup
  full : ∀ q ∈ K, roomOf caps q ≤ (dl.count (some q) : Nat)
  st : ∀ n : Nat, (n : Int) ∈ S → dl[n]? = some none → ∀ q ∈ heldP caps (hs[n]?.getD []), q ∈ K
  sat : ∀ (n : Nat) (q : Pr), dl[n]? = some (some q) → q ∈ K → ∀ q' ∈ heldP caps (hs[n]?.getD []), q' ∈ K
theorem Bfs.stuck {tk : Tk} {wl : List Int} (b : Bfs caps hs dl S tk wl) (h : ∀ n : Nat, (n : Int) ∈ wl → ∀ q ∈ heldP caps (hs[n]?.getD []), q ∈ keys tk) : Stuck caps hs dl S (keys tk) :=
  ⟨b.tree.kn, fun q hq => (b.full q hq).1, fun n h1 h2 => h n (b.st n h1 h2), fun n q h1 h2 => h n ((b.full q h2).2 n h1)⟩
end
end Zc
end

section
set_option Elab.async false
set_option linter.all false
set_option maxRecDepth 100000
set_option maxHeartbeats 2000000
/-! Lots and places: what a dealing can reach, and what a failed search shows. -/
namespace Zc
open PySem L2 Zk
theorem nodup_sub {α : Type} [DecidableEq α] : ∀ {l1 l2 : List α}, l1.Nodup → (∀ x ∈ l1, x ∈ l2) → l1.length ≤ l2.length
  | [], _, _, _ => Nat.zero_le _
  | a :: l, l2, n, h => by
    have ha := h a List.mem_cons_self
    have hn := List.nodup_cons.mp n
    have := nodup_sub (l2 := l2.erase a) hn.2 fun x hx => (List.mem_erase_of_ne (fun z => hn.1 (by rw [← z]; exact hx))).mpr (h x (List.mem_cons_of_mem _ hx))
    rw [List.length_erase_of_mem ha] at this
    have : 0 < l2.length := List.length_pos_of_mem ha
    rw [List.length_cons]
    omega
def sumP (g : Pr → Int) : List Pr → Int
  | [] => 0
  | q :: r => g q + sumP g r
def cnt (X : List Int) (f : Int → Option Pr) (q : Pr) : Nat := (X.filter fun p => decide (f p = some q)).length
/-! ### where a word stands in a dealing -/
/-! ### pairs, places -/
def pairsP (n : Nat) : List Pr := (List.range n).flatMap fun a => (List.range (n - (a + 1))).map fun j => ((a : Int), ((a + 1 + j : Nat) : Int))
theorem pairsP_mem {n : Nat} {q : Pr} : q ∈ pairsP n ↔ 0 ≤ q.1 ∧ q.1 < q.2 ∧ q.2 < (n : Int) := by
  unfold pairsP
  rw [List.mem_flatMap]
  constructor
  · rintro ⟨a, ha, h⟩
    obtain ⟨j, hj, rfl⟩ := List.mem_map.mp h
    rw [List.mem_range] at ha hj
    exact ⟨by simp, by simp; omega, by simp; omega⟩
  · rintro ⟨h1, h2, h3⟩
    obtain ⟨x, y⟩ := q
    simp only at h1 h2 h3
    refine ⟨x.toNat, List.mem_range.mpr (by omega), List.mem_map.mpr ⟨(y - x - 1).toNat, List.mem_range.mpr (by omega), ?_⟩⟩
    ext <;> simp <;> omega
theorem pairsP_nodup (n : Nat) : (pairsP n).Nodup := by
  unfold pairsP List.Nodup
  rw [List.pairwise_flatMap]
  refine ⟨fun a _ => ?_, ?_⟩
  · rw [List.pairwise_map]
    exact List.nodup_range.imp fun h z => h (by have := (Prod.mk.inj z).2; omega)
  · refine List.nodup_range.imp fun h x hx y hy z => h ?_
    obtain ⟨j, _, rfl⟩ := List.mem_map.mp hx
    obtain ⟨j', _, rfl⟩ := List.mem_map.mp hy
    have := (Prod.mk.inj z).1
    omega
def touch (hs : List (List Int)) (L : List Int) (q : Pr) : Bool := L.any fun p => (at_ hs p).contains q.1 && (at_ hs p).contains q.2
theorem touch_iff {hs : List (List Int)} {L : List Int} {q : Pr} : touch hs L q = true ↔ ∃ p ∈ L, q.1 ∈ at_ hs p ∧ q.2 ∈ at_ hs p := by
  unfold touch
  simp [List.any_eq_true]
def gP (caps : List Int) (hs : List (List Int)) (L : List Int) (q : Pr) : Int := if touch hs L q = true then roomOf caps q else 0
def placesP (caps : List Int) (hs : List (List Int)) (L : List Int) : Int := sumP (gP caps hs L) (pairsP caps.length)
section
variable {caps : List Int} {hs : List (List Int)} {m : Nat}
theorem hs_at {p : Nat} (h : p < hs.length) : hs[p]? = some (at_ hs (p : Int)) := by
  have := at_get (xs := hs) (k := (p : Int)) (by omega) (by omega)
  rw [Int.toNat_natCast] at this
  exact this
end
end Zc
end

section
set_option Elab.async false
set_option linter.all false
set_option maxRecDepth 100000
set_option maxHeartbeats 2000000
/-! The greatest number that can be dealt, as the laws count it. -/
namespace Zc
open PySem L2 Zk
def lotsL : Nat → List (List Int)
  | 0 => [[]]
  | n + 1 => lotsL n ++ (lotsL n).map fun l => l ++ [(n : Int)]
theorem pickI_succ (n : Nat) (T : Nat → Bool) : pickI (n + 1) T = pickI n T ++ if T n = true then [(n : Int)] else [] := by
  unfold pickI
  rw [List.range_succ, List.filter_append, List.map_append]
  congr 1
  cases h : T n <;> simp [List.filter_cons, h]
theorem lotsL_pick (T : Nat → Bool) : ∀ n : Nat, pickI n T ∈ lotsL n
  | 0 => List.mem_singleton.mpr rfl
  | n + 1 => by
    have ih := lotsL_pick T n
    rw [pickI_succ]
    unfold lotsL
    rw [List.mem_append]
    cases h : T n with
    | false => rw [if_neg (by simp), List.append_nil]; exact .inl ih
    | true => rw [if_pos rfl]; exact .inr (List.mem_map.mpr ⟨_, ih, rfl⟩)
theorem lotsL_hold : ∀ {n : Nat} {L : List Int}, L ∈ lotsL n → Hold n L
  | 0, L, h => by
    rw [List.mem_singleton.mp h]
    exact ⟨List.nodup_nil, fun k hk => by cases hk⟩
  | n + 1, L, h => by
    unfold lotsL at h
    rcases List.mem_append.mp h with h | h
    · have := lotsL_hold h
      exact ⟨this.1, fun k hk => by have := this.2 k hk; omega⟩
    · obtain ⟨l, h1, rfl⟩ := List.mem_map.mp h
      have ih := lotsL_hold h1
      refine ⟨?_, fun k hk => ?_⟩
      · rw [List.nodup_append]
        refine ⟨ih.1, by simp, fun a ha b hb z => ?_⟩
        have := (ih.2 a ha).2
        rw [List.mem_singleton.mp hb] at z
        omega
      · rcases List.mem_append.mp hk with z | z
        · have := ih.2 k z; omega
        · rw [List.mem_singleton.mp z]; omega
def lackStep (caps : List Int) (hs : List (List Int)) (a : Int) (L : List Int) : Int := if (L.length : Int) - placesP caps hs L > a then (L.length : Int) - placesP caps hs L else a
def lackP (caps : List Int) (hs : List (List Int)) : Int := (lotsL hs.length).foldl (lackStep caps hs) 0
def mostP (caps : List Int) (hs : List (List Int)) : Int := (hs.length : Int) - lackP caps hs
section
variable {caps : List Int} {hs : List (List Int)} {m : Nat}
theorem lack_fold : ∀ (Ls : List (List Int)) (a : Int), a ≤ Ls.foldl (lackStep caps hs) a ∧ (∀ L ∈ Ls, (L.length : Int) - placesP caps hs L ≤ Ls.foldl (lackStep caps hs) a) ∧ (Ls.foldl (lackStep caps hs) a = a ∨ ∃ L ∈ Ls, Ls.foldl (lackStep caps hs) a = (L.length : Int) - placesP caps hs L)
  | [], a => ⟨Int.le_refl _, fun L h => (by cases h), .inl rfl⟩
  | L :: Ls, a => by
    obtain ⟨h1, h2, h3⟩ := lack_fold Ls (lackStep caps hs a L)
    have hs1 : a ≤ lackStep caps hs a L := by unfold lackStep; split <;> omega
    have hs2 : (L.length : Int) - placesP caps hs L ≤ lackStep caps hs a L := by unfold lackStep; split <;> omega
    have hs3 : lackStep caps hs a L = a ∨ lackStep caps hs a L = (L.length : Int) - placesP caps hs L := by unfold lackStep; split <;> simp
    rw [List.foldl_cons]
    refine ⟨by omega, fun L' h => ?_, ?_⟩
    · rcases List.mem_cons.mp h with z | z
      · rw [z]; omega
      · exact h2 L' z
    · rcases h3 with z | ⟨L', z1, z2⟩
      · rcases hs3 with y | y
        · exact .inl (z.trans y)
        · exact .inr ⟨L, List.mem_cons_self, z.trans y⟩
      · exact .inr ⟨L', List.mem_cons_of_mem _ z1, z2⟩
/-- how many are dealt -/
def dealt (dl : List (Option Pr)) : Int := (dl.length : Int) - (dl.count none : Nat)
/-! ### some of the pieces -/
end
end Zc
end

section
set_option Elab.async false
set_option linter.all false
set_option maxRecDepth 100000
set_option maxHeartbeats 2000000
/-! Who can be dealt: what a walk shows and what a failed search shows. -/
namespace Zc
open PySem L2 Zk
section
structure Mode (caps : List Int) (hs : List (List Int)) (M : Int) : Prop where
  ge : ∀ dl : List (Option Pr), DealOk caps hs dl → dealt dl ≤ M
  le : ∀ (dl : List (Option Pr)) (S : List Int) (K : List Pr), DealOk caps hs dl → Stuck caps hs dl S K → (∀ n : Nat, n < hs.length → (n : Int) ∈ S) → M ≤ dealt dl
structure Able (caps : List Int) (hs : List (List Int)) (dl : List (Option Pr)) (ab : List Int) : Prop where
  walk : ∀ (sts : Steps) (s : Int × Pr), dueB caps hs dl sts = true → sts.head? = some s → s.1 ∈ ab
  stuck : ∀ (S : List Int) (K : List Pr) (n : Nat), Stuck caps hs dl S K → (n : Int) ∈ S → n < hs.length → (n : Int) ∉ ab
/-! ### pools that a dealing fills -/
structure Rich (caps : List Int) (hs : List (List Int)) : Prop where
  ex : ∃ dl : List (Option Pr), IsDeal caps hs dl ∧ ∀ (p : Nat) (h : List Int), hs[p]? = some h → (dl[p]? = some none ↔ h.length ≤ 1)
end
end Zc
end

section
set_option Elab.async false
set_option linter.all false
set_option maxRecDepth 100000
set_option maxHeartbeats 2000000
/-! Greatest dealings, as the program makes them. -/
namespace Zc
open PySem L2 Zk
/-- the counts of the first pieces -/
structure Given (dl : List (Option Pr)) (tk : Tk) : Prop where
  kn : (keys tk).Nodup
  val : ∀ e ∈ tk, e.2 = ((dl.count (some e.1) : Nat) : Int)
  no : ∀ q, q ∉ keys tk → dl.count (some q) = 0
  inn : ∀ q ∈ keys tk, some q ∈ dl
theorem Given.get {dl : List (Option Pr)} {tk : Tk} (g : Given dl tk) (q : Pr) : (getK (tkD tk) (prK q)).getD (.int 0) = .int ((dl.count (some q) : Nat) : Int) := by
  rw [getK_tk]
  cases h : tk.find? fun e => decide (e.1 = q) with
  | none =>
    have : q ∉ keys tk := fun z => by
      obtain ⟨e, h1, h2⟩ := List.mem_map.mp z
      exact List.find?_eq_none.mp h e h1 (decide_eq_true h2)
    rw [g.no q this]; rfl
  | some e =>
    have e1 : e.1 = q := of_decide_eq_true (List.find?_some (p := fun e : Pr × Int => decide (e.1 = q)) h)
    have := g.val e (List.mem_of_find?_eq_some h)
    show D.int e.2 = _
    rw [this, e1]
theorem Given.skip {dl : List (Option Pr)} {tk : Tk} (g : Given dl tk) : Given (dl ++ [none]) tk := by
  have cq : ∀ r : Pr, (dl ++ [none]).count (some r) = dl.count (some r) := fun r => by
    rw [List.count_append, List.count_singleton]; simp
  exact ⟨g.kn, fun e he => by rw [cq]; exact g.val e he, fun q hq => by rw [cq]; exact g.no q hq, fun q hq => List.mem_append_left _ (g.inn q hq)⟩
section
variable {caps : List Int} {hs : List (List Int)} {m : Nat}
end
end Zc
end

section
set_option Elab.async false
set_option linter.all false
set_option maxRecDepth 100000
set_option maxHeartbeats 2000000
/-! Dealings and lots judged, whatever the list. -/
namespace Zc
open PySem L2 Zk
/-! ### is_dealing -/
section
variable {caps : List Int} {hs : List (List Int)} {m : Nat}
theorem all_bls {α : Type} (xs : List α) (T : α → Bool) : allD [.lst (xs.map fun x => D.bl (T x))] = some (.bl (xs.all T)) := by
  show (asBls _).map _ = _
  rw [asBls_map]
  show some (D.bl _) = _
  rw [List.all_map]; rfl
end
/-! ### are_ascending -/
instance {n : Nat} {h : List Int} : Decidable (Asc n h) := by unfold Asc; exact inferInstance
/-! ### repr of a list of alike data -/
end Zc
end

section
set_option Elab.async false
set_option linter.all false
set_option maxRecDepth 100000
set_option autoImplicit false
set_option maxHeartbeats 2000000
/-! Lots of greatest lack against a greatest dealing: the open pairs. -/
namespace Zc
open PySem L2 Zk
section
variable {caps : List Int} {hs : List (List Int)} {m : Nat} {dl : List (Option Pr)}
/-- of greatest lack, where dl is a greatest dealing -/
structure Tight (caps : List Int) (hs : List (List Int)) (dl : List (Option Pr)) (L : List Int) : Prop where
  hold : Hold hs.length L
  eq : (L.length : Int) = placesP caps hs L + (dl.count none : Nat)
/-- what a dealt piece holds -/
theorem dealt_in (ok : PoolOk caps hs m) (dk : DealOk caps hs dl) {n : Nat} {q : Pr} (h : dl[n]? = some (some q)) : n < hs.length ∧ q ∈ pairsP caps.length ∧ q.1 ∈ at_ hs (n : Int) ∧ q.2 ∈ at_ hs (n : Int) ∧ 0 < roomOf caps q := by
  obtain ⟨r, h1, h2⟩ := dk.held n q h
  have hn := (List.getElem?_eq_some_iff.mp h1).1
  have ha := ok.asc r (List.mem_of_getElem? h1)
  have z := (heldP_mem ha q).mp h2
  have w := held_in ha h2
  have e : at_ hs (n : Int) = r := at_eq (m := n) rfl h1
  refine ⟨hn, pairsP_mem.mpr ⟨w.1.1, z.2.2.1, w.2.2⟩, by rw [e]; exact z.1, by rw [e]; exact z.2.1, ?_⟩
  have hc : 0 < dl.count (some q) := List.count_pos_iff.mpr (List.mem_of_getElem? h)
  rcases dk.room q with r | r
  · omega
  · omega
/-- what the program opens -/
inductive Op (caps : List Int) (hs : List (List Int)) (dl : List (Option Pr)) : Pr → Prop
  | free {q : Pr} : q ∈ pairsP caps.length → 0 < roomOf caps q → ((dl.count (some q) : Nat) : Int) < roomOf caps q → Op caps hs dl q
  | step {q q' : Pr} {n : Nat} : Op caps hs dl q' → dl[n]? = some (some q) → q'.1 ∈ at_ hs (n : Int) → q'.2 ∈ at_ hs (n : Int) → Op caps hs dl q
theorem Op.room (ok : PoolOk caps hs m) (dk : DealOk caps hs dl) {q : Pr} (o : Op caps hs dl q) : q ∈ pairsP caps.length ∧ 0 < roomOf caps q := by
  cases o with
  | free h1 h2 _ => exact ⟨h1, h2⟩
  | step _ h _ _ => have := dealt_in ok dk h; exact ⟨this.2.1, this.2.2.2.2⟩
end
end Zc
end

section
set_option Elab.async false
set_option linter.all false
set_option maxRecDepth 100000
set_option autoImplicit false
set_option maxHeartbeats 2000000
/-! One piece more. -/
namespace Zc
open PySem L2 Zk
theorem sumP_same {g g' : Pr → Int} : ∀ {P : List Pr}, (∀ q ∈ P, g q = g' q) → sumP g P = sumP g' P
  | [], _ => rfl
  | x :: P, h => by
    unfold sumP
    rw [h x List.mem_cons_self, sumP_same (P := P) fun y hy => h y (List.mem_cons_of_mem _ hy)]
section
variable {caps : List Int} {hs : List (List Int)} {m : Nat} {dl : List (Option Pr)}
end
end Zc
end

section
set_option Elab.async false
set_option linter.all false
set_option maxRecDepth 100000
set_option autoImplicit false
set_option maxHeartbeats 2000000
/-! A pool laid out t times on some of twelve seats. -/
namespace Zc
open PySem L2 Zk
/-- t copies -/
def copies {α : Type} (t : Nat) (xs : List α) : List α := (List.replicate t xs).flatten
theorem copies_len {α : Type} (t : Nat) (xs : List α) : (copies t xs).length = t * xs.length := by
  unfold copies
  rw [List.length_flatten, List.map_replicate, List.sum_replicate_nat]
theorem copies_get {α : Type} (xs : List α) : ∀ (t j : Nat), j < t * xs.length → (copies t xs)[j]? = xs[j % xs.length]?
  | 0, j, h => by omega
  | t + 1, j, h => by
    have e : copies (t + 1) xs = xs ++ copies t xs := by unfold copies; rw [List.replicate_succ, List.flatten_cons]
    rw [e]
    by_cases hj : j < xs.length
    · rw [List.getElem?_append_left hj, Nat.mod_eq_of_lt hj]
    · have h2 : (t + 1) * xs.length = t * xs.length + xs.length := Nat.succ_mul _ _
      rw [List.getElem?_append_right (by omega), copies_get xs t (j - xs.length) (by omega)]
      congr 1
      exact (Nat.mod_eq_sub_mod (by omega)).symm
/-- how many of range (t * n) have a remainder that T likes -/
theorem period_len (n : Nat) (T : Nat → Bool) : ∀ t : Nat, ((List.range (t * n)).filter fun j => T (j % n)).length = t * ((List.range n).filter T).length
  | 0 => by simp
  | t + 1 => by
    have e : List.range ((t + 1) * n) = List.range (t * n) ++ (List.range n).map (fun j => t * n + j) := by
      rw [Nat.succ_mul, List.range_add]
    rw [e, List.filter_append, List.length_append, period_len n T t, List.filter_map, List.length_map, Nat.succ_mul]
    congr 2
    refine List.filter_congr fun j hj => ?_
    show T ((t * n + j) % n) = T j
    rw [Nat.mul_comm t n, Nat.mul_add_mod, Nat.mod_eq_of_lt (List.mem_range.mp hj)]
/-- a pool laid out t times on the seats sp of twelve -/
structure Laid (caps : List Int) (hs : List (List Int)) (sp wide : List Int) (rows : List (List Int)) (t : Nat) : Prop where
  t1 : 1 ≤ t
  sl : sp.length = caps.length
  s0 : ∀ k : Int, 0 ≤ k → k < (caps.length : Nat) → 0 ≤ at_ sp k ∧ at_ sp k < 12
  inc : ∀ i j : Int, 0 ≤ i → i < j → j < (caps.length : Nat) → at_ sp i < at_ sp j
  wl : wide.length = 12
  w0 : ∀ x ∈ wide, 0 ≤ x ∧ x < 10 ^ 60
  wc : ∀ k : Int, 0 ≤ k → k < (caps.length : Nat) → at_ wide (at_ sp k) = at_ caps k * (t : Int)
  rw : rows = (copies t hs).map fun r => r.map (at_ sp)
def sig (sp : List Int) (q : Pr) : Pr := (at_ sp q.1, at_ sp q.2)
section
variable {caps : List Int} {hs : List (List Int)} {sp wide : List Int} {rows : List (List Int)} {t m : Nat}
theorem Laid.inj (l : Laid caps hs sp wide rows t) {i j : Int} (hi : 0 ≤ i ∧ i < (caps.length : Nat)) (hj : 0 ≤ j ∧ j < (caps.length : Nat)) (e : at_ sp i = at_ sp j) : i = j := by
  rcases Int.lt_trichotomy i j with z | z | z
  · have := l.inc i j hi.1 z hj.2; omega
  · exact z
  · have := l.inc j i hj.1 z hi.2; omega
theorem Laid.len (l : Laid caps hs sp wide rows t) : rows.length = t * hs.length := by rw [l.rw, List.length_map, copies_len]
theorem Laid.row (l : Laid caps hs sp wide rows t) {j : Nat} (hj : j < t * hs.length) : at_ rows (j : Int) = (at_ hs ((j % hs.length : Nat) : Int)).map (at_ sp) := by
  have hn : 0 < hs.length := by
    rcases Nat.eq_zero_or_pos hs.length with z | z
    · rw [z] at hj; simp at hj
    · exact z
  have h1 := copies_get hs t j hj
  have h2 := hs_at (hs := hs) (p := j % hs.length) (Nat.mod_lt _ hn)
  rw [h2] at h1
  refine at_eq (m := j) rfl ?_
  rw [l.rw, List.getElem?_map, h1]
  rfl
theorem Laid.mem (l : Laid caps hs sp wide rows t) (ok : PoolOk caps hs m) {p : Nat} (hp : p < hs.length) {x : Int} (hx : 0 ≤ x ∧ x < (caps.length : Nat)) : at_ sp x ∈ (at_ hs (p : Int)).map (at_ sp) ↔ x ∈ at_ hs (p : Int) := by
  have ha := ok.asc _ (List.mem_of_getElem? (hs_at hp))
  constructor
  · intro h
    obtain ⟨y, hy, e⟩ := List.mem_map.mp h
    rw [← l.inj (ha.2 y hy) hx e]
    exact hy
  · exact fun h => List.mem_map.mpr ⟨x, h, rfl⟩
/-- the kinds of a lot -/
def baseL (hs : List (List Int)) (L : List Int) : List Int := pickI hs.length fun p => L.any fun x => x.toNat % hs.length == p
def fullL (hs : List (List Int)) (t : Nat) (B : List Int) : List Int := pickI (t * hs.length) fun j => B.contains ((j % hs.length : Nat) : Int)
theorem base_mem {L : List Int} {x : Int} : x ∈ baseL hs L ↔ ∃ p : Nat, x = (p : Int) ∧ p < hs.length ∧ ∃ y ∈ L, y.toNat % hs.length = p := by
  unfold baseL
  rw [pickI_mem]
  constructor
  · rintro ⟨p, rfl, hp, h⟩
    obtain ⟨y, hy, e⟩ := List.any_eq_true.mp h
    exact ⟨p, rfl, hp, y, hy, eq_of_beq e⟩
  · rintro ⟨p, rfl, hp, y, hy, e⟩
    exact ⟨p, rfl, hp, List.any_eq_true.mpr ⟨y, hy, by rw [e]; exact beq_self_eq_true _⟩⟩
theorem Laid.tch (l : Laid caps hs sp wide rows t) (ok : PoolOk caps hs m) {L : List Int} (hL : Hold (t * hs.length) L) {q : Pr} (hq : q ∈ pairsP caps.length) : touch rows L (sig sp q) = touch hs (baseL hs L) q := by
  have hq2 := pairsP_mem.mp hq
  rw [Bool.eq_iff_iff, touch_iff, touch_iff]
  constructor
  · rintro ⟨y, hy, a, b⟩
    have h1 := hL.2 y hy
    have hn : 0 < hs.length := by
      rcases Nat.eq_zero_or_pos hs.length with z | z
      · rw [z] at h1; simp at h1; omega
      · exact z
    have hm := Nat.mod_lt y.toNat hn
    rw [show y = ((y.toNat : Nat) : Int) by omega, l.row (by omega)] at a b
    exact ⟨_, base_mem.mpr ⟨y.toNat % hs.length, rfl, hm, y, hy, rfl⟩, (l.mem ok hm ⟨hq2.1, by omega⟩).mp a, (l.mem ok hm ⟨by omega, hq2.2.2⟩).mp b⟩
  · rintro ⟨x, hx, a, b⟩
    obtain ⟨p, rfl, hp, y, hy, e⟩ := base_mem.mp hx
    have h1 := hL.2 y hy
    refine ⟨y, hy, ?_⟩
    rw [show y = ((y.toNat : Nat) : Int) by omega, l.row (by omega), e]
    exact ⟨(l.mem ok hp ⟨hq2.1, by omega⟩).mpr a, (l.mem ok hp ⟨by omega, hq2.2.2⟩).mpr b⟩
/-- no piece holds a seat beside sp -/
theorem Laid.beside (l : Laid caps hs sp wide rows t) (ok : PoolOk caps hs m) {L : List Int} (hL : Hold (t * hs.length) L) {q : Pr} (h : touch rows L q = true) (h2 : q.1 < q.2) : ∃ r, r ∈ pairsP caps.length ∧ sig sp r = q := by
  obtain ⟨y, hy, a, b⟩ := touch_iff.mp h
  have h1 := hL.2 y hy
  have hn : 0 < hs.length := by
    rcases Nat.eq_zero_or_pos hs.length with z | z
    · rw [z] at h1; simp at h1; omega
    · exact z
  have hm := Nat.mod_lt y.toNat hn
  rw [show y = ((y.toNat : Nat) : Int) by omega, l.row (by omega)] at a b
  obtain ⟨x1, hx1, e1⟩ := List.mem_map.mp a
  obtain ⟨x2, hx2, e2⟩ := List.mem_map.mp b
  have ha := ok.asc _ (List.mem_of_getElem? (hs_at hm))
  have r1 := ha.2 x1 hx1
  have r2 := ha.2 x2 hx2
  have lt : x1 < x2 := by
    rcases Int.lt_trichotomy x1 x2 with z | z | z
    · exact z
    · rw [z] at e1; omega
    · have := l.inc x2 x1 r2.1 z r1.2; omega
  exact ⟨(x1, x2), pairsP_mem.mpr ⟨r1.1, lt, r2.2⟩, Prod.ext e1 e2⟩
theorem sumP_filter {g : Pr → Int} {T : Pr → Bool} : ∀ {A : List Pr}, (∀ x ∈ A, T x = false → g x = 0) → sumP g A = sumP g (A.filter T)
  | [], _ => rfl
  | x :: A, h => by
    have ih := sumP_filter (A := A) fun y hy => h y (List.mem_cons_of_mem _ hy)
    rw [List.filter_cons]
    cases e : T x with
    | true => show g x + sumP g A = g x + sumP g _; rw [ih]
    | false =>
      have := h x List.mem_cons_self e
      show g x + sumP g A = sumP g (A.filter T)
      rw [ih, this, Int.zero_add]
theorem sumP_perm {g : Pr → Int} {A B : List Pr} (p : A.Perm B) : sumP g A = sumP g B := by
  induction p with
  | nil => rfl
  | cons x _ ih => show g x + _ = g x + _; rw [ih]
  | swap x y l => show g y + (g x + sumP g l) = g x + (g y + sumP g l); omega
  | trans _ _ h1 h2 => exact h1.trans h2
theorem sumP_mapT {g f : Pr → Int} {s : Pr → Pr} {c : Int} : ∀ {A : List Pr}, (∀ x ∈ A, g (s x) = f x * c) → sumP g (A.map s) = sumP f A * c
  | [], _ => by simp [sumP]
  | x :: A, h => by
    show g (s x) + sumP g (A.map s) = (f x + sumP f A) * c
    rw [h x List.mem_cons_self, sumP_mapT (A := A) fun y hy => h y (List.mem_cons_of_mem _ hy), Int.add_mul]
theorem Laid.room (l : Laid caps hs sp wide rows t) {q : Pr} (hq : q ∈ pairsP caps.length) : roomOf wide (sig sp q) = roomOf caps q * (t : Int) := by
  have hq2 := pairsP_mem.mp hq
  show (if at_ wide (at_ sp q.2) < at_ wide (at_ sp q.1) then at_ wide (at_ sp q.2) else at_ wide (at_ sp q.1)) = (if at_ caps q.2 < at_ caps q.1 then at_ caps q.2 else at_ caps q.1) * (t : Int)
  rw [l.wc q.1 hq2.1 (by omega), l.wc q.2 (by omega) hq2.2.2]
  have ht : (0 : Int) < (t : Int) := by have := l.t1; omega
  by_cases z : at_ caps q.2 < at_ caps q.1
  · rw [if_pos z, if_pos (Int.mul_lt_mul_of_pos_right z ht)]
  · rw [if_neg z, if_neg fun w => z (Int.lt_of_mul_lt_mul_right w (by omega))]
theorem Laid.sig_in (l : Laid caps hs sp wide rows t) {q : Pr} (hq : q ∈ pairsP caps.length) : sig sp q ∈ pairsP wide.length := by
  have hq2 := pairsP_mem.mp hq
  have a := l.s0 q.1 hq2.1 (by omega)
  have b := l.s0 q.2 (by omega) hq2.2.2
  exact pairsP_mem.mpr ⟨a.1, l.inc q.1 q.2 hq2.1 hq2.2.1 hq2.2.2, by rw [l.wl]; exact b.2⟩
theorem Laid.sig_inj (l : Laid caps hs sp wide rows t) {q r : Pr} (hq : q ∈ pairsP caps.length) (hr : r ∈ pairsP caps.length) (e : sig sp q = sig sp r) : q = r := by
  have hq2 := pairsP_mem.mp hq
  have hr2 := pairsP_mem.mp hr
  have e1 : at_ sp q.1 = at_ sp r.1 := congrArg Prod.fst e
  have e2 : at_ sp q.2 = at_ sp r.2 := congrArg Prod.snd e
  exact Prod.ext (l.inj ⟨hq2.1, by omega⟩ ⟨hr2.1, by omega⟩ e1) (l.inj ⟨by omega, hq2.2.2⟩ ⟨by omega, hr2.2.2⟩ e2)
theorem Laid.places (l : Laid caps hs sp wide rows t) (ok : PoolOk caps hs m) {L : List Int} (hL : Hold (t * hs.length) L) : placesP wide rows L = placesP caps hs (baseL hs L) * (t : Int) := by
  have hn : ((pairsP caps.length).map (sig sp)).Nodup := by
    refine List.pairwise_map.mpr ((pairsP_nodup caps.length).imp_of_mem fun {a b} ha hb hne e => hne (l.sig_inj ha hb e))
  have e1 : sumP (gP wide rows L) (pairsP wide.length) = sumP (gP wide rows L) ((pairsP wide.length).filter fun q => decide (q ∈ (pairsP caps.length).map (sig sp))) := sumP_filter fun q hq hT => by
    unfold gP
    split
    · rename_i h
      obtain ⟨r, h1, h2⟩ := l.beside ok hL h (pairsP_mem.mp hq).2.1
      have := of_decide_eq_false hT
      exact absurd (List.mem_map.mpr ⟨r, h1, h2⟩) this
    · rfl
  have e2 : ((pairsP wide.length).filter fun q => decide (q ∈ (pairsP caps.length).map (sig sp))).Perm ((pairsP caps.length).map (sig sp)) := (List.perm_ext_iff_of_nodup ((pairsP_nodup _).sublist List.filter_sublist) hn).mpr fun q => by
    rw [List.mem_filter, decide_eq_true_eq]
    refine ⟨fun h => h.2, fun h => ⟨?_, h⟩⟩
    obtain ⟨r, h1, rfl⟩ := List.mem_map.mp h
    exact l.sig_in h1
  unfold placesP
  rw [e1, sumP_perm e2]
  refine sumP_mapT fun q hq => ?_
  unfold gP
  rw [l.tch ok hL hq]
  split
  · exact l.room hq
  · rw [Int.zero_mul]
theorem full_len {B : List Int} (hB : Hold hs.length B) : (fullL hs t B).length = t * B.length := by
  unfold fullL pickI
  rw [List.length_map, period_len hs.length (fun p => B.contains ((p : Nat) : Int)) t]
  congr 1
  have e : (((List.range hs.length).filter fun p => B.contains ((p : Nat) : Int)).map fun i => ((i : Nat) : Int)).length = B.length := by
    refine Nat.le_antisymm (nodup_sub (Asc.hold (pickI_asc hs.length fun p => B.contains ((p : Nat) : Int))).1 fun x hx => ?_) (nodup_sub hB.1 fun x hx => ?_)
    · obtain ⟨p, rfl, _, h⟩ := pickI_mem.mp hx
      simpa using h
    · have := hB.2 x hx
      refine pickI_mem.mpr ⟨x.toNat, by omega, by omega, ?_⟩
      rw [show ((x.toNat : Nat) : Int) = x by omega]
      simpa using hx
  rw [List.length_map] at e
  exact e
theorem base_hold (L : List Int) : Hold hs.length (baseL hs L) := Asc.hold (pickI_asc _ _)
theorem full_hold (B : List Int) : Hold (t * hs.length) (fullL hs t B) := Asc.hold (pickI_asc _ _)
theorem le_full {L : List Int} (hL : Hold (t * hs.length) L) : L.length ≤ t * (baseL hs L).length := by
  rw [← full_len (base_hold L)]
  refine nodup_sub hL.1 fun y hy => ?_
  have h1 := hL.2 y hy
  have hn : 0 < hs.length := by
    rcases Nat.eq_zero_or_pos hs.length with z | z
    · rw [z] at h1; simp at h1; omega
    · exact z
  refine pickI_mem.mpr ⟨y.toNat, by omega, by omega, ?_⟩
  have : ((y.toNat % hs.length : Nat) : Int) ∈ baseL hs L := base_mem.mpr ⟨_, rfl, Nat.mod_lt _ hn, y, hy, rfl⟩
  simpa using this
theorem base_full (h1 : 1 ≤ t) {B : List Int} (hB : Hold hs.length B) {x : Int} : x ∈ baseL hs (fullL hs t B) ↔ x ∈ B := by
  rw [base_mem]
  constructor
  · rintro ⟨p, rfl, hp, y, hy, e⟩
    obtain ⟨j, rfl, hj, h⟩ := pickI_mem.mp hy
    rw [Int.toNat_natCast] at e
    rw [e] at h
    simpa using h
  · intro hx
    have := hB.2 x hx
    have hlt : x.toNat < t * hs.length := Nat.lt_of_lt_of_le (show x.toNat < hs.length by omega) (Nat.le_mul_of_pos_left _ h1)
    refine ⟨x.toNat, by omega, by omega, x, pickI_mem.mpr ⟨x.toNat, by omega, hlt, ?_⟩, Nat.mod_eq_of_lt (by omega)⟩
    rw [Nat.mod_eq_of_lt (by omega), show ((x.toNat : Nat) : Int) = x by omega]
    simpa using hx
theorem touch_same {L L' : List Int} (h : ∀ x, x ∈ L ↔ x ∈ L') (q : Pr) : touch hs L q = touch hs L' q := by
  rw [Bool.eq_iff_iff, touch_iff, touch_iff]
  exact exists_congr fun x => and_congr_left fun _ => h x
theorem places_same {L L' : List Int} (h : ∀ x, x ∈ L ↔ x ∈ L') : placesP caps hs L = placesP caps hs L' := by
  unfold placesP
  exact sumP_same fun q _ => by unfold gP; rw [touch_same h]
/-- lacks of the laid out pool -/
theorem Laid.lack_le (l : Laid caps hs sp wide rows t) (ok : PoolOk caps hs m) {L : List Int} (hL : Hold (t * hs.length) L) : (L.length : Int) - placesP wide rows L ≤ (((baseL hs L).length : Int) - placesP caps hs (baseL hs L)) * (t : Int) := by
  rw [l.places ok hL, Int.sub_mul]
  have h1 := le_full hL
  have h2 : ((t * (baseL hs L).length : Nat) : Int) = ((baseL hs L).length : Int) * (t : Int) := by rw [Int.natCast_mul, Int.mul_comm]
  omega
theorem Laid.lack_full (l : Laid caps hs sp wide rows t) (ok : PoolOk caps hs m) {B : List Int} (hB : Hold hs.length B) : ((fullL hs t B).length : Int) - placesP wide rows (fullL hs t B) = ((B.length : Int) - placesP caps hs B) * (t : Int) := by
  rw [l.places ok (full_hold B), places_same (fun x => base_full l.t1 hB), full_len hB, Int.sub_mul, Int.natCast_mul, Int.mul_comm]
end
end Zc
end

section
set_option Elab.async false
set_option linter.all false
set_option maxRecDepth 100000
set_option autoImplicit false
set_option maxHeartbeats 2000000
/-! The open pairs of a pool laid out. -/
namespace Zc
open PySem L2 Zk
section
variable {caps : List Int} {hs : List (List Int)} {sp wide : List Int} {rows : List (List Int)} {t m : Nat}
theorem Laid.lackP (l : Laid caps hs sp wide rows t) (ok : PoolOk caps hs m) : Zc.lackP wide rows = Zc.lackP caps hs * (t : Int) := by
  obtain ⟨a1, a2, a3⟩ := lack_fold (caps := caps) (hs := hs) (lotsL hs.length) 0
  obtain ⟨b1, b2, b3⟩ := lack_fold (caps := wide) (hs := rows) (lotsL rows.length) 0
  have ea : (lotsL hs.length).foldl (lackStep caps hs) 0 = Zc.lackP caps hs := rfl
  have eb : (lotsL rows.length).foldl (lackStep wide rows) 0 = Zc.lackP wide rows := rfl
  rw [ea] at a1 a2 a3
  rw [eb] at b1 b2 b3
  rw [l.len] at b2 b3
  have ht : (0 : Int) ≤ (t : Int) := by omega
  refine Int.le_antisymm ?_ ?_
  · rcases b3 with z | ⟨L, hL, z⟩
    · rw [z]; exact Int.mul_nonneg a1 ht
    · rw [z]
      refine Int.le_trans (l.lack_le ok (lotsL_hold hL)) (Int.mul_le_mul_of_nonneg_right (a2 _ ?_) ht)
      exact lotsL_pick _ hs.length
  · rcases a3 with z | ⟨L, hL, z⟩
    · rw [z, Int.zero_mul]; exact b1
    · rw [z, ← l.lack_full ok (lotsL_hold hL)]
      exact b2 _ (lotsL_pick _ (t * hs.length))
end
end Zc
end

section
set_option Elab.async false
set_option linter.all false
set_option maxRecDepth 100000
set_option maxHeartbeats 4000000
/-! The pool laid out on twelve seats, as a program. -/
namespace Zc
open PySem L2 Zk
section
variable {caps : List Int} {hs : List (List Int)} {m : Nat}
/-- the seats, as far as k -/
structure SpL (sp : List Int) (k : Nat) : Prop where
  len : sp.length = k
  rng : ∀ j : Int, 0 ≤ j → j < (k : Nat) → 0 ≤ at_ sp j ∧ at_ sp j ≤ 3 + 2 * j
  inc : ∀ i j : Int, 0 ≤ i → i < j → j < (k : Nat) → at_ sp i < at_ sp j
theorem SpL.more {sp : List Int} {k : Nat} (s : SpL sp k) (h1 : 1 ≤ k) {d : Int} (hd : 0 ≤ d ∧ d < 2) : SpL (sp ++ [at_ sp ((k : Int) - 1) + 1 + d]) (k + 1) := by
  have hl := s.len
  have old : ∀ j : Int, 0 ≤ j → j < (k : Nat) → at_ (sp ++ [at_ sp ((k : Int) - 1) + 1 + d]) j = at_ sp j := fun j h0 hj => by
    have := at_get (xs := sp) h0 (by omega)
    exact at_eq (m := j.toNat) (by omega) (by rw [List.getElem?_append_left (by omega)]; exact this)
  have new : at_ (sp ++ [at_ sp ((k : Int) - 1) + 1 + d]) (k : Int) = at_ sp ((k : Int) - 1) + 1 + d := at_eq (m := k) rfl (by rw [List.getElem?_append_right (by omega), hl, Nat.sub_self]; rfl)
  have hb := s.rng ((k : Int) - 1) (by omega) (by omega)
  refine ⟨by rw [List.length_append, hl]; rfl, fun j h0 hj => ?_, fun i j h0 hij hj => ?_⟩
  · by_cases e : j < (k : Nat)
    · rw [old j h0 e]; exact s.rng j h0 e
    · rw [show j = (k : Int) by omega, new]; omega
  · by_cases e : j < (k : Nat)
    · rw [old j (by omega) e, old i h0 (by omega)]; exact s.inc i j h0 hij e
    · rw [show j = (k : Int) by omega, new, old i h0 (by omega)]
      by_cases e2 : i = (k : Int) - 1
      · rw [e2]; omega
      · have := s.inc i ((k : Int) - 1) h0 (by omega) (by omega); omega
end
end Zc
end

section
set_option Elab.async false
set_option linter.all false
set_option maxRecDepth 100000
set_option maxHeartbeats 4000000
/-! Losses and rounds. -/
namespace Ze
open PySem L2 Zk Zc
/-! ### rows, pools -/
section
variable {caps : List Int} {hs : List (List Int)} {m : Nat}
end
/-! ### a loss -/
def onP (hs : List (List Int)) (s : Int) : List Int := ((hs.zipIdx 0).filter fun x => x.1.contains s).map fun x => ((x.2 : Nat) : Int)
section
variable {caps : List Int} {hs : List (List Int)} {m : Nat} {s : Int}
/-! ### a round -/
/-! ### sends -/
end
/-- a send that may come after those before it -/
structure SendOk (caps : List Int) (hs : List (List Int)) (s : Int) (pre : List Pr) (q : Pr) : Prop where
  new : q.1 ∉ pre.map (·.1)
  inr : 0 ≤ q.1 ∧ q.1 < (hs.length : Int)
  oth : ¬ q.2 = s
  h1 : s ∈ at_ hs q.1
  h2 : q.2 ∈ at_ hs q.1
  cap : (((pre.map (·.2)).count q.2 : Nat) : Int) < at_ caps q.2
section
variable {caps : List Int} {hs : List (List Int)} {m : Nat} {s : Int}
end
end Ze
end

section
set_option Elab.async false
set_option linter.all false
set_option maxRecDepth 100000
set_option maxHeartbeats 4000000
/-! Deeds, against a plain model. -/
namespace Zg5
open PySem L2 Zk Zc Ze
inductive Deed
  | seat (c : Int)
  | retire
  | cap (s c : Int)
  | put (p : Int) (h : List Int)
  | remove (p : Int)
  | give (s : Int) (ps : List Int)
  | take (s : Int) (ps : List Int)
def Deed.d : Deed → D
  | .seat c => .tup [.str "seat", .int c]
  | .retire => .tup [.str "retire"]
  | .cap s c => .tup [.str "cap", .int s, .int c]
  | .put p h => .tup [.str "put", .int p, .tup (iL h)]
  | .remove p => .tup [.str "remove", .int p]
  | .give s ps => .tup [.str "give", .int s, .tup (iL ps)]
  | .take s ps => .tup [.str "take", .int s, .tup (iL ps)]
def Deed.Ok (caps : List Int) (hs : List (List Int)) : Deed → Prop
  | .seat c => 0 ≤ c
  | .retire => 1 < (caps.length : Int) ∧ onP hs ((caps.length : Int) - 1) = []
  | .cap s c => (0 ≤ s ∧ s < (caps.length : Int)) ∧ 0 ≤ c
  | .put p h => (0 ≤ p ∧ p ≤ (hs.length : Int)) ∧ Hold caps.length h
  | .remove p => 0 ≤ p ∧ p < (hs.length : Int)
  | .give s ps => ((0 ≤ s ∧ s < (caps.length : Int)) ∧ Hold hs.length ps) ∧ ∀ p ∈ ps, (at_ hs p).contains s = false
  | .take s ps => ((0 ≤ s ∧ s < (caps.length : Int)) ∧ Hold hs.length ps) ∧ ∀ p ∈ ps, (at_ hs p).contains s = true
instance {caps : List Int} {hs : List (List Int)} {x : Deed} : Decidable (x.Ok caps hs) := by
  cases x <;> unfold Deed.Ok <;> exact inferInstance
section
variable {caps : List Int} {hs : List (List Int)} {m : Nat} {s : Int}
end
end Zg5
end

section
set_option Elab.async false
set_option linter.all false
set_option maxRecDepth 100000
set_option maxHeartbeats 4000000
/-! Deeds: what is after them, and their inverses. -/
namespace Zg5
open PySem L2 Zk Zc Ze
def Deed.inv (caps : List Int) (hs : List (List Int)) : Deed → Deed
  | .seat _ => .retire
  | .retire => .seat (at_ caps ((caps.length : Int) - 1))
  | .cap s _ => .cap s (at_ caps s)
  | .put p _ => .remove p
  | .remove p => .put p (at_ hs p)
  | .give s ps => .take s (srt ps)
  | .take s ps => .give s (srt ps)
section
variable {caps : List Int} {hs : List (List Int)} {m : Nat} {s : Int}
end
end Zg5
end

section
set_option Elab.async false
set_option linter.all false
set_option maxRecDepth 100000
set_option maxHeartbeats 4000000
/-! Told sends are allowed; drawn dealings. -/
namespace Ze
open PySem L2 Zk Zc
section
variable {caps : List Int} {hs : List (List Int)} {m : Nat} {s : Int} {dl : List (Option Pr)}
/-! ### the told sends -/
def other (s j : Int) : Pr := if s < j then (s, j) else (j, s)
end
end Ze
end

section
set_option Elab.async false
set_option linter.all false
set_option maxRecDepth 100000
set_option maxHeartbeats 4000000
/-! Sends that are not allowed; drawn sends. -/
namespace Ze
open PySem L2 Zk Zc
/-! ### loops that raise -/
section
variable {caps : List Int} {hs : List (List Int)} {m : Nat} {s : Int}
/-- may the send be done, the caps apart -/
def canB (hs : List (List Int)) (s : Int) (q : Pr) : Bool := decide (0 ≤ q.1) && decide (q.1 < (hs.length : Int)) && !(q.2 == s) && (at_ hs q.1).contains s && (at_ hs q.1).contains q.2
theorem canB_iff {q : Pr} : canB hs s q = true ↔ (0 ≤ q.1 ∧ q.1 < (hs.length : Int)) ∧ ¬ q.2 = s ∧ s ∈ at_ hs q.1 ∧ q.2 ∈ at_ hs q.1 := by
  unfold canB
  simp only [Bool.and_eq_true, decide_eq_true_eq, Bool.not_eq_true', beq_eq_false_iff_ne, List.contains_iff_mem, and_assoc]
theorem sendOk_iff {pre : List Pr} {q : Pr} : SendOk caps hs s pre q ↔ (pre.map (·.1)).contains q.1 = false ∧ canB hs s q = true ∧ (((pre.map (·.2)).count q.2 : Nat) : Int) < at_ caps q.2 := by
  rw [Bool.eq_false_iff, Ne, List.contains_iff_mem, canB_iff]
  exact ⟨fun h => ⟨h.new, ⟨h.inr, h.oth, h.h1, h.h2⟩, h.cap⟩, fun ⟨h1, ⟨h2, h3, h4, h5⟩, h6⟩ => ⟨h1, h2, h3, h4, h5, h6⟩⟩
/-- the first send that is not allowed -/
def FirstW (caps : List Int) (hs : List (List Int)) (s : Int) (sn : List Pr) : Option Nat → Prop
  | none => ∀ (i : Nat) (q : Pr), sn[i]? = some q → SendOk caps hs s (sn.take i) q
  | some k => k < sn.length ∧ (∀ (i : Nat) (q : Pr), i < k → sn[i]? = some q → SendOk caps hs s (sn.take i) q) ∧ ∀ q, sn[k]? = some q → ¬ SendOk caps hs s (sn.take k) q
/-! ### a round that may be refused -/
/-! ### the law's first wrong one -/
/-! ### all sends together -/
/-- allowed in any order -/
structure AllOk (caps : List Int) (hs : List (List Int)) (s : Int) (sn : List Pr) : Prop where
  nd : (sn.map (·.1)).Nodup
  one : ∀ q ∈ sn, canB hs s q = true
  cap : ∀ j : Int, ((sn.map (·.2)).count j : Int) ≤ at_ caps j ∨ (sn.map (·.2)).count j = 0
theorem AllOk.first {sn : List Pr} (a : AllOk caps hs s sn) : FirstW caps hs s sn none := fun i q e => by
  have hi := (List.getElem?_eq_some_iff.mp e).1
  have hq := List.mem_of_getElem? e
  have hsp : sn.take (i + 1) = sn.take i ++ [q] := Zc.take_succ e
  rw [sendOk_iff]
  refine ⟨?_, a.one q hq, ?_⟩
  · rw [Bool.eq_false_iff, Ne, List.contains_iff_mem]
    intro z
    have nd : ((sn.take (i + 1)).map (·.1)).Nodup := ((List.take_sublist (i + 1) sn).map (fun q : Pr => q.1)).nodup a.nd
    rw [hsp, List.map_append, List.nodup_append] at nd
    exact nd.2.2 q.1 z q.1 (List.mem_singleton.mpr rfl) rfl
  · have h1 : ((sn.take (i + 1)).map (·.2)).count q.2 ≤ (sn.map (·.2)).count q.2 := ((List.take_sublist (i + 1) sn).map (fun q : Pr => q.2)).count_le _
    rw [hsp, List.map_append, List.count_append, show (([q] : List Pr).map (·.2)).count q.2 = 1 by simp] at h1
    rcases a.cap q.2 with h | h <;> omega
theorem AllOk.nil : AllOk caps hs s [] := ⟨.nil, (fun q h => by cases h), fun j => .inr rfl⟩
end
end Ze
end

section
set_option Elab.async false
set_option linter.all false
set_option maxRecDepth 100000
set_option maxHeartbeats 4000000
/-! The least lot of greatest lack. -/
namespace Zc
open PySem L2 Zk
section
variable {g : Gm} {d e : D} {ds es : List D} {i : Nat} {q : Pr} {kvs more : List (Key × D)} {tvs : List (List Key × D)} {o : Option Wd} {a k : DF}
end
/-! ### what is reached -/
inductive Rch (n : Nat) (ls : List (List Pr)) (rw : Nat → List (List Key × D)) (rv : Nat → Int) : Nat → Prop
  | base {k : Nat} : k < n → 0 < rv k → Rch n ls rw rv k
  | step {k j : Nat} {q : Pr} : Rch n ls rw rv k → q ∈ at_ ls (k : Int) → j < n → (getK (rw j) (prK q)).isSome = true → Rch n ls rw rv j
/-- what the search knows -/
structure Bfr (n : Nat) (ls : List (List Pr)) (rw : Nat → List (List Key × D)) (rv : Nat → Int) (tk : Tk) (lv : List (Int × D)) : Prop where
  hold : Hold n (lv.map (·.1))
  rch : ∀ k : Nat, (k : Int) ∈ lv.map (·.1) → Rch n ls rw rv k
  base : ∀ k : Nat, k < n → 0 < rv k → (k : Int) ∈ lv.map (·.1)
  out : ∀ q ∈ keys tk, ∀ j : Nat, j < n → (getK (rw j) (prK q)).isSome = true → (j : Int) ∈ lv.map (·.1)
def comeL (n : Nat) (rw : Nat → List (List Key × D)) (lv : List (Int × D)) (q : Pr) : List Int := pickI n fun j => (getK (rw j) (prK q)).isSome && !decide ((j : Int) ∈ lv.map (·.1))
theorem Bfr.more {n : Nat} {ls : List (List Pr)} {rw : Nat → List (List Key × D)} {rv : Nat → Int} {tk : Tk} {lv : List (Int × D)} (b : Bfr n ls rw rv tk lv) {k : Nat} (hk : (k : Int) ∈ lv.map (·.1)) {q : Pr} (hq : q ∈ at_ ls (k : Int)) (p : Int) (d : D) :
    Bfr n ls rw rv (tk ++ [(q, p)]) (lv ++ (comeL n rw lv q).map fun j => (j, d)) := by
  have e : (lv ++ (comeL n rw lv q).map fun j => (j, d)).map (·.1) = lv.map (·.1) ++ comeL n rw lv q := by
    rw [List.map_append, List.map_map]
    congr 1
    exact List.map_id _
  have hc : Asc n (comeL n rw lv q) := pickI_asc n _
  refine ⟨?_, ?_, ?_, ?_⟩
  · rw [e]
    refine ⟨List.nodup_append.mpr ⟨b.hold.1, hc.nodup, fun x hx y hy z => ?_⟩, fun x hx => ?_⟩
    · subst z
      obtain ⟨i, rfl, h1, h2⟩ := pickI_mem.mp hy
      rw [Bool.and_eq_true] at h2
      rw [decide_eq_true hx] at h2
      cases h2.2
    · rcases List.mem_append.mp hx with z | z
      · exact b.hold.2 x z
      · exact hc.2 x z
  · rw [e]
    intro j hj
    rcases List.mem_append.mp hj with z | z
    · exact b.rch j z
    · obtain ⟨i, e1, h1, h2⟩ := pickI_mem.mp z
      have : j = i := by omega
      subst this
      rw [Bool.and_eq_true] at h2
      exact .step (b.rch k hk) hq h1 h2.1
  · rw [e]
    exact fun j h1 h2 => List.mem_append_left _ (b.base j h1 h2)
  · rw [e]
    intro r hr j hj h
    unfold keys at hr
    rw [List.map_append, List.mem_append] at hr
    rcases hr with z | z
    · exact List.mem_append_left _ (b.out r z j hj h)
    · have z : r = q := by simpa using z
      subst z
      by_cases w : (j : Int) ∈ lv.map (·.1)
      · exact List.mem_append_left _ w
      · refine List.mem_append_right _ (pickI_mem.mpr ⟨j, rfl, hj, ?_⟩)
        rw [h, decide_eq_false w]
        rfl
end Zc
end

section
set_option Elab.async false
set_option linter.all false
set_option maxRecDepth 100000
set_option maxHeartbeats 4000000
/-! Least lots: one only; of a pool laid out. -/
namespace Zc
open PySem L2 Zk
theorem asc_eq {n : Nat} {A B : List Int} (a : Asc n A) (b : Asc n B) (h : ∀ x, x ∈ A ↔ x ∈ B) : A = B :=
  perm_sorted ((List.perm_ext_iff_of_nodup a.nodup b.nodup).mpr h) (a.1.imp fun q => by omega) (b.1.imp fun q => by omega)
section
variable {caps : List Int} {hs : List (List Int)} {m : Nat} {dl : List (Option Pr)}
/-- of greatest lack -/
def Gl (caps : List Int) (hs : List (List Int)) (L : List Int) : Prop := (L.length : Int) - placesP caps hs L = lackP caps hs
structure LeastLot (caps : List Int) (hs : List (List Int)) (S : List Int) : Prop where
  asc : Asc hs.length S
  gl : Gl caps hs S
  sub : ∀ L, Hold hs.length L → Gl caps hs L → ∀ x ∈ S, x ∈ L
theorem LeastLot.one {S S' : List Int} (a : LeastLot caps hs S) (b : LeastLot caps hs S') : S = S' :=
  asc_eq a.asc b.asc fun x => ⟨a.sub S' (Asc.hold b.asc) b.gl x, b.sub S (Asc.hold a.asc) a.gl x⟩
/-! ### laid out -/
variable {sp wide : List Int} {rows : List (List Int)} {t : Nat}
theorem copies_mem2 {α : Type} {xs : List α} {x : α} (h : x ∈ copies t xs) : x ∈ xs := by
  unfold copies at h
  obtain ⟨l, h1, h2⟩ := List.mem_flatten.mp h
  rw [(List.mem_replicate.mp h1).2] at h2
  exact h2
theorem Laid.pool (l : Laid caps hs sp wide rows t) (ok : PoolOk caps hs m) {M : Nat} (hM : t * m ≤ M) : PoolOk wide rows M := by
  have hpm := ok.pm
  refine ⟨by rw [l.wl]; omega, by rw [l.wl]; omega, l.w0, ?_, fun r hr => ?_⟩
  · rw [l.len]
    exact Nat.le_trans (Nat.mul_le_mul (Nat.le_refl t) hpm) hM
  · rw [l.rw] at hr
    obtain ⟨r0, h0, rfl⟩ := List.mem_map.mp hr
    have ha := ok.asc r0 (copies_mem2 h0)
    refine ⟨List.pairwise_map.mpr (ha.1.imp_of_mem fun {a b} hx hy hlt => l.inc a b (ha.2 a hx).1 hlt (ha.2 b hy).2), fun h hh => ?_⟩
    obtain ⟨a, hx, rfl⟩ := List.mem_map.mp hh
    rw [l.wl]
    exact l.s0 a (ha.2 a hx).1 (ha.2 a hx).2
end
end Zc
end

section
set_option Elab.async false
set_option linter.all false
set_option maxRecDepth 100000
set_option maxHeartbeats 4000000
/-! The first dealing (namespace Zy): made by mkZfE.py of K10n .. K10q. -/
namespace Zy
open PySem L2 Zk Zc
noncomputable section
section
variable {caps : List Int} {hs : List (List Int)} {m : Nat}
/-! ### a greatest dealing in which the piece has the pair -/
/-- the pieces before p have just what they have to keep -/
def Fixed (hs : List (List Int)) (dl : List (Option Pr)) (p : Nat) : Prop := ∀ n : Nat, n < p → hs[n]? = some (match at_ dl (n : Int) with | none => [] | some q => [q.1, q.2])
/-- greatest, and alike before p -/
structure Great (caps : List Int) (hs : List (List Int)) (dl : List (Option Pr)) (p : Nat) (X : List (Option Pr)) : Prop where
  ok : DealOk caps hs X
  most : dealt X = mostP caps hs
  same : ∀ n : Nat, n < p → at_ X (n : Int) = at_ dl (n : Int)
/-- the dealing that the search starts with -/
structure Ch (caps : List Int) (dl ch : List (Option Pr)) (p : Nat) (q : Pr) : Prop where
  len : ch.length = dl.length
  at_p : at_ ch (p : Int) = some q
  low : ∀ n : Nat, n < p → at_ ch (n : Int) = at_ dl (n : Int)
  els : ∀ n : Nat, n ≠ p → at_ ch (n : Int) = at_ dl (n : Int) ∨ at_ ch (n : Int) = none
  room : ((ch.count (some q) : Nat) : Int) ≤ roomOf caps q
  cnt : ∀ x, x ≠ q → ch.count (some x) ≤ dl.count (some x)
end
section
variable {caps : List Int} {hs : List (List Int)} {m : Nat}
end
section
variable {caps : List Int} {hs : List (List Int)} {m : Nat}
/-- the choice at n is the first possible one -/
def LexAt (caps : List Int) (hs0 : List (List Int)) (dl : List (Option Pr)) (n : Nat) : Prop := ∃ k : Nat, k ≤ (heldP caps (at_ hs0 (n : Int))).length ∧
  (∀ (j : Nat) (q : Pr), j < k → (heldP caps (at_ hs0 (n : Int)))[j]? = some q → ∀ X, DealOk caps hs0 X → dealt X = mostP caps hs0 → (∀ i : Nat, i < n → at_ X (i : Int) = at_ dl (i : Int)) → at_ X (n : Int) ≠ some q) ∧
  (k < (heldP caps (at_ hs0 (n : Int))).length → (heldP caps (at_ hs0 (n : Int)))[k]? = at_ dl (n : Int)) ∧ (k = (heldP caps (at_ hs0 (n : Int))).length → at_ dl (n : Int) = none)
/-- before the piece p -/
structure Inv (caps : List Int) (m : Nat) (hs0 : List (List Int)) (p : Nat) (hs : List (List Int)) (dl : List (Option Pr)) : Prop where
  ok : PoolOk caps hs m
  dk : DealOk caps hs dl
  most : dealt dl = mostP caps hs
  fx : Fixed hs dl p
  len : hs.length = hs0.length
  tail : ∀ n : Nat, p ≤ n → hs[n]? = hs0[n]?
  back : ∀ X, DealOk caps hs X → DealOk caps hs0 X
  fwd : ∀ X, DealOk caps hs0 X → (∀ k : Nat, k < p → at_ X (k : Int) = at_ dl (k : Int)) → DealOk caps hs X
  eqm : mostP caps hs = mostP caps hs0
  lex : ∀ n : Nat, n < p → LexAt caps hs0 dl n
theorem LexAt.congr {hs0 : List (List Int)} {dl dl' : List (Option Pr)} {n : Nat} (h : LexAt caps hs0 dl n) (e : ∀ i : Nat, i ≤ n → at_ dl' (i : Int) = at_ dl (i : Int)) : LexAt caps hs0 dl' n := by
  obtain ⟨k, h1, h2, h3, h4⟩ := h
  exact ⟨k, h1, fun j q hj hq X hX hm hs => h2 j q hj hq X hX hm fun i hi => (hs i hi).trans (e i (by omega)), fun h => by rw [e n (Nat.le_refl _)]; exact h3 h, fun h => by rw [e n (Nat.le_refl _)]; exact h4 h⟩
end
section
variable {caps : List Int} {hs : List (List Int)} {m : Nat}
end
end
end Zy
end

section
set_option Elab.async false
set_option linter.all false
set_option maxRecDepth 100000
set_option maxHeartbeats 4000000
/-! What the helpers are in the common files. -/
namespace Y
open PySem L2 Zk Zc
local macro_rules | `(tactic| walk_at "zs") => `(tactic| simp only [beq_self_eq_true, Bool.or_false, Bool.false_or, Bool.true_or, Bool.or_true, Bool.and_false, Bool.false_and, Bool.true_and, Bool.and_true, Zc.isi_ii, Zc.isi_ib, Zc.isi_tt, Zc.isi_ll, Zc.rowsT_len, Zc.rowsL_len, Zc.is_integer_call, Zc.ix_p0, Zc.ix_p1, dgTup2_a, dgTup3_a, Bool.not_true, Bool.not_false, mul_lz, List.flatten_cons, List.flatten_nil, Int.reduceToNat, add_ll, pow10_12, pow10_18, pow10_39, pow10_41, pow10_59, pow10_60, mkLst_some, mkTup_some, List.length_cons, List.length_nil, Nat.zero_le, Nat.reduceAdd, Nat.reduceLeDiff, call1, callO1, call2, callO2, call3, callO3, call4, callO4, call5, callO5, call6, callO6, ap1_some, ap2_some, apN_some, apC_some, d1_a, d2_a, dN_a, aNil_a, aCons_a, dC_a, dVar_z, dVar_s, tDt_a, apAnd_t, apAnd_f, apOr_t, apOr_f, dAndT_a, dOrT_a, apNot_some, dNotT_a, apAndV_t, apAndV_f, dAndV_a, apOrV_t, apOrV_f, dOrV_a, apIf_t, apIf_f, dIf_a, apCh_t, apCh_f, apChain_some, dChain_a, apSeq_nx, apSeq_rt, apSeq_ct, apSeq_bk, sSeq_a, apIfS_t, apIfS_f, sIf_a, sNext_a, sCont_a, sBreak_a, apRet_some, sRet_a, apRetO_some, sRetO_a, sRetN_a, getO_z, getO_s, apRetV_some, sRetV_a, ltB_z, ltB_s, okSlot_s, apAsg_some, sAsg_a, dName_ok, apG_some, dgCons_a, dgNil_a, apAsgO_some, sAsgO_a, sApp_a, sSetI_a, apFor_some, sFor_a, dItems_a, dRng1_a, dRng2_a, apEn_some, apEn_tup, dEnum_a, sFrz_a, frzs_nil, frzs_cons, frzI_o, frzI_v, frzI_n, frzI_s, frz1_s, frzAll_nil, frzAll_o, frzAll_v, frzAll_n, peekT_a, apPk_int, apPk_bl, apPk_str, apPk_non, peekF_a, dCall_a, toO_o, dCallO_a, dMake_a, Wd_v, Wd_o, dSl_a, apSl_some, oNone_a, oSome_a, apO_some, add_ii, sub_ii, lt_ii, le_ii, gt_ii, ge_ii, eq_ii, ne_ii, neg_i, not_b, bl_b, tru_b, tru_i, tru_l, tru_t, tru_n, len_l, len_t, len_scr, abs_i, int_i, list_l, list_t, tuple_l, tuple_t, min_ii, max_ii, rev_l, items_l, items_t, iL_len, run_a, outW_rt, outW_nx, List.map_cons, List.map_nil, List.replicate, List.append_nil, List.cons_append, List.nil_append, List.set_cons_zero, List.set_cons_succ, Option.map_some])
local macro_rules | `(tactic| walk_at "zd") => `(tactic| first | ((with_reducible show okSlot _ _ = true); simp only [okSlot_s, ltB_z, ltB_s]; done) | omega | assumption | decide | (simp only [List.length_map, List.length_append, List.length_cons, List.length_nil, List.length_range, List.length_set, List.length_reverse, iL_len, Zc.rowsT_len, Zc.rowsL_len] at *; omega))
local macro_rules | `(tactic| walk_at "zz") => `(tactic| simp (disch := walk_at "zd") only [dgTup2_a, dgTup3_a, Bool.not_true, Bool.not_false, mul_lz, List.flatten_cons, List.flatten_nil, Int.reduceToNat, add_ll, pow10_12, pow10_18, pow10_39, pow10_41, pow10_59, pow10_60, mkLst_some, mkTup_some, List.length_cons, List.length_nil, Nat.zero_le, Nat.reduceAdd, Nat.reduceLeDiff, call1, callO1, call2, callO2, call3, callO3, call4, callO4, call5, callO5, call6, callO6, ap1_some, ap2_some, apN_some, apC_some, d1_a, d2_a, dN_a, aNil_a, aCons_a, dC_a, dVar_z, dVar_s, tDt_a, apAnd_t, apAnd_f, apOr_t, apOr_f, dAndT_a, dOrT_a, apNot_some, dNotT_a, apAndV_t, apAndV_f, dAndV_a, apOrV_t, apOrV_f, dOrV_a, apIf_t, apIf_f, dIf_a, apCh_t, apCh_f, apChain_some, dChain_a, apSeq_nx, apSeq_rt, apSeq_ct, apSeq_bk, sSeq_a, apIfS_t, apIfS_f, sIf_a, sNext_a, sCont_a, sBreak_a, apRet_some, sRet_a, apRetO_some, sRetO_a, sRetN_a, getO_z, getO_s, apRetV_some, sRetV_a, ltB_z, ltB_s, okSlot_s, apAsg_some, sAsg_a, dName_ok, apG_some, dgCons_a, dgNil_a, apAsgO_some, sAsgO_a, sApp_a, sSetI_a, apFor_some, sFor_a, dItems_a, dRng1_a, dRng2_a, apEn_some, apEn_tup, dEnum_a, sFrz_a, frzs_nil, frzs_cons, frzI_o, frzI_v, frzI_n, frzI_s, frz1_s, frzAll_nil, frzAll_o, frzAll_v, frzAll_n, peekT_a, apPk_int, apPk_bl, apPk_str, apPk_non, peekF_a, dCall_a, toO_o, dCallO_a, dMake_a, Wd_v, Wd_o, dSl_a, apSl_some, oNone_a, oSome_a, apO_some, add_ii, sub_ii, lt_ii, le_ii, gt_ii, ge_ii, eq_ii, ne_ii, neg_i, not_b, bl_b, tru_b, tru_i, tru_l, tru_t, tru_n, len_l, len_t, len_scr, abs_i, int_i, list_l, list_t, tuple_l, tuple_t, min_ii, max_ii, rev_l, items_l, items_t, iL_len, run_a, outW_rt, outW_nx, List.map_cons, List.map_nil, List.replicate, List.append_nil, List.cons_append, List.nil_append, List.set_cons_zero, List.set_cons_succ, Option.map_some, Int.reduceAdd, Int.reduceMul, Int.reduceSub, Int.reduceNeg, beq_self_eq_true, Bool.or_false, Bool.false_or, Bool.true_or, Bool.or_true, Bool.and_false, Bool.false_and, Bool.true_and, Bool.and_true, Zc.isi_ii, Zc.isi_ib, Zc.isi_tt, Zc.isi_ll, Zc.rowsT_len, Zc.rowsL_len, Zc.is_integer_call, Zc.ix_p0, Zc.ix_p1, apR1_any, Int.toNat_natCast, apR2_some, mod_ii, fdiv_ii, mul_small, apApp_some, ix_at, ix_atT, ix_atI, ix_atIT, ix_atR, ix_atRT, List.length_map, List.length_append, List.length_range, List.length_set, Option.map_none, Option.map_map, decide_true, decide_false, peekO_a, apPkO_i, frz_wo, frz_wv, frz_kk, wipeG_nil, wipeG_cons, orB_s, orB_t, orB_f, andB_s, andB_t, andB_f, orV_s, orV_t, orV_f, andV_s, andV_t, andV_f, apOr_b, apAnd_b, apOrV_b, apAndV_b, apCh_b, Zc.cut_from, Zc.cut_to, in_l, in_t, in_pr, eq_op_op, eq_op_pr, eq_pr_op, eq_pr_pr, ne_op_op, ne_op_pr, ne_pr_op, ne_pr_pr, isnt_op, is_op, pr_0, pr_1, st_0, st_1, inP_pr, ninP_pr, nin_l, isi_prt, len_pr, op_some, prD_eq, ix_lit2, ix_lit3, ix_lit4, ix_lit5, ix_lit6, ix_lit7, ix_lit8, ix_lit9, ix_lit10, ix_lit11, ix_lit12, ix_lit13, ix_lit14, ix_lit15, setI_i, setI_p, setI_o, setI_n, snoc_i, snoc_r, snoc_p, snoc_n, snoc_o, snoc_pp, snoc_s, eq_ol, ne_ol, eq_pl, ne_pl, eq_sl, ne_sl, eq_il, ne_il, eq_rl, ne_rl, eq_il1, isi_bb, eq_bb, ne_bb, eq_self])
local macro_rules | `(tactic| walk_at "zf") => `(tactic| first | (walk_at "zz"; done) | (walk_at "zz"; rfl) | rfl)
local macro_rules | `(tactic| walk_at "lc") => `(tactic| ((case hf => rfl); (case hi => first | (walk_at "zz"; done) | (walk_at "zz"; rfl) | rfl); (case hl => walk_at "zd"); (case h => (intro a ha; refine ⟨_, dName_ok rfl, ?_, fun hT => ?_⟩ <;> walk_at "zz" <;> rfl))))
local macro_rules | `(tactic| walk_at "lm") => `(tactic| ((case hf => rfl); (case hi => first | (walk_at "zz"; done) | (walk_at "zz"; rfl) | rfl); (case hl => walk_at "zd"); (case h => (intro a ha; refine ⟨_, dName_ok rfl, ?_⟩; walk_at "zz"; rfl))))
theorem e_law_draws : g_law_draws = Zc.g_law_draws := rfl
theorem e_law_bits : g_law_bits = Zc.g_law_bits := rfl
theorem e_law_is_integer : g_law_is_integer = Zc.g_law_is_integer := rfl
theorem cell_any (ns : List Int) (k : Int) (h0 : 0 ≤ k) (h : ns.length ≤ 63) : ∃ c : Int, g_law_cell [.scr ns, .int k] = some (.v (.int c)) := by
  unfold g_law_cell t_law_cell
  walk_at "zz"
  by_cases hk : k < (ns.length : Nat)
  · rw [decide_eq_true hk]
    walk_at "zz"
    have e := ix_scr (at_get h0 hk)
    rw [show ((k.toNat : Nat) : Int) = k by omega] at e
    rw [e]
    exact ⟨_, rfl⟩
  · rw [decide_eq_false hk]
    walk_at "zz"
    exact ⟨_, rfl⟩
end Y
end

section
set_option Elab.async false
set_option linter.all false
set_option maxRecDepth 100000
set_option maxHeartbeats 4000000
/-! Counting, and a loop that ends at its first find. -/
namespace Y
open PySem L2 Zk Zc
local macro_rules | `(tactic| walk_at "zs") => `(tactic| simp only [beq_self_eq_true, Bool.or_false, Bool.false_or, Bool.true_or, Bool.or_true, Bool.and_false, Bool.false_and, Bool.true_and, Bool.and_true, Zc.isi_ii, Zc.isi_ib, Zc.isi_tt, Zc.isi_ll, Zc.rowsT_len, Zc.rowsL_len, Zc.is_integer_call, Zc.ix_p0, Zc.ix_p1, dgTup2_a, dgTup3_a, Bool.not_true, Bool.not_false, mul_lz, List.flatten_cons, List.flatten_nil, Int.reduceToNat, add_ll, pow10_12, pow10_18, pow10_39, pow10_41, pow10_59, pow10_60, mkLst_some, mkTup_some, List.length_cons, List.length_nil, Nat.zero_le, Nat.reduceAdd, Nat.reduceLeDiff, call1, callO1, call2, callO2, call3, callO3, call4, callO4, call5, callO5, call6, callO6, ap1_some, ap2_some, apN_some, apC_some, d1_a, d2_a, dN_a, aNil_a, aCons_a, dC_a, dVar_z, dVar_s, tDt_a, apAnd_t, apAnd_f, apOr_t, apOr_f, dAndT_a, dOrT_a, apNot_some, dNotT_a, apAndV_t, apAndV_f, dAndV_a, apOrV_t, apOrV_f, dOrV_a, apIf_t, apIf_f, dIf_a, apCh_t, apCh_f, apChain_some, dChain_a, apSeq_nx, apSeq_rt, apSeq_ct, apSeq_bk, sSeq_a, apIfS_t, apIfS_f, sIf_a, sNext_a, sCont_a, sBreak_a, apRet_some, sRet_a, apRetO_some, sRetO_a, sRetN_a, getO_z, getO_s, apRetV_some, sRetV_a, ltB_z, ltB_s, okSlot_s, apAsg_some, sAsg_a, dName_ok, apG_some, dgCons_a, dgNil_a, apAsgO_some, sAsgO_a, sApp_a, sSetI_a, apFor_some, sFor_a, dItems_a, dRng1_a, dRng2_a, apEn_some, apEn_tup, dEnum_a, sFrz_a, frzs_nil, frzs_cons, frzI_o, frzI_v, frzI_n, frzI_s, frz1_s, frzAll_nil, frzAll_o, frzAll_v, frzAll_n, peekT_a, apPk_int, apPk_bl, apPk_str, apPk_non, peekF_a, dCall_a, toO_o, dCallO_a, dMake_a, Wd_v, Wd_o, dSl_a, apSl_some, oNone_a, oSome_a, apO_some, add_ii, sub_ii, lt_ii, le_ii, gt_ii, ge_ii, eq_ii, ne_ii, neg_i, not_b, bl_b, tru_b, tru_i, tru_l, tru_t, tru_n, len_l, len_t, len_scr, abs_i, int_i, list_l, list_t, tuple_l, tuple_t, min_ii, max_ii, rev_l, items_l, items_t, iL_len, run_a, outW_rt, outW_nx, List.map_cons, List.map_nil, List.replicate, List.append_nil, List.cons_append, List.nil_append, List.set_cons_zero, List.set_cons_succ, Option.map_some])
local macro_rules | `(tactic| walk_at "zd") => `(tactic| first | ((with_reducible show okSlot _ _ = true); simp only [okSlot_s, ltB_z, ltB_s]; done) | omega | assumption | decide | (simp only [List.length_map, List.length_append, List.length_cons, List.length_nil, List.length_range, List.length_set, List.length_reverse, iL_len, Zc.rowsT_len, Zc.rowsL_len] at *; omega))
local macro_rules | `(tactic| walk_at "zz") => `(tactic| simp (disch := walk_at "zd") only [dgTup2_a, dgTup3_a, Bool.not_true, Bool.not_false, mul_lz, List.flatten_cons, List.flatten_nil, Int.reduceToNat, add_ll, pow10_12, pow10_18, pow10_39, pow10_41, pow10_59, pow10_60, mkLst_some, mkTup_some, List.length_cons, List.length_nil, Nat.zero_le, Nat.reduceAdd, Nat.reduceLeDiff, call1, callO1, call2, callO2, call3, callO3, call4, callO4, call5, callO5, call6, callO6, ap1_some, ap2_some, apN_some, apC_some, d1_a, d2_a, dN_a, aNil_a, aCons_a, dC_a, dVar_z, dVar_s, tDt_a, apAnd_t, apAnd_f, apOr_t, apOr_f, dAndT_a, dOrT_a, apNot_some, dNotT_a, apAndV_t, apAndV_f, dAndV_a, apOrV_t, apOrV_f, dOrV_a, apIf_t, apIf_f, dIf_a, apCh_t, apCh_f, apChain_some, dChain_a, apSeq_nx, apSeq_rt, apSeq_ct, apSeq_bk, sSeq_a, apIfS_t, apIfS_f, sIf_a, sNext_a, sCont_a, sBreak_a, apRet_some, sRet_a, apRetO_some, sRetO_a, sRetN_a, getO_z, getO_s, apRetV_some, sRetV_a, ltB_z, ltB_s, okSlot_s, apAsg_some, sAsg_a, dName_ok, apG_some, dgCons_a, dgNil_a, apAsgO_some, sAsgO_a, sApp_a, sSetI_a, apFor_some, sFor_a, dItems_a, dRng1_a, dRng2_a, apEn_some, apEn_tup, dEnum_a, sFrz_a, frzs_nil, frzs_cons, frzI_o, frzI_v, frzI_n, frzI_s, frz1_s, frzAll_nil, frzAll_o, frzAll_v, frzAll_n, peekT_a, apPk_int, apPk_bl, apPk_str, apPk_non, peekF_a, dCall_a, toO_o, dCallO_a, dMake_a, Wd_v, Wd_o, dSl_a, apSl_some, oNone_a, oSome_a, apO_some, add_ii, sub_ii, lt_ii, le_ii, gt_ii, ge_ii, eq_ii, ne_ii, neg_i, not_b, bl_b, tru_b, tru_i, tru_l, tru_t, tru_n, len_l, len_t, len_scr, abs_i, int_i, list_l, list_t, tuple_l, tuple_t, min_ii, max_ii, rev_l, items_l, items_t, iL_len, run_a, outW_rt, outW_nx, List.map_cons, List.map_nil, List.replicate, List.append_nil, List.cons_append, List.nil_append, List.set_cons_zero, List.set_cons_succ, Option.map_some, Int.reduceAdd, Int.reduceMul, Int.reduceSub, Int.reduceNeg, beq_self_eq_true, Bool.or_false, Bool.false_or, Bool.true_or, Bool.or_true, Bool.and_false, Bool.false_and, Bool.true_and, Bool.and_true, Zc.isi_ii, Zc.isi_ib, Zc.isi_tt, Zc.isi_ll, Zc.rowsT_len, Zc.rowsL_len, Zc.is_integer_call, Zc.ix_p0, Zc.ix_p1, apR1_any, Int.toNat_natCast, apR2_some, mod_ii, fdiv_ii, mul_small, apApp_some, ix_at, ix_atT, ix_atI, ix_atIT, ix_atR, ix_atRT, List.length_map, List.length_append, List.length_range, List.length_set, Option.map_none, Option.map_map, decide_true, decide_false, peekO_a, apPkO_i, frz_wo, frz_wv, frz_kk, wipeG_nil, wipeG_cons, orB_s, orB_t, orB_f, andB_s, andB_t, andB_f, orV_s, orV_t, orV_f, andV_s, andV_t, andV_f, apOr_b, apAnd_b, apOrV_b, apAndV_b, apCh_b, Zc.cut_from, Zc.cut_to, in_l, in_t, in_pr, eq_op_op, eq_op_pr, eq_pr_op, eq_pr_pr, ne_op_op, ne_op_pr, ne_pr_op, ne_pr_pr, isnt_op, is_op, pr_0, pr_1, st_0, st_1, inP_pr, ninP_pr, nin_l, isi_prt, len_pr, op_some, prD_eq, ix_lit2, ix_lit3, ix_lit4, ix_lit5, ix_lit6, ix_lit7, ix_lit8, ix_lit9, ix_lit10, ix_lit11, ix_lit12, ix_lit13, ix_lit14, ix_lit15, setI_i, setI_p, setI_o, setI_n, snoc_i, snoc_r, snoc_p, snoc_n, snoc_o, snoc_pp, snoc_s, eq_ol, ne_ol, eq_pl, ne_pl, eq_sl, ne_sl, eq_il, ne_il, eq_rl, ne_rl, eq_il1, isi_bb, eq_bb, ne_bb, eq_self])
local macro_rules | `(tactic| walk_at "zf") => `(tactic| first | (walk_at "zz"; done) | (walk_at "zz"; rfl) | rfl)
local macro_rules | `(tactic| walk_at "lc") => `(tactic| ((case hf => rfl); (case hi => first | (walk_at "zz"; done) | (walk_at "zz"; rfl) | rfl); (case hl => walk_at "zd"); (case h => (intro a ha; refine ⟨_, dName_ok rfl, ?_, fun hT => ?_⟩ <;> walk_at "zz" <;> rfl))))
local macro_rules | `(tactic| walk_at "lm") => `(tactic| ((case hf => rfl); (case hi => first | (walk_at "zz"; done) | (walk_at "zz"; rfl) | rfl); (case hl => walk_at "zd"); (case h => (intro a ha; refine ⟨_, dName_ok rfl, ?_⟩; walk_at "zz"; rfl))))
theorem loop_find {α : Type} {f : DGF} {s : SF} (enc : α → D) (J : Gm → Prop) (W : α → Option Wd) : ∀ (xs : List α) (g : Gm), J g →
    (∀ a ∈ xs, ∀ g, J g → ∃ g1, f (enc a) g = some g1 ∧ ((W a = none ∧ ∃ g2, s g1 = some (.nx g2) ∧ J g2) ∨ ∃ w, W a = some w ∧ s g1 = some (.rt w))) →
    (xs.findSome? W = none ∧ ∃ g', loopD f s (xs.map enc) g = some (.nx g') ∧ J g') ∨ ∃ w, xs.findSome? W = some w ∧ loopD f s (xs.map enc) g = some (.rt w)
  | [], g, hJ, _ => .inl ⟨rfl, g, rfl, hJ⟩
  | a :: xs, g, hJ, h => by
    obtain ⟨g1, e1, z⟩ := h a List.mem_cons_self g hJ
    have step : loopD f s ((a :: xs).map enc) g = (s g1).bind fun o => match o with
        | .nx g2 => loopD f s (xs.map enc) g2
        | .ct g2 => loopD f s (xs.map enc) g2
        | .bk g2 => some (.nx g2)
        | .rt w => some (.rt w) := by
      rw [List.map_cons]
      conv => lhs; unfold loopD
      rw [e1]
      rfl
    rcases z with ⟨w0, g2, e2, h2⟩ | ⟨w, w1, e2⟩
    · rw [step, e2, List.findSome?_cons, w0]
      exact loop_find enc J W xs g2 h2 fun b hb => h b (List.mem_cons_of_mem _ hb)
    · right
      rw [step, e2, List.findSome?_cons, w1]
      exact ⟨w, rfl, rfl⟩
def FS (o : Option Out) (v : Option Wd) (J : Gm → Prop) : Prop := (v = none ∧ ∃ g2, o = some (.nx g2) ∧ J g2) ∨ ∃ w, v = some w ∧ o = some (.rt w)
theorem fs_nx {g : Gm} {v : Option Wd} {J : Gm → Prop} (h : v = none) (hJ : J g) : FS (some (.nx g)) v J := .inl ⟨h, g, rfl, hJ⟩
theorem fs_rt {w : Wd} {v : Option Wd} {J : Gm → Prop} (h : v = some w) : FS (some (.rt w)) v J := .inr ⟨w, h, rfl⟩
theorem find_fs {α : Type} {f : DGF} {s : SF} {J' : Gm → Prop} (enc : α → D) (J : Gm → Prop) (W : α → Option Wd) (xs : List α) {g : Gm} (hJ : J g)
    (h : ∀ a ∈ xs, ∀ g, J g → ∃ g1, f (enc a) g = some g1 ∧ FS (s g1) (W a) J) (k : ∀ g, J g → J' g) : FS (loopD f s (xs.map enc) g) (xs.findSome? W) J' := by
  rcases loop_find enc J W xs g hJ h with ⟨e, g', e2, h2⟩ | ⟨w, e, e2⟩
  · exact .inl ⟨e, g', e2, k g' h2⟩
  · exact .inr ⟨w, e, e2⟩
theorem find_then {α : Type} {f : DGF} {s q : SF} {C : Option Out → Prop} (enc : α → D) (J : Gm → Prop) (W : α → Option Wd) (xs : List α) {g : Gm} (hJ : J g)
    (h : ∀ a ∈ xs, ∀ g, J g → ∃ g1, f (enc a) g = some g1 ∧ FS (s g1) (W a) J) (k1 : ∀ g', xs.findSome? W = none → J g' → C (q g')) (k2 : ∀ w, xs.findSome? W = some w → C (some (.rt w))) : C (apSeq (loopD f s (xs.map enc) g) q) := by
  rcases loop_find enc J W xs g hJ h with ⟨e, g', e2, h2⟩ | ⟨w, e, e2⟩
  · rw [e2]
    exact k1 g' e h2
  · rw [e2]
    exact k2 w e
def hereP (seat : Int) (r : List Int) : Bool := r.contains seat
def inP (seat : Int) (others row : List Int) : Bool := row.all fun o => o == seat || others.contains o
def cnt (rs : List (List Int)) (seat : Int) (others : List Int) : Nat := ((rs.filter (hereP seat)).filter (inP seat others)).length
def most (cap at_once : Int) (many : Int) : Int := cap * (if many - at_once + 1 > 0 then many - at_once + 1 else 0)
theorem within_spec {rs : List (List Int)} {seat : Int} {others : List Int} (hl : rs.length ≤ 1000) (hr : ∀ r ∈ rs, r.length ≤ 1000) :
    g_count_within [.lst (rowsT rs), .int seat, .tup (iL others)] = some (.v (.int (cnt rs seat others : Nat))) := by
  unfold g_count_within t_count_within
  walk_at "zz"
  rewrite [dLc_filt (fun r : List Int => D.tup (iL r)) (xs := rs) (T := hereP seat) (F := fun r => D.tup (iL r))]
  case hf => rfl
  case hi => walk_at "zz"; rfl
  case hl => omega
  case h =>
    intro r hr1
    refine ⟨_, dName_ok rfl, ?_, fun hT => ?_⟩
    · walk_at "zz"
      rfl
    · walk_at "zz"
  have hl2 : (rs.filter (hereP seat)).length ≤ 1000 := Nat.le_trans (List.length_filter_le _ _) hl
  walk_at "zz"
  rewrite [dLc_filt (fun r : List Int => D.tup (iL r)) (xs := rs.filter (hereP seat)) (T := inP seat others) (F := fun r => D.tup (iL r))]
  case hf => rfl
  case hi => walk_at "zz"
  case hl => omega
  case h =>
    intro r hr1
    have hrl := hr r (List.mem_filter.mp hr1).1
    refine ⟨_, dName_ok rfl, ?_, fun hT => ?_⟩
    · walk_at "zz"
      rewrite [dLc_map D.int (xs := r) (F := fun o => .bl (o == seat || others.contains o))]
      case hf => rfl
      case hi => walk_at "zz"; rfl
      case hl => omega
      case h =>
        intro k hk
        refine ⟨_, dName_ok rfl, ?_⟩
        walk_at "zz"
      walk_at "zz"
      rw [all_bls]
      walk_at "zz"
      rfl
    · walk_at "zz"
  walk_at "zz"
  rfl
end Y
end

section
set_option Elab.async false
set_option linter.all false
set_option maxRecDepth 100000
set_option maxHeartbeats 4000000
/-! The program's search. -/
namespace Y
open PySem L2 Zk Zc
local macro_rules | `(tactic| walk_at "zs") => `(tactic| simp only [beq_self_eq_true, Bool.or_false, Bool.false_or, Bool.true_or, Bool.or_true, Bool.and_false, Bool.false_and, Bool.true_and, Bool.and_true, Zc.isi_ii, Zc.isi_ib, Zc.isi_tt, Zc.isi_ll, Zc.rowsT_len, Zc.rowsL_len, Zc.is_integer_call, Zc.ix_p0, Zc.ix_p1, dgTup2_a, dgTup3_a, Bool.not_true, Bool.not_false, mul_lz, List.flatten_cons, List.flatten_nil, Int.reduceToNat, add_ll, pow10_12, pow10_18, pow10_39, pow10_41, pow10_59, pow10_60, mkLst_some, mkTup_some, List.length_cons, List.length_nil, Nat.zero_le, Nat.reduceAdd, Nat.reduceLeDiff, call1, callO1, call2, callO2, call3, callO3, call4, callO4, call5, callO5, call6, callO6, ap1_some, ap2_some, apN_some, apC_some, d1_a, d2_a, dN_a, aNil_a, aCons_a, dC_a, dVar_z, dVar_s, tDt_a, apAnd_t, apAnd_f, apOr_t, apOr_f, dAndT_a, dOrT_a, apNot_some, dNotT_a, apAndV_t, apAndV_f, dAndV_a, apOrV_t, apOrV_f, dOrV_a, apIf_t, apIf_f, dIf_a, apCh_t, apCh_f, apChain_some, dChain_a, apSeq_nx, apSeq_rt, apSeq_ct, apSeq_bk, sSeq_a, apIfS_t, apIfS_f, sIf_a, sNext_a, sCont_a, sBreak_a, apRet_some, sRet_a, apRetO_some, sRetO_a, sRetN_a, getO_z, getO_s, apRetV_some, sRetV_a, ltB_z, ltB_s, okSlot_s, apAsg_some, sAsg_a, dName_ok, apG_some, dgCons_a, dgNil_a, apAsgO_some, sAsgO_a, sApp_a, sSetI_a, apFor_some, sFor_a, dItems_a, dRng1_a, dRng2_a, apEn_some, apEn_tup, dEnum_a, sFrz_a, frzs_nil, frzs_cons, frzI_o, frzI_v, frzI_n, frzI_s, frz1_s, frzAll_nil, frzAll_o, frzAll_v, frzAll_n, peekT_a, apPk_int, apPk_bl, apPk_str, apPk_non, peekF_a, dCall_a, toO_o, dCallO_a, dMake_a, Wd_v, Wd_o, dSl_a, apSl_some, oNone_a, oSome_a, apO_some, add_ii, sub_ii, lt_ii, le_ii, gt_ii, ge_ii, eq_ii, ne_ii, neg_i, not_b, bl_b, tru_b, tru_i, tru_l, tru_t, tru_n, len_l, len_t, len_scr, abs_i, int_i, list_l, list_t, tuple_l, tuple_t, min_ii, max_ii, rev_l, items_l, items_t, iL_len, run_a, outW_rt, outW_nx, List.map_cons, List.map_nil, List.replicate, List.append_nil, List.cons_append, List.nil_append, List.set_cons_zero, List.set_cons_succ, Option.map_some])
local macro_rules | `(tactic| walk_at "zd") => `(tactic| first | ((with_reducible show okSlot _ _ = true); simp only [okSlot_s, ltB_z, ltB_s]; done) | omega | assumption | decide | (simp only [List.length_map, List.length_append, List.length_cons, List.length_nil, List.length_range, List.length_set, List.length_reverse, iL_len, Zc.rowsT_len, Zc.rowsL_len] at *; omega))
local macro_rules | `(tactic| walk_at "zz") => `(tactic| simp (disch := walk_at "zd") only [dgTup2_a, dgTup3_a, Bool.not_true, Bool.not_false, mul_lz, List.flatten_cons, List.flatten_nil, Int.reduceToNat, add_ll, pow10_12, pow10_18, pow10_39, pow10_41, pow10_59, pow10_60, mkLst_some, mkTup_some, List.length_cons, List.length_nil, Nat.zero_le, Nat.reduceAdd, Nat.reduceLeDiff, call1, callO1, call2, callO2, call3, callO3, call4, callO4, call5, callO5, call6, callO6, ap1_some, ap2_some, apN_some, apC_some, d1_a, d2_a, dN_a, aNil_a, aCons_a, dC_a, dVar_z, dVar_s, tDt_a, apAnd_t, apAnd_f, apOr_t, apOr_f, dAndT_a, dOrT_a, apNot_some, dNotT_a, apAndV_t, apAndV_f, dAndV_a, apOrV_t, apOrV_f, dOrV_a, apIf_t, apIf_f, dIf_a, apCh_t, apCh_f, apChain_some, dChain_a, apSeq_nx, apSeq_rt, apSeq_ct, apSeq_bk, sSeq_a, apIfS_t, apIfS_f, sIf_a, sNext_a, sCont_a, sBreak_a, apRet_some, sRet_a, apRetO_some, sRetO_a, sRetN_a, getO_z, getO_s, apRetV_some, sRetV_a, ltB_z, ltB_s, okSlot_s, apAsg_some, sAsg_a, dName_ok, apG_some, dgCons_a, dgNil_a, apAsgO_some, sAsgO_a, sApp_a, sSetI_a, apFor_some, sFor_a, dItems_a, dRng1_a, dRng2_a, apEn_some, apEn_tup, dEnum_a, sFrz_a, frzs_nil, frzs_cons, frzI_o, frzI_v, frzI_n, frzI_s, frz1_s, frzAll_nil, frzAll_o, frzAll_v, frzAll_n, peekT_a, apPk_int, apPk_bl, apPk_str, apPk_non, peekF_a, dCall_a, toO_o, dCallO_a, dMake_a, Wd_v, Wd_o, dSl_a, apSl_some, oNone_a, oSome_a, apO_some, add_ii, sub_ii, lt_ii, le_ii, gt_ii, ge_ii, eq_ii, ne_ii, neg_i, not_b, bl_b, tru_b, tru_i, tru_l, tru_t, tru_n, len_l, len_t, len_scr, abs_i, int_i, list_l, list_t, tuple_l, tuple_t, min_ii, max_ii, rev_l, items_l, items_t, iL_len, run_a, outW_rt, outW_nx, List.map_cons, List.map_nil, List.replicate, List.append_nil, List.cons_append, List.nil_append, List.set_cons_zero, List.set_cons_succ, Option.map_some, Int.reduceAdd, Int.reduceMul, Int.reduceSub, Int.reduceNeg, beq_self_eq_true, Bool.or_false, Bool.false_or, Bool.true_or, Bool.or_true, Bool.and_false, Bool.false_and, Bool.true_and, Bool.and_true, Zc.isi_ii, Zc.isi_ib, Zc.isi_tt, Zc.isi_ll, Zc.rowsT_len, Zc.rowsL_len, Zc.is_integer_call, Zc.ix_p0, Zc.ix_p1, apR1_any, Int.toNat_natCast, apR2_some, mod_ii, fdiv_ii, mul_small, apApp_some, ix_at, ix_atT, ix_atI, ix_atIT, ix_atR, ix_atRT, List.length_map, List.length_append, List.length_range, List.length_set, Option.map_none, Option.map_map, decide_true, decide_false, peekO_a, apPkO_i, frz_wo, frz_wv, frz_kk, wipeG_nil, wipeG_cons, orB_s, orB_t, orB_f, andB_s, andB_t, andB_f, orV_s, orV_t, orV_f, andV_s, andV_t, andV_f, apOr_b, apAnd_b, apOrV_b, apAndV_b, apCh_b, Zc.cut_from, Zc.cut_to, in_l, in_t, in_pr, eq_op_op, eq_op_pr, eq_pr_op, eq_pr_pr, ne_op_op, ne_op_pr, ne_pr_op, ne_pr_pr, isnt_op, is_op, pr_0, pr_1, st_0, st_1, inP_pr, ninP_pr, nin_l, isi_prt, len_pr, op_some, prD_eq, ix_lit2, ix_lit3, ix_lit4, ix_lit5, ix_lit6, ix_lit7, ix_lit8, ix_lit9, ix_lit10, ix_lit11, ix_lit12, ix_lit13, ix_lit14, ix_lit15, setI_i, setI_p, setI_o, setI_n, snoc_i, snoc_r, snoc_p, snoc_n, snoc_o, snoc_pp, snoc_s, eq_ol, ne_ol, eq_pl, ne_pl, eq_sl, ne_sl, eq_il, ne_il, eq_rl, ne_rl, eq_il1, isi_bb, eq_bb, ne_bb, eq_self])
local macro_rules | `(tactic| walk_at "zf") => `(tactic| first | (walk_at "zz"; done) | (walk_at "zz"; rfl) | rfl)
local macro_rules | `(tactic| walk_at "lc") => `(tactic| ((case hf => rfl); (case hi => first | (walk_at "zz"; done) | (walk_at "zz"; rfl) | rfl); (case hl => walk_at "zd"); (case h => (intro a ha; refine ⟨_, dName_ok rfl, ?_, fun hT => ?_⟩ <;> walk_at "zz" <;> rfl))))
local macro_rules | `(tactic| walk_at "lm") => `(tactic| ((case hf => rfl); (case hi => first | (walk_at "zz"; done) | (walk_at "zz"; rfl) | rfl); (case hl => walk_at "zd"); (case h => (intro a ha; refine ⟨_, dName_ok rfl, ?_⟩; walk_at "zz"; rfl))))
def othersI (n : Nat) (seat : Int) : List Int := (rngI 0 n).filter fun o => !(o == seat)
def W3 (rs : List (List Int)) (cap a seat : Int) (row : List Int) : Option Wd := if decide (most cap a (row.length : Nat) < (cnt rs seat row : Nat)) = true then some (.v (.tup [.int seat, .tup (iL row)])) else none
def W2 (rs : List (List Int)) (n : Nat) (cap a seat : Int) (many : Int) : Option Wd := (Zq8.combs (othersI n seat) many.toNat).findSome? (W3 rs cap a seat)
def W1 (rs : List (List Int)) (n : Nat) (cap a seat : Int) : Option Wd := (rngI 0 n).findSome? (W2 rs n cap a seat)
def found (rs : List (List Int)) (n : Nat) (cap a : Int) : Wd := match (rngI 0 n).findSome? (W1 rs n cap a) with
  | some w => w
  | none => .v .non
theorem rngI_len' {n : Nat} : (rngI 0 n).length = n := by unfold rngI; rw [List.length_map, List.length_range]
theorem comb_at {a : DAF} {g : Gm} {ns : List Int} {r : Int} (h : a g = some [.lst (iL ns), .int r]) (h0 : 0 ≤ r) (h1 : r ≤ 1000) : Zq8.dComb a g = some ((Zq8.combs ns r.toNat).map fun row => .tup (iL row)) := by
  unfold Zq8.dComb
  rw [h]
  show (asInts (iL ns)).bind _ = _
  rw [Zc.asInts_of, Option.bind_some, if_pos ⟨h0, h1⟩]
theorem comb_len {ns : List Int} {r : Nat} {row : List Int} (h : row ∈ Zq8.combs ns r) : row.length = r := by
  obtain ⟨ix, hi, rfl⟩ := List.mem_map.mp h
  rw [List.length_map, (Zq8.cmb_len _ _ _ _ hi).1]
theorem fault_spec {rs : List (List Int)} {n : Nat} {cap a : Int} (hn : n ≤ 6) (hl : rs.length ≤ 1000) (hr : ∀ r ∈ rs, r.length ≤ 1000) (hc : 0 ≤ cap ∧ cap < 10 ^ 31) (ha : 0 ≤ a ∧ a < 10 ^ 16) :
    g_count_fault [.lst (rowsT rs), .int (n : Nat), .int cap, .int a] = some (found rs n cap a) := by
  unfold g_count_fault t_count_fault
  walk_at "zz"
  rw [rngI_iL]
  refine find_then (C := fun o => outW o = _) D.int (fun g => ∃ k4 k5 k6 k7 k8 : Option Wd, g = [some (.v (.lst (rowsT rs))), some (.v (.int (n : Nat))), some (.v (.int cap)), some (.v (.int a)), k4, k5, k6, k7, k8, none]) (W1 rs n cap a) (rngI 0 n) ⟨none, none, none, none, none, rfl⟩ ?_ ?_ ?_
  · rintro seat hseat g ⟨k4, k5, k6, k7, k8, rfl⟩
    have hs := rngI_mem.mp hseat
    refine ⟨_, dName_ok rfl, ?_⟩
    walk_at "zz"
    rewrite [dLc_filt D.int (xs := rngI 0 n) (T := fun o => !(o == seat)) (F := D.int)]
    case hf => rfl
    case hi => walk_at "zz"; rw [rngI_iL]; rfl
    case hl => rw [rngI_len']; omega
    case h =>
      intro k hk
      refine ⟨_, dName_ok rfl, ?_, fun hT => ?_⟩ <;> walk_at "zz"
    walk_at "zz"
    rw [rngI_iL]
    have hol : (othersI n seat).length ≤ 6 := Nat.le_trans (List.length_filter_le _ _) (by rw [rngI_len']; omega)
    refine find_fs D.int (fun g => ∃ k6 k7 k8 : Option Wd, g = [some (.v (.lst (rowsT rs))), some (.v (.int (n : Nat))), some (.v (.int cap)), some (.v (.int a)), some (.v (.int seat)), some (.v (.lst (iL (othersI n seat)))), k6, k7, k8, none]) (W2 rs n cap a seat) (rngI 0 n) ⟨k6, k7, k8, rfl⟩ ?_ ?_
    · rintro many hmany g ⟨k6, k7, k8, rfl⟩
      have hm := rngI_mem.mp hmany
      refine ⟨_, dName_ok rfl, ?_⟩
      walk_at "zz"
      rw [comb_at (ns := othersI n seat) (r := many) rfl (by omega) (by omega)]
      walk_at "zz"
      refine find_fs (fun row => D.tup (iL row)) (fun g => ∃ k8 : Option Wd, g = [some (.v (.lst (rowsT rs))), some (.v (.int (n : Nat))), some (.v (.int cap)), some (.v (.int a)), some (.v (.int seat)), some (.v (.lst (iL (othersI n seat)))), some (.v (.int many)), some (.v (.int (cap * if many - a + 1 > 0 then many - a + 1 else 0))), k8, none]) (W3 rs cap a seat) (Zq8.combs (othersI n seat) many.toNat) ⟨k8, rfl⟩ ?_ ?_
      · rintro row hrow g ⟨k8, rfl⟩
        have hlen := comb_len hrow
        refine ⟨_, dName_ok rfl, ?_⟩
        walk_at "zz"
        rw [within_spec hl hr]
        walk_at "zz"
        have e : (cap * if many - a + 1 > 0 then many - a + 1 else 0) = most cap a (row.length : Nat) := by
          unfold most
          rw [hlen, show ((many.toNat : Nat) : Int) = many by omega]
        rw [e]
        by_cases z : decide (most cap a (row.length : Nat) < (cnt rs seat row : Nat)) = true
        · rw [z]
          walk_at "zz"
          exact fs_rt (if_pos z)
        · rw [Bool.not_eq_true] at z
          rw [z]
          walk_at "zz"
          exact fs_nx (if_neg (by rw [z]; exact Bool.false_ne_true)) ⟨_, rfl⟩
      · rintro g ⟨k8, rfl⟩
        exact ⟨_, _, _, rfl⟩
    · rintro g ⟨k6, k7, k8, rfl⟩
      exact ⟨_, _, _, _, _, rfl⟩
  · rintro g e ⟨k4, k5, k6, k7, k8, rfl⟩
    walk_at "zz"
    unfold found
    rw [e]
  · intro w e
    unfold found
    rw [e]
    rfl
end Y
end

section
set_option Elab.async false
set_option linter.all false
set_option maxRecDepth 100000
set_option maxHeartbeats 4000000
/-! The law's rows are the combinations. -/
namespace Y
open PySem L2 Zk Zc
def cvs : List Int → Nat → List (List Int)
  | _, 0 => [[]]
  | [], _ + 1 => []
  | x :: xs, r + 1 => (cvs xs r).map (x :: ·) ++ cvs xs (r + 1)
theorem cvs_zero : ∀ xs, cvs xs 0 = [[]]
  | [] => rfl
  | _ :: _ => rfl
theorem cmb_cvs (ns : List Int) : ∀ (m lo r : Nat), lo + m = ns.length → (Zq8.cmb m lo r).map (fun ix => ix.map fun j => ns.getD j 0) = cvs (ns.drop lo) r
  | m, lo, 0, h => by rw [Zq8.cmb_zero, cvs_zero]; rfl
  | 0, lo, r + 1, h => by
    rw [List.drop_eq_nil_of_le (by omega)]
    rfl
  | m + 1, lo, r + 1, h => by
    have hl : lo < ns.length := by omega
    rw [List.drop_eq_getElem_cons hl]
    show ((Zq8.cmb m (lo + 1) r).map (lo :: ·) ++ Zq8.cmb m (lo + 1) (r + 1)).map _ = (cvs (ns.drop (lo + 1)) r).map (ns[lo] :: ·) ++ cvs (ns.drop (lo + 1)) (r + 1)
    rw [List.map_append, cmb_cvs ns m (lo + 1) (r + 1) (by omega), ← cmb_cvs ns m (lo + 1) r (by omega), List.map_map, List.map_map]
    refine congrArg (· ++ _) (List.map_congr_left fun ix _ => ?_)
    show ns.getD lo 0 :: _ = _
    rw [List.getD_eq_getElem?_getD, List.getElem?_eq_getElem hl]
    rfl
theorem combs_cvs (ns : List Int) (r : Nat) : Zq8.combs ns r = cvs ns r := cmb_cvs ns ns.length 0 r (Nat.zero_add _)
theorem cvs_mem : ∀ (xs : List Int) (r : Nat) (y : List Int), y ∈ cvs xs r → y.length = r ∧ ∀ j ∈ y, j ∈ xs
  | xs, 0, y, h => by
    rw [cvs_zero, List.mem_singleton] at h
    subst h
    exact ⟨rfl, fun j hj => by cases hj⟩
  | [], r + 1, y, h => by cases h
  | x :: xs, r + 1, y, h => by
    rcases List.mem_append.mp h with z | z
    · obtain ⟨w, hw, rfl⟩ := List.mem_map.mp z
      obtain ⟨h1, h2⟩ := cvs_mem xs r w hw
      refine ⟨by rw [List.length_cons, h1], fun j hj => ?_⟩
      rcases List.mem_cons.mp hj with q | q
      · rw [q]; exact List.mem_cons_self
      · exact List.mem_cons_of_mem _ (h2 j q)
    · obtain ⟨h1, h2⟩ := cvs_mem xs (r + 1) y z
      exact ⟨h1, fun j hj => List.mem_cons_of_mem _ (h2 j hj)⟩
theorem fm_congr {α β : Type} {f g : α → List β} : ∀ l : List α, (∀ y ∈ l, f y = g y) → l.flatMap f = l.flatMap g
  | [], _ => rfl
  | y :: l, h => by rw [List.flatMap_cons, List.flatMap_cons, h y List.mem_cons_self, fm_congr l fun z hz => h z (List.mem_cons_of_mem _ hz)]
def lastA (row : List Int) : Int := at_ row ((row.length : Nat) - 1)
def okk (row : List Int) (j : Int) : Bool := ((row.length : Nat) : Int) == 0 || decide (lastA row < j)
def ext (xs : List Int) (row : List Int) : List (List Int) := (xs.filter (okk row)).map fun j => row ++ [j]
theorem lastA_one (x : Int) : lastA [x] = x := rfl
theorem lastA_cons (x : Int) {y : List Int} (h : y ≠ []) : lastA (x :: y) = lastA y := by
  have hl : 0 < y.length := List.length_pos_iff.mpr h
  unfold lastA
  have e : y[y.length - 1]? = some (at_ y ((y.length : Nat) - 1)) := by
    have := at_get (xs := y) (k := (y.length : Int) - 1) (by omega) (by omega)
    rw [show ((y.length : Int) - 1).toNat = y.length - 1 by omega] at this
    exact this
  refine at_eq (m := y.length) (by rw [List.length_cons]; omega) ?_
  rw [List.getElem?_cons, if_neg (by omega)]
  exact e
theorem lastA_mem {y : List Int} (h : y ≠ []) : lastA y ∈ y := by
  have hl : 0 < y.length := List.length_pos_iff.mpr h
  exact at_mem (by omega) (by omega)
theorem okk_nil (j : Int) : okk [] j = true := rfl
theorem okk_cons {row : List Int} (h : row ≠ []) (j : Int) : okk row j = decide (lastA row < j) := by
  have hl : 0 < row.length := List.length_pos_iff.mpr h
  unfold okk
  rw [show ((((row.length : Nat) : Int) == 0) : Bool) = false from by rw [beq_eq_false_iff_ne]; omega, Bool.false_or]
theorem cvs_ext : ∀ (xs : List Int), xs.Pairwise (· < ·) → ∀ k, cvs xs (k + 1) = (cvs xs k).flatMap (ext xs)
  | [], _, 0 => rfl
  | [], _, k + 1 => rfl
  | x :: xs, hp, 0 => by
    have ih := cvs_ext xs (List.pairwise_cons.mp hp).2 0
    show (cvs xs 0).map (x :: ·) ++ cvs xs 1 = [[]].flatMap (ext (x :: xs))
    rw [ih, cvs_zero]
    show [x] :: ([[]].flatMap (ext xs)) = _
    have e : ∀ ys : List Int, [[]].flatMap (ext ys) = ys.map fun j => [j] := fun ys => by
      rw [List.flatMap_cons, List.flatMap_nil, List.append_nil]
      unfold ext
      rw [List.filter_eq_self.mpr fun j _ => okk_nil j]
      rfl
    rw [e, e]
    rfl
  | x :: xs, hp, k + 1 => by
    have hx := (List.pairwise_cons.mp hp).1
    have ih := cvs_ext xs (List.pairwise_cons.mp hp).2
    show (cvs xs (k + 1)).map (x :: ·) ++ cvs xs (k + 2) = ((cvs xs k).map (x :: ·) ++ cvs xs (k + 1)).flatMap (ext (x :: xs))
    rw [List.flatMap_append, ih (k + 1), ih k]
    refine congr (congrArg _ ?_) ?_
    · rw [List.map_flatMap, List.flatMap_map]
      refine fm_congr _ fun y hy => ?_
      have hm := cvs_mem xs k y hy
      unfold ext
      rw [List.map_map, List.filter_cons]
      have hno : okk (x :: y) x = false := by
        rw [okk_cons (List.cons_ne_nil _ _)]
        by_cases hn : y = []
        · rw [hn, lastA_one]
          exact decide_eq_false (by omega)
        · rw [lastA_cons x hn]
          have := hx _ (hm.2 _ (lastA_mem hn))
          exact decide_eq_false (by omega)
      rw [hno, if_neg Bool.false_ne_true]
      have hf : xs.filter (okk (x :: y)) = xs.filter (okk y) := List.filter_congr fun j hj => by
        rw [okk_cons (List.cons_ne_nil _ _)]
        by_cases hn : y = []
        · rw [hn, lastA_one, okk_nil]
          exact decide_eq_true (hx j hj)
        · rw [lastA_cons x hn, okk_cons hn]
      rw [hf]
      rfl
    · rw [← ih k]
      refine fm_congr _ fun y hy => ?_
      have hm := cvs_mem xs (k + 1) y hy
      have hn : y ≠ [] := fun z => by rw [z] at hm; cases hm.1
      unfold ext
      rw [List.filter_cons]
      have hno : okk y x = false := by
        rw [okk_cons hn]
        have := hx _ (hm.2 _ (lastA_mem hn))
        exact decide_eq_false (by omega)
      rw [hno, if_neg Bool.false_ne_true]
end Y
end

section
set_option Elab.async false
set_option linter.all false
set_option maxRecDepth 100000
set_option maxHeartbeats 4000000
/-! The law's own search. -/
namespace Y
open PySem L2 Zk Zc
local macro_rules | `(tactic| walk_at "zs") => `(tactic| simp only [beq_self_eq_true, Bool.or_false, Bool.false_or, Bool.true_or, Bool.or_true, Bool.and_false, Bool.false_and, Bool.true_and, Bool.and_true, Zc.isi_ii, Zc.isi_ib, Zc.isi_tt, Zc.isi_ll, Zc.rowsT_len, Zc.rowsL_len, Zc.is_integer_call, Zc.ix_p0, Zc.ix_p1, dgTup2_a, dgTup3_a, Bool.not_true, Bool.not_false, mul_lz, List.flatten_cons, List.flatten_nil, Int.reduceToNat, add_ll, pow10_12, pow10_18, pow10_39, pow10_41, pow10_59, pow10_60, mkLst_some, mkTup_some, List.length_cons, List.length_nil, Nat.zero_le, Nat.reduceAdd, Nat.reduceLeDiff, call1, callO1, call2, callO2, call3, callO3, call4, callO4, call5, callO5, call6, callO6, ap1_some, ap2_some, apN_some, apC_some, d1_a, d2_a, dN_a, aNil_a, aCons_a, dC_a, dVar_z, dVar_s, tDt_a, apAnd_t, apAnd_f, apOr_t, apOr_f, dAndT_a, dOrT_a, apNot_some, dNotT_a, apAndV_t, apAndV_f, dAndV_a, apOrV_t, apOrV_f, dOrV_a, apIf_t, apIf_f, dIf_a, apCh_t, apCh_f, apChain_some, dChain_a, apSeq_nx, apSeq_rt, apSeq_ct, apSeq_bk, sSeq_a, apIfS_t, apIfS_f, sIf_a, sNext_a, sCont_a, sBreak_a, apRet_some, sRet_a, apRetO_some, sRetO_a, sRetN_a, getO_z, getO_s, apRetV_some, sRetV_a, ltB_z, ltB_s, okSlot_s, apAsg_some, sAsg_a, dName_ok, apG_some, dgCons_a, dgNil_a, apAsgO_some, sAsgO_a, sApp_a, sSetI_a, apFor_some, sFor_a, dItems_a, dRng1_a, dRng2_a, apEn_some, apEn_tup, dEnum_a, sFrz_a, frzs_nil, frzs_cons, frzI_o, frzI_v, frzI_n, frzI_s, frz1_s, frzAll_nil, frzAll_o, frzAll_v, frzAll_n, peekT_a, apPk_int, apPk_bl, apPk_str, apPk_non, peekF_a, dCall_a, toO_o, dCallO_a, dMake_a, Wd_v, Wd_o, dSl_a, apSl_some, oNone_a, oSome_a, apO_some, add_ii, sub_ii, lt_ii, le_ii, gt_ii, ge_ii, eq_ii, ne_ii, neg_i, not_b, bl_b, tru_b, tru_i, tru_l, tru_t, tru_n, len_l, len_t, len_scr, abs_i, int_i, list_l, list_t, tuple_l, tuple_t, min_ii, max_ii, rev_l, items_l, items_t, iL_len, run_a, outW_rt, outW_nx, List.map_cons, List.map_nil, List.replicate, List.append_nil, List.cons_append, List.nil_append, List.set_cons_zero, List.set_cons_succ, Option.map_some])
local macro_rules | `(tactic| walk_at "zd") => `(tactic| first | ((with_reducible show okSlot _ _ = true); simp only [okSlot_s, ltB_z, ltB_s]; done) | omega | assumption | decide | (simp only [List.length_map, List.length_append, List.length_cons, List.length_nil, List.length_range, List.length_set, List.length_reverse, iL_len, Zc.rowsT_len, Zc.rowsL_len] at *; omega))
local macro_rules | `(tactic| walk_at "zz") => `(tactic| simp (disch := walk_at "zd") only [dgTup2_a, dgTup3_a, Bool.not_true, Bool.not_false, mul_lz, List.flatten_cons, List.flatten_nil, Int.reduceToNat, add_ll, pow10_12, pow10_18, pow10_39, pow10_41, pow10_59, pow10_60, mkLst_some, mkTup_some, List.length_cons, List.length_nil, Nat.zero_le, Nat.reduceAdd, Nat.reduceLeDiff, call1, callO1, call2, callO2, call3, callO3, call4, callO4, call5, callO5, call6, callO6, ap1_some, ap2_some, apN_some, apC_some, d1_a, d2_a, dN_a, aNil_a, aCons_a, dC_a, dVar_z, dVar_s, tDt_a, apAnd_t, apAnd_f, apOr_t, apOr_f, dAndT_a, dOrT_a, apNot_some, dNotT_a, apAndV_t, apAndV_f, dAndV_a, apOrV_t, apOrV_f, dOrV_a, apIf_t, apIf_f, dIf_a, apCh_t, apCh_f, apChain_some, dChain_a, apSeq_nx, apSeq_rt, apSeq_ct, apSeq_bk, sSeq_a, apIfS_t, apIfS_f, sIf_a, sNext_a, sCont_a, sBreak_a, apRet_some, sRet_a, apRetO_some, sRetO_a, sRetN_a, getO_z, getO_s, apRetV_some, sRetV_a, ltB_z, ltB_s, okSlot_s, apAsg_some, sAsg_a, dName_ok, apG_some, dgCons_a, dgNil_a, apAsgO_some, sAsgO_a, sApp_a, sSetI_a, apFor_some, sFor_a, dItems_a, dRng1_a, dRng2_a, apEn_some, apEn_tup, dEnum_a, sFrz_a, frzs_nil, frzs_cons, frzI_o, frzI_v, frzI_n, frzI_s, frz1_s, frzAll_nil, frzAll_o, frzAll_v, frzAll_n, peekT_a, apPk_int, apPk_bl, apPk_str, apPk_non, peekF_a, dCall_a, toO_o, dCallO_a, dMake_a, Wd_v, Wd_o, dSl_a, apSl_some, oNone_a, oSome_a, apO_some, add_ii, sub_ii, lt_ii, le_ii, gt_ii, ge_ii, eq_ii, ne_ii, neg_i, not_b, bl_b, tru_b, tru_i, tru_l, tru_t, tru_n, len_l, len_t, len_scr, abs_i, int_i, list_l, list_t, tuple_l, tuple_t, min_ii, max_ii, rev_l, items_l, items_t, iL_len, run_a, outW_rt, outW_nx, List.map_cons, List.map_nil, List.replicate, List.append_nil, List.cons_append, List.nil_append, List.set_cons_zero, List.set_cons_succ, Option.map_some, Int.reduceAdd, Int.reduceMul, Int.reduceSub, Int.reduceNeg, beq_self_eq_true, Bool.or_false, Bool.false_or, Bool.true_or, Bool.or_true, Bool.and_false, Bool.false_and, Bool.true_and, Bool.and_true, Zc.isi_ii, Zc.isi_ib, Zc.isi_tt, Zc.isi_ll, Zc.rowsT_len, Zc.rowsL_len, Zc.is_integer_call, Zc.ix_p0, Zc.ix_p1, apR1_any, Int.toNat_natCast, apR2_some, mod_ii, fdiv_ii, mul_small, apApp_some, ix_at, ix_atT, ix_atI, ix_atIT, ix_atR, ix_atRT, List.length_map, List.length_append, List.length_range, List.length_set, Option.map_none, Option.map_map, decide_true, decide_false, peekO_a, apPkO_i, frz_wo, frz_wv, frz_kk, wipeG_nil, wipeG_cons, orB_s, orB_t, orB_f, andB_s, andB_t, andB_f, orV_s, orV_t, orV_f, andV_s, andV_t, andV_f, apOr_b, apAnd_b, apOrV_b, apAndV_b, apCh_b, Zc.cut_from, Zc.cut_to, in_l, in_t, in_pr, eq_op_op, eq_op_pr, eq_pr_op, eq_pr_pr, ne_op_op, ne_op_pr, ne_pr_op, ne_pr_pr, isnt_op, is_op, pr_0, pr_1, st_0, st_1, inP_pr, ninP_pr, nin_l, isi_prt, len_pr, op_some, prD_eq, ix_lit2, ix_lit3, ix_lit4, ix_lit5, ix_lit6, ix_lit7, ix_lit8, ix_lit9, ix_lit10, ix_lit11, ix_lit12, ix_lit13, ix_lit14, ix_lit15, setI_i, setI_p, setI_o, setI_n, snoc_i, snoc_r, snoc_p, snoc_n, snoc_o, snoc_pp, snoc_s, eq_ol, ne_ol, eq_pl, ne_pl, eq_sl, ne_sl, eq_il, ne_il, eq_rl, ne_rl, eq_il1, isi_bb, eq_bb, ne_bb, eq_self])
local macro_rules | `(tactic| walk_at "zf") => `(tactic| first | (walk_at "zz"; done) | (walk_at "zz"; rfl) | rfl)
local macro_rules | `(tactic| walk_at "lc") => `(tactic| ((case hf => rfl); (case hi => first | (walk_at "zz"; done) | (walk_at "zz"; rfl) | rfl); (case hl => walk_at "zd"); (case h => (intro a ha; refine ⟨_, dName_ok rfl, ?_, fun hT => ?_⟩ <;> walk_at "zz" <;> rfl))))
local macro_rules | `(tactic| walk_at "lm") => `(tactic| ((case hf => rfl); (case hi => first | (walk_at "zz"; done) | (walk_at "zz"; rfl) | rfl); (case hl => walk_at "zd"); (case h => (intro a ha; refine ⟨_, dName_ok rfl, ?_⟩; walk_at "zz"; rfl))))
theorem cvs_len : ∀ (xs : List Int) (r : Nat), (cvs xs r).length ≤ 2 ^ xs.length
  | xs, 0 => by rw [cvs_zero]; exact Nat.one_le_two_pow
  | [], r + 1 => Nat.zero_le _
  | x :: xs, r + 1 => by
    have h1 := cvs_len xs r
    have h2 := cvs_len xs (r + 1)
    show ((cvs xs r).map (x :: ·) ++ cvs xs (r + 1)).length ≤ _
    rw [List.length_append, List.length_map, List.length_cons, Nat.pow_succ]
    omega
def allC (xs : List Int) (k : Nat) : List (List Int) := (List.range (k + 1)).flatMap (cvs xs)
theorem allC_succ (xs : List Int) (k : Nat) : allC xs (k + 1) = allC xs k ++ cvs xs (k + 1) := by
  unfold allC
  rw [List.range_succ, List.flatMap_append, List.flatMap_cons, List.flatMap_nil, List.append_nil]
theorem allC_len (xs : List Int) (h : xs.length ≤ 6) : ∀ k, (allC xs k).length ≤ 64 * (k + 1)
  | 0 => by
    unfold allC
    show ([0].flatMap (cvs xs)).length ≤ _
    rw [List.flatMap_cons, List.flatMap_nil, List.append_nil, cvs_zero]
    decide
  | k + 1 => by
    have h1 := allC_len xs h k
    have h2 := cvs_len xs (k + 1)
    have h3 : 2 ^ xs.length ≤ 2 ^ 6 := Nat.pow_le_pow_right (by decide) h
    rw [allC_succ, List.length_append]
    omega
theorem take_filt {α : Type} {xs : List α} {i : Nat} {a : α} (p : α → Bool) (h : xs[i]? = some a) : (xs.take (i + 1)).filter p = (xs.take i).filter p ++ if p a then [a] else [] := by
  rw [List.take_succ, h, List.filter_append]
  show _ ++ [a].filter p = _
  rw [List.filter_cons, List.filter_nil]
theorem take_flat {α β : Type} {xs : List α} {i : Nat} {a : α} (f : α → List β) (h : xs[i]? = some a) : (xs.take (i + 1)).flatMap f = (xs.take i).flatMap f ++ f a := by
  rw [List.take_succ, h, List.flatMap_append]
  show _ ++ (f a ++ []) = _
  rw [List.append_nil]
theorem cat_one {r : List Int} {j : Int} (h : r.length ≤ 1000) : Zm.catD (.tup (iL r)) (.tup [.int j]) = some (.tup (iL (r ++ [j]))) := by
  rw [Zm.cat_tt (by rw [iL_len, List.length_singleton]; omega), show iL (r ++ [j]) = iL r ++ [D.int j] from by unfold iL; rw [List.map_append]; rfl]
theorem flat_len {α β : Type} (f : α → List β) (n : Nat) (h : ∀ a, (f a).length ≤ n) : ∀ xs : List α, (xs.flatMap f).length ≤ xs.length * n
  | [] => Nat.zero_le _
  | x :: xs => by
    have h1 := flat_len f n h xs
    have h2 := h x
    rw [List.flatMap_cons, List.length_append, List.length_cons, Nat.succ_mul]
    omega
theorem rowsT_app {as bs : List (List Int)} : rowsT (as ++ bs) = rowsT as ++ rowsT bs := by unfold rowsT; rw [List.map_append]
theorem tuples_spec {xs : List Int} (hp : xs.Pairwise (· < ·)) (h6 : xs.length ≤ 6) : g_law_tuples [.lst (iL xs)] = some (.v (.lst (rowsT (allC xs xs.length)))) := by
  unfold g_law_tuples t_law_tuples
  walk_at "zz"
  refine rng_then (C := fun o => outW o = _) (fun i g => ∃ k3 k4 k5 k6 : Option Wd, g = [some (.v (.lst (iL xs))), some (.v (.lst (rowsT (allC xs i)))), some (.v (.lst (rowsT (cvs xs i)))), k3, k4, k5, k6]) ⟨none, none, none, none, by rw [cvs_zero]; unfold allC; rw [show List.range (0 + 1) = [0] from rfl, List.flatMap_cons, cvs_zero]; rfl⟩ ?_ ?_ ?_
  · rintro i g ⟨k3, k4, k5, k6, rfl⟩
    rfl
  · rintro i g hi ⟨k3, k4, k5, k6, rfl⟩
    walk_at "zz"
    have hcl := cvs_len xs i
    have hp6 : 2 ^ xs.length ≤ 2 ^ 6 := Nat.pow_le_pow_right (by decide) h6
    have hal := allC_len xs h6 i
    have hcl2 := cvs_len xs (i + 1)
    refine loop_each (C := fun o => StepTo o _) (fun r : List Int => D.tup (iL r)) (cvs xs i) (fun q g => ∃ k5 k6 : Option Wd, g = [some (.v (.lst (iL xs))), some (.v (.lst (rowsT (allC xs i)))), some (.v (.lst (rowsT (cvs xs i)))), some (.v (.int (i : Int))), some (.o (.lst (rowsT (((cvs xs i).take q).flatMap (ext xs))))), k5, k6]) ⟨k5, k6, rfl⟩ ?_ ?_
    · rintro q r g hq ⟨k5, k6, rfl⟩
      have hm := cvs_mem xs i r (List.mem_of_getElem? hq)
      refine ⟨_, dName_ok rfl, ?_⟩
      walk_at "zz"
      have hpre : (((cvs xs i).take q).flatMap (ext xs)).length ≤ 64 * 6 := by
        refine Nat.le_trans (flat_len (ext xs) 6 (fun y => ?_) _) ?_
        · unfold ext
          rw [List.length_map]
          exact Nat.le_trans (List.length_filter_le _ _) h6
        · rw [List.length_take]
          have : min q (cvs xs i).length ≤ 64 := by omega
          omega
      refine step_each D.int xs (fun p g => ∃ k6 : Option Wd, g = [some (.v (.lst (iL xs))), some (.v (.lst (rowsT (allC xs i)))), some (.v (.lst (rowsT (cvs xs i)))), some (.v (.int (i : Int))), some (.o (.lst (rowsT (((cvs xs i).take q).flatMap (ext xs) ++ ((xs.take p).filter (okk r)).map fun j => r ++ [j])))), some (.v (.tup (iL r))), k6]) ⟨k6, by rw [List.take_zero, List.filter_nil, List.map_nil, List.append_nil]⟩ ?_ ?_
      · rintro p j g hpj ⟨k6, rfl⟩
        refine ⟨_, dName_ok rfl, ?_⟩
        have hgl : (((cvs xs i).take q).flatMap (ext xs) ++ ((xs.take p).filter (okk r)).map fun j => r ++ [j]).length ≤ 1000 := by
          have h1 : ((xs.take p).filter (okk r)).length ≤ 6 := Nat.le_trans (List.length_filter_le _ _) (by rw [List.length_take]; omega)
          rw [List.length_append, List.length_map]
          omega
        have hr1 : r.length ≤ 1000 := by omega
        have fin : ∀ b : Bool, okk r j = b → (((cvs xs i).take q).flatMap (ext xs) ++ ((xs.take (p + 1)).filter (okk r)).map fun j => r ++ [j]) = if b = true then (((cvs xs i).take q).flatMap (ext xs) ++ ((xs.take p).filter (okk r)).map fun j => r ++ [j]) ++ [r ++ [j]] else (((cvs xs i).take q).flatMap (ext xs) ++ ((xs.take p).filter (okk r)).map fun j => r ++ [j]) := fun b hb => by
          rw [take_filt (okk r) hpj, hb]
          cases b with
          | true => rw [if_pos rfl, if_pos rfl, List.map_append, ← List.append_assoc]; rfl
          | false => rw [if_neg Bool.false_ne_true, if_neg Bool.false_ne_true, List.append_nil]
        by_cases hn : r = []
        · subst hn
          have f := fin true (okk_nil j)
          rw [if_pos rfl] at f
          rw [f]
          walk_at "zz"
          rw [show (((0 : Nat) : Int) == 0) = true from rfl]
          walk_at "zz"
          rw [cat_one (by decide)]
          walk_at "zz"
          refine step_nx ?_
          refine ⟨some (.v (.int j)), ?_⟩
          simp only [rowsT_app]
          rfl
        · have hl0 : 0 < r.length := List.length_pos_iff.mpr hn
          walk_at "zz"
          rw [show ((((r.length : Nat) : Int)) == 0) = false from by rw [beq_eq_false_iff_ne]; omega]
          walk_at "zz"
          have hk := okk_cons hn j
          by_cases hj : lastA r < j
          · rw [decide_eq_true hj] at hk
            have f := fin true hk
            rw [if_pos rfl] at f
            rw [f, show decide (at_ r ((r.length : Nat) - 1) < j) = true from decide_eq_true hj]
            walk_at "zz"
            rw [cat_one hr1]
            walk_at "zz"
            refine step_nx ?_
            refine ⟨some (.v (.int j)), ?_⟩
            simp only [rowsT_app]
            rfl
          · rw [decide_eq_false hj] at hk
            have f := fin false hk
            rw [if_neg Bool.false_ne_true] at f
            rw [f, show decide (at_ r ((r.length : Nat) - 1) < j) = false from decide_eq_false hj]
            walk_at "zz"
            exact step_nx ⟨_, rfl⟩
      · rintro g ⟨k6, rfl⟩
        refine ⟨some (.v (.tup (iL r))), k6, ?_⟩
        rw [take_flat (ext xs) hq, List.take_length]
        rfl
    · rintro g ⟨k5, k6, rfl⟩
      rw [List.take_length, ← cvs_ext xs hp i]
      have : (rowsT (allC xs i)).length ≤ 1000 := by unfold rowsT; rw [List.length_map]; omega
      walk_at "zz"
      refine step_nx ?_
      refine ⟨some (.v (.int (i : Int))), some (.v (.lst (rowsT (cvs xs (i + 1))))), k5, k6, ?_⟩
      rw [allC_succ, rowsT_app]
  · rintro g ⟨k3, k4, k5, k6, rfl⟩
    walk_at "zz"
end Y
end

section
set_option Elab.async false
set_option linter.all false
set_option maxRecDepth 100000
set_option maxHeartbeats 4000000
/-! The law's search finds what the program finds. -/
namespace Y
open PySem L2 Zk Zc
theorem othersI_pw (n : Nat) (seat : Int) : (othersI n seat).Pairwise (· < ·) := (rngI_pw 0 n).sublist List.filter_sublist
theorem othersI_len {n : Nat} {seat : Int} (h0 : 0 ≤ seat) (h1 : seat < (n : Int)) : (othersI n seat).length + 1 = n := by
  have key : ∀ k : Nat, ((List.range k).map fun i => (0 : Int) + ((i : Nat) : Int)).countP (fun o => o == seat) = if seat < (k : Int) then 1 else 0 := by
    intro k
    induction k with
    | zero => rw [if_neg (by omega)]; rfl
    | succ k ih =>
      rw [List.range_succ, List.map_append, List.countP_append, ih]
      show _ + [(0 : Int) + ((k : Nat) : Int)].countP (fun o => o == seat) = _
      rw [List.countP_cons, List.countP_nil]
      by_cases z : seat < (k : Int)
      · rw [if_pos z, if_neg (by rw [beq_iff_eq]; omega), if_pos (by omega)]
      · by_cases q : seat = (k : Int)
        · rw [if_neg z, if_pos (by rw [beq_iff_eq]; omega), if_pos (by omega)]
        · rw [if_neg z, if_neg (by rw [beq_iff_eq]; omega), if_neg (by omega)]
  have h := List.length_eq_countP_add_countP (p := fun o : Int => o == seat) (l := rngI 0 n)
  have hk := key n
  rw [if_pos h1] at hk
  have hk2 : (rngI 0 n).countP (fun o => o == seat) = 1 := hk
  rw [rngI_len', hk2] at h
  have e : (othersI n seat).length = (rngI 0 n).countP (fun o => !(o == seat)) := by
    unfold othersI
    rw [List.countP_eq_length_filter]
  rw [e]
  have e2 : (rngI 0 n).countP (fun o => decide ¬((o == seat) = true)) = (rngI 0 n).countP (fun o => !(o == seat)) := by
    refine List.countP_congr fun o _ => ?_
    simp
  omega
theorem fs_congr {α β : Type} {f g : α → Option β} : ∀ l : List α, (∀ y ∈ l, f y = g y) → l.findSome? f = l.findSome? g
  | [], _ => rfl
  | y :: l, h => by rw [List.findSome?_cons, List.findSome?_cons, h y List.mem_cons_self, fs_congr l fun z hz => h z (List.mem_cons_of_mem _ hz)]
theorem fs_flat {α β γ : Type} {f : α → List β} {g : β → Option γ} : ∀ l : List α, (l.flatMap f).findSome? g = l.findSome? fun x => (f x).findSome? g
  | [] => rfl
  | x :: l => by
    rw [List.flatMap_cons, List.findSome?_append, fs_flat l, List.findSome?_cons]
    cases (f x).findSome? g <;> rfl
theorem found_law (rs : List (List Int)) (n : Nat) (cap a : Int) (hn : n ≤ 6) : found rs n cap a = match (rngI 0 n).findSome? (fun seat => (allC (othersI n seat) (othersI n seat).length).findSome? (W3 rs cap a seat)) with
  | some w => w
  | none => .v .non := by
  have e : ∀ seat ∈ rngI 0 n, W1 rs n cap a seat = (allC (othersI n seat) (othersI n seat).length).findSome? (W3 rs cap a seat) := fun seat hs => by
    have hm := rngI_mem.mp hs
    unfold W1 allC
    rw [othersI_len (by omega) (by omega), fs_flat]
    unfold rngI W2
    rw [List.findSome?_map]
    refine fs_congr _ fun k _ => ?_
    show (Zq8.combs (othersI n seat) ((0 : Int) + (k : Nat)).toNat).findSome? _ = _
    rw [combs_cvs, show ((0 : Int) + (k : Nat)).toNat = k by omega]
  unfold found
  rw [fs_congr _ e] <;> rfl
end Y
end

section
set_option Elab.async false
set_option linter.all false
set_option maxRecDepth 100000
set_option maxHeartbeats 4000000
/-! The law's search, walked. -/
namespace Y
open PySem L2 Zk Zc
theorem nin_tI {k : Int} {xs : List Int} : ninD (.int k) (.tup (iL xs)) = some (.bl (!(xs.contains k))) := by
  show (if ((D.int k).flat4 && (iL xs).all D.flat4) = true then some ((iL xs).any fun z => eqF z (.int k)) else none).map (fun b => D.bl (!b)) = _
  rw [flat4_iL, any_iL]
  rfl
local macro_rules | `(tactic| walk_at "zs") => `(tactic| simp only [beq_self_eq_true, Bool.or_false, Bool.false_or, Bool.true_or, Bool.or_true, Bool.and_false, Bool.false_and, Bool.true_and, Bool.and_true, Zc.isi_ii, Zc.isi_ib, Zc.isi_tt, Zc.isi_ll, Zc.rowsT_len, Zc.rowsL_len, Zc.is_integer_call, Zc.ix_p0, Zc.ix_p1, dgTup2_a, dgTup3_a, Bool.not_true, Bool.not_false, mul_lz, List.flatten_cons, List.flatten_nil, Int.reduceToNat, add_ll, pow10_12, pow10_18, pow10_39, pow10_41, pow10_59, pow10_60, mkLst_some, mkTup_some, List.length_cons, List.length_nil, Nat.zero_le, Nat.reduceAdd, Nat.reduceLeDiff, call1, callO1, call2, callO2, call3, callO3, call4, callO4, call5, callO5, call6, callO6, ap1_some, ap2_some, apN_some, apC_some, d1_a, d2_a, dN_a, aNil_a, aCons_a, dC_a, dVar_z, dVar_s, tDt_a, apAnd_t, apAnd_f, apOr_t, apOr_f, dAndT_a, dOrT_a, apNot_some, dNotT_a, apAndV_t, apAndV_f, dAndV_a, apOrV_t, apOrV_f, dOrV_a, apIf_t, apIf_f, dIf_a, apCh_t, apCh_f, apChain_some, dChain_a, apSeq_nx, apSeq_rt, apSeq_ct, apSeq_bk, sSeq_a, apIfS_t, apIfS_f, sIf_a, sNext_a, sCont_a, sBreak_a, apRet_some, sRet_a, apRetO_some, sRetO_a, sRetN_a, getO_z, getO_s, apRetV_some, sRetV_a, ltB_z, ltB_s, okSlot_s, apAsg_some, sAsg_a, dName_ok, apG_some, dgCons_a, dgNil_a, apAsgO_some, sAsgO_a, sApp_a, sSetI_a, apFor_some, sFor_a, dItems_a, dRng1_a, dRng2_a, apEn_some, apEn_tup, dEnum_a, sFrz_a, frzs_nil, frzs_cons, frzI_o, frzI_v, frzI_n, frzI_s, frz1_s, frzAll_nil, frzAll_o, frzAll_v, frzAll_n, peekT_a, apPk_int, apPk_bl, apPk_str, apPk_non, peekF_a, dCall_a, toO_o, dCallO_a, dMake_a, Wd_v, Wd_o, dSl_a, apSl_some, oNone_a, oSome_a, apO_some, add_ii, sub_ii, lt_ii, le_ii, gt_ii, ge_ii, eq_ii, ne_ii, neg_i, not_b, bl_b, tru_b, tru_i, tru_l, tru_t, tru_n, len_l, len_t, len_scr, abs_i, int_i, list_l, list_t, tuple_l, tuple_t, min_ii, max_ii, rev_l, items_l, items_t, iL_len, run_a, outW_rt, outW_nx, List.map_cons, List.map_nil, List.replicate, List.append_nil, List.cons_append, List.nil_append, List.set_cons_zero, List.set_cons_succ, Option.map_some])
local macro_rules | `(tactic| walk_at "zd") => `(tactic| first | ((with_reducible show okSlot _ _ = true); simp only [okSlot_s, ltB_z, ltB_s]; done) | omega | assumption | decide | (simp only [List.length_map, List.length_append, List.length_cons, List.length_nil, List.length_range, List.length_set, List.length_reverse, iL_len, Zc.rowsT_len, Zc.rowsL_len] at *; omega))
local macro_rules | `(tactic| walk_at "zz") => `(tactic| simp (disch := walk_at "zd") only [dgTup2_a, dgTup3_a, Bool.not_true, Bool.not_false, mul_lz, List.flatten_cons, List.flatten_nil, Int.reduceToNat, add_ll, pow10_12, pow10_18, pow10_39, pow10_41, pow10_59, pow10_60, mkLst_some, mkTup_some, List.length_cons, List.length_nil, Nat.zero_le, Nat.reduceAdd, Nat.reduceLeDiff, call1, callO1, call2, callO2, call3, callO3, call4, callO4, call5, callO5, call6, callO6, ap1_some, ap2_some, apN_some, apC_some, d1_a, d2_a, dN_a, aNil_a, aCons_a, dC_a, dVar_z, dVar_s, tDt_a, apAnd_t, apAnd_f, apOr_t, apOr_f, dAndT_a, dOrT_a, apNot_some, dNotT_a, apAndV_t, apAndV_f, dAndV_a, apOrV_t, apOrV_f, dOrV_a, apIf_t, apIf_f, dIf_a, apCh_t, apCh_f, apChain_some, dChain_a, apSeq_nx, apSeq_rt, apSeq_ct, apSeq_bk, sSeq_a, apIfS_t, apIfS_f, sIf_a, sNext_a, sCont_a, sBreak_a, apRet_some, sRet_a, apRetO_some, sRetO_a, sRetN_a, getO_z, getO_s, apRetV_some, sRetV_a, ltB_z, ltB_s, okSlot_s, apAsg_some, sAsg_a, dName_ok, apG_some, dgCons_a, dgNil_a, apAsgO_some, sAsgO_a, sApp_a, sSetI_a, apFor_some, sFor_a, dItems_a, dRng1_a, dRng2_a, apEn_some, apEn_tup, dEnum_a, sFrz_a, frzs_nil, frzs_cons, frzI_o, frzI_v, frzI_n, frzI_s, frz1_s, frzAll_nil, frzAll_o, frzAll_v, frzAll_n, peekT_a, apPk_int, apPk_bl, apPk_str, apPk_non, peekF_a, dCall_a, toO_o, dCallO_a, dMake_a, Wd_v, Wd_o, dSl_a, apSl_some, oNone_a, oSome_a, apO_some, add_ii, sub_ii, lt_ii, le_ii, gt_ii, ge_ii, eq_ii, ne_ii, neg_i, not_b, bl_b, tru_b, tru_i, tru_l, tru_t, tru_n, len_l, len_t, len_scr, abs_i, int_i, list_l, list_t, tuple_l, tuple_t, min_ii, max_ii, rev_l, items_l, items_t, iL_len, run_a, outW_rt, outW_nx, List.map_cons, List.map_nil, List.replicate, List.append_nil, List.cons_append, List.nil_append, List.set_cons_zero, List.set_cons_succ, Option.map_some, Int.reduceAdd, Int.reduceMul, Int.reduceSub, Int.reduceNeg, beq_self_eq_true, Bool.or_false, Bool.false_or, Bool.true_or, Bool.or_true, Bool.and_false, Bool.false_and, Bool.true_and, Bool.and_true, Zc.isi_ii, Zc.isi_ib, Zc.isi_tt, Zc.isi_ll, Zc.rowsT_len, Zc.rowsL_len, Zc.is_integer_call, Zc.ix_p0, Zc.ix_p1, apR1_any, Int.toNat_natCast, apR2_some, mod_ii, fdiv_ii, mul_small, apApp_some, ix_at, ix_atT, ix_atI, ix_atIT, ix_atR, ix_atRT, List.length_map, List.length_append, List.length_range, List.length_set, Option.map_none, Option.map_map, decide_true, decide_false, peekO_a, apPkO_i, frz_wo, frz_wv, frz_kk, wipeG_nil, wipeG_cons, orB_s, orB_t, orB_f, andB_s, andB_t, andB_f, orV_s, orV_t, orV_f, andV_s, andV_t, andV_f, apOr_b, apAnd_b, apOrV_b, apAndV_b, apCh_b, Zc.cut_from, Zc.cut_to, in_l, in_t, in_pr, eq_op_op, eq_op_pr, eq_pr_op, eq_pr_pr, ne_op_op, ne_op_pr, ne_pr_op, ne_pr_pr, isnt_op, is_op, pr_0, pr_1, st_0, st_1, inP_pr, ninP_pr, nin_l, isi_prt, len_pr, op_some, prD_eq, ix_lit2, ix_lit3, ix_lit4, ix_lit5, ix_lit6, ix_lit7, ix_lit8, ix_lit9, ix_lit10, ix_lit11, ix_lit12, ix_lit13, ix_lit14, ix_lit15, setI_i, setI_p, setI_o, setI_n, snoc_i, snoc_r, snoc_p, snoc_n, snoc_o, snoc_pp, snoc_s, eq_ol, ne_ol, eq_pl, ne_pl, eq_sl, ne_sl, eq_il, ne_il, eq_rl, ne_rl, eq_il1, isi_bb, eq_bb, ne_bb, eq_self, nin_tI])
local macro_rules | `(tactic| walk_at "zf") => `(tactic| first | (walk_at "zz"; done) | (walk_at "zz"; rfl) | rfl)
local macro_rules | `(tactic| walk_at "lc") => `(tactic| ((case hf => rfl); (case hi => first | (walk_at "zz"; done) | (walk_at "zz"; rfl) | rfl); (case hl => walk_at "zd"); (case h => (intro a ha; refine ⟨_, dName_ok rfl, ?_, fun hT => ?_⟩ <;> walk_at "zz" <;> rfl))))
local macro_rules | `(tactic| walk_at "lm") => `(tactic| ((case hf => rfl); (case hi => first | (walk_at "zz"; done) | (walk_at "zz"; rfl) | rfl); (case hl => walk_at "zd"); (case h => (intro a ha; refine ⟨_, dName_ok rfl, ?_⟩; walk_at "zz"; rfl))))
theorem inP_nil (seat : Int) (others row : List Int) : ((((row.filter fun j => !(j == seat) && !(others.contains j)).length : Nat) : Int) == 0) = inP seat others row := by
  rw [Bool.eq_iff_iff, beq_iff_eq]
  unfold inP
  rw [List.all_eq_true]
  constructor
  · intro h o ho
    have hn : row.filter (fun j => !(j == seat) && !(others.contains j)) = [] := List.length_eq_zero_iff.mp (by omega)
    have := List.filter_eq_nil_iff.mp hn o ho
    cases h1 : (o == seat) <;> cases h2 : others.contains o <;> simp_all
  · intro h
    have : row.filter (fun j => !(j == seat) && !(others.contains j)) = [] := List.filter_eq_nil_iff.mpr fun o ho => by
      have := h o ho
      cases h1 : (o == seat) <;> cases h2 : others.contains o <;> simp_all
    rw [this]
    rfl
theorem law_fault_spec {rs : List (List Int)} {n : Nat} {cap a : Int} (hn : n ≤ 6) (hl : rs.length ≤ 1000) (hr : ∀ r ∈ rs, r.length ≤ 1000) (hc : 0 ≤ cap ∧ cap < 10 ^ 31) (ha : 0 ≤ a ∧ a < 10 ^ 16) :
    g_law_fault [.lst (rowsT rs), .int (n : Nat), .int cap, .int a] = some (found rs n cap a) := by
  rw [found_law rs n cap a hn]
  unfold g_law_fault t_law_fault
  walk_at "zz"
  rw [rngI_iL]
  refine find_then (C := fun o => outW o = _) D.int (fun g => ∃ (k4 k5 k6 k7 : Option Wd) (k8 : Option D), g = [some (.v (.lst (rowsT rs))), some (.v (.int (n : Nat))), some (.v (.int cap)), some (.v (.int a)), k4, k5, k6, k7, k8.map Wd.v, none]) (fun seat => (allC (othersI n seat) (othersI n seat).length).findSome? (W3 rs cap a seat)) (rngI 0 n) ⟨none, none, none, none, none, rfl⟩ ?_ ?_ ?_
  · rintro seat hseat g ⟨k4, k5, k6, k7, k8, rfl⟩
    have hs := rngI_mem.mp hseat
    refine ⟨_, dName_ok rfl, ?_⟩
    walk_at "zz"
    rewrite [dLc_filt (fun r : List Int => D.tup (iL r)) (xs := rs) (T := hereP seat) (F := fun r => D.tup (iL r))]
    case hf => cases k8 <;> rfl
    case hi => walk_at "zz"; rfl
    case hl => omega
    case h =>
      intro r hr1
      refine ⟨_, dName_ok rfl, ?_, fun hT => ?_⟩
      · walk_at "zz"
        rfl
      · walk_at "zz"
    walk_at "zz"
    rewrite [dLc_filt D.int (xs := rngI 0 n) (T := fun o => !(o == seat)) (F := D.int)]
    case hf => rfl
    case hi => walk_at "zz"; rw [rngI_iL]; rfl
    case hl => rw [rngI_len']; omega
    case h =>
      intro k hk
      refine ⟨_, dName_ok rfl, ?_, fun hT => ?_⟩ <;> walk_at "zz"
    have hol : (othersI n seat).length ≤ 6 := Nat.le_trans (List.length_filter_le _ _) (by rw [rngI_len']; omega)
    rw [show ((rngI 0 n).filter fun o => !(o == seat)).map D.int = iL (othersI n seat) from rfl]
    walk_at "zz"
    rw [tuples_spec (othersI_pw n seat) hol]
    have hal := allC_len (othersI n seat) hol (othersI n seat).length
    walk_at "zz"
    have hh : (rs.filter (hereP seat)).length ≤ 1000 := Nat.le_trans (List.length_filter_le _ _) hl
    refine find_fs (fun row => D.tup (iL row)) (fun g => ∃ (k6 k7 : Option Wd) (k8 : Option D), g = [some (.v (.lst (rowsT rs))), some (.v (.int (n : Nat))), some (.v (.int cap)), some (.v (.int a)), some (.v (.int seat)), some (.v (.lst (rowsT (rs.filter (hereP seat))))), k6, k7, k8.map Wd.v, none]) (W3 rs cap a seat) (allC (othersI n seat) (othersI n seat).length) ⟨k6, k7, k8, rfl⟩ ?_ ?_
    · rintro row hrow g ⟨k6, k7, k8, rfl⟩
      have hrl : row.length ≤ 6 := by
        obtain ⟨k, _, hk⟩ := List.mem_flatMap.mp hrow
        have h1 := cvs_mem _ _ _ hk
        have : row.length ≤ (othersI n seat).length := by
          obtain ⟨q, hq, hk2⟩ := List.mem_flatMap.mp hrow
          have := List.mem_range.mp hq
          have := (cvs_mem _ _ _ hk2).1
          omega
        omega
      refine ⟨_, dName_ok rfl, ?_⟩
      walk_at "zz"
      refine loop_each (C := fun o => FS o _ _) (fun r : List Int => D.tup (iL r)) (rs.filter (hereP seat)) (fun q g => ∃ k8 : Option D, g = [some (.v (.lst (rowsT rs))), some (.v (.int (n : Nat))), some (.v (.int cap)), some (.v (.int a)), some (.v (.int seat)), some (.v (.lst (rowsT (rs.filter (hereP seat))))), some (.v (.tup (iL row))), some (.v (.int ((((rs.filter (hereP seat)).take q).filter (inP seat row)).length : Nat))), k8.map Wd.v, none]) ⟨k8, rfl⟩ ?_ ?_
      · rintro q r g hq ⟨k8, rfl⟩
        have hrm := hr r (List.mem_filter.mp (List.mem_of_getElem? hq)).1
        refine ⟨_, dName_ok rfl, ?_⟩
        walk_at "zz"
        rewrite [dLc_filt D.int (xs := r) (T := fun j => !(j == seat) && !(row.contains j)) (F := D.int)]
        case hf => rfl
        case hi => walk_at "zz"; rfl
        case hl => omega
        case h =>
          intro j hj
          refine ⟨_, dName_ok rfl, ?_, fun hT => ?_⟩ <;> walk_at "zz"
        walk_at "zz"
        rw [inP_nil]
        have f := take_filt (inP seat row) hq
        cases hb : inP seat row r with
        | true =>
          rw [hb, if_pos rfl] at f
          rw [f]
          walk_at "zz"
          refine step_nx ?_
          exact ⟨some (.tup (iL r)), rfl⟩
        | false =>
          rw [hb, if_neg Bool.false_ne_true, List.append_nil] at f
          rw [f]
          walk_at "zz"
          refine step_nx ?_
          exact ⟨some (.tup (iL r)), rfl⟩
      · rintro g ⟨k8, rfl⟩
        rw [List.take_length]
        walk_at "zz"
        rw [show decide ((cap * if (row.length : Int) - a + 1 > 0 then (row.length : Int) - a + 1 else 0) < (((rs.filter (hereP seat)).filter (inP seat row)).length : Nat)) = decide (most cap a (row.length : Nat) < (cnt rs seat row : Nat)) from rfl]
        by_cases z : decide (most cap a (row.length : Nat) < (cnt rs seat row : Nat)) = true
        · rw [z]
          walk_at "zz"
          exact fs_rt (if_pos z)
        · rw [Bool.not_eq_true] at z
          rw [z]
          walk_at "zz"
          exact fs_nx (if_neg (by rw [z]; exact Bool.false_ne_true)) ⟨_, _, _, rfl⟩
    · rintro g ⟨k6, k7, k8, rfl⟩
      exact ⟨_, _, _, _, _, rfl⟩
  · rintro g e ⟨k4, k5, k6, k7, k8, rfl⟩
    walk_at "zz"
    rw [e]
  · intro w e
    rw [e]
    rfl
end Y
end

section
set_option Elab.async false
set_option linter.all false
set_option maxRecDepth 100000
set_option maxHeartbeats 4000000
/-! What is drawn; what is found is what is due. -/
namespace Y
open PySem L2 Zk Zc
theorem is_nn : isD .non .non = some (.bl true) := rfl
theorem is_tn {ds : List D} : isD (.tup ds) .non = some (.bl false) := rfl
local macro_rules | `(tactic| walk_at "zs") => `(tactic| simp only [beq_self_eq_true, Bool.or_false, Bool.false_or, Bool.true_or, Bool.or_true, Bool.and_false, Bool.false_and, Bool.true_and, Bool.and_true, Zc.isi_ii, Zc.isi_ib, Zc.isi_tt, Zc.isi_ll, Zc.rowsT_len, Zc.rowsL_len, Zc.is_integer_call, Zc.ix_p0, Zc.ix_p1, dgTup2_a, dgTup3_a, Bool.not_true, Bool.not_false, mul_lz, List.flatten_cons, List.flatten_nil, Int.reduceToNat, add_ll, pow10_12, pow10_18, pow10_39, pow10_41, pow10_59, pow10_60, mkLst_some, mkTup_some, List.length_cons, List.length_nil, Nat.zero_le, Nat.reduceAdd, Nat.reduceLeDiff, call1, callO1, call2, callO2, call3, callO3, call4, callO4, call5, callO5, call6, callO6, ap1_some, ap2_some, apN_some, apC_some, d1_a, d2_a, dN_a, aNil_a, aCons_a, dC_a, dVar_z, dVar_s, tDt_a, apAnd_t, apAnd_f, apOr_t, apOr_f, dAndT_a, dOrT_a, apNot_some, dNotT_a, apAndV_t, apAndV_f, dAndV_a, apOrV_t, apOrV_f, dOrV_a, apIf_t, apIf_f, dIf_a, apCh_t, apCh_f, apChain_some, dChain_a, apSeq_nx, apSeq_rt, apSeq_ct, apSeq_bk, sSeq_a, apIfS_t, apIfS_f, sIf_a, sNext_a, sCont_a, sBreak_a, apRet_some, sRet_a, apRetO_some, sRetO_a, sRetN_a, getO_z, getO_s, apRetV_some, sRetV_a, ltB_z, ltB_s, okSlot_s, apAsg_some, sAsg_a, dName_ok, apG_some, dgCons_a, dgNil_a, apAsgO_some, sAsgO_a, sApp_a, sSetI_a, apFor_some, sFor_a, dItems_a, dRng1_a, dRng2_a, apEn_some, apEn_tup, dEnum_a, sFrz_a, frzs_nil, frzs_cons, frzI_o, frzI_v, frzI_n, frzI_s, frz1_s, frzAll_nil, frzAll_o, frzAll_v, frzAll_n, peekT_a, apPk_int, apPk_bl, apPk_str, apPk_non, peekF_a, dCall_a, toO_o, dCallO_a, dMake_a, Wd_v, Wd_o, dSl_a, apSl_some, oNone_a, oSome_a, apO_some, add_ii, sub_ii, lt_ii, le_ii, gt_ii, ge_ii, eq_ii, ne_ii, neg_i, not_b, bl_b, tru_b, tru_i, tru_l, tru_t, tru_n, len_l, len_t, len_scr, abs_i, int_i, list_l, list_t, tuple_l, tuple_t, min_ii, max_ii, rev_l, items_l, items_t, iL_len, run_a, outW_rt, outW_nx, List.map_cons, List.map_nil, List.replicate, List.append_nil, List.cons_append, List.nil_append, List.set_cons_zero, List.set_cons_succ, Option.map_some])
local macro_rules | `(tactic| walk_at "zd") => `(tactic| first | ((with_reducible show okSlot _ _ = true); simp only [okSlot_s, ltB_z, ltB_s]; done) | omega | assumption | decide | (simp only [List.length_map, List.length_append, List.length_cons, List.length_nil, List.length_range, List.length_set, List.length_reverse, iL_len, Zc.rowsT_len, Zc.rowsL_len] at *; omega))
local macro_rules | `(tactic| walk_at "zz") => `(tactic| simp (disch := walk_at "zd") only [dgTup2_a, dgTup3_a, Bool.not_true, Bool.not_false, mul_lz, List.flatten_cons, List.flatten_nil, Int.reduceToNat, add_ll, pow10_12, pow10_18, pow10_39, pow10_41, pow10_59, pow10_60, mkLst_some, mkTup_some, List.length_cons, List.length_nil, Nat.zero_le, Nat.reduceAdd, Nat.reduceLeDiff, call1, callO1, call2, callO2, call3, callO3, call4, callO4, call5, callO5, call6, callO6, ap1_some, ap2_some, apN_some, apC_some, d1_a, d2_a, dN_a, aNil_a, aCons_a, dC_a, dVar_z, dVar_s, tDt_a, apAnd_t, apAnd_f, apOr_t, apOr_f, dAndT_a, dOrT_a, apNot_some, dNotT_a, apAndV_t, apAndV_f, dAndV_a, apOrV_t, apOrV_f, dOrV_a, apIf_t, apIf_f, dIf_a, apCh_t, apCh_f, apChain_some, dChain_a, apSeq_nx, apSeq_rt, apSeq_ct, apSeq_bk, sSeq_a, apIfS_t, apIfS_f, sIf_a, sNext_a, sCont_a, sBreak_a, apRet_some, sRet_a, apRetO_some, sRetO_a, sRetN_a, getO_z, getO_s, apRetV_some, sRetV_a, ltB_z, ltB_s, okSlot_s, apAsg_some, sAsg_a, dName_ok, apG_some, dgCons_a, dgNil_a, apAsgO_some, sAsgO_a, sApp_a, sSetI_a, apFor_some, sFor_a, dItems_a, dRng1_a, dRng2_a, apEn_some, apEn_tup, dEnum_a, sFrz_a, frzs_nil, frzs_cons, frzI_o, frzI_v, frzI_n, frzI_s, frz1_s, frzAll_nil, frzAll_o, frzAll_v, frzAll_n, peekT_a, apPk_int, apPk_bl, apPk_str, apPk_non, peekF_a, dCall_a, toO_o, dCallO_a, dMake_a, Wd_v, Wd_o, dSl_a, apSl_some, oNone_a, oSome_a, apO_some, add_ii, sub_ii, lt_ii, le_ii, gt_ii, ge_ii, eq_ii, ne_ii, neg_i, not_b, bl_b, tru_b, tru_i, tru_l, tru_t, tru_n, len_l, len_t, len_scr, abs_i, int_i, list_l, list_t, tuple_l, tuple_t, min_ii, max_ii, rev_l, items_l, items_t, iL_len, run_a, outW_rt, outW_nx, List.map_cons, List.map_nil, List.replicate, List.append_nil, List.cons_append, List.nil_append, List.set_cons_zero, List.set_cons_succ, Option.map_some, Int.reduceAdd, Int.reduceMul, Int.reduceSub, Int.reduceNeg, beq_self_eq_true, Bool.or_false, Bool.false_or, Bool.true_or, Bool.or_true, Bool.and_false, Bool.false_and, Bool.true_and, Bool.and_true, Zc.isi_ii, Zc.isi_ib, Zc.isi_tt, Zc.isi_ll, Zc.rowsT_len, Zc.rowsL_len, Zc.is_integer_call, Zc.ix_p0, Zc.ix_p1, apR1_any, Int.toNat_natCast, apR2_some, mod_ii, fdiv_ii, mul_small, apApp_some, ix_at, ix_atT, ix_atI, ix_atIT, ix_atR, ix_atRT, List.length_map, List.length_append, List.length_range, List.length_set, Option.map_none, Option.map_map, decide_true, decide_false, peekO_a, apPkO_i, frz_wo, frz_wv, frz_kk, wipeG_nil, wipeG_cons, orB_s, orB_t, orB_f, andB_s, andB_t, andB_f, orV_s, orV_t, orV_f, andV_s, andV_t, andV_f, apOr_b, apAnd_b, apOrV_b, apAndV_b, apCh_b, Zc.cut_from, Zc.cut_to, in_l, in_t, in_pr, eq_op_op, eq_op_pr, eq_pr_op, eq_pr_pr, ne_op_op, ne_op_pr, ne_pr_op, ne_pr_pr, isnt_op, is_op, pr_0, pr_1, st_0, st_1, inP_pr, ninP_pr, nin_l, isi_prt, len_pr, op_some, prD_eq, ix_lit2, ix_lit3, ix_lit4, ix_lit5, ix_lit6, ix_lit7, ix_lit8, ix_lit9, ix_lit10, ix_lit11, ix_lit12, ix_lit13, ix_lit14, ix_lit15, setI_i, setI_p, setI_o, setI_n, snoc_i, snoc_r, snoc_p, snoc_n, snoc_o, snoc_pp, snoc_s, eq_ol, ne_ol, eq_pl, ne_pl, eq_sl, ne_sl, eq_il, ne_il, eq_rl, ne_rl, eq_il1, isi_bb, eq_bb, ne_bb, eq_self, is_nn, is_tn])
local macro_rules | `(tactic| walk_at "zf") => `(tactic| first | (walk_at "zz"; done) | (walk_at "zz"; rfl) | rfl)
local macro_rules | `(tactic| walk_at "lc") => `(tactic| ((case hf => rfl); (case hi => first | (walk_at "zz"; done) | (walk_at "zz"; rfl) | rfl); (case hl => walk_at "zd"); (case h => (intro a ha; refine ⟨_, dName_ok rfl, ?_, fun hT => ?_⟩ <;> walk_at "zz" <;> rfl))))
local macro_rules | `(tactic| walk_at "lm") => `(tactic| ((case hf => rfl); (case hi => first | (walk_at "zz"; done) | (walk_at "zz"; rfl) | rfl); (case hl => walk_at "zd"); (case h => (intro a ha; refine ⟨_, dName_ok rfl, ?_⟩; walk_at "zz"; rfl))))
theorem shDs_iL : ∀ xs : List Int, Zg.shDs (iL xs) = true
  | [] => rfl
  | x :: xs => shDs_iL xs
theorem sh_find (seat : Int) (row : List Int) : Zg.shD (.tup [.int seat, .tup (iL row)]) = true := by
  show (true && (Zg.shDs (iL row) && true)) = true
  rw [shDs_iL]
  rfl
theorem encF : Enc (fun s : Int × List Int => D.tup [.int s.1, .tup (iL s.2)]) (fun s => PyData.tuple [.int s.1, PyData.tuple (s.2.map PyData.int)]) 3 := (encInt.mono (by decide)).two encInt.tup
theorem found_is (rs : List (List Int)) (n : Nat) (cap a : Int) (hn : n ≤ 6) : (found rs n cap a = .v .non) ∨ ∃ seat row, found rs n cap a = .v (.tup [.int seat, .tup (iL row)]) ∧ row.length ≤ 6 := by
  unfold found
  cases e : (rngI 0 n).findSome? (W1 rs n cap a) with
  | none => exact .inl rfl
  | some w =>
    right
    obtain ⟨seat, hs, h1⟩ := List.exists_of_findSome?_eq_some e
    obtain ⟨many, hm, h2⟩ := List.exists_of_findSome?_eq_some h1
    obtain ⟨row, hr, h3⟩ := List.exists_of_findSome?_eq_some h2
    have hl := comb_len hr
    have := rngI_mem.mp hm
    unfold W3 at h3
    split at h3
    · cases h3
      exact ⟨seat, row, rfl, by omega⟩
    · cases h3
theorem is_fault_spec (rs : List (List Int)) (n : Nat) (cap a : Int) (hn : n ≤ 6) : ∃ d, found rs n cap a = .v d ∧ Zg.shD d = true ∧ g_law_is_fault [d, d] = some (.v (.bl true)) := by
  rcases found_is rs n cap a hn with h | ⟨seat, row, h, hl⟩
  · refine ⟨_, h, rfl, ?_⟩
    unfold g_law_is_fault t_law_is_fault
    walk_at "zz"
  · refine ⟨_, h, sh_find seat row, ?_⟩
    unfold g_law_is_fault t_law_is_fault
    walk_at "zz"
    rw [e_law_is_integer]
    walk_at "zz"
    rw [show (((2 : Nat) : Int) == 2) = true from rfl]
    walk_at "zz"
    refine loop_each (C := fun o => outW o = _) D.int row (fun _ g => ∃ k2 : Option Wd, g = [some (.v (.tup [.int seat, .tup (iL row)])), some (.v (.tup [.int seat, .tup (iL row)])), k2]) ⟨none, rfl⟩ ?_ ?_
    · rintro i j g hij ⟨k2, rfl⟩
      refine ⟨_, dName_ok rfl, ?_⟩
      walk_at "zz"
      exact step_nx ⟨_, rfl⟩
    · rintro g ⟨k2, rfl⟩
      walk_at "zz"
      rw [show eqD (D.tup [.int seat, .tup (iL row)]) (D.tup [.int seat, .tup (iL row)]) = some (.bl true) from (encF.eqD (by decide) (seat, row) (seat, row)).trans (by rw [decide_eq_true rfl])]
      rfl
theorem peekN_at {a : DF} {g : Gm} {ds : List D} (h : a (frzAll g) = some (.lst ds)) (hs : Zg.shDs ds = true) : Zq5.peekN a g = some (.lst ds) := by
  unfold Zq5.peekN
  rw [h]
  exact if_pos hs
theorem ix_lT {xs : List (List Int)} {k : Int} (h0 : 0 ≤ k) (h : k < (xs.length : Nat)) : ixD (.lst (rowsT xs)) (.int k) = some (.tup (iL (at_ xs k))) := ix_at h0 h
theorem cut_iL {xs : List Int} {lo hi : Option Int} : cutL (iL xs) lo hi = iL (cutL xs lo hi) := by
  unfold cutL
  rw [iL_len]
  unfold iL
  rw [List.map_take, List.map_drop]
theorem bits_in (c : Int) (n : Nat) (hn : n ≤ 7) : ∃ hs : List Int, g_law_bits [.int c, .int (n : Nat)] = some (.o (.lst (iL hs))) ∧ Asc n hs := by
  obtain ⟨w, e, hs, rfl, h⟩ := Zc.bits_spec c n hn
  exact ⟨hs, by rw [e_law_bits]; exact e, h⟩
def rz : List Int := [4] ++ List.replicate 9 64 ++ List.replicate 9 60
theorem rz_pos : ∀ s ∈ rz, 0 < s ∧ s < 2 ^ 60 := by decide
theorem rows_spec (x : Int) {n m : Nat} (h1 : 1 ≤ n) (hn : n ≤ 6) (hm : m ≤ 8) : ∃ rs : List (List Int), g_law_rows [.int (n : Nat), .int (m : Nat), .int x] = some (.o (.lst (rowsT rs))) ∧ rs.length = m ∧ ∀ r ∈ rs, r.length ≤ 6 := by
  suffices h : Gets (g_law_rows [.int (n : Nat), .int (m : Nat), .int x]) fun w => ∃ rs : List (List Int), w = .o (.lst (rowsT rs)) ∧ rs.length = m ∧ ∀ r ∈ rs, r.length ≤ 6 by
    obtain ⟨w, e, rs, rfl, h⟩ := h
    exact ⟨rs, e, h⟩
  unfold g_law_rows t_law_rows
  walk_at "zz"
  obtain ⟨_, e, ds, rfl, hd⟩ := draws_spec x rz rz_pos (by decide)
  have hdl : ds.length = 19 := hd.1
  rw [e_law_draws, show ([D.int 4, D.int 64, D.int 64, D.int 64, D.int 64, D.int 64, D.int 64, D.int 64, D.int 64, D.int 64, D.int 60, D.int 60, D.int 60, D.int 60, D.int 60, D.int 60, D.int 60, D.int 60, D.int 60] : List D) = iL rz from rfl, e]
  walk_at "zz"
  refine rng_then (C := fun o => Gets (outW o) _) (fun i g => ∃ (rs : List (List Int)) (k5 k6 k7 k8 : Option Wd), rs.length = i ∧ (∀ r ∈ rs, r.length ≤ 6) ∧ g = [some (.v (.int (n : Nat))), some (.v (.int (m : Nat))), some (.v (.int x)), some (.v (.lst (iL ds))), some (.o (.lst (rowsT rs))), k5, k6, k7, k8, none]) ⟨[], none, none, none, none, rfl, fun r z => (by cases z), rfl⟩ ?_ ?_ ?_
  · rintro i g ⟨rs, k5, k6, k7, k8, _, _, rfl⟩
    rfl
  · rintro i g hi ⟨rs, k5, k6, k7, k8, hlen, h6, rfl⟩
    have f0 := Int.emod_nonneg (at_ ds (10 + (i : Int))) (show (n : Int) ≠ 0 by omega)
    have f1 := Int.emod_lt_of_pos (at_ ds (10 + (i : Int))) (show 0 < (n : Int) by omega)
    have g0 := Int.emod_nonneg (at_ ds (1 + (i : Int))) (show (n : Int) ≠ 0 by omega)
    have t0 := Int.emod_nonneg (at_ ds (1 + (i : Int))) (show (2 : Int) ≠ 0 by omega)
    have t1 := Int.emod_lt_of_pos (at_ ds (1 + (i : Int))) (show 0 < (2 : Int) by omega)
    walk_at "zz"
    generalize at_ ds (10 + (i : Int)) % (n : Int) = first at f0 f1 ⊢
    obtain ⟨hs, eb, hb⟩ := bits_in (at_ ds (1 + (i : Int))) n (by omega)
    have hbl := hb.len
    rw [eb]
    walk_at "zz"
    let J : Gm → Prop := fun g => ∃ (row : List Int) (k8 : Option Wd), row.length ≤ 6 ∧ g = [some (.v (.int (n : Nat))), some (.v (.int (m : Nat))), some (.v (.int x)), some (.v (.lst (iL ds))), some (.o (.lst (rowsT rs))), some (.v (.int (i : Int))), some (.v (.int first)), some (.v (.lst (iL row))), k8, none]
    refine seq_then (C := fun o => StepTo o _) J ?_ ?_
    · by_cases z : at_ ds 0 = 1
      · rw [show (at_ ds 0 == 1) = true from by rw [z]; rfl]
        walk_at "zz"
        rewrite [dLc_filt D.int (xs := rngI 0 n) (T := fun j => j == first || j == at_ ds (1 + (i : Int)) % (n : Int)) (F := D.int)]
        case hf => rfl
        case hi => walk_at "zz"; rw [rngI_iL]; rfl
        case hl => rw [rngI_len']; omega
        case h =>
          intro j hj
          refine ⟨_, dName_ok rfl, ?_, fun hT => ?_⟩ <;> walk_at "zz"
        walk_at "zz"
        exact ⟨_, rfl, _, _, Nat.le_trans (List.length_filter_le _ _) (by rw [rngI_len']; omega), rfl⟩
      · rw [show (at_ ds 0 == 1) = false from by rw [beq_eq_false_iff_ne]; exact z]
        walk_at "zz"
        exact ⟨_, rfl, hs, k8, by omega, rfl⟩
    clear eb hb hbl hs
    rintro g ⟨row, k8, hr6, rfl⟩
    walk_at "zz"
    refine seq_then (C := fun o => StepTo o _) J ?_ ?_
    · by_cases z : (at_ ds 0 == 2 && decide (3 < (row.length : Int))) = true
      · rw [z]
        walk_at "zz"
        rw [cut_iL]
        exact ⟨_, rfl, cutL row (some 1) (some 4), k8, Nat.le_trans (cutL_sub row (some 1) (some 4)).length_le hr6, rfl⟩
      · rw [Bool.not_eq_true] at z
        rw [z]
        walk_at "zz"
        exact ⟨_, rfl, row, k8, hr6, rfl⟩
    clear hr6 row
    rintro g ⟨row, k8, hr6, rfl⟩
    walk_at "zz"
    refine seq_then (C := fun o => StepTo o _) J ?_ ?_
    · by_cases z : (at_ ds 0 == 3 && decide (1 < (i : Int))) = true
      · rw [z]
        rw [Bool.and_eq_true, decide_eq_true_eq] at z
        have hlr : 2 ≤ rs.length := by omega
        walk_at "zz"
        have pk : dN listD (aCons (d2 ixD (dVar 4) (d2 modD (dN intD (aCons (d2 ixD (dVar 3) (d2 addD (dC (.int 1)) (dVar 5))) aNil)) (dC (.int 2)))) aNil) (frzAll [some (.v (.int (n : Nat))), some (.v (.int (m : Nat))), some (.v (.int x)), some (.v (.lst (iL ds))), some (.o (.lst (rowsT rs))), some (.v (.int (i : Int))), some (.v (.int first)), some (.v (.lst (iL row))), k8, none]) = some (.lst (iL (at_ rs (at_ ds (1 + (i : Int)) % 2)))) := by
          cases k8 with
          | none =>
            walk_at "zz"
            rw [ix_lT t0 (by omega)]
            walk_at "zz"
          | some w =>
            cases w <;> (walk_at "zz"; rw [ix_lT t0 (by omega)]; walk_at "zz")
        rw [peekN_at pk (shDs_iL _)]
        walk_at "zz"
        exact ⟨_, rfl, at_ rs (at_ ds (1 + (i : Int)) % 2), k8, h6 _ (at_mem t0 (by omega)), rfl⟩
      · rw [Bool.not_eq_true] at z
        rw [z]
        walk_at "zz"
        exact ⟨_, rfl, row, k8, hr6, rfl⟩
    clear hr6 row
    rintro g ⟨row, k8, hr6, rfl⟩
    walk_at "zz"
    refine seq_then (C := fun o => StepTo o _) J ?_ ?_
    · by_cases z : (((row.length : Nat) : Int) == 0) = true
      · rw [z]
        walk_at "zz"
        exact ⟨_, rfl, [first], k8, by rw [List.length_singleton]; omega, rfl⟩
      · rw [Bool.not_eq_true] at z
        rw [z]
        walk_at "zz"
        exact ⟨_, rfl, row, k8, hr6, rfl⟩
    clear hr6 row
    rintro g ⟨row, k8, hr6, rfl⟩
    walk_at "zz"
    rw [show rowsT rs ++ [D.tup (iL row)] = rowsT (rs ++ [row]) from (rowsT_app (as := rs) (bs := [row])).symm]
    exact step_nx ⟨rs ++ [row], _, _, _, _, by rw [List.length_append, hlen]; rfl, fun y hy => by
      rcases List.mem_append.mp hy with q | q
      · exact h6 y q
      · rw [List.mem_singleton.mp q]; exact hr6, rfl⟩
  · rintro g ⟨rs, k5, k6, k7, k8, hlen, h6, rfl⟩
    walk_at "zz"
    exact gets_some ⟨rs, rfl, hlen, h6⟩
end Y
end

section
set_option Elab.async false
set_option linter.all false
set_option maxRecDepth 100000
set_option maxHeartbeats 4000000
/-! The law. -/
namespace Y
open PySem L2 Zk Zc
theorem pow30 : powD (.int 10) (.int 30) = some (.int (10 ^ 30)) := by rfl
theorem pow15 : powD (.int 10) (.int 15) = some (.int (10 ^ 15)) := by rfl
theorem ne_rT {xs ys : List (List Int)} : neD (.lst (rowsT xs)) (.lst (rowsT ys)) = some (.bl (!decide (xs = ys))) := encInt.tup.lst.neD (by decide) xs ys
theorem peekS_at {a : DF} {g : Gm} {d : D} (h : a (frzAll g) = some d) (hs : Zg.shD d = true) : Zg.peekS a g = some d := by
  unfold Zg.peekS
  rw [h]
  exact if_pos hs
theorem call4_at {gf : PF} {A : DAF} {g : Gm} {a b c d : D} {w : D} (h : A g = some [a, b, c, d]) (e : gf [a, b, c, d] = some (.v w)) : dCall 4 gf A g = some w := by
  rw [dCall_a, h]
  show (if 4 = 4 then (gf [a, b, c, d]).map Wd.d else none) = _
  rw [if_pos rfl, e]
  rfl
local macro_rules | `(tactic| walk_at "zs") => `(tactic| simp only [beq_self_eq_true, Bool.or_false, Bool.false_or, Bool.true_or, Bool.or_true, Bool.and_false, Bool.false_and, Bool.true_and, Bool.and_true, Zc.isi_ii, Zc.isi_ib, Zc.isi_tt, Zc.isi_ll, Zc.rowsT_len, Zc.rowsL_len, Zc.is_integer_call, Zc.ix_p0, Zc.ix_p1, dgTup2_a, dgTup3_a, Bool.not_true, Bool.not_false, mul_lz, List.flatten_cons, List.flatten_nil, Int.reduceToNat, add_ll, pow10_12, pow10_18, pow10_39, pow10_41, pow10_59, pow10_60, mkLst_some, mkTup_some, List.length_cons, List.length_nil, Nat.zero_le, Nat.reduceAdd, Nat.reduceLeDiff, call1, callO1, call2, callO2, call3, callO3, call4, callO4, call5, callO5, call6, callO6, ap1_some, ap2_some, apN_some, apC_some, d1_a, d2_a, dN_a, aNil_a, aCons_a, dC_a, dVar_z, dVar_s, tDt_a, apAnd_t, apAnd_f, apOr_t, apOr_f, dAndT_a, dOrT_a, apNot_some, dNotT_a, apAndV_t, apAndV_f, dAndV_a, apOrV_t, apOrV_f, dOrV_a, apIf_t, apIf_f, dIf_a, apCh_t, apCh_f, apChain_some, dChain_a, apSeq_nx, apSeq_rt, apSeq_ct, apSeq_bk, sSeq_a, apIfS_t, apIfS_f, sIf_a, sNext_a, sCont_a, sBreak_a, apRet_some, sRet_a, apRetO_some, sRetO_a, sRetN_a, getO_z, getO_s, apRetV_some, sRetV_a, ltB_z, ltB_s, okSlot_s, apAsg_some, sAsg_a, dName_ok, apG_some, dgCons_a, dgNil_a, apAsgO_some, sAsgO_a, sApp_a, sSetI_a, apFor_some, sFor_a, dItems_a, dRng1_a, dRng2_a, apEn_some, apEn_tup, dEnum_a, sFrz_a, frzs_nil, frzs_cons, frzI_o, frzI_v, frzI_n, frzI_s, frz1_s, frzAll_nil, frzAll_o, frzAll_v, frzAll_n, peekT_a, apPk_int, apPk_bl, apPk_str, apPk_non, peekF_a, dCall_a, toO_o, dCallO_a, dMake_a, Wd_v, Wd_o, dSl_a, apSl_some, oNone_a, oSome_a, apO_some, add_ii, sub_ii, lt_ii, le_ii, gt_ii, ge_ii, eq_ii, ne_ii, neg_i, not_b, bl_b, tru_b, tru_i, tru_l, tru_t, tru_n, len_l, len_t, len_scr, abs_i, int_i, list_l, list_t, tuple_l, tuple_t, min_ii, max_ii, rev_l, items_l, items_t, iL_len, run_a, outW_rt, outW_nx, List.map_cons, List.map_nil, List.replicate, List.append_nil, List.cons_append, List.nil_append, List.set_cons_zero, List.set_cons_succ, Option.map_some])
local macro_rules | `(tactic| walk_at "zd") => `(tactic| first | ((with_reducible show okSlot _ _ = true); simp only [okSlot_s, ltB_z, ltB_s]; done) | omega | assumption | decide | (simp only [List.length_map, List.length_append, List.length_cons, List.length_nil, List.length_range, List.length_set, List.length_reverse, iL_len, Zc.rowsT_len, Zc.rowsL_len] at *; omega))
local macro_rules | `(tactic| walk_at "zz") => `(tactic| simp (disch := walk_at "zd") only [dgTup2_a, dgTup3_a, Bool.not_true, Bool.not_false, mul_lz, List.flatten_cons, List.flatten_nil, Int.reduceToNat, add_ll, pow10_12, pow10_18, pow10_39, pow10_41, pow10_59, pow10_60, mkLst_some, mkTup_some, List.length_cons, List.length_nil, Nat.zero_le, Nat.reduceAdd, Nat.reduceLeDiff, call1, callO1, call2, callO2, call3, callO3, call4, callO4, call5, callO5, call6, callO6, ap1_some, ap2_some, apN_some, apC_some, d1_a, d2_a, dN_a, aNil_a, aCons_a, dC_a, dVar_z, dVar_s, tDt_a, apAnd_t, apAnd_f, apOr_t, apOr_f, dAndT_a, dOrT_a, apNot_some, dNotT_a, apAndV_t, apAndV_f, dAndV_a, apOrV_t, apOrV_f, dOrV_a, apIf_t, apIf_f, dIf_a, apCh_t, apCh_f, apChain_some, dChain_a, apSeq_nx, apSeq_rt, apSeq_ct, apSeq_bk, sSeq_a, apIfS_t, apIfS_f, sIf_a, sNext_a, sCont_a, sBreak_a, apRet_some, sRet_a, apRetO_some, sRetO_a, sRetN_a, getO_z, getO_s, apRetV_some, sRetV_a, ltB_z, ltB_s, okSlot_s, apAsg_some, sAsg_a, dName_ok, apG_some, dgCons_a, dgNil_a, apAsgO_some, sAsgO_a, sApp_a, sSetI_a, apFor_some, sFor_a, dItems_a, dRng1_a, dRng2_a, apEn_some, apEn_tup, dEnum_a, sFrz_a, frzs_nil, frzs_cons, frzI_o, frzI_v, frzI_n, frzI_s, frz1_s, frzAll_nil, frzAll_o, frzAll_v, frzAll_n, peekT_a, apPk_int, apPk_bl, apPk_str, apPk_non, peekF_a, dCall_a, toO_o, dCallO_a, dMake_a, Wd_v, Wd_o, dSl_a, apSl_some, oNone_a, oSome_a, apO_some, add_ii, sub_ii, lt_ii, le_ii, gt_ii, ge_ii, eq_ii, ne_ii, neg_i, not_b, bl_b, tru_b, tru_i, tru_l, tru_t, tru_n, len_l, len_t, len_scr, abs_i, int_i, list_l, list_t, tuple_l, tuple_t, min_ii, max_ii, rev_l, items_l, items_t, iL_len, run_a, outW_rt, outW_nx, List.map_cons, List.map_nil, List.replicate, List.append_nil, List.cons_append, List.nil_append, List.set_cons_zero, List.set_cons_succ, Option.map_some, Int.reduceAdd, Int.reduceMul, Int.reduceSub, Int.reduceNeg, beq_self_eq_true, Bool.or_false, Bool.false_or, Bool.true_or, Bool.or_true, Bool.and_false, Bool.false_and, Bool.true_and, Bool.and_true, Zc.isi_ii, Zc.isi_ib, Zc.isi_tt, Zc.isi_ll, Zc.rowsT_len, Zc.rowsL_len, Zc.is_integer_call, Zc.ix_p0, Zc.ix_p1, apR1_any, Int.toNat_natCast, apR2_some, mod_ii, fdiv_ii, mul_small, apApp_some, ix_at, ix_atT, ix_atI, ix_atIT, ix_atR, ix_atRT, List.length_map, List.length_append, List.length_range, List.length_set, Option.map_none, Option.map_map, decide_true, decide_false, peekO_a, apPkO_i, frz_wo, frz_wv, frz_kk, wipeG_nil, wipeG_cons, orB_s, orB_t, orB_f, andB_s, andB_t, andB_f, orV_s, orV_t, orV_f, andV_s, andV_t, andV_f, apOr_b, apAnd_b, apOrV_b, apAndV_b, apCh_b, Zc.cut_from, Zc.cut_to, in_l, in_t, in_pr, eq_op_op, eq_op_pr, eq_pr_op, eq_pr_pr, ne_op_op, ne_op_pr, ne_pr_op, ne_pr_pr, isnt_op, is_op, pr_0, pr_1, st_0, st_1, inP_pr, ninP_pr, nin_l, isi_prt, len_pr, op_some, prD_eq, ix_lit2, ix_lit3, ix_lit4, ix_lit5, ix_lit6, ix_lit7, ix_lit8, ix_lit9, ix_lit10, ix_lit11, ix_lit12, ix_lit13, ix_lit14, ix_lit15, setI_i, setI_p, setI_o, setI_n, snoc_i, snoc_r, snoc_p, snoc_n, snoc_o, snoc_pp, snoc_s, eq_ol, ne_ol, eq_pl, ne_pl, eq_sl, ne_sl, eq_il, ne_il, eq_rl, ne_rl, eq_il1, isi_bb, eq_bb, ne_bb, eq_self, pow30, pow15, ne_rT])
local macro_rules | `(tactic| walk_at "zf") => `(tactic| first | (walk_at "zz"; done) | (walk_at "zz"; rfl) | rfl)
local macro_rules | `(tactic| walk_at "lc") => `(tactic| ((case hf => rfl); (case hi => first | (walk_at "zz"; done) | (walk_at "zz"; rfl) | rfl); (case hl => walk_at "zd"); (case h => (intro a ha; refine ⟨_, dName_ok rfl, ?_, fun hT => ?_⟩ <;> walk_at "zz" <;> rfl))))
local macro_rules | `(tactic| walk_at "lm") => `(tactic| ((case hf => rfl); (case hi => first | (walk_at "zz"; done) | (walk_at "zz"; rfl) | rfl); (case hl => walk_at "zd"); (case h => (intro a ha; refine ⟨_, dName_ok rfl, ?_⟩; walk_at "zz"; rfl))))
theorem take_rT {rs : List (List Int)} {m : Nat} : (rowsT rs).take m = rowsT (rs.take m) := by unfold rowsT; rw [List.map_take]
theorem main (c : Cs) (ns : List Int) (hns : ns.length ≤ 63) : g_law [.scr ns] = some (.v (.bl true)) := by
  unfold g_law t_law
  obtain ⟨c0, hc0⟩ := cell_any ns 0 (by decide) hns
  obtain ⟨c1, hc1⟩ := cell_any ns 1 (by decide) hns
  walk_at "zz"
  rw [hc0]
  walk_at "zz"
  obtain ⟨_, e, ds, rfl, hd⟩ := draws_spec c0 [8, 840, 840, 7, 12, 3] (by decide) (by decide)
  have hdl : ds.length = 6 := hd.1
  rw [e_law_draws, show ([D.int 8, D.int 840, D.int 840, D.int 7, D.int 12, D.int 3] : List D) = iL [8, 840, 840, 7, 12, 3] from rfl, e]
  have b1 := Below.at hd (k := 1) 840 (by decide) rfl
  have b2 := Below.at hd (k := 2) 840 (by decide) rfl
  have b3 := Below.at hd (k := 3) 7 (by decide) rfl
  have b4 := Below.at hd (k := 4) 12 (by decide) rfl
  walk_at "zz"
  refine seq_then (C := fun o => outW o = _) (fun g => ∃ mo : Nat, (mo = 5 ∨ mo = 6) ∧ g = [some (.v (.scr ns)), some (.v (.lst (iL ds))), some (.v (.int (mo : Nat))), none, none, none, none, none, none, none, none, none]) ?_ ?_
  · by_cases z : at_ ds 0 = 0
    · rw [show (at_ ds 0 == 0) = true from by rw [z]; rfl]
      walk_at "zz"
      exact ⟨_, rfl, 6, .inr rfl, rfl⟩
    · rw [show (at_ ds 0 == 0) = false from by rw [beq_eq_false_iff_ne]; exact z]
      walk_at "zz"
      exact ⟨_, rfl, 5, .inl rfl, rfl⟩
  rintro g ⟨mo, hmo, rfl⟩
  have n0 := Int.emod_nonneg (at_ ds 1) (show (mo : Int) ≠ 0 by omega)
  have n1 := Int.emod_lt_of_pos (at_ ds 1) (show 0 < (mo : Int) by omega)
  have m0 := Int.emod_nonneg (at_ ds 2) (show (mo : Int) + 2 ≠ 0 by omega)
  have m1 := Int.emod_lt_of_pos (at_ ds 2) (show 0 < (mo : Int) + 2 by omega)
  walk_at "zz"
  obtain ⟨n, hn⟩ : ∃ n : Nat, 1 + at_ ds 1 % (mo : Int) = (n : Int) := ⟨(1 + at_ ds 1 % (mo : Int)).toNat, by omega⟩
  obtain ⟨m, hm⟩ : ∃ m : Nat, at_ ds 2 % ((mo : Int) + 2) = (m : Int) := ⟨(at_ ds 2 % ((mo : Int) + 2)).toNat, by omega⟩
  have hcap : 0 ≤ at_ [0, 1, 1, 1, 2, 3, 10 ^ 30 + at_ ds 1] (at_ ds 3) ∧ at_ [0, 1, 1, 1, 2, 3, 10 ^ 30 + at_ ds 1] (at_ ds 3) < 10 ^ 31 := by
    have h := at_mem (xs := [0, 1, 1, 1, 2, 3, 10 ^ 30 + at_ ds 1]) (k := at_ ds 3) b3.1 b3.2
    simp only [List.mem_cons, List.not_mem_nil, or_false] at h
    omega
  have hat : 0 ≤ at_ [1, 1, 1, 1, 1, 2, 2, 3, 4, 5, 6, 10 ^ 15 + at_ ds 2] (at_ ds 4) ∧ at_ [1, 1, 1, 1, 1, 2, 2, 3, 4, 5, 6, 10 ^ 15 + at_ ds 2] (at_ ds 4) < 10 ^ 16 := by
    have h := at_mem (xs := [1, 1, 1, 1, 1, 2, 2, 3, 4, 5, 6, 10 ^ 15 + at_ ds 2]) (k := at_ ds 4) b4.1 b4.2
    simp only [List.mem_cons, List.not_mem_nil, or_false] at h
    omega
  generalize at_ [0, 1, 1, 1, 2, 3, 10 ^ 30 + at_ ds 1] (at_ ds 3) = cap at hcap ⊢
  generalize at_ [1, 1, 1, 1, 1, 2, 2, 3, 4, 5, 6, 10 ^ 15 + at_ ds 2] (at_ ds 4) = aa at hat ⊢
  rw [hn, hm, hc1]
  have hn6 : 1 ≤ n ∧ n ≤ 6 := by omega
  have hm7 : m ≤ 7 := by omega
  obtain ⟨rs, er, hrl, hr6⟩ := rows_spec c1 (n := n) (m := m + 1) hn6.1 hn6.2 (by omega)
  rw [show (((m : Nat) : Int) + 1) = ((m + 1 : Nat) : Int) from rfl]
  walk_at "zz"
  rw [er]
  walk_at "zz"
  rw [take_rT]
  have ht : ∀ r ∈ rs.take m, r.length ≤ 1000 := fun r hr => Nat.le_trans (hr6 r (List.mem_of_mem_take hr)) (by decide)
  have htl : (rs.take m).length ≤ 1000 := by rw [List.length_take]; omega
  obtain ⟨d1, f1, s1, i1⟩ := is_fault_spec (rs.take m) n cap aa hn6.2
  have q1 : dCall 4 g_count_fault (aCons (dVar 9) (aCons (dVar 3) (aCons (dVar 5) (aCons (dVar 6) aNil)))) (frzAll [some (.v (.scr ns)), some (.v (.lst (iL ds))), some (.v (.int (mo : Nat))), some (.v (.int (n : Nat))), some (.v (.int (m : Nat))), some (.v (.int cap)), some (.v (.int aa)), some (.v (.lst (rowsT rs))), some (.v (.lst (rowsT (rs.take m)))), some (.o (.lst (rowsT (rs.take m)))), none, none]) = some d1 := call4_at (a := .lst (rowsT (rs.take m))) (b := .int (n : Nat)) (c := .int cap) (d := .int aa) rfl ((fault_spec hn6.2 htl ht hcap hat).trans (congrArg some f1))
  rw [peekS_at q1 s1]
  walk_at "zz"
  rw [law_fault_spec hn6.2 htl ht hcap hat, f1]
  walk_at "zz"
  rw [i1]
  walk_at "zz"
  rw [ix_lT (by omega) (by omega)]
  walk_at "zz"
  refine seq_then (C := fun o => outW o = _) (fun g => ∃ mr : List Int, mr.length ≤ 6 ∧ g = [some (.v (.scr ns)), some (.v (.lst (iL ds))), some (.v (.int (mo : Nat))), some (.v (.int (n : Nat))), some (.v (.int (m : Nat))), some (.v (.int cap)), some (.v (.int aa)), some (.v (.lst (rowsT rs))), some (.v (.lst (rowsT (rs.take m)))), some (.o (.lst (rowsT (rs.take m)))), some (.v d1), some (.v (.tup (iL mr)))]) ?_ ?_
  · by_cases z : at_ ds 5 = 0
    · rw [show (at_ ds 5 == 0) = true from by rw [z]; rfl]
      walk_at "zz"
      rw [ix_lT (by omega) (by omega)]
      walk_at "zz"
      exact ⟨_, rfl, at_ rs 0, hr6 _ (at_mem (by omega) (by omega)), rfl⟩
    · rw [show (at_ ds 5 == 0) = false from by rw [beq_eq_false_iff_ne]; exact z]
      walk_at "zz"
      exact ⟨_, rfl, at_ rs m, hr6 _ (at_mem (by omega) (by omega)), rfl⟩
  rintro g ⟨mr, hmr, rfl⟩
  have ht2 : ∀ r ∈ rs.take m ++ [mr], r.length ≤ 1000 := fun r hr => by
    rcases List.mem_append.mp hr with q | q
    · exact ht r q
    · rw [List.mem_singleton.mp q]; omega
  have htl2 : (rs.take m ++ [mr]).length ≤ 1000 := by rw [List.length_append, List.length_take, List.length_singleton]; omega
  obtain ⟨d2, f2, s2, i2⟩ := is_fault_spec (rs.take m ++ [mr]) n cap aa hn6.2
  have hsn : rowsT (rs.take m) ++ [D.tup (iL mr)] = rowsT (rs.take m ++ [mr]) := (rowsT_app (as := rs.take m) (bs := [mr])).symm
  walk_at "zz"
  rw [hsn]
  have q2 : dCall 4 g_count_fault (aCons (dVar 9) (aCons (dVar 3) (aCons (dVar 5) (aCons (dVar 6) aNil)))) (frzAll [some (.v (.scr ns)), some (.v (.lst (iL ds))), some (.v (.int (mo : Nat))), some (.v (.int (n : Nat))), some (.v (.int (m : Nat))), some (.v (.int cap)), some (.v (.int aa)), some (.v (.lst (rowsT rs))), some (.v (.lst (rowsT (rs.take m)))), some (.o (.lst (rowsT (rs.take m ++ [mr])))), some (.v d1), some (.v (.tup (iL mr)))]) = some d2 := call4_at (a := .lst (rowsT (rs.take m ++ [mr]))) (b := .int (n : Nat)) (c := .int cap) (d := .int aa) rfl ((fault_spec hn6.2 htl2 ht2 hcap hat).trans (congrArg some f2))
  rw [peekS_at q2 s2]
  walk_at "zz"
  rw [hsn]
  walk_at "zz"
  rw [hsn]
  rw [law_fault_spec hn6.2 htl2 ht2 hcap hat, f2]
  walk_at "zz"
  rw [i2]
  walk_at "zz"
end Y
end

section
set_option Elab.async false
set_option linter.all false
set_option maxRecDepth 100000
set_option maxHeartbeats 4000000
namespace Y
open PySem L2 Zk
def spLaw (K : PySem.W.Frag) : Sp := fun vs H Q _ => ∃ (a : Addr) (ns : List Int), vs = [.ref a] ∧ SqL K H a (ns.map V.int) ∧ ns.length ≤ 63 ∧ ∀ H', Q (.bl true) H'
theorem law_sp {P : Program} {w : World} {K : PySem.W.Frag} {mg : Str → Option Value} {base : Heap} (main : ∀ (c : Cs) (ns : List Int), ns.length ≤ 63 → g_law [.scr ns] = some (.v (.bl true))) (T : Txt K mg) : FnOk P w K mg base CX0 3 T.f_law T.fd_law ["_law_script"] (spLaw K) := by
  refine (ok_law (P := P) (w := w) (base := base) T).imp fun vs H Q E h => ?_
  obtain ⟨a, ns, rfl, hS, hl, q⟩ := h
  refine ⟨fun _ => False, [.scr ns], .v (.bl true), rfl, fun _ z => z.elim, .cons ?_ .nil, main T.c ns hl, fun v H' e r => ?_⟩
  · rcases hS with h | h
    · exact .scr (fun z => z) h
    · exact .kscr fun G => .inr h
  · cases r; exact q H'
theorem all_mk {l : PySem.W.OpenLaw} {w : World} {K : PySem.W.Frag} {h : Heap} {mg : Str → Option Value} {fa f_count_fault f_count_within f_law_cell f_law_draws f_law_bits f_law_is_integer f_law_rows f_law_tuples f_law_fault f_law_is_fault f_law : Addr} (main : ∀ (c : Cs) (ns : List Int), ns.length ≤ 63 → g_law [.scr ns] = some (.v (.bl true))) (X : K.In h) (G : h.Ns mainGlobals mg) (hfa : mg "law" = some (.ref fa))
    {oc_count_fault kV_count_fault dc_count_fault pm_count_fault cd_count_fault ct_count_fault : Value} {od_count_fault an_count_fault : Option Addr} {sl_count_fault : Array (Option Value)}
    {oc_count_within kV_count_within dc_count_within pm_count_within cd_count_within ct_count_within : Value} {od_count_within an_count_within : Option Addr} {sl_count_within : Array (Option Value)}
    {oc_law_cell kV_law_cell dc_law_cell pm_law_cell cd_law_cell ct_law_cell : Value} {od_law_cell an_law_cell : Option Addr} {sl_law_cell : Array (Option Value)}
    {oc_law_draws kV_law_draws dc_law_draws pm_law_draws cd_law_draws ct_law_draws : Value} {od_law_draws an_law_draws : Option Addr} {sl_law_draws : Array (Option Value)}
    {oc_law_bits kV_law_bits dc_law_bits pm_law_bits cd_law_bits ct_law_bits : Value} {od_law_bits an_law_bits : Option Addr} {sl_law_bits : Array (Option Value)}
    {oc_law_is_integer kV_law_is_integer dc_law_is_integer pm_law_is_integer cd_law_is_integer ct_law_is_integer : Value} {od_law_is_integer an_law_is_integer : Option Addr} {sl_law_is_integer : Array (Option Value)}
    {oc_law_rows kV_law_rows dc_law_rows pm_law_rows cd_law_rows ct_law_rows : Value} {od_law_rows an_law_rows : Option Addr} {sl_law_rows : Array (Option Value)}
    {oc_law_tuples kV_law_tuples dc_law_tuples pm_law_tuples cd_law_tuples ct_law_tuples : Value} {od_law_tuples an_law_tuples : Option Addr} {sl_law_tuples : Array (Option Value)}
    {oc_law_fault kV_law_fault dc_law_fault pm_law_fault cd_law_fault ct_law_fault : Value} {od_law_fault an_law_fault : Option Addr} {sl_law_fault : Array (Option Value)}
    {oc_law_is_fault kV_law_is_fault dc_law_is_fault pm_law_is_fault cd_law_is_fault ct_law_is_fault : Value} {od_law_is_fault an_law_is_fault : Option Addr} {sl_law_is_fault : Array (Option Value)}
    {oc_law kV_law dc_law pm_law cd_law ct_law : Value} {od_law an_law : Option Addr} {sl_law : Array (Option Value)}
    (z_abs : PySem.W.nsIn K mainGlobals "abs" = some none)
    (z_all : PySem.W.nsIn K mainGlobals "all" = some none)
    (z_bool : PySem.W.nsIn K mainGlobals "bool" = some none)
    (z_int : PySem.W.nsIn K mainGlobals "int" = some none)
    (z_isinstance : PySem.W.nsIn K mainGlobals "isinstance" = some none)
    (z_len : PySem.W.nsIn K mainGlobals "len" = some none)
    (z_list : PySem.W.nsIn K mainGlobals "list" = some none)
    (z_max : PySem.W.nsIn K mainGlobals "max" = some none)
    (z_range : PySem.W.nsIn K mainGlobals "range" = some none)
    (z_tuple : PySem.W.nsIn K mainGlobals "tuple" = some none)
    (i_combinations : PySem.W.nsIn K mainGlobals "combinations" = some (some (.type "itertools.combinations")))
    (a_count_fault : PySem.W.nsIn K mainGlobals "count_fault" = some (some (.ref f_count_fault)))
    (l_count_fault : K.lookup f_count_fault = some ⟨oc_count_fault, od_count_fault, .func (PySem.W.fnOf "count_fault" "count_fault" (defArgs s_count_fault) (defBody s_count_fault) (defScope s_count_fault) .none kV_count_fault dc_count_fault pm_count_fault an_count_fault cd_count_fault ct_count_fault), sl_count_fault⟩)
    (c_count_fault : PySem.W.codeIn K cd_count_fault "count_fault" = true)
    (k_count_fault : PySem.W.keepIn K (.ref f_count_fault) = true)
    (a_count_within : PySem.W.nsIn K mainGlobals "_count_within" = some (some (.ref f_count_within)))
    (l_count_within : K.lookup f_count_within = some ⟨oc_count_within, od_count_within, .func (PySem.W.fnOf "_count_within" "_count_within" (defArgs s_count_within) (defBody s_count_within) (defScope s_count_within) .none kV_count_within dc_count_within pm_count_within an_count_within cd_count_within ct_count_within), sl_count_within⟩)
    (c_count_within : PySem.W.codeIn K cd_count_within "_count_within" = true)
    (k_count_within : PySem.W.keepIn K (.ref f_count_within) = true)
    (a_law_cell : PySem.W.nsIn K mainGlobals "_law_cell" = some (some (.ref f_law_cell)))
    (l_law_cell : K.lookup f_law_cell = some ⟨oc_law_cell, od_law_cell, .func (PySem.W.fnOf "_law_cell" "_law_cell" (defArgs s_law_cell) (defBody s_law_cell) (defScope s_law_cell) .none kV_law_cell dc_law_cell pm_law_cell an_law_cell cd_law_cell ct_law_cell), sl_law_cell⟩)
    (c_law_cell : PySem.W.codeIn K cd_law_cell "_law_cell" = true)
    (k_law_cell : PySem.W.keepIn K (.ref f_law_cell) = true)
    (a_law_draws : PySem.W.nsIn K mainGlobals "_law_draws" = some (some (.ref f_law_draws)))
    (l_law_draws : K.lookup f_law_draws = some ⟨oc_law_draws, od_law_draws, .func (PySem.W.fnOf "_law_draws" "_law_draws" (defArgs s_law_draws) (defBody s_law_draws) (defScope s_law_draws) .none kV_law_draws dc_law_draws pm_law_draws an_law_draws cd_law_draws ct_law_draws), sl_law_draws⟩)
    (c_law_draws : PySem.W.codeIn K cd_law_draws "_law_draws" = true)
    (k_law_draws : PySem.W.keepIn K (.ref f_law_draws) = true)
    (a_law_bits : PySem.W.nsIn K mainGlobals "_law_bits" = some (some (.ref f_law_bits)))
    (l_law_bits : K.lookup f_law_bits = some ⟨oc_law_bits, od_law_bits, .func (PySem.W.fnOf "_law_bits" "_law_bits" (defArgs s_law_bits) (defBody s_law_bits) (defScope s_law_bits) .none kV_law_bits dc_law_bits pm_law_bits an_law_bits cd_law_bits ct_law_bits), sl_law_bits⟩)
    (c_law_bits : PySem.W.codeIn K cd_law_bits "_law_bits" = true)
    (k_law_bits : PySem.W.keepIn K (.ref f_law_bits) = true)
    (a_law_is_integer : PySem.W.nsIn K mainGlobals "_law_is_integer" = some (some (.ref f_law_is_integer)))
    (l_law_is_integer : K.lookup f_law_is_integer = some ⟨oc_law_is_integer, od_law_is_integer, .func (PySem.W.fnOf "_law_is_integer" "_law_is_integer" (defArgs s_law_is_integer) (defBody s_law_is_integer) (defScope s_law_is_integer) .none kV_law_is_integer dc_law_is_integer pm_law_is_integer an_law_is_integer cd_law_is_integer ct_law_is_integer), sl_law_is_integer⟩)
    (c_law_is_integer : PySem.W.codeIn K cd_law_is_integer "_law_is_integer" = true)
    (k_law_is_integer : PySem.W.keepIn K (.ref f_law_is_integer) = true)
    (a_law_rows : PySem.W.nsIn K mainGlobals "_law_rows" = some (some (.ref f_law_rows)))
    (l_law_rows : K.lookup f_law_rows = some ⟨oc_law_rows, od_law_rows, .func (PySem.W.fnOf "_law_rows" "_law_rows" (defArgs s_law_rows) (defBody s_law_rows) (defScope s_law_rows) .none kV_law_rows dc_law_rows pm_law_rows an_law_rows cd_law_rows ct_law_rows), sl_law_rows⟩)
    (c_law_rows : PySem.W.codeIn K cd_law_rows "_law_rows" = true)
    (k_law_rows : PySem.W.keepIn K (.ref f_law_rows) = true)
    (a_law_tuples : PySem.W.nsIn K mainGlobals "_law_tuples" = some (some (.ref f_law_tuples)))
    (l_law_tuples : K.lookup f_law_tuples = some ⟨oc_law_tuples, od_law_tuples, .func (PySem.W.fnOf "_law_tuples" "_law_tuples" (defArgs s_law_tuples) (defBody s_law_tuples) (defScope s_law_tuples) .none kV_law_tuples dc_law_tuples pm_law_tuples an_law_tuples cd_law_tuples ct_law_tuples), sl_law_tuples⟩)
    (c_law_tuples : PySem.W.codeIn K cd_law_tuples "_law_tuples" = true)
    (k_law_tuples : PySem.W.keepIn K (.ref f_law_tuples) = true)
    (a_law_fault : PySem.W.nsIn K mainGlobals "_law_fault" = some (some (.ref f_law_fault)))
    (l_law_fault : K.lookup f_law_fault = some ⟨oc_law_fault, od_law_fault, .func (PySem.W.fnOf "_law_fault" "_law_fault" (defArgs s_law_fault) (defBody s_law_fault) (defScope s_law_fault) .none kV_law_fault dc_law_fault pm_law_fault an_law_fault cd_law_fault ct_law_fault), sl_law_fault⟩)
    (c_law_fault : PySem.W.codeIn K cd_law_fault "_law_fault" = true)
    (k_law_fault : PySem.W.keepIn K (.ref f_law_fault) = true)
    (a_law_is_fault : PySem.W.nsIn K mainGlobals "_law_is_fault" = some (some (.ref f_law_is_fault)))
    (l_law_is_fault : K.lookup f_law_is_fault = some ⟨oc_law_is_fault, od_law_is_fault, .func (PySem.W.fnOf "_law_is_fault" "_law_is_fault" (defArgs s_law_is_fault) (defBody s_law_is_fault) (defScope s_law_is_fault) .none kV_law_is_fault dc_law_is_fault pm_law_is_fault an_law_is_fault cd_law_is_fault ct_law_is_fault), sl_law_is_fault⟩)
    (c_law_is_fault : PySem.W.codeIn K cd_law_is_fault "_law_is_fault" = true)
    (k_law_is_fault : PySem.W.keepIn K (.ref f_law_is_fault) = true)
    (a_law : PySem.W.nsIn K mainGlobals "law" = some (some (.ref f_law)))
    (l_law : K.lookup f_law = some ⟨oc_law, od_law, .func (PySem.W.fnOf "law" "law" (defArgs s_law) (defBody s_law) (defScope s_law) .none kV_law dc_law pm_law an_law cd_law ct_law), sl_law⟩)
    (c_law : PySem.W.codeIn K cd_law "law" = true)
    (k_law : PySem.W.keepIn K (.ref f_law) = true)
    : ∃ fd : FuncData, (∀ (s : Shared) (v : Value), BindsTo s fd ⟨[v], []⟩ [("_law_script", v)]) ∧ ∀ base : Heap, K.In base → base.Ns mainGlobals mg → FnOk l.prog w K mg base CX0 3 fa fd ["_law_script"] (spLaw K) := by
  have e := hfa.symm.trans (PySem.W.mg_of X G a_law)
  cases e
  let T : Txt K mg := { c := ⟨()⟩, m_abs := PySem.W.mg_none_of X G z_abs, m_all := PySem.W.mg_none_of X G z_all, m_bool := PySem.W.mg_none_of X G z_bool, m_int := PySem.W.mg_none_of X G z_int, m_isinstance := PySem.W.mg_none_of X G z_isinstance, m_len := PySem.W.mg_none_of X G z_len, m_list := PySem.W.mg_none_of X G z_list, m_max := PySem.W.mg_none_of X G z_max, m_range := PySem.W.mg_none_of X G z_range, m_tuple := PySem.W.mg_none_of X G z_tuple, i_combinations := PySem.W.mg_of X G i_combinations, f_count_fault := f_count_fault, fd_count_fault := _, F_count_fault := fun_mk (st := s_count_fault) l_count_fault c_count_fault k_count_fault, b_count_fault := (fun_mk (st := s_count_fault) l_count_fault c_count_fault k_count_fault).binds (ps := ["choice", "seats", "cap", "at_once"]) fun _ _ _ _ _ _ us hl => match us, hl with | [_, _, _, _], _ => rfl, g_count_fault := PySem.W.mg_of X G a_count_fault, f_count_within := f_count_within, fd_count_within := _, F_count_within := fun_mk (st := s_count_within) l_count_within c_count_within k_count_within, b_count_within := (fun_mk (st := s_count_within) l_count_within c_count_within k_count_within).binds (ps := ["choice", "seat", "others"]) fun _ _ _ _ _ _ us hl => match us, hl with | [_, _, _], _ => rfl, g_count_within := PySem.W.mg_of X G a_count_within, f_law_cell := f_law_cell, fd_law_cell := _, F_law_cell := fun_mk (st := s_law_cell) l_law_cell c_law_cell k_law_cell, b_law_cell := (fun_mk (st := s_law_cell) l_law_cell c_law_cell k_law_cell).binds (ps := ["_law_script", "_law_k"]) fun _ _ _ _ _ _ us hl => match us, hl with | [_, _], _ => rfl, g_law_cell := PySem.W.mg_of X G a_law_cell, f_law_draws := f_law_draws, fd_law_draws := _, F_law_draws := fun_mk (st := s_law_draws) l_law_draws c_law_draws k_law_draws, b_law_draws := (fun_mk (st := s_law_draws) l_law_draws c_law_draws k_law_draws).binds (ps := ["_law_cell_here", "_law_sizes"]) fun _ _ _ _ _ _ us hl => match us, hl with | [_, _], _ => rfl, g_law_draws := PySem.W.mg_of X G a_law_draws, f_law_bits := f_law_bits, fd_law_bits := _, F_law_bits := fun_mk (st := s_law_bits) l_law_bits c_law_bits k_law_bits, b_law_bits := (fun_mk (st := s_law_bits) l_law_bits c_law_bits k_law_bits).binds (ps := ["_law_mask", "_law_count"]) fun _ _ _ _ _ _ us hl => match us, hl with | [_, _], _ => rfl, g_law_bits := PySem.W.mg_of X G a_law_bits, f_law_is_integer := f_law_is_integer, fd_law_is_integer := _, F_law_is_integer := fun_mk (st := s_law_is_integer) l_law_is_integer c_law_is_integer k_law_is_integer, b_law_is_integer := (fun_mk (st := s_law_is_integer) l_law_is_integer c_law_is_integer k_law_is_integer).binds (ps := ["_law_actual"]) fun _ _ _ _ _ _ us hl => match us, hl with | [_], _ => rfl, g_law_is_integer := PySem.W.mg_of X G a_law_is_integer, f_law_rows := f_law_rows, fd_law_rows := _, F_law_rows := fun_mk (st := s_law_rows) l_law_rows c_law_rows k_law_rows, b_law_rows := (fun_mk (st := s_law_rows) l_law_rows c_law_rows k_law_rows).binds (ps := ["_law_seats", "_law_count", "_law_cell_here"]) fun _ _ _ _ _ _ us hl => match us, hl with | [_, _, _], _ => rfl, g_law_rows := PySem.W.mg_of X G a_law_rows, f_law_tuples := f_law_tuples, fd_law_tuples := _, F_law_tuples := fun_mk (st := s_law_tuples) l_law_tuples c_law_tuples k_law_tuples, b_law_tuples := (fun_mk (st := s_law_tuples) l_law_tuples c_law_tuples k_law_tuples).binds (ps := ["_law_items"]) fun _ _ _ _ _ _ us hl => match us, hl with | [_], _ => rfl, g_law_tuples := PySem.W.mg_of X G a_law_tuples, f_law_fault := f_law_fault, fd_law_fault := _, F_law_fault := fun_mk (st := s_law_fault) l_law_fault c_law_fault k_law_fault, b_law_fault := (fun_mk (st := s_law_fault) l_law_fault c_law_fault k_law_fault).binds (ps := ["_law_choice", "_law_seats", "_law_cap", "_law_at_once"]) fun _ _ _ _ _ _ us hl => match us, hl with | [_, _, _, _], _ => rfl, g_law_fault := PySem.W.mg_of X G a_law_fault, f_law_is_fault := f_law_is_fault, fd_law_is_fault := _, F_law_is_fault := fun_mk (st := s_law_is_fault) l_law_is_fault c_law_is_fault k_law_is_fault, b_law_is_fault := (fun_mk (st := s_law_is_fault) l_law_is_fault c_law_is_fault k_law_is_fault).binds (ps := ["_law_actual", "_law_due"]) fun _ _ _ _ _ _ us hl => match us, hl with | [_, _], _ => rfl, g_law_is_fault := PySem.W.mg_of X G a_law_is_fault, f_law := fa, fd_law := _, F_law := fun_mk (st := s_law) l_law c_law k_law, b_law := (fun_mk (st := s_law) l_law c_law k_law).binds (ps := ["_law_script"]) fun _ _ _ _ _ _ us hl => match us, hl with | [_], _ => rfl, g_law := PySem.W.mg_of X G a_law }
  exact ⟨T.fd_law, fun s v => .of_eq rfl, fun base _ _ => law_sp main T⟩
theorem walk {l : PySem.W.OpenLaw} {q : Program} {loose : List Str} {XP : (Str → Option Value) → Heap → Prop} {YP : World → Heap → Prop} {d : DefRec} {K : Params → PySem.W.Frag} (hn : l.most = some 63) (hdf : d.params.defaults = [])
    (hY : ∀ (w : World) (h : Heap), YP w h → (K w.params).In h)
    (F : ∀ (w : World) (mg : Str → Option Value) (fa : Addr) (h : Heap), (K w.params).In h → h.Ns mainGlobals mg → mg d.name = some (.ref fa) →
      ∃ fd : FuncData, (∀ (s : Shared) (u : Value), BindsTo s fd ⟨[u], []⟩ [("_law_script", u)]) ∧ ∀ base : Heap, (K w.params).In base → base.Ns mainGlobals mg → FnOk l.prog w (K w.params) mg base CX0 3 fa fd ["_law_script"] (spLaw (K w.params))) :
    PySem.W.WalkO q loose XP YP l.row.toRowW d [] (fun f vs => PySem.call f vs) :=
  L2.walk_of (n := 63) (k := 3) (x := "_law_script") (CX := fun _ => CX0) (sp := fun w => spLaw (K w.params)) hn (by decide) hdf ⟨rfl, by decide, by decide⟩ hY F (fun _ _ a ns hl _ hS => ⟨a, ns, rfl, hS, hl, fun _ => rfl⟩) fun _ _ _ _ _ z => z
end Y
open PySem PySem.W PyProof.Rows in
set_option maxRecDepth 100000 in
set_option maxHeartbeats 0 in
theorem PySem.Challenge.cw_pairwarden_k23_count_faults_holds : PySem.Challenge.rw_pairwarden_k23_count_faults.Holds := by
  w_on; o_law; k_head; (case hw => w_witness2)
  k_fill
  refine Y.walk (l := PySem.Challenge.rw_pairwarden_k23_count_faults) rfl rfl (fun w h Y => PySem.W.kIn_of Y) ?F
  case F =>
    intro w mg fa h KX G hmg
    refine' Y.all_mk Y.main KX G hmg ?z_abs ?z_all ?z_bool ?z_int ?z_isinstance ?z_len ?z_list ?z_max ?z_range ?z_tuple ?i_combinations ?a_count_fault ?l_count_fault ?c_count_fault ?k_count_fault ?a_count_within ?l_count_within ?c_count_within ?k_count_within ?a_law_cell ?l_law_cell ?c_law_cell ?k_law_cell ?a_law_draws ?l_law_draws ?c_law_draws ?k_law_draws ?a_law_bits ?l_law_bits ?c_law_bits ?k_law_bits ?a_law_is_integer ?l_law_is_integer ?c_law_is_integer ?k_law_is_integer ?a_law_rows ?l_law_rows ?c_law_rows ?k_law_rows ?a_law_tuples ?l_law_tuples ?c_law_tuples ?k_law_tuples ?a_law_fault ?l_law_fault ?c_law_fault ?k_law_fault ?a_law_is_fault ?l_law_is_fault ?c_law_is_fault ?k_law_is_fault ?a_law ?l_law ?c_law ?k_law
    (case z_abs => k_is)
    (case z_all => k_is)
    (case z_bool => k_is)
    (case z_int => k_is)
    (case z_isinstance => k_is)
    (case z_len => k_is)
    (case z_list => k_is)
    (case z_max => k_is)
    (case z_range => k_is)
    (case z_tuple => k_is)
    (case i_combinations => k_is)
    (case a_count_fault => k_is)
    (case l_count_fault => k_is)
    (case c_count_fault => k_is)
    (case k_count_fault => k_is)
    (case a_count_within => k_is)
    (case l_count_within => k_is)
    (case c_count_within => k_is)
    (case k_count_within => k_is)
    (case a_law_cell => k_is)
    (case l_law_cell => k_is)
    (case c_law_cell => k_is)
    (case k_law_cell => k_is)
    (case a_law_draws => k_is)
    (case l_law_draws => k_is)
    (case c_law_draws => k_is)
    (case k_law_draws => k_is)
    (case a_law_bits => k_is)
    (case l_law_bits => k_is)
    (case c_law_bits => k_is)
    (case k_law_bits => k_is)
    (case a_law_is_integer => k_is)
    (case l_law_is_integer => k_is)
    (case c_law_is_integer => k_is)
    (case k_law_is_integer => k_is)
    (case a_law_rows => k_is)
    (case l_law_rows => k_is)
    (case c_law_rows => k_is)
    (case k_law_rows => k_is)
    (case a_law_tuples => k_is)
    (case l_law_tuples => k_is)
    (case c_law_tuples => k_is)
    (case k_law_tuples => k_is)
    (case a_law_fault => k_is)
    (case l_law_fault => k_is)
    (case c_law_fault => k_is)
    (case k_law_fault => k_is)
    (case a_law_is_fault => k_is)
    (case l_law_is_fault => k_is)
    (case c_law_is_fault => k_is)
    (case k_law_is_fault => k_is)
    (case a_law => k_is)
    (case l_law => k_is)
    (case c_law => k_is)
    (case k_law => k_is)
end
